import Derived.Test.YtcdjepkhdjpjcaaGreatDoorY20
set_option maxHeartbeats 20000000
set_option maxRecDepth 100000
namespace Go.Proofs.YtcdjepkhdjpjcaaGreatDoor.E
open Go.Proofs.Tryz
open Go.RowKit
section
variable {w w':World} {G:Nat→Prop} {R:Nat} {vW vI:Value} {a:Ad} {ws is:List Who}
theorem renter_no (h:RL w G R vW vI a ws is)(hW:a.W=[]):Calls prog 67 #[qp R] w fun e w'=>e=.returned (.tuple #[.int .u64 0,nils,.int .i64 110])∧w'=w:=by
 obtain ⟨_,p,c,rfl⟩:=h.nohead hW
 have c6:w.cell? ⟨R,6,none⟩=some (.slice p 0 c):=h.c 6
 clear h
 go_enter func67,ntmps67
 go_wp2
 go_ret3
 exact⟨rfl,rfl⟩
theorem renter_room (h:RL w G R vW vI a ws is)(ok:a.Ok)(hN:a.next≤1000){x:Int × List Int}{r:List (Int × List Int)}(hW:a.W=x :: r)(hf:a.fits=false):Calls prog 67 #[qp R] w fun e w'=>e=.returned (.tuple #[.int .u64 0,nils,.int .i64 120])∧∃m,w'=w.drewN m:=by
 obtain ⟨y,ys,g,c,-,ev,-,-,-,-,-,-,-,-,-⟩:=h.head hW
 have c6:w.cell? ⟨R,6,none⟩=some vW:=h.c 6
 rw[ev] at c6
 have hpos:((ws.length:Int) == 0)=false:=by have:=h.wlen;rw[hW] at this;rw[beq_eq_false_iff_ne];simp at this;omega
 have HF:=rfits_at h ok hN
 rw[hf] at HF
 have HF':Hid (Calls prog 127 #[qp R] w fun e w'=>e=.returned (.bool false)∧∃m,w'=w.drewN m):=HF
 clear h HF
 generalize ws.length=wn at *
 go_enter func67,ntmps67
 go_wp2_with (go_at_call 127;refine HF'.out.mono ?_;rintro e w2 ⟨rfl,hm⟩;have HM:Hid (∃m,w2=w.drewN m):=hm;clear hm)
 go_ret3
 exact⟨rfl,HM.out⟩
def Bw (we w:World):Prop:=Below we.heap.size we w
theorem renter_end {x:Int × List Int}{r:List (Int × List Int)}{ys:List Who}{yp:Option Addr}{yc s2:Nat}{w8:World}{vW2 v2:Value}(hmi:Mi w G (x.1,x.2,0) ⟨x.1,yp,x.2.length,yc,0,false⟩)(hms:Mis w G (wl r) ys)(h:RL w G R vW vI a ws is)(hR:¬G R)(k8:Kept (·=R) w w8)
  (hst:w8.heap[R]?=some (.cells (rcells { a with W:=r,I:=a.I++[(x.1,x.2,(x.2.length:Int)+1)],got:=x.1 } vW2 v2) 217 (0,0))) (hw:w8.ownsRow 0 224 4 vW2 ys.length (hcells ys)) (hwn:∀g,vW2.ownBlock=some g→s2≤g) (hs2:w.heap.size≤s2) (hi:w8.ownsRow 0 224 4 v2 (is.length+1) (hcells is++[.int .u64 x.1,.slice yp x.2.length yc,.int .i64 ((x.2.length:Int)+1),.bool false])) (hin:∀g,v2.ownBlock=some g→w.heap.size≤g) (nq:Nat) :
  ∃yp' yc',(Value.tuple #[.int .u64 x.1,.slice yp x.2.length yc,.int .i64 0]=.tuple #[.int .u64 x.1,.slice yp' x.2.length yc',.int .i64 0])∧Frm (w8.drewN nq) (.slice yp' x.2.length yc') x.2∧(∀g,blk (.slice yp' x.2.length yc')=some g→G g)∧RAf w (w8.drewN nq) G R { a with W:=r,I:=a.I++[(x.1,x.2,(x.2.length:Int)+1)],got:=x.1 }:=by
 have k9:Kept (·=R) w (w8.drewN nq):=k8.trans (Kept.of_below (fun _=>False) (below_drawn nq)) (fun _ _ e=>e.elim)
 have hf9:Frm (w8.drewN nq) (.slice yp x.2.length yc) x.2:=hmi.f.keeps fun g hg=>k9.block g (hmi.f.lt hg) (fun e=>hR (e ▸ hmi.g g hg))
 refine⟨yp,yc,rfl,hf9,hmi.g,⟨vW2,v2,ys,is++[⟨x.1,yp,x.2.length,yc,(x.2.length:Int)+1,false⟩],hst,RR.fresh hw (hms.turn hR k9) (fun g hg=>Nat.le_trans hs2 (hwn g hg)),RR.fresh ?_ ((h.I.mi.turn hR k9).app ⟨rfl,hf9,fun g hg=>.inl (hmi.g g hg),rfl,?_⟩) hin⟩,k9⟩
 ·rw[hcells_app,hcells_one,List.length_append]
  exact hi
 ·simp
theorem renter_ok (h:RL w G R vW vI a ws is)(hR:¬G R)(ok:a.Ok)(hN:a.next≤1000){x:Int × List Int}{r:List (Int × List Int)}(hW:a.W=x :: r)(hf:a.fits=true):Calls prog 67 #[qp R] w fun e w'=>∃yp yc,e=.returned (.tuple #[.int .u64 x.1,.slice yp x.2.length yc,.int .i64 0])∧Frm w' (.slice yp x.2.length yc) x.2∧(∀g,blk (.slice yp x.2.length yc)=some g→G g)∧RAf w w' G R { a with W:=r,I:=a.I++[(x.1,x.2,(x.2.length:Int)+1)],got:=x.1 }:=by
 obtain ⟨y,ys,g,c,ews,ev,hcap,x0,x1,x2,x3,em,hmi,hms,ey⟩:=h.head hW
 have y1:w.cell? ⟨g,1,none⟩=some (.slice y.p x.2.length y.c):=by rw[← em];exact x1
 have HMI:Hid (Mi w G (x.1,x.2,0) ⟨x.1,y.p,x.2.length,y.c,0,false⟩):=by rw[← ey];exact hmi
 have HMS:Hid (Mis w G (wl r) ys):=hms
 have H:Hid (RL w G R vW vI a ws is):=h
 have HR:Hid (¬G R):=hR
 have HWS:Hid (ws=y :: ys):=ews
 have c6:w.cell? ⟨R,6,none⟩=some vW:=h.c 6
 have hwl:ws.length≤1000:=by have:=h.wlen;have:=ok.wlen;omega
 have hil:is.length≤1000:=by have:=h.ilen;have:=ok.ilen;omega
 have hpos:0<ws.length:=by rw[ews];simp
 have hne:((ws.length:Int) == 0)=false:=by rw[beq_eq_false_iff_ne];omega
 have hfl:x.2.length≤16:=by have:=ok.wform x (by rw[hW];exact List.mem_cons_self ..);have:=ok.may.2.2.2.2.2.1;omega
 have HF:=rfits_at h ok hN
 rw[hf] at HF
 have HF':Hid (Calls prog 127 #[qp R] w fun e w'=>e=.returned (.bool true)∧∃m,w'=w.drewN m):=HF
 have HYL:Hid (ys.length=ws.length-1):=by show _=_;rw[ews];simp
 have HRW:Hid (w.ownsRow 0 224 4 (.slice (some ⟨g,0,none⟩) ws.length c) ws.length (hcells ws)):=by rw[← ev];exact h.wr
 rw[ev] at c6
 clear h HF x1 hmi hms ey em hW hf ok ev hR ews
 generalize y.p=yp at *
 generalize y.c=yc at *
 go_enter func67,ntmps67
 go_wp2_with fail
 refine HF'.out.mono ?_
 rintro e w1 ⟨rfl,hm⟩
 have H1:Hid (RL w1 G R vW vI a ws is∧Below w.heap.size w w1):=by obtain ⟨m,rfl⟩:=hm;exact⟨H.out.drawn m,below_drawn m⟩
 have R1:Hid (w1.ownsRow 0 224 4 (.slice (some ⟨g,0,none⟩) ws.length c) ws.length (hcells ws)):=own_later HRW.out H1.out.2
 have d6:w1.cell? ⟨R,6,none⟩=some (.slice (some ⟨g,0,none⟩) ws.length c):=by obtain ⟨m,rfl⟩:=hm;exact c6
 have z0:w1.cell? ⟨g,0,none⟩=some (.int .u64 x.1):=by obtain ⟨m,rfl⟩:=hm;exact x0
 have z1:w1.cell? ⟨g,1,none⟩=some (.slice yp x.2.length yc):=by obtain ⟨m,rfl⟩:=hm;exact y1
 have z2:w1.cell? ⟨g,2,none⟩=some (.int .i64 0):=by obtain ⟨m,rfl⟩:=hm;exact x2
 have z3:w1.cell? ⟨g,3,none⟩=some (.bool false):=by obtain ⟨m,rfl⟩:=hm;exact x3
 clear hm HF' c6 x0 y1 x2 x3 HRW
 go_upto_region 8 with fail
 have HW2:Hid (Below w.heap.size w (w1.alloc (.cells #[.int .u64 x.1,.slice yp x.2.length yc,.int .i64 ((x.2.length:Int)+1),.bool false] 224))∧(w1.alloc (.cells #[.int .u64 x.1,.slice yp x.2.length yc,.int .i64 ((x.2.length:Int)+1),.bool false] 224)).heap[w1.heap.size]?=some (.cells #[.int .u64 x.1,.slice yp x.2.length yc,.int .i64 ((x.2.length:Int)+1),.bool false] 224 (0,0))∧(w1.alloc (.cells #[.int .u64 x.1,.slice yp x.2.length yc,.int .i64 ((x.2.length:Int)+1),.bool false] 224)).heap.size=w1.heap.size+1):=⟨below_then H1.out.2 (below_alloc w1 _),heap_alloc_new w1 _,by simp⟩
 have d6':(w1.alloc (.cells #[.int .u64 x.1,.slice yp x.2.length yc,.int .i64 ((x.2.length:Int)+1),.bool false] 224)).cell? ⟨R,6,none⟩=some (.slice (some ⟨g,0,none⟩) ws.length c):=((below_alloc w1 _).cell (p:=⟨R,6,none⟩) H1.out.1.lt).trans d6
 have R2:Hid ((w1.alloc (.cells #[.int .u64 x.1,.slice yp x.2.length yc,.int .i64 ((x.2.length:Int)+1),.bool false] 224)).ownsRow 0 224 4 (.slice (some ⟨g,0,none⟩) ws.length c) ws.length (hcells ws)):=own_later R1.out (below_alloc w1 _)
 have H2:Hid (RL (w1.alloc (.cells #[.int .u64 x.1,.slice yp x.2.length yc,.int .i64 ((x.2.length:Int)+1),.bool false] 224)) G R vW vI a ws is):=H1.out.1.later (below_alloc w1 _)
 have HBW:Hid (w.heap.size≤w1.heap.size∧R<w1.heap.size):=⟨H1.out.2.size,H1.out.1.lt⟩
 clear z0 z1 z2 z3 d6 R1 H1
 generalize w1.alloc (.cells #[.int .u64 x.1,.slice yp x.2.length yc,.int .i64 ((x.2.length:Int)+1),.bool false] 224)=w2 at *
 generalize w1.heap.size=B at *
 obtain ⟨ga,ega,hga⟩:∃ga,(if c=1 then some (⟨g,0,none⟩:Addr) else some ⟨g,4,none⟩)=some ga∧(ga=⟨g,4,none⟩∨(ws.length-1)*4=0):=by
  by_cases hc1:c=1
  ·exact⟨_,if_pos hc1,.inr (by omega)⟩
  ·exact⟨_,if_neg hc1,.inl rfl⟩
 have HPC:Hid (∀w',Below w2.heap.size w2 w'→∀j u,(hcells ys)[j]?=some u→w'.cell? (ga.add j)=some u):=fun w' hb j u hu=>by
  refine own_piece2 (own_later R2.out hb) rfl hga j u ?_
  have e:hcells ws=y.cs++hcells ys:=by rw[HWS.out];rfl
  rw[e,List.drop_left' (by rfl),List.take_of_length_le (by rw[hcells_len,HYL.out];exact Nat.le_refl _)]
  exact hu
 have HLY:Hid ((hcells ys).length=(ws.length-1)*4):=by show _=_;rw[hcells_len,HYL.out]
 have hR2:Hid (R<w2.heap.size):=H2.out.lt
 have F0:Hid (FR w2 (w2.alloc (.cells #[] 224)) 0 224 4 (.slice (some ⟨w2.heap.size,0,none⟩) 0 0) 0 []):=FR.empty 224 4 (Below.refl _ _) (Nat.zero_le _)
 have e6:(w2.alloc (.cells #[] 224)).cell? ⟨R,6,none⟩=some (.slice (some ⟨g,0,none⟩) ws.length c):=((below_alloc w2 _).cell (p:=⟨R,6,none⟩) hR2.out).trans d6'
 have i1:(1:Int)≤(ws.length:Int):=by omega
 have i2:(1:Int)≤(c:Int):=by omega
 clear hga
 go_upto_region 9 with (at_builtin;refine wpList_own rfl (.tmp 29) (.tmp 34) elW rfl rfl F0.out.own ga (ws.length-1) (c-1) (hcells ys) rfl HLY.out (HPC.out _ F0.out.below) (ones_h ys) (by omega) (Nat.zero_le _) ?_;intro vW2 w4 ho hk hv;have F1:Hid (FR w2 w4 0 224 4 vW2 (ws.length-1) (hcells ys)):=(by have h:=F0.out.app ho hk hv;rw[Nat.zero_add,List.nil_append] at h;exact h);clear ho hk hv;obtain ⟨pa,ca,rfl⟩:=own_shape F1.out.own;have HS4:Hid (w4.heap[R]?=some (.cells (rcells a vW vI) 217 (0,0))):=(F1.out.below.block R hR2.out).trans H2.out.st;have g6:w4.cell? ⟨R,6,none⟩=some vW:=cell_of_row _ R 6 _ 217 (0,0) HS4.out;have f6:w4.frozen? ⟨R,6,none⟩=false:=(by simp[World.frozen?,HS4.out]))
 obtain ⟨vW2,hvW2⟩:∃v,v=Value.slice pa (ws.length-1) ca:=⟨_,rfl⟩
 rw[← hvW2] at F1 ⊢
 have hst5:Hid ((w4.setCell ⟨R,6,none⟩ vW2).heap[R]?=some (.cells (rcells a vW2 vI) 217 (0,0))):=by show _=_;rw[L.st_set 6 _ HS4.out];rfl
 have k5':Hid (Kept (·=R) w (w4.setCell ⟨R,6,none⟩ vW2)):=((Kept.of_below (·=R) HW2.out.1).trans (Kept.of_below (fun _=>False) F1.out.below) (fun _ _ e=>e.elim)).trans (Kept.setCell R 6 _) (fun _ _ e=>e)
 have rw5':Hid ((w4.setCell ⟨R,6,none⟩ vW2).ownsRow 0 224 4 vW2 ys.length (hcells ys)∧∀g,vW2.ownBlock=some g→w2.heap.size≤g):=⟨own_far (by rw[HYL.out];exact F1.out.own) (Kept.setCell R 6 _) (fun g hg e=>by have:=F1.out.new g hg;have:=hR2.out;omega),F1.out.new⟩
 have bx5':Hid ((w4.setCell ⟨R,6,none⟩ vW2).heap[B]?=some (.cells #[.int .u64 x.1,.slice yp x.2.length yc,.int .i64 ((x.2.length:Int)+1),.bool false] 224 (0,0))):=((Kept.setCell (w:=w4) R 6 _).block B (by have:=F1.out.below.size;have:=HW2.out.2.2;omega) (by have:=HBW.out.2;omega)).trans ((F1.out.below.block B (by have:=HW2.out.2.2;omega)).trans HW2.out.2.1)
 have s5:Hid (w2.heap.size≤(w4.setCell ⟨R,6,none⟩ vW2).heap.size∧w2.heap.size=B+1):=⟨by have:=F1.out.below.size;simp;omega,HW2.out.2.2⟩
 clear d6' e6 ega g6 f6 HPC HLY F0 F1 HS4 hvW2 H2 R2 i1 i2 hne
 generalize w4.setCell ⟨R,6,none⟩ vW2=w5 at *
 have hrI':Hid (w5.ownsRow 0 224 4 vI is.length (hcells is)):=(H.out.I.turn HR.out k5'.out).row
 refine wp_region_noPanic ?_
 refine wp_region_last 12 (Bw w5.drew) (by kernel_rfl) ?_
 have k5:Hid (Kept (·=R) w w5.drew):=k5'.out.trans (Kept.of_below (fun _=>False) (below_drew w5)) (fun _ _ e=>e.elim)
 have rw5:Hid (w5.drew.ownsRow 0 224 4 vW2 ys.length (hcells ys)∧∀g,vW2.ownBlock=some g→w2.heap.size≤g):=rw5'.out
 have bx5:Hid (w5.drew.heap[B]?=some (.cells #[.int .u64 x.1,.slice yp x.2.length yc,.int .i64 ((x.2.length:Int)+1),.bool false] 224 (0,0))):=bx5'.out
 have hst6:Hid (w5.drew.heap[R]?=some (.cells (rcells a vW2 vI) 217 (0,0))):=hst5.out
 have hrI:Hid (w5.drew.ownsRow 0 224 4 vI is.length (hcells is)):=hrI'.out
 have HRlt:Hid (R<w5.drew.heap.size):=(Array.getElem?_eq_some_iff.1 hst6.out).1
 have HBlt:Hid (B<w5.drew.heap.size):=(Array.getElem?_eq_some_iff.1 bx5.out).1
 have HBR:Hid (R<B∧R<w2.heap.size∧w.heap.size≤w2.heap.size):=⟨HBW.out.2,hR2.out,HW2.out.1.size⟩
 have hHeld:Bw w5.drew w5.drew:=Below.refl _ _
 clear k5' rw5' bx5' hst5 hrI' s5 HW2 HBW hR2
 generalize w5.drew=we at *
 have D:Hid (Bw we we):=Below.refl _ _
 have HLI:Hid (∀w',Bw we w'→w'.cell? ⟨R,7,none⟩=some vI):=fun w' hb=>(Below.cell hb (p:=⟨R,7,none⟩) HRlt.out).trans (cell_of_row _ R 7 _ 217 (0,0) hst6.out)
 have HLB:Hid (∀w',Bw we w'→w'.cell? ⟨B,0,none⟩=some (.int .u64 x.1)∧w'.cell? ⟨B,1,none⟩=some (.slice yp x.2.length yc)∧w'.cell? ⟨B,2,none⟩=some (.int .i64 ((x.2.length:Int)+1))∧w'.cell? ⟨B,3,none⟩=some (.bool false)):=fun w' hb=>⟨(Below.cell hb (p:=⟨B,0,none⟩) HBlt.out).trans (cell_of_row _ B 0 _ 224 (0,0) bx5.out),(Below.cell hb (p:=⟨B,1,none⟩) HBlt.out).trans (cell_of_row _ B 1 _ 224 (0,0) bx5.out),(Below.cell hb (p:=⟨B,2,none⟩) HBlt.out).trans (cell_of_row _ B 2 _ 224 (0,0) bx5.out),(Below.cell hb (p:=⟨B,3,none⟩) HBlt.out).trans (cell_of_row _ B 3 _ 224 (0,0) bx5.out)⟩
 refine tkL 0 hHeld ?_
 refine tkL 2 hHeld ?_
 refine tkL 3 hHeld ?_
 refine tkL 4 hHeld ?_
 refine wpAnyL_take (i:=5) (v:=?va5) (by simp;rfl) (by kernel_rfl) (by kernel_rfl) (by kernel_rfl) (by kernel_rfl) (fun _ _ _ h=>h) (Or.inl ⟨by rfl,?ya5⟩) hHeld ?ra5
 case ya5=>intro w hSw;have z:=HLI.out w hSw;clear hSw;go_simp;with_reducible rfl
 simp only[Act.put,zA,zB,zC]
 refine wpAnyL_take (i:=7) (v:=?va6) (by simp;rfl) (by kernel_rfl) (by kernel_rfl) (by kernel_rfl) (by kernel_rfl) (fun _ _ _ h=>h) (Or.inl ⟨by rfl,?ya6⟩) hHeld ?ra6
 case ya6=>intro w hSw;obtain ⟨z0,z1,z2,z3⟩:=HLB.out w hSw;clear hSw;go_simp;with_reducible rfl
 simp only[Act.put,zA,zB,zC]
 refine wpAnyL_ready (rs:=[1,8]) (by kernel_rfl) (by simp) ?_
 refine AllReadyL.cons (by simp;rfl) (fun Kc hKc=>?_) (AllReadyL.cons (by simp;rfl) (fun Kc hKc=>?_) AllReadyL.nil)
 ·go_simp
  have FA7:Hid (FR we (we.alloc (.cells #[] 224)) 0 224 4 (.slice (some ⟨we.heap.size,0,none⟩) 0 0) 0 []):=FR.empty 224 4 D.out (Nat.zero_le _)
  have BA7:Hid (Bw we (we.alloc (.cells #[] 224))):=FA7.out.below
  refine hKc.out _ _ (fun _=>BA7.out) ?_
  clear hHeld
  have hHeld:=BA7.out
  clear hKc Kc D
  revert FA7 BA7 hHeld
  generalize we.alloc (.cells #[] 224)=wk7
  generalize we.heap.size=ge7
  intro FA7 BA7 hHeld
  refine wpAnyL_ready (rs:=[6,8]) (by kernel_rfl) (by simp) ?_
  refine AllReadyL.cons (by simp;rfl) (fun Kc hKc=>?_) (AllReadyL.cons (by simp;rfl) (fun Kc hKc=>?_) AllReadyL.nil)
  ·refine step_own_any (v:=(.slice (some ⟨ge7,0,none⟩) 0 0)) (n:=0) (m:=is.length) (base:=0) (base':=0) rfl (.tmp 39) (.tmp 43) elW rfl rfl FA7.out.own rfl (own_later hrI.out BA7.out) (ones_h is) (by omega) (Nat.zero_le _) ?_
   intro v1 wk8 ho hk hv
   have FC8:Hid (FR we wk8 0 224 4 v1 is.length (hcells is)):=by have h:=FA7.out.app ho hk hv;rw[Nat.zero_add,List.nil_append] at h;exact h
   have BC8:Hid (Bw we wk8):=FC8.out.below
   obtain ⟨p1,c1,e1⟩:=own_shape FC8.out.own
   subst e1
   refine hKc.out _ _ (fun _=>BC8.out) ?_
   clear hHeld
   have hHeld:=BC8.out
   clear hKc Kc ho hk hv FA7 BA7
   simp only[Act.put,zA,zB,zC]
   refine wpAnyL_ready (rs:=[8]) (by kernel_rfl) (by simp) ?_
   refine AllReadyL.cons (by simp;rfl) (fun Kc hKc=>?_) AllReadyL.nil
   go_simp
   have OB9:Hid (FR we (wk8.alloc (.cells #[.int .u64 x.1,.slice yp x.2.length yc,.int .i64 ((x.2.length:Int)+1),.bool false] 224)) 0 224 4 (.slice (some ⟨wk8.heap.size,0,none⟩) 1 1) 1 [.int .u64 x.1,.slice yp x.2.length yc,.int .i64 ((x.2.length:Int)+1),.bool false]):=⟨own_one (base:=0) (cs:=[.int .u64 x.1,.slice yp x.2.length yc,.int .i64 ((x.2.length:Int)+1),.bool false]) wk8 rfl (Nat.zero_le _),below_then BC8.out (below_alloc _ _),fun g hg=>by have h0:=Below.size BC8.out;simp[Value.ownBlock] at hg;omega⟩
   have FB9:Hid (FR we (wk8.alloc (.cells #[.int .u64 x.1,.slice yp x.2.length yc,.int .i64 ((x.2.length:Int)+1),.bool false] 224)) 0 224 4 (.slice p1 is.length c1) is.length (hcells is)):=FC8.out.later (below_alloc _ _)
   have BB9:Hid (Bw we (wk8.alloc (.cells #[.int .u64 x.1,.slice yp x.2.length yc,.int .i64 ((x.2.length:Int)+1),.bool false] 224))):=OB9.out.below
   refine hKc.out _ _ (fun _=>BB9.out) ?_
   clear hHeld
   have hHeld:=BB9.out
   clear hKc Kc BC8 FC8
   revert OB9 FB9 BB9 hHeld
   generalize wk8.alloc (.cells #[.int .u64 x.1,.slice yp x.2.length yc,.int .i64 ((x.2.length:Int)+1),.bool false] 224)=wk9
   generalize wk8.heap.size=ob9
   intro OB9 FB9 BB9 hHeld
   refine wpAnyL_ready (rs:=[9]) (by kernel_rfl) (by simp) ?_
   refine AllReadyL.cons (by simp;rfl) (fun Kc hKc=>?_) AllReadyL.nil
   refine step_own_any (n:=is.length) (m:=1) (base:=0) (base':=0) rfl (.tmp 44) (.tmp 46) elW rfl rfl FB9.out.own rfl OB9.out.own (ones_h [⟨x.1,yp,x.2.length,yc,(x.2.length:Int)+1,false⟩]) (by omega) (Nat.zero_le _) ?_
   intro v2 wk10 ho hk hv
   have FD:Hid (FR we wk10 0 224 4 v2 (is.length+1) (hcells is++[.int .u64 x.1,.slice yp x.2.length yc,.int .i64 ((x.2.length:Int)+1),.bool false])):=FB9.out.app ho hk hv
   obtain ⟨p2,c2,e2⟩:=own_shape FD.out.own
   subst e2
   refine hKc.out _ _ (fun _=>FD.out.below) ?_
   clear hHeld
   have hHeld:=FD.out.below
   clear hKc Kc ho hk hv FB9 OB9 BB9
   simp only[Act.put,zA,zB,zC]
   obtain ⟨wz,hwz⟩:∃wz,wz=wk10:=⟨_,rfl⟩
   subst hwz
   refine wpAnyL_ready (rs:=[10]) (by kernel_rfl) (by simp) ?_
   refine AllReadyL.cons (by simp;rfl) (fun Kc hKc=>?_) AllReadyL.nil
   go_simp
   refine hKc.out _ _ (fun _=>FD.out.below) ?_
   clear hHeld
   have hHeld:=FD.out.below
   clear hKc Kc
   refine wpAnyL_ready (rs:=[11]) (by kernel_rfl) (by simp) ?_
   refine AllReadyL.cons (by simp;rfl) (fun Kc hKc=>?_) AllReadyL.nil
   go_simp
   refine hKc.out _ _ (fun _=>FD.out.below) ?_
   clear hHeld
   have hHeld:=FD.out.below
   clear hKc Kc
   refine wpAnyL_ready (rs:=[12]) (by kernel_rfl) (by simp) ?_
   refine AllReadyL.cons (by simp;rfl) (fun Kc hKc=>?_) AllReadyL.nil
   have HS7:Hid (wz.heap[R]?=some (.cells (rcells a vW2 vI) 217 (0,0))):=(FD.out.below.block R HRlt.out).trans hst6.out
   have e7:wz.cell? ⟨R,7,none⟩=some vI:=cell_of_row _ R 7 _ 217 (0,0) HS7.out
   have f7:wz.frozen? ⟨R,7,none⟩=false:=by simp[World.frozen?,HS7.out]
   go_simp
   refine hKc.out _ _ (fun h=>absurd rfl h) ?_
   clear hKc Kc hHeld e7 f7
   refine wpAnyL_done (by kernel_rfl) (NoPanic.normal ?_) _
   have FZ:Hid (FR we wz 0 224 4 (.slice p2 (is.length+1) c2) (is.length+1) (hcells is++[.int .u64 x.1,.slice yp x.2.length yc,.int .i64 ((x.2.length:Int)+1),.bool false])):=FD.out
   clear FD
   have k8:Hid (Kept (·=R) w (wz.setCell ⟨R,7,none⟩ (.slice p2 (is.length+1) c2))):=(k5.out.trans (Kept.of_below (fun _=>False) FZ.out.below) (fun _ _ e=>e.elim)).trans (Kept.setCell R 7 _) (fun _ _ e=>e)
   have bx8:Hid ((wz.setCell ⟨R,7,none⟩ (.slice p2 (is.length+1) c2)).heap[B]?=some (.cells #[.int .u64 x.1,.slice yp x.2.length yc,.int .i64 ((x.2.length:Int)+1),.bool false] 224 (0,0))):=((Kept.setCell (w:=wz) R 7 _).block B (Nat.lt_of_lt_of_le HBlt.out FZ.out.below.size) (by have:=HBR.out.1;omega)).trans ((FZ.out.below.block B HBlt.out).trans bx5.out)
   have HZ7:Hid ((wz.setCell ⟨R,7,none⟩ (.slice p2 (is.length+1) c2)).heap[R]?=some (.cells (rcells { a with W:=r,I:=a.I++[(x.1,x.2,(x.2.length:Int)+1)],got:=x.1 } vW2 (.slice p2 (is.length+1) c2)) 217 (0,0))):=by show _=_;rw[L.st_set 7 _ HS7.out];rfl
   have HZW:Hid ((wz.setCell ⟨R,7,none⟩ (.slice p2 (is.length+1) c2)).ownsRow 0 224 4 vW2 ys.length (hcells ys)):=own_far (own_later rw5.out.1 FZ.out.below) (Kept.setCell R 7 _) (fun g hg e=>by have:=rw5.out.2 g hg;have:=HBR.out.2.1;omega)
   have HZI:Hid ((wz.setCell ⟨R,7,none⟩ (.slice p2 (is.length+1) c2)).ownsRow 0 224 4 (.slice p2 (is.length+1) c2) (is.length+1) (hcells is++[.int .u64 x.1,.slice yp x.2.length yc,.int .i64 ((x.2.length:Int)+1),.bool false])):=own_far FZ.out.own (Kept.setCell R 7 _) (fun g hg e=>by have:=FZ.out.new g hg;have:=HRlt.out;omega)
   have HZN:Hid (∀g,(Value.slice p2 (is.length+1) c2).ownBlock=some g→w.heap.size≤g):=fun g hg=>by have:=FZ.out.new g hg;have:=k5.out.size;omega
   clear HS7 FZ
   generalize wz.setCell ⟨R,7,none⟩ (.slice p2 (is.length+1) c2)=w8 at *
   have t0:w8.cell? ⟨B,0,none⟩=some (.int .u64 x.1):=cell_of_row _ B 0 _ 224 (0,0) bx8.out
   have t1:w8.cell? ⟨B,1,none⟩=some (.slice yp x.2.length yc):=cell_of_row _ B 1 _ 224 (0,0) bx8.out
   have t0':w8.drew.cell? ⟨B,0,none⟩=some (.int .u64 x.1):=t0
   have t1':w8.drew.cell? ⟨B,1,none⟩=some (.slice yp x.2.length yc):=t1
   go_wp2_with fail
   go_quiet (fail)
   go_wp2
   go_ret3
   obtain ⟨yp',yc',h1,h2⟩:=renter_end HMI.out HMS.out H.out HR.out k8.out HZ7.out HZW.out rw5.out.2 HBR.out.2.2 HZI.out HZN.out nq
   exact⟨yp',yc',by rw[← h1];rfl,h2⟩
  ·go_simp
   have OB14:Hid (FR we (wk7.alloc (.cells #[.int .u64 x.1,.slice yp x.2.length yc,.int .i64 ((x.2.length:Int)+1),.bool false] 224)) 0 224 4 (.slice (some ⟨wk7.heap.size,0,none⟩) 1 1) 1 [.int .u64 x.1,.slice yp x.2.length yc,.int .i64 ((x.2.length:Int)+1),.bool false]):=⟨own_one (base:=0) (cs:=[.int .u64 x.1,.slice yp x.2.length yc,.int .i64 ((x.2.length:Int)+1),.bool false]) wk7 rfl (Nat.zero_le _),below_then BA7.out (below_alloc _ _),fun g hg=>by have h0:=Below.size BA7.out;simp[Value.ownBlock] at hg;omega⟩
   have FB14:Hid (FR we (wk7.alloc (.cells #[.int .u64 x.1,.slice yp x.2.length yc,.int .i64 ((x.2.length:Int)+1),.bool false] 224)) 0 224 4 (.slice (some ⟨ge7,0,none⟩) 0 0) 0 []):=FA7.out.later (below_alloc _ _)
   have NE14:Hid (wk7.heap.size≠ge7):=Nat.ne_of_gt (FA7.out.own.lt ge7 rfl).2
   have BB14:Hid (Bw we (wk7.alloc (.cells #[.int .u64 x.1,.slice yp x.2.length yc,.int .i64 ((x.2.length:Int)+1),.bool false] 224))):=OB14.out.below
   refine hKc.out _ _ (fun _=>BB14.out) ?_
   clear hHeld
   have hHeld:=BB14.out
   clear hKc Kc BA7 FA7
   revert OB14 FB14 NE14 BB14 hHeld
   generalize wk7.alloc (.cells #[.int .u64 x.1,.slice yp x.2.length yc,.int .i64 ((x.2.length:Int)+1),.bool false] 224)=wk14
   generalize wk7.heap.size=ob14
   intro OB14 FB14 NE14 BB14 hHeld
   refine wpAnyL_ready (rs:=[6]) (by kernel_rfl) (by simp) ?_
   refine AllReadyL.cons (by simp;rfl) (fun Kc hKc=>?_) AllReadyL.nil
   refine step_own_any (v:=(.slice (some ⟨ge7,0,none⟩) 0 0)) (n:=0) (m:=is.length) (base:=0) (base':=0) rfl (.tmp 39) (.tmp 43) elW rfl rfl FB14.out.own rfl (own_later hrI.out BB14.out) (ones_h is) (by omega) (Nat.zero_le _) ?_
   intro v1 wk15 ho hk hv
   have FC15:Hid (FR we wk15 0 224 4 v1 is.length (hcells is)):=by have h:=FB14.out.app ho hk hv;rw[Nat.zero_add,List.nil_append] at h;exact h
   have OC15:Hid (FR we wk15 0 224 4 (.slice (some ⟨ob14,0,none⟩) 1 1) 1 [.int .u64 x.1,.slice yp x.2.length yc,.int .i64 ((x.2.length:Int)+1),.bool false]):=⟨own_far OB14.out.own hk (fun g hg e=>NE14.out (by simp[Value.ownBlock] at hg e;omega)),FC15.out.below,OB14.out.new⟩
   have BC15:Hid (Bw we wk15):=FC15.out.below
   obtain ⟨p1,c1,e1⟩:=own_shape FC15.out.own
   subst e1
   refine hKc.out _ _ (fun _=>BC15.out) ?_
   clear hHeld
   have hHeld:=BC15.out
   clear hKc Kc ho hk hv FB14 BB14 OB14
   simp only[Act.put,zA,zB,zC]
   refine wpAnyL_ready (rs:=[9]) (by kernel_rfl) (by simp) ?_
   refine AllReadyL.cons (by simp;rfl) (fun Kc hKc=>?_) AllReadyL.nil
   refine step_own_any (n:=is.length) (m:=1) (base:=0) (base':=0) rfl (.tmp 44) (.tmp 46) elW rfl rfl FC15.out.own rfl OC15.out.own (ones_h [⟨x.1,yp,x.2.length,yc,(x.2.length:Int)+1,false⟩]) (by omega) (Nat.zero_le _) ?_
   intro v2 wk16 ho hk hv
   have FD:Hid (FR we wk16 0 224 4 v2 (is.length+1) (hcells is++[.int .u64 x.1,.slice yp x.2.length yc,.int .i64 ((x.2.length:Int)+1),.bool false])):=FC15.out.app ho hk hv
   obtain ⟨p2,c2,e2⟩:=own_shape FD.out.own
   subst e2
   refine hKc.out _ _ (fun _=>FD.out.below) ?_
   clear hHeld
   have hHeld:=FD.out.below
   clear hKc Kc ho hk hv FC15 OC15 BC15
   simp only[Act.put,zA,zB,zC]
   obtain ⟨wz,hwz⟩:∃wz,wz=wk16:=⟨_,rfl⟩
   subst hwz
   refine wpAnyL_ready (rs:=[10]) (by kernel_rfl) (by simp) ?_
   refine AllReadyL.cons (by simp;rfl) (fun Kc hKc=>?_) AllReadyL.nil
   go_simp
   refine hKc.out _ _ (fun _=>FD.out.below) ?_
   clear hHeld
   have hHeld:=FD.out.below
   clear hKc Kc
   refine wpAnyL_ready (rs:=[11]) (by kernel_rfl) (by simp) ?_
   refine AllReadyL.cons (by simp;rfl) (fun Kc hKc=>?_) AllReadyL.nil
   go_simp
   refine hKc.out _ _ (fun _=>FD.out.below) ?_
   clear hHeld
   have hHeld:=FD.out.below
   clear hKc Kc
   refine wpAnyL_ready (rs:=[12]) (by kernel_rfl) (by simp) ?_
   refine AllReadyL.cons (by simp;rfl) (fun Kc hKc=>?_) AllReadyL.nil
   have HS7:Hid (wz.heap[R]?=some (.cells (rcells a vW2 vI) 217 (0,0))):=(FD.out.below.block R HRlt.out).trans hst6.out
   have e7:wz.cell? ⟨R,7,none⟩=some vI:=cell_of_row _ R 7 _ 217 (0,0) HS7.out
   have f7:wz.frozen? ⟨R,7,none⟩=false:=by simp[World.frozen?,HS7.out]
   go_simp
   refine hKc.out _ _ (fun h=>absurd rfl h) ?_
   clear hKc Kc hHeld e7 f7
   refine wpAnyL_done (by kernel_rfl) (NoPanic.normal ?_) _
   have FZ:Hid (FR we wz 0 224 4 (.slice p2 (is.length+1) c2) (is.length+1) (hcells is++[.int .u64 x.1,.slice yp x.2.length yc,.int .i64 ((x.2.length:Int)+1),.bool false])):=FD.out
   clear FD
   have k8:Hid (Kept (·=R) w (wz.setCell ⟨R,7,none⟩ (.slice p2 (is.length+1) c2))):=(k5.out.trans (Kept.of_below (fun _=>False) FZ.out.below) (fun _ _ e=>e.elim)).trans (Kept.setCell R 7 _) (fun _ _ e=>e)
   have bx8:Hid ((wz.setCell ⟨R,7,none⟩ (.slice p2 (is.length+1) c2)).heap[B]?=some (.cells #[.int .u64 x.1,.slice yp x.2.length yc,.int .i64 ((x.2.length:Int)+1),.bool false] 224 (0,0))):=((Kept.setCell (w:=wz) R 7 _).block B (Nat.lt_of_lt_of_le HBlt.out FZ.out.below.size) (by have:=HBR.out.1;omega)).trans ((FZ.out.below.block B HBlt.out).trans bx5.out)
   have HZ7:Hid ((wz.setCell ⟨R,7,none⟩ (.slice p2 (is.length+1) c2)).heap[R]?=some (.cells (rcells { a with W:=r,I:=a.I++[(x.1,x.2,(x.2.length:Int)+1)],got:=x.1 } vW2 (.slice p2 (is.length+1) c2)) 217 (0,0))):=by show _=_;rw[L.st_set 7 _ HS7.out];rfl
   have HZW:Hid ((wz.setCell ⟨R,7,none⟩ (.slice p2 (is.length+1) c2)).ownsRow 0 224 4 vW2 ys.length (hcells ys)):=own_far (own_later rw5.out.1 FZ.out.below) (Kept.setCell R 7 _) (fun g hg e=>by have:=rw5.out.2 g hg;have:=HBR.out.2.1;omega)
   have HZI:Hid ((wz.setCell ⟨R,7,none⟩ (.slice p2 (is.length+1) c2)).ownsRow 0 224 4 (.slice p2 (is.length+1) c2) (is.length+1) (hcells is++[.int .u64 x.1,.slice yp x.2.length yc,.int .i64 ((x.2.length:Int)+1),.bool false])):=own_far FZ.out.own (Kept.setCell R 7 _) (fun g hg e=>by have:=FZ.out.new g hg;have:=HRlt.out;omega)
   have HZN:Hid (∀g,(Value.slice p2 (is.length+1) c2).ownBlock=some g→w.heap.size≤g):=fun g hg=>by have:=FZ.out.new g hg;have:=k5.out.size;omega
   clear HS7 FZ
   generalize wz.setCell ⟨R,7,none⟩ (.slice p2 (is.length+1) c2)=w8 at *
   have t0:w8.cell? ⟨B,0,none⟩=some (.int .u64 x.1):=cell_of_row _ B 0 _ 224 (0,0) bx8.out
   have t1:w8.cell? ⟨B,1,none⟩=some (.slice yp x.2.length yc):=cell_of_row _ B 1 _ 224 (0,0) bx8.out
   have t0':w8.drew.cell? ⟨B,0,none⟩=some (.int .u64 x.1):=t0
   have t1':w8.drew.cell? ⟨B,1,none⟩=some (.slice yp x.2.length yc):=t1
   go_wp2_with fail
   go_quiet (fail)
   go_wp2
   go_ret3
   obtain ⟨yp',yc',h1,h2⟩:=renter_end HMI.out HMS.out H.out HR.out k8.out HZ7.out HZW.out rw5.out.2 HBR.out.2.2 HZI.out HZN.out nq
   exact⟨yp',yc',by rw[← h1];rfl,h2⟩
 ·go_simp
  have OB20:Hid (FR we (we.alloc (.cells #[.int .u64 x.1,.slice yp x.2.length yc,.int .i64 ((x.2.length:Int)+1),.bool false] 224)) 0 224 4 (.slice (some ⟨we.heap.size,0,none⟩) 1 1) 1 [.int .u64 x.1,.slice yp x.2.length yc,.int .i64 ((x.2.length:Int)+1),.bool false]):=⟨own_one (base:=0) (cs:=[.int .u64 x.1,.slice yp x.2.length yc,.int .i64 ((x.2.length:Int)+1),.bool false]) we rfl (Nat.zero_le _),below_then D.out (below_alloc _ _),fun g hg=>by have h0:=Below.size D.out;simp[Value.ownBlock] at hg;omega⟩
  have BB20:Hid (Bw we (we.alloc (.cells #[.int .u64 x.1,.slice yp x.2.length yc,.int .i64 ((x.2.length:Int)+1),.bool false] 224))):=OB20.out.below
  refine hKc.out _ _ (fun _=>BB20.out) ?_
  clear hHeld
  have hHeld:=BB20.out
  clear hKc Kc D
  revert OB20 BB20 hHeld
  generalize we.alloc (.cells #[.int .u64 x.1,.slice yp x.2.length yc,.int .i64 ((x.2.length:Int)+1),.bool false] 224)=wk20
  generalize we.heap.size=ob20
  intro OB20 BB20 hHeld
  refine wpAnyL_ready (rs:=[1]) (by kernel_rfl) (by simp) ?_
  refine AllReadyL.cons (by simp;rfl) (fun Kc hKc=>?_) AllReadyL.nil
  go_simp
  have FA21:Hid (FR we (wk20.alloc (.cells #[] 224)) 0 224 4 (.slice (some ⟨wk20.heap.size,0,none⟩) 0 0) 0 []):=FR.empty 224 4 BB20.out (Nat.zero_le _)
  have OA21:Hid (FR we (wk20.alloc (.cells #[] 224)) 0 224 4 (.slice (some ⟨ob20,0,none⟩) 1 1) 1 [.int .u64 x.1,.slice yp x.2.length yc,.int .i64 ((x.2.length:Int)+1),.bool false]):=OB20.out.later (below_alloc _ _)
  have NE21:Hid (ob20≠wk20.heap.size):=Nat.ne_of_lt (OB20.out.own.lt ob20 rfl).2
  have BA21:Hid (Bw we (wk20.alloc (.cells #[] 224))):=FA21.out.below
  refine hKc.out _ _ (fun _=>BA21.out) ?_
  clear hHeld
  have hHeld:=BA21.out
  clear hKc Kc BB20 OB20
  revert FA21 OA21 NE21 BA21 hHeld
  generalize wk20.alloc (.cells #[] 224)=wk21
  generalize wk20.heap.size=ge21
  intro FA21 OA21 NE21 BA21 hHeld
  refine wpAnyL_ready (rs:=[6]) (by kernel_rfl) (by simp) ?_
  refine AllReadyL.cons (by simp;rfl) (fun Kc hKc=>?_) AllReadyL.nil
  refine step_own_any (v:=(.slice (some ⟨ge21,0,none⟩) 0 0)) (n:=0) (m:=is.length) (base:=0) (base':=0) rfl (.tmp 39) (.tmp 43) elW rfl rfl FA21.out.own rfl (own_later hrI.out BA21.out) (ones_h is) (by omega) (Nat.zero_le _) ?_
  intro v1 wk22 ho hk hv
  have FC22:Hid (FR we wk22 0 224 4 v1 is.length (hcells is)):=by have h:=FA21.out.app ho hk hv;rw[Nat.zero_add,List.nil_append] at h;exact h
  have OC22:Hid (FR we wk22 0 224 4 (.slice (some ⟨ob20,0,none⟩) 1 1) 1 [.int .u64 x.1,.slice yp x.2.length yc,.int .i64 ((x.2.length:Int)+1),.bool false]):=⟨own_far OA21.out.own hk (fun g hg e=>NE21.out (by simp[Value.ownBlock] at hg e;omega)),FC22.out.below,OA21.out.new⟩
  have BC22:Hid (Bw we wk22):=FC22.out.below
  obtain ⟨p1,c1,e1⟩:=own_shape FC22.out.own
  subst e1
  refine hKc.out _ _ (fun _=>BC22.out) ?_
  clear hHeld
  have hHeld:=BC22.out
  clear hKc Kc ho hk hv FA21 BA21 OA21
  simp only[Act.put,zA,zB,zC]
  refine wpAnyL_ready (rs:=[9]) (by kernel_rfl) (by simp) ?_
  refine AllReadyL.cons (by simp;rfl) (fun Kc hKc=>?_) AllReadyL.nil
  refine step_own_any (n:=is.length) (m:=1) (base:=0) (base':=0) rfl (.tmp 44) (.tmp 46) elW rfl rfl FC22.out.own rfl OC22.out.own (ones_h [⟨x.1,yp,x.2.length,yc,(x.2.length:Int)+1,false⟩]) (by omega) (Nat.zero_le _) ?_
  intro v2 wk23 ho hk hv
  have FD:Hid (FR we wk23 0 224 4 v2 (is.length+1) (hcells is++[.int .u64 x.1,.slice yp x.2.length yc,.int .i64 ((x.2.length:Int)+1),.bool false])):=FC22.out.app ho hk hv
  obtain ⟨p2,c2,e2⟩:=own_shape FD.out.own
  subst e2
  refine hKc.out _ _ (fun _=>FD.out.below) ?_
  clear hHeld
  have hHeld:=FD.out.below
  clear hKc Kc ho hk hv FC22 OC22 BC22
  simp only[Act.put,zA,zB,zC]
  obtain ⟨wz,hwz⟩:∃wz,wz=wk23:=⟨_,rfl⟩
  subst hwz
  refine wpAnyL_ready (rs:=[10]) (by kernel_rfl) (by simp) ?_
  refine AllReadyL.cons (by simp;rfl) (fun Kc hKc=>?_) AllReadyL.nil
  go_simp
  refine hKc.out _ _ (fun _=>FD.out.below) ?_
  clear hHeld
  have hHeld:=FD.out.below
  clear hKc Kc
  refine wpAnyL_ready (rs:=[11]) (by kernel_rfl) (by simp) ?_
  refine AllReadyL.cons (by simp;rfl) (fun Kc hKc=>?_) AllReadyL.nil
  go_simp
  refine hKc.out _ _ (fun _=>FD.out.below) ?_
  clear hHeld
  have hHeld:=FD.out.below
  clear hKc Kc
  refine wpAnyL_ready (rs:=[12]) (by kernel_rfl) (by simp) ?_
  refine AllReadyL.cons (by simp;rfl) (fun Kc hKc=>?_) AllReadyL.nil
  have HS7:Hid (wz.heap[R]?=some (.cells (rcells a vW2 vI) 217 (0,0))):=(FD.out.below.block R HRlt.out).trans hst6.out
  have e7:wz.cell? ⟨R,7,none⟩=some vI:=cell_of_row _ R 7 _ 217 (0,0) HS7.out
  have f7:wz.frozen? ⟨R,7,none⟩=false:=by simp[World.frozen?,HS7.out]
  go_simp
  refine hKc.out _ _ (fun h=>absurd rfl h) ?_
  clear hKc Kc hHeld e7 f7
  refine wpAnyL_done (by kernel_rfl) (NoPanic.normal ?_) _
  have FZ:Hid (FR we wz 0 224 4 (.slice p2 (is.length+1) c2) (is.length+1) (hcells is++[.int .u64 x.1,.slice yp x.2.length yc,.int .i64 ((x.2.length:Int)+1),.bool false])):=FD.out
  clear FD
  have k8:Hid (Kept (·=R) w (wz.setCell ⟨R,7,none⟩ (.slice p2 (is.length+1) c2))):=(k5.out.trans (Kept.of_below (fun _=>False) FZ.out.below) (fun _ _ e=>e.elim)).trans (Kept.setCell R 7 _) (fun _ _ e=>e)
  have bx8:Hid ((wz.setCell ⟨R,7,none⟩ (.slice p2 (is.length+1) c2)).heap[B]?=some (.cells #[.int .u64 x.1,.slice yp x.2.length yc,.int .i64 ((x.2.length:Int)+1),.bool false] 224 (0,0))):=((Kept.setCell (w:=wz) R 7 _).block B (Nat.lt_of_lt_of_le HBlt.out FZ.out.below.size) (by have:=HBR.out.1;omega)).trans ((FZ.out.below.block B HBlt.out).trans bx5.out)
  have HZ7:Hid ((wz.setCell ⟨R,7,none⟩ (.slice p2 (is.length+1) c2)).heap[R]?=some (.cells (rcells { a with W:=r,I:=a.I++[(x.1,x.2,(x.2.length:Int)+1)],got:=x.1 } vW2 (.slice p2 (is.length+1) c2)) 217 (0,0))):=by show _=_;rw[L.st_set 7 _ HS7.out];rfl
  have HZW:Hid ((wz.setCell ⟨R,7,none⟩ (.slice p2 (is.length+1) c2)).ownsRow 0 224 4 vW2 ys.length (hcells ys)):=own_far (own_later rw5.out.1 FZ.out.below) (Kept.setCell R 7 _) (fun g hg e=>by have:=rw5.out.2 g hg;have:=HBR.out.2.1;omega)
  have HZI:Hid ((wz.setCell ⟨R,7,none⟩ (.slice p2 (is.length+1) c2)).ownsRow 0 224 4 (.slice p2 (is.length+1) c2) (is.length+1) (hcells is++[.int .u64 x.1,.slice yp x.2.length yc,.int .i64 ((x.2.length:Int)+1),.bool false])):=own_far FZ.out.own (Kept.setCell R 7 _) (fun g hg e=>by have:=FZ.out.new g hg;have:=HRlt.out;omega)
  have HZN:Hid (∀g,(Value.slice p2 (is.length+1) c2).ownBlock=some g→w.heap.size≤g):=fun g hg=>by have:=FZ.out.new g hg;have:=k5.out.size;omega
  clear HS7 FZ
  generalize wz.setCell ⟨R,7,none⟩ (.slice p2 (is.length+1) c2)=w8 at *
  have t0:w8.cell? ⟨B,0,none⟩=some (.int .u64 x.1):=cell_of_row _ B 0 _ 224 (0,0) bx8.out
  have t1:w8.cell? ⟨B,1,none⟩=some (.slice yp x.2.length yc):=cell_of_row _ B 1 _ 224 (0,0) bx8.out
  have t0':w8.drew.cell? ⟨B,0,none⟩=some (.int .u64 x.1):=t0
  have t1':w8.drew.cell? ⟨B,1,none⟩=some (.slice yp x.2.length yc):=t1
  go_wp2_with fail
  go_quiet (fail)
  go_wp2
  go_ret3
  obtain ⟨yp',yc',h1,h2⟩:=renter_end HMI.out HMS.out H.out HR.out k8.out HZ7.out HZW.out rw5.out.2 HBR.out.2.2 HZI.out HZN.out nq
  exact⟨yp',yc',by rw[← h1];rfl,h2⟩
end
section
variable {w w':World} {G:Nat→Prop} {R:Nat} {vW vI:Value} {a:Ad} {ws is:List Who}
theorem renter_at (h:RL w G R vW vI a ws is)(hR:¬G R)(ok:a.Ok)(hN:a.next≤1000):Calls prog 67 #[qp R] w fun e w'=>∃p c,e=.returned (.tuple #[.int .u64 a.entT,.slice p a.entF.length c,.int .i64 a.entE])∧Frm w' (.slice p a.entF.length c) a.entF∧(∀g,blk (.slice p a.entF.length c)=some g→Gp w w' G g)∧RAf w w' G R a.entS:=by
 cases hW:a.W with
 | nil =>
  have e1:a.entE=110:=by simp[Ad.entE,hW]
  have e2:a.entT=0∧a.entF=[]∧a.entS=a:=⟨by simp[Ad.entT,e1],by simp[Ad.entF,e1],by simp[Ad.entS,e1]⟩
  rw[e1,e2.1,e2.2.1,e2.2.2]
  refine (renter_no h hW).mono ?_
  rintro e' w' ⟨rfl,hw⟩
  subst hw
  exact⟨none,0,rfl,Frm.nil _,fun g hg=>(by cases hg),RAf.same h (Below.refl _ _)⟩
 | cons x r =>
  cases hf:a.fits with
  | false =>
   have e1:a.entE=120:=by simp[Ad.entE,hW,hf]
   have e2:a.entT=0∧a.entF=[]∧a.entS=a:=⟨by simp[Ad.entT,e1],by simp[Ad.entF,e1],by simp[Ad.entS,e1]⟩
   rw[e1,e2.1,e2.2.1,e2.2.2]
   refine (renter_room h ok hN hW hf).mono ?_
   rintro e' w' ⟨rfl,m,rfl⟩
   exact⟨none,0,rfl,Frm.nil _,fun g hg=>(by cases hg),RAf.same h (below_drawn m)⟩
  | true =>
   have e1:a.entE=0:=by simp[Ad.entE,hW,hf]
   have ef:a.fT=x.1∧a.fF=x.2:=⟨by simp[Ad.fT,hW],by simp[Ad.fF,hW]⟩
   have e2:a.entT=x.1∧a.entF=x.2:=⟨by simp[Ad.entT,e1,ef.1],by simp[Ad.entF,e1,ef.2]⟩
   have e3:a.entS={ a with W:=r,I:=a.I++[(x.1,x.2,(x.2.length:Int)+1)],got:=x.1 }:=by simp[Ad.entS,e1,ef.1,ef.2,hW]
   rw[e1,e2.1,e2.2,e3]
   refine (renter_ok h hR ok hN hW hf).mono ?_
   rintro e' w' ⟨p,c,h1,h2,h3,h4⟩
   exact⟨p,c,h1,h2,fun g hg=>.inl (h3 g hg),h4⟩
theorem len_piece4 {xs:List Value}{k l n:Nat}(h:xs.length=n*4)(hkl:k+l≤n):((xs.drop (k*4)).take (l*4)).length=l*4:=by
 rw[List.length_take,List.length_drop]
 omega
theorem piece_addr4 (g:Nat){c pp n:Nat}(hc:n≤c):∃ad:Addr,(if c=pp+1 then some (⟨g,0,none⟩:Addr) else some ⟨g,(pp+1)*4,none⟩)=some ad∧(ad=⟨g,(pp+1)*4,none⟩∨(n-(pp+1))*4=0):=by
 by_cases h:c=pp+1
 ·exact⟨_,if_pos h,.inr (by omega)⟩
 ·exact⟨_,if_neg h,.inl rfl⟩
theorem rout_at {pp:Nat}(st:w.heap[R]?=some (.cells (rcells a vW vI) 217 (0,0)))(hi:w.ownsRow 0 224 4 vI is.length (hcells is))(hlt:pp<is.length)(hlen:is.length≤1000) :
  Calls prog 131 #[qp R,.int .i64 pp] w fun e w'=>e=.returned (.tuple #[])∧∃v',w'.heap[R]?=some (.cells (rcells a vW v') 217 (0,0))∧w'.ownsRow 0 224 4 v' (is.take pp++is.drop (pp+1)).length (hcells (is.take pp++is.drop (pp+1)))∧(∀g,v'.ownBlock=some g→w.heap.size≤g)∧Kept (·=R) w w':=by
 obtain ⟨p,c,rfl,hc,hg⟩:=own_form hi
 obtain ⟨g,rfl⟩:=hg (by omega)
 have hst':Hid (w.heap[R]?=some (.cells (rcells a vW (.slice (some ⟨g,0,none⟩) is.length c)) 217 (0,0))):=st
 have hr':Hid (w.ownsRow 0 224 4 (.slice (some ⟨g,0,none⟩) is.length c) is.length (hcells is)):=hi
 have HC:Hid (((hcells is).drop 0).take (pp*4)++((hcells is).drop ((pp+1)*4)).take ((is.length-(pp+1))*4)=hcells (is.take pp++is.drop (pp+1))∧pp+(is.length-(pp+1))=(is.take pp++is.drop (pp+1)).length):=by
  refine⟨?_,?_⟩
  ·rw[List.drop_zero,hcells_take,hcells_drop,hcells_take,← hcells_app]
   congr 2
   rw[List.take_of_length_le (by simp)]
  ·rw[List.length_append,List.length_take,List.length_drop]
   omega
 have LP:Hid ((((hcells is).drop 0).take (pp*4)).length=pp*4∧(((hcells is).drop ((pp+1)*4)).take ((is.length-(pp+1))*4)).length=(is.length-(pp+1))*4):=⟨len_piece4 (k:=0) (hcells_len is) (by omega),len_piece4 (hcells_len is) (by omega)⟩
 clear st hi
 have j1:(pp:Int)<(is.length:Int):=by omega
 have j2:(pp:Int)≤(c:Int):=by omega
 have j4:(pp:Int)+1≤(is.length:Int):=by omega
 have j5:(0:Int)≤(pp:Int)+1:=by omega
 have j6:((pp:Int)+1).toNat=pp+1:=by omega
 have j7:IntKind.i64.wrap ((pp:Int)+1)=(pp:Int)+1:=by rw[IntKind.wrap_i64];omega
 obtain ⟨ga,ega,hga⟩:=piece_addr4 (pp:=pp) g hc
 have Hga:Hid (ga=⟨g,(pp+1)*4,none⟩∨(is.length-(pp+1))*4=0):=hga
 clear hga
 go_enter func131,ntmps131
 go_wp2_with fail
 refine wp_region_noPanic ?_
 refine wp_region_last 19 (Bw w.drew) (by kernel_rfl) ?_
 have hHeld:Bw w.drew w.drew:=Below.refl _ _
 have KW:Hid (Kept (·=R) w w.drew):=Kept.of_below _ (below_drew w)
 have hst:Hid (w.drew.heap[R]?=some (.cells (rcells a vW (.slice (some ⟨g,0,none⟩) is.length c)) 217 (0,0))):=hst'.out
 have hr:Hid (w.drew.ownsRow 0 224 4 (.slice (some ⟨g,0,none⟩) is.length c) is.length (hcells is)):=hr'.out
 clear hst' hr'
 generalize w.drew=we at *
 have HRlt:Hid (R<we.heap.size):=(Array.getElem?_eq_some_iff.1 hst.out).1
 have HL:Hid (∀w',Bw we w'→w'.cell? ⟨R,7,none⟩=some (.slice (some ⟨g,0,none⟩) is.length c)):=fun w' hb=>(Below.cell hb (p:=⟨R,7,none⟩) HRlt.out).trans (cell_of_row _ R 7 _ 217 (0,0) hst.out)
 refine tkL 0 hHeld ?_
 refine tkL 2 hHeld ?_
 refine tkL 3 hHeld ?_
 refine tkL 4 hHeld ?_
 refine wpAnyL_take (i:=5) (v:=?va5) (by simp;rfl) (by kernel_rfl) (by kernel_rfl) (by kernel_rfl) (by kernel_rfl) (fun _ _ _ h=>h) (Or.inl ⟨by rfl,?ya5⟩) hHeld ?ra5
 case ya5=>intro w hSw;have z:=HL.out w hSw;clear hSw;go_simp;with_reducible rfl
 simp only[Act.put,zA,zB,zC]
 refine tkL 6 hHeld ?_
 refine tkL 7 hHeld ?_
 refine tkL 9 hHeld ?_
 refine tkL 10 hHeld ?_
 refine tkL 11 hHeld ?_
 refine wpAnyL_take (i:=12) (v:=?va11) (by simp;rfl) (by kernel_rfl) (by kernel_rfl) (by kernel_rfl) (by kernel_rfl) (fun _ _ _ h=>h) (Or.inl ⟨by rfl,?ya11⟩) hHeld ?ra11
 case ya11=>intro w hSw;have z:=HL.out w hSw;clear hSw;go_simp;with_reducible rfl
 simp only[Act.put,zA,zB,zC]
 refine tkL 13 hHeld ?_
 refine tkL 14 hHeld ?_
 refine tkL 15 hHeld ?_
 refine wpAnyL_ready (rs:=[1]) (by kernel_rfl) (by simp) ?_
 refine AllReadyL.cons (by simp;rfl) (fun Kc hKc=>?_) AllReadyL.nil
 go_simp
 have F1:Hid (FR we (we.alloc (.cells #[] 224)) 0 224 4 (.slice (some ⟨we.heap.size,0,none⟩) 0 0) 0 []):=FR.empty 224 4 (Below.refl _ _) (Nat.zero_le _)
 have F1':Hid (Bw we (we.alloc (.cells #[] 224))):=F1.out.below
 refine hKc.out _ _ (fun _=>F1'.out) ?_
 clear hHeld
 have hHeld:=F1'.out
 clear hKc Kc
 revert F1 F1' hHeld
 generalize we.alloc (.cells #[] 224)=wa
 generalize we.heap.size=ge
 intro F1 F1' hHeld
 refine wpAnyL_ready (rs:=[8]) (by kernel_rfl) (by simp) ?_
 refine AllReadyL.cons (by simp;rfl) (fun Kc hKc=>?_) AllReadyL.nil
 refine step_own (v:=.slice (some ⟨ge,0,none⟩) 0 0) (n:=0) (base:=0) rfl (.tmp 5) (.tmp 11) elW rfl rfl F1.out.own ⟨g,0,none⟩ pp c (((hcells is).drop 0).take (pp*4)) rfl LP.out.1 (own_piece (own_later hr.out F1.out.below) rfl 0 (pp*4)) (ones_piece (ones_h is) _ _) (by omega) (Nat.zero_le _) ?_
 intro v1 wb ho hk hv
 have F2:Hid (FR we wb 0 224 4 v1 pp (((hcells is).drop 0).take (pp*4))):=by have h:=F1.out.app ho hk hv;rw[Nat.zero_add,List.nil_append] at h;exact h
 have F2':Hid (Bw we wb):=F2.out.below
 obtain ⟨p1,c1,e1⟩:=own_shape F2.out.own
 subst e1
 clear ho hk hv F1 F1'
 refine hKc.out _ _ (fun _=>F2'.out) ?_
 clear hHeld
 have hHeld:=F2'.out
 clear hKc Kc
 simp only[Act.put,zA,zB,zC]
 refine wpAnyL_ready (rs:=[16]) (by kernel_rfl) (by simp) ?_
 refine AllReadyL.cons (by simp;rfl) (fun Kc hKc=>?_) AllReadyL.nil
 refine step_own (v:=.slice p1 pp c1) (n:=pp) (base:=0) rfl (.tmp 12) (.tmp 19) elW rfl rfl F2.out.own ga (is.length-(pp+1)) (c-(pp+1)) (((hcells is).drop ((pp+1)*4)).take ((is.length-(pp+1))*4)) rfl LP.out.2 (own_piece2 (own_later hr.out F2.out.below) rfl Hga.out) (ones_piece (ones_h is) _ _) (by omega) (Nat.zero_le _) ?_
 intro v2 wc ho hk hv
 have F3:Hid (FR we wc 0 224 4 v2 (pp+(is.length-(pp+1))) (((hcells is).drop 0).take (pp*4)++((hcells is).drop ((pp+1)*4)).take ((is.length-(pp+1))*4))):=F2.out.app ho hk hv
 have F3':Hid (Bw we wc):=F3.out.below
 clear ho hk hv F2 F2'
 obtain ⟨p3,c3,e3⟩:=own_shape F3.out.own
 subst e3
 refine hKc.out _ _ (fun _=>F3'.out) ?_
 clear hHeld
 have hHeld:=F3'.out
 clear hKc Kc
 simp only[Act.put,zA,zB,zC]
 refine wpAnyL_ready (rs:=[17]) (by kernel_rfl) (by simp) ?_
 refine AllReadyL.cons (by simp;rfl) (fun Kc hKc=>?_) AllReadyL.nil
 go_simp
 refine hKc.out _ _ (fun _=>F3'.out) ?_
 clear hHeld
 have hHeld:=F3'.out
 clear hKc Kc
 refine wpAnyL_ready (rs:=[18]) (by kernel_rfl) (by simp) ?_
 refine AllReadyL.cons (by simp;rfl) (fun Kc hKc=>?_) AllReadyL.nil
 go_simp
 refine hKc.out _ _ (fun _=>F3'.out) ?_
 clear hHeld
 have hHeld:=F3'.out
 clear hKc Kc
 refine wpAnyL_ready (rs:=[19]) (by kernel_rfl) (by simp) ?_
 refine AllReadyL.cons (by simp;rfl) (fun Kc hKc=>?_) AllReadyL.nil
 have HS:Hid (wc.heap[R]?=some (.cells (rcells a vW (.slice (some ⟨g,0,none⟩) is.length c)) 217 (0,0))):=(F3.out.below.block R HRlt.out).trans hst.out
 have e7:wc.cell? ⟨R,7,none⟩=some (.slice (some ⟨g,0,none⟩) is.length c):=cell_of_row _ R 7 _ 217 (0,0) HS.out
 have f7:wc.frozen? ⟨R,7,none⟩=false:=by simp[World.frozen?,HS.out]
 go_simp
 refine hKc.out _ _ (fun h=>absurd rfl h) ?_
 clear hKc Kc hHeld e7 f7
 refine wpAnyL_done (by kernel_rfl) (NoPanic.normal ?_) _
 go_wp2
 go_end0
 refine⟨rfl,.slice p3 (pp+(is.length-(pp+1))) c3,?_,?_,fun g hg=>by have:=F3.out.new g hg;have:=KW.out.size;omega,(KW.out.trans (Kept.of_below (fun _=>False) F3.out.below) (fun _ _ e=>e.elim)).trans (Kept.setCell R 7 _) (fun _ _ e=>e)⟩
 ·rw[L.st_set 7 _ HS.out]
  rfl
 ·have:=own_far F3.out.own (Kept.setCell R 7 (.slice p3 (pp+(is.length-(pp+1))) c3)) (fun g hg e=>by have:=F3.out.new g hg;have:=HRlt.out;omega)
  rw[HC.out.1,HC.out.2] at this
  rw[HC.out.2]
  exact this
theorem rdone_at (h:RL w G R vW vI a ws is)(hR:¬G R)(ok:a.Ok)(hN:a.next≤1000)(t:Int):Calls prog 71 #[qp R,.int .u64 t] w fun e w'=>e=.returned (.int .i64 (a.donE t))∧RAf w w' G R (a.donS t):=by
 have hat:=rin_at h ok hN t
 have H:Hid (RL w G R vW vI a ws is):=h
 have HR:Hid (¬G R):=hR
 cases hf:fi t a.I with
 | none =>
  rw[atv_noI t hf] at hat
  have HA:Hid (Calls prog 130 #[qp R,.int .u64 t] w fun e w'=>e=.returned (.int .i64 (-1))∧w'=w):=hat
  have e1:Hid (a.donE t=110∧a.donS t=a):=⟨by simp[Ad.donE,hf],by simp[Ad.donS,Ad.donE,hf]⟩
  clear h hat ok hR
  go_enter func71,ntmps71
  go_wp2_with (go_at_call 130;refine HA.out.mono ?_;rintro e w' ⟨rfl,rfl⟩)
  go_ret
  rw[e1.out.1,e1.out.2]
  exact⟨rfl,RAf.same H.out (Below.refl _ _)⟩
 | some x =>
  obtain ⟨f,n⟩:=x
  rw[atv_yesI hf] at hat
  have e1:Hid (a.donE t=0∧a.donS t={ a with used:=a.used+1,I:=cutI t a.I }):=⟨by simp[Ad.donE,hf],by simp[Ad.donS,Ad.donE,hf]⟩
  obtain ⟨hp,hm⟩:=h.at_some hf
  have hil:is.length≤1000:=by have:=h.ilen;have:=ok.ilen;omega
  have x8:w.cell? ⟨R,8,none⟩=some (.int .i64 a.used):=h.c 8
  have f8:=h.free 8
  obtain ⟨n1,n2,n3,n4,n5,n6⟩:=ok.nums
  have HC:Hid (cutI t a.I=a.I.take (L.pos t (lefts a.I))++a.I.drop (L.pos t (lefts a.I)+1)):=cutI_pos t a.I
  have hst2:Hid ((w.setCell ⟨R,8,none⟩ (.int .i64 (a.used+1))).heap[R]?=some (.cells (rcells { a with used:=a.used+1 } vW vI) 217 (0,0))):=by show _=_;rw[L.st_set 8 _ h.st];rfl
  have k2:Hid (Kept (·=R) w (w.setCell ⟨R,8,none⟩ (.int .i64 (a.used+1)))):=Kept.setCell R 8 _
  have hi2:Hid ((w.setCell ⟨R,8,none⟩ (.int .i64 (a.used+1))).ownsRow 0 224 4 vI is.length (hcells is)):=(h.I.turn hR k2.out).row
  clear h hm hf ok hR
  generalize L.pos t (lefts a.I)=pp at *
  have HA:Hid (Calls prog 130 #[qp R,.int .u64 t] w fun e w'=>e=.returned (.int .i64 (pp:Int))∧w'=w):=hat
  clear hat
  go_enter func71,ntmps71
  go_wp2_with fail
  refine HA.out.mono ?_
  rintro e w' ⟨rfl,hw⟩
  subst hw
  go_wp2_with fail
  refine (rout_at hst2.out hi2.out hp hil).mono ?_
  rintro e w3 ⟨rfl,v',h1,h2,h3,h4⟩
  have H3:Hid (w3.heap[R]?=some (.cells (rcells { a with used:=a.used+1 } vW v') 217 (0,0))∧w3.ownsRow 0 224 4 v' (is.take pp++is.drop (pp+1)).length (hcells (is.take pp++is.drop (pp+1)))∧(∀g,v'.ownBlock=some g→w'.heap.size≤g)∧Kept (·=R) w' w3):=⟨h1,h2,fun g hg=>by have:=h3 g hg;simpa using this,k2.out.trans h4 (fun _ _ e=>e)⟩
  clear h1 h2 h3 h4
  go_wp2
  go_ret
  rw[e1.out.1,e1.out.2]
  refine⟨rfl,⟨vW,v',ws,is.take pp++is.drop (pp+1),H3.out.1,H.out.W.turn HR.out H3.out.2.2.2,RR.fresh H3.out.2.1 ?_ H3.out.2.2.1⟩,H3.out.2.2.2⟩
  show Mis _ _ (cutI t a.I) _
  rw[HC.out]
  exact (H.out.I.mi.turn HR.out H3.out.2.2.2).cut pp
end
end Go.Proofs.YtcdjepkhdjpjcaaGreatDoor.E
