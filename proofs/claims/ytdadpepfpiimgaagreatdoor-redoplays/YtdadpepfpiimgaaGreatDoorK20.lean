import Derived.Test.YtdadpepfpiimgaaGreatDoorK14
import Derived.Test.YtdadpepfpiimgaaGreatDoorK19
set_option maxHeartbeats 20000000
set_option maxRecDepth 100000
namespace Go.Proofs.YtdadpepfpiimgaaGreatDoor.Q
open Go.Proofs.Tryz
open Go.RowKit
section
variable {w0 w:World} {X:List Kd} {i j P p n:Nat} {q:Option Nat} {D:Dd} {x:Rc}
theorem Pv.t7 {W:World}(h:Pv P q x W)(h1:x.st≠1):W.cell? ⟨P,7,none⟩=some (.int .u64 (x.en+x.c.lc)):=by rw[h.c7,tlS_ne h1]
theorem Pv.t8 {W:World}(h:Pv P q x W)(h1:x.st≠1):W.cell? ⟨P,8,none⟩=some (.int .u64 (x.li+1)):=by rw[h.c8,lfS_ne h1]
theorem build_supN (w:World)(x:Rc):(Instr.build 121 #[(0,.agg (ccells x.c).toArray),(1,.int .u64 (x.en+x.c.lc)),(2,.int .u64 (x.li+1))]).run prog w=.ok (.agg (scells (supN x)).toArray) w:=run_build w 121 _ _ (by kernel_rfl)
theorem mark_at (ht:Tab w0)(h:Fz w0 w X)(hi:X[i]?=some (kr P (some p) x))(hj:X[j]?=some (kd p n D))(hij:i≠j)(ok:x.Ok n)(hk:D.ws.length≤100000)(hs:x.st=4):Calls prog 39 #[qp P] w fun e w'=>e=.returned (.tuple #[.agg (rowc ⟨16,-1,zv,x.en+x.c.lc,0⟩).toArray,.int .i64 0])∧Fz w0 w' ((X.set j (kd p n (D.wr 0 (encS (supN x))))).set i (kr P (some p) { x with st:=5 })):=by
 have HN1:Hid (x.st≠1):=by show x.st≠1;omega
 have HCK:Hid (chk (supN x)=0):=by show chk (supN x)=0;unfold chk;rw[if_pos ok.sup.1,if_pos ok.sup.2]
 have hn0:(0:Int)<n:=by have:=(h.dok hj).n1;omega
 obtain ⟨w1,hal,hb1,h1⟩:=h.rowbox
 generalize w.heap.size=b0 at h1 hal hb1
 have HAL:Hid (_):=hal
 have H1:Hid (Fz w0 w1.drew (kb b0 42 row0 :: X)):=h1.later (below_drawn 1)
 clear h hal h1 hb1
 go_enter func39,ntmps39
 go_wp2_with ((with_reducible refine at_ops ?_);(refine wpList_alloc_is (by rfl) 42 rfl HAL.out ?_);simp only[Act.put,zA,zB,zC])
 refine wp_region_noPanic ?_
 refine wp_region_held_drew (S:=fun W=>Pv P (some p) x W) (by kernel_rfl) (H1.out.pv (i:=i+1) hi) (fun hHeld=>?_)
 generalize w1.drew=w2 at *
 refine tk 0 hHeld ?_
 refine tk 1 hHeld ?_
 refine tk 2 hHeld ?_
 refine tkm 3 hHeld (fun _ s=>s.loadC) ?_
 refine tk 4 hHeld ?_
 refine tk 5 hHeld ?_
 refine tk 6 hHeld ?_
 refine tkl 7 hHeld (fun _ s=>s.t7 HN1.out) ?_
 refine tk 8 hHeld ?_
 refine tk 9 hHeld ?_
 refine tk 10 hHeld ?_
 refine tkl 11 hHeld (fun _ s=>s.t8 HN1.out) ?_
 refine tkb 12 [(0,.agg (ccells x.c).toArray),(1,.int .u64 (x.en+x.c.lc)),(2,.int .u64 (x.li+1))] hHeld (fun W=>build_supN W x) ?_
 refine tkr 13 fun Kc hKc=>?_
 go_simp
 refine (encode_any (supN x) ok.supwf _ (H1.out.tab ht)).mono ?_
 rintro e w3 ⟨a,m,c,rfl,hm,hmade⟩
 rw[encT_yes _ ok.sup] at hm hmade
 rw[encS_len] at hm
 subst hm
 have HM:Hid (BIn w3 a 64 (encS (supN x))):=hmade.read
 have H3:Hid (Fz w0 w3 (kb b0 42 row0 :: X)):=H1.out.later hmade.below
 rw[HCK.out]
 clear hmade H1
 go_simp
 refine hKc.out _ _ (H3.out.pv (i:=i+1) hi) fun hHeld=>?_
 clear hKc Kc
 refine tk 14 hHeld ?_
 refine tk 15 hHeld ?_
 refine tk 16 hHeld ?_
 refine tk 17 hHeld ?_
 refine tk 18 hHeld ?_
 clear hHeld
 refine wpAnyH_done (by kernel_rfl) (NoPanic.normal ?_) _
 have c0:=(H3.out.pv (i:=i+1) hi).c0
 go_wp2_with fail
 refine (p_write (j:=j+1) H3.out hj hk (Int.le_refl 0) hn0 HM.out).mono ?_
 rintro e w4 ⟨rfl,h4⟩
 have hi4:(X.set j (kd p n (D.wr 0 (encS (supN x)))))[i]?=some (kr P (some p) x):=by rw[List.getElem?_set_ne (Ne.symm hij)];exact hi
 have f0:w4.frozen? ⟨P,6,none⟩=false:=by obtain ⟨G,v,hp,-⟩:=h4.atr (i:=i+1) hi4;exact hp.frozen 6
 obtain ⟨c6,h5⟩:=Fz.goes (i:=i+1) h4 hi4 HN1.out (s:=5) (by decide)
 obtain ⟨w5,hw5⟩:∃W,w4.setCell ⟨P,6,none⟩ (.int .i64 5)=W:=⟨_,rfl⟩
 have H5:Hid (Fz w0 w5 (kb b0 42 row0 :: (X.set j (kd p n (D.wr 0 (encS (supN x))))).set i (kr P (some p) { x with st:=5 }))):=by rw[← hw5];exact h5
 have c7:=(H5.out.pv (i:=i+1) (by show ((X.set j (kd p n (D.wr 0 (encS (supN x))))).set i _)[i]?=_;rw[List.getElem?_set_self (by rw[List.length_set];exact (List.getElem?_eq_some_iff.1 hi).1)])).t7 (by show (5:Int)≠1;decide)
 have HBD:Hid (_):=build_row6 w5 16 (x.en+x.c.lc)
 obtain ⟨wz,hst,hlz,hfz⟩:=H5.out.laid (r:=⟨16,-1,zv,x.en+x.c.lc,0⟩) (zs_len 32)
 have HST:Hid (_):=hst
 have HLz:Hid (_):=hlz
 have HFz:Hid (_):=hfz
 clear h4 h5 hst hlz hfz H5 H3 HM hj hi hi4 c0 HAL
 go_wp2_with ((with_reducible refine at_ops ?_);(first | (refine wpList_build_is (vs:=[(0,.int .i64 16),(4,.int .i64 (-1)),(6,.int .u64 (x.en+x.c.lc))]) (by rfl) 42 rfl (by rfl) HBD.out ?_) | (refine wpList_store_is (by rfl) 42 rfl rfl rfl HST.out ?_));simp only[Act.put,zA,zB,zC])
 (try simp only[Exit.inBlock,Exit.then])
 exact bodyPost_ret (results_lat results39 _ _ _ 42 _ _ (by rfl) HLz.out underlying42 rfl (by rw[size_row,rowc_len (zs_len 32)])) rfl ⟨rfl,HFz.out⟩
end
section
variable {ops:Array Oper} {o:Oper} {a:Act} {w w':World} {K:Act→World→Prop} {Q:Exit→Act→World→Prop} {E:Prop} {P:Program}
theorem step_store_is (hg:o.guard=none)(ty:TypeId){x y:Operand}(ho:o.op=.store ty x y){p v:Value}(hx:a.eval x=p)(hy:a.eval y=v)(hr:(Instr.storeAt ty p v).run P w=.ok () w')(hK:K (a.put o.dst undef) w'):if Region.wanted o (yielded ops a.tmps)=true then Oper.wp P o a w K Q else E:=by
 have hw:Region.wanted o (yielded ops a.tmps)=true:=by simp[Region.wanted,hg]
 rw[if_pos hw]
 have hrun:(execOp a.eval o).run P w=.ok .skip w':=by unfold execOp;simp only[ho,hx,hy,Sem.run_bind,hr,Result.andThen_ok,Sem.run_pure]
 unfold Oper.wp
 rw[hrun]
 exact hK
theorem step_alloc_is (hg:o.guard=none)(ty:TypeId)(ho:o.op=.alloc ty){v:Value}(hr:(Instr.alloc ty true (.tuple #[])).run P w=.ok v w')(hK:K (a.put o.dst v) w'):if Region.wanted o (yielded ops a.tmps)=true then Oper.wp P o a w K Q else E:=by
 have hw:Region.wanted o (yielded ops a.tmps)=true:=by simp[Region.wanted,hg]
 rw[if_pos hw]
 have hrun:(execOp a.eval o).run P w=.ok (.value v) w':=by unfold execOp;simp only[ho,Sem.run_bind,hr,Result.andThen_ok,Sem.run_pure]
 unfold Oper.wp
 rw[hrun]
 exact hK
end
def Th.txs (v:Value)(l:List TX)(vs:List Value):Th:=⟨fun w _=>XOwn 207 w 0 v l vs,fun b=>v.ownBlock=some b∨∃k u,vs[k]?=some u∧k<l.length∧u.ownBlock=some b,fun _ _ b h hb=>by
 rcases hb with hb | ⟨k,u,h1,h2,hb⟩
 ·exact (World.ownsRow.lt h.row b hb).2
 ·exact (World.ownsRow.lt (h.each k l[k] u (List.getElem?_eq_getElem h2) h1) b hb).2,fun w w' _ _ _ h hk hf _ _=>by
 have hr:∀{e s:Nat} {v:Value} {n:Nat} {xs:List Value},w.ownsRow 0 e s v n xs→(∀k,v.ownBlock=some k→w'.heap[k]?=w.heap[k]?)→w'.ownsRow 0 e s v n xs:=fun a b=>own_same a b
 exact⟨h.len,hr h.row fun k e=>hk.block k (World.ownsRow.lt h.row k e).2 (hf k (.inl e)),fun k t u a b=>hr (h.each k t u a b) fun g e=>hk.block g (World.ownsRow.lt (h.each k t u a b) g e).2 (hf g (.inr ⟨k,u,b,(List.getElem?_eq_some_iff.1 a).1,e⟩)),h.wf⟩⟩
def Th.ims (v:Value)(l:List Im):Th:=⟨fun w _=>IOwn w 0 v l,fun b=>v.ownBlock=some b,fun _ _ b h hb=>(World.ownsRow.lt h b hb).2,fun _ _ _ _ _ h hk hf _ _=>own_same h fun k e=>hk.block k (World.ownsRow.lt h k e).2 (hf k e)⟩
def kx (v:Value)(l:List TX):Kd:=fun t=>∃vs,t=Th.txs v l vs
def ko (v:Value)(l:List Im):Kd:=fun t=>t=Th.ims v l
section
variable {w0 w w':World} {X:List Kd} {i j P p n:Nat} {q:Option Nat} {D:Dd} {x:Rc} {v:Value}
theorem own_zero {w:World}{B e s n:Nat}{v:Value}{xs:List Value}(h:w.ownsRow B e s v n xs):w.ownsRow 0 e s v n xs:=own_at h (fun _ _=>Nat.zero_le _) rfl
theorem p_read (ht:Tab w0)(h:Fz w0 w X)(hj:X[j]?=some (kd p n D))(c:Sup):Calls prog 76 #[qp p,.agg (ccells c).toArray] w fun e w'=>∃a m,e=.returned (.tuple #[.agg (gcells (lgS n c D).tail (lgS n c D).life (lgS n c D).fin (.slice a (lgS n c D).txs.length m)).toArray,.int .i64 (rdL c n D.rd).2])∧Fz w0 w' (kx (.slice a (lgS n c D).txs.length m) (lgS n c D).txs :: X):=by
 obtain ⟨S,hd,_,_⟩:=h.atd hj
 refine (read_any10 hd (h.tab ht) c).mono ?_
 rintro e w' ⟨a,m,vs,rfl,hx,hr,hb⟩
 refine⟨a,m,rfl,h.push hb (u:=.txs _ _ vs) (fun _=>⟨hx.len,own_zero hx.row,fun k t u e1 e2=>own_zero (hx.each k t u e1 e2),hx.wf⟩) (fun b hb=>?_) ⟨vs,rfl⟩⟩
 rcases hb with hb | ⟨k,u,h1,h2,hb⟩
 ·exact (World.ownsRow.lt hx.row b hb).1
 ·exact (World.ownsRow.lt (hx.each k _ u (List.getElem?_eq_getElem h2) h1) b hb).1
theorem p_newest (h:Fz w0 w X){a:Option Addr}{m c:Nat}{l:List TX}(hj:X[j]?=some (kx (.slice a m c) l))(hn:l.length≤2000000)(hf:(flat l).length≤2000000):Calls prog 77 #[.slice a m c] w fun e w'=>∃v,e=.returned v∧Fz w0 w' (ko v (nwS (flat l)) :: X):=by
 obtain ⟨t,G,⟨vs,rfl⟩,ha,-⟩:=h.at hj
 obtain ⟨a',c',e,hx,_,_⟩:=XOwn.in ha
 cases e
 refine (newest_any a _ c l w hx ha.wf hn hf).mono ?_
 rintro e w' ⟨v,rfl,ho,hb⟩
 exact⟨v,rfl,h.push hb (u:=.ims v _) (fun _=>own_zero ho) (fun b hb=>(World.ownsRow.lt ho b hb).1) rfl⟩
theorem Fz.swap {k k':Kd}(h:Fz w0 w (k :: k' :: X)):Fz w0 w (k' :: k :: X) :=
 h.pick (fun i=>if i=0 then 1 else if i=1 then 0 else i) (fun i hi=>by
  match i,hi with
  | 0,_=>exact⟨by simp,rfl⟩
  | 1,_=>exact⟨by simp,rfl⟩
  | i+2,hi=>exact⟨by simpa using hi,rfl⟩) (fun i j _ _ e=>by
  have e:(if i=0 then 1 else if i=1 then 0 else i)=(if j=0 then 1 else if j=1 then 0 else j):=e
  split at e <;> split at e <;> (try split at e) <;> (try split at e) <;> omega)
theorem Fz.openr (h:Fz w0 w X)(hi:X[i]?=some (kr P q x))(hl:x.left=[]):∃a c,Fz w0 w (X.set i (kb P 112 (pcl q x (.slice a 0 c)))):=by
 obtain ⟨t,G,⟨v,rfl⟩,ha,hf,hL⟩:=h.at hi
 have hlf:=ha.lf
 rw[hl] at hlf
 obtain ⟨a,c,e,-⟩:=hlf.ex
 have e:v=.slice a 0 c:=e
 subst e
 exact⟨a,c,hL w (.blk P 112 _) G (fun _=>False) _ ha.str (Kept.refl _ w) (fun _ _ e=>e.elim) (fun b hb=>.inl hb) (fun _ e=>e) (fun _ e=>.inl e) rfl⟩
theorem Fz.shut {l:List Im}(h:Fz w0 w (ko v l :: X))(hi:X[i]?=some (kb P 112 (pcl q x v)))(hl:x.left=l)(hw:ImsWf l):Fz w0 w (X.set i (kr P q x)):=by
 obtain ⟨T,G,hF,hb,hX⟩:=h
 cases T with
 | nil=>exact hX.elim
 | cons t T =>
  obtain ⟨rfl,hX⟩:=hX
  obtain ⟨u,hu,rfl⟩:=hX.get hi
  have ho:IOwn w 0 v l:=hF.at' 0 _ rfl
  have hF2:Fam w0 w T (fun g=>G g∨v.ownBlock=some g):=⟨fun j t e=>t.kept' w w G _ (fun _=>False) (hF.at' (j+1) t (by simpa using e)) (Kept.refl _ w) (fun _ _ e=>e) (fun _ _ _ e=>e) (fun _ e=>.inl e),fun j t e=>hF.lo (j+1) t (by simpa using e),fun a b t u e1 e2 hne=>hF.apart (a+1) (b+1) t u (by simpa using e1) (by simpa using e2) (by omega),fun j t e b hb hg=>by
   rcases hg with hg | hg
   ·exact hF.im (j+1) t (by simpa using e) b hb hg
   ·exact hF.apart (j+1) 0 t _ (by simpa using e) rfl (by omega) b hb hg,fun g hg=>by
   rcases hg with hg | hg
   ·exact hF.glt g hg
   ·exact (World.ownsRow.lt ho g hg).2⟩
  have hs:w.heap[P]?=some (.cells (pcl q x v).toArray 112 (0,0)):=hF2.at' i _ hu
  refine⟨T.set i (.prc P q x v),_,hF2.turn (S:=fun _=>False) hu (t':=.prc P q x v) ⟨hs,by rw[hl];exact Lf.of_own ho hw⟩ (Kept.refl _ w) (fun _ _ e=>e.elim) (fun b hb=>.inl hb) hb.size (fun _ e=>e) (fun _ e=>.inl e),hb,hX.set i ⟨v,rfl⟩⟩
end
section
variable {w0 w:World} {X:List Kd} {i j P p n:Nat} {q:Option Nat} {D:Dd} {x:Rc}
theorem lgS_bd (hD:D.Ok n)(h:(rdL x.c n D.rd).2=0):(lgS n x.c D).fin≤4611686018427387904+64∧(lgS n x.c D).life≤4611686018427387904:=by
 have h1:=rdL_two h
 have k:=scanS_ok hD.bytes h1
 obtain ⟨m,-,e0,-,es⟩:=supOf_zero h1
 have hm:=(decS_good _ e0).1
 have hlc:=m.2.1
 rw[es] at k
 have f1:_≤(decS (D.rd 0)).1.tail+_:=k.f1
 have ht:=hm.2.1
 have hl:=hm.2.2.2
 unfold lgS
 rw[rdL_ok h1,es]
 refine⟨?_,hl⟩
 show (scRun _ _ _ _ _).fin≤_
 omega
theorem Fz.cell {B:Nat}{ty:TypeId}{cs:List Value}(h:Fz w0 w X)(hi:X[i]?=some (kb B ty cs))(m:Nat)(v:Value):Fz w0 (w.setCell ⟨B,m,none⟩ v) (X.set i (kb B ty (cs.set m v))):=by
 obtain ⟨ha,_,_,hl⟩:=h.atb hi
 have e:=setCell_eq_setRow w B m _ ty (0,0) v ha
 rw[e]
 have:=hl (cs.set m v)
 rwa [show (cs.set m v).toArray=cs.toArray.setIfInBounds m v by simp] at this
theorem read_bad (ht:Tab w0)(h:Fz w0 w X)(hi:X[i]?=some (kr P (some p) x))(hj:X[j]?=some (kd p n D))(he:(rdL x.c n D.rd).2≠0):Calls prog 41 #[qp P] w fun e w'=>e=.returned (.tuple #[.agg row0.toArray,.int .i64 (rdL x.c n D.rd).2])∧Fz w0 w' X:=by
 obtain ⟨w1,hal,hb1,h1⟩:=h.rowbox
 generalize w.heap.size=b0 at h1 hal hb1
 have HAL:Hid (_):=hal
 have H2:Hid (Fz w0 w1.drew (kb b0 42 row0 :: X)):=h1.later (below_drawn 1)
 have hq:((rdL x.c n D.rd).2 != 0)=true:=by simp[he]
 clear h hal h1 hb1
 go_enter func41,ntmps41
 go_wp2_with ((with_reducible refine at_ops ?_);(refine wpList_alloc_is (by rfl) 42 rfl HAL.out ?_);simp only[Act.put,zA,zB,zC])
 refine wp_region_noPanic ?_
 refine wp_region_held_drew (S:=fun W=>Pv P (some p) x W) (by kernel_rfl) (H2.out.pv (i:=i+1) hi) (fun hHeld=>?_)
 generalize w1.drew=w2 at *
 refine tk 0 hHeld ?_
 refine tk 1 hHeld ?_
 refine tk 2 hHeld ?_
 refine tkl 3 hHeld (fun _ s=>s.c0) ?_
 refine tk 4 hHeld ?_
 refine tk 5 hHeld ?_
 refine tk 6 hHeld ?_
 refine tkm 7 hHeld (fun _ s=>s.loadC) ?_
 refine wpAnyH_ready (rs:=[8,12]) (by kernel_rfl) (by simp) ?_
 refine AllReadyH.cons (by simp;rfl) (fun Kc hKc=>?_) (AllReadyH.cons (by simp;rfl) (fun Kc hKc=>?_) AllReadyH.nil)
 ·go_simp
  refine (p_read ht H2.out (j:=j+1) hj x.c).mono ?_
  rintro e wx1 ⟨qa,qc,rfl,hd⟩
  have HD1:Hid (Fz w0 wx1 (kx (.slice qa (lgS n x.c D).txs.length qc) (lgS n x.c D).txs :: kb b0 42 row0 :: X)):=hd
  clear hd H2
  go_simp
  refine hKc.out _ _ (HD1.out.pv (i:=i+2) hi) (fun hHeld=>?_)
  clear hKc Kc
  refine tk 9 hHeld ?_
  refine tk 10 hHeld ?_
  refine tk 11 hHeld ?_
  refine tkr 12 fun Kc hKc=>?_
  obtain ⟨RN,hRN⟩:∃B,wx1.heap.size=B:=⟨_,rfl⟩
  have hdv:=HD1.out.newa (gcells 0 0 0 (.slice none 0 0)) 165
  have hal:=allocLg wx1
  rw[hRN] at hdv hal
  refine step_alloc_is (by rfl) 165 rfl hal ?_
  simp only[Act.put,zA,zB,zC]
  have HD2:Hid (Fz w0 (wx1.alloc (.cells (gcells 0 0 0 (.slice none 0 0)).toArray 165)) (kb RN 165 (gcells 0 0 0 (.slice none 0 0)) :: kx (.slice qa (lgS n x.c D).txs.length qc) (lgS n x.c D).txs :: kb b0 42 row0 :: X)):=hdv
  clear hdv hal hRN HD1
  generalize wx1.alloc (.cells (gcells 0 0 0 (.slice none 0 0)).toArray 165)=wx2 at *
  refine hKc.out _ _ (HD2.out.pv (i:=i+3) hi) (fun hHeld=>?_)
  clear hKc Kc
  refine tkr 13 fun Kc hKc=>?_
  obtain ⟨hla,-,-,hlb⟩:=HD2.out.atb (i:=0) rfl
  have hst:=LAt.store hla (ds:=(gcells (lgS n x.c D).tail (lgS n x.c D).life (lgS n x.c D).fin (.slice qa (lgS n x.c D).txs.length qc))) (by rw[sizeLg];rfl) rfl (by simp[gcells,Value.oneCell'])
  have hds:=hlb (gcells (lgS n x.c D).tail (lgS n x.c D).life (lgS n x.c D).fin (.slice qa (lgS n x.c D).txs.length qc))
  refine step_store_is (by rfl) 165 rfl rfl rfl hst ?_
  simp only[Act.put]
  have HD3:Hid (Fz w0 (wx2.setRow RN (gcells (lgS n x.c D).tail (lgS n x.c D).life (lgS n x.c D).fin (.slice qa (lgS n x.c D).txs.length qc)).toArray) (kb RN 165 (gcells (lgS n x.c D).tail (lgS n x.c D).life (lgS n x.c D).fin (.slice qa (lgS n x.c D).txs.length qc)) :: kx (.slice qa (lgS n x.c D).txs.length qc) (lgS n x.c D).txs :: kb b0 42 row0 :: X)):=hds
  clear hds hst hla hlb HD2
  generalize wx2.setRow RN (gcells (lgS n x.c D).tail (lgS n x.c D).life (lgS n x.c D).fin (.slice qa (lgS n x.c D).txs.length qc)).toArray=wx3 at *
  refine hKc.out _ _ (HD3.out.pv (i:=i+3) hi) (fun hHeld=>?_)
  clear hKc Kc
  refine tk 14 hHeld ?_
  clear hHeld
  refine wpAnyH_done (by kernel_rfl) (NoPanic.normal ?_) _
  have HZ:=HD3.out
  have H9:Hid (Fz w0 wx3 (kb RN 165 (gcells (lgS n x.c D).tail (lgS n x.c D).life (lgS n x.c D).fin (.slice qa (lgS n x.c D).txs.length qc)) :: kx (.slice qa (lgS n x.c D).txs.length qc) (lgS n x.c D).txs :: kb b0 42 row0 :: X)):=HZ
  clear HZ HD3
  generalize wx3=w9 at *
  have HBD:Hid (_):=build_row0 w9
  obtain ⟨wz,hst,hlz,hfz⟩:=(Fz.pop (Fz.pop H9.out)).laid (r:=⟨0,0,zv,0,0⟩) (zs_len 32)
  have HST:Hid (_):=hst
  have HLz:Hid (_):=hlz
  have HFz:Hid (_):=hfz
  clear hst hlz hfz H9
  go_wp2_with ((with_reducible refine at_ops ?_);(first | (refine wpList_build_is (vs:=[]) (by rfl) 42 rfl (by rfl) HBD.out ?_) | (refine wpList_store_is (by rfl) 42 rfl rfl rfl HST.out ?_));simp only[Act.put,zA,zB,zC])
  (try simp only[Exit.inBlock,Exit.then])
  exact bodyPost_ret (results_lat results41 _ _ _ 42 _ _ (by rfl) HLz.out underlying42 rfl (by rw[size_row,rowc_len (zs_len 32)])) rfl ⟨rfl,HFz.out⟩
 ·obtain ⟨RN,hRN⟩:∃B,w2.heap.size=B:=⟨_,rfl⟩
  have hdv:=H2.out.newa (gcells 0 0 0 (.slice none 0 0)) 165
  have hal:=allocLg w2
  rw[hRN] at hdv hal
  refine step_alloc_is (by rfl) 165 rfl hal ?_
  simp only[Act.put,zA,zB,zC]
  have HD1:Hid (Fz w0 (w2.alloc (.cells (gcells 0 0 0 (.slice none 0 0)).toArray 165)) (kb RN 165 (gcells 0 0 0 (.slice none 0 0)) :: kb b0 42 row0 :: X)):=hdv
  clear hdv hal hRN H2
  generalize w2.alloc (.cells (gcells 0 0 0 (.slice none 0 0)).toArray 165)=wx1 at *
  refine hKc.out _ _ (HD1.out.pv (i:=i+2) hi) (fun hHeld=>?_)
  clear hKc Kc
  refine tkr 8 fun Kc hKc=>?_
  go_simp
  refine (p_read ht HD1.out (j:=j+2) hj x.c).mono ?_
  rintro e wx2 ⟨qa,qc,rfl,hd⟩
  have HD2:Hid (Fz w0 wx2 (kx (.slice qa (lgS n x.c D).txs.length qc) (lgS n x.c D).txs :: kb RN 165 (gcells 0 0 0 (.slice none 0 0)) :: kb b0 42 row0 :: X)):=hd
  clear hd HD1
  go_simp
  refine hKc.out _ _ (HD2.out.pv (i:=i+3) hi) (fun hHeld=>?_)
  clear hKc Kc
  refine tk 9 hHeld ?_
  refine tk 10 hHeld ?_
  refine tk 11 hHeld ?_
  refine tkr 13 fun Kc hKc=>?_
  obtain ⟨hla,-,-,hlb⟩:=HD2.out.atb (i:=1) rfl
  have hst:=LAt.store hla (ds:=(gcells (lgS n x.c D).tail (lgS n x.c D).life (lgS n x.c D).fin (.slice qa (lgS n x.c D).txs.length qc))) (by rw[sizeLg];rfl) rfl (by simp[gcells,Value.oneCell'])
  have hds:=hlb (gcells (lgS n x.c D).tail (lgS n x.c D).life (lgS n x.c D).fin (.slice qa (lgS n x.c D).txs.length qc))
  refine step_store_is (by rfl) 165 rfl rfl rfl hst ?_
  simp only[Act.put]
  have HD3:Hid (Fz w0 (wx2.setRow RN (gcells (lgS n x.c D).tail (lgS n x.c D).life (lgS n x.c D).fin (.slice qa (lgS n x.c D).txs.length qc)).toArray) (kx (.slice qa (lgS n x.c D).txs.length qc) (lgS n x.c D).txs :: kb RN 165 (gcells (lgS n x.c D).tail (lgS n x.c D).life (lgS n x.c D).fin (.slice qa (lgS n x.c D).txs.length qc)) :: kb b0 42 row0 :: X)):=hds
  clear hds hst hla hlb HD2
  generalize wx2.setRow RN (gcells (lgS n x.c D).tail (lgS n x.c D).life (lgS n x.c D).fin (.slice qa (lgS n x.c D).txs.length qc)).toArray=wx3 at *
  refine hKc.out _ _ (HD3.out.pv (i:=i+3) hi) (fun hHeld=>?_)
  clear hKc Kc
  refine tk 14 hHeld ?_
  clear hHeld
  refine wpAnyH_done (by kernel_rfl) (NoPanic.normal ?_) _
  have HZ:=Fz.swap HD3.out
  have H9:Hid (Fz w0 wx3 (kb RN 165 (gcells (lgS n x.c D).tail (lgS n x.c D).life (lgS n x.c D).fin (.slice qa (lgS n x.c D).txs.length qc)) :: kx (.slice qa (lgS n x.c D).txs.length qc) (lgS n x.c D).txs :: kb b0 42 row0 :: X)):=HZ
  clear HZ HD3
  generalize wx3=w9 at *
  have HBD:Hid (_):=build_row0 w9
  obtain ⟨wz,hst,hlz,hfz⟩:=(Fz.pop (Fz.pop H9.out)).laid (r:=⟨0,0,zv,0,0⟩) (zs_len 32)
  have HST:Hid (_):=hst
  have HLz:Hid (_):=hlz
  have HFz:Hid (_):=hfz
  clear hst hlz hfz H9
  go_wp2_with ((with_reducible refine at_ops ?_);(first | (refine wpList_build_is (vs:=[]) (by rfl) 42 rfl (by rfl) HBD.out ?_) | (refine wpList_store_is (by rfl) 42 rfl rfl rfl HST.out ?_));simp only[Act.put,zA,zB,zC])
  (try simp only[Exit.inBlock,Exit.then])
  exact bodyPost_ret (results_lat results41 _ _ _ 42 _ _ (by rfl) HLz.out underlying42 rfl (by rw[size_row,rowc_len (zs_len 32)])) rfl ⟨rfl,HFz.out⟩
theorem lg1 {W:World}{B:Nat}{t l f:Int}{v:Value}(h:LAt 165 W B (gcells t l f v)):W.cell? ⟨B,1,none⟩=some (.int .u64 l):=by rw[LAt.cell h 1];rfl
theorem lg2 {W:World}{B:Nat}{t l f:Int}{v:Value}(h:LAt 165 W B (gcells t l f v)):W.cell? ⟨B,2,none⟩=some (.int .u64 f):=by rw[LAt.cell h 2];rfl
theorem lg3 {W:World}{B:Nat}{t l f:Int}{v:Value}(h:LAt 165 W B (gcells t l f v)):W.cell? ⟨B,3,none⟩=some v:=by rw[LAt.cell h 3];rfl
theorem read_wrap (ht:Tab w0)(h:Fz w0 w X)(hi:X[i]?=some (kr P (some p) x))(hj:X[j]?=some (kd p n D))(ok:x.Ok n)(hz:(rdL x.c n D.rd).2=0)(hw:wrapS x.c (lgS n x.c D)):Calls prog 41 #[qp P] w fun e w'=>e=.returned (.tuple #[.agg row0.toArray,.int .i64 31])∧Fz w0 w' X:=by
 have HZ0:Hid ((rdL x.c n D.rd).2=0):=hz
 have hlw:=lgS_wf (x:=x) (h.dok hj)
 have hmc:=ok.mc
 have hbd:=lgS_bd (x:=x) (h.dok hj) hz
 obtain ⟨w1,hal,hb1,h1⟩:=h.rowbox
 generalize w.heap.size=b0 at h1 hal hb1
 have HAL:Hid (_):=hal
 have H2:Hid (Fz w0 w1.drew (kb b0 42 row0 :: X)):=h1.later (below_drawn 1)
 clear h hal h1 hb1
 go_enter func41,ntmps41
 go_wp2_with ((with_reducible refine at_ops ?_);(refine wpList_alloc_is (by rfl) 42 rfl HAL.out ?_);simp only[Act.put,zA,zB,zC])
 refine wp_region_noPanic ?_
 refine wp_region_held_drew (S:=fun W=>Pv P (some p) x W) (by kernel_rfl) (H2.out.pv (i:=i+1) hi) (fun hHeld=>?_)
 generalize w1.drew=w2 at *
 refine tk 0 hHeld ?_
 refine tk 1 hHeld ?_
 refine tk 2 hHeld ?_
 refine tkl 3 hHeld (fun _ s=>s.c0) ?_
 refine tk 4 hHeld ?_
 refine tk 5 hHeld ?_
 refine tk 6 hHeld ?_
 refine tkm 7 hHeld (fun _ s=>s.loadC) ?_
 refine wpAnyH_ready (rs:=[8,12]) (by kernel_rfl) (by simp) ?_
 refine AllReadyH.cons (by simp;rfl) (fun Kc hKc=>?_) (AllReadyH.cons (by simp;rfl) (fun Kc hKc=>?_) AllReadyH.nil)
 ·go_simp
  refine (p_read ht H2.out (j:=j+1) hj x.c).mono ?_
  rintro e wx1 ⟨qa,qc,rfl,hd⟩
  have HD1:Hid (Fz w0 wx1 (kx (.slice qa (lgS n x.c D).txs.length qc) (lgS n x.c D).txs :: kb b0 42 row0 :: X)):=hd
  clear hd H2
  rw[HZ0.out]
  go_simp
  refine hKc.out _ _ (HD1.out.pv (i:=i+2) hi) (fun hHeld=>?_)
  clear hKc Kc
  refine tk 9 hHeld ?_
  refine tk 10 hHeld ?_
  refine tk 11 hHeld ?_
  refine tkr 12 fun Kc hKc=>?_
  obtain ⟨RN,hRN⟩:∃B,wx1.heap.size=B:=⟨_,rfl⟩
  have hdv:=HD1.out.newa (gcells 0 0 0 (.slice none 0 0)) 165
  have hal:=allocLg wx1
  rw[hRN] at hdv hal
  refine step_alloc_is (by rfl) 165 rfl hal ?_
  simp only[Act.put,zA,zB,zC]
  have HD2:Hid (Fz w0 (wx1.alloc (.cells (gcells 0 0 0 (.slice none 0 0)).toArray 165)) (kb RN 165 (gcells 0 0 0 (.slice none 0 0)) :: kx (.slice qa (lgS n x.c D).txs.length qc) (lgS n x.c D).txs :: kb b0 42 row0 :: X)):=hdv
  clear hdv hal hRN HD1
  generalize wx1.alloc (.cells (gcells 0 0 0 (.slice none 0 0)).toArray 165)=wx2 at *
  refine hKc.out _ _ (HD2.out.pv (i:=i+3) hi) (fun hHeld=>?_)
  clear hKc Kc
  refine tkr 13 fun Kc hKc=>?_
  obtain ⟨hla,-,-,hlb⟩:=HD2.out.atb (i:=0) rfl
  have hst:=LAt.store hla (ds:=(gcells (lgS n x.c D).tail (lgS n x.c D).life (lgS n x.c D).fin (.slice qa (lgS n x.c D).txs.length qc))) (by rw[sizeLg];rfl) rfl (by simp[gcells,Value.oneCell'])
  have hds:=hlb (gcells (lgS n x.c D).tail (lgS n x.c D).life (lgS n x.c D).fin (.slice qa (lgS n x.c D).txs.length qc))
  refine step_store_is (by rfl) 165 rfl rfl rfl hst ?_
  simp only[Act.put]
  have HD3:Hid (Fz w0 (wx2.setRow RN (gcells (lgS n x.c D).tail (lgS n x.c D).life (lgS n x.c D).fin (.slice qa (lgS n x.c D).txs.length qc)).toArray) (kb RN 165 (gcells (lgS n x.c D).tail (lgS n x.c D).life (lgS n x.c D).fin (.slice qa (lgS n x.c D).txs.length qc)) :: kx (.slice qa (lgS n x.c D).txs.length qc) (lgS n x.c D).txs :: kb b0 42 row0 :: X)):=hds
  clear hds hst hla hlb HD2
  generalize wx2.setRow RN (gcells (lgS n x.c D).tail (lgS n x.c D).life (lgS n x.c D).fin (.slice qa (lgS n x.c D).txs.length qc)).toArray=wx3 at *
  refine hKc.out _ _ (HD3.out.pv (i:=i+3) hi) (fun hHeld=>?_)
  clear hKc Kc
  refine tk 14 hHeld ?_
  clear hHeld
  refine wpAnyH_done (by kernel_rfl) (NoPanic.normal ?_) _
  have HZ:=HD3.out
  have H9:Hid (Fz w0 wx3 (kb RN 165 (gcells (lgS n x.c D).tail (lgS n x.c D).life (lgS n x.c D).fin (.slice qa (lgS n x.c D).txs.length qc)) :: kx (.slice qa (lgS n x.c D).txs.length qc) (lgS n x.c D).txs :: kb b0 42 row0 :: X)):=HZ
  clear HZ HD3
  generalize wx3=w9 at *
  have H10:Hid (Fz w0 w9.drew (kb RN 165 (gcells (lgS n x.c D).tail (lgS n x.c D).life (lgS n x.c D).fin (.slice qa (lgS n x.c D).txs.length qc)) :: kx (.slice qa (lgS n x.c D).txs.length qc) (lgS n x.c D).txs :: kb b0 42 row0 :: X)):=H9.out.later (below_drawn 1)
  clear H9
  go_wp2_with fail
  refine wp_region_noPanic ?_
  refine wp_region_held_drew (S:=fun W=>Pv P (some p) x W∧LAt 165 W RN (gcells (lgS n x.c D).tail (lgS n x.c D).life (lgS n x.c D).fin (.slice qa (lgS n x.c D).txs.length qc))) (by kernel_rfl) ⟨H10.out.pv (i:=i+3) hi,(H10.out.atb (i:=0) rfl).1⟩ (fun hHeld=>?_)
  generalize w9.drew=w10 at *
  refine tk 0 hHeld ?_
  refine tkl 1 hHeld (fun _ s=>lg2 s.2) ?_
  refine tk 2 hHeld ?_
  refine tk 3 hHeld ?_
  refine tk 4 hHeld ?_
  refine tk 5 hHeld ?_
  refine tkl 6 hHeld (fun _ s=>s.1.c2) ?_
  refine tk 7 hHeld ?_
  refine tk 8 hHeld ?_
  refine tk 9 hHeld ?_
  refine tkl 10 hHeld (fun _ s=>lg1 s.2) ?_
  refine tk 11 hHeld ?_
  refine tk 12 hHeld ?_
  refine tk 13 hHeld ?_
  clear hHeld
  refine wpAnyH_done (by kernel_rfl) (NoPanic.normal ?_) _
  have HW1:Hid (IntKind.u64.wrap x.c.lc=x.c.lc):=by show _=_;rw[IntKind.wrap_u64];omega
  have HW2:Hid (IntKind.u64.wrap ((lgS n x.c D).fin+x.c.lc)=(lgS n x.c D).fin+x.c.lc):=by have a:=hlw.f;have b:=hbd.1;show _=_;rw[IntKind.wrap_u64];unfold u64 at a;omega
  have HW3:Hid (IntKind.u64.wrap ((lgS n x.c D).life+1)=(lgS n x.c D).life+1):=by have a:=hlw.lf;have b:=hbd.2;show _=_;rw[IntKind.wrap_u64];unfold u64 at a;omega
  rw[HW1.out,HW2.out,HW3.out]
  have HBD:Hid (_):=build_row0 w10
  obtain ⟨wz,hst,hlz,hfz⟩:=(Fz.pop (Fz.pop H10.out)).laid (r:=⟨0,0,zv,0,0⟩) (zs_len 32)
  have HST:Hid (_):=hst
  have HLz:Hid (_):=hlz
  have HFz:Hid (_):=hfz
  clear hst hlz hfz H10 HW1 HW2 HW3
  by_cases c1:4611686018427387904<(lgS n x.c D).fin+x.c.lc
  ·go_wp2_with ((with_reducible refine at_ops ?_);(first | (refine wpList_build_is (vs:=[]) (by rfl) 42 rfl (by rfl) HBD.out ?_) | (refine wpList_store_is (by rfl) 42 rfl rfl rfl HST.out ?_));simp only[Act.put,zA,zB,zC])
   (try simp only[Exit.inBlock,Exit.then])
   exact bodyPost_ret (results_lat results41 _ _ _ 42 _ _ (by rfl) HLz.out underlying42 rfl (by rw[size_row,rowc_len (zs_len 32)])) rfl ⟨rfl,HFz.out⟩
  ·have c2:4611686018427387904<(lgS n x.c D).life+1:=hw.resolve_left c1
   go_wp2_with ((with_reducible refine at_ops ?_);(first | (refine wpList_build_is (vs:=[]) (by rfl) 42 rfl (by rfl) HBD.out ?_) | (refine wpList_store_is (by rfl) 42 rfl rfl rfl HST.out ?_));simp only[Act.put,zA,zB,zC])
   (try simp only[Exit.inBlock,Exit.then])
   exact bodyPost_ret (results_lat results41 _ _ _ 42 _ _ (by rfl) HLz.out underlying42 rfl (by rw[size_row,rowc_len (zs_len 32)])) rfl ⟨rfl,HFz.out⟩
 ·obtain ⟨RN,hRN⟩:∃B,w2.heap.size=B:=⟨_,rfl⟩
  have hdv:=H2.out.newa (gcells 0 0 0 (.slice none 0 0)) 165
  have hal:=allocLg w2
  rw[hRN] at hdv hal
  refine step_alloc_is (by rfl) 165 rfl hal ?_
  simp only[Act.put,zA,zB,zC]
  have HD1:Hid (Fz w0 (w2.alloc (.cells (gcells 0 0 0 (.slice none 0 0)).toArray 165)) (kb RN 165 (gcells 0 0 0 (.slice none 0 0)) :: kb b0 42 row0 :: X)):=hdv
  clear hdv hal hRN H2
  generalize w2.alloc (.cells (gcells 0 0 0 (.slice none 0 0)).toArray 165)=wx1 at *
  refine hKc.out _ _ (HD1.out.pv (i:=i+2) hi) (fun hHeld=>?_)
  clear hKc Kc
  refine tkr 8 fun Kc hKc=>?_
  go_simp
  refine (p_read ht HD1.out (j:=j+2) hj x.c).mono ?_
  rintro e wx2 ⟨qa,qc,rfl,hd⟩
  have HD2:Hid (Fz w0 wx2 (kx (.slice qa (lgS n x.c D).txs.length qc) (lgS n x.c D).txs :: kb RN 165 (gcells 0 0 0 (.slice none 0 0)) :: kb b0 42 row0 :: X)):=hd
  clear hd HD1
  rw[HZ0.out]
  go_simp
  refine hKc.out _ _ (HD2.out.pv (i:=i+3) hi) (fun hHeld=>?_)
  clear hKc Kc
  refine tk 9 hHeld ?_
  refine tk 10 hHeld ?_
  refine tk 11 hHeld ?_
  refine tkr 13 fun Kc hKc=>?_
  obtain ⟨hla,-,-,hlb⟩:=HD2.out.atb (i:=1) rfl
  have hst:=LAt.store hla (ds:=(gcells (lgS n x.c D).tail (lgS n x.c D).life (lgS n x.c D).fin (.slice qa (lgS n x.c D).txs.length qc))) (by rw[sizeLg];rfl) rfl (by simp[gcells,Value.oneCell'])
  have hds:=hlb (gcells (lgS n x.c D).tail (lgS n x.c D).life (lgS n x.c D).fin (.slice qa (lgS n x.c D).txs.length qc))
  refine step_store_is (by rfl) 165 rfl rfl rfl hst ?_
  simp only[Act.put]
  have HD3:Hid (Fz w0 (wx2.setRow RN (gcells (lgS n x.c D).tail (lgS n x.c D).life (lgS n x.c D).fin (.slice qa (lgS n x.c D).txs.length qc)).toArray) (kx (.slice qa (lgS n x.c D).txs.length qc) (lgS n x.c D).txs :: kb RN 165 (gcells (lgS n x.c D).tail (lgS n x.c D).life (lgS n x.c D).fin (.slice qa (lgS n x.c D).txs.length qc)) :: kb b0 42 row0 :: X)):=hds
  clear hds hst hla hlb HD2
  generalize wx2.setRow RN (gcells (lgS n x.c D).tail (lgS n x.c D).life (lgS n x.c D).fin (.slice qa (lgS n x.c D).txs.length qc)).toArray=wx3 at *
  refine hKc.out _ _ (HD3.out.pv (i:=i+3) hi) (fun hHeld=>?_)
  clear hKc Kc
  refine tk 14 hHeld ?_
  clear hHeld
  refine wpAnyH_done (by kernel_rfl) (NoPanic.normal ?_) _
  have HZ:=Fz.swap HD3.out
  have H9:Hid (Fz w0 wx3 (kb RN 165 (gcells (lgS n x.c D).tail (lgS n x.c D).life (lgS n x.c D).fin (.slice qa (lgS n x.c D).txs.length qc)) :: kx (.slice qa (lgS n x.c D).txs.length qc) (lgS n x.c D).txs :: kb b0 42 row0 :: X)):=HZ
  clear HZ HD3
  generalize wx3=w9 at *
  have H10:Hid (Fz w0 w9.drew (kb RN 165 (gcells (lgS n x.c D).tail (lgS n x.c D).life (lgS n x.c D).fin (.slice qa (lgS n x.c D).txs.length qc)) :: kx (.slice qa (lgS n x.c D).txs.length qc) (lgS n x.c D).txs :: kb b0 42 row0 :: X)):=H9.out.later (below_drawn 1)
  clear H9
  go_wp2_with fail
  refine wp_region_noPanic ?_
  refine wp_region_held_drew (S:=fun W=>Pv P (some p) x W∧LAt 165 W RN (gcells (lgS n x.c D).tail (lgS n x.c D).life (lgS n x.c D).fin (.slice qa (lgS n x.c D).txs.length qc))) (by kernel_rfl) ⟨H10.out.pv (i:=i+3) hi,(H10.out.atb (i:=0) rfl).1⟩ (fun hHeld=>?_)
  generalize w9.drew=w10 at *
  refine tk 0 hHeld ?_
  refine tkl 1 hHeld (fun _ s=>lg2 s.2) ?_
  refine tk 2 hHeld ?_
  refine tk 3 hHeld ?_
  refine tk 4 hHeld ?_
  refine tk 5 hHeld ?_
  refine tkl 6 hHeld (fun _ s=>s.1.c2) ?_
  refine tk 7 hHeld ?_
  refine tk 8 hHeld ?_
  refine tk 9 hHeld ?_
  refine tkl 10 hHeld (fun _ s=>lg1 s.2) ?_
  refine tk 11 hHeld ?_
  refine tk 12 hHeld ?_
  refine tk 13 hHeld ?_
  clear hHeld
  refine wpAnyH_done (by kernel_rfl) (NoPanic.normal ?_) _
  have HW1:Hid (IntKind.u64.wrap x.c.lc=x.c.lc):=by show _=_;rw[IntKind.wrap_u64];omega
  have HW2:Hid (IntKind.u64.wrap ((lgS n x.c D).fin+x.c.lc)=(lgS n x.c D).fin+x.c.lc):=by have a:=hlw.f;have b:=hbd.1;show _=_;rw[IntKind.wrap_u64];unfold u64 at a;omega
  have HW3:Hid (IntKind.u64.wrap ((lgS n x.c D).life+1)=(lgS n x.c D).life+1):=by have a:=hlw.lf;have b:=hbd.2;show _=_;rw[IntKind.wrap_u64];unfold u64 at a;omega
  rw[HW1.out,HW2.out,HW3.out]
  have HBD:Hid (_):=build_row0 w10
  obtain ⟨wz,hst,hlz,hfz⟩:=(Fz.pop (Fz.pop H10.out)).laid (r:=⟨0,0,zv,0,0⟩) (zs_len 32)
  have HST:Hid (_):=hst
  have HLz:Hid (_):=hlz
  have HFz:Hid (_):=hfz
  clear hst hlz hfz H10 HW1 HW2 HW3
  by_cases c1:4611686018427387904<(lgS n x.c D).fin+x.c.lc
  ·go_wp2_with ((with_reducible refine at_ops ?_);(first | (refine wpList_build_is (vs:=[]) (by rfl) 42 rfl (by rfl) HBD.out ?_) | (refine wpList_store_is (by rfl) 42 rfl rfl rfl HST.out ?_));simp only[Act.put,zA,zB,zC])
   (try simp only[Exit.inBlock,Exit.then])
   exact bodyPost_ret (results_lat results41 _ _ _ 42 _ _ (by rfl) HLz.out underlying42 rfl (by rw[size_row,rowc_len (zs_len 32)])) rfl ⟨rfl,HFz.out⟩
  ·have c2:4611686018427387904<(lgS n x.c D).life+1:=hw.resolve_left c1
   go_wp2_with ((with_reducible refine at_ops ?_);(first | (refine wpList_build_is (vs:=[]) (by rfl) 42 rfl (by rfl) HBD.out ?_) | (refine wpList_store_is (by rfl) 42 rfl rfl rfl HST.out ?_));simp only[Act.put,zA,zB,zC])
   (try simp only[Exit.inBlock,Exit.then])
   exact bodyPost_ret (results_lat results41 _ _ _ 42 _ _ (by rfl) HLz.out underlying42 rfl (by rw[size_row,rowc_len (zs_len 32)])) rfl ⟨rfl,HFz.out⟩
theorem read_good (ht:Tab w0)(h:Fz w0 w X)(hi:X[i]?=some (kr P (some p) x))(hj:X[j]?=some (kd p n D))(ok:x.Ok n)(hs:x.st=1)(hz:(rdL x.c n D.rd).2=0)(hw:¬wrapS x.c (lgS n x.c D)):Calls prog 41 #[qp P] w fun e w'=>e=.returned (.tuple #[.agg (rowc ⟨19,-1,zv,(lgS n x.c D).fin,(lgS n x.c D).txs.length⟩).toArray,.int .i64 0])∧Fz w0 w' (X.set i (kr P (some p) (readR n x D))):=by
 have hbd:=lgS_bd (x:=x) (h.dok hj) hz
 have HL0:Hid (x.left=[]):=ok.non (by omega)
 have hwf:=lgS_wf (x:=x) (h.dok hj)
 have HWN:Hid (ImsWf (nwS (flat (lgS n x.c D).txs))):=nwS_wf (flat_wf hwf.tx)
 have HLN:Hid ((lgS n x.c D).txs.length≤2000000∧(flat (lgS n x.c D).txs).length≤2000000):=by
  obtain ⟨s,e,hs⟩:=lgS_in hz
  have a:=hs.len;have b:=ok.mc.2.1
  rw[e]
  show _∧_
  omega
 have HPC:Hid (∀v:Value,pcl (some p) (readR n x D) v=[qp p,.int .i64 x.c.bl,.int .i64 x.c.lc,.int .i64 x.c.mr,.int .i64 x.c.hi,.int .i64 x.c.cl,.int .i64 (aftS (nwS (flat (lgS n x.c D).txs))),.int .u64 ((lgS n x.c D).fin+x.c.lc),.int .u64 ((lgS n x.c D).life+1),v]):=fun v=>by
  have ho:=aftS_or (nwS (flat (lgS n x.c D).txs))
  have hn:(readR n x D).st≠1:=by show aftS _≠1;omega
  unfold pcl
  rw[tlS_ne hn,lfS_ne hn];rfl
 clear hwf
 have HZ0:Hid ((rdL x.c n D.rd).2=0):=hz
 have hlw:=lgS_wf (x:=x) (h.dok hj)
 have hmc:=ok.mc
 obtain ⟨w1,hal,hb1,h1⟩:=h.rowbox
 generalize w.heap.size=b0 at h1 hal hb1
 have HAL:Hid (_):=hal
 have H2:Hid (Fz w0 w1.drew (kb b0 42 row0 :: X)):=h1.later (below_drawn 1)
 clear h hal h1 hb1
 go_enter func41,ntmps41
 go_wp2_with ((with_reducible refine at_ops ?_);(refine wpList_alloc_is (by rfl) 42 rfl HAL.out ?_);simp only[Act.put,zA,zB,zC])
 refine wp_region_noPanic ?_
 refine wp_region_held_drew (S:=fun W=>Pv P (some p) x W) (by kernel_rfl) (H2.out.pv (i:=i+1) hi) (fun hHeld=>?_)
 generalize w1.drew=w2 at *
 refine tk 0 hHeld ?_
 refine tk 1 hHeld ?_
 refine tk 2 hHeld ?_
 refine tkl 3 hHeld (fun _ s=>s.c0) ?_
 refine tk 4 hHeld ?_
 refine tk 5 hHeld ?_
 refine tk 6 hHeld ?_
 refine tkm 7 hHeld (fun _ s=>s.loadC) ?_
 refine wpAnyH_ready (rs:=[8,12]) (by kernel_rfl) (by simp) ?_
 refine AllReadyH.cons (by simp;rfl) (fun Kc hKc=>?_) (AllReadyH.cons (by simp;rfl) (fun Kc hKc=>?_) AllReadyH.nil)
 ·go_simp
  refine (p_read ht H2.out (j:=j+1) hj x.c).mono ?_
  rintro e wx1 ⟨qa,qc,rfl,hd⟩
  have HD1:Hid (Fz w0 wx1 (kx (.slice qa (lgS n x.c D).txs.length qc) (lgS n x.c D).txs :: kb b0 42 row0 :: X)):=hd
  clear hd H2
  rw[HZ0.out]
  go_simp
  refine hKc.out _ _ (HD1.out.pv (i:=i+2) hi) (fun hHeld=>?_)
  clear hKc Kc
  refine tk 9 hHeld ?_
  refine tk 10 hHeld ?_
  refine tk 11 hHeld ?_
  refine tkr 12 fun Kc hKc=>?_
  obtain ⟨RN,hRN⟩:∃B,wx1.heap.size=B:=⟨_,rfl⟩
  have hdv:=HD1.out.newa (gcells 0 0 0 (.slice none 0 0)) 165
  have hal:=allocLg wx1
  rw[hRN] at hdv hal
  refine step_alloc_is (by rfl) 165 rfl hal ?_
  simp only[Act.put,zA,zB,zC]
  have HD2:Hid (Fz w0 (wx1.alloc (.cells (gcells 0 0 0 (.slice none 0 0)).toArray 165)) (kb RN 165 (gcells 0 0 0 (.slice none 0 0)) :: kx (.slice qa (lgS n x.c D).txs.length qc) (lgS n x.c D).txs :: kb b0 42 row0 :: X)):=hdv
  clear hdv hal hRN HD1
  generalize wx1.alloc (.cells (gcells 0 0 0 (.slice none 0 0)).toArray 165)=wx2 at *
  refine hKc.out _ _ (HD2.out.pv (i:=i+3) hi) (fun hHeld=>?_)
  clear hKc Kc
  refine tkr 13 fun Kc hKc=>?_
  obtain ⟨hla,-,-,hlb⟩:=HD2.out.atb (i:=0) rfl
  have hst:=LAt.store hla (ds:=(gcells (lgS n x.c D).tail (lgS n x.c D).life (lgS n x.c D).fin (.slice qa (lgS n x.c D).txs.length qc))) (by rw[sizeLg];rfl) rfl (by simp[gcells,Value.oneCell'])
  have hds:=hlb (gcells (lgS n x.c D).tail (lgS n x.c D).life (lgS n x.c D).fin (.slice qa (lgS n x.c D).txs.length qc))
  refine step_store_is (by rfl) 165 rfl rfl rfl hst ?_
  simp only[Act.put]
  have HD3:Hid (Fz w0 (wx2.setRow RN (gcells (lgS n x.c D).tail (lgS n x.c D).life (lgS n x.c D).fin (.slice qa (lgS n x.c D).txs.length qc)).toArray) (kb RN 165 (gcells (lgS n x.c D).tail (lgS n x.c D).life (lgS n x.c D).fin (.slice qa (lgS n x.c D).txs.length qc)) :: kx (.slice qa (lgS n x.c D).txs.length qc) (lgS n x.c D).txs :: kb b0 42 row0 :: X)):=hds
  clear hds hst hla hlb HD2
  generalize wx2.setRow RN (gcells (lgS n x.c D).tail (lgS n x.c D).life (lgS n x.c D).fin (.slice qa (lgS n x.c D).txs.length qc)).toArray=wx3 at *
  refine hKc.out _ _ (HD3.out.pv (i:=i+3) hi) (fun hHeld=>?_)
  clear hKc Kc
  refine tk 14 hHeld ?_
  clear hHeld
  refine wpAnyH_done (by kernel_rfl) (NoPanic.normal ?_) _
  have HZ:=HD3.out
  have H9:Hid (Fz w0 wx3 (kb RN 165 (gcells (lgS n x.c D).tail (lgS n x.c D).life (lgS n x.c D).fin (.slice qa (lgS n x.c D).txs.length qc)) :: kx (.slice qa (lgS n x.c D).txs.length qc) (lgS n x.c D).txs :: kb b0 42 row0 :: X)):=HZ
  clear HZ HD3
  generalize wx3=w9 at *
  have H10:Hid (Fz w0 w9.drew (kb RN 165 (gcells (lgS n x.c D).tail (lgS n x.c D).life (lgS n x.c D).fin (.slice qa (lgS n x.c D).txs.length qc)) :: kx (.slice qa (lgS n x.c D).txs.length qc) (lgS n x.c D).txs :: kb b0 42 row0 :: X)):=H9.out.later (below_drawn 1)
  clear H9
  go_wp2_with fail
  refine wp_region_noPanic ?_
  refine wp_region_held_drew (S:=fun W=>Pv P (some p) x W∧LAt 165 W RN (gcells (lgS n x.c D).tail (lgS n x.c D).life (lgS n x.c D).fin (.slice qa (lgS n x.c D).txs.length qc))) (by kernel_rfl) ⟨H10.out.pv (i:=i+3) hi,(H10.out.atb (i:=0) rfl).1⟩ (fun hHeld=>?_)
  generalize w9.drew=w10 at *
  refine tk 0 hHeld ?_
  refine tkl 1 hHeld (fun _ s=>lg2 s.2) ?_
  refine tk 2 hHeld ?_
  refine tk 3 hHeld ?_
  refine tk 4 hHeld ?_
  refine tk 5 hHeld ?_
  refine tkl 6 hHeld (fun _ s=>s.1.c2) ?_
  refine tk 7 hHeld ?_
  refine tk 8 hHeld ?_
  refine tk 9 hHeld ?_
  refine tkl 10 hHeld (fun _ s=>lg1 s.2) ?_
  refine tk 11 hHeld ?_
  refine tk 12 hHeld ?_
  refine tk 13 hHeld ?_
  clear hHeld
  refine wpAnyH_done (by kernel_rfl) (NoPanic.normal ?_) _
  have HW1:Hid (IntKind.u64.wrap x.c.lc=x.c.lc):=by show _=_;rw[IntKind.wrap_u64];omega
  have HW2:Hid (IntKind.u64.wrap ((lgS n x.c D).fin+x.c.lc)=(lgS n x.c D).fin+x.c.lc):=by have a:=hlw.f;have b:=hbd.1;show _=_;rw[IntKind.wrap_u64];unfold u64 at a;omega
  have HW3:Hid (IntKind.u64.wrap ((lgS n x.c D).life+1)=(lgS n x.c D).life+1):=by have a:=hlw.lf;have b:=hbd.2;show _=_;rw[IntKind.wrap_u64];unfold u64 at a;omega
  rw[HW1.out,HW2.out,HW3.out]
  have c1:¬4611686018427387904<(lgS n x.c D).fin+x.c.lc:=fun e=>hw (.inl e)
  have c2:¬4611686018427387904<(lgS n x.c D).life+1:=fun e=>hw (.inr e)
  obtain ⟨a0,m0,h11⟩:=Fz.openr (i:=i+3) H10.out hi HL0.out
  have hlen:=(List.getElem?_eq_some_iff.1 hi).1
  have hP:=(h11.atb (i:=i+3) (List.getElem?_set_self (by simpa using hlen))).1
  have k7:w10.cell? ⟨P,7,none⟩=some (.int .u64 (tlS x)):=by rw[LAt.cell hP 7];rfl
  have k8:w10.cell? ⟨P,8,none⟩=some (.int .u64 (lfS x)):=by rw[LAt.cell hP 8];rfl
  have z7:w10.frozen? ⟨P,7,none⟩=false:=frozen_row hP
  have h12:=Fz.cell (i:=i+3) h11 (List.getElem?_set_self (by simpa using hlen)) 7 (.int .u64 ((lgS n x.c D).fin+x.c.lc))
  rw[List.set_set] at h12
  have hP2:=(h12.atb (i:=i+3) (List.getElem?_set_self (by simpa using hlen))).1
  have z8:(w10.setCell ⟨P,7,none⟩ (.int .u64 ((lgS n x.c D).fin+x.c.lc))).frozen? ⟨P,8,none⟩=false:=frozen_row hP2
  have l8:(w10.setCell ⟨P,7,none⟩ (.int .u64 ((lgS n x.c D).fin+x.c.lc))).cell? ⟨P,8,none⟩=some (.int .u64 (lfS x)):=by rw[LAt.cell hP2 8];rfl
  have h13:=Fz.cell (i:=i+3) h12 (List.getElem?_set_self (by simpa using hlen)) 8 (.int .u64 ((lgS n x.c D).life+1))
  rw[List.set_set] at h13
  obtain ⟨w11,hw11⟩:∃W,(w10.setCell ⟨P,7,none⟩ (.int .u64 ((lgS n x.c D).fin+x.c.lc))).setCell ⟨P,8,none⟩ (.int .u64 ((lgS n x.c D).life+1))=W:=⟨_,rfl⟩
  rw[hw11] at h13
  have H13:Hid (Fz w0 w11 (kb RN 165 (gcells (lgS n x.c D).tail (lgS n x.c D).life (lgS n x.c D).fin (.slice qa (lgS n x.c D).txs.length qc)) :: kx (.slice qa (lgS n x.c D).txs.length qc) (lgS n x.c D).txs :: kb b0 42 row0 :: X.set i (kb P 112 [qp p,.int .i64 x.c.bl,.int .i64 x.c.lc,.int .i64 x.c.mr,.int .i64 x.c.hi,.int .i64 x.c.cl,.int .i64 x.st,.int .u64 ((lgS n x.c D).fin+x.c.lc),.int .u64 ((lgS n x.c D).life+1),.slice a0 0 m0]))):=h13
  have r3:=lg3 (h13.atb (i:=0) rfl).1
  clear h11 h12 h13 hP hP2 H10 HW1 HW2 HW3
  go_wp2_with fail
  refine (p_newest (j:=1) H13.out rfl HLN.out.1 HLN.out.2).mono ?_
  rintro e w12 ⟨v,rfl,h14⟩
  obtain ⟨t,G,rfl,ho,-⟩:=h14.at (i:=0) rfl
  obtain ⟨av,cv,ev,-⟩:=IOwn.in ho HWN.out
  subst ev
  have H14:Hid (Fz w0 w12 (ko (.slice av (nwS (flat (lgS n x.c D).txs)).length cv) (nwS (flat (lgS n x.c D).txs)) :: kb RN 165 (gcells (lgS n x.c D).tail (lgS n x.c D).life (lgS n x.c D).fin (.slice qa (lgS n x.c D).txs.length qc)) :: kx (.slice qa (lgS n x.c D).txs.length qc) (lgS n x.c D).txs :: kb b0 42 row0 :: X.set i (kb P 112 [qp p,.int .i64 x.c.bl,.int .i64 x.c.lc,.int .i64 x.c.mr,.int .i64 x.c.hi,.int .i64 x.c.cl,.int .i64 x.st,.int .u64 ((lgS n x.c D).fin+x.c.lc),.int .u64 ((lgS n x.c D).life+1),.slice a0 0 m0]))):=h14
  have hP:=(h14.atb (i:=i+4) (List.getElem?_set_self (by simpa using hlen))).1
  have k9:w12.cell? ⟨P,9,none⟩=some (.slice a0 0 m0):=by rw[LAt.cell hP 9];rfl
  have z9:w12.frozen? ⟨P,9,none⟩=false:=frozen_row hP
  have h15:=Fz.cell (i:=i+4) H14.out (List.getElem?_set_self (by simpa using hlen)) 9 (.slice av (nwS (flat (lgS n x.c D).txs)).length cv)
  simp only[zC,List.set_set] at h15
  obtain ⟨w13,hw13⟩:∃W,w12.setCell ⟨P,9,none⟩ (.slice av (nwS (flat (lgS n x.c D).txs)).length cv)=W:=⟨_,rfl⟩
  rw[hw13] at h15
  have H15:Hid (Fz w0 w13 (ko (.slice av (nwS (flat (lgS n x.c D).txs)).length cv) (nwS (flat (lgS n x.c D).txs)) :: kb RN 165 (gcells (lgS n x.c D).tail (lgS n x.c D).life (lgS n x.c D).fin (.slice qa (lgS n x.c D).txs.length qc)) :: kx (.slice qa (lgS n x.c D).txs.length qc) (lgS n x.c D).txs :: kb b0 42 row0 :: X.set i (kb P 112 [qp p,.int .i64 x.c.bl,.int .i64 x.c.lc,.int .i64 x.c.mr,.int .i64 x.c.hi,.int .i64 x.c.cl,.int .i64 x.st,.int .u64 ((lgS n x.c D).fin+x.c.lc),.int .u64 ((lgS n x.c D).life+1),.slice av (nwS (flat (lgS n x.c D).txs)).length cv]))):=h15
  clear h14 h15 hP H14 ho H13
  go_wp2_with fail
  refine (homeward_raw (H15.out.atb (i:=i+4) (List.getElem?_set_self (by simpa using hlen))).1).mono ?_
  rintro e w14 ⟨⟨u,rfl⟩,hw14⟩
  have h16:=(H15.out.atb (i:=i+4) (List.getElem?_set_self (by simpa using hlen))).2.2.2 [qp p,.int .i64 x.c.bl,.int .i64 x.c.lc,.int .i64 x.c.mr,.int .i64 x.c.hi,.int .i64 x.c.cl,.int .i64 (aftS (nwS (flat (lgS n x.c D).txs))),.int .u64 ((lgS n x.c D).fin+x.c.lc),.int .u64 ((lgS n x.c D).life+1),.slice av (nwS (flat (lgS n x.c D).txs)).length cv]
  have e14:w13.setRow P ([qp p,.int .i64 x.c.bl,.int .i64 x.c.lc,.int .i64 x.c.mr,.int .i64 x.c.hi,.int .i64 x.c.cl,.int .i64 (aftS (nwS (flat (lgS n x.c D).txs))),.int .u64 ((lgS n x.c D).fin+x.c.lc),.int .u64 ((lgS n x.c D).life+1),.slice av (nwS (flat (lgS n x.c D).txs)).length cv]).toArray=w14:=hw14.symm
  rw[e14] at h16
  simp only[zC,List.set_set] at h16
  rw[← HPC.out] at h16
  have h17:=Fz.shut (x:=readR n x D) (i:=i+3) h16 (List.getElem?_set_self (by simpa using hlen)) rfl HWN.out
  simp only[zC,List.set_set] at h17
  have H17:Hid (Fz w0 w14 (kb RN 165 (gcells (lgS n x.c D).tail (lgS n x.c D).life (lgS n x.c D).fin (.slice qa (lgS n x.c D).txs.length qc)) :: kx (.slice qa (lgS n x.c D).txs.length qc) (lgS n x.c D).txs :: kb b0 42 row0 :: X.set i (kr P (some p) (readR n x D)))):=h17
  have r2:=lg2 (h17.atb (i:=0) rfl).1
  have r3:=lg3 (h17.atb (i:=0) rfl).1
  have HBD:Hid (_):=build_row67 w14 19 (lgS n x.c D).fin (lgS n x.c D).txs.length
  obtain ⟨wz,hst,hlz,hfz⟩:=(Fz.pop (Fz.pop H17.out)).laid (r:=⟨19,-1,zv,(lgS n x.c D).fin,(lgS n x.c D).txs.length⟩) (zs_len 32)
  have HST:Hid (_):=hst
  have HLz:Hid (_):=hlz
  have HFz:Hid (_):=hfz
  clear hst hlz hfz h16 h17 H17 H15 hw14
  go_wp2_with ((with_reducible refine at_ops ?_);(first | (refine wpList_build_is (vs:=[(0,.int .i64 19),(4,.int .i64 (-1)),(6,.int .u64 (lgS n x.c D).fin),(7,.int .i64 (lgS n x.c D).txs.length)]) (by rfl) 42 rfl (by rfl) HBD.out ?_) | (refine wpList_store_is (by rfl) 42 rfl rfl rfl HST.out ?_));simp only[Act.put,zA,zB,zC])
  (try simp only[Exit.inBlock,Exit.then])
  exact bodyPost_ret (results_lat results41 _ _ _ 42 _ _ (by rfl) HLz.out underlying42 rfl (by rw[size_row,rowc_len (zs_len 32)])) rfl ⟨rfl,HFz.out⟩
 ·obtain ⟨RN,hRN⟩:∃B,w2.heap.size=B:=⟨_,rfl⟩
  have hdv:=H2.out.newa (gcells 0 0 0 (.slice none 0 0)) 165
  have hal:=allocLg w2
  rw[hRN] at hdv hal
  refine step_alloc_is (by rfl) 165 rfl hal ?_
  simp only[Act.put,zA,zB,zC]
  have HD1:Hid (Fz w0 (w2.alloc (.cells (gcells 0 0 0 (.slice none 0 0)).toArray 165)) (kb RN 165 (gcells 0 0 0 (.slice none 0 0)) :: kb b0 42 row0 :: X)):=hdv
  clear hdv hal hRN H2
  generalize w2.alloc (.cells (gcells 0 0 0 (.slice none 0 0)).toArray 165)=wx1 at *
  refine hKc.out _ _ (HD1.out.pv (i:=i+2) hi) (fun hHeld=>?_)
  clear hKc Kc
  refine tkr 8 fun Kc hKc=>?_
  go_simp
  refine (p_read ht HD1.out (j:=j+2) hj x.c).mono ?_
  rintro e wx2 ⟨qa,qc,rfl,hd⟩
  have HD2:Hid (Fz w0 wx2 (kx (.slice qa (lgS n x.c D).txs.length qc) (lgS n x.c D).txs :: kb RN 165 (gcells 0 0 0 (.slice none 0 0)) :: kb b0 42 row0 :: X)):=hd
  clear hd HD1
  rw[HZ0.out]
  go_simp
  refine hKc.out _ _ (HD2.out.pv (i:=i+3) hi) (fun hHeld=>?_)
  clear hKc Kc
  refine tk 9 hHeld ?_
  refine tk 10 hHeld ?_
  refine tk 11 hHeld ?_
  refine tkr 13 fun Kc hKc=>?_
  obtain ⟨hla,-,-,hlb⟩:=HD2.out.atb (i:=1) rfl
  have hst:=LAt.store hla (ds:=(gcells (lgS n x.c D).tail (lgS n x.c D).life (lgS n x.c D).fin (.slice qa (lgS n x.c D).txs.length qc))) (by rw[sizeLg];rfl) rfl (by simp[gcells,Value.oneCell'])
  have hds:=hlb (gcells (lgS n x.c D).tail (lgS n x.c D).life (lgS n x.c D).fin (.slice qa (lgS n x.c D).txs.length qc))
  refine step_store_is (by rfl) 165 rfl rfl rfl hst ?_
  simp only[Act.put]
  have HD3:Hid (Fz w0 (wx2.setRow RN (gcells (lgS n x.c D).tail (lgS n x.c D).life (lgS n x.c D).fin (.slice qa (lgS n x.c D).txs.length qc)).toArray) (kx (.slice qa (lgS n x.c D).txs.length qc) (lgS n x.c D).txs :: kb RN 165 (gcells (lgS n x.c D).tail (lgS n x.c D).life (lgS n x.c D).fin (.slice qa (lgS n x.c D).txs.length qc)) :: kb b0 42 row0 :: X)):=hds
  clear hds hst hla hlb HD2
  generalize wx2.setRow RN (gcells (lgS n x.c D).tail (lgS n x.c D).life (lgS n x.c D).fin (.slice qa (lgS n x.c D).txs.length qc)).toArray=wx3 at *
  refine hKc.out _ _ (HD3.out.pv (i:=i+3) hi) (fun hHeld=>?_)
  clear hKc Kc
  refine tk 14 hHeld ?_
  clear hHeld
  refine wpAnyH_done (by kernel_rfl) (NoPanic.normal ?_) _
  have HZ:=Fz.swap HD3.out
  have H9:Hid (Fz w0 wx3 (kb RN 165 (gcells (lgS n x.c D).tail (lgS n x.c D).life (lgS n x.c D).fin (.slice qa (lgS n x.c D).txs.length qc)) :: kx (.slice qa (lgS n x.c D).txs.length qc) (lgS n x.c D).txs :: kb b0 42 row0 :: X)):=HZ
  clear HZ HD3
  generalize wx3=w9 at *
  have H10:Hid (Fz w0 w9.drew (kb RN 165 (gcells (lgS n x.c D).tail (lgS n x.c D).life (lgS n x.c D).fin (.slice qa (lgS n x.c D).txs.length qc)) :: kx (.slice qa (lgS n x.c D).txs.length qc) (lgS n x.c D).txs :: kb b0 42 row0 :: X)):=H9.out.later (below_drawn 1)
  clear H9
  go_wp2_with fail
  refine wp_region_noPanic ?_
  refine wp_region_held_drew (S:=fun W=>Pv P (some p) x W∧LAt 165 W RN (gcells (lgS n x.c D).tail (lgS n x.c D).life (lgS n x.c D).fin (.slice qa (lgS n x.c D).txs.length qc))) (by kernel_rfl) ⟨H10.out.pv (i:=i+3) hi,(H10.out.atb (i:=0) rfl).1⟩ (fun hHeld=>?_)
  generalize w9.drew=w10 at *
  refine tk 0 hHeld ?_
  refine tkl 1 hHeld (fun _ s=>lg2 s.2) ?_
  refine tk 2 hHeld ?_
  refine tk 3 hHeld ?_
  refine tk 4 hHeld ?_
  refine tk 5 hHeld ?_
  refine tkl 6 hHeld (fun _ s=>s.1.c2) ?_
  refine tk 7 hHeld ?_
  refine tk 8 hHeld ?_
  refine tk 9 hHeld ?_
  refine tkl 10 hHeld (fun _ s=>lg1 s.2) ?_
  refine tk 11 hHeld ?_
  refine tk 12 hHeld ?_
  refine tk 13 hHeld ?_
  clear hHeld
  refine wpAnyH_done (by kernel_rfl) (NoPanic.normal ?_) _
  have HW1:Hid (IntKind.u64.wrap x.c.lc=x.c.lc):=by show _=_;rw[IntKind.wrap_u64];omega
  have HW2:Hid (IntKind.u64.wrap ((lgS n x.c D).fin+x.c.lc)=(lgS n x.c D).fin+x.c.lc):=by have a:=hlw.f;have b:=hbd.1;show _=_;rw[IntKind.wrap_u64];unfold u64 at a;omega
  have HW3:Hid (IntKind.u64.wrap ((lgS n x.c D).life+1)=(lgS n x.c D).life+1):=by have a:=hlw.lf;have b:=hbd.2;show _=_;rw[IntKind.wrap_u64];unfold u64 at a;omega
  rw[HW1.out,HW2.out,HW3.out]
  have c1:¬4611686018427387904<(lgS n x.c D).fin+x.c.lc:=fun e=>hw (.inl e)
  have c2:¬4611686018427387904<(lgS n x.c D).life+1:=fun e=>hw (.inr e)
  obtain ⟨a0,m0,h11⟩:=Fz.openr (i:=i+3) H10.out hi HL0.out
  have hlen:=(List.getElem?_eq_some_iff.1 hi).1
  have hP:=(h11.atb (i:=i+3) (List.getElem?_set_self (by simpa using hlen))).1
  have k7:w10.cell? ⟨P,7,none⟩=some (.int .u64 (tlS x)):=by rw[LAt.cell hP 7];rfl
  have k8:w10.cell? ⟨P,8,none⟩=some (.int .u64 (lfS x)):=by rw[LAt.cell hP 8];rfl
  have z7:w10.frozen? ⟨P,7,none⟩=false:=frozen_row hP
  have h12:=Fz.cell (i:=i+3) h11 (List.getElem?_set_self (by simpa using hlen)) 7 (.int .u64 ((lgS n x.c D).fin+x.c.lc))
  rw[List.set_set] at h12
  have hP2:=(h12.atb (i:=i+3) (List.getElem?_set_self (by simpa using hlen))).1
  have z8:(w10.setCell ⟨P,7,none⟩ (.int .u64 ((lgS n x.c D).fin+x.c.lc))).frozen? ⟨P,8,none⟩=false:=frozen_row hP2
  have l8:(w10.setCell ⟨P,7,none⟩ (.int .u64 ((lgS n x.c D).fin+x.c.lc))).cell? ⟨P,8,none⟩=some (.int .u64 (lfS x)):=by rw[LAt.cell hP2 8];rfl
  have h13:=Fz.cell (i:=i+3) h12 (List.getElem?_set_self (by simpa using hlen)) 8 (.int .u64 ((lgS n x.c D).life+1))
  rw[List.set_set] at h13
  obtain ⟨w11,hw11⟩:∃W,(w10.setCell ⟨P,7,none⟩ (.int .u64 ((lgS n x.c D).fin+x.c.lc))).setCell ⟨P,8,none⟩ (.int .u64 ((lgS n x.c D).life+1))=W:=⟨_,rfl⟩
  rw[hw11] at h13
  have H13:Hid (Fz w0 w11 (kb RN 165 (gcells (lgS n x.c D).tail (lgS n x.c D).life (lgS n x.c D).fin (.slice qa (lgS n x.c D).txs.length qc)) :: kx (.slice qa (lgS n x.c D).txs.length qc) (lgS n x.c D).txs :: kb b0 42 row0 :: X.set i (kb P 112 [qp p,.int .i64 x.c.bl,.int .i64 x.c.lc,.int .i64 x.c.mr,.int .i64 x.c.hi,.int .i64 x.c.cl,.int .i64 x.st,.int .u64 ((lgS n x.c D).fin+x.c.lc),.int .u64 ((lgS n x.c D).life+1),.slice a0 0 m0]))):=h13
  have r3:=lg3 (h13.atb (i:=0) rfl).1
  clear h11 h12 h13 hP hP2 H10 HW1 HW2 HW3
  go_wp2_with fail
  refine (p_newest (j:=1) H13.out rfl HLN.out.1 HLN.out.2).mono ?_
  rintro e w12 ⟨v,rfl,h14⟩
  obtain ⟨t,G,rfl,ho,-⟩:=h14.at (i:=0) rfl
  obtain ⟨av,cv,ev,-⟩:=IOwn.in ho HWN.out
  subst ev
  have H14:Hid (Fz w0 w12 (ko (.slice av (nwS (flat (lgS n x.c D).txs)).length cv) (nwS (flat (lgS n x.c D).txs)) :: kb RN 165 (gcells (lgS n x.c D).tail (lgS n x.c D).life (lgS n x.c D).fin (.slice qa (lgS n x.c D).txs.length qc)) :: kx (.slice qa (lgS n x.c D).txs.length qc) (lgS n x.c D).txs :: kb b0 42 row0 :: X.set i (kb P 112 [qp p,.int .i64 x.c.bl,.int .i64 x.c.lc,.int .i64 x.c.mr,.int .i64 x.c.hi,.int .i64 x.c.cl,.int .i64 x.st,.int .u64 ((lgS n x.c D).fin+x.c.lc),.int .u64 ((lgS n x.c D).life+1),.slice a0 0 m0]))):=h14
  have hP:=(h14.atb (i:=i+4) (List.getElem?_set_self (by simpa using hlen))).1
  have k9:w12.cell? ⟨P,9,none⟩=some (.slice a0 0 m0):=by rw[LAt.cell hP 9];rfl
  have z9:w12.frozen? ⟨P,9,none⟩=false:=frozen_row hP
  have h15:=Fz.cell (i:=i+4) H14.out (List.getElem?_set_self (by simpa using hlen)) 9 (.slice av (nwS (flat (lgS n x.c D).txs)).length cv)
  simp only[zC,List.set_set] at h15
  obtain ⟨w13,hw13⟩:∃W,w12.setCell ⟨P,9,none⟩ (.slice av (nwS (flat (lgS n x.c D).txs)).length cv)=W:=⟨_,rfl⟩
  rw[hw13] at h15
  have H15:Hid (Fz w0 w13 (ko (.slice av (nwS (flat (lgS n x.c D).txs)).length cv) (nwS (flat (lgS n x.c D).txs)) :: kb RN 165 (gcells (lgS n x.c D).tail (lgS n x.c D).life (lgS n x.c D).fin (.slice qa (lgS n x.c D).txs.length qc)) :: kx (.slice qa (lgS n x.c D).txs.length qc) (lgS n x.c D).txs :: kb b0 42 row0 :: X.set i (kb P 112 [qp p,.int .i64 x.c.bl,.int .i64 x.c.lc,.int .i64 x.c.mr,.int .i64 x.c.hi,.int .i64 x.c.cl,.int .i64 x.st,.int .u64 ((lgS n x.c D).fin+x.c.lc),.int .u64 ((lgS n x.c D).life+1),.slice av (nwS (flat (lgS n x.c D).txs)).length cv]))):=h15
  clear h14 h15 hP H14 ho H13
  go_wp2_with fail
  refine (homeward_raw (H15.out.atb (i:=i+4) (List.getElem?_set_self (by simpa using hlen))).1).mono ?_
  rintro e w14 ⟨⟨u,rfl⟩,hw14⟩
  have h16:=(H15.out.atb (i:=i+4) (List.getElem?_set_self (by simpa using hlen))).2.2.2 [qp p,.int .i64 x.c.bl,.int .i64 x.c.lc,.int .i64 x.c.mr,.int .i64 x.c.hi,.int .i64 x.c.cl,.int .i64 (aftS (nwS (flat (lgS n x.c D).txs))),.int .u64 ((lgS n x.c D).fin+x.c.lc),.int .u64 ((lgS n x.c D).life+1),.slice av (nwS (flat (lgS n x.c D).txs)).length cv]
  have e14:w13.setRow P ([qp p,.int .i64 x.c.bl,.int .i64 x.c.lc,.int .i64 x.c.mr,.int .i64 x.c.hi,.int .i64 x.c.cl,.int .i64 (aftS (nwS (flat (lgS n x.c D).txs))),.int .u64 ((lgS n x.c D).fin+x.c.lc),.int .u64 ((lgS n x.c D).life+1),.slice av (nwS (flat (lgS n x.c D).txs)).length cv]).toArray=w14:=hw14.symm
  rw[e14] at h16
  simp only[zC,List.set_set] at h16
  rw[← HPC.out] at h16
  have h17:=Fz.shut (x:=readR n x D) (i:=i+3) h16 (List.getElem?_set_self (by simpa using hlen)) rfl HWN.out
  simp only[zC,List.set_set] at h17
  have H17:Hid (Fz w0 w14 (kb RN 165 (gcells (lgS n x.c D).tail (lgS n x.c D).life (lgS n x.c D).fin (.slice qa (lgS n x.c D).txs.length qc)) :: kx (.slice qa (lgS n x.c D).txs.length qc) (lgS n x.c D).txs :: kb b0 42 row0 :: X.set i (kr P (some p) (readR n x D)))):=h17
  have r2:=lg2 (h17.atb (i:=0) rfl).1
  have r3:=lg3 (h17.atb (i:=0) rfl).1
  have HBD:Hid (_):=build_row67 w14 19 (lgS n x.c D).fin (lgS n x.c D).txs.length
  obtain ⟨wz,hst,hlz,hfz⟩:=(Fz.pop (Fz.pop H17.out)).laid (r:=⟨19,-1,zv,(lgS n x.c D).fin,(lgS n x.c D).txs.length⟩) (zs_len 32)
  have HST:Hid (_):=hst
  have HLz:Hid (_):=hlz
  have HFz:Hid (_):=hfz
  clear hst hlz hfz h16 h17 H17 H15 hw14
  go_wp2_with ((with_reducible refine at_ops ?_);(first | (refine wpList_build_is (vs:=[(0,.int .i64 19),(4,.int .i64 (-1)),(6,.int .u64 (lgS n x.c D).fin),(7,.int .i64 (lgS n x.c D).txs.length)]) (by rfl) 42 rfl (by rfl) HBD.out ?_) | (refine wpList_store_is (by rfl) 42 rfl rfl rfl HST.out ?_));simp only[Act.put,zA,zB,zC])
  (try simp only[Exit.inBlock,Exit.then])
  exact bodyPost_ret (results_lat results41 _ _ _ 42 _ _ (by rfl) HLz.out underlying42 rfl (by rw[size_row,rowc_len (zs_len 32)])) rfl ⟨rfl,HFz.out⟩
end
section
variable {w0 w:World} {X:List Kd} {i j P p n:Nat} {q:Option Nat} {D:Dd} {x:Rc}
theorem state_at (h:Fz w0 w X)(hi:X[i]?=some (kr P q x)):Calls prog 11 #[qp P] w fun e w'=>e=.returned (.int .i64 x.st)∧w'=w:=by
 obtain ⟨G,v,hp,-⟩:=h.atr hi
 have c6:=hp.c6
 clear h hp
 go_enter func11,ntmps11
 go_wp2
 go_ret
 exact⟨rfl,rfl⟩
def resS (x:Rc):Int × Int × Bool:=if x.st=6 then (x.en+x.c.lc,x.li+1,true) else (0,0,false)
theorem result_at (h:Fz w0 w X)(hi:X[i]?=some (kr P q x)):Calls prog 15 #[qp P] w fun e w'=>e=.returned (.tuple #[.int .u64 (resS x).1,.int .u64 (resS x).2.1,.bool (resS x).2.2])∧Fz w0 w' X:=by
 have HF:Hid (Fz w0 w X):=h
 clear h
 go_enter func15,ntmps15
 go_wp2_with fail
 refine (state_at HF.out hi).mono ?_
 rintro e w' ⟨rfl,hw'⟩
 rw[hw']
 clear hw' w'
 by_cases h6:x.st=6
 ·have hr:resS x=(x.en+x.c.lc,x.li+1,true):=if_pos h6
  have HN:Hid (x.st≠1):=by show x.st≠1;omega
  have HF2:Hid (Fz w0 w.drew X):=HF.out.later (below_drawn 1)
  clear HF
  go_wp2_with fail
  refine wp_region_noPanic ?_
  refine wp_region_held_drew (S:=fun W=>Pv P q x W) (by kernel_rfl) (HF2.out.pv hi) (fun hHeld=>?_)
  generalize w.drew=w2 at *
  refine tk 0 hHeld ?_
  refine tk 1 hHeld ?_
  refine tk 2 hHeld ?_
  refine tkl 3 hHeld (fun _ s=>s.t7 HN.out) ?_
  refine tk 4 hHeld ?_
  refine tk 5 hHeld ?_
  refine tk 6 hHeld ?_
  refine tkl 7 hHeld (fun _ s=>s.t8 HN.out) ?_
  refine tk 8 hHeld ?_
  refine tk 9 hHeld ?_
  refine tk 10 hHeld ?_
  clear hHeld
  refine wpAnyH_done (by kernel_rfl) (NoPanic.normal ?_) _
  go_wp2
  go_ret3
  exact⟨by rw[hr];rfl,HF2.out⟩
 ·have hr:resS x=(0,0,false):=if_neg h6
  go_wp2
  go_ret3
  exact⟨by rw[hr];rfl,HF.out⟩
theorem clone_any {a:Option Addr}{m c:Nat}{l:List Im}(h:MIn w a m l)(hm:m≤3000000):Calls prog 68 #[.slice a m c] w fun e w'=>∃v,e=.returned v∧IOwn w' w.heap.size v l∧Below w.heap.size w w':=by
 cases a with
 | none =>
  have hm0:m=0:=by
   rcases Nat.eq_zero_or_pos m with e | e
   ·exact e
   ·obtain ⟨b,o,e,-⟩:=h.cells e;cases e
  subst hm0
  have hl:l=[]:=List.length_eq_zero_iff.1 h.len
  subst hl
  clear h
  have hnn:∀w:World,(binOp BinOp.eql 92 (.slice none 0 c) (.slice none 0 0)).run prog w=.ok (.bool true) w:=fun w=>by kernel_rfl
  go_enter func68,ntmps68
  go_wp2
  go_ret
  exact⟨_,rfl,World.ownsRow_nil _ _ _ _,Below.refl _ _⟩
 | some a =>
  obtain ⟨q',c',w',hr,ho,hb⟩:=app_copy (c:=c) h hm
  have HR:Hid (_):=hr
  have HO:Hid (_):=ho
  have HB:Hid (_):=hb
  have hnn:∀w:World,(binOp BinOp.eql 92 (.slice (some a) m c) (.slice none 0 0)).run prog w=.ok (.bool false) w:=fun w=>by kernel_rfl
  clear hr ho hb h
  go_enter func68,ntmps68
  go_wp2_with ((with_reducible refine at_ops ?_);(refine wpList_append_is (by rfl) rfl rfl rfl rfl HR.out ?_);simp only[Act.put,zA,zB,zC])
  go_ret
  exact⟨_,rfl,HO.out,HB.out⟩
theorem left_at (h:Fz w0 w X)(hi:X[i]?=some (kr P q x))(hn:x.left.length≤3000000):Calls prog 30 #[qp P] w fun e w'=>∃v,e=.returned v∧Fz w0 w' (ko v x.left :: X):=by
 obtain ⟨G,v,hp,-⟩:=h.atr hi
 have c9:=hp.c9
 obtain ⟨a,c,e,hm,-⟩:=hp.lf.ex
 rw[e] at c9
 have HM:Hid (MIn w a x.left.length x.left):=hm
 have HF:Hid (Fz w0 w X):=h
 clear h hp hm e
 go_enter func30,ntmps30
 go_wp2_with fail
 refine (clone_any HM.out hn).mono ?_
 rintro e w' ⟨v',rfl,ho,hb⟩
 have HZ:Hid (Fz w0 w' (ko v' x.left :: X)):=HF.out.push hb (u:=.ims v' _) (fun _=>own_zero ho) (fun b hb=>(World.ownsRow.lt ho b hb).1) rfl
 clear ho hb
 go_wp2
 go_ret
 exact⟨_,rfl,HZ.out⟩
end
end Go.Proofs.YtdadpepfpiimgaaGreatDoor.Q
