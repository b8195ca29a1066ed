import Derived.Test.YtcdjepkhdjpjcaaGreatDoorY31
set_option maxHeartbeats 20000000
set_option maxRecDepth 100000
namespace Go.Proofs.YtcdjepkhdjpjcaaGreatDoor.Q
open Go.Proofs.Tryz
open Go.RowKit
def Th.pdsk (S:Nat→Prop)(p n:Nat)(d:List Int)(ws:List Wr):Th:=⟨fun w _=>Dsk w S p n d ws∧∀k,S k→k<w.heap.size,S,fun _ _ _ h hb=>h.2 _ hb,fun _ _ _ _ _ h hk hf _ _=>⟨h.1.kept (toH hk) (fun k a b=>hf k a b),fun k a=>Nat.lt_of_lt_of_le (h.2 k a) hk.size⟩⟩
def Th.rdsk (S:Nat→Prop)(p n:Nat)(d:List Int)(ws:List Wr):Th:=⟨fun w _=>Ref w S p n d ws∧∀k,S k→k<w.heap.size,S,fun _ _ _ h hb=>h.2 _ hb,fun _ _ _ _ _ h hk hf _ _=>⟨h.1.kept (toH hk) (fun k a b=>hf k a b),fun k a=>Nat.lt_of_lt_of_le (h.2 k a) hk.size⟩⟩
def x0 (s:Sup):Sx:=⟨opnG s 0 1,newS s,[],E.newA s.bl s.lc s.mr s.hi s.cl,s.bl,[],false,0,0⟩
theorem mayC_of {s:Sup}(h:MayC s):E.mayC s.bl s.lc s.mr s.hi s.cl:=by
 obtain ⟨⟨a1,a2⟩,⟨b1,b2⟩,⟨c1,c2,c3,c4⟩,⟨d1,d2⟩,e1,e2⟩:=h
 exact⟨a1,a2,b1,b2,c1,c2,c3,c4,d1,d2,e1,e2⟩
theorem opn0 {s:Sup}(h:MayC s):opnS s (cntS s:Nat) 0 1=0:=opnS_ok h (by unfold cntS;obtain ⟨⟨a1,a2⟩,⟨b1,b2⟩,-⟩:=h;omega) (by omega) (by omega)
theorem x0_ok {s:Sup}(h:MayC s):(x0 s).Ok:=⟨opnG_ok (n:=(cntS s:Nat)) (opn0 h) (by omega) (by omega),E.Ad.Ok.new (mayC_of h),C.Okc.new h.1.1 h.1.2,⟨Int.le_refl _,by show (0:Int)≤_;omega⟩,fun _=>rfl⟩
theorem build_pdk (w:World)(K:Ks):(Instr.build 37 #[(0,.agg (ccells K.c).toArray),(1,qp K.dp),(2,qp K.lp),(3,qp K.ap),(4,qp K.kp)]).run prog w=.ok (.agg (pdk K).toArray) w:=run_build w 37 _ _ (by kernel_rfl)
theorem build_rdk (w:World)(K:Ks):(Instr.build 43 #[(0,.agg (ccells K.c).toArray),(1,qp K.dr),(2,qp K.lr),(3,qp K.ar),(4,qp K.kr)]).run prog w=.ok (.agg (rdk K).toArray) w:=run_build w 43 _ _ (by kernel_rfl)
theorem build_desk (w:World)(K:Ks):(Instr.build 46 #[(0,.agg (ccells K.c).toArray),(1,.agg (pdk K).toArray),(2,.agg (rdk K).toArray)]).run prog w=.ok (.agg (dcells K (.slice none 0 0))) w:=run_build w 46 _ _ (by kernel_rfl)
section
variable {w:World}
theorem Fam.start (w:World):Fam w w (fun _=>.no) (fun _=>False):=⟨fun _ _=>trivial,fun _ _ _ h=>h.elim,fun _ _ _ _ _ _ h=>h.elim,fun _ _ _ h=>h.elim,fun _ h=>h.elim⟩
theorem lay_ok (s:Sup)(hc:MayC s)(ht:Tab w):Calls prog 26 #[.agg (ccells s).toArray] w fun e w'=>∃K,e=.returned (.tuple #[qp K.P,.bool true])∧K.c=s∧DS w w' K (x0 s) (x0 s) [] (fun _=>.no):=by
 obtain ⟨w1,hw1⟩:∃W,w.alloc (.cells (ccells s).toArray 23)=W:=⟨_,rfl⟩
 obtain ⟨BC,hBC⟩:∃B,w.heap.size=B:=⟨_,rfl⟩
 have HC:Hid (∀W,Below w1.heap.size w1 W→CAt W BC s):=fun W hb=>by
  have h:CAt w1 BC s:=by rw[← hw1,← hBC];exact LAt.new 23 w (ccells s)
  exact LAt.later h hb
 have B1:Hid (Below w.heap.size w w1):=by rw[← hw1];exact C.below_alloc w _
 have L1:Hid (_):=(HC.out w1 (Below.refl _ _)).load23
 have HS:Hid (1≤s.bl∧s.bl≤64):=hc.1
 have HM:Hid (MayC s):=hc
 have HT:Hid (Tab w):=ht
 have F1:Hid (Fam w w1 (fun _=>.no) (fun _=>False)):=(Fam.start w).later B1.out
 clear hc ht
 go_enter func26,ntmps26
 go_wp2_with ((with_reducible refine C.at_ops ?_);(refine C.wpList_load_is (by rfl) 23 rfl rfl L1.out ?_);simp only[Act.put,zA,zB,zC])
 clear hw1 hBC
 refine (rnew8_good s HM.out _).mono ?_
 rintro e w2 ⟨pr,rfl,hr,b2⟩
 have B2:Hid (Below w1.heap.size w1 w2):=b2
 have F2:Hid (Fam w w2 (put (fun _=>.no) 3 (.rdsk (fun k=>w1.heap.size≤k∧k<w2.heap.size) pr (cntS s) (newS s) [])) (fun _=>False)):=F1.out.fresh B1.out.size b2 3 ⟨hr.mono fun k h1 h2=>⟨h2,h1⟩,fun k h=>h.2⟩ (fun b h=>h.1)
 have L2:Hid (_):=(HC.out w2 b2).load23
 clear hr b2 L1 F1
 go_wp2_with ((with_reducible refine C.at_ops ?_);(refine C.wpList_load_is (by rfl) 23 rfl rfl L2.out ?_);simp only[Act.put,zA,zB,zC])
 refine (hnew_good s HM.out _ (HT.out.later (C.below_then B1.out B2.out))).mono ?_
 rintro e w3 ⟨pp,rfl,hp,b3⟩
 have B3:Hid (Below w1.heap.size w1 w3):=C.below_then B2.out b3
 have F3:Hid (Fam w w3 (put (put (fun _=>.no) 3 (.rdsk (fun k=>w1.heap.size≤k∧k<w2.heap.size) pr (cntS s) (newS s) [])) 0 (.pdsk (fun k=>w2.heap.size≤k∧k<w3.heap.size) pp (cntS s) (newS s) [])) (fun _=>False)):=F2.out.fresh (Nat.le_trans B1.out.size B2.out.size) b3 0 ⟨hp.mono fun k h1 h2=>⟨h2,h1⟩,fun k h=>h.2⟩ (fun b h=>h.1)
 have L3:Hid (_):=(HC.out w3 B3.out).load23
 clear hp b3 L2 F2
 go_wp2_with ((with_reducible refine C.at_ops ?_);(refine C.wpList_load_is (by rfl) 23 rfl rfl L3.out ?_);simp only[Act.put,zA,zB,zC])
 have D3:=F3.out.at' 0 (by decide)
 rw[put_same] at D3
 refine (open_ok s 0 1 (by omega) (by omega) D3.1 (opn0 HM.out)).mono ?_
 rintro e w4 ⟨lp,rfl,hlp,hl,b4⟩
 have B4:Hid (Below w1.heap.size w1 w4):=C.below_then B3.out b4
 obtain ⟨T4,hT4⟩:∃T:Nat→Th,put (put (put (fun _=>.no) 3 (.rdsk (fun k=>w1.heap.size≤k∧k<w2.heap.size) pr (cntS s) (newS s) [])) 0 (.pdsk (fun k=>w2.heap.size≤k∧k<w3.heap.size) pp (cntS s) (newS s) [])) 0 (.plog (fun k=>((w2.heap.size≤k∧k<w3.heap.size)∨w3.heap.size≤k)∧k<w4.heap.size) lp pp (newS s) [] (opnG s 0 1))=T:=⟨_,rfl⟩
 have F4:Hid (Fam w w4 T4 (fun _=>False)):=by
  rw[← hT4]
  exact F3.out.turn (S:=fun _=>False) (by decide) ⟨hl.mono fun k h1 h2=>⟨h2,h1⟩,fun k h=>h.2⟩ (C.Kept.of_below _ b4) (fun _ h=>h.elim) (fun b h=>by rw[put_same];exact h.1) (Nat.le_trans B1.out.size B3.out.size) (fun _ a=>a) (fun _ a=>.inl a)
 have HT4:Hid (T4 0=.plog (fun k=>((w2.heap.size≤k∧k<w3.heap.size)∨w3.heap.size≤k)∧k<w4.heap.size) lp pp (newS s) [] (opnG s 0 1)∧T4 3=.rdsk (fun k=>w1.heap.size≤k∧k<w2.heap.size) pr (cntS s) (newS s) []∧∀i,4≤i→T4 i=.no):=by
  rw[← hT4]
  exact⟨put_same _ _ _,rfl,fun i h=>by rw[put_other _ _ (by omega),put_other _ _ (by omega),put_other _ _ (by omega)]⟩
 have L4:Hid (_):=(HC.out w4 B4.out).load23
 clear hl b4 L3 F3 D3 hT4 hlp
 go_wp2_with ((with_reducible refine C.at_ops ?_);(refine C.wpList_load_is (by rfl) 23 rfl rfl L4.out ?_);simp only[Act.put,zA,zB,zC])
 refine (E.new_ok w4 (mayC_of HM.out)).mono ?_
 rintro e w5 ⟨F,rfl,hl,hF,b5⟩
 have B5:Hid (Below w1.heap.size w1 w5):=C.below_then B4.out b5
 have F5:Hid (Fam w w5 (put T4 1 (.pline { F with G:=fun _=>False } 0 (E.newA s.bl s.lc s.mr s.hi s.cl))) (fun _=>False)):=F4.out.fresh (Nat.le_trans B1.out.size B4.out.size) b5 1 ⟨hl.regrind rfl,fun _ h=>h.elim⟩ (fun b h=>hF b h)
 have C5:w5.cell? ⟨BC,0,none⟩=some (.int .i64 s.bl):=LAt.cell (HC.out w5 B5.out) 0
 clear hl hF b5 L4 F4
 go_wp2_with fail
 refine (C.new_at HS.out.1 HS.out.2 w5).mono ?_
 rintro e w6 ⟨rfl,hk,b6⟩
 have B6:Hid (Below w1.heap.size w1 w6):=C.below_then B5.out b6
 obtain ⟨kp,hkp⟩:∃B,w5.heap.size=B:=⟨_,rfl⟩
 have F6:Hid (Fam w w6 (put (put T4 1 (.pline { F with G:=fun _=>False } 0 (E.newA s.bl s.lc s.mr s.hi s.cl))) 2 (.pcac kp s.bl (.slice none 0 0) [] 0)) (fun _=>False)):=F5.out.fresh (Nat.le_trans B1.out.size B5.out.size) b6 2 (by rw[← hkp];exact hk) (fun b h=>h.elim (fun e=>by omega) fun e=>by cases e)
 have L6:Hid (_):=(HC.out w6 B6.out).load23
 clear hk b6 F5 C5
 go_wp2_with ((with_reducible refine C.at_ops ?_);(refine C.wpList_load_is (by rfl) 23 rfl rfl L6.out ?_);simp only[Act.put,zA,zB,zC])
 have D6:=F6.out.at' 3 (by decide)
 rw[put_other _ _ (by decide),put_other _ _ (by decide),HT4.out.2.1] at D6
 refine (ropen_ok s 0 1 (by omega) (by omega) D6.1 (opn0 HM.out)).mono ?_
 rintro e w7 ⟨lr,rfl,hlr,hl,b7⟩
 have B7:Hid (Below w1.heap.size w1 w7):=C.below_then B6.out b7
 obtain ⟨T7,hT7⟩:∃T:Nat→Th,put (put (put T4 1 (.pline { F with G:=fun _=>False } 0 (E.newA s.bl s.lc s.mr s.hi s.cl))) 2 (.pcac kp s.bl (.slice none 0 0) [] 0)) 3 (.rlog (fun k=>((w1.heap.size≤k∧k<w2.heap.size)∨w6.heap.size≤k)∧k<w7.heap.size) lr pr (newS s) [] (opnG s 0 1) 0)=T:=⟨_,rfl⟩
 have F7:Hid (Fam w w7 T7 (fun _=>False)):=by
  rw[← hT7]
  exact F6.out.turn (S:=fun _=>False) (by decide) ⟨hl.mono fun k h1 h2=>⟨h2,h1⟩,fun k h=>h.2⟩ (C.Kept.of_below _ b7) (fun _ h=>h.elim) (fun b h=>by rw[put_other _ _ (by decide),put_other _ _ (by decide),HT4.out.2.1];exact h.1) (Nat.le_trans B1.out.size B6.out.size) (fun _ a=>a) (fun _ a=>.inl a)
 have HT7:Hid (T7 0=T4 0∧T7 1=.pline { F with G:=fun _=>False } 0 (E.newA s.bl s.lc s.mr s.hi s.cl)∧T7 2=.pcac kp s.bl (.slice none 0 0) [] 0∧T7 3=.rlog (fun k=>((w1.heap.size≤k∧k<w2.heap.size)∨w6.heap.size≤k)∧k<w7.heap.size) lr pr (newS s) [] (opnG s 0 1) 0∧∀i,4≤i→T7 i=.no):=by
  rw[← hT7]
  exact⟨rfl,rfl,rfl,put_same _ _ _,fun i h=>by rw[put_other _ _ (by omega),put_other _ _ (by omega),put_other _ _ (by omega)];exact HT4.out.2.2 i h⟩
 have L7:Hid (_):=(HC.out w7 B7.out).load23
 clear hl b7 L6 F6 D6 hT7 hlr
 go_wp2_with ((with_reducible refine C.at_ops ?_);(refine C.wpList_load_is (by rfl) 23 rfl rfl L7.out ?_);simp only[Act.put,zA,zB,zC])
 refine (E.rnew_ok w7 (mayC_of HM.out)).mono ?_
 rintro e w8 ⟨ar,rfl,hl,har,b8⟩
 have B8:Hid (Below w1.heap.size w1 w8):=C.below_then B7.out b8
 have F8:Hid (Fam w w8 (put T7 4 (.rline ar (E.newA s.bl s.lc s.mr s.hi s.cl))) (fun _=>False)):=F7.out.fresh (Nat.le_trans B1.out.size B7.out.size) b8 4 ⟨_,_,_,_,hl⟩ (fun b h=>by have:b=ar:=h;omega)
 have C8:w8.cell? ⟨BC,0,none⟩=some (.int .i64 s.bl):=LAt.cell (HC.out w8 B8.out) 0
 clear hl b8 L7 F7 har
 go_wp2_with fail
 refine (C.rnew_at HS.out.1 HS.out.2 w8).mono ?_
 rintro e w9 ⟨rfl,hk,b9⟩
 have B9:Hid (Below w1.heap.size w1 w9):=C.below_then B8.out b9
 obtain ⟨kr,hkr⟩:∃B,w8.heap.size=B:=⟨_,rfl⟩
 have F9:Hid (Fam w w9 (put (put T7 4 (.rline ar (E.newA s.bl s.lc s.mr s.hi s.cl))) 5 (.rcac kr s.bl (.slice none 0 0) [] false 0)) (fun _=>False)):=F8.out.fresh (Nat.le_trans B1.out.size B8.out.size) b9 5 (by rw[← hkr];exact hk) (fun b h=>h.elim (fun e=>by omega) fun e=>by cases e)
 have L9:Hid (_):=(HC.out w9 B9.out).load23
 clear hk b9 F8 C8
 have P1:Hid ((Instr.build 37 [(0,.agg (ccells s).toArray),(1,qp pp),(2,qp lp),(3,qp F.Q),(4,qp kp)].toArray).run prog w9=.ok (.agg (pdk (⟨w9.heap.size,pp,lp,F.Q,kp,pr,lr,ar,kr,s⟩:Ks)).toArray) w9):=build_pdk w9 (⟨w9.heap.size,pp,lp,F.Q,kp,pr,lr,ar,kr,s⟩:Ks)
 have P2:Hid ((Instr.build 43 [(0,.agg (ccells s).toArray),(1,qp pr),(2,qp lr),(3,qp ar),(4,qp kr)].toArray).run prog w9=.ok (.agg (rdk (⟨w9.heap.size,pp,lp,F.Q,kp,pr,lr,ar,kr,s⟩:Ks)).toArray) w9):=build_rdk w9 (⟨w9.heap.size,pp,lp,F.Q,kp,pr,lr,ar,kr,s⟩:Ks)
 have P3:Hid ((Instr.build 46 [(0,.agg (ccells s).toArray),(1,.agg (pdk (⟨w9.heap.size,pp,lp,F.Q,kp,pr,lr,ar,kr,s⟩:Ks)).toArray),(2,.agg (rdk (⟨w9.heap.size,pp,lp,F.Q,kp,pr,lr,ar,kr,s⟩:Ks)).toArray)].toArray).run prog w9=.ok (.agg (dcells (⟨w9.heap.size,pp,lp,F.Q,kp,pr,lr,ar,kr,s⟩:Ks) (.slice none 0 0))) w9):=build_desk w9 (⟨w9.heap.size,pp,lp,F.Q,kp,pr,lr,ar,kr,s⟩:Ks)
 have b10:Below w9.heap.size w9 (w9.alloc (.cells (dcells (⟨w9.heap.size,pp,lp,F.Q,kp,pr,lr,ar,kr,s⟩:Ks) (.slice none 0 0)) 46)):=C.below_alloc w9 _
 have F10:Hid (Fam w (w9.alloc (.cells (dcells (⟨w9.heap.size,pp,lp,F.Q,kp,pr,lr,ar,kr,s⟩:Ks) (.slice none 0 0)) 46)) (put (put (put (put T7 4 (.rline ar (E.newA s.bl s.lc s.mr s.hi s.cl))) 5 (.rcac kr s.bl (.slice none 0 0) [] false 0)) 6 (.blk w9.heap.size 46 (dcells (⟨w9.heap.size,pp,lp,F.Q,kp,pr,lr,ar,kr,s⟩:Ks) (.slice none 0 0)))) 7 (.pend (.slice none 0 0) [])) (fun _=>False)) :=
  (F9.out.fresh (Nat.le_trans B1.out.size B9.out.size) b10 6 (u:=.blk w9.heap.size 46 (dcells (⟨w9.heap.size,pp,lp,F.Q,kp,pr,lr,ar,kr,s⟩:Ks) (.slice none 0 0))) (heap_alloc_new w9 _) (fun b h=>by have:b=w9.heap.size:=h;omega)).add (k:=7) (u:=.pend (.slice none 0 0) []) ⟨[],World.ownsRow_nil _ _ _ _,trivial⟩ (fun b h=>by cases h)
 have HDS:Hid (DS w (w9.alloc (.cells (dcells (⟨w9.heap.size,pp,lp,F.Q,kp,pr,lr,ar,kr,s⟩:Ks) (.slice none 0 0)) 46)) (⟨w9.heap.size,pp,lp,F.Q,kp,pr,lr,ar,kr,s⟩:Ks) (x0 s) (x0 s) [] (fun _=>.no)):=by
  refine⟨_,_,⟨F10.out,C.below_then B1.out (C.below_then B9.out b10),?_,?_,?_,?_,?_,?_,⟨.slice none 0 0,rfl,put_same _ _ _⟩,x0_ok HM.out,x0_ok HM.out,rfl,rfl⟩,fun i h8 h40=>?_⟩
  ·exact⟨_,(HT7.out.1).trans HT4.out.1⟩
  ·exact⟨_,0,HT7.out.2.1,rfl,Nat.zero_le _⟩
  ·exact⟨_,HT7.out.2.2.1⟩
  ·exact⟨_,_,HT7.out.2.2.2.1⟩
  ·rfl
  ·exact⟨_,rfl⟩
  ·rw[put_other _ _ (by omega),put_other _ _ (by omega),put_other _ _ (by omega),put_other _ _ (by omega)];exact HT7.out.2.2.2.2 i (by omega)
 clear F9 F10 b10 HT7 HT4 B9 B8 B7 B6 B5 B4 B3 B2 B1 HC
 go_wp2_with ((with_reducible refine C.at_ops ?_);(first | (refine C.wpList_load_is (by rfl) 23 rfl rfl L9.out ?_) | (refine C.wpList_build_is (vs:=[(0,.agg (ccells s).toArray),(1,qp pp),(2,qp lp),(3,qp F.Q),(4,qp kp)]) (by rfl) 37 rfl (by rfl) P1.out ?_) | (refine C.wpList_build_is (vs:=[(0,.agg (ccells s).toArray),(1,qp pr),(2,qp lr),(3,qp ar),(4,qp kr)]) (by rfl) 43 rfl (by rfl) P2.out ?_) | (refine C.wpList_build_is (vs:=[(0,.agg (ccells s).toArray),(1,.agg (pdk (⟨w9.heap.size,pp,lp,F.Q,kp,pr,lr,ar,kr,s⟩:Ks)).toArray),(2,.agg (rdk (⟨w9.heap.size,pp,lp,F.Q,kp,pr,lr,ar,kr,s⟩:Ks)).toArray)]) (by rfl) 46 rfl (by rfl) P3.out ?_));simp only[Act.put,zA,zB,zC])
 go_ret2
 exact⟨(⟨w9.heap.size,pp,lp,F.Q,kp,pr,lr,ar,kr,s⟩:Ks),rfl,rfl,HDS.out⟩
end
section
variable {w0 w w':World} {K:Ks} {x y:Sx} {pd:List Cm} {X:Nat→Th}
def DkIn (W:World)(B:Nat)(K:Ks):Prop:=W.heap[B]?=some (.cells (pdk K).toArray 37 (0,0))
theorem DkIn.new (w:World)(K:Ks):DkIn (w.alloc (.cells (pdk K).toArray 37)) w.heap.size K:=heap_alloc_new w _
theorem DkIn.later {B:Nat}(h:DkIn w B K)(hb:Below w.heap.size w w'):DkIn w' B K:=(hb.block B (Array.getElem?_eq_some_iff.1 h).1).trans h
section
variable {B:Nat}
theorem DkIn.dp (h:DkIn w B K):w.cell? ⟨B,5,none⟩=some (qp K.dp):=by rw[cell_of_row _ _ _ _ _ _ h];rfl
theorem DkIn.lp (h:DkIn w B K):w.cell? ⟨B,6,none⟩=some (qp K.lp):=by rw[cell_of_row _ _ _ _ _ _ h];rfl
theorem DkIn.ap (h:DkIn w B K):w.cell? ⟨B,7,none⟩=some (qp K.ap):=by rw[cell_of_row _ _ _ _ _ _ h];rfl
theorem DkIn.kp (h:DkIn w B K):w.cell? ⟨B,8,none⟩=some (qp K.kp):=by rw[cell_of_row _ _ _ _ _ _ h];rfl
theorem DkIn.hi (h:DkIn w B K):w.cell? ⟨B,3,none⟩=some (.int .i64 K.c.hi):=by rw[cell_of_row _ _ _ _ _ _ h];rfl
end
theorem whole_at (w:World)(K:Ks):Calls prog 35 #[.agg (pdk K).toArray] w fun e w'=>e=.returned (.bool true)∧Below w.heap.size w w':=by
 have h:=DkIn.new w K
 have a1:=h.dp
 have a2:=h.lp
 have a3:=h.ap
 have a4:=h.kp
 have b:=C.below_alloc w (.cells (pdk K).toArray 37)
 clear h
 go_enter func35,ntmps35
 go_wp2
 go_ret
 exact⟨rfl,b⟩
theorem target_at (h:DS w0 w K x y pd X):Calls prog 83 #[.agg (pdk K).toArray] w fun e w'=>e=.returned (.tuple #[.int .u64 ((x.p+1)),.bool x.s])∧Below w.heap.size w w':=by
 have hD:=DkIn.new w K
 have a4:=hD.kp
 have b:=C.below_alloc w (.cells (pdk K).toArray 37)
 have H:Hid (DS w0 (w.alloc (.cells (pdk K).toArray 37)) K x y pd X):=h.later b
 clear hD h
 go_enter func83,ntmps83
 go_wp2_with fail
 have hw:=H.out.okx.p0
 refine (p_last H.out).mono ?_
 rintro e w1 ⟨rfl,rfl⟩
 go_wp2
 go_ret2
 exact⟨rfl,b⟩
theorem stuck_at (h:DS w0 w K x y pd X)(hN:x.a.next≤1000):Calls prog 84 #[.agg (pdk K).toArray] w fun e w'=>e=.returned (.bool (x.a.isW && !x.a.fits))∧Below w.heap.size w w':=by
 have hD:=DkIn.new w K
 have a4:=hD.ap
 have b:=C.below_alloc w (.cells (pdk K).toArray 37)
 have H:Hid (DS w0 (w.alloc (.cells (pdk K).toArray 37)) K x y pd X):=h.later b
 have HD:Hid (DkIn (w.alloc (.cells (pdk K).toArray 37)) w.heap.size K):=hD
 clear hD h
 go_enter func84,ntmps84
 go_wp2_with fail
 generalize w.alloc (.cells (pdk K).toArray 37)=w1 at *
 refine (p_first H.out hN).mono ?_
 rintro e w2 ⟨q,d,rfl,b2⟩
 have a5:=(HD.out.later b2).ap
 have H2:Hid (DS w0 w2 K x y pd X):=H.out.later b2
 have B2:Hid (Below w.heap.size w w2):=C.below_then b b2
 clear b b2 a4 H HD
 cases eW:x.a.isW with
 | false =>
  go_wp2
  go_ret
  rw[eW]
  exact⟨rfl,B2.out⟩
 | true =>
  go_wp2_with fail
  refine (p_fits H2.out hN).mono ?_
  rintro e w3 ⟨rfl,b3⟩
  have B3:Hid (Below w.heap.size w w3):=C.below_then B2.out b3
  clear b3
  go_wp2
  go_ret
  rw[eW]
  exact⟨rfl,B3.out⟩
theorem size_dk:(prog.info? 37).map (·.size)=some 9:=by kernel_rfl
theorem DkIn.load {B:Nat}(h:DkIn w B K):(Instr.loadAt 37 (.pointer (some ⟨B,0,none⟩))).run prog w=.ok (.agg (pdk K).toArray) w:=run_loadAt_mid w B 0 37 (pdk K) _ (LAt.range (t:=37) h) underlying37 rfl (by rw[size_dk];rfl)
def dueS (x:Sx)(hi:Int):Bool:=x.s && decide (x.g.tail<x.p+1) && (decide (hi≤x.a.used) || (x.a.isW && !x.a.fits))
theorem due_no (h:DS w0 w K x y pd X)(hN:x.a.next≤1000)(e1:x.s=false):Calls prog 36 #[.agg (pdk K).toArray] w fun e w'=>e=.returned (.bool false)∧Below w.heap.size w w':=by
 have hD:=DkIn.new w K
 have b:=C.below_alloc w (.cells (pdk K).toArray 37)
 have H:Hid (DS w0 (w.alloc (.cells (pdk K).toArray 37)) K x y pd X):=h.later b
 have HD:Hid (DkIn (w.alloc (.cells (pdk K).toArray 37)) w.heap.size K):=hD
 have HN:Hid (x.a.next≤1000):=hN
 have HP:=h.okx.p0
 clear hD h hN
 go_enter func36,ntmps36
 go_wp2_with ((with_reducible refine C.at_ops ?_);(refine C.wpList_load_is (by rfl) 37 rfl rfl HD.out.load ?_);simp only[Act.put,zA,zB,zC])
 refine (target_at H.out).mono ?_
 rintro e w2 ⟨rfl,b2⟩
 have HD2:Hid (DkIn w2.drew w.heap.size K):=(HD.out.later b2).later (C.below_drawn 1)
 have H2:Hid (DS w0 w2.drew K x y pd X):=(H.out.later b2).later (C.below_drawn 1)
 have B2:Hid (Below w.heap.size w w2.drew):=C.below_then (C.below_then b b2) (C.below_drawn 1)
 clear b b2 H HD
 go_wp2_with fail
 refine wp_region_noPanic ?_
 refine wp_region_held_drew (S:=fun W=>DkIn W w.heap.size K) (by kernel_rfl) HD2.out (fun hHeld=>?_)
 generalize w2.drew=w3 at *
 have B3:Hid (Below w.heap.size w w3):=B2.out
 have HD3:Hid (DkIn w3 w.heap.size K):=HD2.out
 clear B2 HD2
 refine tk 0 hHeld ?_
 refine tk 1 hHeld ?_
 refine tks 2 hHeld ?_
 refine tks 3 hHeld ?_
 refine tks 4 hHeld ?_
 refine tks 5 hHeld ?_
 refine tks 6 hHeld ?_
 refine tk 7 hHeld ?_
 refine tk 8 hHeld ?_
 refine tks 9 hHeld ?_
 refine tks 10 hHeld ?_
 refine tks 11 hHeld ?_
 refine tks 12 hHeld ?_
 refine tks 13 hHeld ?_
 refine tks 14 hHeld ?_
 refine tks 15 hHeld ?_
 refine tks 16 hHeld ?_
 refine tks 17 hHeld ?_
 refine tks 18 hHeld ?_
 refine tks 19 hHeld ?_
 refine tk 20 hHeld ?_
 refine tk 21 hHeld ?_
 clear hHeld
 refine wpAnyH_done (by kernel_rfl) (NoPanic.normal ?_) _
 go_wp2
 go_ret
 exact⟨rfl,B3.out⟩
theorem due_low (h:DS w0 w K x y pd X)(hN:x.a.next≤1000)(e1:x.s=true)(d2:decide (x.g.tail<x.p+1)=false):Calls prog 36 #[.agg (pdk K).toArray] w fun e w'=>e=.returned (.bool false)∧Below w.heap.size w w':=by
 have hD:=DkIn.new w K
 have b:=C.below_alloc w (.cells (pdk K).toArray 37)
 have H:Hid (DS w0 (w.alloc (.cells (pdk K).toArray 37)) K x y pd X):=h.later b
 have HD:Hid (DkIn (w.alloc (.cells (pdk K).toArray 37)) w.heap.size K):=hD
 have HN:Hid (x.a.next≤1000):=hN
 have HP:=h.okx.p0
 clear hD h hN
 go_enter func36,ntmps36
 go_wp2_with ((with_reducible refine C.at_ops ?_);(refine C.wpList_load_is (by rfl) 37 rfl rfl HD.out.load ?_);simp only[Act.put,zA,zB,zC])
 refine (target_at H.out).mono ?_
 rintro e w2 ⟨rfl,b2⟩
 have HD2:Hid (DkIn w2.drew w.heap.size K):=(HD.out.later b2).later (C.below_drawn 1)
 have H2:Hid (DS w0 w2.drew K x y pd X):=(H.out.later b2).later (C.below_drawn 1)
 have B2:Hid (Below w.heap.size w w2.drew):=C.below_then (C.below_then b b2) (C.below_drawn 1)
 clear b b2 H HD
 go_wp2_with fail
 refine wp_region_noPanic ?_
 refine wp_region_held_drew (S:=fun W=>DkIn W w.heap.size K) (by kernel_rfl) HD2.out (fun hHeld=>?_)
 generalize w2.drew=w3 at *
 have B3:Hid (Below w.heap.size w w3):=B2.out
 have HD3:Hid (DkIn w3 w.heap.size K):=HD2.out
 clear B2 HD2
 refine tk 0 hHeld ?_
 refine tk 1 hHeld ?_
 refine tk 2 hHeld ?_
 refine tk 3 hHeld ?_
 refine tkl 4 hHeld (fun _ s=>s.lp) ?_
 refine tkr 5 fun Kc hKc=>?_
 go_simp
 refine (p_tail H2.out).mono ?_
 rintro e w' ⟨rfl,rfl⟩
 refine hKc.out _ _ hHeld (fun hHeld=>?_)
 clear hKc Kc
 refine tk 6 hHeld ?_
 refine tk 7 hHeld ?_
 refine tk 8 hHeld ?_
 refine tks 9 hHeld ?_
 refine tks 10 hHeld ?_
 refine tks 11 hHeld ?_
 refine tks 12 hHeld ?_
 refine tks 13 hHeld ?_
 refine tks 14 hHeld ?_
 refine tks 15 hHeld ?_
 refine tks 16 hHeld ?_
 refine tks 17 hHeld ?_
 refine tks 18 hHeld ?_
 refine tks 19 hHeld ?_
 refine tk 20 hHeld ?_
 refine tk 21 hHeld ?_
 clear hHeld
 refine wpAnyH_done (by kernel_rfl) (NoPanic.normal ?_) _
 go_wp2
 go_ret
 exact⟨rfl,B3.out⟩
theorem due_full (h:DS w0 w K x y pd X)(hN:x.a.next≤1000)(e1:x.s=true)(d2:decide (x.g.tail<x.p+1)=true)(d3:decide (K.c.hi≤x.a.used)=true):Calls prog 36 #[.agg (pdk K).toArray] w fun e w'=>e=.returned (.bool true)∧Below w.heap.size w w':=by
 have hD:=DkIn.new w K
 have b:=C.below_alloc w (.cells (pdk K).toArray 37)
 have H:Hid (DS w0 (w.alloc (.cells (pdk K).toArray 37)) K x y pd X):=h.later b
 have HD:Hid (DkIn (w.alloc (.cells (pdk K).toArray 37)) w.heap.size K):=hD
 have HN:Hid (x.a.next≤1000):=hN
 have HP:=h.okx.p0
 clear hD h hN
 go_enter func36,ntmps36
 go_wp2_with ((with_reducible refine C.at_ops ?_);(refine C.wpList_load_is (by rfl) 37 rfl rfl HD.out.load ?_);simp only[Act.put,zA,zB,zC])
 refine (target_at H.out).mono ?_
 rintro e w2 ⟨rfl,b2⟩
 have HD2:Hid (DkIn w2.drew w.heap.size K):=(HD.out.later b2).later (C.below_drawn 1)
 have H2:Hid (DS w0 w2.drew K x y pd X):=(H.out.later b2).later (C.below_drawn 1)
 have B2:Hid (Below w.heap.size w w2.drew):=C.below_then (C.below_then b b2) (C.below_drawn 1)
 clear b b2 H HD
 go_wp2_with fail
 refine wp_region_noPanic ?_
 refine wp_region_held_drew (S:=fun W=>DkIn W w.heap.size K) (by kernel_rfl) HD2.out (fun hHeld=>?_)
 generalize w2.drew=w3 at *
 have B3:Hid (Below w.heap.size w w3):=B2.out
 have HD3:Hid (DkIn w3 w.heap.size K):=HD2.out
 clear B2 HD2
 refine tk 0 hHeld ?_
 refine tk 1 hHeld ?_
 refine tk 2 hHeld ?_
 refine tk 3 hHeld ?_
 refine tkl 4 hHeld (fun _ s=>s.lp) ?_
 refine tkr 5 fun Kc hKc=>?_
 go_simp
 refine (p_tail H2.out).mono ?_
 rintro e w' ⟨rfl,rfl⟩
 refine hKc.out _ _ hHeld (fun hHeld=>?_)
 clear hKc Kc
 refine tk 6 hHeld ?_
 refine tk 7 hHeld ?_
 refine tk 8 hHeld ?_
 refine tk 9 hHeld ?_
 refine tkl 10 hHeld (fun _ s=>s.ap) ?_
 refine tk 12 hHeld ?_
 refine tk 13 hHeld ?_
 refine tkl 14 hHeld (fun _ s=>s.hi) ?_
 refine tkr 11 fun Kc hKc=>?_
 go_simp
 refine (p_used H2.out).mono ?_
 rintro e w' ⟨rfl,rfl⟩
 refine hKc.out _ _ hHeld (fun hHeld=>?_)
 clear hKc Kc
 refine tk 15 hHeld ?_
 refine tk 16 hHeld ?_
 refine tks 17 hHeld ?_
 refine tks 18 hHeld ?_
 refine tk 19 hHeld ?_
 refine tk 20 hHeld ?_
 refine tk 21 hHeld ?_
 clear hHeld
 refine wpAnyH_done (by kernel_rfl) (NoPanic.normal ?_) _
 go_wp2
 go_ret
 exact⟨rfl,B3.out⟩
theorem due_ask (h:DS w0 w K x y pd X)(hN:x.a.next≤1000)(e1:x.s=true)(d2:decide (x.g.tail<x.p+1)=true)(d3:decide (K.c.hi≤x.a.used)=false):Calls prog 36 #[.agg (pdk K).toArray] w fun e w'=>e=.returned (.bool (x.a.isW && !x.a.fits))∧Below w.heap.size w w':=by
 have hD:=DkIn.new w K
 have b:=C.below_alloc w (.cells (pdk K).toArray 37)
 have H:Hid (DS w0 (w.alloc (.cells (pdk K).toArray 37)) K x y pd X):=h.later b
 have HD:Hid (DkIn (w.alloc (.cells (pdk K).toArray 37)) w.heap.size K):=hD
 have HN:Hid (x.a.next≤1000):=hN
 have HP:=h.okx.p0
 clear hD h hN
 go_enter func36,ntmps36
 go_wp2_with ((with_reducible refine C.at_ops ?_);(refine C.wpList_load_is (by rfl) 37 rfl rfl HD.out.load ?_);simp only[Act.put,zA,zB,zC])
 refine (target_at H.out).mono ?_
 rintro e w2 ⟨rfl,b2⟩
 have HD2:Hid (DkIn w2.drew w.heap.size K):=(HD.out.later b2).later (C.below_drawn 1)
 have H2:Hid (DS w0 w2.drew K x y pd X):=(H.out.later b2).later (C.below_drawn 1)
 have B2:Hid (Below w.heap.size w w2.drew):=C.below_then (C.below_then b b2) (C.below_drawn 1)
 clear b b2 H HD
 go_wp2_with fail
 refine wp_region_noPanic ?_
 refine wp_region_held_drew (S:=fun W=>DkIn W w.heap.size K) (by kernel_rfl) HD2.out (fun hHeld=>?_)
 generalize w2.drew=w3 at *
 have B3:Hid (Below w.heap.size w w3):=B2.out
 have HD3:Hid (DkIn w3 w.heap.size K):=HD2.out
 clear B2 HD2
 refine tk 0 hHeld ?_
 refine tk 1 hHeld ?_
 refine tk 2 hHeld ?_
 refine tk 3 hHeld ?_
 refine tkl 4 hHeld (fun _ s=>s.lp) ?_
 refine tkr 5 fun Kc hKc=>?_
 go_simp
 refine (p_tail H2.out).mono ?_
 rintro e w' ⟨rfl,rfl⟩
 refine hKc.out _ _ hHeld (fun hHeld=>?_)
 clear hKc Kc
 refine tk 6 hHeld ?_
 refine tk 7 hHeld ?_
 refine tk 8 hHeld ?_
 refine tk 9 hHeld ?_
 refine tkl 10 hHeld (fun _ s=>s.ap) ?_
 refine tk 12 hHeld ?_
 refine tk 13 hHeld ?_
 refine tkl 14 hHeld (fun _ s=>s.hi) ?_
 refine tkr 11 fun Kc hKc=>?_
 go_simp
 refine (p_used H2.out).mono ?_
 rintro e w' ⟨rfl,rfl⟩
 refine hKc.out _ _ hHeld (fun hHeld=>?_)
 clear hKc Kc
 refine tk 15 hHeld ?_
 refine tk 16 hHeld ?_
 refine tkm 17 hHeld (fun _ s=>s.load) ?_
 refine tkr 18 fun Kc hKc=>?_
 go_simp
 refine (stuck_at H2.out HN.out).mono ?_
 rintro e w5 ⟨rfl,b5⟩
 have B5:Hid (Below w.heap.size w w5):=C.below_then B3.out b5
 have H5:Hid (DkIn w5 w.heap.size K):=HD3.out.later b5
 clear b5
 refine hKc.out _ _ H5.out (fun hHeld=>?_)
 clear hKc Kc
 refine tk 19 hHeld ?_
 refine tk 20 hHeld ?_
 refine tk 21 hHeld ?_
 clear hHeld
 refine wpAnyH_done (by kernel_rfl) (NoPanic.normal ?_) _
 go_wp2
 go_ret
 exact⟨rfl,B5.out⟩
theorem due_at (h:DS w0 w K x y pd X)(hN:x.a.next≤1000):Calls prog 36 #[.agg (pdk K).toArray] w fun e w'=>e=.returned (.bool (dueS x K.c.hi))∧Below w.heap.size w w':=by
 unfold dueS
 cases e1:x.s with
 | false=>exact due_no h hN e1
 | true =>
  by_cases e2:x.g.tail<x.p+1
  ·by_cases e3:K.c.hi≤x.a.used
   ·rw[decide_eq_true e2,decide_eq_true e3];exact due_full h hN e1 (decide_eq_true e2) (decide_eq_true e3)
   ·rw[decide_eq_true e2,decide_eq_false e3];exact due_ask h hN e1 (decide_eq_true e2) (decide_eq_false e3)
  ·rw[decide_eq_false e2];exact due_low h hN e1 (decide_eq_false e2)
end
end Go.Proofs.YtcdjepkhdjpjcaaGreatDoor.Q
namespace Go.Proofs.YtcdjepkhdjpjcaaGreatDoor.C
open Go.Proofs.Tryz
open Go.RowKit
open Go.Shelf
attribute [local go_sem] Oper.semAt_some
structure PtAt (w:World) (B:Nat) (st t:Int) (v:Value) (L:List En) (k:Nat):Prop where
 st:w.heap[B]?=some (.cells #[.int .i64 st,.int .u64 t,v,.int .i64 k] 87 (0,0))
 row:EOwn 54 w 0 v L
 wf:EnsWf L
 few:L.length≤64
 le:k≤L.length
section
variable {w w':World} {B k:Nat} {st t:Int} {v:Value} {L:List En}
theorem PtAt.lt (h:PtAt w B st t v L k):B<w.heap.size:=(Array.getElem?_eq_some_iff.1 h.st).1
theorem PtAt.later (h:PtAt w B st t v L k)(hb:Below w.heap.size w w'):PtAt w' B st t v L k:=⟨(hb.block B h.lt).trans h.st,EOwn.later h.row hb,h.wf,h.few,h.le⟩
theorem PtAt.c0 (h:PtAt w B st t v L k):w.cell? ⟨B,0,none⟩=some (.int .i64 st):=by rw[cell_of_row _ _ _ _ _ _ h.st];rfl
theorem PtAt.c1 (h:PtAt w B st t v L k):w.cell? ⟨B,1,none⟩=some (.int .u64 t):=by rw[cell_of_row _ _ _ _ _ _ h.st];rfl
theorem PtAt.c2 (h:PtAt w B st t v L k):w.cell? ⟨B,2,none⟩=some v:=by rw[cell_of_row _ _ _ _ _ _ h.st];rfl
theorem PtAt.c3 (h:PtAt w B st t v L k):w.cell? ⟨B,3,none⟩=some (.int .i64 k):=by rw[cell_of_row _ _ _ _ _ _ h.st];rfl
theorem PtAt.ein (h:PtAt w B st t v L k):∃p c,v=.slice p L.length c∧EIn w p L.length L∧L.length≤c:=by
 obtain ⟨p,c,e,hm,hc,_⟩:=EOwn.in h.row h.wf
 exact⟨p,c,e,hm,hc⟩
end
abbrev lseqV (B:Nat):Value:=.func (.func 125) #[] #[.pointer (some ⟨B,0,none⟩)]
theorem left_is (p:Option Addr)(w:World):Calls prog 64 #[.pointer p] w fun e w'=>e=.returned (lseqV w.heap.size)∧w'=w.alloc (.cells #[.pointer p] 30):=by
 go_enter func64,ntmps64
 go_wp2
 go_ret
 exact⟨rfl,rfl⟩
theorem left1_nil_in (F:Fence)(n:Nat)(h7:F.fn 125)(hro:F.round=none)(l B:Nat)(J:List WE→World→Prop)(W:World)(hB:W.cell? ⟨B,0,none⟩=some (.pointer none))(h0:J [] W) :
  CallsIn F n prog 125 #[.func (.yield l) #[] #[],.pointer (some ⟨B,0,none⟩)] W fun e W'=>(∃v,e=.returned v)∧J [] W':=by
 refine callsIn_of_wp func125 rfl h7 ?_ hro
 simp only[ntmps125,List.size_toArray,List.length_cons,List.length_nil,Nat.reduceAdd,Nat.reduceSub,Array.replicate_succ,Array.replicate_zero,List.push_toArray,List.append_toArray,List.nil_append,List.cons_append]
 gi_wp2
 refine bodyPost_ret (results_none rfl _ _ _) rfl ?_
 exact⟨⟨_,rfl⟩,h0⟩
theorem left1_at_in (n:Nat)(_hn:1≤n)(l B Q n₀ k:Nat)(st t:Int)(ve:Value)(L:List En)(w₀:World)(hz:w₀.heap.size=n₀)(hC:PtAt w₀ Q st t ve L k)(J Jx:List WE→World→Prop)(W:World)(hJ:OwnFrom W.heap.size J)
  (hY:∀pre x V,J pre V→pre.length<(L.drop k).length→YieldAt Fence.wide (n-1) prog l #[.agg (ecells x.1).toArray] V fun e V'=>KeepsFrom W.heap.size V V'∧((e=.returned (.bool true)∧J (pre++[x]) V'∧Below n₀ V V')∨(e=.returned (.bool false)∧Jx (pre++[x]) V')))
  (hb:Below n₀ w₀ W) (hB:W.cell? ⟨B,0,none⟩=some (.pointer (some ⟨Q,0,none⟩))) (h0:J [] W) :
  CallsIn Fence.wide n prog 125 #[.func (.yield l) #[] #[],.pointer (some ⟨B,0,none⟩)] W fun e W'=>(∃v,e=.returned v)∧((∃xs,ens xs=L.drop k∧J xs W')∨(∃pre,ens pre <+: L.drop k∧Jx pre W')):=by
 subst hz
 obtain ⟨p,c,rfl,hE,hc⟩:=(hC.later hb).ein
 have c2:=(hC.later hb).c2
 have c3:=(hC.later hb).c3
 have hle:=hC.le
 have h64:=hC.few
 have HE:Hid (∀V,Below w₀.heap.size w₀ V→EIn V p L.length L):=fun V hV=>by
  obtain ⟨p',c',e',hE',-⟩:=(hC.later hV).ein
  cases e';exact hE'
 have HB0:Hid (Below w₀.heap.size w₀ W):=hb
 have HW:Hid (EnsWf L):=hC.wf
 have HJ:Hid (OwnFrom W.heap.size J):=hJ
 have HY:Hid (∀pre x V,J pre V→pre.length<(L.drop k).length→YieldAt Fence.wide (n-1) prog l #[.agg (ecells x.1).toArray] V fun e V'=>KeepsFrom W.heap.size V V'∧((e=.returned (.bool true)∧J (pre++[x]) V'∧Below w₀.heap.size V V')∨(e=.returned (.bool false)∧Jx (pre++[x]) V'))):=hY
 have H0:Hid (J [] W):=h0
 have hdl:(L.drop k).length=L.length-k:=List.length_drop
 clear hC hb hJ hY h0
 by_cases hkl:k=L.length
 ·subst hkl
  have HD:Hid (L.drop L.length=[]):=List.drop_length
  clear hE hdl HY HE
  refine callsIn_of_wp func125 rfl trivial ?_ rfl
  simp only[ntmps125,List.size_toArray,List.length_cons,List.length_nil,Nat.reduceAdd,Nat.reduceSub,Array.replicate_succ,Array.replicate_zero,List.push_toArray,List.append_toArray,List.nil_append,List.cons_append]
  by_cases hcl:c=L.length
  ·gi_wp2_with fail
   gi_big_quiet_th (fail)
   gi_wp2
   gi_loopw [17] (fun i wr=>i=.int .i64 0∧Hid (J [] wr)) (fun _ _=>0)
   case atStart=>exact⟨rfl,own_below HJ.out H0.out (below_drawn nq)⟩
   case round =>
    obtain ⟨rfl,HJs⟩:=hrel
    gi_wp2
    go_end0
    exact⟨⟨_,rfl⟩,.inl ⟨[],HD.out.symm,HJs.out⟩⟩
  ·gi_wp2_with fail
   gi_big_quiet_th (fail)
   gi_wp2
   gi_loopw [17] (fun i wr=>i=.int .i64 0∧Hid (J [] wr)) (fun _ _=>0)
   case atStart=>exact⟨rfl,own_below HJ.out H0.out (below_drawn nq)⟩
   case round =>
    obtain ⟨rfl,HJs⟩:=hrel
    gi_wp2
    go_end0
    exact⟨⟨_,rfl⟩,.inl ⟨[],HD.out.symm,HJs.out⟩⟩
 ·obtain ⟨b1,o1,rfl,-⟩:=hE.cells (by omega)
  have hcl:¬c=k:=by omega
  clear hE
  refine callsIn_of_wp func125 rfl trivial ?_ rfl
  simp only[ntmps125,List.size_toArray,List.length_cons,List.length_nil,Nat.reduceAdd,Nat.reduceSub,Array.replicate_succ,Array.replicate_zero,List.push_toArray,List.append_toArray,List.nil_append,List.cons_append]
  gi_wp2_with fail
  gi_big_quiet_th (fail)
  gi_wp2
  obtain ⟨m,hm⟩:∃m,L.length-k=m:=⟨_,rfl⟩
  have hkm:k+m=L.length:=by omega
  rw[hm] at hdl ⊢
  clear hm
  gi_loopw [17] (fun i wr=>∃j:Nat,j≤m∧i=.int .i64 j∧Hid (∃xs:List WE,ens xs=(L.drop k).take j∧J xs wr)∧Hid (Below w₀.heap.size w₀ wr)) (fun i _=>m-(intOf i).toNat)
  case atStart=>exact⟨0,Nat.zero_le _,rfl,(⟨[],rfl,own_below HJ.out H0.out (below_drawn nq)⟩:∃xs:List WE,ens xs=(L.drop k).take 0∧J xs (W.drewN nq)),below_then HB0.out (below_drawn nq)⟩
  case round =>
   obtain ⟨j,hj,rfl,HJs,HB⟩:=hrel
   by_cases hlt:j<m
   ·obtain ⟨xs,hxs,hJs⟩:=HJs.out
    obtain ⟨x,hx⟩:∃x,L[k+j]?=some x:=⟨_,List.getElem?_eq_getElem (by omega)⟩
    have hxd:(L.drop k)[j]?=some x:=by rw[List.getElem?_drop];exact hx
    have hxw:x.Wf:=HW.out x (List.mem_of_getElem? hx)
    have hEr:=HE.out wr HB.out
    have HLd:Hid ((Instr.loadAt 54 (.pointer (some ⟨b1,o1+k*34+j*34,none⟩))).run prog wr=.ok (.agg (ecells x).toArray) wr):=by
     have:=EIn.load etC hEr hx
     rw[show o1+(k+j)*34=o1+k*34+j*34 by omega] at this
     exact this
    obtain ⟨w3,hw3⟩:∃w3,w3=wr.alloc (.cells (ecells en0).toArray 54):=⟨_,rfl⟩
    obtain ⟨w4,hw4⟩:∃w4,w4=wr.alloc (.cells (ecells x).toArray 54):=⟨_,rfl⟩
    have HAL:Hid ((Instr.alloc 54 true (.tuple #[])).run prog wr=.ok (.pointer (some ⟨wr.heap.size,0,none⟩)) w3):=by rw[hw3];exact allocE etC wr
    have HST:Hid ((Instr.storeAt 54 (.pointer (some ⟨wr.heap.size,0,none⟩)) (.agg (ecells x).toArray)).run prog w3=.ok () w4):=by rw[hw3,hw4];exact store_newE etC wr x hxw.len
    have b4:Below wr.heap.size wr w4:=by rw[hw4];exact below_alloc wr _
    have HL4:Hid ((Instr.loadAt 54 (.pointer (some ⟨wr.heap.size,0,none⟩))).run prog w4=.ok (.agg (ecells x).toArray) w4):=by rw[hw4];exact LAt.loadE etC (LAt.new _ _ _) hxw.len
    have J4:J xs w4:=own_below HJ.out hJs b4
    have HB4:Hid (Below w₀.heap.size w₀ w4):=below_then HB.out b4
    have hlen:xs.length=j:=by
     have:=congrArg List.length hxs
     rw[List.length_map,List.length_take] at this
     omega
    obtain ⟨fn,tmps,assign,body,hy,hR⟩:=HY.out xs ⟨x,hxw⟩ w4 J4 (by omega)
    have HT:Hid (ens (xs++[⟨x,hxw⟩])=(L.drop k).take (j+1)):=by
     obtain ⟨hk',ex⟩:=List.getElem?_eq_some_iff.1 hxd
     show _=_
     rw[ens_snoc,hxs,List.take_succ_eq_append_getElem hk',ex]
    have i1:(j:Int)<(m:Int):=by omega
    dsimp only at hy
    clear hw3 hw4 b4 hx hxd hEr HJs hJs hxs J4 hlen
    gi_wp2_with ((with_reducible refine in_ops ?_);(first | ((first | (refine in_load (by rfl) 54 rfl rfl HLd.out ?_) | (refine in_load (by rfl) 54 rfl rfl HL4.out ?_) | (refine in_alloc (by rfl) 54 rfl HAL.out ?_));simp only[Act.put,zA,zB,zC]) | ((refine in_store (by rfl) 54 rfl rfl rfl HST.out ?_);simp only[Act.put])))
    refine hR.mono ?_
    rintro e V3 ⟨-,(⟨rfl,hJ3,hk3⟩ | ⟨rfl,hJx3⟩)⟩
    ·have HJ3:Hid (∃ys:List WE,ens ys=(L.drop k).take (j+1)∧J ys V3):=⟨_,HT.out,hJ3⟩
     have HB3:Hid (Below w₀.heap.size w₀ V3):=HB4.out.trans hk3
     clear hJ3 hk3
     gi_wp2
     go_roundw
     case rel=>exact⟨j+1,by omega,by simp,HJ3,HB3⟩
     case measure=>simp[intOf];omega
    ·have HJx:Hid (∃pre,ens pre <+: L.drop k∧Jx pre V3):=⟨_,by rw[HT.out];exact List.take_prefix _ _,hJx3⟩
     clear hJx3
     gi_wp2
     refine bodyPost_ret (results_none rfl _ _ _) rfl ?_
     exact⟨⟨_,rfl⟩,.inr HJx.out⟩
   ·have HF:Hid (∃xs:List WE,ens xs=L.drop k∧J xs wr):=by
     obtain ⟨xs,h1,h2⟩:=HJs.out
     exact⟨xs,by rw[h1,List.take_of_length_le (by omega)],h2⟩
    clear HJs
    gi_wp2
    go_end0
    exact⟨⟨_,rfl⟩,.inl HF.out⟩
def PStands (w:World)(p:Option Addr)(M:List En):Prop:=(p=none∧M=[])∨∃Q st t v L k,p=some ⟨Q,0,none⟩∧PtAt w Q st t v L k∧M=L.drop k
theorem left1_seq (n:Nat)(hn:1≤n)(B n₀:Nat)(p:Option Addr)(M:List En)(w w₀:World)(hn₀:n₀≤w.heap.size)(hw₀:Below n₀ w₀ w)(hz₀:w₀.heap.size=n₀)
  (hB:Boxed w B 30 (.pointer p)) (hS:PStands w₀ p M) :
  SeqIn Fence.wide n prog 125 #[.pointer (some ⟨B,0,none⟩)] (fun x:WE=>#[.agg (ecells x.1).toArray]) (Below n₀) (fun ys=>ens ys=M) (fun pre=>ens pre <+: M) M.length w:=fun l J Jx W hW hJ _ hY h0=>by
 have hc':=(hW.cell (p:=⟨B,0,none⟩) hB.lt).trans hB.cell
 have hb0:Below n₀ w₀ W:=hw₀.trans (hW.mono hn₀)
 rcases hS with ⟨rfl,rfl⟩ | ⟨Q,st,t,v,L,k,rfl,hC,rfl⟩
 ·exact (left1_nil_in Fence.wide n trivial rfl l B J W hc' h0).mono fun e W' ⟨he,hj⟩=>⟨he,.inl ⟨_,rfl,hj⟩⟩
 ·exact left1_at_in n hn l B Q n₀ k st t v L w₀ hz₀ hC J Jx W hJ hY hb0 hc' h0
end Go.Proofs.YtcdjepkhdjpjcaaGreatDoor.C
namespace Go.Proofs.YtcdjepkhdjpjcaaGreatDoor.C
open Go.Proofs.Tryz
open Go.RowKit
open Go.Shelf
attribute [local go_sem] Oper.semAt_some
theorem results_two {fn:Func}{p u:Tmp}{ty tb:TypeId}(h:fn.results=#[.cell p ty,.cell u tb])(tmps:Array Value)(w:World)(g b:Nat)(t:TypeId)(cs:List Value)(v:Value)(d:TypeDesc)
  (hp:tmps.getD p undef=.pointer (some ⟨g,0,none⟩)) (hg:LAt t w g cs) (hu:prog.underlying ty=some d) (hd:d.isRow=true) (hi:(prog.info? ty).map (·.size)=some cs.length)
  (hq:tmps.getD u undef=.pointer (some ⟨b,0,none⟩)) (hl:(loadVar tb ⟨b,0,none⟩).run prog w=.ok v w) :
  (results fn tmps).run prog w=.ok (.tuple #[.agg cs.toArray,v]) w:=by
 have:=run_loadVar_mid w g 0 ty _ d (LAt.range hg) hu hd hi
 rw[Array.getD_eq_getD_getElem?] at hp hq
 simp only[results,h]
 simp[Sem.run_bind,Result.andThen,hp,hq,asAddr,this,hl]
theorem load_bool {w:World}{b:Nat}{v:Bool}(h:Boxed w b 4 (.bool v)):(loadVar 4 ⟨b,0,none⟩).run prog w=.ok (.bool v) w:=by
 have:=h.cell
 go_simp
theorem next_any {w:World}{p:Option Addr}{M:List En}(hS:PStands w p M)(hw:EnsWf M):Calls prog 99 #[.pointer p] w fun e w'=>e=.returned (.tuple #[.agg (ecells (M.headD en0)).toArray,.bool (!M.isEmpty)])∧Below w.heap.size w w':=by
 obtain ⟨r,hr⟩:∃r,w.heap.size=r:=⟨_,rfl⟩
 obtain ⟨w1,hw1⟩:∃w1,w1=w.alloc (.cells (ecells en0).toArray 54):=⟨_,rfl⟩
 have HAL:Hid ((Instr.alloc 54 true (.tuple #[])).run prog w=.ok (.pointer (some ⟨r,0,none⟩)) w1):=by rw[hw1,← hr];exact allocE etC w
 have B1:Below w.heap.size w w1:=by rw[hw1];exact below_alloc w _
 have s1:w1.heap.size=r+1:=by rw[hw1,← hr];simp
 have v1:LAt 54 w1 r (ecells en0):=by rw[hw1,← hr];exact LAt.new _ _ _
 obtain ⟨w2,hw2⟩:∃w2,w1.alloc (.cells #[.bool false] 4)=w2:=⟨_,rfl⟩
 have B2:Below w1.heap.size w1 w2:=by rw[← hw2];exact below_alloc w1 _
 have s2:w2.heap.size=r+2:=by rw[← hw2];simp[s1]
 have v2:Boxed w2 (r+1) 4 (.bool false):=by rw[← s1,← hw2];exact Boxed.new w1 _ _
 obtain ⟨w3,hw3⟩:∃w3,w2.alloc (.cells #[.pointer p] 30)=w3:=⟨_,rfl⟩
 have B3:Below w2.heap.size w2 w3:=by rw[← hw3];exact below_alloc w2 _
 have s3:w3.heap.size=r+3:=by rw[← hw3];simp[s2]
 have HSZ:Hid (w3.heap.size=r+3):=s3
 have HBP:Hid (Boxed w3 (r+2) 30 (.pointer p)):=by rw[← s2,← hw3];exact Boxed.new w2 _ _
 have HLE:Hid (Calls prog 64 #[.pointer p] w2 fun e w'=>e=.returned (lseqV (r+2))∧w'=w3):=by
  have:=left_is p w2
  rw[s2,hw3] at this
  exact this
 have HV1:Hid (LAt 54 w3 r (ecells en0)):=LAt.later (LAt.later v1 B2) B3
 have HV2:Hid (Boxed w3 (r+1) 4 (.bool false)):=(B3.block _ v2.lt).trans v2
 have HB:Hid (Below w.heap.size w w3):=below_then B1 (below_then B2 B3)
 have HS:Hid (PStands w p M):=hS
 have HW:Hid (EnsWf M):=hw
 have HR:Hid (w.heap.size=r):=hr
 clear hw1 B1 v1 B2 v2 hw3 B3 hS hw s2 s3 hr
 refine (callsIn_wide (n:=9)).1 ?_
 refine callsIn_of_wp_marks func99 rfl trivial ?_ rfl
 simp only[ntmps99,List.size_toArray,List.length_cons,List.length_nil,Nat.reduceAdd,Nat.reduceSub,Array.replicate_succ,Array.replicate_zero,List.push_toArray,List.append_toArray,List.nil_append,List.cons_append]
 gi_wp2_with ((with_reducible refine in_ops ?_);((refine in_alloc (by rfl) 54 rfl HAL.out ?_);simp only[Act.put,zA,zB,zC]))
 refine⟨trivial,(callsIn_wide.2 HLE.out).mono ?_⟩
 rintro e w4 ⟨rfl,rfl⟩
 clear HAL HLE hw2 s1
 gi_wp2
 refine range_in (F:=Fence.wide) (n:=9) (P:=prog) rfl (by decide) (gf:=125) (lb:=#[.pointer (some ⟨r+2,0,none⟩)]) rfl trivial (enters_of func125 (by kernel_rfl) rfl)
  (left1_seq (9-1) (by decide) (r+2) w.heap.size p M w4 w HB.out.size HB.out rfl HBP.out HS.out) belowK_t (fun W l o o' hl h hc=>(Below.refl _ W).grown (grownBy_putObj' W l o') (by have:=HSZ.out;have:=HR.out;have:=(Array.getElem?_eq_some_iff.1 h).1;omega) (fun k e=>by cases e;have:=HSZ.out;have:=HR.out;omega)) (Below.refl _ _) (fun _=>rfl)
  (fun pre W=>pre=[]∧LAt 54 W r (ecells en0)∧Boxed W (r+1) 4 (.bool false)∧Below w.heap.size w W) (fun c pre W=>c=.ret∧∃x:WE,pre=[x]∧LAt 54 W r (ecells x.1)∧Boxed W (r+1) 4 (.bool true)∧Below w.heap.size w W) ?hI ?hIx ⟨rfl,HV1.out,HV2.out,HB.out⟩
  (fun x a' W=>∃Bx,LAt 54 W Bx (ecells x.1)∧a'={ tmps:=#[.pointer p,undef,.pointer (some ⟨r,0,none⟩),.pointer (some ⟨r+1,0,none⟩),.pointer (some ⟨Bx,0,none⟩),.pointer p,lseqV (r+2),.agg (ecells x.1).toArray,undef,undef],defers:=[] })
  ?hAx ?assign ?body ?done ?stop
 case hI =>
  rintro pre V V' row ⟨h1,h2,h3,h4⟩ hg hr
  exact⟨h1,(grownBy_keeps_cells hg (fun r e=>(hr r e).2) h2 rfl).trans h2,(grownBy_keeps_cells hg (fun r e=>(hr r e).2) h3 rfl).trans h3,(ownFrom_below (Nat.le_refl _) HB.out.size) () V V' row h4 hg hr⟩
 case hIx =>
  rintro c pre V V' row ⟨h0,x,h1,h2,h3,h4⟩ hg hr
  exact⟨h0,x,h1,(grownBy_keeps_cells hg (fun r e=>(hr r e).2) h2 rfl).trans h2,(grownBy_keeps_cells hg (fun r e=>(hr r e).2) h3 rfl).trans h3,(ownFrom_below (Nat.le_refl _) HB.out.size) () V V' row h4 hg hr⟩
 case hAx =>
  rintro x a' _ V V' row ⟨Bx,h1,h2⟩ hg hr
  exact⟨Bx,(grownBy_keeps_cells hg (fun r e=>(hr r e).2) h1 rfl).trans h1,h2⟩
 case assign =>
  rintro l1 pre x V K ⟨h1,h2,h3,h6⟩ hK
  have A4:Hid ((Instr.alloc 54 true (.tuple #[])).run prog V=.ok (.pointer (some ⟨V.heap.size,0,none⟩)) (V.alloc (.cells (ecells en0).toArray 54))):=allocE etC V
  have T4:Hid ((Instr.storeAt 54 (.pointer (some ⟨V.heap.size,0,none⟩)) (.agg (ecells x.1).toArray)).run prog (V.alloc (.cells (ecells en0).toArray 54))=.ok () (V.alloc (.cells (ecells x.1).toArray 54))):=store_newE etC V x.1 x.2.len
  have hb:=below_alloc V (.cells (ecells x.1).toArray 54)
  have Y:=hK _ _ (keeps_of_below hb w4.heap.size) (hb.mono h6.size) ⟨h1,LAt.later h2 hb,h3.alloc _,h6.trans (hb.mono h6.size)⟩ ⟨V.heap.size,LAt.new 54 V (ecells x.1),rfl⟩
  have HY:Hid (K _ _):=Y
  clear hK h1 h2 h3 h6 hb Y
  rw[put1]
  simp only[zA,zB,zC]
  gi_wp2_with ((with_reducible refine in_ops ?_);(first | ((refine in_alloc (by rfl) 54 rfl A4.out ?_);simp only[Act.put,zA,zB,zC]) | ((refine in_store (by rfl) 54 rfl rfl rfl T4.out ?_);simp only[Act.put])))
  exact HY.out
 case body =>
  rintro l1 pre x a' V ⟨rfl,h2,h3,h6⟩ ⟨Bx,hx,rfl⟩ hlt
  have HLd:Hid ((Instr.loadAt 54 (.pointer (some ⟨Bx,0,none⟩))).run prog V=.ok (.agg (ecells x.1).toArray) V):=LAt.loadE etC hx x.2.len
  have HST:Hid ((Instr.storeAt 54 (.pointer (some ⟨r,0,none⟩)) (.agg (ecells x.1).toArray)).run prog V=.ok () (V.setRow r (ecells x.1).toArray)):=lay0E V _ x.1 x.2.len h2
  have v3:LAt 54 (V.setRow r (ecells x.1).toArray) r (ecells x.1):=LAt.stored h2 _
  have b3:Below w.heap.size w (V.setRow r (ecells x.1).toArray):=below_setRow h6 (Nat.le_of_eq HR.out) _
  have u3:Boxed (V.setRow r (ecells x.1).toArray) (r+1) 4 (.bool false):=(setRow_other V r (r+1) _ (by omega)).trans h3
  have k3:KeepsFrom w4.heap.size V (V.setRow r (ecells x.1).toArray):=⟨by rw[size_setRow];exact Nat.le_refl _,fun k o hk ho _=>(setRow_other V r k _ (by have:=HSZ.out;omega)).trans ho⟩
  generalize V.setRow r (ecells x.1).toArray=V3 at *
  have c4:=u3.cell
  have f4:=u3.frozen
  have HFIN:Hid (KeepsFrom w4.heap.size V (V3.setCell ⟨r+1,0,none⟩ (.bool true))∧∃y:WE,[]++[x]=[y]∧LAt 54 (V3.setCell ⟨r+1,0,none⟩ (.bool true)) r (ecells y.1)∧Boxed (V3.setCell ⟨r+1,0,none⟩ (.bool true)) (r+1) 4 (.bool true)∧Below w.heap.size w (V3.setCell ⟨r+1,0,none⟩ (.bool true))):=by
   have e:=setCell_eq_setRow V3 (r+1) 0 _ 4 (0,0) (.bool true) u3
   refine⟨k3.trans ((KeepsOthers.setCell _ _ _).from _),x,rfl,?_,u3.set _,?_⟩
   ·rw[e];exact (setRow_other V3 (r+1) r _ (by omega)).trans v3
   ·rw[e];exact below_setRow b3 (by have:=HR.out;omega) _
  clear h2 h3 h6 hx v3 b3 u3 k3
  gi_wp2_with ((with_reducible refine in_ops ?_);(first | ((refine in_load (by rfl) 54 rfl rfl HLd.out ?_);simp only[Act.put,zA,zB,zC]) | ((refine in_store (by rfl) 54 rfl rfl rfl HST.out ?_);simp only[Act.put])))
  exact⟨HFIN.out.1,rfl,HFIN.out.2⟩
 case done =>
  rintro D ys W hD hSt ⟨rfl,h2,h3,h6⟩ hK
  have eM:M=[]:=by rw[← show ens []=M from hSt];rfl
  subst eM
  have HBV:Hid ((Instr.build 54 #[]).run prog W=.ok (.agg (ecells en0).toArray) W):=buildE0 etC W
  have HST:Hid ((Instr.storeAt 54 (.pointer (some ⟨r,0,none⟩)) (.agg (ecells en0).toArray)).run prog W=.ok () (W.setRow r (ecells en0).toArray)):=lay0E W _ en0 (zs_len 32) h2
  have v3:LAt 54 (W.setRow r (ecells en0).toArray) r (ecells en0):=LAt.stored h2 _
  have b3:Below w.heap.size w (W.setRow r (ecells en0).toArray):=below_setRow h6 (Nat.le_of_eq HR.out) _
  have u3:Boxed (W.setRow r (ecells en0).toArray) (r+1) 4 (.bool false):=(setRow_other W r (r+1) _ (by omega)).trans h3
  have k3:(W.setRow r (ecells en0).toArray).heap[D]?=some (.deferred (some [])):=(setRow_other W r D _ (by have:=HSZ.out;omega)).trans hK
  generalize W.setRow r (ecells en0).toArray=V3 at *
  have c4:=u3.cell
  have f4:=u3.frozen
  have e:=setCell_eq_setRow V3 (r+1) 0 _ 4 (0,0) (.bool false) u3
  have HV4:Hid (LAt 54 (V3.setCell ⟨r+1,0,none⟩ (.bool false)) r (ecells en0)):=by rw[e];exact (setRow_other V3 (r+1) r _ (by omega)).trans v3
  have HU4:Hid (Boxed (V3.setCell ⟨r+1,0,none⟩ (.bool false)) (r+1) 4 (.bool false)):=u3.set _
  have HB4:Hid (Below w.heap.size w (V3.setCell ⟨r+1,0,none⟩ (.bool false))):=by rw[e];exact below_setRow b3 (by have:=HR.out;omega) _
  have HK4:Hid ((V3.setCell ⟨r+1,0,none⟩ (.bool false)).heap[D]?=some (.deferred (some []))):=by rw[e];exact (setRow_other V3 (r+1) D _ (by have:=HSZ.out;omega)).trans k3
  clear h2 h3 h6 v3 b3 u3 k3 hK e hSt
  gi_wp2_with ((with_reducible refine in_ops ?_);(first | ((refine in_build (vs:=[]) (by rfl) 54 rfl (by rfl) HBV.out ?_);simp only[Act.put,zA,zB,zC]) | ((refine in_store (by rfl) 54 rfl rfl rfl HST.out ?_);simp only[Act.put])))
  refine⟨by simp,.inl ⟨_,_,rfl,run_takeDeferred HK4.out,?_⟩⟩
  exact⟨_,results_two results99 _ _ r (r+1) 54 (ecells en0) (.bool false) _ (by rfl) ((World.putObj_heap_other (by have:=HSZ.out;omega)).trans HV4.out) etC.un (isRowS _) (by rw[etC.size,ecells_len (zs_len 32)]) (by rfl) (load_bool ((World.putObj_heap_other (by have:=HSZ.out;omega)).trans HU4.out)),rfl,HB4.out.trans (belowK_b (w:=w) (Nat.le_refl _) _ D _ _ (by have:=HSZ.out;have:=HR.out;omega) HK4.out rfl rfl)⟩
 case stop =>
  rintro D c pre W hD hpre ⟨rfl,x,rfl,h2,h3,h6⟩ hK
  gi_wp2
  refine⟨by simp,.inl ⟨_,_,rfl,run_takeDeferred hK,?_⟩⟩
  have eM:M.headD en0=x.1∧M.isEmpty=false:=by
   obtain ⟨t,e⟩:=hpre
   rw[← e]
   exact⟨rfl,rfl⟩
  exact⟨_,results_two results99 _ _ r (r+1) 54 (ecells x.1) (.bool true) _ (by rfl) ((World.putObj_heap_other (by have:=HSZ.out;omega)).trans h2) etC.un (isRowS _) (by rw[etC.size,ecells_len x.2.len]) (by rfl) (load_bool ((World.putObj_heap_other (by have:=HSZ.out;omega)).trans h3)),by rw[eM.1,eM.2];rfl,h6.trans (belowK_b (w:=w) (Nat.le_refl _) _ D _ _ (by have:=HSZ.out;have:=HR.out;omega) hK rfl rfl)⟩
end Go.Proofs.YtcdjepkhdjpjcaaGreatDoor.C
