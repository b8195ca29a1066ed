import Derived.Test.YtdadpepfpiimgaaGreatDoorK26
set_option maxHeartbeats 20000000
set_option maxRecDepth 100000
namespace Go.Proofs.YtdadpepfpiimgaaGreatDoor.Q
open Go.Proofs.Tryz
open Go.RowKit
def Th.txr (v:Value)(l:List TX)(vs:List Value):Th:=⟨fun w _=>XOwn 248 w 0 v l vs,fun b=>v.ownBlock=some b∨∃k u,vs[k]?=some u∧k<l.length∧u.ownBlock=some b,fun _ _ b h hb=>by
 rcases hb with hb | ⟨k,u,h1,h2,hb⟩
 ·exact (World.ownsRow.lt h.row b hb).2
 ·exact (World.ownsRow.lt (h.each k l[k] u (List.getElem?_eq_getElem h2) h1) b hb).2,fun w w' _ _ _ h hk hf _ _=>by
 have hr:∀{e s:Nat} {v:Value} {n:Nat} {xs:List Value},w.ownsRow 0 e s v n xs→(∀k,v.ownBlock=some k→w'.heap[k]?=w.heap[k]?)→w'.ownsRow 0 e s v n xs:=fun a b=>own_same a b
 exact⟨h.len,hr h.row fun k e=>hk.block k (World.ownsRow.lt h.row k e).2 (hf k (.inl e)),fun k t u a b=>hr (h.each k t u a b) fun g e=>hk.block g (World.ownsRow.lt (h.each k t u a b) g e).2 (hf g (.inr ⟨k,u,b,(List.getElem?_eq_some_iff.1 a).1,e⟩)),h.wf⟩⟩
theorem rlg1 {W:World}{B:Nat}{t l f:Int}{v:Value}(h:LAt 225 W B (gcells t l f v)):W.cell? ⟨B,1,none⟩=some (.int .u64 l):=by rw[LAt.cell h 1];rfl
theorem rlg2 {W:World}{B:Nat}{t l f:Int}{v:Value}(h:LAt 225 W B (gcells t l f v)):W.cell? ⟨B,2,none⟩=some (.int .u64 f):=by rw[LAt.cell h 2];rfl
theorem rlg3 {W:World}{B:Nat}{t l f:Int}{v:Value}(h:LAt 225 W B (gcells t l f v)):W.cell? ⟨B,3,none⟩=some v:=by rw[LAt.cell h 3];rfl
theorem size_rlg:(prog.info? 225).map (·.size)=some 4:=by kernel_rfl
theorem alloc_rlg (w:World):(Instr.alloc 225 true (.tuple #[])).run prog w=.ok (qp w.heap.size) (w.alloc (.cells (gcells 0 0 0 (.slice none 0 0)).toArray 225)):=by
 have hz:(prog.info? 225).bind (·.zero)=some (.agg (gcells 0 0 0 (.slice none 0 0)).toArray):=by kernel_rfl
 simp only[Instr.alloc,Sem.run_bind,Go.Proofs.YtdadpepfpiimgaaGreatDoor.zv 225 _ hz,Result.andThen_ok]
 simp[newVar,newRow,Value.cells]
def kz (v:Value)(l:List TX):Kd:=fun t=>∃vs,t=Th.txr v l vs
section
variable {w0 w:World} {X:List Kd} {i j P p n:Nat} {q:Option Nat} {D:Dd} {x:Rc}
theorem r_read (h:Fz w0 w X)(hj:X[j]?=some (ke p n D))(hk:D.ws.length≤100000)(c:Sup):Calls prog 120 #[qp p,.agg (ccells c).toArray] w fun e w'=>∃a m,e=.returned (.tuple #[.agg (gcells (lgS n c D).tail (lgS n c D).life (lgS n c D).fin (.slice a (lgS n c D).txs.length m)).toArray,.int .i64 (rdL c n D.rd).2])∧Fz w0 w' (kz (.slice a (lgS n c D).txs.length m) (lgS n c D).txs :: X):=by
 obtain ⟨S,hd,_,_⟩:=h.ate hj
 refine (refRead_any hd hk c).mono ?_
 rintro e w' ⟨a,m,vs,rfl,hx,hb⟩
 refine⟨a,m,rfl,h.push hb (u:=.txr _ _ vs) (fun _=>⟨hx.len,own_zero hx.row,fun k t u e1 e2=>own_zero (hx.each k t u e1 e2),hx.wf⟩) (fun b hb=>?_) ⟨vs,rfl⟩⟩
 rcases hb with hb | ⟨k,u,h1,h2,hb⟩
 ·exact (World.ownsRow.lt hx.row b hb).1
 ·exact (World.ownsRow.lt (hx.each k _ u (List.getElem?_eq_getElem h2) h1) b hb).1
theorem rz_newest (h:Fz w0 w X){a:Option Addr}{m c:Nat}{l:List TX}(hj:X[j]?=some (kz (.slice a m c) l))(hn:l.length≤2000000)(hf:(flat l).length≤2000000):Calls prog 121 #[.slice a m c] w fun e w'=>∃v,e=.returned v∧Fz w0 w' (ko v (nwS (flat l)) :: X):=by
 obtain ⟨t,G,⟨vs,rfl⟩,ha,-⟩:=h.at hj
 obtain ⟨a',c',e,hx,_,_⟩:=XOwn.in ha
 cases e
 exact r_newest h hx hn hf
theorem Fz.rputs (h:Fz w0 w (X.set i (ks P q x)))(hlt:i<X.length)(k:Nat)(u:Value)(x':Rc)(hl:x'.left=x.left)(hk:∀v,(rcl q x v).set k u=rcl q x' v):Fz w0 (w.setCell ⟨P,k,none⟩ u) (X.set i (ks P q x')):=by
 have:=h.rput (List.getElem?_set_self hlt) k u x' hl hk
 rwa [List.set_set] at this
theorem Fz.rlefts {u:Value}{l:List Im}(h:Fz w0 w (ko u l :: X.set i (ks P q x)))(hlt:i<X.length)(hw:ImsWf l):Fz w0 (w.setCell ⟨P,9,none⟩ u) (X.set i (ks P q { x with left:=l })):=by
 have:=h.rleft (List.getElem?_set_self hlt) hw
 rwa [List.set_set] at this
theorem Fz.rvs (h:Fz w0 w (X.set i (ks P q x)))(hlt:i<X.length):Rdv P q x w:=h.rv (List.getElem?_set_self hlt)
theorem Fz.as_set {k:Kd}(h:Fz w0 w X)(hi:X[i]?=some k):Fz w0 w (X.set i k):=by rw[Fz.set_same hi];exact h
theorem rread_bad (h:Fz w0 w X)(hi:X[i]?=some (ks P (some p) x))(hj:X[j]?=some (ke p n D))(hk:D.ws.length≤100000)(he:(rdL x.c n D.rd).2≠0):Calls prog 95 #[qp P] w fun e w'=>e=.returned (.tuple #[.agg row0.toArray,.int .i64 (rdL x.c n D.rd).2])∧Fz w0 w' X:=by
 have hq:((rdL x.c n D.rd).2 != 0)=true:=by simp[he]
 obtain ⟨w1,hal,hb1,h1⟩:=h.rowbox
 generalize w.heap.size=b0 at h1 hal hb1
 have HAL:Hid (_):=hal
 have H2:Hid (Fz w0 w1.drew (kb b0 42 row0 :: X)):=h1.later (below_drawn 1)
 have HK:Hid (D.ws.length≤100000):=hk
 clear h hal h1 hb1 hk
 go_enter func95,ntmps95
 go_wp2_with ((with_reducible refine at_ops ?_);(refine wpList_alloc_is (by rfl) 42 rfl HAL.out ?_);simp only[Act.put,zA,zB,zC])
 refine wp_region_noPanic ?_
 refine wp_region_held_drew (S:=fun W=>Rdv P (some p) x W) (by kernel_rfl) (H2.out.rv (i:=i+1) hi) (fun hHeld=>?_)
 generalize w1.drew=w2 at *
 refine tk 0 hHeld ?_
 refine tk 1 hHeld ?_
 refine tk 2 hHeld ?_
 refine tkl 3 hHeld (fun _ s=>s.c0) ?_
 refine tk 4 hHeld ?_
 refine tk 5 hHeld ?_
 refine tk 6 hHeld ?_
 refine tkm 7 hHeld (fun _ s=>s.loadC) ?_
 refine wpAnyH_ready (rs:=[8,12]) (by kernel_rfl) (by simp) ?_
 refine AllReadyH.cons (by simp;rfl) (fun Kc hKc=>?_) (AllReadyH.cons (by simp;rfl) (fun Kc hKc=>?_) AllReadyH.nil)
 ·go_simp
  refine (r_read H2.out (j:=j+1) hj HK.out x.c).mono ?_
  rintro e wx1 ⟨qa,qc,rfl,hd⟩
  have HD1:Hid (Fz w0 wx1 (kz (.slice qa (lgS n x.c D).txs.length qc) (lgS n x.c D).txs :: kb b0 42 row0 :: X)):=hd
  clear hd H2
  go_simp
  refine hKc.out _ _ (HD1.out.rv (i:=i+2) hi) (fun hHeld=>?_)
  clear hKc Kc
  refine tk 9 hHeld ?_
  refine tk 10 hHeld ?_
  refine tk 11 hHeld ?_
  refine tkr 12 fun Kc hKc=>?_
  obtain ⟨RN,hRN⟩:∃B,wx1.heap.size=B:=⟨_,rfl⟩
  have hdv:=HD1.out.newa (gcells 0 0 0 (.slice none 0 0)) 225
  have hal:=alloc_rlg wx1
  rw[hRN] at hdv hal
  refine step_alloc_is (by rfl) 225 rfl hal ?_
  simp only[Act.put,zA,zB,zC]
  have HD2:Hid (Fz w0 (wx1.alloc (.cells (gcells 0 0 0 (.slice none 0 0)).toArray 225)) (kb RN 225 (gcells 0 0 0 (.slice none 0 0)) :: kz (.slice qa (lgS n x.c D).txs.length qc) (lgS n x.c D).txs :: kb b0 42 row0 :: X)):=hdv
  clear hdv hal hRN HD1
  generalize wx1.alloc (.cells (gcells 0 0 0 (.slice none 0 0)).toArray 225)=wx2 at *
  refine hKc.out _ _ (HD2.out.rv (i:=i+3) hi) (fun hHeld=>?_)
  clear hKc Kc
  refine tkr 13 fun Kc hKc=>?_
  obtain ⟨hla,-,-,hlb⟩:=HD2.out.atb (i:=0) rfl
  have hst:=LAt.store hla (ds:=(gcells (lgS n x.c D).tail (lgS n x.c D).life (lgS n x.c D).fin (.slice qa (lgS n x.c D).txs.length qc))) (by rw[size_rlg];rfl) rfl (by simp[gcells,Value.oneCell'])
  have hds:=hlb (gcells (lgS n x.c D).tail (lgS n x.c D).life (lgS n x.c D).fin (.slice qa (lgS n x.c D).txs.length qc))
  refine step_store_is (by rfl) 225 rfl rfl rfl hst ?_
  simp only[Act.put]
  have HD3:Hid (Fz w0 (wx2.setRow RN (gcells (lgS n x.c D).tail (lgS n x.c D).life (lgS n x.c D).fin (.slice qa (lgS n x.c D).txs.length qc)).toArray) (kb RN 225 (gcells (lgS n x.c D).tail (lgS n x.c D).life (lgS n x.c D).fin (.slice qa (lgS n x.c D).txs.length qc)) :: kz (.slice qa (lgS n x.c D).txs.length qc) (lgS n x.c D).txs :: kb b0 42 row0 :: X)):=hds
  clear hds hst hla hlb HD2
  generalize wx2.setRow RN (gcells (lgS n x.c D).tail (lgS n x.c D).life (lgS n x.c D).fin (.slice qa (lgS n x.c D).txs.length qc)).toArray=wx3 at *
  refine hKc.out _ _ (HD3.out.rv (i:=i+3) hi) (fun hHeld=>?_)
  clear hKc Kc
  refine tk 14 hHeld ?_
  clear hHeld
  refine wpAnyH_done (by kernel_rfl) (NoPanic.normal ?_) _
  have HZ:=HD3.out
  have H9:Hid (Fz w0 wx3 (kb RN 225 (gcells (lgS n x.c D).tail (lgS n x.c D).life (lgS n x.c D).fin (.slice qa (lgS n x.c D).txs.length qc)) :: kz (.slice qa (lgS n x.c D).txs.length qc) (lgS n x.c D).txs :: kb b0 42 row0 :: X)):=HZ
  clear HZ HD3
  generalize wx3=w9 at *
  have HBD:Hid (_):=build_row0 w9
  obtain ⟨wz,hst,hlz,hfz⟩:=(Fz.pop (Fz.pop H9.out)).laid (r:=⟨0,0,zv,0,0⟩) (zs_len 32)
  have HST:Hid (_):=hst
  have HLz:Hid (_):=hlz
  have HFz:Hid (_):=hfz
  clear hst hlz hfz H9
  go_wp2_with ((with_reducible refine at_ops ?_);(first | (refine wpList_build_is (vs:=[]) (by rfl) 42 rfl (by rfl) HBD.out ?_) | (refine wpList_store_is (by rfl) 42 rfl rfl rfl HST.out ?_));simp only[Act.put,zA,zB,zC])
  (try simp only[Exit.inBlock,Exit.then])
  exact bodyPost_ret (results_lat results95 _ _ _ 42 _ _ (by rfl) HLz.out underlying42 rfl (by rw[size_row,rowc_len (zs_len 32)])) rfl ⟨rfl,HFz.out⟩
 ·obtain ⟨RN,hRN⟩:∃B,w2.heap.size=B:=⟨_,rfl⟩
  have hdv:=H2.out.newa (gcells 0 0 0 (.slice none 0 0)) 225
  have hal:=alloc_rlg w2
  rw[hRN] at hdv hal
  refine step_alloc_is (by rfl) 225 rfl hal ?_
  simp only[Act.put,zA,zB,zC]
  have HD1:Hid (Fz w0 (w2.alloc (.cells (gcells 0 0 0 (.slice none 0 0)).toArray 225)) (kb RN 225 (gcells 0 0 0 (.slice none 0 0)) :: kb b0 42 row0 :: X)):=hdv
  clear hdv hal hRN H2
  generalize w2.alloc (.cells (gcells 0 0 0 (.slice none 0 0)).toArray 225)=wx1 at *
  refine hKc.out _ _ (HD1.out.rv (i:=i+2) hi) (fun hHeld=>?_)
  clear hKc Kc
  refine tkr 8 fun Kc hKc=>?_
  go_simp
  refine (r_read HD1.out (j:=j+2) hj HK.out x.c).mono ?_
  rintro e wx2 ⟨qa,qc,rfl,hd⟩
  have HD2:Hid (Fz w0 wx2 (kz (.slice qa (lgS n x.c D).txs.length qc) (lgS n x.c D).txs :: kb RN 225 (gcells 0 0 0 (.slice none 0 0)) :: kb b0 42 row0 :: X)):=hd
  clear hd HD1
  go_simp
  refine hKc.out _ _ (HD2.out.rv (i:=i+3) hi) (fun hHeld=>?_)
  clear hKc Kc
  refine tk 9 hHeld ?_
  refine tk 10 hHeld ?_
  refine tk 11 hHeld ?_
  refine tkr 13 fun Kc hKc=>?_
  obtain ⟨hla,-,-,hlb⟩:=HD2.out.atb (i:=1) rfl
  have hst:=LAt.store hla (ds:=(gcells (lgS n x.c D).tail (lgS n x.c D).life (lgS n x.c D).fin (.slice qa (lgS n x.c D).txs.length qc))) (by rw[size_rlg];rfl) rfl (by simp[gcells,Value.oneCell'])
  have hds:=hlb (gcells (lgS n x.c D).tail (lgS n x.c D).life (lgS n x.c D).fin (.slice qa (lgS n x.c D).txs.length qc))
  refine step_store_is (by rfl) 225 rfl rfl rfl hst ?_
  simp only[Act.put]
  have HD3:Hid (Fz w0 (wx2.setRow RN (gcells (lgS n x.c D).tail (lgS n x.c D).life (lgS n x.c D).fin (.slice qa (lgS n x.c D).txs.length qc)).toArray) (kz (.slice qa (lgS n x.c D).txs.length qc) (lgS n x.c D).txs :: kb RN 225 (gcells (lgS n x.c D).tail (lgS n x.c D).life (lgS n x.c D).fin (.slice qa (lgS n x.c D).txs.length qc)) :: kb b0 42 row0 :: X)):=hds
  clear hds hst hla hlb HD2
  generalize wx2.setRow RN (gcells (lgS n x.c D).tail (lgS n x.c D).life (lgS n x.c D).fin (.slice qa (lgS n x.c D).txs.length qc)).toArray=wx3 at *
  refine hKc.out _ _ (HD3.out.rv (i:=i+3) hi) (fun hHeld=>?_)
  clear hKc Kc
  refine tk 14 hHeld ?_
  clear hHeld
  refine wpAnyH_done (by kernel_rfl) (NoPanic.normal ?_) _
  have HZ:=Fz.swap HD3.out
  have H9:Hid (Fz w0 wx3 (kb RN 225 (gcells (lgS n x.c D).tail (lgS n x.c D).life (lgS n x.c D).fin (.slice qa (lgS n x.c D).txs.length qc)) :: kz (.slice qa (lgS n x.c D).txs.length qc) (lgS n x.c D).txs :: kb b0 42 row0 :: X)):=HZ
  clear HZ HD3
  generalize wx3=w9 at *
  have HBD:Hid (_):=build_row0 w9
  obtain ⟨wz,hst,hlz,hfz⟩:=(Fz.pop (Fz.pop H9.out)).laid (r:=⟨0,0,zv,0,0⟩) (zs_len 32)
  have HST:Hid (_):=hst
  have HLz:Hid (_):=hlz
  have HFz:Hid (_):=hfz
  clear hst hlz hfz H9
  go_wp2_with ((with_reducible refine at_ops ?_);(first | (refine wpList_build_is (vs:=[]) (by rfl) 42 rfl (by rfl) HBD.out ?_) | (refine wpList_store_is (by rfl) 42 rfl rfl rfl HST.out ?_));simp only[Act.put,zA,zB,zC])
  (try simp only[Exit.inBlock,Exit.then])
  exact bodyPost_ret (results_lat results95 _ _ _ 42 _ _ (by rfl) HLz.out underlying42 rfl (by rw[size_row,rowc_len (zs_len 32)])) rfl ⟨rfl,HFz.out⟩
theorem rread_wrap (h:Fz w0 w X)(hi:X[i]?=some (ks P (some p) x))(hj:X[j]?=some (ke p n D))(ok:x.Ok n)(hk:D.ws.length≤100000)(hz:(rdL x.c n D.rd).2=0)(hw:wrapS x.c (lgS n x.c D)):Calls prog 95 #[qp P] w fun e w'=>e=.returned (.tuple #[.agg row0.toArray,.int .i64 31])∧Fz w0 w' X:=by
 have HZ0:Hid ((rdL x.c n D.rd).2=0):=hz
 have K1:IntKind.u64.wrap x.c.lc=x.c.lc:=by have:=ok.mc.2.1;rw[IntKind.wrap_u64];omega
 have K2:IntKind.u64.wrap (4611686018427387904-x.c.lc)=4611686018427387904-x.c.lc:=by have:=ok.mc.2.1;rw[IntKind.wrap_u64];omega
 by_cases c1:4611686018427387904-x.c.lc<(lgS n x.c D).fin
 ·have q1:decide (4611686018427387904-x.c.lc<(lgS n x.c D).fin)=true:=by simp[c1]
  clear hz hw c1
  obtain ⟨w1,hal,hb1,h1⟩:=h.rowbox
  generalize w.heap.size=b0 at h1 hal hb1
  have HAL:Hid (_):=hal
  have H2:Hid (Fz w0 w1.drew (kb b0 42 row0 :: X)):=h1.later (below_drawn 1)
  have HK:Hid (D.ws.length≤100000):=hk
  clear h hal h1 hb1 hk
  go_enter func95,ntmps95
  go_wp2_with ((with_reducible refine at_ops ?_);(refine wpList_alloc_is (by rfl) 42 rfl HAL.out ?_);simp only[Act.put,zA,zB,zC])
  refine wp_region_noPanic ?_
  refine wp_region_held_drew (S:=fun W=>Rdv P (some p) x W) (by kernel_rfl) (H2.out.rv (i:=i+1) hi) (fun hHeld=>?_)
  generalize w1.drew=w2 at *
  refine tk 0 hHeld ?_
  refine tk 1 hHeld ?_
  refine tk 2 hHeld ?_
  refine tkl 3 hHeld (fun _ s=>s.c0) ?_
  refine tk 4 hHeld ?_
  refine tk 5 hHeld ?_
  refine tk 6 hHeld ?_
  refine tkm 7 hHeld (fun _ s=>s.loadC) ?_
  refine wpAnyH_ready (rs:=[8,12]) (by kernel_rfl) (by simp) ?_
  refine AllReadyH.cons (by simp;rfl) (fun Kc hKc=>?_) (AllReadyH.cons (by simp;rfl) (fun Kc hKc=>?_) AllReadyH.nil)
  ·go_simp
   refine (r_read H2.out (j:=j+1) hj HK.out x.c).mono ?_
   rintro e wx1 ⟨qa,qc,rfl,hd⟩
   have HD1:Hid (Fz w0 wx1 (kz (.slice qa (lgS n x.c D).txs.length qc) (lgS n x.c D).txs :: kb b0 42 row0 :: X)):=hd
   clear hd H2
   rw[HZ0.out]
   go_simp
   refine hKc.out _ _ (HD1.out.rv (i:=i+2) hi) (fun hHeld=>?_)
   clear hKc Kc
   refine tk 9 hHeld ?_
   refine tk 10 hHeld ?_
   refine tk 11 hHeld ?_
   refine tkr 12 fun Kc hKc=>?_
   obtain ⟨RN,hRN⟩:∃B,wx1.heap.size=B:=⟨_,rfl⟩
   have hdv:=HD1.out.newa (gcells 0 0 0 (.slice none 0 0)) 225
   have hal:=alloc_rlg wx1
   rw[hRN] at hdv hal
   refine step_alloc_is (by rfl) 225 rfl hal ?_
   simp only[Act.put,zA,zB,zC]
   have HD2:Hid (Fz w0 (wx1.alloc (.cells (gcells 0 0 0 (.slice none 0 0)).toArray 225)) (kb RN 225 (gcells 0 0 0 (.slice none 0 0)) :: kz (.slice qa (lgS n x.c D).txs.length qc) (lgS n x.c D).txs :: kb b0 42 row0 :: X)):=hdv
   clear hdv hal hRN HD1
   generalize wx1.alloc (.cells (gcells 0 0 0 (.slice none 0 0)).toArray 225)=wx2 at *
   refine hKc.out _ _ (HD2.out.rv (i:=i+3) hi) (fun hHeld=>?_)
   clear hKc Kc
   refine tkr 13 fun Kc hKc=>?_
   obtain ⟨hla,-,-,hlb⟩:=HD2.out.atb (i:=0) rfl
   have hst:=LAt.store hla (ds:=(gcells (lgS n x.c D).tail (lgS n x.c D).life (lgS n x.c D).fin (.slice qa (lgS n x.c D).txs.length qc))) (by rw[size_rlg];rfl) rfl (by simp[gcells,Value.oneCell'])
   have hds:=hlb (gcells (lgS n x.c D).tail (lgS n x.c D).life (lgS n x.c D).fin (.slice qa (lgS n x.c D).txs.length qc))
   refine step_store_is (by rfl) 225 rfl rfl rfl hst ?_
   simp only[Act.put]
   have HD3:Hid (Fz w0 (wx2.setRow RN (gcells (lgS n x.c D).tail (lgS n x.c D).life (lgS n x.c D).fin (.slice qa (lgS n x.c D).txs.length qc)).toArray) (kb RN 225 (gcells (lgS n x.c D).tail (lgS n x.c D).life (lgS n x.c D).fin (.slice qa (lgS n x.c D).txs.length qc)) :: kz (.slice qa (lgS n x.c D).txs.length qc) (lgS n x.c D).txs :: kb b0 42 row0 :: X)):=hds
   clear hds hst hla hlb HD2
   generalize wx2.setRow RN (gcells (lgS n x.c D).tail (lgS n x.c D).life (lgS n x.c D).fin (.slice qa (lgS n x.c D).txs.length qc)).toArray=wx3 at *
   refine hKc.out _ _ (HD3.out.rv (i:=i+3) hi) (fun hHeld=>?_)
   clear hKc Kc
   refine tk 14 hHeld ?_
   clear hHeld
   refine wpAnyH_done (by kernel_rfl) (NoPanic.normal ?_) _
   have HZ:=HD3.out
   have H9:Hid (Fz w0 wx3 (kb RN 225 (gcells (lgS n x.c D).tail (lgS n x.c D).life (lgS n x.c D).fin (.slice qa (lgS n x.c D).txs.length qc)) :: kz (.slice qa (lgS n x.c D).txs.length qc) (lgS n x.c D).txs :: kb b0 42 row0 :: X)):=HZ
   clear HZ HD3
   generalize wx3=w9 at *
   have H10:Hid (Fz w0 w9.drew (kb RN 225 (gcells (lgS n x.c D).tail (lgS n x.c D).life (lgS n x.c D).fin (.slice qa (lgS n x.c D).txs.length qc)) :: kz (.slice qa (lgS n x.c D).txs.length qc) (lgS n x.c D).txs :: kb b0 42 row0 :: X)):=H9.out.later (below_drawn 1)
   clear H9
   go_wp2_with fail
   refine wp_region_noPanic ?_
   refine wp_region_held_drew (S:=fun W=>Rdv P (some p) x W∧LAt 225 W RN (gcells (lgS n x.c D).tail (lgS n x.c D).life (lgS n x.c D).fin (.slice qa (lgS n x.c D).txs.length qc))) (by kernel_rfl) ⟨H10.out.rv (i:=i+3) hi,(H10.out.atb (i:=0) rfl).1⟩ (fun hHeld=>?_)
   generalize w9.drew=w10 at *
   refine tk 0 hHeld ?_
   refine tkl 1 hHeld (fun _ s=>rlg2 s.2) ?_
   refine tk 2 hHeld ?_
   refine tk 3 hHeld ?_
   refine tk 4 hHeld ?_
   refine tk 5 hHeld ?_
   refine tkl 6 hHeld (fun _ s=>s.1.c2) ?_
   refine tk 7 hHeld ?_
   refine tk 8 hHeld ?_
   refine tk 9 hHeld ?_
   refine tk 10 hHeld ?_
   refine tks 11 hHeld ?_
   refine tks 12 hHeld ?_
   refine tks 13 hHeld ?_
   refine tk 14 hHeld ?_
   clear hHeld
   refine wpAnyH_done (by kernel_rfl) (NoPanic.normal ?_) _
   have HBD:Hid (_):=build_row0 w10
   obtain ⟨wz,hst,hlz,hfz⟩:=(Fz.pop (Fz.pop H10.out)).laid (r:=⟨0,0,zv,0,0⟩) (zs_len 32)
   have HST:Hid (_):=hst
   have HLz:Hid (_):=hlz
   have HFz:Hid (_):=hfz
   clear hst hlz hfz H10
   go_wp2_with ((with_reducible refine at_ops ?_);(first | (refine wpList_build_is (vs:=[]) (by rfl) 42 rfl (by rfl) HBD.out ?_) | (refine wpList_store_is (by rfl) 42 rfl rfl rfl HST.out ?_));simp only[Act.put,zA,zB,zC])
   (try simp only[Exit.inBlock,Exit.then])
   exact bodyPost_ret (results_lat results95 _ _ _ 42 _ _ (by rfl) HLz.out underlying42 rfl (by rw[size_row,rowc_len (zs_len 32)])) rfl ⟨rfl,HFz.out⟩
  ·obtain ⟨RN,hRN⟩:∃B,w2.heap.size=B:=⟨_,rfl⟩
   have hdv:=H2.out.newa (gcells 0 0 0 (.slice none 0 0)) 225
   have hal:=alloc_rlg w2
   rw[hRN] at hdv hal
   refine step_alloc_is (by rfl) 225 rfl hal ?_
   simp only[Act.put,zA,zB,zC]
   have HD1:Hid (Fz w0 (w2.alloc (.cells (gcells 0 0 0 (.slice none 0 0)).toArray 225)) (kb RN 225 (gcells 0 0 0 (.slice none 0 0)) :: kb b0 42 row0 :: X)):=hdv
   clear hdv hal hRN H2
   generalize w2.alloc (.cells (gcells 0 0 0 (.slice none 0 0)).toArray 225)=wx1 at *
   refine hKc.out _ _ (HD1.out.rv (i:=i+2) hi) (fun hHeld=>?_)
   clear hKc Kc
   refine tkr 8 fun Kc hKc=>?_
   go_simp
   refine (r_read HD1.out (j:=j+2) hj HK.out x.c).mono ?_
   rintro e wx2 ⟨qa,qc,rfl,hd⟩
   have HD2:Hid (Fz w0 wx2 (kz (.slice qa (lgS n x.c D).txs.length qc) (lgS n x.c D).txs :: kb RN 225 (gcells 0 0 0 (.slice none 0 0)) :: kb b0 42 row0 :: X)):=hd
   clear hd HD1
   rw[HZ0.out]
   go_simp
   refine hKc.out _ _ (HD2.out.rv (i:=i+3) hi) (fun hHeld=>?_)
   clear hKc Kc
   refine tk 9 hHeld ?_
   refine tk 10 hHeld ?_
   refine tk 11 hHeld ?_
   refine tkr 13 fun Kc hKc=>?_
   obtain ⟨hla,-,-,hlb⟩:=HD2.out.atb (i:=1) rfl
   have hst:=LAt.store hla (ds:=(gcells (lgS n x.c D).tail (lgS n x.c D).life (lgS n x.c D).fin (.slice qa (lgS n x.c D).txs.length qc))) (by rw[size_rlg];rfl) rfl (by simp[gcells,Value.oneCell'])
   have hds:=hlb (gcells (lgS n x.c D).tail (lgS n x.c D).life (lgS n x.c D).fin (.slice qa (lgS n x.c D).txs.length qc))
   refine step_store_is (by rfl) 225 rfl rfl rfl hst ?_
   simp only[Act.put]
   have HD3:Hid (Fz w0 (wx2.setRow RN (gcells (lgS n x.c D).tail (lgS n x.c D).life (lgS n x.c D).fin (.slice qa (lgS n x.c D).txs.length qc)).toArray) (kz (.slice qa (lgS n x.c D).txs.length qc) (lgS n x.c D).txs :: kb RN 225 (gcells (lgS n x.c D).tail (lgS n x.c D).life (lgS n x.c D).fin (.slice qa (lgS n x.c D).txs.length qc)) :: kb b0 42 row0 :: X)):=hds
   clear hds hst hla hlb HD2
   generalize wx2.setRow RN (gcells (lgS n x.c D).tail (lgS n x.c D).life (lgS n x.c D).fin (.slice qa (lgS n x.c D).txs.length qc)).toArray=wx3 at *
   refine hKc.out _ _ (HD3.out.rv (i:=i+3) hi) (fun hHeld=>?_)
   clear hKc Kc
   refine tk 14 hHeld ?_
   clear hHeld
   refine wpAnyH_done (by kernel_rfl) (NoPanic.normal ?_) _
   have HZ:=Fz.swap HD3.out
   have H9:Hid (Fz w0 wx3 (kb RN 225 (gcells (lgS n x.c D).tail (lgS n x.c D).life (lgS n x.c D).fin (.slice qa (lgS n x.c D).txs.length qc)) :: kz (.slice qa (lgS n x.c D).txs.length qc) (lgS n x.c D).txs :: kb b0 42 row0 :: X)):=HZ
   clear HZ HD3
   generalize wx3=w9 at *
   have H10:Hid (Fz w0 w9.drew (kb RN 225 (gcells (lgS n x.c D).tail (lgS n x.c D).life (lgS n x.c D).fin (.slice qa (lgS n x.c D).txs.length qc)) :: kz (.slice qa (lgS n x.c D).txs.length qc) (lgS n x.c D).txs :: kb b0 42 row0 :: X)):=H9.out.later (below_drawn 1)
   clear H9
   go_wp2_with fail
   refine wp_region_noPanic ?_
   refine wp_region_held_drew (S:=fun W=>Rdv P (some p) x W∧LAt 225 W RN (gcells (lgS n x.c D).tail (lgS n x.c D).life (lgS n x.c D).fin (.slice qa (lgS n x.c D).txs.length qc))) (by kernel_rfl) ⟨H10.out.rv (i:=i+3) hi,(H10.out.atb (i:=0) rfl).1⟩ (fun hHeld=>?_)
   generalize w9.drew=w10 at *
   refine tk 0 hHeld ?_
   refine tkl 1 hHeld (fun _ s=>rlg2 s.2) ?_
   refine tk 2 hHeld ?_
   refine tk 3 hHeld ?_
   refine tk 4 hHeld ?_
   refine tk 5 hHeld ?_
   refine tkl 6 hHeld (fun _ s=>s.1.c2) ?_
   refine tk 7 hHeld ?_
   refine tk 8 hHeld ?_
   refine tk 9 hHeld ?_
   refine tk 10 hHeld ?_
   refine tks 11 hHeld ?_
   refine tks 12 hHeld ?_
   refine tks 13 hHeld ?_
   refine tk 14 hHeld ?_
   clear hHeld
   refine wpAnyH_done (by kernel_rfl) (NoPanic.normal ?_) _
   have HBD:Hid (_):=build_row0 w10
   obtain ⟨wz,hst,hlz,hfz⟩:=(Fz.pop (Fz.pop H10.out)).laid (r:=⟨0,0,zv,0,0⟩) (zs_len 32)
   have HST:Hid (_):=hst
   have HLz:Hid (_):=hlz
   have HFz:Hid (_):=hfz
   clear hst hlz hfz H10
   go_wp2_with ((with_reducible refine at_ops ?_);(first | (refine wpList_build_is (vs:=[]) (by rfl) 42 rfl (by rfl) HBD.out ?_) | (refine wpList_store_is (by rfl) 42 rfl rfl rfl HST.out ?_));simp only[Act.put,zA,zB,zC])
   (try simp only[Exit.inBlock,Exit.then])
   exact bodyPost_ret (results_lat results95 _ _ _ 42 _ _ (by rfl) HLz.out underlying42 rfl (by rw[size_row,rowc_len (zs_len 32)])) rfl ⟨rfl,HFz.out⟩
 ·have c2:4611686018427387904≤(lgS n x.c D).life:=by rcases hw with e | e <;> omega
  have q1:decide (4611686018427387904-x.c.lc<(lgS n x.c D).fin)=false:=by simp[c1]
  have q2:decide (4611686018427387904≤(lgS n x.c D).life)=true:=by simp[c2]
  clear hz hw c1 c2
  obtain ⟨w1,hal,hb1,h1⟩:=h.rowbox
  generalize w.heap.size=b0 at h1 hal hb1
  have HAL:Hid (_):=hal
  have H2:Hid (Fz w0 w1.drew (kb b0 42 row0 :: X)):=h1.later (below_drawn 1)
  have HK:Hid (D.ws.length≤100000):=hk
  clear h hal h1 hb1 hk
  go_enter func95,ntmps95
  go_wp2_with ((with_reducible refine at_ops ?_);(refine wpList_alloc_is (by rfl) 42 rfl HAL.out ?_);simp only[Act.put,zA,zB,zC])
  refine wp_region_noPanic ?_
  refine wp_region_held_drew (S:=fun W=>Rdv P (some p) x W) (by kernel_rfl) (H2.out.rv (i:=i+1) hi) (fun hHeld=>?_)
  generalize w1.drew=w2 at *
  refine tk 0 hHeld ?_
  refine tk 1 hHeld ?_
  refine tk 2 hHeld ?_
  refine tkl 3 hHeld (fun _ s=>s.c0) ?_
  refine tk 4 hHeld ?_
  refine tk 5 hHeld ?_
  refine tk 6 hHeld ?_
  refine tkm 7 hHeld (fun _ s=>s.loadC) ?_
  refine wpAnyH_ready (rs:=[8,12]) (by kernel_rfl) (by simp) ?_
  refine AllReadyH.cons (by simp;rfl) (fun Kc hKc=>?_) (AllReadyH.cons (by simp;rfl) (fun Kc hKc=>?_) AllReadyH.nil)
  ·go_simp
   refine (r_read H2.out (j:=j+1) hj HK.out x.c).mono ?_
   rintro e wx1 ⟨qa,qc,rfl,hd⟩
   have HD1:Hid (Fz w0 wx1 (kz (.slice qa (lgS n x.c D).txs.length qc) (lgS n x.c D).txs :: kb b0 42 row0 :: X)):=hd
   clear hd H2
   rw[HZ0.out]
   go_simp
   refine hKc.out _ _ (HD1.out.rv (i:=i+2) hi) (fun hHeld=>?_)
   clear hKc Kc
   refine tk 9 hHeld ?_
   refine tk 10 hHeld ?_
   refine tk 11 hHeld ?_
   refine tkr 12 fun Kc hKc=>?_
   obtain ⟨RN,hRN⟩:∃B,wx1.heap.size=B:=⟨_,rfl⟩
   have hdv:=HD1.out.newa (gcells 0 0 0 (.slice none 0 0)) 225
   have hal:=alloc_rlg wx1
   rw[hRN] at hdv hal
   refine step_alloc_is (by rfl) 225 rfl hal ?_
   simp only[Act.put,zA,zB,zC]
   have HD2:Hid (Fz w0 (wx1.alloc (.cells (gcells 0 0 0 (.slice none 0 0)).toArray 225)) (kb RN 225 (gcells 0 0 0 (.slice none 0 0)) :: kz (.slice qa (lgS n x.c D).txs.length qc) (lgS n x.c D).txs :: kb b0 42 row0 :: X)):=hdv
   clear hdv hal hRN HD1
   generalize wx1.alloc (.cells (gcells 0 0 0 (.slice none 0 0)).toArray 225)=wx2 at *
   refine hKc.out _ _ (HD2.out.rv (i:=i+3) hi) (fun hHeld=>?_)
   clear hKc Kc
   refine tkr 13 fun Kc hKc=>?_
   obtain ⟨hla,-,-,hlb⟩:=HD2.out.atb (i:=0) rfl
   have hst:=LAt.store hla (ds:=(gcells (lgS n x.c D).tail (lgS n x.c D).life (lgS n x.c D).fin (.slice qa (lgS n x.c D).txs.length qc))) (by rw[size_rlg];rfl) rfl (by simp[gcells,Value.oneCell'])
   have hds:=hlb (gcells (lgS n x.c D).tail (lgS n x.c D).life (lgS n x.c D).fin (.slice qa (lgS n x.c D).txs.length qc))
   refine step_store_is (by rfl) 225 rfl rfl rfl hst ?_
   simp only[Act.put]
   have HD3:Hid (Fz w0 (wx2.setRow RN (gcells (lgS n x.c D).tail (lgS n x.c D).life (lgS n x.c D).fin (.slice qa (lgS n x.c D).txs.length qc)).toArray) (kb RN 225 (gcells (lgS n x.c D).tail (lgS n x.c D).life (lgS n x.c D).fin (.slice qa (lgS n x.c D).txs.length qc)) :: kz (.slice qa (lgS n x.c D).txs.length qc) (lgS n x.c D).txs :: kb b0 42 row0 :: X)):=hds
   clear hds hst hla hlb HD2
   generalize wx2.setRow RN (gcells (lgS n x.c D).tail (lgS n x.c D).life (lgS n x.c D).fin (.slice qa (lgS n x.c D).txs.length qc)).toArray=wx3 at *
   refine hKc.out _ _ (HD3.out.rv (i:=i+3) hi) (fun hHeld=>?_)
   clear hKc Kc
   refine tk 14 hHeld ?_
   clear hHeld
   refine wpAnyH_done (by kernel_rfl) (NoPanic.normal ?_) _
   have HZ:=HD3.out
   have H9:Hid (Fz w0 wx3 (kb RN 225 (gcells (lgS n x.c D).tail (lgS n x.c D).life (lgS n x.c D).fin (.slice qa (lgS n x.c D).txs.length qc)) :: kz (.slice qa (lgS n x.c D).txs.length qc) (lgS n x.c D).txs :: kb b0 42 row0 :: X)):=HZ
   clear HZ HD3
   generalize wx3=w9 at *
   have H10:Hid (Fz w0 w9.drew (kb RN 225 (gcells (lgS n x.c D).tail (lgS n x.c D).life (lgS n x.c D).fin (.slice qa (lgS n x.c D).txs.length qc)) :: kz (.slice qa (lgS n x.c D).txs.length qc) (lgS n x.c D).txs :: kb b0 42 row0 :: X)):=H9.out.later (below_drawn 1)
   clear H9
   go_wp2_with fail
   refine wp_region_noPanic ?_
   refine wp_region_held_drew (S:=fun W=>Rdv P (some p) x W∧LAt 225 W RN (gcells (lgS n x.c D).tail (lgS n x.c D).life (lgS n x.c D).fin (.slice qa (lgS n x.c D).txs.length qc))) (by kernel_rfl) ⟨H10.out.rv (i:=i+3) hi,(H10.out.atb (i:=0) rfl).1⟩ (fun hHeld=>?_)
   generalize w9.drew=w10 at *
   refine tk 0 hHeld ?_
   refine tkl 1 hHeld (fun _ s=>rlg2 s.2) ?_
   refine tk 2 hHeld ?_
   refine tk 3 hHeld ?_
   refine tk 4 hHeld ?_
   refine tk 5 hHeld ?_
   refine tkl 6 hHeld (fun _ s=>s.1.c2) ?_
   refine tk 7 hHeld ?_
   refine tk 8 hHeld ?_
   refine tk 9 hHeld ?_
   refine tk 10 hHeld ?_
   refine tk 11 hHeld ?_
   refine tkl 12 hHeld (fun _ s=>rlg1 s.2) ?_
   refine tk 13 hHeld ?_
   refine tk 14 hHeld ?_
   clear hHeld
   refine wpAnyH_done (by kernel_rfl) (NoPanic.normal ?_) _
   have HBD:Hid (_):=build_row0 w10
   obtain ⟨wz,hst,hlz,hfz⟩:=(Fz.pop (Fz.pop H10.out)).laid (r:=⟨0,0,zv,0,0⟩) (zs_len 32)
   have HST:Hid (_):=hst
   have HLz:Hid (_):=hlz
   have HFz:Hid (_):=hfz
   clear hst hlz hfz H10
   go_wp2_with ((with_reducible refine at_ops ?_);(first | (refine wpList_build_is (vs:=[]) (by rfl) 42 rfl (by rfl) HBD.out ?_) | (refine wpList_store_is (by rfl) 42 rfl rfl rfl HST.out ?_));simp only[Act.put,zA,zB,zC])
   (try simp only[Exit.inBlock,Exit.then])
   exact bodyPost_ret (results_lat results95 _ _ _ 42 _ _ (by rfl) HLz.out underlying42 rfl (by rw[size_row,rowc_len (zs_len 32)])) rfl ⟨rfl,HFz.out⟩
  ·obtain ⟨RN,hRN⟩:∃B,w2.heap.size=B:=⟨_,rfl⟩
   have hdv:=H2.out.newa (gcells 0 0 0 (.slice none 0 0)) 225
   have hal:=alloc_rlg w2
   rw[hRN] at hdv hal
   refine step_alloc_is (by rfl) 225 rfl hal ?_
   simp only[Act.put,zA,zB,zC]
   have HD1:Hid (Fz w0 (w2.alloc (.cells (gcells 0 0 0 (.slice none 0 0)).toArray 225)) (kb RN 225 (gcells 0 0 0 (.slice none 0 0)) :: kb b0 42 row0 :: X)):=hdv
   clear hdv hal hRN H2
   generalize w2.alloc (.cells (gcells 0 0 0 (.slice none 0 0)).toArray 225)=wx1 at *
   refine hKc.out _ _ (HD1.out.rv (i:=i+2) hi) (fun hHeld=>?_)
   clear hKc Kc
   refine tkr 8 fun Kc hKc=>?_
   go_simp
   refine (r_read HD1.out (j:=j+2) hj HK.out x.c).mono ?_
   rintro e wx2 ⟨qa,qc,rfl,hd⟩
   have HD2:Hid (Fz w0 wx2 (kz (.slice qa (lgS n x.c D).txs.length qc) (lgS n x.c D).txs :: kb RN 225 (gcells 0 0 0 (.slice none 0 0)) :: kb b0 42 row0 :: X)):=hd
   clear hd HD1
   rw[HZ0.out]
   go_simp
   refine hKc.out _ _ (HD2.out.rv (i:=i+3) hi) (fun hHeld=>?_)
   clear hKc Kc
   refine tk 9 hHeld ?_
   refine tk 10 hHeld ?_
   refine tk 11 hHeld ?_
   refine tkr 13 fun Kc hKc=>?_
   obtain ⟨hla,-,-,hlb⟩:=HD2.out.atb (i:=1) rfl
   have hst:=LAt.store hla (ds:=(gcells (lgS n x.c D).tail (lgS n x.c D).life (lgS n x.c D).fin (.slice qa (lgS n x.c D).txs.length qc))) (by rw[size_rlg];rfl) rfl (by simp[gcells,Value.oneCell'])
   have hds:=hlb (gcells (lgS n x.c D).tail (lgS n x.c D).life (lgS n x.c D).fin (.slice qa (lgS n x.c D).txs.length qc))
   refine step_store_is (by rfl) 225 rfl rfl rfl hst ?_
   simp only[Act.put]
   have HD3:Hid (Fz w0 (wx2.setRow RN (gcells (lgS n x.c D).tail (lgS n x.c D).life (lgS n x.c D).fin (.slice qa (lgS n x.c D).txs.length qc)).toArray) (kz (.slice qa (lgS n x.c D).txs.length qc) (lgS n x.c D).txs :: kb RN 225 (gcells (lgS n x.c D).tail (lgS n x.c D).life (lgS n x.c D).fin (.slice qa (lgS n x.c D).txs.length qc)) :: kb b0 42 row0 :: X)):=hds
   clear hds hst hla hlb HD2
   generalize wx2.setRow RN (gcells (lgS n x.c D).tail (lgS n x.c D).life (lgS n x.c D).fin (.slice qa (lgS n x.c D).txs.length qc)).toArray=wx3 at *
   refine hKc.out _ _ (HD3.out.rv (i:=i+3) hi) (fun hHeld=>?_)
   clear hKc Kc
   refine tk 14 hHeld ?_
   clear hHeld
   refine wpAnyH_done (by kernel_rfl) (NoPanic.normal ?_) _
   have HZ:=Fz.swap HD3.out
   have H9:Hid (Fz w0 wx3 (kb RN 225 (gcells (lgS n x.c D).tail (lgS n x.c D).life (lgS n x.c D).fin (.slice qa (lgS n x.c D).txs.length qc)) :: kz (.slice qa (lgS n x.c D).txs.length qc) (lgS n x.c D).txs :: kb b0 42 row0 :: X)):=HZ
   clear HZ HD3
   generalize wx3=w9 at *
   have H10:Hid (Fz w0 w9.drew (kb RN 225 (gcells (lgS n x.c D).tail (lgS n x.c D).life (lgS n x.c D).fin (.slice qa (lgS n x.c D).txs.length qc)) :: kz (.slice qa (lgS n x.c D).txs.length qc) (lgS n x.c D).txs :: kb b0 42 row0 :: X)):=H9.out.later (below_drawn 1)
   clear H9
   go_wp2_with fail
   refine wp_region_noPanic ?_
   refine wp_region_held_drew (S:=fun W=>Rdv P (some p) x W∧LAt 225 W RN (gcells (lgS n x.c D).tail (lgS n x.c D).life (lgS n x.c D).fin (.slice qa (lgS n x.c D).txs.length qc))) (by kernel_rfl) ⟨H10.out.rv (i:=i+3) hi,(H10.out.atb (i:=0) rfl).1⟩ (fun hHeld=>?_)
   generalize w9.drew=w10 at *
   refine tk 0 hHeld ?_
   refine tkl 1 hHeld (fun _ s=>rlg2 s.2) ?_
   refine tk 2 hHeld ?_
   refine tk 3 hHeld ?_
   refine tk 4 hHeld ?_
   refine tk 5 hHeld ?_
   refine tkl 6 hHeld (fun _ s=>s.1.c2) ?_
   refine tk 7 hHeld ?_
   refine tk 8 hHeld ?_
   refine tk 9 hHeld ?_
   refine tk 10 hHeld ?_
   refine tk 11 hHeld ?_
   refine tkl 12 hHeld (fun _ s=>rlg1 s.2) ?_
   refine tk 13 hHeld ?_
   refine tk 14 hHeld ?_
   clear hHeld
   refine wpAnyH_done (by kernel_rfl) (NoPanic.normal ?_) _
   have HBD:Hid (_):=build_row0 w10
   obtain ⟨wz,hst,hlz,hfz⟩:=(Fz.pop (Fz.pop H10.out)).laid (r:=⟨0,0,zv,0,0⟩) (zs_len 32)
   have HST:Hid (_):=hst
   have HLz:Hid (_):=hlz
   have HFz:Hid (_):=hfz
   clear hst hlz hfz H10
   go_wp2_with ((with_reducible refine at_ops ?_);(first | (refine wpList_build_is (vs:=[]) (by rfl) 42 rfl (by rfl) HBD.out ?_) | (refine wpList_store_is (by rfl) 42 rfl rfl rfl HST.out ?_));simp only[Act.put,zA,zB,zC])
   (try simp only[Exit.inBlock,Exit.then])
   exact bodyPost_ret (results_lat results95 _ _ _ 42 _ _ (by rfl) HLz.out underlying42 rfl (by rw[size_row,rowc_len (zs_len 32)])) rfl ⟨rfl,HFz.out⟩
theorem build_row76 (w:World)(k q c:Int):(Instr.build 42 #[(0,.int .i64 k),(4,.int .i64 (-1)),(7,.int .i64 c),(6,.int .u64 q)]).run prog w=.ok (.agg (rowc ⟨k,-1,zv,q,c⟩).toArray) w:=run_build w 42 _ _ (by kernel_rfl)
theorem rread_good (h:Fz w0 w X)(hi:X[i]?=some (ks P (some p) x))(hj:X[j]?=some (ke p n D))(ok:x.Ok n)(hs:x.st=1)(hk:D.ws.length≤100000)(hz:(rdL x.c n D.rd).2=0)(hw:¬wrapS x.c (lgS n x.c D)):Calls prog 95 #[qp P] w fun e w'=>e=.returned (.tuple #[.agg (rowc ⟨19,-1,zv,(lgS n x.c D).fin,(lgS n x.c D).txs.length⟩).toArray,.int .i64 0])∧Fz w0 w' (X.set i (ks P (some p) (readR n x D))):=by
 have HZ0:Hid ((rdL x.c n D.rd).2=0):=hz
 have hwf:=lgS_wf (x:=x) (h.eok hj)
 have HWN:Hid (ImsWf (nwS (flat (lgS n x.c D).txs))):=nwS_wf (flat_wf hwf.tx)
 have HLN:Hid ((lgS n x.c D).txs.length≤2000000∧(flat (lgS n x.c D).txs).length≤2000000):=by
  obtain ⟨s,e,hs⟩:=lgS_in hz
  have a:=hs.len;have b:=ok.mc.2.1
  rw[e]
  show _∧_
  omega
 have HLT0:Hid (i<X.length):=(List.getElem?_eq_some_iff.1 hi).1
 have K1:IntKind.u64.wrap x.c.lc=x.c.lc:=by have:=ok.mc.2.1;rw[IntKind.wrap_u64];omega
 have K2:IntKind.u64.wrap (4611686018427387904-x.c.lc)=4611686018427387904-x.c.lc:=by have:=ok.mc.2.1;rw[IntKind.wrap_u64];omega
 have c1:¬4611686018427387904-x.c.lc<(lgS n x.c D).fin:=fun e=>hw (.inl (by omega))
 have c2:¬4611686018427387904≤(lgS n x.c D).life:=fun e=>hw (.inr (by omega))
 have q1:decide (4611686018427387904-x.c.lc<(lgS n x.c D).fin)=false:=by simp[c1]
 have q2:decide (4611686018427387904≤(lgS n x.c D).life)=false:=by simp[c2]
 clear hwf hw hz c1 c2
 obtain ⟨w1,hal,hb1,h1⟩:=h.rowbox
 generalize w.heap.size=b0 at h1 hal hb1
 have HAL:Hid (_):=hal
 have H2:Hid (Fz w0 w1.drew (kb b0 42 row0 :: X)):=h1.later (below_drawn 1)
 have HK:Hid (D.ws.length≤100000):=hk
 clear h hal h1 hb1 hk
 go_enter func95,ntmps95
 go_wp2_with ((with_reducible refine at_ops ?_);(refine wpList_alloc_is (by rfl) 42 rfl HAL.out ?_);simp only[Act.put,zA,zB,zC])
 refine wp_region_noPanic ?_
 refine wp_region_held_drew (S:=fun W=>Rdv P (some p) x W) (by kernel_rfl) (H2.out.rv (i:=i+1) hi) (fun hHeld=>?_)
 generalize w1.drew=w2 at *
 refine tk 0 hHeld ?_
 refine tk 1 hHeld ?_
 refine tk 2 hHeld ?_
 refine tkl 3 hHeld (fun _ s=>s.c0) ?_
 refine tk 4 hHeld ?_
 refine tk 5 hHeld ?_
 refine tk 6 hHeld ?_
 refine tkm 7 hHeld (fun _ s=>s.loadC) ?_
 refine wpAnyH_ready (rs:=[8,12]) (by kernel_rfl) (by simp) ?_
 refine AllReadyH.cons (by simp;rfl) (fun Kc hKc=>?_) (AllReadyH.cons (by simp;rfl) (fun Kc hKc=>?_) AllReadyH.nil)
 ·go_simp
  refine (r_read H2.out (j:=j+1) hj HK.out x.c).mono ?_
  rintro e wx1 ⟨qa,qc,rfl,hd⟩
  have HD1:Hid (Fz w0 wx1 (kz (.slice qa (lgS n x.c D).txs.length qc) (lgS n x.c D).txs :: kb b0 42 row0 :: X)):=hd
  clear hd H2
  rw[HZ0.out]
  go_simp
  refine hKc.out _ _ (HD1.out.rv (i:=i+2) hi) (fun hHeld=>?_)
  clear hKc Kc
  refine tk 9 hHeld ?_
  refine tk 10 hHeld ?_
  refine tk 11 hHeld ?_
  refine tkr 12 fun Kc hKc=>?_
  obtain ⟨RN,hRN⟩:∃B,wx1.heap.size=B:=⟨_,rfl⟩
  have hdv:=HD1.out.newa (gcells 0 0 0 (.slice none 0 0)) 225
  have hal:=alloc_rlg wx1
  rw[hRN] at hdv hal
  refine step_alloc_is (by rfl) 225 rfl hal ?_
  simp only[Act.put,zA,zB,zC]
  have HD2:Hid (Fz w0 (wx1.alloc (.cells (gcells 0 0 0 (.slice none 0 0)).toArray 225)) (kb RN 225 (gcells 0 0 0 (.slice none 0 0)) :: kz (.slice qa (lgS n x.c D).txs.length qc) (lgS n x.c D).txs :: kb b0 42 row0 :: X)):=hdv
  clear hdv hal hRN HD1
  generalize wx1.alloc (.cells (gcells 0 0 0 (.slice none 0 0)).toArray 225)=wx2 at *
  refine hKc.out _ _ (HD2.out.rv (i:=i+3) hi) (fun hHeld=>?_)
  clear hKc Kc
  refine tkr 13 fun Kc hKc=>?_
  obtain ⟨hla,-,-,hlb⟩:=HD2.out.atb (i:=0) rfl
  have hst:=LAt.store hla (ds:=(gcells (lgS n x.c D).tail (lgS n x.c D).life (lgS n x.c D).fin (.slice qa (lgS n x.c D).txs.length qc))) (by rw[size_rlg];rfl) rfl (by simp[gcells,Value.oneCell'])
  have hds:=hlb (gcells (lgS n x.c D).tail (lgS n x.c D).life (lgS n x.c D).fin (.slice qa (lgS n x.c D).txs.length qc))
  refine step_store_is (by rfl) 225 rfl rfl rfl hst ?_
  simp only[Act.put]
  have HD3:Hid (Fz w0 (wx2.setRow RN (gcells (lgS n x.c D).tail (lgS n x.c D).life (lgS n x.c D).fin (.slice qa (lgS n x.c D).txs.length qc)).toArray) (kb RN 225 (gcells (lgS n x.c D).tail (lgS n x.c D).life (lgS n x.c D).fin (.slice qa (lgS n x.c D).txs.length qc)) :: kz (.slice qa (lgS n x.c D).txs.length qc) (lgS n x.c D).txs :: kb b0 42 row0 :: X)):=hds
  clear hds hst hla hlb HD2
  generalize wx2.setRow RN (gcells (lgS n x.c D).tail (lgS n x.c D).life (lgS n x.c D).fin (.slice qa (lgS n x.c D).txs.length qc)).toArray=wx3 at *
  refine hKc.out _ _ (HD3.out.rv (i:=i+3) hi) (fun hHeld=>?_)
  clear hKc Kc
  refine tk 14 hHeld ?_
  clear hHeld
  refine wpAnyH_done (by kernel_rfl) (NoPanic.normal ?_) _
  have HZ:=HD3.out
  have H9:Hid (Fz w0 wx3 (kb RN 225 (gcells (lgS n x.c D).tail (lgS n x.c D).life (lgS n x.c D).fin (.slice qa (lgS n x.c D).txs.length qc)) :: kz (.slice qa (lgS n x.c D).txs.length qc) (lgS n x.c D).txs :: kb b0 42 row0 :: X)):=HZ
  clear HZ HD3
  generalize wx3=w9 at *
  have H10:Hid (Fz w0 w9.drew (kb RN 225 (gcells (lgS n x.c D).tail (lgS n x.c D).life (lgS n x.c D).fin (.slice qa (lgS n x.c D).txs.length qc)) :: kz (.slice qa (lgS n x.c D).txs.length qc) (lgS n x.c D).txs :: kb b0 42 row0 :: X)):=H9.out.later (below_drawn 1)
  clear H9
  go_wp2_with fail
  refine wp_region_noPanic ?_
  refine wp_region_held_drew (S:=fun W=>Rdv P (some p) x W∧LAt 225 W RN (gcells (lgS n x.c D).tail (lgS n x.c D).life (lgS n x.c D).fin (.slice qa (lgS n x.c D).txs.length qc))) (by kernel_rfl) ⟨H10.out.rv (i:=i+3) hi,(H10.out.atb (i:=0) rfl).1⟩ (fun hHeld=>?_)
  generalize w9.drew=w10 at *
  refine tk 0 hHeld ?_
  refine tkl 1 hHeld (fun _ s=>rlg2 s.2) ?_
  refine tk 2 hHeld ?_
  refine tk 3 hHeld ?_
  refine tk 4 hHeld ?_
  refine tk 5 hHeld ?_
  refine tkl 6 hHeld (fun _ s=>s.1.c2) ?_
  refine tk 7 hHeld ?_
  refine tk 8 hHeld ?_
  refine tk 9 hHeld ?_
  refine tk 10 hHeld ?_
  refine tk 11 hHeld ?_
  refine tkl 12 hHeld (fun _ s=>rlg1 s.2) ?_
  refine tk 13 hHeld ?_
  refine tk 14 hHeld ?_
  clear hHeld
  refine wpAnyH_done (by kernel_rfl) (NoPanic.normal ?_) _
  have H11:Hid (Fz w0 w10.drew (kb RN 225 (gcells (lgS n x.c D).tail (lgS n x.c D).life (lgS n x.c D).fin (.slice qa (lgS n x.c D).txs.length qc)) :: kz (.slice qa (lgS n x.c D).txs.length qc) (lgS n x.c D).txs :: kb b0 42 row0 :: X)):=H10.out.later (below_drawn 1)
  have hlt0:=HLT0.out
  clear H10 K1 K2 q1 q2
  go_wp2_with fail
  refine wp_region_noPanic ?_
  refine wp_region_held_drew (S:=fun W=>LAt 225 W RN (gcells (lgS n x.c D).tail (lgS n x.c D).life (lgS n x.c D).fin (.slice qa (lgS n x.c D).txs.length qc))) (by kernel_rfl) (H11.out.atb (i:=0) rfl).1 (fun hHeld=>?_)
  generalize w10.drew=w11 at *
  refine tk 0 hHeld ?_
  refine tk 1 hHeld ?_
  refine tk 2 hHeld ?_
  refine tk 3 hHeld ?_
  refine tkl 4 hHeld (fun _ s=>rlg2 s) ?_
  refine tk 5 hHeld ?_
  refine tkl 6 hHeld (fun _ s=>rlg1 s) ?_
  refine tk 7 hHeld ?_
  refine tkl 8 hHeld (fun _ s=>rlg3 s) ?_
  refine tkr 9 fun Kc hKc=>?_
  go_simp
  refine (rz_newest (j:=1) H11.out rfl HLN.out.1 HLN.out.2).mono ?_
  rintro e wx1 ⟨v,rfl,hd⟩
  obtain ⟨t,G,rfl,ho,-⟩:=hd.at (i:=0) rfl
  obtain ⟨av,cv,ev,-⟩:=IOwn.in ho HWN.out
  subst ev
  have HD1:Hid (Fz w0 wx1 (ko (.slice av (nwS (flat (lgS n x.c D).txs)).length cv) (nwS (flat (lgS n x.c D).txs)) :: kb RN 225 (gcells (lgS n x.c D).tail (lgS n x.c D).life (lgS n x.c D).fin (.slice qa (lgS n x.c D).txs.length qc)) :: kz (.slice qa (lgS n x.c D).txs.length qc) (lgS n x.c D).txs :: kb b0 42 row0 :: X.set i (ks P (some p) x))):=Fz.as_set (X:=ko (.slice av (nwS (flat (lgS n x.c D).txs)).length cv) (nwS (flat (lgS n x.c D).txs)) :: kb RN 225 (gcells (lgS n x.c D).tail (lgS n x.c D).life (lgS n x.c D).fin (.slice qa (lgS n x.c D).txs.length qc)) :: kz (.slice qa (lgS n x.c D).txs.length qc) (lgS n x.c D).txs :: kb b0 42 row0 :: X) (i:=i+4) hd hi
  clear hd ho H11
  refine hKc.out _ _ ((HD1.out.atb (i:=1) rfl).1) (fun hHeld=>?_)
  clear hKc Kc
  refine tk 10 hHeld ?_
  refine tk 11 hHeld ?_
  refine tkr 12 fun Kc hKc=>?_
  have hrv:=Fz.rvs (X:=ko (.slice av (nwS (flat (lgS n x.c D).txs)).length cv) (nwS (flat (lgS n x.c D).txs)) :: kb RN 225 (gcells (lgS n x.c D).tail (lgS n x.c D).life (lgS n x.c D).fin (.slice qa (lgS n x.c D).txs.length qc)) :: kz (.slice qa (lgS n x.c D).txs.length qc) (lgS n x.c D).txs :: kb b0 42 row0 :: X) (i:=i+4) HD1.out (by simp only[List.length_cons];omega)
  have z0:=hrv.c8
  have z1:=hrv.frozen 8
  have HD2:Hid (Fz w0 (wx1.setCell ⟨P,8,none⟩ (.int .u64 (lgS n x.c D).fin)) (ko (.slice av (nwS (flat (lgS n x.c D).txs)).length cv) (nwS (flat (lgS n x.c D).txs)) :: kb RN 225 (gcells (lgS n x.c D).tail (lgS n x.c D).life (lgS n x.c D).fin (.slice qa (lgS n x.c D).txs.length qc)) :: kz (.slice qa (lgS n x.c D).txs.length qc) (lgS n x.c D).txs :: kb b0 42 row0 :: X.set i (ks P (some p) (⟨x.c,x.st,(lgS n x.c D).fin,x.li,x.left⟩:Rc)))):=Fz.rputs (X:=ko (.slice av (nwS (flat (lgS n x.c D).txs)).length cv) (nwS (flat (lgS n x.c D).txs)) :: kb RN 225 (gcells (lgS n x.c D).tail (lgS n x.c D).life (lgS n x.c D).fin (.slice qa (lgS n x.c D).txs.length qc)) :: kz (.slice qa (lgS n x.c D).txs.length qc) (lgS n x.c D).txs :: kb b0 42 row0 :: X) (i:=i+4) HD1.out (by simp only[List.length_cons];omega) 8 _ (⟨x.c,x.st,(lgS n x.c D).fin,x.li,x.left⟩:Rc) rfl fun _=>rfl
  clear HD1 hrv
  go_simp
  clear z0 z1
  generalize wx1.setCell ⟨P,8,none⟩ (.int .u64 (lgS n x.c D).fin)=wx2 at *
  refine hKc.out _ _ ((HD2.out.atb (i:=1) rfl).1) (fun hHeld=>?_)
  clear hKc Kc
  refine tk 13 hHeld ?_
  refine tk 14 hHeld ?_
  refine tkr 15 fun Kc hKc=>?_
  have hrv:=Fz.rvs (X:=ko (.slice av (nwS (flat (lgS n x.c D).txs)).length cv) (nwS (flat (lgS n x.c D).txs)) :: kb RN 225 (gcells (lgS n x.c D).tail (lgS n x.c D).life (lgS n x.c D).fin (.slice qa (lgS n x.c D).txs.length qc)) :: kz (.slice qa (lgS n x.c D).txs.length qc) (lgS n x.c D).txs :: kb b0 42 row0 :: X) (i:=i+4) HD2.out (by simp only[List.length_cons];omega)
  have z0:=hrv.c7
  have z1:=hrv.frozen 7
  have HD3:Hid (Fz w0 (wx2.setCell ⟨P,7,none⟩ (.int .u64 (lgS n x.c D).life)) (ko (.slice av (nwS (flat (lgS n x.c D).txs)).length cv) (nwS (flat (lgS n x.c D).txs)) :: kb RN 225 (gcells (lgS n x.c D).tail (lgS n x.c D).life (lgS n x.c D).fin (.slice qa (lgS n x.c D).txs.length qc)) :: kz (.slice qa (lgS n x.c D).txs.length qc) (lgS n x.c D).txs :: kb b0 42 row0 :: X.set i (ks P (some p) (⟨x.c,x.st,(lgS n x.c D).fin,(lgS n x.c D).life,x.left⟩:Rc)))):=Fz.rputs (X:=ko (.slice av (nwS (flat (lgS n x.c D).txs)).length cv) (nwS (flat (lgS n x.c D).txs)) :: kb RN 225 (gcells (lgS n x.c D).tail (lgS n x.c D).life (lgS n x.c D).fin (.slice qa (lgS n x.c D).txs.length qc)) :: kz (.slice qa (lgS n x.c D).txs.length qc) (lgS n x.c D).txs :: kb b0 42 row0 :: X) (i:=i+4) HD2.out (by simp only[List.length_cons];omega) 7 _ (⟨x.c,x.st,(lgS n x.c D).fin,(lgS n x.c D).life,x.left⟩:Rc) rfl fun _=>rfl
  clear HD2 hrv
  go_simp
  clear z0 z1
  generalize wx2.setCell ⟨P,7,none⟩ (.int .u64 (lgS n x.c D).life)=wx3 at *
  refine hKc.out _ _ ((HD3.out.atb (i:=1) rfl).1) (fun hHeld=>?_)
  clear hKc Kc
  refine tk 16 hHeld ?_
  refine tk 17 hHeld ?_
  refine tkr 18 fun Kc hKc=>?_
  obtain ⟨G9,v9,hp9,-⟩:=Fz.ats (X:=ko (.slice av (nwS (flat (lgS n x.c D).txs)).length cv) (nwS (flat (lgS n x.c D).txs)) :: kb RN 225 (gcells (lgS n x.c D).tail (lgS n x.c D).life (lgS n x.c D).fin (.slice qa (lgS n x.c D).txs.length qc)) :: kz (.slice qa (lgS n x.c D).txs.length qc) (lgS n x.c D).txs :: kb b0 42 row0 :: X.set i (ks P (some p) (⟨x.c,x.st,(lgS n x.c D).fin,(lgS n x.c D).life,x.left⟩:Rc))) (i:=i+4) HD3.out (by show (X.set i _)[i]?=_;exact List.getElem?_set_self hlt0)
  have z0:=hp9.c9
  have z1:=hp9.frozen 9
  have HD4:Hid (Fz w0 (wx3.setCell ⟨P,9,none⟩ (.slice av (nwS (flat (lgS n x.c D).txs)).length cv)) (kb RN 225 (gcells (lgS n x.c D).tail (lgS n x.c D).life (lgS n x.c D).fin (.slice qa (lgS n x.c D).txs.length qc)) :: kz (.slice qa (lgS n x.c D).txs.length qc) (lgS n x.c D).txs :: kb b0 42 row0 :: X.set i (ks P (some p) (⟨x.c,x.st,(lgS n x.c D).fin,(lgS n x.c D).life,(nwS (flat (lgS n x.c D).txs))⟩:Rc)))):=Fz.rlefts (X:=kb RN 225 (gcells (lgS n x.c D).tail (lgS n x.c D).life (lgS n x.c D).fin (.slice qa (lgS n x.c D).txs.length qc)) :: kz (.slice qa (lgS n x.c D).txs.length qc) (lgS n x.c D).txs :: kb b0 42 row0 :: X) (i:=i+3) HD3.out (by simp only[List.length_cons];omega) HWN.out
  clear HD3 hp9
  go_simp
  clear z0 z1
  generalize wx3.setCell ⟨P,9,none⟩ (.slice av (nwS (flat (lgS n x.c D).txs)).length cv)=wx4 at *
  refine hKc.out _ _ ((HD4.out.atb (i:=0) rfl).1) (fun hHeld=>?_)
  clear hKc Kc
  clear hHeld
  refine wpAnyH_done (by kernel_rfl) (NoPanic.normal ?_) _
  have H13:Hid (Fz w0 wx4 (kb RN 225 (gcells (lgS n x.c D).tail (lgS n x.c D).life (lgS n x.c D).fin (.slice qa (lgS n x.c D).txs.length qc)) :: kz (.slice qa (lgS n x.c D).txs.length qc) (lgS n x.c D).txs :: kb b0 42 row0 :: X.set i (ks P (some p) (⟨x.c,x.st,(lgS n x.c D).fin,(lgS n x.c D).life,(nwS (flat (lgS n x.c D).txs))⟩:Rc)))):=HD4.out
  clear HD4
  generalize wx4=w13 at *
  obtain ⟨G9,v9,hp9,-⟩:=Fz.ats (X:=kb RN 225 (gcells (lgS n x.c D).tail (lgS n x.c D).life (lgS n x.c D).fin (.slice qa (lgS n x.c D).txs.length qc)) :: kz (.slice qa (lgS n x.c D).txs.length qc) (lgS n x.c D).txs :: kb b0 42 row0 :: X.set i (ks P (some p) (⟨x.c,x.st,(lgS n x.c D).fin,(lgS n x.c D).life,(nwS (flat (lgS n x.c D).txs))⟩:Rc))) (i:=i+3) H13.out (by show (X.set i _)[i]?=_;exact List.getElem?_set_self hlt0)
  have z6:=hp9.c6
  have f6:=hp9.frozen 6
  have h14:=Fz.rputs (X:=kb RN 225 (gcells (lgS n x.c D).tail (lgS n x.c D).life (lgS n x.c D).fin (.slice qa (lgS n x.c D).txs.length qc)) :: kz (.slice qa (lgS n x.c D).txs.length qc) (lgS n x.c D).txs :: kb b0 42 row0 :: X) (i:=i+3) H13.out (by simp only[List.length_cons];omega) 6 (.int .i64 3) (⟨x.c,3,(lgS n x.c D).fin,(lgS n x.c D).life,(nwS (flat (lgS n x.c D).txs))⟩:Rc) rfl fun _=>rfl
  obtain ⟨w14,hw14⟩:∃W,w13.setCell ⟨P,6,none⟩ (.int .i64 3)=W:=⟨_,rfl⟩
  rw[hw14] at h14
  have H14:Hid (Fz w0 w14 (kb RN 225 (gcells (lgS n x.c D).tail (lgS n x.c D).life (lgS n x.c D).fin (.slice qa (lgS n x.c D).txs.length qc)) :: kz (.slice qa (lgS n x.c D).txs.length qc) (lgS n x.c D).txs :: kb b0 42 row0 :: X.set i (ks P (some p) (⟨x.c,3,(lgS n x.c D).fin,(lgS n x.c D).life,(nwS (flat (lgS n x.c D).txs))⟩:Rc)))):=h14
  obtain ⟨G8,v8,hp8,-⟩:=Fz.ats (X:=kb RN 225 (gcells (lgS n x.c D).tail (lgS n x.c D).life (lgS n x.c D).fin (.slice qa (lgS n x.c D).txs.length qc)) :: kz (.slice qa (lgS n x.c D).txs.length qc) (lgS n x.c D).txs :: kb b0 42 row0 :: X.set i (ks P (some p) (⟨x.c,3,(lgS n x.c D).fin,(lgS n x.c D).life,(nwS (flat (lgS n x.c D).txs))⟩:Rc))) (i:=i+3) H14.out (by show (X.set i _)[i]?=_;exact List.getElem?_set_self hlt0)
  obtain ⟨a9,c9,e9,hm9,-⟩:=hp8.lf.ex
  have e9:v8=.slice a9 (nwS (flat (lgS n x.c D).txs)).length c9:=e9
  have d9:=hp8.c9
  rw[e9] at d9
  have d6:=hp8.c6
  have g6:=hp8.frozen 6
  clear hp9 hp8 hm9 h14 H13
  by_cases hc9:(nwS (flat (lgS n x.c D).txs)).length=0
  ·have HC9:Hid ((if (nwS (flat (lgS n x.c D).txs)).length=0 then (3:Int) else 2)=3):=if_pos hc9
   rw[hc9] at d9
   have HE:Hid (readR n x D=(⟨x.c,3,(lgS n x.c D).fin,(lgS n x.c D).life,(nwS (flat (lgS n x.c D).txs))⟩:Rc)):=by show (⟨x.c,aftS _,_,_,_⟩:Rc)=_;unfold aftS;rw[HC9.out]
   have H17:Hid (Fz w0 w14 (kb RN 225 (gcells (lgS n x.c D).tail (lgS n x.c D).life (lgS n x.c D).fin (.slice qa (lgS n x.c D).txs.length qc)) :: kz (.slice qa (lgS n x.c D).txs.length qc) (lgS n x.c D).txs :: kb b0 42 row0 :: X.set i (ks P (some p) (readR n x D)))):=by rw[HE.out];exact H14.out
   have r2:=rlg2 (H17.out.atb (i:=0) rfl).1
   have r3:=rlg3 (H17.out.atb (i:=0) rfl).1
   have HBD:Hid (_):=build_row76 w14 19 (lgS n x.c D).fin (lgS n x.c D).txs.length
   obtain ⟨wz,hst,hlz,hfz⟩:=(Fz.pop (Fz.pop H17.out)).laid (r:=⟨19,-1,zv,(lgS n x.c D).fin,(lgS n x.c D).txs.length⟩) (zs_len 32)
   have HST:Hid (_):=hst
   have HLz:Hid (_):=hlz
   have HFz:Hid (_):=hfz
   clear hst hlz hfz H17 H14 HE
   go_wp2_with ((with_reducible refine at_ops ?_);(first | (refine wpList_build_is (vs:=[(0,.int .i64 19),(4,.int .i64 (-1)),(7,.int .i64 (lgS n x.c D).txs.length),(6,.int .u64 (lgS n x.c D).fin)]) (by rfl) 42 rfl (by rfl) HBD.out ?_) | (refine wpList_store_is (by rfl) 42 rfl rfl rfl HST.out ?_));simp only[Act.put,zA,zB,zC])
   (try simp only[Exit.inBlock,Exit.then])
   exact bodyPost_ret (results_lat results95 _ _ _ 42 _ _ (by rfl) HLz.out underlying42 rfl (by rw[size_row,rowc_len (zs_len 32)])) rfl ⟨rfl,HFz.out⟩
  ·have HC9:Hid ((if (nwS (flat (lgS n x.c D).txs)).length=0 then (3:Int) else 2)=2):=if_neg hc9
   have hc0:(0:Int)<((nwS (flat (lgS n x.c D).txs)).length:Int):=by omega
   have h15:=Fz.rputs (X:=kb RN 225 (gcells (lgS n x.c D).tail (lgS n x.c D).life (lgS n x.c D).fin (.slice qa (lgS n x.c D).txs.length qc)) :: kz (.slice qa (lgS n x.c D).txs.length qc) (lgS n x.c D).txs :: kb b0 42 row0 :: X) (i:=i+3) H14.out (by simp only[List.length_cons];omega) 6 (.int .i64 2) (⟨x.c,2,(lgS n x.c D).fin,(lgS n x.c D).life,(nwS (flat (lgS n x.c D).txs))⟩:Rc) rfl fun _=>rfl
   obtain ⟨w15,hw15⟩:∃W,w14.setCell ⟨P,6,none⟩ (.int .i64 2)=W:=⟨_,rfl⟩
   rw[hw15] at h15
   have H15:Hid (Fz w0 w15 (kb RN 225 (gcells (lgS n x.c D).tail (lgS n x.c D).life (lgS n x.c D).fin (.slice qa (lgS n x.c D).txs.length qc)) :: kz (.slice qa (lgS n x.c D).txs.length qc) (lgS n x.c D).txs :: kb b0 42 row0 :: X.set i (ks P (some p) (⟨x.c,2,(lgS n x.c D).fin,(lgS n x.c D).life,(nwS (flat (lgS n x.c D).txs))⟩:Rc)))):=h15
   clear h15 H14
   have HE:Hid (readR n x D=(⟨x.c,2,(lgS n x.c D).fin,(lgS n x.c D).life,(nwS (flat (lgS n x.c D).txs))⟩:Rc)):=by show (⟨x.c,aftS _,_,_,_⟩:Rc)=_;unfold aftS;rw[HC9.out]
   have H17:Hid (Fz w0 w15 (kb RN 225 (gcells (lgS n x.c D).tail (lgS n x.c D).life (lgS n x.c D).fin (.slice qa (lgS n x.c D).txs.length qc)) :: kz (.slice qa (lgS n x.c D).txs.length qc) (lgS n x.c D).txs :: kb b0 42 row0 :: X.set i (ks P (some p) (readR n x D)))):=by rw[HE.out];exact H15.out
   have r2:=rlg2 (H17.out.atb (i:=0) rfl).1
   have r3:=rlg3 (H17.out.atb (i:=0) rfl).1
   have HBD:Hid (_):=build_row76 w15 19 (lgS n x.c D).fin (lgS n x.c D).txs.length
   obtain ⟨wz,hst,hlz,hfz⟩:=(Fz.pop (Fz.pop H17.out)).laid (r:=⟨19,-1,zv,(lgS n x.c D).fin,(lgS n x.c D).txs.length⟩) (zs_len 32)
   have HST:Hid (_):=hst
   have HLz:Hid (_):=hlz
   have HFz:Hid (_):=hfz
   clear hst hlz hfz H17 H15 HE
   go_wp2_with ((with_reducible refine at_ops ?_);(first | (refine wpList_build_is (vs:=[(0,.int .i64 19),(4,.int .i64 (-1)),(7,.int .i64 (lgS n x.c D).txs.length),(6,.int .u64 (lgS n x.c D).fin)]) (by rfl) 42 rfl (by rfl) HBD.out ?_) | (refine wpList_store_is (by rfl) 42 rfl rfl rfl HST.out ?_));simp only[Act.put,zA,zB,zC])
   (try simp only[Exit.inBlock,Exit.then])
   exact bodyPost_ret (results_lat results95 _ _ _ 42 _ _ (by rfl) HLz.out underlying42 rfl (by rw[size_row,rowc_len (zs_len 32)])) rfl ⟨rfl,HFz.out⟩
 ·obtain ⟨RN,hRN⟩:∃B,w2.heap.size=B:=⟨_,rfl⟩
  have hdv:=H2.out.newa (gcells 0 0 0 (.slice none 0 0)) 225
  have hal:=alloc_rlg w2
  rw[hRN] at hdv hal
  refine step_alloc_is (by rfl) 225 rfl hal ?_
  simp only[Act.put,zA,zB,zC]
  have HD1:Hid (Fz w0 (w2.alloc (.cells (gcells 0 0 0 (.slice none 0 0)).toArray 225)) (kb RN 225 (gcells 0 0 0 (.slice none 0 0)) :: kb b0 42 row0 :: X)):=hdv
  clear hdv hal hRN H2
  generalize w2.alloc (.cells (gcells 0 0 0 (.slice none 0 0)).toArray 225)=wx1 at *
  refine hKc.out _ _ (HD1.out.rv (i:=i+2) hi) (fun hHeld=>?_)
  clear hKc Kc
  refine tkr 8 fun Kc hKc=>?_
  go_simp
  refine (r_read HD1.out (j:=j+2) hj HK.out x.c).mono ?_
  rintro e wx2 ⟨qa,qc,rfl,hd⟩
  have HD2:Hid (Fz w0 wx2 (kz (.slice qa (lgS n x.c D).txs.length qc) (lgS n x.c D).txs :: kb RN 225 (gcells 0 0 0 (.slice none 0 0)) :: kb b0 42 row0 :: X)):=hd
  clear hd HD1
  rw[HZ0.out]
  go_simp
  refine hKc.out _ _ (HD2.out.rv (i:=i+3) hi) (fun hHeld=>?_)
  clear hKc Kc
  refine tk 9 hHeld ?_
  refine tk 10 hHeld ?_
  refine tk 11 hHeld ?_
  refine tkr 13 fun Kc hKc=>?_
  obtain ⟨hla,-,-,hlb⟩:=HD2.out.atb (i:=1) rfl
  have hst:=LAt.store hla (ds:=(gcells (lgS n x.c D).tail (lgS n x.c D).life (lgS n x.c D).fin (.slice qa (lgS n x.c D).txs.length qc))) (by rw[size_rlg];rfl) rfl (by simp[gcells,Value.oneCell'])
  have hds:=hlb (gcells (lgS n x.c D).tail (lgS n x.c D).life (lgS n x.c D).fin (.slice qa (lgS n x.c D).txs.length qc))
  refine step_store_is (by rfl) 225 rfl rfl rfl hst ?_
  simp only[Act.put]
  have HD3:Hid (Fz w0 (wx2.setRow RN (gcells (lgS n x.c D).tail (lgS n x.c D).life (lgS n x.c D).fin (.slice qa (lgS n x.c D).txs.length qc)).toArray) (kz (.slice qa (lgS n x.c D).txs.length qc) (lgS n x.c D).txs :: kb RN 225 (gcells (lgS n x.c D).tail (lgS n x.c D).life (lgS n x.c D).fin (.slice qa (lgS n x.c D).txs.length qc)) :: kb b0 42 row0 :: X)):=hds
  clear hds hst hla hlb HD2
  generalize wx2.setRow RN (gcells (lgS n x.c D).tail (lgS n x.c D).life (lgS n x.c D).fin (.slice qa (lgS n x.c D).txs.length qc)).toArray=wx3 at *
  refine hKc.out _ _ (HD3.out.rv (i:=i+3) hi) (fun hHeld=>?_)
  clear hKc Kc
  refine tk 14 hHeld ?_
  clear hHeld
  refine wpAnyH_done (by kernel_rfl) (NoPanic.normal ?_) _
  have HZ:=Fz.swap HD3.out
  have H9:Hid (Fz w0 wx3 (kb RN 225 (gcells (lgS n x.c D).tail (lgS n x.c D).life (lgS n x.c D).fin (.slice qa (lgS n x.c D).txs.length qc)) :: kz (.slice qa (lgS n x.c D).txs.length qc) (lgS n x.c D).txs :: kb b0 42 row0 :: X)):=HZ
  clear HZ HD3
  generalize wx3=w9 at *
  have H10:Hid (Fz w0 w9.drew (kb RN 225 (gcells (lgS n x.c D).tail (lgS n x.c D).life (lgS n x.c D).fin (.slice qa (lgS n x.c D).txs.length qc)) :: kz (.slice qa (lgS n x.c D).txs.length qc) (lgS n x.c D).txs :: kb b0 42 row0 :: X)):=H9.out.later (below_drawn 1)
  clear H9
  go_wp2_with fail
  refine wp_region_noPanic ?_
  refine wp_region_held_drew (S:=fun W=>Rdv P (some p) x W∧LAt 225 W RN (gcells (lgS n x.c D).tail (lgS n x.c D).life (lgS n x.c D).fin (.slice qa (lgS n x.c D).txs.length qc))) (by kernel_rfl) ⟨H10.out.rv (i:=i+3) hi,(H10.out.atb (i:=0) rfl).1⟩ (fun hHeld=>?_)
  generalize w9.drew=w10 at *
  refine tk 0 hHeld ?_
  refine tkl 1 hHeld (fun _ s=>rlg2 s.2) ?_
  refine tk 2 hHeld ?_
  refine tk 3 hHeld ?_
  refine tk 4 hHeld ?_
  refine tk 5 hHeld ?_
  refine tkl 6 hHeld (fun _ s=>s.1.c2) ?_
  refine tk 7 hHeld ?_
  refine tk 8 hHeld ?_
  refine tk 9 hHeld ?_
  refine tk 10 hHeld ?_
  refine tk 11 hHeld ?_
  refine tkl 12 hHeld (fun _ s=>rlg1 s.2) ?_
  refine tk 13 hHeld ?_
  refine tk 14 hHeld ?_
  clear hHeld
  refine wpAnyH_done (by kernel_rfl) (NoPanic.normal ?_) _
  have H11:Hid (Fz w0 w10.drew (kb RN 225 (gcells (lgS n x.c D).tail (lgS n x.c D).life (lgS n x.c D).fin (.slice qa (lgS n x.c D).txs.length qc)) :: kz (.slice qa (lgS n x.c D).txs.length qc) (lgS n x.c D).txs :: kb b0 42 row0 :: X)):=H10.out.later (below_drawn 1)
  have hlt0:=HLT0.out
  clear H10 K1 K2 q1 q2
  go_wp2_with fail
  refine wp_region_noPanic ?_
  refine wp_region_held_drew (S:=fun W=>LAt 225 W RN (gcells (lgS n x.c D).tail (lgS n x.c D).life (lgS n x.c D).fin (.slice qa (lgS n x.c D).txs.length qc))) (by kernel_rfl) (H11.out.atb (i:=0) rfl).1 (fun hHeld=>?_)
  generalize w10.drew=w11 at *
  refine tk 0 hHeld ?_
  refine tk 1 hHeld ?_
  refine tk 2 hHeld ?_
  refine tk 3 hHeld ?_
  refine tkl 4 hHeld (fun _ s=>rlg2 s) ?_
  refine tk 5 hHeld ?_
  refine tkl 6 hHeld (fun _ s=>rlg1 s) ?_
  refine tk 7 hHeld ?_
  refine tkl 8 hHeld (fun _ s=>rlg3 s) ?_
  refine tkr 9 fun Kc hKc=>?_
  go_simp
  refine (rz_newest (j:=1) H11.out rfl HLN.out.1 HLN.out.2).mono ?_
  rintro e wx1 ⟨v,rfl,hd⟩
  obtain ⟨t,G,rfl,ho,-⟩:=hd.at (i:=0) rfl
  obtain ⟨av,cv,ev,-⟩:=IOwn.in ho HWN.out
  subst ev
  have HD1:Hid (Fz w0 wx1 (ko (.slice av (nwS (flat (lgS n x.c D).txs)).length cv) (nwS (flat (lgS n x.c D).txs)) :: kb RN 225 (gcells (lgS n x.c D).tail (lgS n x.c D).life (lgS n x.c D).fin (.slice qa (lgS n x.c D).txs.length qc)) :: kz (.slice qa (lgS n x.c D).txs.length qc) (lgS n x.c D).txs :: kb b0 42 row0 :: X.set i (ks P (some p) x))):=Fz.as_set (X:=ko (.slice av (nwS (flat (lgS n x.c D).txs)).length cv) (nwS (flat (lgS n x.c D).txs)) :: kb RN 225 (gcells (lgS n x.c D).tail (lgS n x.c D).life (lgS n x.c D).fin (.slice qa (lgS n x.c D).txs.length qc)) :: kz (.slice qa (lgS n x.c D).txs.length qc) (lgS n x.c D).txs :: kb b0 42 row0 :: X) (i:=i+4) hd hi
  clear hd ho H11
  refine hKc.out _ _ ((HD1.out.atb (i:=1) rfl).1) (fun hHeld=>?_)
  clear hKc Kc
  refine tk 10 hHeld ?_
  refine tk 11 hHeld ?_
  refine tkr 12 fun Kc hKc=>?_
  have hrv:=Fz.rvs (X:=ko (.slice av (nwS (flat (lgS n x.c D).txs)).length cv) (nwS (flat (lgS n x.c D).txs)) :: kb RN 225 (gcells (lgS n x.c D).tail (lgS n x.c D).life (lgS n x.c D).fin (.slice qa (lgS n x.c D).txs.length qc)) :: kz (.slice qa (lgS n x.c D).txs.length qc) (lgS n x.c D).txs :: kb b0 42 row0 :: X) (i:=i+4) HD1.out (by simp only[List.length_cons];omega)
  have z0:=hrv.c8
  have z1:=hrv.frozen 8
  have HD2:Hid (Fz w0 (wx1.setCell ⟨P,8,none⟩ (.int .u64 (lgS n x.c D).fin)) (ko (.slice av (nwS (flat (lgS n x.c D).txs)).length cv) (nwS (flat (lgS n x.c D).txs)) :: kb RN 225 (gcells (lgS n x.c D).tail (lgS n x.c D).life (lgS n x.c D).fin (.slice qa (lgS n x.c D).txs.length qc)) :: kz (.slice qa (lgS n x.c D).txs.length qc) (lgS n x.c D).txs :: kb b0 42 row0 :: X.set i (ks P (some p) (⟨x.c,x.st,(lgS n x.c D).fin,x.li,x.left⟩:Rc)))):=Fz.rputs (X:=ko (.slice av (nwS (flat (lgS n x.c D).txs)).length cv) (nwS (flat (lgS n x.c D).txs)) :: kb RN 225 (gcells (lgS n x.c D).tail (lgS n x.c D).life (lgS n x.c D).fin (.slice qa (lgS n x.c D).txs.length qc)) :: kz (.slice qa (lgS n x.c D).txs.length qc) (lgS n x.c D).txs :: kb b0 42 row0 :: X) (i:=i+4) HD1.out (by simp only[List.length_cons];omega) 8 _ (⟨x.c,x.st,(lgS n x.c D).fin,x.li,x.left⟩:Rc) rfl fun _=>rfl
  clear HD1 hrv
  go_simp
  clear z0 z1
  generalize wx1.setCell ⟨P,8,none⟩ (.int .u64 (lgS n x.c D).fin)=wx2 at *
  refine hKc.out _ _ ((HD2.out.atb (i:=1) rfl).1) (fun hHeld=>?_)
  clear hKc Kc
  refine tk 13 hHeld ?_
  refine tk 14 hHeld ?_
  refine tkr 15 fun Kc hKc=>?_
  have hrv:=Fz.rvs (X:=ko (.slice av (nwS (flat (lgS n x.c D).txs)).length cv) (nwS (flat (lgS n x.c D).txs)) :: kb RN 225 (gcells (lgS n x.c D).tail (lgS n x.c D).life (lgS n x.c D).fin (.slice qa (lgS n x.c D).txs.length qc)) :: kz (.slice qa (lgS n x.c D).txs.length qc) (lgS n x.c D).txs :: kb b0 42 row0 :: X) (i:=i+4) HD2.out (by simp only[List.length_cons];omega)
  have z0:=hrv.c7
  have z1:=hrv.frozen 7
  have HD3:Hid (Fz w0 (wx2.setCell ⟨P,7,none⟩ (.int .u64 (lgS n x.c D).life)) (ko (.slice av (nwS (flat (lgS n x.c D).txs)).length cv) (nwS (flat (lgS n x.c D).txs)) :: kb RN 225 (gcells (lgS n x.c D).tail (lgS n x.c D).life (lgS n x.c D).fin (.slice qa (lgS n x.c D).txs.length qc)) :: kz (.slice qa (lgS n x.c D).txs.length qc) (lgS n x.c D).txs :: kb b0 42 row0 :: X.set i (ks P (some p) (⟨x.c,x.st,(lgS n x.c D).fin,(lgS n x.c D).life,x.left⟩:Rc)))):=Fz.rputs (X:=ko (.slice av (nwS (flat (lgS n x.c D).txs)).length cv) (nwS (flat (lgS n x.c D).txs)) :: kb RN 225 (gcells (lgS n x.c D).tail (lgS n x.c D).life (lgS n x.c D).fin (.slice qa (lgS n x.c D).txs.length qc)) :: kz (.slice qa (lgS n x.c D).txs.length qc) (lgS n x.c D).txs :: kb b0 42 row0 :: X) (i:=i+4) HD2.out (by simp only[List.length_cons];omega) 7 _ (⟨x.c,x.st,(lgS n x.c D).fin,(lgS n x.c D).life,x.left⟩:Rc) rfl fun _=>rfl
  clear HD2 hrv
  go_simp
  clear z0 z1
  generalize wx2.setCell ⟨P,7,none⟩ (.int .u64 (lgS n x.c D).life)=wx3 at *
  refine hKc.out _ _ ((HD3.out.atb (i:=1) rfl).1) (fun hHeld=>?_)
  clear hKc Kc
  refine tk 16 hHeld ?_
  refine tk 17 hHeld ?_
  refine tkr 18 fun Kc hKc=>?_
  obtain ⟨G9,v9,hp9,-⟩:=Fz.ats (X:=ko (.slice av (nwS (flat (lgS n x.c D).txs)).length cv) (nwS (flat (lgS n x.c D).txs)) :: kb RN 225 (gcells (lgS n x.c D).tail (lgS n x.c D).life (lgS n x.c D).fin (.slice qa (lgS n x.c D).txs.length qc)) :: kz (.slice qa (lgS n x.c D).txs.length qc) (lgS n x.c D).txs :: kb b0 42 row0 :: X.set i (ks P (some p) (⟨x.c,x.st,(lgS n x.c D).fin,(lgS n x.c D).life,x.left⟩:Rc))) (i:=i+4) HD3.out (by show (X.set i _)[i]?=_;exact List.getElem?_set_self hlt0)
  have z0:=hp9.c9
  have z1:=hp9.frozen 9
  have HD4:Hid (Fz w0 (wx3.setCell ⟨P,9,none⟩ (.slice av (nwS (flat (lgS n x.c D).txs)).length cv)) (kb RN 225 (gcells (lgS n x.c D).tail (lgS n x.c D).life (lgS n x.c D).fin (.slice qa (lgS n x.c D).txs.length qc)) :: kz (.slice qa (lgS n x.c D).txs.length qc) (lgS n x.c D).txs :: kb b0 42 row0 :: X.set i (ks P (some p) (⟨x.c,x.st,(lgS n x.c D).fin,(lgS n x.c D).life,(nwS (flat (lgS n x.c D).txs))⟩:Rc)))):=Fz.rlefts (X:=kb RN 225 (gcells (lgS n x.c D).tail (lgS n x.c D).life (lgS n x.c D).fin (.slice qa (lgS n x.c D).txs.length qc)) :: kz (.slice qa (lgS n x.c D).txs.length qc) (lgS n x.c D).txs :: kb b0 42 row0 :: X) (i:=i+3) HD3.out (by simp only[List.length_cons];omega) HWN.out
  clear HD3 hp9
  go_simp
  clear z0 z1
  generalize wx3.setCell ⟨P,9,none⟩ (.slice av (nwS (flat (lgS n x.c D).txs)).length cv)=wx4 at *
  refine hKc.out _ _ ((HD4.out.atb (i:=0) rfl).1) (fun hHeld=>?_)
  clear hKc Kc
  clear hHeld
  refine wpAnyH_done (by kernel_rfl) (NoPanic.normal ?_) _
  have H13:Hid (Fz w0 wx4 (kb RN 225 (gcells (lgS n x.c D).tail (lgS n x.c D).life (lgS n x.c D).fin (.slice qa (lgS n x.c D).txs.length qc)) :: kz (.slice qa (lgS n x.c D).txs.length qc) (lgS n x.c D).txs :: kb b0 42 row0 :: X.set i (ks P (some p) (⟨x.c,x.st,(lgS n x.c D).fin,(lgS n x.c D).life,(nwS (flat (lgS n x.c D).txs))⟩:Rc)))):=HD4.out
  clear HD4
  generalize wx4=w13 at *
  obtain ⟨G9,v9,hp9,-⟩:=Fz.ats (X:=kb RN 225 (gcells (lgS n x.c D).tail (lgS n x.c D).life (lgS n x.c D).fin (.slice qa (lgS n x.c D).txs.length qc)) :: kz (.slice qa (lgS n x.c D).txs.length qc) (lgS n x.c D).txs :: kb b0 42 row0 :: X.set i (ks P (some p) (⟨x.c,x.st,(lgS n x.c D).fin,(lgS n x.c D).life,(nwS (flat (lgS n x.c D).txs))⟩:Rc))) (i:=i+3) H13.out (by show (X.set i _)[i]?=_;exact List.getElem?_set_self hlt0)
  have z6:=hp9.c6
  have f6:=hp9.frozen 6
  have h14:=Fz.rputs (X:=kb RN 225 (gcells (lgS n x.c D).tail (lgS n x.c D).life (lgS n x.c D).fin (.slice qa (lgS n x.c D).txs.length qc)) :: kz (.slice qa (lgS n x.c D).txs.length qc) (lgS n x.c D).txs :: kb b0 42 row0 :: X) (i:=i+3) H13.out (by simp only[List.length_cons];omega) 6 (.int .i64 3) (⟨x.c,3,(lgS n x.c D).fin,(lgS n x.c D).life,(nwS (flat (lgS n x.c D).txs))⟩:Rc) rfl fun _=>rfl
  obtain ⟨w14,hw14⟩:∃W,w13.setCell ⟨P,6,none⟩ (.int .i64 3)=W:=⟨_,rfl⟩
  rw[hw14] at h14
  have H14:Hid (Fz w0 w14 (kb RN 225 (gcells (lgS n x.c D).tail (lgS n x.c D).life (lgS n x.c D).fin (.slice qa (lgS n x.c D).txs.length qc)) :: kz (.slice qa (lgS n x.c D).txs.length qc) (lgS n x.c D).txs :: kb b0 42 row0 :: X.set i (ks P (some p) (⟨x.c,3,(lgS n x.c D).fin,(lgS n x.c D).life,(nwS (flat (lgS n x.c D).txs))⟩:Rc)))):=h14
  obtain ⟨G8,v8,hp8,-⟩:=Fz.ats (X:=kb RN 225 (gcells (lgS n x.c D).tail (lgS n x.c D).life (lgS n x.c D).fin (.slice qa (lgS n x.c D).txs.length qc)) :: kz (.slice qa (lgS n x.c D).txs.length qc) (lgS n x.c D).txs :: kb b0 42 row0 :: X.set i (ks P (some p) (⟨x.c,3,(lgS n x.c D).fin,(lgS n x.c D).life,(nwS (flat (lgS n x.c D).txs))⟩:Rc))) (i:=i+3) H14.out (by show (X.set i _)[i]?=_;exact List.getElem?_set_self hlt0)
  obtain ⟨a9,c9,e9,hm9,-⟩:=hp8.lf.ex
  have e9:v8=.slice a9 (nwS (flat (lgS n x.c D).txs)).length c9:=e9
  have d9:=hp8.c9
  rw[e9] at d9
  have d6:=hp8.c6
  have g6:=hp8.frozen 6
  clear hp9 hp8 hm9 h14 H13
  by_cases hc9:(nwS (flat (lgS n x.c D).txs)).length=0
  ·have HC9:Hid ((if (nwS (flat (lgS n x.c D).txs)).length=0 then (3:Int) else 2)=3):=if_pos hc9
   rw[hc9] at d9
   have HE:Hid (readR n x D=(⟨x.c,3,(lgS n x.c D).fin,(lgS n x.c D).life,(nwS (flat (lgS n x.c D).txs))⟩:Rc)):=by show (⟨x.c,aftS _,_,_,_⟩:Rc)=_;unfold aftS;rw[HC9.out]
   have H17:Hid (Fz w0 w14 (kb RN 225 (gcells (lgS n x.c D).tail (lgS n x.c D).life (lgS n x.c D).fin (.slice qa (lgS n x.c D).txs.length qc)) :: kz (.slice qa (lgS n x.c D).txs.length qc) (lgS n x.c D).txs :: kb b0 42 row0 :: X.set i (ks P (some p) (readR n x D)))):=by rw[HE.out];exact H14.out
   have r2:=rlg2 (H17.out.atb (i:=0) rfl).1
   have r3:=rlg3 (H17.out.atb (i:=0) rfl).1
   have HBD:Hid (_):=build_row76 w14 19 (lgS n x.c D).fin (lgS n x.c D).txs.length
   obtain ⟨wz,hst,hlz,hfz⟩:=(Fz.pop (Fz.pop H17.out)).laid (r:=⟨19,-1,zv,(lgS n x.c D).fin,(lgS n x.c D).txs.length⟩) (zs_len 32)
   have HST:Hid (_):=hst
   have HLz:Hid (_):=hlz
   have HFz:Hid (_):=hfz
   clear hst hlz hfz H17 H14 HE
   go_wp2_with ((with_reducible refine at_ops ?_);(first | (refine wpList_build_is (vs:=[(0,.int .i64 19),(4,.int .i64 (-1)),(7,.int .i64 (lgS n x.c D).txs.length),(6,.int .u64 (lgS n x.c D).fin)]) (by rfl) 42 rfl (by rfl) HBD.out ?_) | (refine wpList_store_is (by rfl) 42 rfl rfl rfl HST.out ?_));simp only[Act.put,zA,zB,zC])
   (try simp only[Exit.inBlock,Exit.then])
   exact bodyPost_ret (results_lat results95 _ _ _ 42 _ _ (by rfl) HLz.out underlying42 rfl (by rw[size_row,rowc_len (zs_len 32)])) rfl ⟨rfl,HFz.out⟩
  ·have HC9:Hid ((if (nwS (flat (lgS n x.c D).txs)).length=0 then (3:Int) else 2)=2):=if_neg hc9
   have hc0:(0:Int)<((nwS (flat (lgS n x.c D).txs)).length:Int):=by omega
   have h15:=Fz.rputs (X:=kb RN 225 (gcells (lgS n x.c D).tail (lgS n x.c D).life (lgS n x.c D).fin (.slice qa (lgS n x.c D).txs.length qc)) :: kz (.slice qa (lgS n x.c D).txs.length qc) (lgS n x.c D).txs :: kb b0 42 row0 :: X) (i:=i+3) H14.out (by simp only[List.length_cons];omega) 6 (.int .i64 2) (⟨x.c,2,(lgS n x.c D).fin,(lgS n x.c D).life,(nwS (flat (lgS n x.c D).txs))⟩:Rc) rfl fun _=>rfl
   obtain ⟨w15,hw15⟩:∃W,w14.setCell ⟨P,6,none⟩ (.int .i64 2)=W:=⟨_,rfl⟩
   rw[hw15] at h15
   have H15:Hid (Fz w0 w15 (kb RN 225 (gcells (lgS n x.c D).tail (lgS n x.c D).life (lgS n x.c D).fin (.slice qa (lgS n x.c D).txs.length qc)) :: kz (.slice qa (lgS n x.c D).txs.length qc) (lgS n x.c D).txs :: kb b0 42 row0 :: X.set i (ks P (some p) (⟨x.c,2,(lgS n x.c D).fin,(lgS n x.c D).life,(nwS (flat (lgS n x.c D).txs))⟩:Rc)))):=h15
   clear h15 H14
   have HE:Hid (readR n x D=(⟨x.c,2,(lgS n x.c D).fin,(lgS n x.c D).life,(nwS (flat (lgS n x.c D).txs))⟩:Rc)):=by show (⟨x.c,aftS _,_,_,_⟩:Rc)=_;unfold aftS;rw[HC9.out]
   have H17:Hid (Fz w0 w15 (kb RN 225 (gcells (lgS n x.c D).tail (lgS n x.c D).life (lgS n x.c D).fin (.slice qa (lgS n x.c D).txs.length qc)) :: kz (.slice qa (lgS n x.c D).txs.length qc) (lgS n x.c D).txs :: kb b0 42 row0 :: X.set i (ks P (some p) (readR n x D)))):=by rw[HE.out];exact H15.out
   have r2:=rlg2 (H17.out.atb (i:=0) rfl).1
   have r3:=rlg3 (H17.out.atb (i:=0) rfl).1
   have HBD:Hid (_):=build_row76 w15 19 (lgS n x.c D).fin (lgS n x.c D).txs.length
   obtain ⟨wz,hst,hlz,hfz⟩:=(Fz.pop (Fz.pop H17.out)).laid (r:=⟨19,-1,zv,(lgS n x.c D).fin,(lgS n x.c D).txs.length⟩) (zs_len 32)
   have HST:Hid (_):=hst
   have HLz:Hid (_):=hlz
   have HFz:Hid (_):=hfz
   clear hst hlz hfz H17 H15 HE
   go_wp2_with ((with_reducible refine at_ops ?_);(first | (refine wpList_build_is (vs:=[(0,.int .i64 19),(4,.int .i64 (-1)),(7,.int .i64 (lgS n x.c D).txs.length),(6,.int .u64 (lgS n x.c D).fin)]) (by rfl) 42 rfl (by rfl) HBD.out ?_) | (refine wpList_store_is (by rfl) 42 rfl rfl rfl HST.out ?_));simp only[Act.put,zA,zB,zC])
   (try simp only[Exit.inBlock,Exit.then])
   exact bodyPost_ret (results_lat results95 _ _ _ 42 _ _ (by rfl) HLz.out underlying42 rfl (by rw[size_row,rowc_len (zs_len 32)])) rfl ⟨rfl,HFz.out⟩
end
end Go.Proofs.YtdadpepfpiimgaaGreatDoor.Q
