import Derived.Test.YtdadpepfpiimgaaGreatDoorK27
set_option maxHeartbeats 20000000
set_option maxRecDepth 100000
namespace Go.Proofs.YtdadpepfpiimgaaGreatDoor.Q
open Go.Proofs.Tryz
open Go.RowKit
theorem LAt.thr {ty:TypeId}{W:World}{B o n:Nat}{cs:List Value}(h:LAt ty W B cs)(hl:o+n≤cs.length):W.there B o n:=fun j hj=>⟨by rw[LAt.cell h (o+j),List.getElem?_eq_getElem (show o+j<cs.length by omega)];rfl,frozen_of_row W B (o+j) _ ty h⟩
section
variable {w0 w:World} {X:List Kd} {i j P p n:Nat} {q:Option Nat} {D:Dd} {x:Rc}
theorem build_rowB (w:World):(Instr.build 42 #[(4,.int .i64 (-1))]).run prog w=.ok (.agg (rowc ⟨0,-1,zv,0,0⟩).toArray) w:=run_build w 42 _ _ (by kernel_rfl)
theorem build_rsupN (w:World)(x:Rc):(Instr.build 194 #[(0,.agg (ccells x.c).toArray),(1,.int .u64 (x.en+x.c.lc)),(2,.int .u64 (x.li+1))]).run prog w=.ok (.agg (scells (supN x)).toArray) w:=run_build w 194 _ _ (by kernel_rfl)
theorem Fz.rhead (h:Fz w0 w X)(hi:X[i]?=some (ks P q x)){k:Im}{r:List Im}(hl:x.left=k :: r):∃b o c,w.cell? ⟨P,9,none⟩=some (.slice (some ⟨b,o,none⟩) (r.length+1) c)∧MIn w (some ⟨b,o,none⟩) (r.length+1) (k :: r)∧r.length+1≤c∧c≤maxLen∧(r=[]∨MIn w (some ⟨b,o+33,none⟩) r.length r):=by
 obtain ⟨G,v,hp,hg,hL⟩:=h.ats hi
 have hlf:=hp.lf
 rw[hl] at hlf
 obtain ⟨b,o,c,e,hm,h1,h2,hgb,hlf'⟩:=hlf.tl
 have c9:=hp.c9
 rw[e] at c9
 refine⟨b,o,c,c9,hm,h1,h2,?_⟩
 obtain ⟨q',c',e',hm',-⟩:=hlf'.ex
 cases e'
 exact .inr hm'
theorem rstep_flush_at (h:Fz w0 w X)(hi:X[i]?=some (ks P (some p) x))(hj:X[j]?=some (ke p n D))(hij:i≠j)(_ok:x.Ok n)(hk:D.ws.length≤100000)(hs:x.st=3):Calls prog 57 #[qp P] w fun e w'=>e=.returned (.tuple #[.agg (rowc (stepS n x D).row).toArray,.int .i64 (stepS n x D).err])∧Fz w0 w' ((X.set j (ke p n (stepS n x D).D)).set i (ks P (some p) (stepS n x D).x)):=by
 rw[step_flush hs]
 obtain ⟨w1,hal,hb1,h1⟩:=h.rowbox
 generalize w.heap.size=b0 at h1 hal hb1
 have HAL:Hid (_):=hal
 have hr1:=h1.rv (i:=i+1) hi
 have c6:=hr1.c6
 have c0:=hr1.c0
 rw[hs] at c6
 obtain ⟨wa,wb,hab,hsb,h2⟩:=Fz.keeprow (r:=⟨0,-1,zv,0,0⟩) h1 (zs_len 32)
 obtain ⟨b1,hb1'⟩:∃B,w1.heap.size=B:=⟨_,rfl⟩
 rw[hb1'] at hab hsb h2
 have HAB:Hid (_):=hab
 have HSB:Hid (_):=hsb
 have HBB:Hid (_):=build_rowB w1
 have H2:Hid (Fz w0 wb (kb b1 42 (rowc ⟨0,-1,zv,0,0⟩) :: kb b0 42 row0 :: X)):=h2
 have hr2:=h2.rv (i:=i+2) hi
 have d6:=hr2.c6
 have d0:=hr2.c0
 rw[hs] at d6
 have HK:Hid (D.ws.length≤100000):=hk
 have HLT:Hid (i<X.length):=(List.getElem?_eq_some_iff.1 hi).1
 clear h hal h1 hr1 hr2 hab hsb h2 hb1 hb1' hk
 go_enter func57,ntmps57
 go_wp2_with ((with_reducible refine at_ops ?_);(first | (refine wpList_alloc_is (by rfl) 42 rfl HAL.out ?_) | (refine wpList_build_is (vs:=[(4,.int .i64 (-1))]) (by rfl) 42 rfl (by rfl) HBB.out ?_) | (refine wpList_alloc_is (by rfl) 42 rfl HAB.out ?_) | (refine wpList_store_is (by rfl) 42 rfl rfl rfl HSB.out ?_));simp only[Act.put,zA,zB,zC])
 refine (r_flush (j:=j+2) H2.out hj HK.out).mono ?_
 rintro e w3 ⟨rfl,h3⟩
 have H3:Hid (Fz w0 w3 (kb b1 42 (rowc ⟨0,-1,zv,0,0⟩) :: kb b0 42 row0 :: (X.set j (ke p n D.fls)).set i (ks P (some p) x))):=by
  rw[Fz.set_same (X:=(X.set j (ke p n D.fls))) (by rw[List.getElem?_set_ne (Ne.symm hij)];exact hi)];exact h3
 clear h3 H2 HAL HAB HSB HBB c6 c0 d6 d0
 have q0:w3.cell? ⟨b1,0,none⟩=some (.int .i64 0):=by rw[LAt.cell (H3.out.atb (i:=0) rfl).1 0];rfl
 have g0:w3.frozen? ⟨b1,0,none⟩=false:=frozen_row (H3.out.atb (i:=0) rfl).1
 have hx:=Fz.cell (i:=0) H3.out rfl 0 (.int .i64 12)
 obtain ⟨w3s1,hw0⟩:∃W,w3.setCell ⟨b1,0,none⟩ (.int .i64 12)=W:=⟨_,rfl⟩
 rw[hw0] at hx
 have H3s1:Hid (Fz w0 w3s1 (kb b1 42 (rowc ⟨12,-1,zv,0,0⟩) :: kb b0 42 row0 :: (X.set j (ke p n D.fls)).set i (ks P (some p) x))):=hx
 clear hx H3
 have q38:w3s1.cell? ⟨b1,38,none⟩=some (.int .i64 0):=by rw[LAt.cell (H3s1.out.atb (i:=0) rfl).1 38];rfl
 have g38:w3s1.frozen? ⟨b1,38,none⟩=false:=frozen_row (H3s1.out.atb (i:=0) rfl).1
 have hx:=Fz.cell (i:=0) H3s1.out rfl 38 (.int .i64 D.ws.length)
 obtain ⟨w3s2,hw38⟩:∃W,w3s1.setCell ⟨b1,38,none⟩ (.int .i64 D.ws.length)=W:=⟨_,rfl⟩
 rw[hw38] at hx
 have H3s2:Hid (Fz w0 w3s2 (kb b1 42 (rowc ⟨12,-1,zv,0,D.ws.length⟩) :: kb b0 42 row0 :: (X.set j (ke p n D.fls)).set i (ks P (some p) x))):=hx
 clear hx H3s1
 have hrs:=H3s2.out.rvs (X:=kb b1 42 (rowc ⟨12,-1,zv,0,D.ws.length⟩) :: kb b0 42 row0 :: (X.set j (ke p n D.fls))) (i:=i+2) (by simp only[List.length_cons,List.length_set];have:=HLT.out;omega)
 have s6:=hrs.c6
 have t6:=hrs.frozen 6
 have hx:=Fz.rputs (X:=kb b1 42 (rowc ⟨12,-1,zv,0,D.ws.length⟩) :: kb b0 42 row0 :: (X.set j (ke p n D.fls))) (i:=i+2) H3s2.out (by simp only[List.length_cons,List.length_set];have:=HLT.out;omega) 6 (.int .i64 4) { x with st:=4 } rfl fun _=>rfl
 obtain ⟨w9,hw6⟩:∃W,w3s2.setCell ⟨P,6,none⟩ (.int .i64 4)=W:=⟨_,rfl⟩
 rw[hw6] at hx
 have H9:Hid (Fz w0 w9 (kb b1 42 (rowc ⟨12,-1,zv,0,D.ws.length⟩) :: kb b0 42 row0 :: (X.set j (ke p n D.fls)).set i (ks P (some p) { x with st:=4 }))):=hx
 clear hx H3s2 hrs
 have HLD:Hid (_):=loadRow (r:=⟨12,-1,zv,0,D.ws.length⟩) (zs_len 32) (H9.out.atb (i:=0) rfl).1
 obtain ⟨wz,hst,hlz,hfz⟩:=Fz.laid (X:=(X.set j (ke p n D.fls)).set i (ks P (some p) { x with st:=4 })) (Fz.pop H9.out) (r:=⟨12,-1,zv,0,D.ws.length⟩) (zs_len 32)
 have HST:Hid (_):=hst
 have HLz:Hid (_):=hlz
 have HFz:Hid (Fz w0 wz ((X.set j (ke p n D.fls)).set i (ks P (some p) { x with st:=4 }))):=hfz
 clear hst hlz hfz H9
 go_wp2_with ((with_reducible refine at_ops ?_);(first | (refine wpList_load_is (by rfl) 42 rfl rfl HLD.out ?_) | (refine wpList_store_is (by rfl) 42 rfl rfl rfl HST.out ?_));simp only[Act.put,zA,zB,zC])
 (try simp only[Exit.inBlock,Exit.then])
 exact bodyPost_ret (results_lat results57 _ _ _ 42 _ _ (by rfl) HLz.out underlying42 rfl (by rw[size_row,rowc_len (zs_len 32)])) rfl ⟨rfl,HFz.out⟩
theorem rstep_end_at (h:Fz w0 w X)(hi:X[i]?=some (ks P (some p) x))(hj:X[j]?=some (ke p n D))(hij:i≠j)(ok:x.Ok n)(hk:D.ws.length≤100000)(hs:x.st=5):Calls prog 57 #[qp P] w fun e w'=>e=.returned (.tuple #[.agg (rowc (stepS n x D).row).toArray,.int .i64 (stepS n x D).err])∧Fz w0 w' ((X.set j (ke p n (stepS n x D).D)).set i (ks P (some p) (stepS n x D).x)):=by
 rw[step_end hs]
 obtain ⟨w1,hal,hb1,h1⟩:=h.rowbox
 generalize w.heap.size=b0 at h1 hal hb1
 have HAL:Hid (_):=hal
 have hr1:=h1.rv (i:=i+1) hi
 have c6:=hr1.c6
 have c0:=hr1.c0
 rw[hs] at c6
 obtain ⟨wa,wb,hab,hsb,h2⟩:=Fz.keeprow (r:=⟨0,-1,zv,0,0⟩) h1 (zs_len 32)
 obtain ⟨b1,hb1'⟩:∃B,w1.heap.size=B:=⟨_,rfl⟩
 rw[hb1'] at hab hsb h2
 have HAB:Hid (_):=hab
 have HSB:Hid (_):=hsb
 have HBB:Hid (_):=build_rowB w1
 have H2:Hid (Fz w0 wb (kb b1 42 (rowc ⟨0,-1,zv,0,0⟩) :: kb b0 42 row0 :: X)):=h2
 have hr2:=h2.rv (i:=i+2) hi
 have d6:=hr2.c6
 have d0:=hr2.c0
 rw[hs] at d6
 have HK:Hid (D.ws.length≤100000):=hk
 have HLT:Hid (i<X.length):=(List.getElem?_eq_some_iff.1 hi).1
 clear h hal h1 hr1 hr2 hab hsb h2 hb1 hb1' hk
 go_enter func57,ntmps57
 go_wp2_with ((with_reducible refine at_ops ?_);(first | (refine wpList_alloc_is (by rfl) 42 rfl HAL.out ?_) | (refine wpList_build_is (vs:=[(4,.int .i64 (-1))]) (by rfl) 42 rfl (by rfl) HBB.out ?_) | (refine wpList_alloc_is (by rfl) 42 rfl HAB.out ?_) | (refine wpList_store_is (by rfl) 42 rfl rfl rfl HSB.out ?_));simp only[Act.put,zA,zB,zC])
 refine (r_flush (j:=j+2) H2.out hj HK.out).mono ?_
 rintro e w3 ⟨rfl,h3⟩
 have H3:Hid (Fz w0 w3 (kb b1 42 (rowc ⟨0,-1,zv,0,0⟩) :: kb b0 42 row0 :: (X.set j (ke p n D.fls)).set i (ks P (some p) x))):=by
  rw[Fz.set_same (X:=(X.set j (ke p n D.fls))) (by rw[List.getElem?_set_ne (Ne.symm hij)];exact hi)];exact h3
 clear h3 H2 HAL HAB HSB HBB c6 c0 d6 d0
 go_wp2_with fail
 refine (rtail_at (i:=i+2) H3.out (by show ((X.set j (ke p n D.fls)).set i _)[i]?=_;exact List.getElem?_set_self (by rw[List.length_set];exact HLT.out)) ok).mono ?_
 rintro e w4 ⟨rfl,h4⟩
 have H4:Hid (Fz w0 w4 (kb b1 42 (rowc ⟨0,-1,zv,0,0⟩) :: kb b0 42 row0 :: (X.set j (ke p n D.fls)).set i (ks P (some p) x))):=h4
 clear h4 H3
 have q0:w4.cell? ⟨b1,0,none⟩=some (.int .i64 0):=by rw[LAt.cell (H4.out.atb (i:=0) rfl).1 0];rfl
 have g0:w4.frozen? ⟨b1,0,none⟩=false:=frozen_row (H4.out.atb (i:=0) rfl).1
 have hx:=Fz.cell (i:=0) H4.out rfl 0 (.int .i64 20)
 obtain ⟨w4s1,hw0⟩:∃W,w4.setCell ⟨b1,0,none⟩ (.int .i64 20)=W:=⟨_,rfl⟩
 rw[hw0] at hx
 have H4s1:Hid (Fz w0 w4s1 (kb b1 42 (rowc ⟨20,-1,zv,0,0⟩) :: kb b0 42 row0 :: (X.set j (ke p n D.fls)).set i (ks P (some p) x))):=hx
 clear hx H4
 have q37:w4s1.cell? ⟨b1,37,none⟩=some (.int .u64 0):=by rw[LAt.cell (H4s1.out.atb (i:=0) rfl).1 37];rfl
 have g37:w4s1.frozen? ⟨b1,37,none⟩=false:=frozen_row (H4s1.out.atb (i:=0) rfl).1
 have hx:=Fz.cell (i:=0) H4s1.out rfl 37 (.int .u64 (x.en+x.c.lc))
 obtain ⟨w4s2,hw37⟩:∃W,w4s1.setCell ⟨b1,37,none⟩ (.int .u64 (x.en+x.c.lc))=W:=⟨_,rfl⟩
 rw[hw37] at hx
 have H4s2:Hid (Fz w0 w4s2 (kb b1 42 (rowc ⟨20,-1,zv,x.en+x.c.lc,0⟩) :: kb b0 42 row0 :: (X.set j (ke p n D.fls)).set i (ks P (some p) x))):=hx
 clear hx H4s1
 have hrs:=H4s2.out.rvs (X:=kb b1 42 (rowc ⟨20,-1,zv,x.en+x.c.lc,0⟩) :: kb b0 42 row0 :: (X.set j (ke p n D.fls))) (i:=i+2) (by simp only[List.length_cons,List.length_set];have:=HLT.out;omega)
 have s6:=hrs.c6
 have t6:=hrs.frozen 6
 have hx:=Fz.rputs (X:=kb b1 42 (rowc ⟨20,-1,zv,x.en+x.c.lc,0⟩) :: kb b0 42 row0 :: (X.set j (ke p n D.fls))) (i:=i+2) H4s2.out (by simp only[List.length_cons,List.length_set];have:=HLT.out;omega) 6 (.int .i64 6) { x with st:=6 } rfl fun _=>rfl
 obtain ⟨w9,hw6⟩:∃W,w4s2.setCell ⟨P,6,none⟩ (.int .i64 6)=W:=⟨_,rfl⟩
 rw[hw6] at hx
 have H9:Hid (Fz w0 w9 (kb b1 42 (rowc ⟨20,-1,zv,x.en+x.c.lc,0⟩) :: kb b0 42 row0 :: (X.set j (ke p n D.fls)).set i (ks P (some p) { x with st:=6 }))):=hx
 clear hx H4s2 hrs
 have HLD:Hid (_):=loadRow (r:=⟨20,-1,zv,x.en+x.c.lc,0⟩) (zs_len 32) (H9.out.atb (i:=0) rfl).1
 obtain ⟨wz,hst,hlz,hfz⟩:=Fz.laid (X:=(X.set j (ke p n D.fls)).set i (ks P (some p) { x with st:=6 })) (Fz.pop H9.out) (r:=⟨20,-1,zv,x.en+x.c.lc,0⟩) (zs_len 32)
 have HST:Hid (_):=hst
 have HLz:Hid (_):=hlz
 have HFz:Hid (Fz w0 wz ((X.set j (ke p n D.fls)).set i (ks P (some p) { x with st:=6 }))):=hfz
 clear hst hlz hfz H9
 go_wp2_with ((with_reducible refine at_ops ?_);(first | (refine wpList_load_is (by rfl) 42 rfl rfl HLD.out ?_) | (refine wpList_store_is (by rfl) 42 rfl rfl rfl HST.out ?_));simp only[Act.put,zA,zB,zC])
 (try simp only[Exit.inBlock,Exit.then])
 exact bodyPost_ret (results_lat results57 _ _ _ 42 _ _ (by rfl) HLz.out underlying42 rfl (by rw[size_row,rowc_len (zs_len 32)])) rfl ⟨rfl,HFz.out⟩
theorem rstep_mark_at (h:Fz w0 w X)(hi:X[i]?=some (ks P (some p) x))(hj:X[j]?=some (ke p n D))(hij:i≠j)(ok:x.Ok n)(hk:D.ws.length≤100000)(hs:x.st=4):Calls prog 57 #[qp P] w fun e w'=>e=.returned (.tuple #[.agg (rowc (stepS n x D).row).toArray,.int .i64 (stepS n x D).err])∧Fz w0 w' ((X.set j (ke p n (stepS n x D).D)).set i (ks P (some p) (stepS n x D).x)):=by
 rw[step_mark hs]
 obtain ⟨w1,hal,hb1,h1⟩:=h.rowbox
 generalize w.heap.size=b0 at h1 hal hb1
 have HAL:Hid (_):=hal
 have hr1:=h1.rv (i:=i+1) hi
 have c6:=hr1.c6
 have c0:=hr1.c0
 rw[hs] at c6
 obtain ⟨wa,wb,hab,hsb,h2⟩:=Fz.keeprow (r:=⟨0,-1,zv,0,0⟩) h1 (zs_len 32)
 obtain ⟨b1,hb1'⟩:∃B,w1.heap.size=B:=⟨_,rfl⟩
 rw[hb1'] at hab hsb h2
 have HAB:Hid (_):=hab
 have HSB:Hid (_):=hsb
 have HBB:Hid (_):=build_rowB w1
 have H2:Hid (Fz w0 wb (kb b1 42 (rowc ⟨0,-1,zv,0,0⟩) :: kb b0 42 row0 :: X)):=h2
 have hr2:=h2.rv (i:=i+2) hi
 have d6:=hr2.c6
 have d0:=hr2.c0
 rw[hs] at d6
 have HK:Hid (D.ws.length≤100000):=hk
 have HLT:Hid (i<X.length):=(List.getElem?_eq_some_iff.1 hi).1
 clear h hal h1 hr1 hr2 hab hsb h2 hb1 hb1' hk
 have HCK:Hid (chk (supN x)=0):=by show chk (supN x)=0;unfold chk;rw[if_pos ok.sup.1,if_pos ok.sup.2]
 have hn0:(0:Int)<n:=by have:=ok.n;have:=ok.mc.1;have:=ok.mc.2.1;omega
 have KW:IntKind.u64.wrap (x.li+1)=x.li+1:=by have a:=ok.l0;have b:=ok.l1;rw[IntKind.wrap_u64];omega
 have H3:Hid (Fz w0 wb.drew (kb b1 42 (rowc ⟨0,-1,zv,0,0⟩) :: kb b0 42 row0 :: X)):=H2.out.later (below_drawn 1)
 clear H2
 go_enter func57,ntmps57
 go_wp2_with ((with_reducible refine at_ops ?_);(first | (refine wpList_alloc_is (by rfl) 42 rfl HAL.out ?_) | (refine wpList_build_is (vs:=[(4,.int .i64 (-1))]) (by rfl) 42 rfl (by rfl) HBB.out ?_) | (refine wpList_alloc_is (by rfl) 42 rfl HAB.out ?_) | (refine wpList_store_is (by rfl) 42 rfl rfl rfl HSB.out ?_));simp only[Act.put,zA,zB,zC])
 clear HAL HAB HSB HBB c6 c0 d6 d0
 refine wp_region_noPanic ?_
 refine wp_region_held_drew (S:=fun W=>Fz w0 W (kb b1 42 (rowc ⟨0,-1,zv,0,0⟩) :: kb b0 42 row0 :: X)) (by kernel_rfl) H3.out (fun hHeld=>?_)
 generalize wb.drew=w3 at *
 clear H3
 refine tk 0 hHeld ?_
 refine tk 1 hHeld ?_
 refine tk 2 hHeld ?_
 refine tkm 3 hHeld (fun _ s=>(s.rv (i:=i+2) hi).loadC) ?_
 refine tk 4 hHeld ?_
 refine tk 6 hHeld ?_
 refine tk 7 hHeld ?_
 refine tk 8 hHeld ?_
 refine tkl 9 hHeld (fun _ s=>(s.rv (i:=i+2) hi).c7) ?_
 refine tk 10 hHeld ?_
 refine tkr 5 fun Kc hKc=>?_
 go_simp
 refine (rtail_at (i:=i+2) hHeld hi ok).mono ?_
 rintro e w4 ⟨rfl,h4⟩
 refine hKc.out _ _ h4 (fun hHeld=>?_)
 clear h4
 clear hKc Kc
 refine tkb 11 [(0,.agg (ccells x.c).toArray),(1,.int .u64 (x.en+x.c.lc)),(2,.int .u64 (x.li+1))] hHeld (fun W=>build_rsupN W x) ?_
 refine tkr 12 fun Kc hKc=>?_
 go_simp
 refine (refEncode_any (supN x) ok.supwf _).mono ?_
 rintro e w5 ⟨a,m,c,rfl,hm,hmade⟩
 rw[encT_yes _ ok.sup] at hm hmade
 rw[encS_len] at hm
 subst hm
 have HM:Hid (BIn w5 a 64 (encS (supN x))):=hmade.read
 have H5:Hid (Fz w0 w5 (kb b1 42 (rowc ⟨0,-1,zv,0,0⟩) :: kb b0 42 row0 :: X)):=hHeld.later hmade.below
 rw[HCK.out]
 clear hmade
 refine hKc.out _ _ H5.out fun hHeld=>?_
 clear hKc Kc
 refine tk 13 hHeld ?_
 refine tk 14 hHeld ?_
 refine tk 15 hHeld ?_
 refine tk 16 hHeld ?_
 refine tk 17 hHeld ?_
 clear hHeld
 refine wpAnyH_done (by kernel_rfl) (NoPanic.normal ?_) _
 have d0:=(H5.out.rv (i:=i+2) hi).c0
 clear KW
 go_wp2_with fail
 refine (r_write0 (j:=j+2) H5.out hj HK.out (Int.le_refl 0) hn0 HM.out).mono ?_
 rintro e w7 ⟨rfl,h7⟩
 have H7:Hid (Fz w0 w7 (kb b1 42 (rowc ⟨0,-1,zv,0,0⟩) :: kb b0 42 row0 :: (X.set j (ke p n (D.wr 0 (encS (supN x))))).set i (ks P (some p) x))):=by
  rw[Fz.set_same (X:=(X.set j (ke p n (D.wr 0 (encS (supN x)))))) (by rw[List.getElem?_set_ne (Ne.symm hij)];exact hi)];exact h7
 clear h7 H5 d0 HM
 go_wp2_with fail
 refine (rtail_at (i:=i+2) H7.out (by show ((X.set j (ke p n (D.wr 0 (encS (supN x))))).set i _)[i]?=_;exact List.getElem?_set_self (by rw[List.length_set];exact HLT.out)) ok).mono ?_
 rintro e w6 ⟨rfl,h6⟩
 have H6:Hid (Fz w0 w6 (kb b1 42 (rowc ⟨0,-1,zv,0,0⟩) :: kb b0 42 row0 :: (X.set j (ke p n (D.wr 0 (encS (supN x))))).set i (ks P (some p) x))):=h6
 clear h6 H7
 have q0:w6.cell? ⟨b1,0,none⟩=some (.int .i64 0):=by rw[LAt.cell (H6.out.atb (i:=0) rfl).1 0];rfl
 have g0:w6.frozen? ⟨b1,0,none⟩=false:=frozen_row (H6.out.atb (i:=0) rfl).1
 have hx:=Fz.cell (i:=0) H6.out rfl 0 (.int .i64 16)
 obtain ⟨w6s1,hw0⟩:∃W,w6.setCell ⟨b1,0,none⟩ (.int .i64 16)=W:=⟨_,rfl⟩
 rw[hw0] at hx
 have H6s1:Hid (Fz w0 w6s1 (kb b1 42 (rowc ⟨16,-1,zv,0,0⟩) :: kb b0 42 row0 :: (X.set j (ke p n (D.wr 0 (encS (supN x))))).set i (ks P (some p) x))):=hx
 clear hx H6
 have q37:w6s1.cell? ⟨b1,37,none⟩=some (.int .u64 0):=by rw[LAt.cell (H6s1.out.atb (i:=0) rfl).1 37];rfl
 have g37:w6s1.frozen? ⟨b1,37,none⟩=false:=frozen_row (H6s1.out.atb (i:=0) rfl).1
 have hx:=Fz.cell (i:=0) H6s1.out rfl 37 (.int .u64 (x.en+x.c.lc))
 obtain ⟨w6s2,hw37⟩:∃W,w6s1.setCell ⟨b1,37,none⟩ (.int .u64 (x.en+x.c.lc))=W:=⟨_,rfl⟩
 rw[hw37] at hx
 have H6s2:Hid (Fz w0 w6s2 (kb b1 42 (rowc ⟨16,-1,zv,x.en+x.c.lc,0⟩) :: kb b0 42 row0 :: (X.set j (ke p n (D.wr 0 (encS (supN x))))).set i (ks P (some p) x))):=hx
 clear hx H6s1
 have hrs:=H6s2.out.rvs (X:=kb b1 42 (rowc ⟨16,-1,zv,x.en+x.c.lc,0⟩) :: kb b0 42 row0 :: (X.set j (ke p n (D.wr 0 (encS (supN x)))))) (i:=i+2) (by simp only[List.length_cons,List.length_set];have:=HLT.out;omega)
 have s6:=hrs.c6
 have t6:=hrs.frozen 6
 have hx:=Fz.rputs (X:=kb b1 42 (rowc ⟨16,-1,zv,x.en+x.c.lc,0⟩) :: kb b0 42 row0 :: (X.set j (ke p n (D.wr 0 (encS (supN x)))))) (i:=i+2) H6s2.out (by simp only[List.length_cons,List.length_set];have:=HLT.out;omega) 6 (.int .i64 5) { x with st:=5 } rfl fun _=>rfl
 obtain ⟨w9,hw6⟩:∃W,w6s2.setCell ⟨P,6,none⟩ (.int .i64 5)=W:=⟨_,rfl⟩
 rw[hw6] at hx
 have H9:Hid (Fz w0 w9 (kb b1 42 (rowc ⟨16,-1,zv,x.en+x.c.lc,0⟩) :: kb b0 42 row0 :: (X.set j (ke p n (D.wr 0 (encS (supN x))))).set i (ks P (some p) { x with st:=5 }))):=hx
 clear hx H6s2 hrs
 have HLD:Hid (_):=loadRow (r:=⟨16,-1,zv,x.en+x.c.lc,0⟩) (zs_len 32) (H9.out.atb (i:=0) rfl).1
 obtain ⟨wz,hst,hlz,hfz⟩:=Fz.laid (X:=(X.set j (ke p n (D.wr 0 (encS (supN x))))).set i (ks P (some p) { x with st:=5 })) (Fz.pop H9.out) (r:=⟨16,-1,zv,x.en+x.c.lc,0⟩) (zs_len 32)
 have HST:Hid (_):=hst
 have HLz:Hid (_):=hlz
 have HFz:Hid (Fz w0 wz ((X.set j (ke p n (D.wr 0 (encS (supN x))))).set i (ks P (some p) { x with st:=5 }))):=hfz
 clear hst hlz hfz H9
 go_wp2_with ((with_reducible refine at_ops ?_);(first | (refine wpList_load_is (by rfl) 42 rfl rfl HLD.out ?_) | (refine wpList_store_is (by rfl) 42 rfl rfl rfl HST.out ?_));simp only[Act.put,zA,zB,zC])
 (try simp only[Exit.inBlock,Exit.then])
 exact bodyPost_ret (results_lat results57 _ _ _ 42 _ _ (by rfl) HLz.out underlying42 rfl (by rw[size_row,rowc_len (zs_len 32)])) rfl ⟨rfl,HFz.out⟩
end
section
variable {w0 w:World} {X:List Kd} {i j P p n:Nat} {q:Option Nat} {D:Dd} {x:Rc}
theorem rstep_carry_at (h:Fz w0 w X)(hi:X[i]?=some (ks P (some p) x))(hj:X[j]?=some (ke p n D))(hij:i≠j)(ok:x.Ok n)(hk:D.ws.length≤100000)(hs:x.st=2){k:Im}{r:List Im}(hl:x.left=k :: r):Calls prog 57 #[qp P] w fun e w'=>e=.returned (.tuple #[.agg (rowc (stepS n x D).row).toArray,.int .i64 (stepS n x D).err])∧Fz w0 w' ((X.set j (ke p n (stepS n x D).D)).set i (ks P (some p) (stepS n x D).x)):=by
 rw[step_carry hs hl]
 have HW:Hid (k.Wf):=ok.wf k (by rw[hl];exact List.mem_cons.2 (.inl rfl))
 have HK32:Hid (k.v.length=32):=HW.out.len
 have HWR:Hid (ImsWf r):=fun y hy=>ok.wf y (by rw[hl];exact List.mem_cons.2 (.inr hy))
 have HRL:Hid (r.length≤100):=by have a:=ok.few;rw[hl,List.length_cons] at a;have b:=ok.mc.2.1;show _≤_;omega
 have HRB:Hid (rbS x.c n k.b=0):=by
  have a:=ok.blk k (by rw[hl];exact List.mem_cons.2 (.inl rfl))
  exact rbS_ok (rfS_ok ok.mc ok.n) a
 obtain ⟨w1,hal,hb1,h1⟩:=h.rowbox
 generalize w.heap.size=b0 at h1 hal hb1
 have HAL:Hid (_):=hal
 have hr1:=h1.rv (i:=i+1) hi
 have c6:=hr1.c6
 have c0:=hr1.c0
 rw[hs] at c6
 obtain ⟨wa,wb,hab,hsb,h2⟩:=Fz.keeprow (r:=⟨0,-1,zv,0,0⟩) h1 (zs_len 32)
 obtain ⟨b1,hb1'⟩:∃B,w1.heap.size=B:=⟨_,rfl⟩
 rw[hb1'] at hab hsb h2
 have HAB:Hid (_):=hab
 have HSB:Hid (_):=hsb
 have HBB:Hid (_):=build_rowB w1
 have H2:Hid (Fz w0 wb (kb b1 42 (rowc ⟨0,-1,zv,0,0⟩) :: kb b0 42 row0 :: X)):=h2
 have hr2:=h2.rv (i:=i+2) hi
 have d6:=hr2.c6
 have d0:=hr2.c0
 rw[hs] at d6
 have HK:Hid (D.ws.length≤100000):=hk
 have HLT:Hid (i<X.length):=(List.getElem?_eq_some_iff.1 hi).1
 clear h hal h1 hr1 hr2 hab hsb h2 hb1 hb1' hk
 obtain ⟨b,o,c,c9,hm,hc1,hc2,-⟩:=Fz.rhead (i:=i+2) H2.out hi hl
 have HLD:Hid (_):=hm.load (k:=0) rfl
 rw[Nat.zero_mul,Nat.add_zero] at HLD
 obtain ⟨E,hE⟩:∃E,wb.heap.size=E:=⟨_,rfl⟩
 obtain ⟨w2,hw2⟩:∃W,wb.alloc (.cells (icells k).toArray 155)=W:=⟨_,rfl⟩
 have HAE:Hid (_):=allocI wb
 have HSE:Hid (_):=store_newI wb k HK32.out
 rw[hw2,hE] at HSE
 rw[hE] at HAE
 have h3:Fz w0 w2 (kb E 155 (icells k) :: kb b1 42 (rowc ⟨0,-1,zv,0,0⟩) :: kb b0 42 row0 :: X):=by rw[← hw2,← hE];exact H2.out.newa (icells k) 155
 have H4:Hid (Fz w0 w2.drew (kb E 155 (icells k) :: kb b1 42 (rowc ⟨0,-1,zv,0,0⟩) :: kb b0 42 row0 :: X)):=h3.later (below_drawn 1)
 clear h3 hm hw2 hE H2
 go_enter func57,ntmps57
 go_wp2_with ((with_reducible refine at_ops ?_);(first | (refine wpList_alloc_is (by rfl) 42 rfl HAL.out ?_) | (refine wpList_build_is (vs:=[(4,.int .i64 (-1))]) (by rfl) 42 rfl (by rfl) HBB.out ?_) | (refine wpList_alloc_is (by rfl) 42 rfl HAB.out ?_) | (refine wpList_store_is (by rfl) 42 rfl rfl rfl HSB.out ?_) | (refine wpList_load_is (by rfl) 155 rfl rfl HLD.out ?_) | (refine wpList_alloc_is (by rfl) 155 rfl HAE.out ?_) | (refine wpList_store_is (by rfl) 155 rfl rfl rfl HSE.out ?_));simp only[Act.put,zA,zB,zC])
 clear HAL HAB HSB HBB HLD HAE HSE c6 c0 d6 d0 c9 hc1 hc2
 refine wp_region_noPanic ?_
 refine wp_region_held_drew (S:=fun W=>Rdv P (some p) x W∧LAt 155 W E (icells k)) (by kernel_rfl) ⟨H4.out.rv (i:=i+3) hi,(H4.out.atb (i:=0) rfl).1⟩ (fun hHeld=>?_)
 generalize w2.drew=w4 at *
 refine tk 0 hHeld ?_
 refine tk 1 hHeld ?_
 refine tk 2 hHeld ?_
 refine tkl 3 hHeld (fun _ s=>s.1.c0) ?_
 refine tk 4 hHeld ?_
 refine tk 5 hHeld ?_
 refine tk 6 hHeld ?_
 refine tkm 7 hHeld (fun _ s=>s.1.loadC) ?_
 refine tk 8 hHeld ?_
 refine tkl 9 hHeld (fun _ s=>img0 s.2) ?_
 refine tk 10 hHeld ?_
 refine tkm 11 hHeld (fun _ s=>LAt.loadIv s.2 HK32.out) ?_
 refine tkr 12 fun Kc hKc=>?_
 go_simp
 refine (r_save (j:=j+3) H4.out hj HK.out HW.out HRB.out).mono ?_
 rintro e w5 ⟨rfl,h5⟩
 have H5:Hid (Fz w0 w5 (kb E 155 (icells k) :: kb b1 42 (rowc ⟨0,-1,zv,0,0⟩) :: kb b0 42 row0 :: (X.set j (ke p n (D.wr (1+k.b).toNat (homeS k.b k.v)))).set i (ks P (some p) x))):=by
  rw[Fz.set_same (X:=(X.set j (ke p n (D.wr (1+k.b).toNat (homeS k.b k.v))))) (by rw[List.getElem?_set_ne (Ne.symm hij)];exact hi)];exact h5
 clear h5 H4
 refine hKc.out _ _ ⟨H5.out.rvs (X:=kb E 155 (icells k) :: kb b1 42 (rowc ⟨0,-1,zv,0,0⟩) :: kb b0 42 row0 :: (X.set j (ke p n (D.wr (1+k.b).toNat (homeS k.b k.v))))) (i:=i+3) (by simp only[List.length_cons,List.length_set];have:=HLT.out;omega),(H5.out.atb (i:=0) rfl).1⟩ fun hHeld=>?_
 clear hKc Kc
 clear hHeld
 refine wpAnyH_done (by kernel_rfl) (NoPanic.normal ?_) _
 clear hHeld
 by_cases hrn:r=[]
 ·subst hrn
  obtain ⟨b,o,c,c9,hm,hc1,hc2,-⟩:=Fz.rhead (X:=kb E 155 (icells k) :: kb b1 42 (rowc ⟨0,-1,zv,0,0⟩) :: kb b0 42 row0 :: (X.set j (ke p n (D.wr (1+k.b).toNat (homeS k.b k.v)))).set i (ks P (some p) x)) (i:=i+3) H5.out (by show ((X.set j (ke p n (D.wr (1+k.b).toNat (homeS k.b k.v)))).set i _)[i]?=_;exact List.getElem?_set_self (by rw[List.length_set];exact HLT.out)) hl
  have c9a:(w5.alloc (.cells #[] 155)).cell? ⟨P,9,none⟩=some (.slice (some ⟨b,o,none⟩) 1 c):=by
   obtain ⟨G,v,hp,-⟩:=H5.out.ats (i:=i+3) (by show ((X.set j (ke p n (D.wr (1+k.b).toNat (homeS k.b k.v)))).set i _)[i]?=_;exact List.getElem?_set_self (by rw[List.length_set];exact HLT.out))
   rw[(below_alloc w5 (.cells #[] 155)).cell (p:=⟨P,9,none⟩) hp.lt];exact c9
  have own0:IOwn (w5.alloc (.cells #[] 155)) w5.heap.size (.slice (some ⟨w5.heap.size,0,none⟩) 0 0) []:=World.ownsRow_made w5 #[] 0 (Nat.le_refl _) (Nat.zero_le _) rfl
  have H6:Hid (Fz w0 (w5.alloc (.cells #[] 155)) (ko (.slice (some ⟨w5.heap.size,0,none⟩) 0 0) [] :: kb E 155 (icells k) :: kb b1 42 (rowc ⟨0,-1,zv,0,0⟩) :: kb b0 42 row0 :: (X.set j (ke p n (D.wr (1+k.b).toNat (homeS k.b k.v)))).set i (ks P (some p) x))):=H5.out.push (below_alloc w5 _) (u:=.ims _ _) (fun _=>own_zero own0) (fun b hb=>(World.ownsRow.lt own0 b hb).1) rfl
  have hc1':1≤c:=by simpa using hc1
  clear c9 hm hc1 own0 H5
  obtain ⟨G9,v9,hp9,-⟩:=H6.out.ats (i:=i+4) (by show ((X.set j (ke p n (D.wr (1+k.b).toNat (homeS k.b k.v)))).set i _)[i]?=_;exact List.getElem?_set_self (by rw[List.length_set];exact HLT.out))
  have z9:=hp9.c9
  have y9:=hp9.frozen 9
  have hx:=Fz.rlefts (X:=kb E 155 (icells k) :: kb b1 42 (rowc ⟨0,-1,zv,0,0⟩) :: kb b0 42 row0 :: (X.set j (ke p n (D.wr (1+k.b).toNat (homeS k.b k.v))))) (i:=i+3) H6.out (by simp only[List.length_cons,List.length_set];have:=HLT.out;omega) ImsWf.nil
  obtain ⟨w7,hw7⟩:∃W,(w5.alloc (.cells #[] 155)).setCell ⟨P,9,none⟩ (.slice (some ⟨w5.heap.size,0,none⟩) 0 0)=W:=⟨_,rfl⟩
  rw[hw7] at hx
  have H7:Hid (Fz w0 w7 (kb E 155 (icells k) :: kb b1 42 (rowc ⟨0,-1,zv,0,0⟩) :: kb b0 42 row0 :: (X.set j (ke p n (D.wr (1+k.b).toNat (homeS k.b k.v)))).set i (ks P (some p) ({ x with left:=[] }:Rc)))):=hx
  obtain ⟨G7,v7,hp7,-⟩:=H7.out.ats (i:=i+3) (by show ((X.set j (ke p n (D.wr (1+k.b).toNat (homeS k.b k.v)))).set i _)[i]?=_;exact List.getElem?_set_self (by rw[List.length_set];exact HLT.out))
  obtain ⟨a7,c7',e7,-⟩:=hp7.lf.ex
  have e7:v7=.slice a7 ([]:List Im).length c7':=e7
  have d9:=hp7.c9
  rw[e7] at d9
  have d6:=hp7.c6
  have y6:=hp7.frozen 6
  clear hp9 hx hp7 e7 H6
  have d9:w7.cell? ⟨P,9,none⟩=some (.slice a7 0 c7'):=d9
  have HEA:Hid (aftS []=3):=rfl
  have hx:=Fz.rputs (X:=kb E 155 (icells k) :: kb b1 42 (rowc ⟨0,-1,zv,0,0⟩) :: kb b0 42 row0 :: (X.set j (ke p n (D.wr (1+k.b).toNat (homeS k.b k.v))))) (i:=i+3) H7.out (by simp only[List.length_cons,List.length_set];have:=HLT.out;omega) 6 (.int .i64 3) (⟨x.c,3,x.en,x.li,[]⟩:Rc) rfl fun _=>rfl
  obtain ⟨w7',hw7'⟩:∃W,w7.setCell ⟨P,6,none⟩ (.int .i64 3)=W:=⟨_,rfl⟩
  rw[hw7'] at hx
  have H7':Hid (Fz w0 w7' (kb E 155 (icells k) :: kb b1 42 (rowc ⟨0,-1,zv,0,0⟩) :: kb b0 42 row0 :: (X.set j (ke p n (D.wr (1+k.b).toNat (homeS k.b k.v)))).set i (ks P (some p) (⟨x.c,3,x.en,x.li,[]⟩:Rc)))):=hx
  clear hx H7
  go_wp2_with fail
  all_goals
   clear hw7 hw7' d9 d6 y6 z9 y9 c9a
   have H8:Hid (Fz w0 w7'.drew (kb E 155 (icells k) :: kb b1 42 (rowc ⟨0,-1,zv,0,0⟩) :: kb b0 42 row0 :: (X.set j (ke p n (D.wr (1+k.b).toNat (homeS k.b k.v)))).set i (ks P (some p) (⟨x.c,3,x.en,x.li,[]⟩:Rc)))):=H7'.out.later (below_drawn 1)
   clear H7'
   refine wp_region_noPanic ?_
   refine wp_region_held_drew (S:=fun W=>LAt 155 W E (icells k)) (by kernel_rfl) (H8.out.atb (i:=0) rfl).1 (fun hHeld=>?_)
   generalize w7'.drew=w8 at *
   refine tk 0 hHeld ?_
   refine tkl 1 hHeld (fun _ s=>img0 s) ?_
   refine tk 2 hHeld ?_
   refine tkm 3 hHeld (fun _ s=>LAt.loadIv s HK32.out) ?_
   refine tk 4 hHeld ?_
   refine tkr 5 fun Kc hKc=>?_
   have z0:w8.cell? ⟨b1,0,none⟩=some (.int .i64 0):=by rw[LAt.cell (H8.out.atb (i:=1) rfl).1 0];rfl
   have z1:w8.frozen? ⟨b1,0,none⟩=false:=frozen_row (H8.out.atb (i:=1) rfl).1
   have HD1:Hid (Fz w0 (w8.setCell ⟨b1,0,none⟩ (.int .i64 15)) (kb E 155 (icells k) :: kb b1 42 (rowc ⟨15,-1,zv,0,0⟩) :: kb b0 42 row0 :: (X.set j (ke p n (D.wr (1+k.b).toNat (homeS k.b k.v)))).set i (ks P (some p) (⟨x.c,3,x.en,x.li,[]⟩:Rc)))):=Fz.cell (i:=1) H8.out rfl 0 (.int .i64 15)
   clear H8
   go_simp
   clear z0 z1
   generalize w8.setCell ⟨b1,0,none⟩ (.int .i64 15)=wx1 at *
   refine hKc.out _ _ ((HD1.out.atb (i:=0) rfl).1) (fun hHeld=>?_)
   clear hKc Kc
   refine tk 6 hHeld ?_
   refine tkr 7 fun Kc hKc=>?_
   have z0:wx1.cell? ⟨b1,4,none⟩=some (.int .i64 (-1)):=by rw[LAt.cell (HD1.out.atb (i:=1) rfl).1 4];rfl
   have z1:wx1.frozen? ⟨b1,4,none⟩=false:=frozen_row (HD1.out.atb (i:=1) rfl).1
   have HD2:Hid (Fz w0 (wx1.setCell ⟨b1,4,none⟩ (.int .i64 k.b)) (kb E 155 (icells k) :: kb b1 42 (rowc ⟨15,k.b,zv,0,0⟩) :: kb b0 42 row0 :: (X.set j (ke p n (D.wr (1+k.b).toNat (homeS k.b k.v)))).set i (ks P (some p) (⟨x.c,3,x.en,x.li,[]⟩:Rc)))):=Fz.cell (i:=1) HD1.out rfl 4 (.int .i64 k.b)
   clear HD1
   go_simp
   clear z0 z1
   generalize wx1.setCell ⟨b1,4,none⟩ (.int .i64 k.b)=wx2 at *
   refine hKc.out _ _ ((HD2.out.atb (i:=0) rfl).1) (fun hHeld=>?_)
   clear hKc Kc
   refine tk 8 hHeld ?_
   refine tkr 9 fun Kc hKc=>?_
   have hla:=(HD2.out.atb (i:=1) rfl).1
   have hle:5+(U8 k.v).length≤(rowc ⟨15,k.b,zv,0,0⟩).length:=by rw[U8_length,HK32.out,rowc_len (zs_len 32)];omega
   have hst:=run_storeAt_mid (P:=prog) wx2 b1 5 39 (U8 k.v).toArray (LAt.thr hla (by rw[List.size_toArray];exact hle)) (by rw[sizeV,List.size_toArray,U8_length,HK32.out]) (u8_ones _)
   have hcs:=Fz.cells (i:=1) (U8 k.v) 5 HD2.out rfl hle
   have e15:(rowc ⟨15,k.b,zv,0,0⟩).take 5++U8 k.v++(rowc ⟨15,k.b,zv,0,0⟩).drop (5+(U8 k.v).length)=rowc ⟨15,k.b,k.v,0,0⟩:=by rw[U8_length,HK32.out];rfl
   rw[e15] at hcs
   have HD3:Hid (Fz w0 (wx2.setCells b1 5 (U8 k.v)) (kb E 155 (icells k) :: kb b1 42 (rowc ⟨15,k.b,k.v,0,0⟩) :: kb b0 42 row0 :: (X.set j (ke p n (D.wr (1+k.b).toNat (homeS k.b k.v)))).set i (ks P (some p) (⟨x.c,3,x.en,x.li,[]⟩:Rc)))):=hcs
   refine step_store_is (by rfl) 39 rfl rfl rfl hst ?_
   simp only[Act.put]
   clear HD2 hcs hst hla hle e15
   generalize wx2.setCells b1 5 (U8 k.v)=wx3 at *
   refine hKc.out _ _ ((HD3.out.atb (i:=0) rfl).1) (fun hHeld=>?_)
   clear hKc Kc
   clear hHeld
   refine wpAnyH_done (by kernel_rfl) (NoPanic.normal ?_) _
   have H9:Hid (Fz w0 wx3 (kb b1 42 (rowc ⟨15,k.b,k.v,0,0⟩) :: kb b0 42 row0 :: (X.set j (ke p n (D.wr (1+k.b).toNat (homeS k.b k.v)))).set i (ks P (some p) (⟨x.c,aftS [],x.en,x.li,[]⟩:Rc)))):=by
    show Fz w0 wx3 (kb b1 42 (rowc ⟨15,k.b,k.v,0,0⟩) :: kb b0 42 row0 :: (X.set j (ke p n (D.wr (1+k.b).toNat (homeS k.b k.v)))).set i (ks P (some p) (⟨x.c,aftS [],x.en,x.li,[]⟩:Rc)))
    rw[HEA.out]
    exact Fz.pop (k:=kb E 155 (icells k)) HD3.out
   clear HD3
   generalize wx3=w9 at *
   have HLD:Hid (_):=loadRow (r:=⟨15,k.b,k.v,0,0⟩) HK32.out (H9.out.atb (i:=0) rfl).1
   obtain ⟨wz,hst,hlz,hfz⟩:=Fz.laid (X:=(X.set j (ke p n (D.wr (1+k.b).toNat (homeS k.b k.v)))).set i (ks P (some p) (⟨x.c,aftS [],x.en,x.li,[]⟩:Rc))) (Fz.pop H9.out) (r:=⟨15,k.b,k.v,0,0⟩) HK32.out
   have HST:Hid (_):=hst
   have HLz:Hid (_):=hlz
   have HFz:Hid (Fz w0 wz ((X.set j (ke p n (D.wr (1+k.b).toNat (homeS k.b k.v)))).set i (ks P (some p) (⟨x.c,aftS [],x.en,x.li,[]⟩:Rc)))):=hfz
   clear hst hlz hfz H9
   go_wp2_with ((with_reducible refine at_ops ?_);(first | (refine wpList_load_is (by rfl) 42 rfl rfl HLD.out ?_) | (refine wpList_store_is (by rfl) 42 rfl rfl rfl HST.out ?_));simp only[Act.put,zA,zB,zC])
   (try simp only[Exit.inBlock,Exit.then])
   exact bodyPost_ret (results_lat results57 _ _ _ 42 _ _ (by rfl) HLz.out underlying42 rfl (by rw[size_row,rowc_len HK32.out])) rfl ⟨rfl,HFz.out⟩
 ·have hrp:0<r.length:=List.length_pos_iff.2 hrn
  obtain ⟨b,o,c,c9,hm,hc1,hc2,hrest⟩:=Fz.rhead (X:=kb E 155 (icells k) :: kb b1 42 (rowc ⟨0,-1,zv,0,0⟩) :: kb b0 42 row0 :: (X.set j (ke p n (D.wr (1+k.b).toNat (homeS k.b k.v)))).set i (ks P (some p) x)) (i:=i+3) H5.out (by show ((X.set j (ke p n (D.wr (1+k.b).toNat (homeS k.b k.v)))).set i _)[i]?=_;exact List.getElem?_set_self (by rw[List.length_set];exact HLT.out)) hl
  have c9a:(w5.alloc (.cells #[] 155)).cell? ⟨P,9,none⟩=some (.slice (some ⟨b,o,none⟩) (r.length+1) c):=by
   obtain ⟨G,v,hp,-⟩:=H5.out.ats (i:=i+3) (by show ((X.set j (ke p n (D.wr (1+k.b).toNat (homeS k.b k.v)))).set i _)[i]?=_;exact List.getElem?_set_self (by rw[List.length_set];exact HLT.out))
   rw[(below_alloc w5 (.cells #[] 155)).cell (p:=⟨P,9,none⟩) hp.lt];exact c9
  have HMR:Hid (MIn w5 (some ⟨b,o+33,none⟩) r.length r):=by
   rcases hrest with e | e
   ·exact absurd e hrn
   ·exact e
  have hcne:¬c=1:=by omega
  have hc1':r.length+1≤c:=hc1
  obtain ⟨qn,cn,w6,hrun,-,h6,hbl6⟩:=Fz.imcopy (a:=(some ⟨b,o+33,none⟩)) (m:=r.length) (c:=(c-1)) (l:=r) H5.out HMR.out (by have:=HRL.out;omega)
  have HRUN:Hid (_):=hrun
  have H6:Hid (Fz w0 w6 (ko (.slice qn r.length cn) r :: kb E 155 (icells k) :: kb b1 42 (rowc ⟨0,-1,zv,0,0⟩) :: kb b0 42 row0 :: (X.set j (ke p n (D.wr (1+k.b).toNat (homeS k.b k.v)))).set i (ks P (some p) x))):=h6
  have hcI:(0:Int)≤r.length:=by omega
  have hq0:((r.length:Int) == 0)=false:=by simp;omega
  have hne0:¬r.length=0:=by omega
  clear c9 hm hc1 hrest hrun h6 hbl6 H5 hrn
  obtain ⟨G9,v9,hp9,-⟩:=H6.out.ats (i:=i+4) (by show ((X.set j (ke p n (D.wr (1+k.b).toNat (homeS k.b k.v)))).set i _)[i]?=_;exact List.getElem?_set_self (by rw[List.length_set];exact HLT.out))
  have z9:=hp9.c9
  have y9:=hp9.frozen 9
  have hx:=Fz.rlefts (X:=kb E 155 (icells k) :: kb b1 42 (rowc ⟨0,-1,zv,0,0⟩) :: kb b0 42 row0 :: (X.set j (ke p n (D.wr (1+k.b).toNat (homeS k.b k.v))))) (i:=i+3) H6.out (by simp only[List.length_cons,List.length_set];have:=HLT.out;omega) HWR.out
  obtain ⟨w7,hw7⟩:∃W,(w6).setCell ⟨P,9,none⟩ (.slice qn r.length cn)=W:=⟨_,rfl⟩
  rw[hw7] at hx
  have H7:Hid (Fz w0 w7 (kb E 155 (icells k) :: kb b1 42 (rowc ⟨0,-1,zv,0,0⟩) :: kb b0 42 row0 :: (X.set j (ke p n (D.wr (1+k.b).toNat (homeS k.b k.v)))).set i (ks P (some p) ({ x with left:=r }:Rc)))):=hx
  obtain ⟨G7,v7,hp7,-⟩:=H7.out.ats (i:=i+3) (by show ((X.set j (ke p n (D.wr (1+k.b).toNat (homeS k.b k.v)))).set i _)[i]?=_;exact List.getElem?_set_self (by rw[List.length_set];exact HLT.out))
  obtain ⟨a7,c7',e7,-⟩:=hp7.lf.ex
  have e7:v7=.slice a7 (r:List Im).length c7':=e7
  have d9:=hp7.c9
  rw[e7] at d9
  have d6:=hp7.c6
  have y6:=hp7.frozen 6
  clear hp9 hx hp7 e7 H6
  have HEA:Hid (aftS r=x.st):=by show _=_;rw[hs];exact if_neg hne0
  have H7':Hid (Fz w0 w7 (kb E 155 (icells k) :: kb b1 42 (rowc ⟨0,-1,zv,0,0⟩) :: kb b0 42 row0 :: (X.set j (ke p n (D.wr (1+k.b).toNat (homeS k.b k.v)))).set i (ks P (some p) (⟨x.c,x.st,x.en,x.li,r⟩:Rc)))):=H7.out
  clear H7
  go_wp2_with ((with_reducible refine at_ops ?_);(refine wpList_append_is (by rfl) rfl rfl rfl rfl HRUN.out ?_);simp only[Act.put,zA,zB,zC])
  clear HRUN hw7 d9 d6 y6 z9 y9 c9a
  have H8:Hid (Fz w0 w7.drew (kb E 155 (icells k) :: kb b1 42 (rowc ⟨0,-1,zv,0,0⟩) :: kb b0 42 row0 :: (X.set j (ke p n (D.wr (1+k.b).toNat (homeS k.b k.v)))).set i (ks P (some p) (⟨x.c,x.st,x.en,x.li,r⟩:Rc)))):=H7'.out.later (below_drawn 1)
  clear H7'
  refine wp_region_noPanic ?_
  refine wp_region_held_drew (S:=fun W=>LAt 155 W E (icells k)) (by kernel_rfl) (H8.out.atb (i:=0) rfl).1 (fun hHeld=>?_)
  generalize w7.drew=w8 at *
  refine tk 0 hHeld ?_
  refine tkl 1 hHeld (fun _ s=>img0 s) ?_
  refine tk 2 hHeld ?_
  refine tkm 3 hHeld (fun _ s=>LAt.loadIv s HK32.out) ?_
  refine tk 4 hHeld ?_
  refine tkr 5 fun Kc hKc=>?_
  have z0:w8.cell? ⟨b1,0,none⟩=some (.int .i64 0):=by rw[LAt.cell (H8.out.atb (i:=1) rfl).1 0];rfl
  have z1:w8.frozen? ⟨b1,0,none⟩=false:=frozen_row (H8.out.atb (i:=1) rfl).1
  have HD1:Hid (Fz w0 (w8.setCell ⟨b1,0,none⟩ (.int .i64 15)) (kb E 155 (icells k) :: kb b1 42 (rowc ⟨15,-1,zv,0,0⟩) :: kb b0 42 row0 :: (X.set j (ke p n (D.wr (1+k.b).toNat (homeS k.b k.v)))).set i (ks P (some p) (⟨x.c,x.st,x.en,x.li,r⟩:Rc)))):=Fz.cell (i:=1) H8.out rfl 0 (.int .i64 15)
  clear H8
  go_simp
  clear z0 z1
  generalize w8.setCell ⟨b1,0,none⟩ (.int .i64 15)=wx1 at *
  refine hKc.out _ _ ((HD1.out.atb (i:=0) rfl).1) (fun hHeld=>?_)
  clear hKc Kc
  refine tk 6 hHeld ?_
  refine tkr 7 fun Kc hKc=>?_
  have z0:wx1.cell? ⟨b1,4,none⟩=some (.int .i64 (-1)):=by rw[LAt.cell (HD1.out.atb (i:=1) rfl).1 4];rfl
  have z1:wx1.frozen? ⟨b1,4,none⟩=false:=frozen_row (HD1.out.atb (i:=1) rfl).1
  have HD2:Hid (Fz w0 (wx1.setCell ⟨b1,4,none⟩ (.int .i64 k.b)) (kb E 155 (icells k) :: kb b1 42 (rowc ⟨15,k.b,zv,0,0⟩) :: kb b0 42 row0 :: (X.set j (ke p n (D.wr (1+k.b).toNat (homeS k.b k.v)))).set i (ks P (some p) (⟨x.c,x.st,x.en,x.li,r⟩:Rc)))):=Fz.cell (i:=1) HD1.out rfl 4 (.int .i64 k.b)
  clear HD1
  go_simp
  clear z0 z1
  generalize wx1.setCell ⟨b1,4,none⟩ (.int .i64 k.b)=wx2 at *
  refine hKc.out _ _ ((HD2.out.atb (i:=0) rfl).1) (fun hHeld=>?_)
  clear hKc Kc
  refine tk 8 hHeld ?_
  refine tkr 9 fun Kc hKc=>?_
  have hla:=(HD2.out.atb (i:=1) rfl).1
  have hle:5+(U8 k.v).length≤(rowc ⟨15,k.b,zv,0,0⟩).length:=by rw[U8_length,HK32.out,rowc_len (zs_len 32)];omega
  have hst:=run_storeAt_mid (P:=prog) wx2 b1 5 39 (U8 k.v).toArray (LAt.thr hla (by rw[List.size_toArray];exact hle)) (by rw[sizeV,List.size_toArray,U8_length,HK32.out]) (u8_ones _)
  have hcs:=Fz.cells (i:=1) (U8 k.v) 5 HD2.out rfl hle
  have e15:(rowc ⟨15,k.b,zv,0,0⟩).take 5++U8 k.v++(rowc ⟨15,k.b,zv,0,0⟩).drop (5+(U8 k.v).length)=rowc ⟨15,k.b,k.v,0,0⟩:=by rw[U8_length,HK32.out];rfl
  rw[e15] at hcs
  have HD3:Hid (Fz w0 (wx2.setCells b1 5 (U8 k.v)) (kb E 155 (icells k) :: kb b1 42 (rowc ⟨15,k.b,k.v,0,0⟩) :: kb b0 42 row0 :: (X.set j (ke p n (D.wr (1+k.b).toNat (homeS k.b k.v)))).set i (ks P (some p) (⟨x.c,x.st,x.en,x.li,r⟩:Rc)))):=hcs
  refine step_store_is (by rfl) 39 rfl rfl rfl hst ?_
  simp only[Act.put]
  clear HD2 hcs hst hla hle e15
  generalize wx2.setCells b1 5 (U8 k.v)=wx3 at *
  refine hKc.out _ _ ((HD3.out.atb (i:=0) rfl).1) (fun hHeld=>?_)
  clear hKc Kc
  clear hHeld
  refine wpAnyH_done (by kernel_rfl) (NoPanic.normal ?_) _
  have H9:Hid (Fz w0 wx3 (kb b1 42 (rowc ⟨15,k.b,k.v,0,0⟩) :: kb b0 42 row0 :: (X.set j (ke p n (D.wr (1+k.b).toNat (homeS k.b k.v)))).set i (ks P (some p) (⟨x.c,aftS r,x.en,x.li,r⟩:Rc)))):=by
   show Fz w0 wx3 (kb b1 42 (rowc ⟨15,k.b,k.v,0,0⟩) :: kb b0 42 row0 :: (X.set j (ke p n (D.wr (1+k.b).toNat (homeS k.b k.v)))).set i (ks P (some p) (⟨x.c,aftS r,x.en,x.li,r⟩:Rc)))
   rw[HEA.out]
   exact Fz.pop (k:=kb E 155 (icells k)) HD3.out
  clear HD3
  generalize wx3=w9 at *
  have HLD:Hid (_):=loadRow (r:=⟨15,k.b,k.v,0,0⟩) HK32.out (H9.out.atb (i:=0) rfl).1
  obtain ⟨wz,hst,hlz,hfz⟩:=Fz.laid (X:=(X.set j (ke p n (D.wr (1+k.b).toNat (homeS k.b k.v)))).set i (ks P (some p) (⟨x.c,aftS r,x.en,x.li,r⟩:Rc))) (Fz.pop H9.out) (r:=⟨15,k.b,k.v,0,0⟩) HK32.out
  have HST:Hid (_):=hst
  have HLz:Hid (_):=hlz
  have HFz:Hid (Fz w0 wz ((X.set j (ke p n (D.wr (1+k.b).toNat (homeS k.b k.v)))).set i (ks P (some p) (⟨x.c,aftS r,x.en,x.li,r⟩:Rc)))):=hfz
  clear hst hlz hfz H9
  go_wp2_with ((with_reducible refine at_ops ?_);(first | (refine wpList_load_is (by rfl) 42 rfl rfl HLD.out ?_) | (refine wpList_store_is (by rfl) 42 rfl rfl rfl HST.out ?_));simp only[Act.put,zA,zB,zC])
  (try simp only[Exit.inBlock,Exit.then])
  exact bodyPost_ret (results_lat results57 _ _ _ 42 _ _ (by rfl) HLz.out underlying42 rfl (by rw[size_row,rowc_len HK32.out])) rfl ⟨rfl,HFz.out⟩
theorem rstep_read_at (h:Fz w0 w X)(hi:X[i]?=some (ks P (some p) x))(hj:X[j]?=some (ke p n D))(_hij:i≠j)(ok:x.Ok n)(hk:D.ws.length≤100000)(hs:x.st=1)(hz:(rdL x.c n D.rd).2=0)(hw:¬wrapS x.c (lgS n x.c D)):Calls prog 57 #[qp P] w fun e w'=>e=.returned (.tuple #[.agg (rowc (stepS n x D).row).toArray,.int .i64 (stepS n x D).err])∧Fz w0 w' ((X.set j (ke p n (stepS n x D).D)).set i (ks P (some p) (stepS n x D).x)):=by
 rw[step_read hs (by unfold rdE;rw[if_pos hz,if_neg hw])]
 have HS:Hid (X.set j (ke p n D)=X):=Fz.set_same hj
 rw[HS.out]
 obtain ⟨w1,hal,hb1,h1⟩:=h.rowbox
 generalize w.heap.size=b0 at h1 hal hb1
 have HAL:Hid (_):=hal
 have hr1:=h1.rv (i:=i+1) hi
 have c6:=hr1.c6
 have c0:=hr1.c0
 rw[hs] at c6
 obtain ⟨wa,wb,hab,hsb,h2⟩:=Fz.keeprow (r:=⟨0,-1,zv,0,0⟩) h1 (zs_len 32)
 obtain ⟨b1,hb1'⟩:∃B,w1.heap.size=B:=⟨_,rfl⟩
 rw[hb1'] at hab hsb h2
 have HAB:Hid (_):=hab
 have HSB:Hid (_):=hsb
 have HBB:Hid (_):=build_rowB w1
 have H2:Hid (Fz w0 wb (kb b1 42 (rowc ⟨0,-1,zv,0,0⟩) :: kb b0 42 row0 :: X)):=h2
 have hr2:=h2.rv (i:=i+2) hi
 have d6:=hr2.c6
 rw[hs] at d6
 clear h hal h1 hr1 hr2 hab hsb h2 hb1 hb1'
 go_enter func57,ntmps57
 go_wp2_with ((with_reducible refine at_ops ?_);(first | (refine wpList_alloc_is (by rfl) 42 rfl HAL.out ?_) | (refine wpList_build_is (vs:=[(4,.int .i64 (-1))]) (by rfl) 42 rfl (by rfl) HBB.out ?_) | (refine wpList_alloc_is (by rfl) 42 rfl HAB.out ?_) | (refine wpList_store_is (by rfl) 42 rfl rfl rfl HSB.out ?_));simp only[Act.put,zA,zB,zC])
 refine (rread_good (i:=i+2) (j:=j+2) H2.out hi hj ok hs hk hz hw).mono ?_
 rintro e w2 ⟨rfl,h2⟩
 clear HAL HAB HSB HBB c6 c0 d6 H2
 obtain ⟨wz,hst,hlz,hfz⟩:=Fz.laid (X:=X.set i (ks P (some p) (readR n x D))) (Fz.pop (k:=kb b1 42 (rowc ⟨0,-1,zv,0,0⟩)) h2) (r:=⟨19,-1,zv,(lgS n x.c D).fin,(lgS n x.c D).txs.length⟩) (zs_len 32)
 have HST:Hid (_):=hst
 have HLz:Hid (_):=hlz
 have HFz:Hid (Fz w0 wz (X.set i (ks P (some p) (readR n x D)))):=hfz
 clear h2 hst hlz hfz
 go_wp2_with ((with_reducible refine at_ops ?_);(refine wpList_store_is (by rfl) 42 rfl rfl rfl HST.out ?_);simp only[Act.put])
 (try simp only[Exit.inBlock,Exit.then])
 exact bodyPost_ret (results_lat results57 _ _ _ 42 _ _ (by rfl) HLz.out underlying42 rfl (by rw[size_row,rowc_len (zs_len 32)])) rfl ⟨rfl,HFz.out⟩
theorem rstep_bad_at (h:Fz w0 w X)(hi:X[i]?=some (ks P (some p) x))(hj:X[j]?=some (ke p n D))(_hij:i≠j)(_ok:x.Ok n)(hk:D.ws.length≤100000)(hs:x.st=1)(hz:(rdL x.c n D.rd).2≠0):Calls prog 57 #[qp P] w fun e w'=>e=.returned (.tuple #[.agg (rowc (stepS n x D).row).toArray,.int .i64 (stepS n x D).err])∧Fz w0 w' ((X.set j (ke p n (stepS n x D).D)).set i (ks P (some p) (stepS n x D).x)):=by
 rw[step_bad hs (by unfold rdE;rw[if_neg hz];exact hz),show rdE n x.c D=(rdL x.c n D.rd).2 from if_neg hz]
 have HS:Hid ((X.set j (ke p n D)).set i (ks P (some p) x)=X):=by show _=_;rw[Fz.set_same hj,Fz.set_same hi]
 rw[HS.out]
 obtain ⟨w1,hal,hb1,h1⟩:=h.rowbox
 generalize w.heap.size=b0 at h1 hal hb1
 have HAL:Hid (_):=hal
 have hr1:=h1.rv (i:=i+1) hi
 have c6:=hr1.c6
 have c0:=hr1.c0
 rw[hs] at c6
 obtain ⟨wa,wb,hab,hsb,h2⟩:=Fz.keeprow (r:=⟨0,-1,zv,0,0⟩) h1 (zs_len 32)
 obtain ⟨b1,hb1'⟩:∃B,w1.heap.size=B:=⟨_,rfl⟩
 rw[hb1'] at hab hsb h2
 have HAB:Hid (_):=hab
 have HSB:Hid (_):=hsb
 have HBB:Hid (_):=build_rowB w1
 have H2:Hid (Fz w0 wb (kb b1 42 (rowc ⟨0,-1,zv,0,0⟩) :: kb b0 42 row0 :: X)):=h2
 have hr2:=h2.rv (i:=i+2) hi
 have d6:=hr2.c6
 rw[hs] at d6
 clear h hal h1 hr1 hr2 hab hsb h2 hb1 hb1'
 go_enter func57,ntmps57
 go_wp2_with ((with_reducible refine at_ops ?_);(first | (refine wpList_alloc_is (by rfl) 42 rfl HAL.out ?_) | (refine wpList_build_is (vs:=[(4,.int .i64 (-1))]) (by rfl) 42 rfl (by rfl) HBB.out ?_) | (refine wpList_alloc_is (by rfl) 42 rfl HAB.out ?_) | (refine wpList_store_is (by rfl) 42 rfl rfl rfl HSB.out ?_));simp only[Act.put,zA,zB,zC])
 refine (rread_bad (i:=i+2) (j:=j+2) H2.out hi hj hk hz).mono ?_
 rintro e w2 ⟨rfl,h2⟩
 clear HAL HAB HSB HBB c6 c0 d6 H2
 obtain ⟨wz,hst,hlz,hfz⟩:=Fz.laid (X:=X) (Fz.pop (k:=kb b1 42 (rowc ⟨0,-1,zv,0,0⟩)) h2) (r:=⟨0,0,zv,0,0⟩) (zs_len 32)
 have HST:Hid (_):=hst
 have HLz:Hid (_):=hlz
 have HFz:Hid (Fz w0 wz (X)):=hfz
 clear h2 hst hlz hfz
 go_wp2_with ((with_reducible refine at_ops ?_);(refine wpList_store_is (by rfl) 42 rfl rfl rfl HST.out ?_);simp only[Act.put])
 (try simp only[Exit.inBlock,Exit.then])
 exact bodyPost_ret (results_lat results57 _ _ _ 42 _ _ (by rfl) HLz.out underlying42 rfl (by rw[size_row,rowc_len (zs_len 32)])) rfl ⟨rfl,HFz.out⟩
theorem rstep_wrap_at (h:Fz w0 w X)(hi:X[i]?=some (ks P (some p) x))(hj:X[j]?=some (ke p n D))(_hij:i≠j)(ok:x.Ok n)(hk:D.ws.length≤100000)(hs:x.st=1)(hz:(rdL x.c n D.rd).2=0)(hw:wrapS x.c (lgS n x.c D)):Calls prog 57 #[qp P] w fun e w'=>e=.returned (.tuple #[.agg (rowc (stepS n x D).row).toArray,.int .i64 (stepS n x D).err])∧Fz w0 w' ((X.set j (ke p n (stepS n x D).D)).set i (ks P (some p) (stepS n x D).x)):=by
 have hE:rdE n x.c D=31:=by unfold rdE;rw[if_pos hz,if_pos hw]
 rw[step_bad hs (by rw[hE];decide),hE]
 have HS:Hid ((X.set j (ke p n D)).set i (ks P (some p) x)=X):=by show _=_;rw[Fz.set_same hj,Fz.set_same hi]
 rw[HS.out]
 obtain ⟨w1,hal,hb1,h1⟩:=h.rowbox
 generalize w.heap.size=b0 at h1 hal hb1
 have HAL:Hid (_):=hal
 have hr1:=h1.rv (i:=i+1) hi
 have c6:=hr1.c6
 have c0:=hr1.c0
 rw[hs] at c6
 obtain ⟨wa,wb,hab,hsb,h2⟩:=Fz.keeprow (r:=⟨0,-1,zv,0,0⟩) h1 (zs_len 32)
 obtain ⟨b1,hb1'⟩:∃B,w1.heap.size=B:=⟨_,rfl⟩
 rw[hb1'] at hab hsb h2
 have HAB:Hid (_):=hab
 have HSB:Hid (_):=hsb
 have HBB:Hid (_):=build_rowB w1
 have H2:Hid (Fz w0 wb (kb b1 42 (rowc ⟨0,-1,zv,0,0⟩) :: kb b0 42 row0 :: X)):=h2
 have hr2:=h2.rv (i:=i+2) hi
 have d6:=hr2.c6
 rw[hs] at d6
 clear h hal h1 hr1 hr2 hab hsb h2 hb1 hb1'
 go_enter func57,ntmps57
 go_wp2_with ((with_reducible refine at_ops ?_);(first | (refine wpList_alloc_is (by rfl) 42 rfl HAL.out ?_) | (refine wpList_build_is (vs:=[(4,.int .i64 (-1))]) (by rfl) 42 rfl (by rfl) HBB.out ?_) | (refine wpList_alloc_is (by rfl) 42 rfl HAB.out ?_) | (refine wpList_store_is (by rfl) 42 rfl rfl rfl HSB.out ?_));simp only[Act.put,zA,zB,zC])
 refine (rread_wrap (i:=i+2) (j:=j+2) H2.out hi hj ok hk hz hw).mono ?_
 rintro e w2 ⟨rfl,h2⟩
 clear HAL HAB HSB HBB c6 c0 d6 H2
 obtain ⟨wz,hst,hlz,hfz⟩:=Fz.laid (X:=X) (Fz.pop (k:=kb b1 42 (rowc ⟨0,-1,zv,0,0⟩)) h2) (r:=⟨0,0,zv,0,0⟩) (zs_len 32)
 have HST:Hid (_):=hst
 have HLz:Hid (_):=hlz
 have HFz:Hid (Fz w0 wz (X)):=hfz
 clear h2 hst hlz hfz
 go_wp2_with ((with_reducible refine at_ops ?_);(refine wpList_store_is (by rfl) 42 rfl rfl rfl HST.out ?_);simp only[Act.put])
 (try simp only[Exit.inBlock,Exit.then])
 exact bodyPost_ret (results_lat results57 _ _ _ 42 _ _ (by rfl) HLz.out underlying42 rfl (by rw[size_row,rowc_len (zs_len 32)])) rfl ⟨rfl,HFz.out⟩
theorem rstep_idle (h:Fz w0 w X)(hi:X[i]?=some (ks P q x))(hs:x.st=6):Calls prog 57 #[qp P] w fun e w'=>e=.returned (.tuple #[.agg row0.toArray,.int .i64 190])∧Fz w0 w' X:=by
 obtain ⟨w1,hal,hb1,h1⟩:=h.rowbox
 generalize w.heap.size=b0 at h1 hal hb1
 have HAL:Hid (_):=hal
 have hr1:=h1.rv (i:=i+1) hi
 have c6:=hr1.c6
 rw[hs] at c6
 have HBD:Hid (_):=build_row0 w1
 obtain ⟨wz,hst,hlz,hfz⟩:=Fz.laid (X:=X) h1 (r:=⟨0,0,zv,0,0⟩) (zs_len 32)
 have HST:Hid (_):=hst
 have HLz:Hid (_):=hlz
 have HFz:Hid (Fz w0 wz X):=hfz
 clear h1 hr1 hal h hb1 hst hlz hfz
 go_enter func57,ntmps57
 go_wp2_with ((with_reducible refine at_ops ?_);(first | (refine wpList_alloc_is (by rfl) 42 rfl HAL.out ?_) | (refine wpList_build_is (vs:=[]) (by rfl) 42 rfl (by rfl) HBD.out ?_) | (refine wpList_store_is (by rfl) 42 rfl rfl rfl HST.out ?_));simp only[Act.put,zA,zB,zC])
 (try simp only[Exit.inBlock,Exit.then])
 exact bodyPost_ret (results_lat results57 _ _ _ 42 _ _ (by rfl) HLz.out underlying42 rfl (by rw[size_row,rowc_len (zs_len 32)])) rfl ⟨rfl,HFz.out⟩
theorem rstep_no (h:Fz w0 w X)(hi:X[i]?=some (ks P none x))(hs:x.st≠6):Calls prog 57 #[qp P] w fun e w'=>e=.returned (.tuple #[.agg row0.toArray,.int .i64 1])∧Fz w0 w' X:=by
 have hq:(x.st == 6)=false:=by simp[hs]
 obtain ⟨w1,hal,hb1,h1⟩:=h.rowbox
 generalize w.heap.size=b0 at h1 hal hb1
 have HAL:Hid (_):=hal
 have hr1:=h1.rv (i:=i+1) hi
 have c6:=hr1.c6
 have c0:=hr1.n0
 have HBD:Hid (_):=build_row0 w1
 obtain ⟨wz,hst,hlz,hfz⟩:=Fz.laid (X:=X) h1 (r:=⟨0,0,zv,0,0⟩) (zs_len 32)
 have HST:Hid (_):=hst
 have HLz:Hid (_):=hlz
 have HFz:Hid (Fz w0 wz X):=hfz
 clear h1 hr1 hal h hb1 hst hlz hfz
 go_enter func57,ntmps57
 go_wp2_with ((with_reducible refine at_ops ?_);(first | (refine wpList_alloc_is (by rfl) 42 rfl HAL.out ?_) | (refine wpList_build_is (vs:=[]) (by rfl) 42 rfl (by rfl) HBD.out ?_) | (refine wpList_store_is (by rfl) 42 rfl rfl rfl HST.out ?_));simp only[Act.put,zA,zB,zC])
 (try simp only[Exit.inBlock,Exit.then])
 exact bodyPost_ret (results_lat results57 _ _ _ 42 _ _ (by rfl) HLz.out underlying42 rfl (by rw[size_row,rowc_len (zs_len 32)])) rfl ⟨rfl,HFz.out⟩
theorem rstep_at (h:Fz w0 w X)(hi:X[i]?=some (ks P (some p) x))(hj:X[j]?=some (ke p n D))(hij:i≠j)(ok:x.Ok n)(hk:D.ws.length≤100000):Calls prog 57 #[qp P] w fun e w'=>e=.returned (.tuple #[.agg (rowc (stepS n x D).row).toArray,.int .i64 (stepS n x D).err])∧Fz w0 w' ((X.set j (ke p n (stepS n x D).D)).set i (ks P (some p) (stepS n x D).x)):=by
 have s0:=ok.s0;have s1:=ok.s1
 rcases (by omega:x.st=1∨x.st=2∨x.st=3∨x.st=4∨x.st=5∨x.st=6) with e | e | e | e | e | e
 ·by_cases hz:(rdL x.c n D.rd).2=0
  ·by_cases hw:wrapS x.c (lgS n x.c D)
   ·exact rstep_wrap_at h hi hj hij ok hk e hz hw
   ·exact rstep_read_at h hi hj hij ok hk e hz hw
  ·exact rstep_bad_at h hi hj hij ok hk e hz
 ·obtain ⟨k,r,hl⟩:∃k r,x.left=k :: r:=by
   cases c:x.left with
   | nil=>exact absurd c (ok.car e)
   | cons k r=>exact⟨k,r,rfl⟩
  exact rstep_carry_at h hi hj hij ok hk e hl
 ·exact rstep_flush_at h hi hj hij ok hk e
 ·exact rstep_mark_at h hi hj hij ok hk e
 ·exact rstep_end_at h hi hj hij ok hk e
 ·rw[step_over e,Fz.set_same hj,Fz.set_same hi]
  exact rstep_idle h hi e
theorem rstep_none (h:Fz w0 w X)(hi:X[i]?=some (ks P none x)):Calls prog 57 #[qp P] w fun e w'=>e=.returned (.tuple #[.agg row0.toArray,.int .i64 (if x.st=6 then 190 else 1)])∧Fz w0 w' X:=by
 by_cases h6:x.st=6
 ·rw[if_pos h6];exact rstep_idle h hi h6
 ·rw[if_neg h6];exact rstep_no h hi h6
end
structure OpV where
 kd:Int
 wh:Int
 bk:Int
 ka:Option Addr
 kn:Nat
 kc:Nat
 K:List Int
 da:Option Addr
 dn:Nat
 dc:Nat
 bs:List Int
def ocells (v:OpV):List Value:=[.int .i64 v.kd,.int .i64 v.wh,.int .i64 v.bk,.slice v.ka v.kn v.kc,.slice v.da v.dn v.dc]
structure OpIn (w:World) (v:OpV):Prop where
 kin:JIn w v.ka v.kn v.K
 kl:v.kn≤140737488355328
 din:BIn w v.da v.dn v.bs
 dno:v.da=none→v.dn=0∧v.dc=0
 dl:v.dn+64≤140737488355328
section
variable {w:World} {B:Nat} {v:OpV}
theorem oc0 (h:LAt 87 w B (ocells v)):w.cell? ⟨B,0,none⟩=some (.int .i64 v.kd):=by rw[LAt.cell h 0];rfl
theorem oc1 (h:LAt 87 w B (ocells v)):w.cell? ⟨B,1,none⟩=some (.int .i64 v.wh):=by rw[LAt.cell h 1];rfl
theorem oc2 (h:LAt 87 w B (ocells v)):w.cell? ⟨B,2,none⟩=some (.int .i64 v.bk):=by rw[LAt.cell h 2];rfl
theorem oc3 (h:LAt 87 w B (ocells v)):w.cell? ⟨B,3,none⟩=some (.slice v.ka v.kn v.kc):=by rw[LAt.cell h 3];rfl
theorem oc4 (h:LAt 87 w B (ocells v)):w.cell? ⟨B,4,none⟩=some (.slice v.da v.dn v.dc):=by rw[LAt.cell h 4];rfl
end
def Pl (w0 w:World)(W k n:Nat)(c:Sup)(o:Ot)(b:Nat)(Y:List Kd):Prop:=∃a vg vw us ux fs,Fz w0 w (XP W k n a o vg vw us ux fs Y)∧a.x.Ok n∧a.x.c=c∧a.D.ws.length≤b∧us.length≤2*b
theorem step_val {n:Nat}{x:Rc}{D:Dd}(ok:x.Ok n):(stepS n x D).row.val.length=32:=by
 have s0:=ok.s0;have s1:=ok.s1
 rcases (by omega:x.st=1∨x.st=2∨x.st=3∨x.st=4∨x.st=5∨x.st=6) with e | e | e | e | e | e
 ·by_cases hz:rdE n x.c D=0
  ·rw[step_read e hz];exact zs_len 32
  ·rw[step_bad e hz];exact zs_len 32
 ·obtain ⟨k,r,hl⟩:∃k r,x.left=k :: r:=by
   cases c:x.left with
   | nil=>exact absurd c (ok.car e)
   | cons k r=>exact⟨k,r,rfl⟩
  rw[step_carry e hl];exact (ok.wf k (by rw[hl];exact List.mem_cons.2 (.inl rfl))).len
 ·rw[step_flush e];exact zs_len 32
 ·rw[step_mark e];exact zs_len 32
 ·rw[step_end e];exact zs_len 32
 ·rw[step_over e];exact zs_len 32
theorem step_c (n:Int)(x:Rc)(D:Dd):(stepS n x D).x.c=x.c:=by
 unfold stepS
 split
 ·split <;> rfl
 ·split
  ·split <;> rfl
  ·split
   ·rfl
   ·split
    ·rfl
    ·split <;> rfl
section
variable {w0 w:World} {W k n b:Nat} {c:Sup} {o:Ot} {Y:List Kd}
theorem plays_none (_ht:Tab w0)(h:Pl w0 w W k n c o b Y)(hk:k<2)(hb:b≤200){v:OpV}(hv:v.wh % 2=(k:Int))(hn:v.kd≠1∧v.kd≠2∧v.kd≠3∧v.kd≠4∧v.kd≠5∧v.kd≠6):Calls prog 25 #[qp W,.agg (ocells v).toArray] w fun e w'=>e=.returned (.bool true)∧Pl w0 w' W k n c o (b+1) Y:=by
 obtain ⟨a,vg,vw,us,ux,fs,h0,hok,hcc,hws,hus⟩:=h
 have OK:Hid (a.x.Ok n):=hok
 have HCC:Hid (a.x.c=c):=hcc
 have HWS:Hid (a.D.ws.length≤b):=hws
 have HUS:Hid (us.length≤2*b):=hus
 have h1:=h0.newa (ocells v) 87
 obtain ⟨B,hB⟩:∃B,w.heap.size=B:=⟨_,rfl⟩
 rw[hB] at h1
 obtain ⟨w1,hw1⟩:∃Z,w.alloc (.cells (ocells v).toArray 87)=Z:=⟨_,rfl⟩
 rw[hw1] at h1
 have H1:Hid (Fz w0 w1 (kb B 87 (ocells v) :: XP W k n a o vg vw us ux fs Y)):=h1
 have o0:=oc0 (h1.atb (i:=0) rfl).1
 have o1:=oc1 (h1.atb (i:=0) rfl).1
 have t1:-2<v.wh.tmod 2∧v.wh.tmod 2<2:=⟨Int.lt_tmod_of_pos _ (by omega),Int.tmod_lt_of_pos _ (by omega)⟩
 have t2:(v.wh.tmod 2+2).tmod 2=(k:Int):=by rw[tmod_fix _ _ (by omega)];exact hv
 have t3:IntKind.i64.wrap (v.wh.tmod 2)=v.wh.tmod 2:=by rw[IntKind.wrap_i64];omega
 have t4:IntKind.i64.wrap (v.wh.tmod 2+2)=v.wh.tmod 2+2:=by rw[IntKind.wrap_i64];omega
 have t5:IntKind.i64.wrap (k:Int)=(k:Int):=by rw[IntKind.wrap_i64];omega
 have k0:(0:Int)≤(k:Int):=by omega
 have k1:(k:Int)<2:=by omega
 clear h0 hok hcc hws hus h1
 obtain ⟨n1,n2,n3,n4,n5,n6⟩:=hn
 have q1:(v.kd == 1)=false:=by simp[n1]
 have q2:(v.kd == 2)=false:=by simp[n2]
 have q3:(v.kd == 3)=false:=by simp[n3]
 have q4:(v.kd == 4)=false:=by simp[n4]
 have q5:(v.kd == 5)=false:=by simp[n5]
 have q6:(v.kd == 6)=false:=by simp[n6]
 have H2:Hid (Fz w0 w1 (XP W k n a o vg vw us ux fs Y)):=H1.out.pop
 clear H1 n1 n2 n3 n4 n5 n6
 go_enter func25,ntmps25
 go_wp2_with fail
 refine (tells_at H2.out OK.out hk (Nat.le_trans (by have:=HWS.out;omega) (show b+1≤100000 by omega)) (by have:=HUS.out;omega)).mono ?_
 rintro e w8 ⟨rfl,vg9,vw9,us9,ux9,fs9,hl9,h9⟩
 have HZ:Hid (Pl w0 w8 W k n c o (b+1) Y):=⟨_,_,_,_,_,_,h9,OK.out,HCC.out,(by have:=HWS.out;omega),by have:=HUS.out;omega⟩
 clear h9
 go_wp2
 go_ret
 exact⟨rfl,HZ.out⟩
theorem plays_step (ht:Tab w0)(h:Pl w0 w W k n c o b Y)(hk:k<2)(hb:b≤200){v:OpV}(hv:v.wh % 2=(k:Int))(hd:v.kd=1):Calls prog 25 #[qp W,.agg (ocells v).toArray] w fun e w'=>e=.returned (.bool true)∧Pl w0 w' W k n c o (b+1) Y:=by
 obtain ⟨a,vg,vw,us,ux,fs,h0,hok,hcc,hws,hus⟩:=h
 have OK:Hid (a.x.Ok n):=hok
 have HCC:Hid (a.x.c=c):=hcc
 have HWS:Hid (a.D.ws.length≤b):=hws
 have HUS:Hid (us.length≤2*b):=hus
 have h1:=h0.newa (ocells v) 87
 obtain ⟨B,hB⟩:∃B,w.heap.size=B:=⟨_,rfl⟩
 rw[hB] at h1
 obtain ⟨w1,hw1⟩:∃Z,w.alloc (.cells (ocells v).toArray 87)=Z:=⟨_,rfl⟩
 rw[hw1] at h1
 have H1:Hid (Fz w0 w1 (kb B 87 (ocells v) :: XP W k n a o vg vw us ux fs Y)):=h1
 have o0:=oc0 (h1.atb (i:=0) rfl).1
 have o1:=oc1 (h1.atb (i:=0) rfl).1
 have t1:-2<v.wh.tmod 2∧v.wh.tmod 2<2:=⟨Int.lt_tmod_of_pos _ (by omega),Int.tmod_lt_of_pos _ (by omega)⟩
 have t2:(v.wh.tmod 2+2).tmod 2=(k:Int):=by rw[tmod_fix _ _ (by omega)];exact hv
 have t3:IntKind.i64.wrap (v.wh.tmod 2)=v.wh.tmod 2:=by rw[IntKind.wrap_i64];omega
 have t4:IntKind.i64.wrap (v.wh.tmod 2+2)=v.wh.tmod 2+2:=by rw[IntKind.wrap_i64];omega
 have t5:IntKind.i64.wrap (k:Int)=(k:Int):=by rw[IntKind.wrap_i64];omega
 have k0:(0:Int)≤(k:Int):=by omega
 have k1:(k:Int)<2:=by omega
 clear h0 hok hcc hws hus h1
 rw[hd] at o0
 have c_r:=wc_r (H1.out.atb (i:=1) rfl).1 hk
 go_enter func25,ntmps25
 go_wp2_with fail
 clear c_r hw1
 refine (step_at (i:=2) (j:=3) ht H1.out rfl rfl (by decide) OK.out (by have:=HWS.out;omega)).mono ?_
 rintro e w2 ⟨rfl,h2⟩
 obtain ⟨r,hr⟩:∃r,stepS n a.x a.D=r:=⟨_,rfl⟩
 have hrv:=step_val (D:=a.D) OK.out
 have hro:=step_ok OK.out (H1.out.dok (j:=3) rfl)
 have hrc:=step_c n a.x a.D
 have hrw:=step_ws n a.x a.D
 rw[hr] at h2 hrv hro hrc hrw ⊢
 have HRV:Hid (r.row.val.length=32):=hrv
 obtain ⟨wa,wb,hab,hsb,h3⟩:=Fz.keeprow (r:=r.row) h2 HRV.out
 obtain ⟨b6,hb6⟩:∃B,w2.heap.size=B:=⟨_,rfl⟩
 rw[hb6] at hab hsb h3
 have HA6:Hid (_):=hab
 have HS6:Hid (_):=hsb
 have H3:Hid (Fz w0 wb (kb b6 42 (rowc r.row) :: kb B 87 (ocells v) :: kb W 84 (wcl k a o vg vw) :: kr a.P (some a.d) r.x :: kd a.d n r.D :: ks a.Q (some a.e) a.x :: ke a.e n a.D :: kl vg us fs :: kl vw ux fs :: Y)):=h3
 have c_x:=wc_x (H3.out.atb (i:=2) rfl).1 hk
 clear hab hsb h3 h2 hb6 H1 hrv
 go_wp2_with ((with_reducible refine at_ops ?_);(first | (refine wpList_alloc_is (by rfl) 42 rfl HA6.out ?_) | (refine wpList_store_is (by rfl) 42 rfl rfl rfl HS6.out ?_));simp only[Act.put,zA,zB,zC])
 clear c_x HA6 HS6
 refine (rstep_at (i:=5) (j:=6) H3.out rfl rfl (by decide) OK.out (by have:=HWS.out;omega)).mono ?_
 rintro e w4 ⟨rfl,h4⟩
 rw[hr] at h4 ⊢
 obtain ⟨wc,wd,hab,hsb,h5⟩:=Fz.keeprow (r:=r.row) h4 HRV.out
 obtain ⟨b8,hb8⟩:∃B,w4.heap.size=B:=⟨_,rfl⟩
 rw[hb8] at hab hsb h5
 have HA8:Hid (_):=hab
 have HS8:Hid (_):=hsb
 have H5:Hid (Fz w0 wd (kb b8 42 (rowc r.row) :: kb b6 42 (rowc r.row) :: kb B 87 (ocells v) :: XP W k n ⟨a.P,a.d,a.Q,a.e,r.x,r.D⟩ o vg vw us ux fs Y)):=h5
 have HL8:Hid (_):=loadRow HRV.out (H5.out.atb (i:=0) rfl).1
 have HL6:Hid (_):=loadRow HRV.out (H5.out.atb (i:=1) rfl).1
 have HRX:Hid (r.x.Ok n∧r.x.c=a.x.c∧r.D.ws.length≤a.D.ws.length+1):=⟨hro.1,hrc,hrw⟩
 clear hab hsb h5 h4 hb8 H3 hro hrc hrw hr
 go_wp2_with ((with_reducible refine at_ops ?_);(first | (refine wpList_alloc_is (by rfl) 42 rfl HA8.out ?_) | (refine wpList_store_is (by rfl) 42 rfl rfl rfl HS8.out ?_) | (refine wpList_load_is (by rfl) 42 rfl rfl HL6.out ?_) | (refine wpList_load_is (by rfl) 42 rfl rfl HL8.out ?_));simp only[Act.put,zA,zB,zC])
 clear HA8 HS8 HL6 HL8
 refine (sameRow_eq r.row HRV.out wd).mono ?_
 rintro e w6 ⟨rfl,hb6⟩
 have H6:Hid (Fz w0 w6 (XP W k n ⟨a.P,a.d,a.Q,a.e,r.x,r.D⟩ o vg vw us ux fs Y)):=(H5.out.later hb6).pop.pop.pop
 clear hb6 H5
 go_wp2_with fail
 refine (tells_at H6.out HRX.out.1 hk (Nat.le_trans (by have:=HRX.out.2.2;have:=HWS.out;show r.D.ws.length≤b+1;omega) (show b+1≤100000 by omega)) (by have:=HUS.out;omega)).mono ?_
 rintro e w8 ⟨rfl,vg9,vw9,us9,ux9,fs9,hl9,h9⟩
 have HZ:Hid (Pl w0 w8 W k n c o (b+1) Y):=⟨_,_,_,_,_,_,h9,HRX.out.1,(HRX.out.2.1.trans HCC.out),(by have:=HRX.out.2.2;have:=HWS.out;show r.D.ws.length≤b+1;omega),by have:=HUS.out;omega⟩
 clear h9
 go_wp2
 go_ret
 exact⟨rfl,HZ.out⟩
end
end Go.Proofs.YtdadpepfpiimgaaGreatDoor.Q
