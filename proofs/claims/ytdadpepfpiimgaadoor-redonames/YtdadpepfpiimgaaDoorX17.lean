import Derived.Test.YtdadpepfpiimgaaDoorX15
import Derived.Test.YtdadpepfpiimgaaDoorX16
set_option maxHeartbeats 20000000
set_option maxRecDepth 100000
namespace Go.Proofs.YtdadpepfpiimgaaDoor.Q
open Go.RowKit
section
variable {w0 w : World} {X : List Kd} {i j P p n : Nat} {q : Option Nat} {D : Dd} {x : Rc}
theorem lgS_bd (hD : D.Ok n) (h : (rdL x.c n D.rd).2 = 0) : (lgS n x.c D).fin ≤ 4611686018427387904 + 64 ∧ (lgS n x.c D).life ≤ 4611686018427387904 := by
  have h1 := rdL_two h
  have k := scanS_ok hD.bytes h1
  obtain ⟨m, -, e0, -, es⟩ := supOf_zero h1
  have hm := (decS_good _ e0).1
  have hlc := m.2.1
  rw [es] at k
  have f1 : _ ≤ (decS (D.rd 0)).1.tail + _ := k.f1
  have ht := hm.2.1
  have hl := hm.2.2.2
  unfold lgS
  rw [rdL_ok h1, es]
  refine ⟨?_, hl⟩
  show (scRun _ _ _ _ _).fin ≤ _
  omega
theorem Fz.cell {B : Nat} {ty : TypeId} {cs : List Value} (h : Fz w0 w X) (hi : X[i]? = some (kb B ty cs)) (m : Nat) (v : Value) : Fz w0 (w.setCell ⟨B, m, none⟩ v) (X.set i (kb B ty (cs.set m v))) := by
  obtain ⟨ha, _, _, hl⟩ := h.atb hi
  have e := setCell_eq_setRow w B m _ ty (0, 0) v ha
  rw [e]
  have := hl (cs.set m v)
  rwa [show (cs.set m v).toArray = cs.toArray.setIfInBounds m v by simp] at this
set_option maxHeartbeats 2000000 in
set_option maxRecDepth 100000 in
theorem read_bad (ht : Tab w0) (h : Fz w0 w X) (hi : X[i]? = some (kr P (some p) x)) (hj : X[j]? = some (kd p n D)) (he : (rdL x.c n D.rd).2 ≠ 0) : Calls Tryd.prog 24 #[qp P] w fun e w' => e = .returned (.tuple #[.agg row0.toArray, .int .i64 (rdL x.c n D.rd).2]) ∧ Fz w0 w' X := by
  obtain ⟨w1, hal, hb1, h1⟩ := h.rowbox
  generalize w.heap.size = b0 at h1 hal hb1
  have HAL : Hid (_) := hal
  have H2 : Hid (Fz w0 w1.drew (kb b0 38 row0 :: X)) := h1.later (below_drawn 1)
  have hq : ((rdL x.c n D.rd).2 != 0) = true := by simp [he]
  clear h hal h1 hb1
  go_enter Tryd.func24, Tryd.ntmps24
  go_wp2_with ((with_reducible refine at_ops ?_); (refine wpList_alloc_is (by rfl) 38 rfl HAL.out ?_); simp only [Act.put, List.setIfInBounds_toArray, List.set_cons_zero, List.set_cons_succ])
  refine wp_region_noPanic ?_
  refine wp_region_held_drew (S := fun W => Pv P (some p) x W) (by kernel_rfl) (H2.out.pv (i := i + 1) hi) (fun hHeld => ?_)
  generalize w1.drew = w2 at *
  refine tk 0 hHeld ?_
  refine tk 1 hHeld ?_
  refine tk 2 hHeld ?_
  refine tkl 3 hHeld (fun _ s => s.c0) ?_
  refine tk 4 hHeld ?_
  refine tk 5 hHeld ?_
  refine tk 6 hHeld ?_
  refine tkm 7 hHeld (fun _ s => s.loadC) ?_
  refine wpAnyH_ready (rs := [8, 12]) (by kernel_rfl) (by simp) ?_
  refine AllReadyH.cons (by simp; rfl) (fun Kc hKc => ?_) (AllReadyH.cons (by simp; rfl) (fun Kc hKc => ?_) AllReadyH.nil)
  · go_simp
    refine (p_read ht H2.out (j := j + 1) hj x.c).mono ?_
    rintro e wx1 ⟨qa, qc, rfl, hd⟩
    have HD1 : Hid (Fz w0 wx1 (kx (.slice qa (lgS n x.c D).txs.length qc) (lgS n x.c D).txs :: kb b0 38 row0 :: X)) := hd
    clear hd H2
    go_simp
    refine hKc.out _ _ (HD1.out.pv (i := i + 2) hi) (fun hHeld => ?_)
    clear hKc Kc
    refine tk 9 hHeld ?_
    refine tk 10 hHeld ?_
    refine tk 11 hHeld ?_
    refine tkr 12 fun Kc hKc => ?_
    obtain ⟨RN, hRN⟩ : ∃ B, wx1.heap.size = B := ⟨_, rfl⟩
    have hdv := HD1.out.newa (gcells 0 0 0 (.slice none 0 0)) 89
    have hal := allocLg wx1
    rw [hRN] at hdv hal
    refine step_alloc_is (by rfl) 89 rfl hal ?_
    simp only [Act.put, List.setIfInBounds_toArray, List.set_cons_zero, List.set_cons_succ]
    have HD2 : Hid (Fz w0 (wx1.alloc (.cells (gcells 0 0 0 (.slice none 0 0)).toArray 89)) (kb RN 89 (gcells 0 0 0 (.slice none 0 0)) :: kx (.slice qa (lgS n x.c D).txs.length qc) (lgS n x.c D).txs :: kb b0 38 row0 :: X)) := hdv
    clear hdv hal hRN HD1
    generalize wx1.alloc (.cells (gcells 0 0 0 (.slice none 0 0)).toArray 89) = wx2 at *
    refine hKc.out _ _ (HD2.out.pv (i := i + 3) hi) (fun hHeld => ?_)
    clear hKc Kc
    refine tkr 13 fun Kc hKc => ?_
    obtain ⟨hla, -, -, hlb⟩ := HD2.out.atb (i := 0) rfl
    have hst := LAt.store hla (ds := (gcells (lgS n x.c D).tail (lgS n x.c D).life (lgS n x.c D).fin (.slice qa (lgS n x.c D).txs.length qc))) (by rw [sizeLg]; rfl) rfl (by simp [gcells, Value.oneCell'])
    have hds := hlb (gcells (lgS n x.c D).tail (lgS n x.c D).life (lgS n x.c D).fin (.slice qa (lgS n x.c D).txs.length qc))
    refine step_store_is (by rfl) 89 rfl rfl rfl hst ?_
    simp only [Act.put]
    have HD3 : Hid (Fz w0 (wx2.setRow RN (gcells (lgS n x.c D).tail (lgS n x.c D).life (lgS n x.c D).fin (.slice qa (lgS n x.c D).txs.length qc)).toArray) (kb RN 89 (gcells (lgS n x.c D).tail (lgS n x.c D).life (lgS n x.c D).fin (.slice qa (lgS n x.c D).txs.length qc)) :: kx (.slice qa (lgS n x.c D).txs.length qc) (lgS n x.c D).txs :: kb b0 38 row0 :: X)) := hds
    clear hds hst hla hlb HD2
    generalize wx2.setRow RN (gcells (lgS n x.c D).tail (lgS n x.c D).life (lgS n x.c D).fin (.slice qa (lgS n x.c D).txs.length qc)).toArray = wx3 at *
    refine hKc.out _ _ (HD3.out.pv (i := i + 3) hi) (fun hHeld => ?_)
    clear hKc Kc
    refine tk 14 hHeld ?_
    clear hHeld
    refine wpAnyH_done (by kernel_rfl) (NoPanic.normal ?_) _
    have HZ := HD3.out
    have H9 : Hid (Fz w0 wx3 (kb RN 89 (gcells (lgS n x.c D).tail (lgS n x.c D).life (lgS n x.c D).fin (.slice qa (lgS n x.c D).txs.length qc)) :: kx (.slice qa (lgS n x.c D).txs.length qc) (lgS n x.c D).txs :: kb b0 38 row0 :: X)) := HZ
    clear HZ HD3
    generalize wx3 = w9 at *
    have HBD : Hid (_) := build_row0 w9
    obtain ⟨wz, hst, hlz, hfz⟩ := (Fz.pop (Fz.pop H9.out)).laid (r := ⟨0, 0, zv, 0, 0⟩) (zs_len 32)
    have HST : Hid (_) := hst
    have HLz : Hid (_) := hlz
    have HFz : Hid (_) := hfz
    clear hst hlz hfz H9
    go_wp2_with ((with_reducible refine at_ops ?_); (first | (refine wpList_build_is (vs := []) (by rfl) 38 rfl (by rfl) HBD.out ?_) | (refine wpList_store_is (by rfl) 38 rfl rfl rfl HST.out ?_)); simp only [Act.put, List.setIfInBounds_toArray, List.set_cons_zero, List.set_cons_succ])
    (try simp only [Exit.inBlock, Exit.then])
    exact bodyPost_ret (results_lat Tryd.results24 _ _ _ 38 _ _ (by rfl) HLz.out Tryd.underlying38 rfl (by rw [size_row, rowc_len (zs_len 32)])) rfl ⟨rfl, HFz.out⟩
  · obtain ⟨RN, hRN⟩ : ∃ B, w2.heap.size = B := ⟨_, rfl⟩
    have hdv := H2.out.newa (gcells 0 0 0 (.slice none 0 0)) 89
    have hal := allocLg w2
    rw [hRN] at hdv hal
    refine step_alloc_is (by rfl) 89 rfl hal ?_
    simp only [Act.put, List.setIfInBounds_toArray, List.set_cons_zero, List.set_cons_succ]
    have HD1 : Hid (Fz w0 (w2.alloc (.cells (gcells 0 0 0 (.slice none 0 0)).toArray 89)) (kb RN 89 (gcells 0 0 0 (.slice none 0 0)) :: kb b0 38 row0 :: X)) := hdv
    clear hdv hal hRN H2
    generalize w2.alloc (.cells (gcells 0 0 0 (.slice none 0 0)).toArray 89) = wx1 at *
    refine hKc.out _ _ (HD1.out.pv (i := i + 2) hi) (fun hHeld => ?_)
    clear hKc Kc
    refine tkr 8 fun Kc hKc => ?_
    go_simp
    refine (p_read ht HD1.out (j := j + 2) hj x.c).mono ?_
    rintro e wx2 ⟨qa, qc, rfl, hd⟩
    have HD2 : Hid (Fz w0 wx2 (kx (.slice qa (lgS n x.c D).txs.length qc) (lgS n x.c D).txs :: kb RN 89 (gcells 0 0 0 (.slice none 0 0)) :: kb b0 38 row0 :: X)) := hd
    clear hd HD1
    go_simp
    refine hKc.out _ _ (HD2.out.pv (i := i + 3) hi) (fun hHeld => ?_)
    clear hKc Kc
    refine tk 9 hHeld ?_
    refine tk 10 hHeld ?_
    refine tk 11 hHeld ?_
    refine tkr 13 fun Kc hKc => ?_
    obtain ⟨hla, -, -, hlb⟩ := HD2.out.atb (i := 1) rfl
    have hst := LAt.store hla (ds := (gcells (lgS n x.c D).tail (lgS n x.c D).life (lgS n x.c D).fin (.slice qa (lgS n x.c D).txs.length qc))) (by rw [sizeLg]; rfl) rfl (by simp [gcells, Value.oneCell'])
    have hds := hlb (gcells (lgS n x.c D).tail (lgS n x.c D).life (lgS n x.c D).fin (.slice qa (lgS n x.c D).txs.length qc))
    refine step_store_is (by rfl) 89 rfl rfl rfl hst ?_
    simp only [Act.put]
    have HD3 : Hid (Fz w0 (wx2.setRow RN (gcells (lgS n x.c D).tail (lgS n x.c D).life (lgS n x.c D).fin (.slice qa (lgS n x.c D).txs.length qc)).toArray) (kx (.slice qa (lgS n x.c D).txs.length qc) (lgS n x.c D).txs :: kb RN 89 (gcells (lgS n x.c D).tail (lgS n x.c D).life (lgS n x.c D).fin (.slice qa (lgS n x.c D).txs.length qc)) :: kb b0 38 row0 :: X)) := hds
    clear hds hst hla hlb HD2
    generalize wx2.setRow RN (gcells (lgS n x.c D).tail (lgS n x.c D).life (lgS n x.c D).fin (.slice qa (lgS n x.c D).txs.length qc)).toArray = wx3 at *
    refine hKc.out _ _ (HD3.out.pv (i := i + 3) hi) (fun hHeld => ?_)
    clear hKc Kc
    refine tk 14 hHeld ?_
    clear hHeld
    refine wpAnyH_done (by kernel_rfl) (NoPanic.normal ?_) _
    have HZ := Fz.swap HD3.out
    have H9 : Hid (Fz w0 wx3 (kb RN 89 (gcells (lgS n x.c D).tail (lgS n x.c D).life (lgS n x.c D).fin (.slice qa (lgS n x.c D).txs.length qc)) :: kx (.slice qa (lgS n x.c D).txs.length qc) (lgS n x.c D).txs :: kb b0 38 row0 :: X)) := HZ
    clear HZ HD3
    generalize wx3 = w9 at *
    have HBD : Hid (_) := build_row0 w9
    obtain ⟨wz, hst, hlz, hfz⟩ := (Fz.pop (Fz.pop H9.out)).laid (r := ⟨0, 0, zv, 0, 0⟩) (zs_len 32)
    have HST : Hid (_) := hst
    have HLz : Hid (_) := hlz
    have HFz : Hid (_) := hfz
    clear hst hlz hfz H9
    go_wp2_with ((with_reducible refine at_ops ?_); (first | (refine wpList_build_is (vs := []) (by rfl) 38 rfl (by rfl) HBD.out ?_) | (refine wpList_store_is (by rfl) 38 rfl rfl rfl HST.out ?_)); simp only [Act.put, List.setIfInBounds_toArray, List.set_cons_zero, List.set_cons_succ])
    (try simp only [Exit.inBlock, Exit.then])
    exact bodyPost_ret (results_lat Tryd.results24 _ _ _ 38 _ _ (by rfl) HLz.out Tryd.underlying38 rfl (by rw [size_row, rowc_len (zs_len 32)])) rfl ⟨rfl, HFz.out⟩
theorem lg1 {W : World} {B : Nat} {t l f : Int} {v : Value} (h : LAt 89 W B (gcells t l f v)) : W.cell? ⟨B, 1, none⟩ = some (.int .u64 l) := by rw [LAt.cell h 1]; rfl
theorem lg2 {W : World} {B : Nat} {t l f : Int} {v : Value} (h : LAt 89 W B (gcells t l f v)) : W.cell? ⟨B, 2, none⟩ = some (.int .u64 f) := by rw [LAt.cell h 2]; rfl
theorem lg3 {W : World} {B : Nat} {t l f : Int} {v : Value} (h : LAt 89 W B (gcells t l f v)) : W.cell? ⟨B, 3, none⟩ = some v := by rw [LAt.cell h 3]; rfl
set_option maxHeartbeats 2000000 in
set_option maxRecDepth 100000 in
theorem read_wrap (ht : Tab w0) (h : Fz w0 w X) (hi : X[i]? = some (kr P (some p) x)) (hj : X[j]? = some (kd p n D)) (ok : x.Ok n) (hz : (rdL x.c n D.rd).2 = 0) (hw : wrapS x.c (lgS n x.c D)) : Calls Tryd.prog 24 #[qp P] w fun e w' => e = .returned (.tuple #[.agg row0.toArray, .int .i64 31]) ∧ Fz w0 w' X := by
  have HZ0 : Hid ((rdL x.c n D.rd).2 = 0) := hz
  have hlw := lgS_wf (x := x) (h.dok hj)
  have hmc := ok.mc
  have hbd := lgS_bd (x := x) (h.dok hj) hz
  obtain ⟨w1, hal, hb1, h1⟩ := h.rowbox
  generalize w.heap.size = b0 at h1 hal hb1
  have HAL : Hid (_) := hal
  have H2 : Hid (Fz w0 w1.drew (kb b0 38 row0 :: X)) := h1.later (below_drawn 1)
  clear h hal h1 hb1
  go_enter Tryd.func24, Tryd.ntmps24
  go_wp2_with ((with_reducible refine at_ops ?_); (refine wpList_alloc_is (by rfl) 38 rfl HAL.out ?_); simp only [Act.put, List.setIfInBounds_toArray, List.set_cons_zero, List.set_cons_succ])
  refine wp_region_noPanic ?_
  refine wp_region_held_drew (S := fun W => Pv P (some p) x W) (by kernel_rfl) (H2.out.pv (i := i + 1) hi) (fun hHeld => ?_)
  generalize w1.drew = w2 at *
  refine tk 0 hHeld ?_
  refine tk 1 hHeld ?_
  refine tk 2 hHeld ?_
  refine tkl 3 hHeld (fun _ s => s.c0) ?_
  refine tk 4 hHeld ?_
  refine tk 5 hHeld ?_
  refine tk 6 hHeld ?_
  refine tkm 7 hHeld (fun _ s => s.loadC) ?_
  refine wpAnyH_ready (rs := [8, 12]) (by kernel_rfl) (by simp) ?_
  refine AllReadyH.cons (by simp; rfl) (fun Kc hKc => ?_) (AllReadyH.cons (by simp; rfl) (fun Kc hKc => ?_) AllReadyH.nil)
  · go_simp
    refine (p_read ht H2.out (j := j + 1) hj x.c).mono ?_
    rintro e wx1 ⟨qa, qc, rfl, hd⟩
    have HD1 : Hid (Fz w0 wx1 (kx (.slice qa (lgS n x.c D).txs.length qc) (lgS n x.c D).txs :: kb b0 38 row0 :: X)) := hd
    clear hd H2
    rw [HZ0.out]
    go_simp
    refine hKc.out _ _ (HD1.out.pv (i := i + 2) hi) (fun hHeld => ?_)
    clear hKc Kc
    refine tk 9 hHeld ?_
    refine tk 10 hHeld ?_
    refine tk 11 hHeld ?_
    refine tkr 12 fun Kc hKc => ?_
    obtain ⟨RN, hRN⟩ : ∃ B, wx1.heap.size = B := ⟨_, rfl⟩
    have hdv := HD1.out.newa (gcells 0 0 0 (.slice none 0 0)) 89
    have hal := allocLg wx1
    rw [hRN] at hdv hal
    refine step_alloc_is (by rfl) 89 rfl hal ?_
    simp only [Act.put, List.setIfInBounds_toArray, List.set_cons_zero, List.set_cons_succ]
    have HD2 : Hid (Fz w0 (wx1.alloc (.cells (gcells 0 0 0 (.slice none 0 0)).toArray 89)) (kb RN 89 (gcells 0 0 0 (.slice none 0 0)) :: kx (.slice qa (lgS n x.c D).txs.length qc) (lgS n x.c D).txs :: kb b0 38 row0 :: X)) := hdv
    clear hdv hal hRN HD1
    generalize wx1.alloc (.cells (gcells 0 0 0 (.slice none 0 0)).toArray 89) = wx2 at *
    refine hKc.out _ _ (HD2.out.pv (i := i + 3) hi) (fun hHeld => ?_)
    clear hKc Kc
    refine tkr 13 fun Kc hKc => ?_
    obtain ⟨hla, -, -, hlb⟩ := HD2.out.atb (i := 0) rfl
    have hst := LAt.store hla (ds := (gcells (lgS n x.c D).tail (lgS n x.c D).life (lgS n x.c D).fin (.slice qa (lgS n x.c D).txs.length qc))) (by rw [sizeLg]; rfl) rfl (by simp [gcells, Value.oneCell'])
    have hds := hlb (gcells (lgS n x.c D).tail (lgS n x.c D).life (lgS n x.c D).fin (.slice qa (lgS n x.c D).txs.length qc))
    refine step_store_is (by rfl) 89 rfl rfl rfl hst ?_
    simp only [Act.put]
    have HD3 : Hid (Fz w0 (wx2.setRow RN (gcells (lgS n x.c D).tail (lgS n x.c D).life (lgS n x.c D).fin (.slice qa (lgS n x.c D).txs.length qc)).toArray) (kb RN 89 (gcells (lgS n x.c D).tail (lgS n x.c D).life (lgS n x.c D).fin (.slice qa (lgS n x.c D).txs.length qc)) :: kx (.slice qa (lgS n x.c D).txs.length qc) (lgS n x.c D).txs :: kb b0 38 row0 :: X)) := hds
    clear hds hst hla hlb HD2
    generalize wx2.setRow RN (gcells (lgS n x.c D).tail (lgS n x.c D).life (lgS n x.c D).fin (.slice qa (lgS n x.c D).txs.length qc)).toArray = wx3 at *
    refine hKc.out _ _ (HD3.out.pv (i := i + 3) hi) (fun hHeld => ?_)
    clear hKc Kc
    refine tk 14 hHeld ?_
    clear hHeld
    refine wpAnyH_done (by kernel_rfl) (NoPanic.normal ?_) _
    have HZ := HD3.out
    have H9 : Hid (Fz w0 wx3 (kb RN 89 (gcells (lgS n x.c D).tail (lgS n x.c D).life (lgS n x.c D).fin (.slice qa (lgS n x.c D).txs.length qc)) :: kx (.slice qa (lgS n x.c D).txs.length qc) (lgS n x.c D).txs :: kb b0 38 row0 :: X)) := HZ
    clear HZ HD3
    generalize wx3 = w9 at *
    have H10 : Hid (Fz w0 w9.drew (kb RN 89 (gcells (lgS n x.c D).tail (lgS n x.c D).life (lgS n x.c D).fin (.slice qa (lgS n x.c D).txs.length qc)) :: kx (.slice qa (lgS n x.c D).txs.length qc) (lgS n x.c D).txs :: kb b0 38 row0 :: X)) := H9.out.later (below_drawn 1)
    clear H9
    go_wp2_with fail
    refine wp_region_noPanic ?_
    refine wp_region_held_drew (S := fun W => Pv P (some p) x W ∧ LAt 89 W RN (gcells (lgS n x.c D).tail (lgS n x.c D).life (lgS n x.c D).fin (.slice qa (lgS n x.c D).txs.length qc))) (by kernel_rfl) ⟨H10.out.pv (i := i + 3) hi, (H10.out.atb (i := 0) rfl).1⟩ (fun hHeld => ?_)
    generalize w9.drew = w10 at *
    refine tk 0 hHeld ?_
    refine tkl 1 hHeld (fun _ s => lg2 s.2) ?_
    refine tk 2 hHeld ?_
    refine tk 3 hHeld ?_
    refine tk 4 hHeld ?_
    refine tk 5 hHeld ?_
    refine tkl 6 hHeld (fun _ s => s.1.c2) ?_
    refine tk 7 hHeld ?_
    refine tk 8 hHeld ?_
    refine tk 9 hHeld ?_
    refine tkl 10 hHeld (fun _ s => lg1 s.2) ?_
    refine tk 11 hHeld ?_
    refine tk 12 hHeld ?_
    refine tk 13 hHeld ?_
    clear hHeld
    refine wpAnyH_done (by kernel_rfl) (NoPanic.normal ?_) _
    have HW1 : Hid (IntKind.u64.wrap x.c.lc = x.c.lc) := by show _ = _; rw [IntKind.wrap_u64]; omega
    have HW2 : Hid (IntKind.u64.wrap ((lgS n x.c D).fin + x.c.lc) = (lgS n x.c D).fin + x.c.lc) := by have a := hlw.f; have b := hbd.1; show _ = _; rw [IntKind.wrap_u64]; unfold u64 at a; omega
    have HW3 : Hid (IntKind.u64.wrap ((lgS n x.c D).life + 1) = (lgS n x.c D).life + 1) := by have a := hlw.lf; have b := hbd.2; show _ = _; rw [IntKind.wrap_u64]; unfold u64 at a; omega
    rw [HW1.out, HW2.out, HW3.out]
    have HBD : Hid (_) := build_row0 w10
    obtain ⟨wz, hst, hlz, hfz⟩ := (Fz.pop (Fz.pop H10.out)).laid (r := ⟨0, 0, zv, 0, 0⟩) (zs_len 32)
    have HST : Hid (_) := hst
    have HLz : Hid (_) := hlz
    have HFz : Hid (_) := hfz
    clear hst hlz hfz H10 HW1 HW2 HW3
    by_cases c1 : 4611686018427387904 < (lgS n x.c D).fin + x.c.lc
    · go_wp2_with ((with_reducible refine at_ops ?_); (first | (refine wpList_build_is (vs := []) (by rfl) 38 rfl (by rfl) HBD.out ?_) | (refine wpList_store_is (by rfl) 38 rfl rfl rfl HST.out ?_)); simp only [Act.put, List.setIfInBounds_toArray, List.set_cons_zero, List.set_cons_succ])
      (try simp only [Exit.inBlock, Exit.then])
      exact bodyPost_ret (results_lat Tryd.results24 _ _ _ 38 _ _ (by rfl) HLz.out Tryd.underlying38 rfl (by rw [size_row, rowc_len (zs_len 32)])) rfl ⟨rfl, HFz.out⟩
    · have c2 : 4611686018427387904 < (lgS n x.c D).life + 1 := hw.resolve_left c1
      go_wp2_with ((with_reducible refine at_ops ?_); (first | (refine wpList_build_is (vs := []) (by rfl) 38 rfl (by rfl) HBD.out ?_) | (refine wpList_store_is (by rfl) 38 rfl rfl rfl HST.out ?_)); simp only [Act.put, List.setIfInBounds_toArray, List.set_cons_zero, List.set_cons_succ])
      (try simp only [Exit.inBlock, Exit.then])
      exact bodyPost_ret (results_lat Tryd.results24 _ _ _ 38 _ _ (by rfl) HLz.out Tryd.underlying38 rfl (by rw [size_row, rowc_len (zs_len 32)])) rfl ⟨rfl, HFz.out⟩
  · obtain ⟨RN, hRN⟩ : ∃ B, w2.heap.size = B := ⟨_, rfl⟩
    have hdv := H2.out.newa (gcells 0 0 0 (.slice none 0 0)) 89
    have hal := allocLg w2
    rw [hRN] at hdv hal
    refine step_alloc_is (by rfl) 89 rfl hal ?_
    simp only [Act.put, List.setIfInBounds_toArray, List.set_cons_zero, List.set_cons_succ]
    have HD1 : Hid (Fz w0 (w2.alloc (.cells (gcells 0 0 0 (.slice none 0 0)).toArray 89)) (kb RN 89 (gcells 0 0 0 (.slice none 0 0)) :: kb b0 38 row0 :: X)) := hdv
    clear hdv hal hRN H2
    generalize w2.alloc (.cells (gcells 0 0 0 (.slice none 0 0)).toArray 89) = wx1 at *
    refine hKc.out _ _ (HD1.out.pv (i := i + 2) hi) (fun hHeld => ?_)
    clear hKc Kc
    refine tkr 8 fun Kc hKc => ?_
    go_simp
    refine (p_read ht HD1.out (j := j + 2) hj x.c).mono ?_
    rintro e wx2 ⟨qa, qc, rfl, hd⟩
    have HD2 : Hid (Fz w0 wx2 (kx (.slice qa (lgS n x.c D).txs.length qc) (lgS n x.c D).txs :: kb RN 89 (gcells 0 0 0 (.slice none 0 0)) :: kb b0 38 row0 :: X)) := hd
    clear hd HD1
    rw [HZ0.out]
    go_simp
    refine hKc.out _ _ (HD2.out.pv (i := i + 3) hi) (fun hHeld => ?_)
    clear hKc Kc
    refine tk 9 hHeld ?_
    refine tk 10 hHeld ?_
    refine tk 11 hHeld ?_
    refine tkr 13 fun Kc hKc => ?_
    obtain ⟨hla, -, -, hlb⟩ := HD2.out.atb (i := 1) rfl
    have hst := LAt.store hla (ds := (gcells (lgS n x.c D).tail (lgS n x.c D).life (lgS n x.c D).fin (.slice qa (lgS n x.c D).txs.length qc))) (by rw [sizeLg]; rfl) rfl (by simp [gcells, Value.oneCell'])
    have hds := hlb (gcells (lgS n x.c D).tail (lgS n x.c D).life (lgS n x.c D).fin (.slice qa (lgS n x.c D).txs.length qc))
    refine step_store_is (by rfl) 89 rfl rfl rfl hst ?_
    simp only [Act.put]
    have HD3 : Hid (Fz w0 (wx2.setRow RN (gcells (lgS n x.c D).tail (lgS n x.c D).life (lgS n x.c D).fin (.slice qa (lgS n x.c D).txs.length qc)).toArray) (kx (.slice qa (lgS n x.c D).txs.length qc) (lgS n x.c D).txs :: kb RN 89 (gcells (lgS n x.c D).tail (lgS n x.c D).life (lgS n x.c D).fin (.slice qa (lgS n x.c D).txs.length qc)) :: kb b0 38 row0 :: X)) := hds
    clear hds hst hla hlb HD2
    generalize wx2.setRow RN (gcells (lgS n x.c D).tail (lgS n x.c D).life (lgS n x.c D).fin (.slice qa (lgS n x.c D).txs.length qc)).toArray = wx3 at *
    refine hKc.out _ _ (HD3.out.pv (i := i + 3) hi) (fun hHeld => ?_)
    clear hKc Kc
    refine tk 14 hHeld ?_
    clear hHeld
    refine wpAnyH_done (by kernel_rfl) (NoPanic.normal ?_) _
    have HZ := Fz.swap HD3.out
    have H9 : Hid (Fz w0 wx3 (kb RN 89 (gcells (lgS n x.c D).tail (lgS n x.c D).life (lgS n x.c D).fin (.slice qa (lgS n x.c D).txs.length qc)) :: kx (.slice qa (lgS n x.c D).txs.length qc) (lgS n x.c D).txs :: kb b0 38 row0 :: X)) := HZ
    clear HZ HD3
    generalize wx3 = w9 at *
    have H10 : Hid (Fz w0 w9.drew (kb RN 89 (gcells (lgS n x.c D).tail (lgS n x.c D).life (lgS n x.c D).fin (.slice qa (lgS n x.c D).txs.length qc)) :: kx (.slice qa (lgS n x.c D).txs.length qc) (lgS n x.c D).txs :: kb b0 38 row0 :: X)) := H9.out.later (below_drawn 1)
    clear H9
    go_wp2_with fail
    refine wp_region_noPanic ?_
    refine wp_region_held_drew (S := fun W => Pv P (some p) x W ∧ LAt 89 W RN (gcells (lgS n x.c D).tail (lgS n x.c D).life (lgS n x.c D).fin (.slice qa (lgS n x.c D).txs.length qc))) (by kernel_rfl) ⟨H10.out.pv (i := i + 3) hi, (H10.out.atb (i := 0) rfl).1⟩ (fun hHeld => ?_)
    generalize w9.drew = w10 at *
    refine tk 0 hHeld ?_
    refine tkl 1 hHeld (fun _ s => lg2 s.2) ?_
    refine tk 2 hHeld ?_
    refine tk 3 hHeld ?_
    refine tk 4 hHeld ?_
    refine tk 5 hHeld ?_
    refine tkl 6 hHeld (fun _ s => s.1.c2) ?_
    refine tk 7 hHeld ?_
    refine tk 8 hHeld ?_
    refine tk 9 hHeld ?_
    refine tkl 10 hHeld (fun _ s => lg1 s.2) ?_
    refine tk 11 hHeld ?_
    refine tk 12 hHeld ?_
    refine tk 13 hHeld ?_
    clear hHeld
    refine wpAnyH_done (by kernel_rfl) (NoPanic.normal ?_) _
    have HW1 : Hid (IntKind.u64.wrap x.c.lc = x.c.lc) := by show _ = _; rw [IntKind.wrap_u64]; omega
    have HW2 : Hid (IntKind.u64.wrap ((lgS n x.c D).fin + x.c.lc) = (lgS n x.c D).fin + x.c.lc) := by have a := hlw.f; have b := hbd.1; show _ = _; rw [IntKind.wrap_u64]; unfold u64 at a; omega
    have HW3 : Hid (IntKind.u64.wrap ((lgS n x.c D).life + 1) = (lgS n x.c D).life + 1) := by have a := hlw.lf; have b := hbd.2; show _ = _; rw [IntKind.wrap_u64]; unfold u64 at a; omega
    rw [HW1.out, HW2.out, HW3.out]
    have HBD : Hid (_) := build_row0 w10
    obtain ⟨wz, hst, hlz, hfz⟩ := (Fz.pop (Fz.pop H10.out)).laid (r := ⟨0, 0, zv, 0, 0⟩) (zs_len 32)
    have HST : Hid (_) := hst
    have HLz : Hid (_) := hlz
    have HFz : Hid (_) := hfz
    clear hst hlz hfz H10 HW1 HW2 HW3
    by_cases c1 : 4611686018427387904 < (lgS n x.c D).fin + x.c.lc
    · go_wp2_with ((with_reducible refine at_ops ?_); (first | (refine wpList_build_is (vs := []) (by rfl) 38 rfl (by rfl) HBD.out ?_) | (refine wpList_store_is (by rfl) 38 rfl rfl rfl HST.out ?_)); simp only [Act.put, List.setIfInBounds_toArray, List.set_cons_zero, List.set_cons_succ])
      (try simp only [Exit.inBlock, Exit.then])
      exact bodyPost_ret (results_lat Tryd.results24 _ _ _ 38 _ _ (by rfl) HLz.out Tryd.underlying38 rfl (by rw [size_row, rowc_len (zs_len 32)])) rfl ⟨rfl, HFz.out⟩
    · have c2 : 4611686018427387904 < (lgS n x.c D).life + 1 := hw.resolve_left c1
      go_wp2_with ((with_reducible refine at_ops ?_); (first | (refine wpList_build_is (vs := []) (by rfl) 38 rfl (by rfl) HBD.out ?_) | (refine wpList_store_is (by rfl) 38 rfl rfl rfl HST.out ?_)); simp only [Act.put, List.setIfInBounds_toArray, List.set_cons_zero, List.set_cons_succ])
      (try simp only [Exit.inBlock, Exit.then])
      exact bodyPost_ret (results_lat Tryd.results24 _ _ _ 38 _ _ (by rfl) HLz.out Tryd.underlying38 rfl (by rw [size_row, rowc_len (zs_len 32)])) rfl ⟨rfl, HFz.out⟩
set_option maxHeartbeats 2000000 in
set_option maxRecDepth 100000 in
theorem read_good (ht : Tab w0) (h : Fz w0 w X) (hi : X[i]? = some (kr P (some p) x)) (hj : X[j]? = some (kd p n D)) (ok : x.Ok n) (hs : x.st = 1) (hz : (rdL x.c n D.rd).2 = 0) (hw : ¬ wrapS x.c (lgS n x.c D)) : Calls Tryd.prog 24 #[qp P] w fun e w' => e = .returned (.tuple #[.agg (rowc ⟨19, -1, zv, (lgS n x.c D).fin, (lgS n x.c D).txs.length⟩).toArray, .int .i64 0]) ∧ Fz w0 w' (X.set i (kr P (some p) (readR n x D))) := by
  have hbd := lgS_bd (x := x) (h.dok hj) hz
  have HL0 : Hid (x.left = []) := ok.non (by omega)
  have hwf := lgS_wf (x := x) (h.dok hj)
  have HWN : Hid (ImsWf (nwS (flat (lgS n x.c D).txs))) := nwS_wf (flat_wf hwf.tx)
  have HLN : Hid ((lgS n x.c D).txs.length ≤ 2000000 ∧ (flat (lgS n x.c D).txs).length ≤ 2000000) := by
    obtain ⟨s, e, hs⟩ := lgS_in hz
    have a := hs.len; have b := ok.mc.2.1
    rw [e]
    show _ ∧ _
    omega
  have HPC : Hid (∀ v : Value, pcl (some p) (readR n x D) v = [qp p, .int .i64 x.c.bl, .int .i64 x.c.lc, .int .i64 x.c.mr, .int .i64 x.c.hi, .int .i64 x.c.cl, .int .i64 (aftS (nwS (flat (lgS n x.c D).txs))), .int .u64 ((lgS n x.c D).fin + x.c.lc), .int .u64 ((lgS n x.c D).life + 1), v]) := fun v => by
    have ho := aftS_or (nwS (flat (lgS n x.c D).txs))
    have hn : (readR n x D).st ≠ 1 := by show aftS _ ≠ 1; omega
    unfold pcl
    rw [tlS_ne hn, lfS_ne hn]; rfl
  clear hwf
  have HZ0 : Hid ((rdL x.c n D.rd).2 = 0) := hz
  have hlw := lgS_wf (x := x) (h.dok hj)
  have hmc := ok.mc
  obtain ⟨w1, hal, hb1, h1⟩ := h.rowbox
  generalize w.heap.size = b0 at h1 hal hb1
  have HAL : Hid (_) := hal
  have H2 : Hid (Fz w0 w1.drew (kb b0 38 row0 :: X)) := h1.later (below_drawn 1)
  clear h hal h1 hb1
  go_enter Tryd.func24, Tryd.ntmps24
  go_wp2_with ((with_reducible refine at_ops ?_); (refine wpList_alloc_is (by rfl) 38 rfl HAL.out ?_); simp only [Act.put, List.setIfInBounds_toArray, List.set_cons_zero, List.set_cons_succ])
  refine wp_region_noPanic ?_
  refine wp_region_held_drew (S := fun W => Pv P (some p) x W) (by kernel_rfl) (H2.out.pv (i := i + 1) hi) (fun hHeld => ?_)
  generalize w1.drew = w2 at *
  refine tk 0 hHeld ?_
  refine tk 1 hHeld ?_
  refine tk 2 hHeld ?_
  refine tkl 3 hHeld (fun _ s => s.c0) ?_
  refine tk 4 hHeld ?_
  refine tk 5 hHeld ?_
  refine tk 6 hHeld ?_
  refine tkm 7 hHeld (fun _ s => s.loadC) ?_
  refine wpAnyH_ready (rs := [8, 12]) (by kernel_rfl) (by simp) ?_
  refine AllReadyH.cons (by simp; rfl) (fun Kc hKc => ?_) (AllReadyH.cons (by simp; rfl) (fun Kc hKc => ?_) AllReadyH.nil)
  · go_simp
    refine (p_read ht H2.out (j := j + 1) hj x.c).mono ?_
    rintro e wx1 ⟨qa, qc, rfl, hd⟩
    have HD1 : Hid (Fz w0 wx1 (kx (.slice qa (lgS n x.c D).txs.length qc) (lgS n x.c D).txs :: kb b0 38 row0 :: X)) := hd
    clear hd H2
    rw [HZ0.out]
    go_simp
    refine hKc.out _ _ (HD1.out.pv (i := i + 2) hi) (fun hHeld => ?_)
    clear hKc Kc
    refine tk 9 hHeld ?_
    refine tk 10 hHeld ?_
    refine tk 11 hHeld ?_
    refine tkr 12 fun Kc hKc => ?_
    obtain ⟨RN, hRN⟩ : ∃ B, wx1.heap.size = B := ⟨_, rfl⟩
    have hdv := HD1.out.newa (gcells 0 0 0 (.slice none 0 0)) 89
    have hal := allocLg wx1
    rw [hRN] at hdv hal
    refine step_alloc_is (by rfl) 89 rfl hal ?_
    simp only [Act.put, List.setIfInBounds_toArray, List.set_cons_zero, List.set_cons_succ]
    have HD2 : Hid (Fz w0 (wx1.alloc (.cells (gcells 0 0 0 (.slice none 0 0)).toArray 89)) (kb RN 89 (gcells 0 0 0 (.slice none 0 0)) :: kx (.slice qa (lgS n x.c D).txs.length qc) (lgS n x.c D).txs :: kb b0 38 row0 :: X)) := hdv
    clear hdv hal hRN HD1
    generalize wx1.alloc (.cells (gcells 0 0 0 (.slice none 0 0)).toArray 89) = wx2 at *
    refine hKc.out _ _ (HD2.out.pv (i := i + 3) hi) (fun hHeld => ?_)
    clear hKc Kc
    refine tkr 13 fun Kc hKc => ?_
    obtain ⟨hla, -, -, hlb⟩ := HD2.out.atb (i := 0) rfl
    have hst := LAt.store hla (ds := (gcells (lgS n x.c D).tail (lgS n x.c D).life (lgS n x.c D).fin (.slice qa (lgS n x.c D).txs.length qc))) (by rw [sizeLg]; rfl) rfl (by simp [gcells, Value.oneCell'])
    have hds := hlb (gcells (lgS n x.c D).tail (lgS n x.c D).life (lgS n x.c D).fin (.slice qa (lgS n x.c D).txs.length qc))
    refine step_store_is (by rfl) 89 rfl rfl rfl hst ?_
    simp only [Act.put]
    have HD3 : Hid (Fz w0 (wx2.setRow RN (gcells (lgS n x.c D).tail (lgS n x.c D).life (lgS n x.c D).fin (.slice qa (lgS n x.c D).txs.length qc)).toArray) (kb RN 89 (gcells (lgS n x.c D).tail (lgS n x.c D).life (lgS n x.c D).fin (.slice qa (lgS n x.c D).txs.length qc)) :: kx (.slice qa (lgS n x.c D).txs.length qc) (lgS n x.c D).txs :: kb b0 38 row0 :: X)) := hds
    clear hds hst hla hlb HD2
    generalize wx2.setRow RN (gcells (lgS n x.c D).tail (lgS n x.c D).life (lgS n x.c D).fin (.slice qa (lgS n x.c D).txs.length qc)).toArray = wx3 at *
    refine hKc.out _ _ (HD3.out.pv (i := i + 3) hi) (fun hHeld => ?_)
    clear hKc Kc
    refine tk 14 hHeld ?_
    clear hHeld
    refine wpAnyH_done (by kernel_rfl) (NoPanic.normal ?_) _
    have HZ := HD3.out
    have H9 : Hid (Fz w0 wx3 (kb RN 89 (gcells (lgS n x.c D).tail (lgS n x.c D).life (lgS n x.c D).fin (.slice qa (lgS n x.c D).txs.length qc)) :: kx (.slice qa (lgS n x.c D).txs.length qc) (lgS n x.c D).txs :: kb b0 38 row0 :: X)) := HZ
    clear HZ HD3
    generalize wx3 = w9 at *
    have H10 : Hid (Fz w0 w9.drew (kb RN 89 (gcells (lgS n x.c D).tail (lgS n x.c D).life (lgS n x.c D).fin (.slice qa (lgS n x.c D).txs.length qc)) :: kx (.slice qa (lgS n x.c D).txs.length qc) (lgS n x.c D).txs :: kb b0 38 row0 :: X)) := H9.out.later (below_drawn 1)
    clear H9
    go_wp2_with fail
    refine wp_region_noPanic ?_
    refine wp_region_held_drew (S := fun W => Pv P (some p) x W ∧ LAt 89 W RN (gcells (lgS n x.c D).tail (lgS n x.c D).life (lgS n x.c D).fin (.slice qa (lgS n x.c D).txs.length qc))) (by kernel_rfl) ⟨H10.out.pv (i := i + 3) hi, (H10.out.atb (i := 0) rfl).1⟩ (fun hHeld => ?_)
    generalize w9.drew = w10 at *
    refine tk 0 hHeld ?_
    refine tkl 1 hHeld (fun _ s => lg2 s.2) ?_
    refine tk 2 hHeld ?_
    refine tk 3 hHeld ?_
    refine tk 4 hHeld ?_
    refine tk 5 hHeld ?_
    refine tkl 6 hHeld (fun _ s => s.1.c2) ?_
    refine tk 7 hHeld ?_
    refine tk 8 hHeld ?_
    refine tk 9 hHeld ?_
    refine tkl 10 hHeld (fun _ s => lg1 s.2) ?_
    refine tk 11 hHeld ?_
    refine tk 12 hHeld ?_
    refine tk 13 hHeld ?_
    clear hHeld
    refine wpAnyH_done (by kernel_rfl) (NoPanic.normal ?_) _
    have HW1 : Hid (IntKind.u64.wrap x.c.lc = x.c.lc) := by show _ = _; rw [IntKind.wrap_u64]; omega
    have HW2 : Hid (IntKind.u64.wrap ((lgS n x.c D).fin + x.c.lc) = (lgS n x.c D).fin + x.c.lc) := by have a := hlw.f; have b := hbd.1; show _ = _; rw [IntKind.wrap_u64]; unfold u64 at a; omega
    have HW3 : Hid (IntKind.u64.wrap ((lgS n x.c D).life + 1) = (lgS n x.c D).life + 1) := by have a := hlw.lf; have b := hbd.2; show _ = _; rw [IntKind.wrap_u64]; unfold u64 at a; omega
    rw [HW1.out, HW2.out, HW3.out]
    have c1 : ¬ 4611686018427387904 < (lgS n x.c D).fin + x.c.lc := fun e => hw (.inl e)
    have c2 : ¬ 4611686018427387904 < (lgS n x.c D).life + 1 := fun e => hw (.inr e)
    obtain ⟨a0, m0, h11⟩ := Fz.openr (i := i + 3) H10.out hi HL0.out
    have hlen := (List.getElem?_eq_some_iff.1 hi).1
    have hP := (h11.atb (i := i + 3) (List.getElem?_set_self (by simpa using hlen))).1
    have k7 : w10.cell? ⟨P, 7, none⟩ = some (.int .u64 (tlS x)) := by rw [LAt.cell hP 7]; rfl
    have k8 : w10.cell? ⟨P, 8, none⟩ = some (.int .u64 (lfS x)) := by rw [LAt.cell hP 8]; rfl
    have z7 : w10.frozen? ⟨P, 7, none⟩ = false := frozen_row hP
    have h12 := Fz.cell (i := i + 3) h11 (List.getElem?_set_self (by simpa using hlen)) 7 (.int .u64 ((lgS n x.c D).fin + x.c.lc))
    rw [List.set_set] at h12
    have hP2 := (h12.atb (i := i + 3) (List.getElem?_set_self (by simpa using hlen))).1
    have z8 : (w10.setCell ⟨P, 7, none⟩ (.int .u64 ((lgS n x.c D).fin + x.c.lc))).frozen? ⟨P, 8, none⟩ = false := frozen_row hP2
    have l8 : (w10.setCell ⟨P, 7, none⟩ (.int .u64 ((lgS n x.c D).fin + x.c.lc))).cell? ⟨P, 8, none⟩ = some (.int .u64 (lfS x)) := by rw [LAt.cell hP2 8]; rfl
    have h13 := Fz.cell (i := i + 3) h12 (List.getElem?_set_self (by simpa using hlen)) 8 (.int .u64 ((lgS n x.c D).life + 1))
    rw [List.set_set] at h13
    obtain ⟨w11, hw11⟩ : ∃ W, (w10.setCell ⟨P, 7, none⟩ (.int .u64 ((lgS n x.c D).fin + x.c.lc))).setCell ⟨P, 8, none⟩ (.int .u64 ((lgS n x.c D).life + 1)) = W := ⟨_, rfl⟩
    rw [hw11] at h13
    have H13 : Hid (Fz w0 w11 (kb RN 89 (gcells (lgS n x.c D).tail (lgS n x.c D).life (lgS n x.c D).fin (.slice qa (lgS n x.c D).txs.length qc)) :: kx (.slice qa (lgS n x.c D).txs.length qc) (lgS n x.c D).txs :: kb b0 38 row0 :: X.set i (kb P 58 [qp p, .int .i64 x.c.bl, .int .i64 x.c.lc, .int .i64 x.c.mr, .int .i64 x.c.hi, .int .i64 x.c.cl, .int .i64 x.st, .int .u64 ((lgS n x.c D).fin + x.c.lc), .int .u64 ((lgS n x.c D).life + 1), .slice a0 0 m0]))) := h13
    have r3 := lg3 (h13.atb (i := 0) rfl).1
    clear h11 h12 h13 hP hP2 H10 HW1 HW2 HW3
    go_wp2_with fail
    refine (p_newest (j := 1) H13.out rfl HLN.out.1 HLN.out.2).mono ?_
    rintro e w12 ⟨v, rfl, h14⟩
    obtain ⟨t, G, rfl, ho, -⟩ := h14.at (i := 0) rfl
    obtain ⟨av, cv, ev, -⟩ := IOwn.in ho HWN.out
    subst ev
    have H14 : Hid (Fz w0 w12 (ko (.slice av (nwS (flat (lgS n x.c D).txs)).length cv) (nwS (flat (lgS n x.c D).txs)) :: kb RN 89 (gcells (lgS n x.c D).tail (lgS n x.c D).life (lgS n x.c D).fin (.slice qa (lgS n x.c D).txs.length qc)) :: kx (.slice qa (lgS n x.c D).txs.length qc) (lgS n x.c D).txs :: kb b0 38 row0 :: X.set i (kb P 58 [qp p, .int .i64 x.c.bl, .int .i64 x.c.lc, .int .i64 x.c.mr, .int .i64 x.c.hi, .int .i64 x.c.cl, .int .i64 x.st, .int .u64 ((lgS n x.c D).fin + x.c.lc), .int .u64 ((lgS n x.c D).life + 1), .slice a0 0 m0]))) := h14
    have hP := (h14.atb (i := i + 4) (List.getElem?_set_self (by simpa using hlen))).1
    have k9 : w12.cell? ⟨P, 9, none⟩ = some (.slice a0 0 m0) := by rw [LAt.cell hP 9]; rfl
    have z9 : w12.frozen? ⟨P, 9, none⟩ = false := frozen_row hP
    have h15 := Fz.cell (i := i + 4) H14.out (List.getElem?_set_self (by simpa using hlen)) 9 (.slice av (nwS (flat (lgS n x.c D).txs)).length cv)
    simp only [List.set_cons_succ, List.set_set] at h15
    obtain ⟨w13, hw13⟩ : ∃ W, w12.setCell ⟨P, 9, none⟩ (.slice av (nwS (flat (lgS n x.c D).txs)).length cv) = W := ⟨_, rfl⟩
    rw [hw13] at h15
    have H15 : Hid (Fz w0 w13 (ko (.slice av (nwS (flat (lgS n x.c D).txs)).length cv) (nwS (flat (lgS n x.c D).txs)) :: kb RN 89 (gcells (lgS n x.c D).tail (lgS n x.c D).life (lgS n x.c D).fin (.slice qa (lgS n x.c D).txs.length qc)) :: kx (.slice qa (lgS n x.c D).txs.length qc) (lgS n x.c D).txs :: kb b0 38 row0 :: X.set i (kb P 58 [qp p, .int .i64 x.c.bl, .int .i64 x.c.lc, .int .i64 x.c.mr, .int .i64 x.c.hi, .int .i64 x.c.cl, .int .i64 x.st, .int .u64 ((lgS n x.c D).fin + x.c.lc), .int .u64 ((lgS n x.c D).life + 1), .slice av (nwS (flat (lgS n x.c D).txs)).length cv]))) := h15
    clear h14 h15 hP H14 ho H13
    go_wp2_with fail
    refine (homeward_raw (H15.out.atb (i := i + 4) (List.getElem?_set_self (by simpa using hlen))).1).mono ?_
    rintro e w14 ⟨⟨u, rfl⟩, hw14⟩
    have h16 := (H15.out.atb (i := i + 4) (List.getElem?_set_self (by simpa using hlen))).2.2.2 [qp p, .int .i64 x.c.bl, .int .i64 x.c.lc, .int .i64 x.c.mr, .int .i64 x.c.hi, .int .i64 x.c.cl, .int .i64 (aftS (nwS (flat (lgS n x.c D).txs))), .int .u64 ((lgS n x.c D).fin + x.c.lc), .int .u64 ((lgS n x.c D).life + 1), .slice av (nwS (flat (lgS n x.c D).txs)).length cv]
    have e14 : w13.setRow P ([qp p, .int .i64 x.c.bl, .int .i64 x.c.lc, .int .i64 x.c.mr, .int .i64 x.c.hi, .int .i64 x.c.cl, .int .i64 (aftS (nwS (flat (lgS n x.c D).txs))), .int .u64 ((lgS n x.c D).fin + x.c.lc), .int .u64 ((lgS n x.c D).life + 1), .slice av (nwS (flat (lgS n x.c D).txs)).length cv]).toArray = w14 := hw14.symm
    rw [e14] at h16
    simp only [List.set_cons_succ, List.set_set] at h16
    rw [← HPC.out] at h16
    have h17 := Fz.shut (x := readR n x D) (i := i + 3) h16 (List.getElem?_set_self (by simpa using hlen)) rfl HWN.out
    simp only [List.set_cons_succ, List.set_set] at h17
    have H17 : Hid (Fz w0 w14 (kb RN 89 (gcells (lgS n x.c D).tail (lgS n x.c D).life (lgS n x.c D).fin (.slice qa (lgS n x.c D).txs.length qc)) :: kx (.slice qa (lgS n x.c D).txs.length qc) (lgS n x.c D).txs :: kb b0 38 row0 :: X.set i (kr P (some p) (readR n x D)))) := h17
    have r2 := lg2 (h17.atb (i := 0) rfl).1
    have r3 := lg3 (h17.atb (i := 0) rfl).1
    have HBD : Hid (_) := build_row67 w14 19 (lgS n x.c D).fin (lgS n x.c D).txs.length
    obtain ⟨wz, hst, hlz, hfz⟩ := (Fz.pop (Fz.pop H17.out)).laid (r := ⟨19, -1, zv, (lgS n x.c D).fin, (lgS n x.c D).txs.length⟩) (zs_len 32)
    have HST : Hid (_) := hst
    have HLz : Hid (_) := hlz
    have HFz : Hid (_) := hfz
    clear hst hlz hfz h16 h17 H17 H15 hw14
    go_wp2_with ((with_reducible refine at_ops ?_); (first | (refine wpList_build_is (vs := [(0, .int .i64 19), (4, .int .i64 (-1)), (6, .int .u64 (lgS n x.c D).fin), (7, .int .i64 (lgS n x.c D).txs.length)]) (by rfl) 38 rfl (by rfl) HBD.out ?_) | (refine wpList_store_is (by rfl) 38 rfl rfl rfl HST.out ?_)); simp only [Act.put, List.setIfInBounds_toArray, List.set_cons_zero, List.set_cons_succ])
    (try simp only [Exit.inBlock, Exit.then])
    exact bodyPost_ret (results_lat Tryd.results24 _ _ _ 38 _ _ (by rfl) HLz.out Tryd.underlying38 rfl (by rw [size_row, rowc_len (zs_len 32)])) rfl ⟨rfl, HFz.out⟩
  · obtain ⟨RN, hRN⟩ : ∃ B, w2.heap.size = B := ⟨_, rfl⟩
    have hdv := H2.out.newa (gcells 0 0 0 (.slice none 0 0)) 89
    have hal := allocLg w2
    rw [hRN] at hdv hal
    refine step_alloc_is (by rfl) 89 rfl hal ?_
    simp only [Act.put, List.setIfInBounds_toArray, List.set_cons_zero, List.set_cons_succ]
    have HD1 : Hid (Fz w0 (w2.alloc (.cells (gcells 0 0 0 (.slice none 0 0)).toArray 89)) (kb RN 89 (gcells 0 0 0 (.slice none 0 0)) :: kb b0 38 row0 :: X)) := hdv
    clear hdv hal hRN H2
    generalize w2.alloc (.cells (gcells 0 0 0 (.slice none 0 0)).toArray 89) = wx1 at *
    refine hKc.out _ _ (HD1.out.pv (i := i + 2) hi) (fun hHeld => ?_)
    clear hKc Kc
    refine tkr 8 fun Kc hKc => ?_
    go_simp
    refine (p_read ht HD1.out (j := j + 2) hj x.c).mono ?_
    rintro e wx2 ⟨qa, qc, rfl, hd⟩
    have HD2 : Hid (Fz w0 wx2 (kx (.slice qa (lgS n x.c D).txs.length qc) (lgS n x.c D).txs :: kb RN 89 (gcells 0 0 0 (.slice none 0 0)) :: kb b0 38 row0 :: X)) := hd
    clear hd HD1
    rw [HZ0.out]
    go_simp
    refine hKc.out _ _ (HD2.out.pv (i := i + 3) hi) (fun hHeld => ?_)
    clear hKc Kc
    refine tk 9 hHeld ?_
    refine tk 10 hHeld ?_
    refine tk 11 hHeld ?_
    refine tkr 13 fun Kc hKc => ?_
    obtain ⟨hla, -, -, hlb⟩ := HD2.out.atb (i := 1) rfl
    have hst := LAt.store hla (ds := (gcells (lgS n x.c D).tail (lgS n x.c D).life (lgS n x.c D).fin (.slice qa (lgS n x.c D).txs.length qc))) (by rw [sizeLg]; rfl) rfl (by simp [gcells, Value.oneCell'])
    have hds := hlb (gcells (lgS n x.c D).tail (lgS n x.c D).life (lgS n x.c D).fin (.slice qa (lgS n x.c D).txs.length qc))
    refine step_store_is (by rfl) 89 rfl rfl rfl hst ?_
    simp only [Act.put]
    have HD3 : Hid (Fz w0 (wx2.setRow RN (gcells (lgS n x.c D).tail (lgS n x.c D).life (lgS n x.c D).fin (.slice qa (lgS n x.c D).txs.length qc)).toArray) (kx (.slice qa (lgS n x.c D).txs.length qc) (lgS n x.c D).txs :: kb RN 89 (gcells (lgS n x.c D).tail (lgS n x.c D).life (lgS n x.c D).fin (.slice qa (lgS n x.c D).txs.length qc)) :: kb b0 38 row0 :: X)) := hds
    clear hds hst hla hlb HD2
    generalize wx2.setRow RN (gcells (lgS n x.c D).tail (lgS n x.c D).life (lgS n x.c D).fin (.slice qa (lgS n x.c D).txs.length qc)).toArray = wx3 at *
    refine hKc.out _ _ (HD3.out.pv (i := i + 3) hi) (fun hHeld => ?_)
    clear hKc Kc
    refine tk 14 hHeld ?_
    clear hHeld
    refine wpAnyH_done (by kernel_rfl) (NoPanic.normal ?_) _
    have HZ := Fz.swap HD3.out
    have H9 : Hid (Fz w0 wx3 (kb RN 89 (gcells (lgS n x.c D).tail (lgS n x.c D).life (lgS n x.c D).fin (.slice qa (lgS n x.c D).txs.length qc)) :: kx (.slice qa (lgS n x.c D).txs.length qc) (lgS n x.c D).txs :: kb b0 38 row0 :: X)) := HZ
    clear HZ HD3
    generalize wx3 = w9 at *
    have H10 : Hid (Fz w0 w9.drew (kb RN 89 (gcells (lgS n x.c D).tail (lgS n x.c D).life (lgS n x.c D).fin (.slice qa (lgS n x.c D).txs.length qc)) :: kx (.slice qa (lgS n x.c D).txs.length qc) (lgS n x.c D).txs :: kb b0 38 row0 :: X)) := H9.out.later (below_drawn 1)
    clear H9
    go_wp2_with fail
    refine wp_region_noPanic ?_
    refine wp_region_held_drew (S := fun W => Pv P (some p) x W ∧ LAt 89 W RN (gcells (lgS n x.c D).tail (lgS n x.c D).life (lgS n x.c D).fin (.slice qa (lgS n x.c D).txs.length qc))) (by kernel_rfl) ⟨H10.out.pv (i := i + 3) hi, (H10.out.atb (i := 0) rfl).1⟩ (fun hHeld => ?_)
    generalize w9.drew = w10 at *
    refine tk 0 hHeld ?_
    refine tkl 1 hHeld (fun _ s => lg2 s.2) ?_
    refine tk 2 hHeld ?_
    refine tk 3 hHeld ?_
    refine tk 4 hHeld ?_
    refine tk 5 hHeld ?_
    refine tkl 6 hHeld (fun _ s => s.1.c2) ?_
    refine tk 7 hHeld ?_
    refine tk 8 hHeld ?_
    refine tk 9 hHeld ?_
    refine tkl 10 hHeld (fun _ s => lg1 s.2) ?_
    refine tk 11 hHeld ?_
    refine tk 12 hHeld ?_
    refine tk 13 hHeld ?_
    clear hHeld
    refine wpAnyH_done (by kernel_rfl) (NoPanic.normal ?_) _
    have HW1 : Hid (IntKind.u64.wrap x.c.lc = x.c.lc) := by show _ = _; rw [IntKind.wrap_u64]; omega
    have HW2 : Hid (IntKind.u64.wrap ((lgS n x.c D).fin + x.c.lc) = (lgS n x.c D).fin + x.c.lc) := by have a := hlw.f; have b := hbd.1; show _ = _; rw [IntKind.wrap_u64]; unfold u64 at a; omega
    have HW3 : Hid (IntKind.u64.wrap ((lgS n x.c D).life + 1) = (lgS n x.c D).life + 1) := by have a := hlw.lf; have b := hbd.2; show _ = _; rw [IntKind.wrap_u64]; unfold u64 at a; omega
    rw [HW1.out, HW2.out, HW3.out]
    have c1 : ¬ 4611686018427387904 < (lgS n x.c D).fin + x.c.lc := fun e => hw (.inl e)
    have c2 : ¬ 4611686018427387904 < (lgS n x.c D).life + 1 := fun e => hw (.inr e)
    obtain ⟨a0, m0, h11⟩ := Fz.openr (i := i + 3) H10.out hi HL0.out
    have hlen := (List.getElem?_eq_some_iff.1 hi).1
    have hP := (h11.atb (i := i + 3) (List.getElem?_set_self (by simpa using hlen))).1
    have k7 : w10.cell? ⟨P, 7, none⟩ = some (.int .u64 (tlS x)) := by rw [LAt.cell hP 7]; rfl
    have k8 : w10.cell? ⟨P, 8, none⟩ = some (.int .u64 (lfS x)) := by rw [LAt.cell hP 8]; rfl
    have z7 : w10.frozen? ⟨P, 7, none⟩ = false := frozen_row hP
    have h12 := Fz.cell (i := i + 3) h11 (List.getElem?_set_self (by simpa using hlen)) 7 (.int .u64 ((lgS n x.c D).fin + x.c.lc))
    rw [List.set_set] at h12
    have hP2 := (h12.atb (i := i + 3) (List.getElem?_set_self (by simpa using hlen))).1
    have z8 : (w10.setCell ⟨P, 7, none⟩ (.int .u64 ((lgS n x.c D).fin + x.c.lc))).frozen? ⟨P, 8, none⟩ = false := frozen_row hP2
    have l8 : (w10.setCell ⟨P, 7, none⟩ (.int .u64 ((lgS n x.c D).fin + x.c.lc))).cell? ⟨P, 8, none⟩ = some (.int .u64 (lfS x)) := by rw [LAt.cell hP2 8]; rfl
    have h13 := Fz.cell (i := i + 3) h12 (List.getElem?_set_self (by simpa using hlen)) 8 (.int .u64 ((lgS n x.c D).life + 1))
    rw [List.set_set] at h13
    obtain ⟨w11, hw11⟩ : ∃ W, (w10.setCell ⟨P, 7, none⟩ (.int .u64 ((lgS n x.c D).fin + x.c.lc))).setCell ⟨P, 8, none⟩ (.int .u64 ((lgS n x.c D).life + 1)) = W := ⟨_, rfl⟩
    rw [hw11] at h13
    have H13 : Hid (Fz w0 w11 (kb RN 89 (gcells (lgS n x.c D).tail (lgS n x.c D).life (lgS n x.c D).fin (.slice qa (lgS n x.c D).txs.length qc)) :: kx (.slice qa (lgS n x.c D).txs.length qc) (lgS n x.c D).txs :: kb b0 38 row0 :: X.set i (kb P 58 [qp p, .int .i64 x.c.bl, .int .i64 x.c.lc, .int .i64 x.c.mr, .int .i64 x.c.hi, .int .i64 x.c.cl, .int .i64 x.st, .int .u64 ((lgS n x.c D).fin + x.c.lc), .int .u64 ((lgS n x.c D).life + 1), .slice a0 0 m0]))) := h13
    have r3 := lg3 (h13.atb (i := 0) rfl).1
    clear h11 h12 h13 hP hP2 H10 HW1 HW2 HW3
    go_wp2_with fail
    refine (p_newest (j := 1) H13.out rfl HLN.out.1 HLN.out.2).mono ?_
    rintro e w12 ⟨v, rfl, h14⟩
    obtain ⟨t, G, rfl, ho, -⟩ := h14.at (i := 0) rfl
    obtain ⟨av, cv, ev, -⟩ := IOwn.in ho HWN.out
    subst ev
    have H14 : Hid (Fz w0 w12 (ko (.slice av (nwS (flat (lgS n x.c D).txs)).length cv) (nwS (flat (lgS n x.c D).txs)) :: kb RN 89 (gcells (lgS n x.c D).tail (lgS n x.c D).life (lgS n x.c D).fin (.slice qa (lgS n x.c D).txs.length qc)) :: kx (.slice qa (lgS n x.c D).txs.length qc) (lgS n x.c D).txs :: kb b0 38 row0 :: X.set i (kb P 58 [qp p, .int .i64 x.c.bl, .int .i64 x.c.lc, .int .i64 x.c.mr, .int .i64 x.c.hi, .int .i64 x.c.cl, .int .i64 x.st, .int .u64 ((lgS n x.c D).fin + x.c.lc), .int .u64 ((lgS n x.c D).life + 1), .slice a0 0 m0]))) := h14
    have hP := (h14.atb (i := i + 4) (List.getElem?_set_self (by simpa using hlen))).1
    have k9 : w12.cell? ⟨P, 9, none⟩ = some (.slice a0 0 m0) := by rw [LAt.cell hP 9]; rfl
    have z9 : w12.frozen? ⟨P, 9, none⟩ = false := frozen_row hP
    have h15 := Fz.cell (i := i + 4) H14.out (List.getElem?_set_self (by simpa using hlen)) 9 (.slice av (nwS (flat (lgS n x.c D).txs)).length cv)
    simp only [List.set_cons_succ, List.set_set] at h15
    obtain ⟨w13, hw13⟩ : ∃ W, w12.setCell ⟨P, 9, none⟩ (.slice av (nwS (flat (lgS n x.c D).txs)).length cv) = W := ⟨_, rfl⟩
    rw [hw13] at h15
    have H15 : Hid (Fz w0 w13 (ko (.slice av (nwS (flat (lgS n x.c D).txs)).length cv) (nwS (flat (lgS n x.c D).txs)) :: kb RN 89 (gcells (lgS n x.c D).tail (lgS n x.c D).life (lgS n x.c D).fin (.slice qa (lgS n x.c D).txs.length qc)) :: kx (.slice qa (lgS n x.c D).txs.length qc) (lgS n x.c D).txs :: kb b0 38 row0 :: X.set i (kb P 58 [qp p, .int .i64 x.c.bl, .int .i64 x.c.lc, .int .i64 x.c.mr, .int .i64 x.c.hi, .int .i64 x.c.cl, .int .i64 x.st, .int .u64 ((lgS n x.c D).fin + x.c.lc), .int .u64 ((lgS n x.c D).life + 1), .slice av (nwS (flat (lgS n x.c D).txs)).length cv]))) := h15
    clear h14 h15 hP H14 ho H13
    go_wp2_with fail
    refine (homeward_raw (H15.out.atb (i := i + 4) (List.getElem?_set_self (by simpa using hlen))).1).mono ?_
    rintro e w14 ⟨⟨u, rfl⟩, hw14⟩
    have h16 := (H15.out.atb (i := i + 4) (List.getElem?_set_self (by simpa using hlen))).2.2.2 [qp p, .int .i64 x.c.bl, .int .i64 x.c.lc, .int .i64 x.c.mr, .int .i64 x.c.hi, .int .i64 x.c.cl, .int .i64 (aftS (nwS (flat (lgS n x.c D).txs))), .int .u64 ((lgS n x.c D).fin + x.c.lc), .int .u64 ((lgS n x.c D).life + 1), .slice av (nwS (flat (lgS n x.c D).txs)).length cv]
    have e14 : w13.setRow P ([qp p, .int .i64 x.c.bl, .int .i64 x.c.lc, .int .i64 x.c.mr, .int .i64 x.c.hi, .int .i64 x.c.cl, .int .i64 (aftS (nwS (flat (lgS n x.c D).txs))), .int .u64 ((lgS n x.c D).fin + x.c.lc), .int .u64 ((lgS n x.c D).life + 1), .slice av (nwS (flat (lgS n x.c D).txs)).length cv]).toArray = w14 := hw14.symm
    rw [e14] at h16
    simp only [List.set_cons_succ, List.set_set] at h16
    rw [← HPC.out] at h16
    have h17 := Fz.shut (x := readR n x D) (i := i + 3) h16 (List.getElem?_set_self (by simpa using hlen)) rfl HWN.out
    simp only [List.set_cons_succ, List.set_set] at h17
    have H17 : Hid (Fz w0 w14 (kb RN 89 (gcells (lgS n x.c D).tail (lgS n x.c D).life (lgS n x.c D).fin (.slice qa (lgS n x.c D).txs.length qc)) :: kx (.slice qa (lgS n x.c D).txs.length qc) (lgS n x.c D).txs :: kb b0 38 row0 :: X.set i (kr P (some p) (readR n x D)))) := h17
    have r2 := lg2 (h17.atb (i := 0) rfl).1
    have r3 := lg3 (h17.atb (i := 0) rfl).1
    have HBD : Hid (_) := build_row67 w14 19 (lgS n x.c D).fin (lgS n x.c D).txs.length
    obtain ⟨wz, hst, hlz, hfz⟩ := (Fz.pop (Fz.pop H17.out)).laid (r := ⟨19, -1, zv, (lgS n x.c D).fin, (lgS n x.c D).txs.length⟩) (zs_len 32)
    have HST : Hid (_) := hst
    have HLz : Hid (_) := hlz
    have HFz : Hid (_) := hfz
    clear hst hlz hfz h16 h17 H17 H15 hw14
    go_wp2_with ((with_reducible refine at_ops ?_); (first | (refine wpList_build_is (vs := [(0, .int .i64 19), (4, .int .i64 (-1)), (6, .int .u64 (lgS n x.c D).fin), (7, .int .i64 (lgS n x.c D).txs.length)]) (by rfl) 38 rfl (by rfl) HBD.out ?_) | (refine wpList_store_is (by rfl) 38 rfl rfl rfl HST.out ?_)); simp only [Act.put, List.setIfInBounds_toArray, List.set_cons_zero, List.set_cons_succ])
    (try simp only [Exit.inBlock, Exit.then])
    exact bodyPost_ret (results_lat Tryd.results24 _ _ _ 38 _ _ (by rfl) HLz.out Tryd.underlying38 rfl (by rw [size_row, rowc_len (zs_len 32)])) rfl ⟨rfl, HFz.out⟩
end
end Go.Proofs.YtdadpepfpiimgaaDoor.Q
namespace Go.Proofs.YtdadpepfpiimgaaDoor.Q
open Go.RowKit
section
variable {w0 w : World} {X : List Kd} {i j P p n : Nat} {q : Option Nat} {D : Dd} {x : Rc}
set_option maxHeartbeats 2000000 in
set_option maxRecDepth 100000 in
theorem state_nil (w : World) : Calls Tryd.prog 12 #[.pointer none] w fun e w' => e = .returned (.int .i64 0) ∧ w' = w := by
  go_enter Tryd.func12, Tryd.ntmps12
  go_wp2
  go_ret
  exact ⟨rfl, rfl⟩
set_option maxHeartbeats 2000000 in
set_option maxRecDepth 100000 in
theorem state_at (h : Fz w0 w X) (hi : X[i]? = some (kr P q x)) : Calls Tryd.prog 12 #[qp P] w fun e w' => e = .returned (.int .i64 x.st) ∧ w' = w := by
  obtain ⟨G, v, hp, -⟩ := h.atr hi
  have c6 := hp.c6
  clear h hp
  go_enter Tryd.func12, Tryd.ntmps12
  go_wp2
  go_ret
  exact ⟨rfl, rfl⟩
set_option maxHeartbeats 2000000 in
set_option maxRecDepth 100000 in
theorem result_nil (w : World) : Calls Tryd.prog 11 #[.pointer none] w fun e w' => e = .returned (.tuple #[.int .u64 0, .int .u64 0, .bool false]) ∧ w' = w := by
  go_enter Tryd.func11, Tryd.ntmps11
  go_wp2_with fail
  refine (state_nil _).mono ?_
  rintro e w' ⟨rfl, hw'⟩
  rw [hw']
  clear hw' w'
  go_wp2
  go_ret3
  exact ⟨rfl, rfl⟩
def resS (x : Rc) : Int × Int × Bool := if x.st = 6 then (x.en + x.c.lc, x.li + 1, true) else (0, 0, false)
set_option maxHeartbeats 2000000 in
set_option maxRecDepth 100000 in
theorem result_at (h : Fz w0 w X) (hi : X[i]? = some (kr P q x)) : Calls Tryd.prog 11 #[qp P] w fun e w' => e = .returned (.tuple #[.int .u64 (resS x).1, .int .u64 (resS x).2.1, .bool (resS x).2.2]) ∧ Fz w0 w' X := by
  have HF : Hid (Fz w0 w X) := h
  clear h
  go_enter Tryd.func11, Tryd.ntmps11
  go_wp2_with fail
  refine (state_at HF.out hi).mono ?_
  rintro e w' ⟨rfl, hw'⟩
  rw [hw']
  clear hw' w'
  by_cases h6 : x.st = 6
  · have hr : resS x = (x.en + x.c.lc, x.li + 1, true) := if_pos h6
    have HN : Hid (x.st ≠ 1) := by show x.st ≠ 1; omega
    have HF2 : Hid (Fz w0 w.drew X) := HF.out.later (below_drawn 1)
    clear HF
    go_wp2_with fail
    refine wp_region_noPanic ?_
    refine wp_region_held_drew (S := fun W => Pv P q x W) (by kernel_rfl) (HF2.out.pv hi) (fun hHeld => ?_)
    generalize w.drew = w2 at *
    refine tk 0 hHeld ?_
    refine tk 1 hHeld ?_
    refine tk 2 hHeld ?_
    refine tkl 3 hHeld (fun _ s => s.t7 HN.out) ?_
    refine tk 4 hHeld ?_
    refine tk 5 hHeld ?_
    refine tk 6 hHeld ?_
    refine tkl 7 hHeld (fun _ s => s.t8 HN.out) ?_
    refine tk 8 hHeld ?_
    refine tk 9 hHeld ?_
    refine tk 10 hHeld ?_
    clear hHeld
    refine wpAnyH_done (by kernel_rfl) (NoPanic.normal ?_) _
    go_wp2
    go_ret3
    exact ⟨by rw [hr]; rfl, HF2.out⟩
  · have hr : resS x = (0, 0, false) := if_neg h6
    go_wp2
    go_ret3
    exact ⟨by rw [hr]; rfl, HF.out⟩
set_option maxHeartbeats 2000000 in
set_option maxRecDepth 100000 in
theorem clone_any {a : Option Addr} {m c : Nat} {l : List Im} (h : MIn w a m l) (hm : m ≤ 3000000) : Calls Tryd.prog 25 #[.slice a m c] w fun e w' => ∃ v, e = .returned v ∧ IOwn w' w.heap.size v l ∧ Below w.heap.size w w' := by
  cases a with
  | none =>
    have hm0 : m = 0 := by
      rcases Nat.eq_zero_or_pos m with e | e
      · exact e
      · obtain ⟨b, o, e, -⟩ := h.cells e; cases e
    subst hm0
    have hl : l = [] := List.length_eq_zero_iff.1 h.len
    subst hl
    clear h
    have hnn : ∀ w : World, (binOp BinOp.eql 46 (.slice none 0 c) (.slice none 0 0)).run Tryd.prog w = .ok (.bool true) w := fun w => by kernel_rfl
    go_enter Tryd.func25, Tryd.ntmps25
    go_wp2
    go_ret
    exact ⟨_, rfl, World.ownsRow_nil _ _ _ _, Below.refl _ _⟩
  | some a =>
    obtain ⟨q', c', w', hr, ho, hb⟩ := app_copy (c := c) h hm
    have HR : Hid (_) := hr
    have HO : Hid (_) := ho
    have HB : Hid (_) := hb
    have hnn : ∀ w : World, (binOp BinOp.eql 46 (.slice (some a) m c) (.slice none 0 0)).run Tryd.prog w = .ok (.bool false) w := fun w => by kernel_rfl
    clear hr ho hb h
    go_enter Tryd.func25, Tryd.ntmps25
    go_wp2_with ((with_reducible refine at_ops ?_); (refine wpList_append_is (by rfl) rfl rfl rfl rfl HR.out ?_); simp only [Act.put, List.setIfInBounds_toArray, List.set_cons_zero, List.set_cons_succ])
    go_ret
    exact ⟨_, rfl, HO.out, HB.out⟩
set_option maxHeartbeats 2000000 in
set_option maxRecDepth 100000 in
theorem left_nil (w : World) : Calls Tryd.prog 13 #[.pointer none] w fun e w' => e = .returned (.slice none 0 0) ∧ w' = w := by
  go_enter Tryd.func13, Tryd.ntmps13
  go_wp2
  go_ret
  exact ⟨rfl, rfl⟩
set_option maxHeartbeats 2000000 in
set_option maxRecDepth 100000 in
theorem left_at (h : Fz w0 w X) (hi : X[i]? = some (kr P q x)) (hn : x.left.length ≤ 3000000) : Calls Tryd.prog 13 #[qp P] w fun e w' => ∃ v, e = .returned v ∧ Fz w0 w' (ko v x.left :: X) := by
  obtain ⟨G, v, hp, -⟩ := h.atr hi
  have c9 := hp.c9
  obtain ⟨a, c, e, hm, -⟩ := hp.lf.ex
  rw [e] at c9
  have HM : Hid (MIn w a x.left.length x.left) := hm
  have HF : Hid (Fz w0 w X) := h
  clear h hp hm e
  go_enter Tryd.func13, Tryd.ntmps13
  go_wp2_with fail
  refine (clone_any HM.out hn).mono ?_
  rintro e w' ⟨v', rfl, ho, hb⟩
  have HZ : Hid (Fz w0 w' (ko v' x.left :: X)) := HF.out.push hb (u := .ims v' _) (fun _ => own_zero ho) (fun b hb => (World.ownsRow.lt ho b hb).1) rfl
  clear ho hb
  go_wp2
  go_ret
  exact ⟨_, rfl, HZ.out⟩
end
end Go.Proofs.YtdadpepfpiimgaaDoor.Q
