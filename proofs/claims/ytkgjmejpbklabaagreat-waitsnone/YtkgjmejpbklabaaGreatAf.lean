/-
  Layer 13: New.
-/
import Derived.Test.YtkgjmejpbklabaaGreatN15
namespace Go.Proofs.YtkgjmejpbklabaaGreat.M
open Go.RowKit
abbrev cfgV (bl lc mr hi cl : Int) : Value := .agg #[.int .i64 bl, .int .i64 lc, .int .i64 mr, .int .i64 hi, .int .i64 cl]
abbrev cfgO (bl lc mr hi cl : Int) : Obj := .cells #[.int .i64 bl, .int .i64 lc, .int .i64 mr, .int .i64 hi, .int .i64 cl] 27
theorem form0 {bl mr : Int} (h : B.mayS bl mr = true) : B.formS [0] bl mr = ([0], 0) := by
  have h' : 1 ≤ bl ∧ bl ≤ 64 ∧ 1 ≤ mr ∧ mr ≤ 16 ∧ mr ≤ bl := by simpa [B.mayS] using h
  have e1 : B.belS [0] bl = true := by simp [B.belS]; omega
  have e2 : B.diffS [0] = [0] := rfl
  unfold B.formS
  rw [if_neg (by rw [h]; simp)]
  simp [e1, e2]
  omega
theorem formBad {bl mr : Int} (h : B.mayS bl mr = false) : B.formS [0] bl mr = ([], 2) := by
  unfold B.formS
  rw [if_pos h]
section
variable {bl lc mr hi cl : Int}
set_option maxHeartbeats 1000000 in
set_option maxRecDepth 100000 in
theorem roomOf_form (w : World) (h : B.mayS bl mr = false) : Calls Tryz.prog 20 #[cfgV bl lc mr hi cl] w fun e w' => ∃ v, e = .returned (.tuple #[v, .bool false]) ∧ Below w.heap.size w w' := by
  have HF : Hid (B.formS [0] bl mr = ([], 2)) := formBad h
  clear h
  have HI : Hid (B.IIn ((w.alloc (cfgO bl lc mr hi cl)).alloc (.cells #[.int .i64 0] 3)) (some ⟨w.heap.size + 1, 0, none⟩) 1 [0]) := by
    have := B.lit_in (w.alloc (cfgO bl lc mr hi cl)) [0] 1 rfl
    rw [World.size_alloc] at this
    exact this
  go_enter Tryz.func20, Tryz.ntmps20
  go_wp2_with (go_at_call 46; refine (B.form_is _ 1 1 [0] bl mr [] 2 HF.out _ (by omega) HI.out).mono ?_; rintro e w2 ⟨q, d, rfl, hm⟩; have HB : Hid (Below w.heap.size w w2) := below_then (below_alloc w _) (below_then (below_alloc _ _) hm.below); have cc : ∀ o, w2.cell? ⟨w.heap.size, o, none⟩ = (#[Value.int .i64 bl, .int .i64 lc, .int .i64 mr, .int .i64 hi, .int .i64 cl] : Array Value)[o]? := fun o => ((hm.below.cell (p := ⟨w.heap.size, o, none⟩) (by simp; omega)).trans ((below_alloc (w.alloc (cfgO bl lc mr hi cl)) (.cells #[.int .i64 0] 3)).cell (p := ⟨w.heap.size, o, none⟩) (by simp))).trans (cell_of_row _ w.heap.size o _ 27 (0, 0) (heap_alloc_new w _)); have c1 : w2.cell? ⟨w.heap.size, 1, none⟩ = some (.int .i64 lc) := cc 1; have c2 : w2.cell? ⟨w.heap.size, 2, none⟩ = some (.int .i64 mr) := cc 2; have c3 : w2.cell? ⟨w.heap.size, 3, none⟩ = some (.int .i64 hi) := cc 3; have c4 : w2.cell? ⟨w.heap.size, 4, none⟩ = some (.int .i64 cl) := cc 4; have hlt2 : w.heap.size < w2.heap.size := World.block_lt_of_cell? w2 _ c1; clear hm cc)
  go_ret2
  exact ⟨_, rfl, HB.out⟩
set_option maxHeartbeats 1000000 in
set_option maxRecDepth 100000 in
theorem roomOf_new (w : World) (h : B.mayS bl mr = true) (h2 : ¬ L.mayNew lc hi) : Calls Tryz.prog 20 #[cfgV bl lc mr hi cl] w fun e w' => ∃ v, e = .returned (.tuple #[v, .bool false]) ∧ Below w.heap.size w w' := by
  have HF : Hid (B.formS [0] bl mr = ([0], 0)) := form0 h
  have H2 : Hid (¬ L.mayNew lc hi) := h2
  clear h h2
  have HI : Hid (B.IIn ((w.alloc (cfgO bl lc mr hi cl)).alloc (.cells #[.int .i64 0] 3)) (some ⟨w.heap.size + 1, 0, none⟩) 1 [0]) := by
    have := B.lit_in (w.alloc (cfgO bl lc mr hi cl)) [0] 1 rfl
    rw [World.size_alloc] at this
    exact this
  go_enter Tryz.func20, Tryz.ntmps20
  go_wp2_with (first
    | (go_at_call 46; refine (B.form_is _ 1 1 [0] bl mr [0] 0 HF.out _ (by omega) HI.out).mono ?_; rintro e w2 ⟨q, d, rfl, hm⟩; have HB : Hid (Below w.heap.size w w2) := below_then (below_alloc w _) (below_then (below_alloc _ _) hm.below); have cc : ∀ o, w2.cell? ⟨w.heap.size, o, none⟩ = (#[Value.int .i64 bl, .int .i64 lc, .int .i64 mr, .int .i64 hi, .int .i64 cl] : Array Value)[o]? := fun o => ((hm.below.cell (p := ⟨w.heap.size, o, none⟩) (by simp; omega)).trans ((below_alloc (w.alloc (cfgO bl lc mr hi cl)) (.cells #[.int .i64 0] 3)).cell (p := ⟨w.heap.size, o, none⟩) (by simp))).trans (cell_of_row _ w.heap.size o _ 27 (0, 0) (heap_alloc_new w _)); have c1 : w2.cell? ⟨w.heap.size, 1, none⟩ = some (.int .i64 lc) := cc 1; have c2 : w2.cell? ⟨w.heap.size, 2, none⟩ = some (.int .i64 mr) := cc 2; have c3 : w2.cell? ⟨w.heap.size, 3, none⟩ = some (.int .i64 hi) := cc 3; have c4 : w2.cell? ⟨w.heap.size, 4, none⟩ = some (.int .i64 cl) := cc 4; have hlt2 : w.heap.size < w2.heap.size := World.block_lt_of_cell? w2 _ c1; clear hm cc)
    | (go_at_call 47; refine (L.new_bad _ H2.out).mono ?_; rintro e w3 ⟨rfl, rfl⟩))
  go_ret2
  exact ⟨_, rfl, HB.out⟩
set_option maxHeartbeats 1000000 in
set_option maxRecDepth 100000 in
theorem roomOf_cl1 (w : World) (h : B.mayS bl mr = true) (h2 : L.mayNew lc hi) (h3 : cl < 1) : Calls Tryz.prog 20 #[cfgV bl lc mr hi cl] w fun e w' => ∃ v, e = .returned (.tuple #[v, .bool false]) ∧ Below w.heap.size w w' := by
  have HF : Hid (B.formS [0] bl mr = ([0], 0)) := form0 h
  have H2 : Hid (L.mayNew lc hi) := h2
  clear h h2
  have HI : Hid (B.IIn ((w.alloc (cfgO bl lc mr hi cl)).alloc (.cells #[.int .i64 0] 3)) (some ⟨w.heap.size + 1, 0, none⟩) 1 [0]) := by
    have := B.lit_in (w.alloc (cfgO bl lc mr hi cl)) [0] 1 rfl
    rw [World.size_alloc] at this
    exact this
  go_enter Tryz.func20, Tryz.ntmps20
  go_wp2_with (first
    | (go_at_call 46; refine (B.form_is _ 1 1 [0] bl mr [0] 0 HF.out _ (by omega) HI.out).mono ?_; rintro e w2 ⟨q, d, rfl, hm⟩; have HB : Hid (Below w.heap.size w w2) := below_then (below_alloc w _) (below_then (below_alloc _ _) hm.below); have cc : ∀ o, w2.cell? ⟨w.heap.size, o, none⟩ = (#[Value.int .i64 bl, .int .i64 lc, .int .i64 mr, .int .i64 hi, .int .i64 cl] : Array Value)[o]? := fun o => ((hm.below.cell (p := ⟨w.heap.size, o, none⟩) (by simp; omega)).trans ((below_alloc (w.alloc (cfgO bl lc mr hi cl)) (.cells #[.int .i64 0] 3)).cell (p := ⟨w.heap.size, o, none⟩) (by simp))).trans (cell_of_row _ w.heap.size o _ 27 (0, 0) (heap_alloc_new w _)); have c1 : w2.cell? ⟨w.heap.size, 1, none⟩ = some (.int .i64 lc) := cc 1; have c2 : w2.cell? ⟨w.heap.size, 2, none⟩ = some (.int .i64 mr) := cc 2; have c3 : w2.cell? ⟨w.heap.size, 3, none⟩ = some (.int .i64 hi) := cc 3; have c4 : w2.cell? ⟨w.heap.size, 4, none⟩ = some (.int .i64 cl) := cc 4; have hlt2 : w.heap.size < w2.heap.size := World.block_lt_of_cell? w2 _ c1; clear hm cc)
    | (go_at_call 47; refine (L.new_ok _ H2.out).mono ?_; rintro e w3 ⟨rfl, h3', h4⟩; have HB3 : Hid (Below w.heap.size w w3) := below_then HB.out h4; have d4 : w3.cell? ⟨w.heap.size, 4, none⟩ = some (.int .i64 cl) := (h4.cell (p := ⟨w.heap.size, 4, none⟩) hlt2).trans c4; clear h3' h4))
  go_ret2
  exact ⟨_, rfl, HB3.out⟩
set_option maxHeartbeats 1000000 in
set_option maxRecDepth 100000 in
theorem roomOf_cl2 (w : World) (h : B.mayS bl mr = true) (h2 : L.mayNew lc hi) (h3 : 8 < cl) : Calls Tryz.prog 20 #[cfgV bl lc mr hi cl] w fun e w' => ∃ v, e = .returned (.tuple #[v, .bool false]) ∧ Below w.heap.size w w' := by
  have HF : Hid (B.formS [0] bl mr = ([0], 0)) := form0 h
  have H2 : Hid (L.mayNew lc hi) := h2
  clear h h2
  have HI : Hid (B.IIn ((w.alloc (cfgO bl lc mr hi cl)).alloc (.cells #[.int .i64 0] 3)) (some ⟨w.heap.size + 1, 0, none⟩) 1 [0]) := by
    have := B.lit_in (w.alloc (cfgO bl lc mr hi cl)) [0] 1 rfl
    rw [World.size_alloc] at this
    exact this
  go_enter Tryz.func20, Tryz.ntmps20
  go_wp2_with (first
    | (go_at_call 46; refine (B.form_is _ 1 1 [0] bl mr [0] 0 HF.out _ (by omega) HI.out).mono ?_; rintro e w2 ⟨q, d, rfl, hm⟩; have HB : Hid (Below w.heap.size w w2) := below_then (below_alloc w _) (below_then (below_alloc _ _) hm.below); have cc : ∀ o, w2.cell? ⟨w.heap.size, o, none⟩ = (#[Value.int .i64 bl, .int .i64 lc, .int .i64 mr, .int .i64 hi, .int .i64 cl] : Array Value)[o]? := fun o => ((hm.below.cell (p := ⟨w.heap.size, o, none⟩) (by simp; omega)).trans ((below_alloc (w.alloc (cfgO bl lc mr hi cl)) (.cells #[.int .i64 0] 3)).cell (p := ⟨w.heap.size, o, none⟩) (by simp))).trans (cell_of_row _ w.heap.size o _ 27 (0, 0) (heap_alloc_new w _)); have c1 : w2.cell? ⟨w.heap.size, 1, none⟩ = some (.int .i64 lc) := cc 1; have c2 : w2.cell? ⟨w.heap.size, 2, none⟩ = some (.int .i64 mr) := cc 2; have c3 : w2.cell? ⟨w.heap.size, 3, none⟩ = some (.int .i64 hi) := cc 3; have c4 : w2.cell? ⟨w.heap.size, 4, none⟩ = some (.int .i64 cl) := cc 4; have hlt2 : w.heap.size < w2.heap.size := World.block_lt_of_cell? w2 _ c1; clear hm cc)
    | (go_at_call 47; refine (L.new_ok _ H2.out).mono ?_; rintro e w3 ⟨rfl, h3', h4⟩; have HB3 : Hid (Below w.heap.size w w3) := below_then HB.out h4; have d4 : w3.cell? ⟨w.heap.size, 4, none⟩ = some (.int .i64 cl) := (h4.cell (p := ⟨w.heap.size, 4, none⟩) hlt2).trans c4; clear h3' h4))
  go_ret2
  exact ⟨_, rfl, HB3.out⟩
set_option maxHeartbeats 1000000 in
set_option maxRecDepth 100000 in
theorem roomOf_fit (w : World) (h : B.mayS bl mr = true) (h2 : L.mayNew lc hi) (h3 : 1 ≤ cl) (h4 : cl ≤ 8) : Calls Tryz.prog 20 #[cfgV bl lc mr hi cl] w fun e w' => ∃ lb lm, e = .returned (.tuple #[qp lb, .bool (decide (mr + 1 ≤ lc))]) ∧ L.LAt w' lb lm 0 (L.newS lc hi) ∧ w.heap.size ≤ lb ∧ w.heap.size ≤ lm ∧ Below w.heap.size w w' := by
  have h' : 1 ≤ bl ∧ bl ≤ 64 ∧ 1 ≤ mr ∧ mr ≤ 16 ∧ mr ≤ bl := by simpa [B.mayS] using h
  have HF : Hid (B.formS [0] bl mr = ([0], 0)) := form0 h
  have H2 : Hid (L.mayNew lc hi) := h2
  have hw : IntKind.i64.wrap (mr + 1) = mr + 1 := by rw [IntKind.wrap_i64]; omega
  have HE : Hid (L.fitsS (L.newS lc hi) (mr + 1) = decide (mr + 1 ≤ lc)) := by
    show _ = _
    simp only [L.fitsS, L.newS, L.total]
    congr 1
    exact propext ⟨fun h => by omega, fun h => by omega⟩
  clear h h2 h'
  have HI : Hid (B.IIn ((w.alloc (cfgO bl lc mr hi cl)).alloc (.cells #[.int .i64 0] 3)) (some ⟨w.heap.size + 1, 0, none⟩) 1 [0]) := by
    have := B.lit_in (w.alloc (cfgO bl lc mr hi cl)) [0] 1 rfl
    rw [World.size_alloc] at this
    exact this
  go_enter Tryz.func20, Tryz.ntmps20
  go_wp2_with (first
    | (go_at_call 46; refine (B.form_is _ 1 1 [0] bl mr [0] 0 HF.out _ (by omega) HI.out).mono ?_; rintro e w2 ⟨q, d, rfl, hm⟩; have HB : Hid (Below w.heap.size w w2) := below_then (below_alloc w _) (below_then (below_alloc _ _) hm.below); have cc : ∀ o, w2.cell? ⟨w.heap.size, o, none⟩ = (#[Value.int .i64 bl, .int .i64 lc, .int .i64 mr, .int .i64 hi, .int .i64 cl] : Array Value)[o]? := fun o => ((hm.below.cell (p := ⟨w.heap.size, o, none⟩) (by simp; omega)).trans ((below_alloc (w.alloc (cfgO bl lc mr hi cl)) (.cells #[.int .i64 0] 3)).cell (p := ⟨w.heap.size, o, none⟩) (by simp))).trans (cell_of_row _ w.heap.size o _ 27 (0, 0) (heap_alloc_new w _)); have c1 : w2.cell? ⟨w.heap.size, 1, none⟩ = some (.int .i64 lc) := cc 1; have c2 : w2.cell? ⟨w.heap.size, 2, none⟩ = some (.int .i64 mr) := cc 2; have c3 : w2.cell? ⟨w.heap.size, 3, none⟩ = some (.int .i64 hi) := cc 3; have c4 : w2.cell? ⟨w.heap.size, 4, none⟩ = some (.int .i64 cl) := cc 4; have hlt2 : w.heap.size < w2.heap.size := World.block_lt_of_cell? w2 _ c1; clear hm cc)
    | (go_at_call 47; refine (L.new_ok _ H2.out).mono ?_; rintro e w3 ⟨rfl, h3', h4'⟩; have HR : Hid (L.LAt w3 (w2.heap.size + 1) w2.heap.size 0 (L.newS lc hi) ∧ w.heap.size ≤ w2.heap.size ∧ Below w.heap.size w w3) := ⟨h3', Nat.le_of_lt hlt2, below_then HB.out h4'⟩; have d4 : w3.cell? ⟨w.heap.size, 4, none⟩ = some (.int .i64 cl) := (h4'.cell (p := ⟨w.heap.size, 4, none⟩) hlt2).trans c4; have d2 : w3.cell? ⟨w.heap.size, 2, none⟩ = some (.int .i64 mr) := (h4'.cell (p := ⟨w.heap.size, 2, none⟩) hlt2).trans c2; clear h3' h4')
    | (go_at_call 42; refine (L.fits_at HR.out.1 (L.Ok.new H2.out) (mr + 1)).mono ?_; rw [HE.out]; rintro e w4 ⟨rfl, nq, rfl⟩))
  go_ret2
  exact ⟨_, _, rfl, HR.out.1.drawn _, by have := HR.out.2.1; omega, HR.out.2.1, below_then HR.out.2.2 (below_drawn _)⟩
theorem mayC_iff : mayC bl lc mr hi cl ↔ B.mayS bl mr = true ∧ L.mayNew lc hi ∧ (1 ≤ cl ∧ cl ≤ 8) ∧ mr + 1 ≤ lc := by
  simp only [mayC, B.mayS, L.mayNew, decide_eq_true_eq]
  omega
theorem roomOf_bad (w : World) (h : ¬ mayC bl lc mr hi cl) : Calls Tryz.prog 20 #[cfgV bl lc mr hi cl] w fun e w' => ∃ v, e = .returned (.tuple #[v, .bool false]) ∧ Below w.heap.size w w' := by
  rw [mayC_iff] at h
  cases h1 : B.mayS bl mr with
  | false => exact roomOf_form w h1
  | true =>
    by_cases h2 : L.mayNew lc hi
    · by_cases h3 : 1 ≤ cl ∧ cl ≤ 8
      · have h4 : ¬ mr + 1 ≤ lc := fun h5 => h ⟨h1, h2, h3, h5⟩
        refine (roomOf_fit w h1 h2 h3.1 h3.2).mono ?_
        rintro e w' ⟨lb, lm, rfl, _, _, _, hb⟩
        exact ⟨_, by rw [decide_eq_false h4], hb⟩
      · rcases (show cl < 1 ∨ 8 < cl by omega) with h4 | h4
        · exact roomOf_cl1 w h1 h2 h4
        · exact roomOf_cl2 w h1 h2 h4
    · exact roomOf_new w h1 h2
theorem roomOf_ok (w : World) (h : mayC bl lc mr hi cl) : Calls Tryz.prog 20 #[cfgV bl lc mr hi cl] w fun e w' => ∃ lb lm, e = .returned (.tuple #[qp lb, .bool true]) ∧ L.LAt w' lb lm 0 (L.newS lc hi) ∧ w.heap.size ≤ lb ∧ w.heap.size ≤ lm ∧ Below w.heap.size w w' := by
  obtain ⟨h1, h2, h3, h4⟩ := mayC_iff.1 h
  have := roomOf_fit w h1 h2 h3.1 h3.2
  rwa [decide_eq_true h4] at this
set_option maxHeartbeats 1000000 in
set_option maxRecDepth 100000 in
theorem new_bad (w : World) (h : ¬ mayC bl lc mr hi cl) : Calls Tryz.prog 6 #[cfgV bl lc mr hi cl] w fun e w' => e = .returned (.tuple #[nilq, .int .i64 3]) ∧ Below w.heap.size w w' := by
  go_enter Tryz.func6, Tryz.ntmps6
  go_wp2_with (go_at_call 20; refine (roomOf_bad _ h).mono ?_; rintro e w2 ⟨v, rfl, hb⟩; have HB : Hid (Below w.heap.size w w2) := below_then (below_alloc w _) hb; clear hb)
  go_ret2
  exact ⟨rfl, HB.out⟩
set_option maxHeartbeats 1000000 in
set_option maxRecDepth 100000 in
theorem new_ok (w : World) (h : mayC bl lc mr hi cl) : Calls Tryz.prog 6 #[cfgV bl lc mr hi cl] w fun e w' => ∃ F, e = .returned (.tuple #[qp F.Q, .int .i64 0]) ∧ PL w' F 0 (newA bl lc mr hi cl) ∧ (∀ b, F.has b → w.heap.size ≤ b) ∧ Below w.heap.size w w' := by
  have HM : Hid (mayC bl lc mr hi cl) := h
  have hmm := @run_makeMap Tryz.prog
  clear h
  go_enter Tryz.func6, Tryz.ntmps6
  go_wp2_with (go_at_call 20; refine (roomOf_ok _ HM.out).mono ?_; rintro e w2 ⟨lb, lm, rfl, hr, h1, h2, hb⟩; have HB : Hid (Below w.heap.size w w2 ∧ L.LAt w2 lb lm 0 (L.newS lc hi) ∧ w.heap.size ≤ lb ∧ w.heap.size ≤ lm) := ⟨below_then (below_alloc w _) hb, hr, by simp at h1; omega, by simp at h2; omega⟩; have cc : ∀ o, w2.cell? ⟨w.heap.size, o, none⟩ = (#[Value.int .i64 bl, .int .i64 lc, .int .i64 mr, .int .i64 hi, .int .i64 cl] : Array Value)[o]? := fun o => (hb.cell (p := ⟨w.heap.size, o, none⟩) (by simp)).trans (cell_of_row _ w.heap.size o _ 27 (0, 0) (heap_alloc_new w _)); have c0 : w2.cell? ⟨w.heap.size, 0, none⟩ = some (.int .i64 bl) := cc 0; have c1 : w2.cell? ⟨w.heap.size, 1, none⟩ = some (.int .i64 lc) := cc 1; have c2 : w2.cell? ⟨w.heap.size, 2, none⟩ = some (.int .i64 mr) := cc 2; have c3 : w2.cell? ⟨w.heap.size, 3, none⟩ = some (.int .i64 hi) := cc 3; have c4 : w2.cell? ⟨w.heap.size, 4, none⟩ = some (.int .i64 cl) := cc 4; have hlt2 : w.heap.size < w2.heap.size := World.block_lt_of_cell? w2 _ c1; clear hr h1 h2 hb cc)
  go_ret2
  have hs2 := HB.out.1.size
  refine ⟨⟨w2.heap.size + 1 + 1 + 1, w2.heap.size, w2.heap.size + 1, w2.heap.size + 1 + 1, lb, lm, nils, nils, fun _ => False⟩, rfl, ?_, ?_, ?_⟩
  · obtain ⟨V, hV⟩ : ∃ V, ((w2.alloc (.cells #[nils, .int .u64 0] 59)).alloc (.cells #[nils, .int .u64 0] 59)).alloc (.map #[] 0) = V := ⟨_, rfl⟩
    have hVs : V.heap.size = w2.heap.size + 1 + 1 + 1 := by rw [← hV]; simp
    have q1 := QAt.new w2 59 (m := 0) (Row.empty w2)
    have q2 := QAt.new (w2.alloc (.cells #[nils, .int .u64 0] 59)) 59 (m := 0) (Row.empty _)
    have m1 := VMp.made ((w2.alloc (.cells #[nils, .int .u64 0] 59)).alloc (.cells #[nils, .int .u64 0] 59))
    have b1 : Below (w2.alloc (.cells #[nils, .int .u64 0] 59)).heap.size (w2.alloc (.cells #[nils, .int .u64 0] 59)) V := by rw [← hV]; exact below_then (below_alloc _ _) (below_alloc _ _)
    have b2 : Below ((w2.alloc (.cells #[nils, .int .u64 0] 59)).alloc (.cells #[nils, .int .u64 0] 59)).heap.size ((w2.alloc (.cells #[nils, .int .u64 0] 59)).alloc (.cells #[nils, .int .u64 0] 59)) V := by rw [← hV]; exact below_alloc _ _
    have b0 : Below w2.heap.size w2 V := below_then (below_alloc w2 _) b1
    have bV := below_alloc V (.cells #[.int .i64 bl, .int .i64 lc, .int .i64 mr, .int .i64 hi, .int .i64 cl, .int .u64 1, qp w2.heap.size, qp (w2.heap.size + 1), .map (some (w2.heap.size + 1 + 1)), qp lb] 62)
    have st := heap_alloc_new V (.cells #[.int .i64 bl, .int .i64 lc, .int .i64 mr, .int .i64 hi, .int .i64 cl, .int .u64 1, qp w2.heap.size, qp (w2.heap.size + 1), .map (some (w2.heap.size + 1 + 1)), qp lb] 62)
    rw [hV] at m1
    rw [hVs] at st
    simp only [World.size_alloc] at q2 m1
    have hlm := HB.out.2.1.mp.lt
    refine ⟨by rw [hV]; exact st, by rw [hV]; exact (q1.later b1).later bV, by rw [hV]; exact (q2.later b2).later bV, ?_, by rw [hV]; exact (HB.out.2.1.later b0).later bV, Ad.Ok.new HM.out, by show w2.heap.size ≠ w2.heap.size + 1; omega, fun g hg => (by cases hg), by show w2.heap.size + 1 + 1 ≠ lm; omega⟩
    rw [hV]
    exact ⟨_, m1.kept (bV.block _ (by rw [hVs]; omega)), fun t v hv => (by cases hv), fun x hx => (by cases hx)⟩
  · rintro b (rfl | rfl | rfl | e | e | rfl | rfl | rfl)
    · show w.heap.size ≤ w2.heap.size + 1 + 1 + 1; omega
    · exact hs2
    · show w.heap.size ≤ w2.heap.size + 1; omega
    · cases e
    · cases e
    · show w.heap.size ≤ w2.heap.size + 1 + 1; omega
    · exact HB.out.2.2.1
    · exact HB.out.2.2.2
  · exact below_then HB.out.1 (below_then (below_alloc _ _) (below_then (below_alloc _ _) (below_then (below_alloc _ _) (below_alloc _ _))))
end
end Go.Proofs.YtkgjmejpbklabaaGreat.M
