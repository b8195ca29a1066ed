/-
  Layer 17: the comparison, the search among entries that rise.
-/
import Derived.Test.YthcpnfelnonhnaaDoorOa
namespace Go.Proofs.YthcpnfelnonhnaaDoor
open Go.RowKit


set_option maxHeartbeats 2000000 in
set_option maxRecDepth 100000 in
theorem nan_is (x : Int) (w : World) : Calls Tryd.prog 44 #[.int .i64 x] w fun e w' => e = .returned (.bool false) ∧ w' = w := by
  go_enter Tryd.func44, Tryd.ntmps44
  go_wp2
  go_ret
  exact ⟨by simp, rfl⟩
/-- less, equal, greater -/
def cmpS (x y : Int) : Int := if x < y then -1 else if y < x then 1 else 0
theorem cmpS_lt (x y : Int) : cmpS x y < 0 ↔ x < y := by
  unfold cmpS
  by_cases h : x < y
  · simp [h]
  · by_cases h2 : y < x <;> simp [h, h2]
theorem cmpS_eq (x y : Int) : cmpS x y = 0 ↔ x = y := by
  unfold cmpS
  by_cases h : x < y
  · simp [h]; omega
  · by_cases h2 : y < x <;> simp [h, h2] <;> omega
set_option maxHeartbeats 2000000 in
set_option maxRecDepth 100000 in
theorem cmp_is (x y : Int) (w : World) : Calls Tryd.prog 41 #[.int .i64 x, .int .i64 y] w fun e w' => e = .returned (.int .i64 (cmpS x y)) ∧ w' = w := by
  have H : Hid (∀ z, ((x < y ∧ z = -1) ∨ (¬ x < y ∧ y < x ∧ z = 1) ∨ (¬ x < y ∧ ¬ y < x ∧ z = 0)) → cmpS x y = z) := fun z h => by
    unfold cmpS
    rcases h with ⟨h1, rfl⟩ | ⟨h1, h2, rfl⟩ | ⟨h1, h2, rfl⟩ <;> simp [*]
  go_enter Tryd.func41, Tryd.ntmps41
  by_cases h1 : x < y
  · go_wp2_with (go_at_call 44; refine (nan_is _ _).mono ?_; rintro e w' ⟨rfl, rfl⟩)
    go_ret
    exact ⟨by rw [H.out _ (.inl ⟨h1, rfl⟩)]; rfl, rfl⟩
  · by_cases h2 : y < x
    · go_wp2_with (go_at_call 44; refine (nan_is _ _).mono ?_; rintro e w' ⟨rfl, rfl⟩)
      go_ret
      exact ⟨by rw [H.out _ (.inr (.inl ⟨h1, h2, rfl⟩))]; rfl, rfl⟩
    · go_wp2_with (go_at_call 44; refine (nan_is _ _).mono ?_; rintro e w' ⟨rfl, rfl⟩)
      go_ret
      exact ⟨by rw [H.out _ (.inr (.inr ⟨h1, h2, rfl⟩))]; rfl, rfl⟩
set_option maxHeartbeats 2000000 in
set_option maxRecDepth 100000 in
/-- the closure: by the entry's block -/
theorem find1_at (x : En) (b : Int) (w : World) : Calls Tryd.prog 40 #[.agg (ecells x).toArray, .int .i64 b] w fun e w' => e = .returned (.int .i64 (cmpS x.b b)) ∧ Below w.heap.size w w' := by
  have B0 : Hid (Below w.heap.size w (w.alloc (.cells (ecells x).toArray 57))) := below_alloc w _
  have c0 : (w.alloc (.cells (ecells x).toArray 57)).cell? ⟨w.heap.size, 0, none⟩ = some (.int .i64 x.b) := LAt.cell (LAt.new 57 w (ecells x)) 0
  go_enter Tryd.func40, Tryd.ntmps40
  go_wp2_with (go_at_call 41; refine (cmp_is _ _ _).mono ?_; rintro e w' ⟨rfl, rfl⟩)
  go_ret
  exact ⟨rfl, B0.out⟩
abbrev findV : Value := .func (.func 40) #[] #[]
set_option maxHeartbeats 2000000 in
set_option maxRecDepth 100000 in
/-- the search -/
theorem search_at {w : World} {p : Option Addr} {n c : Nat} {L : List En} (h : EIn w p n L) (hu : UpE L) (hn : n ≤ 10000) (b : Int) :
    Calls Tryd.prog 39 #[.slice p n c, .int .i64 b, findV] w fun e w' => e = .returned (.tuple #[.int .i64 (ple L b : Int), .bool (isE L b)]) ∧ Below w.heap.size w w' := by
  have HH : Hid (EIn w p n L) := h
  have HU : Hid (UpE L) := hu
  have HL : Hid (L.length = n) := h.len
  clear h hu
  go_enter Tryd.func39, Tryd.ntmps39
  go_wp2_with fail
  go_loopw [9, 10] (fun v v2 W => ∃ (i j : Nat), v = .int .i64 (i : Int) ∧ v2 = .int .i64 (j : Int) ∧ i ≤ j ∧ j ≤ n ∧ Hid (Below w.heap.size w W) ∧ Hid ((∀ k x, k < i → L[k]? = some x → x.b < b) ∧ (∀ k x, j ≤ k → L[k]? = some x → b ≤ x.b))) (fun v v2 _ => (intOf v2).toNat - (intOf v).toNat)
  case atStart => exact ⟨0, n, rfl, rfl, by omega, by omega, Below.refl _ _, (⟨fun k x hk => absurd hk (Nat.not_lt_zero _), fun k x hk hx => by have := (List.getElem?_eq_some_iff.1 hx).1; have := HL.out; omega⟩ : (∀ k x, k < 0 → L[k]? = some x → x.b < b) ∧ (∀ k x, n ≤ k → L[k]? = some x → b ≤ x.b))⟩
  case round =>
    obtain ⟨i, j, rfl, rfl, h1, h2, HB, HI⟩ := hrel
    by_cases hij : i < j
    · obtain ⟨x, hx⟩ : ∃ x, L[(i + j) / 2]? = some x := ⟨_, List.getElem?_eq_getElem (by rw [HL.out]; omega)⟩
      obtain ⟨b1, o1, rfl, -⟩ := HH.out.cells (by omega)
      have HLd : Hid ((Instr.loadAt 57 (.pointer (some ⟨b1, o1 + (i + j) / 2 * 34, none⟩))).run Tryd.prog wr = .ok (.agg (ecells x).toArray) wr) := EIn.load etC (HH.out.later HB.out) hx
      have HX : Hid (L[(i + j) / 2]? = some x) := hx
      clear hx
      go_wp2_with (first | ((with_reducible refine at_ops ?_); (refine wpList_load_is (by rfl) 57 rfl rfl HLd.out ?_); simp only [Act.put, List.setIfInBounds_toArray, List.set_cons_zero, List.set_cons_succ]))
      refine (find1_at x b wr).mono ?_
      rintro e w' ⟨rfl, bn⟩
      have HB2 : Hid (Below w.heap.size w w') := below_then HB.out bn
      have HC : Hid (cmpS x.b b < 0 ↔ x.b < b) := cmpS_lt _ _
      generalize cmpS x.b b = cc at *
      clear bn HB HLd
      by_cases hcc : cc < 0
      · have HI2 : Hid ((∀ k y, k < (i + j) / 2 + 1 → L[k]? = some y → y.b < b) ∧ (∀ k y, j ≤ k → L[k]? = some y → b ≤ y.b)) := by
          refine ⟨fun k y hk hy => ?_, HI.out.2⟩
          have hxb := HC.out.1 hcc
          by_cases e : k = (i + j) / 2
          · subst e; have := HX.out; rw [hy] at this; cases this; exact hxb
          · obtain ⟨hk2, ek⟩ := List.getElem?_eq_some_iff.1 hy
            obtain ⟨hx2, ex⟩ := List.getElem?_eq_some_iff.1 HX.out
            have := List.pairwise_iff_getElem.1 HU.out k ((i + j) / 2) hk2 hx2 (by omega)
            rw [ek, ex] at this
            omega
        go_wp2_with fail
        go_roundw
        case rel => exact ⟨(i + j) / 2 + 1, j, by congr 1, rfl, by omega, by omega, HB2, HI2⟩
        case measure => simp [intOf]; omega
      · have HI2 : Hid ((∀ k y, k < i → L[k]? = some y → y.b < b) ∧ (∀ k y, (i + j) / 2 ≤ k → L[k]? = some y → b ≤ y.b)) := by
          refine ⟨HI.out.1, fun k y hk hy => ?_⟩
          have hxb : ¬ x.b < b := fun h => hcc (HC.out.2 h)
          by_cases e : k = (i + j) / 2
          · subst e; have := HX.out; rw [hy] at this; cases this; omega
          · obtain ⟨hk2, ek⟩ := List.getElem?_eq_some_iff.1 hy
            obtain ⟨hx2, ex⟩ := List.getElem?_eq_some_iff.1 HX.out
            have := List.pairwise_iff_getElem.1 HU.out ((i + j) / 2) k hx2 hk2 (by omega)
            rw [ek, ex] at this
            omega
        go_wp2_with fail
        go_roundw
        case rel => exact ⟨i, (i + j) / 2, rfl, by congr 1, by omega, by omega, HB2, HI2⟩
        case measure => simp [intOf]; omega
    · obtain rfl : i = j := by omega
      have hp : i = ple L b := ple_is HU.out (by rw [HL.out]; exact h2) HI.out.1 HI.out.2
      have HP : Hid (ple L b = i) := hp.symm
      clear hp HI h1
      by_cases hin : i < n
      · obtain ⟨x, hx⟩ : ∃ x, L[i]? = some x := ⟨_, List.getElem?_eq_getElem (by rw [HL.out]; omega)⟩
        obtain ⟨b1, o1, rfl, -⟩ := HH.out.cells (by omega)
        have HLd : Hid ((Instr.loadAt 57 (.pointer (some ⟨b1, o1 + i * 34, none⟩))).run Tryd.prog wr = .ok (.agg (ecells x).toArray) wr) := EIn.load etC (HH.out.later HB.out) hx
        have HA : Hid (isE L b = (cmpS x.b b == 0)) := by
          show _ = _
          unfold isE
          rw [HP.out, hx, Bool.eq_iff_iff]
          simp [cmpS_eq]
        clear hx
        go_wp2_with (first | ((with_reducible refine at_ops ?_); (refine wpList_load_is (by rfl) 57 rfl rfl HLd.out ?_); simp only [Act.put, List.setIfInBounds_toArray, List.set_cons_zero, List.set_cons_succ]))
        refine (find1_at x b wr).mono ?_
        rintro e w' ⟨rfl, bn⟩
        have HB2 : Hid (Below w.heap.size w w') := below_then HB.out bn
        generalize cmpS x.b b = cc at *
        clear bn HB HLd
        go_wp2_with fail
        go_ret2
        exact ⟨by rw [HP.out, HA.out]; rfl, HB2.out⟩
      · have HA : Hid (isE L b = false) := by
          show _ = _
          unfold isE
          rw [HP.out, List.getElem?_eq_none (by rw [HL.out]; omega)]
          rfl
        go_wp2_with fail
        go_ret2
        exact ⟨by rw [HP.out, HA.out]; rfl, HB.out⟩
end Go.Proofs.YthcpnfelnonhnaaDoor
