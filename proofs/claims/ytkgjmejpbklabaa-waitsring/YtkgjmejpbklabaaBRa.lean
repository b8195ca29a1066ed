/-
  Layer 5: contracts of what only reads: Has, Next, Same, allBelow, mayBeStore.
-/
import Derived.Test.YtkgjmejpbklabaaBa
namespace Go.Proofs.Ytkgjmejpbklabaa.B
open Go.RowKit
/-- Has -/
def hasS (xs : List Int) (b : Int) : Bool := decide (b ∈ xs)
theorem hasS_iff {xs : List Int} {b : Int} : hasS xs b = true ↔ b ∈ xs := by unfold hasS; rw [decide_eq_true_eq]
theorem has_at {xs : List Int} {b : Int} {k : Nat} (hk : k < xs.length) (h : xs.getD k 0 = b) : hasS xs b = true := by
  rw [hasS_iff, ← h, List.getD, List.getElem?_eq_getElem hk]
  exact List.getElem_mem hk
theorem has_none {xs : List Int} {b : Int} (h : ∀ j, j < xs.length → xs.getD j 0 ≠ b) : hasS xs b = false := by
  cases e : hasS xs b with
  | false => rfl
  | true =>
    rw [hasS_iff] at e
    obtain ⟨i, hi, he⟩ := List.getElem_of_mem e
    exact absurd (by simp [List.getD, List.getElem?_eq_getElem hi, he]) (h i hi)
theorem not_snoc {xs : List Int} {b x : Int} {k : Nat} (h : ∀ j, j < k → xs.getD j 0 ≠ b) (hx : xs.getD k 0 = x) (hne : ¬ x = b) : ∀ j, j < k + 1 → xs.getD j 0 ≠ b := by
  intro j hj
  by_cases e : j = k
  · subst e; rw [hx]; exact hne
  · exact h j (by omega)
set_option maxHeartbeats 1000000 in
set_option maxRecDepth 100000 in
theorem index_is (p : Option Addr) (n c : Nat) (xs : List Int) (b : Int) (w : World) (h : IIn w p n xs) (hn : n ≤ 140737488355328) :
    Calls Try.prog 46 #[.slice p n c, .int .i64 b] w fun e w' => ∃ j, e = .returned (.int .i64 j) ∧ (0 ≤ j ↔ hasS xs b = true) ∧ w = w' := by
  have HH : Hid (IIn w p n xs) := h
  clear h
  go_enter Try.func46, Try.ntmps46
  go_wp2
  go_loop [8] (fun i => ∃ k : Nat, k ≤ n ∧ i = .int .i64 k ∧ Hid (∀ j, j < k → xs.getD j 0 ≠ b)) (fun i => n - (intOf i).toNat)
  case atStart => exact ⟨0, Nat.zero_le _, rfl, fun j hj => absurd hj (Nat.not_lt_zero _)⟩
  case round =>
    obtain ⟨k, hk, rfl, HT⟩ := hrel
    by_cases hlt : k < n
    · have hlen := HH.out.len
      obtain ⟨b', o, rfl, hcs⟩ := HH.out.cells (by omega)
      have hc := hcs k hlt
      have HN : Hid (¬ xs.getD k 0 = b → ∀ j, j < k + 1 → xs.getD j 0 ≠ b) := fun e => not_snoc HT.out rfl e
      have HY : Hid (xs.getD k 0 = b → hasS xs b = true) := fun e => has_at (by omega) e
      clear hcs hlen HH HT
      generalize xs.getD k 0 = x at *
      by_cases hx : x = b
      · subst hx
        have E : Hid (hasS xs x = true) := HY.out rfl
        clear HN HY
        go_wp2
        go_ret
        exact ⟨_, rfl, by rw [E.out]; simp, rfl⟩
      · have E : Hid (∀ j, j < k + 1 → xs.getD j 0 ≠ b) := HN.out hx
        clear HN HY
        have hb : (b == x) = false := by simpa using fun e => hx e.symm
        go_wp2
        go_round
        case rel => exact ⟨k + 1, by omega, by go_num, E⟩
        case measure => simp [intOf]; omega
    · obtain rfl : k = n := by omega
      have E : Hid (hasS xs b = false) := has_none fun j hj => HT.out j (by have := HH.out.len; omega)
      go_wp2
      go_ret
      exact ⟨_, rfl, by rw [E.out]; simp, rfl⟩
set_option maxHeartbeats 1000000 in
set_option maxRecDepth 100000 in
theorem contains_is (p : Option Addr) (n c : Nat) (xs : List Int) (b : Int) (w : World) (h : IIn w p n xs) (hn : n ≤ 140737488355328) :
    Calls Try.prog 35 #[.slice p n c, .int .i64 b] w fun e w' => e = .returned (.bool (hasS xs b)) ∧ w = w' := by
  go_enter Try.func35, Try.ntmps35
  go_wp2_with fail
  refine (index_is p n c xs b w h hn).mono ?_
  rintro e w' ⟨j, rfl, hj, rfl⟩
  have E : Hid (hasS xs b = decide (0 ≤ j)) := by
    show _ = _
    by_cases h0 : 0 ≤ j
    · rw [decide_eq_true h0]; exact hj.1 h0
    · rw [decide_eq_false h0]
      cases e : hasS xs b
      · rfl
      · exact absurd (hj.2 e) h0
  clear hj h
  go_wp2
  go_ret
  exact ⟨by rw [E.out]; rfl, rfl⟩
theorem bel_step {xs : List Int} {b : Int} {k : Nat} (h : ∀ j, j < k → 0 ≤ xs.getD j 0 ∧ xs.getD j 0 < b) (hx : 0 ≤ xs.getD k 0 ∧ xs.getD k 0 < b) : ∀ j, j < k + 1 → 0 ≤ xs.getD j 0 ∧ xs.getD j 0 < b := by
  intro j hj
  by_cases e : j = k
  · subst e; exact hx
  · exact h j (by omega)
theorem bel_all {xs : List Int} {b : Int} (h : ∀ j, j < xs.length → 0 ≤ xs.getD j 0 ∧ xs.getD j 0 < b) : ∀ x ∈ xs, 0 ≤ x ∧ x < b := by
  intro x hx
  obtain ⟨i, hi, rfl⟩ := List.getElem_of_mem hx
  have := h i hi
  simpa [List.getD, List.getElem?_eq_getElem hi] using this
theorem bel_not {xs : List Int} {b : Int} {k : Nat} (hk : k < xs.length) (h : ¬ (0 ≤ xs.getD k 0 ∧ xs.getD k 0 < b)) : ¬ ∀ x ∈ xs, 0 ≤ x ∧ x < b := by
  intro a
  refine h (a _ ?_)
  rw [List.getD, List.getElem?_eq_getElem hk]
  exact List.getElem_mem hk
end Go.Proofs.Ytkgjmejpbklabaa.B
