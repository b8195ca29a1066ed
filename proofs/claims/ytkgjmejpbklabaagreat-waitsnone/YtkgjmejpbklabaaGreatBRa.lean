/-
  Layer 5: contracts of what only reads: Has, Next, Same, allBelow, mayBeStore.
-/
import Derived.Test.YtkgjmejpbklabaaGreatBa
namespace Go.Proofs.YtkgjmejpbklabaaGreat.B
open Go.RowKit
/-- Has -/
def hasS (xs : List Int) (b : Int) : Bool := decide (b ∈ xs)
theorem hasS_iff {xs : List Int} {b : Int} : hasS xs b = true ↔ b ∈ xs := by unfold hasS; rw [decide_eq_true_eq]
theorem has_at {xs : List Int} {b : Int} {k : Nat} (hk : k < xs.length) (h : xs.getD k 0 = b) : hasS xs b = true := by
  rw [hasS_iff, ← h, List.getD, List.getElem?_eq_getElem hk]
  exact List.getElem_mem hk
theorem has_none {xs : List Int} {b : Int} (h : ∀ j, j < xs.length → xs.getD j 0 ≠ b) : hasS xs b = false := by
  cases e : hasS xs b with
  | false => rfl
  | true =>
    rw [hasS_iff] at e
    obtain ⟨i, hi, he⟩ := List.getElem_of_mem e
    exact absurd (by simp [List.getD, List.getElem?_eq_getElem hi, he]) (h i hi)
theorem not_snoc {xs : List Int} {b x : Int} {k : Nat} (h : ∀ j, j < k → xs.getD j 0 ≠ b) (hx : xs.getD k 0 = x) (hne : ¬ x = b) : ∀ j, j < k + 1 → xs.getD j 0 ≠ b := by
  intro j hj
  by_cases e : j = k
  · subst e; rw [hx]; exact hne
  · exact h j (by omega)
set_option maxHeartbeats 1000000 in
set_option maxRecDepth 100000 in
theorem index_is (p : Option Addr) (n c : Nat) (xs : List Int) (b : Int) (w : World) (h : IIn w p n xs) (hn : n ≤ 140737488355328) :
    Calls Tryz.prog 86 #[.slice p n c, .int .i64 b] w fun e w' => ∃ j, e = .returned (.int .i64 j) ∧ (0 ≤ j ↔ hasS xs b = true) ∧ w = w' := by
  have HH : Hid (IIn w p n xs) := h
  clear h
  go_enter Tryz.func86, Tryz.ntmps86
  go_wp2
  go_loop [8] (fun i => ∃ k : Nat, k ≤ n ∧ i = .int .i64 k ∧ Hid (∀ j, j < k → xs.getD j 0 ≠ b)) (fun i => n - (intOf i).toNat)
  case atStart => exact ⟨0, Nat.zero_le _, rfl, fun j hj => absurd hj (Nat.not_lt_zero _)⟩
  case round =>
    obtain ⟨k, hk, rfl, HT⟩ := hrel
    by_cases hlt : k < n
    · have hlen := HH.out.len
      obtain ⟨b', o, rfl, hcs⟩ := HH.out.cells (by omega)
      have hc := hcs k hlt
      have HN : Hid (¬ xs.getD k 0 = b → ∀ j, j < k + 1 → xs.getD j 0 ≠ b) := fun e => not_snoc HT.out rfl e
      have HY : Hid (xs.getD k 0 = b → hasS xs b = true) := fun e => has_at (by omega) e
      clear hcs hlen HH HT
      generalize xs.getD k 0 = x at *
      by_cases hx : x = b
      · subst hx
        have E : Hid (hasS xs x = true) := HY.out rfl
        clear HN HY
        go_wp2
        go_ret
        exact ⟨_, rfl, by rw [E.out]; simp, rfl⟩
      · have E : Hid (∀ j, j < k + 1 → xs.getD j 0 ≠ b) := HN.out hx
        clear HN HY
        have hb : (b == x) = false := by simpa using fun e => hx e.symm
        go_wp2
        go_round
        case rel => exact ⟨k + 1, by omega, by go_num, E⟩
        case measure => simp [intOf]; omega
    · obtain rfl : k = n := by omega
      have E : Hid (hasS xs b = false) := has_none fun j hj => HT.out j (by have := HH.out.len; omega)
      go_wp2
      go_ret
      exact ⟨_, rfl, by rw [E.out]; simp, rfl⟩
set_option maxHeartbeats 1000000 in
set_option maxRecDepth 100000 in
theorem contains_is (p : Option Addr) (n c : Nat) (xs : List Int) (b : Int) (w : World) (h : IIn w p n xs) (hn : n ≤ 140737488355328) :
    Calls Tryz.prog 54 #[.slice p n c, .int .i64 b] w fun e w' => e = .returned (.bool (hasS xs b)) ∧ w = w' := by
  go_enter Tryz.func54, Tryz.ntmps54
  go_wp2_with fail
  refine (index_is p n c xs b w h hn).mono ?_
  rintro e w' ⟨j, rfl, hj, rfl⟩
  have E : Hid (hasS xs b = decide (0 ≤ j)) := by
    show _ = _
    by_cases h0 : 0 ≤ j
    · rw [decide_eq_true h0]; exact hj.1 h0
    · rw [decide_eq_false h0]
      cases e : hasS xs b
      · rfl
      · exact absurd (hj.2 e) h0
  clear hj h
  go_wp2
  go_ret
  exact ⟨by rw [E.out]; rfl, rfl⟩
set_option maxHeartbeats 1000000 in
set_option maxRecDepth 100000 in
/-- Next -/
theorem next_is (p : Option Addr) (n c : Nat) (xs : List Int) (d : Int) (w : World) (h : IIn w p n xs) :
    Calls Tryz.prog 67 #[.slice p n c, .int .i64 d] w fun e w' => e = .returned (.tuple #[.int .i64 (nextS xs d).1, .bool (nextS xs d).2]) ∧ w = w' := by
  have hlen := h.len
  by_cases h1 : d < 0
  · have E : nextS xs d = (0, false) := by unfold nextS; rw [if_neg (by omega)]
    rw [E]
    clear E h
    go_enter Tryz.func67, Tryz.ntmps67
    go_wp2
    go_ret2
    exact ⟨rfl, rfl⟩
  · by_cases h2 : d < n
    · have E : nextS xs d = (xs.getD d.toNat 0, true) := by unfold nextS; rw [if_pos ⟨by omega, by omega⟩]
      rw [E]
      obtain ⟨k, rfl⟩ := Int.eq_ofNat_of_zero_le (show 0 ≤ d by omega)
      have hk : k < n := by omega
      obtain ⟨b', o, rfl, hcs⟩ := h.cells (by omega)
      have hc := hcs k hk
      rw [Int.toNat_natCast]
      clear E h hcs hlen
      generalize xs.getD k 0 = x at *
      go_enter Tryz.func67, Tryz.ntmps67
      go_wp2
      go_ret2
      exact ⟨rfl, rfl⟩
    · have E : nextS xs d = (0, false) := by unfold nextS; rw [if_neg (by omega)]
      rw [E]
      clear E h
      go_enter Tryz.func67, Tryz.ntmps67
      go_wp2
      go_ret2
      exact ⟨rfl, rfl⟩
theorem bel_step {xs : List Int} {b : Int} {k : Nat} (h : ∀ j, j < k → 0 ≤ xs.getD j 0 ∧ xs.getD j 0 < b) (hx : 0 ≤ xs.getD k 0 ∧ xs.getD k 0 < b) : ∀ j, j < k + 1 → 0 ≤ xs.getD j 0 ∧ xs.getD j 0 < b := by
  intro j hj
  by_cases e : j = k
  · subst e; exact hx
  · exact h j (by omega)
theorem bel_all {xs : List Int} {b : Int} (h : ∀ j, j < xs.length → 0 ≤ xs.getD j 0 ∧ xs.getD j 0 < b) : ∀ x ∈ xs, 0 ≤ x ∧ x < b := by
  intro x hx
  obtain ⟨i, hi, rfl⟩ := List.getElem_of_mem hx
  have := h i hi
  simpa [List.getD, List.getElem?_eq_getElem hi] using this
theorem bel_not {xs : List Int} {b : Int} {k : Nat} (hk : k < xs.length) (h : ¬ (0 ≤ xs.getD k 0 ∧ xs.getD k 0 < b)) : ¬ ∀ x ∈ xs, 0 ≤ x ∧ x < b := by
  intro a
  refine h (a _ ?_)
  rw [List.getD, List.getElem?_eq_getElem hk]
  exact List.getElem_mem hk
set_option maxHeartbeats 1000000 in
set_option maxRecDepth 100000 in
theorem below_is (p : Option Addr) (n c : Nat) (xs : List Int) (b : Int) (w : World) (h : IIn w p n xs) (hn : n ≤ 140737488355328) :
    Calls Tryz.prog 79 #[.slice p n c, .int .i64 b] w fun e w' => e = .returned (.bool (belS xs b)) ∧ w = w' := by
  have HH : Hid (IIn w p n xs) := h
  clear h
  go_enter Tryz.func79, Tryz.ntmps79
  go_wp2
  go_loop [9] (fun i => ∃ k : Nat, k ≤ n ∧ i = .int .i64 k ∧ Hid (∀ j, j < k → 0 ≤ xs.getD j 0 ∧ xs.getD j 0 < b)) (fun i => n - (intOf i).toNat)
  case atStart => exact ⟨0, Nat.zero_le _, rfl, fun j hj => absurd hj (Nat.not_lt_zero _)⟩
  case round =>
    obtain ⟨k, hk, rfl, HT⟩ := hrel
    by_cases hlt : k < n
    · have hlen := HH.out.len
      obtain ⟨b', o, rfl, hcs⟩ := HH.out.cells (by omega)
      have hc := hcs k hlt
      have HN : Hid ((0 ≤ xs.getD k 0 ∧ xs.getD k 0 < b) → ∀ j, j < k + 1 → 0 ≤ xs.getD j 0 ∧ xs.getD j 0 < b) := fun e => bel_step HT.out e
      have HY : Hid (¬ (0 ≤ xs.getD k 0 ∧ xs.getD k 0 < b) → belS xs b = false) := fun e => decide_eq_false (bel_not (by omega) e)
      clear hcs hlen HH HT
      generalize xs.getD k 0 = x at *
      by_cases h1 : x < 0
      · have E : Hid (belS xs b = false) := HY.out (by omega)
        clear HN HY
        go_wp2
        go_ret
        exact ⟨by rw [E.out]; rfl, rfl⟩
      · by_cases h2 : x < b
        · have E : Hid (∀ j, j < k + 1 → 0 ≤ xs.getD j 0 ∧ xs.getD j 0 < b) := HN.out (by omega)
          clear HN HY
          go_wp2
          go_round
          case rel => exact ⟨k + 1, by omega, by go_num, E⟩
          case measure => simp [intOf]; omega
        · have E : Hid (belS xs b = false) := HY.out (by omega)
          clear HN HY
          go_wp2
          go_ret
          exact ⟨by rw [E.out]; rfl, rfl⟩
    · obtain rfl : k = n := by omega
      have E : Hid (belS xs b = true) := decide_eq_true (bel_all fun j hj => HT.out j (by have := HH.out.len; omega))
      go_wp2
      go_ret
      exact ⟨by rw [E.out]; rfl, rfl⟩
set_option maxHeartbeats 1000000 in
set_option maxRecDepth 100000 in
theorem may_is (b m : Int) (w : World) :
    Calls Tryz.prog 78 #[.int .i64 b, .int .i64 m] w fun e w' => e = .returned (.bool (mayS b m)) ∧ w = w' := by
  go_enter Tryz.func78, Tryz.ntmps78
  go_wp2
  all_goals go_ret
  all_goals refine ⟨?_, rfl⟩
  all_goals (show Ending.returned (.bool _) = Ending.returned (.bool _); congr 2; unfold mayS)
  all_goals first | exact (decide_eq_decide.2 (by omega)) | exact (decide_eq_false (by omega)).symm | exact (decide_eq_true (by omega)).symm
end Go.Proofs.YtkgjmejpbklabaaGreat.B
