/-
  Layer 5: contracts of what only reads: Has, Next, Same, allBelow, mayBeStore.
-/
import Derived.Test.YthgkdpniaednaaaBa
namespace Go.Proofs.Ythgkdpniaednaaa.B
open Go.RowKit
/-- Has -/
def hasS (xs : List Int) (b : Int) : Bool := decide (b ∈ xs)
theorem hasS_iff {xs : List Int} {b : Int} : hasS xs b = true ↔ b ∈ xs := by unfold hasS; rw [decide_eq_true_eq]
theorem has_at {xs : List Int} {b : Int} {k : Nat} (hk : k < xs.length) (h : xs.getD k 0 = b) : hasS xs b = true := by
  rw [hasS_iff, ← h, List.getD, List.getElem?_eq_getElem hk]
  exact List.getElem_mem hk
theorem has_none {xs : List Int} {b : Int} (h : ∀ j, j < xs.length → xs.getD j 0 ≠ b) : hasS xs b = false := by
  cases e : hasS xs b with
  | false => rfl
  | true =>
    rw [hasS_iff] at e
    obtain ⟨i, hi, he⟩ := List.getElem_of_mem e
    exact absurd (by simp [List.getD, List.getElem?_eq_getElem hi, he]) (h i hi)
theorem not_snoc {xs : List Int} {b x : Int} {k : Nat} (h : ∀ j, j < k → xs.getD j 0 ≠ b) (hx : xs.getD k 0 = x) (hne : ¬ x = b) : ∀ j, j < k + 1 → xs.getD j 0 ≠ b := by
  intro j hj
  by_cases e : j = k
  · subst e; rw [hx]; exact hne
  · exact h j (by omega)
set_option maxHeartbeats 1000000 in
set_option maxRecDepth 100000 in
/-- the document's Has -/
theorem rhas_is (p : Option Addr) (n c : Nat) (xs : List Int) (b : Int) (w : World) (h : IIn w p n xs) (hn : n ≤ 140737488355328) :
    Calls Try.prog 8 #[.slice p n c, .int .i64 b] w fun e w' => e = .returned (.bool (hasS xs b)) ∧ w = w' := by
  have HH : Hid (IIn w p n xs) := h
  clear h
  go_enter Try.func8, Try.ntmps8
  go_wp2
  go_loop [5] (fun i => ∃ k : Nat, k ≤ n ∧ i = .int .i64 k ∧ Hid (∀ j, j < k → xs.getD j 0 ≠ b)) (fun i => n - (intOf i).toNat)
  case atStart => exact ⟨0, Nat.zero_le _, rfl, fun j hj => absurd hj (Nat.not_lt_zero _)⟩
  case round =>
    obtain ⟨k, hk, rfl, HT⟩ := hrel
    by_cases hlt : k < n
    · have hlen := HH.out.len
      obtain ⟨b', o, rfl, hcs⟩ := HH.out.cells (by omega)
      have hc := hcs k hlt
      have HN : Hid (¬ xs.getD k 0 = b → ∀ j, j < k + 1 → xs.getD j 0 ≠ b) := fun e => not_snoc HT.out rfl e
      have HY : Hid (xs.getD k 0 = b → hasS xs b = true) := fun e => has_at (by omega) e
      clear hcs hlen HH HT
      generalize xs.getD k 0 = x at *
      by_cases hx : x = b
      · subst hx
        have E : Hid (hasS xs x = true) := HY.out rfl
        clear HN HY
        go_wp2
        go_ret
        exact ⟨by rw [E.out]; rfl, rfl⟩
      · have E : Hid (∀ j, j < k + 1 → xs.getD j 0 ≠ b) := HN.out hx
        clear HN HY
        have hb : (x == b) = false := by simpa using hx
        go_wp2
        go_round
        case rel => exact ⟨k + 1, by omega, by go_num, E⟩
        case measure => simp [intOf]; omega
    · obtain rfl : k = n := by omega
      have E : Hid (hasS xs b = false) := has_none fun j hj => HT.out j (by have := HH.out.len; omega)
      go_wp2
      go_ret
      exact ⟨by rw [E.out]; rfl, rfl⟩
set_option maxHeartbeats 1000000 in
set_option maxRecDepth 100000 in
theorem index_is (p : Option Addr) (n c : Nat) (xs : List Int) (b : Int) (w : World) (h : IIn w p n xs) (hn : n ≤ 140737488355328) :
    Calls Try.prog 46 #[.slice p n c, .int .i64 b] w fun e w' => ∃ j, e = .returned (.int .i64 j) ∧ (0 ≤ j ↔ hasS xs b = true) ∧ w = w' := by
  have HH : Hid (IIn w p n xs) := h
  clear h
  go_enter Try.func46, Try.ntmps46
  go_wp2
  go_loop [8] (fun i => ∃ k : Nat, k ≤ n ∧ i = .int .i64 k ∧ Hid (∀ j, j < k → xs.getD j 0 ≠ b)) (fun i => n - (intOf i).toNat)
  case atStart => exact ⟨0, Nat.zero_le _, rfl, fun j hj => absurd hj (Nat.not_lt_zero _)⟩
  case round =>
    obtain ⟨k, hk, rfl, HT⟩ := hrel
    by_cases hlt : k < n
    · have hlen := HH.out.len
      obtain ⟨b', o, rfl, hcs⟩ := HH.out.cells (by omega)
      have hc := hcs k hlt
      have HN : Hid (¬ xs.getD k 0 = b → ∀ j, j < k + 1 → xs.getD j 0 ≠ b) := fun e => not_snoc HT.out rfl e
      have HY : Hid (xs.getD k 0 = b → hasS xs b = true) := fun e => has_at (by omega) e
      clear hcs hlen HH HT
      generalize xs.getD k 0 = x at *
      by_cases hx : x = b
      · subst hx
        have E : Hid (hasS xs x = true) := HY.out rfl
        clear HN HY
        go_wp2
        go_ret
        exact ⟨_, rfl, by rw [E.out]; simp, rfl⟩
      · have E : Hid (∀ j, j < k + 1 → xs.getD j 0 ≠ b) := HN.out hx
        clear HN HY
        have hb : (b == x) = false := by simpa using fun e => hx e.symm
        go_wp2
        go_round
        case rel => exact ⟨k + 1, by omega, by go_num, E⟩
        case measure => simp [intOf]; omega
    · obtain rfl : k = n := by omega
      have E : Hid (hasS xs b = false) := has_none fun j hj => HT.out j (by have := HH.out.len; omega)
      go_wp2
      go_ret
      exact ⟨_, rfl, by rw [E.out]; simp, rfl⟩
set_option maxHeartbeats 1000000 in
set_option maxRecDepth 100000 in
theorem contains_is (p : Option Addr) (n c : Nat) (xs : List Int) (b : Int) (w : World) (h : IIn w p n xs) (hn : n ≤ 140737488355328) :
    Calls Try.prog 43 #[.slice p n c, .int .i64 b] w fun e w' => e = .returned (.bool (hasS xs b)) ∧ w = w' := by
  go_enter Try.func43, Try.ntmps43
  go_wp2_with fail
  refine (index_is p n c xs b w h hn).mono ?_
  rintro e w' ⟨j, rfl, hj, rfl⟩
  have E : Hid (hasS xs b = decide (0 ≤ j)) := by
    show _ = _
    by_cases h0 : 0 ≤ j
    · rw [decide_eq_true h0]; exact hj.1 h0
    · rw [decide_eq_false h0]
      cases e : hasS xs b
      · rfl
      · exact absurd (hj.2 e) h0
  clear hj h
  go_wp2
  go_ret
  exact ⟨by rw [E.out]; rfl, rfl⟩
set_option maxHeartbeats 1000000 in
set_option maxRecDepth 100000 in
/-- Has -/
theorem has_is (p : Option Addr) (n c : Nat) (xs : List Int) (b : Int) (w : World) (h : IIn w p n xs) (hn : n ≤ 140737488355328) :
    Calls Try.prog 37 #[.slice p n c, .int .i64 b] w fun e w' => e = .returned (.bool (hasS xs b)) ∧ w = w' := by
  go_enter Try.func37, Try.ntmps37
  go_wp2_with fail
  refine (contains_is p n c xs b w h hn).mono ?_
  rintro e w' ⟨rfl, rfl⟩
  go_wp2
  go_ret
  exact ⟨rfl, rfl⟩
theorem bel_step {xs : List Int} {b : Int} {k : Nat} (h : ∀ j, j < k → 0 ≤ xs.getD j 0 ∧ xs.getD j 0 < b) (hx : 0 ≤ xs.getD k 0 ∧ xs.getD k 0 < b) : ∀ j, j < k + 1 → 0 ≤ xs.getD j 0 ∧ xs.getD j 0 < b := by
  intro j hj
  by_cases e : j = k
  · subst e; exact hx
  · exact h j (by omega)
theorem bel_all {xs : List Int} {b : Int} (h : ∀ j, j < xs.length → 0 ≤ xs.getD j 0 ∧ xs.getD j 0 < b) : ∀ x ∈ xs, 0 ≤ x ∧ x < b := by
  intro x hx
  obtain ⟨i, hi, rfl⟩ := List.getElem_of_mem hx
  have := h i hi
  simpa [List.getD, List.getElem?_eq_getElem hi] using this
theorem bel_not {xs : List Int} {b : Int} {k : Nat} (hk : k < xs.length) (h : ¬ (0 ≤ xs.getD k 0 ∧ xs.getD k 0 < b)) : ¬ ∀ x ∈ xs, 0 ≤ x ∧ x < b := by
  intro a
  refine h (a _ ?_)
  rw [List.getD, List.getElem?_eq_getElem hk]
  exact List.getElem_mem hk
set_option maxHeartbeats 1000000 in
set_option maxRecDepth 100000 in
theorem below_is (p : Option Addr) (n c : Nat) (xs : List Int) (b : Int) (w : World) (h : IIn w p n xs) (hn : n ≤ 140737488355328) :
    Calls Try.prog 36 #[.slice p n c, .int .i64 b] w fun e w' => e = .returned (.bool (belS xs b)) ∧ w = w' := by
  have HH : Hid (IIn w p n xs) := h
  clear h
  go_enter Try.func36, Try.ntmps36
  go_wp2
  go_loop [9] (fun i => ∃ k : Nat, k ≤ n ∧ i = .int .i64 k ∧ Hid (∀ j, j < k → 0 ≤ xs.getD j 0 ∧ xs.getD j 0 < b)) (fun i => n - (intOf i).toNat)
  case atStart => exact ⟨0, Nat.zero_le _, rfl, fun j hj => absurd hj (Nat.not_lt_zero _)⟩
  case round =>
    obtain ⟨k, hk, rfl, HT⟩ := hrel
    by_cases hlt : k < n
    · have hlen := HH.out.len
      obtain ⟨b', o, rfl, hcs⟩ := HH.out.cells (by omega)
      have hc := hcs k hlt
      have HN : Hid ((0 ≤ xs.getD k 0 ∧ xs.getD k 0 < b) → ∀ j, j < k + 1 → 0 ≤ xs.getD j 0 ∧ xs.getD j 0 < b) := fun e => bel_step HT.out e
      have HY : Hid (¬ (0 ≤ xs.getD k 0 ∧ xs.getD k 0 < b) → belS xs b = false) := fun e => decide_eq_false (bel_not (by omega) e)
      clear hcs hlen HH HT
      generalize xs.getD k 0 = x at *
      by_cases h1 : x < 0
      · have E : Hid (belS xs b = false) := HY.out (by omega)
        clear HN HY
        go_wp2
        go_ret
        exact ⟨by rw [E.out]; rfl, rfl⟩
      · by_cases h2 : x < b
        · have E : Hid (∀ j, j < k + 1 → 0 ≤ xs.getD j 0 ∧ xs.getD j 0 < b) := HN.out (by omega)
          clear HN HY
          go_wp2
          go_round
          case rel => exact ⟨k + 1, by omega, by go_num, E⟩
          case measure => simp [intOf]; omega
        · have E : Hid (belS xs b = false) := HY.out (by omega)
          clear HN HY
          go_wp2
          go_ret
          exact ⟨by rw [E.out]; rfl, rfl⟩
    · obtain rfl : k = n := by omega
      have E : Hid (belS xs b = true) := decide_eq_true (bel_all fun j hj => HT.out j (by have := HH.out.len; omega))
      go_wp2
      go_ret
      exact ⟨by rw [E.out]; rfl, rfl⟩
set_option maxHeartbeats 1000000 in
set_option maxRecDepth 100000 in
/-- the document's Same -/
theorem same_is (p q : Option Addr) (n c m d : Nat) (xs ys : List Int) (w : World) (hx : IIn w p n xs) (hy : IIn w q m ys) (hn : n ≤ 140737488355328) :
    Calls Try.prog 31 #[.slice p n c, .slice q m d] w fun e w' => e = .returned (.bool (decide (xs = ys))) ∧ Below w.heap.size w w' := by
  by_cases hnm : n = m
  · subst hnm
    have hb : (((n : Nat) : Int) != ((n : Nat) : Int)) = false := by simp
    have HX : Hid (IIn w p n xs) := hx
    have HY : Hid (IIn w q n ys) := hy
    clear hx hy
    go_enter Try.func31, Try.ntmps31
    go_wp2
    go_loopw [5] (fun i wr => ∃ k : Nat, k ≤ n ∧ i = .int .i64 k ∧ Hid (xs.take k = ys.take k) ∧ ∃ nq, wr = w.drewN nq) (fun i _ => n - (intOf i).toNat)
    case atStart => exact ⟨0, Nat.zero_le _, rfl, rfl, 0, rfl⟩
    case round =>
      obtain ⟨k, hk, rfl, HT, nq, hwr⟩ := hrel
      subst hwr
      by_cases hlt : k < n
      · have hkx : k < xs.length := by rw [HX.out.len]; exact hlt
        have hky : k < ys.length := by rw [HY.out.len]; exact hlt
        obtain ⟨b', o, rfl, hcx⟩ := HX.out.cells (by omega)
        obtain ⟨b2, o2, rfl, hcy⟩ := HY.out.cells (by omega)
        have h1 := hcx k hlt
        have h2 := hcy k hlt
        have i1 : (k : Int) < (n : Int) := by omega
        have HT2 : Hid (xs.getD k 0 = ys.getD k 0 → xs.take (k + 1) = ys.take (k + 1)) := by
          intro e
          simp only [List.getD, List.getElem?_eq_getElem hkx, List.getElem?_eq_getElem hky, Option.getD_some] at e
          rw [List.take_succ_eq_append_getElem hkx, List.take_succ_eq_append_getElem hky, e, HT.out]
        have HT3 : Hid (¬ xs.getD k 0 = ys.getD k 0 → ¬ xs = ys) := by
          intro e e2
          subst e2
          exact e rfl
        clear hcx hcy hkx hky HX HY HT
        generalize xs.getD k 0 = x at *
        generalize ys.getD k 0 = y at *
        cases hz : (x != y)
        · go_wp2
          go_quiet (fail)
          go_wp2
          go_roundw
          case rel => exact ⟨k + 1, by omega, by go_num, HT2.out (by simpa using hz), _, rfl⟩
          case measure => simp [intOf]; omega
        · go_wp2
          go_quiet (fail)
          go_wp2
          go_ret
          refine ⟨by rw [decide_eq_false (HT3.out (by simpa using hz))]; rfl, ?_⟩
          rw [World.drewN_drewN]
          exact below_drawn _
      · have HE : Hid (xs = ys) := by
          have := HT.out
          rw [List.take_of_length_le (by rw [HX.out.len]; omega), List.take_of_length_le (by rw [HY.out.len]; omega)] at this
          exact this
        go_wp2
        go_ret
        exact ⟨by rw [decide_eq_true HE.out]; rfl, below_drawn _⟩
  · have hb : (((n : Nat) : Int) != ((m : Nat) : Int)) = true := by rw [bne_iff_ne]; omega
    have HE : Hid (decide (xs = ys) = false) := decide_eq_false fun e => hnm (by rw [← hx.len, ← hy.len, e])
    clear hx hy
    go_enter Try.func31, Try.ntmps31
    go_wp2
    go_ret
    exact ⟨by rw [HE.out]; rfl, Below.refl _ _⟩
end Go.Proofs.Ythgkdpniaednaaa.B
