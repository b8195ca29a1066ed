/-
  Layer 5: the program's Form and Is.
-/
import Derived.Test.YthgkdpniaednaaaBRa
namespace Go.Proofs.Ythgkdpniaednaaa.B
open Go.RowKit
theorem isS_false {xs : List Int} (h : ¬ (1 ≤ xs.length ∧ xs.length ≤ 16 ∧ (∀ x ∈ xs, 0 ≤ x ∧ x < 64) ∧ ∀ i, i < xs.length - 1 → xs.getD i 0 < xs.getD (i + 1) 0)) : isS xs = false := decide_eq_false h
theorem isS_true {xs : List Int} (h1 : 1 ≤ xs.length) (h2 : xs.length ≤ 16) (h3 : ∀ x ∈ xs, 0 ≤ x ∧ x < 64) (h4 : ∀ i, i < xs.length - 1 → xs.getD i 0 < xs.getD (i + 1) 0) : isS xs = true := decide_eq_true ⟨h1, h2, h3, h4⟩
theorem adj_step {xs : List Int} {k : Nat} (h : ∀ i, i < k → xs.getD i 0 < xs.getD (i + 1) 0) (hx : xs.getD k 0 < xs.getD (k + 1) 0) : ∀ i, i < k + 1 → xs.getD i 0 < xs.getD (i + 1) 0 := by
  intro i hi
  by_cases e : i = k
  · subst e; exact hx
  · exact h i (by omega)
set_option maxHeartbeats 1000000 in
set_option maxRecDepth 100000 in
/-- Is -/
theorem is_is (p : Option Addr) (n c : Nat) (xs : List Int) (w : World) (hI : IIn w p n xs) (hnc : n ≤ c) (hn : n ≤ 140737488355328) :
    Calls Try.prog 23 #[.slice p n c] w fun e' w' => e' = .returned (.bool (isS xs)) ∧ w = w' := by
  have hlen := hI.len
  by_cases h1 : n < 1
  · have E : Hid (isS xs = false) := isS_false fun h => by omega
    obtain rfl : n = 0 := by omega
    clear hI
    go_enter Try.func23, Try.ntmps23
    go_wp2
    go_ret
    exact ⟨by rw [E.out]; rfl, rfl⟩
  · by_cases h2 : 16 < n
    · have E : Hid (isS xs = false) := isS_false fun h => by omega
      clear hI
      go_enter Try.func23, Try.ntmps23
      go_wp2
      go_ret
      exact ⟨by rw [E.out]; rfl, rfl⟩
    · obtain ⟨b', o, rfl, hcs⟩ := hI.cells (by omega)
      have HI : Hid (IIn w (some ⟨b', o, none⟩) n xs) := hI
      have HC : Hid (∀ i, i < n → w.cell? ⟨b', o + i, none⟩ = some (.int .i64 (xs.getD i 0))) := hcs
      have HL : Hid (xs.length = n) := hlen
      have i1 : ¬ (n : Int) < 1 := by omega
      have i2 : ¬ (16 : Int) < (n : Int) := by omega
      have i3 : (1 : Int) ≤ (n : Int) := by omega
      clear hI hcs hlen
      go_enter Try.func23, Try.ntmps23
      go_wp2_with fail
      refine (below_is _ n c xs 64 w HI.out (by omega)).mono ?_
      rintro e w1 ⟨rfl, rfl⟩
      cases h3 : belS xs 64 with
      | false =>
        have E : Hid (isS xs = false) := isS_false fun h => by
          have := of_decide_eq_false h3
          exact this h.2.2.1
        go_wp2
        go_ret
        exact ⟨by rw [E.out]; rfl, rfl⟩
      | true =>
        have HB : Hid (∀ x ∈ xs, 0 ≤ x ∧ x < 64) := by
          have h := of_decide_eq_true h3
          exact h
        have c0 := HC.out 0 (by omega)
        rw [Nat.add_zero] at c0
        clear h3
        have hc1 : (n : Int) ≤ (c : Int) := by omega
        by_cases e1 : c = 1
        · obtain rfl : n = 1 := by omega
          subst e1
          have E : Hid (isS xs = true) := isS_true (by rw [HL.out]; omega) (by rw [HL.out]; omega) HB.out (fun i hi => by rw [HL.out] at hi; omega)
          go_wp2
          refine wp_loop_rounds 1 ?_
          rw [rounds_succ]
          go_wp2
          go_ret
          exact ⟨by rw [E.out]; rfl, rfl⟩
        · have hc2 : ¬ c = 0 := by omega
          have hc3 : ¬ c - 1 = 0 := by omega
          obtain ⟨N, rfl⟩ : ∃ N, n = N + 1 := ⟨n - 1, by omega⟩
          obtain ⟨x0, hx0⟩ : ∃ x0, xs.getD 0 0 = x0 := ⟨_, rfl⟩
          have HX0 : Hid (x0 = xs.getD 0 0) := hx0.symm
          rw [hx0] at c0
          clear hx0
          go_wp2
          go_loop [3, 25] (fun v i => ∃ (k : Nat) (y : Int), k ≤ N ∧ i = .int .i64 k ∧ v = .int .i64 y ∧ Hid (y = xs.getD k 0) ∧ Hid (∀ i, i < k → xs.getD i 0 < xs.getD (i + 1) 0)) (fun _ i => N - (intOf i).toNat)
          case atStart => exact ⟨0, x0, Nat.zero_le _, rfl, rfl, HX0, fun j hj => absurd hj (Nat.not_lt_zero _)⟩
          case round =>
            obtain ⟨k, y, hk, rfl, rfl, HY, HT⟩ := hrel
            by_cases hlt : k < N
            · have hc := HC.out (k + 1) (by omega)
              rw [show o + (k + 1) = o + 1 + k by omega] at hc
              have i4 : (k : Int) < (N : Int) := by omega
              have HA : Hid (y < xs.getD (k + 1) 0 → ∀ i, i < k + 1 → xs.getD i 0 < xs.getD (i + 1) 0) := fun h => adj_step HT.out (by rw [← HY.out]; exact h)
              have HF : Hid (¬ y < xs.getD (k + 1) 0 → isS xs = false) := fun h => isS_false fun a => h (by rw [HY.out]; exact a.2.2.2 k (by rw [HL.out]; omega))
              obtain ⟨z, hz⟩ : ∃ z, xs.getD (k + 1) 0 = z := ⟨_, rfl⟩
              have HZ : Hid (z = xs.getD (k + 1) 0) := hz.symm
              rw [hz] at hc HA HF
              clear hz HY HT c0
              by_cases h9 : y < z
              · have HA2 : Hid (∀ i, i < k + 1 → xs.getD i 0 < xs.getD (i + 1) 0) := HA.out h9
                clear HA HF
                go_wp2
                go_round
                case rel => exact ⟨k + 1, z, by omega, by go_num, rfl, HZ, HA2⟩
                case measure => simp [intOf]; omega
              · have HF2 : Hid (isS xs = false) := HF.out h9
                clear HA HF
                go_wp2
                go_ret
                exact ⟨by rw [HF2.out]; rfl, rfl⟩
            · obtain rfl : k = N := by omega
              have E : Hid (isS xs = true) := isS_true (by rw [HL.out]; omega) (by rw [HL.out]; omega) HB.out (fun i hi => by rw [HL.out] at hi; exact HT.out i (by omega))
              go_wp2
              go_ret
              exact ⟨by rw [E.out]; rfl, rfl⟩
end Go.Proofs.Ythgkdpniaednaaa.B
