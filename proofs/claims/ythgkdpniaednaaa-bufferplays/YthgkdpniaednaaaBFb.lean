/-
  Layer 5: the document's Is.
-/
import Derived.Test.YthgkdpniaednaaaBEa
namespace Go.Proofs.Ythgkdpniaednaaa.B
open Go.RowKit
set_option maxRecDepth 100000 in
set_option maxHeartbeats 4000000 in
set_option maxRecDepth 100000 in
/-- the document's Is -/
theorem ris_is (p : Option Addr) (n c : Nat) (xs : List Int) (w : World) (hI : IIn w p n xs) (hn : n ≤ 140737488355328) :
    Calls Try.prog 30 #[.slice p n c] w fun e' w' => e' = .returned (.bool (isS xs)) ∧ Below w.heap.size w w' := by
  have hlen := hI.len
  by_cases h1 : n < 1
  · have E : Hid (isS xs = false) := isS_false fun h => by omega
    obtain rfl : n = 0 := by omega
    clear hI
    go_enter Try.func30, Try.ntmps30
    go_wp2
    go_ret
    exact ⟨by rw [E.out]; rfl, Below.refl _ _⟩
  · by_cases h2 : 16 < n
    · have E : Hid (isS xs = false) := isS_false fun h => by omega
      clear hI
      go_enter Try.func30, Try.ntmps30
      go_wp2
      go_ret
      exact ⟨by rw [E.out]; rfl, Below.refl _ _⟩
    · obtain ⟨b', o, rfl, hcs⟩ := hI.cells (by omega)
      have HC : Hid (∀ i, i < n → w.cell? ⟨b', o + i, none⟩ = some (.int .i64 (xs.getD i 0))) := hcs
      have HL : Hid (xs.length = n) := hlen
      have i1 : ¬ (n : Int) < 1 := by omega
      have i2 : ¬ (16 : Int) < (n : Int) := by omega
      clear hI hcs hlen
      go_enter Try.func30, Try.ntmps30
      go_wp2
      go_loopw [3] (fun i wr => ∃ k : Nat, k ≤ n ∧ i = .int .i64 k ∧ Hid (∀ j, j < k → 0 ≤ xs.getD j 0 ∧ xs.getD j 0 < 64) ∧ Hid (∀ j, j + 1 < k → xs.getD j 0 < xs.getD (j + 1) 0) ∧ ∃ nq, wr = w.drewN nq) (fun i _ => n - (intOf i).toNat)
      case atStart => exact ⟨0, Nat.zero_le _, rfl, fun j hj => absurd hj (Nat.not_lt_zero _), fun j hj => absurd hj (Nat.not_lt_zero _), 0, rfl⟩
      case round =>
        obtain ⟨k, hk, rfl, HT, HU, nq, hwr⟩ := hrel
        subst hwr
        by_cases hlt : k < n
        · have hc := HC.out k hlt
          have HN : Hid ((0 ≤ xs.getD k 0 ∧ xs.getD k 0 < 64) → ∀ j, j < k + 1 → 0 ≤ xs.getD j 0 ∧ xs.getD j 0 < 64) := fun e => bel_step HT.out e
          have HY : Hid (¬ (0 ≤ xs.getD k 0 ∧ xs.getD k 0 < 64) → isS xs = false) := fun e => isS_false fun a => bel_not (by rw [HL.out]; exact hlt) e a.2.2.1
          have i3 : (k : Int) < (n : Int) := by omega
          obtain ⟨x, hx⟩ : ∃ x, xs.getD k 0 = x := ⟨_, rfl⟩
          have HX : Hid (xs.getD k 0 = x) := hx
          rw [hx] at hc HN HY
          clear hx HT
          by_cases e1 : x < 0
          · have E : Hid (isS xs = false) := HY.out (by omega)
            clear HN HY
            go_wp2
            go_quiet (fail)
            go_wp2
            go_ret
            refine ⟨by rw [E.out]; rfl, ?_⟩
            rw [World.drewN_drewN]
            exact below_drawn _
          · by_cases e2 : 64 ≤ x
            · have E : Hid (isS xs = false) := HY.out (by omega)
              have g1 : decide (x < 0) = false := decide_eq_false e1
              clear HN HY
              go_wp2
              go_quiet (fail)
              go_wp2
              go_ret
              refine ⟨by rw [E.out]; rfl, ?_⟩
              rw [World.drewN_drewN]
              exact below_drawn _
            · have HT2 : Hid (∀ j, j < k + 1 → 0 ≤ xs.getD j 0 ∧ xs.getD j 0 < 64) := HN.out (by omega)
              have g1 : decide (x < 0) = false := decide_eq_false e1
              have g2 : decide (64 ≤ x) = false := decide_eq_false e2
              have g2' : ¬ 64 ≤ x := e2
              clear HN HY
              by_cases h0 : k = 0
              · subst h0
                rw [Nat.add_zero] at hc
                go_wp2
                go_quiet (fail)
                go_wp2
                go_roundw
                case rel => exact ⟨1, by omega, by go_num, HT2, fun j hj => by omega, _, rfl⟩
                case measure => simp [intOf]; omega
              · obtain ⟨k', rfl⟩ : ∃ k', k = k' + 1 := ⟨k - 1, by omega⟩
                have hc2 := HC.out k' (by omega)
                obtain ⟨y, hy⟩ : ∃ y, xs.getD k' 0 = y := ⟨_, rfl⟩
                have HYY : Hid (xs.getD k' 0 = y) := hy
                rw [hy] at hc2
                clear hy
                have i4 : (0 : Int) < (k' : Int) + 1 := by omega
                have i5 : (k' : Int) < (n : Int) := by omega
                have i6 : (k' : Int) + 1 < (n : Int) := by omega
                by_cases e3 : y < x
                · have g3 : decide (x ≤ y) = false := decide_eq_false (by omega)
                  have HU2 : Hid (∀ j, j + 1 < k' + 1 + 1 → xs.getD j 0 < xs.getD (j + 1) 0) := fun j hj => by
                    by_cases ej : j = k'
                    · subst ej; rw [HYY.out, HX.out]; exact e3
                    · exact HU.out j (by omega)
                  go_wp2
                  go_quiet (fail)
                  go_wp2
                  go_roundw
                  case rel => exact ⟨k' + 1 + 1, by omega, by go_num, HT2, HU2, _, rfl⟩
                  case measure => simp [intOf]; omega
                · have g3 : decide (x ≤ y) = true := decide_eq_true (by omega)
                  have g3' : x ≤ y := by omega
                  have E : Hid (isS xs = false) := isS_false fun a => by
                    have := a.2.2.2 k' (by rw [HL.out]; omega)
                    rw [HYY.out, HX.out] at this
                    exact e3 this
                  go_wp2
                  go_quiet (fail)
                  go_wp2
                  go_ret
                  refine ⟨by rw [E.out]; rfl, ?_⟩
                  rw [World.drewN_drewN]
                  exact below_drawn _
        · obtain rfl : k = n := by omega
          have E : Hid (isS xs = true) := isS_true (by rw [HL.out]; omega) (by rw [HL.out]; omega) (bel_all fun j hj => HT.out j (by rw [← HL.out]; exact hj)) (fun i hi => HU.out i (by rw [HL.out] at hi; omega))
          go_wp2
          go_ret
          exact ⟨by rw [E.out]; rfl, below_drawn _⟩
end Go.Proofs.Ythgkdpniaednaaa.B
