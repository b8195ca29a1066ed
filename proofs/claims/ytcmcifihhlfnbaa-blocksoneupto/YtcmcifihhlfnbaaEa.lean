/-
  Layer 5: the program's Form and Is.
-/
import Derived.Test.YtcmcifihhlfnbaaDb
import Derived.Test.YtcmcifihhlfnbaaRa
namespace Go.Proofs.Ytcmcifihhlfnbaa
open Go.RowKit

set_option maxHeartbeats 1000000 in
/-- Form -/
theorem form_is (p : Option Addr) (n c : Nat) (xs : List Int) (b m : Int) (F : List Int) (E : Int) (hF : formS xs b m = (F, E)) (w : World) (hreach : n + 80 ≤ 17592186044416) (hI : IIn w p n xs) :
    Calls Try.prog 8 #[.slice p n c, .int .i64 b, .int .i64 m] w fun e' w' => ∃ q d, e' = .returned (.tuple #[.slice q F.length d, .int .i64 E]) ∧ Made w w' q F.length d F := by
  have hlen := hI.len
  go_enter Try.func8, Try.ntmps8
  go_wp2_with fail
  refine (may_is b m w).mono ?_
  rintro e w1 ⟨rfl, rfl⟩
  cases h1 : mayS b m with
  | false =>
    unfold formS at hF
    rw [if_pos h1] at hF
    simp only [Prod.mk.injEq] at hF
    obtain ⟨rfl, rfl⟩ := hF
    clear hI
    go_wp2
    go_ret2
    exact ⟨none, 0, rfl, made_nil w (Below.refl _ _)⟩
  | true =>
    by_cases h0 : n = 0
    · subst h0
      obtain rfl : xs = [] := List.eq_nil_of_length_eq_zero hlen
      unfold formS at hF
      rw [if_neg (by rw [h1]; decide), if_pos rfl] at hF
      simp only [Prod.mk.injEq] at hF
      obtain ⟨rfl, rfl⟩ := hF
      clear hI
      go_wp2
      go_ret2
      exact ⟨none, 0, rfl, made_nil w (Below.refl _ _)⟩
    · have hne : xs ≠ [] := fun e => h0 (by rw [← hlen, e]; rfl)
      have hz : ((n : Int) == 0) = false := by simpa using h0
      go_wp2_with fail
      refine (below_is p n c xs b w hI (by omega)).mono ?_
      rintro e w1 ⟨rfl, rfl⟩
      clear hz
      cases h2 : belS xs b with
      | false =>
        unfold formS at hF
        rw [if_neg (by rw [h1]; decide), if_neg hne, if_pos h2] at hF
        simp only [Prod.mk.injEq] at hF
        obtain ⟨rfl, rfl⟩ := hF
        clear hI
        go_wp2
        go_ret2
        exact ⟨none, 0, rfl, made_nil w (Below.refl _ _)⟩
      | true =>
        go_wp2_with fail
        refine (different_is p n c xs w hreach hI).mono ?_
        rintro e w1 ⟨q, d, rfl, hM⟩
        have HM : Hid (Made w w1 q (diffS xs).length d (diffS xs)) := hM
        unfold formS at hF
        rw [if_neg (by rw [h1]; decide), if_neg hne, if_neg (by rw [h2]; decide)] at hF
        have hmay : 1 ≤ m := by have := of_decide_eq_true h1; omega
        clear hM hI hne h1 h2
        by_cases h3 : m < ((diffS xs).length : Int)
        · rw [if_pos h3] at hF
          simp only [Prod.mk.injEq] at hF
          obtain ⟨rfl, rfl⟩ := hF
          go_wp2
          go_ret2
          exact ⟨none, 0, rfl, made_nil w HM.out.below⟩
        · rw [if_neg h3] at hF
          simp only [Prod.mk.injEq] at hF
          obtain ⟨rfl, rfl⟩ := hF
          go_wp2
          go_ret2
          exact ⟨q, d, rfl, HM.out⟩

theorem isS_false {xs : List Int} (h : ¬ (1 ≤ xs.length ∧ xs.length ≤ 16 ∧ (∀ x ∈ xs, 0 ≤ x ∧ x < 64) ∧ ∀ i, i < xs.length - 1 → xs.getD i 0 < xs.getD (i + 1) 0)) : isS xs = false := decide_eq_false h
theorem isS_true {xs : List Int} (h1 : 1 ≤ xs.length) (h2 : xs.length ≤ 16) (h3 : ∀ x ∈ xs, 0 ≤ x ∧ x < 64) (h4 : ∀ i, i < xs.length - 1 → xs.getD i 0 < xs.getD (i + 1) 0) : isS xs = true := decide_eq_true ⟨h1, h2, h3, h4⟩
theorem adj_step {xs : List Int} {k : Nat} (h : ∀ i, i < k → xs.getD i 0 < xs.getD (i + 1) 0) (hx : xs.getD k 0 < xs.getD (k + 1) 0) : ∀ i, i < k + 1 → xs.getD i 0 < xs.getD (i + 1) 0 := by
  intro i hi
  by_cases e : i = k
  · subst e; exact hx
  · exact h i (by omega)

set_option maxHeartbeats 1000000 in
/-- Is -/
theorem is_is (p : Option Addr) (n c : Nat) (xs : List Int) (w : World) (hI : IIn w p n xs) (hnc : n ≤ c) (hn : n ≤ 140737488355328) :
    Calls Try.prog 10 #[.slice p n c] w fun e' w' => e' = .returned (.bool (isS xs)) ∧ w = w' := by
  have hlen := hI.len
  by_cases h1 : n < 1
  · have E : Hid (isS xs = false) := isS_false fun h => by omega
    obtain rfl : n = 0 := by omega
    clear hI
    go_enter Try.func10, Try.ntmps10
    go_wp2
    go_ret
    exact ⟨by rw [E.out]; rfl, rfl⟩
  · by_cases h2 : 16 < n
    · have E : Hid (isS xs = false) := isS_false fun h => by omega
      clear hI
      go_enter Try.func10, Try.ntmps10
      go_wp2
      go_ret
      exact ⟨by rw [E.out]; rfl, rfl⟩
    · obtain ⟨b', o, rfl, hcs⟩ := hI.cells (by omega)
      have HI : Hid (IIn w (some ⟨b', o, none⟩) n xs) := hI
      have HC : Hid (∀ i, i < n → w.cell? ⟨b', o + i, none⟩ = some (.int .i64 (xs.getD i 0))) := hcs
      have HL : Hid (xs.length = n) := hlen
      have i1 : ¬ (n : Int) < 1 := by omega
      have i2 : ¬ (16 : Int) < (n : Int) := by omega
      have i3 : (1 : Int) ≤ (n : Int) := by omega
      clear hI hcs hlen
      go_enter Try.func10, Try.ntmps10
      go_wp2_with fail
      refine (below_is _ n c xs 64 w HI.out (by omega)).mono ?_
      rintro e w1 ⟨rfl, rfl⟩
      cases h3 : belS xs 64 with
      | false =>
        have E : Hid (isS xs = false) := isS_false fun h => by
          have := of_decide_eq_false h3
          exact this h.2.2.1
        go_wp2
        go_ret
        exact ⟨by rw [E.out]; rfl, rfl⟩
      | true =>
        have HB : Hid (∀ x ∈ xs, 0 ≤ x ∧ x < 64) := by
          have h := of_decide_eq_true h3
          exact h
        have c0 := HC.out 0 (by omega)
        rw [Nat.add_zero] at c0
        clear h3
        have hc1 : (n : Int) ≤ (c : Int) := by omega
        by_cases e1 : c = 1
        · obtain rfl : n = 1 := by omega
          subst e1
          have E : Hid (isS xs = true) := isS_true (by rw [HL.out]; omega) (by rw [HL.out]; omega) HB.out (fun i hi => by rw [HL.out] at hi; omega)
          go_wp2
          refine wp_loop_rounds 1 ?_
          rw [rounds_succ]
          go_wp2
          go_ret
          exact ⟨by rw [E.out]; rfl, rfl⟩
        · have hc2 : ¬ c = 0 := by omega
          have hc3 : ¬ c - 1 = 0 := by omega
          obtain ⟨N, rfl⟩ : ∃ N, n = N + 1 := ⟨n - 1, by omega⟩
          obtain ⟨x0, hx0⟩ : ∃ x0, xs.getD 0 0 = x0 := ⟨_, rfl⟩
          have HX0 : Hid (x0 = xs.getD 0 0) := hx0.symm
          rw [hx0] at c0
          clear hx0
          go_wp2
          go_loop [3, 25] (fun v i => ∃ (k : Nat) (y : Int), k ≤ N ∧ i = .int .i64 k ∧ v = .int .i64 y ∧ Hid (y = xs.getD k 0) ∧ Hid (∀ i, i < k → xs.getD i 0 < xs.getD (i + 1) 0)) (fun _ i => N - (intOf i).toNat)
          case atStart => exact ⟨0, x0, Nat.zero_le _, rfl, rfl, HX0, fun j hj => absurd hj (Nat.not_lt_zero _)⟩
          case round =>
            obtain ⟨k, y, hk, rfl, rfl, HY, HT⟩ := hrel
            by_cases hlt : k < N
            · have hc := HC.out (k + 1) (by omega)
              rw [show o + (k + 1) = o + 1 + k by omega] at hc
              have i4 : (k : Int) < (N : Int) := by omega
              have HA : Hid (y < xs.getD (k + 1) 0 → ∀ i, i < k + 1 → xs.getD i 0 < xs.getD (i + 1) 0) := fun h => adj_step HT.out (by rw [← HY.out]; exact h)
              have HF : Hid (¬ y < xs.getD (k + 1) 0 → isS xs = false) := fun h => isS_false fun a => h (by rw [HY.out]; exact a.2.2.2 k (by rw [HL.out]; omega))
              obtain ⟨z, hz⟩ : ∃ z, xs.getD (k + 1) 0 = z := ⟨_, rfl⟩
              have HZ : Hid (z = xs.getD (k + 1) 0) := hz.symm
              rw [hz] at hc HA HF
              clear hz HY HT c0
              by_cases h9 : y < z
              · have HA2 : Hid (∀ i, i < k + 1 → xs.getD i 0 < xs.getD (i + 1) 0) := HA.out h9
                clear HA HF
                go_wp2
                go_round
                case rel => exact ⟨k + 1, z, by omega, by go_num, rfl, HZ, HA2⟩
                case measure => simp [intOf]; omega
              · have HF2 : Hid (isS xs = false) := HF.out h9
                clear HA HF
                go_wp2
                go_ret
                exact ⟨by rw [HF2.out]; rfl, rfl⟩
            · obtain rfl : k = N := by omega
              have E : Hid (isS xs = true) := isS_true (by rw [HL.out]; omega) (by rw [HL.out]; omega) HB.out (fun i hi => by rw [HL.out] at hi; exact HT.out i (by omega))
              go_wp2
              go_ret
              exact ⟨by rw [E.out]; rfl, rfl⟩

end Go.Proofs.Ytcmcifihhlfnbaa
