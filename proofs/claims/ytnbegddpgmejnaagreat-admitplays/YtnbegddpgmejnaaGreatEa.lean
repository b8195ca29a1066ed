/-
  Layer 5: the program's Form and Is.
-/
import Derived.Test.YtnbegddpgmejnaaGreatDb
import Derived.Test.YtnbegddpgmejnaaGreatBRa
namespace Go.Proofs.YtnbegddpgmejnaaGreat.B
open Go.RowKit
set_option maxHeartbeats 1000000 in
set_option maxRecDepth 100000 in
/-- Form -/
theorem form_is (p : Option Addr) (n c : Nat) (xs : List Int) (b m : Int) (F : List Int) (E : Int) (hF : formS xs b m = (F, E)) (w : World) (hreach : n + 80 ≤ 17592186044416) (hI : IIn w p n xs) :
    Calls Tryz.prog 45 #[.slice p n c, .int .i64 b, .int .i64 m] w fun e' w' => ∃ q d, e' = .returned (.tuple #[.slice q F.length d, .int .i64 E]) ∧ Made w w' q F.length d F := by
  have hlen := hI.len
  go_enter Tryz.func45, Tryz.ntmps45
  go_wp2_with fail
  refine (may_is b m w).mono ?_
  rintro e w1 ⟨rfl, rfl⟩
  cases h1 : mayS b m with
  | false =>
    unfold formS at hF
    rw [if_pos h1] at hF
    simp only [Prod.mk.injEq] at hF
    obtain ⟨rfl, rfl⟩ := hF
    clear hI
    go_wp2
    go_ret2
    exact ⟨none, 0, rfl, made_nil w (Below.refl _ _)⟩
  | true =>
    by_cases h0 : n = 0
    · subst h0
      obtain rfl : xs = [] := List.eq_nil_of_length_eq_zero hlen
      unfold formS at hF
      rw [if_neg (by rw [h1]; decide), if_pos rfl] at hF
      simp only [Prod.mk.injEq] at hF
      obtain ⟨rfl, rfl⟩ := hF
      clear hI
      go_wp2
      go_ret2
      exact ⟨none, 0, rfl, made_nil w (Below.refl _ _)⟩
    · have hne : xs ≠ [] := fun e => h0 (by rw [← hlen, e]; rfl)
      have hz : ((n : Int) == 0) = false := by simpa using h0
      go_wp2_with fail
      refine (below_is p n c xs b w hI (by omega)).mono ?_
      rintro e w1 ⟨rfl, rfl⟩
      clear hz
      cases h2 : belS xs b with
      | false =>
        unfold formS at hF
        rw [if_neg (by rw [h1]; decide), if_neg hne, if_pos h2] at hF
        simp only [Prod.mk.injEq] at hF
        obtain ⟨rfl, rfl⟩ := hF
        clear hI
        go_wp2
        go_ret2
        exact ⟨none, 0, rfl, made_nil w (Below.refl _ _)⟩
      | true =>
        go_wp2_with fail
        refine (different_is p n c xs w hreach hI).mono ?_
        rintro e w1 ⟨q, d, rfl, hM⟩
        have HM : Hid (Made w w1 q (diffS xs).length d (diffS xs)) := hM
        unfold formS at hF
        rw [if_neg (by rw [h1]; decide), if_neg hne, if_neg (by rw [h2]; decide)] at hF
        have hmay : 1 ≤ m := by have := of_decide_eq_true h1; omega
        clear hM hI hne h1 h2
        by_cases h3 : m < ((diffS xs).length : Int)
        · rw [if_pos h3] at hF
          simp only [Prod.mk.injEq] at hF
          obtain ⟨rfl, rfl⟩ := hF
          go_wp2
          go_ret2
          exact ⟨none, 0, rfl, made_nil w HM.out.below⟩
        · rw [if_neg h3] at hF
          simp only [Prod.mk.injEq] at hF
          obtain ⟨rfl, rfl⟩ := hF
          go_wp2
          go_ret2
          exact ⟨q, d, rfl, HM.out⟩
end Go.Proofs.YtnbegddpgmejnaaGreat.B
