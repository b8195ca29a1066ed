/-
  Contracts of the statements' own helpers: some.
-/
import Derived.Test.YtaencchobpgogaaDoorSd
import Derived.Laws.AppendOwnNone
namespace Go.Proofs.YtaencchobpgogaaDoor
open Go.RowKit

set_option maxHeartbeats 1000000 in
theorem some_small (a : Addr) (n c : Nat) (xs : List Int) (w : World) (h : BIn w (some a) n xs) (hnc : n ≤ c) (hs : n ≤ 3000) :
    Calls Tryd.prog 13 #[.slice (some a) n c] w fun e w' => ∃ v', e = .returned v' ∧ w'.ownsRow w.heap.size 5 1 v' n (U8 xs) ∧ Below w.heap.size w w' := by
  obtain ⟨i0, hi, hz0, hz1, hz2⟩ := info_parts info5
  have HH : Hid (BIn w (some a) n xs) := h
  clear h
  have HN : Hid (∀ j u, (U8 xs)[j]? = some u → (w.alloc (.cells #[] 5)).cell? (a.add j) = some u) := (HH.out.later (below_alloc w _)).news
  have m1 : (n : Int) ≤ (c : Int) := by omega
  have m2 : (n : Int) ≤ 3000 := by omega
  go_enter Tryd.func13, Tryd.ntmps13
  go_wp2_with (at_builtin; refine wpList_append_own _ rfl _ _ 25 rfl w.heap.size 5 i0 (.int .u8 0) 1 1 Tryd.underlying25 hi hz0 hz1 hz2 rfl (by decide) _ _ _ rfl (World.ownsRow_made w #[] 0 (Nat.le_refl _) (Nat.zero_le _) rfl) a n c (U8 xs) rfl (by simp [U8, HH.out.len]) HN.out (ones_u8 _) (by unfold maxLen; omega) (by omega) (by simp) ?_)
  intro v' w1 hown hgrow hnil
  go_wp2
  go_ret
  refine ⟨v', rfl, by simpa using hown, ?_⟩
  exact ((Below.refl _ w).alloc (Nat.le_refl _) _).grown hgrow (by simp) (by intro k hk; simp [Value.ownBlock] at hk; omega)

set_option maxHeartbeats 1000000 in
theorem some_great (a : Addr) (n c : Nat) (xs : List Int) (w : World) (h : BIn w (some a) n xs) (hnc : n ≤ c) (hs : 3000 < n) :
    Calls Tryd.prog 13 #[.slice (some a) n c] w fun e w' => ∃ v', e = .returned v' ∧ w'.ownsRow w.heap.size 5 1 v' 3000 (U8 (xs.take 3000)) ∧ Below w.heap.size w w' := by
  obtain ⟨i0, hi, hz0, hz1, hz2⟩ := info_parts info5
  have HH : Hid (BIn w (some a) 3000 (xs.take 3000)) := h.take 3000 (by omega)
  clear h
  have HN : Hid (∀ j u, (U8 (xs.take 3000))[j]? = some u → (w.alloc (.cells #[] 5)).cell? (a.add j) = some u) := (HH.out.later (below_alloc w _)).news
  have HL : Hid ((U8 (xs.take 3000)).length = 3000 * 1) := by show _ = _; rw [List.length_map, HH.out.len]
  have m1 : (3000 : Int) ≤ (c : Int) := by omega
  have m2 : ¬ (n : Int) ≤ 3000 := by omega
  go_enter Tryd.func13, Tryd.ntmps13
  go_wp2_with (at_builtin; refine wpList_append_own _ rfl _ _ 25 rfl w.heap.size 5 i0 (.int .u8 0) 1 1 Tryd.underlying25 hi hz0 hz1 hz2 rfl (by decide) _ _ _ rfl (World.ownsRow_made w #[] 0 (Nat.le_refl _) (Nat.zero_le _) rfl) a 3000 c (U8 (xs.take 3000)) rfl HL.out HN.out (ones_u8 _) (by unfold maxLen; omega) (by omega) (by simp) ?_)
  intro v' w1 hown hgrow hnil
  go_wp2
  go_ret
  refine ⟨v', rfl, by simpa using hown, ?_⟩
  exact ((Below.refl _ w).alloc (Nat.le_refl _) _).grown hgrow (by simp) (by intro k hk; simp [Value.ownBlock] at hk; omega)

set_option maxHeartbeats 1000000 in
theorem some_none (w : World) :
    Calls Tryd.prog 13 #[.slice none 0 0] w fun e w' => ∃ v', e = .returned v' ∧ w'.ownsRow w.heap.size 5 1 v' 0 [] ∧ Below w.heap.size w w' := by
  obtain ⟨i0, hi, hz0, hz1, hz2⟩ := info_parts info5
  have HM : Hid ((w.alloc (.cells #[] 5)).ownsRow w.heap.size 5 1 (.slice (some ⟨w.heap.size, 0, none⟩) 0 0) 0 []) := World.ownsRow_made w #[] 0 (Nat.le_refl _) (Nat.zero_le _) rfl
  go_enter Tryd.func13, Tryd.ntmps13
  go_wp2_with (at_builtin; refine wpList_append_own_none rfl _ _ 25 rfl w.heap.size 5 i0 1 Tryd.underlying25 hi _ 0 [] rfl HM.out rfl ?_)
  go_ret
  exact ⟨_, rfl, HM.out, below_alloc _ _⟩

theorem some_any (p : Option Addr) (n c : Nat) (xs : List Int) (w : World) (h : BIn w p n xs) (hp : p = none → c = 0) (hnc : n ≤ c) :
    Calls Tryd.prog 13 #[.slice p n c] w fun e w' => ∃ v' m X, e = .returned v' ∧ w'.ownsRow w.heap.size 5 1 v' m (U8 X) ∧ Below w.heap.size w w' ∧ Bytes X ∧ X.length = m ∧ m ≤ 3000 := by
  cases p with
  | some a =>
    by_cases hs : n ≤ 3000
    · refine (some_small a n c xs w h hnc hs).mono ?_
      rintro e w' ⟨v, rfl, ho, hb⟩
      exact ⟨v, n, xs, rfl, ho, hb, h.byte, h.len, hs⟩
    · refine (some_great a n c xs w h hnc (by omega)).mono ?_
      rintro e w' ⟨v, rfl, ho, hb⟩
      exact ⟨v, 3000, xs.take 3000, rfl, ho, hb, h.byte.take _, by rw [List.length_take, h.len]; omega, by omega⟩
  | none =>
    obtain rfl := hp rfl
    obtain rfl : n = 0 := by omega
    refine (some_none w).mono ?_
    rintro e w' ⟨v, rfl, ho, hb⟩
    exact ⟨v, 0, [], rfl, ho, hb, Bytes.nil, rfl, by omega⟩
end Go.Proofs.YtaencchobpgogaaDoor
