/-
  Contracts of layer 1, third part: octet.Take.
-/
import Derived.Test.YtefnkjajjidfaaaGreatDoorCa
import Derived.RegionTactic
import Derived.Deep.RegionWith
namespace Go.Proofs.YtefnkjajjidfaaaGreatDoor
open Go.RowKit
set_option maxHeartbeats 400000 in
set_option maxRecDepth 100000 in
theorem take_input (p : Option Addr) (n c : Nat) (s : Int) (w : World) (hs : s < 1 ∨ 8 < s) :
    Calls Tryz.prog 82 #[.slice p n c, .int .i64 s] w fun e w' => e = .returned (.tuple #[.int .u64 0, .slice none 0 0, .int .i64 2]) ∧ w = w' := by
  have hd : decide (1 ≤ s ∧ s ≤ 8) = false := decide_eq_false (by omega)
  go_enter Tryz.func82, Tryz.ntmps82
  go_wp2_with (first | (go_at_call 87; refine (isSize_any _ _).mono ?_; rintro e w' ⟨rfl, rfl⟩))
  go_ret3
  exact ⟨rfl, rfl⟩
set_option maxHeartbeats 400000 in
set_option maxRecDepth 100000 in
theorem take_short (p : Option Addr) (n c : Nat) (k : Nat) (w : World) (hs : 1 ≤ k ∧ k ≤ 8) (hk : n < k) :
    Calls Tryz.prog 82 #[.slice p n c, .int .i64 k] w fun e w' => e = .returned (.tuple #[.int .u64 0, .slice none 0 0, .int .i64 11]) ∧ w = w' := by
  have hd : decide (1 ≤ (k : Int) ∧ (k : Int) ≤ 8) = true := decide_eq_true (by omega)
  go_enter Tryz.func82, Tryz.ntmps82
  go_wp2_with (first | (go_at_call 87; refine (isSize_any _ _).mono ?_; rintro e w' ⟨rfl, rfl⟩))
  go_ret3
  exact ⟨rfl, rfl⟩
set_option maxHeartbeats 1000000 in
set_option maxRecDepth 100000 in
theorem take_more (b o n c : Nat) (xs : List Int) (k : Nat) (w : World) (hs : 1 ≤ k ∧ k ≤ 8) (hk : k ≤ n) (hnc : n ≤ c) (hbig : n ≤ 140737488355328) (h : BIn w (some ⟨b, o, none⟩) n xs) (hck : ¬ c = k) :
    Calls Tryz.prog 82 #[.slice (some ⟨b, o, none⟩) n c, .int .i64 k] w fun e w' => ∃ v', e = .returned (.tuple #[.int .u64 (worth (xs.take k)), v', .int .i64 0]) ∧
      w'.ownsRow w.heap.size 5 1 v' (n - k) (U8 (xs.drop k)) ∧ Below w.heap.size w w' := by
  have hd : decide (1 ≤ (k : Int) ∧ (k : Int) ≤ 8) = true := decide_eq_true (by omega)
  have k0 : (0 : Int) ≤ k := by omega
  have k1 : (k : Int) ≤ (c : Int) := by omega
  have k2 : (k : Int) ≤ (n : Int) := by omega
  go_enter Tryz.func82, Tryz.ntmps82
  go_wp2_with (first | (go_at_call 87; refine (isSize_any _ _).mono ?_; rintro e w' ⟨rfl, rfl⟩))
  go_region_with (first | (go_at_call 100; refine (number_any _ _ _ (xs.take k) _ (by omega) ?_).mono ?_; exact (h.take k hk).drew; rintro e w' ⟨rfl, rfl⟩) | (go_at_call 49; refine (clone_any _ _ _ (xs.drop k) _ ?_ (by omega)).mono ?_; exact (h.drop k hk).drew; rintro e w' ⟨v, rfl, hown, hbel⟩))
  all_goals go_wp2
  all_goals go_ret3
  exact ⟨v, rfl, hown, below_undrew hbel⟩
set_option maxHeartbeats 1000000 in
set_option maxRecDepth 100000 in
theorem take_end (b o : Nat) (xs : List Int) (k : Nat) (w : World) (hs : 1 ≤ k ∧ k ≤ 8) (h : BIn w (some ⟨b, o, none⟩) k xs) :
    Calls Tryz.prog 82 #[.slice (some ⟨b, o, none⟩) k k, .int .i64 k] w fun e w' => ∃ v', e = .returned (.tuple #[.int .u64 (worth xs), v', .int .i64 0]) ∧
      w'.ownsRow w.heap.size 5 1 v' 0 [] ∧ Below w.heap.size w w' := by
  have hd : decide (1 ≤ (k : Int) ∧ (k : Int) ≤ 8) = true := decide_eq_true (by omega)
  have k0 : (0 : Int) ≤ k := by omega
  go_enter Tryz.func82, Tryz.ntmps82
  go_wp2_with (first | (go_at_call 87; refine (isSize_any _ _).mono ?_; rintro e w' ⟨rfl, rfl⟩))
  go_region_with (first | (go_at_call 100; refine (number_any _ _ _ xs _ (by omega) ?_).mono ?_; exact h.drew; rintro e w' ⟨rfl, rfl⟩) | (go_at_call 49; refine (clone_any _ _ _ [] _ ?_ (by omega)).mono ?_; exact BIn.empty; rintro e w' ⟨v, rfl, hown, hbel⟩))
  all_goals go_wp2
  all_goals go_ret3
  exact ⟨v, rfl, hown, below_undrew hbel⟩
theorem take_any (p : Option Addr) (n c : Nat) (xs : List Int) (s : Int) (w : World) (h : BIn w p n xs) (hnc : n ≤ c) (hbig : n ≤ 140737488355328) :
    Calls Tryz.prog 82 #[.slice p n c, .int .i64 s] w fun e w' => ∃ v', e = .returned (.tuple #[.int .u64 (takeS xs s).1, v', .int .i64 (takeS xs s).2.2]) ∧
      w'.ownsRow w.heap.size 5 1 v' (takeS xs s).2.1.length (U8 (takeS xs s).2.1) ∧ Below w.heap.size w w' := by
  unfold takeS
  by_cases hs : s < 1 ∨ 8 < s
  · rw [if_pos hs]
    refine (take_input p n c s w hs).mono ?_
    rintro e w' ⟨rfl, rfl⟩
    exact ⟨_, rfl, World.ownsRow_nil _ _ _ _, Below.refl _ _⟩
  · rw [if_neg hs]
    obtain ⟨k, rfl⟩ := Int.eq_ofNat_of_zero_le (show 0 ≤ s by omega)
    rw [Int.toNat_natCast, h.len]
    by_cases hk : (n : Int) < k
    · rw [if_pos hk]
      refine (take_short p n c k w (by omega) (by omega)).mono ?_
      rintro e w' ⟨rfl, rfl⟩
      exact ⟨_, rfl, World.ownsRow_nil _ _ _ _, Below.refl _ _⟩
    · rw [if_neg hk]
      obtain ⟨b, o, rfl, _⟩ := h.cells (by omega)
      by_cases hck : c = k
      · subst hck
        obtain rfl : n = c := by omega
        have e1 : xs.take n = xs := List.take_of_length_le (by rw [h.len]; omega)
        have e2 : xs.drop n = [] := List.drop_eq_nil_of_le (by rw [h.len]; omega)
        rw [e1, e2]
        exact take_end b o xs n w (by omega) h
      · simp only [List.length_drop, h.len]
        exact take_more b o n c xs k w (by omega) (by omega) hnc hbig h hck
end Go.Proofs.YtefnkjajjidfaaaGreatDoor
