/-
  RingExact walked.
-/
import Derived.Test.YtbeffibcigaioaaRg
namespace Go.Proofs.Ytbeffibcigaioaa
open Go.RowKit

set_option maxHeartbeats 1000000 in
theorem ringExact_any (p q n s : Int) (hp0 : 0 ≤ p) (hq0 : 0 ≤ q) (hq1 : q < 18446744073709551616) (w : World) :
    Calls Try.prog 7 #[.int .u64 p, .int .u64 q, .int .i64 n, .int .i64 s] w fun e w' => e = .returned (.bool true) ∧ Below w.heap.size w w' := by
  obtain ⟨a1, b1, h1⟩ : ∃ a b, Hid (slotS p n = (a, b)) := ⟨_, _, rfl⟩
  obtain ⟨a2, b2, h2⟩ : ∃ a b, Hid (usedS p q n = (a, b)) := ⟨_, _, rfl⟩
  obtain ⟨a3, b3, h3⟩ : ∃ a b, Hid (nextS p n = (a, b)) := ⟨_, _, rfl⟩
  obtain ⟨a4, b4, h4⟩ : ∃ a b, Hid (ownerS s p n = (a, b)) := ⟨_, _, rfl⟩
  go_enter Try.func7, Try.ntmps7
  go_wp2_with fail
  refine (awake_any _).mono ?_
  rintro e w1 ⟨rfl, hb⟩
  have B1 : Hid (Below w.heap.size w w1) := hb
  clear hb
  go_wp2_with (first | (go_at_call 14; refine (slot_is hp0 h1.out _).mono ?_; rintro e w' ⟨rfl, rfl⟩) | (go_at_call 19; refine (rslot_is hp0 h1.out _).mono ?_; rintro e w' ⟨rfl, rfl⟩) | (go_at_call 15; refine (num_any _ _).mono ?_; rintro e w' ⟨rfl, rfl⟩) | (go_at_call 17; refine (used_is hp0 hq0 hq1 h2.out _).mono ?_; rintro e w' ⟨rfl, rfl⟩) | (go_at_call 20; refine (rused_is hp0 hq0 hq1 h2.out _).mono ?_; rintro e w' ⟨rfl, rfl⟩) | (go_at_call 18; refine (next_is hp0 h3.out _).mono ?_; rintro e w' ⟨rfl, rfl⟩) | (go_at_call 21; refine (rnext_is hp0 h3.out _).mono ?_; rintro e w' ⟨rfl, rfl⟩) | fail)
  refine (owner_is hp0 h4.out _).mono ?_
  rintro e w2 ⟨rfl, hb⟩
  have B2 : Hid (Below w.heap.size w w2) := below_then B1.out hb
  clear hb
  go_wp2_with (first | (go_at_call 22; refine (rowner_is hp0 h4.out _).mono ?_; rintro e w' ⟨rfl, rfl⟩) | (go_at_call 15; refine (num_any _ _).mono ?_; rintro e w' ⟨rfl, rfl⟩))
  go_ret
  exact ⟨rfl, B2.out⟩

end Go.Proofs.Ytbeffibcigaioaa
