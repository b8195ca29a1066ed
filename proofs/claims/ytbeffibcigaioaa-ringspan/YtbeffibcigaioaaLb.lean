/-
  RingNext walked.
-/
import Derived.Test.YtbeffibcigaioaaRg
namespace Go.Proofs.Ytbeffibcigaioaa
open Go.RowKit

theorem lap_tail (t : Int) : 0 ≤ t % 4611686018427387905 ∧ t % 4611686018427387905 ≤ 4611686018427387904 := by omega
theorem lap_cap (n : Int) : Cap (2 + n % 63) := ⟨by omega, by omega⟩

/-- lap, with names for what it hands back -/
theorem lap_x (t n : Int) (h0 : 0 ≤ t) (w : World) :
    Calls Try.prog 13 #[.int .u64 t, .int .i64 n] w fun e w' => ∃ T C : Int, (0 ≤ T ∧ T ≤ 4611686018427387904 ∧ Cap C) ∧ e = .returned (.tuple #[.int .u64 T, .int .i64 C]) ∧ w = w' := by
  refine (lap_any t n h0 w).mono ?_
  rintro e w' ⟨rfl, rfl⟩
  exact ⟨_, _, ⟨(lap_tail t).1, (lap_tail t).2, lap_cap n⟩, rfl, rfl⟩

set_option maxHeartbeats 1000000 in
theorem ringNext_any (e0 b n0 : Int) (he0 : 0 ≤ e0) (hb0 : 0 ≤ b) (w : World) :
    Calls Try.prog 6 #[.int .u64 e0, .int .u64 b, .int .i64 n0] w fun e w' => e = .returned (.bool true) ∧ Below w.heap.size w w' := by
  go_enter Try.func6, Try.ntmps6
  go_wp2_with fail
  refine (awake_any _).mono ?_
  rintro e w1 ⟨rfl, hb⟩
  have B1 : Hid (Below w.heap.size w w1) := hb
  clear hb
  go_wp2_with fail
  refine (lap_x _ _ he0 _).mono ?_
  rintro e w' ⟨E, n, ⟨hE0, hE1, hn⟩, rfl, rfl⟩
  have hn1 := hn.1
  have hn2 := hn.2
  have hwn := wrap_cap hn
  have hws : IntKind.u64.wrap (4611686018427387904 - n) = 4611686018427387904 - n := wrap_u (by omega) (by omega)
  by_cases hE : E > 4611686018427387904 - n
  · have h1 : Hid (nextS E n = (0, 31)) := by show _ = _; simp [nextS, hn, hE]
    have hE' : 4611686018427387904 - n < E := hE
    clear hE
    go_wp2_with (first | (go_at_call 18; refine (next_is hE0 h1.out _).mono ?_; rintro e w' ⟨rfl, rfl⟩) | (go_at_call 15; refine (num_any _ _).mono ?_; rintro e w' ⟨rfl, rfl⟩))
    go_ret
    exact ⟨rfl, B1.out⟩
  · have h1 : Hid (nextS E n = (E + n, 0)) := by show _ = _; simp [nextS, hn, hE]
    have h2 : Hid (slotS E n = (E % n, 0)) := by show _ = _; simp only [slotS, if_pos hn, if_neg (show ¬ E > 4611686018427387968 by omega)]
    have h3 : Hid (slotS (E + n) n = (E % n, 0)) := by show _ = _; simp only [slotS, if_pos hn, if_neg (show ¬ E + n > 4611686018427387968 by omega), Int.add_emod_right]
    have hE' : ¬ 4611686018427387904 - n < E := hE
    have m1 := Int.emod_nonneg b (show E + 1 ≠ 0 by omega)
    have m2 := Int.emod_lt_of_pos b (show 0 < E + 1 by omega)
    have wa : IntKind.u64.wrap (E + 1) = E + 1 := wrap_u (by omega) (by omega)
    have wb : IntKind.u64.wrap (E - b % (E + 1)) = E - b % (E + 1) := wrap_u (by omega) (by omega)
    have wc : IntKind.u64.wrap (E - b % (E + 1) + n) = E - b % (E + 1) + n := wrap_u (by omega) (by omega)
    clear hE
    go_wp2_with (first | (go_at_call 18; refine (next_is hE0 h1.out _).mono ?_; rintro e w' ⟨rfl, rfl⟩) | fail)
    refine (slot_is hE0 h2.out _).mono ?_
    rintro e w' ⟨rfl, rfl⟩
    go_wp2_with fail
    refine (slot_is (by omega) h3.out _).mono ?_
    rintro e w' ⟨rfl, rfl⟩
    go_wp2_with (go_at_call 15; refine (num_any _ _).mono ?_; rintro e w' ⟨rfl, rfl⟩)
    go_ret
    refine ⟨?_, B1.out⟩
    simp
    omega

end Go.Proofs.Ytbeffibcigaioaa
