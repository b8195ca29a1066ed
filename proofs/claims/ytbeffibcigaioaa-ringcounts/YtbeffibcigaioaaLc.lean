/-
  RingCounts walked.
-/
import Derived.Test.YtbeffibcigaioaaLb
namespace Go.Proofs.Ytbeffibcigaioaa
open Go.RowKit

set_option maxHeartbeats 1000000 in
theorem ringCounts_any (t0 m n0 : Int) (ht0 : 0 ≤ t0) (w : World) :
    Calls Try.prog 5 #[.int .u64 t0, .int .i64 m, .int .i64 n0] w fun e w' => e = .returned (.bool true) ∧ Below w.heap.size w w' := by
  go_enter Try.func5, Try.ntmps5
  go_wp2_with fail
  refine (awake_any _).mono ?_
  rintro e w1 ⟨rfl, hb⟩
  have B1 : Hid (Below w.heap.size w w1) := hb
  clear hb
  go_wp2_with fail
  refine (lap_x _ _ ht0 _).mono ?_
  rintro e w' ⟨T, n, ⟨hT0, hT1, hn⟩, rfl, rfl⟩
  have hn1 := hn.1
  have hn2 := hn.2
  have k1 := Int.tmod_lt_of_pos m (show (0 : Int) < n + 3 by omega)
  have k2 := Int.lt_tmod_of_pos m (show (0 : Int) < n + 3 by omega)
  have k3 := tmod_fix m (n + 3) (by omega)
  have k4 := Int.emod_nonneg m (show n + 3 ≠ 0 by omega)
  have k5 := Int.emod_lt_of_pos m (show 0 < n + 3 by omega)
  rw [show m.tmod (n + 3) + (n + 3) = m.tmod (n + 3) + n + 3 by omega] at k3
  have wa : wrap64 (n + 3) = n + 3 := by unfold wrap64; omega
  have wb : wrap64 (m.tmod (n + 3) + n) = m.tmod (n + 3) + n := by unfold wrap64; omega
  have wc : wrap64 (m.tmod (n + 3) + n + 3) = m.tmod (n + 3) + n + 3 := by unfold wrap64; omega
  go_wp2_with fail
  generalize m % (n + 3) = k at *
  clear k1 k2 k3 wa wb wc
  have wT : IntKind.u64.wrap (T + k) = T + k := wrap_u (by omega) (by omega)
  have wk : IntKind.u64.wrap k = k := wrap_u (by omega) (by omega)
  by_cases hk : k ≤ n
  · have h1 : Hid (usedS T (T + k) n = (k, 0)) := by
      show _ = _
      simp only [usedS, if_pos hn, if_neg (show ¬ T > 4611686018427387904 by omega), if_neg (show ¬ (T + k < T ∨ n < T + k - T) by omega)]
      rw [show T + k - T = k by omega]
    have h2 : Hid (spanN T (T + k) = k.toNat) := by show _ = _; unfold spanN; omega
    have hkk : ((k.toNat : Nat) : Int) = k := by omega
    refine (used_is hT0 (by omega) (by omega) h1.out _).mono ?_
    rintro e w' ⟨rfl, rfl⟩
    go_wp2_with fail
    refine (span_x _ _ _).mono ?_
    rintro e w2 ⟨Bt, Be, rfl, bT, bE, hb⟩
    have B2 : Hid (Below w.heap.size w w2) := below_then B1.out hb
    clear hb
    go_wp2_with fail
    refine (taken_all _ _ _ _ hT0 (by omega) (by omega) (by omega) _ bT bE).mono ?_
    rintro e w3 ⟨p, c, rfl, hi, hb⟩
    have B3 : Hid (Below w.heap.size w w3) := below_then B2.out hb
    clear hb hi bT bE
    rw [h2.out]
    go_wp2_with (go_at_call 15; refine (num_any _ _).mono ?_; rintro e w' ⟨rfl, rfl⟩)
    go_ret
    exact ⟨rfl, B3.out⟩
  · have h1 : Hid (usedS T (T + k) n = (0, 30)) := by
      show _ = _
      simp only [usedS, if_pos hn, if_neg (show ¬ T > 4611686018427387904 by omega), if_pos (show (T + k < T ∨ n < T + k - T) by omega)]
    refine (used_is hT0 (by omega) (by omega) h1.out _).mono ?_
    rintro e w' ⟨rfl, rfl⟩
    go_wp2_with fail
    refine (span_x _ _ _).mono ?_
    rintro e w2 ⟨Bt, Be, rfl, bT, bE, hb⟩
    have B2 : Hid (Below w.heap.size w w2) := below_then B1.out hb
    clear hb
    go_wp2_with fail
    refine (taken_all _ _ _ _ hT0 (by omega) (by omega) (by omega) _ bT bE).mono ?_
    rintro e w3 ⟨p, c, rfl, hi, hb⟩
    have B3 : Hid (Below w.heap.size w w3) := below_then B2.out hb
    clear hb hi bT bE
    go_wp2_with (go_at_call 15; refine (num_any _ _).mono ?_; rintro e w' ⟨rfl, rfl⟩)
    go_ret
    exact ⟨rfl, B3.out⟩

end Go.Proofs.Ytbeffibcigaioaa
