/-
  Contracts of layer 3, first part: what may be, slotOf, Slot, Used, Next, Span, num, lap.
-/
import Derived.Test.YtbeffibcigaioaaRows
import Derived.Test.YtbeffibcigaioaaMath
import Derived.WalkKit
import Derived.WalkSpells
import Derived.WalkLawsBesides
namespace Go.Proofs.Ytbeffibcigaioaa
open Go.RowKit

set_option maxHeartbeats 400000 in
theorem cap_any (n : Int) (w : World) :
    Calls Try.prog 24 #[.int .i64 n] w fun e w' => e = .returned (.bool (decide (Cap n))) ∧ w = w' := by
  go_enter Try.func24, Try.ntmps24
  go_wp2
  all_goals go_ret
  all_goals (refine ⟨?_, rfl⟩; simp [Cap]; omega)

set_option maxHeartbeats 400000 in
theorem capr_any (n : Int) (w : World) :
    Calls Try.prog 27 #[.int .i64 n] w fun e w' => e = .returned (.bool (decide (Cap n))) ∧ w = w' := by
  go_enter Try.func27, Try.ntmps27
  go_wp2
  all_goals go_ret
  all_goals (refine ⟨?_, rfl⟩; simp [Cap]; omega)

set_option maxHeartbeats 400000 in
theorem tail_any (p : Int) (w : World) :
    Calls Try.prog 26 #[.int .u64 p] w fun e w' => e = .returned (.bool (decide (p ≤ 4611686018427387904))) ∧ w = w' := by
  go_enter Try.func26, Try.ntmps26
  go_wp2
  all_goals go_ret
  all_goals (exact ⟨rfl, rfl⟩)

theorem wrap_cap {n : Int} (h : Cap n) : IntKind.u64.wrap n = n := by
  have := h.1; have := h.2
  rw [IntKind.wrap_u64]
  omega

theorem mod_cap (p : Int) {n : Int} (h : Cap n) : 0 ≤ p % n ∧ p % n < 64 := by
  have h1 := h.1
  have h2 := h.2
  have h3 := Int.emod_nonneg p (show n ≠ 0 by omega)
  have h4 := Int.emod_lt_of_pos p (show 0 < n by omega)
  omega

theorem wrap_mod (p : Int) {n : Int} (h : Cap n) : wrap64 (p % n) = p % n := by
  have := mod_cap p h
  unfold wrap64
  omega

set_option maxHeartbeats 400000 in
theorem slotOf_any (p n : Int) (hp : 0 ≤ p) (hn : Cap n) (w : World) :
    Calls Try.prog 25 #[.int .u64 p, .int .i64 n] w fun e w' => e = .returned (.int .i64 (p % n)) ∧ w = w' := by
  have h1 := hn.1
  have h2 := hn.2
  have hw := wrap_cap hn
  have hm := wrap_mod p hn
  go_enter Try.func25, Try.ntmps25
  go_wp2
  all_goals go_ret
  all_goals (refine ⟨?_, rfl⟩)
  all_goals simp [hm]

set_option maxHeartbeats 400000 in
theorem num_any (x : Int) (w : World) :
    Calls Try.prog 15 #[.int .i64 x] w fun e w' => e = .returned (.int .i64 x) ∧ w = w' := by
  go_enter Try.func15, Try.ntmps15
  go_wp2
  all_goals go_ret
  all_goals (exact ⟨rfl, rfl⟩)

/-- A pair of an int and an error; of a number of 64 bits and an error. -/
abbrev pairI (x : Int × Int) : Value := .tuple #[.int .i64 x.1, .int .i64 x.2]
abbrev pairU (x : Int × Int) : Value := .tuple #[.int .u64 x.1, .int .i64 x.2]

set_option maxHeartbeats 400000 in
theorem slot_any (p n : Int) (h0 : 0 ≤ p) (w : World) :
    Calls Try.prog 14 #[.int .u64 p, .int .i64 n] w fun e w' => e = .returned (pairI (slotS p n)) ∧ w = w' := by
  by_cases hn : Cap n
  · have hd := decide_eq_true hn
    by_cases hp : p > 4611686018427387968
    · have hs : Hid (slotS p n = (0, 31)) := by show _ = _; simp [slotS, hn, hp]
      have hp' : 4611686018427387968 < p := by omega
      clear hp
      go_enter Try.func14, Try.ntmps14
      go_wp2_with (go_at_call 24; refine (cap_any _ _).mono ?_; rintro e w' ⟨rfl, rfl⟩)
      go_ret2
      exact ⟨by rw [hs.out]; rfl, rfl⟩
    · have hs : Hid (slotS p n = (p % n, 0)) := by show _ = _; simp [slotS, hn, hp]
      have hp' : ¬ 4611686018427387968 < p := by omega
      clear hp
      go_enter Try.func14, Try.ntmps14
      go_wp2_with (first | (go_at_call 24; refine (cap_any _ _).mono ?_; rintro e w' ⟨rfl, rfl⟩) | (go_at_call 25; refine (slotOf_any _ _ h0 hn _).mono ?_; rintro e w' ⟨rfl, rfl⟩))
      go_ret2
      exact ⟨by rw [hs.out]; rfl, rfl⟩
  · have hd := decide_eq_false hn
    have hs : Hid (slotS p n = (0, 2)) := by show _ = _; simp [slotS, hn]
    go_enter Try.func14, Try.ntmps14
    go_wp2_with (go_at_call 24; refine (cap_any _ _).mono ?_; rintro e w' ⟨rfl, rfl⟩)
    go_ret2
    exact ⟨by rw [hs.out]; rfl, rfl⟩

theorem wrap_u {x : Int} (h0 : 0 ≤ x) (h1 : x < 18446744073709551616) : IntKind.u64.wrap x = x := by
  rw [IntKind.wrap_u64]; omega
theorem wrap_i {x : Int} (h0 : 0 ≤ x) (h1 : x < 9223372036854775808) : wrap64 x = x := by
  unfold wrap64; omega

set_option maxHeartbeats 400000 in
theorem used_any (t e n : Int) (h0 : 0 ≤ t) (h1 : 0 ≤ e) (h2 : e < 18446744073709551616) (w : World) :
    Calls Try.prog 17 #[.int .u64 t, .int .u64 e, .int .i64 n] w fun e' w' => e' = .returned (pairI (usedS t e n)) ∧ w = w' := by
  by_cases hn : Cap n
  · have hd := decide_eq_true hn
    have hw := wrap_cap hn
    have hn2 := hn.2
    by_cases ht : t > 4611686018427387904
    · have hs : Hid (usedS t e n = (0, 31)) := by show _ = _; simp [usedS, hn, ht]
      have hdt : decide (t ≤ 4611686018427387904) = false := decide_eq_false (by omega)
      clear ht
      go_enter Try.func17, Try.ntmps17
      go_wp2_with (first | (go_at_call 24; refine (cap_any _ _).mono ?_; rintro e w' ⟨rfl, rfl⟩) | (go_at_call 26; refine (tail_any _ _).mono ?_; rintro e w' ⟨rfl, rfl⟩))
      go_ret2
      exact ⟨by rw [hs.out]; rfl, rfl⟩
    · have ht' : t ≤ 4611686018427387904 := by omega
      by_cases he : e < t
      · have hs : Hid (usedS t e n = (0, 30)) := by show _ = _; simp [usedS, hn, ht, he]
        clear ht
        go_enter Try.func17, Try.ntmps17
        go_wp2_with (first | (go_at_call 24; refine (cap_any _ _).mono ?_; rintro e w' ⟨rfl, rfl⟩) | (go_at_call 26; refine (tail_any _ _).mono ?_; rintro e w' ⟨rfl, rfl⟩))
        go_ret2
        exact ⟨by rw [hs.out]; rfl, rfl⟩
      · have hws : IntKind.u64.wrap (e - t) = e - t := wrap_u (by omega) (by omega)
        by_cases hg : n < e - t
        · have hs : Hid (usedS t e n = (0, 30)) := by show _ = _; simp [usedS, hn, ht, hg]
          clear ht
          go_enter Try.func17, Try.ntmps17
          go_wp2_with (first | (go_at_call 24; refine (cap_any _ _).mono ?_; rintro e w' ⟨rfl, rfl⟩) | (go_at_call 26; refine (tail_any _ _).mono ?_; rintro e w' ⟨rfl, rfl⟩))
          go_ret2
          exact ⟨by rw [hs.out]; rfl, rfl⟩
        · have hs : Hid (usedS t e n = (e - t, 0)) := by show _ = _; simp [usedS, hn, ht, he, hg]
          have hwi : wrap64 (e - t) = e - t := wrap_i (by omega) (by omega)
          clear ht
          go_enter Try.func17, Try.ntmps17
          go_wp2_with (first | (go_at_call 24; refine (cap_any _ _).mono ?_; rintro e w' ⟨rfl, rfl⟩) | (go_at_call 26; refine (tail_any _ _).mono ?_; rintro e w' ⟨rfl, rfl⟩))
          go_ret2
          exact ⟨by rw [hs.out]; simp, rfl⟩
  · have hd := decide_eq_false hn
    have hs : Hid (usedS t e n = (0, 2)) := by show _ = _; simp [usedS, hn]
    go_enter Try.func17, Try.ntmps17
    go_wp2_with (go_at_call 24; refine (cap_any _ _).mono ?_; rintro e w' ⟨rfl, rfl⟩)
    go_ret2
    exact ⟨by rw [hs.out]; rfl, rfl⟩

set_option maxHeartbeats 400000 in
theorem next_any (e n : Int) (h1 : 0 ≤ e) (w : World) :
    Calls Try.prog 18 #[.int .u64 e, .int .i64 n] w fun e' w' => e' = .returned (pairU (nextS e n)) ∧ w = w' := by
  by_cases hn : Cap n
  · have hd := decide_eq_true hn
    have hw := wrap_cap hn
    have hn1 := hn.1
    have hn2 := hn.2
    have hws : IntKind.u64.wrap (4611686018427387904 - n) = 4611686018427387904 - n := wrap_u (by omega) (by omega)
    by_cases ht : e > 4611686018427387904 - n
    · have hs : Hid (nextS e n = (0, 31)) := by show _ = _; simp [nextS, hn, ht]
      have ht' : 4611686018427387904 - n < e := ht
      clear ht
      go_enter Try.func18, Try.ntmps18
      go_wp2_with (go_at_call 24; refine (cap_any _ _).mono ?_; rintro e w' ⟨rfl, rfl⟩)
      go_ret2
      exact ⟨by rw [hs.out]; rfl, rfl⟩
    · have hs : Hid (nextS e n = (e + n, 0)) := by show _ = _; simp [nextS, hn, ht]
      have ht' : ¬ 4611686018427387904 - n < e := ht
      have hwa : IntKind.u64.wrap (e + n) = e + n := wrap_u (by omega) (by omega)
      clear ht
      go_enter Try.func18, Try.ntmps18
      go_wp2_with (go_at_call 24; refine (cap_any _ _).mono ?_; rintro e w' ⟨rfl, rfl⟩)
      go_ret2
      exact ⟨by rw [hs.out]; simp, rfl⟩
  · have hd := decide_eq_false hn
    have hs : Hid (nextS e n = (0, 2)) := by show _ = _; simp [nextS, hn]
    go_enter Try.func18, Try.ntmps18
    go_wp2_with (go_at_call 24; refine (cap_any _ _).mono ?_; rintro e w' ⟨rfl, rfl⟩)
    go_ret2
    exact ⟨by rw [hs.out]; rfl, rfl⟩

/-- Span: the two numbers are boxed; the function captures both boxes. -/
theorem span_any (t e : Int) (w : World) :
    Calls Try.prog 10 #[.int .u64 t, .int .u64 e] w fun e' w' => e' = .returned (.func (.func 23) #[] #[.pointer (some ⟨w.heap.size, 0, none⟩), .pointer (some ⟨w.heap.size + 1, 0, none⟩)]) ∧ (w.alloc (.cells #[.int .u64 t] 22)).alloc (.cells #[.int .u64 e] 22) = w' := by
  have hmf : ∀ (fn : Fn) (first cap : Array Value) (w : World), (Instr.makeFunc fn first cap).run Try.prog w = .ok (.func fn first cap) w := fun _ _ _ _ => rfl
  go_enter Try.func10, Try.ntmps10
  go_wp2
  go_ret
  exact ⟨rfl, rfl⟩

theorem tmod_fix (m k : Int) (hk : 0 < k) : ((m.tmod k) + k).tmod k = m % k := by
  have h1 := Int.tmod_lt_of_pos m hk
  have h2 : -k < m.tmod k := by
    have := Int.lt_tmod_of_pos m hk
    omega
  rw [Int.tmod_eq_emod_of_nonneg (by omega), Int.add_emod_right]
  rw [Int.tmod_def, Int.sub_emod, Int.mul_emod_right]
  simp

/-- lap: a capacity and a tail that may be. -/
theorem lap_any (t n : Int) (h0 : 0 ≤ t) (w : World) :
    Calls Try.prog 13 #[.int .u64 t, .int .i64 n] w fun e w' => e = .returned (.tuple #[.int .u64 (t % 4611686018427387905), .int .i64 (2 + n % 63)]) ∧ w = w' := by
  have h1 := Int.tmod_lt_of_pos n (show (0 : Int) < 63 by decide)
  have h2 := Int.lt_tmod_of_pos n (show (0 : Int) < 63 by decide)
  have h3 := tmod_fix n 63 (by decide)
  have h4 := Int.emod_nonneg n (show (63 : Int) ≠ 0 by decide)
  have h5 := Int.emod_lt_of_pos n (show (0 : Int) < 63 by decide)
  have w1 : IntKind.i64.wrap (n.tmod 63 + 63) = n.tmod 63 + 63 := by rw [IntKind.wrap_i64]; omega
  have w2 : wrap64 (n.tmod 63 + 63) = n.tmod 63 + 63 := by unfold wrap64; omega
  have w3 : wrap64 (2 + n % 63) = 2 + n % 63 := by unfold wrap64; omega
  go_enter Try.func13, Try.ntmps13
  go_wp2
  go_ret2
  refine ⟨?_, rfl⟩
  simp

end Go.Proofs.Ytbeffibcigaioaa
