/-
  Contracts of layer 3, first part: what may be, slotOf, Slot, Used, Next, Span, num, lap.
-/
import Derived.WalkKit
import Derived.WalkSpells
import Derived.WalkLawsBesides
import Derived.Test.YtefnkjajjidfaaaGreatDoorRows
import Derived.Test.YtefnkjajjidfaaaGreatDoorGMath
namespace Go.Proofs.YtefnkjajjidfaaaGreatDoor.G
open Go.RowKit
set_option maxHeartbeats 400000 in
set_option maxRecDepth 100000 in
theorem cap_any (n : Int) (w : World) :
    Calls Tryz.prog 68 #[.int .i64 n] w fun e w' => e = .returned (.bool (decide (Cap n))) ∧ w = w' := by
  go_enter Tryz.func68, Tryz.ntmps68
  go_wp2
  all_goals go_ret
  all_goals (refine ⟨?_, rfl⟩; simp [Cap]; omega)
theorem wrap_cap {n : Int} (h : Cap n) : IntKind.u64.wrap n = n := by
  have := h.1; have := h.2
  rw [IntKind.wrap_u64]
  omega
theorem mod_cap (p : Int) {n : Int} (h : Cap n) : 0 ≤ p % n ∧ p % n < 64 := by
  have h1 := h.1
  have h2 := h.2
  have h3 := Int.emod_nonneg p (show n ≠ 0 by omega)
  have h4 := Int.emod_lt_of_pos p (show 0 < n by omega)
  omega
theorem wrap_mod (p : Int) {n : Int} (h : Cap n) : wrap64 (p % n) = p % n := by
  have := mod_cap p h
  unfold wrap64
  omega
set_option maxHeartbeats 400000 in
set_option maxRecDepth 100000 in
theorem slotOf_any (p n : Int) (hp : 0 ≤ p) (hn : Cap n) (w : World) :
    Calls Tryz.prog 69 #[.int .u64 p, .int .i64 n] w fun e w' => e = .returned (.int .i64 (p % n)) ∧ w = w' := by
  have h1 := hn.1
  have h2 := hn.2
  have hw := wrap_cap hn
  have hm := wrap_mod p hn
  go_enter Tryz.func69, Tryz.ntmps69
  go_wp2
  all_goals go_ret
  all_goals (refine ⟨?_, rfl⟩)
  all_goals simp [hm]
/-- A pair of an int and an error; of a number of 64 bits and an error. -/
abbrev pairI (x : Int × Int) : Value := .tuple #[.int .i64 x.1, .int .i64 x.2]
abbrev pairU (x : Int × Int) : Value := .tuple #[.int .u64 x.1, .int .i64 x.2]
set_option maxHeartbeats 400000 in
set_option maxRecDepth 100000 in
theorem slot_any (p n : Int) (h0 : 0 ≤ p) (w : World) :
    Calls Tryz.prog 47 #[.int .u64 p, .int .i64 n] w fun e w' => e = .returned (pairI (slotS p n)) ∧ w = w' := by
  by_cases hn : Cap n
  · have hd := decide_eq_true hn
    by_cases hp : p > 4611686018427387968
    · have hs : Hid (slotS p n = (0, 31)) := by show _ = _; simp [slotS, hn, hp]
      have hp' : 4611686018427387968 < p := by omega
      clear hp
      go_enter Tryz.func47, Tryz.ntmps47
      go_wp2_with (go_at_call 68; refine (cap_any _ _).mono ?_; rintro e w' ⟨rfl, rfl⟩)
      go_ret2
      exact ⟨by rw [hs.out]; rfl, rfl⟩
    · have hs : Hid (slotS p n = (p % n, 0)) := by show _ = _; simp [slotS, hn, hp]
      have hp' : ¬ 4611686018427387968 < p := by omega
      clear hp
      go_enter Tryz.func47, Tryz.ntmps47
      go_wp2_with (first | (go_at_call 68; refine (cap_any _ _).mono ?_; rintro e w' ⟨rfl, rfl⟩) | (go_at_call 69; refine (slotOf_any _ _ h0 hn _).mono ?_; rintro e w' ⟨rfl, rfl⟩))
      go_ret2
      exact ⟨by rw [hs.out]; rfl, rfl⟩
  · have hd := decide_eq_false hn
    have hs : Hid (slotS p n = (0, 2)) := by show _ = _; simp [slotS, hn]
    go_enter Tryz.func47, Tryz.ntmps47
    go_wp2_with (go_at_call 68; refine (cap_any _ _).mono ?_; rintro e w' ⟨rfl, rfl⟩)
    go_ret2
    exact ⟨by rw [hs.out]; rfl, rfl⟩
theorem wrap_u {x : Int} (h0 : 0 ≤ x) (h1 : x < 18446744073709551616) : IntKind.u64.wrap x = x := by
  rw [IntKind.wrap_u64]; omega
theorem wrap_i {x : Int} (h0 : 0 ≤ x) (h1 : x < 9223372036854775808) : wrap64 x = x := by
  unfold wrap64; omega
/-- Span: the two numbers are boxed; the function captures both boxes. -/
theorem span_any (t e : Int) (w : World) :
    Calls Tryz.prog 27 #[.int .u64 t, .int .u64 e] w fun e' w' => e' = .returned (.func (.func 46) #[] #[.pointer (some ⟨w.heap.size, 0, none⟩), .pointer (some ⟨w.heap.size + 1, 0, none⟩)]) ∧ (w.alloc (.cells #[.int .u64 t] 31)).alloc (.cells #[.int .u64 e] 31) = w' := by
  have hmf : ∀ (fn : Fn) (first cap : Array Value) (w : World), (Instr.makeFunc fn first cap).run Tryz.prog w = .ok (.func fn first cap) w := fun _ _ _ _ => rfl
  go_enter Tryz.func27, Tryz.ntmps27
  go_wp2
  go_ret
  exact ⟨rfl, rfl⟩
theorem tmod_fix (m k : Int) (hk : 0 < k) : ((m.tmod k) + k).tmod k = m % k := by
  have h1 := Int.tmod_lt_of_pos m hk
  have h2 : -k < m.tmod k := by
    have := Int.lt_tmod_of_pos m hk
    omega
  rw [Int.tmod_eq_emod_of_nonneg (by omega), Int.add_emod_right]
  rw [Int.tmod_def, Int.sub_emod, Int.mul_emod_right]
  simp
end Go.Proofs.YtefnkjajjidfaaaGreatDoor.G
