/-
  Contracts of layer 3, seventh part: the contracts with their answers written out; awake.
-/
import Derived.Test.YtbeffibcigaioaaRd
import Derived.Test.YtbeffibcigaioaaRf
namespace Go.Proofs.Ytbeffibcigaioaa
open Go.RowKit Go.Shelf

theorem below_then {w w1 w2 : World} (h : Below w.heap.size w w1) (h2 : Below w1.heap.size w1 w2) : Below w.heap.size w w2 := h.trans (h2.mono h.size)
theorem below_drewN {B : Nat} {w w1 : World} (h : Below B w w1) (n : Nat) : Below B w (w1.drewN n) := ⟨h.os, h.tape, h.output, h.size, h.block⟩

theorem slot_is {p n a b : Int} (h0 : 0 ≤ p) (h : slotS p n = (a, b)) (w : World) :
    Calls Try.prog 14 #[.int .u64 p, .int .i64 n] w fun e w' => e = .returned (.tuple #[.int .i64 a, .int .i64 b]) ∧ w = w' := by
  have := slot_any p n h0 w
  rw [h] at this
  exact this
theorem used_is {t e n a b : Int} (h0 : 0 ≤ t) (h1 : 0 ≤ e) (h2 : e < 18446744073709551616) (h : usedS t e n = (a, b)) (w : World) :
    Calls Try.prog 17 #[.int .u64 t, .int .u64 e, .int .i64 n] w fun e' w' => e' = .returned (.tuple #[.int .i64 a, .int .i64 b]) ∧ w = w' := by
  have := used_any t e n h0 h1 h2 w
  rw [h] at this
  exact this
theorem next_is {e n a b : Int} (h1 : 0 ≤ e) (h : nextS e n = (a, b)) (w : World) :
    Calls Try.prog 18 #[.int .u64 e, .int .i64 n] w fun e' w' => e' = .returned (.tuple #[.int .u64 a, .int .i64 b]) ∧ w = w' := by
  have := next_any e n h1 w
  rw [h] at this
  exact this
theorem owner_is {s t n a b : Int} (h1 : 0 ≤ t) (h : ownerS s t n = (a, b)) (w : World) :
    Calls Try.prog 16 #[.int .i64 s, .int .u64 t, .int .i64 n] w fun e' w' => e' = .returned (.tuple #[.int .u64 a, .int .i64 b]) ∧ Below w.heap.size w w' := by
  have := owner_any s t n h1 w
  rw [h] at this
  exact this
theorem rslot_is {p n a b : Int} (h0 : 0 ≤ p) (h : slotS p n = (a, b)) (w : World) :
    Calls Try.prog 19 #[.int .u64 p, .int .i64 n] w fun e w' => e = .returned (.tuple #[.int .i64 a, .int .i64 b]) ∧ w = w' := by
  have := rslot_any p n h0 w
  rw [h] at this
  exact this
theorem rused_is {t e n a b : Int} (h0 : 0 ≤ t) (h1 : 0 ≤ e) (h2 : e < 18446744073709551616) (h : usedS t e n = (a, b)) (w : World) :
    Calls Try.prog 20 #[.int .u64 t, .int .u64 e, .int .i64 n] w fun e' w' => e' = .returned (.tuple #[.int .i64 a, .int .i64 b]) ∧ w = w' := by
  have := rused_any t e n h0 h1 h2 w
  rw [h] at this
  exact this
theorem rnext_is {e n a b : Int} (h1 : 0 ≤ e) (h : nextS e n = (a, b)) (w : World) :
    Calls Try.prog 21 #[.int .u64 e, .int .i64 n] w fun e' w' => e' = .returned (.tuple #[.int .u64 a, .int .i64 b]) ∧ w = w' := by
  have := rnext_any e n h1 w
  rw [h] at this
  exact this
theorem rowner_is {s t n a b : Int} (h1 : 0 ≤ t) (h : ownerS s t n = (a, b)) (w : World) :
    Calls Try.prog 22 #[.int .i64 s, .int .u64 t, .int .i64 n] w fun e' w' => e' = .returned (.tuple #[.int .u64 a, .int .i64 b]) ∧ w = w' := by
  have := rowner_any s t n h1 w
  rw [h] at this
  exact this

/-- Span as the laws call it: a sequence whose two boxes hold the numbers; what lay lies. -/
theorem span_x (t e : Int) (w : World) :
    Calls Try.prog 10 #[.int .u64 t, .int .u64 e] w fun e' w' => ∃ Bt Be, e' = .returned (seqV Bt Be) ∧ Boxed w' Bt 22 (.int .u64 t) ∧ Boxed w' Be 22 (.int .u64 e) ∧ Below w.heap.size w w' := by
  refine (span_any t e w).mono ?_
  rintro e' w' ⟨rfl, rfl⟩
  refine ⟨_, _, rfl, (Boxed.new w 22 _).alloc _, ?_, below_two _ _⟩
  have := Boxed.new (w.alloc (.cells #[.int .u64 t] 22)) 22 (.int .u64 e)
  rw [World.size_alloc] at this
  exact this

theorem Boxed.later {W W' : World} {B : Nat} {t : TypeId} {v : Value} (h : Boxed W B t v) (hb : Below W.heap.size W W') : Boxed W' B t v := (hb.block _ h.lt).trans h

/-- taken of all: the whole span, as a list of its own. -/
theorem taken_all (Bt Be : Nat) (t e : Int) (ht0 : 0 ≤ t) (ht1 : t < 18446744073709551616) (he0 : 0 ≤ e) (he1 : e < 18446744073709551616) (w : World) (bT : Boxed w Bt 22 (.int .u64 t)) (bE : Boxed w Be 22 (.int .u64 e)) :
    Calls Try.prog 11 #[seqV Bt Be, .int .i64 70] w fun e' w' => ∃ p c, e' = .returned (.tuple #[.slice p (spanN t e) c, .bool true]) ∧ IIn w' .u64 p (spanN t e) (spanI t e) ∧ Below w.heap.size w w' := by
  refine (taken_any Bt Be 70 t e ht0 ht1 he0 he1 (Nat.le_refl _) w bT bE).mono ?_
  rintro e' w' ⟨v, rfl, hr, hb⟩
  rw [List.take_of_length_le (by rw [spanI_length]; have := spanN_le t e; omega), spanI_length] at hr
  obtain ⟨p, c, rfl, hi, _⟩ := own_in64 hr
  exact ⟨p, c, rfl, hi, hb⟩

theorem three_in (w : World) (x y z : Int) : IIn (w.alloc (.cells #[.int .u64 x, .int .u64 y, .int .u64 z] 22)) .u64 (some ⟨w.heap.size, 0, none⟩) 3 [x, y, z] := by
  refine ⟨rfl, fun _ => ⟨_, _, rfl, fun i hi => ?_⟩⟩
  have hh := World.alloc_heap_new w (.cells #[.int .u64 x, .int .u64 y, .int .u64 z] 22)
  simp only [List.length_cons, List.length_nil] at hi
  rcases i with _ | _ | _ | i
  · unfold World.cell?; dsimp only; rw [hh]; rfl
  · unfold World.cell?; dsimp only; rw [hh]; rfl
  · unfold World.cell?; dsimp only; rw [hh]; rfl
  · omega

set_option maxHeartbeats 1000000 in
theorem awake_any (w : World) :
    Calls Try.prog 8 #[] w fun e w' => e = .returned (.bool true) ∧ Below w.heap.size w w' := by
  go_enter Try.func8, Try.ntmps8
  go_wp2_with (first | (go_at_call 14; refine (slot_is (a := 2) (b := 0) (by decide) (by decide) _).mono ?_; rintro e w' ⟨rfl, rfl⟩) | (go_at_call 17; refine (used_is (a := 4) (b := 0) (by decide) (by decide) (by decide) (by decide) _).mono ?_; rintro e w' ⟨rfl, rfl⟩) | (go_at_call 18; refine (next_is (a := 10) (b := 0) (by decide) (by decide) _).mono ?_; rintro e w' ⟨rfl, rfl⟩) | fail)
  refine (owner_is (a := 9) (b := 0) (by decide) (by decide) _).mono ?_
  rintro e w1 ⟨rfl, hb⟩
  have B1 : Hid (Below w.heap.size w w1) := hb
  clear hb
  go_wp2_with fail
  refine (span_x _ _ _).mono ?_
  rintro e w2 ⟨Bt, Be, rfl, bT, bE, hb⟩
  have B2 : Hid (Below w.heap.size w w2) := below_then B1.out hb
  clear hb
  go_wp2_with fail
  refine (taken_all _ _ _ _ (by decide) (by decide) (by decide) (by decide) _ bT bE).mono ?_
  rintro e w3 ⟨p, c, rfl, hi, hb⟩
  have B3 : Hid (Below w.heap.size w w3) := below_then B2.out hb
  have HI : Hid (IIn w3 .u64 p 3 [6, 7, 8]) := hi
  clear hb hi bT bE
  rw [show spanN 6 9 = 3 by decide]
  go_wp2_with (first | (go_at_call 15; refine (num_any _ _).mono ?_; rintro e w' ⟨rfl, rfl⟩) | fail)
  refine (same_any _ _ _ _ _ _ [6, 7, 8] [6, 7, 8] _ (HI.out.later ((Below.refl _ w3).alloc (Nat.le_refl _) _)) (three_in w3 6 7 8) (by decide)).mono ?_
  rintro e w4 ⟨rfl, nq, rfl⟩
  have B4 : Hid (Below w.heap.size w ((w3.alloc (.cells #[.int .u64 6, .int .u64 7, .int .u64 8] 22)).drewN nq)) := below_drewN (B3.out.alloc B3.out.size _) nq
  go_wp2
  go_ret
  exact ⟨rfl, B4.out⟩

end Go.Proofs.Ytbeffibcigaioaa
