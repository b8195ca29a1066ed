/-
  Layer 11: the slots of a frame by their numbers.
-/
import Derived.Test.YtmmmgknlbkckdaaTv
namespace Go.Proofs.Ytmmmgknlbkckdaa
open Go.RowKit

open Go.Shelf

/-- what stands in a slot -/
def slotAt (a : Act) (i : Nat) : Value := a.tmps.getD i undef
theorem list_slots (l : List Value) (n : Nat) (h : l.length = n) : l = (List.range n).map fun i => l.getD i undef := by
  apply List.ext_getElem
  · simp [h]
  · intro i h1 h2
    simp [List.getD, h1]
theorem frame_slots (a : Act) (h : a.tmps.size = 106) : a = { tmps := #[slotAt a 0, slotAt a 1, slotAt a 2, slotAt a 3, slotAt a 4, slotAt a 5, slotAt a 6, slotAt a 7, slotAt a 8, slotAt a 9, slotAt a 10, slotAt a 11, slotAt a 12, slotAt a 13, slotAt a 14, slotAt a 15, slotAt a 16, slotAt a 17, slotAt a 18, slotAt a 19, slotAt a 20, slotAt a 21, slotAt a 22, slotAt a 23, slotAt a 24, slotAt a 25, slotAt a 26, slotAt a 27, slotAt a 28, slotAt a 29, slotAt a 30, slotAt a 31, slotAt a 32, slotAt a 33, slotAt a 34, slotAt a 35, slotAt a 36, slotAt a 37, slotAt a 38, slotAt a 39, slotAt a 40, slotAt a 41, slotAt a 42, slotAt a 43, slotAt a 44, slotAt a 45, slotAt a 46, slotAt a 47, slotAt a 48, slotAt a 49, slotAt a 50, slotAt a 51, slotAt a 52, slotAt a 53, slotAt a 54, slotAt a 55, slotAt a 56, slotAt a 57, slotAt a 58, slotAt a 59, slotAt a 60, slotAt a 61, slotAt a 62, slotAt a 63, slotAt a 64, slotAt a 65, slotAt a 66, slotAt a 67, slotAt a 68, slotAt a 69, slotAt a 70, slotAt a 71, slotAt a 72, slotAt a 73, slotAt a 74, slotAt a 75, slotAt a 76, slotAt a 77, slotAt a 78, slotAt a 79, slotAt a 80, slotAt a 81, slotAt a 82, slotAt a 83, slotAt a 84, slotAt a 85, slotAt a 86, slotAt a 87, slotAt a 88, slotAt a 89, slotAt a 90, slotAt a 91, slotAt a 92, slotAt a 93, slotAt a 94, slotAt a 95, slotAt a 96, slotAt a 97, slotAt a 98, slotAt a 99, slotAt a 100, slotAt a 101, slotAt a 102, slotAt a 103, slotAt a 104, slotAt a 105], defers := a.defers } := by
  obtain ⟨⟨l⟩, d⟩ := a
  have e := list_slots l 106 (by simpa using h)
  have e2 : ∀ i, slotAt ⟨⟨l⟩, d⟩ i = l.getD i undef := fun i => by simp [slotAt]
  simp only [e2, Act.mk.injEq, and_true, Array.mk.injEq]
  exact e

/-- between two of what was kept -/
def Fr3 (wa wl : World) (P : Nat) (kv : Value) (len : Nat) (a : Act) (w : World) : Prop := ∃ (r : Nat) (ds : List Nat), r ≤ len ∧ Hid (Below wl.heap.size wl w) ∧ Hid (Marks wa.heap.size w ds) ∧ a.tmps.size = 106 ∧ slotAt a 3 = qp P ∧ slotAt a 76 = kv ∧ slotAt a 77 = .int .i64 len ∧ slotAt a 78 = .int .i64 r ∧ a.defers = ds.map mark
def m3 (len : Nat) (a : Act) : Nat := len - (intOf (slotAt a 78)).toNat
theorem m3_is {len r : Nat} {a : Act} (h : slotAt a 78 = .int .i64 r) : m3 len a = len - r := by unfold m3; rw [h]; simp [intOf]
/-- between the two goings over one -/
def Fr4 (wa wl : World) (P kb : Nat) (kv : Value) (len r : Nat) (a : Act) (w : World) : Prop := ∃ (c : Nat) (ds : List Nat), c ≤ 2 ∧ Hid (Below wl.heap.size wl w) ∧ Hid (Marks wa.heap.size w ds) ∧ a.tmps.size = 106 ∧ slotAt a 3 = qp P ∧ slotAt a 9 = .pointer (some ⟨kb, 0, none⟩) ∧ slotAt a 76 = kv ∧ slotAt a 77 = .int .i64 len ∧ slotAt a 78 = .int .i64 r ∧ slotAt a 82 = .int .i64 c ∧ a.defers = ds.map mark
def m4 (a : Act) : Nat := 2 - (intOf (slotAt a 82)).toNat
theorem m4_is {c : Nat} {a : Act} (h : slotAt a 82 = .int .i64 c) : m4 a = 2 - c := by unfold m4; rw [h]; simp [intOf]
/-- while a kept sequence is gone over -/
structure LJ (n₀ : Nat) (w : World) (pre : List Int) (W : World) : Prop where
  hold : ∃ v, Boxed W n₀ 22 v ∧ W.ownsRow n₀ 26 1 v pre.length (V64 pre) ∧ True
  below : Below n₀ w W
theorem LJ.own {B : Nat} {w : World} (hB : w.heap.size ≤ B) : OwnFrom B (LJ w.heap.size w) := fun s X Y row hs hg hr => by
  have := (OwnFrom.and (Own.from (holdsRow_own w.heap.size w.heap.size 22 26 1 (fun pre : List Int => pre.length) (fun pre => V64 pre) (fun _ _ => True)) B) (ownFrom_below (w₀ := w) (Nat.le_refl _) hB)) s X Y row ⟨hs.hold, hs.below⟩ hg hr
  exact ⟨this.1, this.2⟩
end Go.Proofs.Ytmmmgknlbkckdaa
