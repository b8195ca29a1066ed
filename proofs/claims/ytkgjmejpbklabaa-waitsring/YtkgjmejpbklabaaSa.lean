/-
  Layer 15, the library's sort at []uint64: a row that a call may turn, and the comparison.
-/
import Derived.Test.YtkgjmejpbklabaaRows
import Derived.Sort.AssemblyPlain
import Derived.Sort.Grow
import Derived.CellFam
import Derived.BigGuard
import Derived.BigCall
import Derived.Deep.Draws
import Derived.Deep.QuietTactic
import Derived.BigQuiet
import Derived.WalkKit
namespace Go.Proofs.Ytkgjmejpbklabaa
open Go.RowKit

open Go.Sort

/-- a number as it lies -/
abbrev uE : Int → Value := Value.int .u64
def intV : Value → Int
  | .int _ q => q
  | _ => 0

/-- W is w, but that the row at (b, o) holds d; and what was made since -/
def SR (b o : Nat) (w : World) (d : Array Int) (W : World) : Prop := RowKit.Below w.heap.size (putRow uE w b o d) W

theorem SR.self {b o : Nat} {w : World} {d : Array Int} (h : Holds uE w b o d) : SR b o w d w := by
  unfold SR; rw [putRow_self _ _ _ _ _ h]; exact RowKit.Below.refl _ _
theorem SR.draws {b o : Nat} {w W : World} {d : Array Int} (h : SR b o w d W) (q : Nat) : SR b o w d (W.drewN q) := h.trans ⟨rfl, rfl, rfl, Nat.le_refl _, fun _ _ => rfl⟩
theorem SR.size {b o : Nat} {w W : World} {d : Array Int} (h : SR b o w d W) : w.heap.size ≤ W.heap.size := by
  have := RowKit.Below.size h
  simpa using this
theorem SR.alloc {b o : Nat} {w W : World} {d : Array Int} (h : SR b o w d W) (ob : Obj) : SR b o w d (W.alloc ob) := RowKit.Below.alloc h h.size ob
theorem SR.put {b o : Nat} {w W : World} {d : Array Int} (h : SR b o w d W) {p : Addr} (hp : w.heap.size ≤ p.block) (u : Value) : SR b o w d (W.setCell p u) := RowKit.Below.setCell h hp u
theorem SR.new {b o : Nat} {w W W' : World} {d : Array Int} (h : SR b o w d W) (h2 : RowKit.Below w.heap.size W W') : SR b o w d W' := RowKit.Below.trans h h2
theorem SR.cell {b o : Nat} {w W : World} {d0 d : Array Int} (h : SR b o w d W) (h0 : Holds uE w b o d0) (hb : b < w.heap.size) (hs : d.size = d0.size) (t : Nat) (ht : t < d0.size) :
    W.cell? ⟨b, o + t, none⟩ = some (.int .u64 d[t]!) := by
  rw [RowKit.Below.cell h hb]; exact cell?_putRow _ _ _ _ d0 d h0 hs t (by omega)
theorem SR.frz {b o : Nat} {w W : World} {d0 d : Array Int} (h : SR b o w d W) (h0 : Holds uE w b o d0) (hb : b < w.heap.size) (t : Nat) (ht : t < d0.size) :
    W.frozen? ⟨b, o + t, none⟩ = false := by
  rw [RowKit.Below.frozen h hb, frozen?_putRow]; exact (h0 t ht).2
theorem SR.holds {b o : Nat} {w W : World} {d0 d : Array Int} (h : SR b o w d W) (h0 : Holds uE w b o d0) (hb : b < w.heap.size) (hs : d.size = d0.size) : Holds uE W b o d := fun j hj =>
  ⟨h.cell h0 hb hs j (by omega), h.frz h0 hb j (by omega)⟩
/-- the same done to two worlds that agree on the blocks of the first -/
theorem below_mapBlock {n b : Nat} {v W : World} (h : RowKit.Below n v W) (f : Array Value → Array Value) : RowKit.Below n (mapBlock v b f) (mapBlock W b f) := by
  refine ⟨h.os, h.tape, h.output, by simpa [mapBlock] using h.size, fun k hk => ?_⟩
  have e := h.block k hk
  simp only [mapBlock, Array.getElem?_modify, e]
theorem SR.trans {b o : Nat} {w W W' : World} {d d' : Array Int} (h : SR b o w d W) (h2 : SR b o W d' W') (hs : d'.size = d.size) : SR b o w d' W' := by
  have h3 : RowKit.Below w.heap.size (putRow uE (putRow uE w b o d) b o d') (putRow uE W b o d') := below_mapBlock h _
  rw [putRow_putRow _ _ _ _ _ _ hs] at h3
  exact h3.trans (h2.mono h.size)
theorem SR.set {b o : Nat} {w W : World} {d : Array Int} (h : SR b o w d W) (i : Nat) (hi : i < d.size) (x : Int) : SR b o w (d.setIfInBounds i x) (W.setCell ⟨b, o + i, none⟩ (.int .u64 x)) := by
  have h3 : RowKit.Below w.heap.size ((putRow uE w b o d).setCell ⟨b, o + i, none⟩ (uE x)) (W.setCell ⟨b, o + i, none⟩ (uE x)) := by
    rw [setCell_eq, setCell_eq]; exact below_mapBlock h _
  rw [putRow_set _ _ _ _ _ _ _ hi] at h3
  exact h3
/-- two places are exchanged -/
theorem SR.swap {b o : Nat} {w W : World} {d : Array Int} (h : SR b o w d W) (i j : Nat) (hi : i < d.size) (hj : j < d.size) :
    SR b o w (swp d i j) ((W.setCell ⟨b, o + i, none⟩ (.int .u64 d[j]!)).setCell ⟨b, o + j, none⟩ (.int .u64 d[i]!)) :=
  (h.set i hi _).set j (by simpa using hj) _
/-- .. where they are one -/
theorem SR.swap1 {b o : Nat} {w W : World} {d : Array Int} (h : SR b o w d W) (i : Nat) (hi : i < d.size) :
    SR b o w (swp d i i) (W.setCell ⟨b, o + i, none⟩ (.int .u64 d[i]!)) := by
  have := (h.set i hi d[i]!)
  have e : swp d i i = d.setIfInBounds i d[i]! := by simp [swp]
  rw [e]; exact this
theorem SR.swapG {b o : Nat} {w W : World} {d : Array Int} (h : SR b o w d W) {G : Nat → Int} (hG : ∀ t, G t = d[t]!) (q i j : Nat) (hi : i < d.size) (hj : j < d.size) :
    SR b o w (swp d i j) (((W.drewN q).setCell ⟨b, o + i, none⟩ (.int .u64 (G j))).setCell ⟨b, o + j, none⟩ (.int .u64 (G i))) := by
  rw [hG, hG]; exact (h.draws q).swap i j hi hj
theorem SR.swapD {b o : Nat} {w W : World} {d : Array Int} (h : SR b o w d W) {G : Nat → Int} (hG : ∀ t, G t = d[t]!) (i j : Nat) (hi : i < d.size) (hj : j < d.size) :
    SR b o w (swp d i j) ((W.setCell ⟨b, o + i, none⟩ (.int .u64 (G j))).setCell ⟨b, o + j, none⟩ (.int .u64 (G i))).drew := by
  rw [hG, hG]; exact (h.swap i j hi hj).draws 1
/-- another block -/
theorem SR.other {b o : Nat} {w W : World} {d : Array Int} (h : SR b o w d W) {k : Nat} (hk : k < w.heap.size) (hne : k ≠ b) : W.heap[k]? = w.heap[k]? := by
  rw [RowKit.Below.block h k hk]
  simp [putRow, mapBlock, Array.getElem?_modify, Ne.symm hne]

/-! ### cmp.Less -/
set_option maxHeartbeats 2000000 in
set_option maxRecDepth 100000 in
theorem nan_is (x : Int) (w : World) : Calls Try.prog 77 #[.int .u64 x] w fun e w' => e = .returned (.bool false) ∧ w' = w := by
  go_enter Try.func77, Try.ntmps77
  go_wp2
  go_ret
  exact ⟨by simp, rfl⟩
set_option maxHeartbeats 2000000 in
set_option maxRecDepth 100000 in
theorem less_is (x y : Int) (w : World) : Calls Try.prog 55 #[.int .u64 x, .int .u64 y] w fun e w' => e = .returned (.bool (ltInt x y)) ∧ w' = w := by
  go_enter Try.func55, Try.ntmps55
  go_wp2_with (go_at_call 77; refine (nan_is _ _).mono ?_; rintro e w' ⟨rfl, rfl⟩)
  go_ret
  exact ⟨rfl, rfl⟩
end Go.Proofs.Ytkgjmejpbklabaa
