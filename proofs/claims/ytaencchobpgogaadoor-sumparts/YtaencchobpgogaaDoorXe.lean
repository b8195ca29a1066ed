/-
  What SumParts' second loop holds, outside of the walk.
-/
import Derived.Test.YtaencchobpgogaaDoorXc
namespace Go.Proofs.YtaencchobpgogaaDoor
open Go.RowKit

theorem flat_bl_len : ∀ (l : List (List Int)), (l.map bl).flatten.length = l.flatten.length
  | [] => rfl
  | x :: r => by simp only [List.map_cons, List.flatten_cons, List.length_append, bl_length, flat_bl_len r]
theorem flat_bl_bytes (l : List (List Int)) : Bytes (l.map bl).flatten := Bytes.flatten (fun x hx => by
  obtain ⟨y, _, rfl⟩ := List.mem_map.1 hx
  exact bl_bytes y)

/-- the second loop: rooms, one by one written over, and the text of those -/
structure L2 (w2 w4 wr : World) (V ov : Value) (j : Nat) (gs : List (Nat × Nat)) (xs LS : List (List Int)) : Prop where
  ins : Ins wr w2.heap.size V gs LS
  other : wr.ownsRow w4.heap.size 5 1 ov (flen xs j) (U8 ((xs.take j).map bl).flatten)
  below : Below w2.heap.size w2 wr
  size : w4.heap.size ≤ wr.heap.size

theorem L2.start {w2 w4 : World} {V : Value} {gs : List (Nat × Nat)} {xs : List (List Int)} (h : Ins w4 w2.heap.size V gs xs) (hb : Below w2.heap.size w2 w4) : L2 w2 w4 w4 V (.slice none 0 0) 0 gs xs (bL 0 xs) :=
  ⟨by rw [bL_zero]; exact h, World.ownsRow_nil _ _ _ _, hb, Nat.le_refl _⟩

theorem L2.drew {w2 w4 wr : World} {V ov : Value} {j : Nat} {gs : List (Nat × Nat)} {xs LS : List (List Int)} (h : L2 w2 w4 wr V ov j gs xs LS) : L2 w2 w4 wr.drew V ov j gs xs LS :=
  ⟨h.ins.later ⟨rfl, rfl, rfl, Nat.le_refl _, fun _ _ => rfl⟩, h.other.drew, h.below.drew, h.size⟩

theorem L2.store {w2 w4 wr : World} {V ov : Value} {j : Nat} {gs : List (Nat × Nat)} {xs LS : List (List Int)} (h : L2 w2 w4 wr V ov j gs xs LS) (hg : ∀ i (h : i < gs.length), gs[i].1 < w4.heap.size)
    (i : Nat) (hi : i < gs.length) (hl : i < LS.length) (m : Nat) (hm : m < LS[i].length) (x : Int) (hx : 0 ≤ x ∧ x < 256) :
    L2 w2 w4 (wr.setCell ⟨gs[i].1, m, none⟩ (.int .u8 x)).drew V ov j gs xs (LS.set i (LS[i].set m x)) := by
  have hr := h.ins.room i hi hl
  obtain ⟨h1, h2⟩ := hr.put m hm x hx
  refine ⟨h.ins.put hi hl (by rw [List.length_set]) (by rw [List.length_set]; exact h1) h2, ?_, ?_, ?_⟩
  · refine h.other.kept h2 ?_
    rcases h.other.2 with ⟨e, _⟩ | ⟨g, cap, cur, e, hb, _⟩
    · exact .inl (by rw [e]; rfl)
    · refine .inr fun e2 => ?_
      rw [e] at e2
      simp only [Value.ownBlock, Option.some.injEq] at e2
      have := hg i hi
      omega
  · exact (h.below.setCell hr.at.1 _).drew
  · exact Nat.le_trans h.size h2.size

theorem L2.next {w2 w4 wr w5 : World} {V ov ov' : Value} {j : Nat} {gs : List (Nat × Nat)} {xs LS : List (List Int)} (h : L2 w2 w4 wr V ov j gs xs LS) (hg : ∀ i (h : i < gs.length), gs[i].1 < w4.heap.size) (hj : j < xs.length)
    (hw : w2.heap.size ≤ w4.heap.size)
    (ho : w5.ownsRow w4.heap.size 5 1 ov' (flen xs j + xs[j].length) (U8 ((xs.take j).map bl).flatten ++ U8 (bl xs[j]))) (hgr : wr.grownBy w5 ov.ownBlock) : L2 w2 w4 w5 V ov' (j + 1) gs xs LS := by
  refine ⟨h.ins.keep h.other hgr fun i hi e => ?_, ?_, ?_, Nat.le_trans h.size hgr.size⟩
  · have h1 := (h.other.lt _ e).1
    have h2 := hg i hi
    omega
  · rw [flen_step xs j hj, List.take_succ_eq_append_getElem hj, List.map_append, List.flatten_append]
    simpa [U8] using ho
  · exact h.below.grown hgr h.below.size (fun q hq => Nat.le_trans hw (h.other.lt q hq).1)

theorem L2.cell {w2 w4 wr : World} {ov : Value} {j bV oV k cv : Nat} {gs : List (Nat × Nat)} {xs LS : List (List Int)} (h : L2 w2 w4 wr (.slice (some ⟨bV, oV, none⟩) k cv) ov j gs xs LS) (i : Nat) (hi : i < gs.length) (hl : i < LS.length) :
    wr.cell? ⟨bV, oV + i, none⟩ = some (.slice (some ⟨gs[i].1, 0, none⟩) LS[i].length gs[i].2) := h.ins.cell i hi hl

theorem set_len (L : List (List Int)) (i : Nat) (Z : List Int) (h : i < (L.set i Z).length) : (L.set i Z)[i] = Z := List.getElem_set_self ..
theorem set_set (L : List (List Int)) (i : Nat) (Y Z : List Int) : (L.set i Y).set i Z = L.set i Z := List.set_set ..
theorem bL_same (j : Nat) (xs : List (List Int)) (h : j < xs.length) : (bL j xs).set j (bp 0 xs[j]) = bL j xs := by
  have h2 : j < (bL j xs).length := by rw [bL_length]; exact h
  rw [bp_zero, ← bL_get j xs h h2]
  exact List.set_getElem_self h2
end Go.Proofs.YtaencchobpgogaaDoor
