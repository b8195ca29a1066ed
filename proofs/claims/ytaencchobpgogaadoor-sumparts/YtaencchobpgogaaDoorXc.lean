/-
  What SumParts' loops hold, outside of the walk.
-/
import Derived.Test.YtaencchobpgogaaDoorXb
namespace Go.Proofs.YtaencchobpgogaaDoor
open Go.RowKit

/-- a row of bytes is no row of lists, whatever the first one is -/
theorem kinds_none {w : World} {B B' n m : Nat} {v V : Value} {xs ys : List Value} (h : w.ownsRow B 5 1 v n xs) (hV : w.ownsRow B' 25 1 V m ys) : v.ownBlock = none ∨ v.ownBlock ≠ V.ownBlock := by
  rcases h.2 with ⟨h1, _⟩ | ⟨g, cap, cur, h1, _⟩
  · exact .inl (by rw [h1]; rfl)
  · subst h1
    exact .inr (kinds_apart h hV)
theorem kinds_none' {w : World} {B B' n m : Nat} {v V : Value} {xs ys : List Value} (h : w.ownsRow B 5 1 v n xs) (hV : w.ownsRow B' 25 1 V m ys) : V.ownBlock = none ∨ V.ownBlock ≠ v.ownBlock := by
  rcases hV.2 with ⟨h1, _⟩ | ⟨g, cap, cur, h1, _⟩
  · exact .inl (by rw [h1]; rfl)
  · refine .inr fun e => ?_
    rcases kinds_none h hV with h2 | h2
    · rw [h2, h1] at e; cases e
    · exact h2 e.symm

/-- rooms stay where another row of bytes grows -/
theorem Ins.keep {w w' : World} {B B' n : Nat} {V v : Value} {ys : List Value} {gs : List (Nat × Nat)} {ls : List (List Int)} (h : Ins w B V gs ls) (hv : w.ownsRow B' 5 1 v n ys) (hg : w.grownBy w' v.ownBlock)
    (ha : ∀ i (hi : i < gs.length), v.ownBlock ≠ some gs[i].1) : Ins w' B V gs ls := by
  refine ⟨h.len, h.row.kept hg (kinds_none' hv h.row), fun i h1 h2 => ?_, h.apart⟩
  have hr := h.room i h1 h2
  exact ⟨hr.own.kept hg (.inr fun e => ha i h1 e.symm), hr.len, hr.byte, hr.cap2⟩

/-- one room's list is written over -/
theorem ent_set (gs : List (Nat × Nat)) (LS : List (List Int)) (k : Nat) (Z : List Int) (hk : k < LS.length) (hz : Z.length = LS[k].length) : List.zipWith ent gs (LS.set k Z) = List.zipWith ent gs LS := by
  apply List.ext_getElem (by simp)
  intro i h1 h2
  have hi : i < LS.length := by simp at h2; omega
  rw [List.getElem_zipWith, List.getElem_zipWith, List.getElem_set]
  unfold ent
  by_cases e : k = i
  · subst e
    rw [if_pos rfl, hz]
  · rw [if_neg e]

theorem Ins.put {w w' : World} {B : Nat} {V : Value} {gs : List (Nat × Nat)} {LS : List (List Int)} {k : Nat} {Z : List Int} (h : Ins w B V gs LS) (hk : k < gs.length) (hkl : k < LS.length) (hz : Z.length = LS[k].length)
    (hr : RoomAt w' B gs[k].1 Z.length gs[k].2 Z) (hg : w.grownBy w' (some gs[k].1)) : Ins w' B V gs (LS.set k Z) := by
  refine ⟨by rw [h.len, List.length_set], ?_, fun i h1 h2 => ?_, h.apart⟩
  · rw [ent_set gs LS k Z hkl hz, List.length_set]
    refine h.row.kept hg ?_
    have := kinds_none' (h.room k hk hkl).own h.row
    exact this
  · have hil : i < LS.length := by rw [List.length_set] at h2; exact h2
    by_cases e : k = i
    · subst e
      rw [List.getElem_set_self]
      exact hr
    · rw [List.getElem_set_ne e]
      have hold := h.room i h1 hil
      refine ⟨hold.own.kept hg (.inr ?_), hold.len, hold.byte, hold.cap2⟩
      intro e4
      simp only [Value.ownBlock, Option.some.injEq] at e4
      exact h.apart i k h1 hk (fun e5 => e e5.symm) e4

/-- a byte of a room is written over -/
theorem RoomAt.put {w : World} {B g n cap : Nat} {xs : List Int} (h : RoomAt w B g n cap xs) (j : Nat) (hj : j < n) (x : Int) (hx : 0 ≤ x ∧ x < 256) :
    RoomAt (w.setCell ⟨g, j, none⟩ (.int .u8 x)).drew B g n cap (xs.set j x) ∧ w.grownBy (w.setCell ⟨g, j, none⟩ (.int .u8 x)).drew (some g) := by
  obtain ⟨h1, h2⟩ := h.own.stored j (.int .u8 x)
  have e : (U8 (xs ++ [77, 78, 79])).set j (.int .u8 x) = U8 (xs.set j x ++ [77, 78, 79]) := by
    have hl : j < xs.length := by rw [h.len]; exact hj
    simp only [U8, List.map_append, List.map_set]
    rw [List.set_append_left _ _ (by simpa using hl)]
  rw [e] at h1
  refine ⟨⟨h1.drew, by rw [List.length_set, h.len], fun y hy => ?_, h.cap2⟩, ⟨h2.os, h2.tape, h2.output, h2.size, h2.block⟩⟩
  rcases List.mem_or_eq_of_mem_set hy with hy | rfl
  · exact h.byte y hy
  · exact hx

/-- a byte as SumParts writes it over -/
def bump (x : Int) (m : Nat) : Int := (x + (m : Int) + 1) % 256
theorem bump_byte (x : Int) (m : Nat) : 0 ≤ bump x m ∧ bump x m < 256 := by unfold bump; omega
/-- a list written over -/
def bl (l : List Int) : List Int := l.mapIdx fun m x => bump x m
/-- its first m bytes written over -/
def bp (m : Nat) (l : List Int) : List Int := (bl l).take m ++ l.drop m
theorem bl_length (l : List Int) : (bl l).length = l.length := by simp [bl]
theorem bl_bytes (l : List Int) : Bytes (bl l) := by
  intro x hx
  obtain ⟨i, hi, rfl⟩ := List.getElem_of_mem hx
  simp only [bl, List.getElem_mapIdx]
  exact bump_byte _ _
theorem bp_length (m : Nat) (l : List Int) : (bp m l).length = l.length := by
  simp [bp, bl_length]; omega
theorem bp_zero (l : List Int) : bp 0 l = l := by simp [bp]
theorem bp_all (l : List Int) (m : Nat) (h : l.length ≤ m) : bp m l = bl l := by
  unfold bp
  rw [List.take_of_length_le (by rw [bl_length]; exact h), List.drop_eq_nil_of_le h, List.append_nil]
theorem bp_get (l : List Int) (m : Nat) (h : m < l.length) (h2 : m < (bp m l).length) : (bp m l)[m] = l[m] := by
  simp only [bp]
  rw [List.getElem_append_right (by simp; omega), List.getElem_drop]
  congr 1
  simp [bl_length]
  omega
theorem bp_step (l : List Int) (m : Nat) (h : m < l.length) : (bp m l).set m (bump l[m] m) = bp (m + 1) l := by
  have hb : m < (bl l).length := by rw [bl_length]; exact h
  unfold bp
  rw [List.drop_eq_getElem_cons h, List.set_append_right _ _ (by simp; omega), List.take_succ_eq_append_getElem hb]
  have e : m - ((bl l).take m).length = 0 := by simp [bl_length]; omega
  have e2 : (bl l)[m] = bump l[m] m := by simp [bl]
  rw [e, List.set_cons_zero, List.append_assoc, e2]
  rfl

/-- the first k lists written over -/
def bL (k : Nat) (ls : List (List Int)) : List (List Int) := (ls.take k).map bl ++ ls.drop k
theorem bL_length (k : Nat) (ls : List (List Int)) : (bL k ls).length = ls.length := by
  simp [bL]; omega
theorem bL_zero (ls : List (List Int)) : bL 0 ls = ls := by simp [bL]
theorem bL_all (ls : List (List Int)) (k : Nat) (h : ls.length ≤ k) : bL k ls = ls.map bl := by
  unfold bL
  rw [List.take_of_length_le h, List.drop_eq_nil_of_le h, List.append_nil]
theorem bL_get (k : Nat) (ls : List (List Int)) (h : k < ls.length) (h2 : k < (bL k ls).length) : (bL k ls)[k] = ls[k] := by
  simp only [bL]
  rw [List.getElem_append_right (by simp; omega), List.getElem_drop]
  congr 1
  simp
  omega
theorem bL_step (k : Nat) (ls : List (List Int)) (h : k < ls.length) : (bL k ls).set k (bl ls[k]) = bL (k + 1) ls := by
  unfold bL
  rw [List.drop_eq_getElem_cons h, List.set_append_right _ _ (by simp; omega), List.take_succ_eq_append_getElem h, List.map_append]
  have e : k - ((ls.take k).map bl).length = 0 := by simp; omega
  rw [e, List.set_cons_zero, List.append_assoc]
  rfl

/-- the first loop: rooms and one text -/
structure L1 (w2 wr : World) (v tx : Value) (j : Nat) (gs : List (Nat × Nat)) (xs : List (List Int)) : Prop where
  ins : Ins wr w2.heap.size v gs (xs.take j)
  text : wr.ownsRow w2.heap.size 5 1 tx (flen xs j) (U8 (xs.take j).flatten)
  apart : ∀ i (h : i < gs.length), tx.ownBlock ≠ some gs[i].1
  below : Below w2.heap.size w2 wr

theorem L1.start (w2 : World) (xs : List (List Int)) : L1 w2 w2 (.slice none 0 0) (.slice none 0 0) 0 [] xs :=
  ⟨by rw [List.take_zero]; exact Ins.nil _ _, World.ownsRow_nil _ _ _ _, fun _ h => absurd h (Nat.not_lt_zero _), Below.refl _ _⟩

theorem L1.mine {w2 wr w3 w4 : World} {v v' tx : Value} {j g cap : Nat} {gs : List (Nat × Nat)} {xs : List (List Int)} {O : Obj} (h : L1 w2 wr v tx j gs xs) (hj : j < xs.length)
    (hb : Below wr.heap.size wr w3) (hr : RoomAt w3 wr.heap.size g xs[j].length cap xs[j])
    (ho : w4.ownsRow w2.heap.size 25 1 v' (j + 1) (List.zipWith ent gs (xs.take j) ++ [ent (g, cap) xs[j]])) (hg : (w3.alloc O).grownBy w4 v.ownBlock) :
    Ins w4 w2.heap.size v' (gs ++ [(g, cap)]) (xs.take (j + 1)) ∧ w4.ownsRow w2.heap.size 5 1 tx (flen xs j) (U8 (xs.take j).flatten) ∧
      (∀ i (h : i < (gs ++ [(g, cap)]).length), tx.ownBlock ≠ some (gs ++ [(g, cap)])[i].1 ∧ (gs ++ [(g, cap)])[i].1 < w4.heap.size) ∧ Below w2.heap.size w2 w4 := by
  have hl : (xs.take j).length = j := by rw [List.length_take]; omega
  have hI : Ins w4 w2.heap.size v' (gs ++ [(g, cap)]) (xs.take j ++ [xs[j]]) := h.ins.push h.below.size hb hr (by rw [hl]; exact ho) hg
  rw [← List.take_succ_eq_append_getElem hj] at hI
  have hV : (w3.alloc O).ownsRow w2.heap.size 25 1 v (xs.take j).length (List.zipWith ent gs (xs.take j)) := own_later (own_later h.ins.row hb) (below_alloc _ _)
  have hT : (w3.alloc O).ownsRow w2.heap.size 5 1 tx (flen xs j) (U8 (xs.take j).flatten) := own_later (own_later h.text hb) (below_alloc _ _)
  have hs : w2.heap.size ≤ w3.heap.size := Nat.le_trans h.below.size hb.size
  refine ⟨hI, hT.kept hg (kinds_none hT hV), fun i hi => ⟨fun e => ?_, ?_⟩, ?_⟩
  · by_cases hlt : i < gs.length
    · rw [List.getElem_append_left hlt] at e
      exact h.apart i hlt e
    · have ei : i = gs.length := by simp at hi; omega
      subst ei
      simp only [List.getElem_append_right (Nat.le_refl _), Nat.sub_self, List.getElem_cons_zero] at e
      have h1 := (h.text.lt g e).2
      have h2 := hr.at.1
      omega
  · have hil : i < (xs.take (j + 1)).length := by rw [← hI.len]; exact hi
    exact (hI.room i hi hil).at.2
  · exact ((below_then h.below hb).alloc hs _).grown hg (by simp; omega) (fun q hq => (h.ins.row.lt q hq).1)

theorem L1.next {w2 w4 w5 : World} {v tx tx' : Value} {j : Nat} {gs : List (Nat × Nat)} {xs : List (List Int)} (hj : j < xs.length) (hI : Ins w4 w2.heap.size v gs (xs.take (j + 1)))
    (hT : w4.ownsRow w2.heap.size 5 1 tx (flen xs j) (U8 (xs.take j).flatten)) (ha : ∀ i (h : i < gs.length), tx.ownBlock ≠ some gs[i].1 ∧ gs[i].1 < w4.heap.size) (hb : Below w2.heap.size w2 w4)
    (ho : w5.ownsRow w2.heap.size 5 1 tx' (flen xs j + xs[j].length) (U8 (xs.take j).flatten ++ U8 xs[j])) (hg : w4.grownBy w5 tx.ownBlock) (hat : tx'.ownBlock = tx.ownBlock ∨ tx'.ownBlock = some w4.heap.size) :
    L1 w2 w5 v tx' (j + 1) gs xs := by
  refine ⟨hI.keep hT hg fun i hi => (ha i hi).1, ?_, fun i hi => ?_, hb.grown hg hb.size (fun q hq => (hT.lt q hq).1)⟩
  · rw [flen_step xs j hj, flat_step xs j hj]
    simpa [U8] using ho
  · rcases hat with e | e
    · rw [e]; exact (ha i hi).1
    · rw [e]
      intro e2
      have := (ha i hi).2
      simp only [Option.some.injEq] at e2
      omega
end Go.Proofs.YtaencchobpgogaaDoor
