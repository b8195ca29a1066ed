/-
  What the rows of layer 6 share: how a record that came in is opened.
-/
import Derived.Test.YtndildimnanlpaaDoorPb
namespace Go.Proofs.YtndildimnanlpaaDoor
open Go.ChangeShapes Go.WideShapes Go.ChangeAt Go.RowKit

theorem cells3 : Tryd.prog.cellsOf 3 = 1 := by kernel_rfl
theorem cells5 : Tryd.prog.cellsOf 5 = 1 := by kernel_rfl
theorem cells24 : Tryd.prog.cellsOf 24 = 32 := by kernel_rfl
theorem cells29 : Tryd.prog.cellsOf 29 = 1 := by kernel_rfl
theorem cells37 : Tryd.prog.cellsOf 37 = 36 := by kernel_rfl
def numOf : Value → Int | .int _ n => n | _ => 0

theorem drop_one {α : Type} (l : List α) (i : Nat) (v : α) (h : (l.drop i).take 1 = [v]) : l[i]? = some v := by
  have e : ((l.drop i).take 1)[0]? = some v := by rw [h]; rfl
  rw [List.getElem?_take, if_pos (by omega), List.getElem?_drop] at e
  exact e
theorem opened32 {H : Type} {enc : TypeId × Value → H} {W : World} {cs : List Value} {n : Nat} {y : DataW H × List MemPlace} (h : DataW.trod enc Tryd.prog W 0 (fun _ => true) true n 24 cs = some y) :
    ∃ xs, cs = U8 xs ∧ xs.length = 32 ∧ Bytes xs := by
  obtain ⟨ys, m, _, _, hl, hyl, hf⟩ := DataW.trod_array Tryd.underlying24 h
  rw [cells24] at hl
  have hg : ∀ i, i < 32 → ∃ x, cs[i]? = some (.int .u8 x) ∧ 0 ≤ x ∧ x ≤ 255 := by
    intro i hi
    have g := hf i hi
    rw [cells5, Nat.mul_one, List.getElem?_eq_getElem (by omega)] at g
    obtain ⟨x, e, _, hw⟩ := DataW.trod_int Tryd.underlying5 g
    exact ⟨x, drop_one _ _ _ e, bounds_u8 hw⟩
  refine ⟨cs.map numOf, ?_, by simp [hl], ?_⟩
  · apply List.ext_getElem?
    intro i
    by_cases hi : i < 32
    · obtain ⟨x, e, _⟩ := hg i hi
      simp [e, numOf]
    · rw [List.getElem?_eq_none (by omega), List.getElem?_eq_none (by simp; omega)]
  · intro x hx
    obtain ⟨v, hv, rfl⟩ := List.mem_map.1 hx
    obtain ⟨i, hi, rfl⟩ := List.getElem_of_mem hv
    obtain ⟨x, e, h0, h1⟩ := hg i (by omega)
    rw [List.getElem?_eq_getElem hi] at e
    have := Option.some.inj e
    rw [this]
    simp only [numOf]
    omega
theorem openedR {H : Type} {enc : TypeId × Value → H} {W : World} {cs : Array Value} {d : DataW H} {p : List MemPlace} (hn : cs.size = 36) (h : DataW.Trod enc Tryd.prog W 0 (fun _ => true) true 37 (.agg cs) d p) :
    ∃ r : Rec, r.Wf ∧ cs = (rcells r).toArray := by
  obtain ⟨fuel, hf⟩ := h
  obtain ⟨l⟩ := cs
  have hl : l.length = 36 := by simpa using hn
  have hf' : DataW.trod enc Tryd.prog W 0 (fun _ => true) true fuel 37 l = some (d, p) := by simpa [Value.cells] using hf
  obtain ⟨xs, k, _, hy, _, hxl, hg⟩ := DataW.trod_struct Tryd.underlying37 hf'
  have hxl5 : xs.length = 5 := hxl
  have g0 : DataW.trod enc Tryd.prog W 0 (fun _ => true) true k 3 ((l.drop 0).take (Tryd.prog.cellsOf 3)) = xs[0]? := hg 0 _ rfl
  have g1 : DataW.trod enc Tryd.prog W 0 (fun _ => true) true k 29 ((l.drop 1).take (Tryd.prog.cellsOf 29)) = xs[1]? := hg 1 _ rfl
  have g2 : DataW.trod enc Tryd.prog W 0 (fun _ => true) true k 3 ((l.drop 2).take (Tryd.prog.cellsOf 3)) = xs[2]? := hg 2 _ rfl
  have g3 : DataW.trod enc Tryd.prog W 0 (fun _ => true) true k 24 ((l.drop 3).take (Tryd.prog.cellsOf 24)) = xs[3]? := hg 3 _ rfl
  have g4 : DataW.trod enc Tryd.prog W 0 (fun _ => true) true k 3 ((l.drop 35).take (Tryd.prog.cellsOf 3)) = xs[4]? := hg 4 _ rfl
  rw [cells3] at g0 g2 g4
  rw [cells29] at g1
  rw [cells24] at g3
  rw [List.getElem?_eq_getElem (by omega)] at g0 g1 g2 g3 g4
  obtain ⟨a0, e0, _, w0⟩ := DataW.trod_int Tryd.underlying3 g0
  obtain ⟨a1, e1, _, w1⟩ := DataW.trod_int Tryd.underlying29 g1
  obtain ⟨a2, e2, _, w2⟩ := DataW.trod_int Tryd.underlying3 g2
  obtain ⟨v, e3, hv, hb⟩ := opened32 g3
  obtain ⟨a4, e4, _, w4⟩ := DataW.trod_int Tryd.underlying3 g4
  have b0 := bounds_i64 w0
  have b1 := bounds_u64 w1
  have b2 := bounds_i64 w2
  have b4 := bounds_i64 w4
  have f0 := drop_one _ _ _ e0
  have f1 := drop_one _ _ _ e1
  have f2 := drop_one _ _ _ e2
  have f4 := drop_one _ _ _ e4
  refine ⟨⟨a0, a1, a2, v, a4⟩, ⟨b0.1, b0.2, b1.1, b1.2, b2.1, b2.2, b4.1, b4.2, hv, hb⟩, ?_⟩
  congr 1
  apply List.ext_getElem?
  intro i
  match i with
  | 0 => exact f0
  | 1 => exact f1
  | 2 => exact f2
  | j + 3 =>
    by_cases hj : j < 32
    · have hjv : j < v.length := by omega
      rw [show j + 3 = 3 + j by omega, rcells_val ⟨a0, a1, a2, v, a4⟩ j hjv]
      have e : ((l.drop 3).take 32)[j]? = (U8 v)[j]? := by rw [e3]
      rw [List.getElem?_take, if_pos hj, List.getElem?_drop] at e
      rw [e]
      simp [List.getElem?_eq_getElem hjv]
    · by_cases h35 : j = 32
      · subst h35
        rw [rcells_35 ⟨a0, a1, a2, v, a4⟩ hv]
        exact f4
      · rw [List.getElem?_eq_none (by omega), List.getElem?_eq_none (by rw [rcells_len _ hv]; omega)]
end Go.Proofs.YtndildimnanlpaaDoor
