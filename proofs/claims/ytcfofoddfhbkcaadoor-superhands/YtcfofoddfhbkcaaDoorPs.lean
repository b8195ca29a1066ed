/-
  What the rows of layer 7 share: how a superblock that came in is opened.
-/
import Derived.Test.YtcfofoddfhbkcaaDoorPb
namespace Go.Proofs.YtcfofoddfhbkcaaDoor
open Go.ChangeShapes Go.WideShapes Go.ChangeAt Go.RowKit

theorem cells23 : Tryd.prog.cellsOf 23 = 5 := by kernel_rfl
theorem cells24 : Tryd.prog.cellsOf 24 = 1 := by kernel_rfl
theorem cells26 : Tryd.prog.cellsOf 26 = 7 := by kernel_rfl
theorem take_at {α : Type} (l : List α) (n i : Nat) (v : α) (h : (l.take n)[i]? = some v) : l[i]? = some v := by
  rw [List.getElem?_take] at h
  split at h
  · exact h
  · cases h
theorem openedC {H : Type} {enc : TypeId × Value → H} {W : World} {l : List Value} {n : Nat} {y : DataW H × List MemPlace} (h : DataW.trod enc Tryd.prog W 0 (fun _ => true) true n 23 l = some y) :
    ∃ a0 a1 a2 a3 a4 : Int, l[0]? = some (.int .i64 a0) ∧ l[1]? = some (.int .i64 a1) ∧ l[2]? = some (.int .i64 a2) ∧ l[3]? = some (.int .i64 a3) ∧ l[4]? = some (.int .i64 a4) ∧ i64 a0 ∧ i64 a1 ∧ i64 a2 ∧ i64 a3 ∧ i64 a4 := by
  obtain ⟨xs, k, _, hy, _, hxl, hg⟩ := DataW.trod_struct Tryd.underlying23 h
  have hxl5 : xs.length = 5 := hxl
  have g0 : DataW.trod enc Tryd.prog W 0 (fun _ => true) true k 3 ((l.drop 0).take (Tryd.prog.cellsOf 3)) = xs[0]? := hg 0 _ rfl
  have g1 : DataW.trod enc Tryd.prog W 0 (fun _ => true) true k 3 ((l.drop 1).take (Tryd.prog.cellsOf 3)) = xs[1]? := hg 1 _ rfl
  have g2 : DataW.trod enc Tryd.prog W 0 (fun _ => true) true k 3 ((l.drop 2).take (Tryd.prog.cellsOf 3)) = xs[2]? := hg 2 _ rfl
  have g3 : DataW.trod enc Tryd.prog W 0 (fun _ => true) true k 3 ((l.drop 3).take (Tryd.prog.cellsOf 3)) = xs[3]? := hg 3 _ rfl
  have g4 : DataW.trod enc Tryd.prog W 0 (fun _ => true) true k 3 ((l.drop 4).take (Tryd.prog.cellsOf 3)) = xs[4]? := hg 4 _ rfl
  rw [cells3, List.getElem?_eq_getElem (by omega)] at g0 g1 g2 g3 g4
  obtain ⟨a0, e0, _, w0⟩ := DataW.trod_int Tryd.underlying3 g0
  obtain ⟨a1, e1, _, w1⟩ := DataW.trod_int Tryd.underlying3 g1
  obtain ⟨a2, e2, _, w2⟩ := DataW.trod_int Tryd.underlying3 g2
  obtain ⟨a3, e3, _, w3⟩ := DataW.trod_int Tryd.underlying3 g3
  obtain ⟨a4, e4, _, w4⟩ := DataW.trod_int Tryd.underlying3 g4
  exact ⟨a0, a1, a2, a3, a4, drop_one _ _ _ e0, drop_one _ _ _ e1, drop_one _ _ _ e2, drop_one _ _ _ e3, drop_one _ _ _ e4, bounds_i64 w0, bounds_i64 w1, bounds_i64 w2, bounds_i64 w3, bounds_i64 w4⟩
theorem openedS {H : Type} {enc : TypeId × Value → H} {W : World} {cs : Array Value} {d : DataW H} {p : List MemPlace} (hn : cs.size = 7) (h : DataW.Trod enc Tryd.prog W 0 (fun _ => true) true 26 (.agg cs) d p) :
    ∃ s : Sup, s.Wf ∧ cs = (scells s).toArray := by
  obtain ⟨fuel, hf⟩ := h
  obtain ⟨l⟩ := cs
  have hl : l.length = 7 := by simpa using hn
  have hf' : DataW.trod enc Tryd.prog W 0 (fun _ => true) true fuel 26 l = some (d, p) := by simpa [Value.cells] using hf
  obtain ⟨xs, k, _, hy, _, hxl, hg⟩ := DataW.trod_struct Tryd.underlying26 hf'
  have hxl3 : xs.length = 3 := hxl
  have g0 : DataW.trod enc Tryd.prog W 0 (fun _ => true) true k 23 ((l.drop 0).take (Tryd.prog.cellsOf 23)) = xs[0]? := hg 0 _ rfl
  have g1 : DataW.trod enc Tryd.prog W 0 (fun _ => true) true k 24 ((l.drop 5).take (Tryd.prog.cellsOf 24)) = xs[1]? := hg 1 _ rfl
  have g2 : DataW.trod enc Tryd.prog W 0 (fun _ => true) true k 24 ((l.drop 6).take (Tryd.prog.cellsOf 24)) = xs[2]? := hg 2 _ rfl
  rw [cells23, List.drop_zero] at g0
  rw [cells24] at g1 g2
  rw [List.getElem?_eq_getElem (by omega)] at g0 g1 g2
  obtain ⟨a0, a1, a2, a3, a4, f0, f1, f2, f3, f4, b0, b1, b2, b3, b4⟩ := openedC g0
  obtain ⟨a5, e5, _, w5⟩ := DataW.trod_int Tryd.underlying24 g1
  obtain ⟨a6, e6, _, w6⟩ := DataW.trod_int Tryd.underlying24 g2
  have f5 := drop_one _ _ _ e5
  have f6 := drop_one _ _ _ e6
  refine ⟨⟨a0, a1, a2, a3, a4, a5, a6⟩, ⟨b0, b1, b2, b3, b4, bounds_u64 w5, bounds_u64 w6⟩, ?_⟩
  congr 1
  apply List.ext_getElem?
  intro i
  match i with
  | 0 => exact take_at _ _ _ _ f0
  | 1 => exact take_at _ _ _ _ f1
  | 2 => exact take_at _ _ _ _ f2
  | 3 => exact take_at _ _ _ _ f3
  | 4 => exact take_at _ _ _ _ f4
  | 5 => exact f5
  | 6 => exact f6
  | j + 7 => rw [List.getElem?_eq_none (by omega), List.getElem?_eq_none (by rw [scells_len]; omega)]
end Go.Proofs.YtcfofoddfhbkcaaDoor
