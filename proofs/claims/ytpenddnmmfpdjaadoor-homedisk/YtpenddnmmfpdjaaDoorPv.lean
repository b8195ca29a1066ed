/-
  What the rows of layer 8 share: how a value, four bytes, a configuration that came in are opened.
-/
import Derived.Test.YtpenddnmmfpdjaaDoorPb
namespace Go.Proofs.YtpenddnmmfpdjaaDoor
open Go.ChangeShapes Go.WideShapes Go.ChangeAt Go.RowKit

theorem cells5 : Tryd.prog.cellsOf 5 = 1 := by kernel_rfl
theorem cellsV : Tryd.prog.cellsOf 23 = 32 := by kernel_rfl
theorem cellsF : Tryd.prog.cellsOf 32 = 4 := by kernel_rfl
theorem cellsC : Tryd.prog.cellsOf 39 = 5 := by kernel_rfl
def numOf : Value → Int | .int _ n => n | _ => 0
theorem openedV {H : Type} {enc : TypeId × Value → H} {W : World} {cs : List Value} {n : Nat} {y : DataW H × List MemPlace} (h : DataW.trod enc Tryd.prog W 0 (fun _ => true) true n 23 cs = some y) :
    ∃ xs, cs = U8 xs ∧ xs.length = 32 ∧ Bytes xs := by
  obtain ⟨ys, m, _, _, hl, hyl, hf⟩ := DataW.trod_array Tryd.underlying23 h
  rw [cellsV] at hl
  have hg : ∀ i, i < 32 → ∃ x, cs[i]? = some (.int .u8 x) ∧ 0 ≤ x ∧ x ≤ 255 := by
    intro i hi
    have g := hf i hi
    rw [cells5, Nat.mul_one, List.getElem?_eq_getElem (by omega)] at g
    obtain ⟨x, e, _, hw⟩ := DataW.trod_int Tryd.underlying5 g
    exact ⟨x, drop_one _ _ _ e, bounds_u8 hw⟩
  refine ⟨cs.map numOf, ?_, by simp [hl], ?_⟩
  · apply List.ext_getElem?
    intro i
    by_cases hi : i < 32
    · obtain ⟨x, e, _⟩ := hg i hi
      simp [e, numOf]
    · rw [List.getElem?_eq_none (by omega), List.getElem?_eq_none (by simp; omega)]
  · intro x hx
    obtain ⟨v, hv, rfl⟩ := List.mem_map.1 hx
    obtain ⟨i, hi, rfl⟩ := List.getElem_of_mem hv
    obtain ⟨x, e, h0, h1⟩ := hg i (by omega)
    rw [List.getElem?_eq_getElem hi] at e
    have := Option.some.inj e
    rw [this]
    simp only [numOf]
    omega
theorem openedF {H : Type} {enc : TypeId × Value → H} {W : World} {cs : List Value} {n : Nat} {y : DataW H × List MemPlace} (h : DataW.trod enc Tryd.prog W 0 (fun _ => true) true n 32 cs = some y) :
    ∃ xs, cs = U8 xs ∧ xs.length = 4 ∧ Bytes xs := by
  obtain ⟨ys, m, _, _, hl, hyl, hf⟩ := DataW.trod_array Tryd.underlying32 h
  rw [cellsF] at hl
  have hg : ∀ i, i < 4 → ∃ x, cs[i]? = some (.int .u8 x) ∧ 0 ≤ x ∧ x ≤ 255 := by
    intro i hi
    have g := hf i hi
    rw [cells5, Nat.mul_one, List.getElem?_eq_getElem (by omega)] at g
    obtain ⟨x, e, _, hw⟩ := DataW.trod_int Tryd.underlying5 g
    exact ⟨x, drop_one _ _ _ e, bounds_u8 hw⟩
  refine ⟨cs.map numOf, ?_, by simp [hl], ?_⟩
  · apply List.ext_getElem?
    intro i
    by_cases hi : i < 4
    · obtain ⟨x, e, _⟩ := hg i hi
      simp [e, numOf]
    · rw [List.getElem?_eq_none (by omega), List.getElem?_eq_none (by simp; omega)]
  · intro x hx
    obtain ⟨v, hv, rfl⟩ := List.mem_map.1 hx
    obtain ⟨i, hi, rfl⟩ := List.getElem_of_mem hv
    obtain ⟨x, e, h0, h1⟩ := hg i (by omega)
    rw [List.getElem?_eq_getElem hi] at e
    have := Option.some.inj e
    rw [this]
    simp only [numOf]
    omega
theorem openedC {H : Type} {enc : TypeId × Value → H} {W : World} {l : List Value} {n : Nat} {y : DataW H × List MemPlace} (h : DataW.trod enc Tryd.prog W 0 (fun _ => true) true n 39 l = some y) :
    ∃ a0 a1 a2 a3 a4 : Int, l[0]? = some (.int .i64 a0) ∧ l[1]? = some (.int .i64 a1) ∧ l[2]? = some (.int .i64 a2) ∧ l[3]? = some (.int .i64 a3) ∧ l[4]? = some (.int .i64 a4) ∧ i64 a0 ∧ i64 a1 ∧ i64 a2 ∧ i64 a3 ∧ i64 a4 := by
  obtain ⟨xs, k, _, hy, _, hxl, hg⟩ := DataW.trod_struct Tryd.underlying39 h
  have hxl5 : xs.length = 5 := hxl
  have g0 : DataW.trod enc Tryd.prog W 0 (fun _ => true) true k 3 ((l.drop 0).take (Tryd.prog.cellsOf 3)) = xs[0]? := hg 0 _ rfl
  have g1 : DataW.trod enc Tryd.prog W 0 (fun _ => true) true k 3 ((l.drop 1).take (Tryd.prog.cellsOf 3)) = xs[1]? := hg 1 _ rfl
  have g2 : DataW.trod enc Tryd.prog W 0 (fun _ => true) true k 3 ((l.drop 2).take (Tryd.prog.cellsOf 3)) = xs[2]? := hg 2 _ rfl
  have g3 : DataW.trod enc Tryd.prog W 0 (fun _ => true) true k 3 ((l.drop 3).take (Tryd.prog.cellsOf 3)) = xs[3]? := hg 3 _ rfl
  have g4 : DataW.trod enc Tryd.prog W 0 (fun _ => true) true k 3 ((l.drop 4).take (Tryd.prog.cellsOf 3)) = xs[4]? := hg 4 _ rfl
  rw [cells3, List.getElem?_eq_getElem (by omega)] at g0 g1 g2 g3 g4
  obtain ⟨a0, e0, _, w0⟩ := DataW.trod_int Tryd.underlying3 g0
  obtain ⟨a1, e1, _, w1⟩ := DataW.trod_int Tryd.underlying3 g1
  obtain ⟨a2, e2, _, w2⟩ := DataW.trod_int Tryd.underlying3 g2
  obtain ⟨a3, e3, _, w3⟩ := DataW.trod_int Tryd.underlying3 g3
  obtain ⟨a4, e4, _, w4⟩ := DataW.trod_int Tryd.underlying3 g4
  exact ⟨a0, a1, a2, a3, a4, drop_one _ _ _ e0, drop_one _ _ _ e1, drop_one _ _ _ e2, drop_one _ _ _ e3, drop_one _ _ _ e4, bounds_i64 w0, bounds_i64 w1, bounds_i64 w2, bounds_i64 w3, bounds_i64 w4⟩
set_option maxRecDepth 100000 in
theorem okV {W : World} {r : Reach} {b0 : Nat} {v : Value} (h : Value.okWide Tryd.prog W r b0 23 v) : ∃ cs : Array Value, v = .agg cs ∧ cs.size = 32 := by
  simp only [Value.okWide, Tryd.underlying23] at h
  obtain ⟨cs, h1, h2, _⟩ := h
  exact ⟨cs, h1, by rw [h2, cellsV]⟩
set_option maxRecDepth 100000 in
theorem okF {W : World} {r : Reach} {b0 : Nat} {v : Value} (h : Value.okWide Tryd.prog W r b0 32 v) : ∃ cs : Array Value, v = .agg cs ∧ cs.size = 4 := by
  simp only [Value.okWide, Tryd.underlying32] at h
  obtain ⟨cs, h1, h2, _⟩ := h
  exact ⟨cs, h1, by rw [h2, cellsF]⟩
theorem openedVal {H : Type} {enc : TypeId × Value → H} {W : World} {cs : Array Value} {d : DataW H} {p : List MemPlace} (h : DataW.Trod enc Tryd.prog W 0 (fun _ => true) true 23 (.agg cs) d p) :
    ∃ xs, cs = (U8 xs).toArray ∧ xs.length = 32 ∧ Bytes xs := by
  obtain ⟨fuel, hf⟩ := h
  obtain ⟨l⟩ := cs
  obtain ⟨xs, e, hl, hb⟩ := openedV (cs := l) (n := fuel) (y := (d, p)) (by simpa [Value.cells] using hf)
  exact ⟨xs, by rw [e], hl, hb⟩
theorem openedFour {H : Type} {enc : TypeId × Value → H} {W : World} {cs : Array Value} {d : DataW H} {p : List MemPlace} (h : DataW.Trod enc Tryd.prog W 0 (fun _ => true) true 32 (.agg cs) d p) :
    ∃ xs, cs = (U8 xs).toArray ∧ xs.length = 4 ∧ Bytes xs := by
  obtain ⟨fuel, hf⟩ := h
  obtain ⟨l⟩ := cs
  obtain ⟨xs, e, hl, hb⟩ := openedF (cs := l) (n := fuel) (y := (d, p)) (by simpa [Value.cells] using hf)
  exact ⟨xs, by rw [e], hl, hb⟩
theorem openedCfg {H : Type} {enc : TypeId × Value → H} {W : World} {cs : Array Value} {d : DataW H} {p : List MemPlace} (hn : cs.size = 5) (h : DataW.Trod enc Tryd.prog W 0 (fun _ => true) true 39 (.agg cs) d p) :
    ∃ s : Sup, s.Wf ∧ cs = (ccells s).toArray := by
  obtain ⟨fuel, hf⟩ := h
  obtain ⟨l⟩ := cs
  have hl : l.length = 5 := by simpa using hn
  have hf' : DataW.trod enc Tryd.prog W 0 (fun _ => true) true fuel 39 l = some (d, p) := by simpa [Value.cells] using hf
  obtain ⟨a0, a1, a2, a3, a4, f0, f1, f2, f3, f4, b0, b1, b2, b3, b4⟩ := openedC hf'
  refine ⟨⟨a0, a1, a2, a3, a4, 0, 0⟩, ⟨b0, b1, b2, b3, b4, ⟨Int.le_refl 0, by show (0 : Int) ≤ _; omega⟩, ⟨Int.le_refl 0, by show (0 : Int) ≤ _; omega⟩⟩, ?_⟩
  congr 1
  apply List.ext_getElem?
  intro i
  match i with
  | 0 => exact f0
  | 1 => exact f1
  | 2 => exact f2
  | 3 => exact f3
  | 4 => exact f4
  | j + 5 => rw [List.getElem?_eq_none (by omega), List.getElem?_eq_none (by rw [ccells_len]; omega)]
end Go.Proofs.YtpenddnmmfpdjaaDoor
