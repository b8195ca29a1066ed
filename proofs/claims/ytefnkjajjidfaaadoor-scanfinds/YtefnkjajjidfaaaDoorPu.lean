/-
  How a story, and bytes, that came in are opened.
-/
import Derived.Test.YtefnkjajjidfaaaDoorPa
import Derived.Test.YtefnkjajjidfaaaDoorEq
import Derived.Deep.Slices
namespace Go.Proofs.YtefnkjajjidfaaaDoor
open Go.ChangeShapes Go.WideShapes Go.ChangeAt Go.RowKit Go.Deep

theorem laidK : laidOutB Tryd.prog = true := by kernel_rfl
theorem cellsC : Tryd.prog.cellsOf 39 = 5 := by kernel_rfl
theorem cells16 : Tryd.prog.cellsOf 40 = 1 := by kernel_rfl
theorem cellsBs : Tryd.prog.cellsOf 41 = 1 := by kernel_rfl
theorem cellsU8 : Tryd.prog.cellsOf 5 = 1 := by kernel_rfl
theorem cellsBo : Tryd.prog.cellsOf 4 = 1 := by kernel_rfl
theorem cellsSt : Tryd.prog.cellsOf 43 = 9 := by kernel_rfl
theorem bytes16 : Tryd.prog.bytesOf 90 = 2 := by kernel_rfl
theorem bytes5 : Tryd.prog.bytesOf 5 = 1 := by kernel_rfl
theorem openedC {H : Type} {enc : TypeId × Value → H} {W : World} {l : List Value} {n : Nat} {y : DataW H × List MemPlace} (h : DataW.trod enc Tryd.prog W 0 (fun _ => true) true n 39 l = some y) :
    ∃ a0 a1 a2 a3 a4 : Int, l[0]? = some (.int .i64 a0) ∧ l[1]? = some (.int .i64 a1) ∧ l[2]? = some (.int .i64 a2) ∧ l[3]? = some (.int .i64 a3) ∧ l[4]? = some (.int .i64 a4) := by
  obtain ⟨xs, k, _, hy, _, hxl, hg⟩ := DataW.trod_struct Tryd.underlying39 h
  have hxl5 : xs.length = 5 := hxl
  have g0 : DataW.trod enc Tryd.prog W 0 (fun _ => true) true k 3 ((l.drop 0).take (Tryd.prog.cellsOf 3)) = xs[0]? := hg 0 _ rfl
  have g1 : DataW.trod enc Tryd.prog W 0 (fun _ => true) true k 3 ((l.drop 1).take (Tryd.prog.cellsOf 3)) = xs[1]? := hg 1 _ rfl
  have g2 : DataW.trod enc Tryd.prog W 0 (fun _ => true) true k 3 ((l.drop 2).take (Tryd.prog.cellsOf 3)) = xs[2]? := hg 2 _ rfl
  have g3 : DataW.trod enc Tryd.prog W 0 (fun _ => true) true k 3 ((l.drop 3).take (Tryd.prog.cellsOf 3)) = xs[3]? := hg 3 _ rfl
  have g4 : DataW.trod enc Tryd.prog W 0 (fun _ => true) true k 3 ((l.drop 4).take (Tryd.prog.cellsOf 3)) = xs[4]? := hg 4 _ rfl
  rw [cells3, List.getElem?_eq_getElem (by omega)] at g0 g1 g2 g3 g4
  obtain ⟨a0, e0, _, w0⟩ := DataW.trod_int Tryd.underlying3 g0
  obtain ⟨a1, e1, _, w1⟩ := DataW.trod_int Tryd.underlying3 g1
  obtain ⟨a2, e2, _, w2⟩ := DataW.trod_int Tryd.underlying3 g2
  obtain ⟨a3, e3, _, w3⟩ := DataW.trod_int Tryd.underlying3 g3
  obtain ⟨a4, e4, _, w4⟩ := DataW.trod_int Tryd.underlying3 g4
  exact ⟨a0, a1, a2, a3, a4, drop_one _ _ _ e0, drop_one _ _ _ e1, drop_one _ _ _ e2, drop_one _ _ _ e3, drop_one _ _ _ e4⟩
theorem opened16 {H : Type} {enc : TypeId × Value → H} {W : World} {a : Option Addr} {len cap : Nat} {d : DataW H} {p : List MemPlace} (h : DataW.Trod enc Tryd.prog W 0 (fun _ => true) true 40 (.slice a len cap) d p) :
    ∃ ss, UIn W a len ss ∧ len ≤ cap ∧ (cap = 0 ∨ ∃ elems spare, d = .slice elems spare ∧ elems.length + spare.length = cap) := by
  obtain ⟨fuel, hf⟩ := h
  rcases open_ints Tryd.underlying40 Tryd.underlying90 (by kernel_rfl) hf with ⟨hcs, _⟩ | ⟨x, l, c, zs, hcs, _, hl, hm, hz, hx, hcell, hwz⟩
  · simp [Value.cells] at hcs
    obtain ⟨rfl, rfl, rfl⟩ := hcs
    exact ⟨[], ⟨rfl, fun h => absurd h (Nat.lt_irrefl 0), fun x hx => by cases hx⟩, Nat.le_refl _, .inl rfl⟩
  · simp [Value.cells] at hcs
    obtain ⟨rfl, rfl, rfl⟩ := hcs
    have hz' : zs.length = cap := by simpa using hz
    simp only [Prod.mk.injEq] at hx
    refine ⟨zs.take len, ⟨by rw [List.length_take]; omega, fun h0 => ?_, fun x hx => by have := bounds_u16 (hwz x (List.mem_of_mem_take hx)); omega⟩, hl, .inr ⟨_, _, hx.1, by simp [lits]; omega⟩⟩
    obtain ⟨b, o, s⟩ := x
    obtain rfl : s = none := by simpa [Addr.add] using World.cell?_spot (hcell 0 (by omega))
    refine ⟨b, o, rfl, fun i x hi => ?_⟩
    have hil : i < len := by have := (List.getElem?_eq_some_iff.1 hi).1; rw [List.length_take] at this; omega
    have hiz : i < zs.length := by omega
    have := hcell i (by omega)
    rw [add_plain] at this
    rw [this]
    rw [List.getElem?_take, if_pos hil] at hi
    rw [List.getD, hi]; rfl
theorem openedB {H : Type} {enc : TypeId × Value → H} {W : World} {a : Option Addr} {len cap : Nat} {d : DataW H} {p : List MemPlace} (h : DataW.Trod enc Tryd.prog W 0 (fun _ => true) true 41 (.slice a len cap) d p) :
    ∃ ss, BIn W a len ss ∧ len ≤ cap ∧ (cap = 0 ∨ ∃ elems spare, d = .slice elems spare ∧ elems.length + spare.length = cap) := by
  obtain ⟨fuel, hf⟩ := h
  rcases open_ints Tryd.underlying41 Tryd.underlying5 (by kernel_rfl) hf with ⟨hcs, _⟩ | ⟨x, l, c, zs, hcs, _, hl, hm, hz, hx, hcell, hwz⟩
  · simp [Value.cells] at hcs
    obtain ⟨rfl, rfl, rfl⟩ := hcs
    exact ⟨[], ⟨rfl, (fun x hx => by cases hx), fun h => absurd h (Nat.lt_irrefl 0)⟩, Nat.le_refl _, .inl rfl⟩
  · simp [Value.cells] at hcs
    obtain ⟨rfl, rfl, rfl⟩ := hcs
    have hz' : zs.length = cap := by simpa using hz
    simp only [Prod.mk.injEq] at hx
    refine ⟨zs.take len, ⟨by rw [List.length_take]; omega, fun x hx => by have := bounds_u8 (hwz x (List.mem_of_mem_take hx)); omega, fun h0 => ?_⟩, hl, .inr ⟨_, _, hx.1, by simp [lits]; omega⟩⟩
    obtain ⟨b, o, s⟩ := x
    obtain rfl : s = none := by simpa [Addr.add] using World.cell?_spot (hcell 0 (by omega))
    refine ⟨b, o, rfl, fun i hi => ?_⟩
    have hil : i < len := hi
    have hiz : i < zs.length := by omega
    have := hcell i (by omega)
    rw [add_plain] at this
    rw [this]
    rw [List.getD, List.getD, List.getElem?_take, if_pos hil]
theorem slice_of {H : Type} {enc : TypeId × Value → H} {W : World} {t e : TypeId} {k : Nat} {c : Value} {y : DataW H × List MemPlace} (ht : Tryd.prog.underlying t = some (.slice e)) (h : DataW.trod enc Tryd.prog W 0 (fun _ => true) true k t [c] = some y) :
    ∃ a l cp, c = .slice a l cp := by
  rcases open_slice ht h with ⟨h0, _⟩ | ⟨a, len, cap, _, _, _, _, h0, _⟩
  · simp only [List.cons.injEq, and_true] at h0
    exact ⟨_, _, _, h0⟩
  · simp only [List.cons.injEq, and_true] at h0
    exact ⟨_, _, _, h0⟩
theorem one_at {α : Type} (l : List α) (k : Nat) (h : k < l.length) : (l.drop k).take 1 = [l[k]] := by
  rw [List.drop_eq_getElem_cons h, List.take_succ_cons, List.take_zero]
theorem take_five {α : Type} {l : List α} {i : Nat} {v : α} (h : ((l.drop 0).take 5)[i]? = some v) : l[i]? = some v := by
  rw [List.drop_zero, List.getElem?_take] at h
  split at h
  · exact h
  · cases h
set_option maxRecDepth 100000 in
theorem openedStory {H : Type} {enc : TypeId × Value → H} {W : World} {cs : Array Value} {d : DataW H} {p : List MemPlace} (hn : cs.size = 9) (h : DataW.Trod enc Tryd.prog W 0 (fun _ => true) true 43 (.agg cs) d p) (hw : ∀ k ∈ d.weights Tryd.prog 43, k ≤ reachBytes) :
    ∃ s0 ps n c sets sd op pl m cl bs, cs = (stc s0 ps n c sd op pl m cl).toArray ∧ UIn W ps n sets ∧ n ≤ 140737488355328 ∧ (0 ≤ sd ∧ sd < 256) ∧ BIn W pl m bs ∧ m ≤ 281474976710656 := by
  obtain ⟨fuel, hf⟩ := h
  obtain ⟨l⟩ := cs
  have hl : l.length = 9 := by simpa using hn
  have hf' : DataW.trod enc Tryd.prog W 0 (fun _ => true) true fuel 43 l = some (d, p) := by simpa [Value.cells] using hf
  obtain ⟨xs, k, _, hy, _, hxl, hg⟩ := DataW.trod_struct Tryd.underlying43 hf'
  have hxl5 : xs.length = 5 := hxl
  match xs, hxl5 with
  | [y0, y1, y2, y3, y4], _ =>
    have g0 : DataW.trod enc Tryd.prog W 0 (fun _ => true) true k 39 ((l.drop 0).take (Tryd.prog.cellsOf 39)) = some y0 := hg 0 _ rfl
    have g1 : DataW.trod enc Tryd.prog W 0 (fun _ => true) true k 40 ((l.drop 5).take (Tryd.prog.cellsOf 40)) = some y1 := hg 1 _ rfl
    have g2 : DataW.trod enc Tryd.prog W 0 (fun _ => true) true k 5 ((l.drop 6).take (Tryd.prog.cellsOf 5)) = some y2 := hg 2 _ rfl
    have g3 : DataW.trod enc Tryd.prog W 0 (fun _ => true) true k 4 ((l.drop 7).take (Tryd.prog.cellsOf 4)) = some y3 := hg 3 _ rfl
    have g4 : DataW.trod enc Tryd.prog W 0 (fun _ => true) true k 41 ((l.drop 8).take (Tryd.prog.cellsOf 41)) = some y4 := hg 4 _ rfl
    rw [cellsC] at g0
    rw [cells16, one_at l 5 (by omega)] at g1
    rw [cellsU8] at g2
    rw [cellsBo] at g3
    rw [cellsBs, one_at l 8 (by omega)] at g4
    obtain ⟨a0, a1, a2, a3, a4, f0, f1, f2, f3, f4⟩ := openedC g0
    obtain ⟨ps, n, c, e1⟩ := slice_of Tryd.underlying40 g1
    obtain ⟨sd, e2, _, w2⟩ := DataW.trod_int Tryd.underlying5 g2
    obtain ⟨op, e3, _⟩ := DataW.trod_bool Tryd.underlying4 g3
    obtain ⟨pl, m, cl, e4⟩ := slice_of Tryd.underlying41 g4
    rw [e1] at g1
    rw [e4] at g4
    obtain ⟨sets, hi, hlk, hkw⟩ := opened16 (d := y1.1) (p := y1.2) ⟨k, g1⟩
    obtain ⟨bs, hb, hlb, hbw⟩ := openedB (d := y4.1) (p := y4.2) ⟨k, g4⟩
    simp only [List.map_cons, List.map_nil, Prod.mk.injEq] at hy
    obtain ⟨rfl, _⟩ := hy
    have w4 : c * 2 ≤ reachBytes := by
      rcases hkw with rfl | ⟨el, sp, e, rfl⟩
      · exact Nat.zero_le _
      · have := hw ((el.length + sp.length) * Tryd.prog.bytesOf 90) (by
          simp only [DataW.weights, Tryd.underlying43]
          refine DataW.weights_mem_each (j := 1) (t := 40) rfl rfl _ ?_
          rw [e]
          simp [DataW.weights, Tryd.underlying40])
        rw [bytes16] at this
        exact this
    have w5 : cl * 1 ≤ reachBytes := by
      rcases hbw with rfl | ⟨el, sp, e, rfl⟩
      · exact Nat.zero_le _
      · have := hw ((el.length + sp.length) * Tryd.prog.bytesOf 5) (by
          simp only [DataW.weights, Tryd.underlying43]
          refine DataW.weights_mem_each (j := 4) (t := 41) rfl rfl _ ?_
          rw [e]
          simp [DataW.weights, Tryd.underlying41])
        rw [bytes5] at this
        exact this
    simp only [reachBytes] at w4 w5
    have b2 := bounds_u8 w2
    refine ⟨⟨a0, a1, a2, a3, a4, 0, 0⟩, ps, n, c, sets, sd, op, pl, m, cl, bs, ?_, hi, by omega, by omega, hb, by omega⟩
    congr 1
    apply List.ext_getElem?
    intro i
    match i with
    | 0 => exact take_five f0
    | 1 => exact take_five f1
    | 2 => exact take_five f2
    | 3 => exact take_five f3
    | 4 => exact take_five f4
    | 5 => rw [List.getElem?_eq_getElem (by omega), e1]; rfl
    | 6 => exact drop_one _ _ _ e2
    | 7 => exact drop_one _ _ _ e3
    | 8 => rw [List.getElem?_eq_getElem (by omega), e4]; rfl
    | j + 9 => rw [List.getElem?_eq_none (by omega)]; rfl
end Go.Proofs.YtefnkjajjidfaaaDoor
