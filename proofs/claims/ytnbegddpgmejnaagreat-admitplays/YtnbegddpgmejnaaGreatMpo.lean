/-
  Layer 13: how a script and a configuration that came in are opened.
-/
import Derived.Test.YtnbegddpgmejnaaGreatPk
import Derived.Test.YtnbegddpgmejnaaGreatM2
namespace Go.Proofs.YtnbegddpgmejnaaGreat
open Go.ChangeShapes Go.WideShapes Go.ChangeAt Go.RowKit Go.Deep

theorem cellsI : Tryz.prog.cellsOf 43 = 1 := by kernel_rfl
theorem cellsU : Tryz.prog.cellsOf 44 = 1 := by kernel_rfl
theorem cellsOp : Tryz.prog.cellsOf 46 = 5 := by kernel_rfl
theorem cellsC : Tryz.prog.cellsOf 23 = 5 := by kernel_rfl
theorem openedI {H : Type} {enc : TypeId × Value → H} {W : World} {a : Option Addr} {len cap : Nat} {d : DataW H} {p : List MemPlace} (h : DataW.Trod enc Tryz.prog W 0 (fun _ => true) true 43 (.slice a len cap) d p) :
    ∃ ss, B.IIn W a len ss ∧ len ≤ cap ∧ (a = none → cap = 0) := by
  obtain ⟨fuel, hf⟩ := h
  rcases open_ints Tryz.underlying43 Tryz.underlying3 (by kernel_rfl) hf with ⟨hcs, _⟩ | ⟨x, l, c, zs, hcs, _, hl, hm, hz, hx, hcell, hwz⟩
  · simp [Value.cells] at hcs
    obtain ⟨rfl, rfl, rfl⟩ := hcs
    exact ⟨[], ⟨rfl, fun h => absurd h (Nat.lt_irrefl 0)⟩, Nat.le_refl _, fun _ => rfl⟩
  · simp [Value.cells] at hcs
    obtain ⟨rfl, rfl, rfl⟩ := hcs
    have hz' : zs.length = cap := by simpa using hz
    refine ⟨zs.take len, ⟨by rw [List.length_take]; omega, fun h0 => ?_⟩, hl, (fun e => by cases e)⟩
    obtain ⟨b, o, s⟩ := x
    obtain rfl : s = none := by simpa [Addr.add] using World.cell?_spot (hcell 0 (by omega))
    refine ⟨b, o, rfl, fun i hi => ?_⟩
    have hil : i < len := hi
    have hiz : i < zs.length := by omega
    have := hcell i (by omega)
    rw [add_plain] at this
    rw [this]
    simp [List.getD, hiz, hil]
theorem slice_of {H : Type} {enc : TypeId × Value → H} {W : World} {t e : TypeId} {k : Nat} {c : Value} {y : DataW H × List MemPlace} (ht : Tryz.prog.underlying t = some (.slice e)) (h : DataW.trod enc Tryz.prog W 0 (fun _ => true) true k t [c] = some y) :
    ∃ a l cp, c = .slice a l cp := by
  rcases open_slice ht h with ⟨h0, _⟩ | ⟨a, len, cap, _, _, _, _, h0, _⟩
  · simp only [List.cons.injEq, and_true] at h0
    exact ⟨_, _, _, h0⟩
  · simp only [List.cons.injEq, and_true] at h0
    exact ⟨_, _, _, h0⟩
set_option maxRecDepth 100000 in
theorem one_op {H : Type} {enc : TypeId × Value → H} {W : World} {a : Addr} {cs : List Value} {n : Nat} {y : DataW H × List MemPlace}
    (hc : W.cells? 0 a 5 = some cs) (hd : DataW.trod enc Tryz.prog W 0 (fun _ => true) true n 46 cs = some y) :
    ∃ (o : OpV) (zs : List Int), OpOk W o zs ∧ ∀ (j : Nat) v, (opcells o)[j]? = some v → W.cell? (a.add j) = some v := by
  obtain ⟨xs, k, _, hy, hl, hxl, hf⟩ := DataW.trod_struct Tryz.underlying46 hd
  rw [cellsOp] at hl
  have hs := World.cells?_some hc
  have hxl5 : xs.length = 5 := hxl
  match cs, hl, xs, hxl5 with
  | [c0, c1, c2, c3, c4], _, [y0, y1, y2, y3, y4], _ =>
    have g0 := hf 0 _ rfl
    have g1 := hf 1 _ rfl
    have g2 := hf 2 _ rfl
    have g3 := hf 3 _ rfl
    have g4 := hf 4 _ rfl
    simp [cells3, cellsI, cellsU] at g0 g1 g2 g3 g4
    obtain ⟨kd, e0, _, _⟩ := DataW.trod_int Tryz.underlying3 g0
    obtain ⟨wh, e1, _, _⟩ := DataW.trod_int Tryz.underlying3 g1
    obtain ⟨pd, ld, cd, rfl⟩ := slice_of Tryz.underlying43 g2
    obtain ⟨t, e3, _, hw⟩ := DataW.trod_int Tryz.underlying44 g3
    obtain ⟨k', e4, _, _⟩ := DataW.trod_int Tryz.underlying3 g4
    simp only [List.cons.injEq, and_true] at e0 e1 e3 e4
    subst e0 e1 e3 e4
    obtain ⟨is, hi, hlk, hkn⟩ := openedI (d := y2.1) (p := y2.2) ⟨k, g2⟩
    have hll := lenS (d := y2.1) (p := y2.2) Tryz.underlying43 ⟨k, g2⟩
    refine ⟨⟨kd, wh, pd, ld, cd, t, k'⟩, is, ⟨hi, hlk, hkn, hw, hll⟩, fun j v hv => ?_⟩
    have hj : j < 5 := by have := (Array.getElem?_eq_some_iff.1 hv).1; simpa using this
    rw [hs.2.2 j hj]
    simpa using hv
theorem openedS {H : Type} {enc : TypeId × Value → H} {W : World} {a : Option Addr} {len cap : Nat} {d : DataW H} {p : List MemPlace} (h : DataW.Trod enc Tryz.prog W 0 (fun _ => true) true 24 (.slice a len cap) d p) :
    ∃ f g, ScIn W a len f g := by
  obtain ⟨fuel, hf⟩ := h
  rcases open_slice Tryz.underlying24 hf with ⟨hcs, _⟩ | ⟨x, l, c, m, n, D, Pl, hcs, _, hl, hm, hmm, hx, hcell⟩
  · simp [Value.cells] at hcs
    obtain ⟨rfl, rfl, rfl⟩ := hcs
    exact ⟨fun _ => ⟨0, 0, none, 0, 0, 0, 0⟩, fun _ => [], ⟨fun h => absurd h (Nat.lt_irrefl 0), fun i h => absurd h (Nat.not_lt_zero i)⟩⟩
  · simp [Value.cells] at hcs
    obtain ⟨rfl, rfl, rfl⟩ := hcs
    rw [cellsOp] at hcell
    have hlm : len ≤ m := by rw [hmm]; simpa using hl
    have each : ∀ i, i < len → ∃ y : OpV × List Int, OpOk W y.1 y.2 ∧ ∀ (j : Nat) v, (opcells y.1)[j]? = some v → W.cell? ((x.add (i * 5)).add j) = some v := by
      intro i hi
      obtain ⟨cs', h1, h2⟩ := hcell i (by omega)
      obtain ⟨o, zs, h3, h4⟩ := one_op h1 h2
      exact ⟨(o, zs), h3, h4⟩
    refine ⟨fun i => if h : i < len then (each i h).choose.1 else ⟨0, 0, none, 0, 0, 0, 0⟩, fun i => if h : i < len then (each i h).choose.2 else [], ⟨fun h0 => ?_, fun i hi => ?_⟩⟩
    · obtain ⟨b, o, s⟩ := x
      have hc0 := (each 0 h0).choose_spec.2 0 _ rfl
      obtain rfl : s = none := by simpa [Addr.add] using World.cell?_spot hc0
      have e1 : ∀ i j, ((⟨b, o, none⟩ : Addr).add (i * 5)).add j = ⟨b, o + i * 5 + j, none⟩ := fun i j => by rw [add_plain]; exact add_plain _ _ _
      refine ⟨b, o, rfl, fun i hi j v hv => ?_⟩
      simp only [dif_pos hi] at hv
      have := (each i hi).choose_spec.2 j v (by simpa using hv)
      rw [e1] at this
      exact this
    · simp only [dif_pos hi]
      exact (each i hi).choose_spec.1
theorem drop_one {α : Type} (l : List α) (i : Nat) (v : α) (h : (l.drop i).take 1 = [v]) : l[i]? = some v := by
  have e : ((l.drop i).take 1)[0]? = some v := by rw [h]; rfl
  rw [List.getElem?_take, if_pos (by omega), List.getElem?_drop] at e
  exact e
theorem openedC {H : Type} {enc : TypeId × Value → H} {W : World} {l : List Value} {n : Nat} {y : DataW H × List MemPlace} (h : DataW.trod enc Tryz.prog W 0 (fun _ => true) true n 23 l = some y) :
    ∃ a0 a1 a2 a3 a4 : Int, l[0]? = some (.int .i64 a0) ∧ l[1]? = some (.int .i64 a1) ∧ l[2]? = some (.int .i64 a2) ∧ l[3]? = some (.int .i64 a3) ∧ l[4]? = some (.int .i64 a4) := by
  obtain ⟨xs, k, _, hy, _, hxl, hg⟩ := DataW.trod_struct Tryz.underlying23 h
  have hxl5 : xs.length = 5 := hxl
  have g0 : DataW.trod enc Tryz.prog W 0 (fun _ => true) true k 3 ((l.drop 0).take (Tryz.prog.cellsOf 3)) = xs[0]? := hg 0 _ rfl
  have g1 : DataW.trod enc Tryz.prog W 0 (fun _ => true) true k 3 ((l.drop 1).take (Tryz.prog.cellsOf 3)) = xs[1]? := hg 1 _ rfl
  have g2 : DataW.trod enc Tryz.prog W 0 (fun _ => true) true k 3 ((l.drop 2).take (Tryz.prog.cellsOf 3)) = xs[2]? := hg 2 _ rfl
  have g3 : DataW.trod enc Tryz.prog W 0 (fun _ => true) true k 3 ((l.drop 3).take (Tryz.prog.cellsOf 3)) = xs[3]? := hg 3 _ rfl
  have g4 : DataW.trod enc Tryz.prog W 0 (fun _ => true) true k 3 ((l.drop 4).take (Tryz.prog.cellsOf 3)) = xs[4]? := hg 4 _ rfl
  rw [cells3, List.getElem?_eq_getElem (by omega)] at g0 g1 g2 g3 g4
  obtain ⟨a0, e0, _, _⟩ := DataW.trod_int Tryz.underlying3 g0
  obtain ⟨a1, e1, _, _⟩ := DataW.trod_int Tryz.underlying3 g1
  obtain ⟨a2, e2, _, _⟩ := DataW.trod_int Tryz.underlying3 g2
  obtain ⟨a3, e3, _, _⟩ := DataW.trod_int Tryz.underlying3 g3
  obtain ⟨a4, e4, _, _⟩ := DataW.trod_int Tryz.underlying3 g4
  exact ⟨a0, a1, a2, a3, a4, drop_one _ _ _ e0, drop_one _ _ _ e1, drop_one _ _ _ e2, drop_one _ _ _ e3, drop_one _ _ _ e4⟩
theorem openedCfg {H : Type} {enc : TypeId × Value → H} {W : World} {cs : Array Value} {d : DataW H} {p : List MemPlace} (hn : cs.size = 5) (h : DataW.Trod enc Tryz.prog W 0 (fun _ => true) true 23 (.agg cs) d p) :
    ∃ bl lc mr hi cl : Int, cs = #[.int .i64 bl, .int .i64 lc, .int .i64 mr, .int .i64 hi, .int .i64 cl] := by
  obtain ⟨fuel, hf⟩ := h
  obtain ⟨l⟩ := cs
  have hl : l.length = 5 := by simpa using hn
  have hf' : DataW.trod enc Tryz.prog W 0 (fun _ => true) true fuel 23 l = some (d, p) := by simpa [Value.cells] using hf
  obtain ⟨a0, a1, a2, a3, a4, f0, f1, f2, f3, f4⟩ := openedC hf'
  refine ⟨a0, a1, a2, a3, a4, ?_⟩
  show l.toArray = [Value.int .i64 a0, .int .i64 a1, .int .i64 a2, .int .i64 a3, .int .i64 a4].toArray
  congr 1
  apply List.ext_getElem?
  intro i
  match i with
  | 0 => exact f0
  | 1 => exact f1
  | 2 => exact f2
  | 3 => exact f3
  | 4 => exact f4
  | j + 5 => rw [List.getElem?_eq_none (by omega), List.getElem?_eq_none (by simp)]
end Go.Proofs.YtnbegddpgmejnaaGreat
