/-
  How a script that came in is opened.
-/
import Derived.Test.YtkffmglcllhbmaaPk
import Derived.Test.YtkffmglcllhbmaaRo
namespace Go.Proofs.Ytkffmglcllhbmaa
open Go.RowKit

open Go.ChangeShapes Go.WideShapes Go.ChangeAt Go.Deep
theorem cells3 : Try.prog.cellsOf 3 = 1 := by kernel_rfl
theorem cellsU : Try.prog.cellsOf 30 = 1 := by kernel_rfl
theorem cellsI : Try.prog.cellsOf 37 = 1 := by kernel_rfl
theorem cellsOp : Try.prog.cellsOf 68 = 5 := by kernel_rfl
theorem slice_of {H : Type} {enc : TypeId × Value → H} {W : World} {t e : TypeId} {k : Nat} {c : Value} {y : DataW H × List MemPlace} (ht : Try.prog.underlying t = some (.slice e)) (h : DataW.trod enc Try.prog W 0 (fun _ => true) true k t [c] = some y) :
    ∃ a l cp, c = .slice a l cp := by
  rcases open_slice ht h with ⟨h0, _⟩ | ⟨a, len, cap, _, _, _, _, h0, _⟩
  · simp only [List.cons.injEq, and_true] at h0
    exact ⟨_, _, _, h0⟩
  · simp only [List.cons.injEq, and_true] at h0
    exact ⟨_, _, _, h0⟩
theorem weightsAll_mem {H : Type} {P : Program} {e : TypeId} : ∀ {l : List (DataW H)} {d : DataW H}, d ∈ l → ∀ n ∈ d.weights P e, n ∈ DataW.weightsAll P e l
  | x :: r, d, hd, n, hn => by
    simp only [DataW.weightsAll, List.mem_append]
    rcases List.mem_cons.1 hd with rfl | hd
    · exact .inl hn
    · exact .inr (weightsAll_mem hd n hn)
  | [], _, hd, _, _ => by cases hd
set_option maxRecDepth 100000 in
theorem one_op {H : Type} {enc : TypeId × Value → H} {W : World} {a : Addr} {cs : List Value} {n : Nat} {y : DataW H × List MemPlace}
    (hc : W.cells? 0 a 5 = some cs) (hd : DataW.trod enc Try.prog W 0 (fun _ => true) true n 68 cs = some y) (hw : ∀ k ∈ y.1.weights Try.prog 68, k ≤ reachBytes) :
    ∃ (o : OpV) (zs : List Int), OpOk W o zs ∧ ∀ (j : Nat) v, (opcells o)[j]? = some v → W.cell? (a.add j) = some v := by
  obtain ⟨xs, k, _, hy, hl, hxl, hf⟩ := DataW.trod_struct Try.underlying68 hd
  rw [cellsOp] at hl
  have hs := World.cells?_some hc
  have hxl5 : xs.length = 5 := hxl
  match cs, hl, xs, hxl5 with
  | [c0, c1, c2, c3, c4], _, [y0, y1, y2, y3, y4], _ =>
    have g0 := hf 0 _ rfl
    have g1 := hf 1 _ rfl
    have g2 := hf 2 _ rfl
    have g3 := hf 3 _ rfl
    have g4 := hf 4 _ rfl
    simp [cells3, cellsI, cellsU] at g0 g1 g2 g3 g4
    obtain ⟨kd, e0, _, _⟩ := DataW.trod_int Try.underlying3 g0
    obtain ⟨wh, e1, _, _⟩ := DataW.trod_int Try.underlying3 g1
    obtain ⟨t, e2, _, hu⟩ := DataW.trod_int Try.underlying30 g2
    obtain ⟨bk, e3, _, _⟩ := DataW.trod_int Try.underlying3 g3
    obtain ⟨pd, ld, cd, rfl⟩ := slice_of Try.underlying37 g4
    simp only [List.cons.injEq, and_true] at e0 e1 e2 e3
    subst e0 e1 e2 e3
    obtain ⟨is, hi, hlk, hkn, hkw, -⟩ := openedI (d := y4.1) (p := y4.2) ⟨k, g4⟩
    simp only [List.map_cons, List.map_nil] at hy
    subst hy
    have w4 : cd * 8 ≤ reachBytes := by
      rcases hkw with rfl | ⟨el, sp, e, rfl⟩
      · exact Nat.zero_le _
      · have := hw ((el.length + sp.length) * Try.prog.bytesOf 3) (by
          simp only [DataW.weights, Try.underlying68]
          refine DataW.weights_mem_each (j := 4) (t := 37) rfl rfl _ ?_
          rw [e]
          simp [DataW.weights, Try.underlying37])
        rw [bytes3] at this
        exact this
    simp only [reachBytes] at w4
    refine ⟨⟨kd, wh, t, bk, pd, ld, cd⟩, is, ⟨hi, hlk, hkn, hu, by show ld ≤ _; omega⟩, fun j v hv => ?_⟩
    have hj : j < 5 := by have := (Array.getElem?_eq_some_iff.1 hv).1; simpa using this
    rw [hs.2.2 j hj]
    simpa using hv
theorem openedS {H : Type} {enc : TypeId × Value → H} {W : World} {a : Option Addr} {len cap : Nat} {d : DataW H} {p : List MemPlace} (h : DataW.Trod enc Try.prog W 0 (fun _ => true) true 58 (.slice a len cap) d p) (hw : ∀ k ∈ d.weights Try.prog 58, k ≤ reachBytes) :
    ∃ f g, ScIn W a len f g ∧ len ≤ maxLen := by
  obtain ⟨fuel, hf⟩ := h
  rcases open_slice Try.underlying58 hf with ⟨hcs, _⟩ | ⟨x, l, c, m, n, D, Pl, hcs, _, hl, hm, hmm, hx, hcell⟩
  · simp [Value.cells] at hcs
    obtain ⟨rfl, rfl, rfl⟩ := hcs
    exact ⟨fun _ => ⟨0, 0, 0, 0, none, 0, 0⟩, fun _ => [], ⟨fun h => absurd h (Nat.lt_irrefl 0), fun i h => absurd h (Nat.not_lt_zero i)⟩, Nat.zero_le _⟩
  · simp [Value.cells] at hcs
    obtain ⟨rfl, rfl, rfl⟩ := hcs
    rw [cellsOp] at hcell
    simp only [Prod.mk.injEq] at hx
    have hlm : len ≤ m := by rw [hmm]; simpa using hl
    have each : ∀ i, i < len → ∃ y : OpV × List Int, OpOk W y.1 y.2 ∧ ∀ (j : Nat) v, (opcells y.1)[j]? = some v → W.cell? ((x.add (i * 5)).add j) = some v := by
      intro i hi
      obtain ⟨cs', h1, h2⟩ := hcell i (by omega)
      obtain ⟨o, zs, h3, h4⟩ := one_op h1 h2 (fun k hk => hw k (by
        rw [hx.1]
        simp only [DataW.weights, Try.underlying58, List.mem_cons, List.mem_append]
        exact .inr (.inl (weightsAll_mem (List.mem_map.2 ⟨i, List.mem_range.2 hi, rfl⟩) k hk))))
      exact ⟨(o, zs), h3, h4⟩
    refine ⟨fun i => if h : i < len then (each i h).choose.1 else ⟨0, 0, 0, 0, none, 0, 0⟩, fun i => if h : i < len then (each i h).choose.2 else [], ⟨fun h0 => ?_, fun i hi => ?_⟩, by omega⟩
    · obtain ⟨b, o, s⟩ := x
      have hc0 := (each 0 h0).choose_spec.2 0 _ rfl
      obtain rfl : s = none := by simpa [Addr.add] using World.cell?_spot hc0
      have e1 : ∀ i j, ((⟨b, o, none⟩ : Addr).add (i * 5)).add j = ⟨b, o + i * 5 + j, none⟩ := fun i j => by rw [add_plain]; exact add_plain _ _ _
      refine ⟨b, o, rfl, fun i hi j v hv => ?_⟩
      simp only [dif_pos hi] at hv
      have := (each i hi).choose_spec.2 j v (by simpa using hv)
      rw [e1] at this
      exact this
    · simp only [dif_pos hi]
      exact (each i hi).choose_spec.1
end Go.Proofs.Ytkffmglcllhbmaa
