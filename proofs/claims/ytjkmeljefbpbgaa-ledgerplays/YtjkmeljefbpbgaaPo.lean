/-
  Layer 12: how a script that came in is opened.
-/
import Derived.Test.YtjkmeljefbpbgaaPk
import Derived.Test.YtjkmeljefbpbgaaLf
namespace Go.Proofs.Ytjkmeljefbpbgaa
open Go.ChangeShapes Go.WideShapes Go.ChangeAt Go.RowKit Go.Deep

theorem one_op {H : Type} {enc : TypeId × Value → H} {W : World} {a : Addr} {cs : List Value} {n : Nat} {y : DataW H × List MemPlace}
    (hc : W.cells? 0 a 4 = some cs) (hd : DataW.trod enc Try.prog W 0 (fun _ => true) true n 32 cs = some y) :
    ∃ o : OpV, U64 o.t ∧ ∀ (j : Nat) v, o.val[j]? = some v → W.cell? (a.add j) = some v := by
  obtain ⟨xs, k, _, hy, hl, hxl, hf⟩ := DataW.trod_struct Try.underlying32 hd
  rw [cells32] at hl
  have hs := World.cells?_some hc
  have hxl4 : xs.length = 4 := hxl
  match cs, hl, xs, hxl4 with
  | [c0, c1, c2, c3], _, [y0, y1, y2, y3], _ =>
    have g0 := hf 0 _ rfl
    have g1 := hf 1 _ rfl
    have g2 := hf 2 _ rfl
    have g3 := hf 3 _ rfl
    simp [cells3, cells30] at g0 g1 g2 g3
    obtain ⟨kd, e0, _, _⟩ := DataW.trod_int Try.underlying3 g0
    obtain ⟨wh, e1, _, _⟩ := DataW.trod_int Try.underlying3 g1
    obtain ⟨t, e2, _, hw⟩ := DataW.trod_int Try.underlying30 g2
    obtain ⟨N, e3, _, _⟩ := DataW.trod_int Try.underlying3 g3
    simp only [List.cons.injEq, and_true] at e0 e1 e2 e3
    subst e0 e1 e2 e3
    refine ⟨⟨kd, wh, t, N⟩, hw, fun j v hv => ?_⟩
    have hj : j < 4 := by have := (List.getElem?_eq_some_iff.1 hv).1; simpa [OpV.val] using this
    rw [hs.2.2 j hj]
    exact hv

theorem openedS {H : Type} {enc : TypeId × Value → H} {W : World} {a : Option Addr} {len cap : Nat} {d : DataW H} {p : List MemPlace} (h : DataW.Trod enc Try.prog W 0 (fun _ => true) true 22 (.slice a len cap) d p) :
    ∃ f, ScIn W a len f := by
  obtain ⟨fuel, hf⟩ := h
  rcases open_slice Try.underlying22 hf with ⟨hcs, _⟩ | ⟨x, l, c, m, n, D, Pl, hcs, _, hl, hm, hmm, hx, hcell⟩
  · simp [Value.cells] at hcs
    obtain ⟨rfl, rfl, rfl⟩ := hcs
    exact ⟨fun _ => ⟨0, 0, 0, 0⟩, ⟨fun h => absurd h (Nat.lt_irrefl 0), fun i h => absurd h (Nat.not_lt_zero i)⟩⟩
  · simp [Value.cells] at hcs
    obtain ⟨rfl, rfl, rfl⟩ := hcs
    rw [cells32] at hcell
    have hlm : len ≤ m := by rw [hmm]; simpa using hl
    have each : ∀ i, i < len → ∃ o : OpV, U64 o.t ∧ ∀ (j : Nat) v, o.val[j]? = some v → W.cell? ((x.add (i * 4)).add j) = some v := by
      intro i hi
      obtain ⟨cs', h1, h2⟩ := hcell i (by omega)
      exact one_op h1 h2
    refine ⟨fun i => if h : i < len then (each i h).choose else ⟨0, 0, 0, 0⟩, ⟨fun h0 => ?_, fun i hi => ?_⟩⟩
    · obtain ⟨b, o, s⟩ := x
      have hc0 := (each 0 h0).choose_spec.2 0 _ rfl
      obtain rfl : s = none := by simpa [Addr.add] using World.cell?_spot hc0
      have e1 : ∀ i j, ((⟨b, o, none⟩ : Addr).add (i * 4)).add j = ⟨b, o + i * 4 + j, none⟩ := fun i j => by rw [add_plain]; exact add_plain _ _ _
      refine ⟨b, o, rfl, fun i hi j v hv => ?_⟩
      simp only [dif_pos hi] at hv
      have := (each i hi).choose_spec.2 j v hv
      rw [e1] at this
      exact this
    · simp only [dif_pos hi]
      exact (each i hi).choose_spec.1
end Go.Proofs.Ytjkmeljefbpbgaa
