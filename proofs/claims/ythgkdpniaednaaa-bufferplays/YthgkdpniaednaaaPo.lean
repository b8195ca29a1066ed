/-
  How a script that came in is opened.
-/
import Derived.Test.YthgkdpniaednaaaPk
import Derived.Test.YthgkdpniaednaaaTh
namespace Go.Proofs.Ythgkdpniaednaaa
open Go.RowKit

open Go.ChangeShapes Go.WideShapes Go.ChangeAt Go.Deep
namespace W
theorem cellsOp : Try.prog.cellsOf 58 = 35 := by kernel_rfl
theorem one_op {H : Type} {enc : TypeId × Value → H} {W : World} {cs : List Value} {n : Nat} {y : DataW H × List MemPlace} (hd : DataW.trod enc Try.prog W 0 (fun _ => true) true n 58 cs = some y) : ∃ o : Opr, cs = o.cells ∧ Im.Wf ⟨o.b, o.v⟩ := by
  obtain ⟨xs, k, _, hy, hl, hxl, hf⟩ := DataW.trod_struct Try.underlying58 hd
  rw [cellsOp] at hl
  have hxl2 : xs.length = 4 := hxl
  match xs, hxl2 with
  | [y0, y1, y2, y3], _ =>
    have g0 : DataW.trod enc Try.prog W 0 (fun _ => true) true k 3 ((cs.drop 0).take (Try.prog.cellsOf 3)) = some y0 := hf 0 _ rfl
    have g1 : DataW.trod enc Try.prog W 0 (fun _ => true) true k 3 ((cs.drop 1).take (Try.prog.cellsOf 3)) = some y1 := hf 1 _ rfl
    have g2 : DataW.trod enc Try.prog W 0 (fun _ => true) true k 3 ((cs.drop 2).take (Try.prog.cellsOf 3)) = some y2 := hf 2 _ rfl
    have g3 : DataW.trod enc Try.prog W 0 (fun _ => true) true k 31 ((cs.drop 3).take (Try.prog.cellsOf 31)) = some y3 := hf 3 _ rfl
    rw [cells3'] at g0 g1 g2
    rw [cellsVl] at g3
    obtain ⟨kd, e0, _, _⟩ := DataW.trod_int Try.underlying3 g0
    obtain ⟨wh, e1, _, _⟩ := DataW.trod_int Try.underlying3 g1
    obtain ⟨b, e2, _, w2⟩ := DataW.trod_int Try.underlying3 g2
    obtain ⟨v, e3, hv, hvb⟩ := openedV g3
    refine ⟨⟨kd, wh, b, v⟩, ?_, ⟨bounds_i64 w2, hv, hvb⟩⟩
    have h0 := drop_one _ _ _ e0
    have h1 := drop_one _ _ _ e1
    have h2 := drop_one _ _ _ e2
    have h3 : cs.drop 3 = U8 v := by rw [← e3, List.take_of_length_le (by rw [List.length_drop]; omega)]
    match cs, hl with
    | c0 :: c1 :: c2 :: r, _ =>
      simp only [List.getElem?_cons_zero, List.getElem?_cons_succ, Option.some.injEq] at h0 h1 h2
      have h3' : r = U8 v := h3
      rw [h0, h1, h2, h3']
      rfl
theorem openedOps {H : Type} {enc : TypeId × Value → H} {W : World} {fuel : Nat} {a : Option Addr} {len cap : Nat} {y : DataW H × List MemPlace} (hf : DataW.trod enc Try.prog W 0 (fun _ => true) true fuel 43 [.slice a len cap] = some y) :
    ∃ f, OIn W a len f ∧ len ≤ cap ∧ cap ≤ maxLen := by
  rcases open_slice Try.underlying43 hf with ⟨hcs, _⟩ | ⟨x, l, c, m, n, D, Pl, hcs, _, hl, hm, hmm, hx, hcell⟩
  · simp only [List.cons.injEq, Value.slice.injEq, and_true] at hcs
    obtain ⟨rfl, rfl, rfl⟩ := hcs
    exact ⟨fun _ => ⟨0, 0, 0, []⟩, ⟨fun h => absurd h (Nat.lt_irrefl 0), fun i h => absurd h (Nat.not_lt_zero i)⟩, Nat.le_refl _, Nat.zero_le _⟩
  · simp only [List.cons.injEq, Value.slice.injEq, and_true] at hcs
    obtain ⟨rfl, rfl, rfl⟩ := hcs
    rw [cellsOp] at hcell
    have hlm : len ≤ m := by rw [hmm]; simpa using hl
    have each : ∀ i, i < len → ∃ t : Opr, (∀ (j : Nat) v, t.cells[j]? = some v → W.cell? ((x.add (i * 35)).add j) = some v) ∧ Im.Wf ⟨t.b, t.v⟩ := by
      intro i hi
      obtain ⟨cs', h1, h2⟩ := hcell i (by omega)
      obtain ⟨t, rfl, ht⟩ := one_op h2
      refine ⟨t, fun j v hv => ?_, ht⟩
      have hs := World.cells?_some h1
      have hj : j < 35 := by have := (List.getElem?_eq_some_iff.1 hv).1; simp [ocells, ht.len] at this; exact this
      rw [hs.2.2 j hj]; exact hv
    refine ⟨fun i => if h : i < len then (each i h).choose else ⟨0, 0, 0, []⟩, ⟨fun h0 => ?_, fun i hi => ?_⟩, hl, hm⟩
    · obtain ⟨b, o, s⟩ := x
      have hc0 := (each 0 h0).choose_spec.1 0 _ rfl
      obtain rfl : s = none := by simpa [Addr.add] using World.cell?_spot hc0
      have e1 : ∀ i j, ((⟨b, o, none⟩ : Addr).add (i * 35)).add j = ⟨b, o + i * 35 + j, none⟩ := fun i j => by rw [add_plain]; exact add_plain _ _ _
      refine ⟨b, o, rfl, fun i hi j v hv => ?_⟩
      simp only [dif_pos hi] at hv
      have := (each i hi).choose_spec.1 j v hv
      rw [e1] at this
      exact this
    · simp only [dif_pos hi]
      exact (each i hi).choose_spec.2
end W
end Go.Proofs.Ythgkdpniaednaaa
