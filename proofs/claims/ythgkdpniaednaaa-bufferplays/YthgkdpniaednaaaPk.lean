/-
  What the rows share: how lists that came in are opened.
-/
import Derived.Test.YthgkdpniaednaaaBa
import Derived.Test.YthgkdpniaednaaaIa
import Derived.Test.YthgkdpniaednaaaRows
import Derived.ProofKit
import Derived.OpenShut
import Derived.ShutString
import Derived.ChangeOld
import Derived.Below
import Derived.SizedLaws
import Derived.Deep.Slices
namespace Go.Proofs.Ythgkdpniaednaaa
open Go.RowKit

open Go.ChangeShapes Go.WideShapes Go.ChangeAt Go.Deep
theorem ownK : ownKnob Try.prog.godebug = none := by kernel_rfl
theorem laidK : laidOutB Try.prog = true := by kernel_rfl
theorem bytesI : Try.prog.bytesOf 3 = 8 := by kernel_rfl
theorem cells3' : Try.prog.cellsOf 3 = 1 := by kernel_rfl
theorem cellsU : Try.prog.cellsOf 5 = 1 := by kernel_rfl
theorem cellsVl : Try.prog.cellsOf 31 = 32 := by kernel_rfl
theorem cellsIm : Try.prog.cellsOf 33 = 33 := by kernel_rfl
theorem drop_one {α : Type} (l : List α) (i : Nat) (v : α) (h : (l.drop i).take 1 = [v]) : l[i]? = some v := by
  have e : ((l.drop i).take 1)[0]? = some v := by rw [h]; rfl
  rw [List.getElem?_take, if_pos (by omega), List.getElem?_drop] at e
  exact e
theorem openedI {H : Type} {enc : TypeId × Value → H} {W : World} {a : Option Addr} {len cap : Nat} {d : DataW H} {p : List MemPlace} (h : DataW.Trod enc Try.prog W 0 (fun _ => true) true 22 (.slice a len cap) d p) :
    ∃ ss, B.IIn W a len ss ∧ len ≤ cap ∧ (a = none → cap = 0) ∧ (cap = 0 ∨ ∃ elems spare, d = .slice elems spare ∧ elems.length + spare.length = cap) ∧ ∀ x ∈ ss, i64 x := by
  obtain ⟨fuel, hf⟩ := h
  rcases open_ints Try.underlying22 Try.underlying3 (by kernel_rfl) hf with ⟨hcs, _⟩ | ⟨x, l, c, zs, hcs, _, hl, hm, hz, hx, hcell, hwz⟩
  · simp [Value.cells] at hcs
    obtain ⟨rfl, rfl, rfl⟩ := hcs
    exact ⟨[], ⟨rfl, fun h => absurd h (Nat.lt_irrefl 0)⟩, Nat.le_refl _, fun _ => rfl, .inl rfl, by simp⟩
  · simp [Value.cells] at hcs
    obtain ⟨rfl, rfl, rfl⟩ := hcs
    have hz' : zs.length = cap := by simpa using hz
    simp only [Prod.mk.injEq] at hx
    refine ⟨zs.take len, ⟨by rw [List.length_take]; omega, fun h0 => ?_⟩, hl, (fun e => by cases e), .inr ⟨_, _, hx.1, by simp [lits]; omega⟩, fun y hy => bounds_i64 (hwz y (List.mem_of_mem_take hy))⟩
    obtain ⟨b, o, s⟩ := x
    obtain rfl : s = none := by simpa [Addr.add] using World.cell?_spot (hcell 0 (by omega))
    refine ⟨b, o, rfl, fun i hi => ?_⟩
    have hil : i < len := hi
    have hiz : i < zs.length := by omega
    have := hcell i (by omega)
    rw [add_plain] at this
    rw [this]
    simp [List.getD, hiz, hil]
theorem reachI {H : Type} {ts : List TypeId} {ds : List (DataW H)} {j cap : Nat} {d : DataW H} (h : (DataW.weightsEach Try.prog ts ds).all (· ≤ reachBytes) = true) (ht : ts[j]? = some 22) (hd : ds[j]? = some d)
    (hc : cap = 0 ∨ ∃ elems spare, d = .slice elems spare ∧ elems.length + spare.length = cap) : cap * 8 ≤ 140737488351232 := by
  rcases hc with rfl | ⟨el, sp, rfl, rfl⟩
  · omega
  · have := sized_slice h ht hd Try.underlying22
    rw [bytesI] at this
    simp only [reachBytes] at this
    omega

def numOf : Value → Int | .int _ n => n | _ => 0
theorem openedV {H : Type} {enc : TypeId × Value → H} {W : World} {cs : List Value} {n : Nat} {y : DataW H × List MemPlace} (h : DataW.trod enc Try.prog W 0 (fun _ => true) true n 31 cs = some y) :
    ∃ xs, cs = U8 xs ∧ xs.length = 32 ∧ Bytes xs := by
  obtain ⟨ys, m, _, _, hl, hyl, hf⟩ := DataW.trod_array Try.underlying31 h
  rw [cellsVl] at hl
  have hg : ∀ i, i < 32 → ∃ x, cs[i]? = some (.int .u8 x) ∧ 0 ≤ x ∧ x ≤ 255 := by
    intro i hi
    have g := hf i hi
    rw [cellsU, Nat.mul_one, List.getElem?_eq_getElem (by omega)] at g
    obtain ⟨x, e, _, hw⟩ := DataW.trod_int Try.underlying5 g
    exact ⟨x, drop_one _ _ _ e, bounds_u8 hw⟩
  refine ⟨cs.map numOf, ?_, by simp [hl], ?_⟩
  · apply List.ext_getElem?
    intro i
    by_cases hi : i < 32
    · obtain ⟨x, e, _⟩ := hg i hi
      simp [e, numOf]
    · rw [List.getElem?_eq_none (by omega), List.getElem?_eq_none (by simp; omega)]
  · intro x hx
    obtain ⟨v, hv, rfl⟩ := List.mem_map.1 hx
    obtain ⟨i, hi, rfl⟩ := List.getElem_of_mem hv
    obtain ⟨x, e, h0, h1⟩ := hg i (by omega)
    rw [List.getElem?_eq_getElem hi] at e
    have := Option.some.inj e
    rw [this]
    simp only [numOf]
    omega
theorem slice_of {H : Type} {enc : TypeId × Value → H} {W : World} {t e : TypeId} {k : Nat} {c : Value} {y : DataW H × List MemPlace} (ht : Try.prog.underlying t = some (.slice e)) (h : DataW.trod enc Try.prog W 0 (fun _ => true) true k t [c] = some y) :
    ∃ a l cp, c = .slice a l cp := by
  rcases open_slice ht h with ⟨h0, _⟩ | ⟨a, len, cap, _, _, _, _, h0, _⟩
  · simp only [List.cons.injEq, and_true] at h0
    exact ⟨_, _, _, h0⟩
  · simp only [List.cons.injEq, and_true] at h0
    exact ⟨_, _, _, h0⟩
theorem one_at {α : Type} (l : List α) (k : Nat) (h : k < l.length) : (l.drop k).take 1 = [l[k]] := by
  rw [List.drop_eq_getElem_cons h, List.take_succ_cons, List.take_zero]

theorem one_im {H : Type} {enc : TypeId × Value → H} {W : World} {cs : List Value} {n : Nat} {y : DataW H × List MemPlace} (hd : DataW.trod enc Try.prog W 0 (fun _ => true) true n 33 cs = some y) : ∃ i : Im, cs = icells i ∧ i.Wf := by
  obtain ⟨xs, k, _, hy, hl, hxl, hf⟩ := DataW.trod_struct Try.underlying33 hd
  rw [cellsIm] at hl
  have hxl2 : xs.length = 2 := hxl
  match xs, hxl2 with
  | [y0, y1], _ =>
    have g0 : DataW.trod enc Try.prog W 0 (fun _ => true) true k 3 ((cs.drop 0).take (Try.prog.cellsOf 3)) = some y0 := hf 0 _ rfl
    have g1 : DataW.trod enc Try.prog W 0 (fun _ => true) true k 31 ((cs.drop 1).take (Try.prog.cellsOf 31)) = some y1 := hf 1 _ rfl
    rw [cells3'] at g0
    rw [cellsVl] at g1
    obtain ⟨b, e0, _, w0⟩ := DataW.trod_int Try.underlying3 g0
    obtain ⟨v, e1, hv, hvb⟩ := openedV g1
    refine ⟨⟨b, v⟩, ?_, ⟨bounds_i64 w0, hv, hvb⟩⟩
    have h1 : cs.take 1 = [.int .i64 b] := e0
    have h2 : cs.drop 1 = U8 v := by rw [← e1, List.take_of_length_le (by rw [List.length_drop]; omega)]
    rw [← List.take_append_drop 1 cs, h1, h2]; rfl
theorem openedIms {H : Type} {enc : TypeId × Value → H} {W : World} {fuel : Nat} {a : Option Addr} {len cap : Nat} {y : DataW H × List MemPlace} (hf : DataW.trod enc Try.prog W 0 (fun _ => true) true fuel 23 [.slice a len cap] = some y) :
    ∃ l, MIn W a len l ∧ len ≤ cap ∧ cap ≤ maxLen := by
  rcases open_slice Try.underlying23 hf with ⟨hcs, _⟩ | ⟨x, l, c, m, n, D, Pl, hcs, _, hl, hm, hmm, hx, hcell⟩
  · simp only [List.cons.injEq, Value.slice.injEq, and_true] at hcs
    obtain ⟨rfl, rfl, rfl⟩ := hcs
    exact ⟨[], MIn.nil _ _, Nat.le_refl _, Nat.zero_le _⟩
  · simp only [List.cons.injEq, Value.slice.injEq, and_true] at hcs
    obtain ⟨rfl, rfl, rfl⟩ := hcs
    rw [cellsIm] at hcell
    have hlm : len ≤ m := by rw [hmm]; simpa using hl
    have each : ∀ i, i < len → ∃ t : Im, (∀ (j : Nat) v, (icells t)[j]? = some v → W.cell? ((x.add (i * 33)).add j) = some v) ∧ t.Wf := by
      intro i hi
      obtain ⟨cs', h1, h2⟩ := hcell i (by omega)
      obtain ⟨t, rfl, ht⟩ := one_im h2
      refine ⟨t, fun j v hv => ?_, ht⟩
      have hs := World.cells?_some h1
      have hj : j < 33 := by have := (List.getElem?_eq_some_iff.1 hv).1; rw [icells_len ht.len] at this; exact this
      rw [hs.2.2 j hj]; exact hv
    have wf : ImsWf ((List.range len).map fun i => if h : i < len then (each i h).choose else im0) := by
      intro t ht
      obtain ⟨i, hi, rfl⟩ := List.mem_map.1 ht
      have hi' : i < len := List.mem_range.1 hi
      simp only [hi', dif_pos]
      exact (each i hi').choose_spec.2
    refine ⟨(List.range len).map fun i => if h : i < len then (each i h).choose else im0, ⟨by simp, wf, fun h0 => ?_⟩, hl, hm⟩
    · obtain ⟨b, o, s⟩ := x
      have hc0 := (each 0 h0).choose_spec.1 0 _ rfl
      obtain rfl : s = none := by simpa [Addr.add] using World.cell?_spot hc0
      have e1 : ∀ i j, ((⟨b, o, none⟩ : Addr).add (i * 33)).add j = ⟨b, o + i * 33 + j, none⟩ := fun i j => by rw [add_plain]; exact add_plain _ _ _
      refine ⟨b, o, rfl, fun j v hv => ?_⟩
      have hjl := (List.getElem?_eq_some_iff.1 hv).1
      rw [IC_len wf, List.length_map, List.length_range] at hjl
      have hi' : j / 33 < len := by omega
      have hk : ((List.range len).map fun i => if h : i < len then (each i h).choose else im0)[j / 33]? = some (each (j / 33) hi').choose := by
        rw [List.getElem?_map, List.getElem?_range hi']
        simp only [Option.map_some, hi', dif_pos]
      have hj2 : 33 * (j / 33) + j % 33 = j := Nat.div_add_mod j 33
      rw [← hj2, IC_at wf hk (j % 33) (Nat.mod_lt _ (by omega))] at hv
      have := (each (j / 33) hi').choose_spec.1 (j % 33) v hv
      rw [e1] at this
      rw [show o + j = o + j / 33 * 33 + j % 33 by omega]; exact this
end Go.Proofs.Ythgkdpniaednaaa
