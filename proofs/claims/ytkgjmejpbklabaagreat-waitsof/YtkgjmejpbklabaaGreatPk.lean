/-
  Layer 15: what the rows share: how lists that came in are opened.
-/
import Derived.Test.YtkgjmejpbklabaaGreatRows
import Derived.Test.YtkgjmejpbklabaaGreatHa
import Derived.ProofKit
import Derived.OpenShut
import Derived.ShutString
import Derived.ChangeOld
import Derived.Below
import Derived.SizedLaws
import Derived.Deep.Slices
namespace Go.Proofs.YtkgjmejpbklabaaGreat
open Go.RowKit
open Go.ChangeShapes Go.WideShapes Go.ChangeAt Go.Deep
theorem ownK : ownKnob Tryz.prog.godebug = none := by kernel_rfl
theorem laidK : laidOutB Tryz.prog = true := by kernel_rfl
theorem bytesU : Tryz.prog.bytesOf 44 = 8 := by kernel_rfl
theorem bytesE : Tryz.prog.bytesOf 46 = 32 := by kernel_rfl
theorem cellsI : Tryz.prog.cellsOf 3 = 1 := by kernel_rfl
theorem cellsU : Tryz.prog.cellsOf 44 = 1 := by kernel_rfl
theorem cellsE : Tryz.prog.cellsOf 46 = 4 := by kernel_rfl
theorem openedU {H : Type} {enc : TypeId × Value → H} {W : World} {a : Option Addr} {len cap : Nat} {d : DataW H} {p : List MemPlace} (h : DataW.Trod enc Tryz.prog W 0 (fun _ => true) true 37 (.slice a len cap) d p) :
    ∃ ss, UIn W a len ss ∧ len ≤ cap ∧ (a = none → cap = 0) ∧ (cap = 0 ∨ ∃ elems spare, d = .slice elems spare ∧ elems.length + spare.length = cap) ∧ ∀ x ∈ ss, UW x := by
  obtain ⟨fuel, hf⟩ := h
  rcases open_ints Tryz.underlying37 Tryz.underlying44 (by kernel_rfl) hf with ⟨hcs, _⟩ | ⟨x, l, c, zs, hcs, _, hl, hm, hz, hx, hcell, hwz⟩
  · simp [Value.cells] at hcs
    obtain ⟨rfl, rfl, rfl⟩ := hcs
    exact ⟨[], ⟨rfl, fun h => absurd h (Nat.lt_irrefl 0)⟩, Nat.le_refl _, fun _ => rfl, .inl rfl, by simp⟩
  · simp [Value.cells] at hcs
    obtain ⟨rfl, rfl, rfl⟩ := hcs
    have hz' : zs.length = cap := by simpa using hz
    simp only [Prod.mk.injEq] at hx
    refine ⟨zs.take len, ⟨by rw [List.length_take]; omega, fun h0 => ?_⟩, hl, (fun e => by cases e), .inr ⟨_, _, hx.1, by simp [lits]; omega⟩, fun y hy => hwz y (List.mem_of_mem_take hy)⟩
    obtain ⟨b, o, s⟩ := x
    obtain rfl : s = none := by simpa [Addr.add] using World.cell?_spot (hcell 0 (by omega))
    refine ⟨b, o, rfl, fun i hi => ?_⟩
    have hil : i < len := hi
    have hiz : i < zs.length := by omega
    have := hcell i (by omega)
    rw [add_plain] at this
    rw [this]
    simp [List.getD, hiz, hil]
set_option maxRecDepth 100000 in
theorem one_edge {H : Type} {enc : TypeId × Value → H} {W : World} {a : Addr} {n : Nat} {y : DataW H × List MemPlace}
    (h : (W.cells? 0 a 4).bind (DataW.trod enc Tryz.prog W 0 (fun _ => true) true n 46) = some y) :
    ∃ e : Eg, W.cell? a = some (.int .u64 e.f) ∧ W.cell? (a.add 1) = some (.int .u64 e.t) ∧ W.cell? (a.add 2) = some (.int .i64 e.y) ∧ W.cell? (a.add 3) = some (.int .i64 e.b) ∧ UW e.f ∧ UW e.t := by
  obtain ⟨cs, hc, hd⟩ := Option.bind_eq_some_iff.1 h
  obtain ⟨xs, k, _, hy, hl, hxl, hf⟩ := DataW.trod_struct Tryz.underlying46 hd
  rw [cellsE] at hl
  have hs := World.cells?_some hc
  have hxl4 : xs.length = 4 := hxl
  match cs, hl, xs, hxl4 with
  | [c0, c1, c2, c3], _, [y0, y1, y2, y3], _ =>
    have g0 := hf 0 _ rfl
    have g1 := hf 1 _ rfl
    have g2 := hf 2 _ rfl
    have g3 := hf 3 _ rfl
    simp [cellsI, cellsU] at g0 g1 g2 g3
    obtain ⟨x0, e0, _, u0⟩ := DataW.trod_int Tryz.underlying44 g0
    obtain ⟨x1, e1, _, u1⟩ := DataW.trod_int Tryz.underlying44 g1
    obtain ⟨x2, e2, _, _⟩ := DataW.trod_int Tryz.underlying3 g2
    obtain ⟨x3, e3, _, _⟩ := DataW.trod_int Tryz.underlying3 g3
    simp only [List.cons.injEq, and_true] at e0 e1 e2 e3
    subst e0 e1 e2 e3
    refine ⟨⟨x0, x1, x2, x3⟩, ?_, ?_, ?_, ?_, u0, u1⟩
    · have := hs.2.2 0 (by omega)
      simpa [Addr.add] using this
    · have := hs.2.2 1 (by omega)
      simpa using this
    · have := hs.2.2 2 (by omega)
      simpa using this
    · have := hs.2.2 3 (by omega)
      simpa using this
theorem openedE {H : Type} {enc : TypeId × Value → H} {W : World} {a : Option Addr} {len cap : Nat} {d : DataW H} {p : List MemPlace} (h : DataW.Trod enc Tryz.prog W 0 (fun _ => true) true 31 (.slice a len cap) d p) :
    ∃ es, EIn W a len es ∧ len ≤ cap ∧ (a = none → cap = 0) ∧ (len = 0 ∨ ∃ elems spare, d = .slice elems spare ∧ elems.length = len) ∧ ∀ e ∈ es, UW e.f ∧ UW e.t := by
  obtain ⟨fuel, hf⟩ := h
  rcases DataW.trod_slice Tryz.underlying31 hf with ⟨hcs, _⟩ | ⟨x, l, c, elems, rest, n, _, hcs, hx, _, hlc, hcm, hel, hcell, _, _⟩
  · simp [Value.cells] at hcs
    obtain ⟨rfl, rfl, rfl⟩ := hcs
    exact ⟨[], ⟨rfl, fun h => absurd h (Nat.lt_irrefl 0)⟩, Nat.le_refl _, fun _ => rfl, .inl rfl, by simp⟩
  · simp [Value.cells] at hcs
    obtain ⟨rfl, rfl, rfl⟩ := hcs
    rw [cellsE] at hcell
    have each : ∀ i, i < len → ∃ e : Eg, W.cell? (x.add (i * 4)) = some (.int .u64 e.f) ∧ W.cell? ((x.add (i * 4)).add 1) = some (.int .u64 e.t) ∧ W.cell? ((x.add (i * 4)).add 2) = some (.int .i64 e.y) ∧ W.cell? ((x.add (i * 4)).add 3) = some (.int .i64 e.b) ∧ UW e.f ∧ UW e.t := by
      intro i hi
      have := hcell i hi
      rw [List.getElem?_eq_getElem (show i < elems.length by omega)] at this
      exact one_edge this
    simp only [Prod.mk.injEq] at hx
    have hget : ∀ i (hi : i < len), ((List.range len).map fun i => if h : i < len then (each i h).choose else noEg).getD i noEg = (each i hi).choose := fun i hi => by
      simp [List.getD, hi]
    refine ⟨(List.range len).map fun i => if h : i < len then (each i h).choose else noEg, ⟨by simp, ?_⟩, hlc, (fun e => by cases e), .inr ⟨_, _, hx.1, by simp [hel]⟩, ?_⟩
    · intro h0
      obtain ⟨b, o, s⟩ := x
      obtain rfl : s = none := by simpa [Addr.add] using World.cell?_spot (each 0 h0).choose_spec.1
      refine ⟨b, o, rfl, fun i hi => ?_⟩
      have hs := (each i hi).choose_spec
      rw [hget i hi]
      have e1 : (⟨b, o, none⟩ : Addr).add (i * 4) = ⟨b, o + i * 4, none⟩ := add_plain _ _ _
      have e2 : ∀ k, ((⟨b, o, none⟩ : Addr).add (i * 4)).add k = ⟨b, o + i * 4 + k, none⟩ := fun k => by rw [e1]; exact add_plain _ _ _
      exact ⟨(congrArg W.cell? e1.symm).trans hs.1, (congrArg W.cell? (e2 1).symm).trans hs.2.1, (congrArg W.cell? (e2 2).symm).trans hs.2.2.1, (congrArg W.cell? (e2 3).symm).trans hs.2.2.2.1⟩
    · intro e he
      obtain ⟨i, hi, rfl⟩ := List.mem_map.1 he
      have hi' : i < len := by simpa using hi
      simp only [hi', dif_pos]
      exact (each i hi').choose_spec.2.2.2.2
theorem reachE {H : Type} {ts : List TypeId} {ds : List (DataW H)} {j len : Nat} {d : DataW H} (h : (DataW.weightsEach Tryz.prog ts ds).all (· ≤ reachBytes) = true) (ht : ts[j]? = some 31) (hd : ds[j]? = some d)
    (hc : len = 0 ∨ ∃ elems spare, d = .slice elems spare ∧ elems.length = len) : len * 32 ≤ 140737488351232 := by
  rcases hc with rfl | ⟨el, sp, rfl, rfl⟩
  · omega
  · have := sized_slice h ht hd Tryz.underlying31
    rw [bytesE] at this
    simp only [reachBytes] at this
    omega
theorem reachU {H : Type} {ts : List TypeId} {ds : List (DataW H)} {j cap : Nat} {d : DataW H} (h : (DataW.weightsEach Tryz.prog ts ds).all (· ≤ reachBytes) = true) (ht : ts[j]? = some 37) (hd : ds[j]? = some d)
    (hc : cap = 0 ∨ ∃ elems spare, d = .slice elems spare ∧ elems.length + spare.length = cap) : cap * 8 ≤ 140737488351232 := by
  rcases hc with rfl | ⟨el, sp, rfl, rfl⟩
  · omega
  · have := sized_slice h ht hd Tryz.underlying37
    rw [bytesU] at this
    simp only [reachBytes] at this
    omega
end Go.Proofs.YtkgjmejpbklabaaGreat
