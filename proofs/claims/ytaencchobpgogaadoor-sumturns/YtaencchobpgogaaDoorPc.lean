/-
  How a []Turn that came in is opened.
-/
import Derived.Test.YtaencchobpgogaaDoorPb
import Derived.Test.YtaencchobpgogaaDoorUb
namespace Go.Proofs.YtaencchobpgogaaDoor
open Go.ChangeShapes Go.WideShapes Go.ChangeAt Go.RowKit

theorem cells3 : Tryd.prog.cellsOf 3 = 1 := by kernel_rfl
theorem cells5 : Tryd.prog.cellsOf 5 = 1 := by kernel_rfl
theorem cells34 : Tryd.prog.cellsOf 34 = 2 := by kernel_rfl
theorem bytes34 : Tryd.prog.bytesOf 34 = 16 := by kernel_rfl

theorem one_turn {H : Type} {enc : TypeId × Value → H} {W : World} {a : Addr} {n : Nat} {y : DataW H × List MemPlace}
    (h : (W.cells? 0 a 2).bind (DataW.trod enc Tryd.prog W 0 (fun _ => true) true n 34) = some y) :
    ∃ A x : Int, W.cell? a = some (.int .i64 A) ∧ W.cell? (a.add 1) = some (.int .u8 x) ∧ -9223372036854775808 ≤ A ∧ A ≤ 9223372036854775807 ∧ 0 ≤ x ∧ x < 256 := by
  obtain ⟨cs, hc, hd⟩ := Option.bind_eq_some_iff.1 h
  obtain ⟨y0, y1, m, _, hl, h0, h1⟩ := trod_struct2 Tryd.underlying34 hd
  rw [cells34] at hl
  have hs := World.cells?_some hc
  match cs, hl with
  | [c0, c1], _ =>
    obtain ⟨A, e0, _, w0⟩ := DataW.trod_int Tryd.underlying3 h0
    obtain ⟨x, e1, _, w1⟩ := DataW.trod_int Tryd.underlying5 h1
    rw [cells3] at e0
    rw [cells5] at e1
    simp at e0 e1
    subst e0 e1
    have b0 := bounds_i64 w0
    have b1 := bounds_u8 w1
    refine ⟨A, x, ?_, ?_, b0.1, b0.2, b1.1, by omega⟩
    · have := hs.2.2 0 (by omega)
      simpa [Addr.add] using this
    · have := hs.2.2 1 (by omega)
      simpa using this

theorem openedT {H : Type} {enc : TypeId × Value → H} {W : World} {a : Option Addr} {len cap : Nat} {d : DataW H} {p : List MemPlace} (h : DataW.Trod enc Tryd.prog W 0 (fun _ => true) true 32 (.slice a len cap) d p) :
    ∃ ts, TIn W a len ts ∧ (len = 0 ∨ ∃ elems spare, d = .slice elems spare ∧ elems.length = len) := by
  obtain ⟨fuel, hf⟩ := h
  rcases DataW.trod_slice Tryd.underlying32 hf with ⟨hcs, _⟩ | ⟨x, l, c, elems, rest, n, _, hcs, hx, _, hlc, hcm, hel, hcell, _, _⟩
  · simp [Value.cells] at hcs
    obtain ⟨rfl, rfl, rfl⟩ := hcs
    exact ⟨[], ⟨rfl, (fun t ht => by cases ht), (fun h => by omega)⟩, .inl rfl⟩
  · simp [Value.cells] at hcs
    obtain ⟨rfl, rfl, rfl⟩ := hcs
    rw [cells34] at hcell
    have each : ∀ i, i < len → ∃ t : Int × Int, W.cell? (x.add (i * 2)) = some (.int .i64 t.1) ∧ W.cell? ((x.add (i * 2)).add 1) = some (.int .u8 t.2) ∧ -9223372036854775808 ≤ t.1 ∧ t.1 ≤ 9223372036854775807 ∧ 0 ≤ t.2 ∧ t.2 < 256 := by
      intro i hi
      have := hcell i hi
      rw [List.getElem?_eq_getElem (show i < elems.length by omega)] at this
      obtain ⟨A, y, h⟩ := one_turn this
      exact ⟨(A, y), h⟩
    simp only [Prod.mk.injEq] at hx
    refine ⟨(List.range len).map fun i => if h : i < len then (each i h).choose else (0, 0), ⟨by simp, ?_, ?_⟩, .inr ⟨_, _, hx.1, by simp [hel]⟩⟩
    · intro t ht
      obtain ⟨i, hi, rfl⟩ := List.mem_map.1 ht
      have hi' : i < len := by simpa using hi
      simp only [hi', dif_pos]
      exact (each i hi').choose_spec.2.2
    · intro h0
      obtain ⟨b, o, s⟩ := x
      obtain rfl : s = none := by simpa [Addr.add] using World.cell?_spot (each 0 h0).choose_spec.1
      refine ⟨b, o, rfl, fun i hi => ?_⟩
      have hi' : i < len := by simpa using hi
      have hs := (each i hi').choose_spec
      simp only [List.getElem_map, List.getElem_range, hi', dif_pos]
      have e1 : (⟨b, o, none⟩ : Addr).add (i * 2) = ⟨b, o + i * 2, none⟩ := add_plain _ _ _
      have e2 : ((⟨b, o, none⟩ : Addr).add (i * 2)).add 1 = ⟨b, o + i * 2 + 1, none⟩ := by rw [e1]; exact add_plain _ _ _
      exact ⟨(congrArg W.cell? e1.symm).trans hs.1, (congrArg W.cell? e2.symm).trans hs.2.1⟩

theorem reachT {H : Type} {ts : List TypeId} {ds : List (DataW H)} {j len : Nat} {d : DataW H} (h : (DataW.weightsEach Tryd.prog ts ds).all (· ≤ reachBytes) = true) (ht : ts[j]? = some 32) (hd : ds[j]? = some d)
    (hc : len = 0 ∨ ∃ elems spare, d = .slice elems spare ∧ elems.length = len) : len ≤ 140737488355328 := by
  rcases hc with rfl | ⟨el, sp, rfl, rfl⟩
  · omega
  · have := sized_slice h ht hd Tryd.underlying32
    rw [bytes34] at this
    simp only [reachBytes] at this
    omega
end Go.Proofs.YtaencchobpgogaaDoor
