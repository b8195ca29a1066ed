/-
  How a [][]byte that came in is opened.
-/
import Derived.Test.YtaencchobpgogaaDoorPb
import Derived.Test.YtaencchobpgogaaDoorXd
import Derived.Deep.Matrix
namespace Go.Proofs.YtaencchobpgogaaDoor
open Go.ChangeShapes Go.WideShapes Go.ChangeAt Go.RowKit Go.Deep

theorem bytes25 : Tryd.prog.bytesOf 25 = 24 := by kernel_rfl

theorem openedP {H : Type} {enc : TypeId × Value → H} {W : World} {a : Option Addr} {len cap : Nat} {d : DataW H} {p : List MemPlace} (h : DataW.Trod enc Tryd.prog W 0 (fun _ => true) true 38 (.slice a len cap) d p) :
    ∃ vs ls, PIn W a len vs ls ∧ (len = 0 ∨ ∃ elems spare, d = .slice elems spare ∧ elems.length = len) := by
  obtain ⟨fuel, hf⟩ := h
  have hd : len = 0 ∨ ∃ elems spare, d = .slice elems spare ∧ elems.length = len := by
    rcases DataW.trod_slice Tryd.underlying38 hf with ⟨hcs, _⟩ | ⟨x, l, c, elems, rest, n, _, hcs, hx, _, _, _, hel, _⟩
    · simp [Value.cells] at hcs
      exact .inl hcs.2.1
    · simp [Value.cells] at hcs
      obtain ⟨rfl, rfl, rfl⟩ := hcs
      simp only [Prod.mk.injEq] at hx
      exact .inr ⟨_, _, hx.1, by simp [hel]⟩
  rcases open_int_rows Tryd.underlying38 Tryd.underlying25 Tryd.underlying5 (by kernel_rfl) (by kernel_rfl) hf with ⟨hcs, _⟩ | ⟨x, l, c, A, L, C, Z, hcs, _, hl, hm, hx, hrow⟩
  · simp [Value.cells] at hcs
    obtain ⟨rfl, rfl, rfl⟩ := hcs
    exact ⟨[], [], ⟨rfl, rfl, fun h => absurd h (Nat.lt_irrefl 0), fun i h => absurd h (Nat.not_lt_zero _)⟩, hd⟩
  · simp [Value.cells] at hcs
    obtain ⟨rfl, rfl, rfl⟩ := hcs
    refine ⟨(List.range len).map fun r => .slice (A r) (L r) (C r), (List.range len).map fun r => (Z r).take (L r), ⟨by simp, by simp, fun h0 => ?_, fun i h1 h2 => ?_⟩, hd⟩
    · obtain ⟨b, o, s⟩ := x
      obtain rfl : s = none := by simpa [Addr.add] using World.cell?_spot (hrow 0 (by omega)).1
      refine ⟨b, o, rfl, fun i hi => ?_⟩
      have hi' : i < len := by simpa using hi
      have := (hrow i (by omega)).1
      rw [add_plain] at this
      rw [this]
      simp
    · have hi' : i < len := by simpa using h1
      obtain ⟨_, hLC, _, hZ, hwf, hn, hcell⟩ := hrow i (by omega)
      simp only [List.getElem_map, List.getElem_range]
      refine ⟨A i, L i, C i, rfl, ⟨by rw [List.length_take]; omega, fun n hn => ?_, fun h0 => ?_⟩, hLC, hn⟩
      · have := bounds_u8 (hwf n (List.mem_of_mem_take hn))
        omega
      · cases hA : A i with
        | none => have := hn hA; omega
        | some ad =>
          obtain ⟨b, o, s⟩ := ad
          have hc2 := (hcell _ hA).2
          obtain rfl : s = none := by simpa [Addr.add] using World.cell?_spot (hc2 0 (by omega))
          refine ⟨b, o, rfl, fun j hj => ?_⟩
          have := hc2 j (by omega)
          rw [add_plain] at this
          rw [this]
          simp [List.getD, hj]

theorem reachP {H : Type} {ts : List TypeId} {ds : List (DataW H)} {j len : Nat} {d : DataW H} (h : (DataW.weightsEach Tryd.prog ts ds).all (· ≤ reachBytes) = true) (ht : ts[j]? = some 38) (hd : ds[j]? = some d)
    (hc : len = 0 ∨ ∃ elems spare, d = .slice elems spare ∧ elems.length = len) : len ≤ 140737488355328 := by
  rcases hc with rfl | ⟨el, sp, rfl, rfl⟩
  · omega
  · have := sized_slice h ht hd Tryd.underlying38
    rw [bytes25] at this
    simp only [reachBytes] at this
    omega
end Go.Proofs.YtaencchobpgogaaDoor
