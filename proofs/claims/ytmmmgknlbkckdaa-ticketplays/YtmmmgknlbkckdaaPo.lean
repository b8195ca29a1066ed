/-
  Layer 11: how lists that came in are opened: []uint64, []bool, []Op.
-/
import Derived.Test.YtmmmgknlbkckdaaPk
import Derived.Test.YtmmmgknlbkckdaaTj
import Derived.Deep.Slices
namespace Go.Proofs.Ytmmmgknlbkckdaa
open Go.ChangeShapes Go.WideShapes Go.ChangeAt Go.RowKit Go.Deep

theorem cells3 : Try.prog.cellsOf 3 = 1 := by kernel_rfl
theorem cells4 : Try.prog.cellsOf 4 = 1 := by kernel_rfl
theorem cells26 : Try.prog.cellsOf 26 = 1 := by kernel_rfl
theorem cells51 : Try.prog.cellsOf 51 = 4 := by kernel_rfl

theorem lenS {H : Type} {enc : TypeId × Value → H} {W : World} {t e : TypeId} {a : Option Addr} {len cap : Nat} {d : DataW H} {p : List MemPlace} (ht : Try.prog.underlying t = some (.slice e)) (h : DataW.Trod enc Try.prog W 0 (fun _ => true) true t (.slice a len cap) d p) : len ≤ 9223372036854775807 := by
  obtain ⟨fuel, hf⟩ := h
  have hml : maxLen ≤ 9223372036854775807 := by decide
  rcases open_slice ht hf with ⟨hcs, _⟩ | ⟨x, l, c, m, n, D, Pl, hcs, _, hl, hm, _⟩
  · simp [Value.cells] at hcs
    omega
  · simp [Value.cells] at hcs
    omega

theorem openedT {H : Type} {enc : TypeId × Value → H} {W : World} {a : Option Addr} {len cap : Nat} {d : DataW H} {p : List MemPlace} (h : DataW.Trod enc Try.prog W 0 (fun _ => true) true 23 (.slice a len cap) d p) :
    ∃ f, TIn W a len f := by
  obtain ⟨fuel, hf⟩ := h
  rcases open_slice Try.underlying23 hf with ⟨hcs, _⟩ | ⟨x, l, c, m, n, D, Pl, hcs, _, hl, hm, hmm, hx, hcell⟩
  · simp [Value.cells] at hcs
    obtain ⟨rfl, rfl, rfl⟩ := hcs
    exact ⟨fun _ => false, ⟨fun h => absurd h (Nat.lt_irrefl 0)⟩⟩
  · simp [Value.cells] at hcs
    obtain ⟨rfl, rfl, rfl⟩ := hcs
    rw [cells4] at hcell
    have hlm : len ≤ m := by rw [hmm]; simpa using hl
    have each : ∀ i, i < len → ∃ v : Bool, W.cell? (x.add i) = some (.bool v) := by
      intro i hi
      obtain ⟨cs', h1, h2⟩ := hcell i (by omega)
      obtain ⟨v, rfl, _⟩ := DataW.trod_bool Try.underlying4 h2
      have hs := World.cells?_some h1
      have := hs.2.2 0 (by omega)
      refine ⟨v, ?_⟩
      rw [Nat.mul_one] at this
      have e : (x.add i).add 0 = x.add i := by obtain ⟨b, o, s⟩ := x; cases s <;> simp [Addr.add]
      rw [e] at this
      simpa using this
    refine ⟨fun i => if h : i < len then (each i h).choose else false, ⟨fun h0 => ?_⟩⟩
    obtain ⟨b, o, s⟩ := x
    have hc0 := (each 0 h0).choose_spec
    obtain rfl : s = none := by simpa [Addr.add] using World.cell?_spot hc0
    refine ⟨b, o, rfl, fun i hi => ?_⟩
    have := (each i hi).choose_spec
    rw [show (⟨b, o + i, none⟩ : Addr) = (⟨b, o, none⟩ : Addr).add i from (add_plain _ _ _).symm]
    simp only [dif_pos hi]
    exact this

end Go.Proofs.Ytmmmgknlbkckdaa
