/-
  Layer 5: what the rows share: how a [2]int that came in is opened.
-/
import Derived.Test.YtcmcifihhlfnbaaPk
import Derived.WideKeyArr2
namespace Go.Proofs.Ytcmcifihhlfnbaa
open Go.ChangeShapes Go.WideShapes Go.ChangeAt Go.RowKit
theorem cells30 : Try.prog.cellsOf 30 = 2 := by kernel_rfl
theorem cells3 : Try.prog.cellsOf 3 = 1 := by kernel_rfl
theorem okA {W : World} {r : Reach} {b0 : Nat} {v : Value} (h : Value.okWide Try.prog W r b0 30 v) : ∃ cs : Array Value, v = .agg cs ∧ cs.size = 2 := by
  simp only [Value.okWide, Try.underlying30] at h
  obtain ⟨cs, h1, h2, _⟩ := h
  exact ⟨cs, h1, by rw [h2, cells30]⟩
theorem openedA {H : Type} {enc : TypeId × Value → H} {W : World} {cs : Array Value} {d : DataW H} {p : List MemPlace} (hn : cs.size = 2) (h : DataW.Trod enc Try.prog W 0 (fun _ => true) true 30 (.agg cs) d p) :
    ∃ x y, cs = #[.int .i64 x, .int .i64 y] := by
  obtain ⟨fuel, hf⟩ := h
  cases fuel with
  | zero => simp [DataW.trod] at hf
  | succ m =>
    rw [DataW.trod_step] at hf
    unfold DataW.trodStep at hf
    simp only [Try.underlying30, Value.cells] at hf
    rw [if_pos (by rw [cells30]; simpa using hn)] at hf
    simp only [Option.map_eq_some_iff] at hf
    obtain ⟨ys, hy, _⟩ := hf
    rw [cells3] at hy
    obtain ⟨a, b, rfl⟩ : ∃ a b, cs = #[a, b] := by
      obtain ⟨l⟩ := cs
      simp at hn
      match l, hn with
      | [a, b], _ => exact ⟨a, b, rfl⟩
    rw [show List.range 2 = [0, 1] from rfl, List.mapM_cons] at hy
    simp only [bind, Option.bind_eq_some_iff, pure] at hy
    obtain ⟨u, hu, us, hus, _⟩ := hy
    rw [List.mapM_cons] at hus
    simp only [bind, Option.bind_eq_some_iff, pure] at hus
    obtain ⟨u2, hu2, _⟩ := hus
    obtain ⟨x, hx, _⟩ := DataW.trod_int Try.underlying3 hu
    obtain ⟨y, hy2, _⟩ := DataW.trod_int Try.underlying3 hu2
    simp at hx hy2
    exact ⟨x, y, by rw [hx, hy2]⟩
end Go.Proofs.Ytcmcifihhlfnbaa
