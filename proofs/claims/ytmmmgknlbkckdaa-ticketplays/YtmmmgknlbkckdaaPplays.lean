/-
  The statement TicketPlays, proved.
-/
import Derived.Test.YtmmmgknlbkckdaaPo
import Derived.Test.YtmmmgknlbkckdaaTw
namespace Go.Proofs.Ytmmmgknlbkckdaa
open Go.ChangeShapes Go.WideShapes Go.ChangeAt Go.RowKit Go.Deep

theorem one_op {H : Type} {enc : TypeId × Value → H} {W : World} {a : Addr} {cs : List Value} {n : Nat} {y : DataW H × List MemPlace}
    (hc : W.cells? 0 a 4 = some cs) (hd : DataW.trod enc Try.prog W 0 (fun _ => true) true n 51 cs = some y) :
    ∃ o : OpV, ∀ (j : Nat) v, o.val[j]? = some v → W.cell? (a.add j) = some v := by
  obtain ⟨xs, k, _, hy, hl, hxl, hf⟩ := DataW.trod_struct Try.underlying51 hd
  rw [cells51] at hl
  have hs := World.cells?_some hc
  have hxl4 : xs.length = 4 := hxl
  match cs, hl, xs, hxl4 with
  | [c0, c1, c2, c3], _, [y0, y1, y2, y3], _ =>
    have g0 := hf 0 _ rfl
    have g1 := hf 1 _ rfl
    have g2 := hf 2 _ rfl
    have g3 := hf 3 _ rfl
    simp [cells3, cells26] at g0 g1 g2 g3
    obtain ⟨kd, e0, _, _⟩ := DataW.trod_int Try.underlying3 g0
    obtain ⟨wh, e1, _, _⟩ := DataW.trod_int Try.underlying3 g1
    obtain ⟨t, e2, _, _⟩ := DataW.trod_int Try.underlying26 g2
    obtain ⟨N, e3, _, _⟩ := DataW.trod_int Try.underlying3 g3
    simp only [List.cons.injEq, and_true] at e0 e1 e2 e3
    subst e0 e1 e2 e3
    refine ⟨⟨kd, wh, t, N⟩, fun j v hv => ?_⟩
    have hj : j < 4 := by have := (List.getElem?_eq_some_iff.1 hv).1; simpa [OpV.val] using this
    rw [hs.2.2 j hj]
    exact hv

theorem openedS {H : Type} {enc : TypeId × Value → H} {W : World} {a : Option Addr} {len cap : Nat} {d : DataW H} {p : List MemPlace} (h : DataW.Trod enc Try.prog W 0 (fun _ => true) true 39 (.slice a len cap) d p) :
    ∃ f, ScIn W a len f := by
  obtain ⟨fuel, hf⟩ := h
  rcases open_slice Try.underlying39 hf with ⟨hcs, _⟩ | ⟨x, l, c, m, n, D, Pl, hcs, _, hl, hm, hmm, hx, hcell⟩
  · simp [Value.cells] at hcs
    obtain ⟨rfl, rfl, rfl⟩ := hcs
    exact ⟨fun _ => ⟨0, 0, 0, 0⟩, ⟨fun h => absurd h (Nat.lt_irrefl 0)⟩⟩
  · simp [Value.cells] at hcs
    obtain ⟨rfl, rfl, rfl⟩ := hcs
    rw [cells51] at hcell
    have hlm : len ≤ m := by rw [hmm]; simpa using hl
    have each : ∀ i, i < len → ∃ o : OpV, ∀ (j : Nat) v, o.val[j]? = some v → W.cell? ((x.add (i * 4)).add j) = some v := by
      intro i hi
      obtain ⟨cs', h1, h2⟩ := hcell i (by omega)
      exact one_op h1 h2
    refine ⟨fun i => if h : i < len then (each i h).choose else ⟨0, 0, 0, 0⟩, ⟨fun h0 => ?_⟩⟩
    obtain ⟨b, o, s⟩ := x
    have hc0 := (each 0 h0).choose_spec 0 _ rfl
    obtain rfl : s = none := by simpa [Addr.add] using World.cell?_spot hc0
    have e1 : ∀ i j, ((⟨b, o, none⟩ : Addr).add (i * 4)).add j = ⟨b, o + i * 4 + j, none⟩ := fun i j => by rw [add_plain]; exact add_plain _ _ _
    refine ⟨b, o, rfl, fun i hi j v hv => ?_⟩
    simp only [dif_pos hi] at hv
    have := (each i hi).choose_spec j v hv
    rw [e1] at this
    exact this

set_option maxRecDepth 100000 in
theorem ticketPlays_lifted (os : Os) (started : os.Started) (H : Type) (enc : TypeId × Value → H) :
    ReturnsInHanded {} Try.checked os 5 .any (Rows.ticketPlaysSpec.pre6 enc Try.prog Try.f5 Rows.ticketPlaysRow.domain false) (Rows.ticketPlaysSpec.post enc Try.prog Try.f5 false true false false) := by
  refine returnsInHanded_of_change (C := Try.checked) ownK started (by kernel_rfl) Try.func5
    (ChangeSpec.witness6 (enc := enc) (C := Try.checked) false ⟨#[], #[.slice none 0 0], []⟩ 8 (by kernel_rfl) (by kernel_rfl) (by kernel_rfl) (by kernel_rfl)) ?_
  intro W base args ds gs before hval0 hW _ _
  have hval : ∀ (j : Nat) t v, Try.f5.params[j]? = some t → args[j]? = some v → Value.okWide Try.prog W .any base t v := hval0
  have hW' := hW
  obtain ⟨p, q, hA0, hV, rfl, hfz, hnd⟩ := hW
  have hA : DataW.TrodAll enc Try.prog W 0 (fun _ => true) true Try.f5.params.toList args.toList ds p := hA0
  rw [Try.params5] at hA hval
  obtain ⟨v0, vs0, d0, ds0, p0, q0, hargs, rfl, rfl, h0, r0⟩ := trodAll_cons hA
  obtain ⟨rfl, rfl, rfl⟩ := trodAll_nil r0
  obtain rfl : args = #[v0] := by cases args; simp_all
  obtain ⟨rfl, rfl⟩ := trodVars_none hV
  obtain ⟨a0, len0, cap0, rfl⟩ := okWide_slice Try.underlying39 (hval 0 39 v0 rfl rfl)
  have k0 := h0
  have lt0 : ∀ x ∈ p0, x.block < W.heap.size := by obtain ⟨m, hm⟩ := k0; exact DataW.trod_lt m _ _ _ hm
  obtain ⟨f, hf⟩ := openedS h0
  have l0 := lenS Try.underlying39 h0
  clear hA0 hval0
  refine (ticketPlays_any a0 len0 cap0 f W hf l0).mono fun e W' ⟨he, bel⟩ => ?_
  subst he
  exact ⟨_, rfl, _, _, _, [], _, [], hW', trodAll_mk1 (shut_bool Try.underlying4 _), (trodAll_cons_mk (Below.trod laidK (by kernel_rfl) (of_decide_eq_true (by kernel_rfl)) k0 bel lt0) trodAll_mk0), rfl, bel.frame _, fun h => by cases h⟩

theorem ticketPlays_holds : Rows.TicketPlaysSaid :=
  OpenClaim.holds_of_wide 5 Try.f5 rfl rfl rfl rfl rfl rfl rfl ⟨rfl, rfl, rfl, rfl, rfl⟩ rfl rfl rfl rfl rfl (by kernel_rfl) Try.func5 (by kernel_rfl)
    (of_decide_eq_true (by kernel_rfl)) (by unfold Func.isWrapper; first | (rw [if_pos (by decide +kernel)]; kernel_rfl) | (rw [if_neg (by decide +kernel)]; exact ⟨rfl, rfl⟩))
    (fun os started H enc _ => ticketPlays_lifted os started H enc)
#print axioms ticketPlays_holds
end Go.Proofs.Ytmmmgknlbkckdaa
