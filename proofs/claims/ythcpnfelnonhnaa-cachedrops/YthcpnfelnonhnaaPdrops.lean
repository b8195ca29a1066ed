/-
  The statement CacheDrops, proved.
-/
import Derived.Test.YthcpnfelnonhnaaPu
import Derived.Test.YthcpnfelnonhnaaQf
namespace Go.Proofs.Ythcpnfelnonhnaa
open Go.RowKit

open Go.ChangeShapes Go.WideShapes Go.ChangeAt Go.Deep
theorem cellsIs : Try.prog.cellsOf 54 = 1 := by kernel_rfl
theorem cellsCm : Try.prog.cellsOf 57 = 2 := by kernel_rfl
theorem bytesCm : Try.prog.bytesOf 57 = 32 := by kernel_rfl
set_option maxRecDepth 100000 in
theorem one_cm {H : Type} {enc : TypeId × Value → H} {W : World} {a : Addr} {cs : List Value} {n : Nat} {y : DataW H × List MemPlace}
    (hc : W.cells? 0 a 2 = some cs) (hd : DataW.trod enc Try.prog W 0 (fun _ => true) true n 57 cs = some y) (hw : ∀ k ∈ y.1.weights Try.prog 57, k ≤ reachBytes) :
    ∃ q l c ss f, W.cell? (a.add 0) = some (.slice q l c) ∧ IIn W .i64 q l ss ∧ l ≤ 140737488355328 ∧ W.cell? (a.add 1) = some (.int .u8 f) ∧ (0 ≤ f ∧ f < 256) := by
  obtain ⟨xs, k, _, hy, hl, hxl, hf⟩ := DataW.trod_struct Try.underlying57 hd
  rw [cellsCm] at hl
  have hs := World.cells?_some hc
  have hxl2 : xs.length = 2 := hxl
  match cs, hl, xs, hxl2 with
  | [c0, c1], _, [y0, y1], _ =>
    have g0 : DataW.trod enc Try.prog W 0 (fun _ => true) true k 54 (([c0, c1].drop 0).take (Try.prog.cellsOf 54)) = some y0 := hf 0 _ rfl
    have g1 : DataW.trod enc Try.prog W 0 (fun _ => true) true k 5 (([c0, c1].drop 1).take (Try.prog.cellsOf 5)) = some y1 := hf 1 _ rfl
    rw [cellsIs] at g0
    rw [cellsU8] at g1
    obtain ⟨pd, ld, cd, rfl⟩ := slice_of Try.underlying54 g0
    obtain ⟨f, e1, _, hu⟩ := DataW.trod_int Try.underlying5 g1
    obtain ⟨is, hi, hlk, hkw⟩ := openedI (d := y0.1) (p := y0.2) ⟨k, g0⟩
    have e1' : c1 = .int .u8 f := by simpa using e1
    subst e1'
    simp only [List.map_cons, List.map_nil] at hy
    subst hy
    have w4 : cd * 8 ≤ reachBytes := by
      rcases hkw with rfl | ⟨el, sp, e, rfl⟩
      · exact Nat.zero_le _
      · have := hw ((el.length + sp.length) * Try.prog.bytesOf 3) (by
          simp only [DataW.weights, Try.underlying57]
          refine DataW.weights_mem_each (j := 0) (t := 54) rfl rfl _ ?_
          rw [e]
          simp [DataW.weights, Try.underlying54])
        rw [bytesI] at this
        exact this
    simp only [reachBytes] at w4
    have b8 := bounds_u8 hu
    exact ⟨pd, ld, cd, is, f, by rw [hs.2.2 0 (by decide)]; rfl, hi, by omega, by rw [hs.2.2 1 (by decide)]; rfl, by omega⟩
theorem openedCm {H : Type} {enc : TypeId × Value → H} {W : World} {a : Option Addr} {len cap : Nat} {d : DataW H} {p : List MemPlace} (h : DataW.Trod enc Try.prog W 0 (fun _ => true) true 51 (.slice a len cap) d p) (hw : ∀ k ∈ d.weights Try.prog 51, k ≤ reachBytes) :
    ∃ fl, CmIn W a len fl ∧ len ≤ 140737488355328 := by
  obtain ⟨fuel, hf⟩ := h
  rcases open_slice Try.underlying51 hf with ⟨hcs, _⟩ | ⟨x, l, c, m, n, D, Pl, hcs, _, hl, hm, hmm, hx, hcell⟩
  · simp [Value.cells] at hcs
    obtain ⟨rfl, rfl, rfl⟩ := hcs
    exact ⟨fun _ => 0, ⟨fun h => absurd h (Nat.lt_irrefl 0), fun i h => absurd h (Nat.not_lt_zero i)⟩, Nat.zero_le _⟩
  · simp [Value.cells] at hcs
    obtain ⟨rfl, rfl, rfl⟩ := hcs
    rw [cellsCm] at hcell
    simp only [Prod.mk.injEq] at hx
    have hlm : len ≤ m := by rw [hmm]; simpa using hl
    have hsz : len ≤ 140737488355328 := by
      have := hw (cap * 32) (by
        rw [hx.1]
        simp only [DataW.weights, Try.underlying51, List.mem_cons]
        left
        rw [bytesCm]
        simp [hmm]
        omega)
      simp only [reachBytes] at this
      omega
    have each : ∀ i, i < len → ∃ q l c ss f, W.cell? ((x.add (i * 2)).add 0) = some (.slice q l c) ∧ IIn W .i64 q l ss ∧ l ≤ 140737488355328 ∧ W.cell? ((x.add (i * 2)).add 1) = some (.int .u8 f) ∧ (0 ≤ f ∧ f < 256) := by
      intro i hi
      obtain ⟨cs', h1, h2⟩ := hcell i (by omega)
      exact one_cm h1 h2 (fun k hk => hw k (by
        rw [hx.1]
        simp only [DataW.weights, Try.underlying51, List.mem_cons, List.mem_append]
        exact .inr (.inl (weightsAll_mem (List.mem_map.2 ⟨i, List.mem_range.2 hi, rfl⟩) k hk))))
    have eachf : ∀ i, i < len → ∃ f, (∃ q l c ss, W.cell? ((x.add (i * 2)).add 0) = some (.slice q l c) ∧ IIn W .i64 q l ss ∧ l ≤ 140737488355328 ∧ W.cell? ((x.add (i * 2)).add 1) = some (.int .u8 f)) ∧ (0 ≤ f ∧ f < 256) := fun i hi => by
      obtain ⟨q, l, c, ss, f, h1, h2, h3, h4, h5⟩ := each i hi
      exact ⟨f, ⟨q, l, c, ss, h1, h2, h3, h4⟩, h5⟩
    refine ⟨fun i => if h : i < len then (eachf i h).choose else 0, ⟨fun h0 => ?_, fun i hi => ?_⟩, hsz⟩
    · obtain ⟨b, o, s⟩ := x
      obtain ⟨q0, l0, c0, ss0, f0, hc0, -⟩ := each 0 h0
      obtain rfl : s = none := by simpa [Addr.add] using World.cell?_spot hc0
      have e1 : ∀ i j, ((⟨b, o, none⟩ : Addr).add (i * 2)).add j = ⟨b, o + i * 2 + j, none⟩ := fun i j => by rw [add_plain]; exact add_plain _ _ _
      refine ⟨b, o, rfl, fun i hi => ?_⟩
      simp only [dif_pos hi]
      obtain ⟨q, l, c, ss, h1, h2, h3, h4⟩ := (eachf i hi).choose_spec.1
      have a0 := e1 i 0
      have a1 := e1 i 1
      rw [Nat.add_zero] at a0
      exact ⟨q, l, c, ss, (congrArg W.cell? a0).symm.trans h1, h2, h3, (congrArg W.cell? a1).symm.trans h4⟩
    · simp only [dif_pos hi]
      exact (eachf i hi).choose_spec.2
set_option maxRecDepth 100000 in
theorem cacheDrops_lifted (os : Os) (started : os.Started) (H : Type) (enc : TypeId × Value → H) :
    ReturnsInHanded {} Try.checked os 4 .any (Rows.cacheDropsSpec.pre6 enc Try.prog Try.f4 Rows.cacheDropsRow.domain false) (Rows.cacheDropsSpec.post enc Try.prog Try.f4 false true false false) := by
  refine returnsInHanded_of_change_sized (C := Try.checked) ownK started (by kernel_rfl) Try.func4
    (ChangeSpec.witness6 (enc := enc) (C := Try.checked) false ⟨#[], #[.slice none 0 0, .int .i64 0], []⟩ 8 (by kernel_rfl) (by kernel_rfl) (by kernel_rfl) (by kernel_rfl)) ?_
  intro W base args ds gs before hval0 hW _ hsz0 _
  have hsz : (DataW.weightsEach Try.prog (Try.f4.params.toList ++ Rows.cacheDropsSpec.plain.varTypes Try.prog) (ds ++ gs)).all (· ≤ reachBytes) = true := hsz0
  clear hsz0
  have hval : ∀ (j : Nat) t v, Try.f4.params[j]? = some t → args[j]? = some v → Value.okWide Try.prog W .any base t v := hval0
  have hW' := hW
  obtain ⟨p, q, hA0, hV, rfl, hfz, hnd⟩ := hW
  have hA : DataW.TrodAll enc Try.prog W 0 (fun _ => true) true Try.f4.params.toList args.toList ds p := hA0
  rw [Try.params4] at hA hval hsz
  obtain ⟨v0, vs0, d0, ds0, p0, q0, hargs, rfl, rfl, h0, r0⟩ := trodAll_cons hA
  obtain ⟨v1, vs1, d1, ds1, p1, q1, rfl, rfl, rfl, h1, r1⟩ := trodAll_cons r0
  obtain ⟨rfl, rfl, rfl⟩ := trodAll_nil r1
  obtain rfl : args = #[v0, v1] := by cases args; simp_all
  obtain ⟨rfl, rfl⟩ := trodVars_none hV
  obtain ⟨a1, len1, cap1, rfl⟩ := okWide_slice Try.underlying51 (hval 0 51 v0 rfl rfl)
  have k0 := h0
  have lt0 : ∀ x ∈ p0, x.block < W.heap.size := by obtain ⟨m, hm⟩ := k0; exact DataW.trod_lt m _ _ _ hm
  obtain ⟨fl, hops, hlm⟩ := openedCm h0 (fun k hk => by have := List.all_eq_true.1 hsz k (DataW.weights_mem_each (j := 0) (t := 51) rfl rfl k hk); simpa using this)
  obtain ⟨s0, rfl, rfl, rfl, w0⟩ := open_int Try.underlying3 (hval 1 3 v1 rfl rfl) h1
  clear hA0 hval0
  refine (cacheDrops_any W (c := cap1) hops hlm s0).mono fun e W' ⟨he, bel⟩ => ?_
  subst he
  exact ⟨_, rfl, _, _, _, [], _, [], hW', trodAll_mk1 (shut_bool Try.underlying4 _), (trodAll_cons_mk (Below.trod laidK (by kernel_rfl) (of_decide_eq_true (by kernel_rfl)) k0 bel lt0) (trodAll_cons_mk (shut_int Try.underlying3 w0) trodAll_mk0)), rfl, bel.frame _, fun h => by cases h⟩

theorem cacheDrops_holds : Rows.CacheDropsSaid :=
  OpenClaim.holds_of_wide 4 Try.f4 rfl rfl rfl rfl rfl rfl rfl ⟨rfl, rfl, rfl, rfl, rfl⟩ rfl rfl rfl rfl rfl (by kernel_rfl) Try.func4 (by kernel_rfl)
    (of_decide_eq_true (by kernel_rfl)) (by unfold Func.isWrapper; first | (rw [if_pos (by decide +kernel)]; kernel_rfl) | (rw [if_neg (by decide +kernel)]; exact ⟨rfl, rfl⟩))
    (fun os started H enc _ => cacheDrops_lifted os started H enc)
#print axioms cacheDrops_holds
end Go.Proofs.Ythcpnfelnonhnaa
