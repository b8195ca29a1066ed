/-
  How a []Op that came in is opened.
-/
import Derived.Test.YtlidjenkicgldaaPk
import Derived.Test.YtlidjenkicgldaaUm
import Derived.Deep.Slices
namespace Go.Proofs.Ytlidjenkicgldaa
open Go.ChangeShapes Go.WideShapes Go.ChangeAt Go.RowKit Go.Deep

theorem cells3 : Try.prog.cellsOf 3 = 1 := by kernel_rfl
theorem cells23 : Try.prog.cellsOf 23 = 1 := by kernel_rfl
theorem cells36 : Try.prog.cellsOf 36 = 1 := by kernel_rfl
theorem cells61 : Try.prog.cellsOf 61 = 5 := by kernel_rfl

theorem slice_of {H : Type} {enc : TypeId × Value → H} {W : World} {t e : TypeId} {k : Nat} {c : Value} {y : DataW H × List MemPlace} (ht : Try.prog.underlying t = some (.slice e)) (h : DataW.trod enc Try.prog W 0 (fun _ => true) true k t [c] = some y) :
    ∃ a l cp, c = .slice a l cp := by
  rcases open_slice ht h with ⟨h0, _⟩ | ⟨a, len, cap, _, _, _, _, h0, _⟩
  · simp only [List.cons.injEq, and_true] at h0
    exact ⟨_, _, _, h0⟩
  · simp only [List.cons.injEq, and_true] at h0
    exact ⟨_, _, _, h0⟩

theorem weightsAll_mem {H : Type} {P : Program} {e : TypeId} : ∀ {l : List (DataW H)} {d : DataW H}, d ∈ l → ∀ n ∈ d.weights P e, n ∈ DataW.weightsAll P e l
  | x :: r, d, hd, n, hn => by
    simp only [DataW.weightsAll, List.mem_append]
    rcases List.mem_cons.1 hd with rfl | hd
    · exact .inl hn
    · exact .inr (weightsAll_mem hd n hn)
  | [], _, hd, _, _ => by cases hd

theorem one_op {H : Type} {enc : TypeId × Value → H} {W : World} {a : Addr} {cs : List Value} {n : Nat} {y : DataW H × List MemPlace}
    (hc : W.cells? 0 a 5 = some cs) (hd : DataW.trod enc Try.prog W 0 (fun _ => true) true n 61 cs = some y) (hw : ∀ k ∈ y.1.weights Try.prog 61, k ≤ reachBytes) :
    ∃ o : OpV, (∀ (j : Nat) v, o.val[j]? = some v → W.cell? (a.add j) = some v) ∧ OpIn W W.heap.size o := by
  obtain ⟨xs, k, _, hy, hl, hxl, hf⟩ := DataW.trod_struct Try.underlying61 hd
  rw [cells61] at hl
  have hs := World.cells?_some hc
  have hxl5 : xs.length = 5 := hxl
  match cs, hl, xs, hxl5 with
  | [c0, c1, c2, c3, c4], _, [y0, y1, y2, y3, y4], _ =>
    have g0 := hf 0 _ rfl
    have g1 := hf 1 _ rfl
    have g2 := hf 2 _ rfl
    have g3 := hf 3 _ rfl
    have g4 := hf 4 _ rfl
    simp [cells3, cells23, cells36] at g0 g1 g2 g3 g4
    obtain ⟨kd, e0, _, _⟩ := DataW.trod_int Try.underlying3 g0
    obtain ⟨wh, e1, _, _⟩ := DataW.trod_int Try.underlying3 g1
    obtain ⟨nn, e2, _, _⟩ := DataW.trod_int Try.underlying3 g2
    obtain ⟨pd, ld, cd, rfl⟩ := slice_of Try.underlying23 g3
    obtain ⟨pk, lk, ck, rfl⟩ := slice_of Try.underlying36 g4
    simp only [List.cons.injEq, and_true] at e0 e1 e2
    subst e0 e1 e2
    obtain ⟨bs, hb, hlc, hpn, hdw⟩ := opened (d := y3.1) (p := y3.2) ⟨k, g3⟩
    obtain ⟨is, hi, hlk, hkn, hkw⟩ := openedI (d := y4.1) (p := y4.2) ⟨k, g4⟩
    simp only [List.map_cons, List.map_nil] at hy
    subst hy
    have w3 : cd ≤ reachBytes := by
      rcases hdw with rfl | ⟨el, sp, e, rfl⟩
      · exact Nat.zero_le _
      · have := hw ((el.length + sp.length) * Try.prog.bytesOf 5) (by
          simp only [DataW.weights, Try.underlying61]
          refine DataW.weights_mem_each (j := 3) (t := 23) rfl rfl _ ?_
          rw [e]
          simp [DataW.weights, Try.underlying23])
        rw [bytes5] at this
        omega
    have w4 : ck * 8 ≤ reachBytes := by
      rcases hkw with rfl | ⟨el, sp, e, rfl⟩
      · exact Nat.zero_le _
      · have := hw ((el.length + sp.length) * Try.prog.bytesOf 3) (by
          simp only [DataW.weights, Try.underlying61]
          refine DataW.weights_mem_each (j := 4) (t := 36) rfl rfl _ ?_
          rw [e]
          simp [DataW.weights, Try.underlying36])
        rw [bytes3] at this
        exact this
    simp only [reachBytes] at w3 w4
    refine ⟨⟨kd, wh, nn, pd, ld, cd, bs, pk, lk, ck, is⟩, fun j v hv => ?_, hb, hpn, hlc, by show ld ≤ _; omega, fun a ea h0 => by have ea' : pd = some a := ea; subst ea'; exact hb.lt h0, hi, hkn, hlk, by show lk ≤ _; omega, fun a ea h0 => by have ea' : pk = some a := ea; subst ea'; exact hi.lt h0⟩
    have hj : j < 5 := by have := (List.getElem?_eq_some_iff.1 hv).1; simpa [OpV.val] using this
    rw [hs.2.2 j hj]
    exact hv

theorem openedS {H : Type} {enc : TypeId × Value → H} {W : World} {a : Option Addr} {len cap : Nat} {d : DataW H} {p : List MemPlace} (h : DataW.Trod enc Try.prog W 0 (fun _ => true) true 50 (.slice a len cap) d p) (hw : ∀ k ∈ d.weights Try.prog 50, k ≤ reachBytes) :
    ∃ os, ScIn W W.heap.size a len os ∧ len ≤ maxLen := by
  obtain ⟨fuel, hf⟩ := h
  rcases open_slice Try.underlying50 hf with ⟨hcs, _⟩ | ⟨x, l, c, m, n, D, Pl, hcs, _, hl, hm, hmm, hx, hcell⟩
  · simp [Value.cells] at hcs
    obtain ⟨rfl, rfl, rfl⟩ := hcs
    exact ⟨[], ⟨rfl, fun h => absurd h (Nat.lt_irrefl 0), fun i h => absurd h (Nat.not_lt_zero _)⟩, Nat.zero_le _⟩
  · simp [Value.cells] at hcs
    obtain ⟨rfl, rfl, rfl⟩ := hcs
    rw [cells61] at hcell
    simp only [Prod.mk.injEq] at hx
    have hlm : len ≤ m := by rw [hmm]; simpa using hl
    have each : ∀ i, i < len → ∃ o : OpV, (∀ (j : Nat) v, o.val[j]? = some v → W.cell? ((x.add (i * 5)).add j) = some v) ∧ OpIn W W.heap.size o := by
      intro i hi
      obtain ⟨cs', h1, h2⟩ := hcell i (by omega)
      refine one_op h1 h2 (fun k hk => hw k ?_)
      rw [hx.1]
      simp only [DataW.weights, Try.underlying50, List.mem_cons, List.mem_append]
      exact .inr (.inl (weightsAll_mem (List.mem_map.2 ⟨i, List.mem_range.2 hi, rfl⟩) k hk))
    have z : OpV := ⟨0, 0, 0, none, 0, 0, [], none, 0, 0, []⟩
    refine ⟨(List.range len).map fun i => if h : i < len then (each i h).choose else z, ⟨by simp, fun h0 => ?_, fun i hi => ?_⟩, by omega⟩
    · obtain ⟨b, o, s⟩ := x
      have hc0 := (each 0 h0).choose_spec.1 0 _ rfl
      obtain rfl : s = none := by simpa [Addr.add] using World.cell?_spot hc0
      have e1 : ∀ i j, ((⟨b, o, none⟩ : Addr).add (i * 5)).add j = ⟨b, o + i * 5 + j, none⟩ := fun i j => by rw [add_plain]; exact add_plain _ _ _
      refine ⟨b, o, rfl, ?_, fun i hi j v hv => ?_⟩
      · rw [e1] at hc0
        exact World.block_lt_of_cell? W _ hc0
      · have hi' : i < len := by simpa using hi
        simp only [List.getElem_map, List.getElem_range, hi', dif_pos] at hv
        have := (each i hi').choose_spec.1 j v hv
        rw [e1] at this
        exact this
    · have hi' : i < len := by simpa using hi
      simp only [List.getElem_map, List.getElem_range, hi', dif_pos]
      exact (each i hi').choose_spec.2

end Go.Proofs.Ytlidjenkicgldaa
