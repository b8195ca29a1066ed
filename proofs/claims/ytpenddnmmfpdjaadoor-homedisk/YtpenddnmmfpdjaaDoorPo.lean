/-
  How a []Op that came in is opened.
-/
import Derived.Test.YtpenddnmmfpdjaaDoorPv
import Derived.Test.YtpenddnmmfpdjaaDoorXk
import Derived.Deep.Slices
namespace Go.Proofs.YtpenddnmmfpdjaaDoor
open Go.ChangeShapes Go.WideShapes Go.ChangeAt Go.RowKit Go.Deep

theorem cells24 : Tryd.prog.cellsOf 24 = 1 := by kernel_rfl
theorem cells71 : Tryd.prog.cellsOf 71 = 1 := by kernel_rfl
theorem cells4 : Tryd.prog.cellsOf 4 = 1 := by kernel_rfl
theorem cells73 : Tryd.prog.cellsOf 73 = 42 := by kernel_rfl
theorem bytes3 : Tryd.prog.bytesOf 3 = 8 := by kernel_rfl
theorem openedI {H : Type} {enc : TypeId × Value → H} {W : World} {a : Option Addr} {len cap : Nat} {d : DataW H} {p : List MemPlace} (h : DataW.Trod enc Tryd.prog W 0 (fun _ => true) true 71 (.slice a len cap) d p) :
    ∃ ss, IIn W a len ss ∧ len ≤ cap ∧ (a = none → cap = 0) ∧ (cap = 0 ∨ ∃ elems spare, d = .slice elems spare ∧ elems.length + spare.length = cap) := by
  obtain ⟨fuel, hf⟩ := h
  rcases open_ints Tryd.underlying71 Tryd.underlying3 (by kernel_rfl) hf with ⟨hcs, _⟩ | ⟨x, l, c, zs, hcs, _, hl, hm, hz, hx, hcell, hwz⟩
  · simp [Value.cells] at hcs
    obtain ⟨rfl, rfl, rfl⟩ := hcs
    exact ⟨[], ⟨rfl, fun h => absurd h (Nat.lt_irrefl 0)⟩, Nat.le_refl _, fun _ => rfl, .inl rfl⟩
  · simp [Value.cells] at hcs
    obtain ⟨rfl, rfl, rfl⟩ := hcs
    have hz' : zs.length = cap := by simpa using hz
    simp only [Prod.mk.injEq] at hx
    refine ⟨zs.take len, ⟨by rw [List.length_take]; omega, fun h0 => ?_⟩, hl, (fun e => by cases e), .inr ⟨_, _, hx.1, by simp [lits]; omega⟩⟩
    obtain ⟨b, o, s⟩ := x
    obtain rfl : s = none := by simpa [Addr.add] using World.cell?_spot (hcell 0 (by omega))
    refine ⟨b, o, rfl, fun i hi => ?_⟩
    have hil : i < len := hi
    have hiz : i < zs.length := by omega
    have := hcell i (by omega)
    rw [add_plain] at this
    rw [this]
    simp [List.getD, hiz, hil]

theorem slice_of {H : Type} {enc : TypeId × Value → H} {W : World} {t e : TypeId} {k : Nat} {c : Value} {y : DataW H × List MemPlace} (ht : Tryd.prog.underlying t = some (.slice e)) (h : DataW.trod enc Tryd.prog W 0 (fun _ => true) true k t [c] = some y) :
    ∃ a l cp, c = .slice a l cp := by
  rcases open_slice ht h with ⟨h0, _⟩ | ⟨a, len, cap, _, _, _, _, h0, _⟩
  · simp only [List.cons.injEq, and_true] at h0
    exact ⟨_, _, _, h0⟩
  · simp only [List.cons.injEq, and_true] at h0
    exact ⟨_, _, _, h0⟩
theorem weightsAll_mem {H : Type} {P : Program} {e : TypeId} : ∀ {l : List (DataW H)} {d : DataW H}, d ∈ l → ∀ n ∈ d.weights P e, n ∈ DataW.weightsAll P e l
  | x :: r, d, hd, n, hn => by
    simp only [DataW.weightsAll, List.mem_append]
    rcases List.mem_cons.1 hd with rfl | hd
    · exact .inl hn
    · exact .inr (weightsAll_mem hd n hn)
  | [], _, hd, _, _ => by cases hd
theorem cut_at {α : Type} (l : List α) (a n b : Nat) (h : a + n = b) : l.drop a = (l.drop a).take n ++ l.drop b := by
  subst h
  rw [← List.drop_drop, List.take_append_drop]
theorem one_at {α : Type} (l : List α) (k : Nat) (h : k < l.length) : (l.drop k).take 1 = [l[k]] := by
  rw [List.drop_eq_getElem_cons h, List.take_succ_cons, List.take_zero]
set_option maxRecDepth 100000 in
theorem one_op {H : Type} {enc : TypeId × Value → H} {W : World} {a : Addr} {cs : List Value} {n : Nat} {y : DataW H × List MemPlace}
    (hc : W.cells? 0 a 42 = some cs) (hd : DataW.trod enc Tryd.prog W 0 (fun _ => true) true n 73 cs = some y) (hw : ∀ k ∈ y.1.weights Tryd.prog 73, k ≤ reachBytes) :
    ∃ o : OpV, (∀ (j : Nat) v, o.val[j]? = some v → W.cell? (a.add j) = some v) ∧ OpIn W W.heap.size o := by
  obtain ⟨xs, k, _, hy, hl, hxl, hf⟩ := DataW.trod_struct Tryd.underlying73 hd
  rw [cells73] at hl
  have hs := World.cells?_some hc
  have hxl7 : xs.length = 7 := hxl
  match xs, hxl7 with
  | [y0, y1, y2, y3, y4, y5, y6], _ =>
    have g0 : DataW.trod enc Tryd.prog W 0 (fun _ => true) true k 3 ((cs.drop 0).take (Tryd.prog.cellsOf 3)) = some y0 := hf 0 _ rfl
    have g1 : DataW.trod enc Tryd.prog W 0 (fun _ => true) true k 3 ((cs.drop 1).take (Tryd.prog.cellsOf 3)) = some y1 := hf 1 _ rfl
    have g2 : DataW.trod enc Tryd.prog W 0 (fun _ => true) true k 23 ((cs.drop 2).take (Tryd.prog.cellsOf 23)) = some y2 := hf 2 _ rfl
    have g3 : DataW.trod enc Tryd.prog W 0 (fun _ => true) true k 24 ((cs.drop 34).take (Tryd.prog.cellsOf 24)) = some y3 := hf 3 _ rfl
    have g4 : DataW.trod enc Tryd.prog W 0 (fun _ => true) true k 71 ((cs.drop 35).take (Tryd.prog.cellsOf 71)) = some y4 := hf 4 _ rfl
    have g5 : DataW.trod enc Tryd.prog W 0 (fun _ => true) true k 39 ((cs.drop 36).take (Tryd.prog.cellsOf 39)) = some y5 := hf 5 _ rfl
    have g6 : DataW.trod enc Tryd.prog W 0 (fun _ => true) true k 4 ((cs.drop 41).take (Tryd.prog.cellsOf 4)) = some y6 := hf 6 _ rfl
    rw [cells3] at g0 g1
    rw [cellsV] at g2
    rw [cells24, one_at cs 34 (by omega)] at g3
    rw [cells71, one_at cs 35 (by omega)] at g4
    rw [cellsC] at g5
    rw [cells4] at g6
    obtain ⟨kd, e0, _, _⟩ := DataW.trod_int Tryd.underlying3 g0
    obtain ⟨b, e1, _, _⟩ := DataW.trod_int Tryd.underlying3 g1
    obtain ⟨v, e2, hv, hvb⟩ := openedV g2
    obtain ⟨pr, lr, cr, e3⟩ := slice_of Tryd.underlying24 g3
    obtain ⟨pk, lk, ck, e4⟩ := slice_of Tryd.underlying71 g4
    obtain ⟨a0, a1, a2, a3, a4, f0, f1, f2, f3, f4, _⟩ := openedC g5
    obtain ⟨od, e6, _⟩ := DataW.trod_bool Tryd.underlying4 g6
    have e5 : (cs.drop 36).take 5 = ccells ⟨a0, a1, a2, a3, a4, 0, 0⟩ := by
      have h5 : ((cs.drop 36).take 5).length = 5 := by simp; omega
      apply List.ext_getElem?
      intro i
      match i with
      | 0 => exact f0
      | 1 => exact f1
      | 2 => exact f2
      | 3 => exact f3
      | 4 => exact f4
      | j + 5 => rw [List.getElem?_eq_none (by omega), List.getElem?_eq_none (by rw [ccells_len]; omega)]
    rw [e3] at g3
    rw [e4] at g4
    obtain ⟨bs, hb, hlc, hpn, hdw⟩ := opened (d := y3.1) (p := y3.2) ⟨k, g3⟩
    obtain ⟨is, hi, hlk, hkn, hkw⟩ := openedI (d := y4.1) (p := y4.2) ⟨k, g4⟩
    simp only [List.map_cons, List.map_nil] at hy
    subst hy
    have w4 : ck * 8 ≤ reachBytes := by
      rcases hkw with rfl | ⟨el, sp, e, rfl⟩
      · exact Nat.zero_le _
      · have := hw ((el.length + sp.length) * Tryd.prog.bytesOf 3) (by
          simp only [DataW.weights, Tryd.underlying73]
          refine DataW.weights_mem_each (j := 4) (t := 71) rfl rfl _ ?_
          rw [e]
          simp [DataW.weights, Tryd.underlying71])
        rw [bytes3] at this
        exact this
    simp only [reachBytes] at w4
    have ecs : cs = ocells kd b v (.slice pr lr cr) (.slice pk lk ck) ⟨a0, a1, a2, a3, a4, 0, 0⟩ od := by
      have q41 : cs.drop 41 = [.bool od] := by rw [← e6, List.take_of_length_le (by simp; omega)]
      have q36 := cut_at cs 36 5 41 rfl
      have q35 := cut_at cs 35 1 36 rfl
      have q34 := cut_at cs 34 1 35 rfl
      have q2 := cut_at cs 2 32 34 rfl
      have q1 := cut_at cs 1 1 2 rfl
      have q0 := cut_at cs 0 1 1 rfl
      rw [one_at cs 35 (by omega), e4] at q35
      rw [one_at cs 34 (by omega), e3] at q34
      rw [e5, q41] at q36
      rw [q36] at q35
      rw [q35] at q34
      rw [e2, q34] at q2
      rw [e1, q2] at q1
      rw [e0, q1] at q0
      rw [List.drop_zero] at q0
      rw [q0]
      rfl
    refine ⟨⟨kd, b, v, pr, lr, cr, bs, pk, lk, ck, is, ⟨a0, a1, a2, a3, a4, 0, 0⟩, od⟩, fun j u hu => ?_, hv, hvb, hb, fun a ea h0 => by have ea' : pr = some a := ea; subst ea'; exact hb.lt h0, hi, fun a ea h0 => by have ea' : pk = some a := ea; subst ea'; exact hi.lt h0, by show lk ≤ _; omega⟩
    have hu' : cs[j]? = some u := by rw [ecs]; exact hu
    have hj : j < 42 := by have := (List.getElem?_eq_some_iff.1 hu').1; omega
    rw [hs.2.2 j hj]
    exact hu'
theorem openedS {H : Type} {enc : TypeId × Value → H} {W : World} {a : Option Addr} {len cap : Nat} {d : DataW H} {p : List MemPlace} (h : DataW.Trod enc Tryd.prog W 0 (fun _ => true) true 62 (.slice a len cap) d p) (hw : ∀ k ∈ d.weights Tryd.prog 62, k ≤ reachBytes) :
    ∃ os, ScIn W W.heap.size a len os ∧ len ≤ maxLen := by
  obtain ⟨fuel, hf⟩ := h
  rcases open_slice Tryd.underlying62 hf with ⟨hcs, _⟩ | ⟨x, l, c, m, n, D, Pl, hcs, _, hl, hm, hmm, hx, hcell⟩
  · simp [Value.cells] at hcs
    obtain ⟨rfl, rfl, rfl⟩ := hcs
    exact ⟨[], ⟨rfl, fun h => absurd h (Nat.lt_irrefl 0), fun i h => absurd h (Nat.not_lt_zero _)⟩, Nat.zero_le _⟩
  · simp [Value.cells] at hcs
    obtain ⟨rfl, rfl, rfl⟩ := hcs
    rw [cells73] at hcell
    simp only [Prod.mk.injEq] at hx
    have hlm : len ≤ m := by rw [hmm]; simpa using hl
    have each : ∀ i, i < len → ∃ o : OpV, (∀ (j : Nat) v, o.val[j]? = some v → W.cell? ((x.add (i * 42)).add j) = some v) ∧ OpIn W W.heap.size o := by
      intro i hi
      obtain ⟨cs', h1, h2⟩ := hcell i (by omega)
      refine one_op h1 h2 (fun k hk => hw k ?_)
      rw [hx.1]
      simp only [DataW.weights, Tryd.underlying62, List.mem_cons, List.mem_append]
      exact .inr (.inl (weightsAll_mem (List.mem_map.2 ⟨i, List.mem_range.2 hi, rfl⟩) k hk))
    have z : OpV := ⟨0, 0, [], none, 0, 0, [], none, 0, 0, [], sup0, false⟩
    refine ⟨(List.range len).map fun i => if h : i < len then (each i h).choose else z, ⟨by simp, fun h0 => ?_, fun i hi => ?_⟩, by omega⟩
    · obtain ⟨b, o, s⟩ := x
      have hc0 := (each 0 h0).choose_spec.1 0 _ rfl
      obtain rfl : s = none := by simpa [Addr.add] using World.cell?_spot hc0
      have e1 : ∀ i j, ((⟨b, o, none⟩ : Addr).add (i * 42)).add j = ⟨b, o + i * 42 + j, none⟩ := fun i j => by rw [add_plain]; exact add_plain _ _ _
      refine ⟨b, o, rfl, ?_, fun i hi j v hv => ?_⟩
      · rw [e1] at hc0
        exact World.block_lt_of_cell? W _ hc0
      · have hi' : i < len := by simpa using hi
        simp only [List.getElem_map, List.getElem_range, hi', dif_pos] at hv
        have := (each i hi').choose_spec.1 j v hv
        rw [e1] at this
        exact this
    · have hi' : i < len := by simpa using hi
      simp only [List.getElem_map, List.getElem_range, hi', dif_pos]
      exact (each i hi').choose_spec.2
end Go.Proofs.YtpenddnmmfpdjaaDoor
