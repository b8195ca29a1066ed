import Derived.Test.YtdadpepfpiimgaaGreatDoorY23
set_option maxHeartbeats 20000000
set_option maxRecDepth 100000
namespace Go.Proofs.YtdadpepfpiimgaaGreatDoor.Q
open Go.RowKit
open Go.ChangeShapes Go.WideShapes Go.ChangeAt Go.Deep
theorem laidK : laidOutB Tryz.prog = true := by kernel_rfl
theorem cellsC : Tryz.prog.cellsOf 23 = 5 := by kernel_rfl
theorem cellsBs : Tryz.prog.cellsOf 27 = 1 := by kernel_rfl
theorem cellsSc : Tryz.prog.cellsOf 96 = 2 := by kernel_rfl
theorem cellsScs : Tryz.prog.cellsOf 24 = 1 := by kernel_rfl
theorem cellsDk : Tryz.prog.cellsOf 26 = 7 := by kernel_rfl
theorem bytesSc : Tryz.prog.bytesOf 96 = 32 := by kernel_rfl
theorem bytes5 : Tryz.prog.bytesOf 5 = 1 := by kernel_rfl
theorem openedC {H : Type} {enc : TypeId × Value → H} {W : World} {l : List Value} {n : Nat} {y : DataW H × List MemPlace} (h : DataW.trod enc Tryz.prog W 0 (fun _ => true) true n 23 l = some y) :
    ∃ a0 a1 a2 a3 a4 : Int, l[0]? = some (.int .i64 a0) ∧ l[1]? = some (.int .i64 a1) ∧ l[2]? = some (.int .i64 a2) ∧ l[3]? = some (.int .i64 a3) ∧ l[4]? = some (.int .i64 a4) := by
  obtain ⟨xs, k, _, hy, _, hxl, hg⟩ := DataW.trod_struct Tryz.underlying23 h
  have hxl5 : xs.length = 5 := hxl
  have g0 : DataW.trod enc Tryz.prog W 0 (fun _ => true) true k 3 ((l.drop 0).take (Tryz.prog.cellsOf 3)) = xs[0]? := hg 0 _ rfl
  have g1 : DataW.trod enc Tryz.prog W 0 (fun _ => true) true k 3 ((l.drop 1).take (Tryz.prog.cellsOf 3)) = xs[1]? := hg 1 _ rfl
  have g2 : DataW.trod enc Tryz.prog W 0 (fun _ => true) true k 3 ((l.drop 2).take (Tryz.prog.cellsOf 3)) = xs[2]? := hg 2 _ rfl
  have g3 : DataW.trod enc Tryz.prog W 0 (fun _ => true) true k 3 ((l.drop 3).take (Tryz.prog.cellsOf 3)) = xs[3]? := hg 3 _ rfl
  have g4 : DataW.trod enc Tryz.prog W 0 (fun _ => true) true k 3 ((l.drop 4).take (Tryz.prog.cellsOf 3)) = xs[4]? := hg 4 _ rfl
  rw [cells3, List.getElem?_eq_getElem (by omega)] at g0 g1 g2 g3 g4
  obtain ⟨a0, e0, _, w0⟩ := DataW.trod_int Tryz.underlying3 g0
  obtain ⟨a1, e1, _, w1⟩ := DataW.trod_int Tryz.underlying3 g1
  obtain ⟨a2, e2, _, w2⟩ := DataW.trod_int Tryz.underlying3 g2
  obtain ⟨a3, e3, _, w3⟩ := DataW.trod_int Tryz.underlying3 g3
  obtain ⟨a4, e4, _, w4⟩ := DataW.trod_int Tryz.underlying3 g4
  exact ⟨a0, a1, a2, a3, a4, drop_one _ _ _ e0, drop_one _ _ _ e1, drop_one _ _ _ e2, drop_one _ _ _ e3, drop_one _ _ _ e4⟩
theorem openedB {H : Type} {enc : TypeId × Value → H} {W : World} {a : Option Addr} {len cap : Nat} {d : DataW H} {p : List MemPlace} (h : DataW.Trod enc Tryz.prog W 0 (fun _ => true) true 27 (.slice a len cap) d p) (hw : ∀ k ∈ d.weights Tryz.prog 27, k ≤ reachBytes) :
    ∃ ss, BIn W a len ss ∧ len ≤ cap ∧ (a = none → len = 0 ∧ cap = 0) ∧ len + 64 ≤ 140737488355328 := by
  obtain ⟨fuel, hf⟩ := h
  rcases open_ints Tryz.underlying27 Tryz.underlying5 (by kernel_rfl) hf with ⟨hcs, _⟩ | ⟨x, l, c, zs, hcs, _, hl, hm, hz, hx, hcell, hwz⟩
  · simp [Value.cells] at hcs
    obtain ⟨rfl, rfl, rfl⟩ := hcs
    exact ⟨[], ⟨rfl, (fun x hx => by cases hx), fun h => absurd h (Nat.lt_irrefl 0)⟩, Nat.le_refl _, fun _ => ⟨rfl, rfl⟩, by omega⟩
  · simp [Value.cells] at hcs
    obtain ⟨rfl, rfl, rfl⟩ := hcs
    have hz' : zs.length = cap := by simpa using hz
    simp only [Prod.mk.injEq] at hx
    have w5 : cap * 1 ≤ reachBytes := by
      have := hw (zs.length * Tryz.prog.bytesOf 5) (by rw [hx.1]; simp [DataW.weights, Tryz.underlying27, lits]; left; congr 1; omega)
      rw [bytes5, hz'] at this
      exact this
    simp only [reachBytes] at w5
    refine ⟨zs.take len, ⟨by rw [List.length_take]; omega, fun x hx => by have := bounds_u8 (hwz x (List.mem_of_mem_take hx)); omega, fun h0 => ?_⟩, hl, fun e => (by cases e), by omega⟩
    obtain ⟨b, o, s⟩ := x
    obtain rfl : s = none := by simpa [Addr.add] using World.cell?_spot (hcell 0 (by omega))
    refine ⟨b, o, rfl, fun i hi => ?_⟩
    have hil : i < len := hi
    have hiz : i < zs.length := by omega
    have := hcell i (by omega)
    rw [add_plain] at this
    rw [this]
    rw [List.getD, List.getD, List.getElem?_take, if_pos hil]
theorem slice_of {H : Type} {enc : TypeId × Value → H} {W : World} {t e : TypeId} {k : Nat} {c : Value} {y : DataW H × List MemPlace} (ht : Tryz.prog.underlying t = some (.slice e)) (h : DataW.trod enc Tryz.prog W 0 (fun _ => true) true k t [c] = some y) :
    ∃ a l cp, c = .slice a l cp := by
  rcases open_slice ht h with ⟨h0, _⟩ | ⟨a, len, cap, _, _, _, _, h0, _⟩
  · simp only [List.cons.injEq, and_true] at h0
    exact ⟨_, _, _, h0⟩
  · simp only [List.cons.injEq, and_true] at h0
    exact ⟨_, _, _, h0⟩
theorem weightsAll_mem {H : Type} {P : Program} {e : TypeId} : ∀ {l : List (DataW H)} {d : DataW H}, d ∈ l → ∀ n ∈ d.weights P e, n ∈ DataW.weightsAll P e l
  | x :: r, d, hd, n, hn => by
    simp only [DataW.weightsAll, List.mem_append]
    rcases List.mem_cons.1 hd with rfl | hd
    · exact .inl hn
    · exact .inr (weightsAll_mem hd n hn)
  | [], _, hd, _, _ => by cases hd
theorem one_cell {α : Type} (l : List α) (k : Nat) (h : k < l.length) : (l.drop k).take 1 = [l[k]] := by
  rw [List.drop_eq_getElem_cons h, List.take_succ_cons, List.take_zero]
theorem one_sec {H : Type} {enc : TypeId × Value → H} {W : World} {cs : List Value} {n : Nat} {y : DataW H × List MemPlace} (hd : DataW.trod enc Tryz.prog W 0 (fun _ => true) true n 96 cs = some y) (hw : ∀ k ∈ y.1.weights Tryz.prog 96, k ≤ reachBytes) : ∃ t : LW, cs = [.int .i64 t.s, .slice t.q t.n t.c] ∧ BIn W t.q t.n t.b ∧ (t.q = none → t.n = 0 ∧ t.c = 0) ∧ t.n + 64 ≤ 140737488355328 := by
  obtain ⟨xs, k, _, hy, hl, hxl, hf⟩ := DataW.trod_struct Tryz.underlying96 hd
  rw [cellsSc] at hl
  have hxl2 : xs.length = 2 := hxl
  match xs, hxl2 with
  | [y0, y1], _ =>
    have g0 : DataW.trod enc Tryz.prog W 0 (fun _ => true) true k 3 ((cs.drop 0).take (Tryz.prog.cellsOf 3)) = some y0 := hf 0 _ rfl
    have g1 : DataW.trod enc Tryz.prog W 0 (fun _ => true) true k 27 ((cs.drop 1).take (Tryz.prog.cellsOf 27)) = some y1 := hf 1 _ rfl
    rw [cells3] at g0
    rw [cellsBs, one_cell cs 1 (by omega)] at g1
    obtain ⟨s, e0, _, w0⟩ := DataW.trod_int Tryz.underlying3 g0
    obtain ⟨q, len, c, e1⟩ := slice_of Tryz.underlying27 g1
    rw [e1] at g1
    simp only [List.map_cons, List.map_nil] at hy
    obtain ⟨bs, hb, _, hn, hl64⟩ := openedB (d := y1.1) (p := y1.2) ⟨k, g1⟩ (fun j hj => hw j (by
      rw [hy]
      simp only [DataW.weights, Tryz.underlying96]
      exact DataW.weights_mem_each (j := 1) (t := 27) rfl rfl _ hj))
    refine ⟨⟨s, q, len, c, bs⟩, ?_, hb, hn, hl64⟩
    have h1 : cs.take 1 = [.int .i64 s] := e0
    have h2 : cs.drop 1 = [.slice q len c] := by rw [← e1, ← one_cell cs 1 (by omega), List.take_of_length_le (by rw [List.length_drop]; omega)]
    rw [← List.take_append_drop 1 cs, h1, h2]; rfl
theorem openedSecs {H : Type} {enc : TypeId × Value → H} {W : World} {a : Option Addr} {len cap : Nat} {d : DataW H} {p : List MemPlace} (h : DataW.Trod enc Tryz.prog W 0 (fun _ => true) true 24 (.slice a len cap) d p) (hw : ∀ k ∈ d.weights Tryz.prog 24, k ≤ reachBytes) :
    ∃ l, SIn W a len l ∧ len ≤ 140737488355328 := by
  obtain ⟨fuel, hf⟩ := h
  rcases open_slice Tryz.underlying24 hf with ⟨hcs, _⟩ | ⟨x, l, c, m, n, D, Pl, hcs, _, hl, hm, hmm, hx, hcell⟩
  · simp [Value.cells] at hcs
    obtain ⟨rfl, rfl, rfl⟩ := hcs
    exact ⟨[], ⟨⟨rfl, fun h => absurd h (Nat.lt_irrefl 0)⟩, fun t h => (by cases h), fun t h => (by cases h)⟩, Nat.zero_le _⟩
  · simp [Value.cells] at hcs
    obtain ⟨rfl, rfl, rfl⟩ := hcs
    rw [cellsSc] at hcell
    simp only [Prod.mk.injEq] at hx
    have hlm : len ≤ m := by rw [hmm]; simpa using hl
    have each : ∀ i, i < len → ∃ t : LW, (∀ (j : Nat) v, [Value.int .i64 t.s, .slice t.q t.n t.c][j]? = some v → W.cell? ((x.add (i * 2)).add j) = some v) ∧ BIn W t.q t.n t.b ∧ (t.q = none → t.n = 0 ∧ t.c = 0) ∧ t.n + 64 ≤ 140737488355328 := by
      intro i hi
      obtain ⟨cs', h1, h2⟩ := hcell i (by omega)
      obtain ⟨t, rfl, ht⟩ := one_sec h2 (fun k hk => hw k (by
        rw [hx.1]
        simp only [DataW.weights, Tryz.underlying24, List.mem_cons, List.mem_append]
        exact .inr (.inl (weightsAll_mem (List.mem_map.2 ⟨i, List.mem_range.2 hi, rfl⟩) k hk))))
      refine ⟨t, fun j v hv => ?_, ht⟩
      have hs := World.cells?_some h1
      have hj : j < 2 := (List.getElem?_eq_some_iff.1 hv).1
      rw [hs.2.2 j hj]; exact hv
    have hlb : len ≤ 140737488355328 := by
      rw [hx.1] at hw
      simp only [DataW.weights, Tryz.underlying24] at hw
      have h1 := hw _ List.mem_cons_self
      rw [bytesSc] at h1
      simp only [List.length_map, List.length_range, reachBytes] at h1
      omega
    refine ⟨(List.range len).map fun i => if h : i < len then (each i h).choose else ⟨0, none, 0, 0, []⟩, ⟨⟨by simp, fun h0 => ?_⟩, fun t ht => ?_, fun t ht => ?_⟩, hlb⟩
    · obtain ⟨b, o, s⟩ := x
      have hc0 := (each 0 h0).choose_spec.1 0 _ rfl
      obtain rfl : s = none := by simpa [Addr.add] using World.cell?_spot hc0
      have e1 : ∀ i j, ((⟨b, o, none⟩ : Addr).add (i * 2)).add j = ⟨b, o + i * 2 + j, none⟩ := fun i j => by rw [add_plain]; exact add_plain _ _ _
      refine ⟨b, o, rfl, fun k t ht => ?_⟩
      have hk' : k < len := by have := (List.getElem?_eq_some_iff.1 ht).1; simpa using this
      rw [List.getElem?_map, List.getElem?_range hk'] at ht
      simp only [Option.map_some, hk', dif_pos, Option.some.injEq] at ht
      subst ht
      have h2 := (each k hk').choose_spec
      have a0 := h2.1 0 _ rfl
      have a1 := h2.1 1 _ rfl
      rw [e1] at a0 a1
      exact ⟨a0, a1, h2.2.1⟩
    · obtain ⟨i, hi, rfl⟩ := List.mem_map.1 ht
      have hi' := List.mem_range.1 hi
      simp only [hi', dif_pos]
      exact (each i hi').choose_spec.2.2.1
    · obtain ⟨i, hi, rfl⟩ := List.mem_map.1 ht
      have hi' := List.mem_range.1 hi
      simp only [hi', dif_pos]
      exact (each i hi').choose_spec.2.2.2
theorem take_five {α : Type} {l : List α} {i : Nat} {v : α} (h : ((l.drop 0).take 5)[i]? = some v) : l[i]? = some v := by
  rw [List.drop_zero, List.getElem?_take] at h
  split at h
  · exact h
  · cases h
theorem openedDisk {H : Type} {enc : TypeId × Value → H} {W : World} {cs : Array Value} {d : DataW H} {p : List MemPlace} (hn : cs.size = 7) (h : DataW.Trod enc Tryz.prog W 0 (fun _ => true) true 26 (.agg cs) d p) (hw : ∀ k ∈ d.weights Tryz.prog 26, k ≤ reachBytes) :
    ∃ c more a m cp l, cs = (hcl c more a m cp).toArray ∧ SIn W a m l ∧ m ≤ 140737488355328 := by
  obtain ⟨fuel, hf⟩ := h
  obtain ⟨l⟩ := cs
  have hl : l.length = 7 := by simpa using hn
  have hf' : DataW.trod enc Tryz.prog W 0 (fun _ => true) true fuel 26 l = some (d, p) := by simpa [Value.cells] using hf
  obtain ⟨xs, k, _, hy, _, hxl, hg⟩ := DataW.trod_struct Tryz.underlying26 hf'
  have hxl3 : xs.length = 3 := hxl
  match xs, hxl3 with
  | [y0, y1, y2], _ =>
    have g0 : DataW.trod enc Tryz.prog W 0 (fun _ => true) true k 23 ((l.drop 0).take (Tryz.prog.cellsOf 23)) = some y0 := hg 0 _ rfl
    have g1 : DataW.trod enc Tryz.prog W 0 (fun _ => true) true k 3 ((l.drop 5).take (Tryz.prog.cellsOf 3)) = some y1 := hg 1 _ rfl
    have g2 : DataW.trod enc Tryz.prog W 0 (fun _ => true) true k 24 ((l.drop 6).take (Tryz.prog.cellsOf 24)) = some y2 := hg 2 _ rfl
    rw [cellsC] at g0
    rw [cells3] at g1
    rw [cellsScs, one_cell l 6 (by omega)] at g2
    obtain ⟨a0, a1, a2, a3, a4, f0, f1, f2, f3, f4⟩ := openedC g0
    obtain ⟨mo, e1, _, w1⟩ := DataW.trod_int Tryz.underlying3 g1
    obtain ⟨ps, n, c, e2⟩ := slice_of Tryz.underlying24 g2
    rw [e2] at g2
    simp only [List.map_cons, List.map_nil, Prod.mk.injEq] at hy
    obtain ⟨rfl, _⟩ := hy
    obtain ⟨sl, hs, hlen⟩ := openedSecs (d := y2.1) (p := y2.2) ⟨k, g2⟩ (fun j hj => hw j (by
      simp only [DataW.weights, Tryz.underlying26]
      exact DataW.weights_mem_each (j := 2) (t := 24) rfl rfl _ hj))
    refine ⟨⟨a0, a1, a2, a3, a4, 0, 0⟩, mo, ps, n, c, sl, ?_, hs, hlen⟩
    congr 1
    apply List.ext_getElem?
    intro i
    match i with
    | 0 => exact take_five f0
    | 1 => exact take_five f1
    | 2 => exact take_five f2
    | 3 => exact take_five f3
    | 4 => exact take_five f4
    | 5 => exact drop_one _ _ _ e1
    | 6 => rw [List.getElem?_eq_getElem (by omega), e2]; rfl
    | j + 7 => rw [List.getElem?_eq_none (by omega)]; rfl
end Go.Proofs.YtdadpepfpiimgaaGreatDoor.Q
