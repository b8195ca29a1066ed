/-
  How a configuration and a []Tx that came in are opened.
-/
import Derived.Test.YtmcpjokbkkfgfaaDoorPa
import Derived.Test.YtmcpjokbkkfgfaaDoorIc
import Derived.Deep.Slices
namespace Go.Proofs.YtmcpjokbkkfgfaaDoor
open Go.ChangeShapes Go.WideShapes Go.ChangeAt Go.RowKit Go.Deep

theorem laidK : laidOutB Tryd.prog = true := by kernel_rfl
theorem cellsC : Tryd.prog.cellsOf 29 = 5 := by kernel_rfl
theorem cellsIs : Tryd.prog.cellsOf 59 = 1 := by kernel_rfl
theorem cellsU8 : Tryd.prog.cellsOf 5 = 1 := by kernel_rfl
theorem cellsTx : Tryd.prog.cellsOf 61 = 3 := by kernel_rfl
theorem bytesTx : Tryd.prog.bytesOf 61 = 40 := by kernel_rfl
theorem bytesI : Tryd.prog.bytesOf 3 = 8 := by kernel_rfl
theorem openedC {H : Type} {enc : TypeId × Value → H} {W : World} {l : List Value} {n : Nat} {y : DataW H × List MemPlace} (h : DataW.trod enc Tryd.prog W 0 (fun _ => true) true n 29 l = some y) :
    ∃ a0 a1 a2 a3 a4 : Int, l[0]? = some (.int .i64 a0) ∧ l[1]? = some (.int .i64 a1) ∧ l[2]? = some (.int .i64 a2) ∧ l[3]? = some (.int .i64 a3) ∧ l[4]? = some (.int .i64 a4) := by
  obtain ⟨xs, k, _, hy, _, hxl, hg⟩ := DataW.trod_struct Tryd.underlying29 h
  have hxl5 : xs.length = 5 := hxl
  have g0 : DataW.trod enc Tryd.prog W 0 (fun _ => true) true k 3 ((l.drop 0).take (Tryd.prog.cellsOf 3)) = xs[0]? := hg 0 _ rfl
  have g1 : DataW.trod enc Tryd.prog W 0 (fun _ => true) true k 3 ((l.drop 1).take (Tryd.prog.cellsOf 3)) = xs[1]? := hg 1 _ rfl
  have g2 : DataW.trod enc Tryd.prog W 0 (fun _ => true) true k 3 ((l.drop 2).take (Tryd.prog.cellsOf 3)) = xs[2]? := hg 2 _ rfl
  have g3 : DataW.trod enc Tryd.prog W 0 (fun _ => true) true k 3 ((l.drop 3).take (Tryd.prog.cellsOf 3)) = xs[3]? := hg 3 _ rfl
  have g4 : DataW.trod enc Tryd.prog W 0 (fun _ => true) true k 3 ((l.drop 4).take (Tryd.prog.cellsOf 3)) = xs[4]? := hg 4 _ rfl
  rw [cells3, List.getElem?_eq_getElem (by omega)] at g0 g1 g2 g3 g4
  obtain ⟨a0, e0, _, w0⟩ := DataW.trod_int Tryd.underlying3 g0
  obtain ⟨a1, e1, _, w1⟩ := DataW.trod_int Tryd.underlying3 g1
  obtain ⟨a2, e2, _, w2⟩ := DataW.trod_int Tryd.underlying3 g2
  obtain ⟨a3, e3, _, w3⟩ := DataW.trod_int Tryd.underlying3 g3
  obtain ⟨a4, e4, _, w4⟩ := DataW.trod_int Tryd.underlying3 g4
  exact ⟨a0, a1, a2, a3, a4, drop_one _ _ _ e0, drop_one _ _ _ e1, drop_one _ _ _ e2, drop_one _ _ _ e3, drop_one _ _ _ e4⟩
theorem openedCfg {H : Type} {enc : TypeId × Value → H} {W : World} {cs : Array Value} {d : DataW H} {p : List MemPlace} (hn : cs.size = 5) (h : DataW.Trod enc Tryd.prog W 0 (fun _ => true) true 29 (.agg cs) d p) :
    ∃ s : Sup, cs = (ccells s).toArray := by
  obtain ⟨fuel, hf⟩ := h
  obtain ⟨l⟩ := cs
  have hl : l.length = 5 := by simpa using hn
  have hf' : DataW.trod enc Tryd.prog W 0 (fun _ => true) true fuel 29 l = some (d, p) := by simpa [Value.cells] using hf
  obtain ⟨a0, a1, a2, a3, a4, f0, f1, f2, f3, f4⟩ := openedC hf'
  refine ⟨⟨a0, a1, a2, a3, a4, 0, 0⟩, ?_⟩
  congr 1
  apply List.ext_getElem?
  intro i
  match i with
  | 0 => exact f0
  | 1 => exact f1
  | 2 => exact f2
  | 3 => exact f3
  | 4 => exact f4
  | j + 5 => rw [List.getElem?_eq_none (by omega), List.getElem?_eq_none (by rw [ccells_len]; omega)]
theorem openedI {H : Type} {enc : TypeId × Value → H} {W : World} {a : Option Addr} {len cap : Nat} {d : DataW H} {p : List MemPlace} (h : DataW.Trod enc Tryd.prog W 0 (fun _ => true) true 59 (.slice a len cap) d p) :
    ∃ ss, IIn W .i64 a len ss ∧ len ≤ cap ∧ (cap = 0 ∨ ∃ elems spare, d = .slice elems spare ∧ elems.length + spare.length = cap) := by
  obtain ⟨fuel, hf⟩ := h
  rcases open_ints Tryd.underlying59 Tryd.underlying3 (by kernel_rfl) hf with ⟨hcs, _⟩ | ⟨x, l, c, zs, hcs, _, hl, hm, hz, hx, hcell, hwz⟩
  · simp [Value.cells] at hcs
    obtain ⟨rfl, rfl, rfl⟩ := hcs
    exact ⟨[], ⟨rfl, fun h => absurd h (Nat.lt_irrefl 0)⟩, Nat.le_refl _, .inl rfl⟩
  · simp [Value.cells] at hcs
    obtain ⟨rfl, rfl, rfl⟩ := hcs
    have hz' : zs.length = cap := by simpa using hz
    simp only [Prod.mk.injEq] at hx
    refine ⟨zs.take len, ⟨by rw [List.length_take]; omega, fun h0 => ?_⟩, hl, .inr ⟨_, _, hx.1, by simp [lits]; omega⟩⟩
    obtain ⟨b, o, s⟩ := x
    obtain rfl : s = none := by simpa [Addr.add] using World.cell?_spot (hcell 0 (by omega))
    refine ⟨b, o, rfl, fun i hi => ?_⟩
    have hil : i < len := by rw [List.length_take] at hi; omega
    have hiz : i < zs.length := by omega
    have := hcell i (by omega)
    rw [add_plain] at this
    rw [this]
    simp [List.getD, hiz]
theorem slice_of {H : Type} {enc : TypeId × Value → H} {W : World} {t e : TypeId} {k : Nat} {c : Value} {y : DataW H × List MemPlace} (ht : Tryd.prog.underlying t = some (.slice e)) (h : DataW.trod enc Tryd.prog W 0 (fun _ => true) true k t [c] = some y) :
    ∃ a l cp, c = .slice a l cp := by
  rcases open_slice ht h with ⟨h0, _⟩ | ⟨a, len, cap, _, _, _, _, h0, _⟩
  · simp only [List.cons.injEq, and_true] at h0
    exact ⟨_, _, _, h0⟩
  · simp only [List.cons.injEq, and_true] at h0
    exact ⟨_, _, _, h0⟩
theorem weightsAll_mem {H : Type} {P : Program} {e : TypeId} : ∀ {l : List (DataW H)} {d : DataW H}, d ∈ l → ∀ n ∈ d.weights P e, n ∈ DataW.weightsAll P e l
  | x :: r, d, hd, n, hn => by
    simp only [DataW.weightsAll, List.mem_append]
    rcases List.mem_cons.1 hd with rfl | hd
    · exact .inl hn
    · exact .inr (weightsAll_mem hd n hn)
  | [], _, hd, _, _ => by cases hd
theorem one_at {α : Type} (l : List α) (k : Nat) (h : k < l.length) : (l.drop k).take 1 = [l[k]] := by
  rw [List.drop_eq_getElem_cons h, List.take_succ_cons, List.take_zero]
abbrev TxOk (W : World) (t : TxV) : Prop := IIn W .i64 t.a t.n t.xs ∧ t.n ≤ 140737488355328 ∧ (0 ≤ t.f ∧ t.f < 256) ∧ i64 t.m
set_option maxRecDepth 100000 in
theorem one_tx {H : Type} {enc : TypeId × Value → H} {W : World} {a : Addr} {cs : List Value} {n : Nat} {y : DataW H × List MemPlace}
    (hc : W.cells? 0 a 3 = some cs) (hd : DataW.trod enc Tryd.prog W 0 (fun _ => true) true n 61 cs = some y) (hw : ∀ k ∈ y.1.weights Tryd.prog 61, k ≤ reachBytes) :
    ∃ t : TxV, (∀ (j : Nat) v, t.cells[j]? = some v → W.cell? (a.add j) = some v) ∧ TxOk W t := by
  obtain ⟨xs, k, _, hy, hl, hxl, hf⟩ := DataW.trod_struct Tryd.underlying61 hd
  rw [cellsTx] at hl
  have hs := World.cells?_some hc
  have hxl3 : xs.length = 3 := hxl
  match xs, hxl3 with
  | [y0, y1, y2], _ =>
    have g0 : DataW.trod enc Tryd.prog W 0 (fun _ => true) true k 59 ((cs.drop 0).take (Tryd.prog.cellsOf 59)) = some y0 := hf 0 _ rfl
    have g1 : DataW.trod enc Tryd.prog W 0 (fun _ => true) true k 5 ((cs.drop 1).take (Tryd.prog.cellsOf 5)) = some y1 := hf 1 _ rfl
    have g2 : DataW.trod enc Tryd.prog W 0 (fun _ => true) true k 3 ((cs.drop 2).take (Tryd.prog.cellsOf 3)) = some y2 := hf 2 _ rfl
    rw [cellsIs, one_at cs 0 (by omega)] at g0
    rw [cellsU8] at g1
    rw [cells3] at g2
    obtain ⟨pk, lk, ck, e0⟩ := slice_of Tryd.underlying59 g0
    obtain ⟨f, e1, _, wf1⟩ := DataW.trod_int Tryd.underlying5 g1
    obtain ⟨m, e2, _, wm2⟩ := DataW.trod_int Tryd.underlying3 g2
    rw [e0] at g0
    obtain ⟨is, hi, hlk, hkw⟩ := openedI (d := y0.1) (p := y0.2) ⟨k, g0⟩
    simp only [List.map_cons, List.map_nil] at hy
    subst hy
    have w4 : ck * 8 ≤ reachBytes := by
      rcases hkw with rfl | ⟨el, sp, e, rfl⟩
      · exact Nat.zero_le _
      · have := hw ((el.length + sp.length) * Tryd.prog.bytesOf 3) (by
          simp only [DataW.weights, Tryd.underlying61]
          refine DataW.weights_mem_each (j := 0) (t := 59) rfl rfl _ ?_
          rw [e]
          simp [DataW.weights, Tryd.underlying59])
        rw [bytesI] at this
        exact this
    simp only [reachBytes] at w4
    have c0 : cs[0]? = some (.slice pk lk ck) := by rw [List.getElem?_eq_getElem (by omega)]; rw [e0]
    have c1 := drop_one _ _ _ e1
    have c2 := drop_one _ _ _ e2
    have b1 := bounds_u8 wf1
    refine ⟨⟨pk, lk, ck, f, m, is⟩, fun j u hu => ?_, hi, by show lk ≤ _; omega, ⟨b1.1, by show f < 256; omega⟩, bounds_i64 wm2⟩
    have hj : j < 3 := (List.getElem?_eq_some_iff.1 hu).1
    rw [hs.2.2 j hj]
    match j, hj with
    | 0, _ => exact c0.trans hu
    | 1, _ => exact c1.trans hu
    | 2, _ => exact c2.trans hu
theorem openedS {H : Type} {enc : TypeId × Value → H} {W : World} {a : Option Addr} {len cap : Nat} {d : DataW H} {p : List MemPlace} (h : DataW.Trod enc Tryd.prog W 0 (fun _ => true) true 56 (.slice a len cap) d p) (hw : ∀ k ∈ d.weights Tryd.prog 56, k ≤ reachBytes) :
    ∃ ts, TsIn W a len ts ∧ len ≤ 140737488355328 := by
  obtain ⟨fuel, hf⟩ := h
  rcases open_slice Tryd.underlying56 hf with ⟨hcs, _⟩ | ⟨x, l, c, m, n, D, Pl, hcs, _, hl, hm, hmm, hx, hcell⟩
  · simp [Value.cells] at hcs
    obtain ⟨rfl, rfl, rfl⟩ := hcs
    exact ⟨[], ⟨rfl, fun h => absurd h (Nat.lt_irrefl 0), fun t h => by cases h⟩, Nat.zero_le _⟩
  · simp [Value.cells] at hcs
    obtain ⟨rfl, rfl, rfl⟩ := hcs
    rw [cellsTx] at hcell
    simp only [Prod.mk.injEq] at hx
    have hlm : len ≤ m := by rw [hmm]; simpa using hl
    have each : ∀ i, i < len → ∃ t : TxV, (∀ (j : Nat) v, t.cells[j]? = some v → W.cell? ((x.add (i * 3)).add j) = some v) ∧ TxOk W t := by
      intro i hi
      obtain ⟨cs', h1, h2⟩ := hcell i (by omega)
      refine one_tx h1 h2 (fun k hk => hw k ?_)
      rw [hx.1]
      simp only [DataW.weights, Tryd.underlying56, List.mem_cons, List.mem_append]
      exact .inr (.inl (weightsAll_mem (List.mem_map.2 ⟨i, List.mem_range.2 hi, rfl⟩) k hk))
    have hlb : len ≤ 140737488355328 := by
      rw [hx.1] at hw
      simp only [DataW.weights, Tryd.underlying56] at hw
      have h1 := hw _ List.mem_cons_self
      rw [bytesTx] at h1
      simp only [List.length_map, List.length_range, reachBytes] at h1
      omega
    have z : TxV := ⟨none, 0, 0, 0, 0, []⟩
    refine ⟨(List.range len).map fun i => if h : i < len then (each i h).choose else z, ⟨by simp, fun h0 => ?_, fun t ht => ?_⟩, hlb⟩
    · obtain ⟨b, o, s⟩ := x
      have hc0 := (each 0 h0).choose_spec.1 0 _ rfl
      obtain rfl : s = none := by simpa [Addr.add] using World.cell?_spot hc0
      have e1 : ∀ i j, ((⟨b, o, none⟩ : Addr).add (i * 3)).add j = ⟨b, o + i * 3 + j, none⟩ := fun i j => by rw [add_plain]; exact add_plain _ _ _
      refine ⟨b, o, rfl, ?_, fun i t ht j v hv => ?_⟩
      · rw [e1] at hc0
        exact World.block_lt_of_cell? W _ hc0
      · have hi' : i < len := by have := (List.getElem?_eq_some_iff.1 ht).1; simpa using this
        rw [List.getElem?_map, List.getElem?_range hi'] at ht
        simp only [Option.map_some, hi', dif_pos, Option.some.injEq] at ht
        subst ht
        have := (each i hi').choose_spec.1 j v hv
        rw [e1] at this
        exact this
    · obtain ⟨i, hi, rfl⟩ := List.mem_map.1 ht
      have hi' : i < len := List.mem_range.1 hi
      simp only [hi', dif_pos]
      exact (each i hi').choose_spec.2
end Go.Proofs.YtmcpjokbkkfgfaaDoor
