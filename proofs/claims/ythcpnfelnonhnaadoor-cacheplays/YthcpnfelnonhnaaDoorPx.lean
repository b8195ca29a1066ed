/-
  How a script that came in is opened.
-/
import Derived.Test.YthcpnfelnonhnaaDoorTj
import Derived.Test.YthcpnfelnonhnaaDoorRows
import Derived.ProofKit
import Derived.OpenShut
import Derived.ShutString
import Derived.ChangeOld
import Derived.Below
import Derived.SizedLaws
import Derived.Deep.Slices
namespace Go.Proofs.YthcpnfelnonhnaaDoor
open Go.RowKit

open Go.ChangeShapes Go.WideShapes Go.ChangeAt Go.Deep
theorem ownK : ownKnob Tryd.prog.godebug = none := by kernel_rfl
theorem laidK : laidOutB Tryd.prog = true := by kernel_rfl
theorem cells3' : Tryd.prog.cellsOf 3 = 1 := by kernel_rfl
theorem cellsU8 : Tryd.prog.cellsOf 5 = 1 := by kernel_rfl
theorem cellsU64 : Tryd.prog.cellsOf 44 = 1 := by kernel_rfl
theorem cellsVl : Tryd.prog.cellsOf 52 = 32 := by kernel_rfl
theorem cellsIm : Tryd.prog.cellsOf 55 = 33 := by kernel_rfl
theorem cellsRe : Tryd.prog.cellsOf 75 = 34 := by kernel_rfl
theorem cellsEn : Tryd.prog.cellsOf 57 = 34 := by kernel_rfl
theorem cellsIs : Tryd.prog.cellsOf 45 = 1 := by kernel_rfl
theorem cellsRs : Tryd.prog.cellsOf 46 = 1 := by kernel_rfl
theorem cellsOp : Tryd.prog.cellsOf 48 = 6 := by kernel_rfl
theorem bytesIm : Tryd.prog.bytesOf 55 = 40 := by kernel_rfl
theorem bytesRe : Tryd.prog.bytesOf 75 = 48 := by kernel_rfl
theorem bytesOp : Tryd.prog.bytesOf 48 = 80 := by kernel_rfl
theorem drop_one {α : Type} (l : List α) (i : Nat) (v : α) (h : (l.drop i).take 1 = [v]) : l[i]? = some v := by
  have e : ((l.drop i).take 1)[0]? = some v := by rw [h]; rfl
  rw [List.getElem?_take, if_pos (by omega), List.getElem?_drop] at e
  exact e
theorem slice_of {H : Type} {enc : TypeId × Value → H} {W : World} {t e : TypeId} {k : Nat} {c : Value} {y : DataW H × List MemPlace} (ht : Tryd.prog.underlying t = some (.slice e)) (h : DataW.trod enc Tryd.prog W 0 (fun _ => true) true k t [c] = some y) :
    ∃ a l cp, c = .slice a l cp := by
  rcases open_slice ht h with ⟨h0, _⟩ | ⟨a, len, cap, _, _, _, _, h0, _⟩
  · simp only [List.cons.injEq, and_true] at h0
    exact ⟨_, _, _, h0⟩
  · simp only [List.cons.injEq, and_true] at h0
    exact ⟨_, _, _, h0⟩
theorem weightsAll_mem {H : Type} {P : Program} {e : TypeId} : ∀ {l : List (DataW H)} {d : DataW H}, d ∈ l → ∀ n ∈ d.weights P e, n ∈ DataW.weightsAll P e l
  | x :: r, d, hd, n, hn => by
    simp only [DataW.weightsAll, List.mem_append]
    rcases List.mem_cons.1 hd with rfl | hd
    · exact .inl hn
    · exact .inr (weightsAll_mem hd n hn)
  | [], _, hd, _, _ => by cases hd
def numOf : Value → Int | .int _ n => n | _ => 0
theorem openedV {H : Type} {enc : TypeId × Value → H} {W : World} {cs : List Value} {n : Nat} {y : DataW H × List MemPlace} (h : DataW.trod enc Tryd.prog W 0 (fun _ => true) true n 52 cs = some y) :
    ∃ xs, cs = U8 xs ∧ xs.length = 32 ∧ Bytes xs := by
  obtain ⟨ys, m, _, _, hl, hyl, hf⟩ := DataW.trod_array Tryd.underlying52 h
  rw [cellsVl] at hl
  have hg : ∀ i, i < 32 → ∃ x, cs[i]? = some (.int .u8 x) ∧ 0 ≤ x ∧ x ≤ 255 := by
    intro i hi
    have g := hf i hi
    rw [cellsU8, Nat.mul_one, List.getElem?_eq_getElem (by omega)] at g
    obtain ⟨x, e, _, hw⟩ := DataW.trod_int Tryd.underlying5 g
    exact ⟨x, drop_one _ _ _ e, bounds_u8 hw⟩
  refine ⟨cs.map numOf, ?_, by simp [hl], ?_⟩
  · apply List.ext_getElem?
    intro i
    by_cases hi : i < 32
    · obtain ⟨x, e, _⟩ := hg i hi
      simp [e, numOf]
    · rw [List.getElem?_eq_none (by omega), List.getElem?_eq_none (by simp; omega)]
  · intro x hx
    obtain ⟨v, hv, rfl⟩ := List.mem_map.1 hx
    obtain ⟨i, hi, rfl⟩ := List.getElem_of_mem hv
    obtain ⟨x, e, h0, h1⟩ := hg i (by omega)
    rw [List.getElem?_eq_getElem hi] at e
    have := Option.some.inj e
    rw [this]
    simp only [numOf]
    omega
theorem one_im {H : Type} {enc : TypeId × Value → H} {W : World} {cs : List Value} {n : Nat} {y : DataW H × List MemPlace} (hd : DataW.trod enc Tryd.prog W 0 (fun _ => true) true n 55 cs = some y) : ∃ i : Im, cs = icells i ∧ i.Wf := by
  obtain ⟨xs, k, _, hy, hl, hxl, hf⟩ := DataW.trod_struct Tryd.underlying55 hd
  rw [cellsIm] at hl
  have hxl2 : xs.length = 2 := hxl
  match xs, hxl2 with
  | [y0, y1], _ =>
    have g0 : DataW.trod enc Tryd.prog W 0 (fun _ => true) true k 3 ((cs.drop 0).take (Tryd.prog.cellsOf 3)) = some y0 := hf 0 _ rfl
    have g1 : DataW.trod enc Tryd.prog W 0 (fun _ => true) true k 52 ((cs.drop 1).take (Tryd.prog.cellsOf 52)) = some y1 := hf 1 _ rfl
    rw [cells3'] at g0
    rw [cellsVl] at g1
    obtain ⟨b, e0, _, w0⟩ := DataW.trod_int Tryd.underlying3 g0
    obtain ⟨v, e1, hv, hvb⟩ := openedV g1
    refine ⟨⟨b, v⟩, ?_, ⟨bounds_i64 w0, hv, hvb⟩⟩
    have h1 : cs.take 1 = [.int .i64 b] := e0
    have h2 : cs.drop 1 = U8 v := by rw [← e1, List.take_of_length_le (by rw [List.length_drop]; omega)]
    rw [← List.take_append_drop 1 cs, h1, h2]; rfl
theorem one_re {H : Type} {enc : TypeId × Value → H} {W : World} {cs : List Value} {n : Nat} {y : DataW H × List MemPlace} (hd : DataW.trod enc Tryd.prog W 0 (fun _ => true) true n 75 cs = some y) : ∃ i : En, cs = ecells i ∧ i.Wf := by
  obtain ⟨xs, k, _, hy, hl, hxl, hf⟩ := DataW.trod_struct Tryd.underlying75 hd
  rw [cellsRe] at hl
  have hxl2 : xs.length = 3 := hxl
  match xs, hxl2 with
  | [y0, y1, y2], _ =>
    have g0 : DataW.trod enc Tryd.prog W 0 (fun _ => true) true k 3 ((cs.drop 0).take (Tryd.prog.cellsOf 3)) = some y0 := hf 0 _ rfl
    have g1 : DataW.trod enc Tryd.prog W 0 (fun _ => true) true k 52 ((cs.drop 1).take (Tryd.prog.cellsOf 52)) = some y1 := hf 1 _ rfl
    have g2 : DataW.trod enc Tryd.prog W 0 (fun _ => true) true k 44 ((cs.drop 33).take (Tryd.prog.cellsOf 44)) = some y2 := hf 2 _ rfl
    rw [cells3'] at g0
    rw [cellsVl] at g1
    rw [cellsU64] at g2
    obtain ⟨b, e0, _, w0⟩ := DataW.trod_int Tryd.underlying3 g0
    obtain ⟨v, e1, hv, hvb⟩ := openedV g1
    obtain ⟨p, e2, _, w2⟩ := DataW.trod_int Tryd.underlying44 g2
    have bp := bounds_u64 w2
    refine ⟨⟨b, v, p⟩, ?_, ⟨bounds_i64 w0, hv, hvb, by show 0 ≤ p; omega, by show p < _; omega⟩⟩
    have h1 : cs.take 1 = [.int .i64 b] := e0
    have h2 : cs.drop 1 = (cs.drop 1).take 32 ++ cs.drop 33 := by rw [show cs.drop 33 = (cs.drop 1).drop 32 by rw [List.drop_drop], List.take_append_drop]
    have h3 : cs.drop 33 = [.int .u64 p] := by rw [← e2, List.take_of_length_le (by rw [List.length_drop]; omega)]
    rw [← List.take_append_drop 1 cs, h1, h2, e1, h3]; rfl
theorem openedIms {H : Type} {enc : TypeId × Value → H} {W : World} {fuel : Nat} {a : Option Addr} {len cap : Nat} {y : DataW H × List MemPlace} (hf : DataW.trod enc Tryd.prog W 0 (fun _ => true) true fuel 45 [.slice a len cap] = some y) (hw : ∀ k ∈ y.1.weights Tryd.prog 45, k ≤ reachBytes) :
    ∃ l, MIn W a len l ∧ len * 40 ≤ 140737488351232 := by
  rcases open_slice Tryd.underlying45 hf with ⟨hcs, _⟩ | ⟨x, l, c, m, n, D, Pl, hcs, _, hl, hm, hmm, hx, hcell⟩
  · simp only [List.cons.injEq, Value.slice.injEq, and_true] at hcs
    obtain ⟨rfl, rfl, rfl⟩ := hcs
    exact ⟨[], MIn.nil _ _, by omega⟩
  · simp only [List.cons.injEq, Value.slice.injEq, and_true] at hcs
    obtain ⟨rfl, rfl, rfl⟩ := hcs
    rw [cellsIm] at hcell
    have hlm : len ≤ m := by rw [hmm]; simpa using hl
    have hsz : len * 40 ≤ 140737488351232 := by
      have := hw (cap * 40) (by
        rw [hx]
        simp only [DataW.weights, Tryd.underlying45, List.mem_cons]
        left
        rw [bytesIm]
        simp [hmm]
        omega)
      simp only [reachBytes] at this
      omega
    have each : ∀ i, i < len → ∃ t : Im, (∀ (j : Nat) v, (icells t)[j]? = some v → W.cell? ((x.add (i * 33)).add j) = some v) ∧ t.Wf := by
      intro i hi
      obtain ⟨cs', h1, h2⟩ := hcell i (by omega)
      obtain ⟨t, rfl, ht⟩ := one_im h2
      refine ⟨t, fun j v hv => ?_, ht⟩
      have hs := World.cells?_some h1
      have hj : j < 33 := by have := (List.getElem?_eq_some_iff.1 hv).1; rw [icells_len ht.len] at this; exact this
      rw [hs.2.2 j hj]; exact hv
    have wf : ImsWf ((List.range len).map fun i => if h : i < len then (each i h).choose else im0) := by
      intro t ht
      obtain ⟨i, hi, rfl⟩ := List.mem_map.1 ht
      have hi' : i < len := List.mem_range.1 hi
      simp only [hi', dif_pos]
      exact (each i hi').choose_spec.2
    refine ⟨(List.range len).map fun i => if h : i < len then (each i h).choose else im0, ⟨by simp, wf, fun h0 => ?_⟩, hsz⟩
    · obtain ⟨b, o, s⟩ := x
      have hc0 := (each 0 h0).choose_spec.1 0 _ rfl
      obtain rfl : s = none := by simpa [Addr.add] using World.cell?_spot hc0
      have e1 : ∀ i j, ((⟨b, o, none⟩ : Addr).add (i * 33)).add j = ⟨b, o + i * 33 + j, none⟩ := fun i j => by rw [add_plain]; exact add_plain _ _ _
      refine ⟨b, o, rfl, fun j v hv => ?_⟩
      have hjl := (List.getElem?_eq_some_iff.1 hv).1
      rw [IC_len wf, List.length_map, List.length_range] at hjl
      have hi' : j / 33 < len := by omega
      have hk : ((List.range len).map fun i => if h : i < len then (each i h).choose else im0)[j / 33]? = some (each (j / 33) hi').choose := by
        rw [List.getElem?_map, List.getElem?_range hi']
        simp only [Option.map_some, hi', dif_pos]
      have hj2 : 33 * (j / 33) + j % 33 = j := Nat.div_add_mod j 33
      rw [← hj2, IC_at wf hk (j % 33) (Nat.mod_lt _ (by omega))] at hv
      have := (each (j / 33) hi').choose_spec.1 (j % 33) v hv
      rw [e1] at this
      rw [show o + j = o + j / 33 * 33 + j % 33 by omega]; exact this

theorem openedRes {H : Type} {enc : TypeId × Value → H} {W : World} {fuel : Nat} {a : Option Addr} {len cap : Nat} {y : DataW H × List MemPlace} (hf : DataW.trod enc Tryd.prog W 0 (fun _ => true) true fuel 46 [.slice a len cap] = some y) (hw : ∀ k ∈ y.1.weights Tryd.prog 46, k ≤ reachBytes) :
    ∃ l, EIn W a len l ∧ len * 48 ≤ 140737488351232 := by
  rcases open_slice Tryd.underlying46 hf with ⟨hcs, _⟩ | ⟨x, l, c, m, n, D, Pl, hcs, _, hl, hm, hmm, hx, hcell⟩
  · simp only [List.cons.injEq, Value.slice.injEq, and_true] at hcs
    obtain ⟨rfl, rfl, rfl⟩ := hcs
    exact ⟨[], EIn.nil _ _, by omega⟩
  · simp only [List.cons.injEq, Value.slice.injEq, and_true] at hcs
    obtain ⟨rfl, rfl, rfl⟩ := hcs
    rw [cellsRe] at hcell
    have hlm : len ≤ m := by rw [hmm]; simpa using hl
    have hsz : len * 48 ≤ 140737488351232 := by
      have := hw (cap * 48) (by
        rw [hx]
        simp only [DataW.weights, Tryd.underlying46, List.mem_cons]
        left
        rw [bytesRe]
        simp [hmm]
        omega)
      simp only [reachBytes] at this
      omega
    have each : ∀ i, i < len → ∃ t : En, (∀ (j : Nat) v, (ecells t)[j]? = some v → W.cell? ((x.add (i * 34)).add j) = some v) ∧ t.Wf := by
      intro i hi
      obtain ⟨cs', h1, h2⟩ := hcell i (by omega)
      obtain ⟨t, rfl, ht⟩ := one_re h2
      refine ⟨t, fun j v hv => ?_, ht⟩
      have hs := World.cells?_some h1
      have hj : j < 34 := by have := (List.getElem?_eq_some_iff.1 hv).1; rw [ecells_len ht.len] at this; exact this
      rw [hs.2.2 j hj]; exact hv
    have wf : EnsWf ((List.range len).map fun i => if h : i < len then (each i h).choose else en0) := by
      intro t ht
      obtain ⟨i, hi, rfl⟩ := List.mem_map.1 ht
      have hi' : i < len := List.mem_range.1 hi
      simp only [hi', dif_pos]
      exact (each i hi').choose_spec.2
    refine ⟨(List.range len).map fun i => if h : i < len then (each i h).choose else en0, ⟨by simp, wf, fun h0 => ?_⟩, hsz⟩
    · obtain ⟨b, o, s⟩ := x
      have hc0 := (each 0 h0).choose_spec.1 0 _ rfl
      obtain rfl : s = none := by simpa [Addr.add] using World.cell?_spot hc0
      have e1 : ∀ i j, ((⟨b, o, none⟩ : Addr).add (i * 34)).add j = ⟨b, o + i * 34 + j, none⟩ := fun i j => by rw [add_plain]; exact add_plain _ _ _
      refine ⟨b, o, rfl, fun j v hv => ?_⟩
      have hjl := (List.getElem?_eq_some_iff.1 hv).1
      rw [EC_len wf, List.length_map, List.length_range] at hjl
      have hi' : j / 34 < len := by omega
      have hk : ((List.range len).map fun i => if h : i < len then (each i h).choose else en0)[j / 34]? = some (each (j / 34) hi').choose := by
        rw [List.getElem?_map, List.getElem?_range hi']
        simp only [Option.map_some, hi', dif_pos]
      have hj2 : 34 * (j / 34) + j % 34 = j := Nat.div_add_mod j 34
      rw [← hj2, EC_at wf hk (j % 34) (Nat.mod_lt _ (by omega))] at hv
      have := (each (j / 34) hi').choose_spec.1 (j % 34) v hv
      rw [e1] at this
      rw [show o + j = o + j / 34 * 34 + j % 34 by omega]; exact this

set_option maxRecDepth 100000 in
theorem one_op {H : Type} {enc : TypeId × Value → H} {V : World} {cs : List Value} {n : Nat} {y : DataW H × List MemPlace} (hd : DataW.trod enc Tryd.prog V 0 (fun _ => true) true n 48 cs = some y) (hw : ∀ k ∈ y.1.weights Tryd.prog 48, k ≤ reachBytes) :
    ∃ o : W.OpV, cs = o.val ∧ o.In V := by
  obtain ⟨xs, k, _, hy, hl, hxl, hf⟩ := DataW.trod_struct Tryd.underlying48 hd
  rw [cellsOp] at hl
  have hxl6 : xs.length = 6 := hxl
  match cs, hl, xs, hxl6 with
  | [c0, c1, c2, c3, c4, c5], _, [y0, y1, y2, y3, y4, y5], _ =>
    have g0 : DataW.trod enc Tryd.prog V 0 (fun _ => true) true k 3 (([c0, c1, c2, c3, c4, c5].drop 0).take (Tryd.prog.cellsOf 3)) = some y0 := hf 0 _ rfl
    have g1 : DataW.trod enc Tryd.prog V 0 (fun _ => true) true k 3 (([c0, c1, c2, c3, c4, c5].drop 1).take (Tryd.prog.cellsOf 3)) = some y1 := hf 1 _ rfl
    have g2 : DataW.trod enc Tryd.prog V 0 (fun _ => true) true k 3 (([c0, c1, c2, c3, c4, c5].drop 2).take (Tryd.prog.cellsOf 3)) = some y2 := hf 2 _ rfl
    have g3 : DataW.trod enc Tryd.prog V 0 (fun _ => true) true k 44 (([c0, c1, c2, c3, c4, c5].drop 3).take (Tryd.prog.cellsOf 44)) = some y3 := hf 3 _ rfl
    have g4 : DataW.trod enc Tryd.prog V 0 (fun _ => true) true k 45 (([c0, c1, c2, c3, c4, c5].drop 4).take (Tryd.prog.cellsOf 45)) = some y4 := hf 4 _ rfl
    have g5 : DataW.trod enc Tryd.prog V 0 (fun _ => true) true k 46 (([c0, c1, c2, c3, c4, c5].drop 5).take (Tryd.prog.cellsOf 46)) = some y5 := hf 5 _ rfl
    rw [cells3'] at g0 g1 g2
    rw [cellsU64] at g3
    rw [cellsIs] at g4
    rw [cellsRs] at g5
    simp only [List.drop_zero, List.drop_succ_cons, List.take_succ_cons, List.take_zero] at g0 g1 g2 g3 g4 g5
    obtain ⟨kd, e0, _, _⟩ := DataW.trod_int Tryd.underlying3 g0
    obtain ⟨wh, e1, _, _⟩ := DataW.trod_int Tryd.underlying3 g1
    obtain ⟨bk, e2, _, _⟩ := DataW.trod_int Tryd.underlying3 g2
    obtain ⟨ps, e3, _, hu⟩ := DataW.trod_int Tryd.underlying44 g3
    obtain ⟨pi, mi, ci, rfl⟩ := slice_of Tryd.underlying45 g4
    obtain ⟨pl, ml, cl, rfl⟩ := slice_of Tryd.underlying46 g5
    simp only [List.cons.injEq, and_true] at e0 e1 e2 e3
    subst e0 e1 e2 e3
    simp only [List.map_cons, List.map_nil] at hy
    subst hy
    obtain ⟨l, hl4, hb4⟩ := openedIms g4 (fun n hn => hw n (by
      simp only [DataW.weights, Tryd.underlying48]
      exact DataW.weights_mem_each (j := 4) (t := 45) rfl rfl _ hn))
    obtain ⟨E, hl5, hb5⟩ := openedRes g5 (fun n hn => hw n (by
      simp only [DataW.weights, Tryd.underlying48]
      exact DataW.weights_mem_each (j := 5) (t := 46) rfl rfl _ hn))
    have bu := bounds_u64 hu
    exact ⟨⟨kd, wh, bk, ps, pi, mi, ci, l, pl, ml, cl, E⟩, rfl, ⟨⟨by show 0 ≤ ps; omega, by show ps < _; omega⟩, hl4, hb4, hl5, hb5⟩⟩
theorem openedS {H : Type} {enc : TypeId × Value → H} {V : World} {a : Option Addr} {len cap : Nat} {d : DataW H} {p : List MemPlace} (h : DataW.Trod enc Tryd.prog V 0 (fun _ => true) true 22 (.slice a len cap) d p) (hw : ∀ k ∈ d.weights Tryd.prog 22, k ≤ reachBytes) :
    ∃ f, W.ScIn V a len f ∧ len ≤ 140737488355328 := by
  obtain ⟨fuel, hf⟩ := h
  rcases open_slice Tryd.underlying22 hf with ⟨hcs, _⟩ | ⟨x, l, c, m, n, D, Pl, hcs, _, hl, hm, hmm, hx, hcell⟩
  · simp [Value.cells] at hcs
    obtain ⟨rfl, rfl, rfl⟩ := hcs
    exact ⟨fun _ => ⟨0, 0, 0, 0, none, 0, 0, [], none, 0, 0, []⟩, ⟨fun h => absurd h (Nat.lt_irrefl 0), fun i h => absurd h (Nat.not_lt_zero i)⟩, Nat.zero_le _⟩
  · simp [Value.cells] at hcs
    obtain ⟨rfl, rfl, rfl⟩ := hcs
    rw [cellsOp] at hcell
    simp only [Prod.mk.injEq] at hx
    have hlm : len ≤ m := by rw [hmm]; simpa using hl
    have hsz : len ≤ 140737488355328 := by
      have := hw (cap * 80) (by
        rw [hx.1]
        simp only [DataW.weights, Tryd.underlying22, List.mem_cons]
        left
        rw [bytesOp]
        simp [hmm]
        omega)
      simp only [reachBytes] at this
      omega
    have each : ∀ i, i < len → ∃ o : W.OpV, o.In V ∧ ∀ (j : Nat) v, o.val[j]? = some v → V.cell? ((x.add (i * 6)).add j) = some v := by
      intro i hi
      obtain ⟨cs', h1, h2⟩ := hcell i (by omega)
      obtain ⟨o, rfl, ho⟩ := one_op h2 (fun k hk => hw k (by
        rw [hx.1]
        simp only [DataW.weights, Tryd.underlying22, List.mem_cons, List.mem_append]
        exact .inr (.inl (weightsAll_mem (List.mem_map.2 ⟨i, List.mem_range.2 hi, rfl⟩) k hk))))
      have hs := World.cells?_some h1
      refine ⟨o, ho, fun j v hv => ?_⟩
      have hj : j < 6 := (List.getElem?_eq_some_iff.1 hv).1
      rw [hs.2.2 j hj]; exact hv
    refine ⟨fun i => if h : i < len then (each i h).choose else ⟨0, 0, 0, 0, none, 0, 0, [], none, 0, 0, []⟩, ⟨fun h0 => ?_, fun i hi => ?_⟩, hsz⟩
    · obtain ⟨b, o, s⟩ := x
      have hc0 := (each 0 h0).choose_spec.2 0 _ rfl
      obtain rfl : s = none := by simpa [Addr.add] using World.cell?_spot hc0
      have e1 : ∀ i j, ((⟨b, o, none⟩ : Addr).add (i * 6)).add j = ⟨b, o + i * 6 + j, none⟩ := fun i j => by rw [add_plain]; exact add_plain _ _ _
      refine ⟨b, o, rfl, fun i hi j v hv => ?_⟩
      simp only [dif_pos hi] at hv
      have := (each i hi).choose_spec.2 j v hv
      rw [e1] at this
      exact this
    · simp only [dif_pos hi]
      exact (each i hi).choose_spec.1
end Go.Proofs.YthcpnfelnonhnaaDoor
