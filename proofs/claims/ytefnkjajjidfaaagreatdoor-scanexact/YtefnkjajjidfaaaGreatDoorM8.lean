/-
  What the rows of layer 10 share: the listed tables. How a configuration, bytes and writes that came in are opened. Layer 10: ScanExact, walked. The statement ScanExact (her tied card), proved.
-/
import Derived.ProofKit
import Derived.LaidMore
import Derived.OpenShut
import Derived.Stop.Joined
import Derived.Stop.LaidErr
import Derived.ChangeSame
import Derived.Lib.LaidTab
import Derived.ShutString
import Derived.ChangeOld
import Derived.SizedLaws
import Derived.Test.YtefnkjajjidfaaaGreatDoorM4
import Derived.Deep.Slices
import Derived.Test.YtefnkjajjidfaaaGreatDoorM5
import Derived.Test.YtefnkjajjidfaaaGreatDoorM7
import Derived.Test.YtefnkjajjidfaaaGreatDoorM3
import Derived.Deep.RegionHeld3
import Derived.Test.YtefnkjajjidfaaaGreatDoorTie
import Derived.Test.YtefnkjajjidfaaaGreatDoorCards
import Derived.SevenTiedAt
namespace Go.Proofs.YtefnkjajjidfaaaGreatDoor
open Go.ChangeShapes Go.WideShapes Go.ChangeAt Go.RowKit

theorem ownK : ownKnob Tryz.prog.godebug = none := by kernel_rfl
theorem gHalves : Tryz.prog.globalNamed "wicket/sum.halves" = some 1 := by kernel_rfl
theorem tHalves : (Tryz.prog.globals[1]?).map (·.type) = some 175 := by kernel_rfl
theorem gFields : Tryz.prog.globalNamed "wicket/super.fields" = some 0 := by kernel_rfl
theorem tFields : (Tryz.prog.globals[0]?).map (·.type) = some 140 := by kernel_rfl
theorem cells38 : Tryz.prog.cellsOf 143 = 1 := by kernel_rfl
theorem cells78 : Tryz.prog.cellsOf 175 = 16 := by kernel_rfl
theorem cells62 : Tryz.prog.cellsOf 139 = 2 := by kernel_rfl
theorem cells3 : Tryz.prog.cellsOf 3 = 1 := by kernel_rfl

def zs16 : List Int := [0, 498536548, 997073096, 651767980, 1994146192, 1802195444, 1303535960, 1342533948, 3988292384, 4027552580, 3604390888, 3412177804, 2607071920, 2262029012, 2685067896, 3183342108]
theorem zs16_table : ∀ i, i < 16 → zs16[i]? = some ((table.getD i 0 : Nat) : Int) := by decide

abbrev laidS : List (String × DataW Unit) := [("wicket/sum.halves", Rows.laid_wicket_sum_halves), ("wicket/super.fields", Rows.laid_wicket_super_fields)]

/-- the door's own heap meets the condition -/
theorem door_met (os : Os) (args : Array Value) : laidMetH Tryz.prog laidS ((World.doorLaid Tryz.prog 400 os).forCall (fun _ _ => 0) ⟨#[], args, []⟩).memory :=
  laidMetH_of_parts3 (fuel := 8) (laidMet_of_run' 8 (by kernel_rfl) (by kernel_rfl)) (by kernel_rfl) (by kernel_rfl)

def pairD {H : Type} (a k : Nat) : DataW H := .agg [.lit (.int .i64 (a : Int)), .lit (.int .i64 (k : Int))]
theorem drop_one {α : Type} (l : List α) (i : Nat) (v : α) (h : (l.drop i).take 1 = [v]) : l[i]? = some v := by
  have e : ((l.drop i).take 1)[0]? = some v := by rw [h]; rfl
  rw [List.getElem?_take, if_pos (by omega), List.getElem?_drop] at e
  exact e
theorem pair_of {H : Type} {enc : TypeId × Value → H} {W : World} {b : Nat} {sp : Nat → Bool} {held : Bool} {m : Nat} {cs : List Value} {p : List MemPlace} {a k : Nat} (h : DataW.trod enc Tryz.prog W b sp held m 139 cs = some (pairD a k, p)) :
    cs[0]? = some (.int .i64 (a : Int)) ∧ cs[1]? = some (.int .i64 (k : Int)) := by
  obtain ⟨xs, n, _, e, _, hxl, hg⟩ := DataW.trod_struct Tryz.underlying139 h
  have hxl2 : xs.length = 2 := hxl
  have g0 : DataW.trod enc Tryz.prog W b sp held n 3 ((cs.drop 0).take (Tryz.prog.cellsOf 3)) = xs[0]? := hg 0 _ rfl
  have g1 : DataW.trod enc Tryz.prog W b sp held n 3 ((cs.drop 1).take (Tryz.prog.cellsOf 3)) = xs[1]? := hg 1 _ rfl
  rw [cells3, List.getElem?_eq_getElem (by omega)] at g0 g1
  obtain ⟨a0, e0, d0, _⟩ := DataW.trod_int Tryz.underlying3 g0
  obtain ⟨a1, e1, d1, _⟩ := DataW.trod_int Tryz.underlying3 g1
  have f0 := drop_one _ _ _ e0
  have f1 := drop_one _ _ _ e1
  have ed := congrArg Prod.fst e
  match xs, hxl2 with
  | [y0, y1], _ =>
    simp only [List.getElem_cons_zero, List.getElem_cons_succ] at d0 d1
    rw [d0, d1] at ed
    simp [pairD] at ed
    rw [f0, f1, ed.1, ed.2]
    exact ⟨rfl, rfl⟩
def fdata {H : Type} : List (DataW H) := [pairD 6 1, pairD 8 1, pairD 9 1, pairD 10 1, pairD 11 1, pairD 12 1, pairD 16 8, pairD 24 8]
theorem fdata_at {H : Type} (i : Nat) (h : i < 8) : (fdata (H := H))[i]? = some (pairD (fa.getD i 0) (fw.getD i 0)) := by
  have : i = 0 ∨ i = 1 ∨ i = 2 ∨ i = 3 ∨ i = 4 ∨ i = 5 ∨ i = 6 ∨ i = 7 := by omega
  rcases this with rfl | rfl | rfl | rfl | rfl | rfl | rfl | rfl <;> rfl
theorem flds_of {H : Type} {enc : TypeId × Value → H} {W : World} {b : Nat} {sp : Nat → Bool} {held : Bool} {m : Nat} {cs : List Value} {p : List MemPlace} (h : DataW.trod enc Tryz.prog W b sp held m 140 cs = some (.agg fdata, p)) (i : Nat) (hi : i < 8) :
    cs[2 * i]? = some (.int .i64 ((fa.getD i 0 : Nat) : Int)) ∧ cs[2 * i + 1]? = some (.int .i64 ((fw.getD i 0 : Nat) : Int)) := by
  obtain ⟨xs, m', _, e, _, hxl, hf⟩ := DataW.trod_array Tryz.underlying140 h
  have e1 : fdata = xs.map (·.1) := by
    have := congrArg Prod.fst e
    injection this
  have g := hf i hi
  rw [cells62] at g
  have hx : (xs.map (·.1))[i]? = some (pairD (fa.getD i 0) (fw.getD i 0)) := by rw [← e1]; exact fdata_at i hi
  rw [List.getElem?_map] at hx
  obtain ⟨y, hy, hy1⟩ := Option.map_eq_some_iff.1 hx
  rw [hy] at g
  obtain ⟨d, pp⟩ := y
  simp only at hy1
  subst hy1
  have hp := pair_of g
  rw [List.getElem?_take, if_pos (by omega), List.getElem?_drop, List.getElem?_take, if_pos (by omega), List.getElem?_drop] at hp
  rw [show i * 2 + 0 = 2 * i by omega, show i * 2 + 1 = 2 * i + 1 by omega] at hp
  exact hp

/-- what the condition gives the walks: the tables -/
theorem tab_of {W : World} (h : laidMetH Tryz.prog laidS W) : Tab W := by
  rw [MakeChecks.laidMetH_plain _ _ _ (by kernel_rfl)] at h
  have h' : laidMet Tryz.prog [("wicket/sum.halves", Lib.tabData .u32 zs16), ("wicket/super.fields", .agg fdata)] W := h
  refine ⟨?_, ?_⟩
  · have hT := Lib.tabIs_of_head gHalves tHalves Tryz.underlying175 Tryz.underlying143 cells38 cells78 h'
    intro i hi
    rw [World.var?_cell gHalves hT i]
    have := zs16_table i hi
    simp [this]
  · obtain ⟨ps, ⟨g', t', cs, fuel, p, q, hg', ht', hvar, hd, _, _⟩, _⟩ := h'.tail
    obtain rfl := Option.some.inj (gFields.symm.trans hg')
    obtain rfl := Option.some.inj (tFields.symm.trans ht')
    intro i hi
    have hf := flds_of hd i hi
    rw [World.var?_cell gFields hvar (2 * i), World.var?_cell gFields hvar (2 * i + 1)]
    simpa using hf
end Go.Proofs.YtefnkjajjidfaaaGreatDoor
namespace Go.Proofs.YtefnkjajjidfaaaGreatDoor
open Go.ChangeShapes Go.WideShapes Go.ChangeAt Go.RowKit Go.Deep

theorem laidK : laidOutB Tryz.prog = true := by kernel_rfl
theorem cellsC : Tryz.prog.cellsOf 23 = 5 := by kernel_rfl
theorem cellsBs : Tryz.prog.cellsOf 24 = 1 := by kernel_rfl
theorem cellsW : Tryz.prog.cellsOf 65 = 2 := by kernel_rfl
theorem bytesW : Tryz.prog.bytesOf 65 = 32 := by kernel_rfl
theorem bytes5 : Tryz.prog.bytesOf 5 = 1 := by kernel_rfl
theorem openedC {H : Type} {enc : TypeId × Value → H} {W : World} {l : List Value} {n : Nat} {y : DataW H × List MemPlace} (h : DataW.trod enc Tryz.prog W 0 (fun _ => true) true n 23 l = some y) :
    ∃ a0 a1 a2 a3 a4 : Int, l[0]? = some (.int .i64 a0) ∧ l[1]? = some (.int .i64 a1) ∧ l[2]? = some (.int .i64 a2) ∧ l[3]? = some (.int .i64 a3) ∧ l[4]? = some (.int .i64 a4) := by
  obtain ⟨xs, k, _, hy, _, hxl, hg⟩ := DataW.trod_struct Tryz.underlying23 h
  have hxl5 : xs.length = 5 := hxl
  have g0 : DataW.trod enc Tryz.prog W 0 (fun _ => true) true k 3 ((l.drop 0).take (Tryz.prog.cellsOf 3)) = xs[0]? := hg 0 _ rfl
  have g1 : DataW.trod enc Tryz.prog W 0 (fun _ => true) true k 3 ((l.drop 1).take (Tryz.prog.cellsOf 3)) = xs[1]? := hg 1 _ rfl
  have g2 : DataW.trod enc Tryz.prog W 0 (fun _ => true) true k 3 ((l.drop 2).take (Tryz.prog.cellsOf 3)) = xs[2]? := hg 2 _ rfl
  have g3 : DataW.trod enc Tryz.prog W 0 (fun _ => true) true k 3 ((l.drop 3).take (Tryz.prog.cellsOf 3)) = xs[3]? := hg 3 _ rfl
  have g4 : DataW.trod enc Tryz.prog W 0 (fun _ => true) true k 3 ((l.drop 4).take (Tryz.prog.cellsOf 3)) = xs[4]? := hg 4 _ rfl
  rw [cells3, List.getElem?_eq_getElem (by omega)] at g0 g1 g2 g3 g4
  obtain ⟨a0, e0, _, w0⟩ := DataW.trod_int Tryz.underlying3 g0
  obtain ⟨a1, e1, _, w1⟩ := DataW.trod_int Tryz.underlying3 g1
  obtain ⟨a2, e2, _, w2⟩ := DataW.trod_int Tryz.underlying3 g2
  obtain ⟨a3, e3, _, w3⟩ := DataW.trod_int Tryz.underlying3 g3
  obtain ⟨a4, e4, _, w4⟩ := DataW.trod_int Tryz.underlying3 g4
  exact ⟨a0, a1, a2, a3, a4, drop_one _ _ _ e0, drop_one _ _ _ e1, drop_one _ _ _ e2, drop_one _ _ _ e3, drop_one _ _ _ e4⟩
theorem openedCfg {H : Type} {enc : TypeId × Value → H} {W : World} {cs : Array Value} {d : DataW H} {p : List MemPlace} (hn : cs.size = 5) (h : DataW.Trod enc Tryz.prog W 0 (fun _ => true) true 23 (.agg cs) d p) :
    ∃ s : Sup, cs = (ccells s).toArray := by
  obtain ⟨fuel, hf⟩ := h
  obtain ⟨l⟩ := cs
  have hl : l.length = 5 := by simpa using hn
  have hf' : DataW.trod enc Tryz.prog W 0 (fun _ => true) true fuel 23 l = some (d, p) := by simpa [Value.cells] using hf
  obtain ⟨a0, a1, a2, a3, a4, f0, f1, f2, f3, f4⟩ := openedC hf'
  refine ⟨⟨a0, a1, a2, a3, a4, 0, 0⟩, ?_⟩
  congr 1
  apply List.ext_getElem?
  intro i
  match i with
  | 0 => exact f0
  | 1 => exact f1
  | 2 => exact f2
  | 3 => exact f3
  | 4 => exact f4
  | j + 5 => rw [List.getElem?_eq_none (by omega), List.getElem?_eq_none (by rw [ccells_len]; omega)]
theorem openedB {H : Type} {enc : TypeId × Value → H} {W : World} {a : Option Addr} {len cap : Nat} {d : DataW H} {p : List MemPlace} (h : DataW.Trod enc Tryz.prog W 0 (fun _ => true) true 24 (.slice a len cap) d p) :
    ∃ ss, BIn W a len ss ∧ len ≤ cap ∧ (a = none → len = 0 ∧ cap = 0) ∧ (cap = 0 ∨ ∃ elems spare, d = .slice elems spare ∧ elems.length + spare.length = cap) := by
  obtain ⟨fuel, hf⟩ := h
  rcases open_ints Tryz.underlying24 Tryz.underlying5 (by kernel_rfl) hf with ⟨hcs, _⟩ | ⟨x, l, c, zs, hcs, _, hl, hm, hz, hx, hcell, hwz⟩
  · simp [Value.cells] at hcs
    obtain ⟨rfl, rfl, rfl⟩ := hcs
    exact ⟨[], ⟨rfl, (fun x hx => by cases hx), fun h => absurd h (Nat.lt_irrefl 0)⟩, Nat.le_refl _, fun _ => ⟨rfl, rfl⟩, .inl rfl⟩
  · simp [Value.cells] at hcs
    obtain ⟨rfl, rfl, rfl⟩ := hcs
    have hz' : zs.length = cap := by simpa using hz
    simp only [Prod.mk.injEq] at hx
    refine ⟨zs.take len, ⟨by rw [List.length_take]; omega, fun x hx => by have := bounds_u8 (hwz x (List.mem_of_mem_take hx)); omega, fun h0 => ?_⟩, hl, fun e => (by cases e), .inr ⟨_, _, hx.1, by simp [lits]; omega⟩⟩
    obtain ⟨b, o, s⟩ := x
    obtain rfl : s = none := by simpa [Addr.add] using World.cell?_spot (hcell 0 (by omega))
    refine ⟨b, o, rfl, fun i hi => ?_⟩
    have hil : i < len := hi
    have hiz : i < zs.length := by omega
    have := hcell i (by omega)
    rw [add_plain] at this
    rw [this]
    rw [List.getD, List.getD, List.getElem?_take, if_pos hil]
theorem openedIm {H : Type} {enc : TypeId × Value → H} {W : World} {a : Option Addr} {len cap : Nat} {d : DataW H} {p : List MemPlace} (h : DataW.Trod enc Tryz.prog W 0 (fun _ => true) true 24 (.slice a len cap) d p) (hw : ∀ k ∈ d.weights Tryz.prog 24, k ≤ reachBytes) :
    ∃ ss, BIn W a len ss ∧ len ≤ 140737488355328 ∧ (a = none → len = 0 ∧ cap = 0) := by
  obtain ⟨ss, h1, h2, h3, h4⟩ := openedB h
  refine ⟨ss, h1, ?_, h3⟩
  have w5 : cap * 1 ≤ reachBytes := by
    rcases h4 with rfl | ⟨el, sp, e, rfl⟩
    · exact Nat.zero_le _
    · have := hw ((el.length + sp.length) * Tryz.prog.bytesOf 5) (by
        rw [e]
        simp [DataW.weights, Tryz.underlying24])
      rw [bytes5] at this
      exact this
  simp only [reachBytes] at w5
  omega
theorem slice_of {H : Type} {enc : TypeId × Value → H} {W : World} {t e : TypeId} {k : Nat} {c : Value} {y : DataW H × List MemPlace} (ht : Tryz.prog.underlying t = some (.slice e)) (h : DataW.trod enc Tryz.prog W 0 (fun _ => true) true k t [c] = some y) :
    ∃ a l cp, c = .slice a l cp := by
  rcases open_slice ht h with ⟨h0, _⟩ | ⟨a, len, cap, _, _, _, _, h0, _⟩
  · simp only [List.cons.injEq, and_true] at h0
    exact ⟨_, _, _, h0⟩
  · simp only [List.cons.injEq, and_true] at h0
    exact ⟨_, _, _, h0⟩
theorem weightsAll_mem {H : Type} {P : Program} {e : TypeId} : ∀ {l : List (DataW H)} {d : DataW H}, d ∈ l → ∀ n ∈ d.weights P e, n ∈ DataW.weightsAll P e l
  | x :: r, d, hd, n, hn => by
    simp only [DataW.weightsAll, List.mem_append]
    rcases List.mem_cons.1 hd with rfl | hd
    · exact .inl hn
    · exact .inr (weightsAll_mem hd n hn)
  | [], _, hd, _, _ => by cases hd
theorem one_at {α : Type} (l : List α) (k : Nat) (h : k < l.length) : (l.drop k).take 1 = [l[k]] := by
  rw [List.drop_eq_getElem_cons h, List.take_succ_cons, List.take_zero]

theorem one_w {H : Type} {enc : TypeId × Value → H} {W : World} {cs : List Value} {n : Nat} {y : DataW H × List MemPlace} (hd : DataW.trod enc Tryz.prog W 0 (fun _ => true) true n 65 cs = some y) : ∃ t : LW, cs = [.int .i64 t.s, .slice t.q t.n t.c] ∧ BIn W t.q t.n t.b := by
  obtain ⟨xs, k, _, hy, hl, hxl, hf⟩ := DataW.trod_struct Tryz.underlying65 hd
  rw [cellsW] at hl
  have hxl2 : xs.length = 2 := hxl
  match xs, hxl2 with
  | [y0, y1], _ =>
    have g0 : DataW.trod enc Tryz.prog W 0 (fun _ => true) true k 3 ((cs.drop 0).take (Tryz.prog.cellsOf 3)) = some y0 := hf 0 _ rfl
    have g1 : DataW.trod enc Tryz.prog W 0 (fun _ => true) true k 24 ((cs.drop 1).take (Tryz.prog.cellsOf 24)) = some y1 := hf 1 _ rfl
    rw [cells3] at g0
    rw [cellsBs, one_at cs 1 (by omega)] at g1
    obtain ⟨s, e0, _, w0⟩ := DataW.trod_int Tryz.underlying3 g0
    obtain ⟨q, len, c, e1⟩ := slice_of Tryz.underlying24 g1
    rw [e1] at g1
    obtain ⟨bs, hb, -⟩ := openedB (d := y1.1) (p := y1.2) ⟨k, g1⟩
    refine ⟨⟨s, q, len, c, bs⟩, ?_, hb⟩
    have h1 : cs.take 1 = [.int .i64 s] := e0
    have h2 : cs.drop 1 = [.slice q len c] := by rw [← e1, ← one_at cs 1 (by omega), List.take_of_length_le (by rw [List.length_drop]; omega)]
    rw [← List.take_append_drop 1 cs, h1, h2]; rfl
theorem openedW {H : Type} {enc : TypeId × Value → H} {W : World} {a : Option Addr} {len cap : Nat} {d : DataW H} {p : List MemPlace} (h : DataW.Trod enc Tryz.prog W 0 (fun _ => true) true 25 (.slice a len cap) d p) (hw : ∀ k ∈ d.weights Tryz.prog 25, k ≤ reachBytes) :
    ∃ l, WIn W a len l ∧ len ≤ 140737488355328 := by
  obtain ⟨fuel, hf⟩ := h
  rcases open_slice Tryz.underlying25 hf with ⟨hcs, _⟩ | ⟨x, l, c, m, n, D, Pl, hcs, _, hl, hm, hmm, hx, hcell⟩
  · simp [Value.cells] at hcs
    obtain ⟨rfl, rfl, rfl⟩ := hcs
    exact ⟨[], ⟨rfl, fun h => absurd h (Nat.lt_irrefl 0)⟩, Nat.zero_le _⟩
  · simp [Value.cells] at hcs
    obtain ⟨rfl, rfl, rfl⟩ := hcs
    rw [cellsW] at hcell
    simp only [Prod.mk.injEq] at hx
    have hlm : len ≤ m := by rw [hmm]; simpa using hl
    have each : ∀ i, i < len → ∃ t : LW, (∀ (j : Nat) v, [Value.int .i64 t.s, .slice t.q t.n t.c][j]? = some v → W.cell? ((x.add (i * 2)).add j) = some v) ∧ BIn W t.q t.n t.b := by
      intro i hi
      obtain ⟨cs', h1, h2⟩ := hcell i (by omega)
      obtain ⟨t, rfl, ht⟩ := one_w h2
      refine ⟨t, fun j v hv => ?_, ht⟩
      have hs := World.cells?_some h1
      have hj : j < 2 := (List.getElem?_eq_some_iff.1 hv).1
      rw [hs.2.2 j hj]; exact hv
    have hlb : len ≤ 140737488355328 := by
      rw [hx.1] at hw
      simp only [DataW.weights, Tryz.underlying25] at hw
      have h1 := hw _ List.mem_cons_self
      rw [bytesW] at h1
      simp only [List.length_map, List.length_range, reachBytes] at h1
      omega
    refine ⟨(List.range len).map fun i => if h : i < len then (each i h).choose else ⟨0, none, 0, 0, []⟩, ⟨by simp, fun h0 => ?_⟩, hlb⟩
    obtain ⟨b, o, s⟩ := x
    have hc0 := (each 0 h0).choose_spec.1 0 _ rfl
    obtain rfl : s = none := by simpa [Addr.add] using World.cell?_spot hc0
    have e1 : ∀ i j, ((⟨b, o, none⟩ : Addr).add (i * 2)).add j = ⟨b, o + i * 2 + j, none⟩ := fun i j => by rw [add_plain]; exact add_plain _ _ _
    refine ⟨b, o, rfl, fun k t ht => ?_⟩
    have hk' : k < len := by have := (List.getElem?_eq_some_iff.1 ht).1; simpa using this
    rw [List.getElem?_map, List.getElem?_range hk'] at ht
    simp only [Option.map_some, hk', dif_pos, Option.some.injEq] at ht
    subst ht
    have h2 := (each k hk').choose_spec
    have a0 := h2.1 0 _ rfl
    have a1 := h2.1 1 _ rfl
    rw [e1] at a0 a1
    exact ⟨a0, a1, h2.2⟩
end Go.Proofs.YtefnkjajjidfaaaGreatDoor
namespace Go.Proofs.YtefnkjajjidfaaaGreatDoor
open Go.RowKit


theorem WIn.later {w w' : World} {p : Option Addr} {n : Nat} {l : List LW} (h : WIn w p n l) (hb : Below w.heap.size w w') : WIn w' p n l := by
  refine ⟨h.len, fun h0 => ?_⟩
  obtain ⟨b, o, e, hr⟩ := h.cells h0
  refine ⟨b, o, e, fun k t hk => ?_⟩
  obtain ⟨h1, h2, h3⟩ := hr k t hk
  have hl := World.block_lt_of_cell? w _ h1
  exact ⟨(World.cell?_of_block (hb.block b hl)).trans h1, (World.cell?_of_block (hb.block b hl)).trans h2, h3.later hb⟩
set_option maxHeartbeats 8000000 in
set_option maxRecDepth 100000 in
theorem scanExact_any (c : Sup) (a : Option Addr) (m cp : Nat) (xs : List Int) (q2 : Option Addr) (n2 c2 : Nat) (l : List LW) (w : World) (ht : Tab w) (h : BIn w a m xs) (hm : m ≤ 140737488355328) (ha : a = none → m = 0 ∧ cp = 0) (hw : WIn w q2 n2 l) (hn2 : n2 ≤ 140737488355328) :
    Calls Tryz.prog 3 #[.agg (ccells c).toArray, .slice a m cp, .slice q2 n2 c2] w fun e w' => e = .returned (.bool true) ∧ Below w.heap.size w w' := by
  have HT : Hid (Tab w) := ht
  have HB : Hid (BIn w a m xs) := h
  have HW : Hid (WIn w q2 n2 l) := hw
  have HA : Hid (a = none → m = 0 ∧ cp = 0) := ha
  obtain ⟨wa, hwa⟩ : ∃ y, y = w.alloc (.cells (ccells c).toArray 23) := ⟨_, rfl⟩
  have ewa := hwa.symm
  have B0 : Hid (Below w.heap.size w wa) := by rw [hwa]; exact below_alloc w _
  have C0 : Hid (CAt wa w.heap.size c) := by rw [hwa]; exact LAt.new 23 w _
  clear hwa ht h hw ha
  go_enter Tryz.func3, Tryz.ntmps3
  go_wp2_with fail
  refine (awake_any wa (HT.out.later B0.out)).mono ?_
  rintro e w1 ⟨rfl, b1⟩
  have B1 : Hid (Below w.heap.size w w1) := below_then B0.out b1
  have C1 : Hid (CAt w1 w.heap.size c) := LAt.later C0.out b1
  clear b1 B0 C0 ewa
  go_wp2_with fail
  refine (disks_any a m cp xs q2 n2 c2 l w1 (HB.out.later B1.out) hm HA.out (HW.out.later B1.out) hn2).mono ?_
  rintro e w2 ⟨b2, rfl | ⟨pd, pr, n, ws, Sd, Sr, rfl, tw, hws⟩⟩
  · have B2 : Hid (Below w.heap.size w w2) := below_then B1.out b2
    go_wp2_with fail
    go_ret
    exact ⟨rfl, B2.out⟩
  · have B2 : Hid (Below w.heap.size w w2) := below_then B1.out b2
    have C2 : Hid (CAt w2 w.heap.size c) := LAt.later C1.out b2
    have TW2 : Hid (Two w1 w2 pd pr n xs ws Sd Sr) := tw
    have L2 : Hid (_) := CAt.load23 C2.out
    clear b2 tw B1 C1
    go_wp2_with ((with_reducible refine at_ops ?_); (refine wpList_load_is (by rfl) 23 rfl rfl L2.out ?_); simp only [Act.put, List.setIfInBounds_toArray, List.set_cons_zero, List.set_cons_succ])
    clear L2
    refine (refRead_any TW2.out.rf (by omega) c).mono ?_
    rintro e w3 ⟨qw, cw, rfl, xw, b3⟩
    have hwf := rdL_wf (c := c) (n := (n : Int)) (rd := newest ws xs) (fun i => TW2.out.rf.bytes i)
    have HR : Hid (∀ w W, Dsk w W pd n xs ws → Tab w → Calls Tryz.prog 7 #[.pointer (some ⟨pd, 0, none⟩), .agg (ccells c).toArray] w fun e w' => ∃ q cp vs, e = .returned (.tuple #[.agg (gcells (rdL c n (newest ws xs)).1.tail (rdL c n (newest ws xs)).1.life (rdL c n (newest ws xs)).1.fin (.slice q (rdL c n (newest ws xs)).1.txs.length cp)).toArray, .int .i64 (rdL c n (newest ws xs)).2]) ∧ XOwn 59 w' w.heap.size (.slice q (rdL c n (newest ws xs)).1.txs.length cp) (rdL c n (newest ws xs)).1.txs vs ∧ Rise vs w'.heap.size ∧ Below w.heap.size w w') := fun w W h1 h2 => read_any10 h1 h2 c
    generalize rdL c n (newest ws xs) = R at *
    obtain ⟨⟨t0, l0, f0, txs⟩, er⟩ := R
    dsimp only at xw hwf HR ⊢
    obtain ⟨N, hN⟩ : ∃ N, N = txs.length := ⟨_, rfl⟩
    rw [← hN] at xw HR ⊢
    have hN64 : N ≤ 64 := by rw [hN]; exact hwf.n
    have HLN : Hid (txs.length = N) := hN.symm
    have HWF : Hid (TxsWf txs ∧ (∀ x ∈ txs, x.ims.length ≤ 100000)) := ⟨hwf.tx, fun x hx => Nat.le_trans (hwf.m x hx) (by omega)⟩
    have HM16 : Hid (∀ x ∈ txs, x.ims.length ≤ 100) := fun x hx => Nat.le_trans (hwf.m x hx) (by omega)
    clear hwf hN
    have A3 : Hid (_) := allocR w3
    have T3 : Hid (_) := store_newR w3 t0 l0 f0 (v := .slice qw N cw) rfl
    obtain ⟨w4, hw4⟩ : ∃ y, y = w3.alloc (.cells (gcells t0 l0 f0 (.slice qw N cw)).toArray 34) := ⟨_, rfl⟩
    rw [← hw4] at T3
    have b4 : Below w3.heap.size w3 w4 := by rw [hw4]; exact below_alloc w3 _
    have m4 : LAt 34 w4 w3.heap.size (gcells t0 l0 f0 (.slice qw N cw)) := by rw [hw4]; exact LAt.new 34 w3 _
    have b24 : Below w2.heap.size w2 w4 := below_then b3 b4
    obtain ⟨GW, hGW⟩ : ∃ GW, GW = w3.heap.size := ⟨_, rfl⟩
    rw [← hGW] at m4 A3 T3
    have B4 : Hid (Below w.heap.size w w4) := below_then B2.out b24
    have MW4 : Hid (LAt 34 w4 GW (gcells t0 l0 f0 (.slice qw N cw))) := m4
    have XW4 : Hid (XIn w4 qw N txs) := xw.later b4
    have C4 : Hid (CAt w4 w.heap.size c) := LAt.later C2.out b24
    have TW4 : Hid (Two w1 w4 pd pr n xs ws Sd Sr) := TW2.out.later b24
    have L4 : Hid (_) := CAt.load23 C4.out
    clear hw4 b4 m4 b24 b3 xw TW2 C2 B2 hGW
    go_wp2_with ((with_reducible refine at_ops ?_); (first | (refine wpList_alloc_is (by rfl) 34 rfl A3.out ?_) | (refine wpList_store_is (by rfl) 34 rfl rfl rfl T3.out ?_) | (refine wpList_load_is (by rfl) 23 rfl rfl L4.out ?_)); simp only [Act.put, List.setIfInBounds_toArray, List.set_cons_zero, List.set_cons_succ])
    clear A3 T3 L4
    refine (HR.out w4 _ TW4.out.dk (HT.out.later B4.out)).mono ?_
    rintro e w5 ⟨ql, cl, vl, rfl, xl, rl, b5⟩
    have A5 : Hid (_) := allocLg w5
    have T5 : Hid (_) := storeLg w5 t0 l0 f0 (v := .slice ql N cl) rfl
    obtain ⟨w6, hw6⟩ : ∃ y, y = w5.alloc (.cells (gcells t0 l0 f0 (.slice ql N cl)).toArray 39) := ⟨_, rfl⟩
    rw [← hw6] at T5
    have b6 : Below w5.heap.size w5 w6 := by rw [hw6]; exact below_alloc w5 _
    have m6 : LAt 39 w6 w5.heap.size (gcells t0 l0 f0 (.slice ql N cl)) := by rw [hw6]; exact LAt.new 39 w5 _
    obtain ⟨GL, hGL⟩ : ∃ GL, GL = w5.heap.size := ⟨_, rfl⟩
    rw [← hGL] at m6 A5 T5
    have B46 : Hid (Below w4.heap.size w4 w6) := below_then b5 b6
    have ML6 : Hid (LAt 39 w6 GL (gcells t0 l0 f0 (.slice ql N cl))) := m6
    have XL6 : Hid (XOwn 59 w6 w4.heap.size (.slice ql N cl) txs vl ∧ Rise vl w6.heap.size ∧ (∀ g, ql = some ⟨g, 0, none⟩ → g < w6.heap.size)) := ⟨xl.later b6, rl.mono b6.size, fun g hg => by
      have := (xl.row.lt g (by rw [hg]; rfl)).2
      exact Nat.lt_of_lt_of_le this b6.size⟩
    have C6 : Hid (CAt w6 w.heap.size c) := LAt.later C4.out B46.out
    have L6 : Hid (_) := CAt.load23 C6.out
    clear hw6 b6 m6 hGL b5 xl rl
    go_wp2_with ((with_reducible refine at_ops ?_); (first | (refine wpList_alloc_is (by rfl) 39 rfl A5.out ?_) | (refine wpList_store_is (by rfl) 39 rfl rfl rfl T5.out ?_) | (refine wpList_load_is (by rfl) 23 rfl rfl L6.out ?_)); simp only [Act.put, List.setIfInBounds_toArray, List.set_cons_zero, List.set_cons_succ])
    clear A5 T5 L6
    refine (HR.out w6 _ (TW4.out.dk.later B46.out) (HT.out.later (below_then B4.out B46.out))).mono ?_
    rintro e w7 ⟨qk, ck, vk, rfl, xk, rk, b7⟩
    have A7 : Hid (_) := allocLg w7
    have T7 : Hid (_) := storeLg w7 t0 l0 f0 (v := .slice qk N ck) rfl
    obtain ⟨wb, hwb⟩ : ∃ y, y = w7.alloc (.cells (gcells t0 l0 f0 (.slice qk N ck)).toArray 39) := ⟨_, rfl⟩
    rw [← hwb] at T7
    have b8 : Below w7.heap.size w7 wb := by rw [hwb]; exact below_alloc w7 _
    have m8 : LAt 39 wb w7.heap.size (gcells t0 l0 f0 (.slice qk N ck)) := by rw [hwb]; exact LAt.new 39 w7 _
    obtain ⟨GK, hGK⟩ : ∃ GK, GK = w7.heap.size := ⟨_, rfl⟩
    rw [← hGK] at m8 A7 T7
    have b68 : Below w6.heap.size w6 wb := below_then b7 b8
    have B48 : Hid (Below w4.heap.size w4 wb) := below_then B46.out b68
    have XL8 : Hid (XOwn 59 wb w4.heap.size (.slice ql N cl) txs vl) := XL6.out.1.later b68
    have XK8 : Hid (XOwn 59 wb w6.heap.size (.slice qk N ck) txs vk ∧ Rise vk wb.heap.size) := ⟨xk.later b8, rk.mono b8.size⟩
    have ML : Hid (∀ W, Below wb.heap.size wb W → LAt 39 W GL (gcells t0 l0 f0 (.slice ql N cl))) := fun W hW => LAt.later (LAt.later ML6.out b68) hW
    have MK : Hid (∀ W, Below wb.heap.size wb W → LAt 39 W GK (gcells t0 l0 f0 (.slice qk N ck))) := fun W hW => LAt.later m8 hW
    have MW : Hid (∀ W, Below wb.heap.size wb W → LAt 34 W GW (gcells t0 l0 f0 (.slice qw N cw))) := fun W hW => LAt.later MW4.out (below_then B48.out hW)
    have XW : Hid (∀ W, Below wb.heap.size wb W → XIn W qw N txs) := fun W hW => XW4.out.later (below_then B48.out hW)
    have TWB : Hid (∀ W, Below wb.heap.size wb W → Two w1 W pd pr n xs ws Sd Sr) := fun W hW => TW4.out.later (below_then B48.out hW)
    have XL : Hid (∀ W, Below wb.heap.size wb W → XIn W ql N txs) := fun W hW => by
      obtain ⟨a1, a2, a3, a4, -, -⟩ := XOwn.in (XL8.out.later hW)
      rw [HLN.out] at a3 a4
      cases a3
      exact a4
    have XK : Hid (∀ W, Below wb.heap.size wb W → XIn W qk N txs) := fun W hW => by
      obtain ⟨a1, a2, a3, a4, -, -⟩ := XOwn.in (XK8.out.1.later hW)
      rw [HLN.out] at a3 a4
      cases a3
      exact a4
    have e1 : (er != er) = false := by simp
    clear hwb b8 m8 hGK b7 xk rk ML6
    go_wp2_with ((with_reducible refine at_ops ?_); (first | (refine wpList_alloc_is (by rfl) 39 rfl A7.out ?_) | (refine wpList_store_is (by rfl) 39 rfl rfl rfl T7.out ?_)); simp only [Act.put, List.setIfInBounds_toArray, List.set_cons_zero, List.set_cons_succ])
    clear A7 T7
    refine wp_region_noPanic ?_
    refine wp_region_held_drew (S := fun w' => Below wb.heap.size wb w') (by kernel_rfl) (below_drawn 1) (fun hHeld => ?_)
    have D2 : Hid (Below wb.heap.size wb wb.drew) := hHeld
    generalize wb.drew = wd at *
    refine wpAnyH_take (i := 0) (v := ?van1) (by simp; rfl) (by kernel_rfl) (by kernel_rfl) (by kernel_rfl) (fun _ _ _ h => h) (Or.inl ⟨by rfl, ?yan1⟩) hHeld ?ran1
    case yan1 => intro w hSw; clear hSw; go_simp; with_reducible rfl
    simp only [Act.put, List.setIfInBounds_toArray, List.set_cons_zero, List.set_cons_succ]
    refine wpAnyH_take (i := 2) (v := ?van2) (by simp; rfl) (by kernel_rfl) (by kernel_rfl) (by kernel_rfl) (fun _ _ _ h => h) (Or.inl ⟨by rfl, ?yan2⟩) hHeld ?ran2
    case yan2 => intro w hSw; clear hSw; go_simp; with_reducible rfl
    simp only [Act.put, List.setIfInBounds_toArray, List.set_cons_zero, List.set_cons_succ]
    refine wpAnyH_ready (rs := [1]) (by kernel_rfl) (by simp) ?_
    refine AllReadyH.cons (by simp; rfl) (fun Kc hKc => ?_) AllReadyH.nil
    go_simp
    refine (num_any _ _).mono ?_
    rintro e wn ⟨rfl, rfl⟩
    refine hKc.out _ _ D2.out (fun hHeld => ?_)
    clear hKc Kc
    refine wpAnyH_take (i := 3) (v := ?van3) (by simp; rfl) (by kernel_rfl) (by kernel_rfl) (by kernel_rfl) (fun _ _ _ h => h) (Or.inl ⟨by rfl, ?yan3⟩) hHeld ?ran3
    case yan3 => intro w hSw; clear hSw; go_simp; with_reducible rfl
    simp only [Act.put, List.setIfInBounds_toArray, List.set_cons_zero, List.set_cons_succ]
    refine wpAnyH_take (i := 4) (v := ?van4) (by simp; rfl) (by kernel_rfl) (by kernel_rfl) (by kernel_rfl) (fun _ _ _ h => h) (Or.inl ⟨by rfl, ?yan4⟩) hHeld ?ran4
    case yan4 => intro w hSw; clear hSw; go_simp; with_reducible rfl
    simp only [Act.put, List.setIfInBounds_toArray, List.set_cons_zero, List.set_cons_succ]
    refine wpAnyH_take (i := 5) (v := ?van5) (by simp; rfl) (by kernel_rfl) (by kernel_rfl) (by kernel_rfl) (fun _ _ _ h => h) (Or.inl ⟨by rfl, ?yan5⟩) hHeld ?ran5
    case yan5 => intro w hSw; clear hSw; go_simp; with_reducible rfl
    simp only [Act.put, List.setIfInBounds_toArray, List.set_cons_zero, List.set_cons_succ]
    refine wpAnyH_take (i := 7) (v := ?van6) (by simp; rfl) (by kernel_rfl) (by kernel_rfl) (by kernel_rfl) (fun _ _ _ h => h) (Or.inl ⟨by rfl, ?yan6⟩) hHeld ?ran6
    case yan6 => intro w hSw; clear hSw; go_simp; with_reducible rfl
    simp only [Act.put, List.setIfInBounds_toArray, List.set_cons_zero, List.set_cons_succ]
    refine wpAnyH_ready (rs := [6]) (by kernel_rfl) (by simp) ?_
    refine AllReadyH.cons (by simp; rfl) (fun Kc hKc => ?_) AllReadyH.nil
    go_simp
    refine (num_any _ _).mono ?_
    rintro e wn ⟨rfl, rfl⟩
    refine hKc.out _ _ D2.out (fun hHeld => ?_)
    clear hKc Kc
    refine wpAnyH_take (i := 8) (v := ?van7) (by simp; rfl) (by kernel_rfl) (by kernel_rfl) (by kernel_rfl) (fun _ _ _ h => h) (Or.inl ⟨by rfl, ?yan7⟩) hHeld ?ran7
    case yan7 => intro w hSw; clear hSw; go_simp; with_reducible rfl
    simp only [Act.put, List.setIfInBounds_toArray, List.set_cons_zero, List.set_cons_succ]
    refine wpAnyH_take (i := 9) (v := ?van8) (by simp; rfl) (by kernel_rfl) (by kernel_rfl) (by kernel_rfl) (fun _ _ _ h => h) (Or.inl ⟨by rfl, ?yan8⟩) hHeld ?ran8
    case yan8 => intro w hSw; clear hSw; go_simp; with_reducible rfl
    simp only [Act.put, List.setIfInBounds_toArray, List.set_cons_zero, List.set_cons_succ]
    refine wpAnyH_take (i := 10) (v := ?van9) (by simp; rfl) (by kernel_rfl) (by kernel_rfl) (by kernel_rfl) (fun _ _ _ h => h) (Or.inl ⟨by rfl, ?yan9⟩) hHeld ?ran9
    case yan9 => intro w hSw; clear hSw; go_simp; with_reducible rfl
    simp only [Act.put, List.setIfInBounds_toArray, List.set_cons_zero, List.set_cons_succ]
    refine wpAnyH_take (i := 11) (v := _) (by simp; rfl) (by kernel_rfl) (by kernel_rfl) (by kernel_rfl) (fun _ _ _ h => h) (yieldsIf_load_mid (by rfl) 39 (.tmp 11) rfl GL 0 rfl (gcells t0 l0 f0 (.slice ql N cl)) _ (fun _ h => LAt.range (ML.out _ h)) Tryz.underlying39 rfl sizeLg) hHeld ?_
    simp only [Act.put, List.setIfInBounds_toArray, List.set_cons_zero, List.set_cons_succ]
    refine wpAnyH_take (i := 13) (v := _) (by simp; rfl) (by kernel_rfl) (by kernel_rfl) (by kernel_rfl) (fun _ _ _ h => h) (yieldsIf_load_mid (by rfl) 34 (.tmp 9) rfl GW 0 rfl (gcells t0 l0 f0 (.slice qw N cw)) _ (fun _ h => LAt.range (MW.out _ h)) Tryz.underlying34 rfl sizeR) hHeld ?_
    simp only [Act.put, List.setIfInBounds_toArray, List.set_cons_zero, List.set_cons_succ]
    refine wpAnyH_ready (rs := [12]) (by kernel_rfl) (by simp) ?_
    refine AllReadyH.cons (by simp; rfl) (fun Kc hKc => ?_) AllReadyH.nil
    go_simp
    refine (plain_any t0 l0 f0 ql N cl txs _ (XL.out _ D2.out) HWF.out.1 (by omega) HWF.out.2).mono ?_
    rintro e wp1 ⟨qp1, dp1, vp1, rfl, xp1, bp1⟩
    have D3 : Hid (Below wb.heap.size wb wp1) := below_then D2.out bp1
    have XP1 : Hid (XIn wp1 qp1 N txs) := by
      obtain ⟨a1, a2, a3, a4, -, -⟩ := XOwn.in xp1
      rw [HLN.out] at a3 a4
      cases a3
      exact a4
    refine hKc.out _ _ D3.out (fun hHeld => ?_)
    clear hKc Kc xp1 bp1
    refine wpAnyH_ready (rs := [14]) (by kernel_rfl) (by simp) ?_
    refine AllReadyH.cons (by simp; rfl) (fun Kc hKc => ?_) AllReadyH.nil
    go_simp
    refine (same_eq t0 l0 f0 qp1 qw N dp1 cw txs wp1 XP1.out (XW.out _ D3.out) (by omega) HWF.out.2).mono ?_
    rintro e wq1 ⟨rfl, bq1⟩
    have D4 : Hid (Below wb.heap.size wb wq1) := below_then D3.out bq1
    refine hKc.out _ _ D4.out (fun hHeld => ?_)
    clear hKc Kc bq1
    refine wpAnyH_take (i := 15) (v := ?van10) (by simp; rfl) (by kernel_rfl) (by kernel_rfl) (by kernel_rfl) (fun _ _ _ h => h) (Or.inl ⟨by rfl, ?yan10⟩) hHeld ?ran10
    case yan10 => intro w hSw; clear hSw; go_simp; with_reducible rfl
    simp only [Act.put, List.setIfInBounds_toArray, List.set_cons_zero, List.set_cons_succ]
    refine wpAnyH_take (i := 16) (v := ?van11) (by simp; rfl) (by kernel_rfl) (by kernel_rfl) (by kernel_rfl) (fun _ _ _ h => h) (Or.inl ⟨by rfl, ?yan11⟩) hHeld ?ran11
    case yan11 => intro w hSw; clear hSw; go_simp; with_reducible rfl
    simp only [Act.put, List.setIfInBounds_toArray, List.set_cons_zero, List.set_cons_succ]
    refine wpAnyH_take (i := 17) (v := ?van12) (by simp; rfl) (by kernel_rfl) (by kernel_rfl) (by kernel_rfl) (fun _ _ _ h => h) (Or.inl ⟨by rfl, ?yan12⟩) hHeld ?ran12
    case yan12 => intro w hSw; clear hSw; go_simp; with_reducible rfl
    simp only [Act.put, List.setIfInBounds_toArray, List.set_cons_zero, List.set_cons_succ]
    refine wpAnyH_take (i := 18) (v := _) (by simp; rfl) (by kernel_rfl) (by kernel_rfl) (by kernel_rfl) (fun _ _ _ h => h) (yieldsIf_load_mid (by rfl) 39 (.tmp 13) rfl GK 0 rfl (gcells t0 l0 f0 (.slice qk N ck)) _ (fun _ h => LAt.range (MK.out _ h)) Tryz.underlying39 rfl sizeLg) hHeld ?_
    simp only [Act.put, List.setIfInBounds_toArray, List.set_cons_zero, List.set_cons_succ]
    refine wpAnyH_take (i := 20) (v := _) (by simp; rfl) (by kernel_rfl) (by kernel_rfl) (by kernel_rfl) (fun _ _ _ h => h) (yieldsIf_load_mid (by rfl) 34 (.tmp 9) rfl GW 0 rfl (gcells t0 l0 f0 (.slice qw N cw)) _ (fun _ h => LAt.range (MW.out _ h)) Tryz.underlying34 rfl sizeR) hHeld ?_
    simp only [Act.put, List.setIfInBounds_toArray, List.set_cons_zero, List.set_cons_succ]
    refine wpAnyH_ready (rs := [19]) (by kernel_rfl) (by simp) ?_
    refine AllReadyH.cons (by simp; rfl) (fun Kc hKc => ?_) AllReadyH.nil
    go_simp
    refine (plain_any t0 l0 f0 qk N ck txs _ (XK.out _ D4.out) HWF.out.1 (by omega) HWF.out.2).mono ?_
    rintro e wp2 ⟨qp2, dp2, vp2, rfl, xp2, bp2⟩
    have D5 : Hid (Below wb.heap.size wb wp2) := below_then D4.out bp2
    have XP2 : Hid (XIn wp2 qp2 N txs) := by
      obtain ⟨a1, a2, a3, a4, -, -⟩ := XOwn.in xp2
      rw [HLN.out] at a3 a4
      cases a3
      exact a4
    refine hKc.out _ _ D5.out (fun hHeld => ?_)
    clear hKc Kc xp2 bp2
    refine wpAnyH_ready (rs := [21]) (by kernel_rfl) (by simp) ?_
    refine AllReadyH.cons (by simp; rfl) (fun Kc hKc => ?_) AllReadyH.nil
    go_simp
    refine (same_eq t0 l0 f0 qp2 qw N dp2 cw txs wp2 XP2.out (XW.out _ D5.out) (by omega) HWF.out.2).mono ?_
    rintro e wq2 ⟨rfl, bq2⟩
    have D6 : Hid (Below wb.heap.size wb wq2) := below_then D5.out bq2
    refine hKc.out _ _ D6.out (fun hHeld => ?_)
    clear hKc Kc bq2
    refine wpAnyH_take (i := 22) (v := ?van13) (by simp; rfl) (by kernel_rfl) (by kernel_rfl) (by kernel_rfl) (fun _ _ _ h => h) (Or.inl ⟨by rfl, ?yan13⟩) hHeld ?ran13
    case yan13 => intro w hSw; clear hSw; go_simp; with_reducible rfl
    simp only [Act.put, List.setIfInBounds_toArray, List.set_cons_zero, List.set_cons_succ]
    refine wpAnyH_take (i := 23) (v := ?van14) (by simp; rfl) (by kernel_rfl) (by kernel_rfl) (by kernel_rfl) (fun _ _ _ h => h) (Or.inl ⟨by rfl, ?yan14⟩) hHeld ?ran14
    case yan14 => intro w hSw; clear hSw; go_simp; with_reducible rfl
    simp only [Act.put, List.setIfInBounds_toArray, List.set_cons_zero, List.set_cons_succ]
    refine wpAnyH_take (i := 24) (v := ?van15) (by simp; rfl) (by kernel_rfl) (by kernel_rfl) (by kernel_rfl) (fun _ _ _ h => h) (Or.inl ⟨by rfl, ?yan15⟩) hHeld ?ran15
    case yan15 => intro w hSw; clear hSw; go_simp; with_reducible rfl
    simp only [Act.put, List.setIfInBounds_toArray, List.set_cons_zero, List.set_cons_succ]
    refine wpAnyH_take (i := 25) (v := ?van16) (by simp; rfl) (by kernel_rfl) (by kernel_rfl) (by kernel_rfl) (fun _ _ _ h => h) (Or.inl ⟨by rfl, ?yan16⟩) hHeld ?ran16
    case yan16 => intro w hSw; clear hSw; go_simp; with_reducible rfl
    simp only [Act.put, List.setIfInBounds_toArray, List.set_cons_zero, List.set_cons_succ]
    refine wpAnyH_take (i := 26) (v := ?van17) (by simp; rfl) (by kernel_rfl) (by kernel_rfl) (by kernel_rfl) (fun _ _ _ h => h) (Or.inl ⟨by rfl, ?yan17⟩) hHeld ?ran17
    case yan17 => intro w hSw; clear hSw; go_simp; with_reducible rfl
    simp only [Act.put, List.setIfInBounds_toArray, List.set_cons_zero, List.set_cons_succ]
    refine wpAnyH_ready (rs := [27]) (by kernel_rfl) (by simp) ?_
    refine AllReadyH.cons (by simp; rfl) (fun Kc hKc => ?_) AllReadyH.nil
    go_simp
    refine (unchanged_any (TWB.out _ D6.out) hws).mono ?_
    rintro e wu1 ⟨rfl, bu1⟩
    have D7 : Hid (Below wb.heap.size wb wu1) := below_then D6.out bu1
    refine hKc.out _ _ D7.out (fun hHeld => ?_)
    clear hKc Kc bu1
    refine wpAnyH_take (i := 28) (v := ?van18) (by simp; rfl) (by kernel_rfl) (by kernel_rfl) (by kernel_rfl) (fun _ _ _ h => h) (Or.inl ⟨by rfl, ?yan18⟩) hHeld ?ran18
    case yan18 => intro w hSw; clear hSw; go_simp; with_reducible rfl
    simp only [Act.put, List.setIfInBounds_toArray, List.set_cons_zero, List.set_cons_succ]
    refine wpAnyH_take (i := 29) (v := ?van19) (by simp; rfl) (by kernel_rfl) (by kernel_rfl) (by kernel_rfl) (fun _ _ _ h => h) (Or.inl ⟨by rfl, ?yan19⟩) hHeld ?ran19
    case yan19 => intro w hSw; clear hSw; go_simp; with_reducible rfl
    simp only [Act.put, List.setIfInBounds_toArray, List.set_cons_zero, List.set_cons_succ]
    clear hHeld
    refine wpAnyH_done (by kernel_rfl) (NoPanic.normal ?_) _
    have L9 : Hid (_) := LAt.loadLg (ML.out _ D7.out)
    have K9 : Hid (_) := LAt.loadLg (MK.out _ D7.out)
    have H9 : Hid (Calls Tryz.prog 12 #[.agg (gcells t0 l0 f0 (.slice ql N cl)).toArray, .agg (gcells t0 l0 f0 (.slice qk N ck)).toArray] wu1 fun e w' => e = .returned (.bool true) ∧ Below w4.heap.size wu1 w') := apart_any t0 l0 f0 t0 l0 f0 ql qk N cl ck txs vl vk wu1 w4.heap.size w6.heap.size (XL8.out.later D7.out) (XK8.out.1.later D7.out) XL6.out.2.1 (XK8.out.2.mono D7.out.size) XL6.out.2.2 (by omega) HM16.out B46.out.size (Nat.le_trans b68.size D7.out.size)
    have B4u : Hid (Below w4.heap.size w4 wu1) := below_then B48.out D7.out
    clear D2 D3 D4 D5 D6 D7 XP1 XP2 XL XK XL8 XK8 XL6 ML MK MW XW TWB e1 B48 b68 C6
    go_wp2_with ((with_reducible refine at_ops ?_); (first | (refine wpList_load_is (by rfl) 39 rfl rfl L9.out ?_) | (refine wpList_load_is (by rfl) 39 rfl rfl K9.out ?_)); simp only [Act.put, List.setIfInBounds_toArray, List.set_cons_zero, List.set_cons_succ])
    clear L9 K9
    refine H9.out.mono ?_
    rintro e w9 ⟨rfl, b9⟩
    have B49 : Hid (Below w4.heap.size w4 w9) := B4u.out.trans b9
    have L10 : Hid (_) := CAt.load23 (LAt.later C4.out B49.out)
    clear H9 b9 B4u B46
    go_wp2_with ((with_reducible refine at_ops ?_); (refine wpList_load_is (by rfl) 23 rfl rfl L10.out ?_); simp only [Act.put, List.setIfInBounds_toArray, List.set_cons_zero, List.set_cons_succ])
    clear L10
    refine (HR.out w9 _ (TW4.out.dk.later B49.out) (HT.out.later (below_then B4.out B49.out))).mono ?_
    rintro e w10 ⟨qm, cm, vm, rfl, xm, -, b10⟩
    have A11 : Hid (_) := allocLg w10
    have T11 : Hid (_) := storeLg w10 t0 l0 f0 (v := .slice qm N cm) rfl
    obtain ⟨wb, hwb⟩ : ∃ y, y = w10.alloc (.cells (gcells t0 l0 f0 (.slice qm N cm)).toArray 39) := ⟨_, rfl⟩
    rw [← hwb] at T11
    have b11 : Below w10.heap.size w10 wb := by rw [hwb]; exact below_alloc w10 _
    have m11 : LAt 39 wb w10.heap.size (gcells t0 l0 f0 (.slice qm N cm)) := by rw [hwb]; exact LAt.new 39 w10 _
    obtain ⟨GM, hGM⟩ : ∃ GM, GM = w10.heap.size := ⟨_, rfl⟩
    rw [← hGM] at m11 A11 T11
    have B4b : Hid (Below w4.heap.size w4 wb) := below_then B49.out (below_then b10 b11)
    have XM9 : Hid (XOwn 59 wb w9.heap.size (.slice qm N cm) txs vm) := xm.later b11
    have MM : Hid (∀ W, Below wb.heap.size wb W → LAt 39 W GM (gcells t0 l0 f0 (.slice qm N cm))) := fun W hW => LAt.later m11 hW
    have MW : Hid (∀ W, Below wb.heap.size wb W → LAt 34 W GW (gcells t0 l0 f0 (.slice qw N cw))) := fun W hW => LAt.later MW4.out (below_then B4b.out hW)
    have XW : Hid (∀ W, Below wb.heap.size wb W → XIn W qw N txs) := fun W hW => XW4.out.later (below_then B4b.out hW)
    have TWB : Hid (∀ W, Below wb.heap.size wb W → Two w1 W pd pr n xs ws Sd Sr) := fun W hW => TW4.out.later (below_then B4b.out hW)
    have XM : Hid (∀ W, Below wb.heap.size wb W → XIn W qm N txs) := fun W hW => by
      obtain ⟨a1, a2, a3, a4, -, -⟩ := XOwn.in (XM9.out.later hW)
      rw [HLN.out] at a3 a4
      cases a3
      exact a4
    have e2 : (er == er) = true := by simp
    clear hwb b11 m11 hGM b10 xm
    go_wp2_with ((with_reducible refine at_ops ?_); (first | (refine wpList_alloc_is (by rfl) 39 rfl A11.out ?_) | (refine wpList_store_is (by rfl) 39 rfl rfl rfl T11.out ?_)); simp only [Act.put, List.setIfInBounds_toArray, List.set_cons_zero, List.set_cons_succ])
    clear A11 T11
    refine wp_region_noPanic ?_
    refine wp_region_held_drew (S := fun w' => Below wb.heap.size wb w') (by kernel_rfl) (below_drawn 1) (fun hHeld => ?_)
    have D2 : Hid (Below wb.heap.size wb wb.drew) := hHeld
    generalize wb.drew = wd at *
    refine wpAnyH_take (i := 0) (v := ?vao20) (by simp; rfl) (by kernel_rfl) (by kernel_rfl) (by kernel_rfl) (fun _ _ _ h => h) (Or.inl ⟨by rfl, ?yao20⟩) hHeld ?rao20
    case yao20 => intro w hSw; clear hSw; go_simp; with_reducible rfl
    simp only [Act.put, List.setIfInBounds_toArray, List.set_cons_zero, List.set_cons_succ]
    refine wpAnyH_take (i := 2) (v := ?vao21) (by simp; rfl) (by kernel_rfl) (by kernel_rfl) (by kernel_rfl) (fun _ _ _ h => h) (Or.inl ⟨by rfl, ?yao21⟩) hHeld ?rao21
    case yao21 => intro w hSw; clear hSw; go_simp; with_reducible rfl
    simp only [Act.put, List.setIfInBounds_toArray, List.set_cons_zero, List.set_cons_succ]
    refine wpAnyH_ready (rs := [1]) (by kernel_rfl) (by simp) ?_
    refine AllReadyH.cons (by simp; rfl) (fun Kc hKc => ?_) AllReadyH.nil
    go_simp
    refine (num_any _ _).mono ?_
    rintro e wn ⟨rfl, rfl⟩
    refine hKc.out _ _ D2.out (fun hHeld => ?_)
    clear hKc Kc
    refine wpAnyH_take (i := 3) (v := ?vao22) (by simp; rfl) (by kernel_rfl) (by kernel_rfl) (by kernel_rfl) (fun _ _ _ h => h) (Or.inl ⟨by rfl, ?yao22⟩) hHeld ?rao22
    case yao22 => intro w hSw; clear hSw; go_simp; with_reducible rfl
    simp only [Act.put, List.setIfInBounds_toArray, List.set_cons_zero, List.set_cons_succ]
    refine wpAnyH_take (i := 4) (v := ?vao23) (by simp; rfl) (by kernel_rfl) (by kernel_rfl) (by kernel_rfl) (fun _ _ _ h => h) (Or.inl ⟨by rfl, ?yao23⟩) hHeld ?rao23
    case yao23 => intro w hSw; clear hSw; go_simp; with_reducible rfl
    simp only [Act.put, List.setIfInBounds_toArray, List.set_cons_zero, List.set_cons_succ]
    refine wpAnyH_take (i := 5) (v := _) (by simp; rfl) (by kernel_rfl) (by kernel_rfl) (by kernel_rfl) (fun _ _ _ h => h) (yieldsIf_load_mid (by rfl) 39 (.tmp 15) rfl GM 0 rfl (gcells t0 l0 f0 (.slice qm N cm)) _ (fun _ h => LAt.range (MM.out _ h)) Tryz.underlying39 rfl sizeLg) hHeld ?_
    simp only [Act.put, List.setIfInBounds_toArray, List.set_cons_zero, List.set_cons_succ]
    refine wpAnyH_take (i := 7) (v := _) (by simp; rfl) (by kernel_rfl) (by kernel_rfl) (by kernel_rfl) (fun _ _ _ h => h) (yieldsIf_load_mid (by rfl) 34 (.tmp 9) rfl GW 0 rfl (gcells t0 l0 f0 (.slice qw N cw)) _ (fun _ h => LAt.range (MW.out _ h)) Tryz.underlying34 rfl sizeR) hHeld ?_
    simp only [Act.put, List.setIfInBounds_toArray, List.set_cons_zero, List.set_cons_succ]
    refine wpAnyH_ready (rs := [6]) (by kernel_rfl) (by simp) ?_
    refine AllReadyH.cons (by simp; rfl) (fun Kc hKc => ?_) AllReadyH.nil
    go_simp
    refine (plain_any t0 l0 f0 qm N cm txs _ (XM.out _ D2.out) HWF.out.1 (by omega) HWF.out.2).mono ?_
    rintro e wp3 ⟨qp3, dp3, vp3, rfl, xp3, bp3⟩
    have D3 : Hid (Below wb.heap.size wb wp3) := below_then D2.out bp3
    have XP3 : Hid (XIn wp3 qp3 N txs) := by
      obtain ⟨a1, a2, a3, a4, -, -⟩ := XOwn.in xp3
      rw [HLN.out] at a3 a4
      cases a3
      exact a4
    refine hKc.out _ _ D3.out (fun hHeld => ?_)
    clear hKc Kc xp3 bp3
    refine wpAnyH_ready (rs := [8]) (by kernel_rfl) (by simp) ?_
    refine AllReadyH.cons (by simp; rfl) (fun Kc hKc => ?_) AllReadyH.nil
    go_simp
    refine (same_eq t0 l0 f0 qp3 qw N dp3 cw txs wp3 XP3.out (XW.out _ D3.out) (by omega) HWF.out.2).mono ?_
    rintro e wq3 ⟨rfl, bq3⟩
    have D4 : Hid (Below wb.heap.size wb wq3) := below_then D3.out bq3
    refine hKc.out _ _ D4.out (fun hHeld => ?_)
    clear hKc Kc bq3
    refine wpAnyH_take (i := 9) (v := ?vao24) (by simp; rfl) (by kernel_rfl) (by kernel_rfl) (by kernel_rfl) (fun _ _ _ h => h) (Or.inl ⟨by rfl, ?yao24⟩) hHeld ?rao24
    case yao24 => intro w hSw; clear hSw; go_simp; with_reducible rfl
    simp only [Act.put, List.setIfInBounds_toArray, List.set_cons_zero, List.set_cons_succ]
    refine wpAnyH_take (i := 10) (v := ?vao25) (by simp; rfl) (by kernel_rfl) (by kernel_rfl) (by kernel_rfl) (fun _ _ _ h => h) (Or.inl ⟨by rfl, ?yao25⟩) hHeld ?rao25
    case yao25 => intro w hSw; clear hSw; go_simp; with_reducible rfl
    simp only [Act.put, List.setIfInBounds_toArray, List.set_cons_zero, List.set_cons_succ]
    refine wpAnyH_take (i := 11) (v := ?vao26) (by simp; rfl) (by kernel_rfl) (by kernel_rfl) (by kernel_rfl) (fun _ _ _ h => h) (Or.inl ⟨by rfl, ?yao26⟩) hHeld ?rao26
    case yao26 => intro w hSw; clear hSw; go_simp; with_reducible rfl
    simp only [Act.put, List.setIfInBounds_toArray, List.set_cons_zero, List.set_cons_succ]
    refine wpAnyH_take (i := 12) (v := ?vao27) (by simp; rfl) (by kernel_rfl) (by kernel_rfl) (by kernel_rfl) (fun _ _ _ h => h) (Or.inl ⟨by rfl, ?yao27⟩) hHeld ?rao27
    case yao27 => intro w hSw; clear hSw; go_simp; with_reducible rfl
    simp only [Act.put, List.setIfInBounds_toArray, List.set_cons_zero, List.set_cons_succ]
    refine wpAnyH_ready (rs := [13]) (by kernel_rfl) (by simp) ?_
    refine AllReadyH.cons (by simp; rfl) (fun Kc hKc => ?_) AllReadyH.nil
    go_simp
    refine (unchanged_any (TWB.out _ D4.out) hws).mono ?_
    rintro e wu3 ⟨rfl, bu3⟩
    have D5 : Hid (Below wb.heap.size wb wu3) := below_then D4.out bu3
    refine hKc.out _ _ D5.out (fun hHeld => ?_)
    clear hKc Kc bu3
    refine wpAnyH_take (i := 14) (v := ?vao28) (by simp; rfl) (by kernel_rfl) (by kernel_rfl) (by kernel_rfl) (fun _ _ _ h => h) (Or.inl ⟨by rfl, ?yao28⟩) hHeld ?rao28
    case yao28 => intro w hSw; clear hSw; go_simp; with_reducible rfl
    simp only [Act.put, List.setIfInBounds_toArray, List.set_cons_zero, List.set_cons_succ]
    refine wpAnyH_take (i := 15) (v := ?vao29) (by simp; rfl) (by kernel_rfl) (by kernel_rfl) (by kernel_rfl) (fun _ _ _ h => h) (Or.inl ⟨by rfl, ?yao29⟩) hHeld ?rao29
    case yao29 => intro w hSw; clear hSw; go_simp; with_reducible rfl
    simp only [Act.put, List.setIfInBounds_toArray, List.set_cons_zero, List.set_cons_succ]
    clear hHeld
    refine wpAnyH_done (by kernel_rfl) (NoPanic.normal ?_) _
    have FF : Hid (Below w.heap.size w wu3) := below_then B4.out (below_then B4b.out D5.out)
    clear D2 D3 D4 D5
    go_wp2_with fail
    go_ret
    exact ⟨rfl, FF.out⟩
end Go.Proofs.YtefnkjajjidfaaaGreatDoor
namespace Go.Proofs.YtefnkjajjidfaaaGreatDoor
open Go.ChangeShapes Go.WideShapes Go.ChangeAt Go.RowKit

set_option maxRecDepth 100000 in
theorem scanExact_lifted (os : Os) (started : os.Started) (H : Type) (enc : TypeId × Value → H) :
    ReturnsInHanded {} Tryz.checked os 3 .any (fun w args => (Rows.scanExactSpec.pre enc Tryz.prog Tryz.f3 [] false w args ∧ laidMetH Tryz.prog laidS w) ∧ sizedMet enc Tryz.prog Tryz.f3 (OpenSpec.ofChange Rows.scanExactSpec) false w args)
      (Rows.scanExactSpec.post enc Tryz.prog Tryz.f3 false true false false) := by
  refine returnsInHanded_of_change_and (C := Tryz.checked) (X := fun w _ => laidMetH Tryz.prog laidS w) (fun _ _ _ hh h => h.of_heap hh) ownK started (by kernel_rfl) Tryz.func3
    (ChangeSpec.witness_shaped (enc := enc) (C := Tryz.checked) (os := os) (X := fun w _ => laidMetH Tryz.prog laidS w) false (World.doorLaid Tryz.prog 400 os) #[.agg (ccells sup0).toArray, .slice none 0 0, .slice none 0 0] 8 rfl (World.shaped_of_RefB (by kernel_rfl) (by kernel_rfl)) (by kernel_rfl) (by kernel_rfl) (by kernel_rfl) (door_met os _)) ?_
  intro W base args ds gs before hval0 hW _ hsz hL _
  have hval : ∀ (j : Nat) t v, Tryz.f3.params[j]? = some t → args[j]? = some v → Value.okWide Tryz.prog W .any base t v := hval0
  have hW' := hW
  obtain ⟨p, q, hA0, hV, rfl, hfz, hnd⟩ := hW
  have hA : DataW.TrodAll enc Tryz.prog W 0 (fun _ => true) true Tryz.f3.params.toList args.toList ds p := hA0
  rw [Tryz.params3] at hA hval
  obtain ⟨v0, vs0, d0, ds0, p0, q0, hargs, rfl, rfl, h0, r0⟩ := trodAll_cons hA
  obtain ⟨v1, vs1, d1, ds1, p1, q1, rfl, rfl, rfl, h1, r1⟩ := trodAll_cons r0
  obtain ⟨v2, vs2, d2, ds2, p2, q2, rfl, rfl, rfl, h2, r2⟩ := trodAll_cons r1
  obtain ⟨rfl, rfl, rfl⟩ := trodAll_nil r2
  obtain rfl : args = #[v0, v1, v2] := by cases args; simp_all
  obtain ⟨rfl, rfl⟩ := trodVars_none hV
  have hsz' : (DataW.weightsEach Tryz.prog (Tryz.f3.params.toList ++ Rows.scanExactSpec.plain.varTypes Tryz.prog) (([d0, d1, d2] : List (DataW H)) ++ [])).all (· ≤ reachBytes) = true := hsz
  rw [Tryz.params3] at hsz'
  obtain ⟨cs0, rfl, hn0⟩ := okWide_struct Tryz.underlying23 (hval 0 23 v0 rfl rfl)
  rw [cellsC] at hn0
  have k0 := h0
  have lt0 : ∀ x ∈ p0, x.block < W.heap.size := by obtain ⟨m, hm⟩ := k0; exact DataW.trod_lt m _ _ _ hm
  obtain ⟨s0, rfl⟩ := openedCfg hn0 h0
  obtain ⟨a1, len1, cap1, rfl⟩ := okWide_slice Tryz.underlying24 (hval 1 24 v1 rfl rfl)
  have k1 := h1
  have lt1 : ∀ x ∈ p1, x.block < W.heap.size := by obtain ⟨m, hm⟩ := k1; exact DataW.trod_lt m _ _ _ hm
  obtain ⟨bs1, hb1, hl1, ha1⟩ := openedIm h1 (fun k hk => by have := List.all_eq_true.1 hsz' k (DataW.weights_mem_each (j := 1) (t := 24) rfl rfl k hk); simpa using this)
  obtain ⟨a2, len2, cap2, rfl⟩ := okWide_slice Tryz.underlying25 (hval 2 25 v2 rfl rfl)
  have k2 := h2
  have lt2 : ∀ x ∈ p2, x.block < W.heap.size := by obtain ⟨m, hm⟩ := k2; exact DataW.trod_lt m _ _ _ hm
  obtain ⟨ws2, hb2, hl2⟩ := openedW h2 (fun k hk => by have := List.all_eq_true.1 hsz' k (DataW.weights_mem_each (j := 2) (t := 25) rfl rfl k hk); simpa using this)
  clear hA0 hval0
  refine (scanExact_any s0 a1 len1 cap1 bs1 a2 len2 cap2 ws2 W (tab_of hL) hb1 hl1 ha1 hb2 hl2).mono fun e W' ⟨he, bel⟩ => ?_
  subst he
  exact ⟨_, rfl, _, _, _, [], _, [], hW', trodAll_mk1 (shut_bool Tryz.underlying4 _), (trodAll_cons_mk (Below.trod laidK (by kernel_rfl) (of_decide_eq_true (by kernel_rfl)) k0 bel lt0) (trodAll_cons_mk (Below.trod laidK (by kernel_rfl) (of_decide_eq_true (by kernel_rfl)) k1 bel lt1) (trodAll_cons_mk (Below.trod laidK (by kernel_rfl) (of_decide_eq_true (by kernel_rfl)) k2 bel lt2) trodAll_mk0))), rfl, bel.frame _, fun h => by cases h⟩

theorem scanExact_row : Rows.ScanExactSaid :=
  OpenClaim.holds_of_wide 3 Tryz.f3 rfl rfl rfl rfl rfl rfl rfl ⟨rfl, rfl, rfl, rfl, rfl⟩ rfl rfl rfl rfl rfl (by kernel_rfl) Tryz.func3 (by kernel_rfl)
    (of_decide_eq_true (by kernel_rfl)) (by unfold Func.isWrapper; first | (rw [if_pos (by decide +kernel)]; kernel_rfl) | (rw [if_neg (by decide +kernel)]; exact ⟨rfl, rfl⟩))
    (fun os started H enc _ => scanExact_lifted os started H enc)

theorem scanExact_holds : Rows.ScanExactCardSaid :=
  Claim7.holds_tied_plain_at .later [] [.data, .data] true (true, "ef2e3292cee65509e45ca05fc3afa5bcf60c740925d0a004b171580c31c67b6c") false
    scanExact_row (fun _ h => by cases h) (by kernel_rfl) (fun _ h => by cases h) scanExact_row_tie rfl ⟨rfl, rfl⟩ (by kernel_rfl) rfl
    (fun f fn hf hfn => by
      obtain rfl : f = 3 := Option.some.inj ((show Tryz.prog.funcNamed "wicket/wicketlaw10.ScanExact" = some 3 by kernel_rfl).symm.trans hf) |>.symm
      obtain rfl : fn = Tryz.f3 := (Option.some.inj (Tryz.func3.symm.trans hfn)).symm
      exact ⟨by kernel_rfl, fun j t ht => by
        rw [Tryz.params3] at ht
        have hm : t ∈ [23, 24, 25] := by simpa using Array.mem_of_getElem? ht
        have hall : ([23, 24, 25].all fun u => !Tryz.prog.wantsStandIn u) = true := by kernel_rfl
        exact (show Tryz.prog.wantsStandIn t = false by simpa using List.all_eq_true.1 hall t hm)⟩)
    (by kernel_rfl)
#print axioms scanExact_holds
end Go.Proofs.YtefnkjajjidfaaaGreatDoor
