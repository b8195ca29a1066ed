/-
  What the rows of layer 10 share: the listed tables.
-/
import Derived.ProofKit
import Derived.LaidMore
import Derived.OpenShut
import Derived.Stop.Joined
import Derived.Stop.LaidErr
import Derived.ChangeSame
import Derived.Lib.LaidTab
import Derived.ShutString
import Derived.ChangeOld
import Derived.SizedLaws
import Derived.Test.YtefnkjajjidfaaaDoorHa
namespace Go.Proofs.YtefnkjajjidfaaaDoor
open Go.ChangeShapes Go.WideShapes Go.ChangeAt Go.RowKit

theorem ownK : ownKnob Tryd.prog.godebug = none := by kernel_rfl
theorem gHalves : Tryd.prog.globalNamed "wicket/sum.halves" = some 1 := by kernel_rfl
theorem tHalves : (Tryd.prog.globals[1]?).map (·.type) = some 160 := by kernel_rfl
theorem gFields : Tryd.prog.globalNamed "wicket/super.fields" = some 0 := by kernel_rfl
theorem tFields : (Tryd.prog.globals[0]?).map (·.type) = some 151 := by kernel_rfl
theorem cells38 : Tryd.prog.cellsOf 44 = 1 := by kernel_rfl
theorem cells78 : Tryd.prog.cellsOf 160 = 16 := by kernel_rfl
theorem cells62 : Tryd.prog.cellsOf 150 = 2 := by kernel_rfl
theorem cells3 : Tryd.prog.cellsOf 3 = 1 := by kernel_rfl

def zs16 : List Int := [0, 498536548, 997073096, 651767980, 1994146192, 1802195444, 1303535960, 1342533948, 3988292384, 4027552580, 3604390888, 3412177804, 2607071920, 2262029012, 2685067896, 3183342108]
theorem zs16_table : ∀ i, i < 16 → zs16[i]? = some ((table.getD i 0 : Nat) : Int) := by decide

abbrev laidS : List (String × DataW Unit) := [("wicket/sum.halves", Rows.laid_wicket_sum_halves), ("wicket/super.fields", Rows.laid_wicket_super_fields)]

/-- the door's own heap meets the condition -/
theorem door_met (os : Os) (args : Array Value) : laidMetH Tryd.prog laidS ((World.doorLaid Tryd.prog 400 os).forCall (fun _ _ => 0) ⟨#[], args, []⟩).memory :=
  laidMetH_of_parts3 (fuel := 8) (laidMet_of_run' 8 (by kernel_rfl) (by kernel_rfl)) (by kernel_rfl) (by kernel_rfl)

def pairD {H : Type} (a k : Nat) : DataW H := .agg [.lit (.int .i64 (a : Int)), .lit (.int .i64 (k : Int))]
theorem drop_one {α : Type} (l : List α) (i : Nat) (v : α) (h : (l.drop i).take 1 = [v]) : l[i]? = some v := by
  have e : ((l.drop i).take 1)[0]? = some v := by rw [h]; rfl
  rw [List.getElem?_take, if_pos (by omega), List.getElem?_drop] at e
  exact e
theorem pair_of {H : Type} {enc : TypeId × Value → H} {W : World} {b : Nat} {sp : Nat → Bool} {held : Bool} {m : Nat} {cs : List Value} {p : List MemPlace} {a k : Nat} (h : DataW.trod enc Tryd.prog W b sp held m 150 cs = some (pairD a k, p)) :
    cs[0]? = some (.int .i64 (a : Int)) ∧ cs[1]? = some (.int .i64 (k : Int)) := by
  obtain ⟨xs, n, _, e, _, hxl, hg⟩ := DataW.trod_struct Tryd.underlying150 h
  have hxl2 : xs.length = 2 := hxl
  have g0 : DataW.trod enc Tryd.prog W b sp held n 3 ((cs.drop 0).take (Tryd.prog.cellsOf 3)) = xs[0]? := hg 0 _ rfl
  have g1 : DataW.trod enc Tryd.prog W b sp held n 3 ((cs.drop 1).take (Tryd.prog.cellsOf 3)) = xs[1]? := hg 1 _ rfl
  rw [cells3, List.getElem?_eq_getElem (by omega)] at g0 g1
  obtain ⟨a0, e0, d0, _⟩ := DataW.trod_int Tryd.underlying3 g0
  obtain ⟨a1, e1, d1, _⟩ := DataW.trod_int Tryd.underlying3 g1
  have f0 := drop_one _ _ _ e0
  have f1 := drop_one _ _ _ e1
  have ed := congrArg Prod.fst e
  match xs, hxl2 with
  | [y0, y1], _ =>
    simp only [List.getElem_cons_zero, List.getElem_cons_succ] at d0 d1
    rw [d0, d1] at ed
    simp [pairD] at ed
    rw [f0, f1, ed.1, ed.2]
    exact ⟨rfl, rfl⟩
def fdata {H : Type} : List (DataW H) := [pairD 6 1, pairD 8 1, pairD 9 1, pairD 10 1, pairD 11 1, pairD 12 1, pairD 16 8, pairD 24 8]
theorem fdata_at {H : Type} (i : Nat) (h : i < 8) : (fdata (H := H))[i]? = some (pairD (fa.getD i 0) (fw.getD i 0)) := by
  have : i = 0 ∨ i = 1 ∨ i = 2 ∨ i = 3 ∨ i = 4 ∨ i = 5 ∨ i = 6 ∨ i = 7 := by omega
  rcases this with rfl | rfl | rfl | rfl | rfl | rfl | rfl | rfl <;> rfl
theorem flds_of {H : Type} {enc : TypeId × Value → H} {W : World} {b : Nat} {sp : Nat → Bool} {held : Bool} {m : Nat} {cs : List Value} {p : List MemPlace} (h : DataW.trod enc Tryd.prog W b sp held m 151 cs = some (.agg fdata, p)) (i : Nat) (hi : i < 8) :
    cs[2 * i]? = some (.int .i64 ((fa.getD i 0 : Nat) : Int)) ∧ cs[2 * i + 1]? = some (.int .i64 ((fw.getD i 0 : Nat) : Int)) := by
  obtain ⟨xs, m', _, e, _, hxl, hf⟩ := DataW.trod_array Tryd.underlying151 h
  have e1 : fdata = xs.map (·.1) := by
    have := congrArg Prod.fst e
    injection this
  have g := hf i hi
  rw [cells62] at g
  have hx : (xs.map (·.1))[i]? = some (pairD (fa.getD i 0) (fw.getD i 0)) := by rw [← e1]; exact fdata_at i hi
  rw [List.getElem?_map] at hx
  obtain ⟨y, hy, hy1⟩ := Option.map_eq_some_iff.1 hx
  rw [hy] at g
  obtain ⟨d, pp⟩ := y
  simp only at hy1
  subst hy1
  have hp := pair_of g
  rw [List.getElem?_take, if_pos (by omega), List.getElem?_drop, List.getElem?_take, if_pos (by omega), List.getElem?_drop] at hp
  rw [show i * 2 + 0 = 2 * i by omega, show i * 2 + 1 = 2 * i + 1 by omega] at hp
  exact hp

/-- what the condition gives the walks: the tables -/
theorem tab_of {W : World} (h : laidMetH Tryd.prog laidS W) : Tab W := by
  rw [MakeChecks.laidMetH_plain _ _ _ (by kernel_rfl)] at h
  have h' : laidMet Tryd.prog [("wicket/sum.halves", Lib.tabData .u32 zs16), ("wicket/super.fields", .agg fdata)] W := h
  refine ⟨?_, ?_⟩
  · have hT := Lib.tabIs_of_head gHalves tHalves Tryd.underlying160 Tryd.underlying44 cells38 cells78 h'
    intro i hi
    rw [World.var?_cell gHalves hT i]
    have := zs16_table i hi
    simp [this]
  · obtain ⟨ps, ⟨g', t', cs, fuel, p, q, hg', ht', hvar, hd, _, _⟩, _⟩ := h'.tail
    obtain rfl := Option.some.inj (gFields.symm.trans hg')
    obtain rfl := Option.some.inj (tFields.symm.trans ht')
    intro i hi
    have hf := flds_of hd i hi
    rw [World.var?_cell gFields hvar (2 * i), World.var?_cell gFields hvar (2 * i + 1)]
    simpa using hf
end Go.Proofs.YtefnkjajjidfaaaDoor
