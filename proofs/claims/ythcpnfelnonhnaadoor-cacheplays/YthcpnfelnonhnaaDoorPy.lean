/-
  The law's own variable.
-/
import Derived.Test.YthcpnfelnonhnaaDoorPx
import Derived.LaidMore
import Derived.Stop.Joined
import Derived.Stop.LaidErr
import Derived.ChangeSame
import Derived.Lib.LaidTab
namespace Go.Proofs.YthcpnfelnonhnaaDoor
open Go.RowKit

open Go.ChangeShapes Go.WideShapes Go.ChangeAt
theorem gMark : Tryd.prog.globalNamed "wicket/wicketlaw17.mark" = some 0 := by kernel_rfl
theorem tMark : (Tryd.prog.globals[0]?).map (·.type) = some 57 := by kernel_rfl
abbrev laidS : List (String × DataW Unit) := [("wicket/wicketlaw17.mark", Rows.laid_wicket_wicketlaw17_mark)]
/-- the door's own heap meets the condition -/
theorem door_met (os : Os) (args : Array Value) : laidMetH Tryd.prog laidS ((World.doorLaid Tryd.prog 400 os).forCall (fun _ _ => 0) ⟨#[], args, []⟩).memory :=
  laidMetH_of_parts3 (fuel := 8) (laidMet_of_run' 8 (by kernel_rfl) (by kernel_rfl)) (by kernel_rfl) (by kernel_rfl)
theorem zv_of {H : Type} {enc : TypeId × Value → H} {W : World} {b : Nat} {sp : Nat → Bool} {held : Bool} {m : Nat} {cs : List Value} {p : List MemPlace} (h : DataW.trod enc Tryd.prog W b sp held m 52 cs = some (.agg (List.replicate 32 (.lit (.int .u8 0))), p)) : cs = U8 (zs 32) := by
  obtain ⟨xs, m', _, e, hl, hxl, hf⟩ := DataW.trod_array Tryd.underlying52 h
  rw [cellsVl] at hl
  have e1 : List.replicate 32 (DataW.lit (.int .u8 0)) = xs.map (·.1) := by
    have := congrArg Prod.fst e
    injection this
  apply List.ext_getElem?
  intro i
  by_cases hi : i < 32
  · have g := hf i hi
    rw [cellsU8, Nat.mul_one] at g
    have hx : (xs.map (·.1))[i]? = some (.lit (.int .u8 0)) := by rw [← e1, List.getElem?_replicate, if_pos hi]
    rw [List.getElem?_map] at hx
    obtain ⟨y, hy, hy1⟩ := Option.map_eq_some_iff.1 hx
    rw [hy] at g
    obtain ⟨x, ex, d, _⟩ := DataW.trod_int Tryd.underlying5 g
    have h1 := drop_one _ _ _ ex
    rw [d] at hy1
    have hx0 : x = 0 := by simpa using hy1
    rw [h1, hx0, List.getElem?_map, show zs 32 = List.replicate 32 0 from rfl, List.getElem?_replicate, if_pos hi]
    rfl
  · rw [List.getElem?_eq_none (by omega), List.getElem?_eq_none (by simp [zs_len]; omega)]
theorem mark_of {H : Type} {enc : TypeId × Value → H} {W : World} {b : Nat} {sp : Nat → Bool} {held : Bool} {m : Nat} {cs : List Value} {p : List MemPlace} (h : DataW.trod enc Tryd.prog W b sp held m 57 cs = some (Rows.laid_wicket_wicketlaw17_mark, p)) : cs = ecells mkE := by
  obtain ⟨xs, k, _, e, hl, hxl, hf⟩ := DataW.trod_struct Tryd.underlying57 h
  rw [cellsEn] at hl
  have hxl3 : xs.length = 3 := hxl
  have ed := congrArg Prod.fst e
  match xs, hxl3 with
  | [y0, y1, y2], _ =>
    have g0 : DataW.trod enc Tryd.prog W b sp held k 3 ((cs.drop 0).take (Tryd.prog.cellsOf 3)) = some y0 := hf 0 _ rfl
    have g1 : DataW.trod enc Tryd.prog W b sp held k 52 ((cs.drop 1).take (Tryd.prog.cellsOf 52)) = some y1 := hf 1 _ rfl
    have g2 : DataW.trod enc Tryd.prog W b sp held k 44 ((cs.drop 33).take (Tryd.prog.cellsOf 44)) = some y2 := hf 2 _ rfl
    rw [cells3'] at g0
    rw [cellsVl] at g1
    rw [cellsU64] at g2
    obtain ⟨d1, p1⟩ := y1
    obtain ⟨a0, e0, d0, _⟩ := DataW.trod_int Tryd.underlying3 g0
    obtain ⟨a2, e2, d2, _⟩ := DataW.trod_int Tryd.underlying44 g2
    rw [d0, d2] at ed
    simp only [Rows.laid_wicket_wicketlaw17_mark, List.map_cons, List.map_nil, DataW.agg.injEq, List.cons.injEq, and_true] at ed
    obtain ⟨ea, eb, ec⟩ := ed
    have h1 := zv_of (p := p1) (show DataW.trod enc Tryd.prog W b sp held k 52 ((cs.drop 1).take 32) = some (.agg (List.replicate 32 (.lit (.int .u8 0))), p1) by rw [g1, ← eb]; rfl)
    have ha : a0 = -7 := by simpa using ea.symm
    have hc : a2 = 0 := by simpa using ec.symm
    subst ha; subst hc
    have k1 : cs.take 1 = [.int .i64 (-7)] := e0
    have k2 : cs.drop 1 = (cs.drop 1).take 32 ++ cs.drop 33 := by rw [show cs.drop 33 = (cs.drop 1).drop 32 by rw [List.drop_drop], List.take_append_drop]
    have k3 : cs.drop 33 = [.int .u64 0] := by rw [← e2, List.take_of_length_le (by rw [List.length_drop]; omega)]
    rw [← List.take_append_drop 1 cs, k1, k2, h1, k3]; rfl
/-- what the condition gives the walks -/
theorem tab_of {W : World} (h : laidMetH Tryd.prog laidS W) : Tab W := by
  rw [MakeChecks.laidMetH_plain _ _ _ (by kernel_rfl)] at h
  have h' : laidMet Tryd.prog [("wicket/wicketlaw17.mark", Rows.laid_wicket_wicketlaw17_mark)] W := h
  obtain ⟨ps, ⟨g', t', cs, fuel, p, q, hg', ht', hvar, hd, _, _⟩, _⟩ := h'
  obtain rfl := Option.some.inj (gMark.symm.trans hg')
  obtain rfl := Option.some.inj (tMark.symm.trans ht')
  have hc := mark_of hd
  have hr : W.rangeAt 0 0 (ecells mkE) := fun j v hv => by
    have := World.var?_cell gMark hvar j
    rw [Nat.zero_add, this, ← Array.getElem?_toList, hc]
    exact hv
  exact ⟨World.block_lt_of_cell? W _ (hr 0 _ rfl), hr⟩
end Go.Proofs.YthcpnfelnonhnaaDoor
