/-
  What the rows of layer 6 share: the listed table, and how a []byte that came in is opened.
-/
import Derived.Test.YtndildimnanlpaaDoorLc
import Derived.ProofKit
import Derived.LaidMore
import Derived.OpenShut
import Derived.Stop.Joined
import Derived.Lib.LaidTab
import Derived.ShutString
import Derived.ChangeOld
import Derived.SizedLaws
namespace Go.Proofs.YtndildimnanlpaaDoor
open Go.ChangeShapes Go.WideShapes Go.ChangeAt Go.RowKit

theorem ownK : ownKnob Tryd.prog.godebug = none := by kernel_rfl
theorem gHalves : Tryd.prog.globalNamed "wicket/sum.halves" = some 0 := by kernel_rfl
theorem tHalves : (Tryd.prog.globals[0]?).map (·.type) = some 70 := by kernel_rfl
theorem cells38 : Tryd.prog.cellsOf 38 = 1 := by kernel_rfl
theorem cells70 : Tryd.prog.cellsOf 70 = 16 := by kernel_rfl

def zs16 : List Int := [0, 498536548, 997073096, 651767980, 1994146192, 1802195444, 1303535960, 1342533948, 3988292384, 4027552580, 3604390888, 3412177804, 2607071920, 2262029012, 2685067896, 3183342108]
theorem zs16_table : ∀ i, i < 16 → zs16[i]? = some ((table.getD i 0 : Nat) : Int) := by decide

abbrev laidS : List (String × DataW Unit) := [("wicket/sum.halves", Rows.laid_wicket_sum_halves)]

/-- the door's own heap meets the condition -/
theorem door_met (os : Os) (args : Array Value) : laidMetH Tryd.prog laidS ((World.doorLaid Tryd.prog 400 os).forCall (fun _ _ => 0) ⟨#[], args, []⟩).memory :=
  laidMetH_of_parts3 (fuel := 8) (laidMet_of_run' 8 (by kernel_rfl) (by kernel_rfl)) (by kernel_rfl) (by kernel_rfl)

/-- what the condition gives the walks: the table -/
theorem tab_of {W : World} (h : laidMetH Tryd.prog laidS W) : Tab W := by
  rw [MakeChecks.laidMetH_plain _ _ _ (by kernel_rfl)] at h
  have h' : laidMet Tryd.prog [("wicket/sum.halves", Lib.tabData .u32 zs16)] W := h
  have hT := Lib.tabIs_of_head gHalves tHalves Tryd.underlying70 Tryd.underlying38 cells38 cells70 h'
  intro i hi
  rw [World.var?_cell gHalves hT i]
  have := zs16_table i hi
  simp [this]
end Go.Proofs.YtndildimnanlpaaDoor
