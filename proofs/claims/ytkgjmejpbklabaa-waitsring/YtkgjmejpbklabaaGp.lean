/-
  Layer 15: slices.BinarySearch of []uint64; place.
-/
import Derived.Test.YtkgjmejpbklabaaGl
namespace Go.Proofs.Ytkgjmejpbklabaa
open Go.RowKit

open B (IIn I64)
open Go.Sort

/-- tickets, by their places -/
def TC (w : World) (tb : Nat) (ts : List Int) : Prop := ∀ j, j < ts.length → w.cell? ⟨tb, j, none⟩ = some (.int .u64 (ts.getD j 0))
set_option maxHeartbeats 2000000 in
set_option maxRecDepth 100000 in
theorem nanS_is (x : Int) (w : World) : Calls Try.prog 60 #[.int .u64 x] w fun e w' => e = .returned (.bool false) ∧ w' = w := by
  go_enter Try.func60, Try.ntmps60
  go_wp2
  go_ret
  exact ⟨by simp, rfl⟩
theorem up_lt {ts : List Int} (h : ts.Pairwise (· < ·)) {J h' : Nat} {x : Int} (hJ : ts[J]? = some x) (hh : h' < ts.length) : ltInt (ts.getD h' 0) x = decide (h' < J) := by
  rw [List.pairwise_iff_getElem] at h
  obtain ⟨hj, e⟩ := List.getElem?_eq_some_iff.1 hJ
  have hd : ts.getD h' 0 = ts[h'] := by simp [List.getD, List.getElem?_eq_getElem hh]
  rw [hd, ← e]
  unfold ltInt
  by_cases hc : h' < J
  · have := h h' J hh hj hc
    simp [hc, this]
  · have : ¬ ts[h'] < ts[J] := by
      by_cases e2 : h' = J
      · subst e2; omega
      · have := h J h' hj hh (by omega); omega
    simp [hc, this]
set_option maxHeartbeats 2000000 in
set_option maxRecDepth 100000 in
theorem bsearch_at {w : World} {tb n c J : Nat} {ts : List Int} {x : Int} (hn : ts.length = n) (hz : n ≤ 10000) (hT : TC w tb ts) (hup : ts.Pairwise (· < ·)) (hJ : ts[J]? = some x) :
    Calls Try.prog 43 #[.slice (some ⟨tb, 0, none⟩) n c, .int .u64 x] w fun e w' => e = .returned (.tuple #[.int .i64 (J : Int), .bool true]) ∧ w' = w := by
  have hJn : J < n := by rw [← hn]; exact (List.getElem?_eq_some_iff.1 hJ).1
  have HT : Hid (∀ j, j < n → w.cell? ⟨tb, j, none⟩ = some (.int .u64 (ts.getD j 0))) := fun j hj => hT j (by omega)
  have HL : Hid (∀ j, j < n → ltInt (ts.getD j 0) x = decide (j < J)) := fun j hj => up_lt hup hJ (by omega)
  have HX : Hid (ts.getD J 0 = x) := by show _ = _; simp [List.getD, hJ]
  clear hT hup hn hJ
  go_enter Try.func43, Try.ntmps43
  go_wp2_with fail
  go_loopw [7, 8] (fun v v2 W => ∃ (i j : Nat), v = .int .i64 (i : Int) ∧ v2 = .int .i64 (j : Int) ∧ i ≤ J ∧ J ≤ j ∧ j ≤ n ∧ Hid (W = w)) (fun v v2 _ => (intV v2).toNat - (intV v).toNat)
  case atStart => exact ⟨0, n, rfl, rfl, by omega, by omega, by omega, rfl⟩
  case round =>
    obtain ⟨i, j, rfl, rfl, h1, h2, h3, HW⟩ := hrel
    obtain rfl := HW.out
    clear HW
    by_cases hij : i < j
    · have hch := HT.out ((i + j) / 2) (by omega)
      have hlt := HL.out ((i + j) / 2) (by omega)
      generalize ts.getD ((i + j) / 2) 0 = y at *
      by_cases hlJ : (i + j) / 2 < J
      · rw [decide_eq_true hlJ] at hlt
        go_wp2_with (go_at_call 55; refine (less_is _ _ _).mono ?_; rintro e w' ⟨rfl, rfl⟩)
        go_roundw
        case rel => exact ⟨(i + j) / 2 + 1, j, by congr 1, rfl, by omega, by omega, by omega, trivial⟩
        case measure => simp [intV]; omega
      · rw [decide_eq_false hlJ] at hlt
        go_wp2_with (go_at_call 55; refine (less_is _ _ _).mono ?_; rintro e w' ⟨rfl, rfl⟩)
        go_roundw
        case rel => exact ⟨i, (i + j) / 2, rfl, by congr 1, by omega, by omega, by omega, trivial⟩
        case measure => simp [intV]; omega
    · obtain rfl : i = J := by omega
      obtain rfl : i = j := by omega
      have hcJ := HT.out i hJn
      rw [HX.out] at hcJ
      go_wp2_with (go_at_call 60; refine (nanS_is _ _).mono ?_; rintro e w' ⟨rfl, rfl⟩)
      go_ret2
      exact ⟨rfl, rfl⟩
set_option maxHeartbeats 2000000 in
set_option maxRecDepth 100000 in
theorem gplace_at {w : World} {tb n c J nn nc : Nat} {np : Option Addr} {ts : List Int} {x : Int} (hn : ts.length = n) (hz : n ≤ 10000) (hT : TC w tb ts) (hup : ts.Pairwise (· < ·)) (hJ : ts[J]? = some x) :
    Calls Try.prog 31 #[.agg #[.slice (some ⟨tb, 0, none⟩) n c, .slice np nn nc], .int .u64 x] w fun e w' => e = .returned (.int .i64 (J : Int)) ∧ RowKit.Below w.heap.size w w' := by
  have hB : RowKit.Below w.heap.size w (w.alloc (Obj.cells #[Value.slice (some ⟨tb, 0, none⟩) n c, .slice np nn nc] 56)) := below_alloc w _
  have hT' : TC (w.alloc (Obj.cells #[Value.slice (some ⟨tb, 0, none⟩) n c, .slice np nn nc] 56)) tb ts := fun j hj => by
    have := hT j hj
    exact (hB.cell (p := ⟨tb, j, none⟩) (World.block_lt_of_cell? w _ this)).trans this
  have HCL : Hid _ := bsearch_at (c := c) hn hz hT' hup hJ
  have HB : Hid (RowKit.Below w.heap.size w (w.alloc (Obj.cells #[Value.slice (some ⟨tb, 0, none⟩) n c, .slice np nn nc] 56))) := hB
  clear hT' hT hup hJ hB
  go_enter Try.func31, Try.ntmps31
  go_wp2_with fail
  refine Calls.mono HCL.out ?_
  rintro e w' ⟨rfl, rfl⟩
  clear HCL
  go_wp2_with fail
  go_ret
  exact ⟨rfl, HB.out⟩
end Go.Proofs.Ytkgjmejpbklabaa
