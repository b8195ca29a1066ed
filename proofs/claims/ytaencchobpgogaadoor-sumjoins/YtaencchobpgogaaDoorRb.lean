/-
  The document's answers, second part: matrix.times, Zeros, Join, Turned.
-/
import Derived.Test.YtaencchobpgogaaDoorRa
import Derived.Deep.RegionHeld3
namespace Go.Proofs.YtaencchobpgogaaDoor
open Go.RowKit

theorem info52 : (Tryd.prog.info? 52).map (·.size) = some 32 := by kernel_rfl

/-- the first j numbers, and zeros behind them -/
def part (k j : Nat) : List Value := (mat k).take j ++ List.replicate (32 - j) (.int .u32 0)
theorem part_length (k j : Nat) (h : j ≤ 32) : (part k j).length = 32 := by simp [part, mat_length]; omega
theorem part_zero (k : Nat) : part k 0 = List.replicate 32 (.int .u32 0) := by simp [part]
theorem part_all (k : Nat) : part k 32 = mat k := by
  unfold part
  rw [List.take_of_length_le (by rw [mat_length]; omega)]
  simp
theorem part_step (k j : Nat) (h : j < 32) : (part k j).set j (.int .u32 ((hn k (2 ^ j) : Nat) : Int)) = part k (j + 1) := by
  unfold part
  have hj : j < (mat k).length := by rw [mat_length]; exact h
  have e : 32 - j = (32 - (j + 1)) + 1 := by omega
  have hg : (mat k)[j] = .int .u32 ((hn k (2 ^ j) : Nat) : Int) := by
    have := mat_get k j h
    rw [List.getElem?_eq_getElem hj] at this
    exact Option.some.inj this
  rw [e, List.replicate_succ, List.set_append_right _ _ (by simp; omega), List.take_succ_eq_append_getElem hj, hg]
  have e2 : j - ((mat k).take j).length = 0 := by simp [mat_length]; omega
  rw [e2, List.set_cons_zero, List.append_assoc]
  rfl

theorem part_get (k j : Nat) (h : j < 32) : (part k j)[j]? = some (.int .u32 0) := by
  unfold part
  rw [List.getElem?_append_right (by simp; omega)]
  have e : j - ((mat k).take j).length = 0 := by simp [mat_length]; omega
  rw [e, List.getElem?_replicate, if_pos (by omega)]

/-- a row of cells of an array's variable -/
abbrev Row (w : World) (g : Nat) (cs : List Value) : Prop := w.heap[g]? = some (.cells cs.toArray 52 (0, 0))
theorem Row.later {w w' : World} {g B : Nat} {cs : List Value} (h : Row w g cs) (hb : Below B w w') (hg : g < B) : Row w' g cs := (hb.block g hg).trans h
theorem Row.cell {w : World} {g : Nat} {cs : List Value} (h : Row w g cs) (j : Nat) : w.cell? ⟨g, j, none⟩ = cs[j]? := by
  rw [cell_of_row w g j cs.toArray 52 (0, 0) h]; simp
theorem Row.range {w : World} {g : Nat} {cs : List Value} (h : Row w g cs) : w.rangeAt g 0 cs := fun j v hv => by
  rw [Nat.zero_add, h.cell j]; exact hv
theorem Row.free {w : World} {g : Nat} {cs : List Value} (h : Row w g cs) (j : Nat) : w.frozen? ⟨g, j, none⟩ = false := frozen_of_row w g j _ 52 h
theorem Row.lt {w : World} {g : Nat} {cs : List Value} (h : Row w g cs) : g < w.heap.size := (Array.getElem?_eq_some_iff.1 h).1
theorem Row.put {w : World} {g j : Nat} {cs : List Value} (h : Row w g cs) (v : Value) : Row (w.setCell ⟨g, j, none⟩ v) g (cs.set j v) := by
  have := heap_setCell_same w g j cs.toArray 52 v h
  unfold Row
  rw [this]
  simp
theorem Row.other {w : World} {g g' j : Nat} {cs : List Value} (h : Row w g cs) (v : Value) (hne : g ≠ g') : Row (w.setCell ⟨g', j, none⟩ v) g cs := by
  unfold Row
  rw [heap_setCell_other w ⟨g', j, none⟩ g v hne]
  exact h

theorem Row.puts {g : Nat} : ∀ (vs : List Value) (o : Nat) (w : World) (cs : List Value), Row w g cs → ∃ cs', Row (w.setCells g o vs) g cs' ∧ cs'.length = cs.length
  | [], _, _, cs, h => ⟨cs, h, rfl⟩
  | v :: r, o, w, cs, h => by
    obtain ⟨cs', h1, h2⟩ := Row.puts r (o + 1) (w.setCell ⟨g, o, none⟩ v) _ (h.put (j := o) v)
    exact ⟨cs', h1, by rw [h2, List.length_set]⟩
theorem Row.there {w : World} {g : Nat} {cs : List Value} (h : Row w g cs) (n : Nat) (hn : n ≤ cs.length) : w.there g 0 n := fun j hj => by
  rw [Nat.zero_add]
  refine ⟨?_, h.free j⟩
  rw [h.cell j, List.getElem?_eq_getElem (by omega)]
  rfl
/-- an array stored whole -/
theorem Row.whole {w : World} {g : Nat} {cs vs : List Value} (h : Row w g cs) (hl : vs.length = cs.length) : Row (w.setCells g 0 vs) g vs := by
  obtain ⟨cs', h1, h2⟩ := Row.puts vs 0 w cs h
  have hr := World.rangeAt_setCells_same w g 0 vs (h.there _ (by omega))
  have e : cs' = vs := by
    apply List.ext_getElem?
    intro j
    by_cases hj : j < vs.length
    · have := hr j vs[j] (List.getElem?_eq_getElem hj)
      rw [Nat.zero_add, h1.cell j] at this
      rw [this, List.getElem?_eq_getElem hj]
    · rw [List.getElem?_eq_none (by omega), List.getElem?_eq_none (by omega)]
  rw [e] at h1
  exact h1
theorem below_setCells {B g : Nat} (hg : B ≤ g) : ∀ (vs : List Value) (o : Nat) (w w' : World), Below B w w' → Below B w (w'.setCells g o vs)
  | [], _, _, _, h => h
  | v :: r, o, w, w', h => below_setCells hg r (o + 1) w _ (h.setCell (by simpa using hg) v)
theorem ones_mat (k : Nat) : (mat k).toArray.all (·.oneCell') = true := by
  refine all_oneCell_toArray fun v hv => ?_
  obtain ⟨i, _, rfl⟩ := List.mem_map.1 hv
  rfl

theorem alloc4 (w : World) (A B C D : Obj) : let W := (((w.alloc A).alloc B).alloc C).alloc D
    Below w.heap.size w W ∧ W.heap[w.heap.size]? = some A ∧ W.heap[w.heap.size + 1]? = some B ∧ W.heap[w.heap.size + 1 + 1]? = some C ∧ W.heap[w.heap.size + 1 + 1 + 1]? = some D := by
  refine ⟨((((Below.refl _ w).alloc (Nat.le_refl _) _).alloc (by simp) _).alloc (by simp; omega) _).alloc (by simp; omega) _, ?_, ?_, ?_, ?_⟩
  · rw [Go.heap_alloc_old _ _ (by simp; omega), Go.heap_alloc_old _ _ (by simp; omega), Go.heap_alloc_old _ _ (by simp)]
    exact Go.heap_alloc_new w A
  · rw [Go.heap_alloc_old _ _ (by simp), Go.heap_alloc_old _ _ (by simp)]
    exact Go.heap_alloc2_new w A B
  · rw [Go.heap_alloc_old _ _ (by simp)]
    have h := Go.heap_alloc2_new (w.alloc A) B C
    rw [show (w.alloc A).heap.size = w.heap.size + 1 by simp] at h
    exact h
  · have h := Go.heap_alloc2_new ((w.alloc A).alloc B) C D
    rw [show ((w.alloc A).alloc B).heap.size = w.heap.size + 1 + 1 by simp] at h
    exact h

set_option maxHeartbeats 2000000 in
theorem mtimes_any (k : Nat) (w : World) :
    Calls Tryd.prog 26 #[.agg (mat k).toArray, .agg (mat k).toArray] w fun e w' => e = .returned (.agg (mat (k + k)).toArray) ∧ Below w.heap.size w w' := by
  have HU := Tryd.underlying52
  have HI : (Tryd.prog.info? 52).map (·.size) = some (mat k).length := by rw [mat_length]; exact info52
  have HW : Hid (Below w.heap.size w ((((w.alloc (.cells (mat k).toArray 52)).alloc (.cells (mat k).toArray 52)).alloc (.cells (List.replicate 32 (Value.int .u32 0)).toArray 52)).alloc (.cells (List.replicate 32 (Value.int .u32 0)).toArray 52)) ∧ _) := alloc4 w (.cells (mat k).toArray 52) (.cells (mat k).toArray 52) (.cells (List.replicate 32 (Value.int .u32 0)).toArray 52) (.cells (List.replicate 32 (Value.int .u32 0)).toArray 52)
  have e0 : (List.replicate 32 (Value.int .u32 0)).toArray = #[.int .u32 0, .int .u32 0, .int .u32 0, .int .u32 0, .int .u32 0, .int .u32 0, .int .u32 0, .int .u32 0, .int .u32 0, .int .u32 0, .int .u32 0, .int .u32 0, .int .u32 0, .int .u32 0, .int .u32 0, .int .u32 0, .int .u32 0, .int .u32 0, .int .u32 0, .int .u32 0, .int .u32 0, .int .u32 0, .int .u32 0, .int .u32 0, .int .u32 0, .int .u32 0, .int .u32 0, .int .u32 0, .int .u32 0, .int .u32 0, .int .u32 0, .int .u32 0] := rfl
  have HZ : Hid (part (k + k) 0 = List.replicate 32 (.int .u32 0)) := part_zero _
  rw [e0] at HW
  clear e0
  go_enter Tryd.func26, Tryd.ntmps26
  go_wp2
  generalize (((w.alloc (.cells (mat k).toArray 52)).alloc (.cells (mat k).toArray 52)).alloc _).alloc _ = W at *
  go_loopw [6] (fun i wr => ∃ j : Nat, j ≤ 32 ∧ i = .int .i64 j ∧ Hid (Below w.heap.size w wr ∧ Row wr w.heap.size (mat k) ∧ Row wr (w.heap.size + 1) (mat k) ∧ Row wr (w.heap.size + 1 + 1) (List.replicate 32 (.int .u32 0)) ∧ Row wr (w.heap.size + 1 + 1 + 1) (part (k + k) j))) (fun i _ => 32 - (intOf i).toNat)
  case atStart =>
    refine ⟨0, by omega, rfl, ?_⟩
    obtain ⟨h1, h2, h3, h4, h5⟩ := HW.out
    exact ⟨h1, h2, h3, h4, by rw [HZ.out]; exact h5⟩
  case round =>
    obtain ⟨j, hj, rfl, HR⟩ := hrel
    clear HW
    by_cases hlt : j < 32
    · obtain ⟨hB, hA, hC, hD, hE⟩ := HR.out
      have hr : wr.drew.rangeAt w.heap.size 0 (mat k) := hA.range
      have hc : wr.drew.cell? ⟨w.heap.size + 1, j, none⟩ = some (.int .u32 ((hn k (2 ^ j) : Nat) : Int)) := (hC.cell j).trans (mat_get k j hlt)
      have hl := hn_lt k (2 ^ j) (bit_lt j hlt)
      have HN : Hid (∀ w1 : World, Below wr.drew.heap.size wr.drew w1 → Below w.heap.size w w1 ∧ Row w1 w.heap.size (mat k) ∧ Row w1 (w.heap.size + 1) (mat k) ∧ Row w1 (w.heap.size + 1 + 1) (List.replicate 32 (.int .u32 0)) ∧ Row w1 (w.heap.size + 1 + 1 + 1) (part (k + k) j)) := by
        intro w1 hb
        have hb' : Below wr.heap.size wr w1 := ⟨hb.os, hb.tape, hb.output, hb.size, hb.block⟩
        exact ⟨hB.trans (hb'.mono hB.size), hA.later hb' hA.lt, hC.later hb' hC.lt, hD.later hb' hD.lt, hE.later hb' hE.lt⟩
      have HP : Hid (hn k (hn k (2 ^ j)) = hn (k + k) (2 ^ j)) := (hn_add k k _).symm
      have HQ : Hid ((part (k + k) j)[j]? = some (.int .u32 0)) := part_get (k + k) j hlt
      have i1 : (j : Int) < 32 := by omega
      have i0 : (0 : Int) ≤ (j : Int) := by omega
      clear hA hC hD hE hB HR
      go_wp2
      go_region_held3 (fun w' => w'.rangeAt w.heap.size 0 (mat k) ∧ w'.cell? ⟨w.heap.size + 1, j, none⟩ = some (.int .u32 ((hn k (2 ^ j) : Nat) : Int))) (first | exact ⟨hr, hc⟩ | exact ⟨hk1, hk2⟩ | exact ⟨hk3, hk4⟩) (first | (go_at_call 25; refine (of_any k _ hl _).mono ?_; rintro e w1 ⟨rfl, hb⟩; obtain ⟨g1, g2, g3, g4, g5⟩ := HN.out w1 hb; have hk1 := g2.range; have hk2 := (g3.cell j).trans (mat_get k j hlt); have hk3 := (g2.other (g' := w.heap.size + 1 + 1 + 1) (j := j) (.int .u32 ((hn k (hn k (2 ^ j)) : Nat) : Int)) (by omega)).range; have hk4 := ((g3.other (g' := w.heap.size + 1 + 1 + 1) (j := j) (.int .u32 ((hn k (hn k (2 ^ j)) : Nat) : Int)) (by omega)).cell j).trans (mat_get k j hlt); have hst := g5.cell j; rw [HQ.out] at hst; have hfz := g5.free j; have HG : Hid (Below w.heap.size w w1 ∧ Row w1 w.heap.size (mat k) ∧ Row w1 (w.heap.size + 1) (mat k) ∧ Row w1 (w.heap.size + 1 + 1) (List.replicate 32 (.int .u32 0)) ∧ Row w1 (w.heap.size + 1 + 1 + 1) (part (k + k) j)) := ⟨g1, g2, g3, g4, g5⟩; clear g1 g2 g3 g4 g5 hb))
      go_wp2
      go_roundw
      case rel =>
        obtain ⟨g1, g2, g3, g4, g5⟩ := HG.out
        refine ⟨j + 1, by omega, by go_num, g1.setCell (by simp; omega) _, g2.other _ (by omega), g3.other _ (by omega), g4.other _ (by omega), ?_⟩
        have := g5.put (j := j) (.int .u32 ((hn k (hn k (2 ^ j)) : Nat) : Int))
        rw [HP.out, part_step (k + k) j hlt, ← HP.out] at this
        exact this
      case measure => simp [intOf]; omega
    · obtain rfl : j = 32 := by omega
      obtain ⟨hB, hA, hC, hD, hE⟩ := HR.out
      rw [part_all] at hE
      have HI2 : (Tryd.prog.info? 52).map (·.size) = some (mat (k + k)).toArray.size := by rw [List.size_toArray, mat_length]; exact info52
      have HD2 : Hid (wr.there (w.heap.size + 1 + 1) 0 (mat (k + k)).toArray.size) := hD.there _ (by simp [mat_length])
      have HF : Hid (Row (wr.setCells (w.heap.size + 1 + 1) 0 (mat (k + k)).toArray.toList) (w.heap.size + 1 + 1) (mat (k + k)) ∧ Below w.heap.size w (wr.setCells (w.heap.size + 1 + 1) 0 (mat (k + k)).toArray.toList)) := ⟨hD.whole (by simp [mat_length]), below_setCells (by omega) _ _ _ _ hB⟩
      have HE : Hid (Row wr (w.heap.size + 1 + 1 + 1) (mat (k + k))) := hE
      clear HR hA hC hD hE hB
      go_wp2_with (first | (refine wpList_load_row (by rfl) 52 (.tmp 5) (by rfl) (w.heap.size + 1 + 1 + 1) (by rfl) 52 _ (0, 0) _ HE.out HU rfl HI2 ?_) | (refine wpList_store_mid (by rfl) 52 (.tmp 4) (.tmp 18) (by rfl) (w.heap.size + 1 + 1) 0 (mat (k + k)).toArray (by rfl) (by rfl) HD2.out HI2 (ones_mat _) ?_))
      exact bodyPost_ret (v := .agg (mat (k + k)).toArray) (results_cell_row Tryd.results26 _ _ (w.heap.size + 1 + 1) 52 _ (0, 0) _ (by rfl) HF.out.1 HU rfl HI2) rfl ⟨rfl, HF.out.2⟩
end Go.Proofs.YtaencchobpgogaaDoor
