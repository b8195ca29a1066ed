/-
  Contracts of layer 4, fourth part: Flush, Crash.
-/
import Derived.Test.YtpenddnmmfpdjaaDoorDLc
namespace Go.Proofs.YtpenddnmmfpdjaaDoor
open Go.RowKit
set_option maxHeartbeats 400000 in
set_option maxRecDepth 100000 in
theorem flush_nil (w : World) : Calls Tryd.prog 21 #[.pointer none] w fun e w' => e = .returned (.tuple #[.int .i64 0, .int .i64 1]) ∧ w = w' := by
  go_enter Tryd.func21, Tryd.ntmps21
  go_wp2
  go_ret2
  exact ⟨rfl, rfl⟩
set_option maxHeartbeats 400000 in
set_option maxRecDepth 100000 in
theorem crash_nil (v : Value) (w : World) : Calls Tryd.prog 56 #[.pointer none, v] w fun e w' => e = .returned (.tuple #[.int .i64 0, .int .i64 1]) ∧ w = w' := by
  go_enter Tryd.func56, Tryd.ntmps56
  go_wp2
  go_ret2
  exact ⟨rfl, rfl⟩
set_option maxHeartbeats 400000 in
set_option maxRecDepth 100000 in
theorem flush_any {w : World} {S : Nat → Prop} {p n : Nat} {d : List Int} {ws : List Wr} (h : Dsk w S p n d ws) (hk : ws.length ≤ 1000) :
    Calls Tryd.prog 21 #[.pointer (some ⟨p, 0, none⟩)] w fun e w' => e = .returned (.tuple #[.int .i64 ws.length, .int .i64 0]) ∧ Dsk w' S p n (settle (fun _ => true) ws d) [] ∧ Kept S w w' := by
  go_enter Tryd.func21, Tryd.ntmps21
  go_wp2_with fail
  refine (settle_flush h hk (fun _ => true) (fun _ => rfl)).mono ?_
  rintro e w1 ⟨rfl, hd, hkp⟩
  go_wp2
  go_ret2
  exact ⟨rfl, hd, hkp⟩
/-- numbers that lie so -/
structure IIn (w : World) (p : Option Addr) (n : Nat) (xs : List Int) : Prop where
  len : xs.length = n
  cells : 0 < n → ∃ b o, p = some ⟨b, o, none⟩ ∧ ∀ i, i < n → w.cell? ⟨b, o + i, none⟩ = some (.int .i64 (xs.getD i 0))
theorem IIn.lt {w : World} {a : Addr} {n : Nat} {xs : List Int} (h : IIn w (some a) n xs) (h0 : 0 < n) : a.block < w.heap.size := by
  obtain ⟨b, o, e, hc⟩ := h.cells h0
  simp only [Option.some.injEq] at e
  subst e
  exact World.block_lt_of_cell? w _ (hc 0 h0)
theorem IIn.later {w w' : World} {p : Option Addr} {n : Nat} {xs : List Int} (h : IIn w p n xs) (hb : Below w.heap.size w w') : IIn w' p n xs := by
  refine ⟨h.len, fun h0 => ?_⟩
  obtain ⟨b, o, rfl, hc⟩ := h.cells h0
  refine ⟨b, o, rfl, fun i hi => ?_⟩
  rw [hb.cell (p := ⟨b, o + i, none⟩) (h.lt h0)]
  exact hc i hi
/-- the numbers that are kept, of the first k -/
def keptK (xs : List Int) (k : Nat) : Nat → Bool := fun i => decide ((i : Int) ∈ xs.take k)
/-- the numbers that are kept -/
def keepsK (xs : List Int) : Nat → Bool := fun i => decide ((i : Int) ∈ xs)
theorem keptK_all (xs : List Int) (k : Nat) (h : xs.length ≤ k) : keptK xs k = keepsK xs := by
  funext i; simp only [keptK, keepsK, List.take_of_length_le h]
def bools (m : Nat) (K : Nat → Bool) : List Value := (List.range m).map fun i => Value.bool (K i)
theorem bools_zero (xs : List Int) (m : Nat) : List.replicate m (Value.bool false) = bools m (keptK xs 0) := by
  apply List.ext_getElem?
  intro i
  simp only [bools, keptK, List.getElem?_replicate, List.getElem?_map]
  by_cases h : i < m <;> simp [h]
theorem bools_set (xs : List Int) (k m x : Nat) (hk : k < xs.length) (hx : xs[k] = (x : Int)) : (bools m (keptK xs k)).set x (Value.bool true) = bools m (keptK xs (k + 1)) := by
  apply List.ext_getElem?
  intro i
  rw [List.getElem?_set]
  simp only [bools, keptK, List.getElem?_map, List.length_map, List.length_range]
  rw [List.take_succ_eq_append_getElem hk, hx]
  by_cases hi : i < m
  · by_cases c : x = i
    · subst c; simp [hi]
    · simp only [if_neg c, List.getElem?_range hi, Option.map_some, List.mem_append, List.mem_singleton]
      simp [show ¬ (i : Int) = (x : Int) from by omega]
  · rw [List.getElem?_eq_none (by simpa using hi)]
    by_cases c : x = i <;> simp [c, hi]
theorem bools_out (xs : List Int) (k m : Nat) (hk : k < xs.length) (hx : xs[k] < 0 ∨ (m : Int) ≤ xs[k]) : bools m (keptK xs k) = bools m (keptK xs (k + 1)) := by
  unfold bools
  apply List.map_congr_left
  intro i hi
  have hi' := List.mem_range.1 hi
  simp only [keptK, List.take_succ_eq_append_getElem hk, List.mem_append, List.mem_singleton]
  simp [show ¬ (i : Int) = xs[k] from by omega]
theorem bools_length (m : Nat) (K : Nat → Bool) : (bools m K).length = m := by simp [bools]
theorem info4 : (Tryd.prog.info? 4).map (fun i => (i.zero, i.size, i.bytes)) = some (some (.bool false), 1, 1) := by kernel_rfl
/-- what stands while the numbers are looked through -/
structure Look (w wr : World) (m : Nat) (K : Nat → Bool) : Prop where
  below : Below w.heap.size w wr
  ks : Keeps wr (w.heap.size + 1) w.heap.size m K
set_option maxHeartbeats 2000000 in
set_option maxRecDepth 100000 in
theorem crash_low {w : World} {S : Nat → Prop} {p n : Nat} {d : List Int} {ws : List Wr} (h : Dsk w S p n d ws) (hk : ws.length ≤ 1000) (a : Option Addr) (m c : Nat) (xs : List Int) (hx : IIn w a m xs) (hm : m ≤ 140737488355328) (hS : ∀ k, S k → k < w.heap.size) :
    Calls Tryd.prog 56 #[.pointer (some ⟨p, 0, none⟩), .slice a m c] w fun e w' => e = .returned (.tuple #[.int .i64 ws.length, .int .i64 0]) ∧ Dsk w' S p n (settle (keepsK xs) ws d) [] ∧ Kept S w w' := by
  obtain ⟨i0, hi, hz0, hz1, hz2⟩ := info_parts info4
  have HH : Hid (Dsk w S p n d ws) := h
  obtain ⟨q, cap, v, h⟩ := h
  have h1 := h.cell1
  obtain ⟨pv, cv, rfl, _⟩ := own_slice h.wt
  have hmk := run_make (P := Tryd.prog) w 136 4 i0 _ Tryd.underlying136 hi hz0 .i64 .i64 (ws.length : Int) (ws.length : Int) (by omega) (Int.le_refl _) (by rw [hz2]; omega) (by omega)
  rw [hz1] at hmk
  simp only [Int.toNat_natCast, Nat.mul_one, Value.cells] at hmk
  rw [show madeCells #[Value.bool false] ws.length = (bools ws.length (keptK xs 0)).toArray by rw [← bools_zero]; exact made_rep 1 (.bool false) (by omega) ws.length] at hmk
  obtain ⟨ob, hob⟩ : ∃ ob, Obj.cells (bools ws.length (keptK xs 0)).toArray 4 = ob := ⟨_, rfl⟩
  rw [hob] at hmk
  have HL : Hid (Look w ((w.alloc ob).alloc (.cells #[.slice (some ⟨w.heap.size, 0, none⟩) ws.length ws.length] 136)) ws.length (keptK xs 0)) := by
    refine ⟨((Below.refl _ w).alloc (Nat.le_refl _) _).alloc (by simp) _, heap_alloc2_new w _ _, ?_⟩
    rw [heap_alloc2_old w ob _, ← hob]; rfl
  have HX : Hid (IIn w a m xs) := hx
  clear h hx hob
  go_enter Tryd.func56, Tryd.ntmps56
  go_wp2
  clear hmk h1
  generalize (w.alloc ob).alloc (.cells #[.slice (some ⟨w.heap.size, 0, none⟩) ws.length ws.length] 136) = W0 at *
  go_loopw [19] (fun i wr => ∃ k : Nat, k ≤ m ∧ i = .int .i64 k ∧ Hid (Look w wr ws.length (keptK xs k))) (fun i _ => m - (intOf i).toNat)
  case atStart => exact ⟨0, by omega, rfl, HL.out⟩
  case round =>
    obtain ⟨k, hkm, rfl, HR⟩ := hrel
    by_cases hlt : k < m
    · obtain ⟨g, o, rfl, hc⟩ := (HX.out.later HR.out.below).cells (by omega)
      have hck := hc k hlt
      have c0 : wr.cell? ⟨w.heap.size + 1, 0, none⟩ = some (.slice (some ⟨w.heap.size, 0, none⟩) ws.length ws.length) := by rw [cell_of_row _ _ _ _ _ _ HR.out.ks.box]; rfl
      have hkx : k < xs.length := by rw [HX.out.len]; exact hlt
      have ex : xs.getD k 0 = xs[k] := by simp [List.getD, List.getElem?_eq_getElem hkx]
      rw [ex] at hck
      clear ex hc
      obtain ⟨x, hxk⟩ : ∃ x, x = xs[k] := ⟨_, rfl⟩
      have HE : Hid (x = xs[k]) := hxk
      rw [← hxk] at hck
      clear hxk
      by_cases cx : 0 ≤ x ∧ x < (ws.length : Int)
      · obtain ⟨y, rfl⟩ : ∃ y : Nat, x = y := ⟨x.toNat, by omega⟩
        have hy : y < ws.length := by omega
        have cy : wr.cell? ⟨w.heap.size, y, none⟩ = some (.bool (keptK xs k y)) := by rw [cell_of_row _ _ _ _ _ _ HR.out.ks.row]; simp [hy]
        have fy := frozen_of_row wr w.heap.size y _ 4 HR.out.ks.row
        have HN : Hid (Look w (wr.setCell ⟨w.heap.size, y, none⟩ (.bool true)) ws.length (keptK xs (k + 1))) := by
          refine ⟨HR.out.below.setCell (Nat.le_refl _) _, ?_, ?_⟩
          · exact (heap_setCell_other _ _ _ _ (by show w.heap.size + 1 ≠ w.heap.size; omega)).trans HR.out.ks.box
          · have e := setCell_row (cs := bools ws.length (keptK xs k)) HR.out.ks.row y (.bool true)
            rw [bools_set xs k ws.length y hkx HE.out.symm] at e
            exact e
        clear HR HL
        generalize keptK xs k y = kk at *
        have cx1 : ¬ (y : Int) < 0 := by omega
        go_wp2
        go_roundw
        case rel => exact ⟨k + 1, by omega, by go_num, HN.out⟩
        case measure => simp [intOf]; omega
      · have HN : Hid (Look w wr ws.length (keptK xs (k + 1))) := by
          refine ⟨HR.out.below, HR.out.ks.box, ?_⟩
          have e := HR.out.ks.row
          have e2 := bools_out xs k ws.length hkx (by rw [← HE.out]; omega)
          unfold bools at e2
          rw [e2] at e
          exact e
        clear HR HL
        by_cases cx0 : 0 ≤ x
        · have cx1 : (ws.length : Int) ≤ x := by omega
          go_wp2
          go_roundw
          case rel => exact ⟨k + 1, by omega, by go_num, HN.out⟩
          case measure => simp [intOf]; omega
        · go_wp2
          go_roundw
          case rel => exact ⟨k + 1, by omega, by go_num, HN.out⟩
          case measure => simp [intOf]; omega
    · obtain rfl : m = k := by omega
      have HN : Hid (Look w wr ws.length (keepsK xs)) := by
        have := HR.out
        rw [keptK_all xs m (by rw [HX.out.len]; omega)] at this
        exact this
      clear HR HL
      go_wp2_with fail
      have hle := HN.out.below.size
      have hb := HN.out.below
      refine (settle_crash (HH.out.later hb) hk (keepsK xs) (w.heap.size + 1) w.heap.size ws.length HN.out.ks (fun s => by have := hS _ s; omega) (fun s => by have := hS _ s; omega) (by omega)).mono ?_
      rintro e w1 ⟨rfl, hd, hkp⟩
      go_wp2
      go_ret2
      exact ⟨rfl, hd, (Kept.of_below hb).trans hkp (fun _ _ h => h)⟩
theorem crash_any {w : World} {S : Nat → Prop} {p n : Nat} {d : List Int} {ws : List Wr} (h : Dsk w S p n d ws) (hk : ws.length ≤ 1000) (a : Option Addr) (m c : Nat) (xs : List Int) (hx : IIn w a m xs) (hm : m ≤ 140737488355328) :
    Calls Tryd.prog 56 #[.pointer (some ⟨p, 0, none⟩), .slice a m c] w fun e w' => e = .returned (.tuple #[.int .i64 ws.length, .int .i64 0]) ∧ Dsk w' S p n (settle (keepsK xs) ws d) [] ∧ Kept S w w' := by
  refine (crash_low (S := fun k => S k ∧ k < w.heap.size) (h.mono (fun k hk hs => ⟨hs, hk⟩)) hk a m c xs hx hm (fun _ h => h.2)).mono ?_
  rintro e w' ⟨rfl, hd, hkp⟩
  exact ⟨rfl, hd.mono (fun _ _ h => h.1), hkp.mono (fun _ _ h => h.1)⟩
end Go.Proofs.YtpenddnmmfpdjaaDoor
