import Derived.Test.YtdadpepfpiimgaaGreatDoorZ04
set_option maxHeartbeats 20000000
set_option maxRecDepth 100000
namespace Go.Proofs.YtdadpepfpiimgaaGreatDoor
open Go.RowKit
set_option maxHeartbeats 400000 in
set_option maxRecDepth 100000 in
theorem flush_any {w : World} {S : Nat → Prop} {p n : Nat} {d : List Int} {ws : List Wr} (h : Dsk w S p n d ws) (hk : ws.length ≤ 100000) :
    Calls Tryz.prog 75 #[.pointer (some ⟨p, 0, none⟩)] w fun e w' => e = .returned (.tuple #[.int .i64 ws.length, .int .i64 0]) ∧ Dsk w' S p n (settle (fun _ => true) ws d) [] ∧ Kept S w w' := by
  go_enter Tryz.func75, Tryz.ntmps75
  go_wp2_with fail
  refine (settle_flush h hk (fun _ => true) (fun _ => rfl)).mono ?_
  rintro e w1 ⟨rfl, hd, hkp⟩
  go_wp2
  go_ret2
  exact ⟨rfl, hd, hkp⟩
structure JIn (w : World) (p : Option Addr) (n : Nat) (xs : List Int) : Prop where
  len : xs.length = n
  cells : 0 < n → ∃ b o, p = some ⟨b, o, none⟩ ∧ ∀ i, i < n → w.cell? ⟨b, o + i, none⟩ = some (.int .i64 (xs.getD i 0))
theorem JIn.lt {w : World} {a : Addr} {n : Nat} {xs : List Int} (h : JIn w (some a) n xs) (h0 : 0 < n) : a.block < w.heap.size := by
  obtain ⟨b, o, e, hc⟩ := h.cells h0
  simp only [Option.some.injEq] at e
  subst e
  exact World.block_lt_of_cell? w _ (hc 0 h0)
theorem JIn.later {w w' : World} {p : Option Addr} {n : Nat} {xs : List Int} (h : JIn w p n xs) (hb : Below w.heap.size w w') : JIn w' p n xs := by
  refine ⟨h.len, fun h0 => ?_⟩
  obtain ⟨b, o, rfl, hc⟩ := h.cells h0
  refine ⟨b, o, rfl, fun i hi => ?_⟩
  rw [hb.cell (p := ⟨b, o + i, none⟩) (h.lt h0)]
  exact hc i hi
def keptK (xs : List Int) (k : Nat) : Nat → Bool := fun i => decide ((i : Int) ∈ xs.take k)
def keepsK (xs : List Int) : Nat → Bool := fun i => decide ((i : Int) ∈ xs)
theorem keptK_all (xs : List Int) (k : Nat) (h : xs.length ≤ k) : keptK xs k = keepsK xs := by
  funext i; simp only [keptK, keepsK, List.take_of_length_le h]
def bools (m : Nat) (K : Nat → Bool) : List Value := (List.range m).map fun i => Value.bool (K i)
theorem bools_zero (xs : List Int) (m : Nat) : List.replicate m (Value.bool false) = bools m (keptK xs 0) := by
  apply List.ext_getElem?
  intro i
  simp only [bools, keptK, List.getElem?_replicate, List.getElem?_map]
  by_cases h : i < m <;> simp [h]
theorem bools_set (xs : List Int) (k m x : Nat) (hk : k < xs.length) (hx : xs[k] = (x : Int)) : (bools m (keptK xs k)).set x (Value.bool true) = bools m (keptK xs (k + 1)) := by
  apply List.ext_getElem?
  intro i
  rw [List.getElem?_set]
  simp only [bools, keptK, List.getElem?_map, List.length_map, List.length_range]
  rw [List.take_succ_eq_append_getElem hk, hx]
  by_cases hi : i < m
  · by_cases c : x = i
    · subst c; simp [hi]
    · simp only [if_neg c, List.getElem?_range hi, Option.map_some, List.mem_append, List.mem_singleton]
      simp [show ¬ (i : Int) = (x : Int) from by omega]
  · rw [List.getElem?_eq_none (by simpa using hi)]
    by_cases c : x = i <;> simp [c, hi]
theorem bools_out (xs : List Int) (k m : Nat) (hk : k < xs.length) (hx : xs[k] < 0 ∨ (m : Int) ≤ xs[k]) : bools m (keptK xs k) = bools m (keptK xs (k + 1)) := by
  unfold bools
  apply List.map_congr_left
  intro i hi
  have hi' := List.mem_range.1 hi
  simp only [keptK, List.take_succ_eq_append_getElem hk, List.mem_append, List.mem_singleton]
  simp [show ¬ (i : Int) = xs[k] from by omega]
theorem info4 : (Tryz.prog.info? 4).map (fun i => (i.zero, i.size, i.bytes)) = some (some (.bool false), 1, 1) := by kernel_rfl
structure Look (w wr : World) (m : Nat) (K : Nat → Bool) : Prop where
  below : Below w.heap.size w wr
  ks : Keeps wr (w.heap.size + 1) w.heap.size m K
set_option maxHeartbeats 2000000 in
set_option maxRecDepth 100000 in
theorem crash_low {w : World} {S : Nat → Prop} {p n : Nat} {d : List Int} {ws : List Wr} (h : Dsk w S p n d ws) (hk : ws.length ≤ 100000) (a : Option Addr) (m c : Nat) (xs : List Int) (hx : JIn w a m xs) (hm : m ≤ 140737488355328) (hS : ∀ k, S k → k < w.heap.size) :
    Calls Tryz.prog 21 #[.pointer (some ⟨p, 0, none⟩), .slice a m c] w fun e w' => e = .returned (.tuple #[.int .i64 ws.length, .int .i64 0]) ∧ Dsk w' S p n (settle (keepsK xs) ws d) [] ∧ Kept S w w' := by
  obtain ⟨i0, hi, hz0, hz1, hz2⟩ := info_parts info4
  have HH : Hid (Dsk w S p n d ws) := h
  obtain ⟨q, cap, v, h⟩ := h
  have h1 := h.cell1
  obtain ⟨pv, cv, rfl, _⟩ := own_slice h.wt
  have hmk := run_make (P := Tryz.prog) w 133 4 i0 _ Tryz.underlying133 hi hz0 .i64 .i64 (ws.length : Int) (ws.length : Int) (by omega) (Int.le_refl _) (by rw [hz2]; omega) (by omega)
  rw [hz1] at hmk
  simp only [Int.toNat_natCast, Nat.mul_one, Value.cells] at hmk
  rw [show madeCells #[Value.bool false] ws.length = (bools ws.length (keptK xs 0)).toArray by rw [← bools_zero]; exact made_rep 1 (.bool false) (by omega) ws.length] at hmk
  obtain ⟨ob, hob⟩ : ∃ ob, Obj.cells (bools ws.length (keptK xs 0)).toArray 4 = ob := ⟨_, rfl⟩
  rw [hob] at hmk
  have HL : Hid (Look w ((w.alloc ob).alloc (.cells #[.slice (some ⟨w.heap.size, 0, none⟩) ws.length ws.length] 133)) ws.length (keptK xs 0)) := by
    refine ⟨((Below.refl _ w).alloc (Nat.le_refl _) _).alloc (by simp) _, heap_alloc2_new w _ _, ?_⟩
    rw [heap_alloc2_old w ob _, ← hob]; rfl
  have HX : Hid (JIn w a m xs) := hx
  clear h hx hob
  go_enter Tryz.func21, Tryz.ntmps21
  go_wp2
  clear hmk h1
  generalize (w.alloc ob).alloc (.cells #[.slice (some ⟨w.heap.size, 0, none⟩) ws.length ws.length] 133) = W0 at *
  go_loopw [19] (fun i wr => ∃ k : Nat, k ≤ m ∧ i = .int .i64 k ∧ Hid (Look w wr ws.length (keptK xs k))) (fun i _ => m - (intOf i).toNat)
  case atStart => exact ⟨0, by omega, rfl, HL.out⟩
  case round =>
    obtain ⟨k, hkm, rfl, HR⟩ := hrel
    by_cases hlt : k < m
    · obtain ⟨g, o, rfl, hc⟩ := (HX.out.later HR.out.below).cells (by omega)
      have hck := hc k hlt
      have c0 : wr.cell? ⟨w.heap.size + 1, 0, none⟩ = some (.slice (some ⟨w.heap.size, 0, none⟩) ws.length ws.length) := by rw [cell_of_row _ _ _ _ _ _ HR.out.ks.box]; rfl
      have hkx : k < xs.length := by rw [HX.out.len]; exact hlt
      have ex : xs.getD k 0 = xs[k] := by simp [List.getD, List.getElem?_eq_getElem hkx]
      rw [ex] at hck
      clear ex hc
      obtain ⟨x, hxk⟩ : ∃ x, x = xs[k] := ⟨_, rfl⟩
      have HE : Hid (x = xs[k]) := hxk
      rw [← hxk] at hck
      clear hxk
      by_cases cx : 0 ≤ x ∧ x < (ws.length : Int)
      · obtain ⟨y, rfl⟩ : ∃ y : Nat, x = y := ⟨x.toNat, by omega⟩
        have hy : y < ws.length := by omega
        have cy : wr.cell? ⟨w.heap.size, y, none⟩ = some (.bool (keptK xs k y)) := by rw [cell_of_row _ _ _ _ _ _ HR.out.ks.row]; simp [hy]
        have fy := frozen_of_row wr w.heap.size y _ 4 HR.out.ks.row
        have HN : Hid (Look w (wr.setCell ⟨w.heap.size, y, none⟩ (.bool true)) ws.length (keptK xs (k + 1))) := by
          refine ⟨HR.out.below.setCell (Nat.le_refl _) _, ?_, ?_⟩
          · exact (heap_setCell_other _ _ _ _ (by show w.heap.size + 1 ≠ w.heap.size; omega)).trans HR.out.ks.box
          · have e := setCell_row (cs := bools ws.length (keptK xs k)) HR.out.ks.row y (.bool true)
            rw [bools_set xs k ws.length y hkx HE.out.symm] at e
            exact e
        clear HR HL
        generalize keptK xs k y = kk at *
        have cx1 : ¬ (y : Int) < 0 := by omega
        go_wp2
        go_roundw
        case rel => exact ⟨k + 1, by omega, by go_num, HN.out⟩
        case measure => simp [intOf]; omega
      · have HN : Hid (Look w wr ws.length (keptK xs (k + 1))) := by
          refine ⟨HR.out.below, HR.out.ks.box, ?_⟩
          have e := HR.out.ks.row
          have e2 := bools_out xs k ws.length hkx (by rw [← HE.out]; omega)
          unfold bools at e2
          rw [e2] at e
          exact e
        clear HR HL
        by_cases cx0 : 0 ≤ x
        · have cx1 : (ws.length : Int) ≤ x := by omega
          go_wp2
          go_roundw
          case rel => exact ⟨k + 1, by omega, by go_num, HN.out⟩
          case measure => simp [intOf]; omega
        · go_wp2
          go_roundw
          case rel => exact ⟨k + 1, by omega, by go_num, HN.out⟩
          case measure => simp [intOf]; omega
    · obtain rfl : m = k := by omega
      have HN : Hid (Look w wr ws.length (keepsK xs)) := by
        have := HR.out
        rw [keptK_all xs m (by rw [HX.out.len]; omega)] at this
        exact this
      clear HR HL
      go_wp2_with fail
      have hle := HN.out.below.size
      have hb := HN.out.below
      refine (settle_crash (HH.out.later hb) hk (keepsK xs) (w.heap.size + 1) w.heap.size ws.length HN.out.ks (fun s => by have := hS _ s; omega) (fun s => by have := hS _ s; omega) (by omega)).mono ?_
      rintro e w1 ⟨rfl, hd, hkp⟩
      go_wp2
      go_ret2
      exact ⟨rfl, hd, (Kept.of_below hb).trans hkp (fun _ _ h => h)⟩
theorem crash_any {w : World} {S : Nat → Prop} {p n : Nat} {d : List Int} {ws : List Wr} (h : Dsk w S p n d ws) (hk : ws.length ≤ 100000) (a : Option Addr) (m c : Nat) (xs : List Int) (hx : JIn w a m xs) (hm : m ≤ 140737488355328) :
    Calls Tryz.prog 21 #[.pointer (some ⟨p, 0, none⟩), .slice a m c] w fun e w' => e = .returned (.tuple #[.int .i64 ws.length, .int .i64 0]) ∧ Dsk w' S p n (settle (keepsK xs) ws d) [] ∧ Kept S w w' := by
  refine (crash_low (S := fun k => S k ∧ k < w.heap.size) (h.mono (fun k hk hs => ⟨hs, hk⟩)) hk a m c xs hx hm (fun _ h => h.2)).mono ?_
  rintro e w' ⟨rfl, hd, hkp⟩
  exact ⟨rfl, hd.mono (fun _ _ h => h.1), hkp.mono (fun _ _ h => h.1)⟩
end Go.Proofs.YtdadpepfpiimgaaGreatDoor
namespace Go.Proofs.YtdadpepfpiimgaaGreatDoor
open Go.RowKit
structure Told (w : World) (B g : Nat) (ws : List Wr) (vs : List Value) : Prop where
  len : vs.length = ws.length
  blk : Blk w g 117 (ws.length * 2)
  hg : B ≤ g
  sect : ∀ i (h : i < ws.length), w.cell? ⟨g, i * 2, none⟩ = some (.int .i64 (ws[i].s : Int))
  data : ∀ i (h : i < vs.length), w.cell? ⟨g, i * 2 + 1, none⟩ = some vs[i]
  each : ∀ i (h : i < ws.length) (h2 : i < vs.length), w.ownsRow B 5 1 vs[i] 64 (U8 ws[i].b)
  apart : ∀ i j (hi : i < vs.length) (hj : j < vs.length), i < j → ∀ a b, vs[i].ownBlock = some a → vs[j].ownBlock = some b → a < b
structure Tel (w wr : World) (ws : List Wr) (k : Nat) (vs : List Value) : Prop where
  len : vs.length = k
  hk : k ≤ ws.length
  blk : Blk wr w.heap.size 117 (ws.length * 2)
  sect : ∀ i (h : i < ws.length), i < k → wr.cell? ⟨w.heap.size, i * 2, none⟩ = some (.int .i64 (ws[i].s : Int))
  data : ∀ i (h : i < vs.length), wr.cell? ⟨w.heap.size, i * 2 + 1, none⟩ = some vs[i]
  each : ∀ i (h : i < ws.length) (h2 : i < vs.length), wr.ownsRow (w.heap.size + 1) 5 1 vs[i] 64 (U8 ws[i].b)
  apart : ∀ i j (hi : i < vs.length) (hj : j < vs.length), i < j → ∀ a b, vs[i].ownBlock = some a → vs[j].ownBlock = some b → a < b
  below : Below w.heap.size w wr
theorem Tel.later {w wr w' : World} {ws : List Wr} {k : Nat} {vs : List Value} (h : Tel w wr ws k vs) (hb : Below wr.heap.size wr w') : Tel w w' ws k vs :=
  ⟨h.len, h.hk, h.blk.same (hb.block _ h.blk.lt), fun i hi hik => (hb.cell (p := ⟨w.heap.size, i * 2, none⟩) h.blk.lt).trans (h.sect i hi hik), fun i hi => (hb.cell (p := ⟨w.heap.size, i * 2 + 1, none⟩) h.blk.lt).trans (h.data i hi), fun i h1 h2 => own_later (h.each i h1 h2) hb, h.apart, h.below.trans (hb.mono h.below.size)⟩
theorem Blk.some {w : World} {g t sz : Nat} (h : Blk w g t sz) (o : Nat) (ho : o < sz) : ∃ u, w.cell? ⟨g, o, none⟩ = some u := by
  obtain ⟨cur, h, hs⟩ := h
  exact ⟨cur[o], by rw [cell_of_row w g o cur t (0, 0) h, Array.getElem?_eq_getElem (by omega)]⟩
theorem Blk.free {w : World} {g t sz : Nat} (h : Blk w g t sz) (o : Nat) : w.frozen? ⟨g, o, none⟩ = false := by
  obtain ⟨cur, h, hs⟩ := h
  exact frozen_of_row w g o _ t h
theorem Tel.step {w wr w1 : World} {ws : List Wr} {k : Nat} {vs : List Value} {v : Value} (h : Tel w wr ws k vs) (hb : Below wr.heap.size wr w1) (hk : k < ws.length) (hv : w1.ownsRow wr.heap.size 5 1 v 64 (U8 ws[k].b)) :
    Tel w ((w1.setCell ⟨w.heap.size, k * 2, none⟩ (.int .i64 (ws[k].s : Int))).setCell ⟨w.heap.size, k * 2 + 1, none⟩ v) ws (k + 1) (vs ++ [v]) := by
  have h1 := h.later hb
  have hlt := h.blk.lt
  obtain ⟨u0, c0⟩ := h1.blk.some (k * 2) (by omega)
  obtain ⟨u1, c1⟩ := (h1.blk.setCell (g' := w.heap.size) (o := k * 2) (.int .i64 (ws[k].s : Int))).some (k * 2 + 1) (by omega)
  have hold : ∀ {vv : Value} {xs : List Value} {nn : Nat}, w1.ownsRow (w.heap.size + 1) 5 1 vv nn xs → ((w1.setCell ⟨w.heap.size, k * 2, none⟩ (.int .i64 (ws[k].s : Int))).setCell ⟨w.heap.size, k * 2 + 1, none⟩ v).ownsRow (w.heap.size + 1) 5 1 vv nn xs := fun {vv xs nn} ho =>
    own_same ho (fun b hb' => (heap_setCell_other _ _ _ _ (by have := (ho.lt b hb').1; show b ≠ w.heap.size; omega)).trans (heap_setCell_other _ _ _ _ (by have := (ho.lt b hb').1; show b ≠ w.heap.size; omega)))
  refine ⟨by simp [h.len], by omega, (h1.blk.setCell _).setCell _, fun i hi hik => ?_, fun i hi => ?_, fun i hi h2 => ?_, fun i j hi hj hij a b ha hb' => ?_, (h1.below.setCell (Nat.le_refl _) _).setCell (Nat.le_refl _) _⟩
  · rw [World.cell?_setCell_other _ _ _ _ (by intro e; simp only [Addr.mk.injEq] at e; omega)]
    by_cases c : i = k
    · subst c
      exact World.cell?_setCell_same _ _ _ c0
    · rw [World.cell?_setCell_other _ _ _ _ (by intro e; simp only [Addr.mk.injEq] at e; omega)]
      exact h1.sect i hi (by omega)
  · by_cases c : i < vs.length
    · have hl := h.len
      rw [World.cell?_setCell_other _ _ _ _ (by intro e; simp only [Addr.mk.injEq] at e; omega), World.cell?_setCell_other _ _ _ _ (by intro e; simp only [Addr.mk.injEq] at e; omega), List.getElem_append_left c]
      exact h1.data i c
    · have e : i = k := by simp at hi; have := h.len; omega
      subst e
      rw [World.cell?_setCell_same _ _ _ c1]
      simp [← h.len]
  · by_cases c : i < vs.length
    · rw [List.getElem_append_left c]
      exact hold (h1.each i hi c)
    · have e : i = k := by simp at h2; have := h.len; omega
      subst e
      have e2 : (vs ++ [v])[i] = v := by simp [← h.len]
      rw [e2]
      exact hold (own_mono hv (by have := h.blk.lt; omega))
  · by_cases c : j < vs.length
    · rw [List.getElem_append_left c] at hb'
      rw [List.getElem_append_left (by omega)] at ha
      exact h.apart i j (by omega) c hij a b ha hb'
    · have e : j = k := by simp at hj; have := h.len; omega
      subst e
      have e2 : (vs ++ [v])[j] = v := by simp [← h.len]
      rw [e2] at hb'
      have hi' : i < vs.length := by have := h.len; omega
      rw [List.getElem_append_left hi'] at ha
      have f1 := (hv.lt b hb').1
      have f2 := ((h.each i (by omega) hi').lt a ha).2
      omega
theorem info82 : (Tryz.prog.info? 117).map (fun i => (i.zero, i.size, i.bytes)) = some (some (.agg #[.int .i64 0, .slice none 0 0]), 2, 32) := by kernel_rfl
set_option maxHeartbeats 2000000 in
set_option maxRecDepth 100000 in
theorem waiting_any {w : World} {S : Nat → Prop} {p n : Nat} {d : List Int} {ws : List Wr} (h : Dsk w S p n d ws) (hk : ws.length ≤ 100000) :
    Calls Tryz.prog 13 #[.pointer (some ⟨p, 0, none⟩)] w fun e w' => ∃ g vs, e = .returned (.slice (some ⟨g, 0, none⟩) ws.length ws.length) ∧ Told w' w.heap.size g ws vs ∧ Below w.heap.size w w' := by
  obtain ⟨i0, hi, hz0, hz1, hz2⟩ := info_parts info82
  obtain ⟨q, cap, v, h⟩ := h
  have h1 := h.cell1
  have HH : Hid (PD w S p n d ws q cap v) := h
  obtain ⟨pv, cv, rfl, _⟩ := own_slice h.wt
  clear h
  have hmk := run_make (P := Tryz.prog) w 46 117 i0 _ Tryz.underlying46 hi hz0 .i64 .i64 (ws.length : Int) (ws.length : Int) (by omega) (Int.le_refl _) (by rw [hz2]; omega) (by omega)
  rw [hz1] at hmk
  simp only [Int.toNat_natCast, Value.cells] at hmk
  have HT : Hid (Tel w (w.alloc (.cells (madeCells #[.int .i64 0, .slice none 0 0] (ws.length * 2)) 117)) ws 0 []) :=
    ⟨rfl, Nat.zero_le _, ⟨_, heap_alloc_new w _, size_madeCells _ _⟩, fun i _ h => by omega, fun i h => by simp at h, fun i _ h => by simp at h, fun i j h => by simp at h, below_alloc w _⟩
  obtain ⟨ob, hob⟩ : ∃ ob, Obj.cells (madeCells #[.int .i64 0, .slice none 0 0] (ws.length * 2)) 117 = ob := ⟨_, rfl⟩
  rw [hob] at hmk HT
  clear hob
  have h1' : (w.alloc ob).cell? ⟨p, 1, none⟩ = some (.slice pv ws.length cv) := (HH.out.later (below_alloc w ob)).cell1
  go_enter Tryz.func13, Tryz.ntmps13
  go_wp2
  clear hmk h1'
  generalize w.alloc ob = W0 at *
  go_loopw [19] (fun i wr => ∃ (k : Nat) (vs : List Value), i = .int .i64 k ∧ Hid (Tel w wr ws k vs)) (fun i _ => ws.length - (intOf i).toNat)
  case atStart => exact ⟨0, [], rfl, HT.out⟩
  case round =>
    obtain ⟨k, vs, rfl, HR⟩ := hrel
    clear HT
    have hkl := HR.out.hk
    by_cases hlt : k < ws.length
    · have hp1 := HH.out.later HR.out.below
      obtain ⟨g, c', e, hr⟩ := wt_range hp1.wt HH.out.fit hlt
      simp only [Value.slice.injEq, true_and] at e
      obtain ⟨rfl, rfl⟩ := e
      have HX := HH.out.fit.at k hlt
      have HS : Hid (∀ (w1 : World) (v : Value), Below (wr.alloc (.cells (wcell ws[k]).toArray 114)).heap.size (wr.alloc (.cells (wcell ws[k]).toArray 114)) w1 → w1.ownsRow (wr.alloc (.cells (wcell ws[k]).toArray 114)).heap.size 5 1 v 64 (U8 ws[k].b) → Tel w ((w1.setCell ⟨w.heap.size, k * 2, none⟩ (.int .i64 (ws[k].s : Int))).setCell ⟨w.heap.size, k * 2 + 1, none⟩ v) ws (k + 1) (vs ++ [v])) :=
        fun w1 v hb ho => (HR.out.later (below_alloc wr _)).step hb hlt ho
      have HB0 : Hid (Blk (wr.alloc (.cells (wcell ws[k]).toArray 114)) w.heap.size 117 (ws.length * 2)) := (HR.out.later (below_alloc wr _)).blk
      generalize ws[k] = X at *
      have t1 : (wr.alloc (.cells (wcell X).toArray 114)).cell? ⟨wr.heap.size, 0, none⟩ = some (.int .i64 (X.s : Int)) := by
        rw [cell_of_row _ _ _ _ 114 (0, 0) (heap_alloc_new wr _)]; rfl
      have t2 : (wr.alloc (.cells (wcell X).toArray 114)).rangeAt wr.heap.size 1 (U8 X.b) := new_range_at wr _ _ 1 114 (wcell_data X)
      have hsz : (wr.alloc (.cells (wcell X).toArray 114)).heap.size = wr.heap.size + 1 := by simp
      have hwlt : w.heap.size < wr.heap.size := HR.out.blk.lt
      have HXl : Hid (X.b.length = 64) := HX.2.1
      clear HR hp1 h1
      go_wp2_with (first | (refine wpList_load_mid (by rfl) 114 (.tmp 22) (by rfl) g (k * 65) (by rfl) (wcell X) _ hr Tryz.underlying114 rfl (by rw [size80]; simp [wcell, HX.2.1]) ?_) | (refine wpList_alloc80 (by rfl) (by rfl) ?_) | (refine wpList_store80 (by rfl) (.tmp 5) (.tmp 23) (by rfl) X (by rfl) (by rfl) HX.2.1 ?_) | fail)
      simp only [Act.put]
      obtain ⟨W, hW⟩ : ∃ W, wr.alloc (.cells (wcell X).toArray 114) = W := ⟨_, rfl⟩
      rw [hW] at t1 t2 HS HB0 hsz ⊢
      clear hW hr HX
      have i1 : (k : Int) < (ws.length : Int) := by omega
      have i0' : (0 : Int) ≤ (k : Int) := by omega
      have hne : ¬ wr.heap.size = w.heap.size := by omega
      go_region_held3 (fun w' => w'.cell? ⟨wr.heap.size, 0, none⟩ = some (.int .i64 (X.s : Int)) ∧ w'.rangeAt wr.heap.size 1 (U8 X.b)) (first | exact ⟨t1, t2⟩ | exact ⟨a1, a2⟩ | exact ⟨b1, b2⟩) (first | (go_at_call 42; refine (clone_range wr.heap.size 1 64 64 X.b _ HXl.out (by omega) ?_).mono ?_; exact (‹_ ∧ World.rangeAt _ _ _ _›).2; rintro e wa ⟨v1, rfl, hown, hba⟩; have hba' : Below W.heap.size W wa := ⟨hba.os, hba.tape, hba.output, hba.size, hba.block⟩; obtain ⟨pv1, cv1, rfl, _⟩ := own_slice hown; have a1 : wa.cell? ⟨wr.heap.size, 0, none⟩ = some (.int .i64 (X.s : Int)) := (hba'.cell (p := ⟨wr.heap.size, 0, none⟩) (by show wr.heap.size < W.heap.size; omega)).trans t1; have a2 := rangeAt_same t2 (hba'.block wr.heap.size (by omega)); have HB1 := HB0.out.same (hba'.block w.heap.size HB0.out.lt); obtain ⟨u0, s0⟩ := HB1.some (k * 2) (by omega); obtain ⟨u1, s1⟩ := HB1.some (k * 2 + 1) (by omega); have f0 := HB1.free (k * 2); have f1 := HB1.free (k * 2 + 1); have HN := HS.out wa _ hba' hown; have b1 : ((wa.setCell ⟨w.heap.size, k * 2, none⟩ (.int .i64 (X.s : Int))).setCell ⟨w.heap.size, k * 2 + 1, none⟩ (.slice pv1 64 cv1)).cell? ⟨wr.heap.size, 0, none⟩ = some (.int .i64 (X.s : Int)) := by { rw [World.cell?_setCell_far _ _ _ _ (by show w.heap.size ≠ wr.heap.size; omega), World.cell?_setCell_far _ _ _ _ (by show w.heap.size ≠ wr.heap.size; omega)]; exact a1 }; have b2 : ((wa.setCell ⟨w.heap.size, k * 2, none⟩ (.int .i64 (X.s : Int))).setCell ⟨w.heap.size, k * 2 + 1, none⟩ (.slice pv1 64 cv1)).rangeAt wr.heap.size 1 (U8 X.b) := rangeAt_same a2 ((heap_setCell_other _ _ _ _ (by show wr.heap.size ≠ w.heap.size; omega)).trans (heap_setCell_other _ _ _ _ (by show wr.heap.size ≠ w.heap.size; omega)))))
      clear b1 b2 a1 a2 s0 s1 f0 f1 HB1 HS t1 t2
      have HN2 : Hid (Tel w ((wa.setCell ⟨w.heap.size, k * 2, none⟩ (.int .i64 (X.s : Int))).setCell ⟨w.heap.size, k * 2 + 1, none⟩ (.slice pv1 64 cv1)) ws (k + 1) (vs ++ [.slice pv1 64 cv1])) := HN
      clear HN
      go_wp2
      go_roundw
      case rel => exact ⟨k + 1, _, by go_num, HN2.out⟩
      case measure => simp [intOf]; omega
    · obtain rfl : k = ws.length := by omega
      have HF : Hid (Told wr w.heap.size w.heap.size ws vs ∧ Below w.heap.size w wr) :=
        ⟨⟨HR.out.len, HR.out.blk, Nat.le_refl _, fun i hi => HR.out.sect i hi hi, HR.out.data, fun i h1 h2 => own_mono (HR.out.each i h1 h2) (Nat.le_succ _), HR.out.apart⟩, HR.out.below⟩
      clear HR
      go_wp2
      go_ret
      exact ⟨_, vs, rfl, HF.out.1, HF.out.2⟩
end Go.Proofs.YtdadpepfpiimgaaGreatDoor
namespace Go.Proofs.YtdadpepfpiimgaaGreatDoor
open Go.RowKit
section
variable {P : Program} {ops : Array Oper} {Q : Exit → Act → World → Prop} {md : Region.Mode} {S : World → Prop} {L : Nat}
def wpAnyL (P : Program) (md : Region.Mode) (ops : Array Oper) (Q : Exit → Act → World → Prop) (S : World → Prop) (L : Nat) : Nat → Array Bool → Act → World → Prop
  | 0, listed, a, w => Region.ready md ops listed = [] ∧ Q .normal a w
  | fuel + 1, listed, a, w =>
    (Region.ready md ops listed = [] → Q .normal a w) ∧
    ∀ i ∈ Region.ready md ops listed, wpOp P ops Q i (fun a' w' => (i ≠ L → S w') ∧ wpAnyL P md ops Q S L fuel (listed.setIfInBounds i true) a' w') a w
theorem wpAny_of_L : ∀ (fuel : Nat) (listed : Array Bool) (a : Act) (w : World), wpAnyL P md ops Q S L fuel listed a w → wpAny P md ops Q fuel listed a w
  | 0, _, _, _, h => h
  | fuel + 1, _, _, _, h => ⟨h.1, fun i hi => wpOp_mono (fun a' w' h' => wpAny_of_L fuel _ a' w' h'.2) (h.2 i hi)⟩
theorem wpAnyL_first {i : Nat} {oi : Oper} {v : Value} (hi : ops[i]? = some oi) (hsel : ∀ (j : Nat) (o : Oper) cs b, ops[j]? = some o → o.op ≠ .select cs b)
    (hQ : ∀ c a w, Q (.panic c) (a.put oi.dst v) w → Q (.panic c) a w) (hdep : ∀ o, ops[L]? = some o → ∃ e ∈ o.after, Region.binds md e = true ∧ e.on = i) :
    ∀ (fuel : Nat) (listed : Array Bool) (a : Act) (w : World),
      (∀ j oj, ops[j]? = some oj → j ≠ i → listed.getD j true = false → (∀ e ∈ oj.after, Region.binds md e = true → e.on ≠ i) → oi.apart ops oj = true) →
      i ∈ Region.ready md ops listed → YieldsIf P ops S oi v a → S w →
      wpAnyL P md ops Q S L fuel (listed.setIfInBounds i true) (a.put oi.dst v) w → wpAnyL P md ops Q S L (fuel + 1) listed a w := by
  intro fuel
  induction fuel with
  | zero =>
    intro listed a w _ hr hy hS H
    refine ⟨fun h => (by rw [h] at hr; cases hr), fun j hj => ?_⟩
    by_cases hji : j = i
    · subst hji; exact hy.wpOp hi hS ⟨fun _ => hS, H⟩
    · have := ready_mono hj hji
      rw [H.1] at this
      cases this
  | succ fuel ih =>
    intro listed a w hfree hr hy hS H
    refine ⟨fun h => (by rw [h] at hr; cases hr), fun j hj => ?_⟩
    by_cases hji : j = i
    · subst hji; exact hy.wpOp hi hS ⟨fun _ => hS, H⟩
    · have h1 := H.2 j (ready_mono hj hji)
      obtain ⟨hjun, oj, hoj, hall⟩ := mem_ready.1 hj
      have hnot : ∀ e ∈ oj.after, Region.binds md e = true → e.on ≠ i := fun e he hb heq => by
        have h1 := hall e he hb
        have h0 := (mem_ready.1 hr).1
        rw [heq] at h1
        rcases Nat.lt_or_ge i listed.size with h' | h'
        · simp [h'] at h0 h1; rw [h0] at h1; cases h1
        · simp [Array.getElem?_eq_none h'] at h1
      have hjL : j ≠ L := fun e => by
        subst e
        obtain ⟨e, he, hb, ho⟩ := hdep oj hoj
        exact hnot e he hb ho
      have h2 := wpOp_putIf hoj (hfree j oj hoj hji hjun hnot) (fun cs b => hsel i oi cs b hi) (fun cs b => hsel j oj cs b hoj) hQ hy h1
      have hfree' : ∀ k ok, ops[k]? = some ok → k ≠ i → (listed.setIfInBounds j true).getD k true = false →
          (∀ e ∈ ok.after, Region.binds md e = true → e.on ≠ i) → oi.apart ops ok = true := fun k ok hk hki hun hno => by
        refine hfree k ok hk hki ?_ hno
        by_cases hjk : j = k
        · subst hjk; exact hjun
        · rw [getD_set_ne true hjk] at hun; exact hun
      refine wpOp_mono (fun a' w' h3 => ⟨fun _ => h3.2.1 hjL, ih (listed.setIfInBounds j true) a' w' hfree' (ready_mono hr (Ne.symm hji)) h3.1 (h3.2.1 hjL) ?_⟩) h2
      rw [Array.setIfInBounds_comm _ _ hji]
      exact h3.2.2
theorem wpAnyL_take {i : Nat} {oi : Oper} {v : Value} {fuel : Nat} {listed : Array Bool} {a : Act} {w : World} (hi : ops[i]? = some oi)
    (hs : Region.noSelect ops = true) (hf : Region.free md ops listed i = true) (hr : (Region.ready md ops listed).contains i = true)
    (hd : (match ops[L]? with | some o => o.after.any (fun e => Region.binds md e && e.on == i) | none => true) = true)
    (hQ : ∀ c a w, Q (.panic c) (a.put oi.dst v) w → Q (.panic c) a w) (hy : YieldsIf P ops S oi v a) (hS : S w)
    (h : wpAnyL P md ops Q S L fuel (listed.setIfInBounds i true) (a.put oi.dst v) w) : wpAnyL P md ops Q S L (fuel + 1) listed a w :=
  wpAnyL_first hi (Region.noSelect_spec hs) hQ (fun o ho => by
    rw [ho] at hd
    obtain ⟨e, he, hb⟩ := Array.any_eq_true'.1 hd
    simp only [Bool.and_eq_true, beq_iff_eq] at hb
    exact ⟨e, he, hb.1, hb.2⟩) fuel listed a w (Region.free_spec hi hf) (by simpa using hr) hy hS h
def AllReadyL (P : Program) (md : Region.Mode) (ops : Array Oper) (Q : Exit → Act → World → Prop) (S : World → Prop) (L fuel : Nat) (listed : Array Bool) (a : Act) (w : World) (rs : List Nat) : Prop :=
  ∀ i ∈ rs, wpOp P ops Q i (fun a' w' => (i ≠ L → S w') ∧ wpAnyL P md ops Q S L fuel (listed.setIfInBounds i true) a' w') a w
theorem AllReadyL.nil {fuel : Nat} {listed : Array Bool} {a : Act} {w : World} : AllReadyL P md ops Q S L fuel listed a w [] := fun _ h => by cases h
theorem AllReadyL.cons {fuel : Nat} {listed : Array Bool} {a : Act} {w : World} {i : Nat} {o : Oper} {rs : List Nat} (ho : ops[i]? = some o)
    (h : ∀ K' : Act → World → Prop, Shut (∀ a w, (i ≠ L → S w) → wpAnyL P md ops Q S L fuel (listed.setIfInBounds i true) a w → K' a w) → if Region.wanted o (yielded ops a.tmps) = true then Oper.wp P o a w K' Q else K' (a.put o.dst undef) w)
    (hs : AllReadyL P md ops Q S L fuel listed a w rs) : AllReadyL P md ops Q S L fuel listed a w (i :: rs) := fun j hj => by
  rcases List.mem_cons.1 hj with rfl | hj
  · exact wpOp_step ho (fun K' hK => h K' (fun a w hS hW => hK a w ⟨hS, hW⟩))
  · exact hs j hj
theorem wpAnyL_ready {rs : List Nat} {fuel : Nat} {listed : Array Bool} {a : Act} {w : World} (hr : Region.ready md ops listed = rs) (hne : rs ≠ [])
    (h : AllReadyL P md ops Q S L fuel listed a w rs) : wpAnyL P md ops Q S L (fuel + 1) listed a w :=
  ⟨fun h0 => absurd (hr ▸ h0) hne, hr ▸ h⟩
theorem wpAnyL_done {listed : Array Bool} {a : Act} {w : World} (hr : Region.ready md ops listed = []) (h : Q .normal a w) :
    ∀ fuel, wpAnyL P md ops Q S L fuel listed a w
  | 0 => ⟨hr, h⟩
  | _ + 1 => ⟨fun _ => h, by rw [hr]; simp⟩
theorem wp_region_last {id : Nat} {a : Act} {w : World} (L : Nat) (S : World → Prop) (hm : P.follows .mixedOrders = true)
    (h : wpAnyL P .any ops Q S L ops.size (Array.replicate ops.size false) a w.drew) : (Code.region id ops true).wp P Q a w :=
  wp_region_any hm (wpAny_of_L _ _ _ _ h)
end
end Go.Proofs.YtdadpepfpiimgaaGreatDoor
namespace Go.Proofs.YtdadpepfpiimgaaGreatDoor.G
abbrev Cap (n : Int) : Prop := 2 ≤ n ∧ n ≤ 64
def slotS (p n : Int) : Int × Int := if Cap n then (if p > 4611686018427387968 then (0, 31) else (p % n, 0)) else (0, 2)
end Go.Proofs.YtdadpepfpiimgaaGreatDoor.G
namespace Go.Proofs.YtdadpepfpiimgaaGreatDoor.G
open Go.RowKit
set_option maxHeartbeats 400000 in
set_option maxRecDepth 100000 in
theorem cap_any (n : Int) (w : World) :
    Calls Tryz.prog 146 #[.int .i64 n] w fun e w' => e = .returned (.bool (decide (Cap n))) ∧ w = w' := by
  go_enter Tryz.func146, Tryz.ntmps146
  go_wp2
  all_goals go_ret
  all_goals (refine ⟨?_, rfl⟩; simp [Cap]; omega)
theorem wrap_cap {n : Int} (h : Cap n) : IntKind.u64.wrap n = n := by
  have := h.1; have := h.2
  rw [IntKind.wrap_u64]
  omega
theorem mod_cap (p : Int) {n : Int} (h : Cap n) : 0 ≤ p % n ∧ p % n < 64 := by
  have h1 := h.1
  have h2 := h.2
  have h3 := Int.emod_nonneg p (show n ≠ 0 by omega)
  have h4 := Int.emod_lt_of_pos p (show 0 < n by omega)
  omega
theorem wrap_mod (p : Int) {n : Int} (h : Cap n) : wrap64 (p % n) = p % n := by
  have := mod_cap p h
  unfold wrap64
  omega
set_option maxHeartbeats 400000 in
set_option maxRecDepth 100000 in
theorem slotOf_any (p n : Int) (hp : 0 ≤ p) (hn : Cap n) (w : World) :
    Calls Tryz.prog 147 #[.int .u64 p, .int .i64 n] w fun e w' => e = .returned (.int .i64 (p % n)) ∧ w = w' := by
  have h1 := hn.1
  have h2 := hn.2
  have hw := wrap_cap hn
  have hm := wrap_mod p hn
  go_enter Tryz.func147, Tryz.ntmps147
  go_wp2
  all_goals go_ret
  all_goals (refine ⟨?_, rfl⟩)
  all_goals simp [hm]
abbrev pairI (x : Int × Int) : Value := .tuple #[.int .i64 x.1, .int .i64 x.2]
set_option maxHeartbeats 400000 in
set_option maxRecDepth 100000 in
theorem slot_any (p n : Int) (h0 : 0 ≤ p) (w : World) :
    Calls Tryz.prog 128 #[.int .u64 p, .int .i64 n] w fun e w' => e = .returned (pairI (slotS p n)) ∧ w = w' := by
  by_cases hn : Cap n
  · have hd := decide_eq_true hn
    by_cases hp : p > 4611686018427387968
    · have hs : Hid (slotS p n = (0, 31)) := by show _ = _; simp [slotS, hn, hp]
      have hp' : 4611686018427387968 < p := by omega
      clear hp
      go_enter Tryz.func128, Tryz.ntmps128
      go_wp2_with (go_at_call 146; refine (cap_any _ _).mono ?_; rintro e w' ⟨rfl, rfl⟩)
      go_ret2
      exact ⟨by rw [hs.out]; rfl, rfl⟩
    · have hs : Hid (slotS p n = (p % n, 0)) := by show _ = _; simp [slotS, hn, hp]
      have hp' : ¬ 4611686018427387968 < p := by omega
      clear hp
      go_enter Tryz.func128, Tryz.ntmps128
      go_wp2_with (first | (go_at_call 146; refine (cap_any _ _).mono ?_; rintro e w' ⟨rfl, rfl⟩) | (go_at_call 147; refine (slotOf_any _ _ h0 hn _).mono ?_; rintro e w' ⟨rfl, rfl⟩))
      go_ret2
      exact ⟨by rw [hs.out]; rfl, rfl⟩
  · have hd := decide_eq_false hn
    have hs : Hid (slotS p n = (0, 2)) := by show _ = _; simp [slotS, hn]
    go_enter Tryz.func128, Tryz.ntmps128
    go_wp2_with (go_at_call 146; refine (cap_any _ _).mono ?_; rintro e w' ⟨rfl, rfl⟩)
    go_ret2
    exact ⟨by rw [hs.out]; rfl, rfl⟩
theorem wrap_u {x : Int} (h0 : 0 ≤ x) (h1 : x < 18446744073709551616) : IntKind.u64.wrap x = x := by
  rw [IntKind.wrap_u64]; omega
end Go.Proofs.YtdadpepfpiimgaaGreatDoor.G
namespace Go.Proofs.YtdadpepfpiimgaaGreatDoor.R
structure Rec where
  kind : Int
  pos : Int
  block : Int
  val : List Int
  images : Int
def zs (n : Nat) : List Int := List.replicate n 0
theorem zs_len (n : Nat) : (zs n).length = n := by simp [zs]
theorem zs_bytes (n : Nat) : Bytes (zs n) := fun x hx => by
  rw [List.eq_of_mem_replicate hx]; omega
def rec0 : Rec := ⟨0, 0, 0, zs 32, 0⟩
structure Rec.Wf (r : Rec) : Prop where
  k0 : -9223372036854775808 ≤ r.kind
  k1 : r.kind ≤ 9223372036854775807
  p0 : 0 ≤ r.pos
  p1 : r.pos ≤ 18446744073709551615
  b0 : -9223372036854775808 ≤ r.block
  b1 : r.block ≤ 9223372036854775807
  i0 : -9223372036854775808 ≤ r.images
  i1 : r.images ≤ 9223372036854775807
  len : r.val.length = 32
  byte : Bytes r.val
def isImage (r : Rec) : Prop := r.kind = 1 ∧ 0 ≤ r.block ∧ r.block < 64 ∧ r.images = 0
def isCommit (r : Rec) : Prop := r.kind = 2 ∧ 0 ≤ r.images ∧ r.images ≤ 16 ∧ r.block = 0 ∧ r.val = zs 32
def imageB (r : Rec) : Bool := r.kind == 1 && (decide (0 ≤ r.block) && (decide (r.block < 64) && r.images == 0))
def commitB (r : Rec) : Bool := r.kind == 2 && (decide (0 ≤ r.images) && (decide (r.images ≤ 16) && (r.block == 0 && decide (r.val = zs 32))))
theorem imageB_iff (r : Rec) : imageB r = true ↔ isImage r := by simp [imageB, isImage]
theorem commitB_iff (r : Rec) : commitB r = true ↔ isCommit r := by simp [commitB, isCommit]
def may (r : Rec) : Bool := decide (r.pos ≤ 4611686018427387904) && (imageB r || commitB r)
theorem may_iff (r : Rec) : may r = true ↔ r.pos ≤ 4611686018427387904 ∧ (isImage r ∨ isCommit r) := by
  simp [may, ← imageB_iff, ← commitB_iff]
def chk (r : Rec) : Int := if may r then 0 else 60
def numS (r : Rec) : Int := if r.kind = 1 then r.block else r.images
theorem numS_bd (r : Rec) (h : may r = true) : 0 ≤ numS r ∧ numS r < 64 := by
  rw [may_iff] at h
  unfold numS
  rcases h.2 with h2 | h2
  · rw [if_pos h2.1]; exact ⟨h2.2.1, h2.2.2.1⟩
  · have := h2.1
    rw [if_neg (by omega)]; have := h2.2.1; have := h2.2.2.1; omega
def head (r : Rec) : List Int := [87] ++ [r.kind] ++ [0, 0] ++ digits 8 r.pos ++ digits 4 (numS r) ++ r.val
def body (r : Rec) : List Int := head r ++ zs 12
def encS (r : Rec) : List Int := body r ++ digits 4 (crc (body r) : Nat)
theorem head_len (r : Rec) (h : r.val.length = 32) : (head r).length = 48 := by simp [head, digits_length, h]
theorem body_len (r : Rec) (h : r.val.length = 32) : (body r).length = 60 := by simp [body, head_len r h, zs_len]
theorem encS_len (r : Rec) (h : r.val.length = 32) : (encS r).length = 64 := by simp [encS, body_len r h, digits_length]
theorem may_kind {r : Rec} (h : may r = true) : r.kind = 1 ∨ r.kind = 2 := by
  rw [may_iff] at h
  rcases h.2 with h2 | h2
  · exact .inl h2.1
  · exact .inr h2.1
theorem head_bytes (r : Rec) (hw : r.Wf) (h : may r = true) : Bytes (head r) := by
  have hk := may_kind h
  unfold head
  refine Bytes.append (Bytes.append (Bytes.append (Bytes.append (Bytes.append ?_ ?_) ?_) (digits_bytes _ _)) (digits_bytes _ _)) hw.byte
  · intro x hx; simp at hx; omega
  · intro x hx; simp at hx; omega
  · intro x hx; simp at hx; omega
theorem body_bytes (r : Rec) (hw : r.Wf) (h : may r = true) : Bytes (body r) := (head_bytes r hw h).append (zs_bytes 12)
def readS (bs : List Int) : Rec :=
  ⟨bs.getD 1 0, worth ((bs.drop 4).take 8), if bs.getD 1 0 = 1 then worth ((bs.drop 12).take 4) else 0, (bs.drop 16).take 32, if bs.getD 1 0 = 1 then 0 else worth ((bs.drop 12).take 4)⟩
theorem readS_wf (bs : List Int) (hb : Bytes bs) (hl : bs.length = 64) : (readS bs).Wf := by
  have h1 : 0 ≤ bs.getD 1 0 ∧ bs.getD 1 0 < 256 := by
    rw [show bs.getD 1 0 = bs[1]'(by omega) by simp [List.getD, List.getElem?_eq_getElem (show 1 < bs.length by omega)]]
    exact hb.at 1 (by omega)
  have h2 := worth_bd ((bs.drop 4).take 8) ((hb.drop 4).take 8)
  have h3 := worth_bd ((bs.drop 12).take 4) ((hb.drop 12).take 4)
  rw [show ((bs.drop 4).take 8).length = 8 by simp; omega] at h2
  rw [show ((bs.drop 12).take 4).length = 4 by simp; omega] at h3
  have e8 : (256 : Int) ^ 8 = 18446744073709551616 := by decide
  have e4 : (256 : Int) ^ 4 = 4294967296 := by decide
  rw [e8] at h2
  rw [e4] at h3
  have h5 : ((bs.drop 16).take 32).length = 32 := by simp; omega
  have h6 := (hb.drop 16).take 32
  unfold readS
  generalize bs.getD 1 0 = q at *
  generalize worth ((bs.drop 4).take 8) = u at *
  generalize worth ((bs.drop 12).take 4) = v at *
  generalize (bs.drop 16).take 32 = l at *
  refine ⟨?_, ?_, ?_, ?_, ?_, ?_, ?_, ?_, h5, h6⟩ <;> dsimp only <;> (try split) <;> omega
theorem cut8 (a : Int) (k : Int) (D R : List Int) (hD : D.length = 8) : ((a :: k :: 0 :: 0 :: (D ++ R)).drop 4).take 8 = D := by
  show (D ++ R).take 8 = D
  rw [List.take_append_of_le_length (by omega), List.take_of_length_le (by omega)]
theorem cut4 (a k : Int) (D E R : List Int) (hD : D.length = 8) (hE : E.length = 4) : ((a :: k :: 0 :: 0 :: (D ++ (E ++ R))).drop 12).take 4 = E := by
  show ((D ++ (E ++ R)).drop 8).take 4 = E
  rw [List.drop_append_of_le_length (by omega), List.drop_of_length_le (by omega), List.nil_append, List.take_append_of_le_length (by omega), List.take_of_length_le (by omega)]
theorem cut32 (a k : Int) (D E V : List Int) {R : List Int} (hD : D.length = 8) (hE : E.length = 4) (hV : V.length = 32) : ((a :: k :: 0 :: 0 :: (D ++ (E ++ (V ++ R)))).drop 16).take 32 = V := by
  show ((D ++ (E ++ (V ++ R))).drop 12).take 32 = V
  rw [List.drop_append, hD, List.drop_of_length_le (by omega), List.nil_append, List.drop_append, hE, List.drop_of_length_le (by omega), List.nil_append]
  show ((V ++ R).drop 0).take 32 = V
  rw [List.drop_zero, List.take_append_of_le_length (by omega), List.take_of_length_le (by omega)]
theorem readS_encS (r : Rec) (hw : r.Wf) (h : may r = true) : readS (encS r) = r := by
  have hd8 : (digits 8 r.pos).length = 8 := digits_length _ _
  have hd4 : (digits 4 (numS r)).length = 4 := digits_length _ _
  have hv := hw.len
  have hp : worth (digits 8 r.pos) = r.pos := by
    rw [worth_digits, show (256 : Int) ^ 8 = 18446744073709551616 by decide]
    have := hw.p0; have := hw.p1; omega
  have hn : worth (digits 4 (numS r)) = numS r := by
    rw [worth_digits, show (256 : Int) ^ 4 = 4294967296 by decide]
    have := numS_bd r h; omega
  obtain ⟨T, hT⟩ : ∃ T, T = zs 12 ++ digits 4 (crc (body r) : Nat) := ⟨_, rfl⟩
  have he : encS r = 87 :: r.kind :: 0 :: 0 :: (digits 8 r.pos ++ (digits 4 (numS r) ++ (r.val ++ T))) := by
    rw [hT]; simp [encS, body, head]
  have e1 : (encS r).getD 1 0 = r.kind := by rw [he]; rfl
  have e2 : ((encS r).drop 4).take 8 = digits 8 r.pos := by rw [he]; exact cut8 _ _ _ _ hd8
  have e3 : ((encS r).drop 12).take 4 = digits 4 (numS r) := by rw [he]; exact cut4 _ _ _ _ _ hd8 hd4
  have e4 : ((encS r).drop 16).take 32 = r.val := by rw [he]; exact cut32 _ _ _ _ _ hd8 hd4 hv
  unfold readS
  rw [e1, e2, e3, e4, hp, hn]
  rcases may_kind h with hk | hk
  · have hi : isImage r := by
      rcases ((may_iff r).1 h).2 with h2 | h2
      · exact h2
      · have := h2.1; omega
    rw [if_pos hk, if_pos hk]
    obtain ⟨k, p, b, v, i⟩ := r
    simp only [numS] at *
    simp only [isImage] at hi
    obtain ⟨a1, a2, a3, a4⟩ := hi
    simp [hk, a4]
  · have hc : isCommit r := by
      rcases ((may_iff r).1 h).2 with h2 | h2
      · have := h2.1; omega
      · exact h2
    rw [if_neg (by omega), if_neg (by omega)]
    obtain ⟨k, p, b, v, i⟩ := r
    simp only [numS] at *
    simp only [isCommit] at hc
    obtain ⟨a1, a2, a3, a4, a5⟩ := hc
    simp [hk, a4]
def goodB (bs : List Int) : Bool := may (readS bs) && decide (encS (readS bs) = bs)
def decS (bs : List Int) : Rec × Int := if bs.length ≠ 64 then (rec0, 2) else if goodB bs then (readS bs, 0) else (rec0, 60)
theorem decS_len (bs : List Int) (h : bs.length ≠ 64) : decS bs = (rec0, 2) := if_pos h
theorem decS_ok (bs : List Int) (h : bs.length = 64) (hg : goodB bs = true) : decS bs = (readS bs, 0) := by unfold decS; rw [if_neg (by omega), if_pos hg]
theorem decS_bad (bs : List Int) (h : bs.length = 64) (hg : ¬ goodB bs = true) : decS bs = (rec0, 60) := by unfold decS; rw [if_neg (by omega), if_neg hg]
theorem decS_encS (r : Rec) (hw : r.Wf) (h : may r = true) : decS (encS r) = (r, 0) := by
  have hg : goodB (encS r) = true := by
    unfold goodB
    rw [readS_encS r hw h, h]
    simp
  rw [decS_ok _ (encS_len r hw.len) hg, readS_encS r hw h]
end Go.Proofs.YtdadpepfpiimgaaGreatDoor.R
namespace Go.Proofs.YtdadpepfpiimgaaGreatDoor
structure Lg where
  c : Sup
  life : Int
  tail : Int
  fin : Int
  mark : Int
  imgs : Int
  last : Int
structure Lg.Ok (g : Lg) : Prop where
  cf : MayC g.c
  l0 : 1 ≤ g.life
  l1 : g.life ≤ 4611686018427387904
  t0 : 0 ≤ g.tail
  tm : g.tail ≤ g.mark
  mf : g.mark ≤ g.fin
  fM : g.fin ≤ 4611686018427387904
  us : g.fin - g.tail ≤ g.c.lc
  i0 : 0 ≤ g.imgs
  i1 : g.imgs ≤ g.c.mr
  b0 : -1 ≤ g.last
  b1 : g.last < g.c.bl
  il : (g.imgs = 0 ∧ g.last = -1) ∨ (1 ≤ g.imgs ∧ 0 ≤ g.last)
def Lg.sz (g : Lg) : Nat := 1 + g.c.bl.toNat + g.c.lc.toNat
theorem Lg.Ok.sz_is {g : Lg} (h : g.Ok) : ((g.sz : Nat) : Int) = 1 + g.c.bl + g.c.lc := by
  have := h.cf.1; have := h.cf.2.1; unfold Lg.sz; omega
def moreS (g : Lg) : Int := if g.fin = 4611686018427387904 then 31 else if g.fin - g.tail = g.c.lc then 90 else 0
theorem moreS_max {g : Lg} (h : g.fin = 4611686018427387904) : moreS g = 31 := if_pos h
theorem moreS_full {g : Lg} (h : ¬ g.fin = 4611686018427387904) (h2 : g.fin - g.tail = g.c.lc) : moreS g = 90 := by unfold moreS; rw [if_neg h, if_pos h2]
theorem moreS_ok {g : Lg} (h : ¬ g.fin = 4611686018427387904) (h2 : ¬ g.fin - g.tail = g.c.lc) : moreS g = 0 := by unfold moreS; rw [if_neg h, if_neg h2]
theorem moreS_zero {g : Lg} (h : moreS g = 0) : ¬ g.fin = 4611686018427387904 ∧ ¬ g.fin - g.tail = g.c.lc := by
  by_cases h1 : g.fin = 4611686018427387904
  · rw [moreS_max h1] at h; cases h
  · by_cases h2 : g.fin - g.tail = g.c.lc
    · rw [moreS_full h1 h2] at h; cases h
    · exact ⟨h1, h2⟩
def secN (g : Lg) (p : Int) : Int := 1 + g.c.bl + p % g.c.lc
theorem secN_in {g : Lg} (h : g.Ok) (p : Int) : 0 ≤ secN g p ∧ secN g p < (g.sz : Nat) := by
  have h1 := h.cf.1; have h2 := h.cf.2.1; have h3 := h.sz_is
  have h4 := Int.emod_nonneg p (show g.c.lc ≠ 0 by omega)
  have h5 := Int.emod_lt_of_pos p (show 0 < g.c.lc by omega)
  unfold secN; omega
abbrev Bad (g : Lg) (b : Int) : Prop := b ≤ g.last ∨ g.c.bl ≤ b ∨ g.c.mr ≤ g.imgs
def imgS (g : Lg) (b : Int) : Int := if moreS g = 0 then (if Bad g b then 60 else 0) else moreS g
theorem imgS_more {g : Lg} (b : Int) (h : ¬ moreS g = 0) : imgS g b = moreS g := if_neg h
theorem imgS_bad {g : Lg} {b : Int} (h : moreS g = 0) (hb : Bad g b) : imgS g b = 60 := by unfold imgS; rw [if_pos h, if_pos hb]
theorem imgS_ok {g : Lg} {b : Int} (h : moreS g = 0) (hb : ¬ Bad g b) : imgS g b = 0 := by unfold imgS; rw [if_pos h, if_neg hb]
theorem imgS_zero {g : Lg} {b : Int} (h : imgS g b = 0) : moreS g = 0 ∧ ¬ Bad g b := by
  by_cases h1 : moreS g = 0
  · by_cases h2 : Bad g b
    · rw [imgS_bad h1 h2] at h; cases h
    · exact ⟨h1, h2⟩
  · rw [imgS_more b h1] at h; exact absurd h h1
def imgR (g : Lg) (b : Int) (v : List Int) : R.Rec := ⟨1, g.fin, b, v, 0⟩
def comR (g : Lg) : R.Rec := ⟨2, g.fin, 0, R.zs 32, g.imgs⟩
def addG (g : Lg) : Lg := { g with fin := g.fin + 1 }
def imgG (g : Lg) (b : Int) : Lg := { g with fin := g.fin + 1, imgs := g.imgs + 1, last := b }
def comG (g : Lg) : Lg := { g with fin := g.fin + 1, imgs := 0, last := -1 }
theorem imgR_may {g : Lg} (h : g.Ok) {b : Int} {v : List Int} (hb : ¬ Bad g b) : R.may (imgR g b v) = true := by
  have h1 := h.cf.1; have := h.b0; have := h.fM
  exact (R.may_iff _).2 ⟨h.fM, .inl ⟨rfl, by show (0 : Int) ≤ b; omega, by show b < 64; omega, rfl⟩⟩
theorem imgR_wf {g : Lg} (h : g.Ok) {b : Int} {v : List Int} (hb : ¬ Bad g b) (hl : v.length = 32) (hv : Bytes v) : (imgR g b v).Wf := by
  have h1 := h.cf.1; have := h.b0; have := h.fM; have := h.t0; have := h.tm; have := h.mf
  refine ⟨?_, ?_, ?_, ?_, ?_, ?_, ?_, ?_, hl, hv⟩ <;> simp only [imgR] <;> omega
theorem comR_may {g : Lg} (h : g.Ok) : R.may (comR g) = true := by
  have h1 := h.cf.2.2.1; have := h.i0; have := h.i1; have := h.fM
  exact (R.may_iff _).2 ⟨h.fM, .inr ⟨rfl, h.i0, by show g.imgs ≤ 16; omega, rfl, rfl⟩⟩
theorem comR_wf {g : Lg} (h : g.Ok) : (comR g).Wf := by
  have h1 := h.cf.2.2.1; have := h.i0; have := h.i1; have := h.fM; have := h.t0; have := h.tm; have := h.mf
  refine ⟨?_, ?_, ?_, ?_, ?_, ?_, ?_, ?_, R.zs_len 32, R.zs_bytes 32⟩ <;> simp only [comR] <;> omega
theorem imgG_ok {g : Lg} (h : g.Ok) {b : Int} (h0 : imgS g b = 0) : (imgG g b).Ok := by
  obtain ⟨hm, hb⟩ := imgS_zero h0
  obtain ⟨m1, m2⟩ := moreS_zero hm
  have := h.b0; have := h.fM; have := h.us; have := h.mf; have := h.i0; have := h.i1
  refine ⟨h.cf, h.l0, h.l1, h.t0, h.tm, ?_, ?_, ?_, ?_, ?_, ?_, ?_, ?_⟩ <;> simp only [imgG] <;> omega
theorem comG_ok {g : Lg} (h : g.Ok) (hm : moreS g = 0) : (comG g).Ok := by
  obtain ⟨m1, m2⟩ := moreS_zero hm
  have := h.cf.1; have := h.cf.2.2.1; have := h.fM; have := h.us; have := h.mf
  refine ⟨h.cf, h.l0, h.l1, h.t0, h.tm, ?_, ?_, ?_, ?_, ?_, ?_, ?_, .inl ⟨rfl, rfl⟩⟩ <;> simp only [comG] <;> omega
def opnG (s : Sup) (t l : Int) : Lg := ⟨s, l, t, t, t, 0, -1⟩
def opnS (s : Sup) (n : Int) (t l : Int) : Int := if MayC s then (if n = 1 + s.bl + s.lc then (if t > 4611686018427387904 ∨ l > 4611686018427387904 then 31 else if l = 0 then 2 else 0) else 40) else 3
theorem opnS_no {s : Sup} (n t l : Int) (h : ¬ MayC s) : opnS s n t l = 3 := if_neg h
theorem opnS_len {s : Sup} {n : Int} (t l : Int) (h : MayC s) (hn : ¬ n = 1 + s.bl + s.lc) : opnS s n t l = 40 := by unfold opnS; rw [if_pos h, if_neg hn]
theorem opnS_wrap {s : Sup} {n t l : Int} (h : MayC s) (hn : n = 1 + s.bl + s.lc) (ht : t > 4611686018427387904 ∨ l > 4611686018427387904) : opnS s n t l = 31 := by unfold opnS; rw [if_pos h, if_pos hn, if_pos ht]
theorem opnS_life {s : Sup} {n t l : Int} (h : MayC s) (hn : n = 1 + s.bl + s.lc) (ht : ¬ (t > 4611686018427387904 ∨ l > 4611686018427387904)) (hl : l = 0) : opnS s n t l = 2 := by unfold opnS; rw [if_pos h, if_pos hn, if_neg ht, if_pos hl]
theorem opnS_ok {s : Sup} {n t l : Int} (h : MayC s) (hn : n = 1 + s.bl + s.lc) (ht : ¬ (t > 4611686018427387904 ∨ l > 4611686018427387904)) (hl : ¬ l = 0) : opnS s n t l = 0 := by unfold opnS; rw [if_pos h, if_pos hn, if_neg ht, if_neg hl]
theorem opnS_zero {s : Sup} {n t l : Int} (h : opnS s n t l = 0) : MayC s ∧ n = 1 + s.bl + s.lc ∧ t ≤ 4611686018427387904 ∧ l ≤ 4611686018427387904 ∧ l ≠ 0 := by
  by_cases h1 : MayC s
  · by_cases h2 : n = 1 + s.bl + s.lc
    · by_cases h3 : t > 4611686018427387904 ∨ l > 4611686018427387904
      · rw [opnS_wrap h1 h2 h3] at h; cases h
      · by_cases h4 : l = 0
        · rw [opnS_life h1 h2 h3 h4] at h; cases h
        · exact ⟨h1, h2, by omega, by omega, h4⟩
    · rw [opnS_len t l h1 h2] at h; cases h
  · rw [opnS_no n t l h1] at h; cases h
theorem opnG_ok {s : Sup} {n t l : Int} (h : opnS s n t l = 0) (ht : 0 ≤ t) (hl : 0 ≤ l) : (opnG s t l).Ok := by
  obtain ⟨h1, h2, h3, h4, h5⟩ := opnS_zero h
  refine ⟨h1, ?_, ?_, ?_, ?_, ?_, ?_, ?_, ?_, ?_, ?_, ?_, .inl ⟨rfl, rfl⟩⟩ <;> simp only [opnG] <;> omega
end Go.Proofs.YtdadpepfpiimgaaGreatDoor
