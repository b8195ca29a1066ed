/-
  Contracts of layer 4, seventh part: Waiting.
-/
import Derived.Test.YtmcpjokbkkfgfaaDoorDLd
namespace Go.Proofs.YtmcpjokbkkfgfaaDoor
open Go.RowKit
/-- a list of writes that was told: its row g, the bytes' lists vs, in blocks from B on that rise -/
structure Told (w : World) (B g : Nat) (ws : List Wr) (vs : List Value) : Prop where
  len : vs.length = ws.length
  blk : Blk w g 100 (ws.length * 2)
  hg : B ≤ g
  sect : ∀ i (h : i < ws.length), w.cell? ⟨g, i * 2, none⟩ = some (.int .i64 (ws[i].s : Int))
  data : ∀ i (h : i < vs.length), w.cell? ⟨g, i * 2 + 1, none⟩ = some vs[i]
  each : ∀ i (h : i < ws.length) (h2 : i < vs.length), w.ownsRow B 5 1 vs[i] 64 (U8 ws[i].b)
  apart : ∀ i j (hi : i < vs.length) (hj : j < vs.length), i < j → ∀ a b, vs[i].ownBlock = some a → vs[j].ownBlock = some b → a < b
theorem Told.later {w w' : World} {B g : Nat} {ws : List Wr} {vs : List Value} (h : Told w B g ws vs) (hb : Below w.heap.size w w') : Told w' B g ws vs :=
  ⟨h.len, h.blk.same (hb.block g h.blk.lt), h.hg, fun i hi => (hb.cell (p := ⟨g, i * 2, none⟩) h.blk.lt).trans (h.sect i hi), fun i hi => (hb.cell (p := ⟨g, i * 2 + 1, none⟩) h.blk.lt).trans (h.data i hi), fun i h1 h2 => own_later (h.each i h1 h2) hb, h.apart⟩
/-- while it is told: the first k -/
structure Tel (w wr : World) (ws : List Wr) (k : Nat) (vs : List Value) : Prop where
  len : vs.length = k
  hk : k ≤ ws.length
  blk : Blk wr w.heap.size 100 (ws.length * 2)
  sect : ∀ i (h : i < ws.length), i < k → wr.cell? ⟨w.heap.size, i * 2, none⟩ = some (.int .i64 (ws[i].s : Int))
  data : ∀ i (h : i < vs.length), wr.cell? ⟨w.heap.size, i * 2 + 1, none⟩ = some vs[i]
  each : ∀ i (h : i < ws.length) (h2 : i < vs.length), wr.ownsRow (w.heap.size + 1) 5 1 vs[i] 64 (U8 ws[i].b)
  apart : ∀ i j (hi : i < vs.length) (hj : j < vs.length), i < j → ∀ a b, vs[i].ownBlock = some a → vs[j].ownBlock = some b → a < b
  below : Below w.heap.size w wr
theorem Tel.later {w wr w' : World} {ws : List Wr} {k : Nat} {vs : List Value} (h : Tel w wr ws k vs) (hb : Below wr.heap.size wr w') : Tel w w' ws k vs :=
  ⟨h.len, h.hk, h.blk.same (hb.block _ h.blk.lt), fun i hi hik => (hb.cell (p := ⟨w.heap.size, i * 2, none⟩) h.blk.lt).trans (h.sect i hi hik), fun i hi => (hb.cell (p := ⟨w.heap.size, i * 2 + 1, none⟩) h.blk.lt).trans (h.data i hi), fun i h1 h2 => own_later (h.each i h1 h2) hb, h.apart, h.below.trans (hb.mono h.below.size)⟩
theorem Blk.some {w : World} {g t sz : Nat} (h : Blk w g t sz) (o : Nat) (ho : o < sz) : ∃ u, w.cell? ⟨g, o, none⟩ = some u := by
  obtain ⟨cur, h, hs⟩ := h
  exact ⟨cur[o], by rw [cell_of_row w g o cur t (0, 0) h, Array.getElem?_eq_getElem (by omega)]⟩
theorem Blk.free {w : World} {g t sz : Nat} (h : Blk w g t sz) (o : Nat) : w.frozen? ⟨g, o, none⟩ = false := by
  obtain ⟨cur, h, hs⟩ := h
  exact frozen_of_row w g o _ t h
theorem Tel.step {w wr w1 : World} {ws : List Wr} {k : Nat} {vs : List Value} {v : Value} (h : Tel w wr ws k vs) (hb : Below wr.heap.size wr w1) (hk : k < ws.length) (hv : w1.ownsRow wr.heap.size 5 1 v 64 (U8 ws[k].b)) :
    Tel w ((w1.setCell ⟨w.heap.size, k * 2, none⟩ (.int .i64 (ws[k].s : Int))).setCell ⟨w.heap.size, k * 2 + 1, none⟩ v) ws (k + 1) (vs ++ [v]) := by
  have h1 := h.later hb
  have hlt := h.blk.lt
  obtain ⟨u0, c0⟩ := h1.blk.some (k * 2) (by omega)
  obtain ⟨u1, c1⟩ := (h1.blk.setCell (g' := w.heap.size) (o := k * 2) (.int .i64 (ws[k].s : Int))).some (k * 2 + 1) (by omega)
  have hold : ∀ {vv : Value} {xs : List Value} {nn : Nat}, w1.ownsRow (w.heap.size + 1) 5 1 vv nn xs → ((w1.setCell ⟨w.heap.size, k * 2, none⟩ (.int .i64 (ws[k].s : Int))).setCell ⟨w.heap.size, k * 2 + 1, none⟩ v).ownsRow (w.heap.size + 1) 5 1 vv nn xs := fun {vv xs nn} ho =>
    own_same ho (fun b hb' => (heap_setCell_other _ _ _ _ (by have := (ho.lt b hb').1; show b ≠ w.heap.size; omega)).trans (heap_setCell_other _ _ _ _ (by have := (ho.lt b hb').1; show b ≠ w.heap.size; omega)))
  refine ⟨by simp [h.len], by omega, (h1.blk.setCell _).setCell _, fun i hi hik => ?_, fun i hi => ?_, fun i hi h2 => ?_, fun i j hi hj hij a b ha hb' => ?_, (h1.below.setCell (Nat.le_refl _) _).setCell (Nat.le_refl _) _⟩
  · rw [World.cell?_setCell_other _ _ _ _ (by intro e; simp only [Addr.mk.injEq] at e; omega)]
    by_cases c : i = k
    · subst c
      exact World.cell?_setCell_same _ _ _ c0
    · rw [World.cell?_setCell_other _ _ _ _ (by intro e; simp only [Addr.mk.injEq] at e; omega)]
      exact h1.sect i hi (by omega)
  · by_cases c : i < vs.length
    · have hl := h.len
      rw [World.cell?_setCell_other _ _ _ _ (by intro e; simp only [Addr.mk.injEq] at e; omega), World.cell?_setCell_other _ _ _ _ (by intro e; simp only [Addr.mk.injEq] at e; omega), List.getElem_append_left c]
      exact h1.data i c
    · have e : i = k := by simp at hi; have := h.len; omega
      subst e
      rw [World.cell?_setCell_same _ _ _ c1]
      simp [← h.len]
  · by_cases c : i < vs.length
    · rw [List.getElem_append_left c]
      exact hold (h1.each i hi c)
    · have e : i = k := by simp at h2; have := h.len; omega
      subst e
      have e2 : (vs ++ [v])[i] = v := by simp [← h.len]
      rw [e2]
      exact hold (own_mono hv (by have := h.blk.lt; omega))
  · by_cases c : j < vs.length
    · rw [List.getElem_append_left c] at hb'
      rw [List.getElem_append_left (by omega)] at ha
      exact h.apart i j (by omega) c hij a b ha hb'
    · have e : j = k := by simp at hj; have := h.len; omega
      subst e
      have e2 : (vs ++ [v])[j] = v := by simp [← h.len]
      rw [e2] at hb'
      have hi' : i < vs.length := by have := h.len; omega
      rw [List.getElem_append_left hi'] at ha
      have f1 := (hv.lt b hb').1
      have f2 := ((h.each i (by omega) hi').lt a ha).2
      omega
theorem info82 : (Tryd.prog.info? 100).map (fun i => (i.zero, i.size, i.bytes)) = some (some (.agg #[.int .i64 0, .slice none 0 0]), 2, 32) := by kernel_rfl
set_option maxHeartbeats 400000 in
set_option maxRecDepth 100000 in
theorem waiting_nil (w : World) : Calls Tryd.prog 25 #[.pointer none] w fun e w' => e = .returned (.slice none 0 0) ∧ w = w' := by
  go_enter Tryd.func25, Tryd.ntmps25
  go_wp2
  go_ret
  exact ⟨rfl, rfl⟩
set_option maxHeartbeats 2000000 in
set_option maxRecDepth 100000 in
theorem waiting_any {w : World} {S : Nat → Prop} {p n : Nat} {d : List Int} {ws : List Wr} (h : Dsk w S p n d ws) (hk : ws.length ≤ 100000) :
    Calls Tryd.prog 25 #[.pointer (some ⟨p, 0, none⟩)] w fun e w' => ∃ g vs, e = .returned (.slice (some ⟨g, 0, none⟩) ws.length ws.length) ∧ Told w' w.heap.size g ws vs ∧ Below w.heap.size w w' := by
  obtain ⟨i0, hi, hz0, hz1, hz2⟩ := info_parts info82
  obtain ⟨q, cap, v, h⟩ := h
  have h1 := h.cell1
  have HH : Hid (PD w S p n d ws q cap v) := h
  obtain ⟨pv, cv, rfl, _⟩ := own_slice h.wt
  clear h
  have hmk := run_make (P := Tryd.prog) w 64 100 i0 _ Tryd.underlying64 hi hz0 .i64 .i64 (ws.length : Int) (ws.length : Int) (by omega) (Int.le_refl _) (by rw [hz2]; omega) (by omega)
  rw [hz1] at hmk
  simp only [Int.toNat_natCast, Value.cells] at hmk
  have HT : Hid (Tel w (w.alloc (.cells (madeCells #[.int .i64 0, .slice none 0 0] (ws.length * 2)) 100)) ws 0 []) :=
    ⟨rfl, Nat.zero_le _, ⟨_, heap_alloc_new w _, size_madeCells _ _⟩, fun i _ h => by omega, fun i h => by simp at h, fun i _ h => by simp at h, fun i j h => by simp at h, below_alloc w _⟩
  obtain ⟨ob, hob⟩ : ∃ ob, Obj.cells (madeCells #[.int .i64 0, .slice none 0 0] (ws.length * 2)) 100 = ob := ⟨_, rfl⟩
  rw [hob] at hmk HT
  clear hob
  have h1' : (w.alloc ob).cell? ⟨p, 1, none⟩ = some (.slice pv ws.length cv) := (HH.out.later (below_alloc w ob)).cell1
  go_enter Tryd.func25, Tryd.ntmps25
  go_wp2
  clear hmk h1'
  generalize w.alloc ob = W0 at *
  go_loopw [19] (fun i wr => ∃ (k : Nat) (vs : List Value), i = .int .i64 k ∧ Hid (Tel w wr ws k vs)) (fun i _ => ws.length - (intOf i).toNat)
  case atStart => exact ⟨0, [], rfl, HT.out⟩
  case round =>
    obtain ⟨k, vs, rfl, HR⟩ := hrel
    clear HT
    have hkl := HR.out.hk
    by_cases hlt : k < ws.length
    · have hp1 := HH.out.later HR.out.below
      obtain ⟨g, c', e, hr⟩ := wt_range hp1.wt HH.out.fit hlt
      simp only [Value.slice.injEq, true_and] at e
      obtain ⟨rfl, rfl⟩ := e
      have HX := HH.out.fit.at k hlt
      have HS : Hid (∀ (w1 : World) (v : Value), Below (wr.alloc (.cells (wcell ws[k]).toArray 98)).heap.size (wr.alloc (.cells (wcell ws[k]).toArray 98)) w1 → w1.ownsRow (wr.alloc (.cells (wcell ws[k]).toArray 98)).heap.size 5 1 v 64 (U8 ws[k].b) → Tel w ((w1.setCell ⟨w.heap.size, k * 2, none⟩ (.int .i64 (ws[k].s : Int))).setCell ⟨w.heap.size, k * 2 + 1, none⟩ v) ws (k + 1) (vs ++ [v])) :=
        fun w1 v hb ho => (HR.out.later (below_alloc wr _)).step hb hlt ho
      have HB0 : Hid (Blk (wr.alloc (.cells (wcell ws[k]).toArray 98)) w.heap.size 100 (ws.length * 2)) := (HR.out.later (below_alloc wr _)).blk
      generalize ws[k] = X at *
      have t1 : (wr.alloc (.cells (wcell X).toArray 98)).cell? ⟨wr.heap.size, 0, none⟩ = some (.int .i64 (X.s : Int)) := by
        rw [cell_of_row _ _ _ _ 98 (0, 0) (heap_alloc_new wr _)]; rfl
      have t2 : (wr.alloc (.cells (wcell X).toArray 98)).rangeAt wr.heap.size 1 (U8 X.b) := new_range_at wr _ _ 1 98 (wcell_data X)
      have hsz : (wr.alloc (.cells (wcell X).toArray 98)).heap.size = wr.heap.size + 1 := by simp
      have hwlt : w.heap.size < wr.heap.size := HR.out.blk.lt
      have HXl : Hid (X.b.length = 64) := HX.2.1
      clear HR hp1 h1
      go_wp2_with (first | (refine wpList_load_mid (by rfl) 98 (.tmp 22) (by rfl) g (k * 65) (by rfl) (wcell X) _ hr Tryd.underlying98 rfl (by rw [size80]; simp [wcell, HX.2.1]) ?_) | (refine wpList_alloc80 (by rfl) (by rfl) ?_) | (refine wpList_store80 (by rfl) (.tmp 5) (.tmp 23) (by rfl) X (by rfl) (by rfl) HX.2.1 ?_) | fail)
      simp only [Act.put]
      obtain ⟨W, hW⟩ : ∃ W, wr.alloc (.cells (wcell X).toArray 98) = W := ⟨_, rfl⟩
      rw [hW] at t1 t2 HS HB0 hsz ⊢
      clear hW hr HX
      have i1 : (k : Int) < (ws.length : Int) := by omega
      have i0' : (0 : Int) ≤ (k : Int) := by omega
      have hne : ¬ wr.heap.size = w.heap.size := by omega
      go_region_held3 (fun w' => w'.cell? ⟨wr.heap.size, 0, none⟩ = some (.int .i64 (X.s : Int)) ∧ w'.rangeAt wr.heap.size 1 (U8 X.b)) (first | exact ⟨t1, t2⟩ | exact ⟨a1, a2⟩ | exact ⟨b1, b2⟩) (first | (go_at_call 30; refine (clone_range wr.heap.size 1 64 64 X.b _ HXl.out (by omega) ?_).mono ?_; exact (‹_ ∧ World.rangeAt _ _ _ _›).2; rintro e wa ⟨v1, rfl, hown, hba⟩; have hba' : Below W.heap.size W wa := ⟨hba.os, hba.tape, hba.output, hba.size, hba.block⟩; obtain ⟨pv1, cv1, rfl, _⟩ := own_slice hown; have a1 : wa.cell? ⟨wr.heap.size, 0, none⟩ = some (.int .i64 (X.s : Int)) := (hba'.cell (p := ⟨wr.heap.size, 0, none⟩) (by show wr.heap.size < W.heap.size; omega)).trans t1; have a2 := rangeAt_same t2 (hba'.block wr.heap.size (by omega)); have HB1 := HB0.out.same (hba'.block w.heap.size HB0.out.lt); obtain ⟨u0, s0⟩ := HB1.some (k * 2) (by omega); obtain ⟨u1, s1⟩ := HB1.some (k * 2 + 1) (by omega); have f0 := HB1.free (k * 2); have f1 := HB1.free (k * 2 + 1); have HN := HS.out wa _ hba' hown; have b1 : ((wa.setCell ⟨w.heap.size, k * 2, none⟩ (.int .i64 (X.s : Int))).setCell ⟨w.heap.size, k * 2 + 1, none⟩ (.slice pv1 64 cv1)).cell? ⟨wr.heap.size, 0, none⟩ = some (.int .i64 (X.s : Int)) := by { rw [World.cell?_setCell_far _ _ _ _ (by show w.heap.size ≠ wr.heap.size; omega), World.cell?_setCell_far _ _ _ _ (by show w.heap.size ≠ wr.heap.size; omega)]; exact a1 }; have b2 : ((wa.setCell ⟨w.heap.size, k * 2, none⟩ (.int .i64 (X.s : Int))).setCell ⟨w.heap.size, k * 2 + 1, none⟩ (.slice pv1 64 cv1)).rangeAt wr.heap.size 1 (U8 X.b) := rangeAt_same a2 ((heap_setCell_other _ _ _ _ (by show wr.heap.size ≠ w.heap.size; omega)).trans (heap_setCell_other _ _ _ _ (by show wr.heap.size ≠ w.heap.size; omega)))))
      clear b1 b2 a1 a2 s0 s1 f0 f1 HB1 HS t1 t2
      have HN2 : Hid (Tel w ((wa.setCell ⟨w.heap.size, k * 2, none⟩ (.int .i64 (X.s : Int))).setCell ⟨w.heap.size, k * 2 + 1, none⟩ (.slice pv1 64 cv1)) ws (k + 1) (vs ++ [.slice pv1 64 cv1])) := HN
      clear HN
      go_wp2
      go_roundw
      case rel => exact ⟨k + 1, _, by go_num, HN2.out⟩
      case measure => simp [intOf]; omega
    · obtain rfl : k = ws.length := by omega
      have HF : Hid (Told wr w.heap.size w.heap.size ws vs ∧ Below w.heap.size w wr) :=
        ⟨⟨HR.out.len, HR.out.blk, Nat.le_refl _, fun i hi => HR.out.sect i hi hi, HR.out.data, fun i h1 h2 => own_mono (HR.out.each i h1 h2) (Nat.le_succ _), HR.out.apart⟩, HR.out.below⟩
      clear HR
      go_wp2
      go_ret
      exact ⟨_, vs, rfl, HF.out.1, HF.out.2⟩
end Go.Proofs.YtmcpjokbkkfgfaaDoor
