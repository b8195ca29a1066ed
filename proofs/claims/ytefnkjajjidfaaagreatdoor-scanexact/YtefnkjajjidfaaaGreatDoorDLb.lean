/-
  Contracts of layer 4, second part: Write.
-/
import Derived.Test.YtefnkjajjidfaaaGreatDoorDLq
import Derived.Deep.RegionLaw
namespace Go.Proofs.YtefnkjajjidfaaaGreatDoor
open Go.RowKit
set_option maxHeartbeats 1000000 in
set_option maxRecDepth 100000 in
theorem write_nil (i : Int) (v : Value) (w : World) : Calls Tryz.prog 20 #[.pointer none, .int .i64 i, v] w fun e w' => e = .returned (.int .i64 1) ∧ w = w' := by
  go_enter Tryz.func20, Tryz.ntmps20
  go_wp2_with fail
  refine (refuses_nil i w).mono ?_
  rintro e w1 ⟨rfl, rfl⟩
  go_wp2
  go_ret
  exact ⟨rfl, rfl⟩
set_option maxHeartbeats 1000000 in
set_option maxRecDepth 100000 in
theorem write_bad {w : World} {S : Nat → Prop} {p n : Nat} {d : List Int} {ws : List Wr} (h : Dsk w S p n d ws) (i : Int) (v : Value) (hi : i < 0 ∨ (n : Int) ≤ i) : Calls Tryz.prog 20 #[.pointer (some ⟨p, 0, none⟩), .int .i64 i, v] w fun e w' => e = .returned (.int .i64 40) ∧ w = w' := by
  obtain ⟨q, cap, v, h⟩ := h
  have h0 := h.cell0
  clear h
  go_enter Tryz.func20, Tryz.ntmps20
  go_wp2_with fail
  refine (refuses_any i w p n q cap h0).mono ?_
  rintro e w1 ⟨rfl, rfl⟩
  rw [refS, if_neg (by omega)]
  go_wp2
  go_ret
  exact ⟨rfl, rfl⟩
set_option maxHeartbeats 1000000 in
set_option maxRecDepth 100000 in
theorem write_long {w : World} {S : Nat → Prop} {p n : Nat} {d : List Int} {ws : List Wr} (h : Dsk w S p n d ws) (i : Nat) (hi : i < n) (a : Option Addr) (m c : Nat) (hm : ¬ m = 64) : Calls Tryz.prog 20 #[.pointer (some ⟨p, 0, none⟩), .int .i64 i, .slice a m c] w fun e w' => e = .returned (.int .i64 2) ∧ w = w' := by
  obtain ⟨q, cap, v, h⟩ := h
  have h0 := h.cell0
  have hm' : ((m : Int) != 64) = true := by rw [bne_iff_ne]; omega
  clear h hm
  go_enter Tryz.func20, Tryz.ntmps20
  go_wp2_with fail
  refine (refuses_any i w p n q cap h0).mono ?_
  rintro e w1 ⟨rfl, rfl⟩
  rw [refS, if_pos (by omega)]
  go_wp2
  go_ret
  exact ⟨rfl, rfl⟩
/-- a block's cell turned -/
theorem setCell_row {w : World} {g t : Nat} {cs : List Value} (h : w.heap[g]? = some (.cells cs.toArray t (0, 0))) (j : Nat) (v : Value) : (w.setCell ⟨g, j, none⟩ v).heap[g]? = some (.cells (cs.set j v).toArray t (0, 0)) := by
  rw [heap_setCell_same w g j cs.toArray t v h]; simp
/-- what stands once the write waits and is not yet told -/
structure HalfW (w w3 : World) (S : Nat → Prop) (p n : Nat) (d : List Int) (ws : List Wr) (X : Wr) (q cap : Nat) (v : Value) : Prop where
  str : w3.heap[p]? = some (.cells #[.slice (some ⟨q, 0, none⟩) n cap, v] 114 (0, 0))
  pl : Pl w3 q n cap (sec d) (newest ws d)
  wt : w3.ownsRow 0 121 65 v (ws.length + 1) (WC (ws ++ [X]))
  sv : ∀ k, v.ownBlock = some k → More S w k
  rg : w3.rangeAt w.heap.size 1 (U8 X.b)
  kp : Kept S w w3
theorem half_of {w w2 : World} {S : Nat → Prop} {p n : Nat} {d : List Int} {ws : List Wr} {X : Wr} {q cap : Nat} {v : Value} {g cap' : Nat} {ob : Obj}
    (hp : PD w S p n d ws q cap v) (hown : w2.ownsRow 0 121 65 (.slice (some ⟨g, 0, none⟩) (ws.length + 1) cap') (ws.length + 1) (WC ws ++ wcell X))
    (hgrow : ((w.alloc (.cells (wcell X).toArray 121)).alloc ob).grownBy w2 v.ownBlock) (hat : v.ownBlock = some g ∨ g = w.heap.size + 2) :
    w2.rangeAt w.heap.size 0 (wcell X) ∧ w2.cell? ⟨p, 1, none⟩ = some v ∧ w2.frozen? ⟨p, 1, none⟩ = false ∧ (w2.setCell ⟨p, 1, none⟩ (.slice (some ⟨g, 0, none⟩) (ws.length + 1) cap')).rangeAt w.heap.size 0 (wcell X) ∧
    HalfW w (w2.setCell ⟨p, 1, none⟩ (.slice (some ⟨g, 0, none⟩) (ws.length + 1) cap')) S p n d ws X q cap (.slice (some ⟨g, 0, none⟩) (ws.length + 1) cap') := by
  have h1 := (hp.later (below_alloc w (.cells (wcell X).toArray 121)))
  have h2 := h1.later (below_alloc _ ob)
  have hlp := hp.blk.lt
  have hlq := hp.pl.blk.lt
  have hsz : ((w.alloc (.cells (wcell X).toArray 121)).alloc ob).heap.size = w.heap.size + 2 := by simp
  have hv : ∀ k, v.ownBlock = some k → k < w.heap.size := fun k hk => (own_ownBlk hp.wt hk).elim fun _ hb => hb.lt
  have bp : w2.heap[p]? = some (.cells #[.slice (some ⟨q, 0, none⟩) n cap, v] 114 (0, 0)) := (hgrow.block p (by omega) (fun e => (h2.pv p e.symm).1 rfl)).trans h2.str
  have bq : w2.heap[q]? = ((w.alloc (.cells (wcell X).toArray 121)).alloc ob).heap[q]? := hgrow.block q (by omega) (fun e => (h2.pv q e.symm).2 rfl)
  have bx : w2.heap[w.heap.size]? = (w.alloc (.cells (wcell X).toArray 121)).heap[w.heap.size]? :=
    (hgrow.block w.heap.size (by omega) (fun e => by have := hv _ e.symm; omega)).trans (Below.heap_alloc _ ob _ (by simp))
  have r2 : w2.rangeAt w.heap.size 0 (wcell X) := rangeAt_same (new_range w _ 121) bx
  have hgp : g ≠ p := (own_blk hown).1.ne ⟨_, bp, rfl⟩ (by decide)
  have bx3 : (w2.setCell ⟨p, 1, none⟩ (.slice (some ⟨g, 0, none⟩) (ws.length + 1) cap')).heap[w.heap.size]? = w2.heap[w.heap.size]? := heap_setCell_other _ _ _ _ (by show w.heap.size ≠ p; omega)
  refine ⟨r2, ?_, frozen_of_row _ _ _ _ 114 bp, rangeAt_same r2 bx3, ?_⟩
  · rw [cell_of_row _ _ _ _ 114 (0, 0) bp]; rfl
  refine ⟨setCell_row (cs := [_, _]) bp 1 _, ?_, ?_, ?_, ?_, ?_⟩
  · exact (h2.pl.same bq).same (heap_setCell_other _ _ _ _ (fun e => hp.pq e.symm))
  · rw [WC_snoc]
    exact own_same hown (fun k hk => heap_setCell_other _ _ _ _ (fun e => hgp (by simp only [Value.ownBlock, Option.some.injEq] at hk; rw [hk]; exact e)))
  · intro k hk
    simp only [Value.ownBlock, Option.some.injEq] at hk
    subst hk
    rcases hat with hat | hat
    · exact .inl (hp.sv _ hat)
    · right; omega
  · refine rangeAt_same (w := w2) ?_ bx3
    exact rangeAt_same (new_range_at w _ _ 1 121 (wcell_data X)) bx
  · refine Kept.setCell ?_ (fun _ => hp.sp) _
    exact (((Kept.refl S w).alloc _).alloc _).grown hgrow (fun k hk _ => hp.sv k hk)
/-- and told -/
theorem HalfW.done {w w3 : World} {S : Nat → Prop} {p n : Nat} {d : List Int} {ws : List Wr} {X : Wr} {q cap : Nat} {v v0 : Value} (h : HalfW w w3 S p n d ws X q cap v) (hp : PD w S p n d ws q cap v0) (hs : X.s < n) (hb : X.b.length = 64) (hy : Bytes X.b) :
    Dsk (w3.setCells q (X.s * 128 + 64) (U8 X.b)) (More S w) p n d (ws ++ [X]) ∧ Kept S w (w3.setCells q (X.s * 128 + 64) (U8 X.b)) := by
  have hb3 : Blk w3 p 114 2 := ⟨_, h.str, rfl⟩
  have hpq : p ≠ q := hb3.ne h.pl.blk (by decide)
  have ho : ∀ k, k ≠ q → (w3.setCells q (X.s * 128 + 64) (U8 X.b)).heap[k]? = w3.heap[k]? := fun k hk => setCells_other hk _ _ _
  refine ⟨⟨q, cap, v, ?_⟩, Kept.setCells (fun _ => hp.sq) _ _ _ h.kp⟩
  refine ⟨(ho p hpq).trans h.str, ?_, own_same (by rw [List.length_append, List.length_singleton]; exact h.wt) (fun k hk => ?_), .inl hp.sp, .inl hp.sq, h.sv, hp.n1, hp.n2, hp.dl, hp.db, hp.fit.snoc hs hb hy⟩
  · refine (h.pl.setN X.b hb hs).congr (fun i _ => rfl) (fun i _ => ?_)
    rw [newest_snoc ws d i X.s X.b]
  · obtain ⟨sz, hk'⟩ := own_ownBlk h.wt hk
    exact ho k (hk'.ne h.pl.blk (by decide))
set_option maxHeartbeats 2000000 in
set_option maxRecDepth 100000 in
theorem write_good {w : World} {S : Nat → Prop} {p n : Nat} {d : List Int} {ws : List Wr} (h : Dsk w S p n d ws) (i : Nat) (hi : i < n) (a : Option Addr) (c : Nat) (b : List Int) (hb : BIn w a 64 b) (hk : ws.length ≤ 100000) : Calls Tryz.prog 20 #[.pointer (some ⟨p, 0, none⟩), .int .i64 i, .slice a 64 c] w fun e w' => e = .returned (.int .i64 0) ∧ Dsk w' (More S w) p n d (ws ++ [⟨i, b⟩]) ∧ Kept S w w' := by
  obtain ⟨q, cap, v, h⟩ := h
  have h0 := h.cell0
  obtain ⟨g, o, rfl, _⟩ := hb.cells (by omega)
  have HR : Hid (w.rangeAt g o (U8 b)) := hb.range
  have HH : Hid (PD w S p n d ws q cap v) := h
  have hat : ∀ w, (Instr.arrayAt 116 (.slice (some ⟨g, o, none⟩) 64 c)).run Tryz.prog w = .ok (.pointer (some ⟨g, o, none⟩)) w := fun w => run_arrayAt w 116 _ 64 _ 64 c Tryz.underlying116 (by omega)
  have HL : Hid (b.length = 64) := hb.len
  have HI : Hid ((Tryz.prog.info? 116).map (·.size) = some (U8 b).length) := by show _ = _; rw [U8_length, HL.out]; exact size69
  have HY : Hid (Bytes b) := hb.byte
  clear h hb
  go_enter Tryz.func20, Tryz.ntmps20
  go_wp2_with fail
  refine (refuses_any i w p n q cap h0).mono ?_
  rintro e w1 ⟨rfl, rfl⟩
  rw [refS, if_pos (by omega)]
  go_wp2_with (first | (refine wpList_load_mid (by rfl) 116 (.tmp 20) (by rfl) g o (by rfl) (U8 b) _ HR.out Tryz.underlying116 rfl HI.out ?_) | (refine wpList_build80 (by rfl) (.tmp 18) (.tmp 21) (by rfl) i b (by rfl) (by rfl) HL.out ?_) | (refine wpList_alloc80 (by rfl) (by rfl) ?_) | (refine wpList_store80 (by rfl) (.tmp 8) (.tmp 22) (by rfl) ⟨i, b⟩ (by rfl) (by rfl) HL.out ?_))
  simp only [Act.put, List.setIfInBounds_toArray, List.set_cons_zero, List.set_cons_succ]
  obtain ⟨X, hX⟩ : ∃ X, Wr.mk i b = X := ⟨_, rfl⟩
  have HXl : Hid (X.b.length = 64) := by rw [← hX]; exact HL.out
  have HXb : Hid (X.s = i ∧ X.b = b) := by rw [← hX]; exact ⟨rfl, rfl⟩
  rw [hX]
  have r0 : (w.alloc (.cells (wcell X).toArray 121)).rangeAt w.heap.size 0 (wcell X) := new_range w _ 121
  have hsz : (w.alloc (.cells (wcell X).toArray 121)).heap.size = w.heap.size + 1 := by simp
  have hp1 : PD (w.alloc (.cells (wcell X).toArray 121)) S p n d ws q cap v := HH.out.later (below_alloc w _)
  have hK0 : Kept S w (w.alloc (.cells (wcell X).toArray 121)) := Kept.of_below (below_alloc w _)
  obtain ⟨W, hW⟩ : ∃ W, w.alloc (.cells (wcell X).toArray 121) = W := ⟨_, rfl⟩
  rw [hW] at r0 hsz hp1 hK0 ⊢
  have HW : Hid (w.alloc (.cells (wcell X).toArray 121) = W) := hW
  clear hW
  obtain ⟨i0, hi0, hz0, hz1, hz2⟩ := info_parts info80
  have c1 := hp1.cell1
  have c2 : ∀ ob, (W.alloc ob).cell? ⟨p, 1, none⟩ = some v := fun ob => (hp1.later (below_alloc W ob)).cell1
  refine wp_region_noPanic ?_
  refine wp_region_held_drew (S := (fun w' => w'.rangeAt w.heap.size 0 (wcell X))) (by kernel_rfl) r0 (fun hHeld => ?_)
  refine wpAnyH_take (i := 0) (v := ?v0) (by simp; rfl) (by kernel_rfl) (by kernel_rfl) (by kernel_rfl) (fun _ _ _ h => h) (Or.inl ⟨by rfl, ?y0⟩) hHeld ?r0
  case y0 => intro w hSw; go_simp; with_reducible rfl
  simp only [Act.put, List.setIfInBounds_toArray, List.set_cons_zero, List.set_cons_succ]
  refine wpAnyH_take (i := 1) (v := ?v1) (by simp; rfl) (by kernel_rfl) (by kernel_rfl) (by kernel_rfl) (fun _ _ _ h => h) (Or.inl ⟨by rfl, ?y1⟩) hHeld ?r1
  case y1 => intro w hSw; go_simp; with_reducible rfl
  simp only [Act.put, List.setIfInBounds_toArray, List.set_cons_zero, List.set_cons_succ]
  refine wpAnyH_take (i := 2) (v := ?v2) (by simp; rfl) (by kernel_rfl) (by kernel_rfl) (by kernel_rfl) (fun _ _ _ h => h) (Or.inl ⟨by rfl, ?y2⟩) hHeld ?r2
  case y2 => intro w hSw; go_simp; with_reducible rfl
  simp only [Act.put, List.setIfInBounds_toArray, List.set_cons_zero, List.set_cons_succ]
  refine wpAnyH_take (i := 3) (v := ?v3) (by simp; rfl) (by kernel_rfl) (by kernel_rfl) (by kernel_rfl) (fun _ _ _ h => h) (Or.inl ⟨by rfl, ?y3⟩) hHeld ?r3
  case y3 => intro w hSw; go_simp; with_reducible rfl
  simp only [Act.put, List.setIfInBounds_toArray, List.set_cons_zero, List.set_cons_succ]
  refine wpAnyH_take (i := 5) (v := _) (by simp; rfl) (by kernel_rfl) (by kernel_rfl) (by kernel_rfl) (fun _ _ _ h => h) (yieldsIf_load_mid (by rfl) 121 (.tmp 8) rfl w.heap.size 0 rfl (wcell X) _ (fun _ h => h) Tryz.underlying121 rfl (by rw [size80]; simp [wcell, HXl.out])) hHeld ?_
  simp only [Act.put, List.setIfInBounds_toArray, List.set_cons_zero, List.set_cons_succ]
  refine wpAnyH_ready (rs := [4, 6]) (by kernel_rfl) (by simp) ?_
  refine AllReadyH.cons (by simp; rfl) (fun K hK => ?_) (AllReadyH.cons (by simp; rfl) (fun K hK => ?_) AllReadyH.nil)
  · go_simp
    refine hK.out _ _ hHeld (fun hHeld => ?_)
    clear hK K
    refine wpAnyH_ready (rs := [6]) (by kernel_rfl) (by simp) ?_
    refine AllReadyH.cons (by simp; rfl) (fun K hK => ?_) AllReadyH.nil
    rw [if_pos (by rfl)]
    refine wp_buildSlice73 (.tmp 28) rfl X rfl HXl.out ?_
    refine hK.out _ _ (World.rangeAt_alloc hHeld _) (fun hHeld => ?_)
    clear hK K
    simp only [Act.put, List.setIfInBounds_toArray, List.set_cons_zero, List.set_cons_succ]
    have e0 : W.drew.heap.size = w.heap.size + 1 := hsz
    simp only [e0, World.alloc_drew]
    refine wpAnyH_ready (rs := [7]) (by kernel_rfl) (by simp) ?_
    refine AllReadyH.cons (by simp; rfl) (fun K hK => ?_) AllReadyH.nil
    refine step_append_lies _ rfl (.tmp 27) (.tmp 29) 112 rfl 0 121 i0 _ 65 72 Tryz.underlying112 hi0 hz0 hz1 hz2 (by simp [Value.cells]) (by omega) v ws.length (WC ws) rfl (own_same (hp1.later (below_alloc W (.cells (wcell X).toArray 121))).wt (fun _ _ => rfl)) ⟨w.heap.size + 1, 0, none⟩ 1 1 (wcell X) rfl (by simp [wcell, HXl.out]) ?_ (wcell_ones X) (by omega) (by unfold maxLen; omega) (by omega) (Nat.zero_le _) (w.heap.size + 2) (by simp [hsz]) ?_
    · intro j u hu
      have e := new_range W (wcell X) 121 j u hu
      rw [hsz] at e
      rw [Addr.add_mid]
      exact e
    intro g2 cap2 w2 hown hgrow hat2 hlt
    rw [← HW.out] at hgrow
    obtain ⟨s1, s2, s3, s4, s5⟩ := half_of (ob := .cells (wcell X).toArray 121) HH.out hown ⟨hgrow.os, hgrow.tape, hgrow.output, hgrow.size, hgrow.block⟩ (or_map hat2 id id)
    refine hK.out _ _ s1 (fun hHeld => ?_)
    clear hK K
    simp only [Act.put, List.setIfInBounds_toArray, List.set_cons_zero, List.set_cons_succ]
    refine wpAnyH_take (i := 8) (v := ?v8) (by simp; rfl) (by kernel_rfl) (by kernel_rfl) (by kernel_rfl) (fun _ _ _ h => h) (Or.inl ⟨by rfl, ?y8⟩) hHeld ?r8
    case y8 => intro w hSw; go_simp; with_reducible rfl
    simp only [Act.put, List.setIfInBounds_toArray, List.set_cons_zero, List.set_cons_succ]
    refine wpAnyH_take (i := 9) (v := ?v9) (by simp; rfl) (by kernel_rfl) (by kernel_rfl) (by kernel_rfl) (fun _ _ _ h => h) (Or.inl ⟨by rfl, ?y9⟩) hHeld ?r9
    case y9 => intro w hSw; go_simp; with_reducible rfl
    simp only [Act.put, List.setIfInBounds_toArray, List.set_cons_zero, List.set_cons_succ]
    refine wpAnyH_ready (rs := [10]) (by kernel_rfl) (by simp) ?_
    refine AllReadyH.cons (by simp; rfl) (fun K hK => ?_) AllReadyH.nil
    go_simp
    refine hK.out _ _ s4 (fun hHeld => ?_)
    clear hK K
    refine wpAnyH_done (by kernel_rfl) (NoPanic.normal ?_) _
    have t0 : (w2.setCell ⟨p, 1, none⟩ (.slice (some ⟨g2, 0, none⟩) (ws.length + 1) cap2)).cell? ⟨p, 0, none⟩ = some (.slice (some ⟨q, 0, none⟩) n cap) := by
      rw [cell_of_row _ _ _ _ 114 (0, 0) s5.str]; rfl
    have t1 := s5.rg
    rw [HXb.out.2] at t1
    have t2 : (w2.setCell ⟨p, 1, none⟩ (.slice (some ⟨g2, 0, none⟩) (ws.length + 1) cap2)).there q (i * 128 + 64) 64 := s5.pl.blk.there _ _ (by have := s5.pl.ncap; omega)
    have HD : Hid (Dsk ((w2.setCell ⟨p, 1, none⟩ (.slice (some ⟨g2, 0, none⟩) (ws.length + 1) cap2)).setCells q (i * 128 + 64) (U8 b)) (More S w) p n d (ws ++ [X]) ∧ Kept S w ((w2.setCell ⟨p, 1, none⟩ (.slice (some ⟨g2, 0, none⟩) (ws.length + 1) cap2)).setCells q (i * 128 + 64) (U8 b))) := by
      have := s5.done HH.out (by rw [HXb.out.1]; exact hi) HXl.out (by rw [HXb.out.2]; exact HY.out)
      rw [HXb.out.1, HXb.out.2] at this
      exact this
    have hqs : w.heap.size ≠ q := by have := HH.out.pl.blk.lt; omega
    have hpq : p ≠ q := HH.out.pq
    obtain ⟨w3, hw3⟩ : ∃ w3, w2.setCell ⟨p, 1, none⟩ (.slice (some ⟨g2, 0, none⟩) (ws.length + 1) cap2) = w3 := ⟨_, rfl⟩
    rw [hw3] at t0 t1 t2 HD ⊢
    clear hw3 s1 s2 s3 s4 s5 hown hgrow hat2 hlt hHeld
    go_wp2
    have hu := Tryz.underlying116
    have hi69 := HI.out
    have hl69 : (U8 b).length = 64 := by rw [U8_length]; exact HL.out
    have hu1 := ones_u8 b
    have k0 : (w3.drew.setCells q (i * 128 + 64) (U8 b)).cell? ⟨p, 0, none⟩ = some (.slice (some ⟨q, 0, none⟩) n cap) := by
      rw [World.cell?_setCells_out _ _ _ _ _ (fun e => absurd e hpq)]; exact t0
    have k1 : (w3.drew.setCells q (i * 128 + 64) (U8 b)).rangeAt w.heap.size 1 (U8 b) := World.rangeAt_setCells_apart (w := w3.drew) t1 _ _ _ (Or.inl hqs)
    have k2 : (w3.drew.setCells q (i * 128 + 64) (U8 b)).there q (i * 128 + 64) 64 := World.there_setCells (w := w3.drew) t2 _ _ _
    have i0' : (0 : Int) ≤ (i : Int) := by omega
    have i1' : (i : Int) < (n : Int) := by omega
    go_region_held3 (fun w' => w'.cell? ⟨p, 0, none⟩ = some (.slice (some ⟨q, 0, none⟩) n cap) ∧ w'.rangeAt w.heap.size 1 (U8 b) ∧ w'.there q (i * 128 + 64) 64) (first | exact ⟨t0, t1, t2⟩ | exact ⟨k0, k1, k2⟩) (fail)
    clear hu hi69 hl69 hu1 k0 k1 k2
    rw [setCells_drew]
    go_wp2
    go_ret
    rw [hX]
    exact ⟨rfl, HD.out.1.later ⟨rfl, rfl, rfl, Nat.le_refl _, fun _ _ => rfl⟩, HD.out.2.drew⟩
  · rw [if_pos (by rfl)]
    refine wp_buildSlice73 (.tmp 28) rfl X rfl HXl.out ?_
    refine hK.out _ _ (World.rangeAt_alloc hHeld _) (fun hHeld => ?_)
    clear hK K
    simp only [Act.put, List.setIfInBounds_toArray, List.set_cons_zero, List.set_cons_succ]
    refine wpAnyH_ready (rs := [4]) (by kernel_rfl) (by simp) ?_
    refine AllReadyH.cons (by simp; rfl) (fun K hK => ?_) AllReadyH.nil
    have c3 := c2 (.cells (wcell X).toArray 121)
    go_simp
    refine hK.out _ _ hHeld (fun hHeld => ?_)
    clear hK K
    refine wpAnyH_ready (rs := [7]) (by kernel_rfl) (by simp) ?_
    refine AllReadyH.cons (by simp; rfl) (fun K hK => ?_) AllReadyH.nil
    refine step_append_lies _ rfl (.tmp 27) (.tmp 29) 112 rfl 0 121 i0 _ 65 72 Tryz.underlying112 hi0 hz0 hz1 hz2 (by simp [Value.cells]) (by omega) v ws.length (WC ws) rfl (own_same (hp1.later (below_alloc W (.cells (wcell X).toArray 121))).wt (fun _ _ => rfl)) ⟨w.heap.size + 1, 0, none⟩ 1 1 (wcell X) rfl (by simp [wcell, HXl.out]) ?_ (wcell_ones X) (by omega) (by unfold maxLen; omega) (by omega) (Nat.zero_le _) (w.heap.size + 2) (by simp [hsz]) ?_
    · intro j u hu
      have e := new_range W (wcell X) 121 j u hu
      rw [hsz] at e
      rw [Addr.add_mid]
      exact e
    intro g2 cap2 w2 hown hgrow hat2 hlt
    rw [← HW.out] at hgrow
    obtain ⟨s1, s2, s3, s4, s5⟩ := half_of (ob := .cells (wcell X).toArray 121) HH.out hown ⟨hgrow.os, hgrow.tape, hgrow.output, hgrow.size, hgrow.block⟩ (or_map hat2 id id)
    refine hK.out _ _ s1 (fun hHeld => ?_)
    clear hK K
    simp only [Act.put, List.setIfInBounds_toArray, List.set_cons_zero, List.set_cons_succ]
    refine wpAnyH_take (i := 8) (v := ?v8b) (by simp; rfl) (by kernel_rfl) (by kernel_rfl) (by kernel_rfl) (fun _ _ _ h => h) (Or.inl ⟨by rfl, ?y8b⟩) hHeld ?r8b
    case y8b => intro w hSw; go_simp; with_reducible rfl
    simp only [Act.put, List.setIfInBounds_toArray, List.set_cons_zero, List.set_cons_succ]
    refine wpAnyH_take (i := 9) (v := ?v9b) (by simp; rfl) (by kernel_rfl) (by kernel_rfl) (by kernel_rfl) (fun _ _ _ h => h) (Or.inl ⟨by rfl, ?y9b⟩) hHeld ?r9b
    case y9b => intro w hSw; go_simp; with_reducible rfl
    simp only [Act.put, List.setIfInBounds_toArray, List.set_cons_zero, List.set_cons_succ]
    refine wpAnyH_ready (rs := [10]) (by kernel_rfl) (by simp) ?_
    refine AllReadyH.cons (by simp; rfl) (fun K hK => ?_) AllReadyH.nil
    go_simp
    refine hK.out _ _ s4 (fun hHeld => ?_)
    clear hK K
    refine wpAnyH_done (by kernel_rfl) (NoPanic.normal ?_) _
    have t0 : (w2.setCell ⟨p, 1, none⟩ (.slice (some ⟨g2, 0, none⟩) (ws.length + 1) cap2)).cell? ⟨p, 0, none⟩ = some (.slice (some ⟨q, 0, none⟩) n cap) := by
      rw [cell_of_row _ _ _ _ 114 (0, 0) s5.str]; rfl
    have t1 := s5.rg
    rw [HXb.out.2] at t1
    have t2 : (w2.setCell ⟨p, 1, none⟩ (.slice (some ⟨g2, 0, none⟩) (ws.length + 1) cap2)).there q (i * 128 + 64) 64 := s5.pl.blk.there _ _ (by have := s5.pl.ncap; omega)
    have HD : Hid (Dsk ((w2.setCell ⟨p, 1, none⟩ (.slice (some ⟨g2, 0, none⟩) (ws.length + 1) cap2)).setCells q (i * 128 + 64) (U8 b)) (More S w) p n d (ws ++ [X]) ∧ Kept S w ((w2.setCell ⟨p, 1, none⟩ (.slice (some ⟨g2, 0, none⟩) (ws.length + 1) cap2)).setCells q (i * 128 + 64) (U8 b))) := by
      have := s5.done HH.out (by rw [HXb.out.1]; exact hi) HXl.out (by rw [HXb.out.2]; exact HY.out)
      rw [HXb.out.1, HXb.out.2] at this
      exact this
    have hqs : w.heap.size ≠ q := by have := HH.out.pl.blk.lt; omega
    have hpq : p ≠ q := HH.out.pq
    obtain ⟨w3, hw3⟩ : ∃ w3, w2.setCell ⟨p, 1, none⟩ (.slice (some ⟨g2, 0, none⟩) (ws.length + 1) cap2) = w3 := ⟨_, rfl⟩
    rw [hw3] at t0 t1 t2 HD ⊢
    clear hw3 s1 s2 s3 s4 s5 hown hgrow hat2 hlt hHeld
    go_wp2
    have hu := Tryz.underlying116
    have hi69 := HI.out
    have hl69 : (U8 b).length = 64 := by rw [U8_length]; exact HL.out
    have hu1 := ones_u8 b
    have k0 : (w3.drew.setCells q (i * 128 + 64) (U8 b)).cell? ⟨p, 0, none⟩ = some (.slice (some ⟨q, 0, none⟩) n cap) := by
      rw [World.cell?_setCells_out _ _ _ _ _ (fun e => absurd e hpq)]; exact t0
    have k1 : (w3.drew.setCells q (i * 128 + 64) (U8 b)).rangeAt w.heap.size 1 (U8 b) := World.rangeAt_setCells_apart (w := w3.drew) t1 _ _ _ (Or.inl hqs)
    have k2 : (w3.drew.setCells q (i * 128 + 64) (U8 b)).there q (i * 128 + 64) 64 := World.there_setCells (w := w3.drew) t2 _ _ _
    have i0' : (0 : Int) ≤ (i : Int) := by omega
    have i1' : (i : Int) < (n : Int) := by omega
    go_region_held3 (fun w' => w'.cell? ⟨p, 0, none⟩ = some (.slice (some ⟨q, 0, none⟩) n cap) ∧ w'.rangeAt w.heap.size 1 (U8 b) ∧ w'.there q (i * 128 + 64) 64) (first | exact ⟨t0, t1, t2⟩ | exact ⟨k0, k1, k2⟩) (fail)
    clear hu hi69 hl69 hu1 k0 k1 k2
    rw [setCells_drew]
    go_wp2
    go_ret
    rw [hX]
    exact ⟨rfl, HD.out.1.later ⟨rfl, rfl, rfl, Nat.le_refl _, fun _ _ => rfl⟩, HD.out.2.drew⟩
end Go.Proofs.YtefnkjajjidfaaaGreatDoor
