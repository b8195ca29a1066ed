/-
  Contracts of layer 4, second part: Write. Contracts of layer 4, third part: settle. Contracts of layer 4, fourth part: Flush, Crash. Contracts of layer 4, fifth part: Image, Copy, Load.
-/
import Derived.Test.YtpenddnmmfpdjaaDoorN4
import Derived.Deep.RegionLaw
namespace Go.Proofs.YtpenddnmmfpdjaaDoor
open Go.RowKit
set_option maxHeartbeats 1000000 in
set_option maxRecDepth 100000 in
theorem write_nil (i : Int) (v : Value) (w : World) : Calls Tryd.prog 43 #[.pointer none, .int .i64 i, v] w fun e w' => e = .returned (.int .i64 1) ∧ w = w' := by
  go_enter Tryd.func43, Tryd.ntmps43
  go_wp2_with fail
  refine (refuses_nil i w).mono ?_
  rintro e w1 ⟨rfl, rfl⟩
  go_wp2
  go_ret
  exact ⟨rfl, rfl⟩
set_option maxHeartbeats 1000000 in
set_option maxRecDepth 100000 in
theorem write_bad {w : World} {S : Nat → Prop} {p n : Nat} {d : List Int} {ws : List Wr} (h : Dsk w S p n d ws) (i : Int) (v : Value) (hi : i < 0 ∨ (n : Int) ≤ i) : Calls Tryd.prog 43 #[.pointer (some ⟨p, 0, none⟩), .int .i64 i, v] w fun e w' => e = .returned (.int .i64 40) ∧ w = w' := by
  obtain ⟨q, cap, v, h⟩ := h
  have h0 := h.cell0
  clear h
  go_enter Tryd.func43, Tryd.ntmps43
  go_wp2_with fail
  refine (refuses_any i w p n q cap h0).mono ?_
  rintro e w1 ⟨rfl, rfl⟩
  rw [refS, if_neg (by omega)]
  go_wp2
  go_ret
  exact ⟨rfl, rfl⟩
set_option maxHeartbeats 1000000 in
set_option maxRecDepth 100000 in
theorem write_long {w : World} {S : Nat → Prop} {p n : Nat} {d : List Int} {ws : List Wr} (h : Dsk w S p n d ws) (i : Nat) (hi : i < n) (a : Option Addr) (m c : Nat) (hm : ¬ m = 64) : Calls Tryd.prog 43 #[.pointer (some ⟨p, 0, none⟩), .int .i64 i, .slice a m c] w fun e w' => e = .returned (.int .i64 2) ∧ w = w' := by
  obtain ⟨q, cap, v, h⟩ := h
  have h0 := h.cell0
  have hm' : ((m : Int) != 64) = true := by rw [bne_iff_ne]; omega
  clear h hm
  go_enter Tryd.func43, Tryd.ntmps43
  go_wp2_with fail
  refine (refuses_any i w p n q cap h0).mono ?_
  rintro e w1 ⟨rfl, rfl⟩
  rw [refS, if_pos (by omega)]
  go_wp2
  go_ret
  exact ⟨rfl, rfl⟩
/-- a block's cell turned -/
theorem setCell_row {w : World} {g t : Nat} {cs : List Value} (h : w.heap[g]? = some (.cells cs.toArray t (0, 0))) (j : Nat) (v : Value) : (w.setCell ⟨g, j, none⟩ v).heap[g]? = some (.cells (cs.set j v).toArray t (0, 0)) := by
  rw [heap_setCell_same w g j cs.toArray t v h]; simp
/-- what stands once the write waits and is not yet told -/
structure HalfW (w w3 : World) (S : Nat → Prop) (p n : Nat) (d : List Int) (ws : List Wr) (X : Wr) (q cap : Nat) (v : Value) : Prop where
  str : w3.heap[p]? = some (.cells #[.slice (some ⟨q, 0, none⟩) n cap, v] 97 (0, 0))
  pl : Pl w3 q n cap (sec d) (newest ws d)
  wt : w3.ownsRow 0 100 65 v (ws.length + 1) (WC (ws ++ [X]))
  sv : ∀ k, v.ownBlock = some k → More S w k
  rg : w3.rangeAt w.heap.size 1 (U8 X.b)
  kp : Kept S w w3
theorem half_of {w w2 : World} {S : Nat → Prop} {p n : Nat} {d : List Int} {ws : List Wr} {X : Wr} {q cap : Nat} {v : Value} {g cap' : Nat} {ob : Obj}
    (hp : PD w S p n d ws q cap v) (hown : w2.ownsRow 0 100 65 (.slice (some ⟨g, 0, none⟩) (ws.length + 1) cap') (ws.length + 1) (WC ws ++ wcell X))
    (hgrow : ((w.alloc (.cells (wcell X).toArray 100)).alloc ob).grownBy w2 v.ownBlock) (hat : v.ownBlock = some g ∨ g = w.heap.size + 2) :
    w2.rangeAt w.heap.size 0 (wcell X) ∧ w2.cell? ⟨p, 1, none⟩ = some v ∧ w2.frozen? ⟨p, 1, none⟩ = false ∧ (w2.setCell ⟨p, 1, none⟩ (.slice (some ⟨g, 0, none⟩) (ws.length + 1) cap')).rangeAt w.heap.size 0 (wcell X) ∧
    HalfW w (w2.setCell ⟨p, 1, none⟩ (.slice (some ⟨g, 0, none⟩) (ws.length + 1) cap')) S p n d ws X q cap (.slice (some ⟨g, 0, none⟩) (ws.length + 1) cap') := by
  have h1 := (hp.later (below_alloc w (.cells (wcell X).toArray 100)))
  have h2 := h1.later (below_alloc _ ob)
  have hlp := hp.blk.lt
  have hlq := hp.pl.blk.lt
  have hsz : ((w.alloc (.cells (wcell X).toArray 100)).alloc ob).heap.size = w.heap.size + 2 := by simp
  have hv : ∀ k, v.ownBlock = some k → k < w.heap.size := fun k hk => (own_ownBlk hp.wt hk).elim fun _ hb => hb.lt
  have bp : w2.heap[p]? = some (.cells #[.slice (some ⟨q, 0, none⟩) n cap, v] 97 (0, 0)) := (hgrow.block p (by omega) (fun e => (h2.pv p e.symm).1 rfl)).trans h2.str
  have bq : w2.heap[q]? = ((w.alloc (.cells (wcell X).toArray 100)).alloc ob).heap[q]? := hgrow.block q (by omega) (fun e => (h2.pv q e.symm).2 rfl)
  have bx : w2.heap[w.heap.size]? = (w.alloc (.cells (wcell X).toArray 100)).heap[w.heap.size]? :=
    (hgrow.block w.heap.size (by omega) (fun e => by have := hv _ e.symm; omega)).trans (Below.heap_alloc _ ob _ (by simp))
  have r2 : w2.rangeAt w.heap.size 0 (wcell X) := rangeAt_same (new_range w _ 100) bx
  have hgp : g ≠ p := (own_blk hown).1.ne ⟨_, bp, rfl⟩ (by decide)
  have bx3 : (w2.setCell ⟨p, 1, none⟩ (.slice (some ⟨g, 0, none⟩) (ws.length + 1) cap')).heap[w.heap.size]? = w2.heap[w.heap.size]? := heap_setCell_other _ _ _ _ (by show w.heap.size ≠ p; omega)
  refine ⟨r2, ?_, frozen_of_row _ _ _ _ 97 bp, rangeAt_same r2 bx3, ?_⟩
  · rw [cell_of_row _ _ _ _ 97 (0, 0) bp]; rfl
  refine ⟨setCell_row (cs := [_, _]) bp 1 _, ?_, ?_, ?_, ?_, ?_⟩
  · exact (h2.pl.same bq).same (heap_setCell_other _ _ _ _ (fun e => hp.pq e.symm))
  · rw [WC_snoc]
    exact own_same hown (fun k hk => heap_setCell_other _ _ _ _ (fun e => hgp (by simp only [Value.ownBlock, Option.some.injEq] at hk; rw [hk]; exact e)))
  · intro k hk
    simp only [Value.ownBlock, Option.some.injEq] at hk
    subst hk
    rcases hat with hat | hat
    · exact .inl (hp.sv _ hat)
    · right; omega
  · refine rangeAt_same (w := w2) ?_ bx3
    exact rangeAt_same (new_range_at w _ _ 1 100 (wcell_data X)) bx
  · refine Kept.setCell ?_ (fun _ => hp.sp) _
    exact (((Kept.refl S w).alloc _).alloc _).grown hgrow (fun k hk _ => hp.sv k hk)
/-- and told -/
theorem HalfW.done {w w3 : World} {S : Nat → Prop} {p n : Nat} {d : List Int} {ws : List Wr} {X : Wr} {q cap : Nat} {v v0 : Value} (h : HalfW w w3 S p n d ws X q cap v) (hp : PD w S p n d ws q cap v0) (hs : X.s < n) (hb : X.b.length = 64) (hy : Bytes X.b) :
    Dsk (w3.setCells q (X.s * 128 + 64) (U8 X.b)) (More S w) p n d (ws ++ [X]) ∧ Kept S w (w3.setCells q (X.s * 128 + 64) (U8 X.b)) := by
  have hb3 : Blk w3 p 97 2 := ⟨_, h.str, rfl⟩
  have hpq : p ≠ q := hb3.ne h.pl.blk (by decide)
  have ho : ∀ k, k ≠ q → (w3.setCells q (X.s * 128 + 64) (U8 X.b)).heap[k]? = w3.heap[k]? := fun k hk => setCells_other hk _ _ _
  refine ⟨⟨q, cap, v, ?_⟩, Kept.setCells (fun _ => hp.sq) _ _ _ h.kp⟩
  refine ⟨(ho p hpq).trans h.str, ?_, own_same (by rw [List.length_append, List.length_singleton]; exact h.wt) (fun k hk => ?_), .inl hp.sp, .inl hp.sq, h.sv, hp.n1, hp.n2, hp.dl, hp.db, hp.fit.snoc hs hb hy⟩
  · refine (h.pl.setN X.b hb hs).congr (fun i _ => rfl) (fun i _ => ?_)
    rw [newest_snoc ws d i X.s X.b]
  · obtain ⟨sz, hk'⟩ := own_ownBlk h.wt hk
    exact ho k (hk'.ne h.pl.blk (by decide))
set_option maxHeartbeats 2000000 in
set_option maxRecDepth 100000 in
theorem write_good {w : World} {S : Nat → Prop} {p n : Nat} {d : List Int} {ws : List Wr} (h : Dsk w S p n d ws) (i : Nat) (hi : i < n) (a : Option Addr) (c : Nat) (b : List Int) (hb : BIn w a 64 b) (hk : ws.length ≤ 1000) : Calls Tryd.prog 43 #[.pointer (some ⟨p, 0, none⟩), .int .i64 i, .slice a 64 c] w fun e w' => e = .returned (.int .i64 0) ∧ Dsk w' (More S w) p n d (ws ++ [⟨i, b⟩]) ∧ Kept S w w' := by
  obtain ⟨q, cap, v, h⟩ := h
  have h0 := h.cell0
  obtain ⟨g, o, rfl, _⟩ := hb.cells (by omega)
  have HR : Hid (w.rangeAt g o (U8 b)) := hb.range
  have HH : Hid (PD w S p n d ws q cap v) := h
  have hat : ∀ w, (Instr.arrayAt 98 (.slice (some ⟨g, o, none⟩) 64 c)).run Tryd.prog w = .ok (.pointer (some ⟨g, o, none⟩)) w := fun w => run_arrayAt w 98 _ 64 _ 64 c Tryd.underlying98 (by omega)
  have HL : Hid (b.length = 64) := hb.len
  have HI : Hid ((Tryd.prog.info? 98).map (·.size) = some (U8 b).length) := by show _ = _; rw [U8_length, HL.out]; exact size69
  have HY : Hid (Bytes b) := hb.byte
  clear h hb
  go_enter Tryd.func43, Tryd.ntmps43
  go_wp2_with fail
  refine (refuses_any i w p n q cap h0).mono ?_
  rintro e w1 ⟨rfl, rfl⟩
  rw [refS, if_pos (by omega)]
  go_wp2_with (first | (refine wpList_load_mid (by rfl) 98 (.tmp 20) (by rfl) g o (by rfl) (U8 b) _ HR.out Tryd.underlying98 rfl HI.out ?_) | (refine wpList_build80 (by rfl) (.tmp 18) (.tmp 21) (by rfl) i b (by rfl) (by rfl) HL.out ?_) | (refine wpList_alloc80 (by rfl) (by rfl) ?_) | (refine wpList_store80 (by rfl) (.tmp 8) (.tmp 22) (by rfl) ⟨i, b⟩ (by rfl) (by rfl) HL.out ?_))
  simp only [Act.put, List.setIfInBounds_toArray, List.set_cons_zero, List.set_cons_succ]
  obtain ⟨X, hX⟩ : ∃ X, Wr.mk i b = X := ⟨_, rfl⟩
  have HXl : Hid (X.b.length = 64) := by rw [← hX]; exact HL.out
  have HXb : Hid (X.s = i ∧ X.b = b) := by rw [← hX]; exact ⟨rfl, rfl⟩
  rw [hX]
  have r0 : (w.alloc (.cells (wcell X).toArray 100)).rangeAt w.heap.size 0 (wcell X) := new_range w _ 100
  have hsz : (w.alloc (.cells (wcell X).toArray 100)).heap.size = w.heap.size + 1 := by simp
  have hp1 : PD (w.alloc (.cells (wcell X).toArray 100)) S p n d ws q cap v := HH.out.later (below_alloc w _)
  have hK0 : Kept S w (w.alloc (.cells (wcell X).toArray 100)) := Kept.of_below (below_alloc w _)
  obtain ⟨W, hW⟩ : ∃ W, w.alloc (.cells (wcell X).toArray 100) = W := ⟨_, rfl⟩
  rw [hW] at r0 hsz hp1 hK0 ⊢
  have HW : Hid (w.alloc (.cells (wcell X).toArray 100) = W) := hW
  clear hW
  obtain ⟨i0, hi0, hz0, hz1, hz2⟩ := info_parts info80
  have c1 := hp1.cell1
  have c2 : ∀ ob, (W.alloc ob).cell? ⟨p, 1, none⟩ = some v := fun ob => (hp1.later (below_alloc W ob)).cell1
  refine wp_region_noPanic ?_
  refine wp_region_held_drew (S := (fun w' => w'.rangeAt w.heap.size 0 (wcell X))) (by kernel_rfl) r0 (fun hHeld => ?_)
  refine wpAnyH_take (i := 0) (v := ?v0) (by simp; rfl) (by kernel_rfl) (by kernel_rfl) (by kernel_rfl) (fun _ _ _ h => h) (Or.inl ⟨by rfl, ?y0⟩) hHeld ?r0
  case y0 => intro w hSw; go_simp; with_reducible rfl
  simp only [Act.put, List.setIfInBounds_toArray, List.set_cons_zero, List.set_cons_succ]
  refine wpAnyH_take (i := 1) (v := ?v1) (by simp; rfl) (by kernel_rfl) (by kernel_rfl) (by kernel_rfl) (fun _ _ _ h => h) (Or.inl ⟨by rfl, ?y1⟩) hHeld ?r1
  case y1 => intro w hSw; go_simp; with_reducible rfl
  simp only [Act.put, List.setIfInBounds_toArray, List.set_cons_zero, List.set_cons_succ]
  refine wpAnyH_take (i := 2) (v := ?v2) (by simp; rfl) (by kernel_rfl) (by kernel_rfl) (by kernel_rfl) (fun _ _ _ h => h) (Or.inl ⟨by rfl, ?y2⟩) hHeld ?r2
  case y2 => intro w hSw; go_simp; with_reducible rfl
  simp only [Act.put, List.setIfInBounds_toArray, List.set_cons_zero, List.set_cons_succ]
  refine wpAnyH_take (i := 3) (v := ?v3) (by simp; rfl) (by kernel_rfl) (by kernel_rfl) (by kernel_rfl) (fun _ _ _ h => h) (Or.inl ⟨by rfl, ?y3⟩) hHeld ?r3
  case y3 => intro w hSw; go_simp; with_reducible rfl
  simp only [Act.put, List.setIfInBounds_toArray, List.set_cons_zero, List.set_cons_succ]
  refine wpAnyH_take (i := 5) (v := _) (by simp; rfl) (by kernel_rfl) (by kernel_rfl) (by kernel_rfl) (fun _ _ _ h => h) (yieldsIf_load_mid (by rfl) 100 (.tmp 8) rfl w.heap.size 0 rfl (wcell X) _ (fun _ h => h) Tryd.underlying100 rfl (by rw [size80]; simp [wcell, HXl.out])) hHeld ?_
  simp only [Act.put, List.setIfInBounds_toArray, List.set_cons_zero, List.set_cons_succ]
  refine wpAnyH_ready (rs := [4, 6]) (by kernel_rfl) (by simp) ?_
  refine AllReadyH.cons (by simp; rfl) (fun K hK => ?_) (AllReadyH.cons (by simp; rfl) (fun K hK => ?_) AllReadyH.nil)
  · go_simp
    refine hK.out _ _ hHeld (fun hHeld => ?_)
    clear hK K
    refine wpAnyH_ready (rs := [6]) (by kernel_rfl) (by simp) ?_
    refine AllReadyH.cons (by simp; rfl) (fun K hK => ?_) AllReadyH.nil
    rw [if_pos (by rfl)]
    refine wp_buildSlice73 (.tmp 28) rfl X rfl HXl.out ?_
    refine hK.out _ _ (World.rangeAt_alloc hHeld _) (fun hHeld => ?_)
    clear hK K
    simp only [Act.put, List.setIfInBounds_toArray, List.set_cons_zero, List.set_cons_succ]
    have e0 : W.drew.heap.size = w.heap.size + 1 := hsz
    simp only [e0, World.alloc_drew]
    refine wpAnyH_ready (rs := [7]) (by kernel_rfl) (by simp) ?_
    refine AllReadyH.cons (by simp; rfl) (fun K hK => ?_) AllReadyH.nil
    refine step_append_lies _ rfl (.tmp 27) (.tmp 29) 95 rfl 0 100 i0 _ 65 72 Tryd.underlying95 hi0 hz0 hz1 hz2 (by simp [Value.cells]) (by omega) v ws.length (WC ws) rfl (own_same (hp1.later (below_alloc W (.cells (wcell X).toArray 100))).wt (fun _ _ => rfl)) ⟨w.heap.size + 1, 0, none⟩ 1 1 (wcell X) rfl (by simp [wcell, HXl.out]) ?_ (wcell_ones X) (by omega) (by unfold maxLen; omega) (by omega) (Nat.zero_le _) (w.heap.size + 2) (by simp [hsz]) ?_
    · intro j u hu
      have e := new_range W (wcell X) 100 j u hu
      rw [hsz] at e
      rw [Addr.add_mid]
      exact e
    intro g2 cap2 w2 hown hgrow hat2 hlt
    rw [← HW.out] at hgrow
    obtain ⟨s1, s2, s3, s4, s5⟩ := half_of (ob := .cells (wcell X).toArray 100) HH.out hown ⟨hgrow.os, hgrow.tape, hgrow.output, hgrow.size, hgrow.block⟩ (or_map hat2 id id)
    refine hK.out _ _ s1 (fun hHeld => ?_)
    clear hK K
    simp only [Act.put, List.setIfInBounds_toArray, List.set_cons_zero, List.set_cons_succ]
    refine wpAnyH_take (i := 8) (v := ?v8) (by simp; rfl) (by kernel_rfl) (by kernel_rfl) (by kernel_rfl) (fun _ _ _ h => h) (Or.inl ⟨by rfl, ?y8⟩) hHeld ?r8
    case y8 => intro w hSw; go_simp; with_reducible rfl
    simp only [Act.put, List.setIfInBounds_toArray, List.set_cons_zero, List.set_cons_succ]
    refine wpAnyH_take (i := 9) (v := ?v9) (by simp; rfl) (by kernel_rfl) (by kernel_rfl) (by kernel_rfl) (fun _ _ _ h => h) (Or.inl ⟨by rfl, ?y9⟩) hHeld ?r9
    case y9 => intro w hSw; go_simp; with_reducible rfl
    simp only [Act.put, List.setIfInBounds_toArray, List.set_cons_zero, List.set_cons_succ]
    refine wpAnyH_ready (rs := [10]) (by kernel_rfl) (by simp) ?_
    refine AllReadyH.cons (by simp; rfl) (fun K hK => ?_) AllReadyH.nil
    go_simp
    refine hK.out _ _ s4 (fun hHeld => ?_)
    clear hK K
    refine wpAnyH_done (by kernel_rfl) (NoPanic.normal ?_) _
    have t0 : (w2.setCell ⟨p, 1, none⟩ (.slice (some ⟨g2, 0, none⟩) (ws.length + 1) cap2)).cell? ⟨p, 0, none⟩ = some (.slice (some ⟨q, 0, none⟩) n cap) := by
      rw [cell_of_row _ _ _ _ 97 (0, 0) s5.str]; rfl
    have t1 := s5.rg
    rw [HXb.out.2] at t1
    have t2 : (w2.setCell ⟨p, 1, none⟩ (.slice (some ⟨g2, 0, none⟩) (ws.length + 1) cap2)).there q (i * 128 + 64) 64 := s5.pl.blk.there _ _ (by have := s5.pl.ncap; omega)
    have HD : Hid (Dsk ((w2.setCell ⟨p, 1, none⟩ (.slice (some ⟨g2, 0, none⟩) (ws.length + 1) cap2)).setCells q (i * 128 + 64) (U8 b)) (More S w) p n d (ws ++ [X]) ∧ Kept S w ((w2.setCell ⟨p, 1, none⟩ (.slice (some ⟨g2, 0, none⟩) (ws.length + 1) cap2)).setCells q (i * 128 + 64) (U8 b))) := by
      have := s5.done HH.out (by rw [HXb.out.1]; exact hi) HXl.out (by rw [HXb.out.2]; exact HY.out)
      rw [HXb.out.1, HXb.out.2] at this
      exact this
    have hqs : w.heap.size ≠ q := by have := HH.out.pl.blk.lt; omega
    have hpq : p ≠ q := HH.out.pq
    obtain ⟨w3, hw3⟩ : ∃ w3, w2.setCell ⟨p, 1, none⟩ (.slice (some ⟨g2, 0, none⟩) (ws.length + 1) cap2) = w3 := ⟨_, rfl⟩
    rw [hw3] at t0 t1 t2 HD ⊢
    clear hw3 s1 s2 s3 s4 s5 hown hgrow hat2 hlt hHeld
    go_wp2
    have hu := Tryd.underlying98
    have hi69 := HI.out
    have hl69 : (U8 b).length = 64 := by rw [U8_length]; exact HL.out
    have hu1 := ones_u8 b
    have k0 : (w3.drew.setCells q (i * 128 + 64) (U8 b)).cell? ⟨p, 0, none⟩ = some (.slice (some ⟨q, 0, none⟩) n cap) := by
      rw [World.cell?_setCells_out _ _ _ _ _ (fun e => absurd e hpq)]; exact t0
    have k1 : (w3.drew.setCells q (i * 128 + 64) (U8 b)).rangeAt w.heap.size 1 (U8 b) := World.rangeAt_setCells_apart (w := w3.drew) t1 _ _ _ (Or.inl hqs)
    have k2 : (w3.drew.setCells q (i * 128 + 64) (U8 b)).there q (i * 128 + 64) 64 := World.there_setCells (w := w3.drew) t2 _ _ _
    have i0' : (0 : Int) ≤ (i : Int) := by omega
    have i1' : (i : Int) < (n : Int) := by omega
    go_region_held3 (fun w' => w'.cell? ⟨p, 0, none⟩ = some (.slice (some ⟨q, 0, none⟩) n cap) ∧ w'.rangeAt w.heap.size 1 (U8 b) ∧ w'.there q (i * 128 + 64) 64) (first | exact ⟨t0, t1, t2⟩ | exact ⟨k0, k1, k2⟩) (fail)
    clear hu hi69 hl69 hu1 k0 k1 k2
    rw [setCells_drew]
    go_wp2
    go_ret
    rw [hX]
    exact ⟨rfl, HD.out.1.later ⟨rfl, rfl, rfl, Nat.le_refl _, fun _ _ => rfl⟩, HD.out.2.drew⟩
  · rw [if_pos (by rfl)]
    refine wp_buildSlice73 (.tmp 28) rfl X rfl HXl.out ?_
    refine hK.out _ _ (World.rangeAt_alloc hHeld _) (fun hHeld => ?_)
    clear hK K
    simp only [Act.put, List.setIfInBounds_toArray, List.set_cons_zero, List.set_cons_succ]
    refine wpAnyH_ready (rs := [4]) (by kernel_rfl) (by simp) ?_
    refine AllReadyH.cons (by simp; rfl) (fun K hK => ?_) AllReadyH.nil
    have c3 := c2 (.cells (wcell X).toArray 100)
    go_simp
    refine hK.out _ _ hHeld (fun hHeld => ?_)
    clear hK K
    refine wpAnyH_ready (rs := [7]) (by kernel_rfl) (by simp) ?_
    refine AllReadyH.cons (by simp; rfl) (fun K hK => ?_) AllReadyH.nil
    refine step_append_lies _ rfl (.tmp 27) (.tmp 29) 95 rfl 0 100 i0 _ 65 72 Tryd.underlying95 hi0 hz0 hz1 hz2 (by simp [Value.cells]) (by omega) v ws.length (WC ws) rfl (own_same (hp1.later (below_alloc W (.cells (wcell X).toArray 100))).wt (fun _ _ => rfl)) ⟨w.heap.size + 1, 0, none⟩ 1 1 (wcell X) rfl (by simp [wcell, HXl.out]) ?_ (wcell_ones X) (by omega) (by unfold maxLen; omega) (by omega) (Nat.zero_le _) (w.heap.size + 2) (by simp [hsz]) ?_
    · intro j u hu
      have e := new_range W (wcell X) 100 j u hu
      rw [hsz] at e
      rw [Addr.add_mid]
      exact e
    intro g2 cap2 w2 hown hgrow hat2 hlt
    rw [← HW.out] at hgrow
    obtain ⟨s1, s2, s3, s4, s5⟩ := half_of (ob := .cells (wcell X).toArray 100) HH.out hown ⟨hgrow.os, hgrow.tape, hgrow.output, hgrow.size, hgrow.block⟩ (or_map hat2 id id)
    refine hK.out _ _ s1 (fun hHeld => ?_)
    clear hK K
    simp only [Act.put, List.setIfInBounds_toArray, List.set_cons_zero, List.set_cons_succ]
    refine wpAnyH_take (i := 8) (v := ?v8b) (by simp; rfl) (by kernel_rfl) (by kernel_rfl) (by kernel_rfl) (fun _ _ _ h => h) (Or.inl ⟨by rfl, ?y8b⟩) hHeld ?r8b
    case y8b => intro w hSw; go_simp; with_reducible rfl
    simp only [Act.put, List.setIfInBounds_toArray, List.set_cons_zero, List.set_cons_succ]
    refine wpAnyH_take (i := 9) (v := ?v9b) (by simp; rfl) (by kernel_rfl) (by kernel_rfl) (by kernel_rfl) (fun _ _ _ h => h) (Or.inl ⟨by rfl, ?y9b⟩) hHeld ?r9b
    case y9b => intro w hSw; go_simp; with_reducible rfl
    simp only [Act.put, List.setIfInBounds_toArray, List.set_cons_zero, List.set_cons_succ]
    refine wpAnyH_ready (rs := [10]) (by kernel_rfl) (by simp) ?_
    refine AllReadyH.cons (by simp; rfl) (fun K hK => ?_) AllReadyH.nil
    go_simp
    refine hK.out _ _ s4 (fun hHeld => ?_)
    clear hK K
    refine wpAnyH_done (by kernel_rfl) (NoPanic.normal ?_) _
    have t0 : (w2.setCell ⟨p, 1, none⟩ (.slice (some ⟨g2, 0, none⟩) (ws.length + 1) cap2)).cell? ⟨p, 0, none⟩ = some (.slice (some ⟨q, 0, none⟩) n cap) := by
      rw [cell_of_row _ _ _ _ 97 (0, 0) s5.str]; rfl
    have t1 := s5.rg
    rw [HXb.out.2] at t1
    have t2 : (w2.setCell ⟨p, 1, none⟩ (.slice (some ⟨g2, 0, none⟩) (ws.length + 1) cap2)).there q (i * 128 + 64) 64 := s5.pl.blk.there _ _ (by have := s5.pl.ncap; omega)
    have HD : Hid (Dsk ((w2.setCell ⟨p, 1, none⟩ (.slice (some ⟨g2, 0, none⟩) (ws.length + 1) cap2)).setCells q (i * 128 + 64) (U8 b)) (More S w) p n d (ws ++ [X]) ∧ Kept S w ((w2.setCell ⟨p, 1, none⟩ (.slice (some ⟨g2, 0, none⟩) (ws.length + 1) cap2)).setCells q (i * 128 + 64) (U8 b))) := by
      have := s5.done HH.out (by rw [HXb.out.1]; exact hi) HXl.out (by rw [HXb.out.2]; exact HY.out)
      rw [HXb.out.1, HXb.out.2] at this
      exact this
    have hqs : w.heap.size ≠ q := by have := HH.out.pl.blk.lt; omega
    have hpq : p ≠ q := HH.out.pq
    obtain ⟨w3, hw3⟩ : ∃ w3, w2.setCell ⟨p, 1, none⟩ (.slice (some ⟨g2, 0, none⟩) (ws.length + 1) cap2) = w3 := ⟨_, rfl⟩
    rw [hw3] at t0 t1 t2 HD ⊢
    clear hw3 s1 s2 s3 s4 s5 hown hgrow hat2 hlt hHeld
    go_wp2
    have hu := Tryd.underlying98
    have hi69 := HI.out
    have hl69 : (U8 b).length = 64 := by rw [U8_length]; exact HL.out
    have hu1 := ones_u8 b
    have k0 : (w3.drew.setCells q (i * 128 + 64) (U8 b)).cell? ⟨p, 0, none⟩ = some (.slice (some ⟨q, 0, none⟩) n cap) := by
      rw [World.cell?_setCells_out _ _ _ _ _ (fun e => absurd e hpq)]; exact t0
    have k1 : (w3.drew.setCells q (i * 128 + 64) (U8 b)).rangeAt w.heap.size 1 (U8 b) := World.rangeAt_setCells_apart (w := w3.drew) t1 _ _ _ (Or.inl hqs)
    have k2 : (w3.drew.setCells q (i * 128 + 64) (U8 b)).there q (i * 128 + 64) 64 := World.there_setCells (w := w3.drew) t2 _ _ _
    have i0' : (0 : Int) ≤ (i : Int) := by omega
    have i1' : (i : Int) < (n : Int) := by omega
    go_region_held3 (fun w' => w'.cell? ⟨p, 0, none⟩ = some (.slice (some ⟨q, 0, none⟩) n cap) ∧ w'.rangeAt w.heap.size 1 (U8 b) ∧ w'.there q (i * 128 + 64) 64) (first | exact ⟨t0, t1, t2⟩ | exact ⟨k0, k1, k2⟩) (fail)
    clear hu hi69 hl69 hu1 k0 k1 k2
    rw [setCells_drew]
    go_wp2
    go_ret
    rw [hX]
    exact ⟨rfl, HD.out.1.later ⟨rfl, rfl, rfl, Nat.le_refl _, fun _ _ => rfl⟩, HD.out.2.drew⟩
end Go.Proofs.YtpenddnmmfpdjaaDoor
namespace Go.Proofs.YtpenddnmmfpdjaaDoor
open Go.RowKit
/-- what stands while writes become durable -/
structure Mid (w wr : World) (S : Nat → Prop) (p n : Nat) (ws : List Wr) (q cap : Nat) (v : Value) (D N : Nat → List Int) : Prop where
  str : wr.heap[p]? = some (.cells #[.slice (some ⟨q, 0, none⟩) n cap, .slice none 0 0] 97 (0, 0))
  pl : Pl wr q n cap D N
  wt : wr.ownsRow 0 100 65 v ws.length (WC ws)
  kp : Kept S w wr
theorem Mid.below {w wr w' : World} {S : Nat → Prop} {p n : Nat} {ws : List Wr} {q cap : Nat} {v : Value} {D N : Nat → List Int} (h : Mid w wr S p n ws q cap v D N) (hb : Below wr.heap.size wr w') : Mid w w' S p n ws q cap v D N :=
  have hp : p < wr.heap.size := Blk.lt (t := 97) (sz := 2) ⟨_, h.str, rfl⟩
  ⟨(hb.block p hp).trans h.str, h.pl.same (hb.block q h.pl.blk.lt), own_same h.wt (fun _ hk => hb.block _ ((own_ownBlk h.wt hk).elim fun _ hb => hb.lt)), h.kp.trans (T := fun _ => False) (Kept.of_below hb) (fun _ _ f => f.elim)⟩
theorem Mid.cell0 {w wr : World} {S : Nat → Prop} {p n : Nat} {ws : List Wr} {q cap : Nat} {v : Value} {D N : Nat → List Int} (h : Mid w wr S p n ws q cap v D N) : wr.cell? ⟨p, 0, none⟩ = some (.slice (some ⟨q, 0, none⟩) n cap) := by
  rw [cell_of_row _ _ _ _ 97 (0, 0) h.str]; rfl
theorem Mid.set {w wr : World} {S : Nat → Prop} {p n : Nat} {ws : List Wr} {q cap : Nat} {v : Value} {D N D' N' : Nat → List Int} (h : Mid w wr S p n ws q cap v D N) (hq : S q) (o : Nat) (vs : List Value) (hp : Pl (wr.setCells q o vs) q n cap D' N') : Mid w (wr.setCells q o vs) S p n ws q cap v D' N' := by
  have hb3 : Blk wr p 97 2 := ⟨_, h.str, rfl⟩
  have ho : ∀ k, k ≠ q → (wr.setCells q o vs).heap[k]? = wr.heap[k]? := fun k hk => setCells_other hk _ _ _
  refine ⟨(ho p (hb3.ne h.pl.blk (by decide))).trans h.str, hp, own_same h.wt (fun k hk => ?_), Kept.setCells (fun _ => hq) _ _ _ h.kp⟩
  obtain ⟨sz, hk'⟩ := own_ownBlk h.wt hk
  exact ho k (hk'.ne h.pl.blk (by decide))
theorem Mid.start {w : World} {S : Nat → Prop} {p n : Nat} {d : List Int} {ws : List Wr} {q cap : Nat} {v : Value} (h : PD w S p n d ws q cap v) : Mid w (w.setCell ⟨p, 1, none⟩ (.slice none 0 0)) S p n ws q cap v (sec d) (newest ws d) := by
  refine ⟨setCell_row (cs := [_, _]) h.str 1 _, h.pl.same (heap_setCell_other _ _ _ _ (fun e => h.pq e.symm)), own_same h.wt (fun k hk => heap_setCell_other _ _ _ _ (h.pv k hk).1), (Kept.refl S w).setCell (fun _ => h.sp) _⟩
theorem Mid.done {w wr : World} {S : Nat → Prop} {p n : Nat} {d : List Int} {ws : List Wr} {q cap : Nat} {v : Value} {N : Nat → List Int} {K : Nat → Bool} (h : Mid w wr S p n ws q cap v (sec (settle K ws d)) N) (hp : PD w S p n d ws q cap v) (hn : ∀ i, i < n → N i = sec (settle K ws d) i) : Dsk wr S p n (settle K ws d) [] :=
  ⟨q, cap, .slice none 0 0, h.str, h.pl.congr (fun _ _ => rfl) (fun i hi => hn i hi), World.ownsRow_nil _ _ _ _, hp.sp, hp.sq, fun k hk => (by simp [Value.ownBlock] at hk), hp.n1, hp.n2, setl_length hp.dl hp.fit _, setl_bytes hp.db hp.fit _, Fit.nil _⟩
/-- the write number k lies there -/
theorem wt_range {w : World} {v : Value} {ws : List Wr} {n k : Nat} (h : w.ownsRow 0 100 65 v ws.length (WC ws)) (hf : Fit n ws) (hk : k < ws.length) : ∃ g c, v = .slice (some ⟨g, 0, none⟩) ws.length c ∧ w.rangeAt g (k * 65) (wcell ws[k]) := by
  obtain ⟨pv, c, rfl, h0, h1⟩ := own_slice h
  cases pv with
  | none => have := (h0 rfl).1; omega
  | some a =>
    obtain ⟨g, rfl⟩ := h1 a rfl
    refine ⟨g, c, rfl, own_range_part h (fun j u hu => ?_)⟩
    have hj : j < 65 := by
      have := (List.getElem?_eq_some_iff.1 hu).1
      simpa [wcell, (hf.at k hk).2.1] using this
    have e := flat_at (ws.map wcell) (wcell_length hf) k (by simpa using hk) j hj
    rw [Nat.mul_comm] at e
    unfold WC
    rw [e]
    simpa using hu
set_option maxHeartbeats 400000 in
set_option maxRecDepth 100000 in
theorem flush1_any (i : Int) (w : World) : Calls Tryd.prog 46 #[.int .i64 i] w fun e w' => e = .returned (.bool true) ∧ w = w' := by
  go_enter Tryd.func46, Tryd.ntmps46
  go_wp2
  go_ret
  exact ⟨rfl, rfl⟩
/-- how the numbers that are kept lie -/
structure Keeps (w : World) (c g m : Nat) (K : Nat → Bool) : Prop where
  box : w.heap[c]? = some (.cells #[.slice (some ⟨g, 0, none⟩) m m] 136 (0, 0))
  row : w.heap[g]? = some (.cells ((List.range m).map fun i => Value.bool (K i)).toArray 4 (0, 0))
theorem Keeps.kept {w w' : World} {S : Nat → Prop} {c g m : Nat} {K : Nat → Bool} (h : Keeps w c g m K) (hk : Kept S w w') (h1 : ¬ S c) (h2 : ¬ S g) : Keeps w' c g m K :=
  ⟨(hk.block c (Array.getElem?_eq_some_iff.1 h.box).1 h1).trans h.box, (hk.block g (Array.getElem?_eq_some_iff.1 h.row).1 h2).trans h.row⟩
set_option maxHeartbeats 400000 in
set_option maxRecDepth 100000 in
theorem crash1_any (i m c g : Nat) (K : Nat → Bool) (w : World) (h : Keeps w c g m K) (hi : i < m) : Calls Tryd.prog 71 #[.int .i64 i, .pointer (some ⟨c, 0, none⟩)] w fun e w' => e = .returned (.bool (K i)) ∧ w = w' := by
  have c0 : w.cell? ⟨c, 0, none⟩ = some (.slice (some ⟨g, 0, none⟩) m m) := by rw [cell_of_row _ _ _ _ _ _ h.box]; rfl
  have c1 : w.cell? ⟨g, i, none⟩ = some (.bool (K i)) := by rw [cell_of_row _ _ _ _ _ _ h.row]; simp [hi]
  clear h
  generalize K i = kk at *
  go_enter Tryd.func71, Tryd.ntmps71
  go_wp2
  go_ret
  exact ⟨rfl, rfl⟩
set_option maxHeartbeats 4000000 in
set_option maxRecDepth 100000 in
theorem settle_flush {w : World} {S : Nat → Prop} {p n : Nat} {d : List Int} {ws : List Wr} (h : Dsk w S p n d ws) (hk : ws.length ≤ 1000) (K : Nat → Bool) (hKt : ∀ k, K k = true) :
    Calls Tryd.prog 45 #[.pointer (some ⟨p, 0, none⟩), .func (.func 46) #[] #[]] w fun e w' => e = .returned (.int .i64 ws.length) ∧ Dsk w' S p n (settle K ws d) [] ∧ Kept S w w' := by
  obtain ⟨q, cap, v, h⟩ := h
  have h1 := h.cell1
  have hf := h.free 1
  have HH : Hid (PD w S p n d ws q cap v) := h
  have HM : Hid (Mid w (w.setCell ⟨p, 1, none⟩ (.slice none 0 0)) S p n ws q cap v (sec d) (newest ws d)) := Mid.start h
  obtain ⟨pv, cv, rfl, _⟩ := own_slice h.wt
  clear h
  have HK : Hid (∀ k, K k = true) := hKt
  clear hKt
  go_enter Tryd.func45, Tryd.ntmps45
  go_wp2
  clear h1 hf
  go_loopw [20] (fun i wr => ∃ k : Nat, k ≤ ws.length ∧ i = .int .i64 k ∧ Hid (Mid w wr S p n ws q cap (.slice pv ws.length cv) (sec (setl K ws d k)) (newest ws d))) (fun i _ => ws.length - (intOf i).toNat)
  case atStart => exact ⟨0, by omega, rfl, HM.out⟩
  case round =>
    obtain ⟨k, hkl, rfl, HR⟩ := hrel
    by_cases hlt : k < ws.length
    · obtain ⟨g, c', e, hr⟩ := wt_range HR.out.wt HH.out.fit hlt
      simp only [Value.slice.injEq, true_and] at e
      obtain ⟨rfl, rfl⟩ := e
      have HX := HH.out.fit.at k hlt
      have HS : Hid (setl K ws d (k + 1) = if K k then put (setl K ws d k) ws[k].s ws[k].b else setl K ws d k) := setl_step K ws d k hlt
      generalize ws[k] = X at *
      go_wp2_with (first | (refine wpList_load_mid (by rfl) 100 (.tmp 23) (by rfl) g (k * 65) (by rfl) (wcell X) _ hr Tryd.underlying100 rfl (by rw [size80]; simp [wcell, HX.2.1]) ?_) | (refine wpList_alloc80 (by rfl) (by rfl) ?_) | (refine wpList_store80 (by rfl) (.tmp 7) (.tmp 24) (by rfl) X (by rfl) (by rfl) HX.2.1 ?_) | fail)
      have hM := HR.out.below (below_alloc wr (.cells (wcell X).toArray 100))
      have hkk := HK.out k
      refine (flush1_any k _).mono ?_
      rw [← hkk]
      rintro e w1 ⟨rfl, rfl⟩
      cases hKk : K k with
      | false =>
        have HM2 : Hid (Mid w (wr.alloc (.cells (wcell X).toArray 100)) S p n ws q cap (.slice (some ⟨g, 0, none⟩) ws.length cv) (sec (setl K ws d (k + 1))) (newest ws d)) := by
          show Mid _ _ _ _ _ _ _ _ _ _ _
          rw [HS.out, hKk]
          exact hM
        clear hM hr HR HS hKk
        go_wp2
        go_roundw
        case rel => exact ⟨k + 1, by omega, by go_num, HM2.out⟩
        case measure => simp [intOf]; omega
      | true =>
        have t0 := hM.cell0
        have t1 : (wr.alloc (.cells (wcell X).toArray 100)).cell? ⟨wr.heap.size, 0, none⟩ = some (.int .i64 (X.s : Int)) := by
          rw [cell_of_row _ _ _ _ 100 (0, 0) (heap_alloc_new wr _)]; rfl
        have t2 : (wr.alloc (.cells (wcell X).toArray 100)).rangeAt wr.heap.size 1 (U8 X.b) := new_range_at wr _ _ 1 100 (wcell_data X)
        have t3 : (wr.alloc (.cells (wcell X).toArray 100)).there q (X.s * 128) 64 := hM.pl.blk.there _ _ (by have := hM.pl.ncap; omega)
        have HM2 : Hid (Mid w ((wr.alloc (.cells (wcell X).toArray 100)).setCells q (X.s * 128) (U8 X.b)) S p n ws q cap (.slice (some ⟨g, 0, none⟩) ws.length cv) (sec (setl K ws d (k + 1))) (newest ws d)) := by
          show Mid _ _ _ _ _ _ _ _ _ _ _
          rw [HS.out, hKk, if_pos rfl]
          refine hM.set HH.out.sq _ _ ((hM.pl.setD X.b HX.2.1 HX.1).congr (fun i hi => ?_) (fun _ _ => rfl))
          exact (sec_put (setl_length HH.out.dl HH.out.fit k) HX.1 HX.2.1 hi).symm
        have hpq : p ≠ q := HH.out.pq
        have hwq : wr.heap.size ≠ q := by have := HR.out.pl.blk.lt; omega
        have HXl : Hid (X.b.length = 64) := HX.2.1
        have i1 : (X.s : Int) < (n : Int) := by omega
        have i0 : (0 : Int) ≤ (X.s : Int) := by omega
        obtain ⟨W, hW⟩ : ∃ W, wr.alloc (.cells (wcell X).toArray 100) = W := ⟨_, rfl⟩
        rw [hW] at t0 t1 t2 t3 HM2 ⊢
        clear hM hr HR HS hKk HX hW
        go_wp2
        have hu := Tryd.underlying98
        have hl69 : (U8 X.b).length = 64 := by rw [U8_length]; exact HXl.out
        have hi69 : (Tryd.prog.info? 98).map (·.size) = some (U8 X.b).length := by rw [hl69]; exact size69
        have hu1 := ones_u8 X.b
        have k0 : (W.drew.setCells q (X.s * 128) (U8 X.b)).cell? ⟨p, 0, none⟩ = some (.slice (some ⟨q, 0, none⟩) n cap) := by
          rw [World.cell?_setCells_out _ _ _ _ _ (fun e => absurd e hpq)]; exact t0
        have k1 : (W.drew.setCells q (X.s * 128) (U8 X.b)).cell? ⟨wr.heap.size, 0, none⟩ = some (.int .i64 (X.s : Int)) := by
          rw [World.cell?_setCells_out _ _ _ _ _ (fun e => absurd e hwq)]; exact t1
        have k2 : (W.drew.setCells q (X.s * 128) (U8 X.b)).rangeAt wr.heap.size 1 (U8 X.b) := World.rangeAt_setCells_apart (w := W.drew) t2 _ _ _ (Or.inl hwq)
        have k3 : (W.drew.setCells q (X.s * 128) (U8 X.b)).there q (X.s * 128) 64 := World.there_setCells (w := W.drew) t3 _ _ _
        go_region_held3 (fun w' => w'.cell? ⟨p, 0, none⟩ = some (.slice (some ⟨q, 0, none⟩) n cap) ∧ w'.cell? ⟨wr.heap.size, 0, none⟩ = some (.int .i64 (X.s : Int)) ∧ w'.rangeAt wr.heap.size 1 (U8 X.b) ∧ w'.there q (X.s * 128) 64) (first | exact ⟨t0, t1, t2, t3⟩ | exact ⟨k0, k1, k2, k3⟩) (fail)
        clear hu hi69 hl69 hu1 k0 k1 k2 k3 t0 t1 t2 t3
        rw [setCells_drew]
        go_wp2
        go_roundw
        case rel => exact ⟨k + 1, by omega, by go_num, HM2.out.below ⟨rfl, rfl, rfl, Nat.le_refl _, fun _ _ => rfl⟩⟩
        case measure => simp [intOf]; omega
    · obtain rfl : ws.length = k := by omega
      have HR2 : Hid (Mid w wr S p n ws q cap (.slice pv ws.length cv) (sec (settle K ws d)) (fun i => again (settle K ws d) ws d i 0)) := HR.out
      clear HR
      go_wp2
      clear HM
      obtain ⟨w0, hw0⟩ : ∃ w0, w0 = wr := ⟨_, rfl⟩
      subst hw0
      go_loopw [41] (fun i wr => ∃ k : Nat, k ≤ ws.length ∧ i = .int .i64 k ∧ Hid (Mid w wr S p n ws q cap (.slice pv ws.length cv) (sec (settle K ws d)) (fun i => again (settle K ws d) ws d i k))) (fun i _ => ws.length - (intOf i).toNat)
      case atStart => exact ⟨0, by omega, rfl, HR2.out⟩
      case round =>
        obtain ⟨k, hkl2, rfl, HR⟩ := hrel
        by_cases hlt2 : k < ws.length
        · obtain ⟨g, c', e, hr⟩ := wt_range HR.out.wt HH.out.fit hlt2
          simp only [Value.slice.injEq, true_and] at e
          obtain ⟨rfl, rfl⟩ := e
          have HX := HH.out.fit.at k hlt2
          have HS : Hid (∀ i, again (settle K ws d) ws d i (k + 1) = if ws[k].s = i then sec (settle K ws d) i else again (settle K ws d) ws d i k) := fun i => again_step _ ws d i k hlt2
          generalize ws[k] = X at *
          have hM := HR.out.below (below_alloc wr (.cells (wcell X).toArray 100))
          have t0 := hM.cell0
          have t1 : (wr.alloc (.cells (wcell X).toArray 100)).cell? ⟨wr.heap.size, 0, none⟩ = some (.int .i64 (X.s : Int)) := by
            rw [cell_of_row _ _ _ _ 100 (0, 0) (heap_alloc_new wr _)]; rfl
          have HL : Hid ((sec (settle K ws d) X.s).length = 64) := hM.pl.dl X.s HX.1
          have HT : Hid ((wr.alloc (.cells (wcell X).toArray 100)).drew.rangeAt q (X.s * 128) (U8 (sec (settle K ws d) X.s)) ∧ (wr.alloc (.cells (wcell X).toArray 100)).drew.there q (X.s * 128 + 64) 64) := ⟨hM.pl.dur X.s HX.1, hM.pl.blk.there _ _ (by have := hM.pl.ncap; omega)⟩
          have HM2 : Hid (Mid w ((wr.alloc (.cells (wcell X).toArray 100)).setCells q (X.s * 128 + 64) (U8 (sec (settle K ws d) X.s))) S p n ws q cap (.slice (some ⟨g, 0, none⟩) ws.length cv) (sec (settle K ws d)) (fun i => again (settle K ws d) ws d i (k + 1))) := by
            refine hM.set HH.out.sq _ _ ((hM.pl.setN _ HL.out HX.1).congr (fun _ _ => rfl) (fun i hi => ?_))
            show (if i = X.s then _ else _) = again (settle K ws d) ws d i (k + 1)
            rw [HS.out i]
            by_cases c : i = X.s
            · rw [if_pos c, if_pos c.symm, c]
            · rw [if_neg c, if_neg (fun e => c e.symm)]
          have i1 : (X.s : Int) < (n : Int) := by omega
          have i0 : (0 : Int) ≤ (X.s : Int) := by omega
          clear hM HR HS
          generalize sec (settle K ws d) X.s = B at *
          go_wp2_with (first | (refine wpList_load_mid (by rfl) 100 (.tmp 43) (by rfl) g (k * 65) (by rfl) (wcell X) _ hr Tryd.underlying100 rfl (by rw [size80]; simp [wcell, HX.2.1]) ?_) | (refine wpList_alloc80 (by rfl) (by rfl) ?_) | (refine wpList_store80 (by rfl) (.tmp 9) (.tmp 44) (by rfl) X (by rfl) (by rfl) HX.2.1 ?_) | fail)
          simp only [Act.put, List.setIfInBounds_toArray, List.set_cons_zero, List.set_cons_succ]
          obtain ⟨W, hW⟩ : ∃ W, wr.alloc (.cells (wcell X).toArray 100) = W := ⟨_, rfl⟩
          rw [hW] at t0 t1 HT HM2 ⊢
          clear hW hr
          go_region_held3 (fun w' => w'.cell? ⟨p, 0, none⟩ = some (.slice (some ⟨q, 0, none⟩) n cap) ∧ w'.cell? ⟨wr.heap.size, 0, none⟩ = some (.int .i64 (X.s : Int))) (exact ⟨t0, t1⟩) (fail)
          clear t0 t1
          go_wp2_with (first | (refine wpList_load_mid (by rfl) 98 (.tmp 55) (by rfl) q (X.s * 128) (by rfl) (U8 B) _ HT.out.1 Tryd.underlying98 rfl (by rw [size69, U8_length, HL.out]) ?_) | (refine wpList_store_mid (by rfl) 98 (.tmp 58) (.tmp 56) (by rfl) q (X.s * 128 + 64) (U8 B).toArray (by rfl) (by rfl) (by rw [List.size_toArray, U8_length, HL.out]; exact HT.out.2) (by rw [size69, List.size_toArray, U8_length, HL.out]) (u8_ones B) ?_) | fail)
          rw [setCells_drew]
          go_roundw
          case rel => exact ⟨k + 1, by omega, by go_num, HM2.out.below ⟨rfl, rfl, rfl, Nat.le_refl _, fun _ _ => rfl⟩⟩
          case measure => simp [intOf]; omega
        · obtain rfl : ws.length = k := by omega
          have HD : Hid (Dsk wr S p n (settle K ws d) [] ∧ Kept S w wr) := ⟨HR.out.done HH.out (fun i hi => again_all HH.out.dl HH.out.fit hi), HR.out.kp⟩
          clear HR HR2
          go_wp2
          go_ret
          exact ⟨rfl, HD.out.1, HD.out.2⟩
set_option maxHeartbeats 4000000 in
set_option maxRecDepth 100000 in
theorem settle_crash {w : World} {S : Nat → Prop} {p n : Nat} {d : List Int} {ws : List Wr} (h : Dsk w S p n d ws) (hk : ws.length ≤ 1000) (K : Nat → Bool) (c0 g0 m0 : Nat) (hks : Keeps w c0 g0 m0 K) (hS1 : ¬ S c0) (hS2 : ¬ S g0) (hm0 : ws.length ≤ m0) :
    Calls Tryd.prog 45 #[.pointer (some ⟨p, 0, none⟩), .func (.func 71) #[] #[.pointer (some ⟨c0, 0, none⟩)]] w fun e w' => e = .returned (.int .i64 ws.length) ∧ Dsk w' S p n (settle K ws d) [] ∧ Kept S w w' := by
  obtain ⟨q, cap, v, h⟩ := h
  have h1 := h.cell1
  have hf := h.free 1
  have HH : Hid (PD w S p n d ws q cap v) := h
  have HM : Hid (Mid w (w.setCell ⟨p, 1, none⟩ (.slice none 0 0)) S p n ws q cap v (sec d) (newest ws d)) := Mid.start h
  obtain ⟨pv, cv, rfl, _⟩ := own_slice h.wt
  clear h
  have HK : Hid (Keeps w c0 g0 m0 K ∧ ¬ S c0 ∧ ¬ S g0) := ⟨hks, hS1, hS2⟩
  clear hks hS1 hS2
  go_enter Tryd.func45, Tryd.ntmps45
  go_wp2
  clear h1 hf
  go_loopw [20] (fun i wr => ∃ k : Nat, k ≤ ws.length ∧ i = .int .i64 k ∧ Hid (Mid w wr S p n ws q cap (.slice pv ws.length cv) (sec (setl K ws d k)) (newest ws d))) (fun i _ => ws.length - (intOf i).toNat)
  case atStart => exact ⟨0, by omega, rfl, HM.out⟩
  case round =>
    obtain ⟨k, hkl, rfl, HR⟩ := hrel
    by_cases hlt : k < ws.length
    · obtain ⟨g, c', e, hr⟩ := wt_range HR.out.wt HH.out.fit hlt
      simp only [Value.slice.injEq, true_and] at e
      obtain ⟨rfl, rfl⟩ := e
      have HX := HH.out.fit.at k hlt
      have HS : Hid (setl K ws d (k + 1) = if K k then put (setl K ws d k) ws[k].s ws[k].b else setl K ws d k) := setl_step K ws d k hlt
      generalize ws[k] = X at *
      go_wp2_with (first | (refine wpList_load_mid (by rfl) 100 (.tmp 23) (by rfl) g (k * 65) (by rfl) (wcell X) _ hr Tryd.underlying100 rfl (by rw [size80]; simp [wcell, HX.2.1]) ?_) | (refine wpList_alloc80 (by rfl) (by rfl) ?_) | (refine wpList_store80 (by rfl) (.tmp 7) (.tmp 24) (by rfl) X (by rfl) (by rfl) HX.2.1 ?_) | fail)
      have hM := HR.out.below (below_alloc wr (.cells (wcell X).toArray 100))
      refine (crash1_any k m0 c0 g0 K _ (HK.out.1.kept hM.kp HK.out.2.1 HK.out.2.2) (by omega)).mono ?_
      rintro e w1 ⟨rfl, rfl⟩
      cases hKk : K k with
      | false =>
        have HM2 : Hid (Mid w (wr.alloc (.cells (wcell X).toArray 100)) S p n ws q cap (.slice (some ⟨g, 0, none⟩) ws.length cv) (sec (setl K ws d (k + 1))) (newest ws d)) := by
          show Mid _ _ _ _ _ _ _ _ _ _ _
          rw [HS.out, hKk]
          exact hM
        clear hM hr HR HS hKk
        go_wp2
        go_roundw
        case rel => exact ⟨k + 1, by omega, by go_num, HM2.out⟩
        case measure => simp [intOf]; omega
      | true =>
        have t0 := hM.cell0
        have t1 : (wr.alloc (.cells (wcell X).toArray 100)).cell? ⟨wr.heap.size, 0, none⟩ = some (.int .i64 (X.s : Int)) := by
          rw [cell_of_row _ _ _ _ 100 (0, 0) (heap_alloc_new wr _)]; rfl
        have t2 : (wr.alloc (.cells (wcell X).toArray 100)).rangeAt wr.heap.size 1 (U8 X.b) := new_range_at wr _ _ 1 100 (wcell_data X)
        have t3 : (wr.alloc (.cells (wcell X).toArray 100)).there q (X.s * 128) 64 := hM.pl.blk.there _ _ (by have := hM.pl.ncap; omega)
        have HM2 : Hid (Mid w ((wr.alloc (.cells (wcell X).toArray 100)).setCells q (X.s * 128) (U8 X.b)) S p n ws q cap (.slice (some ⟨g, 0, none⟩) ws.length cv) (sec (setl K ws d (k + 1))) (newest ws d)) := by
          show Mid _ _ _ _ _ _ _ _ _ _ _
          rw [HS.out, hKk, if_pos rfl]
          refine hM.set HH.out.sq _ _ ((hM.pl.setD X.b HX.2.1 HX.1).congr (fun i hi => ?_) (fun _ _ => rfl))
          exact (sec_put (setl_length HH.out.dl HH.out.fit k) HX.1 HX.2.1 hi).symm
        have hpq : p ≠ q := HH.out.pq
        have hwq : wr.heap.size ≠ q := by have := HR.out.pl.blk.lt; omega
        have HXl : Hid (X.b.length = 64) := HX.2.1
        have i1 : (X.s : Int) < (n : Int) := by omega
        have i0 : (0 : Int) ≤ (X.s : Int) := by omega
        obtain ⟨W, hW⟩ : ∃ W, wr.alloc (.cells (wcell X).toArray 100) = W := ⟨_, rfl⟩
        rw [hW] at t0 t1 t2 t3 HM2 ⊢
        clear hM hr HR HS hKk HX hW
        go_wp2
        have hu := Tryd.underlying98
        have hl69 : (U8 X.b).length = 64 := by rw [U8_length]; exact HXl.out
        have hi69 : (Tryd.prog.info? 98).map (·.size) = some (U8 X.b).length := by rw [hl69]; exact size69
        have hu1 := ones_u8 X.b
        have k0 : (W.drew.setCells q (X.s * 128) (U8 X.b)).cell? ⟨p, 0, none⟩ = some (.slice (some ⟨q, 0, none⟩) n cap) := by
          rw [World.cell?_setCells_out _ _ _ _ _ (fun e => absurd e hpq)]; exact t0
        have k1 : (W.drew.setCells q (X.s * 128) (U8 X.b)).cell? ⟨wr.heap.size, 0, none⟩ = some (.int .i64 (X.s : Int)) := by
          rw [World.cell?_setCells_out _ _ _ _ _ (fun e => absurd e hwq)]; exact t1
        have k2 : (W.drew.setCells q (X.s * 128) (U8 X.b)).rangeAt wr.heap.size 1 (U8 X.b) := World.rangeAt_setCells_apart (w := W.drew) t2 _ _ _ (Or.inl hwq)
        have k3 : (W.drew.setCells q (X.s * 128) (U8 X.b)).there q (X.s * 128) 64 := World.there_setCells (w := W.drew) t3 _ _ _
        go_region_held3 (fun w' => w'.cell? ⟨p, 0, none⟩ = some (.slice (some ⟨q, 0, none⟩) n cap) ∧ w'.cell? ⟨wr.heap.size, 0, none⟩ = some (.int .i64 (X.s : Int)) ∧ w'.rangeAt wr.heap.size 1 (U8 X.b) ∧ w'.there q (X.s * 128) 64) (first | exact ⟨t0, t1, t2, t3⟩ | exact ⟨k0, k1, k2, k3⟩) (fail)
        clear hu hi69 hl69 hu1 k0 k1 k2 k3 t0 t1 t2 t3
        rw [setCells_drew]
        go_wp2
        go_roundw
        case rel => exact ⟨k + 1, by omega, by go_num, HM2.out.below ⟨rfl, rfl, rfl, Nat.le_refl _, fun _ _ => rfl⟩⟩
        case measure => simp [intOf]; omega
    · obtain rfl : ws.length = k := by omega
      have HR2 : Hid (Mid w wr S p n ws q cap (.slice pv ws.length cv) (sec (settle K ws d)) (fun i => again (settle K ws d) ws d i 0)) := HR.out
      clear HR
      go_wp2
      clear HM
      obtain ⟨w0, hw0⟩ : ∃ w0, w0 = wr := ⟨_, rfl⟩
      subst hw0
      go_loopw [41] (fun i wr => ∃ k : Nat, k ≤ ws.length ∧ i = .int .i64 k ∧ Hid (Mid w wr S p n ws q cap (.slice pv ws.length cv) (sec (settle K ws d)) (fun i => again (settle K ws d) ws d i k))) (fun i _ => ws.length - (intOf i).toNat)
      case atStart => exact ⟨0, by omega, rfl, HR2.out⟩
      case round =>
        obtain ⟨k, hkl2, rfl, HR⟩ := hrel
        by_cases hlt2 : k < ws.length
        · obtain ⟨g, c', e, hr⟩ := wt_range HR.out.wt HH.out.fit hlt2
          simp only [Value.slice.injEq, true_and] at e
          obtain ⟨rfl, rfl⟩ := e
          have HX := HH.out.fit.at k hlt2
          have HS : Hid (∀ i, again (settle K ws d) ws d i (k + 1) = if ws[k].s = i then sec (settle K ws d) i else again (settle K ws d) ws d i k) := fun i => again_step _ ws d i k hlt2
          generalize ws[k] = X at *
          have hM := HR.out.below (below_alloc wr (.cells (wcell X).toArray 100))
          have t0 := hM.cell0
          have t1 : (wr.alloc (.cells (wcell X).toArray 100)).cell? ⟨wr.heap.size, 0, none⟩ = some (.int .i64 (X.s : Int)) := by
            rw [cell_of_row _ _ _ _ 100 (0, 0) (heap_alloc_new wr _)]; rfl
          have HL : Hid ((sec (settle K ws d) X.s).length = 64) := hM.pl.dl X.s HX.1
          have HT : Hid ((wr.alloc (.cells (wcell X).toArray 100)).drew.rangeAt q (X.s * 128) (U8 (sec (settle K ws d) X.s)) ∧ (wr.alloc (.cells (wcell X).toArray 100)).drew.there q (X.s * 128 + 64) 64) := ⟨hM.pl.dur X.s HX.1, hM.pl.blk.there _ _ (by have := hM.pl.ncap; omega)⟩
          have HM2 : Hid (Mid w ((wr.alloc (.cells (wcell X).toArray 100)).setCells q (X.s * 128 + 64) (U8 (sec (settle K ws d) X.s))) S p n ws q cap (.slice (some ⟨g, 0, none⟩) ws.length cv) (sec (settle K ws d)) (fun i => again (settle K ws d) ws d i (k + 1))) := by
            refine hM.set HH.out.sq _ _ ((hM.pl.setN _ HL.out HX.1).congr (fun _ _ => rfl) (fun i hi => ?_))
            show (if i = X.s then _ else _) = again (settle K ws d) ws d i (k + 1)
            rw [HS.out i]
            by_cases c : i = X.s
            · rw [if_pos c, if_pos c.symm, c]
            · rw [if_neg c, if_neg (fun e => c e.symm)]
          have i1 : (X.s : Int) < (n : Int) := by omega
          have i0 : (0 : Int) ≤ (X.s : Int) := by omega
          clear hM HR HS
          generalize sec (settle K ws d) X.s = B at *
          go_wp2_with (first | (refine wpList_load_mid (by rfl) 100 (.tmp 43) (by rfl) g (k * 65) (by rfl) (wcell X) _ hr Tryd.underlying100 rfl (by rw [size80]; simp [wcell, HX.2.1]) ?_) | (refine wpList_alloc80 (by rfl) (by rfl) ?_) | (refine wpList_store80 (by rfl) (.tmp 9) (.tmp 44) (by rfl) X (by rfl) (by rfl) HX.2.1 ?_) | fail)
          simp only [Act.put, List.setIfInBounds_toArray, List.set_cons_zero, List.set_cons_succ]
          obtain ⟨W, hW⟩ : ∃ W, wr.alloc (.cells (wcell X).toArray 100) = W := ⟨_, rfl⟩
          rw [hW] at t0 t1 HT HM2 ⊢
          clear hW hr
          go_region_held3 (fun w' => w'.cell? ⟨p, 0, none⟩ = some (.slice (some ⟨q, 0, none⟩) n cap) ∧ w'.cell? ⟨wr.heap.size, 0, none⟩ = some (.int .i64 (X.s : Int))) (exact ⟨t0, t1⟩) (fail)
          clear t0 t1
          go_wp2_with (first | (refine wpList_load_mid (by rfl) 98 (.tmp 55) (by rfl) q (X.s * 128) (by rfl) (U8 B) _ HT.out.1 Tryd.underlying98 rfl (by rw [size69, U8_length, HL.out]) ?_) | (refine wpList_store_mid (by rfl) 98 (.tmp 58) (.tmp 56) (by rfl) q (X.s * 128 + 64) (U8 B).toArray (by rfl) (by rfl) (by rw [List.size_toArray, U8_length, HL.out]; exact HT.out.2) (by rw [size69, List.size_toArray, U8_length, HL.out]) (u8_ones B) ?_) | fail)
          rw [setCells_drew]
          go_roundw
          case rel => exact ⟨k + 1, by omega, by go_num, HM2.out.below ⟨rfl, rfl, rfl, Nat.le_refl _, fun _ _ => rfl⟩⟩
          case measure => simp [intOf]; omega
        · obtain rfl : ws.length = k := by omega
          have HD : Hid (Dsk wr S p n (settle K ws d) [] ∧ Kept S w wr) := ⟨HR.out.done HH.out (fun i hi => again_all HH.out.dl HH.out.fit hi), HR.out.kp⟩
          clear HR HR2
          go_wp2
          go_ret
          exact ⟨rfl, HD.out.1, HD.out.2⟩
end Go.Proofs.YtpenddnmmfpdjaaDoor
namespace Go.Proofs.YtpenddnmmfpdjaaDoor
open Go.RowKit
set_option maxHeartbeats 400000 in
set_option maxRecDepth 100000 in
theorem flush_nil (w : World) : Calls Tryd.prog 21 #[.pointer none] w fun e w' => e = .returned (.tuple #[.int .i64 0, .int .i64 1]) ∧ w = w' := by
  go_enter Tryd.func21, Tryd.ntmps21
  go_wp2
  go_ret2
  exact ⟨rfl, rfl⟩
set_option maxHeartbeats 400000 in
set_option maxRecDepth 100000 in
theorem crash_nil (v : Value) (w : World) : Calls Tryd.prog 56 #[.pointer none, v] w fun e w' => e = .returned (.tuple #[.int .i64 0, .int .i64 1]) ∧ w = w' := by
  go_enter Tryd.func56, Tryd.ntmps56
  go_wp2
  go_ret2
  exact ⟨rfl, rfl⟩
set_option maxHeartbeats 400000 in
set_option maxRecDepth 100000 in
theorem flush_any {w : World} {S : Nat → Prop} {p n : Nat} {d : List Int} {ws : List Wr} (h : Dsk w S p n d ws) (hk : ws.length ≤ 1000) :
    Calls Tryd.prog 21 #[.pointer (some ⟨p, 0, none⟩)] w fun e w' => e = .returned (.tuple #[.int .i64 ws.length, .int .i64 0]) ∧ Dsk w' S p n (settle (fun _ => true) ws d) [] ∧ Kept S w w' := by
  go_enter Tryd.func21, Tryd.ntmps21
  go_wp2_with fail
  refine (settle_flush h hk (fun _ => true) (fun _ => rfl)).mono ?_
  rintro e w1 ⟨rfl, hd, hkp⟩
  go_wp2
  go_ret2
  exact ⟨rfl, hd, hkp⟩
/-- numbers that lie so -/
structure IIn (w : World) (p : Option Addr) (n : Nat) (xs : List Int) : Prop where
  len : xs.length = n
  cells : 0 < n → ∃ b o, p = some ⟨b, o, none⟩ ∧ ∀ i, i < n → w.cell? ⟨b, o + i, none⟩ = some (.int .i64 (xs.getD i 0))
theorem IIn.lt {w : World} {a : Addr} {n : Nat} {xs : List Int} (h : IIn w (some a) n xs) (h0 : 0 < n) : a.block < w.heap.size := by
  obtain ⟨b, o, e, hc⟩ := h.cells h0
  simp only [Option.some.injEq] at e
  subst e
  exact World.block_lt_of_cell? w _ (hc 0 h0)
theorem IIn.later {w w' : World} {p : Option Addr} {n : Nat} {xs : List Int} (h : IIn w p n xs) (hb : Below w.heap.size w w') : IIn w' p n xs := by
  refine ⟨h.len, fun h0 => ?_⟩
  obtain ⟨b, o, rfl, hc⟩ := h.cells h0
  refine ⟨b, o, rfl, fun i hi => ?_⟩
  rw [hb.cell (p := ⟨b, o + i, none⟩) (h.lt h0)]
  exact hc i hi
/-- the numbers that are kept, of the first k -/
def keptK (xs : List Int) (k : Nat) : Nat → Bool := fun i => decide ((i : Int) ∈ xs.take k)
/-- the numbers that are kept -/
def keepsK (xs : List Int) : Nat → Bool := fun i => decide ((i : Int) ∈ xs)
theorem keptK_all (xs : List Int) (k : Nat) (h : xs.length ≤ k) : keptK xs k = keepsK xs := by
  funext i; simp only [keptK, keepsK, List.take_of_length_le h]
def bools (m : Nat) (K : Nat → Bool) : List Value := (List.range m).map fun i => Value.bool (K i)
theorem bools_zero (xs : List Int) (m : Nat) : List.replicate m (Value.bool false) = bools m (keptK xs 0) := by
  apply List.ext_getElem?
  intro i
  simp only [bools, keptK, List.getElem?_replicate, List.getElem?_map]
  by_cases h : i < m <;> simp [h]
theorem bools_set (xs : List Int) (k m x : Nat) (hk : k < xs.length) (hx : xs[k] = (x : Int)) : (bools m (keptK xs k)).set x (Value.bool true) = bools m (keptK xs (k + 1)) := by
  apply List.ext_getElem?
  intro i
  rw [List.getElem?_set]
  simp only [bools, keptK, List.getElem?_map, List.length_map, List.length_range]
  rw [List.take_succ_eq_append_getElem hk, hx]
  by_cases hi : i < m
  · by_cases c : x = i
    · subst c; simp [hi]
    · simp only [if_neg c, List.getElem?_range hi, Option.map_some, List.mem_append, List.mem_singleton]
      simp [show ¬ (i : Int) = (x : Int) from by omega]
  · rw [List.getElem?_eq_none (by simpa using hi)]
    by_cases c : x = i <;> simp [c, hi]
theorem bools_out (xs : List Int) (k m : Nat) (hk : k < xs.length) (hx : xs[k] < 0 ∨ (m : Int) ≤ xs[k]) : bools m (keptK xs k) = bools m (keptK xs (k + 1)) := by
  unfold bools
  apply List.map_congr_left
  intro i hi
  have hi' := List.mem_range.1 hi
  simp only [keptK, List.take_succ_eq_append_getElem hk, List.mem_append, List.mem_singleton]
  simp [show ¬ (i : Int) = xs[k] from by omega]
theorem bools_length (m : Nat) (K : Nat → Bool) : (bools m K).length = m := by simp [bools]
theorem info4 : (Tryd.prog.info? 4).map (fun i => (i.zero, i.size, i.bytes)) = some (some (.bool false), 1, 1) := by kernel_rfl
/-- what stands while the numbers are looked through -/
structure Look (w wr : World) (m : Nat) (K : Nat → Bool) : Prop where
  below : Below w.heap.size w wr
  ks : Keeps wr (w.heap.size + 1) w.heap.size m K
set_option maxHeartbeats 2000000 in
set_option maxRecDepth 100000 in
theorem crash_low {w : World} {S : Nat → Prop} {p n : Nat} {d : List Int} {ws : List Wr} (h : Dsk w S p n d ws) (hk : ws.length ≤ 1000) (a : Option Addr) (m c : Nat) (xs : List Int) (hx : IIn w a m xs) (hm : m ≤ 140737488355328) (hS : ∀ k, S k → k < w.heap.size) :
    Calls Tryd.prog 56 #[.pointer (some ⟨p, 0, none⟩), .slice a m c] w fun e w' => e = .returned (.tuple #[.int .i64 ws.length, .int .i64 0]) ∧ Dsk w' S p n (settle (keepsK xs) ws d) [] ∧ Kept S w w' := by
  obtain ⟨i0, hi, hz0, hz1, hz2⟩ := info_parts info4
  have HH : Hid (Dsk w S p n d ws) := h
  obtain ⟨q, cap, v, h⟩ := h
  have h1 := h.cell1
  obtain ⟨pv, cv, rfl, _⟩ := own_slice h.wt
  have hmk := run_make (P := Tryd.prog) w 136 4 i0 _ Tryd.underlying136 hi hz0 .i64 .i64 (ws.length : Int) (ws.length : Int) (by omega) (Int.le_refl _) (by rw [hz2]; omega) (by omega)
  rw [hz1] at hmk
  simp only [Int.toNat_natCast, Nat.mul_one, Value.cells] at hmk
  rw [show madeCells #[Value.bool false] ws.length = (bools ws.length (keptK xs 0)).toArray by rw [← bools_zero]; exact made_rep 1 (.bool false) (by omega) ws.length] at hmk
  obtain ⟨ob, hob⟩ : ∃ ob, Obj.cells (bools ws.length (keptK xs 0)).toArray 4 = ob := ⟨_, rfl⟩
  rw [hob] at hmk
  have HL : Hid (Look w ((w.alloc ob).alloc (.cells #[.slice (some ⟨w.heap.size, 0, none⟩) ws.length ws.length] 136)) ws.length (keptK xs 0)) := by
    refine ⟨((Below.refl _ w).alloc (Nat.le_refl _) _).alloc (by simp) _, heap_alloc2_new w _ _, ?_⟩
    rw [heap_alloc2_old w ob _, ← hob]; rfl
  have HX : Hid (IIn w a m xs) := hx
  clear h hx hob
  go_enter Tryd.func56, Tryd.ntmps56
  go_wp2
  clear hmk h1
  generalize (w.alloc ob).alloc (.cells #[.slice (some ⟨w.heap.size, 0, none⟩) ws.length ws.length] 136) = W0 at *
  go_loopw [19] (fun i wr => ∃ k : Nat, k ≤ m ∧ i = .int .i64 k ∧ Hid (Look w wr ws.length (keptK xs k))) (fun i _ => m - (intOf i).toNat)
  case atStart => exact ⟨0, by omega, rfl, HL.out⟩
  case round =>
    obtain ⟨k, hkm, rfl, HR⟩ := hrel
    by_cases hlt : k < m
    · obtain ⟨g, o, rfl, hc⟩ := (HX.out.later HR.out.below).cells (by omega)
      have hck := hc k hlt
      have c0 : wr.cell? ⟨w.heap.size + 1, 0, none⟩ = some (.slice (some ⟨w.heap.size, 0, none⟩) ws.length ws.length) := by rw [cell_of_row _ _ _ _ _ _ HR.out.ks.box]; rfl
      have hkx : k < xs.length := by rw [HX.out.len]; exact hlt
      have ex : xs.getD k 0 = xs[k] := by simp [List.getD, List.getElem?_eq_getElem hkx]
      rw [ex] at hck
      clear ex hc
      obtain ⟨x, hxk⟩ : ∃ x, x = xs[k] := ⟨_, rfl⟩
      have HE : Hid (x = xs[k]) := hxk
      rw [← hxk] at hck
      clear hxk
      by_cases cx : 0 ≤ x ∧ x < (ws.length : Int)
      · obtain ⟨y, rfl⟩ : ∃ y : Nat, x = y := ⟨x.toNat, by omega⟩
        have hy : y < ws.length := by omega
        have cy : wr.cell? ⟨w.heap.size, y, none⟩ = some (.bool (keptK xs k y)) := by rw [cell_of_row _ _ _ _ _ _ HR.out.ks.row]; simp [hy]
        have fy := frozen_of_row wr w.heap.size y _ 4 HR.out.ks.row
        have HN : Hid (Look w (wr.setCell ⟨w.heap.size, y, none⟩ (.bool true)) ws.length (keptK xs (k + 1))) := by
          refine ⟨HR.out.below.setCell (Nat.le_refl _) _, ?_, ?_⟩
          · exact (heap_setCell_other _ _ _ _ (by show w.heap.size + 1 ≠ w.heap.size; omega)).trans HR.out.ks.box
          · have e := setCell_row (cs := bools ws.length (keptK xs k)) HR.out.ks.row y (.bool true)
            rw [bools_set xs k ws.length y hkx HE.out.symm] at e
            exact e
        clear HR HL
        generalize keptK xs k y = kk at *
        have cx1 : ¬ (y : Int) < 0 := by omega
        go_wp2
        go_roundw
        case rel => exact ⟨k + 1, by omega, by go_num, HN.out⟩
        case measure => simp [intOf]; omega
      · have HN : Hid (Look w wr ws.length (keptK xs (k + 1))) := by
          refine ⟨HR.out.below, HR.out.ks.box, ?_⟩
          have e := HR.out.ks.row
          have e2 := bools_out xs k ws.length hkx (by rw [← HE.out]; omega)
          unfold bools at e2
          rw [e2] at e
          exact e
        clear HR HL
        by_cases cx0 : 0 ≤ x
        · have cx1 : (ws.length : Int) ≤ x := by omega
          go_wp2
          go_roundw
          case rel => exact ⟨k + 1, by omega, by go_num, HN.out⟩
          case measure => simp [intOf]; omega
        · go_wp2
          go_roundw
          case rel => exact ⟨k + 1, by omega, by go_num, HN.out⟩
          case measure => simp [intOf]; omega
    · obtain rfl : m = k := by omega
      have HN : Hid (Look w wr ws.length (keepsK xs)) := by
        have := HR.out
        rw [keptK_all xs m (by rw [HX.out.len]; omega)] at this
        exact this
      clear HR HL
      go_wp2_with fail
      have hle := HN.out.below.size
      have hb := HN.out.below
      refine (settle_crash (HH.out.later hb) hk (keepsK xs) (w.heap.size + 1) w.heap.size ws.length HN.out.ks (fun s => by have := hS _ s; omega) (fun s => by have := hS _ s; omega) (by omega)).mono ?_
      rintro e w1 ⟨rfl, hd, hkp⟩
      go_wp2
      go_ret2
      exact ⟨rfl, hd, (Kept.of_below hb).trans hkp (fun _ _ h => h)⟩
theorem crash_any {w : World} {S : Nat → Prop} {p n : Nat} {d : List Int} {ws : List Wr} (h : Dsk w S p n d ws) (hk : ws.length ≤ 1000) (a : Option Addr) (m c : Nat) (xs : List Int) (hx : IIn w a m xs) (hm : m ≤ 140737488355328) :
    Calls Tryd.prog 56 #[.pointer (some ⟨p, 0, none⟩), .slice a m c] w fun e w' => e = .returned (.tuple #[.int .i64 ws.length, .int .i64 0]) ∧ Dsk w' S p n (settle (keepsK xs) ws d) [] ∧ Kept S w w' := by
  refine (crash_low (S := fun k => S k ∧ k < w.heap.size) (h.mono (fun k hk hs => ⟨hs, hk⟩)) hk a m c xs hx hm (fun _ h => h.2)).mono ?_
  rintro e w' ⟨rfl, hd, hkp⟩
  exact ⟨rfl, hd.mono (fun _ _ h => h.1), hkp.mono (fun _ _ h => h.1)⟩
end Go.Proofs.YtpenddnmmfpdjaaDoor
namespace Go.Proofs.YtpenddnmmfpdjaaDoor
open Go.RowKit
set_option maxHeartbeats 400000 in
set_option maxRecDepth 100000 in
theorem image_nil (w : World) : Calls Tryd.prog 20 #[.pointer none] w fun e w' => e = .returned (.slice none 0 0) ∧ w = w' := by
  go_enter Tryd.func20, Tryd.ntmps20
  go_wp2
  go_ret
  exact ⟨rfl, rfl⟩
set_option maxHeartbeats 2000000 in
set_option maxRecDepth 100000 in
theorem image_any {w : World} {S : Nat → Prop} {p n : Nat} {d : List Int} {ws : List Wr} (h : Dsk w S p n d ws) :
    Calls Tryd.prog 20 #[.pointer (some ⟨p, 0, none⟩)] w fun e w' => ∃ v, e = .returned v ∧ w'.ownsRow w.heap.size 5 1 v (64 * n) (U8 d) ∧ Below w.heap.size w w' := by
  obtain ⟨i0, hi, hz0, hz1, hz2⟩ := info_parts info5
  obtain ⟨q, cap, v, h⟩ := h
  have h0 := h.cell0
  have HH : Hid (PD w S p n d ws q cap v) := h
  have hn2 := h.n2
  have hmul : IntKind.i64.wrap ((n : Int) * 64) = (n : Int) * 64 := by rw [IntKind.wrap_i64]; omega
  clear h
  have hmk := run_make (P := Tryd.prog) w 24 5 i0 _ Tryd.underlying24 hi hz0 .i64 .i64 0 ((n : Int) * 64) (by omega) (by omega) (by rw [hz2]; omega) (by omega)
  rw [hz1, show ((n : Int) * 64).toNat = n * 64 by omega] at hmk
  simp only [Int.toNat_zero, Nat.mul_one, Value.cells] at hmk
  have HO : Hid ((w.alloc (.cells (madeCells #[.int .u8 0] (n * 64)) 5)).ownsRow w.heap.size 5 1 (.slice (some ⟨w.heap.size, 0, none⟩) 0 (n * 64)) 0 []) := World.ownsRow_made w _ (n * 64) (Nat.le_refl _) (by unfold maxLen; omega) (by rw [size_madeCells]; omega)
  obtain ⟨ob, hob⟩ : ∃ ob, Obj.cells (madeCells #[.int .u8 0] (n * 64)) 5 = ob := ⟨_, rfl⟩
  rw [hob] at hmk HO
  clear hob
  have HB : Hid (Below w.heap.size w (w.alloc ob)) := below_alloc w ob
  have h0' : (w.alloc ob).cell? ⟨p, 0, none⟩ = some (.slice (some ⟨q, 0, none⟩) n cap) := (HB.out.cell (p := ⟨p, 0, none⟩) HH.out.blk.lt).trans h0
  go_enter Tryd.func20, Tryd.ntmps20
  go_wp2
  clear hmk hmul
  generalize w.alloc ob = W0 at *
  go_loopw [3, 19] (fun b i wr => ∃ k : Nat, k ≤ n ∧ i = .int .i64 k ∧ Hid (wr.ownsRow w.heap.size 5 1 b (64 * k) (U8 (d.take (64 * k))) ∧ Below w.heap.size w wr)) (fun _ i _ => n - (intOf i).toNat)
  case atStart => exact ⟨0, by omega, rfl, by simpa using HO.out, HB.out⟩
  case round =>
    obtain ⟨k, hkm, rfl, HR⟩ := hrel
    clear HO HB h0'
    by_cases hlt : k < n
    · have c0 : wr.cell? ⟨p, 0, none⟩ = some (.slice (some ⟨q, 0, none⟩) n cap) := (HR.out.2.cell (p := ⟨p, 0, none⟩) HH.out.blk.lt).trans h0
      have HN : Hid (∀ j u, (U8 (sec d k))[j]? = some u → wr.cell? ((⟨q, k * 128, none⟩ : Addr).add j) = some u) := fun j u hu => by
        rw [Addr.add_mid]
        exact rangeAt_same (HH.out.pl.dur k hlt) (HR.out.2.block q HH.out.pl.blk.lt) j u hu
      have HL : Hid ((sec d k).length = 64) := HH.out.pl.dl k hlt
      obtain ⟨bp, bc, rfl, _⟩ := own_slice HR.out.1
      go_wp2_with (at_builtin; refine wpList_append_own _ rfl (.tmp 22) (.tmp 30) 24 rfl w.heap.size 5 i0 (.int .u8 0) 1 1 Tryd.underlying24 hi hz0 hz1 hz2 rfl (by omega) _ (64 * k) _ rfl HR.out.1 ⟨q, k * 128, none⟩ 64 64 (U8 (sec d k)) rfl (by rw [U8_length]; exact HL.out) HN.out (ones_u8 _) (by unfold maxLen; omega) (by omega) HR.out.2.size ?_; intro v' w1 hown hgrow _; have HO1 : Hid (w1.ownsRow w.heap.size 5 1 v' (64 * (k + 1)) (U8 (d.take (64 * (k + 1)))) ∧ Below w.heap.size w w1) := ⟨by rw [sec_step, show 64 * (k + 1) = 64 * k + 64 by omega, show U8 (d.take (64 * k) ++ sec d k) = U8 (d.take (64 * k)) ++ U8 (sec d k) from List.map_append]; exact hown, HR.out.2.grown hgrow HR.out.2.size (fun j hj => (HR.out.1.lt j hj).1)⟩; clear hown hgrow HN)
      go_roundw
      case rel => exact ⟨k + 1, by omega, by go_num, HO1.out⟩
      case measure => simp [intOf]; omega
    · obtain rfl : k = n := by omega
      have HE : Hid (d.take (64 * k) = d) := List.take_of_length_le (by rw [HH.out.dl]; omega)
      go_wp2
      go_ret
      exact ⟨_, rfl, by have := HR.out.1; rw [HE.out] at this; exact this, HR.out.2⟩
end Go.Proofs.YtpenddnmmfpdjaaDoor
