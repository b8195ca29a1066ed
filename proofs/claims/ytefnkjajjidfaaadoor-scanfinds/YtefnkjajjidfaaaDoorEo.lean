/-
  The laws' own: config; a story's state.
-/
import Derived.Test.YtefnkjajjidfaaaDoorEn
import Derived.Test.YtefnkjajjidfaaaDoorHa
import Derived.Deep.RegionHeld3
namespace Go.Proofs.YtefnkjajjidfaaaDoor
open Go.RowKit


/-- a small configuration -/
def top10 (b l : Int) : Int := if l - 1 < b then l - 1 else b
def cfgS (s : Sup) : Sup := ⟨restS s.bl 6, 1 + restS s.lc 12, restS s.mr (top10 (restS s.bl 6) (1 + restS s.lc 12)), restS s.hi (1 + restS s.lc 12), restS s.cl 8, 0, 0⟩
theorem cfgS_bd (s : Sup) : (1 ≤ restS s.bl 6 ∧ restS s.bl 6 ≤ 6) ∧ (1 ≤ restS s.lc 12 ∧ restS s.lc 12 ≤ 12) ∧ 1 ≤ top10 (restS s.bl 6) (1 + restS s.lc 12) ∧ top10 (restS s.bl 6) (1 + restS s.lc 12) ≤ restS s.bl 6 ∧ top10 (restS s.bl 6) (1 + restS s.lc 12) ≤ restS s.lc 12 := by
  have h1 := restS_bd s.bl 6 (by omega)
  have h2 := restS_bd s.lc 12 (by omega)
  refine ⟨h1, h2, ?_⟩
  unfold top10; split <;> omega
theorem cfgS_may (s : Sup) : MayC (cfgS s) := by
  obtain ⟨h1, h2, h3, h4, h5⟩ := cfgS_bd s
  have h6 := restS_bd s.mr _ h3
  have h7 := restS_bd s.hi (1 + restS s.lc 12) (by omega)
  have h8 := restS_bd s.cl 8 (by omega)
  unfold cfgS
  refine ⟨⟨?_, ?_⟩, ⟨?_, ?_⟩, ⟨?_, ?_, ?_, ?_⟩, ⟨?_, ?_⟩, ⟨?_, ?_⟩⟩ <;> dsimp only <;> omega
theorem cfgS_small (s : Sup) : (cfgS s).lc ≤ 13 ∧ (cfgS s).bl ≤ 6 := by
  obtain ⟨h1, h2, -⟩ := cfgS_bd s
  exact ⟨by show 1 + restS s.lc 12 ≤ 13; omega, h1.2⟩
set_option maxHeartbeats 1000000 in
set_option maxRecDepth 100000 in
theorem cin_any (n m : Int) (hm : 1 ≤ m) (hm2 : m ≤ 64) (w : World) : Calls Tryd.prog 35 #[.int .i64 n, .int .i64 m] w fun e w' => e = .returned (.int .i64 (restS n m)) ∧ w = w' := by
  have h1 := Int.tmod_lt_of_pos n (show 0 < m by omega)
  have h2 := Int.lt_tmod_of_pos n (show 0 < m by omega)
  have hb := restS_bd n m hm
  have hm0 : ¬ m = 0 := by omega
  have hm1 : m ≠ -1 := by omega
  unfold restS at hb ⊢
  obtain ⟨r, hr⟩ : ∃ r, n.tmod m = r := ⟨_, rfl⟩
  rw [hr] at h1 h2 hb ⊢
  obtain ⟨y, hy⟩ : ∃ y, (r + m).tmod m = y := ⟨_, rfl⟩
  rw [hy] at hb ⊢
  go_enter Tryd.func35, Tryd.ntmps35
  go_wp2
  go_ret
  exact ⟨rfl, rfl⟩
set_option maxHeartbeats 2000000 in
set_option maxRecDepth 100000 in
theorem config10_any (s : Sup) (w : World) : Calls Tryd.prog 12 #[.agg (ccells s).toArray] w fun e w' => e = .returned (.agg (ccells (cfgS s)).toArray) ∧ Below w.heap.size w w' := by
  obtain ⟨⟨b1, b2⟩, ⟨l1, l2⟩, t1, t2, t3⟩ := cfgS_bd s
  have hi1 := restS_bd s.hi (1 + restS s.lc 12) (by omega)
  have ht : (if 1 + restS s.lc 12 - 1 < restS s.bl 6 then 1 + restS s.lc 12 - 1 else restS s.bl 6) = top10 (restS s.bl 6) (1 + restS s.lc 12) := rfl
  obtain ⟨wa, hwa⟩ : ∃ y, y = w.alloc (.cells (ccells s).toArray 39) := ⟨_, rfl⟩
  obtain ⟨w0, hw0⟩ : ∃ y, y = wa.alloc (.cells (ccells sup0).toArray 39) := ⟨_, rfl⟩
  have ewa := hwa.symm
  have sa : wa.heap.size = w.heap.size + 1 := by rw [hwa]; simp
  have A1 : Hid (_) := alloc23 wa
  rw [← hw0, sa] at A1
  have B0 : Below w.heap.size w w0 := by rw [hw0]; exact below_then (by rw [hwa]; exact below_alloc w _) (below_alloc wa _)
  have C0 : CAt w0 w.heap.size s := by
    rw [hw0]
    refine LAt.later ?_ (below_alloc wa _)
    rw [hwa]; exact LAt.new 39 w _
  have Z0 : CAt w0 (w.heap.size + 1) sup0 := by rw [hw0, ← sa]; exact LAt.new 39 wa _
  obtain ⟨bl, hbl⟩ : ∃ x, x = restS s.bl 6 := ⟨_, rfl⟩
  obtain ⟨lr, hlr⟩ : ∃ x, x = restS s.lc 12 := ⟨_, rfl⟩
  obtain ⟨mr, hmr⟩ : ∃ x, x = restS s.mr (top10 bl (1 + lr)) := ⟨_, rfl⟩
  obtain ⟨hi, hhi⟩ : ∃ x, x = restS s.hi (1 + lr) := ⟨_, rfl⟩
  obtain ⟨cl, hcl⟩ : ∃ x, x = restS s.cl 8 := ⟨_, rfl⟩
  obtain ⟨tp, htp⟩ : ∃ x, x = top10 bl (1 + lr) := ⟨_, rfl⟩
  have HC : Hid (cfgS s = ⟨bl, 1 + lr, mr, hi, cl, 0, 0⟩) := by show _ = _; unfold cfgS; rw [hmr, hhi, hcl, hbl, hlr]
  rw [← hbl, ← hlr] at ht
  rw [← hbl] at b1 b2 t1 t2 t3
  rw [← hlr] at l1 l2 t1 t2 t3 hi1
  rw [← htp] at ht t1 t2 t3 hmr
  have D1 : CAt (w0.setCell ⟨w.heap.size, 0, none⟩ (.int .i64 bl)) w.heap.size ⟨bl, s.lc, s.mr, s.hi, s.cl, 0, 0⟩ := LAt.set C0 0 _
  have Z1 : CAt (w0.setCell ⟨w.heap.size, 0, none⟩ (.int .i64 bl)) (w.heap.size + 1) sup0 := LAt.setO Z0 0 _ (by omega)
  have B1 : Below w.heap.size w (w0.setCell ⟨w.heap.size, 0, none⟩ (.int .i64 bl)) := B0.setCell (p := ⟨w.heap.size, 0, none⟩) (Nat.le_refl _) _
  obtain ⟨w1, e1⟩ : ∃ y, w0.setCell ⟨w.heap.size, 0, none⟩ (.int .i64 bl) = y := ⟨_, rfl⟩
  rw [e1] at D1 Z1 B1
  have D2 : CAt (w1.setCell ⟨w.heap.size, 1, none⟩ (.int .i64 (1 + lr))) w.heap.size ⟨bl, 1 + lr, s.mr, s.hi, s.cl, 0, 0⟩ := LAt.set D1 1 _
  have Z2 : CAt (w1.setCell ⟨w.heap.size, 1, none⟩ (.int .i64 (1 + lr))) (w.heap.size + 1) sup0 := LAt.setO Z1 1 _ (by omega)
  have B2 : Below w.heap.size w (w1.setCell ⟨w.heap.size, 1, none⟩ (.int .i64 (1 + lr))) := B1.setCell (p := ⟨w.heap.size, 1, none⟩) (Nat.le_refl _) _
  obtain ⟨w2, e2⟩ : ∃ y, w1.setCell ⟨w.heap.size, 1, none⟩ (.int .i64 (1 + lr)) = y := ⟨_, rfl⟩
  rw [e2] at D2 Z2 B2
  have D3 : CAt (w2.setCell ⟨w.heap.size, 2, none⟩ (.int .i64 mr)) w.heap.size ⟨bl, 1 + lr, mr, s.hi, s.cl, 0, 0⟩ := LAt.set D2 2 _
  have Z3 : CAt (w2.setCell ⟨w.heap.size, 2, none⟩ (.int .i64 mr)) (w.heap.size + 1) sup0 := LAt.setO Z2 2 _ (by omega)
  have B3 : Below w.heap.size w (w2.setCell ⟨w.heap.size, 2, none⟩ (.int .i64 mr)) := B2.setCell (p := ⟨w.heap.size, 2, none⟩) (Nat.le_refl _) _
  obtain ⟨w3, e3⟩ : ∃ y, w2.setCell ⟨w.heap.size, 2, none⟩ (.int .i64 mr) = y := ⟨_, rfl⟩
  rw [e3] at D3 Z3 B3
  have D4 : CAt (w3.setCell ⟨w.heap.size, 3, none⟩ (.int .i64 hi)) w.heap.size ⟨bl, 1 + lr, mr, hi, s.cl, 0, 0⟩ := LAt.set D3 3 _
  have Z4 : CAt (w3.setCell ⟨w.heap.size, 3, none⟩ (.int .i64 hi)) (w.heap.size + 1) sup0 := LAt.setO Z3 3 _ (by omega)
  have B4 : Below w.heap.size w (w3.setCell ⟨w.heap.size, 3, none⟩ (.int .i64 hi)) := B3.setCell (p := ⟨w.heap.size, 3, none⟩) (Nat.le_refl _) _
  obtain ⟨w4, e4⟩ : ∃ y, w3.setCell ⟨w.heap.size, 3, none⟩ (.int .i64 hi) = y := ⟨_, rfl⟩
  rw [e4] at D4 Z4 B4
  have D5 : CAt (w4.setCell ⟨w.heap.size, 4, none⟩ (.int .i64 cl)) w.heap.size ⟨bl, 1 + lr, mr, hi, cl, 0, 0⟩ := LAt.set D4 4 _
  have Z5 : CAt (w4.setCell ⟨w.heap.size, 4, none⟩ (.int .i64 cl)) (w.heap.size + 1) sup0 := LAt.setO Z4 4 _ (by omega)
  have B5 : Below w.heap.size w (w4.setCell ⟨w.heap.size, 4, none⟩ (.int .i64 cl)) := B4.setCell (p := ⟨w.heap.size, 4, none⟩) (Nat.le_refl _) _
  obtain ⟨w5, e5⟩ : ∃ y, w4.setCell ⟨w.heap.size, 4, none⟩ (.int .i64 cl) = y := ⟨_, rfl⟩
  rw [e5] at D5 Z5 B5
  have L5 : Hid (_) := CAt.load23 D5
  have T5 : Hid (_) := LAt.store (ds := ccells ⟨bl, 1 + lr, mr, hi, cl, 0, 0⟩) Z5 size23 rfl (ccells_all _)
  have F5 : Hid (LAt 39 (w5.setRow (w.heap.size + 1) (ccells ⟨bl, 1 + lr, mr, hi, cl, 0, 0⟩).toArray) (w.heap.size + 1) (ccells ⟨bl, 1 + lr, mr, hi, cl, 0, 0⟩)) := LAt.stored Z5 _
  have G5 : Hid (Below w.heap.size w (w5.setRow (w.heap.size + 1) (ccells ⟨bl, 1 + lr, mr, hi, cl, 0, 0⟩).toArray)) := below_setRow B5 (Nat.le_succ _) _
  have x00 := CAt.c0 C0
  have y00 := LAt.free C0 0
  have x11 := CAt.c1 D1
  have y11 := LAt.free D1 1
  have x20 := CAt.c0 D2
  have x21 := CAt.c1 D2
  have x22 := CAt.c2 D2
  have y22 := LAt.free D2 2
  have x31 := CAt.c1 D3
  have x33 := CAt.c3 D3
  have y33 := LAt.free D3 3
  have x44 := CAt.c4 D4
  have y44 := LAt.free D4 4
  dsimp only at x00 x11 x20 x21 x22 x31 x33 x44
  have HTp : Hid (min bl (1 + lr - 1) = tp) := by
    show _ = _
    rw [← ht, Int.min_def]; split <;> split <;> omega
  clear ht
  have HE : Hid (restS s.bl 6 = bl ∧ restS s.lc 12 = lr ∧ restS s.mr tp = mr ∧ restS s.hi (1 + lr) = hi ∧ restS s.cl 8 = cl) := ⟨hbl.symm, hlr.symm, hmr.symm, hhi.symm, hcl.symm⟩
  have w1k : IntKind.i64.wrap (1 + lr) = 1 + lr := by rw [IntKind.wrap_i64]; omega
  have w2k : IntKind.i64.wrap (1 + lr - 1) = 1 + lr - 1 := by rw [IntKind.wrap_i64]; omega
  rw [HC.out]
  clear hwa hw0 B0 C0 Z0 D1 Z1 B1 D2 Z2 B2 D3 Z3 B3 D4 Z4 B4 D5 Z5 B5 hbl hlr hmr hhi hcl htp HC
  go_enter Tryd.func12, Tryd.ntmps12
  go_wp2_with ((with_reducible refine at_ops ?_); (refine wpList_alloc_is (by rfl) 39 rfl A1.out ?_); simp only [Act.put, List.setIfInBounds_toArray, List.set_cons_zero, List.set_cons_succ])
  refine (cin_any s.bl 6 (by omega) (by omega) _).mono ?_
  rintro e wn ⟨rfl, rfl⟩
  rw [HE.out.1]
  go_wp2_with fail
  refine (cin_any s.lc 12 (by omega) (by omega) _).mono ?_
  rintro e wn ⟨rfl, rfl⟩
  rw [HE.out.2.1]
  go_wp2_with fail
  rw [HTp.out]
  refine (cin_any s.mr tp (by omega) (by omega) _).mono ?_
  rintro e wn ⟨rfl, rfl⟩
  rw [HE.out.2.2.1]
  go_wp2_with fail
  refine (cin_any s.hi (1 + lr) (by omega) (by omega) _).mono ?_
  rintro e wn ⟨rfl, rfl⟩
  rw [HE.out.2.2.2.1]
  go_wp2_with fail
  refine (cin_any s.cl 8 (by omega) (by omega) _).mono ?_
  rintro e wn ⟨rfl, rfl⟩
  rw [HE.out.2.2.2.2]
  go_wp2_with ((with_reducible refine at_ops ?_); (first | (refine wpList_load_is (by rfl) 39 rfl rfl L5.out ?_) | (refine wpList_store_is (by rfl) 39 rfl rfl rfl T5.out ?_)); simp only [Act.put, List.setIfInBounds_toArray, List.set_cons_zero, List.set_cons_succ])
  exact bodyPost_ret (results_cell1 Tryd.results12 _ _ (w.heap.size + 1) 39 _ _ (by rfl) F5.out Tryd.underlying39 rfl size23) rfl ⟨rfl, G5.out⟩
end Go.Proofs.YtefnkjajjidfaaaDoor
