import Derived.Test.YtdadpepfpiimgaaDoorX10
set_option maxHeartbeats 20000000
set_option maxRecDepth 100000
namespace Go.Proofs.YtdadpepfpiimgaaDoor
open Go.RowKit
theorem eqg23 : Tryd.prog.eqGuardType Tryd.prog.depth 28 = false := by kernel_rfl
theorem neq23 (w : World) (r s : Sup) : (binOp .neq 28 (.agg (ccells r).toArray) (.agg (ccells s).toArray)).run Tryd.prog w = .ok (.bool (!cfgB r s)) w := by
  rw [run_neq_struct, equal23 w 9998 r s]
  rfl
theorem cfgB_iff (r s : Sup) : cfgB r s = true ↔ SameC r s := by simp [cfgB, SameC]
set_option maxHeartbeats 1000000 in
set_option maxRecDepth 100000 in
theorem superOf_nil (c : Sup) (w : World) : Calls Tryd.prog 47 #[.pointer none, .agg (ccells c).toArray] w fun e w' => e = .returned (.tuple #[.agg (scells sup0).toArray, .int .i64 1]) ∧ Below w.heap.size w w' := by
  obtain ⟨wa, hwa⟩ : ∃ y, y = w.alloc (.cells (ccells c).toArray 28) := ⟨_, rfl⟩
  obtain ⟨w0, hw0⟩ : ∃ y, y = wa.alloc (.cells (scells sup0).toArray 53) := ⟨_, rfl⟩
  have ewa := hwa.symm
  have sa : wa.heap.size = w.heap.size + 1 := by rw [hwa]; simp
  have A1 : Hid (_) := alloc29 wa
  rw [← hw0, sa] at A1
  have Ba : Below w.heap.size w wa := by rw [hwa]; exact below_alloc w _
  have B0 : Hid (Below w.heap.size w w0) := by rw [hw0]; exact below_then Ba (below_alloc wa _)
  have C0 : Hid (CAt w0 w.heap.size c) := by
    rw [hw0]
    refine LAt.later ?_ (below_alloc wa _)
    rw [hwa]; exact LAt.new 28 w _
  have V0 : Hid (SAt 53 w0 (w.heap.size + 1) sup0) := by rw [hw0, ← sa]; exact LAt.new 53 wa _
  clear hwa hw0 Ba
  have U0 : Hid (_) := build29 w0 #[] sup0 fill_none
  have T0 : Hid (_) := LAt.store (ds := scells sup0) V0.out size29 rfl (scells_all sup0)
  have F0 : Hid (SAt 53 (w0.setRow (w.heap.size + 1) (scells sup0).toArray) (w.heap.size + 1) sup0) := LAt.stored V0.out _
  have G0 : Hid (Below w.heap.size w (w0.setRow (w.heap.size + 1) (scells sup0).toArray)) := below_setRow B0.out (Nat.le_succ _) _
  go_enter Tryd.func47, Tryd.ntmps47
  go_wp2_with ((with_reducible refine at_ops ?_); (first | (refine wpList_alloc_is (by rfl) 53 rfl A1.out ?_) | (refine wpList_build_is (vs := []) (by rfl) 53 rfl (by rfl) U0.out ?_) | (refine wpList_store_is (by rfl) 53 rfl rfl rfl T0.out ?_)); simp only [Act.put, List.setIfInBounds_toArray, List.set_cons_zero, List.set_cons_succ])
  exact bodyPost_ret (results_sup Tryd.results47 _ _ (w.heap.size + 1) 53 sup0 _ (by rfl) F0.out Tryd.underlying53 rfl size29) rfl ⟨rfl, G0.out⟩
set_option maxHeartbeats 2000000 in
set_option maxRecDepth 100000 in
theorem superOf_any {w : World} {S : Nat → Prop} {p n : Nat} {d : List Int} {ws : List Wr} (h : Dsk w S p n d ws) (ht : Tab w) (c : Sup) :
    Calls Tryd.prog 47 #[.pointer (some ⟨p, 0, none⟩), .agg (ccells c).toArray] w fun e w' => e = .returned (.tuple #[.agg (scells (supOf c n (newest ws d)).1).toArray, .int .i64 (supOf c n (newest ws d)).2]) ∧ Below w.heap.size w w' := by
  obtain ⟨wa, hwa⟩ : ∃ y, y = w.alloc (.cells (ccells c).toArray 28) := ⟨_, rfl⟩
  obtain ⟨w0, hw0⟩ : ∃ y, y = wa.alloc (.cells (scells sup0).toArray 53) := ⟨_, rfl⟩
  have ewa := hwa.symm
  have sa : wa.heap.size = w.heap.size + 1 := by rw [hwa]; simp
  have A1 : Hid (_) := alloc29 wa
  rw [← hw0, sa] at A1
  have Ba : Below w.heap.size w wa := by rw [hwa]; exact below_alloc w _
  have B0 : Hid (Below w.heap.size w w0) := by rw [hw0]; exact below_then Ba (below_alloc wa _)
  have C0 : Hid (CAt w0 w.heap.size c) := by
    rw [hw0]
    refine LAt.later ?_ (below_alloc wa _)
    rw [hwa]; exact LAt.new 28 w _
  have V0 : Hid (SAt 53 w0 (w.heap.size + 1) sup0) := by rw [hw0, ← sa]; exact LAt.new 53 wa _
  clear hwa hw0 Ba
  have HD : Hid (Dsk w S p n d ws) := h
  have HT : Hid (Tab w) := ht
  have L0 : Hid (_) := CAt.load23 C0.out
  clear h ht
  go_enter Tryd.func47, Tryd.ntmps47
  go_wp2_with ((with_reducible refine at_ops ?_); (first | (refine wpList_alloc_is (by rfl) 53 rfl A1.out ?_) | (refine wpList_load_is (by rfl) 28 rfl rfl L0.out ?_)); simp only [Act.put, List.setIfInBounds_toArray, List.set_cons_zero, List.set_cons_succ])
  clear ewa A1
  refine (config_any c _).mono ?_
  rintro e w1 ⟨rfl, b1⟩
  have B1 : Hid (Below w.heap.size w w1) := below_then B0.out b1
  have C1 : Hid (CAt w1 w.heap.size c) := LAt.later C0.out b1
  have V1 : Hid (SAt 53 w1 (w.heap.size + 1) sup0) := LAt.later V0.out b1
  clear b1 B0 C0 V0 L0
  by_cases hc : MayC c
  · rw [cfg_yes c hc]
    have HC : Hid (MayC c) := hc
    obtain ⟨⟨a1, a2⟩, ⟨a3, a4⟩, -⟩ := hc
    obtain ⟨bl, hbl⟩ : ∃ x, x = c.bl := ⟨_, rfl⟩
    obtain ⟨lc, hlc⟩ : ∃ x, x = c.lc := ⟨_, rfl⟩
    have k1 : IntKind.i64.wrap (1 + bl) = 1 + bl := by rw [IntKind.wrap_i64]; omega
    have k2 : IntKind.i64.wrap (1 + bl + lc) = 1 + bl + lc := by rw [IntKind.wrap_i64]; omega
    have HE : Hid ((¬ (n : Int) = 1 + bl + lc → supOf c n (newest ws d) = (sup0, 40)) ∧ ((n : Int) = 1 + bl + lc → ∀ z, decS (newest ws d 0) = z → (¬ z.2 = 0 → supOf c n (newest ws d) = (sup0, z.2)) ∧ (z.2 = 0 → cfgB z.1 c = false → supOf c n (newest ws d) = (sup0, 3)) ∧ (z.2 = 0 → cfgB z.1 c = true → supOf c n (newest ws d) = (z.1, 0)))) := by
      rw [hbl, hlc]
      refine ⟨fun h => supOf_len _ HC.out h, fun h z hz => ?_⟩
      subst hz
      exact ⟨fun k => supOf_bad HC.out h k, fun k k2 => supOf_other HC.out h k fun e => (by rw [(cfgB_iff _ _).2 e] at k2; cases k2), fun k k2 => supOf_ok HC.out h k ((cfgB_iff _ _).1 k2)⟩
    have HC0 : Hid (∀ w', CAt w' w.heap.size c → w'.cell? ⟨w.heap.size, 0, none⟩ = some (.int .i64 bl) ∧ w'.cell? ⟨w.heap.size, 1, none⟩ = some (.int .i64 lc)) := by rw [hbl, hlc]; exact fun w' h => ⟨CAt.c0 h, CAt.c1 h⟩
    have hn4 : 1 + bl + lc ≤ 129 := by omega
    have hn0 : 0 < 1 + bl + lc := by omega
    clear hbl hlc a1 a2 a3 a4
    go_wp2_with fail
    refine wp_region_noPanic ?_
    refine wp_region_held_drew (S := fun w' => Below w1.heap.size w1 w') (by kernel_rfl) (below_drawn 1) (fun hHeld => ?_)
    have D1 : Hid (Below w1.heap.size w1 w1.drew) := hHeld
    generalize w1.drew = wd at *
    refine wpAnyH_take (i := 0) (v := ?va1) (by simp; rfl) (by kernel_rfl) (by kernel_rfl) (by kernel_rfl) (fun _ _ _ h => h) (Or.inl ⟨by rfl, ?ya1⟩) hHeld ?ra1
    case ya1 => intro w hSw; clear hSw; go_simp; with_reducible rfl
    simp only [Act.put, List.setIfInBounds_toArray, List.set_cons_zero, List.set_cons_succ]
    refine wpAnyH_take (i := 2) (v := ?va2) (by simp; rfl) (by kernel_rfl) (by kernel_rfl) (by kernel_rfl) (fun _ _ _ h => h) (Or.inl ⟨by rfl, ?ya2⟩) hHeld ?ra2
    case ya2 => intro w hSw; clear hSw; go_simp; with_reducible rfl
    simp only [Act.put, List.setIfInBounds_toArray, List.set_cons_zero, List.set_cons_succ]
    refine wpAnyH_take (i := 3) (v := ?va3) (by simp; rfl) (by kernel_rfl) (by kernel_rfl) (by kernel_rfl) (fun _ _ _ h => h) (Or.inl ⟨by rfl, ?ya3⟩) hHeld ?ra3
    case ya3 => intro w hSw; have z := (HC0.out _ (LAt.later C1.out hSw)).1; clear hSw; go_simp; with_reducible rfl
    simp only [Act.put, List.setIfInBounds_toArray, List.set_cons_zero, List.set_cons_succ]
    refine wpAnyH_take (i := 4) (v := ?va4) (by simp; rfl) (by kernel_rfl) (by kernel_rfl) (by kernel_rfl) (fun _ _ _ h => h) (Or.inl ⟨by rfl, ?ya4⟩) hHeld ?ra4
    case ya4 => intro w hSw; clear hSw; go_simp; with_reducible rfl
    simp only [Act.put, List.setIfInBounds_toArray, List.set_cons_zero, List.set_cons_succ]
    refine wpAnyH_take (i := 5) (v := ?va5) (by simp; rfl) (by kernel_rfl) (by kernel_rfl) (by kernel_rfl) (fun _ _ _ h => h) (Or.inl ⟨by rfl, ?ya5⟩) hHeld ?ra5
    case ya5 => intro w hSw; clear hSw; go_simp; with_reducible rfl
    simp only [Act.put, List.setIfInBounds_toArray, List.set_cons_zero, List.set_cons_succ]
    refine wpAnyH_take (i := 6) (v := ?va6) (by simp; rfl) (by kernel_rfl) (by kernel_rfl) (by kernel_rfl) (fun _ _ _ h => h) (Or.inl ⟨by rfl, ?ya6⟩) hHeld ?ra6
    case ya6 => intro w hSw; have z := (HC0.out _ (LAt.later C1.out hSw)).2; clear hSw; go_simp; with_reducible rfl
    simp only [Act.put, List.setIfInBounds_toArray, List.set_cons_zero, List.set_cons_succ]
    refine wpAnyH_take (i := 7) (v := ?va7) (by simp; rfl) (by kernel_rfl) (by kernel_rfl) (by kernel_rfl) (fun _ _ _ h => h) (Or.inl ⟨by rfl, ?ya7⟩) hHeld ?ra7
    case ya7 => intro w hSw; clear hSw; go_simp; with_reducible rfl
    simp only [Act.put, List.setIfInBounds_toArray, List.set_cons_zero, List.set_cons_succ]
    refine wpAnyH_ready (rs := [1]) (by kernel_rfl) (by simp) ?_
    refine AllReadyH.cons (by simp; rfl) (fun Kc hKc => ?_) AllReadyH.nil
    go_simp
    refine (len_any (HD.out.later (below_then B1.out D1.out))).mono ?_
    rintro e wn ⟨rfl, rfl⟩
    refine hKc.out _ _ D1.out (fun hHeld => ?_)
    clear hKc Kc
    refine wpAnyH_take (i := 8) (v := ?va8) (by simp; rfl) (by kernel_rfl) (by kernel_rfl) (by kernel_rfl) (fun _ _ _ h => h) (Or.inl ⟨by rfl, ?ya8⟩) hHeld ?ra8
    case ya8 => intro w hSw; clear hSw; go_simp; with_reducible rfl
    simp only [Act.put, List.setIfInBounds_toArray, List.set_cons_zero, List.set_cons_succ]
    have B2 : Hid (Below w.heap.size w wd) := below_then B1.out D1.out
    have C2 : Hid (CAt wd w.heap.size c) := LAt.later C1.out D1.out
    have V2 : Hid (SAt 53 wd (w.heap.size + 1) sup0) := LAt.later V1.out D1.out
    clear hHeld D1 HC0 B1 C1 V1
    refine wpAnyH_done (by kernel_rfl) (NoPanic.normal ?_) _
    obtain ⟨w2, hw2⟩ : ∃ y, y = wd := ⟨_, rfl⟩
    rw [← hw2] at B2 C2 V2 ⊢
    clear hw2
    by_cases he : (n : Int) = 1 + bl + lc
    · have hq : ((n : Int) != 1 + bl + lc) = false := by rw [he]; simp
      have HZ0 : Hid (_) := HE.out.2 he
      have hn : 0 < n := by omega
      clear he HE
      go_wp2_with fail
      refine (rd_at (HD.out.later B2.out) 0 (Int.le_refl 0) (by omega)).mono ?_
      rintro e w3 ⟨q2, c2, rfl, x2, hc2, b2⟩
      have X3 : Hid (BIn w3 q2 64 (newest ws d 0)) := x2
      have B3 : Hid (Below w.heap.size w w3) := below_then B2.out b2
      have C3 : Hid (CAt w3 w.heap.size c) := LAt.later C2.out b2
      have V3 : Hid (SAt 53 w3 (w.heap.size + 1) sup0) := LAt.later V2.out b2
      clear x2 b2 B2 C2 V2
      go_wp2_with fail
      refine (decode_any q2 64 c2 _ w3 X3.out hc2 (HT.out.later B3.out)).mono ?_
      rintro e w4 ⟨rfl, b4⟩
      have B4 : Hid (Below w.heap.size w w4) := below_then B3.out b4
      have C4 : Hid (CAt w4 w.heap.size c) := LAt.later C3.out b4
      have V4 : Hid (SAt 53 w4 (w.heap.size + 1) sup0) := LAt.later V3.out b4
      clear b4 X3 B3 C3 V3
      obtain ⟨⟨r, k⟩, hz⟩ : ∃ z, decS (newest ws d 0) = z := ⟨_, rfl⟩
      have HZ : Hid (_) := HZ0.out _ hz
      rw [hz]
      clear hz HZ0
      obtain ⟨w5, hw5⟩ : ∃ y, y = w4.alloc (.cells (scells r).toArray 53) := ⟨_, rfl⟩
      have A5 : Hid (_) := alloc29 w4
      have T45 : Hid (_) := store_new29 w4 r
      rw [← hw5] at T45
      have b5 : Below w4.heap.size w4 w5 := by rw [hw5]; exact below_alloc w4 _
      have B5 : Hid (Below w.heap.size w w5) := below_then B4.out b5
      have C5 : Hid (CAt w5 w.heap.size c) := LAt.later C4.out b5
      have V5 : Hid (SAt 53 w5 (w.heap.size + 1) sup0) := LAt.later V4.out b5
      have R5 : Hid (SAt 53 w5 w4.heap.size r) := by rw [hw5]; exact LAt.new 53 w4 _
      clear hw5 b5 B4 C4 V4
      have U5 : Hid (_) := build29 w5 #[] sup0 fill_none
      have T5 : Hid (_) := LAt.store (ds := scells sup0) V5.out size29 rfl (scells_all sup0)
      have F5 : Hid (SAt 53 (w5.setRow (w.heap.size + 1) (scells sup0).toArray) (w.heap.size + 1) sup0) := LAt.stored V5.out _
      have G5 : Hid (Below w.heap.size w (w5.setRow (w.heap.size + 1) (scells sup0).toArray)) := below_setRow B5.out (Nat.le_succ _) _
      by_cases hk : k = 0
      · subst hk
        have L5 : Hid (_) := SAt.load23 R5.out
        have M5 : Hid (_) := CAt.load23 C5.out
        have N5 : Hid (_) := neq23 w5 r c
        cases hb : cfgB r c with
        | true =>
          have HR : Hid (_) := HZ.out.2.2 rfl hb
          have Q5 : Hid (_) := SAt.load29 R5.out
          have T6 : Hid (_) := LAt.store (ds := scells r) V5.out size29 rfl (scells_all r)
          have F6 : Hid (SAt 53 (w5.setRow (w.heap.size + 1) (scells r).toArray) (w.heap.size + 1) r) := LAt.stored V5.out _
          have G6 : Hid (Below w.heap.size w (w5.setRow (w.heap.size + 1) (scells r).toArray)) := below_setRow B5.out (Nat.le_succ _) _
          rw [hb] at N5
          clear HZ T5 F5 G5 U5 hb
          go_wp2_with ((with_reducible refine at_ops ?_); (first | (refine wpList_alloc_is (by rfl) 53 rfl A5.out ?_) | (refine wpList_store_is (by rfl) 53 rfl rfl rfl T45.out ?_) | (refine wpList_load_is (by rfl) 28 rfl rfl L5.out ?_) | (refine wpList_load_is (by rfl) 28 rfl rfl M5.out ?_) | (refine wpList_neq_is (by rfl) 28 rfl rfl rfl eqg23 N5.out ?_) | (refine wpList_load_is (by rfl) 53 rfl rfl Q5.out ?_) | (refine wpList_store_is (by rfl) 53 rfl rfl rfl T6.out ?_)); simp only [Act.put, List.setIfInBounds_toArray, List.set_cons_zero, List.set_cons_succ])
          rw [HR.out]
          exact bodyPost_ret (results_sup Tryd.results47 _ _ (w.heap.size + 1) 53 r _ (by rfl) F6.out Tryd.underlying53 rfl size29) rfl ⟨rfl, G6.out⟩
        | false =>
          have HR : Hid (_) := HZ.out.2.1 rfl hb
          rw [hb] at N5
          clear HZ hb
          go_wp2_with ((with_reducible refine at_ops ?_); (first | (refine wpList_alloc_is (by rfl) 53 rfl A5.out ?_) | (refine wpList_store_is (by rfl) 53 rfl rfl rfl T45.out ?_) | (refine wpList_load_is (by rfl) 28 rfl rfl L5.out ?_) | (refine wpList_load_is (by rfl) 28 rfl rfl M5.out ?_) | (refine wpList_neq_is (by rfl) 28 rfl rfl rfl eqg23 N5.out ?_) | (refine wpList_build_is (vs := []) (by rfl) 53 rfl (by rfl) U5.out ?_) | (refine wpList_store_is (by rfl) 53 rfl rfl rfl T5.out ?_)); simp only [Act.put, List.setIfInBounds_toArray, List.set_cons_zero, List.set_cons_succ])
          rw [HR.out]
          exact bodyPost_ret (results_sup Tryd.results47 _ _ (w.heap.size + 1) 53 sup0 _ (by rfl) F5.out Tryd.underlying53 rfl size29) rfl ⟨rfl, G5.out⟩
      · have HR : Hid (_) := HZ.out.1 hk
        have hq : (k != 0) = true := by simp [hk]
        clear HZ
        go_wp2_with ((with_reducible refine at_ops ?_); (first | (refine wpList_alloc_is (by rfl) 53 rfl A5.out ?_) | (refine wpList_store_is (by rfl) 53 rfl rfl rfl T45.out ?_) | (refine wpList_build_is (vs := []) (by rfl) 53 rfl (by rfl) U5.out ?_) | (refine wpList_store_is (by rfl) 53 rfl rfl rfl T5.out ?_)); simp only [Act.put, List.setIfInBounds_toArray, List.set_cons_zero, List.set_cons_succ])
        rw [HR.out]
        exact bodyPost_ret (results_sup Tryd.results47 _ _ (w.heap.size + 1) 53 sup0 _ (by rfl) F5.out Tryd.underlying53 rfl size29) rfl ⟨rfl, G5.out⟩
    · have hq : ((n : Int) != 1 + bl + lc) = true := by simp [he]
      have HR : Hid (_) := HE.out.1 he
      clear he HE
      have U2 : Hid (_) := build29 w2 #[] sup0 fill_none
      have T2 : Hid (_) := LAt.store (ds := scells sup0) V2.out size29 rfl (scells_all sup0)
      have F2 : Hid (SAt 53 (w2.setRow (w.heap.size + 1) (scells sup0).toArray) (w.heap.size + 1) sup0) := LAt.stored V2.out _
      have G2 : Hid (Below w.heap.size w (w2.setRow (w.heap.size + 1) (scells sup0).toArray)) := below_setRow B2.out (Nat.le_succ _) _
      go_wp2_with ((with_reducible refine at_ops ?_); (first | (refine wpList_build_is (vs := []) (by rfl) 53 rfl (by rfl) U2.out ?_) | (refine wpList_store_is (by rfl) 53 rfl rfl rfl T2.out ?_)); simp only [Act.put, List.setIfInBounds_toArray, List.set_cons_zero, List.set_cons_succ])
      rw [HR.out]
      exact bodyPost_ret (results_sup Tryd.results47 _ _ (w.heap.size + 1) 53 sup0 _ (by rfl) F2.out Tryd.underlying53 rfl size29) rfl ⟨rfl, G2.out⟩
  · rw [cfg_no c hc]
    have HR : Hid (_) := supOf_no n (newest ws d) hc
    clear hc
    have U1 : Hid (_) := build29 w1 #[] sup0 fill_none
    have T1 : Hid (_) := LAt.store (ds := scells sup0) V1.out size29 rfl (scells_all sup0)
    have F1 : Hid (SAt 53 (w1.setRow (w.heap.size + 1) (scells sup0).toArray) (w.heap.size + 1) sup0) := LAt.stored V1.out _
    have G1 : Hid (Below w.heap.size w (w1.setRow (w.heap.size + 1) (scells sup0).toArray)) := below_setRow B1.out (Nat.le_succ _) _
    go_wp2_with ((with_reducible refine at_ops ?_); (first | (refine wpList_build_is (vs := []) (by rfl) 53 rfl (by rfl) U1.out ?_) | (refine wpList_store_is (by rfl) 53 rfl rfl rfl T1.out ?_)); simp only [Act.put, List.setIfInBounds_toArray, List.set_cons_zero, List.set_cons_succ])
    rw [HR.out]
    exact bodyPost_ret (results_sup Tryd.results47 _ _ (w.heap.size + 1) 53 sup0 _ (by rfl) F1.out Tryd.underlying53 rfl size29) rfl ⟨rfl, G1.out⟩
end Go.Proofs.YtdadpepfpiimgaaDoor
namespace Go.Proofs.YtdadpepfpiimgaaDoor
open Go.RowKit
def gcells (t l f : Int) (v : Value) : List Value := [.int .u64 t, .int .u64 l, .int .u64 f, v]
theorem gcells_ones {v : Value} (hv : v.oneCell' = true) (t l f : Int) : ∀ u ∈ gcells t l f v, u.oneCell' = true := by
  intro u hu
  simp only [gcells, List.mem_cons, List.not_mem_nil, or_false] at hu
  rcases hu with rfl | rfl | rfl | rfl
  · rfl
  · rfl
  · rfl
  · exact hv
theorem sizeLg : (Tryd.prog.info? 89).map (·.size) = some 4 := by kernel_rfl
theorem zeroLg : (Tryd.prog.info? 89).bind (·.zero) = some (.agg (gcells 0 0 0 (.slice none 0 0)).toArray) := by kernel_rfl
def plLg : List (Nat × Nat) := [(0, 1), (1, 1), (2, 1), (3, 1)]
theorem placesLg : placesOf Tryd.prog 89 = some plLg := by kernel_rfl
theorem buildL0 (w : World) : (Instr.build 89 #[]).run Tryd.prog w = .ok (.agg (gcells 0 0 0 (.slice none 0 0)).toArray) w := run_build w 89 _ _ ((built_of 89 _ _ _ placesLg zeroLg).trans rfl)
theorem buildL3 (w : World) (t l f : Int) : (Instr.build 89 #[(0, .int .u64 t), (1, .int .u64 l), (2, .int .u64 f)]).run Tryd.prog w = .ok (.agg (gcells t l f (.slice none 0 0)).toArray) w :=
  run_build w 89 _ _ ((built_of 89 _ _ _ placesLg zeroLg).trans rfl)
theorem allocLg (w : World) : (Instr.alloc 89 true (.tuple #[])).run Tryd.prog w = .ok (.pointer (some ⟨w.heap.size, 0, none⟩)) (w.alloc (.cells (gcells 0 0 0 (.slice none 0 0)).toArray 89)) := by
  simp only [Instr.alloc, Sem.run_bind, zv 89 _ zeroLg, Result.andThen_ok]
  simp [newVar, newRow, Value.cells]
theorem storeLg (w : World) (t l f : Int) {v : Value} (hv : v.oneCell' = true) : (Instr.storeAt 89 (.pointer (some ⟨w.heap.size, 0, none⟩)) (.agg (gcells t l f v).toArray)).run Tryd.prog (w.alloc (.cells (gcells 0 0 0 (.slice none 0 0)).toArray 89)) = .ok () (w.alloc (.cells (gcells t l f v).toArray 89)) := by
  rw [(LAt.new 89 w (gcells 0 0 0 (.slice none 0 0))).store (ds := gcells t l f v) sizeLg rfl (all_oneCell_toArray (gcells_ones hv t l f)), setRow_alloc]
theorem LAt.loadLg {w : World} {g : Nat} {t l f : Int} {v : Value} (h : LAt 89 w g (gcells t l f v)) : (Instr.loadAt 89 (.pointer (some ⟨g, 0, none⟩))).run Tryd.prog w = .ok (.agg (gcells t l f v).toArray) w :=
  run_loadAt_mid w g 0 89 (gcells t l f v) _ (LAt.range h) Tryd.underlying89 rfl sizeLg
theorem LAt.free {t : TypeId} {w : World} {g : Nat} {cs : List Value} (h : LAt t w g cs) (j : Nat) : w.frozen? ⟨g, j, none⟩ = false := by
  unfold World.frozen?
  rw [show w.heap[(⟨g, j, none⟩ : Addr).block]? = some (.cells cs.toArray t (0, 0)) from h]
  simp
theorem infoT : (Tryd.prog.info? 113).map (fun i => (i.zero, i.size, i.bytes)) = some (some (.agg #[.int .u64 0, .slice none 0 0]), 2, 32) := by kernel_rfl
theorem zeroT : (Tryd.prog.info? 113).bind (·.zero) = some (.agg #[.int .u64 0, .slice none 0 0]) := by kernel_rfl
def plT : List (Nat × Nat) := [(0, 1), (1, 1)]
theorem placesT : placesOf Tryd.prog 113 = some plT := by kernel_rfl
theorem buildT (w : World) (p : Int) (q : Option Addr) (n m : Nat) : (Instr.build 113 #[(0, .int .u64 p), (1, .slice q n m)]).run Tryd.prog w = .ok (.agg #[.int .u64 p, .slice q n m]) w :=
  run_build w 113 _ _ ((built_of 113 _ _ _ placesT zeroT).trans rfl)
theorem build_tx (w : World) (p : Int) (q : Option Addr) (n m : Nat) : (Instr.buildSlice 87 1 #[(0, .agg #[.int .u64 p, .slice q n m])]).run Tryd.prog w = .ok (.slice (some ⟨w.heap.size, 0, none⟩) 1 1) (w.alloc (.cells #[.int .u64 p, .slice q n m] 113)) := by
  obtain ⟨i0, hi, hz0, hz1, hz2⟩ := info_parts infoT
  refine run_buildSlice w 87 113 1 _ _ i0 _ Tryd.underlying87 hi hz0 (by rw [hz1]; decide) (by rw [hz1]; decide) ?_
  rw [hz1]
  have hA : ∀ A : Array Value, A.size = 2 → Instr.fill (fun i => some (i * 2, 2)) A [(0, .agg #[.int .u64 p, .slice q n m])] = some #[.int .u64 p, .slice q n m] := by
    intro A hA
    have a0 := part_fill 0 [.int .u64 p, .slice q n m] A.toList (by simp; omega)
    simp only [Instr.fill, Value.cells, List.size_toArray, Nat.zero_mul]
    rw [if_neg (by simp [hA])]
    have a0' : (#[Value.int .u64 p, .slice q n m]).zipIdx.foldl (fun cs x => match x with | (c, j) => cs.setIfInBounds (0 + j) c) A = ((A.toList.take 0 ++ [Value.int .u64 p, Value.slice q n m] ++ A.toList.drop (0 + 2))).toArray := a0
    rw [a0', List.drop_eq_nil_of_le (by simp [hA])]
    simp
  exact hA _ (by simp)
theorem own_cells {W W' : World} (hc : ∀ (k : Nat) (o : Obj), W.heap[k]? = some o → o.isCells = true → W'.heap[k]? = some o) {B : Nat} {e : TypeId} {sz : Nat} {v : Value} {n : Nat} {xs : List Value} (h : W.ownsRow B e sz v n xs) : W'.ownsRow B e sz v n xs := by
  refine ⟨h.1, ?_⟩
  rcases h.2 with h | ⟨g, cap, cur, h1, h2, h3, h4⟩
  · exact .inl h
  · exact .inr ⟨g, cap, cur, h1, h2, hc g _ h3 rfl, h4⟩
theorem XOwn.cells {W W' : World} (hc : ∀ (k : Nat) (o : Obj), W.heap[k]? = some o → o.isCells = true → W'.heap[k]? = some o) {e : TypeId} {B : Nat} {v : Value} {l : List TX} {vs : List Value} (h : XOwn e W B v l vs) : XOwn e W' B v l vs :=
  ⟨h.len, own_cells hc h.row, fun k t u a b => own_cells hc (h.each k t u a b), h.wf⟩
structure RdM (w W : World) (Bd Bc Br Bl Bo Bt Be : Nat) (dp : Option Addr) (c : Sup) (t l e : Int) (s : Sc) (v : Value) (vs : List Value) (cv : Value) (Bx : Nat) : Prop where
  dk : Boxed W Bd 23 (.pointer dp)
  cf : CAt W Bc c
  rs : LAt 89 W Br (gcells 0 0 0 (.slice none 0 0))
  bt : Boxed W Bt 33 (.int .u64 t)
  be : Boxed W Be 33 (.int .u64 e)
  lg : LAt 89 W Bl (gcells t l s.fin v)
  co : Boxed W Bo 46 cv
  tx : XOwn 113 W w.heap.size v s.txs vs
  im : IOwn W Bx cv s.come
  up : Rise vs Bx
  x0 : w.heap.size ≤ Bx
  x1 : Bx ≤ W.heap.size
  low : Below w.heap.size w W
  ne : Bl ≠ Br
  l0 : w.heap.size ≤ Bl
  o0 : w.heap.size ≤ Bo
theorem RdM.cells {W W' : World} {w : World} {Bd Bc Br Bl Bo Bt Be Bx : Nat} {dp : Option Addr} {c : Sup} {t l e : Int} {s : Sc} {v cv : Value} {vs : List Value} (h : RdM w W Bd Bc Br Bl Bo Bt Be dp c t l e s v vs cv Bx)
    (hc : ∀ (k : Nat) (o : Obj), W.heap[k]? = some o → o.isCells = true → W'.heap[k]? = some o) (hs : W.heap.size ≤ W'.heap.size) (hb : Below w.heap.size w W') : RdM w W' Bd Bc Br Bl Bo Bt Be dp c t l e s v vs cv Bx :=
  ⟨hc _ _ h.dk rfl, hc _ _ h.cf rfl, hc _ _ h.rs rfl, hc _ _ h.bt rfl, hc _ _ h.be rfl, hc _ _ h.lg rfl, hc _ _ h.co rfl, h.tx.cells hc, own_cells hc h.im, h.up, h.x0, Nat.le_trans h.x1 hs, hb, h.ne, h.l0, h.o0⟩
theorem RdM.later {w V : World} {Bd Bc Br Bl Bo Bt Be Bx : Nat} {dp : Option Addr} {c : Sup} {t l e : Int} {s : Sc} {v cv : Value} {vs : List Value} {V' : World} (h : RdM w V Bd Bc Br Bl Bo Bt Be dp c t l e s v vs cv Bx) (hb : Below V.heap.size V V') : RdM w V' Bd Bc Br Bl Bo Bt Be dp c t l e s v vs cv Bx :=
  h.cells (fun k _ hk _ => (hb.block k (Array.getElem?_eq_some_iff.1 hk).1).trans hk) hb.size (below_then h.low hb)
theorem RdM.own {w : World} {Bd Bc Br Bl Bo Bt Be Bx : Nat} {dp : Option Addr} {c : Sup} {t l e : Int} {s : Sc} {v cv : Value} {vs : List Value} {B : Nat} {β : Type} (hB : w.heap.size ≤ B) : OwnFrom B (fun (_ : β) (W : World) => RdM w W Bd Bc Br Bl Bo Bt Be dp c t l e s v vs cv Bx) := fun _ X Y row hs hg hr =>
  hs.cells (fun _ _ hk hc => (grownBy_keeps_cells hg (fun r e => (hr r e).2) hk hc).trans hk) hg.size (ownFrom_below (β := Unit) (Nat.le_refl _) hB () X Y row hs.low hg hr)
theorem keeps_grown {V V4 : World} {B : Nat} {e : TypeId} {sz n : Nat} {v : Value} {xs : List Value} {tmp : Obj} (hrow : V.ownsRow B e sz v n xs) (hgrow : (V.alloc tmp).grownBy V4 v.ownBlock) : KeepsOthers V V4 := by
  refine (KeepsOthers.alloc V tmp).trans (KeepsOthers.of_grownBy hgrow fun j o ej hj => ?_)
  rcases (hrow.alloc tmp).2 with ⟨rfl, _⟩ | ⟨g, cap, cur, rfl, _, hgb, _⟩
  · simp [Value.ownBlock] at ej
  · obtain rfl : g = j := by simpa [Value.ownBlock] using ej
    rw [hgb] at hj; cases hj; rfl
theorem rise_ne {vs : List Value} {C : Nat} (h : Rise vs C) {w : World} {e : TypeId} {sz n : Nat} {v : Value} {xs : List Value} (hv : w.ownsRow C e sz v n xs) : ∀ u ∈ vs, u.ownBlock = none ∨ u.ownBlock ≠ v.ownBlock := fun u hu => by
  cases hub : u.ownBlock with
  | none => exact .inl rfl
  | some g =>
    refine .inr fun e' => ?_
    have h1 := h.2 u hu g hub
    have h2 := (hv.lt g e'.symm).1
    omega
theorem lat_grown {V V4 : World} {B : Nat} {ty e : TypeId} {sz n k : Nat} {v : Value} {xs cs : List Value} {tmp : Obj} (h : LAt ty V k cs) (hne : ty ≠ e) (hrow : V.ownsRow B e sz v n xs) (hgrow : (V.alloc tmp).grownBy V4 v.ownBlock) : LAt ty V4 k cs := by
  have h' : LAt ty (V.alloc tmp) k cs := (Below.heap_alloc _ _ _ h.lt).trans h
  refine (hgrow.block k h'.lt fun e' => ?_).trans h'
  rcases hrow.2 with ⟨rfl, _⟩ | ⟨g, cap, cur, rfl, _, hgb, _⟩
  · cases e'
  · simp only [Value.ownBlock, Option.some.injEq] at e'
    subst e'
    rw [show V.heap[k]? = _ from h] at hgb
    cases hgb
    exact hne rfl
theorem RdM.img {w V : World} {Bd Bc Br Bl Bo Bt Be Bx : Nat} {dp : Option Addr} {c : Sup} {t l e : Int} {s : Sc} {v cv : Value} {vs : List Value} (h : RdM w V Bd Bc Br Bl Bo Bt Be dp c t l e s v vs cv Bx) (i : Im) (hi : i.Wf) (hl : s.come.length ≤ 64) :
    ∃ v' V4, (Builtin.append_ #[46, 46] 46 #[cv, .slice (some ⟨V.heap.size, 0, none⟩) 1 1]).run Tryd.prog (V.alloc (.cells (icells i).toArray 65)) = .ok v' V4 ∧ Boxed V4 Bo 46 cv ∧ RdM w (V4.setCell ⟨Bo, 0, none⟩ v') Bd Bc Br Bl Bo Bt Be dp c t l e ⟨s.txs, s.fin, s.come ++ [i]⟩ v vs v' Bx ∧ KeepsOthers V (V4.setCell ⟨Bo, 0, none⟩ v') := by
  obtain ⟨i0, hi0, hz0, hz1, hz2⟩ := info_parts infoI
  have h65 : (65 : Nat) ≤ maxLen := by decide
  have hcl := h.x1
  obtain ⟨v', V4, hrun, hown', hgrow, -⟩ := run_append_own (P := Tryd.prog) (V.alloc (.cells (icells i).toArray 65)) Bx 46 46 65 i0 _ 33 40 Tryd.underlying46 hi0 hz0 hz1 hz2 rfl (by decide) cv s.come.length (IC s.come) (h.im.alloc _) ⟨V.heap.size, 0, none⟩ 1 1 (icells i) (by rw [icells_len hi.len]) (fun j u hu => by
    rw [Addr.add_mid, Nat.zero_add, LAt.cell (LAt.new 65 V (icells i)) j]; exact hu) (icells_ones i) (by omega) (by omega) (by simp; omega)
  have hco : Boxed V4 Bo 46 cv := (h.co.alloc _).kept hgrow (h.co.not_row (by decide) h.im)
  have gs := grownBy_setCell' V4 Bo v'
  refine ⟨v', V4, hrun, hco, ⟨?_, ?_, ?_, ?_, ?_, ?_, hco.set v', ?_, ?_, h.up, h.x0, ?_, ?_, h.ne, h.l0, h.o0⟩, (keeps_grown h.im hgrow).trans (KeepsOthers.setCell _ _ _)⟩
  · exact ((h.dk.alloc _).kept hgrow (h.dk.not_row (by decide) h.im)).other (fun e => by have := h.dk; rw [e] at this; have := this.symm.trans h.co; simp at this) _
  · exact LAt.setO (lat_grown h.cf (by decide) h.im hgrow) 0 v' (fun e => by have := h.cf; rw [e] at this; have := this.symm.trans h.co; simp [ccells] at this)
  · exact LAt.setO (lat_grown h.rs (by decide) h.im hgrow) 0 v' (fun e => by have := h.rs; rw [e] at this; have := this.symm.trans h.co; simp [gcells] at this)
  · exact ((h.bt.alloc _).kept hgrow (h.bt.not_row (by decide) h.im)).other (fun e => by have := h.bt; rw [e] at this; have := this.symm.trans h.co; simp at this) _
  · exact ((h.be.alloc _).kept hgrow (h.be.not_row (by decide) h.im)).other (fun e => by have := h.be; rw [e] at this; have := this.symm.trans h.co; simp at this) _
  · exact LAt.setO (lat_grown h.lg (by decide) h.im hgrow) 0 v' (fun e => by have := h.lg; rw [e] at this; have := this.symm.trans h.co; simp [gcells] at this)
  · have x1 := (h.tx.later (below_alloc V _)).kept hgrow (own_ne h.tx.row h.im (by decide)) (rise_ne h.up h.im)
    refine x1.kept gs ?_ (fun u hu => ?_)
    · exact .inr (hco.not_row (by decide) x1.row).symm
    · obtain ⟨k, hk, rfl⟩ := List.getElem_of_mem hu
      have hk' : k < s.txs.length := by rw [← x1.len]; exact hk
      exact .inr (hco.not_row (by decide) (x1.each k s.txs[k] vs[k] (List.getElem?_eq_getElem hk') (List.getElem?_eq_getElem hk))).symm
  · rw [IOwn, IC_snoc, List.length_append, List.length_singleton]
    exact hown'.kept gs (.inr (hco.not_row (by decide) hown').symm)
  · have := hgrow.size
    simp at this ⊢
    omega
  · refine Below.setCell (p := ⟨Bo, 0, none⟩) ?_ h.o0 v'
    exact (below_then h.low (below_alloc V _)).grown hgrow (by have := h.low.size; simp; omega) fun j ej => Nat.le_trans h.x0 (h.im.lt j ej).1
theorem RdM.com {w V : World} {Bd Bc Br Bl Bo Bt Be Bx : Nat} {dp : Option Addr} {c : Sup} {t l e : Int} {s : Sc} {v cv : Value} {vs : List Value} (h : RdM w V Bd Bc Br Bl Bo Bt Be dp c t l e s v vs cv Bx) (p : Int) (hp : u64 p) (hl : s.txs.length ≤ 64) (hcw : ImsWf s.come) (q : Option Addr) (k m : Nat) (hcv : cv = .slice q k m) :
    ∃ v' V4, (Builtin.append_ #[87, 87] 87 #[v, .slice (some ⟨V.heap.size, 0, none⟩) 1 1]).run Tryd.prog (V.alloc (.cells #[.int .u64 p, cv] 113)) = .ok v' V4 ∧ LAt 89 V4 Bl (gcells t l s.fin v) ∧ Boxed V4 Bo 46 cv ∧ RdM w (((V4.setCell ⟨Bl, 3, none⟩ v').setCell ⟨Bl, 2, none⟩ (.int .u64 (p + 1))).setCell ⟨Bo, 0, none⟩ (.slice none 0 0)) Bd Bc Br Bl Bo Bt Be dp c t l e ⟨s.txs ++ [⟨p, s.come⟩], p + 1, []⟩ v' (vs ++ [cv]) (.slice none 0 0) (((V4.setCell ⟨Bl, 3, none⟩ v').setCell ⟨Bl, 2, none⟩ (.int .u64 (p + 1))).setCell ⟨Bo, 0, none⟩ (.slice none 0 0)).heap.size ∧ KeepsOthers V (((V4.setCell ⟨Bl, 3, none⟩ v').setCell ⟨Bl, 2, none⟩ (.int .u64 (p + 1))).setCell ⟨Bo, 0, none⟩ (.slice none 0 0)) := by
  obtain ⟨i0, hi0, hz0, hz1, hz2⟩ := info_parts infoT
  have h65 : (65 : Nat) ≤ maxLen := by decide
  have hcl := h.low.size
  obtain ⟨v', V4, hrun, hown', hgrow, -⟩ := run_append_own (P := Tryd.prog) (V.alloc (.cells #[.int .u64 p, cv] 113)) w.heap.size 87 87 113 i0 _ 2 32 Tryd.underlying87 hi0 hz0 hz1 hz2 rfl (by decide) v s.txs.length _ (h.tx.row.alloc _) ⟨V.heap.size, 0, none⟩ 1 1 [.int .u64 p, cv] rfl (fun j u hu => by
    rw [Addr.add_mid, Nat.zero_add]; exact (LAt.cell (LAt.new 113 V [.int .u64 p, cv]) j).trans hu) (fun u hu => by
    simp only [List.mem_cons, List.not_mem_nil, or_false] at hu
    rcases hu with rfl | rfl
    · rfl
    · rw [hcv]; rfl) (by omega) (by omega) (by simp; omega)
  have hco : Boxed V4 Bo 46 cv := (h.co.alloc _).kept hgrow (h.co.not_row (by decide) h.tx.row)
  have hlg : LAt 89 V4 Bl (gcells t l s.fin v) := lat_grown h.lg (by decide) h.tx.row hgrow
  have nlo : Bl ≠ Bo := fun e => by have := h.lg; rw [e] at this; have := this.symm.trans h.co; simp [gcells] at this
  have boxo : ∀ {k ty u}, ty ≠ 89 → ty ≠ 46 → ty ≠ 113 → Boxed V k ty u → Boxed (((V4.setCell ⟨Bl, 3, none⟩ v').setCell ⟨Bl, 2, none⟩ (.int .u64 (p + 1))).setCell ⟨Bo, 0, none⟩ (.slice none 0 0)) k ty u := by
    intro k ty u h1 h2 h3 hb
    have n1 : k ≠ Bl := fun e => by subst e; have := hb.symm.trans h.lg; simp only [Option.some.injEq, Obj.cells.injEq] at this; exact h1 this.2.1
    have n2 : k ≠ Bo := fun e => by subst e; have := hb.symm.trans h.co; simp only [Option.some.injEq, Obj.cells.injEq] at this; exact h2 this.2.1
    have hb4 : Boxed V4 k ty u := (hb.alloc _).kept hgrow (hb.not_row h3 h.tx.row)
    refine ((heap_setCell_other _ ⟨Bo, 0, none⟩ k _ n2).trans ((heap_setCell_other _ ⟨Bl, 2, none⟩ k _ n1).trans ((heap_setCell_other _ ⟨Bl, 3, none⟩ k _ n1).trans hb4)))
  have lato : ∀ {k ty cs}, k ≠ Bl → k ≠ Bo → ty ≠ 113 → LAt ty V k cs → LAt ty (((V4.setCell ⟨Bl, 3, none⟩ v').setCell ⟨Bl, 2, none⟩ (.int .u64 (p + 1))).setCell ⟨Bo, 0, none⟩ (.slice none 0 0)) k cs := by
    intro k ty cs n1 n2 h3 hb
    exact LAt.setO (LAt.setO (LAt.setO (lat_grown hb h3 h.tx.row hgrow) 3 v' n1) 2 _ n1) 0 _ n2
  have rowo : ∀ {C ty sz n u xs}, ty ≠ 89 → ty ≠ 46 → V4.ownsRow C ty sz u n xs → (((V4.setCell ⟨Bl, 3, none⟩ v').setCell ⟨Bl, 2, none⟩ (.int .u64 (p + 1))).setCell ⟨Bo, 0, none⟩ (.slice none 0 0)).ownsRow C ty sz u n xs := by
    intro C ty sz n u xs h1 h2 hr
    refine ⟨hr.1, ?_⟩
    rcases hr.2 with hr | ⟨g, cap, cur, e1, e2, e3, e4⟩
    · exact .inl hr
    · have n1 : g ≠ Bl := fun e => by subst e; have := e3.symm.trans hlg; simp only [Option.some.injEq, Obj.cells.injEq] at this; exact h1 this.2.1
      have n2 : g ≠ Bo := fun e => by subst e; have := e3.symm.trans hco; simp only [Option.some.injEq, Obj.cells.injEq] at this; exact h2 this.2.1
      exact .inr ⟨g, cap, cur, e1, e2, ((heap_setCell_other _ ⟨Bo, 0, none⟩ g _ n2).trans ((heap_setCell_other _ ⟨Bl, 2, none⟩ g _ n1).trans ((heap_setCell_other _ ⟨Bl, 3, none⟩ g _ n1).trans e3))), e4⟩
  have x4 : ∀ (j : Nat) (y : TX) (u : Value), s.txs[j]? = some y → vs[j]? = some u → IOwn V4 w.heap.size u y.ims := fun j y u a b =>
    ((h.tx.each j y u a b).alloc _).kept hgrow (own_ne (h.tx.each j y u a b) h.tx.row (by decide))
  have hsz : V.heap.size ≤ V4.heap.size := by have := hgrow.size; simp at this; omega
  refine ⟨v', V4, hrun, hlg, hco, ⟨boxo (by decide) (by decide) (by decide) h.dk, lato ?_ ?_ (by decide) h.cf, lato h.ne.symm ?_ (by decide) h.rs, boxo (by decide) (by decide) (by decide) h.bt, boxo (by decide) (by decide) (by decide) h.be, ?_, ?_, ?_, World.ownsRow_nil _ _ _ _, ?_, ?_, Nat.le_refl _, ?_, h.ne, h.l0, h.o0⟩, ?_⟩
  · exact fun e => by have := h.cf; rw [e] at this; have := this.symm.trans h.lg; simp [ccells, gcells] at this
  · exact fun e => by have := h.cf; rw [e] at this; have := this.symm.trans h.co; simp [ccells] at this
  · exact fun e => by have := h.rs; rw [e] at this; have := this.symm.trans h.co; simp [gcells] at this
  · exact LAt.setO (LAt.set (LAt.set hlg 3 v') 2 (.int .u64 (p + 1))) 0 _ nlo
  · exact Boxed.set _ (show Boxed _ _ _ _ from (heap_setCell_other _ ⟨Bl, 2, none⟩ Bo _ nlo.symm).trans ((heap_setCell_other _ ⟨Bl, 3, none⟩ Bo _ nlo.symm).trans hco))
  · refine ⟨by rw [List.length_append, List.length_append, h.tx.len]; rfl, ?_, fun j y u a b => ?_, h.tx.wf.snoc ⟨hp, hcw⟩⟩
    · rw [List.map_append, List.zip_append (by rw [List.length_map, h.tx.len]), List.length_append]
      show World.ownsRow _ _ _ _ _ _ (TC ((s.txs.map (·.p)).zip vs ++ [(p, cv)]))
      rw [TC_snoc]
      exact rowo (by decide) (by decide) hown'
    · by_cases cj : j < s.txs.length
      · rw [List.getElem?_append_left cj] at a
        rw [List.getElem?_append_left (by rw [h.tx.len]; exact cj)] at b
        exact rowo (by decide) (by decide) (x4 j y u a b)
      · have hj : j = s.txs.length := by
          have := (List.getElem?_eq_some_iff.1 a).1
          simp only [List.length_append, List.length_singleton] at this
          omega
        subst hj
        rw [List.getElem?_append_right (Nat.le_refl _), Nat.sub_self] at a
        rw [← h.tx.len, List.getElem?_append_right (Nat.le_refl _), Nat.sub_self] at b
        cases a; cases b
        exact rowo (by decide) (by decide) (own_at ((h.im.alloc _).kept hgrow (own_ne h.im h.tx.row (by decide))) (fun k hk => Nat.le_trans h.x0 (h.im.lt k hk).1) rfl)
  · refine (h.up.snoc (fun g hg => (h.im.lt g hg).1) (fun g hg => (h.im.lt g hg).2) h.x1).mono ?_
    simpa using hsz
  · have := h.low.size; simp; omega
  · refine Below.setCell (p := ⟨Bo, 0, none⟩) (Below.setCell (p := ⟨Bl, 2, none⟩) (Below.setCell (p := ⟨Bl, 3, none⟩) ?_ h.l0 v') h.l0 _) h.o0 _
    exact (below_then h.low (below_alloc V _)).grown hgrow (by have := h.low.size; simp; omega) fun j ej => (h.tx.row.lt j ej).1
  · exact ((keeps_grown h.tx.row hgrow).trans (KeepsOthers.setCell _ _ _)).trans ((KeepsOthers.setCell _ _ _).trans (KeepsOthers.setCell _ _ _))
end Go.Proofs.YtdadpepfpiimgaaDoor
namespace Go.Proofs.YtdadpepfpiimgaaDoor
open Go.RowKit Go.Shelf
section
variable {F : Fence} {n : Nat} {P : Program} {ops : Array Oper} {rest : List Oper} {o : Oper} {a : Act} {w w' : World} {Q : Exit → Act → World → Prop}
theorem in_ops (h : wpListIn F n P ops Q (o :: rest) a w) : wpListIn F n P ops Q (o :: rest) a w := h
theorem in_val (hgd : Region.wanted o (yielded ops a.tmps) = true) (hab : o.about P w a.eval = none) (hop : ∀ c, o.op ≠ .defer c) {v : Value} (hrun : (execOp a.eval o).run P w = .ok (.value v) w') (h : wpListIn F n P ops Q rest (a.put o.dst v) w') : wpListIn F n P ops Q (o :: rest) a w :=
  wpListIn_step fun K hK => by
    rw [if_pos hgd]
    unfold Oper.wpIn
    refine ⟨fun f hf => (by rw [hab] at hf; cases hf), ?_⟩
    rw [Oper.semAt_plain F _ _ hop, hrun]
    exact hK _ _ h
theorem in_skp (hgd : Region.wanted o (yielded ops a.tmps) = true) (hab : o.about P w a.eval = none) (hop : ∀ c, o.op ≠ .defer c) (hrun : (execOp a.eval o).run P w = .ok .skip w') (h : wpListIn F n P ops Q rest (a.put o.dst undef) w') : wpListIn F n P ops Q (o :: rest) a w :=
  wpListIn_step fun K hK => by
    rw [if_pos hgd]
    unfold Oper.wpIn
    refine ⟨fun f hf => (by rw [hab] at hf; cases hf), ?_⟩
    rw [Oper.semAt_plain F _ _ hop, hrun]
    exact hK _ _ h
theorem in_load (hgd : Region.wanted o (yielded ops a.tmps) = true) (ty : TypeId) {x : Operand} (ho : o.op = .load ty x) {p v : Value} (hx : a.eval x = p) (hrun : (Instr.loadAt ty p).run P w = .ok v w) (h : wpListIn F n P ops Q rest (a.put o.dst v) w) : wpListIn F n P ops Q (o :: rest) a w :=
  in_val hgd (by simp [Oper.about, ho]) (by rw [ho]; intro c e; cases e) (by unfold execOp; simp only [ho, hx, Sem.run_bind, hrun, Result.andThen_ok, Sem.run_pure]) h
theorem in_alloc (hgd : Region.wanted o (yielded ops a.tmps) = true) (ty : TypeId) (ho : o.op = .alloc ty) {v : Value} (hrun : (Instr.alloc ty true (.tuple #[])).run P w = .ok v w') (h : wpListIn F n P ops Q rest (a.put o.dst v) w') : wpListIn F n P ops Q (o :: rest) a w :=
  in_val hgd (by simp [Oper.about, ho]) (by rw [ho]; intro c e; cases e) (by unfold execOp; simp only [ho, Sem.run_bind, hrun, Result.andThen_ok, Sem.run_pure]) h
theorem in_store (hgd : Region.wanted o (yielded ops a.tmps) = true) (ty : TypeId) {x y : Operand} (ho : o.op = .store ty x y) {p v : Value} (hx : a.eval x = p) (hy : a.eval y = v) (hrun : (Instr.storeAt ty p v).run P w = .ok () w') (h : wpListIn F n P ops Q rest (a.put o.dst undef) w') : wpListIn F n P ops Q (o :: rest) a w :=
  in_skp hgd (by simp [Oper.about, ho]) (by rw [ho]; intro c e; cases e) (by unfold execOp; simp only [ho, hx, hy, Sem.run_bind, hrun, Result.andThen_ok, Sem.run_pure]) h
theorem in_build (hgd : Region.wanted o (yielded ops a.tmps) = true) (ty : TypeId) {ps : Array (Nat × Operand)} (ho : o.op = .build ty ps) {vs : List (Nat × Value)} {v : Value} (hx : ps.toList.map (fun (i, x) => (i, a.eval x)) = vs) (hrun : (Instr.build ty vs.toArray).run P w = .ok v w) (h : wpListIn F n P ops Q rest (a.put o.dst v) w) : wpListIn F n P ops Q (o :: rest) a w :=
  in_val hgd (by simp [Oper.about, ho]) (by rw [ho]; intro c e; cases e) (by unfold execOp; simp only [ho]; rw [show ps.map (fun (i, x) => (i, a.eval x)) = vs.toArray by rw [← hx, ← Array.toList_map]]; simp only [Sem.run_bind, hrun, Result.andThen_ok, Sem.run_pure]) h
theorem in_slice (hgd : Region.wanted o (yielded ops a.tmps) = true) (ty : TypeId) {x : Operand} (ho : o.op = .buildSlice ty 1 #[(0, x)]) {u v : Value} (hx : a.eval x = u) (hrun : (Instr.buildSlice ty 1 #[(0, u)]).run P w = .ok v w') (h : wpListIn F n P ops Q rest (a.put o.dst v) w') : wpListIn F n P ops Q (o :: rest) a w :=
  in_val hgd (by simp [Oper.about, ho]) (by rw [ho]; intro c e; cases e) (by
    have e : (#[(0, x)] : Array (Nat × Operand)).map (fun (i, y) => (i, a.eval y)) = #[(0, u)] := by simp [hx]
    unfold execOp; simp only [ho]; rw [e]; simp only [Sem.run_bind, hrun, Result.andThen_ok, Sem.run_pure]) h
theorem in_append (hgd : Region.wanted o (yielded ops a.tmps) = true) {s x : Operand} {t ty : TypeId} (ho : o.op = .call { callee := .builtin .append, args := #[s, x], argTypes := #[t, t] }) (hty : o.type = ty) {u1 u2 v : Value} (hs : a.eval s = u1) (hx : a.eval x = u2) (hrun : (Builtin.append_ #[t, t] ty #[u1, u2]).run P w = .ok v w') (h : wpListIn F n P ops Q rest (a.put o.dst v) w') : wpListIn F n P ops Q (o :: rest) a w := by
  refine in_val hgd ?_ (by rw [ho]; intro c e; cases e) (v := v) (w' := w') ?_ h
  · simp [Oper.about, ho, resolve, Target.leads, Sem.run_pure]
  · subst hty; simp [execOp, ho, resolve, invoke, builtin, hs, hx, hrun, Result.andThen]
end
section
variable {F : Fence} {n : Nat} {P : Program} {b : Frame} {a : Act} {k : List Item} {cs : List Frame} {w : World} {Q : Exit → Act → World → Prop}
theorem stepR_scope {c : Code} : step P (lone (b.atR a (.code (.scope c) :: k)) cs w) = .next (lone (b.atR a (.code c :: .inScope c :: k)) cs w) :=
  step_lone_go (by simp [stepG, stepG.exec, Frame.atR])
theorem stepR_inScope {c : Code} : step P (lone (b.atR a (.inScope c :: k)) cs w) = .next (lone (b.atR a k) cs w) :=
  step_lone_go (by simp [stepG, stepG.exec, Frame.atR])
theorem wpIn_scope {c : Code} (h : c.wpIn F n P (Exit.noGoto Q) a w) : (Code.scope c).wpIn F n P Q a w := by
  intro b k cs hro hb hr
  have h0 : (lone (b.atR a (.code (.scope c) :: k)) cs w).fenced P F := fenced_calm hb hr rfl
  obtain ⟨e, a₁, w₁, hq, harr⟩ := h b (.inScope c :: k) cs hro hb hr
  cases e with
  | normal => exact ⟨.normal, a₁, w₁, hq, .head h0 stepR_scope (StepsIn.trans harr (.one (fenced_calm hb hr rfl) stepR_inScope))⟩
  | exit id' =>
    have hx : exitTo id' (.inScope c :: k) = exitTo id' k := by simp [exitTo]
    exact ⟨.exit id', a₁, w₁, hq, fun k' hk => .head h0 stepR_scope (harr.1 k' (by rw [hx]; exact hk)),
      fun hr' hk => let ⟨k₁, h1, h2⟩ := harr.2 hr' (by rw [hx]; exact hk); ⟨k₁, h1, .head h0 stepR_scope h2⟩⟩
  | goto l => exact hq.elim
  | ret => exact ⟨_, a₁, w₁, hq, .of_steps (.one h0 stepR_scope) harr⟩
  | panic ch => exact ⟨_, a₁, w₁, hq, .of_steps (.one h0 stepR_scope) harr⟩
  | outgrown => exact ⟨_, a₁, w₁, hq, .of_steps (.one h0 stepR_scope) harr⟩
end
end Go.Proofs.YtdadpepfpiimgaaDoor
namespace Go.Proofs.YtdadpepfpiimgaaDoor
open Go.RowKit Go.Shelf
attribute [local go_sem] Oper.semAt_some
theorem keeps_of_below {V V' : World} (h : Below V.heap.size V V') (B : Nat) : KeepsFrom B V V' := ⟨h.size, fun k _ _ hk _ => (h.block k (Array.getElem?_eq_some_iff.1 hk).1).trans hk⟩
theorem results_lat {fn : Func} {p u : Tmp} {ty : TypeId} (h : fn.results = #[.cell p ty, .tmp u]) (tmps : Array Value) (w : World) (g : Nat) (t : TypeId) (cs : List Value) (d : TypeDesc)
    (hp : tmps.getD p undef = .pointer (some ⟨g, 0, none⟩)) (hg : LAt t w g cs) (hu : Tryd.prog.underlying ty = some d) (hd : d.isRow = true) (hi : (Tryd.prog.info? ty).map (·.size) = some cs.length) :
    (results fn tmps).run Tryd.prog w = .ok (.tuple #[.agg cs.toArray, tmps.getD u undef]) w := by
  rw [results_cell_tmp h, hp]
  simp only [asAddr, Sem.run_pure, Result.andThen_ok, run_loadVar_mid w g 0 ty _ d (LAt.range hg) hu hd hi]
def scGo (st : Int → R.Rec × Bool) (mr : Int) : List Int → Sc → Option Sc
  | [], s => some s
  | p :: ps, s => if (st p).2 = true then (scStep mr s p (st p).1).bind (scGo st mr ps) else none
theorem scGo_snoc (st : Int → R.Rec × Bool) (mr : Int) : ∀ (ps : List Int) (p : Int) (s : Sc), scGo st mr (ps ++ [p]) s = (scGo st mr ps s).bind fun s' => if (st p).2 = true then scStep mr s' p (st p).1 else none
  | [], p, s => by
    show (if (st p).2 = true then (scStep mr s p (st p).1).bind some else none) = (if (st p).2 = true then scStep mr s p (st p).1 else none)
    by_cases h : (st p).2 = true
    · rw [if_pos h, if_pos h]; cases scStep mr s p (st p).1 <;> rfl
    · rw [if_neg h, if_neg h]
  | q :: ps, p, s => by
    show (if (st q).2 = true then (scStep mr s q (st q).1).bind (scGo st mr (ps ++ [p])) else none) = (if (st q).2 = true then (scStep mr s q (st q).1).bind (scGo st mr ps) else none).bind _
    by_cases h : (st q).2 = true
    · rw [if_pos h, if_pos h]
      cases scStep mr s q (st q).1 with
      | none => rfl
      | some s' => exact scGo_snoc st mr ps p s'
    · rw [if_neg h, if_neg h]; rfl
theorem scGo_run {st : Int → R.Rec × Bool} {mr : Int} {t : Int} {s0 : Sc} : ∀ (j : Nat) (s : Sc) (k : Nat), j ≤ k → scGo st mr (G.upto t j) s0 = some s → scRun st mr k t s0 = scRun st mr (k - j) (t + j) s
  | 0, s, k, _, h => by
    obtain rfl : s0 = s := Option.some.inj h
    rw [Nat.sub_zero, show t + ((0 : Nat) : Int) = t by omega]
  | j + 1, s, k, hk, h => by
    rw [G.upto_succ, scGo_snoc] at h
    cases e : scGo st mr (G.upto t j) s0 with
    | none => rw [e] at h; cases h
    | some s1 =>
      rw [e] at h
      have h' : (if (st (t + j)).2 = true then scStep mr s1 (t + j) (st (t + j)).1 else none) = some s := h
      by_cases c : (st (t + j)).2 = true
      · rw [if_pos c] at h'
        rw [scGo_run j s1 k (by omega) e, show k - j = k - (j + 1) + 1 by omega, scRun_go c h', show t + (j : Int) + 1 = t + ((j + 1 : Nat) : Int) by omega]
      · rw [if_neg c] at h'; cases h'
structure GoOk (mr : Int) (n : Nat) (s : Sc) : Prop where
  tl : s.txs.length ≤ n
  cl : (s.come.length : Int) ≤ mr
  tw : TxsWf s.txs
  cw : ImsWf s.come
theorem GoOk.step {mr : Int} {n : Nat} {s s' : Sc} (h : GoOk mr n s) (hm : 0 ≤ mr) {p : Int} (hp : u64 p) {r : R.Rec} (hw : r.Wf) (e : scStep mr s p r = some s') : GoOk mr (n + 1) s' := by
  by_cases c1 : r.kind = 1 ∧ Folls s.come r.block mr
  · rw [scStep_img c1] at e
    cases e
    refine ⟨Nat.le_succ_of_le h.tl, ?_, h.tw, h.cw.snoc ⟨⟨hw.b0, hw.b1⟩, hw.len, hw.byte⟩⟩
    have := c1.2.1
    simp only [List.length_append, List.length_singleton]; omega
  · by_cases c2 : r.kind = 2 ∧ r.images = s.come.length
    · rw [scStep_com c2] at e
      cases e
      refine ⟨?_, hm, h.tw.snoc ⟨hp, h.cw⟩, ImsWf.nil⟩
      have := h.tl
      simp only [List.length_append, List.length_singleton]; omega
    · rw [scStep_no c1 c2] at e; cases e
structure GoAt (st : Int → R.Rec × Bool) (mr t : Int) (pre : List G.U64) (s : Sc) : Prop where
  go : scGo st mr (G.nums pre) ⟨[], t, []⟩ = some s
  ok : GoOk mr pre.length s
theorem GoAt.start (st : Int → R.Rec × Bool) {mr : Int} (hm : 0 ≤ mr) (t : Int) : GoAt st mr t [] ⟨[], t, []⟩ := ⟨rfl, Nat.le_refl _, hm, TxsWf.nil, ImsWf.nil⟩
theorem GoAt.step {st : Int → R.Rec × Bool} {mr t : Int} {pre : List G.U64} {s s' : Sc} (h : GoAt st mr t pre s) (hm : 0 ≤ mr) {u : G.U64} (hw : (st u.1).1.Wf) (h1 : (st u.1).2 = true) (h2 : scStep mr s u.1 (st u.1).1 = some s') : GoAt st mr t (pre ++ [u]) s' := by
  refine ⟨?_, ?_⟩
  · rw [show G.nums (pre ++ [u]) = G.nums pre ++ [u.1] by simp, scGo_snoc, h.go]
    show (if _ then _ else _) = _
    rw [if_pos h1, h2]
  · rw [List.length_append, List.length_singleton]
    exact h.ok.step hm ⟨u.2.1, by have := u.2.2; omega⟩ hw h2
theorem GoAt.done {st : Int → R.Rec × Bool} {mr t : Int} {pre : List G.U64} {s : Sc} (h : GoAt st mr t pre s) {k : Nat} (hk : k ≤ 64) (hp : G.nums pre = G.spanI t (t + k)) : scRun st mr k t ⟨[], t, []⟩ = s := by
  have hN : G.spanN t (t + k) = k := by unfold G.spanN; omega
  have := h.go
  rw [hp, ← G.upto_span, hN] at this
  rw [scGo_run k s k (Nat.le_refl _) this, Nat.sub_self]; rfl
theorem GoAt.stop {st : Int → R.Rec × Bool} {mr t : Int} {pre : List G.U64} {s : Sc} (h : GoAt st mr t pre s) {k : Nat} (hk : k ≤ 64) {u : G.U64} (hp : G.nums (pre ++ [u]) <+: G.spanI t (t + k)) (hs : (st u.1).2 = false ∨ scStep mr s u.1 (st u.1).1 = none) : scRun st mr k t ⟨[], t, []⟩ = s := by
  have hN : G.spanN t (t + k) = k := by unfold G.spanN; omega
  have hl : pre.length < k := by
    have := hp.length_le
    rw [G.spanI_length, hN] at this
    simp at this
    omega
  have hu : u.1 = t + pre.length := by
    have h1 : (G.nums (pre ++ [u]))[pre.length]? = some u.1 := by simp
    obtain ⟨r, hr⟩ := hp
    have h2 := G.spanI_get t (t + k) pre.length (by omega)
    rw [← hr, List.getElem?_append_left (by simp), h1] at h2
    exact Option.some.inj h2
  have hpre : G.nums pre = G.upto t pre.length := by
    have hp' : G.nums pre <+: G.spanI t (t + k) := List.IsPrefix.trans ⟨[u.1], by simp⟩ hp
    have h3 := List.prefix_iff_eq_take.1 hp'
    have h4 := List.prefix_iff_eq_take.1 (G.upto_prefix t (t + k) pre.length (by omega))
    rw [h3, h4, G.upto_length]
    simp
  have := h.go
  rw [hpre] at this
  rw [scGo_run pre.length s k (by omega) this, ← hu]
  rcases hs with hs | hs
  · exact scRun_off hs
  · exact scRun_stop hs
set_option maxHeartbeats 1000000 in
set_option maxRecDepth 100000 in
theorem read_nil10 (c : Sup) (w : World) : Calls Tryd.prog 39 #[.pointer none, .agg (ccells c).toArray] w fun e w' => e = .returned (.tuple #[.agg (gcells 0 0 0 (.slice none 0 0)).toArray, .int .i64 1]) ∧ Below w.heap.size w w' := by
  obtain ⟨wa, hwa⟩ : ∃ y, y = w.alloc (.cells #[.pointer none] 23) := ⟨_, rfl⟩
  obtain ⟨wb, hwb⟩ : ∃ y, y = wa.alloc (.cells (ccells c).toArray 28) := ⟨_, rfl⟩
  obtain ⟨wc, hwc⟩ : ∃ y, y = wb.alloc (.cells (gcells 0 0 0 (.slice none 0 0)).toArray 89) := ⟨_, rfl⟩
  have ewa := hwa.symm
  have ewb := hwb.symm
  have sa : wa.heap.size = w.heap.size + 1 := by rw [hwa]; simp
  have sb : wb.heap.size = w.heap.size + 1 + 1 := by rw [hwb, ← sa]; simp
  have A1 : Hid (_) := allocLg wb
  rw [← hwc, sb] at A1
  have Ba : Below w.heap.size w wa := by rw [hwa]; exact below_alloc w _
  have Bb : Below w.heap.size w wb := by rw [hwb]; exact below_then Ba (below_alloc wa _)
  have B0 : Hid (Below w.heap.size w wc) := by rw [hwc]; exact below_then Bb (below_alloc wb _)
  have bbc : Below wb.heap.size wb wc := by rw [hwc]; exact below_alloc wb _
  have bab : Below wa.heap.size wa wb := by rw [hwb]; exact below_alloc wa _
  have K0 : Hid (Boxed wc w.heap.size 23 (.pointer none)) := by
    refine (bbc.block _ (by omega)).trans ((bab.block _ (by omega)).trans ?_)
    rw [hwa]; exact heap_alloc_new w _
  have C0 : Hid (CAt wc (w.heap.size + 1) c) := by
    refine LAt.later ?_ bbc
    rw [hwb, ← sa]; exact LAt.new 28 wa _
  have V0 : Hid (LAt 89 wc (w.heap.size + 1 + 1) (gcells 0 0 0 (.slice none 0 0))) := by rw [hwc, ← sb]; exact LAt.new 89 wb _
  have L0 : Hid (_) := CAt.load23 C0.out
  have z0 := K0.out.cell
  clear hwa hwb hwc Ba Bb bab bbc
  have hmo : Tryd.prog.follows Departure.mixedOrders = true := by kernel_rfl
  refine (callsIn_wide (n := 9)).1 ?_
  refine callsIn_of_wp Tryd.func39 rfl trivial ?_ rfl
  simp only [Tryd.ntmps39, List.size_toArray, List.length_cons, List.length_nil, Nat.reduceAdd, Nat.reduceSub, Array.replicate_succ, Array.replicate_zero, List.push_toArray, List.append_toArray, List.nil_append, List.cons_append]
  gi_wp2_with ((with_reducible refine in_ops ?_); (first | (refine in_alloc (by rfl) 89 rfl A1.out ?_) | (refine in_load (by rfl) 28 rfl rfl L0.out ?_)); simp only [Act.put, List.setIfInBounds_toArray, List.set_cons_zero, List.set_cons_succ])
  refine wpIn_scope ?_
  gi_wp2_with ((with_reducible refine in_ops ?_); (first | (refine in_alloc (by rfl) 89 rfl A1.out ?_) | (refine in_load (by rfl) 28 rfl rfl L0.out ?_)); simp only [Act.put, List.setIfInBounds_toArray, List.set_cons_zero, List.set_cons_succ])
  clear ewa ewb A1
  refine ⟨trivial, (callsIn_wide.2 (superOf_nil c wc)).mono ?_⟩
  rintro e w1 ⟨rfl, b1⟩
  obtain ⟨r, hr⟩ : ∃ r, r = sup0 := ⟨_, rfl⟩
  rw [← hr]
  clear hr
  have B1 : Hid (Below w.heap.size w w1) := below_then B0.out b1
  have V1 : Hid (LAt 89 w1 (w.heap.size + 1 + 1) (gcells 0 0 0 (.slice none 0 0))) := LAt.later V0.out b1
  obtain ⟨w2, hw2⟩ : ∃ y, y = w1.alloc (.cells (scells r).toArray 53) := ⟨_, rfl⟩
  have A2 : Hid (_) := alloc29 w1
  have T2 : Hid (_) := store_new29 w1 r
  rw [← hw2] at T2
  have b2 : Below w1.heap.size w1 w2 := by rw [hw2]; exact below_alloc w1 _
  have B2 : Hid (Below w.heap.size w w2) := below_then B1.out b2
  have V2 : Hid (LAt 89 w2 (w.heap.size + 1 + 1) (gcells 0 0 0 (.slice none 0 0))) := LAt.later V1.out b2
  have U3 : Hid (_) := buildL0 w2
  have T3 : Hid (_) := LAt.store (ds := gcells 0 0 0 (.slice none 0 0)) V2.out sizeLg rfl (all_oneCell_toArray (gcells_ones rfl 0 0 0))
  have F3 : Hid (LAt 89 (w2.setRow (w.heap.size + 1 + 1) (gcells 0 0 0 (.slice none 0 0)).toArray) (w.heap.size + 1 + 1) (gcells 0 0 0 (.slice none 0 0))) := LAt.stored V2.out _
  have G3 : Hid (Below w.heap.size w (w2.setRow (w.heap.size + 1 + 1) (gcells 0 0 0 (.slice none 0 0)).toArray)) := below_setRow B2.out (by omega) _
  clear b1 hw2 b2 B0 C0 V0 K0 L0 B1 V1 z0
  gi_wp2_with ((with_reducible refine in_ops ?_); (first | (refine in_alloc (by rfl) 53 rfl A2.out ?_) | (refine in_store (by rfl) 53 rfl rfl rfl T2.out ?_) | (refine in_build (vs := []) (by rfl) 89 rfl (by rfl) U3.out ?_) | (refine in_store (by rfl) 89 rfl rfl rfl T3.out ?_)); simp only [Act.put, List.setIfInBounds_toArray, List.set_cons_zero, List.set_cons_succ])
  rw [Exit.noGoto_ret]
  exact bodyPost_ret (results_lat Tryd.results39 _ _ (w.heap.size + 1 + 1) 89 _ _ (by rfl) F3.out Tryd.underlying89 rfl sizeLg) rfl ⟨rfl, G3.out⟩
set_option maxHeartbeats 1000000 in
set_option maxRecDepth 100000 in
theorem read_err10 {w : World} {S : Nat → Prop} {p n : Nat} {d : List Int} {ws : List Wr} (h : Dsk w S p n d ws) (ht : Tab w) (c : Sup) (hz : ¬ (supOf c n (newest ws d)).2 = 0) : Calls Tryd.prog 39 #[.pointer (some ⟨p, 0, none⟩), .agg (ccells c).toArray] w fun e w' => e = .returned (.tuple #[.agg (gcells 0 0 0 (.slice none 0 0)).toArray, .int .i64 (supOf c n (newest ws d)).2]) ∧ Below w.heap.size w w' := by
  obtain ⟨wa, hwa⟩ : ∃ y, y = w.alloc (.cells #[.pointer (some ⟨p, 0, none⟩)] 23) := ⟨_, rfl⟩
  obtain ⟨wb, hwb⟩ : ∃ y, y = wa.alloc (.cells (ccells c).toArray 28) := ⟨_, rfl⟩
  obtain ⟨wc, hwc⟩ : ∃ y, y = wb.alloc (.cells (gcells 0 0 0 (.slice none 0 0)).toArray 89) := ⟨_, rfl⟩
  have ewa := hwa.symm
  have ewb := hwb.symm
  have sa : wa.heap.size = w.heap.size + 1 := by rw [hwa]; simp
  have sb : wb.heap.size = w.heap.size + 1 + 1 := by rw [hwb, ← sa]; simp
  have A1 : Hid (_) := allocLg wb
  rw [← hwc, sb] at A1
  have Ba : Below w.heap.size w wa := by rw [hwa]; exact below_alloc w _
  have Bb : Below w.heap.size w wb := by rw [hwb]; exact below_then Ba (below_alloc wa _)
  have B0 : Hid (Below w.heap.size w wc) := by rw [hwc]; exact below_then Bb (below_alloc wb _)
  have bbc : Below wb.heap.size wb wc := by rw [hwc]; exact below_alloc wb _
  have bab : Below wa.heap.size wa wb := by rw [hwb]; exact below_alloc wa _
  have K0 : Hid (Boxed wc w.heap.size 23 (.pointer (some ⟨p, 0, none⟩))) := by
    refine (bbc.block _ (by omega)).trans ((bab.block _ (by omega)).trans ?_)
    rw [hwa]; exact heap_alloc_new w _
  have C0 : Hid (CAt wc (w.heap.size + 1) c) := by
    refine LAt.later ?_ bbc
    rw [hwb, ← sa]; exact LAt.new 28 wa _
  have V0 : Hid (LAt 89 wc (w.heap.size + 1 + 1) (gcells 0 0 0 (.slice none 0 0))) := by rw [hwc, ← sb]; exact LAt.new 89 wb _
  have L0 : Hid (_) := CAt.load23 C0.out
  have z0 := K0.out.cell
  clear hwa hwb hwc Ba Bb bab bbc
  have hmo : Tryd.prog.follows Departure.mixedOrders = true := by kernel_rfl
  refine (callsIn_wide (n := 9)).1 ?_
  refine callsIn_of_wp Tryd.func39 rfl trivial ?_ rfl
  simp only [Tryd.ntmps39, List.size_toArray, List.length_cons, List.length_nil, Nat.reduceAdd, Nat.reduceSub, Array.replicate_succ, Array.replicate_zero, List.push_toArray, List.append_toArray, List.nil_append, List.cons_append]
  gi_wp2_with ((with_reducible refine in_ops ?_); (first | (refine in_alloc (by rfl) 89 rfl A1.out ?_) | (refine in_load (by rfl) 28 rfl rfl L0.out ?_)); simp only [Act.put, List.setIfInBounds_toArray, List.set_cons_zero, List.set_cons_succ])
  refine wpIn_scope ?_
  gi_wp2_with ((with_reducible refine in_ops ?_); (first | (refine in_alloc (by rfl) 89 rfl A1.out ?_) | (refine in_load (by rfl) 28 rfl rfl L0.out ?_)); simp only [Act.put, List.setIfInBounds_toArray, List.set_cons_zero, List.set_cons_succ])
  clear ewa ewb A1
  refine ⟨trivial, (callsIn_wide.2 (superOf_any (h.later B0.out) (ht.later B0.out) c)).mono ?_⟩
  rintro e w1 ⟨rfl, b1⟩
  obtain ⟨r, hr⟩ : ∃ r, r = (supOf c n (newest ws d)).1 := ⟨_, rfl⟩
  obtain ⟨k, hk⟩ : ∃ k, k = (supOf c n (newest ws d)).2 := ⟨_, rfl⟩
  rw [← hr, ← hk]
  rw [← hk] at hz
  have HK : Hid (k = (supOf c n (newest ws d)).2) := hk
  have hq : (k != 0) = true := by simp [hz]
  clear hr hk h ht
  have B1 : Hid (Below w.heap.size w w1) := below_then B0.out b1
  have V1 : Hid (LAt 89 w1 (w.heap.size + 1 + 1) (gcells 0 0 0 (.slice none 0 0))) := LAt.later V0.out b1
  obtain ⟨w2, hw2⟩ : ∃ y, y = w1.alloc (.cells (scells r).toArray 53) := ⟨_, rfl⟩
  have A2 : Hid (_) := alloc29 w1
  have T2 : Hid (_) := store_new29 w1 r
  rw [← hw2] at T2
  have b2 : Below w1.heap.size w1 w2 := by rw [hw2]; exact below_alloc w1 _
  have B2 : Hid (Below w.heap.size w w2) := below_then B1.out b2
  have V2 : Hid (LAt 89 w2 (w.heap.size + 1 + 1) (gcells 0 0 0 (.slice none 0 0))) := LAt.later V1.out b2
  have U3 : Hid (_) := buildL0 w2
  have T3 : Hid (_) := LAt.store (ds := gcells 0 0 0 (.slice none 0 0)) V2.out sizeLg rfl (all_oneCell_toArray (gcells_ones rfl 0 0 0))
  have F3 : Hid (LAt 89 (w2.setRow (w.heap.size + 1 + 1) (gcells 0 0 0 (.slice none 0 0)).toArray) (w.heap.size + 1 + 1) (gcells 0 0 0 (.slice none 0 0))) := LAt.stored V2.out _
  have G3 : Hid (Below w.heap.size w (w2.setRow (w.heap.size + 1 + 1) (gcells 0 0 0 (.slice none 0 0)).toArray)) := below_setRow B2.out (by omega) _
  clear b1 hw2 b2 B0 C0 V0 K0 L0 B1 V1 z0
  gi_wp2_with ((with_reducible refine in_ops ?_); (first | (refine in_alloc (by rfl) 53 rfl A2.out ?_) | (refine in_store (by rfl) 53 rfl rfl rfl T2.out ?_) | (refine in_build (vs := []) (by rfl) 89 rfl (by rfl) U3.out ?_) | (refine in_store (by rfl) 89 rfl rfl rfl T3.out ?_)); simp only [Act.put, List.setIfInBounds_toArray, List.set_cons_zero, List.set_cons_succ])
  rw [Exit.noGoto_ret]
  exact bodyPost_ret (results_lat Tryd.results39 _ _ (w.heap.size + 1 + 1) 89 _ _ (by rfl) F3.out Tryd.underlying89 rfl sizeLg) rfl ⟨by rw [← HK.out]; rfl, G3.out⟩
end Go.Proofs.YtdadpepfpiimgaaDoor
