/-
  Layer 10, the functions: superOf.
-/
import Derived.Test.YtefnkjajjidfaaaGreatDoorEb
import Derived.Test.YtefnkjajjidfaaaGreatDoorLd
namespace Go.Proofs.YtefnkjajjidfaaaGreatDoor
open Go.RowKit


theorem eqg23 : Tryz.prog.eqGuardType Tryz.prog.depth 23 = false := by kernel_rfl
theorem neq23 (w : World) (r s : Sup) : (binOp .neq 23 (.agg (ccells r).toArray) (.agg (ccells s).toArray)).run Tryz.prog w = .ok (.bool (!cfgB r s)) w := by
  rw [run_neq_struct, equal23 w 9998 r s]
  rfl
theorem cfgB_iff (r s : Sup) : cfgB r s = true ↔ SameC r s := by simp [cfgB, SameC]
set_option maxHeartbeats 1000000 in
set_option maxRecDepth 100000 in
theorem superOf_nil (c : Sup) (w : World) : Calls Tryz.prog 26 #[.pointer none, .agg (ccells c).toArray] w fun e w' => e = .returned (.tuple #[.agg (scells sup0).toArray, .int .i64 1]) ∧ Below w.heap.size w w' := by
  obtain ⟨wa, hwa⟩ : ∃ y, y = w.alloc (.cells (ccells c).toArray 23) := ⟨_, rfl⟩
  obtain ⟨w0, hw0⟩ : ∃ y, y = wa.alloc (.cells (scells sup0).toArray 81) := ⟨_, rfl⟩
  have ewa := hwa.symm
  have sa : wa.heap.size = w.heap.size + 1 := by rw [hwa]; simp
  have A1 : Hid (_) := alloc29 wa
  rw [← hw0, sa] at A1
  have Ba : Below w.heap.size w wa := by rw [hwa]; exact below_alloc w _
  have B0 : Hid (Below w.heap.size w w0) := by rw [hw0]; exact below_then Ba (below_alloc wa _)
  have C0 : Hid (CAt w0 w.heap.size c) := by
    rw [hw0]
    refine LAt.later ?_ (below_alloc wa _)
    rw [hwa]; exact LAt.new 23 w _
  have V0 : Hid (SAt 81 w0 (w.heap.size + 1) sup0) := by rw [hw0, ← sa]; exact LAt.new 81 wa _
  clear hwa hw0 Ba
  have U0 : Hid (_) := build29 w0 #[] sup0 fill_none
  have T0 : Hid (_) := LAt.store (ds := scells sup0) V0.out size29 rfl (scells_all sup0)
  have F0 : Hid (SAt 81 (w0.setRow (w.heap.size + 1) (scells sup0).toArray) (w.heap.size + 1) sup0) := LAt.stored V0.out _
  have G0 : Hid (Below w.heap.size w (w0.setRow (w.heap.size + 1) (scells sup0).toArray)) := below_setRow B0.out (Nat.le_succ _) _
  go_enter Tryz.func26, Tryz.ntmps26
  go_wp2_with ((with_reducible refine at_ops ?_); (first | (refine wpList_alloc_is (by rfl) 81 rfl A1.out ?_) | (refine wpList_build_is (vs := []) (by rfl) 81 rfl (by rfl) U0.out ?_) | (refine wpList_store_is (by rfl) 81 rfl rfl rfl T0.out ?_)); simp only [Act.put, List.setIfInBounds_toArray, List.set_cons_zero, List.set_cons_succ])
  exact bodyPost_ret (results_sup Tryz.results26 _ _ (w.heap.size + 1) 81 sup0 _ (by rfl) F0.out Tryz.underlying81 rfl size29) rfl ⟨rfl, G0.out⟩
set_option maxHeartbeats 2000000 in
set_option maxRecDepth 100000 in
theorem superOf_any {w : World} {S : Nat → Prop} {p n : Nat} {d : List Int} {ws : List Wr} (h : Dsk w S p n d ws) (ht : Tab w) (c : Sup) :
    Calls Tryz.prog 26 #[.pointer (some ⟨p, 0, none⟩), .agg (ccells c).toArray] w fun e w' => e = .returned (.tuple #[.agg (scells (supOf c n (newest ws d)).1).toArray, .int .i64 (supOf c n (newest ws d)).2]) ∧ Below w.heap.size w w' := by
  obtain ⟨wa, hwa⟩ : ∃ y, y = w.alloc (.cells (ccells c).toArray 23) := ⟨_, rfl⟩
  obtain ⟨w0, hw0⟩ : ∃ y, y = wa.alloc (.cells (scells sup0).toArray 81) := ⟨_, rfl⟩
  have ewa := hwa.symm
  have sa : wa.heap.size = w.heap.size + 1 := by rw [hwa]; simp
  have A1 : Hid (_) := alloc29 wa
  rw [← hw0, sa] at A1
  have Ba : Below w.heap.size w wa := by rw [hwa]; exact below_alloc w _
  have B0 : Hid (Below w.heap.size w w0) := by rw [hw0]; exact below_then Ba (below_alloc wa _)
  have C0 : Hid (CAt w0 w.heap.size c) := by
    rw [hw0]
    refine LAt.later ?_ (below_alloc wa _)
    rw [hwa]; exact LAt.new 23 w _
  have V0 : Hid (SAt 81 w0 (w.heap.size + 1) sup0) := by rw [hw0, ← sa]; exact LAt.new 81 wa _
  clear hwa hw0 Ba
  have HD : Hid (Dsk w S p n d ws) := h
  have HT : Hid (Tab w) := ht
  have L0 : Hid (_) := CAt.load23 C0.out
  clear h ht
  go_enter Tryz.func26, Tryz.ntmps26
  go_wp2_with ((with_reducible refine at_ops ?_); (first | (refine wpList_alloc_is (by rfl) 81 rfl A1.out ?_) | (refine wpList_load_is (by rfl) 23 rfl rfl L0.out ?_)); simp only [Act.put, List.setIfInBounds_toArray, List.set_cons_zero, List.set_cons_succ])
  clear ewa A1
  refine (config_any c _).mono ?_
  rintro e w1 ⟨rfl, b1⟩
  have B1 : Hid (Below w.heap.size w w1) := below_then B0.out b1
  have C1 : Hid (CAt w1 w.heap.size c) := LAt.later C0.out b1
  have V1 : Hid (SAt 81 w1 (w.heap.size + 1) sup0) := LAt.later V0.out b1
  clear b1 B0 C0 V0 L0
  by_cases hc : MayC c
  · rw [cfg_yes c hc]
    have HC : Hid (MayC c) := hc
    obtain ⟨⟨a1, a2⟩, ⟨a3, a4⟩, -⟩ := hc
    obtain ⟨bl, hbl⟩ : ∃ x, x = c.bl := ⟨_, rfl⟩
    obtain ⟨lc, hlc⟩ : ∃ x, x = c.lc := ⟨_, rfl⟩
    have k1 : IntKind.i64.wrap (1 + bl) = 1 + bl := by rw [IntKind.wrap_i64]; omega
    have k2 : IntKind.i64.wrap (1 + bl + lc) = 1 + bl + lc := by rw [IntKind.wrap_i64]; omega
    have HE : Hid ((¬ (n : Int) = 1 + bl + lc → supOf c n (newest ws d) = (sup0, 40)) ∧ ((n : Int) = 1 + bl + lc → ∀ z, decS (newest ws d 0) = z → (¬ z.2 = 0 → supOf c n (newest ws d) = (sup0, z.2)) ∧ (z.2 = 0 → cfgB z.1 c = false → supOf c n (newest ws d) = (sup0, 3)) ∧ (z.2 = 0 → cfgB z.1 c = true → supOf c n (newest ws d) = (z.1, 0)))) := by
      rw [hbl, hlc]
      refine ⟨fun h => supOf_len _ HC.out h, fun h z hz => ?_⟩
      subst hz
      exact ⟨fun k => supOf_bad HC.out h k, fun k k2 => supOf_other HC.out h k fun e => (by rw [(cfgB_iff _ _).2 e] at k2; cases k2), fun k k2 => supOf_ok HC.out h k ((cfgB_iff _ _).1 k2)⟩
    have HC0 : Hid (∀ w', CAt w' w.heap.size c → w'.cell? ⟨w.heap.size, 0, none⟩ = some (.int .i64 bl) ∧ w'.cell? ⟨w.heap.size, 1, none⟩ = some (.int .i64 lc)) := by rw [hbl, hlc]; exact fun w' h => ⟨CAt.c0 h, CAt.c1 h⟩
    have hn4 : 1 + bl + lc ≤ 129 := by omega
    have hn0 : 0 < 1 + bl + lc := by omega
    clear hbl hlc a1 a2 a3 a4
    go_wp2_with fail
    refine wp_region_noPanic ?_
    refine wp_region_held_drew (S := fun w' => Below w1.heap.size w1 w') (by kernel_rfl) (below_drawn 1) (fun hHeld => ?_)
    have D1 : Hid (Below w1.heap.size w1 w1.drew) := hHeld
    generalize w1.drew = wd at *
    refine wpAnyH_take (i := 0) (v := ?va1) (by simp; rfl) (by kernel_rfl) (by kernel_rfl) (by kernel_rfl) (fun _ _ _ h => h) (Or.inl ⟨by rfl, ?ya1⟩) hHeld ?ra1
    case ya1 => intro w hSw; clear hSw; go_simp; with_reducible rfl
    simp only [Act.put, List.setIfInBounds_toArray, List.set_cons_zero, List.set_cons_succ]
    refine wpAnyH_take (i := 2) (v := ?va2) (by simp; rfl) (by kernel_rfl) (by kernel_rfl) (by kernel_rfl) (fun _ _ _ h => h) (Or.inl ⟨by rfl, ?ya2⟩) hHeld ?ra2
    case ya2 => intro w hSw; clear hSw; go_simp; with_reducible rfl
    simp only [Act.put, List.setIfInBounds_toArray, List.set_cons_zero, List.set_cons_succ]
    refine wpAnyH_take (i := 3) (v := ?va3) (by simp; rfl) (by kernel_rfl) (by kernel_rfl) (by kernel_rfl) (fun _ _ _ h => h) (Or.inl ⟨by rfl, ?ya3⟩) hHeld ?ra3
    case ya3 => intro w hSw; have z := (HC0.out _ (LAt.later C1.out hSw)).1; clear hSw; go_simp; with_reducible rfl
    simp only [Act.put, List.setIfInBounds_toArray, List.set_cons_zero, List.set_cons_succ]
    refine wpAnyH_take (i := 4) (v := ?va4) (by simp; rfl) (by kernel_rfl) (by kernel_rfl) (by kernel_rfl) (fun _ _ _ h => h) (Or.inl ⟨by rfl, ?ya4⟩) hHeld ?ra4
    case ya4 => intro w hSw; clear hSw; go_simp; with_reducible rfl
    simp only [Act.put, List.setIfInBounds_toArray, List.set_cons_zero, List.set_cons_succ]
    refine wpAnyH_take (i := 5) (v := ?va5) (by simp; rfl) (by kernel_rfl) (by kernel_rfl) (by kernel_rfl) (fun _ _ _ h => h) (Or.inl ⟨by rfl, ?ya5⟩) hHeld ?ra5
    case ya5 => intro w hSw; clear hSw; go_simp; with_reducible rfl
    simp only [Act.put, List.setIfInBounds_toArray, List.set_cons_zero, List.set_cons_succ]
    refine wpAnyH_take (i := 6) (v := ?va6) (by simp; rfl) (by kernel_rfl) (by kernel_rfl) (by kernel_rfl) (fun _ _ _ h => h) (Or.inl ⟨by rfl, ?ya6⟩) hHeld ?ra6
    case ya6 => intro w hSw; have z := (HC0.out _ (LAt.later C1.out hSw)).2; clear hSw; go_simp; with_reducible rfl
    simp only [Act.put, List.setIfInBounds_toArray, List.set_cons_zero, List.set_cons_succ]
    refine wpAnyH_take (i := 7) (v := ?va7) (by simp; rfl) (by kernel_rfl) (by kernel_rfl) (by kernel_rfl) (fun _ _ _ h => h) (Or.inl ⟨by rfl, ?ya7⟩) hHeld ?ra7
    case ya7 => intro w hSw; clear hSw; go_simp; with_reducible rfl
    simp only [Act.put, List.setIfInBounds_toArray, List.set_cons_zero, List.set_cons_succ]
    refine wpAnyH_ready (rs := [1]) (by kernel_rfl) (by simp) ?_
    refine AllReadyH.cons (by simp; rfl) (fun Kc hKc => ?_) AllReadyH.nil
    go_simp
    refine (len_any (HD.out.later (below_then B1.out D1.out))).mono ?_
    rintro e wn ⟨rfl, rfl⟩
    refine hKc.out _ _ D1.out (fun hHeld => ?_)
    clear hKc Kc
    refine wpAnyH_take (i := 8) (v := ?va8) (by simp; rfl) (by kernel_rfl) (by kernel_rfl) (by kernel_rfl) (fun _ _ _ h => h) (Or.inl ⟨by rfl, ?ya8⟩) hHeld ?ra8
    case ya8 => intro w hSw; clear hSw; go_simp; with_reducible rfl
    simp only [Act.put, List.setIfInBounds_toArray, List.set_cons_zero, List.set_cons_succ]
    have B2 : Hid (Below w.heap.size w wd) := below_then B1.out D1.out
    have C2 : Hid (CAt wd w.heap.size c) := LAt.later C1.out D1.out
    have V2 : Hid (SAt 81 wd (w.heap.size + 1) sup0) := LAt.later V1.out D1.out
    clear hHeld D1 HC0 B1 C1 V1
    refine wpAnyH_done (by kernel_rfl) (NoPanic.normal ?_) _
    obtain ⟨w2, hw2⟩ : ∃ y, y = wd := ⟨_, rfl⟩
    rw [← hw2] at B2 C2 V2 ⊢
    clear hw2
    by_cases he : (n : Int) = 1 + bl + lc
    · have hq : ((n : Int) != 1 + bl + lc) = false := by rw [he]; simp
      have HZ0 : Hid (_) := HE.out.2 he
      have hn : 0 < n := by omega
      clear he HE
      go_wp2_with fail
      refine (rd_at (HD.out.later B2.out) 0 (Int.le_refl 0) (by omega)).mono ?_
      rintro e w3 ⟨q2, c2, rfl, x2, hc2, b2⟩
      have X3 : Hid (BIn w3 q2 64 (newest ws d 0)) := x2
      have B3 : Hid (Below w.heap.size w w3) := below_then B2.out b2
      have C3 : Hid (CAt w3 w.heap.size c) := LAt.later C2.out b2
      have V3 : Hid (SAt 81 w3 (w.heap.size + 1) sup0) := LAt.later V2.out b2
      clear x2 b2 B2 C2 V2
      go_wp2_with fail
      refine (decode_any q2 64 c2 _ w3 X3.out hc2 (HT.out.later B3.out)).mono ?_
      rintro e w4 ⟨rfl, b4⟩
      have B4 : Hid (Below w.heap.size w w4) := below_then B3.out b4
      have C4 : Hid (CAt w4 w.heap.size c) := LAt.later C3.out b4
      have V4 : Hid (SAt 81 w4 (w.heap.size + 1) sup0) := LAt.later V3.out b4
      clear b4 X3 B3 C3 V3
      obtain ⟨⟨r, k⟩, hz⟩ : ∃ z, decS (newest ws d 0) = z := ⟨_, rfl⟩
      have HZ : Hid (_) := HZ0.out _ hz
      rw [hz]
      clear hz HZ0
      obtain ⟨w5, hw5⟩ : ∃ y, y = w4.alloc (.cells (scells r).toArray 81) := ⟨_, rfl⟩
      have A5 : Hid (_) := alloc29 w4
      have T45 : Hid (_) := store_new29 w4 r
      rw [← hw5] at T45
      have b5 : Below w4.heap.size w4 w5 := by rw [hw5]; exact below_alloc w4 _
      have B5 : Hid (Below w.heap.size w w5) := below_then B4.out b5
      have C5 : Hid (CAt w5 w.heap.size c) := LAt.later C4.out b5
      have V5 : Hid (SAt 81 w5 (w.heap.size + 1) sup0) := LAt.later V4.out b5
      have R5 : Hid (SAt 81 w5 w4.heap.size r) := by rw [hw5]; exact LAt.new 81 w4 _
      clear hw5 b5 B4 C4 V4
      have U5 : Hid (_) := build29 w5 #[] sup0 fill_none
      have T5 : Hid (_) := LAt.store (ds := scells sup0) V5.out size29 rfl (scells_all sup0)
      have F5 : Hid (SAt 81 (w5.setRow (w.heap.size + 1) (scells sup0).toArray) (w.heap.size + 1) sup0) := LAt.stored V5.out _
      have G5 : Hid (Below w.heap.size w (w5.setRow (w.heap.size + 1) (scells sup0).toArray)) := below_setRow B5.out (Nat.le_succ _) _
      by_cases hk : k = 0
      · subst hk
        have L5 : Hid (_) := SAt.load23 R5.out
        have M5 : Hid (_) := CAt.load23 C5.out
        have N5 : Hid (_) := neq23 w5 r c
        cases hb : cfgB r c with
        | true =>
          have HR : Hid (_) := HZ.out.2.2 rfl hb
          have Q5 : Hid (_) := SAt.load29 R5.out
          have T6 : Hid (_) := LAt.store (ds := scells r) V5.out size29 rfl (scells_all r)
          have F6 : Hid (SAt 81 (w5.setRow (w.heap.size + 1) (scells r).toArray) (w.heap.size + 1) r) := LAt.stored V5.out _
          have G6 : Hid (Below w.heap.size w (w5.setRow (w.heap.size + 1) (scells r).toArray)) := below_setRow B5.out (Nat.le_succ _) _
          rw [hb] at N5
          clear HZ T5 F5 G5 U5 hb
          go_wp2_with ((with_reducible refine at_ops ?_); (first | (refine wpList_alloc_is (by rfl) 81 rfl A5.out ?_) | (refine wpList_store_is (by rfl) 81 rfl rfl rfl T45.out ?_) | (refine wpList_load_is (by rfl) 23 rfl rfl L5.out ?_) | (refine wpList_load_is (by rfl) 23 rfl rfl M5.out ?_) | (refine wpList_neq_is (by rfl) 23 rfl rfl rfl eqg23 N5.out ?_) | (refine wpList_load_is (by rfl) 81 rfl rfl Q5.out ?_) | (refine wpList_store_is (by rfl) 81 rfl rfl rfl T6.out ?_)); simp only [Act.put, List.setIfInBounds_toArray, List.set_cons_zero, List.set_cons_succ])
          rw [HR.out]
          exact bodyPost_ret (results_sup Tryz.results26 _ _ (w.heap.size + 1) 81 r _ (by rfl) F6.out Tryz.underlying81 rfl size29) rfl ⟨rfl, G6.out⟩
        | false =>
          have HR : Hid (_) := HZ.out.2.1 rfl hb
          rw [hb] at N5
          clear HZ hb
          go_wp2_with ((with_reducible refine at_ops ?_); (first | (refine wpList_alloc_is (by rfl) 81 rfl A5.out ?_) | (refine wpList_store_is (by rfl) 81 rfl rfl rfl T45.out ?_) | (refine wpList_load_is (by rfl) 23 rfl rfl L5.out ?_) | (refine wpList_load_is (by rfl) 23 rfl rfl M5.out ?_) | (refine wpList_neq_is (by rfl) 23 rfl rfl rfl eqg23 N5.out ?_) | (refine wpList_build_is (vs := []) (by rfl) 81 rfl (by rfl) U5.out ?_) | (refine wpList_store_is (by rfl) 81 rfl rfl rfl T5.out ?_)); simp only [Act.put, List.setIfInBounds_toArray, List.set_cons_zero, List.set_cons_succ])
          rw [HR.out]
          exact bodyPost_ret (results_sup Tryz.results26 _ _ (w.heap.size + 1) 81 sup0 _ (by rfl) F5.out Tryz.underlying81 rfl size29) rfl ⟨rfl, G5.out⟩
      · have HR : Hid (_) := HZ.out.1 hk
        have hq : (k != 0) = true := by simp [hk]
        clear HZ
        go_wp2_with ((with_reducible refine at_ops ?_); (first | (refine wpList_alloc_is (by rfl) 81 rfl A5.out ?_) | (refine wpList_store_is (by rfl) 81 rfl rfl rfl T45.out ?_) | (refine wpList_build_is (vs := []) (by rfl) 81 rfl (by rfl) U5.out ?_) | (refine wpList_store_is (by rfl) 81 rfl rfl rfl T5.out ?_)); simp only [Act.put, List.setIfInBounds_toArray, List.set_cons_zero, List.set_cons_succ])
        rw [HR.out]
        exact bodyPost_ret (results_sup Tryz.results26 _ _ (w.heap.size + 1) 81 sup0 _ (by rfl) F5.out Tryz.underlying81 rfl size29) rfl ⟨rfl, G5.out⟩
    · have hq : ((n : Int) != 1 + bl + lc) = true := by simp [he]
      have HR : Hid (_) := HE.out.1 he
      clear he HE
      have U2 : Hid (_) := build29 w2 #[] sup0 fill_none
      have T2 : Hid (_) := LAt.store (ds := scells sup0) V2.out size29 rfl (scells_all sup0)
      have F2 : Hid (SAt 81 (w2.setRow (w.heap.size + 1) (scells sup0).toArray) (w.heap.size + 1) sup0) := LAt.stored V2.out _
      have G2 : Hid (Below w.heap.size w (w2.setRow (w.heap.size + 1) (scells sup0).toArray)) := below_setRow B2.out (Nat.le_succ _) _
      go_wp2_with ((with_reducible refine at_ops ?_); (first | (refine wpList_build_is (vs := []) (by rfl) 81 rfl (by rfl) U2.out ?_) | (refine wpList_store_is (by rfl) 81 rfl rfl rfl T2.out ?_)); simp only [Act.put, List.setIfInBounds_toArray, List.set_cons_zero, List.set_cons_succ])
      rw [HR.out]
      exact bodyPost_ret (results_sup Tryz.results26 _ _ (w.heap.size + 1) 81 sup0 _ (by rfl) F2.out Tryz.underlying81 rfl size29) rfl ⟨rfl, G2.out⟩
  · rw [cfg_no c hc]
    have HR : Hid (_) := supOf_no n (newest ws d) hc
    clear hc
    have U1 : Hid (_) := build29 w1 #[] sup0 fill_none
    have T1 : Hid (_) := LAt.store (ds := scells sup0) V1.out size29 rfl (scells_all sup0)
    have F1 : Hid (SAt 81 (w1.setRow (w.heap.size + 1) (scells sup0).toArray) (w.heap.size + 1) sup0) := LAt.stored V1.out _
    have G1 : Hid (Below w.heap.size w (w1.setRow (w.heap.size + 1) (scells sup0).toArray)) := below_setRow B1.out (Nat.le_succ _) _
    go_wp2_with ((with_reducible refine at_ops ?_); (first | (refine wpList_build_is (vs := []) (by rfl) 81 rfl (by rfl) U1.out ?_) | (refine wpList_store_is (by rfl) 81 rfl rfl rfl T1.out ?_)); simp only [Act.put, List.setIfInBounds_toArray, List.set_cons_zero, List.set_cons_succ])
    rw [HR.out]
    exact bodyPost_ret (results_sup Tryz.results26 _ _ (w.heap.size + 1) 81 sup0 _ (by rfl) F1.out Tryz.underlying81 rfl size29) rfl ⟨rfl, G1.out⟩
end Go.Proofs.YtefnkjajjidfaaaGreatDoor
