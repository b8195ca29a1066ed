/-
  Layer 7, the law's own 'may': a superblock brought into its bounds.
-/
import Derived.Test.YtcfofoddfhbkcaaDoorRb
namespace Go.Proofs.YtcfofoddfhbkcaaDoor
open Go.RowKit

theorem LAt.unfrozen {t : TypeId} {w : World} {g : Nat} {cs : List Value} (h : LAt t w g cs) (j : Nat) : w.frozen? ⟨g, j, none⟩ = false := by
  simp [World.frozen?, show w.heap[g]? = _ from h]
set_option maxHeartbeats 4000000 in
set_option maxRecDepth 100000 in
theorem may_any (s : Sup) (hw : s.Wf) (w : World) :
    Calls Tryd.prog 10 #[.agg (scells s).toArray] w fun e w' => e = .returned (.agg (scells (mayS s)).toArray) ∧ Below w.heap.size w w' := by
  have HT1 : Hid (s.tail.tmod 4611686018427387905 = s.tail % 4611686018427387905) := Int.tmod_eq_emod_of_nonneg hw.tail.1
  have HT2 : Hid (s.life.tmod 4611686018427387904 = s.life % 4611686018427387904) := Int.tmod_eq_emod_of_nonneg hw.life.1
  obtain ⟨w0, hw0⟩ : ∃ x, x = w.alloc (.cells (scells s).toArray 26) := ⟨_, rfl⟩
  have hs0 : w0.heap.size = w.heap.size + 1 := by rw [hw0]; simp
  have S0 : SAt 26 w0 w.heap.size s := by rw [hw0]; exact LAt.new 26 w _
  have B0 : Below w.heap.size w w0 := by rw [hw0]; exact below_alloc w _
  have A0 : Hid (_) := alloc29 w0
  obtain ⟨w1, hw1⟩ : ∃ x, x = w0.alloc (.cells (scells sup0).toArray 29) := ⟨_, rfl⟩
  have hs1 : w1.heap.size = w.heap.size + 2 := by rw [hw1]; simp [hs0]
  have S1 : SAt 26 w1 w.heap.size s := by rw [hw1]; exact LAt.later S0 (below_alloc w0 _)
  have Z1 : SAt 29 w1 (w.heap.size + 1) sup0 := by rw [hw1, ← hs0]; exact LAt.new 29 w0 _
  have B1 : Below w.heap.size w w1 := by rw [hw1]; exact below_then B0 (below_alloc w0 _)
  rw [hs0, ← hw1] at A0
  have L1 : Hid (_) := SAt.load23 S1
  have A1 : Hid (_) := alloc23 w1
  have T1 : Hid (_) := store_new23 w1 s
  obtain ⟨w2, hw2⟩ : ∃ x, x = w1.alloc (.cells (ccells s).toArray 23) := ⟨_, rfl⟩
  have S2 : Hid (SAt 26 w2 w.heap.size s ∧ SAt 29 w2 (w.heap.size + 1) sup0 ∧ CAt w2 (w.heap.size + 2) s ∧ Below w.heap.size w w2) := by
    refine ⟨?_, ?_, ?_, ?_⟩ <;> rw [hw2]
    · exact LAt.later S1 (below_alloc w1 _)
    · exact LAt.later Z1 (below_alloc w1 _)
    · rw [← hs1]; exact LAt.new 23 w1 _
    · exact below_then B1 (below_alloc w1 _)
  rw [hs1, ← hw2] at T1
  rw [hs1] at A1
  have c0 := CAt.c0 S2.out.2.2.1
  have f0 := LAt.unfrozen S2.out.2.2.1 0
  have e0 := hw0.symm
  clear hw0 hw1 hw2 hs0 hs1 S0 S1 Z1 B0 B1 hw
  go_enter Tryd.func10, Tryd.ntmps10
  go_wp2_with ((with_reducible refine at_ops ?_); (first | (refine wpList_alloc_is (by rfl) 29 rfl A0.out ?_) | (refine wpList_load_is (by rfl) 23 rfl rfl L1.out ?_) | (refine wpList_alloc_is (by rfl) 23 rfl A1.out ?_) | (refine wpList_store_is (by rfl) 23 rfl rfl rfl T1.out ?_)); simp only [Act.put, List.setIfInBounds_toArray, List.set_cons_zero, List.set_cons_succ])
  clear A0 L1 A1 T1 e0
  refine (rest_any s.bl 64 (by omega) (by omega) w2).mono ?_
  rintro e w' ⟨rfl, rfl⟩
  obtain ⟨b1, hb1⟩ : ∃ b, b = restS s.bl 64 := ⟨_, rfl⟩
  have HB1 : Hid (b1 = restS s.bl 64) := hb1
  rw [← hb1]
  have r1 := restS_bd s.bl 64 (by omega)
  rw [← hb1] at r1
  obtain ⟨r10, r11⟩ := r1
  clear hb1
  obtain ⟨w3, hw3⟩ : ∃ x, x = w2.setCell ⟨w.heap.size + 2, 0, none⟩ (.int .i64 b1) := ⟨_, rfl⟩
  have S3 : Hid (SAt 26 w3 w.heap.size s ∧ SAt 29 w3 (w.heap.size + 1) sup0 ∧ CAt w3 (w.heap.size + 2) ⟨b1, s.lc, s.mr, s.hi, s.cl, s.tail, s.life⟩ ∧ Below w.heap.size w w3) := by
    rw [hw3]
    exact ⟨LAt.setO S2.out.1 0 _ (by omega), LAt.setO S2.out.2.1 0 _ (by omega), LAt.set S2.out.2.2.1 0 _, S2.out.2.2.2.setCell (by show _ ≤ _; simp) _⟩
  have e3 := hw3.symm
  clear hw3
  have c01 := CAt.c1 S3.out.2.2.1
  have f1 := LAt.unfrozen S3.out.2.2.1 1
  dsimp only at c01
  go_wp2_with fail
  clear  e3 c0 f0 S2
  refine (rest_any s.lc 63 (by omega) (by omega) w3).mono ?_
  rintro e w' ⟨rfl, rfl⟩
  obtain ⟨b2, hb2⟩ : ∃ b, b = 1 + restS s.lc 63 := ⟨_, rfl⟩
  have HB2 : Hid (b2 = 1 + restS s.lc 63) := hb2
  have r2 := restS_bd s.lc 63 (by omega)
  obtain ⟨q2, hq2⟩ : ∃ q, q = restS s.lc 63 := ⟨_, rfl⟩
  rw [← hq2] at hb2 r2 ⊢
  clear hq2
  obtain ⟨r20, r21⟩ := r2
  obtain ⟨w4, hw4⟩ : ∃ x, x = w3.setCell ⟨w.heap.size + 2, 1, none⟩ (.int .i64 b2) := ⟨_, rfl⟩
  have S4 : Hid (SAt 26 w4 w.heap.size s ∧ SAt 29 w4 (w.heap.size + 1) sup0 ∧ CAt w4 (w.heap.size + 2) ⟨b1, b2, s.mr, s.hi, s.cl, s.tail, s.life⟩ ∧ Below w.heap.size w w4) := by
    rw [hw4]
    exact ⟨LAt.setO S3.out.1 1 _ (by omega), LAt.setO S3.out.2.1 1 _ (by omega), LAt.set S3.out.2.2.1 1 _, S3.out.2.2.2.setCell (by show _ ≤ _; simp) _⟩
  have hb3 : q2 + 1 = b2 := by omega
  have hb4 : 1 + q2 = b2 := by omega
  rw [← hb4] at hw4
  have e4 := hw4.symm
  clear hb3
  clear hw4
  have c12 := CAt.c2 S4.out.2.2.1
  have c10 := CAt.c0 S4.out.2.2.1
  have c11 := CAt.c1 S4.out.2.2.1
  have f2 := LAt.unfrozen S4.out.2.2.1 2
  have b2a : 2 ≤ b2 := by omega
  have b2b : b2 ≤ 64 := by omega
  have HM : Hid (1 ≤ mrTop b1 b2 ∧ mrTop b1 b2 ≤ 64) := by
    show _ ∧ _
    unfold mrTop
    split <;> split <;> omega
  dsimp only at c12 c10 c11
  clear hb4 hb2
  go_wp2_with ((with_reducible refine at_ops ?_); (refine wpList_min3 rfl _ _ _ _ rfl 16 b1 (b2 - 1) (mrTop b1 b2) rfl rfl rfl rfl ?_); simp only [Act.put, List.setIfInBounds_toArray, List.set_cons_zero, List.set_cons_succ])
  clear c10 c11 e4 c01 f1 S3
  refine (rest_any s.mr (mrTop b1 b2) (HM.out.1) (HM.out.2) w4).mono ?_
  rintro e w' ⟨rfl, rfl⟩
  obtain ⟨b3, hb3⟩ : ∃ b, b = restS s.mr (mrTop b1 b2) := ⟨_, rfl⟩
  have HB3 : Hid (b3 = restS s.mr (mrTop b1 b2)) := hb3
  rw [← hb3]
  clear hb3
  obtain ⟨w5, hw5⟩ : ∃ x, x = w4.setCell ⟨w.heap.size + 2, 2, none⟩ (.int .i64 b3) := ⟨_, rfl⟩
  have S5 : Hid (SAt 26 w5 w.heap.size s ∧ SAt 29 w5 (w.heap.size + 1) sup0 ∧ CAt w5 (w.heap.size + 2) ⟨b1, b2, b3, s.hi, s.cl, s.tail, s.life⟩ ∧ Below w.heap.size w w5) := by
    rw [hw5]
    exact ⟨LAt.setO S4.out.1 2 _ (by omega), LAt.setO S4.out.2.1 2 _ (by omega), LAt.set S4.out.2.2.1 2 _, S4.out.2.2.2.setCell (by show _ ≤ _; simp) _⟩
  have e5 := hw5.symm
  clear hw5
  have c23 := CAt.c3 S5.out.2.2.1
  have c21 := CAt.c1 S5.out.2.2.1
  have f3 := LAt.unfrozen S5.out.2.2.1 3
  dsimp only at c23 c21
  go_wp2_with fail
  clear c21 e5 c12 f2 S4
  refine (rest_any s.hi b2 (by omega) (by omega) w5).mono ?_
  rintro e w' ⟨rfl, rfl⟩
  obtain ⟨b4, hb4⟩ : ∃ b, b = restS s.hi b2 := ⟨_, rfl⟩
  have HB4 : Hid (b4 = restS s.hi b2) := hb4
  rw [← hb4]
  clear hb4
  obtain ⟨w6, hw6⟩ : ∃ x, x = w5.setCell ⟨w.heap.size + 2, 3, none⟩ (.int .i64 b4) := ⟨_, rfl⟩
  have S6 : Hid (SAt 26 w6 w.heap.size s ∧ SAt 29 w6 (w.heap.size + 1) sup0 ∧ CAt w6 (w.heap.size + 2) ⟨b1, b2, b3, b4, s.cl, s.tail, s.life⟩ ∧ Below w.heap.size w w6) := by
    rw [hw6]
    exact ⟨LAt.setO S5.out.1 3 _ (by omega), LAt.setO S5.out.2.1 3 _ (by omega), LAt.set S5.out.2.2.1 3 _, S5.out.2.2.2.setCell (by show _ ≤ _; simp) _⟩
  have e6 := hw6.symm
  clear hw6
  have c34 := CAt.c4 S6.out.2.2.1
  have f4 := LAt.unfrozen S6.out.2.2.1 4
  dsimp only at c34
  go_wp2_with fail
  clear  e6 c23 f3 S5
  refine (rest_any s.cl 8 (by omega) (by omega) w6).mono ?_
  rintro e w' ⟨rfl, rfl⟩
  obtain ⟨b5, hb5⟩ : ∃ b, b = restS s.cl 8 := ⟨_, rfl⟩
  have HB5 : Hid (b5 = restS s.cl 8) := hb5
  rw [← hb5]
  clear hb5
  obtain ⟨w7, hw7⟩ : ∃ x, x = w6.setCell ⟨w.heap.size + 2, 4, none⟩ (.int .i64 b5) := ⟨_, rfl⟩
  have S7 : Hid (SAt 26 w7 w.heap.size s ∧ SAt 29 w7 (w.heap.size + 1) sup0 ∧ CAt w7 (w.heap.size + 2) ⟨b1, b2, b3, b4, b5, s.tail, s.life⟩ ∧ Below w.heap.size w w7) := by
    rw [hw7]
    exact ⟨LAt.setO S6.out.1 4 _ (by omega), LAt.setO S6.out.2.1 4 _ (by omega), LAt.set S6.out.2.2.1 4 _, S6.out.2.2.2.setCell (by show _ ≤ _; simp) _⟩
  have e7 := hw7.symm
  clear hw7
  have L7 : Hid (_) := CAt.load23 S7.out.2.2.1
  have c5 := SAt.c5 S7.out.1
  have c6 := SAt.c6 S7.out.1
  obtain ⟨T, hT⟩ : ∃ T, T = s.tail % 4611686018427387905 := ⟨_, rfl⟩
  obtain ⟨Lf, hL⟩ : ∃ T, T = s.life % 4611686018427387904 := ⟨_, rfl⟩
  have t1 : s.tail.tmod 4611686018427387905 = T := by rw [hT]; exact HT1.out
  have t2 : s.life.tmod 4611686018427387904 = Lf := by rw [hL]; exact HT2.out
  have l1 : 0 ≤ Lf := by omega
  have l2 : Lf < 4611686018427387904 := by omega
  have HE : Hid (mayS s = ⟨b1, b2, b3, b4, b5, T, 1 + Lf⟩) := by
    show _ = _
    unfold mayS
    rw [hT, hL, HB5.out, HB4.out, HB3.out, HB1.out, HB2.out]
  obtain ⟨r, hr⟩ : ∃ r : Sup, r = ⟨b1, b2, b3, b4, b5, T, 1 + Lf⟩ := ⟨_, rfl⟩
  have HR : Hid (mayS s = r) := by rw [hr]; exact HE.out
  have ST : Hid (_) := LAt.store (ds := scells r) S7.out.2.1 size29 rfl (scells_all r)
  have HF : Hid (SAt 29 (w7.setRow (w.heap.size + 1) (scells r).toArray) (w.heap.size + 1) r ∧ Below w.heap.size w (w7.setRow (w.heap.size + 1) (scells r).toArray)) := ⟨LAt.stored S7.out.2.1 _, below_setRow S7.out.2.2.2 (by omega) _⟩
  rw [hr] at ST
  clear hT hL HE HT1 HT2
  go_wp2_with ((with_reducible refine at_ops ?_); (first | (refine wpList_load_is (by rfl) 23 rfl rfl L7.out ?_) | (refine wpList_build_is (vs := [(0, .agg (ccells ⟨b1, b2, b3, b4, b5, T, 1 + Lf⟩).toArray), (1, .int .u64 T), (2, .int .u64 (1 + Lf))]) (by rfl) 29 rfl (by rfl) (build29 _ _ ⟨b1, b2, b3, b4, b5, T, 1 + Lf⟩ (fill_all ⟨b1, b2, b3, b4, b5, T, 1 + Lf⟩)) ?_) | (refine wpList_store_is (by rfl) 29 rfl rfl rfl ST.out ?_)); simp only [Act.put, List.setIfInBounds_toArray, List.set_cons_zero, List.set_cons_succ])
  rw [HR.out]
  rw [hr] at HF ⊢
  exact bodyPost_ret (results_cell1 Tryd.results10 _ _ (w.heap.size + 1) 29 _ _ (by rfl) HF.out.1 Tryd.underlying29 rfl size29) rfl ⟨rfl, HF.out.2⟩
end Go.Proofs.YtcfofoddfhbkcaaDoor
