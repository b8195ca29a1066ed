/-
  Layer 6: the document's Encode.
-/
import Derived.Test.YtndildimnanlpaaDoorRa
import Derived.Test.YtndildimnanlpaaDoorRb
namespace Go.Proofs.YtndildimnanlpaaDoor
open Go.RowKit

theorem made_zeros (k : Nat) : (madeCells #[Value.int .u8 0] k).toList = U8 (zs k) := by
  rw [toList_madeCells_one]
  simp [U8, zs]
theorem num_sum (r : Rec) (h : may r = true) : r.block + r.images = numS r := by
  rw [may_iff] at h
  unfold numS
  rcases h.2 with h2 | h2
  · obtain ⟨a, b, c, d⟩ := h2
    rw [if_pos a]; omega
  · obtain ⟨a, b, c, d, e⟩ := h2
    rw [if_neg (by omega)]; omega
theorem head_split (r : Rec) : [87, r.kind, 0, 0] ++ digits 8 r.pos ++ digits 4 (numS r) ++ r.val = head r := by simp [head]
theorem zs_split (a b : Nat) : zs (a + b) = zs a ++ zs b := by unfold zs; rw [List.replicate_append_replicate]
theorem set_two (k : Int) : ((zs 64).set 0 87).set 1 k = [87, k, 0, 0] ++ zs 60 := rfl

set_option maxHeartbeats 400000 in
theorem refEncode_bad (r : Rec) (hv : r.val.length = 32) (hm : ¬ may r = true) (w : World) :
    Calls Tryd.prog 14 #[.agg (rcells r).toArray] w fun e w' => e = .returned (.tuple #[.slice none 0 0, .int .i64 60]) ∧ Below w.heap.size w w' := by
  have L1 : Hid (_) := (RAt.new 37 w r).load37 hv
  have hc := chk_no r hm
  go_enter Tryd.func14, Tryd.ntmps14
  go_wp2_with ((with_reducible refine at_seq ?_); (refine wpList_load_is (by rfl) 37 rfl rfl L1.out ?_); simp only [Act.put, List.setIfInBounds_toArray, List.set_cons_zero, List.set_cons_succ])
  refine (refCheck_any r hv _).mono ?_
  rintro e w1 ⟨rfl, b1⟩
  rw [hc]
  have HB : Hid (Below w.heap.size w w1) := below_of_alloc b1
  clear b1 L1 hm hc
  go_wp2_with fail
  go_ret2
  exact ⟨rfl, HB.out⟩

set_option maxHeartbeats 4000000 in
set_option maxRecDepth 100000 in
theorem refEncode_good (r : Rec) (hw : r.Wf) (hm : may r = true) (w : World) :
    Calls Tryd.prog 14 #[.agg (rcells r).toArray] w fun e w' => ∃ p c, e = .returned (.tuple #[.slice p 64 c, .int .i64 0]) ∧ Made w w' p 64 c (encS r) := by
  obtain ⟨i0, hi, hz0, hz1, hz2⟩ := info_parts info5
  have L1 : Hid (_) := (RAt.new 37 w r).load37 hw.len
  have HW : Hid (r.Wf) := hw
  have HM : Hid (may r = true) := hm
  have hc := chk_yes r hm
  have HS : Hid (r.block + r.images = numS r) := num_sum r hm
  have HN : Hid (0 ≤ numS r ∧ numS r < 64) := numS_bd r hm
  have HK : Hid (0 ≤ r.kind ∧ r.kind < 256) := by have := may_kind hm; exact ⟨by omega, by omega⟩
  go_enter Tryd.func14, Tryd.ntmps14
  go_wp2_with ((with_reducible refine at_seq ?_); (refine wpList_load_is (by rfl) 37 rfl rfl L1.out ?_); simp only [Act.put, List.setIfInBounds_toArray, List.set_cons_zero, List.set_cons_succ])
  refine (refCheck_any r hw.len _).mono ?_
  rintro e w1 ⟨rfl, b1⟩
  rw [hc]
  have B1 : Hid (Below w.heap.size w w1) := below_of_alloc b1
  have R1 : Hid (RAt 37 w1 w.heap.size r) := (RAt.new 37 w r).later b1
  clear b1 L1 hm hc hw
  go_wp2_with (at_make; refine wpList_make_full _ rfl _ _ 25 rfl w1.heap.size 5 i0 (.int .u8 0) 1 Tryd.underlying25 hi hz0 hz1 .i64 .i64 _ _ 64 rfl rfl rfl rfl (by rw [hz2]; omega) (by unfold maxLen; omega) (Nat.le_refl _) ?_)
  intro w2 hown hgrow
  rw [made_zeros 64] at hown
  have b2 : Below w1.heap.size w1 w2 := (Below.refl w1.heap.size w1).grown hgrow (Nat.le_refl _) (by intro k hk; cases hk)
  have R2 : RAt 37 w2 w.heap.size r := R1.out.later b2
  have gne : w.heap.size < w1.heap.size := R1.out.lt
  have GNE : Hid (w.heap.size < w1.heap.size) := gne
  -- the first two bytes
  have s0 := hown.stored 0 (.int .u8 87)
  have f0 := hown.frozenAt 0
  have c0 := hown.cellAt 0 (by omega)
  obtain ⟨u0, hu0⟩ : ∃ u, w2.cell? ⟨w1.heap.size, 0, none⟩ = some u := ⟨_, by rw [c0]; exact List.getElem?_eq_getElem (by simp [zs])⟩
  obtain ⟨w3, hw3⟩ : ∃ w3, w3 = w2.setCell ⟨w1.heap.size, 0, none⟩ (.int .u8 87) := ⟨_, rfl⟩
  have o3 : w3.ownsRow w1.heap.size 5 1 (.slice (some ⟨w1.heap.size, 0, none⟩) 64 64) 64 ((U8 (zs 64)).set 0 (.int .u8 87)) := by rw [hw3]; exact s0.1
  have R3 : RAt 37 w3 w.heap.size r := by rw [hw3]; exact (heap_setCell_other w2 ⟨w1.heap.size, 0, none⟩ w.heap.size _ (by simp; omega)).trans R2
  have b3 : Below w1.heap.size w1 w3 := by rw [hw3]; exact b2.setCell (Nat.le_refl _) _
  have s1 := o3.stored 1 (.int .u8 r.kind)
  have f1 := o3.frozenAt 1
  have c1 := o3.cellAt 1 (by omega)
  obtain ⟨u1, hu1⟩ : ∃ u, w3.cell? ⟨w1.heap.size, 1, none⟩ = some u := ⟨_, by rw [c1]; exact List.getElem?_eq_getElem (by simp [zs])⟩
  obtain ⟨w4, hw4⟩ : ∃ w4, w4 = w3.setCell ⟨w1.heap.size, 1, none⟩ (.int .u8 r.kind) := ⟨_, rfl⟩
  have o4 : w4.ownsRow w1.heap.size 5 1 (.slice (some ⟨w1.heap.size, 0, none⟩) 64 64) 64 (U8 ([87, r.kind, 0, 0] ++ zs 60)) := by
    rw [hw4]
    have := s1.1
    rw [show ((U8 (zs 64)).set 0 (.int .u8 87)).set 1 (.int .u8 r.kind) = U8 ([87, r.kind, 0, 0] ++ zs 60) by rw [← set_two]; simp [U8, List.map_set]] at this
    exact this
  have R4 : RAt 37 w4 w.heap.size r := by rw [hw4]; exact (heap_setCell_other w3 ⟨w1.heap.size, 1, none⟩ w.heap.size _ (by simp; omega)).trans R3
  have b4 : Below w1.heap.size w1 w4 := by rw [hw4]; exact b3.setCell (Nat.le_refl _) _
  have k3 := R3.c0
  have k4 := R4.c1
  have O4 : Hid (_) := o4
  have B4 : Hid (_) := b4
  have RR : Hid (RAt 37 w4 w.heap.size r) := R4
  have kk0 := HK.out.1
  have kk1 := HK.out.2
  have e3 := hw3.symm
  have e4 := hw4.symm
  clear hown hgrow b2 R2 s0 c0 o3 R3 b3 s1 c1 o4 R4 b4 hw3 hw4
  go_wp2_with fail
  refine (refPut_any w1.heap.size w1.heap.size 64 4 8 60 [87, r.kind, 0, 0] r.pos w1 w4 O4.out B4.out rfl (by omega) (by omega) (by omega) HW.out.p0 HW.out.p1).mono ?_
  rintro e w5 ⟨rfl, o5, b5⟩
  clear e3 e4 f0 f1 hu0 hu1 k3 k4 kk0 kk1 O4 B4
  have O5 : Hid (_) := o5
  have B5 : Hid (Below w1.heap.size w1 w5) := b5
  have R5 : RAt 37 w5 w.heap.size r := R1.out.below b5 GNE.out
  have d2 := R5.c2
  have d4 := R5.c35 HW.out.len
  have hsum := HS.out
  have hn0 := HN.out.1
  have hn1 := HN.out.2
  clear o5 b5 R5
  have HP16 : Hid (([87, r.kind, 0, 0] ++ digits 8 r.pos).length = 12) := by show _ = _; simp [digits_length]
  obtain ⟨nn, hnn⟩ : ∃ nn, nn = numS r := ⟨_, rfl⟩
  rw [← hnn] at hsum hn0 hn1
  have HNN : Hid (nn = numS r) := hnn
  clear hnn
  go_wp2_with fail
  refine (refPut_any w1.heap.size w1.heap.size 64 12 4 52 ([87, r.kind, 0, 0] ++ digits 8 r.pos) nn w1 w5 O5.out B5.out HP16.out (by omega) (by omega) (by omega) hn0 (by omega)).mono ?_
  rintro e w6 ⟨rfl, o6, b6⟩
  rw [HNN.out] at o6
  have O6 : Hid (w6.ownsRow w1.heap.size 5 1 (.slice (some ⟨w1.heap.size, 0, none⟩) 64 64) 64 (U8 (lay ([87, r.kind, 0, 0] ++ digits 8 r.pos ++ digits 4 (numS r)) r.val 48 0))) := by rw [lay_zero]; exact o6
  have B6 : Hid (Below w1.heap.size w1 w6) := b6
  clear o6 b6 d2 d4 hsum hn0 hn1 HNN O5 B5 HP16 HS HN
  have HPL : Hid (([87, r.kind, 0, 0] ++ digits 8 r.pos ++ digits 4 (numS r)).length = 16) := by show _ = _; simp [digits_length]
  have HHS : Hid (([87, r.kind, 0, 0] ++ digits 8 r.pos ++ digits 4 (numS r)) ++ r.val = head r) := head_split r
  generalize [87, r.kind, 0, 0] ++ digits 8 r.pos ++ digits 4 (numS r) = P at *
  go_wp2_with fail
  go_loopw [6] (fun k wr => ∃ j : Nat, j ≤ 32 ∧ k = .int .i64 j ∧ Hid (wr.ownsRow w1.heap.size 5 1 (.slice (some ⟨w1.heap.size, 0, none⟩) 64 64) 64 (U8 (lay P r.val 48 j)) ∧ Below w1.heap.size w1 wr)) (fun k _ => 32 - (intOf k).toNat)
  case atStart => exact ⟨0, by omega, rfl, O6.out, B6.out⟩
  case round =>
    obtain ⟨j, hj, rfl, HR⟩ := hrel
    clear O6 B6
    by_cases hlt : j < 32
    · have hjv : j < r.val.length := by rw [HW.out.len]; exact hlt
      have Rr := R1.out.below HR.out.2 GNE.out
      have cv : wr.cell? ⟨w.heap.size, 3 + j, none⟩ = some (.int .u8 r.val[j]) := (Rr.cell (3 + j)).trans (rcells_val r j hjv)
      have hst := HR.out.1.stored (16 + j) (.int .u8 r.val[j])
      have hset : (U8 (lay P r.val 48 j)).set (16 + j) (.int .u8 r.val[j]) = U8 (lay P r.val 48 (j + 1)) := by
        rw [← lay_step P _ 48 j 16 HPL.out hjv (by rw [HW.out.len]; omega)]
        simp [U8, List.map_set]
      rw [hset] at hst
      have hcell := HR.out.1.cellAt (16 + j) (by omega)
      have hlen : (U8 (lay P r.val 48 j)).length = 64 := by rw [List.length_map, lay_len _ _ _ _ (by omega) (by rw [HW.out.len]; omega), HPL.out]
      obtain ⟨u, hu⟩ : ∃ u, wr.cell? ⟨w1.heap.size, 16 + j, none⟩ = some u := ⟨_, by rw [hcell]; exact List.getElem?_eq_getElem (by omega)⟩
      have hfz := HR.out.1.frozenAt (16 + j)
      have HQ : Hid ((wr.setCell ⟨w1.heap.size, 16 + j, none⟩ (.int .u8 r.val[j])).ownsRow w1.heap.size 5 1 (.slice (some ⟨w1.heap.size, 0, none⟩) 64 64) 64 (U8 (lay P r.val 48 (j + 1))) ∧ Below w1.heap.size w1 (wr.setCell ⟨w1.heap.size, 16 + j, none⟩ (.int .u8 r.val[j]))) := ⟨hst.1, HR.out.2.setCell (Nat.le_refl _) _⟩
      clear hst hset hcell hlen HR Rr
      generalize r.val[j] = x at *
      clear hjv
      have i1 : (16 : Int) + (j : Int) < 64 := by omega
      have i0 : (0 : Int) ≤ (16 : Int) + (j : Int) := by omega
      go_wp2_with fail
      go_roundw
      case rel => exact ⟨j + 1, by omega, by go_num, HQ.out⟩
      case measure => simp [intOf]; omega
    · obtain ⟨w7, hw7⟩ : ∃ w7, w7 = wr := ⟨_, rfl⟩
      subst hw7
      have O7 : Hid (w7.ownsRow w1.heap.size 5 1 (.slice (some ⟨w1.heap.size, 0, none⟩) 64 64) 64 (U8 (body r ++ zs 4))) := by
        have := HR.out.1
        obtain rfl : j = 32 := by omega
        rw [lay_all P r.val 48 32 HW.out.len, HHS.out, show (48 - 32 : Nat) = 12 + 4 by omega, zs_split, ← List.append_assoc] at this
        exact this
      have B7 : Hid (Below w1.heap.size w1 w7) := HR.out.2
      have HBL : Hid ((body r).length = 60) := body_len r HW.out.len
      have HBB : Hid (Bytes (body r)) := body_bytes r HW.out HM.out
      have X7 : Hid (BIn w7 (some ⟨w1.heap.size, 0, none⟩) 60 (body r)) := by
        obtain ⟨p', c', e', hx, -⟩ := own_in O7.out (HBB.out.append (zs_bytes 4))
        simp only [Value.slice.injEq] at e'
        have := hx.take 60 (by omega)
        rw [← e'.1, List.take_append_of_le_length (by rw [HBL.out]; omega), List.take_of_length_le (by rw [HBL.out]; omega)] at this
        exact this
      clear HR
      go_wp2_with fail
      refine (refOf_any _ 60 64 (body r) w7 X7.out (by omega)).mono ?_
      rintro e w8 ⟨rfl, rfl⟩
      have hcl := crc_lt (body r) HBB.out
      have HE : Hid (encS r = body r ++ digits 4 ((crc (body r) : Nat) : Int) ++ zs (4 - 4)) := by show _ = _; simp [encS, zs]
      generalize crc (body r) = S at *
      go_wp2_with fail
      refine (refPut_any w1.heap.size w1.heap.size 64 60 4 4 (body r) (S : Int) w1 w7 O7.out B7.out HBL.out (by omega) (by omega) (by omega) (by omega) (by omega)).mono ?_
      rintro e w9 ⟨rfl, o9, b9⟩
      rw [← HE.out] at o9
      obtain ⟨p9, c9, e9, m9⟩ := made_of (own_mono o9 B1.out.size) (encS_bytes r HW.out HM.out) (below_then B1.out b9)
      simp only [Value.slice.injEq, true_and] at e9
      obtain ⟨rfl, rfl⟩ := e9
      have M9 : Hid (_) := m9
      clear o9 b9 m9
      go_wp2_with fail
      go_ret2
      exact ⟨_, _, rfl, M9.out⟩

/-- the document's Encode, of whatever record -/
theorem refEncode_any (r : Rec) (hw : r.Wf) (w : World) :
    Calls Tryd.prog 14 #[.agg (rcells r).toArray] w fun e w' => ∃ p n c, e = .returned (.tuple #[.slice p n c, .int .i64 (chk r)]) ∧ n = (encT r).length ∧ Made w w' p n c (encT r) := by
  by_cases hm : may r = true
  · rw [encT_yes r hm, chk_yes r hm]
    refine (refEncode_good r hw hm w).mono ?_
    rintro e w' ⟨p, c, rfl, m⟩
    exact ⟨p, 64, c, rfl, (encS_len r hw.len).symm, m⟩
  · rw [encT_no r hm, chk_no r hm]
    refine (refEncode_bad r hw.len hm w).mono ?_
    rintro e w' ⟨rfl, b⟩
    exact ⟨none, 0, 0, rfl, rfl, World.ownsRow_nil _ _ _ _, BIn.empty, Nat.le_refl _, fun _ => rfl, b⟩
end Go.Proofs.YtndildimnanlpaaDoor
