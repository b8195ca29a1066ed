/-
  Layer 8, the document's own functions, first part: Summed, Encode, Decode, Super.
-/
import Derived.Test.YtpenddnmmfpdjaaDoorRa
import Derived.Laws.AppendOwnNone
namespace Go.Proofs.YtpenddnmmfpdjaaDoor
open Go.RowKit

set_option maxHeartbeats 1000000 in
set_option maxRecDepth 100000 in
/-- Summed, of what is not empty -/
theorem summed_any (g o n c : Nat) (xs : List Int) (w : World) (h : BIn w (some ⟨g, o, none⟩) n xs) (h0 : 0 < n) (hbig : n ≤ 100000) :
    Calls Tryd.prog 47 #[.slice (some ⟨g, o, none⟩) n c] w fun e w' => ∃ q d, e = .returned (.slice (some ⟨q, 0, none⟩) (n + 4) d) ∧ Made w w' (some ⟨q, 0, none⟩) (n + 4) d (xs ++ digits 4 ((crc xs : Nat) : Int)) := by
  obtain ⟨i0, hi, hz0, hz1, hz2⟩ := info_parts info5
  have HX : Hid (BIn w (some ⟨g, o, none⟩) n xs) := h
  have X1 : Hid (BIn (w.alloc (.cells #[] 5)) (some ⟨g, o, none⟩) n xs) := h.later (below_alloc w _)
  have HY : Hid (Bytes xs) := h.byte
  clear h
  go_enter Tryd.func47, Tryd.ntmps47
  go_wp2_with (at_builtin; refine wpList_append_own _ rfl (.tmp 3) (.tmp 4) 24 rfl w.heap.size 5 i0 (.int .u8 0) 1 1 Tryd.underlying24 hi hz0 hz1 hz2 rfl (by decide) _ 0 [] rfl (World.ownsRow_made w #[] 0 (Nat.le_refl _) (Nat.zero_le _) rfl) ⟨g, o, none⟩ n c (U8 xs) rfl (by rw [U8_length, X1.out.len, Nat.mul_one]) X1.out.news (ones_u8 _) (by unfold maxLen; omega) (by omega) (by simp) ?_)
  intro v2 w2 hown2 hgrow2 _
  try simp only [Nat.zero_add, List.nil_append] at hown2
  have B2 : Hid (Below w.heap.size w w2) := ((Below.refl _ w).alloc (Nat.le_refl _) _).grown hgrow2 (by simp) (by intro k hk; simp [Value.ownBlock] at hk; omega)
  have O2 : Hid (w2.ownsRow w.heap.size 5 1 v2 n (U8 xs)) := hown2
  have X2 : Hid (BIn w2 (some ⟨g, o, none⟩) n xs) := HX.out.later B2.out
  clear hown2 hgrow2 X1
  go_wp2_with fail
  refine (refOf_any _ n c xs w2 X2.out (by omega)).mono ?_
  rintro e w3 ⟨rfl, rfl⟩
  have hcl := crc_lt xs HY.out
  obtain ⟨C, hC⟩ : ∃ C, C = crc xs := ⟨_, rfl⟩
  have HC : Hid (C = crc xs) := hC
  rw [← hC] at hcl ⊢
  clear hC
  go_wp2_with fail
  refine (low_any (C : Int) 4 w2 (by omega) (by omega) (by omega)).mono ?_
  rintro e w4 ⟨v4, rfl, ho4, b4⟩
  obtain ⟨g4, k4, rfl, -⟩ := own_shape ho4 (by omega)
  have N4 : Hid (BIn w4 (some ⟨g4, 0, none⟩) 4 (digits 4 (C : Int))) := own_bin ho4 (digits_bytes _ _)
  have O4 : Hid (w4.ownsRow w.heap.size 5 1 v2 n (U8 xs)) := own_later O2.out b4
  have B4 : Hid (Below w.heap.size w w4) := below_then B2.out b4
  clear ho4 b4 O2 B2 X2
  go_wp2_with (at_builtin; refine wpList_append_own _ rfl (.tmp 5) (.tmp 9) 24 rfl w.heap.size 5 i0 (.int .u8 0) 1 1 Tryd.underlying24 hi hz0 hz1 hz2 rfl (by decide) v2 n (U8 xs) rfl O4.out ⟨g4, 0, none⟩ 4 k4 (U8 (digits 4 (C : Int))) rfl (by rw [U8_length, digits_length]) N4.out.news (ones_u8 _) (by unfold maxLen; omega) (by omega) B4.out.size ?_)
  intro v5 w5 hown5 hgrow5 _
  have B5 : Hid (Below w.heap.size w w5) := B4.out.grown hgrow5 B4.out.size (fun k hk => (O4.out.lt k hk).1)
  have O5 : Hid (w5.ownsRow w.heap.size 5 1 v5 (n + 4) (U8 (xs ++ digits 4 (C : Int)))) := by
    show w5.ownsRow _ _ _ _ _ _
    rw [show U8 (xs ++ digits 4 (C : Int)) = U8 xs ++ U8 (digits 4 (C : Int)) by simp only [U8, List.map_append]]
    exact hown5
  clear hown5 hgrow5 O4 B4 N4
  obtain ⟨g5, k5, rfl, hk5⟩ := own_shape O5.out (by omega)
  go_wp2_with fail
  go_ret
  rw [← HC.out]
  exact ⟨g5, k5, rfl, O5.out, own_bin O5.out (HY.out.append (digits_bytes _ _)), hk5, (fun e => by cases e), B5.out⟩

theorem u8_id {b : Int} (h : inB b) : IntKind.u8.wrap b = b := by rw [IntKind.wrap_u8]; have := h.1; have := h.2; omega

set_option maxHeartbeats 1000000 in
set_option maxRecDepth 100000 in
theorem rencode_bad (b : Int) (v : List Int) (hb : ¬ inB b) (w : World) :
    Calls Tryd.prog 22 #[.int .i64 b, .agg (U8 v).toArray] w fun e w' => e = .returned (.tuple #[.slice none 0 0, .int .i64 51]) ∧ Below w.heap.size w w' := by
  have HB : Hid (Below w.heap.size w (w.alloc (.cells (U8 v).toArray 23))) := below_alloc w _
  have hd : b < 0 ∨ (0 ≤ b ∧ 64 ≤ b) := by omega
  clear hb
  rcases hd with h | ⟨h, h2⟩
  · go_enter Tryd.func22, Tryd.ntmps22
    go_wp2_with fail
    go_ret2
    exact ⟨rfl, HB.out⟩
  · go_enter Tryd.func22, Tryd.ntmps22
    go_wp2_with fail
    go_ret2
    exact ⟨rfl, HB.out⟩
set_option maxHeartbeats 2000000 in
set_option maxRecDepth 100000 in
theorem rencode_good (b : Int) (v : List Int) (hb : inB b) (hv : v.length = 32) (hvb : Bytes v) (w : World) :
    Calls Tryd.prog 22 #[.int .i64 b, .agg (U8 v).toArray] w fun e w' => ∃ g c, e = .returned (.tuple #[.slice (some ⟨g, 0, none⟩) 64 c, .int .i64 0]) ∧ Made w w' (some ⟨g, 0, none⟩) 64 c (homeS b v) := by
  obtain ⟨i0, hi, hz0, hz1, hz2⟩ := info_parts info5
  obtain ⟨w0, hw0⟩ : ∃ x, x = w.alloc (.cells (U8 v).toArray 23) := ⟨_, rfl⟩
  have ew0 := hw0.symm
  have V0 : Hid (VAt w0 w.heap.size v) := by rw [hw0]; exact LAt.new 23 w (U8 v)
  have B0 : Hid (Below w.heap.size w w0) := by rw [hw0]; exact below_alloc w _
  have HV : Hid (v.length = 32 ∧ Bytes v) := ⟨hv, hvb⟩
  have HB : Hid (inB b) := hb
  have hb0 := hb.1
  have hb1 := hb.2
  have hbw := u8_id hb
  clear hw0 hv hvb hb
  have sz0 : w0.heap.size = w.heap.size + 1 := by rw [← ew0]; simp
  have cv := conv_const w0 HM 4 (w.heap.size + 1) sz0
  obtain ⟨w1, hw1⟩ : ∃ x, x = w0.alloc (.cells HM 5 (4, 5)) := ⟨_, rfl⟩
  have sz1 : w1.heap.size = w.heap.size + 2 := by rw [hw1]; simp [sz0]
  have b1 : Below w0.heap.size w0 w1 := by rw [hw1]; exact below_alloc w0 _
  have N1 : BIn w1 (some ⟨w.heap.size + 1, 0, none⟩) 4 hm := by rw [hw1, ← sz0]; exact lit_mark w0 hm 4 (4, 5) rfl hm_bytes
  have cv2 : (convert 24 24 (.slice (some ⟨w.heap.size + 1, 0, none⟩) 4 4)).run Tryd.prog (w0.alloc (.cells HM 5)) = .ok (.slice (some ⟨w.heap.size + 1, 0, none⟩) 4 4) w1 := by rw [hw1]; exact cv
  obtain ⟨w2, hw2⟩ : ∃ x, x = w1.alloc (.cells (U8 [1, b]).toArray 5) := ⟨_, rfl⟩
  have b2 : Below w1.heap.size w1 w2 := by rw [hw2]; exact below_alloc w1 _
  have N2 : Hid (BIn w2 (some ⟨w.heap.size + 2, 0, none⟩) 2 [1, b]) := by rw [hw2, ← sz1]; exact lit_in w1 _ 2 rfl (by intro x hx; simp at hx; omega)
  have M2 : Hid (BIn w2 (some ⟨w.heap.size + 1, 0, none⟩) 4 hm) := N1.later b2
  have B2 : Hid (Below w.heap.size w w2) := below_then B0.out (below_then b1 b2)
  have V2 : Hid (VAt w2 w.heap.size v) := LAt.later V0.out (below_then b1 b2)
  have HO2 : Hid (∀ j u, (U8 hm)[j]? = some u → w2.cell? ⟨w.heap.size + 1, 0 + j, none⟩ = some u) := fun j u hu => by
    have := M2.out.news j u hu
    rw [Go.WideShapes.add_plain] at this
    exact this
  have e2 : w1.alloc (.cells #[.int .u8 1, .int .u8 b] 5) = w2 := hw2.symm
  clear hw1 hw2 cv N1 b1 b2 B0 V0
  go_enter Tryd.func22, Tryd.ntmps22
  go_wp2_with (at_builtin; refine wpList_append_arg _ rfl (.tmp 14) (.tmp 17) 24 rfl 5 i0 (.int .u8 0) 1 1 Tryd.underlying24 hi hz0 hz1 hz2 rfl (by decide) (w.heap.size + 1) 0 4 4 (U8 hm) rfl rfl HO2.out ⟨w.heap.size + 2, 0, none⟩ 2 2 (U8 [1, b]) rfl rfl N2.out.news (ones_u8 _) (fun h => by omega) (by unfold maxLen; omega) (by omega) (fun h => by omega) ?_; clear cv2)
  intro v4 w4 hown4 hgrow4
  clear e2 ew0 sz1 hbw sz0
  have O4 : Hid (w4.ownsRow w.heap.size 5 1 v4 6 (U8 (hm ++ [1, b]))) := by
    show w4.ownsRow _ _ _ _ _ _
    rw [show U8 (hm ++ [1, b]) = U8 hm ++ U8 [1, b] by simp only [U8, List.map_append]]
    exact own_mono hown4 B2.out.size
  have B4 : Hid (Below w.heap.size w w4) := B2.out.grown hgrow4 B2.out.size (by intro k hk; cases hk)
  have V4 : Hid (VAt w4 w.heap.size v) := (hgrow4.block _ (LAt.lt V2.out) (by simp)).trans V2.out
  clear hown4 hgrow4 B2 V2 N2 M2 HO2
  obtain ⟨g4, k4, rfl, -⟩ := own_shape O4.out (by omega)
  go_wp2_with (at_builtin; refine wpList_append_zeros_own _ rfl (.tmp 19) _ 24 3 rfl w.heap.size 5 i0 (.int .u8 0) 1 .i64 .i64 Tryd.underlying24 Tryd.underlying3 hi hz0 hz1 hz2 rfl rfl g4 6 k4 (U8 (hm ++ [1, b])) rfl O4.out 22 rfl (by omega) (by unfold maxLen; omega) (by omega) B4.out.size ?_)
  intro v5 w5 hown5 hgrow5
  have B5 : Hid (Below w.heap.size w w5) := B4.out.grown hgrow5 B4.out.size (fun k hk => (O4.out.lt k hk).1)
  have V5 : Hid (VAt w5 w.heap.size v) := box_kept V4.out O4.out hgrow5 (by decide)
  have O5 : Hid (w5.ownsRow w.heap.size 5 1 v5 28 (U8 (hm ++ [1, b] ++ zs 22))) := by
    show w5.ownsRow _ _ _ _ _ _
    simp only [U8, zs, List.map_append, List.map_replicate] at hown5 ⊢
    exact hown5
  have X5 : Hid (BIn w5 (some ⟨w.heap.size, 0, none⟩) 32 v) := V5.out.bin HV.out.1 HV.out.2
  clear hown5 hgrow5 B4 V4 O4 V5
  go_wp2_with (at_builtin; refine wpList_append_own _ rfl (.tmp 21) (.tmp 22) 24 rfl w.heap.size 5 i0 (.int .u8 0) 1 1 Tryd.underlying24 hi hz0 hz1 hz2 rfl (by decide) v5 28 (U8 (hm ++ [1, b] ++ zs 22)) rfl O5.out ⟨w.heap.size, 0, none⟩ 32 32 (U8 v) rfl (by rw [U8_length, HV.out.1]) X5.out.news (ones_u8 _) (by unfold maxLen; omega) (by omega) B5.out.size ?_)
  intro v6 w6 hown6 hgrow6 _
  have B6 : Hid (Below w.heap.size w w6) := B5.out.grown hgrow6 B5.out.size (fun k hk => (O5.out.lt k hk).1)
  have O6 : Hid (w6.ownsRow w.heap.size 5 1 v6 60 (U8 (hbody b v))) := by
    show w6.ownsRow _ _ _ _ _ _
    rw [show U8 (hbody b v) = U8 (hm ++ [1, b] ++ zs 22) ++ U8 v by simp [U8, hbody, hm]]
    exact hown6
  clear hown6 hgrow6 B5 X5 O5
  obtain ⟨g6, k6, rfl, -⟩ := own_shape O6.out (by omega)
  have X6 : Hid (BIn w6 (some ⟨g6, 0, none⟩) 60 (hbody b v)) := own_bin O6.out (hbody_bytes HB.out HV.out.2)
  go_wp2_with fail
  refine (summed_any g6 0 60 k6 (hbody b v) w6 X6.out (by omega) (by omega)).mono ?_
  rintro e w7 ⟨g7, c7, rfl, m7⟩
  have M7 : Hid (Made w6 w7 (some ⟨g7, 0, none⟩) 64 c7 (homeS b v)) := m7
  clear m7 X6 O6
  go_wp2_with fail
  go_ret2
  exact ⟨g7, c7, rfl, own_mono M7.out.own B6.out.size, M7.out.read, M7.out.le, M7.out.nil, below_then B6.out M7.out.below⟩
/-- Encode of the document, of whatever block -/
theorem rencode_any (b : Int) (v : List Int) (hv : v.length = 32) (hvb : Bytes v) (w : World) :
    Calls Tryd.prog 22 #[.int .i64 b, .agg (U8 v).toArray] w fun e w' => ∃ p n c, e = .returned (.tuple #[.slice p n c, .int .i64 (hencE b)]) ∧ n = (hencT b v).length ∧ Made w w' p n c (hencT b v) := by
  by_cases hb : inB b
  · rw [hencT_yes v hb, hencE_yes hb]
    refine (rencode_good b v hb hv hvb w).mono ?_
    rintro e w' ⟨g, c, rfl, m⟩
    exact ⟨_, 64, c, rfl, (homeS_len b hv).symm, m⟩
  · rw [hencT_no v hb, hencE_no hb]
    refine (rencode_bad b v hb w).mono ?_
    rintro e w' ⟨rfl, bb⟩
    exact ⟨none, 0, 0, rfl, rfl, World.ownsRow_nil _ _ _ _, BIn.empty, Nat.le_refl _, fun _ => rfl, bb⟩

set_option maxHeartbeats 1000000 in
set_option maxRecDepth 100000 in
theorem rdecode_out (p : Option Addr) (n c : Nat) (b : Int) (hb : ¬ inB b) (w : World) :
    Calls Tryd.prog 23 #[.slice p n c, .int .i64 b] w fun e w' => e = .returned (.tuple #[.agg (U8 (zs 32)).toArray, .int .i64 51]) ∧ Below w.heap.size w w' := by
  have A1 : Hid (_) := allocV w
  obtain ⟨w1, hw1⟩ : ∃ x, x = w.alloc (.cells (U8 (zs 32)).toArray 23) := ⟨_, rfl⟩
  have sz1 : w1.heap.size = w.heap.size + 1 := by rw [hw1]; simp
  have A2 : Hid (_) := allocV w1
  obtain ⟨w2, hw2⟩ : ∃ x, x = w1.alloc (.cells (U8 (zs 32)).toArray 23) := ⟨_, rfl⟩
  have Q2 : Hid (VAt w2 w.heap.size (zs 32)) := by rw [hw2, hw1]; exact LAt.later (LAt.new 23 w _) (below_alloc _ _)
  have R2 : Hid (VAt w2 (w.heap.size + 1) (zs 32)) := by rw [hw2, ← sz1]; exact LAt.new 23 w1 _
  have B2 : Hid (Below w.heap.size w w2) := by rw [hw2, hw1]; exact below_then (below_alloc _ _) (below_alloc _ _)
  rw [← hw1] at A1
  rw [sz1, ← hw2] at A2
  clear hw1 hw2 sz1
  have L2 : Hid (_) := VAt.load R2.out (zs_len 32)
  have T2 : Hid (_) := VAt.store (v := zs 32) Q2.out (zs_len 32) (zs_len 32)
  have F2 : Hid (VAt (w2.setRow w.heap.size (U8 (zs 32)).toArray) w.heap.size (zs 32)) := LAt.stored Q2.out _
  have G2 : Hid (Below w.heap.size w (w2.setRow w.heap.size (U8 (zs 32)).toArray)) := below_setRow B2.out (Nat.le_refl _) _
  have hd : b < 0 ∨ (0 ≤ b ∧ 64 ≤ b) := by omega
  clear hb
  rcases hd with h | ⟨h, h2⟩
  · go_enter Tryd.func23, Tryd.ntmps23
    go_wp2_with ((with_reducible refine at_ops ?_); (first | (refine wpList_alloc_is (by rfl) 23 rfl A1.out ?_) | (refine wpList_alloc_is (by rfl) 23 rfl A2.out ?_) | (refine wpList_load_is (by rfl) 23 rfl rfl L2.out ?_) | (refine wpList_store_is (by rfl) 23 rfl rfl rfl T2.out ?_)); simp only [Act.put, List.setIfInBounds_toArray, List.set_cons_zero, List.set_cons_succ])
    exact bodyPost_ret (results_val Tryd.results23 _ _ w.heap.size _ _ (by rfl) F2.out (zs_len 32) Tryd.underlying23 rfl sizeV) rfl ⟨rfl, G2.out⟩
  · go_enter Tryd.func23, Tryd.ntmps23
    go_wp2_with ((with_reducible refine at_ops ?_); (first | (refine wpList_alloc_is (by rfl) 23 rfl A1.out ?_) | (refine wpList_alloc_is (by rfl) 23 rfl A2.out ?_) | (refine wpList_load_is (by rfl) 23 rfl rfl L2.out ?_) | (refine wpList_store_is (by rfl) 23 rfl rfl rfl T2.out ?_)); simp only [Act.put, List.setIfInBounds_toArray, List.set_cons_zero, List.set_cons_succ])
    exact bodyPost_ret (results_val Tryd.results23 _ _ w.heap.size _ _ (by rfl) F2.out (zs_len 32) Tryd.underlying23 rfl sizeV) rfl ⟨rfl, G2.out⟩
set_option maxHeartbeats 1000000 in
set_option maxRecDepth 100000 in
theorem rdecode_short (p : Option Addr) (n c : Nat) (b : Int) (hb : inB b) (hn : n ≠ 64) (w : World) :
    Calls Tryd.prog 23 #[.slice p n c, .int .i64 b] w fun e w' => e = .returned (.tuple #[.agg (U8 (zs 32)).toArray, .int .i64 2]) ∧ Below w.heap.size w w' := by
  have A1 : Hid (_) := allocV w
  obtain ⟨w1, hw1⟩ : ∃ x, x = w.alloc (.cells (U8 (zs 32)).toArray 23) := ⟨_, rfl⟩
  have sz1 : w1.heap.size = w.heap.size + 1 := by rw [hw1]; simp
  have A2 : Hid (_) := allocV w1
  obtain ⟨w2, hw2⟩ : ∃ x, x = w1.alloc (.cells (U8 (zs 32)).toArray 23) := ⟨_, rfl⟩
  have Q2 : Hid (VAt w2 w.heap.size (zs 32)) := by rw [hw2, hw1]; exact LAt.later (LAt.new 23 w _) (below_alloc _ _)
  have R2 : Hid (VAt w2 (w.heap.size + 1) (zs 32)) := by rw [hw2, ← sz1]; exact LAt.new 23 w1 _
  have B2 : Hid (Below w.heap.size w w2) := by rw [hw2, hw1]; exact below_then (below_alloc _ _) (below_alloc _ _)
  rw [← hw1] at A1
  rw [sz1, ← hw2] at A2
  clear hw1 hw2 sz1
  have L2 : Hid (_) := VAt.load R2.out (zs_len 32)
  have T2 : Hid (_) := VAt.store (v := zs 32) Q2.out (zs_len 32) (zs_len 32)
  have F2 : Hid (VAt (w2.setRow w.heap.size (U8 (zs 32)).toArray) w.heap.size (zs 32)) := LAt.stored Q2.out _
  have G2 : Hid (Below w.heap.size w (w2.setRow w.heap.size (U8 (zs 32)).toArray)) := below_setRow B2.out (Nat.le_refl _) _
  have hb0 := hb.1
  have hb1 := hb.2
  have hn' : (((n : Nat) : Int) != 64) = true := by simp; omega
  clear hb
  go_enter Tryd.func23, Tryd.ntmps23
  go_wp2_with ((with_reducible refine at_ops ?_); (first | (refine wpList_alloc_is (by rfl) 23 rfl A1.out ?_) | (refine wpList_alloc_is (by rfl) 23 rfl A2.out ?_) | (refine wpList_load_is (by rfl) 23 rfl rfl L2.out ?_) | (refine wpList_store_is (by rfl) 23 rfl rfl rfl T2.out ?_)); simp only [Act.put, List.setIfInBounds_toArray, List.set_cons_zero, List.set_cons_succ])
  exact bodyPost_ret (results_val Tryd.results23 _ _ w.heap.size _ _ (by rfl) F2.out (zs_len 32) Tryd.underlying23 rfl sizeV) rfl ⟨rfl, G2.out⟩
/-- so many bytes of the value are in -/
def fillV (xs : List Int) (j : Nat) : List Int := xs.take j ++ zs (32 - j)
theorem fillV_len {xs : List Int} (h : xs.length = 32) {j : Nat} (hj : j ≤ 32) : (fillV xs j).length = 32 := by simp [fillV, zs_len, h]; omega
theorem fillV_step {xs : List Int} (h : xs.length = 32) {j : Nat} (hj : j < 32) : (fillV xs j).set j (xs.getD j 0) = fillV xs (j + 1) := by
  have hx : j < xs.length := by omega
  apply List.ext_getElem
  · rw [List.length_set, fillV_len h (by omega), fillV_len h (by omega)]
  · intro i h1 h2
    rw [List.length_set, fillV_len h (by omega)] at h1
    rw [List.getElem_set]
    by_cases c : j = i
    · subst c
      rw [if_pos rfl]
      simp only [fillV]
      rw [List.getElem_append_left (by simp; omega), List.getElem_take]
      simp [List.getD, List.getElem?_eq_getElem hx]
    · rw [if_neg c]
      simp only [fillV, zs]
      by_cases d : i < j
      · rw [List.getElem_append_left (by simp; omega), List.getElem_append_left (by simp; omega), List.getElem_take, List.getElem_take]
      · rw [List.getElem_append_right (by simp; omega), List.getElem_append_right (by simp; omega), List.getElem_replicate, List.getElem_replicate]
theorem fillV_zero (xs : List Int) : fillV xs 0 = zs 32 := rfl
theorem fillV_all {xs : List Int} (h : xs.length = 32) : fillV xs 32 = xs := by simp [fillV, zs, List.take_of_length_le (show xs.length ≤ 32 by omega)]
set_option maxHeartbeats 2000000 in
set_option maxRecDepth 100000 in
theorem rdecode_64 (p : Option Addr) (c : Nat) (xs : List Int) (b : Int) (hb : inB b) (w : World) (hx : BIn w p 64 xs) :
    Calls Tryd.prog 23 #[.slice p 64 c, .int .i64 b] w fun e w' => e = .returned (.tuple #[.agg (U8 (hdec xs b).1).toArray, .int .i64 (hdec xs b).2]) ∧ Below w.heap.size w w' := by
  obtain ⟨g, o, rfl, -⟩ := hx.cells (by omega)
  have A1 : Hid (_) := allocV w
  obtain ⟨w1, hw1⟩ : ∃ x, x = w.alloc (.cells (U8 (zs 32)).toArray 23) := ⟨_, rfl⟩
  have sz1 : w1.heap.size = w.heap.size + 1 := by rw [hw1]; simp
  have A2 : Hid (_) := allocV w1
  obtain ⟨w2, hw2⟩ : ∃ x, x = w1.alloc (.cells (U8 (zs 32)).toArray 23) := ⟨_, rfl⟩
  have Q2 : Hid (VAt w2 w.heap.size (zs 32)) := by rw [hw2, hw1]; exact LAt.later (LAt.new 23 w _) (below_alloc _ _)
  have R2 : Hid (VAt w2 (w.heap.size + 1) (zs 32)) := by rw [hw2, ← sz1]; exact LAt.new 23 w1 _
  have B2 : Hid (Below w.heap.size w w2) := by rw [hw2, hw1]; exact below_then (below_alloc _ _) (below_alloc _ _)
  rw [← hw1] at A1
  rw [sz1, ← hw2] at A2
  clear hw1 hw2 sz1
  have X2 : Hid (BIn w2 (some ⟨g, o, none⟩) 64 xs) := hx.later B2.out
  have HL : Hid (xs.length = 64) := hx.len
  have HY : Hid (Bytes xs) := hx.byte
  have HVL : Hid ((cutV xs).length = 32 ∧ Bytes (cutV xs)) := ⟨cutV_len HL.out, cutV_bytes HY.out⟩
  have HB : Hid (inB b) := hb
  have hb0 := hb.1
  have hb1 := hb.2
  have HX : Hid (BIn w (some ⟨g, o, none⟩) 64 xs) := hx
  clear hx hb
  go_enter Tryd.func23, Tryd.ntmps23
  go_wp2_with ((with_reducible refine at_ops ?_); (first | (refine wpList_alloc_is (by rfl) 23 rfl A1.out ?_) | (refine wpList_alloc_is (by rfl) 23 rfl A2.out ?_)); simp only [Act.put, List.setIfInBounds_toArray, List.set_cons_zero, List.set_cons_succ])
  go_loopw [7] (fun u wr => ∃ j : Nat, j ≤ 32 ∧ u = .int .i64 j ∧ Hid (VAt wr (w.heap.size + 1) (fillV (cutV xs) j) ∧ VAt wr w.heap.size (zs 32) ∧ Below w.heap.size w wr)) (fun u _ => 32 - (intOf u).toNat)
  case atStart => exact ⟨0, by omega, rfl, R2.out, Q2.out, B2.out⟩
  case round =>
    obtain ⟨j, hj, rfl, HR⟩ := hrel
    by_cases hlt : j < 32
    · have hcx : wr.cell? ⟨g, o + (28 + j), none⟩ = some (.int .u8 ((cutV xs).getD j 0)) := by
        have h1 := HX.out.later HR.out.2.2
        obtain ⟨b', o', e, hcc⟩ := h1.cells (by omega)
        simp only [Option.some.injEq, Addr.mk.injEq, and_true] at e
        obtain ⟨rfl, rfl⟩ := e
        rw [hcc (28 + j) (by omega)]
        congr 2
        unfold cutV
        simp [List.getD, List.getElem?_drop, hlt]
      have hcs : wr.cell? ⟨w.heap.size + 1, j, none⟩ = some (.int .u8 ((fillV (cutV xs) j).getD j 0)) := by
        rw [LAt.cell HR.out.1 j]
        simp [U8, List.getD, List.getElem?_eq_getElem (show j < (fillV (cutV xs) j).length by rw [fillV_len HVL.out.1 hj]; exact hlt)]
      have hfz := frozen_of_row wr (w.heap.size + 1) j _ 23 HR.out.1
      have HZ : Hid (VAt (wr.setCell ⟨w.heap.size + 1, j, none⟩ (.int .u8 ((cutV xs).getD j 0))) (w.heap.size + 1) (fillV (cutV xs) (j + 1)) ∧ VAt (wr.setCell ⟨w.heap.size + 1, j, none⟩ (.int .u8 ((cutV xs).getD j 0))) w.heap.size (zs 32) ∧ Below w.heap.size w (wr.setCell ⟨w.heap.size + 1, j, none⟩ (.int .u8 ((cutV xs).getD j 0)))) := by
        refine ⟨?_, LAt.setO HR.out.2.1 _ _ (by omega), HR.out.2.2.setCell (by show w.heap.size ≤ w.heap.size + 1; omega) _⟩
        have := LAt.set HR.out.1 j (.int .u8 ((cutV xs).getD j 0))
        rw [show (U8 (fillV (cutV xs) j)).set j (.int .u8 ((cutV xs).getD j 0)) = U8 (fillV (cutV xs) (j + 1)) by rw [← fillV_step HVL.out.1 hlt]; simp [U8, List.map_set]] at this
        exact this
      generalize (cutV xs).getD j 0 = z at *
      generalize (fillV (cutV xs) j).getD j 0 = y at *
      have i1 : (28 : Int) + (j : Int) < 64 := by omega
      have i0' : (0 : Int) ≤ 28 + (j : Int) := by omega
      clear HR X2
      go_wp2_with fail
      go_roundw
      case rel => exact ⟨j + 1, by omega, by go_num, HZ.out⟩
      case measure => simp [intOf]; omega
    · have hj4 : j = 32 := by omega
      have Rr : Hid (VAt wr (w.heap.size + 1) (cutV xs)) := by have := HR.out.1; rw [hj4, fillV_all HVL.out.1] at this; exact this
      have Qr : Hid (VAt wr w.heap.size (zs 32)) := HR.out.2.1
      have Br : Hid (Below w.heap.size w wr) := HR.out.2.2
      have Lr : Hid (_) := VAt.load Rr.out HVL.out.1
      clear HR hj4
      go_wp2_with ((with_reducible refine at_ops ?_); (refine wpList_load_is (by rfl) 23 rfl rfl Lr.out ?_); simp only [Act.put, List.setIfInBounds_toArray, List.set_cons_zero, List.set_cons_succ])
      clear Lr
      refine (rencode_good b (cutV xs) HB.out HVL.out.1 HVL.out.2 wr).mono ?_
      rintro e w3 ⟨g3, c3, rfl, m3⟩
      have B3 : Hid (Below w.heap.size w w3) := below_then Br.out m3.below
      have R3 : Hid (VAt w3 (w.heap.size + 1) (cutV xs)) := LAt.later Rr.out m3.below
      have Q3 : Hid (VAt w3 w.heap.size (zs 32)) := LAt.later Qr.out m3.below
      have z1 := m3.read.str c3
      have z2 := (HX.out.later B3.out).str c
      have ES : ((strOfNums (homeS b (cutV xs))).toList == (strOfNums xs).toList) = decide (homeS b (cutV xs) = xs) := str_eq _ _ m3.read.byte HY.out
      have HD : Hid ((decide (homeS b (cutV xs) = xs) = true → hdec xs b = (cutV xs, 0)) ∧ (decide (homeS b (cutV xs) = xs) = false → hdec xs b = (zs 32, 80))) := ⟨fun h => hdec_ok HB.out HL.out (by simpa using h), fun h => hdec_bad HB.out HL.out (by simpa using h)⟩
      clear m3 Br Rr Qr
      generalize homeS b (cutV xs) = hs at *
      generalize decide (hs = xs) = q at *
      cases q with
      | true =>
        have L3 : Hid (_) := VAt.load R3.out HVL.out.1
        have T3 : Hid (_) := VAt.store (v := cutV xs) Q3.out (zs_len 32) HVL.out.1
        have F3 : Hid (VAt (w3.setRow w.heap.size (U8 (cutV xs)).toArray) w.heap.size (cutV xs)) := LAt.stored Q3.out _
        have G3 : Hid (Below w.heap.size w (w3.setRow w.heap.size (U8 (cutV xs)).toArray)) := below_setRow B3.out (Nat.le_refl _) _
        have HE : Hid (_) := HD.out.1 rfl
        clear HD
        go_wp2_with ((with_reducible refine at_ops ?_); (first | (refine wpList_load_is (by rfl) 23 rfl rfl L3.out ?_) | (refine wpList_store_is (by rfl) 23 rfl rfl rfl T3.out ?_)); simp only [Act.put, List.setIfInBounds_toArray, List.set_cons_zero, List.set_cons_succ])
        rw [HE.out]
        exact bodyPost_ret (results_val Tryd.results23 _ _ w.heap.size _ _ (by rfl) F3.out HVL.out.1 Tryd.underlying23 rfl sizeV) rfl ⟨rfl, G3.out⟩
      | false =>
        have U3 : Hid (_) := buildV w3
        have T3 : Hid (_) := VAt.store (v := zs 32) Q3.out (zs_len 32) (zs_len 32)
        have F3 : Hid (VAt (w3.setRow w.heap.size (U8 (zs 32)).toArray) w.heap.size (zs 32)) := LAt.stored Q3.out _
        have G3 : Hid (Below w.heap.size w (w3.setRow w.heap.size (U8 (zs 32)).toArray)) := below_setRow B3.out (Nat.le_refl _) _
        have HE : Hid (_) := HD.out.2 rfl
        clear HD
        go_wp2_with ((with_reducible refine at_ops ?_); (first | (refine wpList_build_is (vs := []) (by rfl) 23 rfl (by rfl) U3.out ?_) | (refine wpList_store_is (by rfl) 23 rfl rfl rfl T3.out ?_)); simp only [Act.put, List.setIfInBounds_toArray, List.set_cons_zero, List.set_cons_succ])
        rw [HE.out]
        exact bodyPost_ret (results_val Tryd.results23 _ _ w.heap.size _ _ (by rfl) F3.out (zs_len 32) Tryd.underlying23 rfl sizeV) rfl ⟨rfl, G3.out⟩
theorem rdecode_any (p : Option Addr) (n c : Nat) (xs : List Int) (b : Int) (w : World) (hx : BIn w p n xs) :
    Calls Tryd.prog 23 #[.slice p n c, .int .i64 b] w fun e w' => e = .returned (.tuple #[.agg (U8 (hdec xs b).1).toArray, .int .i64 (hdec xs b).2]) ∧ Below w.heap.size w w' := by
  by_cases hb : inB b
  · by_cases hn : n = 64
    · subst hn
      exact rdecode_64 p c xs b hb w hx
    · rw [hdec_short hb (by rw [hx.len]; exact hn)]
      exact rdecode_short p n c b hb hn w
  · rw [hdec_out xs hb]
    exact rdecode_out p n c b hb w
end Go.Proofs.YtpenddnmmfpdjaaDoor
