/-
  Layer 17: CacheNames, walked.
-/
import Derived.Test.YthcpnfelnonhnaaQg
import Derived.Deep.Cut
import Derived.Deep.CutBlock
namespace Go.Proofs.Ythcpnfelnonhnaa
open Go.RowKit

set_option maxHeartbeats 2000000 in
set_option maxRecDepth 100000 in
theorem cacheNames_any (w : World) : Calls Try.prog 3 #[] w fun e w' => e = .returned (.bool true) ∧ Below w.heap.size w w' := by
  go_enter Try.func3, Try.ntmps3
  dsimp only [List.append]
  go_wp2_with fail
  refine (fixed_is w).mono ?_
  rintro e w1 ⟨rfl, b1⟩
  have HB1 : Hid (Below w.heap.size w w1) := b1
  clear b1
  go_wp2_with fail
  refine (new_at (n := 3) (by decide) (by decide) w1).mono ?_
  rintro e w2 ⟨rfl, hC2, b2⟩
  obtain ⟨u1, u2, u3, z1, z2, z3, g1, g2, g3, h1, h2, h3, v1, v2, v3, bz⟩ := threeV w2
  have HN3 : Hid (Nm w z3 w1.heap.size (.slice none 0 0) [] 0 w2.heap.size) := ⟨below_then HB1.out (below_then b2 bz), hC2.later bz, HB1.out.size, fun g hg => (by cases hg), v1, v2, v3⟩
  have A1 : Hid ((Instr.alloc 28 true (.tuple #[])).run Try.prog w2 = .ok (.pointer (some ⟨w2.heap.size, 0, none⟩)) u1) := g1
  have A2 : Hid ((Instr.alloc 28 true (.tuple #[])).run Try.prog u1 = .ok (.pointer (some ⟨w2.heap.size + 1, 0, none⟩)) u2) := g2
  have A3 : Hid ((Instr.alloc 28 true (.tuple #[])).run Try.prog u2 = .ok (.pointer (some ⟨w2.heap.size + 1 + 1, 0, none⟩)) u3) := g3
  have S1 : Hid ((Instr.storeAt 28 (.pointer (some ⟨w2.heap.size, 0, none⟩)) (.agg (U8 (vk 1)).toArray)).run Try.prog u3 = .ok () z1) := h1
  have S2 : Hid ((Instr.storeAt 28 (.pointer (some ⟨w2.heap.size + 1, 0, none⟩)) (.agg (U8 (vk 2)).toArray)).run Try.prog z1 = .ok () z2) := h2
  have S3 : Hid ((Instr.storeAt 28 (.pointer (some ⟨w2.heap.size + 1 + 1, 0, none⟩)) (.agg (U8 (vk 3)).toArray)).run Try.prog z2 = .ok () z3) := h3
  have G1 : Hid ((Instr.build 28 #[(0, .int .u8 1)]).run Try.prog w2 = .ok (.agg (U8 (vk 1)).toArray) w2) := buildk w2 1
  have G2 : Hid ((Instr.build 28 #[(0, .int .u8 2)]).run Try.prog w2 = .ok (.agg (U8 (vk 2)).toArray) w2) := buildk w2 2
  have G3 : Hid ((Instr.build 28 #[(0, .int .u8 3)]).run Try.prog w2 = .ok (.agg (U8 (vk 3)).toArray) w2) := buildk w2 3
  clear hC2 b2 g1 g2 g3 h1 h2 h3 v1 v2 v3 bz HB1
  generalize w1.heap.size = Q at *
  generalize w2.heap.size = b at *
  have L1 : Hid ((Instr.loadAt 28 (.pointer (some ⟨b, 0, none⟩))).run Try.prog z3 = .ok (.agg (U8 (vk 1)).toArray) z3) := VAt.load HN3.out.va (vk_len 1)
  have L2 : Hid ((Instr.loadAt 28 (.pointer (some ⟨b + 1, 0, none⟩))).run Try.prog z3 = .ok (.agg (U8 (vk 2)).toArray) z3) := VAt.load HN3.out.vb (vk_len 2)
  have J1 : Hid ((Instr.build 31 #[(0, .int .i64 0), (1, .agg (U8 (vk 1)).toArray)]).run Try.prog z3 = .ok (.agg (icells ⟨0, vk 1⟩).toArray) z3) := buildI z3 0 (vk 1) (vk_len 1)
  have J2 : Hid ((Instr.build 31 #[(0, .int .i64 2), (1, .agg (U8 (vk 2)).toArray)]).run Try.prog z3 = .ok (.agg (icells ⟨2, vk 2⟩).toArray) z3) := buildI z3 2 (vk 2) (vk_len 2)
  obtain ⟨w4, hw4⟩ : ∃ w4, w4 = z3.alloc (.cells (IC [(⟨0, vk 1⟩ : Im), ⟨2, vk 2⟩]).toArray 31) := ⟨_, rfl⟩
  have K1 : Hid ((Instr.buildSlice 32 2 #[(0, .agg (icells ⟨0, vk 1⟩).toArray), (1, .agg (icells ⟨2, vk 2⟩).toArray)]).run Try.prog z3 = .ok (.slice (some ⟨z3.heap.size, 0, none⟩) 2 2) w4) := by rw [hw4]; exact build_im2 z3 ⟨0, vk 1⟩ ⟨2, vk 2⟩ (vk_len 1) (vk_len 2)
  have b4 : Below z3.heap.size z3 w4 := by rw [hw4]; exact below_alloc _ _
  have l4 : LAt 31 w4 z3.heap.size (IC [⟨0, vk 1⟩, ⟨2, vk 2⟩]) := by rw [hw4]; exact LAt.new _ _ _
  have HN4 : Hid (Nm w w4 Q (.slice none 0 0) [] 0 b) := HN3.out.later b4
  have HP4 : Hid (Calls Try.prog 7 #[.pointer (some ⟨Q, 0, none⟩), .slice (some ⟨z3.heap.size, 0, none⟩) 2 2, .int .u64 7] w4 fun r w' => r = .returned (.int .i64 0) ∧ ∃ ve', Wrt w4 w' Q 3 (.slice none 0 0) ve' L1n 8) := HN4.out.puts (g := z3.heap.size) (c := 2) (l := [⟨0, vk 1⟩, ⟨2, vk 2⟩]) (ps := 7) (e := 0) (L' := L1n) (nx' := 8) (Okc.new (by decide) (by decide)) l4 (ims2 (im_wf (by decide) (by decide)) (im_wf (by decide) (by decide))) (by decide) (by decide) pa.1 pa.2.1 pa.2.2
  clear hw4 b4 l4 HN3
  go_upto_region 5 with ((with_reducible refine at_ops ?_); (first | ((first | (refine wpList_build_is (vs := [(0, .int .u8 1)]) (by rfl) 28 rfl (by rfl) G1.out ?_) | (refine wpList_build_is (vs := [(0, .int .u8 2)]) (by rfl) 28 rfl (by rfl) G2.out ?_) | (refine wpList_build_is (vs := [(0, .int .u8 3)]) (by rfl) 28 rfl (by rfl) G3.out ?_) | (refine wpList_alloc_is (by rfl) 28 rfl A1.out ?_) | (refine wpList_alloc_is (by rfl) 28 rfl A2.out ?_) | (refine wpList_alloc_is (by rfl) 28 rfl A3.out ?_)); simp only [Act.put, List.setIfInBounds_toArray, List.set_cons_zero, List.set_cons_succ]) | ((first | (refine wpList_store_is (by rfl) 28 rfl rfl rfl S1.out ?_) | (refine wpList_store_is (by rfl) 28 rfl rfl rfl S2.out ?_) | (refine wpList_store_is (by rfl) 28 rfl rfl rfl S3.out ?_)); simp only [Act.put])))
  clear A1 A2 A3 S1 S2 S3 G1 G2 G3
  go_wp2_with ((with_reducible refine at_ops ?_); (first | (refine wpList_load_is (by rfl) 28 rfl rfl L1.out ?_) | (refine wpList_load_is (by rfl) 28 rfl rfl L2.out ?_) | (refine wpList_build_is (vs := [(0, .int .i64 0), (1, .agg (U8 (vk 1)).toArray)]) (by rfl) 31 rfl (by rfl) J1.out ?_) | (refine wpList_build_is (vs := [(0, .int .i64 2), (1, .agg (U8 (vk 2)).toArray)]) (by rfl) 31 rfl (by rfl) J2.out ?_) | (refine wpList_sliceN_is (vs := [(0, .agg (icells ⟨0, vk 1⟩).toArray), (1, .agg (icells ⟨2, vk 2⟩).toArray)]) (by rfl) 32 2 rfl rfl K1.out ?_)); simp only [Act.put, List.setIfInBounds_toArray, List.set_cons_zero, List.set_cons_succ])
  clear L1 L2 J1 J2 K1
  refine HP4.out.mono ?_
  rintro e w5 ⟨rfl, ve5, hW5⟩
  have HN5 : Hid (Nm w w5 Q ve5 L1n 8 b) := HN4.out.put hW5
  clear hW5 HP4 HN4
  have L3 : Hid ((Instr.loadAt 28 (.pointer (some ⟨b + 1 + 1, 0, none⟩))).run Try.prog w5 = .ok (.agg (U8 (vk 3)).toArray) w5) := VAt.load HN5.out.vd (vk_len 3)
  have J3 : Hid ((Instr.build 31 #[(0, .int .i64 2), (1, .agg (U8 (vk 3)).toArray)]).run Try.prog w5 = .ok (.agg (icells ⟨2, vk 3⟩).toArray) w5) := buildI w5 2 (vk 3) (vk_len 3)
  obtain ⟨w6, hw6⟩ : ∃ w6, w6 = w5.alloc (.cells (icells ⟨2, vk 3⟩).toArray 31) := ⟨_, rfl⟩
  have K3 : Hid ((Instr.buildSlice 32 1 #[(0, .agg (icells ⟨2, vk 3⟩).toArray)]).run Try.prog w5 = .ok (.slice (some ⟨w5.heap.size, 0, none⟩) 1 1) w6) := by rw [hw6]; exact build_im w5 ⟨2, vk 3⟩ (vk_len 3)
  have b6 : Below w5.heap.size w5 w6 := by rw [hw6]; exact below_alloc _ _
  have l6 : LAt 31 w6 w5.heap.size (icells ⟨2, vk 3⟩) := by rw [hw6]; exact LAt.new _ _ _
  have HN6 : Hid (Nm w w6 Q ve5 L1n 8 b) := HN5.out.later b6
  have HP6 : Hid (Calls Try.prog 7 #[.pointer (some ⟨Q, 0, none⟩), .slice (some ⟨w5.heap.size, 0, none⟩) 1 1, .int .u64 9] w6 fun r w' => r = .returned (.int .i64 0) ∧ ∃ ve', Wrt w6 w' Q 3 ve5 ve' L2n 10) := HN6.out.puts (g := w5.heap.size) (c := 1) (l := [⟨2, vk 3⟩]) (ps := 9) (e := 0) (L' := L2n) (nx' := 10) okL1 (lat_one l6) (ims1 (im_wf (by decide) (by decide))) (by decide) (by decide) pb.1 pb.2.1 pb.2.2
  clear hw6 b6 l6 HN5
  go_wp2_with ((with_reducible refine at_ops ?_); (first | (refine wpList_load_is (by rfl) 28 rfl rfl L3.out ?_) | (refine wpList_build_is (vs := [(0, .int .i64 2), (1, .agg (U8 (vk 3)).toArray)]) (by rfl) 31 rfl (by rfl) J3.out ?_) | (refine wpList_slice_is (u := .agg (icells ⟨2, vk 3⟩).toArray) (by rfl) 32 rfl rfl K3.out ?_)); simp only [Act.put, List.setIfInBounds_toArray, List.set_cons_zero, List.set_cons_succ])
  clear L3 J3 K3
  refine HP6.out.mono ?_
  rintro e w7 ⟨rfl, ve7, hW7⟩
  have HN7 : Hid (Nm w w7 Q ve7 L2n 10 b) := HN6.out.put hW7
  clear hW7 HP6 HN6
  go_wp2_with fail
  refine (entries_any (HN7.out.cac.stands (okL2 (by decide)))).mono ?_
  rintro e w8 ⟨vl, rfl, ho8, b8⟩
  obtain ⟨pl, cl, rfl, hE8, -, -⟩ := EOwn.in ho8 (okL2 (nx := 10) (by decide)).wf
  have hO8 : ∀ g, (Value.slice pl 2 cl).ownBlock = some g → w7.heap.size ≤ g ∧ g < w8.heap.size := fun g hg => ho8.lt g hg
  obtain ⟨bl, ol, rfl, -⟩ := hE8.cells (by decide)
  have NL8 : Hid (Nl w8 Q ve7 bl ol 2 L2n) := ⟨hE8, (hO8 bl rfl).2, by
    have h1 := (hO8 bl rfl).1
    rintro (e | e)
    · have := HN7.out.cac.lt; omega
    · have := (HN7.out.cac.row.lt _ e).2; omega⟩
  have HN8 : Hid (Nm w w8 Q ve7 L2n 10 b) := HN7.out.later b8
  clear ho8 hE8 hO8 b8 HN7
  go_wp2_with fail
  refine (HN8.out.put0 (ps := 9) (okL2 (by decide)) (by decide) pc.1 pc.2.1 pc.2.2).mono ?_
  rintro e w9 ⟨rfl, ve9, hW9⟩
  have HN9 : Hid (Nm w w9 Q ve9 L2n 10 b) := HN8.out.put hW9
  have NL9 : Hid (Nl w9 Q ve9 bl ol 2 L2n) := NL8.out.put hW9
  clear hW9 HN8 NL8
  go_wp2_with fail
  refine (HN9.out.put0 (ps := 10) (okL2 (by decide)) (by decide) pd.1 pd.2.1 pd.2.2).mono ?_
  rintro e w10 ⟨rfl, ve10, hW10⟩
  have HN10 : Hid (Nm w w10 Q ve10 L2n 11 b) := HN9.out.put hW10
  have NL10 : Hid (Nl w10 Q ve10 bl ol 2 L2n) := NL9.out.put hW10
  clear hW10 HN9 NL9
  have J4 : Hid ((Instr.build 31 #[(0, .int .i64 2)]).run Try.prog w10 = .ok (.agg (icells ⟨2, zs 32⟩).toArray) w10) := buildIb w10 2
  have J5 : Hid ((Instr.build 31 #[(0, .int .i64 0)]).run Try.prog w10 = .ok (.agg (icells ⟨0, zs 32⟩).toArray) w10) := buildIb w10 0
  obtain ⟨w11, hw11⟩ : ∃ w11, w11 = w10.alloc (.cells (IC [(⟨2, zs 32⟩ : Im), ⟨0, zs 32⟩]).toArray 31) := ⟨_, rfl⟩
  have K4 : Hid ((Instr.buildSlice 32 2 #[(0, .agg (icells ⟨2, zs 32⟩).toArray), (1, .agg (icells ⟨0, zs 32⟩).toArray)]).run Try.prog w10 = .ok (.slice (some ⟨w10.heap.size, 0, none⟩) 2 2) w11) := by rw [hw11]; exact build_im2 w10 ⟨2, zs 32⟩ ⟨0, zs 32⟩ (zs_len 32) (zs_len 32)
  have b11 : Below w10.heap.size w10 w11 := by rw [hw11]; exact below_alloc _ _
  have l11 : LAt 31 w11 w10.heap.size (IC [⟨2, zs 32⟩, ⟨0, zs 32⟩]) := by rw [hw11]; exact LAt.new _ _ _
  have HN11 : Hid (Nm w w11 Q ve10 L2n 11 b) := HN10.out.later b11
  have NL11 : Hid (Nl w11 Q ve10 bl ol 2 L2n) := NL10.out.later b11
  have HP11 : Hid (Calls Try.prog 7 #[.pointer (some ⟨Q, 0, none⟩), .slice (some ⟨w10.heap.size, 0, none⟩) 2 2, .int .u64 11] w11 fun r w' => r = .returned (.int .i64 53) ∧ ∃ ve', Wrt w11 w' Q 3 ve10 ve' L2n 11) := HN11.out.puts (g := w10.heap.size) (c := 2) (l := [⟨2, zs 32⟩, ⟨0, zs 32⟩]) (ps := 11) (e := 53) (L' := L2n) (nx' := 11) (okL2 (by decide)) l11 (ims2 (wf0 (by decide)) (wf0 (by decide))) (by decide) (by decide) pe.1 pe.2.1 pe.2.2
  clear hw11 b11 l11 HN10 NL10
  go_wp2_with ((with_reducible refine at_ops ?_); (first | (refine wpList_build_is (vs := [(0, .int .i64 2)]) (by rfl) 31 rfl (by rfl) J4.out ?_) | (refine wpList_build_is (vs := [(0, .int .i64 0)]) (by rfl) 31 rfl (by rfl) J5.out ?_) | (refine wpList_sliceN_is (vs := [(0, .agg (icells ⟨2, zs 32⟩).toArray), (1, .agg (icells ⟨0, zs 32⟩).toArray)]) (by rfl) 32 2 rfl rfl K4.out ?_)); simp only [Act.put, List.setIfInBounds_toArray, List.set_cons_zero, List.set_cons_succ])
  clear J4 J5 K4
  refine HP11.out.mono ?_
  rintro e w12 ⟨rfl, ve12, hW12⟩
  have HN12 : Hid (Nm w w12 Q ve12 L2n 11 b) := HN11.out.put hW12
  have NL12 : Hid (Nl w12 Q ve12 bl ol 2 L2n) := NL11.out.put hW12
  clear hW12 HN11 NL11 HP11
  have J6 : Hid ((Instr.build 31 #[(0, .int .i64 3)]).run Try.prog w12 = .ok (.agg (icells ⟨3, zs 32⟩).toArray) w12) := buildIb w12 3
  obtain ⟨w13, hw13⟩ : ∃ w13, w13 = w12.alloc (.cells (icells ⟨3, zs 32⟩).toArray 31) := ⟨_, rfl⟩
  have K6 : Hid ((Instr.buildSlice 32 1 #[(0, .agg (icells ⟨3, zs 32⟩).toArray)]).run Try.prog w12 = .ok (.slice (some ⟨w12.heap.size, 0, none⟩) 1 1) w13) := by rw [hw13]; exact build_im w12 ⟨3, zs 32⟩ (zs_len 32)
  have b13 : Below w12.heap.size w12 w13 := by rw [hw13]; exact below_alloc _ _
  have l13 : LAt 31 w13 w12.heap.size (icells ⟨3, zs 32⟩) := by rw [hw13]; exact LAt.new _ _ _
  have HN13 : Hid (Nm w w13 Q ve12 L2n 11 b) := HN12.out.later b13
  have NL13 : Hid (Nl w13 Q ve12 bl ol 2 L2n) := NL12.out.later b13
  have HP13 : Hid (Calls Try.prog 7 #[.pointer (some ⟨Q, 0, none⟩), .slice (some ⟨w12.heap.size, 0, none⟩) 1 1, .int .u64 11] w13 fun r w' => r = .returned (.int .i64 51) ∧ ∃ ve', Wrt w13 w' Q 3 ve12 ve' L2n 11) := HN13.out.puts (g := w12.heap.size) (c := 1) (l := [⟨3, zs 32⟩]) (ps := 11) (e := 51) (L' := L2n) (nx' := 11) (okL2 (by decide)) (lat_one l13) (ims1 (wf0 (by decide))) (by decide) (by decide) pf.1 pf.2.1 pf.2.2
  clear hw13 b13 l13 HN12 NL12
  go_wp2_with ((with_reducible refine at_ops ?_); (first | (refine wpList_build_is (vs := [(0, .int .i64 3)]) (by rfl) 31 rfl (by rfl) J6.out ?_) | (refine wpList_slice_is (u := .agg (icells ⟨3, zs 32⟩).toArray) (by rfl) 32 rfl rfl K6.out ?_)); simp only [Act.put, List.setIfInBounds_toArray, List.set_cons_zero, List.set_cons_succ])
  clear J6 K6
  refine HP13.out.mono ?_
  rintro e w14 ⟨rfl, ve14, hW14⟩
  have HN14 : Hid (Nm w w14 Q ve14 L2n 11 b) := HN13.out.put hW14
  have NL14 : Hid (Nl w14 Q ve14 bl ol 2 L2n) := NL13.out.put hW14
  clear hW14 HN13 NL13 HP13
  go_wp2_with fail
  refine (last_at HN14.out.cac (by decide) (by decide)).mono ?_
  rintro e w14' ⟨rfl, rfl⟩
  rw [show lasV 11 = 10 from rfl, show lasB 11 = true from rfl]
  go_upto_region 13 with fail
  go_cut [108] from 68 to 108 (fun v W => v = .bool false ∧ Hid (Below w14'.heap.size w14' W))
  case first =>
    have HD : Hid (Below w14'.heap.size w14' w14'.drew) := below_drawn 1
    have NL : Hid (Nl w14'.drew Q ve14 bl ol 2 L2n) := NL14.out.later HD.out
    have LV1 : Hid (∀ W, Below w14'.drew.heap.size w14'.drew W → (Instr.loadAt 28 (.pointer (some ⟨b, 0, none⟩))).run Try.prog W = .ok (.agg (U8 (vk 1)).toArray) W) := fun W hW => VAt.load ((HN14.out.later HD.out).later hW).va (vk_len 1)
    have LV3 : Hid (∀ W, Below w14'.drew.heap.size w14'.drew W → (Instr.loadAt 28 (.pointer (some ⟨b + 1 + 1, 0, none⟩))).run Try.prog W = .ok (.agg (U8 (vk 3)).toArray) W) := fun W hW => VAt.load ((HN14.out.later HD.out).later hW).vd (vk_len 3)
    go_wp2_with fail
    refine wp_region_noPanic ?_
    refine wp_region_held_drew (S := fun W => Below w14'.drew.heap.size w14'.drew W) (by kernel_rfl) (Below.refl _ _) (fun hHeld => ?_)
    generalize w14'.drew = wD at *
    refine wpAnyH_take (i := 0) (v := ?va1) (by simp; rfl) (by kernel_rfl) (by kernel_rfl) (by kernel_rfl) (fun _ _ _ h => h) (Or.inl ⟨by rfl, ?ya1⟩) hHeld ?ra1
    case ya1 => intro w hSw; clear hSw; go_simp; with_reducible rfl
    simp only [Act.put, List.setIfInBounds_toArray, List.set_cons_zero, List.set_cons_succ]
    refine wpAnyH_take (i := 1) (v := ?va2) (by simp; rfl) (by kernel_rfl) (by kernel_rfl) (by kernel_rfl) (fun _ _ _ h => h) (Or.inl ⟨by rfl, ?ya2⟩) hHeld ?ra2
    case ya2 => intro w hSw; clear hSw; go_simp; with_reducible rfl
    simp only [Act.put, List.setIfInBounds_toArray, List.set_cons_zero, List.set_cons_succ]
    refine wpAnyH_take (i := 2) (v := ?va3) (by simp; rfl) (by kernel_rfl) (by kernel_rfl) (by kernel_rfl) (fun _ _ _ h => h) (Or.inl ⟨by rfl, ?ya3⟩) hHeld ?ra3
    case ya3 => intro w hSw; clear hSw; go_simp; with_reducible rfl
    simp only [Act.put, List.setIfInBounds_toArray, List.set_cons_zero, List.set_cons_succ]
    refine wpAnyH_take (i := 3) (v := ?va4) (by simp; rfl) (by kernel_rfl) (by kernel_rfl) (by kernel_rfl) (fun _ _ _ h => h) (Or.inl ⟨by rfl, ?ya4⟩) hHeld ?ra4
    case ya4 => intro w hSw; clear hSw; go_simp; with_reducible rfl
    simp only [Act.put, List.setIfInBounds_toArray, List.set_cons_zero, List.set_cons_succ]
    refine wpAnyH_take (i := 4) (v := ?va5) (by simp; rfl) (by kernel_rfl) (by kernel_rfl) (by kernel_rfl) (fun _ _ _ h => h) (Or.inl ⟨by rfl, ?ya5⟩) hHeld ?ra5
    case ya5 => intro w hSw; clear hSw; go_simp; with_reducible rfl
    simp only [Act.put, List.setIfInBounds_toArray, List.set_cons_zero, List.set_cons_succ]
    refine wpAnyH_take (i := 5) (v := ?va6) (by simp; rfl) (by kernel_rfl) (by kernel_rfl) (by kernel_rfl) (fun _ _ _ h => h) (Or.inl ⟨by rfl, ?ya6⟩) hHeld ?ra6
    case ya6 => intro w hSw; clear hSw; go_simp; with_reducible rfl
    simp only [Act.put, List.setIfInBounds_toArray, List.set_cons_zero, List.set_cons_succ]
    refine wpAnyH_take (i := 6) (v := ?va7) (by simp; rfl) (by kernel_rfl) (by kernel_rfl) (by kernel_rfl) (fun _ _ _ h => h) (Or.inl ⟨by rfl, ?ya7⟩) hHeld ?ra7
    case ya7 => intro w hSw; clear hSw; go_simp; with_reducible rfl
    simp only [Act.put, List.setIfInBounds_toArray, List.set_cons_zero, List.set_cons_succ]
    refine wpAnyH_take (i := 7) (v := ?va8) (by simp; rfl) (by kernel_rfl) (by kernel_rfl) (by kernel_rfl) (fun _ _ _ h => h) (Or.inl ⟨by rfl, ?ya8⟩) hHeld ?ra8
    case ya8 => intro w hSw; clear hSw; go_simp; with_reducible rfl
    simp only [Act.put, List.setIfInBounds_toArray, List.set_cons_zero, List.set_cons_succ]
    refine wpAnyH_take (i := 8) (v := ?va9) (by simp; rfl) (by kernel_rfl) (by kernel_rfl) (by kernel_rfl) (fun _ _ _ h => h) (Or.inl ⟨by rfl, ?ya9⟩) hHeld ?ra9
    case ya9 => intro w hSw; clear hSw; go_simp; with_reducible rfl
    simp only [Act.put, List.setIfInBounds_toArray, List.set_cons_zero, List.set_cons_succ]
    refine wpAnyH_take (i := 9) (v := ?va10) (by simp; rfl) (by kernel_rfl) (by kernel_rfl) (by kernel_rfl) (fun _ _ _ h => h) (Or.inl ⟨by rfl, ?ya10⟩) hHeld ?ra10
    case ya10 => intro w hSw; clear hSw; go_simp; with_reducible rfl
    simp only [Act.put, List.setIfInBounds_toArray, List.set_cons_zero, List.set_cons_succ]
    refine wpAnyH_take (i := 10) (v := ?va11) (by simp; rfl) (by kernel_rfl) (by kernel_rfl) (by kernel_rfl) (fun _ _ _ h => h) (Or.inl ⟨by rfl, ?ya11⟩) hHeld ?ra11
    case ya11 => intro w hSw; clear hSw; go_simp; with_reducible rfl
    simp only [Act.put, List.setIfInBounds_toArray, List.set_cons_zero, List.set_cons_succ]
    refine wpAnyH_take (i := 11) (v := ?va12) (by simp; rfl) (by kernel_rfl) (by kernel_rfl) (by kernel_rfl) (fun _ _ _ h => h) (Or.inl ⟨by rfl, ?ya12⟩) hHeld ?ra12
    case ya12 => intro w hSw; clear hSw; go_simp; with_reducible rfl
    simp only [Act.put, List.setIfInBounds_toArray, List.set_cons_zero, List.set_cons_succ]
    refine wpAnyH_take (i := 12) (v := ?va13) (by simp; rfl) (by kernel_rfl) (by kernel_rfl) (by kernel_rfl) (fun _ _ _ h => h) (Or.inl ⟨by rfl, ?ya13⟩) hHeld ?ra13
    case ya13 => intro w hSw; clear hSw; go_simp; with_reducible rfl
    simp only [Act.put, List.setIfInBounds_toArray, List.set_cons_zero, List.set_cons_succ]
    refine wpAnyH_take (i := 13) (v := ?va14) (by simp; rfl) (by kernel_rfl) (by kernel_rfl) (by kernel_rfl) (fun _ _ _ h => h) (Or.inl ⟨by rfl, ?ya14⟩) hHeld ?ra14
    case ya14 => intro w hSw; clear hSw; go_simp; with_reducible rfl
    simp only [Act.put, List.setIfInBounds_toArray, List.set_cons_zero, List.set_cons_succ]
    refine wpAnyH_take (i := 14) (v := ?va15) (by simp; rfl) (by kernel_rfl) (by kernel_rfl) (by kernel_rfl) (fun _ _ _ h => h) (Or.inl ⟨by rfl, ?ya15⟩) hHeld ?ra15
    case ya15 => intro w hSw; clear hSw; go_simp; with_reducible rfl
    simp only [Act.put, List.setIfInBounds_toArray, List.set_cons_zero, List.set_cons_succ]
    refine wpAnyH_take (i := 15) (v := ?va16) (by simp; rfl) (by kernel_rfl) (by kernel_rfl) (by kernel_rfl) (fun _ _ _ h => h) (Or.inl ⟨by rfl, ?ya16⟩) hHeld ?ra16
    case ya16 => intro w hSw; clear hSw; go_simp; with_reducible rfl
    simp only [Act.put, List.setIfInBounds_toArray, List.set_cons_zero, List.set_cons_succ]
    refine wpAnyH_take (i := 16) (v := ?va17) (by simp; rfl) (by kernel_rfl) (by kernel_rfl) (by kernel_rfl) (fun _ _ _ h => h) (Or.inl ⟨by rfl, ?ya17⟩) hHeld ?ra17
    case ya17 => intro w hSw; clear hSw; go_simp; with_reducible rfl
    simp only [Act.put, List.setIfInBounds_toArray, List.set_cons_zero, List.set_cons_succ]
    refine wpAnyH_take (i := 17) (v := ?va18) (by simp; rfl) (by kernel_rfl) (by kernel_rfl) (by kernel_rfl) (fun _ _ _ h => h) (Or.inl ⟨by rfl, ?ya18⟩) hHeld ?ra18
    case ya18 => intro w hSw; clear hSw; go_simp; with_reducible rfl
    simp only [Act.put, List.setIfInBounds_toArray, List.set_cons_zero, List.set_cons_succ]
    refine wpAnyH_take (i := 18) (v := ?va19) (by simp; rfl) (by kernel_rfl) (by kernel_rfl) (by kernel_rfl) (fun _ _ _ h => h) (Or.inl ⟨by rfl, ?ya19⟩) hHeld ?ra19
    case ya19 => intro w hSw; clear hSw; go_simp; with_reducible rfl
    simp only [Act.put, List.setIfInBounds_toArray, List.set_cons_zero, List.set_cons_succ]
    refine wpAnyH_take (i := 19) (v := ?va20) (by simp; rfl) (by kernel_rfl) (by kernel_rfl) (by kernel_rfl) (fun _ _ _ h => h) (Or.inl ⟨by rfl, ?ya20⟩) hHeld ?ra20
    case ya20 => intro w hSw; clear hSw; go_simp; with_reducible rfl
    simp only [Act.put, List.setIfInBounds_toArray, List.set_cons_zero, List.set_cons_succ]
    refine wpAnyH_take (i := 20) (v := ?va21) (by simp; rfl) (by kernel_rfl) (by kernel_rfl) (by kernel_rfl) (fun _ _ _ h => h) (Or.inl ⟨by rfl, ?ya21⟩) hHeld ?ra21
    case ya21 => intro w hSw; clear hSw; go_simp; with_reducible rfl
    simp only [Act.put, List.setIfInBounds_toArray, List.set_cons_zero, List.set_cons_succ]
    refine wpAnyH_take (i := 21) (v := ?va22) (by simp; rfl) (by kernel_rfl) (by kernel_rfl) (by kernel_rfl) (fun _ _ _ h => h) (Or.inl ⟨by rfl, ?ya22⟩) hHeld ?ra22
    case ya22 => intro w hSw; clear hSw; go_simp; with_reducible rfl
    simp only [Act.put, List.setIfInBounds_toArray, List.set_cons_zero, List.set_cons_succ]
    refine wpAnyH_take (i := 22) (v := ?va23) (by simp; rfl) (by kernel_rfl) (by kernel_rfl) (by kernel_rfl) (fun _ _ _ h => h) (Or.inl ⟨by rfl, ?ya23⟩) hHeld ?ra23
    case ya23 => intro w hSw; clear hSw; go_simp; with_reducible rfl
    simp only [Act.put, List.setIfInBounds_toArray, List.set_cons_zero, List.set_cons_succ]
    refine wpAnyH_take (i := 23) (v := ?va24) (by simp; rfl) (by kernel_rfl) (by kernel_rfl) (by kernel_rfl) (fun _ _ _ h => h) (Or.inl ⟨by rfl, ?ya24⟩) hHeld ?ra24
    case ya24 => intro w hSw; clear hSw; go_simp; with_reducible rfl
    simp only [Act.put, List.setIfInBounds_toArray, List.set_cons_zero, List.set_cons_succ]
    refine wpAnyH_take (i := 24) (v := ?va25) (by simp; rfl) (by kernel_rfl) (by kernel_rfl) (by kernel_rfl) (fun _ _ _ h => h) (Or.inl ⟨by rfl, ?ya25⟩) hHeld ?ra25
    case ya25 => intro w hSw; clear hSw; go_simp; with_reducible rfl
    simp only [Act.put, List.setIfInBounds_toArray, List.set_cons_zero, List.set_cons_succ]
    refine wpAnyH_take (i := 25) (v := ?va26) (by simp; rfl) (by kernel_rfl) (by kernel_rfl) (by kernel_rfl) (fun _ _ _ h => h) (Or.inl ⟨by rfl, ?ya26⟩) hHeld ?ra26
    case ya26 => intro w hSw; clear hSw; go_simp; with_reducible rfl
    simp only [Act.put, List.setIfInBounds_toArray, List.set_cons_zero, List.set_cons_succ]
    refine wpAnyH_take (i := 26) (v := ?va27) (by simp; rfl) (by kernel_rfl) (by kernel_rfl) (by kernel_rfl) (fun _ _ _ h => h) (Or.inl ⟨by rfl, ?ya27⟩) hHeld ?ra27
    case ya27 => intro w hSw; clear hSw; go_simp; with_reducible rfl
    simp only [Act.put, List.setIfInBounds_toArray, List.set_cons_zero, List.set_cons_succ]
    refine wpAnyH_take (i := 27) (v := ?va28) (by simp; rfl) (by kernel_rfl) (by kernel_rfl) (by kernel_rfl) (fun _ _ _ h => h) (Or.inl ⟨by rfl, ?ya28⟩) hHeld ?ra28
    case ya28 => intro w hSw; clear hSw; go_simp; with_reducible rfl
    simp only [Act.put, List.setIfInBounds_toArray, List.set_cons_zero, List.set_cons_succ]
    refine wpAnyH_take (i := 28) (v := ?va29) (by simp; rfl) (by kernel_rfl) (by kernel_rfl) (by kernel_rfl) (fun _ _ _ h => h) (Or.inl ⟨by rfl, ?ya29⟩) hHeld ?ra29
    case ya29 => intro w hSw; clear hSw; go_simp; with_reducible rfl
    simp only [Act.put, List.setIfInBounds_toArray, List.set_cons_zero, List.set_cons_succ]
    refine wpAnyH_take (i := 29) (v := ?va30) (by simp; rfl) (by kernel_rfl) (by kernel_rfl) (by kernel_rfl) (fun _ _ _ h => h) (Or.inl ⟨by rfl, ?ya30⟩) hHeld ?ra30
    case ya30 => intro w hSw; clear hSw; go_simp; with_reducible rfl
    simp only [Act.put, List.setIfInBounds_toArray, List.set_cons_zero, List.set_cons_succ]
    refine wpAnyH_take (i := 30) (v := ?va31) (by simp; rfl) (by kernel_rfl) (by kernel_rfl) (by kernel_rfl) (fun _ _ _ h => h) (Or.inl ⟨by rfl, ?ya31⟩) hHeld ?ra31
    case ya31 => intro w hSw; clear hSw; go_simp; with_reducible rfl
    simp only [Act.put, List.setIfInBounds_toArray, List.set_cons_zero, List.set_cons_succ]
    refine wpAnyH_take (i := 31) (v := ?va32) (by simp; rfl) (by kernel_rfl) (by kernel_rfl) (by kernel_rfl) (fun _ _ _ h => h) (Or.inl ⟨by rfl, ?ya32⟩) hHeld ?ra32
    case ya32 => intro w hSw; clear hSw; go_simp; with_reducible rfl
    simp only [Act.put, List.setIfInBounds_toArray, List.set_cons_zero, List.set_cons_succ]
    refine wpAnyH_take (i := 33) (v := _) (by simp; rfl) (by kernel_rfl) (by kernel_rfl) (by kernel_rfl) (fun _ _ _ h => h) (yields_load_is (x := .tmp 3) (p := .pointer (some ⟨b, 0, none⟩)) (v := .agg (U8 (vk 1)).toArray) (by rfl) 28 rfl rfl (fun W hW => LV1.out W hW)) hHeld ?_
    simp only [Act.put, List.setIfInBounds_toArray, List.set_cons_zero, List.set_cons_succ]
    refine wpAnyH_take (i := 34) (v := _) (by simp; rfl) (by kernel_rfl) (by kernel_rfl) (by kernel_rfl) (fun _ _ _ h => h) (yields_build_is (vs := [(0, .int .i64 0), (1, .agg (U8 (vk 1)).toArray), (2, .int .u64 7)]) (by rfl) 42 rfl (by rfl) (fun w => buildE etR w 0 (vk 1) 7 (vk_len 1))) hHeld ?_
    simp only [Act.put, List.setIfInBounds_toArray, List.set_cons_zero, List.set_cons_succ]
    refine wpAnyH_take (i := 35) (v := _) (by simp; rfl) (by kernel_rfl) (by kernel_rfl) (by kernel_rfl) (fun _ _ _ h => h) (yields_load_is (x := .tmp 5) (p := .pointer (some ⟨b + 1 + 1, 0, none⟩)) (v := .agg (U8 (vk 3)).toArray) (by rfl) 28 rfl rfl (fun W hW => LV3.out W hW)) hHeld ?_
    simp only [Act.put, List.setIfInBounds_toArray, List.set_cons_zero, List.set_cons_succ]
    refine wpAnyH_take (i := 36) (v := _) (by simp; rfl) (by kernel_rfl) (by kernel_rfl) (by kernel_rfl) (fun _ _ _ h => h) (yields_build_is (vs := [(0, .int .i64 2), (1, .agg (U8 (vk 3)).toArray), (2, .int .u64 9)]) (by rfl) 42 rfl (by rfl) (fun w => buildE etR w 2 (vk 3) 9 (vk_len 3))) hHeld ?_
    simp only [Act.put, List.setIfInBounds_toArray, List.set_cons_zero, List.set_cons_succ]
    refine wpAnyH_ready (rs := [32, 37]) (by kernel_rfl) (by simp) ?_
    refine AllReadyH.cons (by simp; rfl) (fun Kc hKc => ?_) (AllReadyH.cons (by simp; rfl) (fun Kc hKc => ?_) AllReadyH.nil)
    · go_simp
      refine (plain_at (NL.out.ein.later hHeld) (by decide)).mono ?_
      rintro e wp ⟨vp, rfl, ho, hb⟩
      obtain ⟨pp, cp, rfl, hEp, -, -⟩ := EOwn.in ho (okL2 (nx := 0) (by decide)).wf
      have HEP : Hid (EIn wp pp 2 L2n) := hEp
      have HBP : Hid (Below wD.heap.size wD wp) := hb
      refine hKc.out _ _ (below_then hHeld hb) (fun hHeld => ?_)
      clear hKc Kc ho hb hEp
      refine wpAnyH_ready (rs := [37]) (by kernel_rfl) (by simp) ?_
      refine AllReadyH.cons (by simp; rfl) (fun Kc hKc => ?_) AllReadyH.nil
      refine step_slice_is (vs := [(0, .agg (ecells ⟨0, vk 1, 7⟩).toArray), (1, .agg (ecells ⟨2, vk 3, 9⟩).toArray)]) (by rfl) 39 2 rfl rfl (build_en2 etR wp ⟨0, vk 1, 7⟩ ⟨2, vk 3, 9⟩ (vk_len 1) (vk_len 3)) ?_
      have bb := below_alloc wp (.cells (EC [(⟨0, vk 1, 7⟩ : En), ⟨2, vk 3, 9⟩]).toArray 42)
      have lb : LAt 42 (wp.alloc (.cells (EC [(⟨0, vk 1, 7⟩ : En), ⟨2, vk 3, 9⟩]).toArray 42)) wp.heap.size (EC [⟨0, vk 1, 7⟩, ⟨2, vk 3, 9⟩]) := LAt.new _ _ _
      obtain ⟨wb, hwb⟩ : ∃ wb, wb = wp.alloc (.cells (EC [(⟨0, vk 1, 7⟩ : En), ⟨2, vk 3, 9⟩]).toArray 42) := ⟨_, rfl⟩
      obtain ⟨nb, hnb⟩ : ∃ nb, nb = wp.heap.size := ⟨_, rfl⟩
      rw [← hwb, ← hnb] at lb ⊢
      rw [← hwb] at bb
      have HEB : Hid (EIn wb (some ⟨nb, 0, none⟩) 2 L2n) := ein_of_lat (l := L2n) lb (okL2 (nx := 0) (by decide)).wf
      have HBB : Hid (Below wp.heap.size wp wb) := bb
      refine hKc.out _ _ (below_then hHeld bb) (fun hHeld => ?_)
      clear hKc Kc lb bb hwb hnb
      simp only [Act.put, List.setIfInBounds_toArray, List.set_cons_zero, List.set_cons_succ]
      refine wpAnyH_ready (rs := [38]) (by kernel_rfl) (by simp) ?_
      refine AllReadyH.cons (by simp; rfl) (fun Kc hKc => ?_) AllReadyH.nil
      go_simp
      refine (same_at (HEP.out.later HBB.out) HEB.out (by decide)).mono ?_
      rintro e ws ⟨rfl, hb⟩
      rw [ensB_yes rfl]
      have HBS : Hid (Below wD.heap.size wD ws) := below_then hHeld hb
      refine hKc.out _ _ HBS.out (fun hHeld => ?_)
      clear hKc Kc hb
      refine wpAnyH_take (i := 39) (v := ?va33) (by simp; rfl) (by kernel_rfl) (by kernel_rfl) (by kernel_rfl) (fun _ _ _ h => h) (Or.inl ⟨by rfl, ?ya33⟩) hHeld ?ra33
      case ya33 => intro w hSw; clear hSw; go_simp; with_reducible rfl
      simp only [Act.put, List.setIfInBounds_toArray, List.set_cons_zero, List.set_cons_succ]
      refine wpAnyH_take (i := 40) (v := ?va34) (by simp; rfl) (by kernel_rfl) (by kernel_rfl) (by kernel_rfl) (fun _ _ _ h => h) (Or.inl ⟨by rfl, ?ya34⟩) hHeld ?ra34
      case ya34 => intro w hSw; clear hSw; go_simp; with_reducible rfl
      simp only [Act.put, List.setIfInBounds_toArray, List.set_cons_zero, List.set_cons_succ]
      refine wpAnyH_done (by kernel_rfl) (NoPanic.normal ?_) _
      clear hHeld
      go_wp2_with fail
      go_meet
      case rel => exact ⟨rfl, (below_then HD.out HBS.out)⟩
    · refine step_slice_is (vs := [(0, .agg (ecells ⟨0, vk 1, 7⟩).toArray), (1, .agg (ecells ⟨2, vk 3, 9⟩).toArray)]) (by rfl) 39 2 rfl rfl (build_en2 etR wD ⟨0, vk 1, 7⟩ ⟨2, vk 3, 9⟩ (vk_len 1) (vk_len 3)) ?_
      have bb := below_alloc wD (.cells (EC [(⟨0, vk 1, 7⟩ : En), ⟨2, vk 3, 9⟩]).toArray 42)
      have lb : LAt 42 (wD.alloc (.cells (EC [(⟨0, vk 1, 7⟩ : En), ⟨2, vk 3, 9⟩]).toArray 42)) wD.heap.size (EC [⟨0, vk 1, 7⟩, ⟨2, vk 3, 9⟩]) := LAt.new _ _ _
      obtain ⟨wb, hwb⟩ : ∃ wb, wb = wD.alloc (.cells (EC [(⟨0, vk 1, 7⟩ : En), ⟨2, vk 3, 9⟩]).toArray 42) := ⟨_, rfl⟩
      obtain ⟨nb, hnb⟩ : ∃ nb, nb = wD.heap.size := ⟨_, rfl⟩
      rw [← hwb, ← hnb] at lb ⊢
      rw [← hwb] at bb
      have HEB : Hid (EIn wb (some ⟨nb, 0, none⟩) 2 L2n) := ein_of_lat (l := L2n) lb (okL2 (nx := 0) (by decide)).wf
      have HBB : Hid (Below wD.heap.size wD wb) := bb
      refine hKc.out _ _ (below_then hHeld bb) (fun hHeld => ?_)
      clear hKc Kc lb bb hwb hnb
      simp only [Act.put, List.setIfInBounds_toArray, List.set_cons_zero, List.set_cons_succ]
      refine wpAnyH_ready (rs := [32]) (by kernel_rfl) (by simp) ?_
      refine AllReadyH.cons (by simp; rfl) (fun Kc hKc => ?_) AllReadyH.nil
      go_simp
      refine (plain_at (NL.out.ein.later hHeld) (by decide)).mono ?_
      rintro e wp ⟨vp, rfl, ho, hb⟩
      obtain ⟨pp, cp, rfl, hEp, -, -⟩ := EOwn.in ho (okL2 (nx := 0) (by decide)).wf
      have HEP : Hid (EIn wp pp 2 L2n) := hEp
      have HBP : Hid (Below wb.heap.size wb wp) := hb
      refine hKc.out _ _ (below_then hHeld hb) (fun hHeld => ?_)
      clear hKc Kc ho hb hEp
      refine wpAnyH_ready (rs := [38]) (by kernel_rfl) (by simp) ?_
      refine AllReadyH.cons (by simp; rfl) (fun Kc hKc => ?_) AllReadyH.nil
      go_simp
      refine (same_at HEP.out (HEB.out.later HBP.out) (by decide)).mono ?_
      rintro e ws ⟨rfl, hb⟩
      rw [ensB_yes rfl]
      have HBS : Hid (Below wD.heap.size wD ws) := below_then hHeld hb
      refine hKc.out _ _ HBS.out (fun hHeld => ?_)
      clear hKc Kc hb
      refine wpAnyH_take (i := 39) (v := ?va35) (by simp; rfl) (by kernel_rfl) (by kernel_rfl) (by kernel_rfl) (fun _ _ _ h => h) (Or.inl ⟨by rfl, ?ya35⟩) hHeld ?ra35
      case ya35 => intro w hSw; clear hSw; go_simp; with_reducible rfl
      simp only [Act.put, List.setIfInBounds_toArray, List.set_cons_zero, List.set_cons_succ]
      refine wpAnyH_take (i := 40) (v := ?va36) (by simp; rfl) (by kernel_rfl) (by kernel_rfl) (by kernel_rfl) (fun _ _ _ h => h) (Or.inl ⟨by rfl, ?ya36⟩) hHeld ?ra36
      case ya36 => intro w hSw; clear hSw; go_simp; with_reducible rfl
      simp only [Act.put, List.setIfInBounds_toArray, List.set_cons_zero, List.set_cons_succ]
      refine wpAnyH_done (by kernel_rfl) (NoPanic.normal ?_) _
      clear hHeld
      go_wp2_with fail
      go_meet
      case rel => exact ⟨rfl, (below_then HD.out HBS.out)⟩
  case rest =>
    obtain ⟨rfl, HBC⟩ := hcut
    have HN15 : Hid (Nm w wc Q ve14 L2n 11 b) := HN14.out.later HBC.out
    have NL15 : Hid (Nl wc Q ve14 bl ol 2 L2n) := NL14.out.later HBC.out
    clear HN14 NL14 HBC
    have L7 : Hid ((Instr.loadAt 28 (.pointer (some ⟨b + 1 + 1, 0, none⟩))).run Try.prog wc = .ok (.agg (U8 (vk 3)).toArray) wc) := VAt.load HN15.out.vd (vk_len 3)
    have J7 : Hid ((Instr.build 31 #[(0, .int .i64 0), (1, .agg (U8 (vk 3)).toArray)]).run Try.prog wc = .ok (.agg (icells ⟨0, vk 3⟩).toArray) wc) := buildI wc 0 (vk 3) (vk_len 3)
    obtain ⟨w16, hw16⟩ : ∃ w16, w16 = wc.alloc (.cells (icells ⟨0, vk 3⟩).toArray 31) := ⟨_, rfl⟩
    have K7 : Hid ((Instr.buildSlice 32 1 #[(0, .agg (icells ⟨0, vk 3⟩).toArray)]).run Try.prog wc = .ok (.slice (some ⟨wc.heap.size, 0, none⟩) 1 1) w16) := by rw [hw16]; exact build_im wc ⟨0, vk 3⟩ (vk_len 3)
    have b16 : Below wc.heap.size wc w16 := by rw [hw16]; exact below_alloc _ _
    have l16 : LAt 31 w16 wc.heap.size (icells ⟨0, vk 3⟩) := by rw [hw16]; exact LAt.new _ _ _
    have HN16 : Hid (Nm w w16 Q ve14 L2n 11 b) := HN15.out.later b16
    have NL16 : Hid (Nl w16 Q ve14 bl ol 2 L2n) := NL15.out.later b16
    have HP16 : Hid (Calls Try.prog 7 #[.pointer (some ⟨Q, 0, none⟩), .slice (some ⟨wc.heap.size, 0, none⟩) 1 1, .int .u64 12] w16 fun r w' => r = .returned (.int .i64 0) ∧ ∃ ve', Wrt w16 w' Q 3 ve14 ve' L3n 13) := HN16.out.puts (g := wc.heap.size) (c := 1) (l := [⟨0, vk 3⟩]) (ps := 12) (e := 0) (L' := L3n) (nx' := 13) (okL2 (by decide)) (lat_one l16) (ims1 (im_wf (by decide) (by decide))) (by decide) (by decide) pg.1 pg.2.1 pg.2.2
    clear hw16 b16 l16 HN15 NL15
    go_wp2_with ((with_reducible refine at_ops ?_); (first | (refine wpList_load_is (by rfl) 28 rfl rfl L7.out ?_) | (refine wpList_build_is (vs := [(0, .int .i64 0), (1, .agg (U8 (vk 3)).toArray)]) (by rfl) 31 rfl (by rfl) J7.out ?_) | (refine wpList_slice_is (u := .agg (icells ⟨0, vk 3⟩).toArray) (by rfl) 32 rfl rfl K7.out ?_)); simp only [Act.put, List.setIfInBounds_toArray, List.set_cons_zero, List.set_cons_succ])
    clear L7 J7 K7
    refine HP16.out.mono ?_
    rintro e w17 ⟨rfl, ve17, hW17⟩
    have HN17 : Hid (Nm w w17 Q ve17 L3n 13 b) := HN16.out.put hW17
    have NL17 : Hid (Nl w17 Q ve17 bl ol 2 L2n) := NL16.out.put hW17
    clear hW17 HN16 NL16 HP16
    go_wp2_with fail
    refine (drop_call HN17.out.cac okL3 NL17.out.ein (by decide) (fun a ha _ => by cases ha; exact NL17.out.sep)).mono ?_
    rintro e w18 ⟨rfl, ve18, hW18⟩
    rw [dr1.1] at hW18
    rw [dr1.2]
    have HN18 : Hid (Nm w w18 Q ve18 L4n 13 b) := HN17.out.put hW18
    have NL18 : Hid (Nl w18 Q ve18 bl ol 2 L2n) := NL17.out.put hW18
    clear hW18 HN17 NL17
    go_wp2_with fail
    refine (drop_call HN18.out.cac okL4 NL18.out.ein (by decide) (fun a ha _ => by cases ha; exact NL18.out.sep)).mono ?_
    rintro e w19 ⟨rfl, ve19, hW19⟩
    rw [dr2.1] at hW19
    rw [dr2.2]
    have HN19 : Hid (Nm w w19 Q ve19 L4n 13 b) := HN18.out.put hW19
    have NL19 : Hid (Nl w19 Q ve19 bl ol 2 L2n) := NL18.out.put hW19
    clear hW19 HN18 NL18
    go_wp2_with fail
    refine (new_no (n := 65) (.inr (by decide)) w19).mono ?_
    rintro e w19' ⟨rfl, rfl⟩
    go_wp2_with fail
    refine (get_nil 0 w19').mono ?_
    rintro e w20 ⟨rfl, b20⟩
    obtain ⟨u21, w21, hu21, hz21, hl21, hb21, -⟩ := newE w20 en0 (zs_len 32)
    have A21 : Hid ((Instr.alloc 44 true (.tuple #[])).run Try.prog w20 = .ok (.pointer (some ⟨w20.heap.size, 0, none⟩)) u21) := hu21
    have T21 : Hid ((Instr.storeAt 44 (.pointer (some ⟨w20.heap.size, 0, none⟩)) (.agg (ecells en0).toArray)).run Try.prog u21 = .ok () w21) := hz21
    have HN21 : Hid (Nm w w21 Q ve19 L4n 13 b) := (HN19.out.later b20).later hb21
    have NL21 : Hid (Nl w21 Q ve19 bl ol 2 L2n) := (NL19.out.later b20).later hb21
    have HX21 : Hid (LAt 44 w21 w20.heap.size (ecells en0)) := hl21
    clear hu21 hz21 hl21 hb21 b20 HN19 NL19
    generalize w20.heap.size = bx at *
    go_wp2_with ((with_reducible refine at_ops ?_); (first | ((refine wpList_alloc_is (by rfl) 44 rfl A21.out ?_); simp only [Act.put, List.setIfInBounds_toArray, List.set_cons_zero, List.set_cons_succ]) | ((refine wpList_store_is (by rfl) 44 rfl rfl rfl T21.out ?_); simp only [Act.put])))
    clear A21 T21
    refine (last_nil w21).mono ?_
    rintro e w21' ⟨rfl, rfl⟩
    go_wp2_with fail
    refine (given_any (.inl ⟨rfl, rfl⟩ : Stands w21' none []) 3).mono ?_
    rintro e w22 ⟨vg, rfl, ho22, b22⟩
    obtain ⟨pg, cg, rfl, -, -⟩ := O.own_form ho22
    have HN22 : Hid (Nm w w22 Q ve19 L4n 13 b) := HN21.out.later b22
    have NL22 : Hid (Nl w22 Q ve19 bl ol 2 L2n) := NL21.out.later b22
    have HX22 : Hid ((Instr.loadAt 44 (.pointer (some ⟨bx, 0, none⟩))).run Try.prog w22 = .ok (.agg (ecells en0).toArray) w22) := LAt.loadE etC (LAt.later HX21.out b22) (zs_len 32)
    have G22 : Hid ((Instr.build 44 #[]).run Try.prog w22 = .ok (.agg (ecells en0).toArray) w22) := buildE0 etC w22
    have E22 : Hid ((binOp .eql 44 (.agg (ecells en0).toArray) (.agg (ecells en0).toArray)).run Try.prog w22 = .ok (.bool true) w22) := by
      have := eqlE etC w22 en0 en0 (zs_len 32) (zs_len 32)
      rw [(enB_iff en0 en0).2 rfl] at this
      exact this
    clear HN21 NL21 HX21 ho22 b22
    go_wp2_with fail
    refine (len_at HN22.out.cac).mono ?_
    rintro e w22' ⟨rfl, rfl⟩
    rw [show ((L4n.length : Nat) : Int) = 1 from rfl]
    go_wp2_with fail
    refine (put_nil none 0 0 1 _).mono ?_
    rintro e w22'' ⟨rfl, rfl⟩
    go_wp2_with ((with_reducible refine at_ops ?_); (first | (refine wpList_load_is (by rfl) 44 rfl rfl HX22.out ?_) | (refine wpList_build_is (vs := []) (by rfl) 44 rfl (by rfl) G22.out ?_) | (refine wpList_eql_is (by rfl) 44 rfl rfl rfl etC.eqg E22.out ?_)); simp only [Act.put, List.setIfInBounds_toArray, List.set_cons_zero, List.set_cons_succ])
    clear HX22 G22 E22
    refine (len_nil _).mono ?_
    rintro e w23 ⟨rfl, rfl⟩
    go_wp2_with fail
    refine (entries_any (.inl ⟨rfl, rfl⟩ : Stands w23 none [])).mono ?_
    rintro e w24 ⟨vz, rfl, ho24, b24⟩
    obtain ⟨pz, cz, rfl, -, -⟩ := O.own_form ho24
    have HN24 : Hid (Nm w w24 Q ve19 L4n 13 b) := HN22.out.later b24
    have NL24 : Hid (Nl w24 Q ve19 bl ol 2 L2n) := NL22.out.later b24
    clear ho24 b24 HN22 NL22
    go_wp2_with fail
    refine (drop_nil w24 NL24.out.ein (by decide)).mono ?_
    rintro e w25 ⟨rfl, b25⟩
    have HB25 : Hid (Below w.heap.size w w25) := below_then HN24.out.bel b25
    clear b25 HN24 NL24
    go_wp2_with fail
    refine (copy_nil w25).mono ?_
    rintro e w26 ⟨rfl, rfl⟩
    go_wp2
    go_ret
    exact ⟨rfl, HB25.out⟩
end Go.Proofs.Ythcpnfelnonhnaa
