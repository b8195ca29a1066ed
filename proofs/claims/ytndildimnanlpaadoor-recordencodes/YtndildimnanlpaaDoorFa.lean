/-
  Layer 6: what the laws ask first (fixed), walked.
-/
import Derived.Test.YtndildimnanlpaaDoorLc
namespace Go.Proofs.YtndildimnanlpaaDoor
open Go.RowKit

/-- {Commit, 5, Images 2} -/
def rc52 : Rec := ⟨2, 5, 0, zs 32, 2⟩
theorem rc52_wf : rc52.Wf := ⟨by decide, by decide, by decide, by decide, by decide, by decide, by decide, by decide, by decide, zs_bytes 32⟩
theorem rc52_may : may rc52 = true := by decide
theorem rc52_dec : decS (encS rc52) = (rc52, 0) := decS_encS rc52 rc52_wf rc52_may
theorem rc52_head : head rc52 = [87, 2, 0, 0, 5, 0, 0, 0, 0, 0, 0, 0, 2, 0, 0, 0] ++ zs 32 := by decide
theorem enc_at (r : Rec) (hv : r.val.length = 32) (i : Nat) (hi : i < 48) : (encS r).getD i 0 = (head r).getD i 0 := by
  unfold encS body
  rw [List.append_assoc, List.getD, List.getElem?_append_left (by rw [head_len r hv]; exact hi)]
  rfl
theorem rc52_0 : (encS rc52).getD 0 0 = 87 := (enc_at rc52 rfl 0 (by omega)).trans (by rw [rc52_head]; rfl)
theorem rc52_1 : (encS rc52).getD 1 0 = 2 := (enc_at rc52 rfl 1 (by omega)).trans (by rw [rc52_head]; rfl)
theorem rc52_4 : (encS rc52).getD 4 0 = 5 := (enc_at rc52 rfl 4 (by omega)).trans (by rw [rc52_head]; rfl)
theorem rc52_12 : (encS rc52).getD 12 0 = 2 := (enc_at rc52 rfl 12 (by omega)).trans (by rw [rc52_head]; rfl)
theorem dec_nil : decS [] = (rec0, 2) := decS_len [] (by decide)
theorem dec_zeros : decS (zs 64) = (rec0, 60) := decS_bad (zs 64) (by decide) (by decide)
theorem chk_52 : chk rc52 = 0 := by decide
theorem chk_0 : chk rec0 = 60 := by decide
theorem enc_52 (w : World) (ht : Tab w) : Calls Tryd.prog 9 #[.agg (rcells rc52).toArray] w fun e w' => ∃ b o c, e = .returned (.tuple #[.slice (some ⟨b, o, none⟩) 64 c, .int .i64 0]) ∧ Made w w' (some ⟨b, o, none⟩) 64 c (encS rc52) := by
  refine (encode_good rc52 rc52_wf rc52_may w ht).mono ?_
  rintro e w' ⟨p, c, rfl, m⟩
  obtain ⟨b, o, rfl, -⟩ := m.read.cells (by omega)
  exact ⟨b, o, c, rfl, m⟩
theorem BIn.cell {w : World} {b o n : Nat} {xs : List Int} (h : BIn w (some ⟨b, o, none⟩) n xs) (i : Nat) (hi : i < n) : w.cell? ⟨b, o + i, none⟩ = some (.int .u8 (xs.getD i 0)) := by
  have := h.at i hi
  rwa [Go.WideShapes.add_plain] at this
theorem made_zs (k : Nat) : (madeCells #[Value.int .u8 0] k).toList = U8 (zs k) := by
  rw [toList_madeCells_one]
  simp [U8, zs]

set_option maxHeartbeats 4000000 in
set_option maxRecDepth 100000 in
theorem fixed_any (w : World) (ht : Tab w) : Calls Tryd.prog 8 #[] w fun e w' => e = .returned (.bool true) ∧ Below w.heap.size w w' := by
  obtain ⟨i0, hi, hz0, hz1, hz2⟩ := info_parts info5
  have HT : Hid (Tab w) := ht
  have K52 : Hid (∀ w, (Instr.build 31 #[(0, .int .i64 2), (1, .int .u64 5), (4, .int .i64 2)]).run Tryd.prog w = .ok (.agg (rcells rc52).toArray) w) := fun w => build31 w _ rc52 ((fill_k rec0 rec0_len 2 _).trans ((fill_p ⟨2, 0, 0, zs 32, 0⟩ (zs_len 32) 5 _).trans (fill_i ⟨2, 5, 0, zs 32, 0⟩ (zs_len 32) 2 [])))
  have K0 : Hid (∀ w, (Instr.build 31 #[]).run Tryd.prog w = .ok (.agg (rcells rec0).toArray) w) := fun w => build31 w #[] rec0 fill_none
  clear ht
  go_enter Tryd.func8, Tryd.ntmps8
  go_wp2_with (refine wpList_build_is (vs := [(0, .int .i64 2), (1, .int .u64 5), (4, .int .i64 2)]) (by rfl) 31 rfl (by rfl) (K52.out _) ?_)
  refine (enc_52 w HT.out).mono ?_
  rintro e w1 ⟨b, o, c, rfl, m1⟩
  have B1 : Hid (Below w.heap.size w w1) := m1.below
  have X1 : Hid (BIn w1 (some ⟨b, o, none⟩) 64 (encS rc52)) := m1.read
  have hc64 := m1.le
  clear m1
  go_wp2_with fail
  refine (decode_any _ 64 c _ w1 X1.out hc64 (HT.out.later B1.out)).mono ?_
  rintro e w2 ⟨rfl, b2⟩
  rw [rc52_dec]
  have B2 : Hid (Below w.heap.size w w2) := below_then B1.out b2
  have X2 : Hid (BIn w2 (some ⟨b, o, none⟩) 64 (encS rc52)) := X1.out.later b2
  have A2 : Hid (_) := alloc31 w2
  have S2 : Hid (_) := store_new size31 w2 rc52 rc52_wf.len
  have B3 : Hid (Below w2.heap.size w2 (w2.alloc (.cells (rcells rc52).toArray 31))) := below_alloc w2 _
  have R3 : Hid (RAt 31 (w2.alloc (.cells (rcells rc52).toArray 31)) w2.heap.size rc52) := RAt.new 31 w2 rc52
  clear b2 B1 X1
  go_wp2_with (first | (refine wpList_alloc_is (by rfl) 31 rfl A2.out ?_) | (refine wpList_store_is (by rfl) 31 rfl rfl rfl S2.out ?_))
  refine (decode_any none 0 0 [] _ BIn.empty (Nat.le_refl _) (HT.out.later (below_then B2.out B3.out))).mono ?_
  rintro e w4 ⟨rfl, b4⟩
  rw [dec_nil]
  have B4 : Hid (Below w2.heap.size w2 w4) := below_then B3.out b4
  have R4 : Hid (RAt 31 w4 w2.heap.size rc52) := R3.out.later b4
  have A4 : Hid (_) := alloc31 w4
  have S4 : Hid (_) := store_new size31 w4 rec0 rec0_len
  clear b4 B3 R3 A2 S2
  have B5 : Hid (Below w4.heap.size w4 (w4.alloc (.cells (rcells rec0).toArray 31))) := below_alloc w4 _
  go_wp2_with (first | (refine wpList_alloc_is (by rfl) 31 rfl A4.out ?_) | (refine wpList_store_is (by rfl) 31 rfl rfl rfl S4.out ?_) | (at_make; refine wpList_make_full _ rfl _ _ 25 rfl (w4.alloc (.cells (rcells rec0).toArray 31)).heap.size 5 i0 (.int .u8 0) 1 Tryd.underlying25 hi hz0 hz1 .i64 .i64 _ _ 64 rfl rfl rfl rfl ?b2 ?b3 ?b4 ?_))
  case b2 => rw [hz2]; omega
  case b3 => unfold maxLen; omega
  case b4 => simp
  intro w6 hown hgrow
  rw [made_zs 64] at hown
  have B6 : Hid (Below w4.heap.size w4 w6) := B5.out.grown hgrow (by simp) (by intro k hk; cases hk)
  obtain ⟨p6, c6, e6, X6, hc6, -, -⟩ := own_in hown (zs_bytes 64)
  simp only [Value.slice.injEq] at e6
  obtain ⟨rfl, -, rfl⟩ := e6
  have X6 : Hid (_) := X6
  clear hown hgrow A4 S4 B5
  go_wp2_with fail
  refine (decode_any _ 64 64 (zs 64) w6 X6.out hc6 (HT.out.later (below_then B2.out (below_then B4.out B6.out)))).mono ?_
  rintro e w7 ⟨rfl, b7⟩
  rw [dec_zeros]
  have B7 : Hid (Below w2.heap.size w2 w7) := below_then (below_then B4.out B6.out) b7
  have A7 : Hid (_) := alloc31 w7
  have S7 : Hid (_) := store_new size31 w7 rec0 rec0_len
  have R8 : Hid (RAt 31 (w7.alloc (.cells (rcells rec0).toArray 31)) w2.heap.size rc52) := (R4.out.later (below_then B6.out b7)).later (below_alloc w7 _)
  have B8 : Hid (Below w2.heap.size w2 (w7.alloc (.cells (rcells rec0).toArray 31))) := below_then B7.out (below_alloc w7 _)
  have L8 : Hid (_) := R8.out.load31 rc52_wf.len
  have Q8 : Hid (_) := eql31 (w7.alloc (.cells (rcells rec0).toArray 31)) rc52 rc52 rc52_wf.len rc52_wf.len
  have HQ : Hid (recB rc52 rc52 = true) := recB_same rc52
  have X8 : Hid (BIn (w7.alloc (.cells (rcells rec0).toArray 31)) (some ⟨b, o, none⟩) 64 (encS rc52)) := X2.out.later B8.out
  have x0 := X8.out.cell 0 (by omega)
  have x1 := X8.out.cell 1 (by omega)
  have x4 := X8.out.cell 4 (by omega)
  have x12 := X8.out.cell 12 (by omega)
  rw [rc52_0] at x0
  rw [rc52_1] at x1
  rw [rc52_4] at x4
  rw [rc52_12] at x12
  rw [Nat.add_zero] at x0
  rw [HQ.out] at Q8
  clear b7 X2 X6 B4 B6 R4
  go_wp2_with (first | (refine wpList_alloc_is (by rfl) 31 rfl A7.out ?_) | (refine wpList_store_is (by rfl) 31 rfl rfl rfl S7.out ?_) | (refine wpList_load_is (by rfl) 31 rfl rfl L8.out ?_) | (refine wpList_build_is (vs := [(0, .int .i64 2), (1, .int .u64 5), (4, .int .i64 2)]) (by rfl) 31 rfl (by rfl) (K52.out _) ?_) | (refine wpList_eql_is (by rfl) 31 rfl rfl rfl eqg31 Q8.out ?_))
  refine (check_any rc52 rc52_wf.len _).mono ?_
  rintro e w9 ⟨rfl, b9⟩
  rw [chk_52]
  have B9 : Hid (Below w2.heap.size w2 w9) := below_then B8.out b9
  clear b9 x0 x1 x4 x12
  go_wp2_with (refine wpList_build_is (vs := []) (by rfl) 31 rfl (by rfl) (K0.out _) ?_)
  refine (check_any rec0 rec0_len _).mono ?_
  rintro e w10 ⟨rfl, b10⟩
  rw [chk_0]
  have B10 : Hid (Below w.heap.size w w10) := below_then B2.out (below_then B9.out b10)
  clear b10
  go_wp2_with fail
  go_ret
  exact ⟨rfl, B10.out⟩
end Go.Proofs.YtndildimnanlpaaDoor
