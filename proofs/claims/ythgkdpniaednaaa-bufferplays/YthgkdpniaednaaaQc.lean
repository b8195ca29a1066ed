/-
  Layer 16: BufferNames.
-/
import Derived.Test.YthgkdpniaednaaaQb
namespace Go.Proofs.Ythgkdpniaednaaa
open Go.RowKit

open B (I64)
theorem is1 : B.isS [1] = true := by decide
theorem no0 : B.isS [] = false := by decide
theorem no21 : B.isS [2, 1] = false := by decide
theorem no64 : B.isS [64] = false := by decide
theorem wr_z : wrS [1] [] 1 (zs 32) = [⟨1, zs 32⟩] := rfl
theorem rd_z0 : rdV [1] [] 1 = zs 32 ∧ rdB [1] [] 1 = false := ⟨rfl, rfl⟩
theorem rd_z1 : rdV [1] [⟨1, zs 32⟩] 1 = zs 32 ∧ rdB [1] [⟨1, zs 32⟩] 1 = true := ⟨rfl, rfl⟩
/-- a variable of type Value, laid and stored into -/
theorem newV (w : World) (v : List Int) (hv : v.length = 32) : ∃ w1 w2, (Instr.alloc 31 true (.tuple #[])).run Try.prog w = .ok (.pointer (some ⟨w.heap.size, 0, none⟩)) w1 ∧ (Instr.storeAt 31 (.pointer (some ⟨w.heap.size, 0, none⟩)) (.agg (U8 v).toArray)).run Try.prog w1 = .ok () w2 ∧ VAt w2 w.heap.size v ∧ Below w.heap.size w w2 := by
  have v1 : VAt (w.alloc (.cells (U8 (zs 32)).toArray 31)) w.heap.size (zs 32) := LAt.new _ _ _
  exact ⟨_, _, allocV w, VAt.store v1 (zs_len 32) hv, LAt.stored v1 _, below_setRow (below_alloc w _) (Nat.le_refl _) _⟩
set_option maxHeartbeats 2000000 in
set_option maxRecDepth 100000 in
theorem bufferNames_any (w : World) : Calls Try.prog 4 #[] w fun e w' => e = .returned (.bool true) ∧ Below w.heap.size w w' := by
  have HBV : Hid (∀ w : World, (Instr.build 31 #[]).run Try.prog w = .ok (.agg (U8 (zs 32)).toArray) w) := buildV
  go_enter Try.func4, Try.ntmps4
  go_wp2_with fail
  refine (awake_is w).mono ?_
  rintro e w1 ⟨rfl, b1⟩
  have K1 : Hid (Below w.heap.size w w1) := b1
  clear b1
  go_wp2_with fail
  refine (read_nil 1 w1).mono ?_
  rintro e w2 ⟨rfl, b2⟩
  obtain ⟨u2, z2, hu2, hz2, hv2, hb2⟩ := newV w2 (zs 32) (zs_len 32)
  have L2 : Hid ((Instr.alloc 31 true (.tuple #[])).run Try.prog w2 = .ok (.pointer (some ⟨w2.heap.size, 0, none⟩)) u2) := hu2
  have T2 : Hid ((Instr.storeAt 31 (.pointer (some ⟨w2.heap.size, 0, none⟩)) (.agg (U8 (zs 32)).toArray)).run Try.prog u2 = .ok () z2) := hz2
  have V2 : Hid (VAt z2 w2.heap.size (zs 32)) := hv2
  have Z2 : Hid (Below w2.heap.size w2 z2) := hb2
  clear hu2 hz2 hv2 hb2
  obtain ⟨n2, e2⟩ : ∃ n2, n2 = w2.heap.size := ⟨_, rfl⟩
  rw [← e2] at L2 T2 V2
  clear e2
  have K2 : Hid (Below w.heap.size w z2) := below_then (below_then K1.out b2) Z2.out
  clear b2 K1
  go_wp2_with (first | ((with_reducible refine at_ops ?_); (first | ((refine wpList_alloc_is (by rfl) 31 rfl L2.out ?_); simp only [Act.put, List.setIfInBounds_toArray, List.set_cons_zero, List.set_cons_succ]) | ((refine wpList_store_is (by rfl) 31 rfl rfl rfl T2.out ?_); simp only [Act.put]))) | ((with_reducible refine at_ops ?_); ((refine wpList_build_is (vs := []) (by rfl) 31 rfl (by rfl) (HBV.out _) ?_); simp only [Act.put, List.setIfInBounds_toArray, List.set_cons_zero, List.set_cons_succ])))
  refine (write_nil 1 (zs 32) _).mono ?_
  rintro e w3 ⟨rfl, b3⟩
  have K3 : Hid (Below w.heap.size w w3) := below_then K2.out b3
  clear b3 K2 L2 T2 V2 Z2
  go_wp2_with (first | (go_at_call 11; refine (images_nil _).mono ?_; rintro e w' ⟨rfl, rfl⟩) | (go_at_call 14; refine (form_nil _).mono ?_; rintro e w' ⟨rfl, rfl⟩) | (go_at_call 12; refine (len_nil _).mono ?_; rintro e w' ⟨rfl, rfl⟩) | (go_at_call 15; refine (copy_nil _).mono ?_; rintro e w' ⟨rfl, rfl⟩))
  refine (new_no (B.IIn.nil _ _) (Nat.le_refl _) (by omega) no0).mono ?_
  rintro e w4 ⟨rfl, h4⟩
  rw [h4]
  clear h4 w4
  have I5 : Hid (B.IIn (w'.alloc (.cells #[.int .i64 2, .int .i64 1] 3)) (some ⟨w'.heap.size, 0, none⟩) 2 [2, 1]) := B.lit_in w' [2, 1] 2 rfl
  have J5 : Hid (Below w.heap.size w (w'.alloc (.cells #[.int .i64 2, .int .i64 1] 3))) := below_then K3.out (below_alloc w' _)
  go_wp2_with fail
  refine (new_no I5.out (Nat.le_refl _) (by omega) no21).mono ?_
  rintro e w5 ⟨rfl, h5⟩
  have K5 : Hid (Below w.heap.size w w5) := by rw [h5]; exact J5.out
  clear h5 I5 J5 K3
  have I6 : Hid (B.IIn (w5.alloc (.cells #[.int .i64 64] 3)) (some ⟨w5.heap.size, 0, none⟩) 1 [64]) := B.lit_in w5 [64] 1 rfl
  have J6 : Hid (Below w.heap.size w (w5.alloc (.cells #[.int .i64 64] 3))) := below_then K5.out (below_alloc w5 _)
  go_wp2_with fail
  refine (new_no I6.out (Nat.le_refl _) (by omega) no64).mono ?_
  rintro e w6 ⟨rfl, h6⟩
  have K6 : Hid (Below w.heap.size w w6) := by rw [h6]; exact J6.out
  clear h6 I6 J6 K5
  have I7 : Hid (B.IIn (w6.alloc (.cells #[.int .i64 1] 3)) (some ⟨w6.heap.size, 0, none⟩) 1 [1]) := B.lit_in w6 [1] 1 rfl
  have J7 : Hid (Below w.heap.size w (w6.alloc (.cells #[.int .i64 1] 3))) := below_then K6.out (below_alloc w6 _)
  go_wp2_with fail
  refine (new_at I7.out (Nat.le_refl _) (by omega) is1).mono ?_
  rintro e w7 ⟨Q, pf, cf, rfl, hN, -⟩
  have A7 : Hid (BAt w7 Q pf cf [1] (.slice none 0 0) []) := hN.at'
  have K7 : Hid (Below w.heap.size w w7) := below_then J7.out hN.below
  have GQ : Hid (w.heap.size ≤ Q) := Nat.le_trans J7.out.size hN.q
  have O7 : Hid (Okb [1] []) := Okb.new is1
  clear hN I7 J7 K6
  go_wp2_with fail
  refine (read_at A7.out O7.out 1).mono ?_
  rintro e w8 ⟨rfl, b8⟩
  rw [rd_z0.1, rd_z0.2, show refS [1] 1 = 0 from rfl]
  obtain ⟨u8, z8, hu8, hz8, hv8, hb8⟩ := newV w8 (zs 32) (zs_len 32)
  have L8 : Hid ((Instr.alloc 31 true (.tuple #[])).run Try.prog w8 = .ok (.pointer (some ⟨w8.heap.size, 0, none⟩)) u8) := hu8
  have T8 : Hid ((Instr.storeAt 31 (.pointer (some ⟨w8.heap.size, 0, none⟩)) (.agg (U8 (zs 32)).toArray)).run Try.prog u8 = .ok () z8) := hz8
  have V8 : Hid (VAt z8 w8.heap.size (zs 32)) := hv8
  have Z8 : Hid (Below w8.heap.size w8 z8) := hb8
  clear hu8 hz8 hv8 hb8
  obtain ⟨n8, e8⟩ : ∃ n8, n8 = w8.heap.size := ⟨_, rfl⟩
  rw [← e8] at L8 T8 V8
  clear e8
  have A8 : Hid (BAt z8 Q pf cf [1] (.slice none 0 0) []) := (A7.out.later b8).later Z8.out
  have K8 : Hid (Below w.heap.size w z8) := below_then (below_then K7.out b8) Z8.out
  clear b8 K7 A7
  go_wp2_with (first | ((with_reducible refine at_ops ?_); (first | ((refine wpList_alloc_is (by rfl) 31 rfl L8.out ?_); simp only [Act.put, List.setIfInBounds_toArray, List.set_cons_zero, List.set_cons_succ]) | ((refine wpList_store_is (by rfl) 31 rfl rfl rfl T8.out ?_); simp only [Act.put]))) | ((with_reducible refine at_ops ?_); ((refine wpList_build_is (vs := []) (by rfl) 31 rfl (by rfl) (HBV.out _) ?_); simp only [Act.put, List.setIfInBounds_toArray, List.set_cons_zero, List.set_cons_succ])))
  have hx0 : Im.Wf ⟨1, zs 32⟩ := ⟨i64s (by decide) (by decide), zs_len 32, zs_bytes 32⟩
  refine (write_at A8.out O7.out hx0).mono ?_
  rintro e w9 ⟨rfl, v9, hW⟩
  rw [show refS [1] 1 = 0 from rfl]
  have A9 : Hid (BAt w9 Q pf cf [1] v9 [⟨1, zs 32⟩]) := by have := hW.at'; rw [wr_z] at this; exact this
  have O9 : Hid (Okb [1] [⟨1, zs 32⟩]) := by have := O7.out.wrote hx0; rw [wr_z] at this; exact this
  have V9 : Hid (VAt w9 n8 (zs 32)) := hW.lat A8.out V8.out (by decide) (by decide)
  have K9 : Hid (Below w.heap.size w w9) := hW.kept.into K8.out (fun b hb e => by
    rcases e with e | e
    · have := GQ.out; omega
    · cases e) (Nat.le_refl _)
  clear hW A8 O7 V8 K8 L8 T8 Z8 GQ
  go_wp2_with fail
  refine (read_at A9.out O9.out 1).mono ?_
  rintro e wa ⟨rfl, ba⟩
  rw [rd_z1.1, rd_z1.2, show refS [1] 1 = 0 from rfl]
  obtain ⟨ua, za, hua, hza, hva, hba⟩ := newV wa (zs 32) (zs_len 32)
  have La : Hid ((Instr.alloc 31 true (.tuple #[])).run Try.prog wa = .ok (.pointer (some ⟨wa.heap.size, 0, none⟩)) ua) := hua
  have Ta : Hid ((Instr.storeAt 31 (.pointer (some ⟨wa.heap.size, 0, none⟩)) (.agg (U8 (zs 32)).toArray)).run Try.prog ua = .ok () za) := hza
  have Va : Hid (VAt za wa.heap.size (zs 32)) := hva
  have Za : Hid (Below wa.heap.size wa za) := hba
  clear hua hza hva hba
  obtain ⟨na, ea⟩ : ∃ na, na = wa.heap.size := ⟨_, rfl⟩
  rw [← ea] at La Ta Va
  clear ea
  have Aa : Hid (BAt za Q pf cf [1] v9 [⟨1, zs 32⟩]) := (A9.out.later ba).later Za.out
  have Ka : Hid (Below w.heap.size w za) := below_then (below_then K9.out ba) Za.out
  have Wa : Hid ((Instr.loadAt 31 (.pointer (some ⟨n8, 0, none⟩))).run Try.prog za = .ok (.agg (U8 (zs 32)).toArray) za) := VAt.load (LAt.later (LAt.later V9.out ba) Za.out) (zs_len 32)
  have Xa : Hid ((Instr.loadAt 31 (.pointer (some ⟨na, 0, none⟩))).run Try.prog za = .ok (.agg (U8 (zs 32)).toArray) za) := VAt.load Va.out (zs_len 32)
  have QE : Hid (∀ w, (binOp .eql 31 (.agg (U8 (zs 32)).toArray) (.agg (U8 (zs 32)).toArray)).run Try.prog w = .ok (.bool true) w) := fun w => by rw [eqlV w _ _ rfl rfl, decide_eq_true rfl]
  clear ba A9 K9 V9
  go_wp2_with (first | ((with_reducible refine at_ops ?_); (first | ((refine wpList_alloc_is (by rfl) 31 rfl La.out ?_); simp only [Act.put, List.setIfInBounds_toArray, List.set_cons_zero, List.set_cons_succ]) | ((refine wpList_store_is (by rfl) 31 rfl rfl rfl Ta.out ?_); simp only [Act.put]))) | ((with_reducible refine at_ops ?_); ((refine wpList_build_is (vs := []) (by rfl) 31 rfl (by rfl) (HBV.out _) ?_); simp only [Act.put, List.setIfInBounds_toArray, List.set_cons_zero, List.set_cons_succ])) | ((with_reducible refine at_ops ?_); (first | ((refine wpList_load_is (by rfl) 31 rfl rfl Wa.out ?_); simp only [Act.put, List.setIfInBounds_toArray, List.set_cons_zero, List.set_cons_succ]) | ((refine wpList_load_is (by rfl) 31 rfl rfl Xa.out ?_); simp only [Act.put, List.setIfInBounds_toArray, List.set_cons_zero, List.set_cons_succ]) | ((refine wpList_eql_is (by rfl) 31 rfl rfl rfl eqgV (QE.out _) ?_); simp only [Act.put, List.setIfInBounds_toArray, List.set_cons_zero, List.set_cons_succ]))) | (go_at_call 12; refine (len_at Aa.out).mono ?_; rintro e w' ⟨rfl, rfl⟩))
  go_ret
  exact ⟨rfl, Ka.out⟩
end Go.Proofs.Ythgkdpniaednaaa
