/-
  RecordEncodes walked.
-/
import Derived.Test.YtndildimnanlpaaDoorJd
import Derived.Test.YtndildimnanlpaaDoorHb
namespace Go.Proofs.YtndildimnanlpaaDoor
open Go.RowKit

/-- {Commit} -/
def rcm : Rec := ⟨2, 0, 0, zs 32, 0⟩
theorem rcm_wf : rcm.Wf := ⟨by decide, by decide, by decide, by decide, by decide, by decide, by decide, by decide, by decide, zs_bytes 32⟩
theorem rcm_may : may rcm = true := by decide
theorem encT_small (r : Rec) (h : r.Wf) : (encT r).length ≤ 64 := by
  by_cases hm : may r = true
  · rw [encT_yes r hm, encS_len r h.len]; omega
  · rw [encT_no r hm]; simp
theorem Made.seg {w w' : World} {p : Option Addr} {n c : Nat} {xs : List Int} (h : Made w w' p n c xs) (hn : n ≤ 64) : Seg w' w.heap.size w'.heap.size (p, n, c) := Seg.made h.own h.below (by omega)

set_option maxHeartbeats 8000000 in
set_option maxRecDepth 100000 in
theorem recordEncodes_any (r : Rec) (hr : r.Wf) (w : World) (ht : Tab w) :
    Calls Tryd.prog 6 #[.agg (rcells r).toArray] w fun e w' => e = .returned (.bool true) ∧ Below w.heap.size w w' := by
  have HR : Hid (r.Wf) := hr
  have HT : Hid (Tab w) := ht
  have B0 : Hid (Below w.heap.size w (w.alloc (.cells (rcells r).toArray 37))) := below_alloc w _
  have R0 : Hid (RAt 37 (w.alloc (.cells (rcells r).toArray 37)) w.heap.size r) := RAt.new 37 w r
  have KC : Hid (∀ w, (Instr.build 31 #[(0, .int .i64 2)]).run Tryd.prog w = .ok (.agg (rcells rcm).toArray) w) := fun w => build31 w _ rcm (fill_k rec0 rec0_len 2 [])
  clear hr ht
  go_enter Tryd.func6, Tryd.ntmps6
  go_wp2_with fail
  generalize w.alloc (.cells (rcells r).toArray 37) = wb at *
  refine (fixed_any wb (HT.out.later B0.out)).mono ?_
  rintro e w1 ⟨rfl, b1⟩
  have B1 : Hid (Below w.heap.size w w1) := below_then B0.out b1
  have R1 : Hid (RAt 37 w1 w.heap.size r) := R0.out.later b1
  have L1 : Hid (_) := R1.out.load37 HR.out.len
  clear b1 B0 R0
  go_wp2_with ((with_reducible refine at_seq ?_); (refine wpList_load_is (by rfl) 37 rfl rfl L1.out ?_); simp only [Act.put, List.setIfInBounds_toArray, List.set_cons_zero, List.set_cons_succ])
  refine (own_any6 r HR.out.len w1).mono ?_
  rintro e w2 ⟨rfl, b2⟩
  have A2 : Hid (_) := alloc31 w2
  have S2 : Hid (_) := store_new size31 w2 r HR.out.len
  obtain ⟨w3, hw3⟩ : ∃ w3, w3 = w2.alloc (.cells (rcells r).toArray 31) := ⟨_, rfl⟩
  have b23 : Below w2.heap.size w2 w3 := by rw [hw3]; exact below_alloc w2 _
  have b13 := below_then b2 b23
  have X3 : Hid (RAt 31 w3 w2.heap.size r) := by rw [hw3]; exact RAt.new 31 w2 r
  have R3 : Hid (RAt 37 w3 w.heap.size r) := R1.out.later b13
  have B3 : Hid (Below w.heap.size w w3) := below_then B1.out b13
  have L3 : Hid (_) := X3.out.load31 HR.out.len
  rw [← hw3] at S2
  clear b2 b23 b13 hw3 B1 R1 L1
  go_wp2_with ((with_reducible refine at_seq ?_); (first | (refine wpList_alloc_is (by rfl) 31 rfl A2.out ?_) | (refine wpList_store_is (by rfl) 31 rfl rfl rfl S2.out ?_) | (refine wpList_load_is (by rfl) 31 rfl rfl L3.out ?_)); simp only [Act.put, List.setIfInBounds_toArray, List.set_cons_zero, List.set_cons_succ])
  refine (encode_any r HR.out w3 (HT.out.later B3.out)).mono ?_
  rintro e w4 ⟨p1, n1, c1, rfl, hn1, -, m4⟩
  have HL64 : Hid ((encT r).length ≤ 64) := encT_small r HR.out
  have N1 : Hid (n1 = (encT r).length) := hn1
  have M4 : Hid (Made w3 w4 p1 n1 c1 (encT r)) := m4
  have X4 : Hid (RAt 31 w4 w2.heap.size r) := X3.out.later m4.below
  have R4 : Hid (RAt 37 w4 w.heap.size r) := R3.out.later m4.below
  have B4 : Hid (Below w.heap.size w w4) := below_then B3.out m4.below
  have L4 : Hid (_) := X4.out.load31 HR.out.len
  clear m4 X3 R3 L3 A2 S2 hn1
  go_wp2_with ((with_reducible refine at_seq ?_); (refine wpList_load_is (by rfl) 31 rfl rfl L4.out ?_); simp only [Act.put, List.setIfInBounds_toArray, List.set_cons_zero, List.set_cons_succ])
  refine (encode_any r HR.out w4 (HT.out.later B4.out)).mono ?_
  rintro e w5 ⟨p2, n2, c2, rfl, hn2, -, m5⟩
  have N2 : Hid (n2 = (encT r).length) := hn2
  have M5 : Hid (Made w4 w5 p2 n2 c2 (encT r)) := m5
  have X5 : Hid (RAt 31 w5 w2.heap.size r) := X4.out.later m5.below
  have R5 : Hid (RAt 37 w5 w.heap.size r) := R4.out.later m5.below
  have B5 : Hid (Below w.heap.size w w5) := below_then B4.out m5.below
  clear m5 X4 R4 L4 hn2
  go_wp2_with ((with_reducible refine at_seq ?_); (refine wpList_build_is (vs := [(0, .int .i64 2)]) (by rfl) 31 rfl (by rfl) (KC.out _) ?_); simp only [Act.put, List.setIfInBounds_toArray, List.set_cons_zero, List.set_cons_succ])
  refine (encode_good rcm rcm_wf rcm_may w5 (HT.out.later B5.out)).mono ?_
  rintro e w6 ⟨p3, c3, rfl, m6⟩
  have M6 : Hid (Made w5 w6 p3 64 c3 (encS rcm)) := m6
  have X6 : Hid (RAt 31 w6 w2.heap.size r) := X5.out.later m6.below
  have R6 : Hid (RAt 37 w6 w.heap.size r) := R5.out.later m6.below
  have B6 : Hid (Below w.heap.size w w6) := below_then B5.out m6.below
  have L6 : Hid (_) := R6.out.load37 HR.out.len
  clear m6 X5 R5
  go_wp2_with ((with_reducible refine at_seq ?_); (refine wpList_load_is (by rfl) 37 rfl rfl L6.out ?_); simp only [Act.put, List.setIfInBounds_toArray, List.set_cons_zero, List.set_cons_succ])
  refine (refEncode_any r HR.out w6).mono ?_
  rintro e w7 ⟨p4, n4, c4, rfl, hn4, m7⟩
  have b57 := below_then M6.out.below m7.below
  have b47 := below_then M5.out.below b57
  have ZZ : Hid (RAt 31 w7 w2.heap.size r ∧ RAt 37 w7 w.heap.size r ∧ BIn w7 p1 n1 (encT r) ∧ BIn w7 p2 n2 (encT r) ∧ BIn w7 p4 n4 (encT r)) := ⟨X6.out.later m7.below, R6.out.later m7.below, M4.out.read.later b47, M5.out.read.later b57, m7.read⟩
  have CH : Hid (Chain w7 w3.heap.size [(p1, n1, c1), (p2, n2, c2), (p3, 64, c3)]) :=
    ⟨w4.heap.size, (M4.out.seg (by rw [N1.out]; exact HL64.out)).later b47, w5.heap.size, (M5.out.seg (by rw [N2.out]; exact HL64.out)).later b57, w6.heap.size, (M6.out.seg (Nat.le_refl _)).later m7.below, trivial⟩
  have B7 : Hid (Below w.heap.size w w7) := below_then B6.out m7.below
  have B37 : Hid (Below w3.heap.size w3 w7) := below_then M4.out.below b47
  clear m7 b57 b47 X6 R6 L6 M4 M5 M6 hn4 B4 B5 B6
  go_wp2_with fail
  refine wp_region_noPanic ?_
  refine wp_region_held_drew (S := fun w' => RAt 31 w' w2.heap.size r ∧ RAt 37 w' w.heap.size r ∧ BIn w' p1 n1 (encT r) ∧ BIn w' p2 n2 (encT r) ∧ BIn w' p4 n4 (encT r)) (by kernel_rfl) ⟨ZZ.out.1, ZZ.out.2.1, ZZ.out.2.2.1.drew, ZZ.out.2.2.2.1.drew, ZZ.out.2.2.2.2.drew⟩ (fun hHeld => ?_)
  refine wpAnyH_take (i := 0) (v := ?v0) (by simp; rfl) (by kernel_rfl) (by kernel_rfl) (by kernel_rfl) (fun _ _ _ h => h) (Or.inl ⟨by rfl, ?y0⟩) hHeld ?r0
  case y0 => intro w hSw; clear hSw; go_simp; with_reducible rfl
  simp only [Act.put, List.setIfInBounds_toArray, List.set_cons_zero, List.set_cons_succ]
  refine wpAnyH_take (i := 1) (v := ?v1) (by simp; rfl) (by kernel_rfl) (by kernel_rfl) (by kernel_rfl) (fun _ _ _ h => h) (Or.inl ⟨by rfl, ?y1⟩) hHeld ?r1
  case y1 => intro w hSw; clear hSw; go_simp; with_reducible rfl
  simp only [Act.put, List.setIfInBounds_toArray, List.set_cons_zero, List.set_cons_succ]
  refine wpAnyH_take (i := 2) (v := ?v2) (by simp; rfl) (by kernel_rfl) (by kernel_rfl) (by kernel_rfl) (fun _ _ _ h => h) (Or.inl ⟨by rfl, ?y2⟩) hHeld ?r2
  case y2 => intro w hSw; clear hSw; go_simp; with_reducible rfl
  simp only [Act.put, List.setIfInBounds_toArray, List.set_cons_zero, List.set_cons_succ]
  refine wpAnyH_take (i := 3) (v := ?v3) (by simp; rfl) (by kernel_rfl) (by kernel_rfl) (by kernel_rfl) (fun _ _ _ h => h) (Or.inl ⟨by rfl, ?y3⟩) hHeld ?r3
  case y3 => intro w hSw; clear hSw; go_simp; with_reducible rfl
  simp only [Act.put, List.setIfInBounds_toArray, List.set_cons_zero, List.set_cons_succ]
  refine wpAnyH_take (i := 4) (v := ?v4) (by simp; rfl) (by kernel_rfl) (by kernel_rfl) (by kernel_rfl) (fun _ _ _ h => h) (Or.inl ⟨by rfl, ?y4⟩) hHeld ?r4
  case y4 => intro w hSw; clear hSw; go_simp; with_reducible rfl
  simp only [Act.put, List.setIfInBounds_toArray, List.set_cons_zero, List.set_cons_succ]
  refine wpAnyH_take (i := 5) (v := ?v5) (by simp; rfl) (by kernel_rfl) (by kernel_rfl) (by kernel_rfl) (fun _ _ _ h => h) (Or.inl ⟨by rfl, ?y5⟩) hHeld ?r5
  case y5 => intro w hSw; clear hSw; go_simp; with_reducible rfl
  simp only [Act.put, List.setIfInBounds_toArray, List.set_cons_zero, List.set_cons_succ]
  refine wpAnyH_take (i := 6) (v := ?v6) (by simp; rfl) (by kernel_rfl) (by kernel_rfl) (by kernel_rfl) (fun _ _ _ h => h) (Or.inl ⟨by rfl, ?y6⟩) hHeld ?r6
  case y6 => intro w hSw; clear hSw; go_simp; with_reducible rfl
  simp only [Act.put, List.setIfInBounds_toArray, List.set_cons_zero, List.set_cons_succ]
  refine wpAnyH_take (i := 7) (v := ?v7) (by simp; rfl) (by kernel_rfl) (by kernel_rfl) (by kernel_rfl) (fun _ _ _ h => h) (Or.inl ⟨by rfl, ?y7⟩) hHeld ?r7
  case y7 => intro w hSw; clear hSw; go_simp; with_reducible rfl
  simp only [Act.put, List.setIfInBounds_toArray, List.set_cons_zero, List.set_cons_succ]
  refine wpAnyH_take (i := 8) (v := ?v8) (by simp; rfl) (by kernel_rfl) (by kernel_rfl) (by kernel_rfl) (fun _ _ _ h => h) (Or.inl ⟨by rfl, ?y8⟩) hHeld ?r8
  case y8 => intro w hSw; clear hSw; go_simp; with_reducible rfl
  simp only [Act.put, List.setIfInBounds_toArray, List.set_cons_zero, List.set_cons_succ]
  refine wpAnyH_take (i := 9) (v := _) (by simp; rfl) (by kernel_rfl) (by kernel_rfl) (by kernel_rfl) (fun _ _ _ h => h) (yieldsIf_load_mid (by rfl) 31 (.tmp 3) rfl w2.heap.size 0 rfl (rcells r) _ (fun _ h => RAt.range h.1) Tryd.underlying31 rfl (by rw [size31, rcells_len r HR.out.len])) hHeld ?_
  simp only [Act.put, List.setIfInBounds_toArray, List.set_cons_zero, List.set_cons_succ]
  refine wpAnyH_take (i := 11) (v := _) (by simp; rfl) (by kernel_rfl) (by kernel_rfl) (by kernel_rfl) (fun _ _ _ h => h) (yieldsIf_load_mid (by rfl) 37 (.tmp 1) rfl w.heap.size 0 rfl (rcells r) _ (fun _ h => RAt.range h.2.1) Tryd.underlying37 rfl (by rw [size37, rcells_len r HR.out.len])) hHeld ?_
  simp only [Act.put, List.setIfInBounds_toArray, List.set_cons_zero, List.set_cons_succ]
  refine wpAnyH_ready (rs := [10]) (by kernel_rfl) (by simp) ?_
  refine AllReadyH.cons (by simp; rfl) (fun Kc hKc => ?_) AllReadyH.nil
  go_simp
  refine (check_any r HR.out.len w7.drew).mono ?_
  rintro e w8 ⟨rfl, b8'⟩
  have b8 := below_undrew b8'
  have Z8 : Hid (RAt 31 w8 w2.heap.size r ∧ RAt 37 w8 w.heap.size r ∧ BIn w8 p1 n1 (encT r) ∧ BIn w8 p2 n2 (encT r) ∧ BIn w8 p4 n4 (encT r)) := ⟨ZZ.out.1.later b8, ZZ.out.2.1.later b8, ZZ.out.2.2.1.later b8, ZZ.out.2.2.2.1.later b8, ZZ.out.2.2.2.2.later b8⟩
  have C8 : Hid (Chain w8 w3.heap.size [(p1, n1, c1), (p2, n2, c2), (p3, 64, c3)]) := CH.out.later b8
  have B8 : Hid (Below w.heap.size w w8) := below_then B7.out b8
  have B38 : Hid (Below w3.heap.size w3 w8) := below_then B37.out b8
  clear b8' b8 ZZ CH B7 B37
  refine hKc.out _ _ Z8.out (fun hHeld => ?_)
  clear hKc Kc
  refine wpAnyH_ready (rs := [12]) (by kernel_rfl) (by simp) ?_
  refine AllReadyH.cons (by simp; rfl) (fun Kc hKc => ?_) AllReadyH.nil
  go_simp
  refine (refCheck_any r HR.out.len w8).mono ?_
  rintro e w9 ⟨rfl, b9⟩
  have Z9 : Hid (RAt 31 w9 w2.heap.size r ∧ RAt 37 w9 w.heap.size r ∧ BIn w9 p1 n1 (encT r) ∧ BIn w9 p2 n2 (encT r) ∧ BIn w9 p4 n4 (encT r)) := ⟨Z8.out.1.later b9, Z8.out.2.1.later b9, Z8.out.2.2.1.later b9, Z8.out.2.2.2.1.later b9, Z8.out.2.2.2.2.later b9⟩
  have C9 : Hid (Chain w9 w3.heap.size [(p1, n1, c1), (p2, n2, c2), (p3, 64, c3)]) := C8.out.later b9
  have B9 : Hid (Below w.heap.size w w9) := below_then B8.out b9
  have B39 : Hid (Below w3.heap.size w3 w9) := below_then B38.out b9
  clear b9 Z8 C8 B8 B38
  refine hKc.out _ _ Z9.out (fun hHeld => ?_)
  clear hKc Kc
  refine wpAnyH_take (i := 13) (v := ?v13) (by simp; rfl) (by kernel_rfl) (by kernel_rfl) (by kernel_rfl) (fun _ _ _ h => h) (Or.inl ⟨by rfl, ?y13⟩) hHeld ?r13
  case y13 => intro w hSw; clear hSw; go_simp; with_reducible rfl
  simp only [Act.put, List.setIfInBounds_toArray, List.set_cons_zero, List.set_cons_succ]
  refine wpAnyH_take (i := 14) (v := ?v14) (by simp; rfl) (by kernel_rfl) (by kernel_rfl) (by kernel_rfl) (fun _ _ _ h => h) (Or.inl ⟨by rfl, ?y14⟩) hHeld ?r14
  case y14 => intro w hSw; clear hSw; go_simp; with_reducible rfl
  simp only [Act.put, List.setIfInBounds_toArray, List.set_cons_zero, List.set_cons_succ]
  refine wpAnyH_take (i := 15) (v := ?v15) (by simp; rfl) (by kernel_rfl) (by kernel_rfl) (by kernel_rfl) (fun _ _ _ h => h) (Or.inl ⟨by rfl, ?y15⟩) hHeld ?r15
  case y15 => intro w hSw; clear hSw; go_simp; with_reducible rfl
  simp only [Act.put, List.setIfInBounds_toArray, List.set_cons_zero, List.set_cons_succ]
  refine wpAnyH_take (i := 16) (v := ?v16) (by simp; rfl) (by kernel_rfl) (by kernel_rfl) (by kernel_rfl) (fun _ _ _ h => h) (Or.inl ⟨by rfl, ?y16⟩) hHeld ?r16
  case y16 => intro w hSw; clear hSw; go_simp; with_reducible rfl
  simp only [Act.put, List.setIfInBounds_toArray, List.set_cons_zero, List.set_cons_succ]
  refine wpAnyH_take (i := 17) (v := ?v17) (by simp; rfl) (by kernel_rfl) (by kernel_rfl) (by kernel_rfl) (fun _ _ _ h => h) (Or.inl ⟨by rfl, ?y17⟩) hHeld ?r17
  case y17 => intro w hSw; obtain ⟨-, -, z, -, -⟩ := hSw; have z1 := z.str c1; clear z; go_simp; with_reducible rfl
  simp only [Act.put, List.setIfInBounds_toArray, List.set_cons_zero, List.set_cons_succ]
  refine wpAnyH_take (i := 18) (v := ?v18) (by simp; rfl) (by kernel_rfl) (by kernel_rfl) (by kernel_rfl) (fun _ _ _ h => h) (Or.inl ⟨by rfl, ?y18⟩) hHeld ?r18
  case y18 => intro w hSw; clear hSw; go_simp; with_reducible rfl
  simp only [Act.put, List.setIfInBounds_toArray, List.set_cons_zero, List.set_cons_succ]
  refine wpAnyH_take (i := 19) (v := ?v19) (by simp; rfl) (by kernel_rfl) (by kernel_rfl) (by kernel_rfl) (fun _ _ _ h => h) (Or.inl ⟨by rfl, ?y19⟩) hHeld ?r19
  case y19 => intro w hSw; obtain ⟨-, -, -, -, z⟩ := hSw; have z1 := z.str c4; clear z; go_simp; with_reducible rfl
  simp only [Act.put, List.setIfInBounds_toArray, List.set_cons_zero, List.set_cons_succ]
  refine wpAnyH_take (i := 20) (v := ?v20) (by simp; rfl) (by kernel_rfl) (by kernel_rfl) (by kernel_rfl) (fun _ _ _ h => h) (Or.inl ⟨by rfl, ?y20⟩) hHeld ?r20
  case y20 => intro w hSw; clear hSw; go_simp; with_reducible rfl
  simp only [Act.put, List.setIfInBounds_toArray, List.set_cons_zero, List.set_cons_succ]
  refine wpAnyH_take (i := 21) (v := ?v21) (by simp; rfl) (by kernel_rfl) (by kernel_rfl) (by kernel_rfl) (fun _ _ _ h => h) (Or.inl ⟨by rfl, ?y21⟩) hHeld ?r21
  case y21 => intro w hSw; clear hSw; go_simp; with_reducible rfl
  simp only [Act.put, List.setIfInBounds_toArray, List.set_cons_zero, List.set_cons_succ]
  refine wpAnyH_take (i := 22) (v := ?v22) (by simp; rfl) (by kernel_rfl) (by kernel_rfl) (by kernel_rfl) (fun _ _ _ h => h) (Or.inl ⟨by rfl, ?y22⟩) hHeld ?r22
  case y22 => intro w hSw; clear hSw; go_simp; with_reducible rfl
  simp only [Act.put, List.setIfInBounds_toArray, List.set_cons_zero, List.set_cons_succ]
  refine wpAnyH_take (i := 23) (v := ?v23) (by simp; rfl) (by kernel_rfl) (by kernel_rfl) (by kernel_rfl) (fun _ _ _ h => h) (Or.inl ⟨by rfl, ?y23⟩) hHeld ?r23
  case y23 => intro w hSw; clear hSw; go_simp; with_reducible rfl
  simp only [Act.put, List.setIfInBounds_toArray, List.set_cons_zero, List.set_cons_succ]
  refine wpAnyH_take (i := 24) (v := ?v24) (by simp; rfl) (by kernel_rfl) (by kernel_rfl) (by kernel_rfl) (fun _ _ _ h => h) (Or.inl ⟨by rfl, ?y24⟩) hHeld ?r24
  case y24 => intro w hSw; obtain ⟨-, -, -, z, -⟩ := hSw; have z1 := z.str c2; clear z; go_simp; with_reducible rfl
  simp only [Act.put, List.setIfInBounds_toArray, List.set_cons_zero, List.set_cons_succ]
  refine wpAnyH_take (i := 25) (v := ?v25) (by simp; rfl) (by kernel_rfl) (by kernel_rfl) (by kernel_rfl) (fun _ _ _ h => h) (Or.inl ⟨by rfl, ?y25⟩) hHeld ?r25
  case y25 => intro w hSw; clear hSw; go_simp; with_reducible rfl
  simp only [Act.put, List.setIfInBounds_toArray, List.set_cons_zero, List.set_cons_succ]
  refine wpAnyH_take (i := 26) (v := ?v26) (by simp; rfl) (by kernel_rfl) (by kernel_rfl) (by kernel_rfl) (fun _ _ _ h => h) (Or.inl ⟨by rfl, ?y26⟩) hHeld ?r26
  case y26 => intro w hSw; obtain ⟨-, -, -, -, z⟩ := hSw; have z1 := z.str c4; clear z; go_simp; with_reducible rfl
  simp only [Act.put, List.setIfInBounds_toArray, List.set_cons_zero, List.set_cons_succ]
  refine wpAnyH_take (i := 27) (v := ?v27) (by simp; rfl) (by kernel_rfl) (by kernel_rfl) (by kernel_rfl) (fun _ _ _ h => h) (Or.inl ⟨by rfl, ?y27⟩) hHeld ?r27
  case y27 => intro w hSw; clear hSw; go_simp; with_reducible rfl
  simp only [Act.put, List.setIfInBounds_toArray, List.set_cons_zero, List.set_cons_succ]
  refine wpAnyH_take (i := 28) (v := ?v28) (by simp; rfl) (by kernel_rfl) (by kernel_rfl) (by kernel_rfl) (fun _ _ _ h => h) (Or.inl ⟨by rfl, ?y28⟩) hHeld ?r28
  case y28 => intro w hSw; clear hSw; go_simp; with_reducible rfl
  simp only [Act.put, List.setIfInBounds_toArray, List.set_cons_zero, List.set_cons_succ]
  refine wpAnyH_take (i := 29) (v := ?v29) (by simp; rfl) (by kernel_rfl) (by kernel_rfl) (by kernel_rfl) (fun _ _ _ h => h) (Or.inl ⟨by rfl, ?y29⟩) hHeld ?r29
  case y29 => intro w hSw; clear hSw; go_simp; with_reducible rfl
  simp only [Act.put, List.setIfInBounds_toArray, List.set_cons_zero, List.set_cons_succ]
  refine wpAnyH_take (i := 30) (v := ?v30) (by simp; rfl) (by kernel_rfl) (by kernel_rfl) (by kernel_rfl) (fun _ _ _ h => h) (Or.inl ⟨by rfl, ?y30⟩) hHeld ?r30
  case y30 => intro w hSw; clear hSw; go_simp; with_reducible rfl
  simp only [Act.put, List.setIfInBounds_toArray, List.set_cons_zero, List.set_cons_succ]
  refine wpAnyH_take (i := 31) (v := ?v31) (by simp; rfl) (by kernel_rfl) (by kernel_rfl) (by kernel_rfl) (fun _ _ _ h => h) (Or.inl ⟨by rfl, ?y31⟩) hHeld ?r31
  case y31 => intro w hSw; clear hSw; go_simp; with_reducible rfl
  simp only [Act.put, List.setIfInBounds_toArray, List.set_cons_zero, List.set_cons_succ]
  refine wpAnyH_take (i := 32) (v := ?v32) (by simp; rfl) (by kernel_rfl) (by kernel_rfl) (by kernel_rfl) (fun _ _ _ h => h) (Or.inl ⟨by rfl, ?y32⟩) hHeld ?r32
  case y32 => intro w hSw; clear hSw; go_simp; with_reducible rfl
  simp only [Act.put, List.setIfInBounds_toArray, List.set_cons_zero, List.set_cons_succ]
  refine wpAnyH_take (i := 33) (v := ?v33) (by simp; rfl) (by kernel_rfl) (by kernel_rfl) (by kernel_rfl) (fun _ _ _ h => h) (Or.inl ⟨by rfl, ?y33⟩) hHeld ?r33
  case y33 => intro w hSw; clear hSw; go_simp; with_reducible rfl
  simp only [Act.put, List.setIfInBounds_toArray, List.set_cons_zero, List.set_cons_succ]
  refine wpAnyH_done (by kernel_rfl) (NoPanic.normal ?_) _
  clear hHeld Z9
  go_wp2_with fail
  refine (apart_list w9 w3.heap.size [(p1, n1, c1), (p2, n2, c2), (p3, 64, c3)] 3 rfl B39.out.size (by omega) (by omega) C9.out).mono ?_
  rintro e w10 ⟨rfl, b10⟩
  have B10 : Hid (Below w.heap.size w w10) := below_then B3.out (B39.out.trans b10)
  clear b10
  go_wp2_with fail
  go_ret
  exact ⟨rfl, B10.out⟩
end Go.Proofs.YtndildimnanlpaaDoor
