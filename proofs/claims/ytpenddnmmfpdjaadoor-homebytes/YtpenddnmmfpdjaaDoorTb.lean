/-
  HomeBack walked.
-/
import Derived.Test.YtpenddnmmfpdjaaDoorTa
namespace Go.Proofs.YtpenddnmmfpdjaaDoor
open Go.RowKit

/-- bytes that are handed in -/
structure SB (w : World) (p : Option Addr) (n c : Nat) (xs : List Int) : Prop where
  read : BIn w p n xs
  le : n ≤ c
  nil : p = none → c = 0
theorem SB.later {w w' : World} {p : Option Addr} {n c : Nat} {xs : List Int} (h : SB w p n c xs) (hb : Below w.heap.size w w') : SB w' p n c xs := ⟨h.read.later hb, h.le, h.nil⟩
theorem hdec_two {i j : Nat} {v : List Int} (hi : inB (i : Int)) (hj : inB (j : Int)) (hv : v.length = 32) : (j = i ∧ (hdec (homeS (i : Int) v) (j : Int)).2 = 0) ∨ (¬ j = i ∧ (hdec (homeS (i : Int) v) (j : Int)).2 = 80) := by
  by_cases c : j = i
  · subst c; rw [hdec_homeS hi hv]; exact .inl ⟨rfl, rfl⟩
  · rw [hdec_other hj hv (by omega)]; exact .inr ⟨c, rfl⟩
theorem beq_no {a b : Nat} (h : ¬ a = b) : (((a : Nat) : Int) == ((b : Nat) : Int)) = false := by simp; omega

set_option maxHeartbeats 4000000 in
set_option maxRecDepth 100000 in
theorem homeBack_any (A : Int) (v : List Int) (hv : v.length = 32) (hvb : Bytes v) (M : Int) (p : Option Addr) (n c : Nat) (xs : List Int) (w : World) (h : SB w p n c xs) (ht : Tab w) :
    Calls Tryd.prog 3 #[.int .i64 A, .agg (U8 v).toArray, .int .i64 M, .slice p n c] w fun e w' => e = .returned (.bool true) ∧ Below w.heap.size w w' := by
  have HT : Hid (Tab w) := ht
  have HV : Hid (v.length = 32 ∧ Bytes v) := ⟨hv, hvb⟩
  obtain ⟨w0, hw0⟩ : ∃ x, x = w.alloc (.cells (U8 v).toArray 23) := ⟨_, rfl⟩
  have ew := hw0.symm
  have V0 : Hid (VAt w0 w.heap.size v) := by rw [hw0]; exact LAt.new 23 w _
  have B0 : Hid (Below w.heap.size w w0) := by rw [hw0]; exact below_alloc w _
  have X0 : Hid (SB w0 p n c xs) := h.later B0.out
  have L0 : Hid (_) := VAt.load V0.out hv
  obtain ⟨q, i, hi1, hi2, hi3, hi4, hi5, hi6⟩ := place A 64 (by omega)
  have hi1' : A.tmod 64 = q := hi1
  have hi4' : (q + 64).tmod 64 = (i : Int) := hi4
  have hi2' : -64 < q := hi2
  have hi3' : q < 64 := hi3
  obtain ⟨r, j, hj1, hj2, hj3, hj4, hj5, hj6⟩ := place M 64 (by omega)
  have hj1' : M.tmod 64 = r := hj1
  have hj4' : (r + 64).tmod 64 = (j : Int) := hj4
  have hj2' : -64 < r := hj2
  have hj3' : r < 64 := hj3
  clear hi1 hi2 hi3 hi4 hi5 hj1 hj2 hj3 hj4 hj5 hw0 ht hv hvb h
  have HBi : Hid (inB (i : Int)) := ⟨by omega, by omega⟩
  have HBj : Hid (inB (j : Int)) := ⟨by omega, by omega⟩
  go_enter Tryd.func3, Tryd.ntmps3
  go_wp2_with ((with_reducible refine at_ops ?_); (refine wpList_load_is (by rfl) 23 rfl rfl L0.out ?_); simp only [Act.put, List.setIfInBounds_toArray, List.set_cons_zero, List.set_cons_succ])
  clear ew
  refine (hencode_good (i : Int) v HBi.out HV.out.1 HV.out.2 w0 (HT.out.later B0.out)).mono ?_
  rintro e w1 ⟨g1, rfl, m1⟩
  have B1 : Hid (Below w.heap.size w w1) := below_then B0.out m1.below
  have V1 : Hid (VAt w1 w.heap.size v) := LAt.later V0.out m1.below
  have Y1 : Hid (BIn w1 (some ⟨g1, 0, none⟩) 64 (homeS (i : Int) v)) := m1.read
  have X1 : Hid (SB w1 p n c xs) := X0.out.later m1.below
  clear m1 B0 V0 X0 L0
  go_wp2_with fail
  refine (hdecode_any (some ⟨g1, 0, none⟩) 64 64 _ (i : Int) w1 Y1.out (Nat.le_refl _) (HT.out.later B1.out)).mono ?_
  rintro e w2 ⟨rfl, b2⟩
  rw [hdec_homeS HBi.out HV.out.1]
  have A2 : Hid (_) := allocV w2
  have S2 : Hid (_) := store_newV w2 v HV.out.1
  obtain ⟨w3, hw3⟩ : ∃ x, x = w2.alloc (.cells (U8 v).toArray 23) := ⟨_, rfl⟩
  rw [← hw3] at S2
  have b3 : Below w1.heap.size w1 w3 := by rw [hw3]; exact below_then b2 (below_alloc _ _)
  have U3 : Hid (VAt w3 w2.heap.size v) := by rw [hw3]; exact LAt.new 23 w2 _
  have B3 : Hid (Below w.heap.size w w3) := below_then B1.out b3
  have V3 : Hid (VAt w3 w.heap.size v) := LAt.later V1.out b3
  have Y3 : Hid (BIn w3 (some ⟨g1, 0, none⟩) 64 (homeS (i : Int) v)) := Y1.out.later b3
  have X3 : Hid (SB w3 p n c xs) := X1.out.later b3
  clear hw3 b2 b3 B1 V1 Y1 X1
  go_wp2_with ((with_reducible refine at_ops ?_); (first | (refine wpList_alloc_is (by rfl) 23 rfl A2.out ?_) | (refine wpList_store_is (by rfl) 23 rfl rfl rfl S2.out ?_)); simp only [Act.put, List.setIfInBounds_toArray, List.set_cons_zero, List.set_cons_succ])
  refine (hdecode_any (some ⟨g1, 0, none⟩) 64 64 _ (j : Int) w3 Y3.out (Nat.le_refl _) (HT.out.later B3.out)).mono ?_
  rintro e w4 ⟨rfl, b4⟩
  have h2 := hdec_two HBi.out HBj.out HV.out.1
  have hul := hdec_len (homeS (i : Int) v) (j : Int)
  obtain ⟨uv, hu0⟩ : ∃ x, x = hdec (homeS (i : Int) v) (j : Int) := ⟨_, rfl⟩
  rw [← hu0] at h2 hul ⊢
  obtain ⟨u, e4⟩ := uv
  have hue : (j = i ∧ e4 = 0) ∨ (¬ j = i ∧ e4 = 80) := h2
  clear h2
  have HUL : Hid (u.length = 32) := hul
  have A4 : Hid (_) := allocV w4
  have S4 : Hid (_) := store_newV w4 u HUL.out
  obtain ⟨w5, hw5⟩ : ∃ x, x = w4.alloc (.cells (U8 u).toArray 23) := ⟨_, rfl⟩
  rw [← hw5] at S4
  have b5 : Below w3.heap.size w3 w5 := by rw [hw5]; exact below_then b4 (below_alloc _ _)
  have U5 : Hid (VAt w5 w2.heap.size v) := LAt.later U3.out b5
  have B5 : Hid (Below w.heap.size w w5) := below_then B3.out b5
  have V5 : Hid (VAt w5 w.heap.size v) := LAt.later V3.out b5
  have X5 : Hid (SB w5 p n c xs) := X3.out.later b5
  clear hw5 b4 b5 B3 V3 Y3 X3 U3 A2 S2 hu0 hul
  go_wp2_with ((with_reducible refine at_ops ?_); (first | (refine wpList_alloc_is (by rfl) 23 rfl A4.out ?_) | (refine wpList_store_is (by rfl) 23 rfl rfl rfl S4.out ?_)); simp only [Act.put, List.setIfInBounds_toArray, List.set_cons_zero, List.set_cons_succ])
  refine (awake_any w5 (HT.out.later B5.out)).mono ?_
  rintro e w6 ⟨rfl, b6⟩
  have B6 : Hid (Below w.heap.size w w6) := below_then B5.out b6
  have X6 : Hid (SB w6 p n c xs) := X5.out.later b6
  have L6 : Hid (_) := VAt.load (LAt.later U5.out b6) HV.out.1
  have M6 : Hid (_) := VAt.load (LAt.later V5.out b6) HV.out.1
  have Q6 : Hid (_) := neqV w6 v v HV.out.1 HV.out.1
  rw [decide_eq_true rfl] at Q6
  clear b6 B5 V5 X5 U5 A4 S4
  rcases hue with ⟨hc, rfl⟩ | ⟨hc, rfl⟩
  · have he : (((j : Nat) : Int) == ((i : Nat) : Int)) = true := by rw [hc]; simp
    clear hc
    go_wp2_with ((with_reducible refine at_ops ?_); (first | (refine wpList_load_is (by rfl) 23 rfl rfl L6.out ?_) | (refine wpList_load_is (by rfl) 23 rfl rfl M6.out ?_) | (refine wpList_neq_is (by rfl) 23 rfl rfl rfl eqgV Q6.out ?_)); simp only [Act.put, List.setIfInBounds_toArray, List.set_cons_zero, List.set_cons_succ])
    clear he
    clear L6 M6 Q6
    refine (hdecode_any p n c xs (i : Int) w6 X6.out.read X6.out.le (HT.out.later B6.out)).mono ?_
    rintro e w7 ⟨rfl, b7⟩
    have B7 : Hid (Below w.heap.size w w7) := below_then B6.out b7
    have X7 : Hid (SB w7 p n c xs) := X6.out.later b7
    have HN : Hid (xs.length = n) := X6.out.read.len
    clear b7 B6 X6
    rcases hdec_cases xs (i : Int) with ⟨e, hx⟩ | ⟨e, -, hx⟩ | ⟨e, -, hx, hy⟩ | ⟨e, -, hx, -⟩
    · exact absurd HBi.out hx
    · rw [e]
      have hn1 : (((n : Nat) : Int) != 64) = true := by have := HN.out; simp; omega
      have A7 : Hid (_) := allocV w7
      have S7 : Hid (_) := store_newV w7 (zs 32) (zs_len 32)
      obtain ⟨w8, hw8⟩ : ∃ x, x = w7.alloc (.cells (U8 (zs 32)).toArray 23) := ⟨_, rfl⟩
      have B8 : Hid (Below w.heap.size w w8) := by rw [hw8]; exact below_then B7.out (below_alloc _ _)
      have L8 : Hid (_) := VAt.load (LAt.new 23 w7 (U8 (zs 32))) (zs_len 32)
      rw [← hw8] at S7 L8 A7
      have U8' : Hid (_) := buildV w8
      have Q8 : Hid (_) := eqlV w8 (zs 32) (zs 32) (zs_len 32) (zs_len 32)
      rw [decide_eq_true rfl] at Q8
      clear hw8 hx e
      go_wp2_with ((with_reducible refine at_ops ?_); (first | (refine wpList_alloc_is (by rfl) 23 rfl A7.out ?_) | (refine wpList_store_is (by rfl) 23 rfl rfl rfl S7.out ?_) | (refine wpList_load_is (by rfl) 23 rfl rfl L8.out ?_) | (refine wpList_build_is (vs := []) (by rfl) 23 rfl (by rfl) U8'.out ?_) | (refine wpList_eql_is (by rfl) 23 rfl rfl rfl eqgV Q8.out ?_)); simp only [Act.put, List.setIfInBounds_toArray, List.set_cons_zero, List.set_cons_succ])
      go_ret
      exact ⟨rfl, B8.out⟩
    · rw [e]
      have hl : (cutV xs).length = 32 := cutV_len hx
      have HL : Hid ((cutV xs).length = 32 ∧ Bytes (cutV xs)) := ⟨hl, cutV_bytes X7.out.read.byte⟩
      have HE : Hid (homeS (i : Int) (cutV xs) = xs) := hy
      have A7 : Hid (_) := allocV w7
      have S7 : Hid (_) := store_newV w7 (cutV xs) hl
      obtain ⟨w8, hw8⟩ : ∃ x, x = w7.alloc (.cells (U8 (cutV xs)).toArray 23) := ⟨_, rfl⟩
      have B8 : Hid (Below w.heap.size w w8) := by rw [hw8]; exact below_then B7.out (below_alloc _ _)
      have X8 : Hid (SB w8 p n c xs) := by rw [hw8]; exact X7.out.later (below_alloc _ _)
      have L8 : Hid (_) := VAt.load (LAt.new 23 w7 (U8 (cutV xs))) hl
      rw [← hw8] at S7 L8
      clear hw8 hx e hy hl
      go_wp2_with ((with_reducible refine at_ops ?_); (first | (refine wpList_alloc_is (by rfl) 23 rfl A7.out ?_) | (refine wpList_store_is (by rfl) 23 rfl rfl rfl S7.out ?_) | (refine wpList_load_is (by rfl) 23 rfl rfl L8.out ?_)); simp only [Act.put, List.setIfInBounds_toArray, List.set_cons_zero, List.set_cons_succ])
      clear A7 S7 L8
      refine (hencode_good (i : Int) (cutV xs) HBi.out HL.out.1 HL.out.2 w8 (HT.out.later B8.out)).mono ?_
      rintro e w9 ⟨g9, rfl, m9⟩
      rw [HE.out] at m9
      have B9 : Hid (Below w.heap.size w w9) := below_then B8.out m9.below
      have z1 := m9.read.str 64
      have z2 := (X8.out.later m9.below).read.str c
      clear m9 B8 X8
      go_wp2_with fail
      go_ret
      exact ⟨rfl, B9.out⟩
    · rw [e]
      have hn1 : (((n : Nat) : Int) != 64) = false := by have := HN.out; simp; omega
      have hn2 : (((n : Nat) : Int) == 64) = true := by have := HN.out; simp; omega
      have A7 : Hid (_) := allocV w7
      have S7 : Hid (_) := store_newV w7 (zs 32) (zs_len 32)
      obtain ⟨w8, hw8⟩ : ∃ x, x = w7.alloc (.cells (U8 (zs 32)).toArray 23) := ⟨_, rfl⟩
      have B8 : Hid (Below w.heap.size w w8) := by rw [hw8]; exact below_then B7.out (below_alloc _ _)
      have L8 : Hid (_) := VAt.load (LAt.new 23 w7 (U8 (zs 32))) (zs_len 32)
      rw [← hw8] at S7 L8 A7
      have U8' : Hid (_) := buildV w8
      have Q8 : Hid (_) := eqlV w8 (zs 32) (zs 32) (zs_len 32) (zs_len 32)
      rw [decide_eq_true rfl] at Q8
      clear hw8 hx e
      go_wp2_with ((with_reducible refine at_ops ?_); (first | (refine wpList_alloc_is (by rfl) 23 rfl A7.out ?_) | (refine wpList_store_is (by rfl) 23 rfl rfl rfl S7.out ?_) | (refine wpList_load_is (by rfl) 23 rfl rfl L8.out ?_) | (refine wpList_build_is (vs := []) (by rfl) 23 rfl (by rfl) U8'.out ?_) | (refine wpList_eql_is (by rfl) 23 rfl rfl rfl eqgV Q8.out ?_)); simp only [Act.put, List.setIfInBounds_toArray, List.set_cons_zero, List.set_cons_succ])
      go_ret
      exact ⟨rfl, B8.out⟩
  · have he : (((j : Nat) : Int) == ((i : Nat) : Int)) = false := beq_no hc
    clear hc
    go_wp2_with ((with_reducible refine at_ops ?_); (first | (refine wpList_load_is (by rfl) 23 rfl rfl L6.out ?_) | (refine wpList_load_is (by rfl) 23 rfl rfl M6.out ?_) | (refine wpList_neq_is (by rfl) 23 rfl rfl rfl eqgV Q6.out ?_)); simp only [Act.put, List.setIfInBounds_toArray, List.set_cons_zero, List.set_cons_succ])
    clear he
    clear L6 M6 Q6
    refine (hdecode_any p n c xs (i : Int) w6 X6.out.read X6.out.le (HT.out.later B6.out)).mono ?_
    rintro e w7 ⟨rfl, b7⟩
    have B7 : Hid (Below w.heap.size w w7) := below_then B6.out b7
    have X7 : Hid (SB w7 p n c xs) := X6.out.later b7
    have HN : Hid (xs.length = n) := X6.out.read.len
    clear b7 B6 X6
    rcases hdec_cases xs (i : Int) with ⟨e, hx⟩ | ⟨e, -, hx⟩ | ⟨e, -, hx, hy⟩ | ⟨e, -, hx, -⟩
    · exact absurd HBi.out hx
    · rw [e]
      have hn1 : (((n : Nat) : Int) != 64) = true := by have := HN.out; simp; omega
      have A7 : Hid (_) := allocV w7
      have S7 : Hid (_) := store_newV w7 (zs 32) (zs_len 32)
      obtain ⟨w8, hw8⟩ : ∃ x, x = w7.alloc (.cells (U8 (zs 32)).toArray 23) := ⟨_, rfl⟩
      have B8 : Hid (Below w.heap.size w w8) := by rw [hw8]; exact below_then B7.out (below_alloc _ _)
      have L8 : Hid (_) := VAt.load (LAt.new 23 w7 (U8 (zs 32))) (zs_len 32)
      rw [← hw8] at S7 L8 A7
      have U8' : Hid (_) := buildV w8
      have Q8 : Hid (_) := eqlV w8 (zs 32) (zs 32) (zs_len 32) (zs_len 32)
      rw [decide_eq_true rfl] at Q8
      clear hw8 hx e
      go_wp2_with ((with_reducible refine at_ops ?_); (first | (refine wpList_alloc_is (by rfl) 23 rfl A7.out ?_) | (refine wpList_store_is (by rfl) 23 rfl rfl rfl S7.out ?_) | (refine wpList_load_is (by rfl) 23 rfl rfl L8.out ?_) | (refine wpList_build_is (vs := []) (by rfl) 23 rfl (by rfl) U8'.out ?_) | (refine wpList_eql_is (by rfl) 23 rfl rfl rfl eqgV Q8.out ?_)); simp only [Act.put, List.setIfInBounds_toArray, List.set_cons_zero, List.set_cons_succ])
      go_ret
      exact ⟨rfl, B8.out⟩
    · rw [e]
      have hl : (cutV xs).length = 32 := cutV_len hx
      have HL : Hid ((cutV xs).length = 32 ∧ Bytes (cutV xs)) := ⟨hl, cutV_bytes X7.out.read.byte⟩
      have HE : Hid (homeS (i : Int) (cutV xs) = xs) := hy
      have A7 : Hid (_) := allocV w7
      have S7 : Hid (_) := store_newV w7 (cutV xs) hl
      obtain ⟨w8, hw8⟩ : ∃ x, x = w7.alloc (.cells (U8 (cutV xs)).toArray 23) := ⟨_, rfl⟩
      have B8 : Hid (Below w.heap.size w w8) := by rw [hw8]; exact below_then B7.out (below_alloc _ _)
      have X8 : Hid (SB w8 p n c xs) := by rw [hw8]; exact X7.out.later (below_alloc _ _)
      have L8 : Hid (_) := VAt.load (LAt.new 23 w7 (U8 (cutV xs))) hl
      rw [← hw8] at S7 L8
      clear hw8 hx e hy hl
      go_wp2_with ((with_reducible refine at_ops ?_); (first | (refine wpList_alloc_is (by rfl) 23 rfl A7.out ?_) | (refine wpList_store_is (by rfl) 23 rfl rfl rfl S7.out ?_) | (refine wpList_load_is (by rfl) 23 rfl rfl L8.out ?_)); simp only [Act.put, List.setIfInBounds_toArray, List.set_cons_zero, List.set_cons_succ])
      clear A7 S7 L8
      refine (hencode_good (i : Int) (cutV xs) HBi.out HL.out.1 HL.out.2 w8 (HT.out.later B8.out)).mono ?_
      rintro e w9 ⟨g9, rfl, m9⟩
      rw [HE.out] at m9
      have B9 : Hid (Below w.heap.size w w9) := below_then B8.out m9.below
      have z1 := m9.read.str 64
      have z2 := (X8.out.later m9.below).read.str c
      clear m9 B8 X8
      go_wp2_with fail
      go_ret
      exact ⟨rfl, B9.out⟩
    · rw [e]
      have hn1 : (((n : Nat) : Int) != 64) = false := by have := HN.out; simp; omega
      have hn2 : (((n : Nat) : Int) == 64) = true := by have := HN.out; simp; omega
      have A7 : Hid (_) := allocV w7
      have S7 : Hid (_) := store_newV w7 (zs 32) (zs_len 32)
      obtain ⟨w8, hw8⟩ : ∃ x, x = w7.alloc (.cells (U8 (zs 32)).toArray 23) := ⟨_, rfl⟩
      have B8 : Hid (Below w.heap.size w w8) := by rw [hw8]; exact below_then B7.out (below_alloc _ _)
      have L8 : Hid (_) := VAt.load (LAt.new 23 w7 (U8 (zs 32))) (zs_len 32)
      rw [← hw8] at S7 L8 A7
      have U8' : Hid (_) := buildV w8
      have Q8 : Hid (_) := eqlV w8 (zs 32) (zs 32) (zs_len 32) (zs_len 32)
      rw [decide_eq_true rfl] at Q8
      clear hw8 hx e
      go_wp2_with ((with_reducible refine at_ops ?_); (first | (refine wpList_alloc_is (by rfl) 23 rfl A7.out ?_) | (refine wpList_store_is (by rfl) 23 rfl rfl rfl S7.out ?_) | (refine wpList_load_is (by rfl) 23 rfl rfl L8.out ?_) | (refine wpList_build_is (vs := []) (by rfl) 23 rfl (by rfl) U8'.out ?_) | (refine wpList_eql_is (by rfl) 23 rfl rfl rfl eqgV Q8.out ?_)); simp only [Act.put, List.setIfInBounds_toArray, List.set_cons_zero, List.set_cons_succ])
      go_ret
      exact ⟨rfl, B8.out⟩
end Go.Proofs.YtpenddnmmfpdjaaDoor
