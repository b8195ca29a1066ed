/-
  The statements' own functions: awake.
-/
import Derived.Test.YtpenddnmmfpdjaaDoorWd
namespace Go.Proofs.YtpenddnmmfpdjaaDoor
open Go.RowKit

/-- the small configuration -/
def sm : Sup := ⟨2, 3, 1, 1, 1, 0, 0⟩
theorem sm_may : MayC sm := by decide
theorem sm_cnt : cntS sm = 6 := rfl
theorem sm_len : (newS sm).length = 64 * 6 := newS_len sm
theorem sm_rb1 : rbS sm ((6 : Nat) : Int) 1 = 0 := by decide
def one7 : List Int := 7 :: zs 31
theorem one7_len : one7.length = 32 := rfl
theorem one7_bytes : Bytes one7 := by
  refine Bytes.cons (by omega) (zs_bytes 31)
theorem build7 (w : World) : (Instr.build 23 #[(0, .int .u8 7)]).run Tryd.prog w = .ok (.agg (U8 one7).toArray) w := run_build w 23 _ _ (by kernel_rfl)
/-- behind Save, Load -/
theorem ld_sv {s : Sup} {n : Int} {ws : List Wr} {d : List Int} {b : Int} {v : List Int} (h : rbS s n b = 0) (hv : v.length = 32) : ldS s n (svW s n ws b v) d b = (v, 0) := by
  obtain ⟨hb, h0, _⟩ := rbS_in h
  rw [ldS_yes _ _ h, svW_yes _ _ h, newest_snoc, if_pos rfl]
  exact hdec_homeS hb hv
theorem ld_sv_other {s : Sup} {n : Int} {ws : List Wr} {d : List Int} {b c : Int} {v : List Int} (hne : ¬ c = b) : ldS s n (svW s n ws b v) d c = ldS s n ws d c := by
  by_cases h : rbS s n b = 0
  · by_cases hc : rbS s n c = 0
    · obtain ⟨hb, h0, _⟩ := rbS_in h
      obtain ⟨hb', h0', _⟩ := rbS_in hc
      rw [ldS_yes _ _ hc, ldS_yes _ _ hc, svW_yes _ _ h, newest_snoc, if_neg (by omega)]
    · rw [ldS_no _ _ hc, ldS_no _ _ hc]
  · rw [svW_no _ _ h]
theorem home_head (b : Int) (v : List Int) : (homeS b v).take 6 = [72, 79, 77, 69, 1, b] := rfl
theorem new_below {w w' : World} {B : Nat} (h : Kept (fun k => B ≤ k) w w') (hB : B ≤ w.heap.size) : Below B w w' := h.below hB (fun _ hk => hk)

set_option maxHeartbeats 4000000 in
set_option maxRecDepth 100000 in
theorem awake_any (w : World) (ht : Tab w) : Calls Tryd.prog 11 #[] w fun e w' => e = .returned (.bool true) ∧ Below w.heap.size w w' := by
  have HT : Hid (Tab w) := ht
  have U1 : Hid (_) := buildV w
  clear ht
  go_enter Tryd.func11, Tryd.ntmps11
  go_wp2_with ((with_reducible refine at_ops ?_); (refine wpList_build_is (vs := []) (by rfl) 23 rfl (by rfl) U1.out ?_); simp only [Act.put, List.setIfInBounds_toArray, List.set_cons_zero, List.set_cons_succ])
  refine (hencode_good 2 (zs 32) ⟨by omega, by omega⟩ (zs_len 32) (zs_bytes 32) w HT.out).mono ?_
  rintro e w1 ⟨g1, rfl, m1⟩
  have B1 : Hid (Below w.heap.size w w1) := m1.below
  have X1 : Hid (BIn w1 (some ⟨g1, 0, none⟩) 64 (homeS 2 (zs 32))) := m1.read
  have z1 : (convert 24 9 (.slice (some ⟨g1, 0, none⟩) 6 64)).run Tryd.prog w1 = .ok (.string { data := #[72, 79, 77, 69, 1, 2] }) w1 := by
    have := (X1.out.take 6 (by omega)).str 64
    rw [home_head] at this
    exact this
  clear m1 U1
  go_wp2_with fail
  clear z1
  refine (hdecode_any (some ⟨g1, 0, none⟩) 64 64 _ 2 w1 X1.out (Nat.le_refl _) (HT.out.later B1.out)).mono ?_
  rintro e w2 ⟨rfl, b2⟩
  rw [hdec_homeS ⟨by omega, by omega⟩ (zs_len 32)]
  have B2 : Hid (Below w.heap.size w w2) := below_then B1.out b2
  have A2 : Hid (_) := allocV w2
  have S2 : Hid (_) := store_newV w2 (zs 32) (zs_len 32)
  obtain ⟨w3, hw3⟩ : ∃ x, x = w2.alloc (.cells (U8 (zs 32)).toArray 23) := ⟨_, rfl⟩
  rw [← hw3] at S2 A2
  have B3 : Hid (Below w.heap.size w w3) := by rw [hw3]; exact below_then B2.out (below_alloc _ _)
  have V3 : Hid (VAt w3 w2.heap.size (zs 32)) := by rw [hw3]; exact LAt.new 23 w2 _
  clear hw3 b2 B1 B2 X1
  go_wp2_with ((with_reducible refine at_ops ?_); (first | (refine wpList_alloc_is (by rfl) 23 rfl A2.out ?_) | (refine wpList_store_is (by rfl) 23 rfl rfl rfl S2.out ?_)); simp only [Act.put, List.setIfInBounds_toArray, List.set_cons_zero, List.set_cons_succ])
  refine (small_any w3).mono ?_
  rintro e w4 ⟨rfl, b4⟩
  have B4 : Hid (Below w.heap.size w w4) := below_then B3.out b4
  have V4 : Hid (VAt w4 w2.heap.size (zs 32)) := LAt.later V3.out b4
  clear b4 B3 V3 A2 S2
  go_wp2_with fail
  refine (hnew_good sm sm_may w4 (HT.out.later B4.out)).mono ?_
  rintro e w5 ⟨p, rfl, d5, b5⟩
  have B5 : Hid (Below w.heap.size w w5) := below_then B4.out b5
  have V5 : Hid (VAt w5 w2.heap.size (zs 32)) := LAt.later V4.out b5
  have D5 : Hid (Dsk w5 (fun k => w.heap.size ≤ k) p 6 (newS sm) []) := d5.mono (fun k _ hk => Nat.le_trans B4.out.size hk)
  clear b5 d5 B4 V4
  have L5 : Hid (_) := VAt.load V5.out (zs_len 32)
  have U5 : Hid (_) := buildV w5
  have Q5 : Hid (_) := neqV w5 (zs 32) (zs 32) (zs_len 32) (zs_len 32)
  rw [decide_eq_true rfl] at Q5
  go_wp2_with ((with_reducible refine at_ops ?_); (first | (refine wpList_load_is (by rfl) 23 rfl rfl L5.out ?_) | (refine wpList_build_is (vs := []) (by rfl) 23 rfl (by rfl) U5.out ?_) | (refine wpList_neq_is (by rfl) 23 rfl rfl rfl eqgV Q5.out ?_)); simp only [Act.put, List.setIfInBounds_toArray, List.set_cons_zero, List.set_cons_succ])
  refine (len_any D5.out).mono ?_
  rintro e w6 ⟨rfl, rfl⟩
  clear L5 U5 Q5 V5
  go_wp2_with fail
  refine (small_any w5).mono ?_
  rintro e w6 ⟨rfl, b6⟩
  have B6 : Hid (Below w.heap.size w w6) := below_then B5.out b6
  have D6 : Hid (Dsk w6 (fun k => w.heap.size ≤ k) p 6 (newS sm) []) := D5.out.later b6
  have U6 : Hid (_) := build7 w6
  clear b6 B5 D5
  go_wp2_with ((with_reducible refine at_ops ?_); (refine wpList_build_is (vs := [(0, .int .u8 7)]) (by rfl) 23 rfl (by rfl) U6.out ?_); simp only [Act.put, List.setIfInBounds_toArray, List.set_cons_zero, List.set_cons_succ])
  refine (hsave_any sm 1 one7 one7_len one7_bytes D6.out (by simp) (HT.out.later B6.out)).mono ?_
  rintro e w7 ⟨rfl, d7, k7⟩
  rw [sm_rb1]
  have B7 : Hid (Below w.heap.size w w7) := B6.out.trans (new_below k7 B6.out.size)
  have D7 : Hid (Dsk w7 (fun k => w.heap.size ≤ k) p 6 (newS sm) (svW sm ((6 : Nat) : Int) [] 1 one7)) := d7.mono (fun k _ hk => hk.elim id (fun h => Nat.le_trans B6.out.size h))
  clear d7 k7 B6 D6 U6
  go_wp2_with fail
  refine (small_any w7).mono ?_
  rintro e w8 ⟨rfl, b8⟩
  have B8 : Hid (Below w.heap.size w w8) := below_then B7.out b8
  have D8 : Hid (Dsk w8 (fun k => w.heap.size ≤ k) p 6 (newS sm) (svW sm ((6 : Nat) : Int) [] 1 one7)) := D7.out.later b8
  clear b8 B7 D7
  go_wp2_with fail
  refine (hload_any sm 1 D8.out (HT.out.later B8.out)).mono ?_
  rintro e w9 ⟨rfl, b9⟩
  rw [ld_sv sm_rb1 one7_len]
  have B9 : Hid (Below w.heap.size w w9) := below_then B8.out b9
  have A9 : Hid (_) := allocV w9
  have S9 : Hid (_) := store_newV w9 one7 one7_len
  obtain ⟨w10, hw10⟩ : ∃ x, x = w9.alloc (.cells (U8 one7).toArray 23) := ⟨_, rfl⟩
  have L10 : Hid (_) := VAt.load (LAt.new 23 w9 (U8 one7)) one7_len
  rw [← hw10] at S9 L10
  have B10 : Hid (Below w.heap.size w w10) := by rw [hw10]; exact below_then B9.out (below_alloc _ _)
  have U10 : Hid (_) := build7 w10
  have Q10 : Hid (_) := eqlV w10 one7 one7 one7_len one7_len
  rw [decide_eq_true rfl] at Q10
  clear hw10 b9 B8 D8 B9
  go_wp2_with ((with_reducible refine at_ops ?_); (first | (refine wpList_alloc_is (by rfl) 23 rfl A9.out ?_) | (refine wpList_store_is (by rfl) 23 rfl rfl rfl S9.out ?_) | (refine wpList_load_is (by rfl) 23 rfl rfl L10.out ?_) | (refine wpList_build_is (vs := [(0, .int .u8 7)]) (by rfl) 23 rfl (by rfl) U10.out ?_) | (refine wpList_eql_is (by rfl) 23 rfl rfl rfl eqgV Q10.out ?_)); simp only [Act.put, List.setIfInBounds_toArray, List.set_cons_zero, List.set_cons_succ])
  go_ret
  exact ⟨rfl, B10.out⟩
end Go.Proofs.YtpenddnmmfpdjaaDoor
