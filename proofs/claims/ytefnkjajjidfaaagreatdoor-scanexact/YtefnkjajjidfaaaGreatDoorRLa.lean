/-
  Layer 6, the program's functions, first part: mayBeImage, mayBeCommit, Check, number, put.
-/
import Derived.Test.YtefnkjajjidfaaaGreatDoorRKa
namespace Go.Proofs.YtefnkjajjidfaaaGreatDoor.R
open Go.RowKit
set_option maxHeartbeats 400000 in
set_option maxRecDepth 100000 in
theorem image_any (r : Rec) (hv : r.val.length = 32) (w : World) :
    Calls Tryz.prog 101 #[.agg (rcells r).toArray] w fun e w' => e = .returned (.bool (imageB r)) ∧ Below w.heap.size w w' := by
  have hA := RAt.new 87 w r
  have c0 := hA.c0
  have c2 := hA.c2
  have c4 := hA.c35 hv
  have HB : Hid (Below w.heap.size w (w.alloc (.cells (rcells r).toArray 87))) := below_alloc w _
  clear hA hv
  go_enter Tryz.func101, Tryz.ntmps101
  go_wp2
  all_goals go_ret
  all_goals (refine ⟨?_, HB.out⟩)
  all_goals (clear c0 c2 c4; unfold imageB; simp_all <;> (intros; omega))
set_option maxHeartbeats 1000000 in
set_option maxRecDepth 100000 in
theorem commit_any (r : Rec) (hv : r.val.length = 32) (w : World) :
    Calls Tryz.prog 102 #[.agg (rcells r).toArray] w fun e w' => e = .returned (.bool (commitB r)) ∧ Below w.heap.size w w' := by
  have hA := RAt.new 87 w r
  have c0 := hA.c0
  have c2 := hA.c2
  have c4 := hA.c35 hv
  have L3 : Hid (_) := hA.load24 hv
  have B3 : Hid (_) := build24 (w.alloc (.cells (rcells r).toArray 87))
  have Q3 : Hid (_) := eql24 (w.alloc (.cells (rcells r).toArray 87)) r.val (zs 32) hv (zs_len 32)
  have HB : Hid (Below w.heap.size w (w.alloc (.cells (rcells r).toArray 87))) := below_alloc w _
  clear hA hv
  go_enter Tryz.func102, Tryz.ntmps102
  go_wp2_with (first | (refine wpList_load_is (by rfl) 55 rfl rfl L3.out ?_) | (refine wpList_build_is (by rfl) 55 rfl rfl B3.out ?_) | (refine wpList_eql_is (by rfl) 55 rfl rfl rfl eqg24 Q3.out ?_))
  all_goals go_ret
  all_goals (refine ⟨?_, HB.out⟩)
  all_goals (clear c0 c2 c4 L3 B3 Q3; unfold commitB; simp_all <;> (intros; omega))
theorem chk_image (r : Rec) (hp : r.pos ≤ 4611686018427387904) (h : imageB r = true) : chk r = 0 := by
  unfold chk may; rw [h, decide_eq_true hp]; rfl
theorem chk_commit (r : Rec) (hp : r.pos ≤ 4611686018427387904) (h : commitB r = true) : chk r = 0 := by
  unfold chk may; rw [h, decide_eq_true hp]; simp
theorem chk_none (r : Rec) (h : imageB r = false) (h2 : commitB r = false) : chk r = 60 := by
  unfold chk may; rw [h, h2]; simp
theorem chk_pos (r : Rec) (hp : ¬ r.pos ≤ 4611686018427387904) : chk r = 60 := by
  unfold chk may; rw [decide_eq_false hp]; rfl
set_option maxHeartbeats 1000000 in
set_option maxRecDepth 100000 in
theorem check_any (r : Rec) (hv : r.val.length = 32) (w : World) :
    Calls Tryz.prog 84 #[.agg (rcells r).toArray] w fun e w' => e = .returned (.int .i64 (chk r)) ∧ Below w.heap.size w w' := by
  have hA := RAt.new 87 w r
  have c1 := hA.c1
  have L1 : Hid (_) := hA.load31 hv
  have HA : Hid (RAt 87 (w.alloc (.cells (rcells r).toArray 87)) w.heap.size r) := hA
  have HB : Hid (Below w.heap.size w (w.alloc (.cells (rcells r).toArray 87))) := below_alloc w _
  have HV : Hid (r.val.length = 32) := hv
  clear hA hv
  go_enter Tryz.func84, Tryz.ntmps84
  by_cases hp : r.pos ≤ 4611686018427387904
  · have hp' : ¬ 4611686018427387904 < r.pos := by omega
    go_wp2_with (refine wpList_load_is (by rfl) 87 rfl rfl L1.out ?_)
    refine (image_any r HV.out _).mono ?_
    rintro e w1 ⟨rfl, b1⟩
    have HA1 : Hid (RAt 87 w1 w.heap.size r) := HA.out.later b1
    have HB1 : Hid (Below w.heap.size w w1) := below_then HB.out b1
    have L2 : Hid (_) := HA1.out.load31 HV.out
    clear c1 L1 b1 HA HB
    cases hi : imageB r with
    | true =>
      have HC : Hid (chk r = 0) := chk_image r hp hi
      go_wp2_with fail
      go_ret
      exact ⟨by rw [HC.out]; rfl, HB1.out⟩
    | false =>
      go_wp2_with (refine wpList_load_is (by rfl) 87 rfl rfl L2.out ?_)
      refine (commit_any r HV.out _).mono ?_
      rintro e w2 ⟨rfl, b2⟩
      have HB2 : Hid (Below w.heap.size w w2) := below_then HB1.out b2
      clear b2 L2
      cases hc : commitB r with
      | true =>
        have HC : Hid (chk r = 0) := chk_commit r hp hc
        go_wp2_with fail
        go_ret
        exact ⟨by rw [HC.out]; rfl, HB2.out⟩
      | false =>
        have HC : Hid (chk r = 60) := chk_none r hi hc
        go_wp2_with fail
        go_ret
        exact ⟨by rw [HC.out]; rfl, HB2.out⟩
  · have HC : Hid (chk r = 60) := chk_pos r hp
    have hp' : 4611686018427387904 < r.pos := by omega
    go_wp2_with fail
    go_ret
    exact ⟨by rw [HC.out]; rfl, HB.out⟩
set_option maxHeartbeats 400000 in
set_option maxRecDepth 100000 in
theorem number_rec (r : Rec) (hv : r.val.length = 32) (hm : may r = true) (w : World) :
    Calls Tryz.prog 86 #[.agg (rcells r).toArray] w fun e w' => e = .returned (.int .u64 (numS r)) ∧ Below w.heap.size w w' := by
  have hA := RAt.new 87 w r
  have c0 := hA.c0
  have c2 := hA.c2
  have c4 := hA.c35 hv
  have HB : Hid (Below w.heap.size w (w.alloc (.cells (rcells r).toArray 87))) := below_alloc w _
  have hn := numS_bd r hm
  clear hA hv
  by_cases hk : r.kind = 1
  · have e : numS r = r.block := by unfold numS; rw [if_pos hk]
    rw [e] at hn ⊢
    obtain ⟨h0, h1⟩ := hn
    clear hm e
    go_enter Tryz.func86, Tryz.ntmps86
    go_wp2
    go_ret
    exact ⟨rfl, HB.out⟩
  · have e : numS r = r.images := by unfold numS; rw [if_neg hk]
    rw [e] at hn ⊢
    obtain ⟨h0, h1⟩ := hn
    clear hm e
    go_enter Tryz.func86, Tryz.ntmps86
    go_wp2
    go_ret
    exact ⟨rfl, HB.out⟩
set_option maxHeartbeats 400000 in
set_option maxRecDepth 100000 in
theorem rput_any (n : Int) (k : Nat) (w : World) (hn0 : 0 ≤ n) (hk : 1 ≤ k ∧ k ≤ 8) (hn : n / 256 ^ k = 0) :
    Calls Tryz.prog 85 #[.int .u64 n, .int .i64 k] w fun e w' => ∃ p c, e = .returned (.slice p k c) ∧ Made w w' p k c (digits k n) := by
  go_enter Tryz.func85, Tryz.ntmps85
  go_wp2_with fail
  refine (put_ok n k w hn0 hk hn).mono ?_
  rintro e w1 ⟨v, rfl, ho, hb⟩
  obtain ⟨p, c, rfl, hm⟩ := made_of ho (digits_bytes k n) hb
  clear ho hb hn
  go_wp2_with fail
  go_ret
  exact ⟨p, c, rfl, hm⟩
end Go.Proofs.YtefnkjajjidfaaaGreatDoor.R
