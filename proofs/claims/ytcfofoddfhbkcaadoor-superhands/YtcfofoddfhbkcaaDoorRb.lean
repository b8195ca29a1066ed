/-
  Layer 7, the law's own functions: may, back, plain, small.
-/
import Derived.Test.YtcfofoddfhbkcaaDoorLb
namespace Go.Proofs.YtcfofoddfhbkcaaDoor
open Go.RowKit

set_option maxHeartbeats 1000000 in
theorem rest_any (n m : Int) (h1 : 1 ≤ m) (h2 : m ≤ 64) (w : World) :
    Calls Tryd.prog 24 #[.int .i64 n, .int .i64 m] w fun e w' => e = .returned (.int .i64 (restS n m)) ∧ w = w' := by
  have t1 : n.tmod m < m := Int.tmod_lt_of_pos n (by omega)
  have t2 := Int.lt_tmod_of_pos n (show (0 : Int) < m by omega)
  have t3 := restS_bd n m h1
  have HR : Hid (restS n m = 1 + (n.tmod m + m).tmod m) := rfl
  obtain ⟨r, hr⟩ : ∃ r, r = n.tmod m := ⟨_, rfl⟩
  rw [← hr] at t1 t2 HR
  obtain ⟨q, hq⟩ : ∃ q, q = (r + m).tmod m := ⟨_, rfl⟩
  rw [← hq] at HR
  have t4 : 0 ≤ q ∧ q ≤ 63 := by rw [HR.out] at t3; omega
  obtain ⟨t5, t6⟩ := t4
  have e1 := hr.symm
  have e2 := hq.symm
  clear hr hq t3
  have hm0 : m ≠ 0 := by omega
  have hm1 : m ≠ -1 := by omega
  go_enter Tryd.func24, Tryd.ntmps24
  go_wp2
  go_ret
  exact ⟨by rw [HR.out]; rfl, rfl⟩

set_option maxHeartbeats 1000000 in
theorem back_any (s : Sup) (w : World) :
    Calls Tryd.prog 15 #[.agg (scells s).toArray] w fun e w' => e = .returned (.agg (scells s).toArray) ∧ Below w.heap.size w w' := by
  obtain ⟨w1, hw1⟩ : ∃ w1, w1 = w.alloc (.cells (scells s).toArray 26) := ⟨_, rfl⟩
  have hs1 : w1.heap.size = w.heap.size + 1 := by rw [hw1]; simp
  have R1 : SAt 26 w1 w.heap.size s := by rw [hw1]; exact LAt.new 26 w _
  have B1 : Below w.heap.size w w1 := by rw [hw1]; exact below_alloc w _
  have A1 : Hid (_) := alloc29 w1
  obtain ⟨w2, hw2⟩ : ∃ w2, w2 = w1.alloc (.cells (scells sup0).toArray 29) := ⟨_, rfl⟩
  have R2 : SAt 26 w2 w.heap.size s := by rw [hw2]; exact LAt.later R1 (below_alloc w1 _)
  have Z2 : Hid (SAt 29 w2 (w.heap.size + 1) sup0) := by rw [hw2, ← hs1]; exact LAt.new 29 w1 _
  have B2 : Hid (Below w.heap.size w w2) := by rw [hw2]; exact below_then B1 (below_alloc w1 _)
  rw [hs1, ← hw2] at A1
  have L3 : Hid (_) := SAt.load23 R2
  have c5 := SAt.c5 R2
  have c6 := SAt.c6 R2
  have ST : Hid (_) := LAt.store (ds := scells s) Z2.out size29 rfl (scells_all s)
  have HF : Hid (SAt 29 (w2.setRow (w.heap.size + 1) (scells s).toArray) (w.heap.size + 1) s ∧ Below w.heap.size w (w2.setRow (w.heap.size + 1) (scells s).toArray)) := ⟨LAt.stored Z2.out _, below_setRow B2.out (by omega) _⟩
  have e1 := hw1.symm
  clear hw1 hw2 R1 R2 B1 B2 hs1
  go_enter Tryd.func15, Tryd.ntmps15
  go_wp2_with ((with_reducible refine at_ops ?_); (first | (refine wpList_alloc_is (by rfl) 29 rfl A1.out ?_) | (refine wpList_load_is (by rfl) 23 rfl rfl L3.out ?_) | (refine wpList_build_is (vs := [(0, .agg (ccells s).toArray), (1, .int .u64 s.tail), (2, .int .u64 s.life)]) (by rfl) 29 rfl (by rfl) (build29 _ _ s (fill_all s)) ?_) | (refine wpList_store_is (by rfl) 29 rfl rfl rfl ST.out ?_)); simp only [Act.put, List.setIfInBounds_toArray, List.set_cons_zero, List.set_cons_succ])
  exact bodyPost_ret (results_cell1 Tryd.results15 _ _ (w.heap.size + 1) 29 _ _ (by rfl) HF.out.1 Tryd.underlying29 rfl size29) rfl ⟨rfl, HF.out.2⟩

set_option maxHeartbeats 1000000 in
theorem plain_any (s : Sup) (w : World) :
    Calls Tryd.prog 20 #[.agg (scells s).toArray] w fun e w' => e = .returned (.agg (scells s).toArray) ∧ Below w.heap.size w w' := by
  obtain ⟨w1, hw1⟩ : ∃ w1, w1 = w.alloc (.cells (scells s).toArray 29) := ⟨_, rfl⟩
  have hs1 : w1.heap.size = w.heap.size + 1 := by rw [hw1]; simp
  have R1 : SAt 29 w1 w.heap.size s := by rw [hw1]; exact LAt.new 29 w _
  have B1 : Below w.heap.size w w1 := by rw [hw1]; exact below_alloc w _
  have A1 : Hid (_) := alloc26 w1
  obtain ⟨w2, hw2⟩ : ∃ w2, w2 = w1.alloc (.cells (scells sup0).toArray 26) := ⟨_, rfl⟩
  have R2 : SAt 29 w2 w.heap.size s := by rw [hw2]; exact LAt.later R1 (below_alloc w1 _)
  have Z2 : Hid (SAt 26 w2 (w.heap.size + 1) sup0) := by rw [hw2, ← hs1]; exact LAt.new 26 w1 _
  have B2 : Hid (Below w.heap.size w w2) := by rw [hw2]; exact below_then B1 (below_alloc w1 _)
  rw [hs1, ← hw2] at A1
  have L3 : Hid (_) := SAt.load23 R2
  have c5 := SAt.c5 R2
  have c6 := SAt.c6 R2
  have ST : Hid (_) := LAt.store (ds := scells s) Z2.out size26 rfl (scells_all s)
  have HF : Hid (SAt 26 (w2.setRow (w.heap.size + 1) (scells s).toArray) (w.heap.size + 1) s ∧ Below w.heap.size w (w2.setRow (w.heap.size + 1) (scells s).toArray)) := ⟨LAt.stored Z2.out _, below_setRow B2.out (by omega) _⟩
  have e1 := hw1.symm
  clear hw1 hw2 R1 R2 B1 B2 hs1
  go_enter Tryd.func20, Tryd.ntmps20
  go_wp2_with ((with_reducible refine at_ops ?_); (first | (refine wpList_alloc_is (by rfl) 26 rfl A1.out ?_) | (refine wpList_load_is (by rfl) 23 rfl rfl L3.out ?_) | (refine wpList_build_is (vs := [(0, .agg (ccells s).toArray), (1, .int .u64 s.tail), (2, .int .u64 s.life)]) (by rfl) 26 rfl (by rfl) (build26 _ _ s (fill_all s)) ?_) | (refine wpList_store_is (by rfl) 26 rfl rfl rfl ST.out ?_)); simp only [Act.put, List.setIfInBounds_toArray, List.set_cons_zero, List.set_cons_succ])
  exact bodyPost_ret (results_cell1 Tryd.results20 _ _ (w.heap.size + 1) 26 _ _ (by rfl) HF.out.1 Tryd.underlying26 rfl size26) rfl ⟨rfl, HF.out.2⟩

/-- the document's example -/
def sm : Sup := ⟨8, 16, 4, 12, 3, 0, 1⟩
set_option maxHeartbeats 1000000 in
theorem small_any (w : World) :
    Calls Tryd.prog 23 #[] w fun e w' => e = .returned (.agg (scells sm).toArray) ∧ Below w.heap.size w w' := by
  have A1 : Hid (_) := alloc26 w
  have ST : Hid (_) := store_new26 w sm
  have HF : Hid (SAt 26 (w.alloc (.cells (scells sm).toArray 26)) w.heap.size sm ∧ Below w.heap.size w (w.alloc (.cells (scells sm).toArray 26))) := ⟨LAt.new 26 w _, below_alloc w _⟩
  go_enter Tryd.func23, Tryd.ntmps23
  go_wp2_with ((with_reducible refine at_ops ?_); (first | (refine wpList_alloc_is (by rfl) 26 rfl A1.out ?_) | (refine wpList_build_is (vs := [(0, .int .i64 8), (1, .int .i64 16), (2, .int .i64 4), (3, .int .i64 12), (4, .int .i64 3)]) (by rfl) 23 rfl (by rfl) (build23 _ _ sm (fill_cfgs sm)) ?_) | (refine wpList_build_is (vs := [(0, .agg (ccells sm).toArray), (2, .int .u64 1)]) (by rfl) 26 rfl (by rfl) (build26 _ _ sm (fill_two sm rfl)) ?_) | (refine wpList_store_is (by rfl) 26 rfl rfl rfl ST.out ?_)); simp only [Act.put, List.setIfInBounds_toArray, List.set_cons_zero, List.set_cons_succ])
  exact bodyPost_ret (results_cell1 Tryd.results23 _ _ w.heap.size 26 _ _ (by rfl) HF.out.1 Tryd.underlying26 rfl size26) rfl ⟨rfl, HF.out.2⟩
end Go.Proofs.YtcfofoddfhbkcaaDoor
