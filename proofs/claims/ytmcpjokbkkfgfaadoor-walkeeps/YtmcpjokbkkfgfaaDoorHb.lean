/-
  Layer 9, the laws' own: small, opened, fixed.
-/
import Derived.Test.YtmcpjokbkkfgfaaDoorHa
namespace Go.Proofs.YtmcpjokbkkfgfaaDoor
open Go.RowKit


def sm9 : Sup := ⟨3, 4, 2, 4, 1, 0, 0⟩
theorem sm9_may : MayC sm9 := by decide
set_option maxHeartbeats 1000000 in
set_option maxRecDepth 100000 in
theorem small_any (w : World) : Calls Tryd.prog 7 #[] w fun e w' => e = .returned (.agg (ccells sm9).toArray) ∧ Below w.heap.size w w' := by
  have A1 : Hid (_) := alloc23 w
  have U1 : Hid (_) := build23 (w.alloc (.cells (ccells sup0).toArray 29)) #[(0, .int .i64 3), (1, .int .i64 4), (2, .int .i64 2), (3, .int .i64 4), (4, .int .i64 1)] sm9 (fill_cfgs sm9)
  have S1 : Hid (_) := store_new23 w sm9
  go_enter Tryd.func7, Tryd.ntmps7
  go_wp2_with ((with_reducible refine at_ops ?_); (first | (refine wpList_alloc_is (by rfl) 29 rfl A1.out ?_) | (refine wpList_build_is (vs := [(0, .int .i64 3), (1, .int .i64 4), (2, .int .i64 2), (3, .int .i64 4), (4, .int .i64 1)]) (by rfl) 29 rfl (by rfl) U1.out ?_) | (refine wpList_store_is (by rfl) 29 rfl rfl rfl S1.out ?_)); simp only [Act.put, List.setIfInBounds_toArray, List.set_cons_zero, List.set_cons_succ])
  exact bodyPost_ret (results_cell1 Tryd.results7 _ _ w.heap.size 29 _ _ (by rfl) (LAt.new 29 w _) Tryd.underlying29 rfl size23) rfl ⟨rfl, below_alloc w _⟩
set_option maxHeartbeats 1000000 in
set_option maxRecDepth 100000 in
theorem opened_none (s : Sup) (m t l : Int) (hm : m < 1 ∨ 4096 < m) (w : World) : Calls Tryd.prog 6 #[.agg (ccells s).toArray, .int .i64 m, .int .u64 t, .int .u64 l] w fun e w' => e = .returned (.tuple #[.pointer none, .pointer none, .int .i64 1]) ∧ Below w.heap.size w w' := by
  have HB : Hid (Below w.heap.size w (w.alloc (.cells (ccells s).toArray 29))) := below_alloc w _
  go_enter Tryd.func6, Tryd.ntmps6
  go_wp2_with fail
  refine (new_bad m _ hm).mono ?_
  rintro e w1 ⟨rfl, rfl⟩
  go_wp2_with fail
  exact bodyPost_ret (results_tmp3 Tryd.results6 _ _ _) rfl ⟨rfl, HB.out⟩
set_option maxHeartbeats 1000000 in
set_option maxRecDepth 100000 in
theorem opened_no (s : Sup) (n : Nat) (t l : Int) (h1 : 1 ≤ n) (h2 : n ≤ 4096) (ht0 : 0 ≤ t) (hl0 : 0 ≤ l) (hr : ¬ opnS s n t l = 0) (w : World) : Calls Tryd.prog 6 #[.agg (ccells s).toArray, .int .i64 n, .int .u64 t, .int .u64 l] w fun e w' => ∃ p, e = .returned (.tuple #[.pointer none, .pointer (some ⟨p, 0, none⟩), .int .i64 (opnS s n t l)]) ∧ Below w.heap.size w w' := by
  obtain ⟨wa, hwa⟩ : ∃ x, x = w.alloc (.cells (ccells s).toArray 29) := ⟨_, rfl⟩
  have ewa := hwa.symm
  have HB : Hid (Below w.heap.size w wa) := by rw [hwa]; exact below_alloc w _
  have HA : Hid (CAt wa w.heap.size s) := by rw [hwa]; exact LAt.new 29 w (ccells s)
  clear hwa
  go_enter Tryd.func6, Tryd.ntmps6
  go_wp2_with fail
  refine (new_good n _ h1 h2).mono ?_
  rintro e w1 ⟨p, rfl, d1, b1⟩
  have HB1 : Hid (Below w.heap.size w w1) := below_then HB.out b1
  have L1 : Hid (_) := CAt.load23 (LAt.later HA.out b1)
  have D1 : Hid (_) := d1
  clear d1 b1 ewa HB HA
  go_wp2_with ((with_reducible refine at_ops ?_); (refine wpList_load_is (by rfl) 29 rfl rfl L1.out ?_); simp only [Act.put, List.setIfInBounds_toArray, List.set_cons_zero, List.set_cons_succ])
  refine (open_no s t l ht0 hl0 D1.out hr).mono ?_
  rintro e w2 ⟨rfl, b2⟩
  have HB2 : Hid (Below w.heap.size w w2) := below_then HB1.out b2
  clear b2 HB1 L1 D1
  go_wp2_with fail
  exact bodyPost_ret (results_tmp3 Tryd.results6 _ _ _) rfl ⟨p, rfl, HB2.out⟩
set_option maxHeartbeats 1000000 in
set_option maxRecDepth 100000 in
theorem opened_ok (s : Sup) (n : Nat) (t l : Int) (h1 : 1 ≤ n) (h2 : n ≤ 4096) (ht0 : 0 ≤ t) (hl0 : 0 ≤ l) (hr : opnS s n t l = 0) (w : World) : Calls Tryd.prog 6 #[.agg (ccells s).toArray, .int .i64 n, .int .u64 t, .int .u64 l] w fun e w' => ∃ L p, e = .returned (.tuple #[.pointer (some ⟨L, 0, none⟩), .pointer (some ⟨p, 0, none⟩), .int .i64 0]) ∧ LB w' w.heap.size L p (List.replicate (64 * n) 0) [] (opnG s t l) ∧ Below w.heap.size w w' := by
  obtain ⟨wa, hwa⟩ : ∃ x, x = w.alloc (.cells (ccells s).toArray 29) := ⟨_, rfl⟩
  have ewa := hwa.symm
  have HB : Hid (Below w.heap.size w wa) := by rw [hwa]; exact below_alloc w _
  have HA : Hid (CAt wa w.heap.size s) := by rw [hwa]; exact LAt.new 29 w (ccells s)
  clear hwa
  go_enter Tryd.func6, Tryd.ntmps6
  go_wp2_with fail
  refine (new_good n _ h1 h2).mono ?_
  rintro e w1 ⟨p, rfl, d1, b1⟩
  have HB1 : Hid (Below w.heap.size w w1) := below_then HB.out b1
  have L1 : Hid (_) := CAt.load23 (LAt.later HA.out b1)
  have hs := HB.out.size
  have D1 : Hid (Dsk w1 (fun k => w.heap.size ≤ k) p n (List.replicate (64 * n) 0) []) := d1.mono fun k _ (hk : wa.heap.size ≤ k) => by omega
  clear d1 b1 ewa HB HA
  go_wp2_with ((with_reducible refine at_ops ?_); (refine wpList_load_is (by rfl) 29 rfl rfl L1.out ?_); simp only [Act.put, List.setIfInBounds_toArray, List.set_cons_zero, List.set_cons_succ])
  refine (open_ok s t l ht0 hl0 D1.out hr).mono ?_
  rintro e w2 ⟨L, rfl, hL, l2, b2⟩
  have HB2 : Hid (Below w.heap.size w w2) := below_then HB1.out b2
  have hs1 := HB1.out.size
  have G2 : Hid (LB w2 w.heap.size L p (List.replicate (64 * n) 0) [] (opnG s t l)) := l2.mono fun k _ hk => hk.elim id (fun h => by omega)
  clear b2 l2 HB1 L1 D1
  go_wp2_with fail
  exact bodyPost_ret (results_tmp3 Tryd.results6 _ _ _) rfl ⟨L, p, rfl, G2.out, HB2.out⟩
end Go.Proofs.YtmcpjokbkkfgfaaDoor
