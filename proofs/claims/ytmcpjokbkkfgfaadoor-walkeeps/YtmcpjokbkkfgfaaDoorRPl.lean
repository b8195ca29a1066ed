/-
  The laws' own Plain.
-/
import Derived.Test.YtmcpjokbkkfgfaaDoorRLc
namespace Go.Proofs.YtmcpjokbkkfgfaaDoor.R
open Go.RowKit

theorem build_all37 (w : World) (r : Rec) (hv : r.val.length = 32) : (Instr.build 95 #[(0, .int .i64 r.kind), (1, .int .u64 r.pos), (2, .int .i64 r.block), (3, .agg (U8 r.val).toArray), (4, .int .i64 r.images)]).run Tryd.prog w = .ok (.agg (rcells r).toArray) w :=
  build37 w _ r ((fill_k rec0 rec0_len r.kind _).trans ((fill_p ⟨r.kind, 0, 0, zs 32, 0⟩ (zs_len 32) r.pos _).trans ((fill_b ⟨r.kind, r.pos, 0, zs 32, 0⟩ (zs_len 32) r.block _).trans ((fill_v ⟨r.kind, r.pos, r.block, zs 32, 0⟩ (zs_len 32) r.val hv _).trans (fill_i ⟨r.kind, r.pos, r.block, r.val, 0⟩ hv r.images [])))))
set_option maxHeartbeats 1000000 in
set_option maxRecDepth 100000 in
theorem plain_any (r : Rec) (hv : r.val.length = 32) (w : World) :
    Calls Tryd.prog 41 #[.agg (rcells r).toArray] w fun e w' => e = .returned (.agg (rcells r).toArray) ∧ Below w.heap.size w w' := by
  obtain ⟨w1, hw1⟩ : ∃ w1, w1 = w.alloc (.cells (rcells r).toArray 41) := ⟨_, rfl⟩
  have hs1 : w1.heap.size = w.heap.size + 1 := by rw [hw1]; simp
  have R1 : RAt 41 w1 w.heap.size r := by rw [hw1]; exact RAt.new 41 w r
  have B1 : Below w.heap.size w w1 := by rw [hw1]; exact below_alloc w _
  have A1 : Hid (_) := alloc37 w1
  obtain ⟨w2, hw2⟩ : ∃ w2, w2 = w1.alloc (.cells (rcells rec0).toArray 95) := ⟨_, rfl⟩
  have R2 : RAt 41 w2 w.heap.size r := by rw [hw2]; exact R1.later (below_alloc w1 _)
  have Z2 : Hid (RAt 95 w2 (w.heap.size + 1) rec0) := by rw [hw2, ← hs1]; exact RAt.new 95 w1 rec0
  have B2 : Hid (Below w.heap.size w w2) := by rw [hw2]; exact below_then B1 (below_alloc w1 _)
  rw [hs1, ← hw2] at A1
  have c0 := R2.c0
  have c1 := R2.c1
  have c2 := R2.c2
  have c4 := R2.c35 hv
  have L3 : Hid (_) := R2.load24 hv
  have BB : Hid (_) := build_all37 w2 r hv
  have ST : Hid (_) := Z2.out.store (s := r) size37 rec0_len hv
  have HF : Hid (RAt 95 (w2.setRow (w.heap.size + 1) (rcells r).toArray) (w.heap.size + 1) r ∧ Below w.heap.size w (w2.setRow (w.heap.size + 1) (rcells r).toArray)) := ⟨Z2.out.stored _, below_setRow B2.out (by omega) _⟩
  have HV : Hid (r.val.length = 32) := hv
  have e1 := hw1.symm
  clear hv hw1 hw2 R1 R2 B1 B2 hs1
  go_enter Tryd.func41, Tryd.ntmps41
  go_wp2_with ((with_reducible refine at_ops ?_); (first | (refine wpList_alloc_is (by rfl) 95 rfl A1.out ?_) | (refine wpList_load_is (by rfl) 35 rfl rfl L3.out ?_) | (refine wpList_build_is (vs := [(0, .int .i64 r.kind), (1, .int .u64 r.pos), (2, .int .i64 r.block), (3, .agg (U8 r.val).toArray), (4, .int .i64 r.images)]) (by rfl) 95 rfl (by rfl) BB.out ?_) | (refine wpList_store_is (by rfl) 95 rfl rfl rfl ST.out ?_)); simp only [Act.put, List.setIfInBounds_toArray, List.set_cons_zero, List.set_cons_succ])
  exact bodyPost_ret (results_cell1 Tryd.results41 _ _ (w.heap.size + 1) 95 _ _ (by rfl) HF.out.1 HV.out Tryd.underlying95 rfl size37) rfl ⟨rfl, HF.out.2⟩
end Go.Proofs.YtmcpjokbkkfgfaaDoor.R
