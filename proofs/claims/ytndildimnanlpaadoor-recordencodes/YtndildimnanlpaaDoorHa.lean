/-
  RecordBack: right; what its walk needs beside.
-/
import Derived.Test.YtndildimnanlpaaDoorFa
namespace Go.Proofs.YtndildimnanlpaaDoor
open Go.RowKit

/-- the goal is a list of operations: a law is tried there alone -/
theorem at_ops {P : Program} {ops : Array Oper} {rest : List Oper} {o : Oper} {a : Act} {w : World} {Q : Exit → Act → World → Prop} (h : wpList P ops Q (o :: rest) a w) : wpList P ops Q (o :: rest) a w := h

theorem RAt.setp {t : TypeId} {w : World} {g : Nat} {r : Rec} (h : RAt t w g r) (k : Int) : RAt t (w.setCell ⟨g, 1, none⟩ (.int .u64 k)) g ⟨r.kind, k, r.block, r.val, r.images⟩ := by
  have := heap_setCell_same w g 1 _ t (.int .u64 k) h
  unfold RAt
  rw [this]
  simp [rcells]
theorem build_ci (w : World) (p i : Int) : (Instr.build 31 #[(0, .int .i64 2), (1, .int .u64 p), (4, .int .i64 i)]).run Tryd.prog w = .ok (.agg (rcells ⟨2, p, 0, zs 32, i⟩).toArray) w :=
  build31 w _ _ ((fill_k rec0 rec0_len 2 _).trans ((fill_p ⟨2, 0, 0, zs 32, 0⟩ (zs_len 32) p _).trans (fill_i ⟨2, p, 0, zs 32, 0⟩ (zs_len 32) i [])))
theorem build_im (w : World) (p b : Int) (v : List Int) (hv : v.length = 32) : (Instr.build 31 #[(0, .int .i64 1), (1, .int .u64 p), (2, .int .i64 b), (3, .agg (U8 v).toArray)]).run Tryd.prog w = .ok (.agg (rcells ⟨1, p, b, v, 0⟩).toArray) w :=
  build31 w _ _ ((fill_k rec0 rec0_len 1 _).trans ((fill_p ⟨1, 0, 0, zs 32, 0⟩ (zs_len 32) p _).trans ((fill_b ⟨1, p, 0, zs 32, 0⟩ (zs_len 32) b _).trans (fill_v ⟨1, p, b, zs 32, 0⟩ (zs_len 32) v hv []))))

theorem commit_ok (P i : Int) (P0 : 0 ≤ P) (P1 : P ≤ 4611686018427387904) (i0 : 0 ≤ i) (i1 : i ≤ 16) : (⟨2, P, 0, zs 32, i⟩ : Rec).Wf ∧ may ⟨2, P, 0, zs 32, i⟩ = true := by
  refine ⟨⟨?_, ?_, P0, ?_, ?_, ?_, ?_, ?_, zs_len 32, zs_bytes 32⟩, (may_iff _).2 ⟨P1, .inr ⟨rfl, i0, i1, rfl, rfl⟩⟩⟩ <;> dsimp only <;> omega
theorem image_ok (P b : Int) (v : List Int) (P0 : 0 ≤ P) (P1 : P ≤ 4611686018427387904) (i0 : 0 ≤ b) (i1 : b < 64) (hv : v.length = 32) (hb : Bytes v) : (⟨1, P, b, v, 0⟩ : Rec).Wf ∧ may ⟨1, P, b, v, 0⟩ = true := by
  refine ⟨⟨?_, ?_, P0, ?_, ?_, ?_, ?_, ?_, hv, hb⟩, (may_iff _).2 ⟨P1, .inl ⟨rfl, i0, i1, rfl⟩⟩⟩ <;> dsimp only <;> omega

set_option maxHeartbeats 2000000 in
set_option maxRecDepth 100000 in
theorem right_any (r : Rec) (hw : r.Wf) (w : World) :
    Calls Tryd.prog 12 #[.agg (rcells r).toArray] w fun e w' => ∃ x : Rec, x.Wf ∧ may x = true ∧ e = .returned (.agg (rcells x).toArray) ∧ Below w.heap.size w w' := by
  obtain ⟨w1, hw1⟩ : ∃ w1, w1 = w.alloc (.cells (rcells r).toArray 37) := ⟨_, rfl⟩
  have hs1 : w1.heap.size = w.heap.size + 1 := by rw [hw1]; simp
  have R1 : RAt 37 w1 w.heap.size r := by rw [hw1]; exact RAt.new 37 w r
  have B1 : Below w.heap.size w w1 := by rw [hw1]; exact below_alloc w _
  have A1 : Hid (_) := alloc31 w1
  obtain ⟨w2, hw2⟩ : ∃ w2, w2 = w1.alloc (.cells (rcells rec0).toArray 31) := ⟨_, rfl⟩
  have R2 : RAt 37 w2 w.heap.size r := by rw [hw2]; exact R1.later (below_alloc w1 _)
  have Z2 : RAt 31 w2 (w.heap.size + 1) rec0 := by rw [hw2, ← hs1]; exact RAt.new 31 w1 rec0
  have B2 : Hid (Below w.heap.size w w2) := by rw [hw2]; exact below_then B1 (below_alloc w1 _)
  rw [hs1, ← hw2] at A1
  have p0 := hw.p0
  have p1 := hw.p1
  have d1 := R2.c1
  have f1 := frozen_of_row w2 w.heap.size 1 _ 37 R2
  obtain ⟨P, hP⟩ : ∃ P, P = r.pos % 4611686018427387905 := ⟨_, rfl⟩
  have P0 : 0 ≤ P := by omega
  have P1 : P ≤ 4611686018427387904 := by omega
  have htm : r.pos.tmod 4611686018427387905 = P := by rw [Int.tmod_eq_emod_of_nonneg p0, hP]
  obtain ⟨w3, hw3⟩ : ∃ w3, w3 = w2.setCell ⟨w.heap.size, 1, none⟩ (.int .u64 P) := ⟨_, rfl⟩
  have R3 : RAt 37 w3 w.heap.size ⟨r.kind, P, r.block, r.val, r.images⟩ := by rw [hw3]; exact R2.setp P
  have Z3 : RAt 31 w3 (w.heap.size + 1) rec0 := by rw [hw3]; exact (heap_setCell_other w2 ⟨w.heap.size, 1, none⟩ (w.heap.size + 1) _ (by simp)).trans Z2
  have B3 : Hid (Below w.heap.size w w3) := by rw [hw3]; exact B2.out.setCell (Nat.le_refl _) _
  have c0 := R3.c0
  have c1 := R3.c1
  have c2 := R3.c2
  have c4 := R3.c35 hw.len
  have L3 : Hid (_) := R3.load24 hw.len
  have HW : Hid (r.Wf) := hw
  have HZ : Hid (RAt 31 w3 (w.heap.size + 1) rec0) := Z3
  simp only at c0 c1 c2 c4 L3
  have hsz : w.heap.size + 1 = w1.heap.size := hs1.symm
  have HW1 : Hid (w.alloc (.cells (rcells r).toArray 37) = w1) := hw1.symm
  have HW3 : Hid (w2.setCell ⟨w.heap.size, 1, none⟩ (.int .u64 P) = w3) := hw3.symm
  clear hw hw1 hw2 hw3 hP R1 R2 R3 Z2 Z3 B1 B2 hs1 hsz
  go_enter Tryd.func12, Tryd.ntmps12
  by_cases hk : r.kind.tmod 2 = 0
  · obtain ⟨q, i, hi1, hi2, hi3, hi4, hi5, hi6⟩ := place r.images 17 (by omega)
    have hi1' : r.images.tmod 17 = q := hi1
    have hi4' : (q + 17).tmod 17 = (i : Int) := hi4
    have hi2' : -17 < q := hi2
    have hi3' : q < 17 := hi3
    have BB : Hid (_) := build_ci w3 P i
    have ST : Hid (_) := HZ.out.store (s := ⟨2, P, 0, zs 32, i⟩) size31 rec0_len (zs_len 32)
    have HF : Hid (RAt 31 (w3.setRow (w.heap.size + 1) (rcells ⟨2, P, 0, zs 32, i⟩).toArray) (w.heap.size + 1) ⟨2, P, 0, zs 32, i⟩ ∧ Below w.heap.size w (w3.setRow (w.heap.size + 1) (rcells ⟨2, P, 0, zs 32, i⟩).toArray)) := ⟨HZ.out.stored _, below_setRow B3.out (by omega) _⟩
    have HX : Hid ((⟨2, P, 0, zs 32, i⟩ : Rec).Wf ∧ may ⟨2, P, 0, zs 32, i⟩ = true) := commit_ok P i P0 P1 (by omega) (by omega)
    clear hi1 hi2 hi3 hi4 hi5 L3
    have e1 := HW1.out
    have e3 := HW3.out
    go_wp2_with ((with_reducible refine at_ops ?_); (first | (refine wpList_alloc_is (by rfl) 31 rfl A1.out ?_) | (refine wpList_build_is (vs := [(0, .int .i64 2), (1, .int .u64 P), (4, .int .i64 i)]) (by rfl) 31 rfl (by rfl) BB.out ?_) | (refine wpList_store_is (by rfl) 31 rfl rfl rfl ST.out ?_)); simp only [Act.put, List.setIfInBounds_toArray, List.set_cons_zero, List.set_cons_succ])
    exact bodyPost_ret (results_cell1 Tryd.results12 _ _ (w.heap.size + 1) 31 _ _ (by rfl) HF.out.1 (zs_len 32) Tryd.underlying31 rfl size31) rfl ⟨_, HX.out.1, HX.out.2, rfl, HF.out.2⟩
  · obtain ⟨q, i, hi1, hi2, hi3, hi4, hi5, hi6⟩ := place r.block 64 (by omega)
    have hi1' : r.block.tmod 64 = q := hi1
    have hi4' : (q + 64).tmod 64 = (i : Int) := hi4
    have hi2' : -64 < q := hi2
    have hi3' : q < 64 := hi3
    have hwl := HW.out.len
    have BB : Hid (_) := build_im w3 P i r.val hwl
    have ST : Hid (_) := HZ.out.store (s := ⟨1, P, i, r.val, 0⟩) size31 rec0_len hwl
    have HF : Hid (RAt 31 (w3.setRow (w.heap.size + 1) (rcells ⟨1, P, i, r.val, 0⟩).toArray) (w.heap.size + 1) ⟨1, P, i, r.val, 0⟩ ∧ Below w.heap.size w (w3.setRow (w.heap.size + 1) (rcells ⟨1, P, i, r.val, 0⟩).toArray)) := ⟨HZ.out.stored _, below_setRow B3.out (by omega) _⟩
    have HX : Hid ((⟨1, P, i, r.val, 0⟩ : Rec).Wf ∧ may ⟨1, P, i, r.val, 0⟩ = true) := image_ok P i r.val P0 P1 (by omega) (by omega) hwl HW.out.byte
    clear hi1 hi2 hi3 hi4 hi5 hwl
    have e1 := HW1.out
    have e3 := HW3.out
    go_wp2_with ((with_reducible refine at_ops ?_); (first | (refine wpList_alloc_is (by rfl) 31 rfl A1.out ?_) | (refine wpList_load_is (by rfl) 24 rfl rfl L3.out ?_) | (refine wpList_build_is (vs := [(0, .int .i64 1), (1, .int .u64 P), (2, .int .i64 i), (3, .agg (U8 r.val).toArray)]) (by rfl) 31 rfl (by rfl) BB.out ?_) | (refine wpList_store_is (by rfl) 31 rfl rfl rfl ST.out ?_)); simp only [Act.put, List.setIfInBounds_toArray, List.set_cons_zero, List.set_cons_succ])
    exact bodyPost_ret (results_cell1 Tryd.results12 _ _ (w.heap.size + 1) 31 _ _ (by rfl) HF.out.1 HW.out.len Tryd.underlying31 rfl size31) rfl ⟨_, HX.out.1, HX.out.2, rfl, HF.out.2⟩
end Go.Proofs.YtndildimnanlpaaDoor
