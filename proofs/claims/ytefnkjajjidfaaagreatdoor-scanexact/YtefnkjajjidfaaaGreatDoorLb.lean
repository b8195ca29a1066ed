/-
  Layer 7, the program's functions: numbers.
-/
import Derived.Test.YtefnkjajjidfaaaGreatDoorLa
namespace Go.Proofs.YtefnkjajjidfaaaGreatDoor
open Go.RowKit
def ncells (s : Sup) : List Value := (ns s).map (Value.int .u64)
theorem size59 : (Tryz.prog.info? 136).map (·.size) = some 8 := by kernel_rfl
theorem zero59 : (Tryz.prog.info? 136).bind (·.zero) = some (.agg (List.replicate 8 (Value.int .u64 0)).toArray) := by kernel_rfl
theorem alloc59 (w : World) : (Instr.alloc 136 true (.tuple #[])).run Tryz.prog w = .ok (.pointer (some ⟨w.heap.size, 0, none⟩)) (w.alloc (.cells (List.replicate 8 (Value.int .u64 0)).toArray 136)) := by
  simp only [Instr.alloc, Sem.run_bind, zv 136 _ zero59, Result.andThen_ok]
  simp [newVar, newRow, Value.cells]
theorem build59 (w : World) (s : Sup) : (Instr.build 136 #[(0, .int .u64 1), (1, .int .u64 s.bl), (2, .int .u64 s.lc), (3, .int .u64 s.mr), (4, .int .u64 s.hi), (5, .int .u64 s.cl), (6, .int .u64 s.tail), (7, .int .u64 s.life)]).run Tryz.prog w = .ok (.agg (ncells s).toArray) w :=
  run_build w 136 _ _ (by kernel_rfl)
theorem ncells_all (s : Sup) : (ncells s).toArray.all (·.oneCell') = true := by
  apply all_oneCell_toArray
  intro v hv
  simp only [ncells, ns, List.map_cons, List.map_nil, List.mem_cons, List.not_mem_nil, or_false] at hv
  rcases hv with rfl | rfl | rfl | rfl | rfl | rfl | rfl | rfl <;> rfl
theorem wrap64 {x : Int} (h0 : 0 ≤ x) (h1 : x ≤ 64) : IntKind.u64.wrap x = x := by rw [IntKind.wrap_u64]; omega
set_option maxHeartbeats 1000000 in
set_option maxRecDepth 100000 in
theorem numbers_any (s : Sup) (hm : May s) (w : World) :
    Calls Tryz.prog 52 #[.agg (scells s).toArray] w fun e w' => e = .returned (.agg (ncells s).toArray) ∧ Below w.heap.size w w' := by
  obtain ⟨⟨⟨a1, a2⟩, ⟨a3, a4⟩, ⟨a5, a6, -, -⟩, ⟨a7, a8⟩, ⟨a9, a10⟩⟩, -⟩ := hm
  have q1 := wrap64 (x := s.bl) (by omega) (by omega)
  have q2 := wrap64 (x := s.lc) (by omega) (by omega)
  have q3 := wrap64 (x := s.mr) (by omega) (by omega)
  have q4 := wrap64 (x := s.hi) (by omega) (by omega)
  have q5 := wrap64 (x := s.cl) (by omega) (by omega)
  clear a1 a2 a3 a4 a5 a6 a7 a8 a9 a10
  obtain ⟨w0, hw0⟩ : ∃ x, x = w.alloc (.cells (scells s).toArray 81) := ⟨_, rfl⟩
  have hs0 : w0.heap.size = w.heap.size + 1 := by rw [hw0]; simp
  have S0 : SAt 81 w0 w.heap.size s := by rw [hw0]; exact LAt.new 81 w (scells s)
  have B0 : Below w.heap.size w w0 := by rw [hw0]; exact below_alloc w _
  have A0 : Hid (_) := alloc59 w0
  obtain ⟨w1, hw1⟩ : ∃ x, x = w0.alloc (.cells (List.replicate 8 (Value.int .u64 0)).toArray 136) := ⟨_, rfl⟩
  have hs1 : w1.heap.size = w.heap.size + 2 := by rw [hw1]; simp [hs0]
  have S1 : SAt 81 w1 w.heap.size s := by rw [hw1]; exact LAt.later S0 (below_alloc w0 _)
  have N1 : LAt 136 w1 (w.heap.size + 1) (List.replicate 8 (Value.int .u64 0)) := by rw [hw1, ← hs0]; exact LAt.new 136 w0 _
  have B1 : Below w.heap.size w w1 := by rw [hw1]; exact below_then B0 (below_alloc w0 _)
  rw [hs0, ← hw1] at A0
  have L1 : Hid (_) := SAt.load23 S1
  have A1 : Hid (_) := alloc23 w1
  have T1 : Hid (_) := store_new23 w1 s
  obtain ⟨w2, hw2⟩ : ∃ x, x = w1.alloc (.cells (ccells s).toArray 23) := ⟨_, rfl⟩
  have S2 : SAt 81 w2 w.heap.size s := by rw [hw2]; exact LAt.later S1 (below_alloc w1 _)
  have N2 : LAt 136 w2 (w.heap.size + 1) (List.replicate 8 (Value.int .u64 0)) := by rw [hw2]; exact N1.later (below_alloc w1 _)
  have C2 : CAt w2 (w.heap.size + 2) s := by rw [hw2, ← hs1]; exact LAt.new 23 w1 _
  have B2 : Below w.heap.size w w2 := by rw [hw2]; exact below_then B1 (below_alloc w1 _)
  rw [hs1, ← hw2] at T1
  rw [hs1] at A1
  have c0 := CAt.c0 C2
  have c1 := CAt.c1 C2
  have c2 := CAt.c2 C2
  have c3 := CAt.c3 C2
  have c4 := CAt.c4 C2
  have c5 := SAt.c5 S2
  have c6 := SAt.c6 S2

  have ST : Hid (_) := N2.store (ds := ncells s) size59 rfl (ncells_all s)
  have HF : Hid (LAt 136 (w2.setRow (w.heap.size + 1) (ncells s).toArray) (w.heap.size + 1) (ncells s) ∧ Below w.heap.size w (w2.setRow (w.heap.size + 1) (ncells s).toArray)) := ⟨N2.stored _, below_setRow B2 (by omega) _⟩
  have e0 := hw0.symm
  clear hw0 hw1 hw2 hs0 hs1 S0 S1 S2 N1 N2 C2 B0 B1 B2
  go_enter Tryz.func52, Tryz.ntmps52
  go_wp2_with ((with_reducible refine at_ops ?_); (first | (refine wpList_alloc_is (by rfl) 136 rfl A0.out ?_) | (refine wpList_load_is (by rfl) 23 rfl rfl L1.out ?_) | (refine wpList_alloc_is (by rfl) 23 rfl A1.out ?_) | (refine wpList_store_is (by rfl) 23 rfl rfl rfl T1.out ?_) | (refine wpList_store_is (by rfl) 136 rfl rfl rfl ST.out ?_)); simp only [Act.put, List.setIfInBounds_toArray, List.set_cons_zero, List.set_cons_succ])
  exact bodyPost_ret (results_cell1 Tryz.results52 _ _ (w.heap.size + 1) 136 _ _ (by rfl) HF.out.1 Tryz.underlying136 rfl size59) rfl ⟨rfl, HF.out.2⟩
end Go.Proofs.YtefnkjajjidfaaaGreatDoor
