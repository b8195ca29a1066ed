/-
  Layer 12: plays: what its kinds share; no kind.
-/
import Derived.Test.YtjkmeljefbpbgaaSb
import Derived.Deep.RegionHeld3
import Derived.LaidMore
import Derived.BigQuiet
namespace Go.Proofs.Ytjkmeljefbpbgaa
open Go.RowKit

variable {w0 w w' : World} {P : Nat} {T : Nat → Th} {S : Nat → Lg} {N : Nat}

def sl2 (x : Int) : Nat := ((x.tmod 2 + 2) % 2).toNat
theorem sl2_is (x : Int) : (x.tmod 2 + 2) % 2 = ((sl2 x : Nat) : Int) := by unfold sl2; omega
theorem sl2_lt (x : Int) : sl2 x < 2 := by unfold sl2; omega
theorem tmod2 (x : Int) : -2 < x.tmod 2 ∧ x.tmod 2 < 2 := by
  by_cases h : 0 ≤ x
  · rw [Int.tmod_eq_emod_of_nonneg h]; omega
  · rw [show x = -(-x) by omega, Int.neg_tmod, Int.tmod_eq_emod_of_nonneg (show 0 ≤ -x by omega)]; omega
theorem same_0 (h : Next w0 w P N) (hN : N ≤ 1000) (kd wh t k : Int) (ht : U64 t) : Calls Try.prog 20 #[lp P, .int .i64 0, .agg #[.int .i64 kd, .int .i64 wh, .int .u64 t, .int .i64 k]] w fun e w' => e = .returned (.bool true) ∧ Below w.heap.size w w' := by
  obtain ⟨T, S, h⟩ := h
  exact same_any (j := 0) h hN (by omega) kd wh t k ht
theorem same_1 (h : Next w0 w P N) (hN : N ≤ 1000) (kd wh t k : Int) (ht : U64 t) : Calls Try.prog 20 #[lp P, .int .i64 1, .agg #[.int .i64 kd, .int .i64 wh, .int .u64 t, .int .i64 k]] w fun e w' => e = .returned (.bool true) ∧ Below w.heap.size w w' := by
  obtain ⟨T, S, h⟩ := h
  exact same_any (j := 1) h hN (by omega) kd wh t k ht

set_option maxRecDepth 100000 in
set_option maxHeartbeats 4000000 in
theorem plays_none (h : St w0 w P T S N) (hN : N < 1000) (kd wh t k : Int) (ht : U64 t) (k1 : kd ≠ 1) (k2 : kd ≠ 2) (k3 : kd ≠ 3) (k4 : kd ≠ 4) (k5 : kd ≠ 5) :
    Calls Try.prog 19 #[lp P, .agg #[.int .i64 kd, .int .i64 wh, .int .u64 t, .int .i64 k]] w fun e w' => e = .returned (.bool true) ∧ Next w0 w' P (N + 1) := by
  have S0 : Hid (St w0 w P T S N) := h
  clear h
  have t2 := tmod2 wh
  have e2 := sl2_is wh
  have hj := sl2_lt wh
  have b1 : (kd == 1) = false := by rw [beq_eq_false_iff_ne]; exact k1
  have b2 : (kd == 2) = false := by rw [beq_eq_false_iff_ne]; exact k2
  have b3 : (kd == 3) = false := by rw [beq_eq_false_iff_ne]; exact k3
  have b4 : (kd == 4) = false := by rw [beq_eq_false_iff_ne]; exact k4
  have b5 : (kd == 5) = false := by rw [beq_eq_false_iff_ne]; exact k5
  clear k1 k2 k3 k4 k5
  go_enter Try.func19, Try.ntmps19
  go_wp2_with fail
  rw [e2]
  have HB : Hid (Below w.heap.size w (w.alloc (.cells #[.int .i64 kd, .int .i64 wh, .int .u64 t, .int .i64 k] 32)) ∧ (w.alloc (.cells #[.int .i64 kd, .int .i64 wh, .int .u64 t, .int .i64 k] 32)).heap[w.heap.size]? = some (.cells (ocells kd wh t k) 32 (0, 0))) := ⟨below_alloc w _, heap_alloc_new w _⟩
  clear t2 e2
  revert HB hj
  generalize sl2 wh = j
  generalize w.alloc (.cells #[.int .i64 kd, .int .i64 wh, .int .u64 t, .int .i64 k] 32) = w1
  intro hj HB
  have S1 : Hid (St w0 w1 P T S N) := S0.out.later HB.out.1
  have O1 : Hid (w1.heap[w.heap.size]? = some (.cells (ocells kd wh t k) 32 (0, 0))) := HB.out.2
  clear HB S0
  have c0 := S1.out.ps.cl hj
  have c1 := S1.out.ps.cr hj
  have d0 : w1.drew.cell? ⟨P, j, none⟩ = some (lp (T j).ptr) := c0
  have d1 : w1.drew.cell? ⟨P, 2 + j, none⟩ = some (lp (T (j + 2)).ptr) := c1
  have i1 : (j : Int) < 2 := by omega
  go_quiet (fail)
  have S2 : Hid (St w0 (w1.drewN nq) P T S N) := S1.out.later (below_drawn nq)
  have O2 : Hid ((w1.drewN nq).heap[w.heap.size]? = some (.cells (ocells kd wh t k) 32 (0, 0))) := O1.out
  clear c0 c1 d0 d1 S1 O1
  revert S2 O2
  generalize w1.drewN nq = wd
  intro S2 O2
  have o0 := (ocell O2.out).1
  have H4 : Hid (Next w0 wd P (N + 1)) := S2.out.next (Below.refl _ _)
  clear o0 S2
  have z0 := (ocell O2.out).1
  have z1 := (ocell O2.out).2.1
  have z2 := (ocell O2.out).2.2.1
  have z3 := (ocell O2.out).2.2.2
  go_wp2_with fail
  refine (same_0 H4.out (by omega) kd wh t k ht).mono ?_
  rintro e w8 ⟨rfl, h8⟩
  have H8 : Hid (Next w0 w8 P (N + 1)) := H4.out.later h8
  have O8 : Hid (w8.heap[w.heap.size]? = some (.cells (ocells kd wh t k) 32 (0, 0))) := KO.of_below h8 _ _ O2.out
  clear h8 z0 z1 z2 z3 H4 O2
  have z0 := (ocell O8.out).1
  have z1 := (ocell O8.out).2.1
  have z2 := (ocell O8.out).2.2.1
  have z3 := (ocell O8.out).2.2.2
  go_wp2_with fail
  refine (same_1 H8.out (by omega) kd wh t k ht).mono ?_
  rintro e w9 ⟨rfl, h9⟩
  have H9 : Hid (Next w0 w9 P (N + 1)) := H8.out.later h9
  clear h9 z0 z1 z2 z3 H8 O8
  go_wp2_with fail
  go_ret
  exact ⟨rfl, H9.out⟩
end Go.Proofs.Ytjkmeljefbpbgaa
