/-
  Layer 11: plays: no kind.
-/
import Derived.Test.YtmmmgknlbkckdaaTl
import Derived.Deep.RegionHeld3
import Derived.LaidMore
import Derived.BigQuiet
namespace Go.Proofs.Ytmmmgknlbkckdaa
open Go.RowKit

variable {w0 w w' : World} {P : Nat} {Q : Nat → Nat} {v : Nat → Value} {X : Nat → List Int} {Y : Nat → Int} {kv : Value} {ks : List (Nat × Nat)} {n : Nat}

set_option maxRecDepth 100000 in
set_option maxHeartbeats 4000000 in
theorem plays_none (h : St w0 w P Q v X Y kv ks n) (_hn : n ≤ 1000) (kd wh t N : Int) (k1 : kd ≠ 1) (k2 : kd ≠ 2) (k3 : kd ≠ 3) (k4 : kd ≠ 4) (k5 : kd ≠ 5) (k6 : kd ≠ 6) (k7 : kd ≠ 7) :
    Calls Try.prog 15 #[qp P, .agg #[.int .i64 kd, .int .i64 wh, .int .u64 t, .int .i64 N]] w fun e w' => e = .returned (.bool true) ∧ Next w0 w' P (n + 1) := by
  have S0 : Hid (St w0 w P Q v X Y kv ks n) := h
  clear h
  have t2 := tmod2 wh
  have e2 := sl2_is wh
  have hj := sl2_lt wh
  have b1 : (kd == 1) = false := by rw [beq_eq_false_iff_ne]; exact k1
  have b2 : (kd == 2) = false := by rw [beq_eq_false_iff_ne]; exact k2
  have b3 : (kd == 3) = false := by rw [beq_eq_false_iff_ne]; exact k3
  have b4 : (kd == 4) = false := by rw [beq_eq_false_iff_ne]; exact k4
  have b5 : (kd == 5) = false := by rw [beq_eq_false_iff_ne]; exact k5
  have b6 : (kd == 6) = false := by rw [beq_eq_false_iff_ne]; exact k6
  have b7 : (kd == 7) = false := by rw [beq_eq_false_iff_ne]; exact k7
  clear k1 k2 k3 k4 k5 k6 k7
  go_enter Try.func15, Try.ntmps15
  go_wp2_with fail
  rw [e2]
  have HB : Hid (Below w.heap.size w (w.alloc (.cells (ocells kd wh t N) 51)) ∧ (w.alloc (.cells (ocells kd wh t N) 51)).heap[w.heap.size]? = some (.cells (ocells kd wh t N) 51 (0, 0))) := ⟨below_alloc w _, heap_alloc_new w _⟩
  clear t2 e2
  revert HB hj
  generalize sl2 wh = j
  change _ → Hid (_ ∧ (w.alloc (.cells #[.int .i64 kd, .int .i64 wh, .int .u64 t, .int .i64 N] 51)).heap[w.heap.size]? = _) → _
  generalize w.alloc (.cells #[.int .i64 kd, .int .i64 wh, .int .u64 t, .int .i64 N] 51) = w1
  intro hj HB
  have S1 : Hid (St w0 w1 P Q v X Y kv ks n) := S0.out.later HB.out.1
  have O1 : Hid (w1.heap[w.heap.size]? = some (.cells (ocells kd wh t N) 51 (0, 0))) := HB.out.2
  have hs1 : w.heap.size < w1.heap.size := (Array.getElem?_eq_some_iff.1 HB.out.2).1
  clear HB S0
  have c0 := S1.out.ps.cq hj
  have c1 := S1.out.ps.cr hj
  have d0 : w1.drew.cell? ⟨P, j, none⟩ = some (qp (Q j)) := c0
  have d1 : w1.drew.cell? ⟨P, 2 + j, none⟩ = some (qp (Q (j + 2))) := c1
  have i1 : (j : Int) < 2 := by omega
  go_quiet (fail)
  have S2 : Hid (St w0 (w1.drewN nq) P Q v X Y kv ks n) := S1.out.later (below_drawn nq)
  have O2 : Hid ((w1.drewN nq).heap[w.heap.size]? = some (.cells (ocells kd wh t N) 51 (0, 0))) := O1.out
  have hs2 : w.heap.size < (w1.drewN nq).heap.size := hs1
  clear c0 c1 d0 d1 S1 O1 hs1
  revert S2 O2 hs2
  generalize w1.drewN nq = wd
  intro S2 O2 hs2
  have o0 := (ocell O2.out).1
  go_wp2_with fail
  go_ret
  exact ⟨rfl, S2.out.next (Below.refl _ _)⟩
end Go.Proofs.Ytmmmgknlbkckdaa
