/-
  Layer 12: same.
-/
import Derived.Test.YtjkmeljefbpbgaaSa
namespace Go.Proofs.Ytjkmeljefbpbgaa
open Go.RowKit


variable {w0 w w' : World} {P : Nat} {T : Nat → Th} {S : Nat → Lg} {N j : Nat}
theorem u64_small {k : Nat} (h : k ≤ 1000) : U64 (k : Int) := by
  have e1 : IntKind.u64.min = 0 := by decide
  have e2 : IntKind.u64.max = 18446744073709551615 := by decide
  simp only [U64, Lit.wf, e1, e2, Bool.and_eq_true, decide_eq_true_eq]
  omega
/-- a ledger, the document's beside it, a step's cells -/
structure Se (w0 w : World) (Q b n : Nat) (R : Nat) (v : Value) (s : Lg) (rec gone : Int) (ps : List Pt) (K B : Nat) (kd wh t k : Int) : Prop where
  l : LAt w Q b n s
  r : RAt w0 w R v s rec gone ps K
  ok : Ok s
  hK : K ≤ 1000
  box : w.heap[B]? = some (.cells (ocells kd wh t k) 32 (0, 0))
theorem Se.drawn {Q b n R : Nat} {v : Value} {s : Lg} {rec gone : Int} {ps : List Pt} {K B : Nat} {kd wh t k : Int} (h : Se w0 w Q b n R v s rec gone ps K B kd wh t k) (m : Nat) : Se w0 (w.drewN m) Q b n R v s rec gone ps K B kd wh t k := ⟨h.l.drawn m, h.r.drawn m, h.ok, h.hK, h.box⟩
theorem Se.more {Q b n R : Nat} {v : Value} {s : Lg} {rec gone : Int} {ps : List Pt} {K B : Nat} {kd wh t k : Int} (h : Se w0 w Q b n R v s rec gone ps K B kd wh t k) (hm : ∃ m, w' = w.drewN m) : Se w0 w' Q b n R v s rec gone ps K B kd wh t k := by
  obtain ⟨m, rfl⟩ := hm
  exact h.drawn m
theorem bne_self_i (a : Int) : (a == a) = true ∧ (a != a) = false := ⟨by simp, by simp⟩
theorem bne_self_b (a : Bool) : (a == a) = true ∧ (a != a) = false := ⟨by simp, by simp⟩

set_option maxHeartbeats 4000000 in
set_option maxRecDepth 100000 in
theorem same_any (h : St w0 w P T S N) (hN : N ≤ 1000) (hj : j < 2) (kd wh t k : Int) (ht : U64 t) :
    Calls Try.prog 20 #[lp P, .int .i64 j, .agg #[.int .i64 kd, .int .i64 wh, .int .u64 t, .int .i64 k]] w fun e w' => e = .returned (.bool true) ∧ Below w.heap.size w w' := by
  have HB : Hid (Below w.heap.size w (w.alloc (.cells #[.int .i64 kd, .int .i64 wh, .int .u64 t, .int .i64 k] 32)) ∧ (w.alloc (.cells #[.int .i64 kd, .int .i64 wh, .int .u64 t, .int .i64 k] 32)).heap[w.heap.size]? = some (.cells (ocells kd wh t k) 32 (0, 0))) := ⟨below_alloc w _, heap_alloc_new w _⟩
  have S0 : Hid (St w0 w P T S N) := h
  clear h
  go_enter Try.func20, Try.ntmps20
  go_wp2_with fail
  generalize w.alloc (.cells #[.int .i64 kd, .int .i64 wh, .int .u64 t, .int .i64 k] 32) = w1 at *
  have S1 : Hid (St w0 w1 P T S N) := S0.out.later HB.out.1
  obtain ⟨Q, b, n, _, hn, hl, hp⟩ := S1.out.l hj
  obtain ⟨R, v, rec, gone, ps, K, _, hK, hr, hpr⟩ := S1.out.r hj
  have E1 : Hid (Se w0 w1 Q b n R v (S j) rec gone ps K w.heap.size kd wh t k) := ⟨hl, hr, S1.out.ok j hj, by omega, HB.out.2⟩
  have c0 := S1.out.ps.cl hj
  have c1 := S1.out.ps.cr hj
  rw [hp] at c0
  rw [hpr] at c1
  have d0 : w1.drew.cell? ⟨P, j, none⟩ = some (lp Q) := c0
  have d1 : w1.drew.cell? ⟨P, 2 + j, none⟩ = some (lp R) := c1
  have HW : Hid (Below w.heap.size w w1) := HB.out.1
  clear hl hr hp hpr HB S0 S1
  have i1 : (j : Int) < 2 := by omega
  go_quiet (fail)
  have HM0 : Hid (∃ m, w1.drewN nq = w1.drewN m) := ⟨nq, rfl⟩
  revert HM0
  generalize w1.drewN nq = wd
  intro HM0
  have E2 := (show Hid (Se w0 wd Q b n R v (S j) rec gone ps K w.heap.size kd wh t k) from E1.out.more HM0.out)
  clear c0 c1 d0 d1
  have o2 := (ocell E2.out.box).2.2.1
  go_wp2_with fail
  refine (left_at E2.out.l ht).mono ?_
  rintro e w2 ⟨rfl, rfl⟩
  go_wp2_with fail
  refine (rleft_at E2.out.r E2.out.ok E2.out.hK t).mono ?_
  rintro e w3 ⟨rfl, hm⟩
  have HM1 : Hid (∃ m, w3 = w1.drewN m) := by obtain ⟨m, rfl⟩ := HM0.out; obtain ⟨m', rfl⟩ := hm; exact drew_more ⟨m, rfl⟩ m'
  clear hm o2 E2 HM0
  have E3 : Hid (Se w0 w3 Q b n R v (S j) rec gone ps K w.heap.size kd wh t k) := E1.out.more HM1.out
  have o3 := (ocell E3.out.box).2.2.2
  generalize (look t (S j).L).getD 0 = la at *
  generalize (look t (S j).L).isSome = lb at *
  obtain ⟨qa, qa'⟩ := bne_self_i la
  obtain ⟨qb, qb'⟩ := bne_self_b lb
  obtain ⟨qc, qc'⟩ := bne_self_i (S j).used
  obtain ⟨qd, qd'⟩ := bne_self_i (total (S j).L)
  obtain ⟨qe, qe'⟩ := bne_self_b (markedS (S j))
  obtain ⟨qf, qf'⟩ := bne_self_b (fitsS (S j) k)
  obtain ⟨qg, qg'⟩ := bne_self_b (fitsS (S j) 1)
  go_wp2_with fail
  go_quiet (first
    | (go_at_call 8; exact Calls.quiet_of_same (used_at (E3.out.l.drawn _)))
    | (go_at_call 28; exact Calls.quiet_of (rused_at (E3.out.r.drawn _) E3.out.hK))
    | (go_at_call 9; exact Calls.quiet_of_same (reserved_at (E3.out.l.drawn _)))
    | (go_at_call 29; exact Calls.quiet_of (rreserved_at (E3.out.r.drawn _) E3.out.ok E3.out.hK))
    | (go_at_call 16; exact Calls.quiet_of (marked_at (E3.out.l.drawn _)))
    | (go_at_call 30; exact Calls.quiet_of (rmarked_at (E3.out.r.drawn _) E3.out.hK))
    | (go_at_call 15; exact Calls.quiet_of (fits_at (E3.out.l.drawn _) E3.out.ok _))
    | (go_at_call 31; exact Calls.quiet_of (rfits_at (E3.out.r.drawn _) E3.out.ok E3.out.hK _)))
  have HM2 : Hid (∃ m, w3.drewN nq = w1.drewN m) := drew_more HM1.out nq
  clear o3 E3 HM1
  revert HM2
  generalize w3.drewN nq = w4
  intro HM2
  go_wp2_with fail
  go_loopw [13] (fun x wr => ∃ i : Nat, i ≤ 6 ∧ x = .int .u64 i ∧ Hid (∃ m, wr = w1.drewN m)) (fun x _ => 6 - (intOf x).toNat)
  case atStart => exact ⟨0, Nat.zero_le _, rfl, HM2⟩
  case round =>
    obtain ⟨i, hi, rfl, HM3⟩ := hrel
    have E4 : Hid (Se w0 wr Q b n R v (S j) rec gone ps K w.heap.size kd wh t k) := E1.out.more HM3.out
    by_cases h6 : i < 6
    · have i2 : (i : Int) < 6 := by omega
      go_wp2_with fail
      refine (left_at E4.out.l (u64_small (by omega))).mono ?_
      rintro e w5 ⟨rfl, rfl⟩
      go_wp2_with fail
      refine (rleft_at E4.out.r E4.out.ok E4.out.hK i).mono ?_
      rintro e w6 ⟨rfl, hm⟩
      have HM4 : Hid (∃ m, w6 = w1.drewN m) := by obtain ⟨m, rfl⟩ := HM3.out; obtain ⟨m', rfl⟩ := hm; exact drew_more ⟨m, rfl⟩ m'
      clear hm E4
      generalize (look (i : Int) (S j).L).getD 0 = ma at *
      generalize (look (i : Int) (S j).L).isSome = mb at *
      obtain ⟨ra, ra'⟩ := bne_self_i ma
      obtain ⟨rb, rb'⟩ := bne_self_b mb
      go_wp2_with fail
      go_roundw
      case rel => exact ⟨i + 1, by omega, by go_num, HM4⟩
      case measure => simp [intOf]; omega
    · obtain rfl : i = 6 := by omega
      have c5 := (lc2 E4.out.r).1
      obtain ⟨n1, n2, n3, n4, n5⟩ := E4.out.ok.nums
      go_wp2_with fail
      go_quiet (first
        | (go_at_call 8; exact Calls.quiet_of_same (used_at (E4.out.l.drawn _)))
        | (go_at_call 9; exact Calls.quiet_of_same (reserved_at (E4.out.l.drawn _))))
      have HM5 : Hid (∃ m, wr.drewN nq = w1.drewN m) := drew_more HM3.out nq
      go_wp2
      go_ret
      refine ⟨?_, ?_⟩
      · simp
      · obtain ⟨m, e⟩ := HM5.out
        rw [e]
        exact below_then HW.out (below_drawn m)
end Go.Proofs.Ytjkmeljefbpbgaa
