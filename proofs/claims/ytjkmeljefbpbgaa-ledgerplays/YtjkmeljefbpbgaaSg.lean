/-
  Layer 12: plays: plays_free.
-/
import Derived.Test.YtjkmeljefbpbgaaSc
namespace Go.Proofs.Ytjkmeljefbpbgaa
open Go.RowKit

variable {w0 w w' : World} {P : Nat} {T : Nat → Th} {S : Nat → Lg} {N : Nat}

set_option maxRecDepth 100000 in
set_option maxHeartbeats 4000000 in
theorem plays_free (h : St w0 w P T S N) (hN : N < 1000) (wh t k : Int) (ht : U64 t) :
    Calls Try.prog 19 #[lp P, .agg #[.int .i64 4, .int .i64 wh, .int .u64 t, .int .i64 k]] w fun e w' => e = .returned (.bool true) ∧ Next w0 w' P (N + 1) := by
  have S0 : Hid (St w0 w P T S N) := h
  clear h
  have t2 := tmod2 wh
  have e2 := sl2_is wh
  have hj := sl2_lt wh
  go_enter Try.func19, Try.ntmps19
  go_wp2_with fail
  rw [e2]
  have HB : Hid (Below w.heap.size w (w.alloc (.cells #[.int .i64 4, .int .i64 wh, .int .u64 t, .int .i64 k] 32)) ∧ (w.alloc (.cells #[.int .i64 4, .int .i64 wh, .int .u64 t, .int .i64 k] 32)).heap[w.heap.size]? = some (.cells (ocells 4 wh t k) 32 (0, 0))) := ⟨below_alloc w _, heap_alloc_new w _⟩
  clear t2 e2
  revert HB hj
  generalize sl2 wh = j
  generalize w.alloc (.cells #[.int .i64 4, .int .i64 wh, .int .u64 t, .int .i64 k] 32) = w1
  intro hj HB
  have S1 : Hid (St w0 w1 P T S N) := S0.out.later HB.out.1
  have O1 : Hid (w1.heap[w.heap.size]? = some (.cells (ocells 4 wh t k) 32 (0, 0))) := HB.out.2
  clear HB S0
  have c0 := S1.out.ps.cl hj
  have c1 := S1.out.ps.cr hj
  have d0 : w1.drew.cell? ⟨P, j, none⟩ = some (lp (T j).ptr) := c0
  have d1 : w1.drew.cell? ⟨P, 2 + j, none⟩ = some (lp (T (j + 2)).ptr) := c1
  have i1 : (j : Int) < 2 := by omega
  go_quiet (fail)
  have S2 : Hid (St w0 (w1.drewN nq) P T S N) := S1.out.later (below_drawn nq)
  have O2 : Hid ((w1.drewN nq).heap[w.heap.size]? = some (.cells (ocells 4 wh t k) 32 (0, 0))) := O1.out
  clear c0 c1 d0 d1 S1 O1
  revert S2 O2
  generalize w1.drewN nq = wd
  intro S2 O2
  have o0 := (ocell O2.out).1
  go_wp2_with fail
  refine wp_region_noPanic ?_
  refine wp_region_held_drew (S := fun w' => w'.heap[w.heap.size]? = some (.cells (ocells 4 wh t k) 32 (0, 0))) (by kernel_rfl) O2.out (fun hHeld => ?_)
  have S3 : Hid (St w0 wd.drew P T S N) := S2.out.later (below_drawn 1)
  clear S2 o0
  change Hid (wd.drew.heap[w.heap.size]? = _) at O2
  generalize wd.drew = we at *
  refine wpAnyH_take (i := 0) (v := ?va29) (by simp; rfl) (by kernel_rfl) (by kernel_rfl) (by kernel_rfl) (fun _ _ _ h => h) (Or.inl ⟨by rfl, ?ya29⟩) hHeld ?ra29
  case ya29 => intro w hSw; clear hSw; go_simp; with_reducible rfl
  simp only [Act.put, List.setIfInBounds_toArray, List.set_cons_zero, List.set_cons_succ]
  refine wpAnyH_take (i := 1) (v := ?va30) (by simp; rfl) (by kernel_rfl) (by kernel_rfl) (by kernel_rfl) (fun _ _ _ h => h) (Or.inl ⟨by rfl, ?ya30⟩) hHeld ?ra30
  case ya30 => intro w hSw; clear hSw; go_simp; with_reducible rfl
  simp only [Act.put, List.setIfInBounds_toArray, List.set_cons_zero, List.set_cons_succ]
  refine wpAnyH_take (i := 2) (v := ?va31) (by simp; rfl) (by kernel_rfl) (by kernel_rfl) (by kernel_rfl) (fun _ _ _ h => h) (Or.inl ⟨by rfl, ?ya31⟩) hHeld ?ra31
  case ya31 => intro w hSw; have z := (ocell hSw).2.2.2; clear hSw; go_simp; with_reducible rfl
  simp only [Act.put, List.setIfInBounds_toArray, List.set_cons_zero, List.set_cons_succ]
  refine wpAnyH_take (i := 4) (v := ?va32) (by simp; rfl) (by kernel_rfl) (by kernel_rfl) (by kernel_rfl) (fun _ _ _ h => h) (Or.inl ⟨by rfl, ?ya32⟩) hHeld ?ra32
  case ya32 => intro w hSw; clear hSw; go_simp; with_reducible rfl
  simp only [Act.put, List.setIfInBounds_toArray, List.set_cons_zero, List.set_cons_succ]
  refine wpAnyH_take (i := 5) (v := ?va33) (by simp; rfl) (by kernel_rfl) (by kernel_rfl) (by kernel_rfl) (fun _ _ _ h => h) (Or.inl ⟨by rfl, ?ya33⟩) hHeld ?ra33
  case ya33 => intro w hSw; clear hSw; go_simp; with_reducible rfl
  simp only [Act.put, List.setIfInBounds_toArray, List.set_cons_zero, List.set_cons_succ]
  refine wpAnyH_take (i := 6) (v := ?va34) (by simp; rfl) (by kernel_rfl) (by kernel_rfl) (by kernel_rfl) (fun _ _ _ h => h) (Or.inl ⟨by rfl, ?ya34⟩) hHeld ?ra34
  case ya34 => intro w hSw; have z := (ocell hSw).2.2.2; clear hSw; go_simp; with_reducible rfl
  simp only [Act.put, List.setIfInBounds_toArray, List.set_cons_zero, List.set_cons_succ]
  refine wpAnyH_ready (rs := [3]) (by kernel_rfl) (by simp) ?_
  refine AllReadyH.cons (by simp; rfl) (fun Kc hKc => ?_) AllReadyH.nil
  go_simp
  refine (s_free S3.out hj k).mono ?_
  rintro e w3 ⟨rfl, ⟨T', h3, p3⟩, k3⟩
  have H3 : Hid (Half w0 w3 P T' S N j (freS (S j) k) ∧ pcs T' = pcs T) := ⟨h3, p3⟩
  have O3 := k3 _ _ O2.out
  clear h3 k3 p3
  refine hKc.out _ _ O3 (fun hHeld => ?_)
  clear hKc Kc
  refine wpAnyH_ready (rs := [7]) (by kernel_rfl) (by simp) ?_
  refine AllReadyH.cons (by simp; rfl) (fun Kc hKc => ?_) AllReadyH.nil
  go_simp
  refine (h_free H3.out.1 (by omega) hj H3.out.2 k rfl).mono ?_
  rintro e w4 ⟨rfl, h4, k4⟩
  have H4 : Hid (Next w0 w4 P (N + 1)) := h4
  have O4' := k4 _ _ O3
  clear h4 k4
  refine hKc.out _ _ O4' (fun hHeld => ?_)
  clear hKc Kc
  refine wpAnyH_take (i := 8) (v := ?va35) (by simp; rfl) (by kernel_rfl) (by kernel_rfl) (by kernel_rfl) (fun _ _ _ h => h) (Or.inl ⟨by rfl, ?ya35⟩) hHeld ?ra35
  case ya35 => intro w hSw; clear hSw; go_simp; with_reducible rfl
  simp only [Act.put, List.setIfInBounds_toArray, List.set_cons_zero, List.set_cons_succ]
  refine wpAnyH_take (i := 9) (v := ?va36) (by simp; rfl) (by kernel_rfl) (by kernel_rfl) (by kernel_rfl) (fun _ _ _ h => h) (Or.inl ⟨by rfl, ?ya36⟩) hHeld ?ra36
  case ya36 => intro w hSw; clear hSw; go_simp; with_reducible rfl
  simp only [Act.put, List.setIfInBounds_toArray, List.set_cons_zero, List.set_cons_succ]
  have O4 : Hid (w4.heap[w.heap.size]? = some (.cells (ocells 4 wh t k) 32 (0, 0))) := O4'
  clear hHeld O4' H3 S3 O2 O3
  refine wpAnyH_done (by kernel_rfl) (NoPanic.normal ?_) _
  generalize freE (S j) k = ea at *
  have qa : (ea == ea) = true := by simp
  have z0 := (ocell O4.out).1
  have z1 := (ocell O4.out).2.1
  have z2 := (ocell O4.out).2.2.1
  have z3 := (ocell O4.out).2.2.2
  go_wp2_with fail
  refine (same_0 H4.out (by omega) 4 wh t k ht).mono ?_
  rintro e w8 ⟨rfl, h8⟩
  have H8 : Hid (Next w0 w8 P (N + 1)) := H4.out.later h8
  have O8 : Hid (w8.heap[w.heap.size]? = some (.cells (ocells 4 wh t k) 32 (0, 0))) := KO.of_below h8 _ _ O4.out
  clear h8 z0 z1 z2 z3 H4 O4
  have z0 := (ocell O8.out).1
  have z1 := (ocell O8.out).2.1
  have z2 := (ocell O8.out).2.2.1
  have z3 := (ocell O8.out).2.2.2
  go_wp2_with fail
  refine (same_1 H8.out (by omega) 4 wh t k ht).mono ?_
  rintro e w9 ⟨rfl, h9⟩
  have H9 : Hid (Next w0 w9 P (N + 1)) := H8.out.later h9
  clear h9 z0 z1 z2 z3 H8 O8
  go_wp2_with fail
  go_ret
  exact ⟨rfl, H9.out⟩
end Go.Proofs.Ytjkmeljefbpbgaa
