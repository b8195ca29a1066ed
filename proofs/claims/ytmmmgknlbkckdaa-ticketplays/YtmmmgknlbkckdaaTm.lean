/-
  Layer 11: plays: plays_put.
-/
import Derived.Test.YtmmmgknlbkckdaaTl
import Derived.Deep.RegionHeld3
import Derived.LaidMore
import Derived.BigQuiet
namespace Go.Proofs.Ytmmmgknlbkckdaa
open Go.RowKit

variable {w0 w w' : World} {P : Nat} {Q : Nat → Nat} {v : Nat → Value} {X : Nat → List Int} {Y : Nat → Int} {kv : Value} {ks : List (Nat × Nat)} {n : Nat}

set_option maxRecDepth 100000 in
set_option maxHeartbeats 4000000 in
theorem plays_put (h : St w0 w P Q v X Y kv ks n) (hn : n ≤ 1000) (wh t N : Int) :
    Calls Try.prog 15 #[qp P, .agg #[.int .i64 1, .int .i64 wh, .int .u64 t, .int .i64 N]] w fun e w' => e = .returned (.bool true) ∧ Next w0 w' P (n + 1) := by
  have S0 : Hid (St w0 w P Q v X Y kv ks n) := h
  clear h
  have t2 := tmod2 wh
  have e2 := sl2_is wh
  have hj := sl2_lt wh
  go_enter Try.func15, Try.ntmps15
  go_wp2_with fail
  rw [e2]
  have HB : Hid (Below w.heap.size w (w.alloc (.cells (ocells 1 wh t N) 51)) ∧ (w.alloc (.cells (ocells 1 wh t N) 51)).heap[w.heap.size]? = some (.cells (ocells 1 wh t N) 51 (0, 0))) := ⟨below_alloc w _, heap_alloc_new w _⟩
  clear t2 e2
  revert HB hj
  generalize sl2 wh = j
  change _ → Hid (_ ∧ (w.alloc (.cells #[.int .i64 1, .int .i64 wh, .int .u64 t, .int .i64 N] 51)).heap[w.heap.size]? = _) → _
  generalize w.alloc (.cells #[.int .i64 1, .int .i64 wh, .int .u64 t, .int .i64 N] 51) = w1
  intro hj HB
  have S1 : Hid (St w0 w1 P Q v X Y kv ks n) := S0.out.later HB.out.1
  have O1 : Hid (w1.heap[w.heap.size]? = some (.cells (ocells 1 wh t N) 51 (0, 0))) := HB.out.2
  have hs1 : w.heap.size < w1.heap.size := (Array.getElem?_eq_some_iff.1 HB.out.2).1
  clear HB S0
  have c0 := S1.out.ps.cq hj
  have c1 := S1.out.ps.cr hj
  have d0 : w1.drew.cell? ⟨P, j, none⟩ = some (qp (Q j)) := c0
  have d1 : w1.drew.cell? ⟨P, 2 + j, none⟩ = some (qp (Q (j + 2))) := c1
  have i1 : (j : Int) < 2 := by omega
  go_quiet (fail)
  have S2 : Hid (St w0 (w1.drewN nq) P Q v X Y kv ks n) := S1.out.later (below_drawn nq)
  have O2 : Hid ((w1.drewN nq).heap[w.heap.size]? = some (.cells (ocells 1 wh t N) 51 (0, 0))) := O1.out
  have hs2 : w.heap.size < (w1.drewN nq).heap.size := hs1
  clear c0 c1 d0 d1 S1 O1 hs1
  revert S2 O2 hs2
  generalize w1.drewN nq = wd
  intro S2 O2 hs2
  have o0 := (ocell O2.out).1
  go_wp2_with fail
  refine wp_region_noPanic ?_
  refine wp_region_held_drew (S := fun w' => w'.heap[w.heap.size]? = some (.cells (ocells 1 wh t N) 51 (0, 0))) (by kernel_rfl) O2.out (fun hHeld => ?_)
  have S3 : Hid (St w0 wd.drew P Q v X Y kv ks n) := S2.out.later (below_drawn 1)
  clear S2 o0
  change Hid (wd.drew.heap[w.heap.size]? = _) at O2
  generalize wd.drew = we at *
  refine wpAnyH_take (i := 0) (v := ?va1) (by simp; rfl) (by kernel_rfl) (by kernel_rfl) (by kernel_rfl) (fun _ _ _ h => h) (Or.inl ⟨by rfl, ?ya1⟩) hHeld ?ra1
  case ya1 => intro w hSw; clear hSw; go_simp; with_reducible rfl
  simp only [Act.put, List.setIfInBounds_toArray, List.set_cons_zero, List.set_cons_succ]
  refine wpAnyH_take (i := 1) (v := ?va2) (by simp; rfl) (by kernel_rfl) (by kernel_rfl) (by kernel_rfl) (fun _ _ _ h => h) (Or.inl ⟨by rfl, ?ya2⟩) hHeld ?ra2
  case ya2 => intro w hSw; clear hSw; go_simp; with_reducible rfl
  simp only [Act.put, List.setIfInBounds_toArray, List.set_cons_zero, List.set_cons_succ]
  refine wpAnyH_take (i := 2) (v := ?va3) (by simp; rfl) (by kernel_rfl) (by kernel_rfl) (by kernel_rfl) (fun _ _ _ h => h) (Or.inl ⟨by rfl, ?ya3⟩) hHeld ?ra3
  case ya3 => intro w hSw; have z := (ocell hSw).2.2.1; clear hSw; go_simp; with_reducible rfl
  simp only [Act.put, List.setIfInBounds_toArray, List.set_cons_zero, List.set_cons_succ]
  refine wpAnyH_take (i := 4) (v := ?va4) (by simp; rfl) (by kernel_rfl) (by kernel_rfl) (by kernel_rfl) (fun _ _ _ h => h) (Or.inl ⟨by rfl, ?ya4⟩) hHeld ?ra4
  case ya4 => intro w hSw; clear hSw; go_simp; with_reducible rfl
  simp only [Act.put, List.setIfInBounds_toArray, List.set_cons_zero, List.set_cons_succ]
  refine wpAnyH_take (i := 5) (v := ?va5) (by simp; rfl) (by kernel_rfl) (by kernel_rfl) (by kernel_rfl) (fun _ _ _ h => h) (Or.inl ⟨by rfl, ?ya5⟩) hHeld ?ra5
  case ya5 => intro w hSw; clear hSw; go_simp; with_reducible rfl
  simp only [Act.put, List.setIfInBounds_toArray, List.set_cons_zero, List.set_cons_succ]
  refine wpAnyH_take (i := 6) (v := ?va6) (by simp; rfl) (by kernel_rfl) (by kernel_rfl) (by kernel_rfl) (fun _ _ _ h => h) (Or.inl ⟨by rfl, ?ya6⟩) hHeld ?ra6
  case ya6 => intro w hSw; have z := (ocell hSw).2.2.1; clear hSw; go_simp; with_reducible rfl
  simp only [Act.put, List.setIfInBounds_toArray, List.set_cons_zero, List.set_cons_succ]
  refine wpAnyH_ready (rs := [3]) (by kernel_rfl) (by simp) ?_
  refine AllReadyH.cons (by simp; rfl) (fun Kc hKc => ?_) AllReadyH.nil
  go_simp
  refine (sput S3.out hn hj t).mono ?_
  rintro e w3 ⟨rfl, h3, k3⟩
  have H3 : Hid (Half w0 w3 P Q X Y kv ks n j (putX (X j) (Y j) t) (putY (Y j) t)) := h3
  have O3 := k3 _ _ O2.out
  clear h3 k3
  refine hKc.out _ _ O3 (fun hHeld => ?_)
  clear hKc Kc
  refine wpAnyH_ready (rs := [7]) (by kernel_rfl) (by simp) ?_
  refine AllReadyH.cons (by simp; rfl) (fun Kc hKc => ?_) AllReadyH.nil
  go_simp
  refine (hrput H3.out hn hj t rfl rfl).mono ?_
  rintro e w4 ⟨rfl, h4, k4⟩
  have H4 : Hid (Next w0 w4 P (n + 1)) := h4
  have O4 := k4 _ _ O3
  clear h4 k4
  refine hKc.out _ _ O4 (fun hHeld => ?_)
  clear hKc Kc
  refine wpAnyH_take (i := 8) (v := ?va7) (by simp; rfl) (by kernel_rfl) (by kernel_rfl) (by kernel_rfl) (fun _ _ _ h => h) (Or.inl ⟨by rfl, ?ya7⟩) hHeld ?ra7
  case ya7 => intro w hSw; clear hSw; go_simp; with_reducible rfl
  simp only [Act.put, List.setIfInBounds_toArray, List.set_cons_zero, List.set_cons_succ]
  refine wpAnyH_take (i := 9) (v := ?va8) (by simp; rfl) (by kernel_rfl) (by kernel_rfl) (by kernel_rfl) (fun _ _ _ h => h) (Or.inl ⟨by rfl, ?ya8⟩) hHeld ?ra8
  case ya8 => intro w hSw; clear hSw; go_simp; with_reducible rfl
  simp only [Act.put, List.setIfInBounds_toArray, List.set_cons_zero, List.set_cons_succ]
  clear hHeld
  refine wpAnyH_done (by kernel_rfl) (NoPanic.normal ?_) _
  go_wp2_with fail
  go_ret
  exact ⟨by simp, H4.out⟩
end Go.Proofs.Ytmmmgknlbkckdaa
