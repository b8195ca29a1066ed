/-
  Layer 11: plays: First, Len, Place.
-/
import Derived.Test.YtmmmgknlbkckdaaTl
import Derived.Deep.RegionHeld3
import Derived.LaidMore
import Derived.BigQuiet
namespace Go.Proofs.Ytmmmgknlbkckdaa
open Go.RowKit

variable {w0 w w' : World} {P : Nat} {Q : Nat → Nat} {v : Nat → Value} {X : Nat → List Int} {Y : Nat → Int} {kv : Value} {ks : List (Nat × Nat)} {n : Nat}

set_option maxRecDepth 100000 in
set_option maxHeartbeats 4000000 in
theorem plays_first (h : St w0 w P Q v X Y kv ks n) (hn : n ≤ 1000) (wh t N : Int) :
    Calls Try.prog 15 #[qp P, .agg #[.int .i64 2, .int .i64 wh, .int .u64 t, .int .i64 N]] w fun e w' => e = .returned (.bool true) ∧ Next w0 w' P (n + 1) := by
  have S0 : Hid (St w0 w P Q v X Y kv ks n) := h
  clear h
  have t2 := tmod2 wh
  have e2 := sl2_is wh
  have hj := sl2_lt wh
  go_enter Try.func15, Try.ntmps15
  go_wp2_with fail
  rw [e2]
  have HB : Hid (Below w.heap.size w (w.alloc (.cells (ocells 2 wh t N) 51)) ∧ (w.alloc (.cells (ocells 2 wh t N) 51)).heap[w.heap.size]? = some (.cells (ocells 2 wh t N) 51 (0, 0))) := ⟨below_alloc w _, heap_alloc_new w _⟩
  clear t2 e2
  revert HB hj
  generalize sl2 wh = j
  change _ → Hid (_ ∧ (w.alloc (.cells #[.int .i64 2, .int .i64 wh, .int .u64 t, .int .i64 N] 51)).heap[w.heap.size]? = _) → _
  generalize w.alloc (.cells #[.int .i64 2, .int .i64 wh, .int .u64 t, .int .i64 N] 51) = w1
  intro hj HB
  have S1 : Hid (St w0 w1 P Q v X Y kv ks n) := S0.out.later HB.out.1
  have O1 : Hid (w1.heap[w.heap.size]? = some (.cells (ocells 2 wh t N) 51 (0, 0))) := HB.out.2
  have hs1 : w.heap.size < w1.heap.size := (Array.getElem?_eq_some_iff.1 HB.out.2).1
  clear HB S0
  have c0 := S1.out.ps.cq hj
  have c1 := S1.out.ps.cr hj
  have d0 : w1.drew.cell? ⟨P, j, none⟩ = some (qp (Q j)) := c0
  have d1 : w1.drew.cell? ⟨P, 2 + j, none⟩ = some (qp (Q (j + 2))) := c1
  have i1 : (j : Int) < 2 := by omega
  go_quiet (fail)
  have S2 : Hid (St w0 (w1.drewN nq) P Q v X Y kv ks n) := S1.out.later (below_drawn nq)
  have O2 : Hid ((w1.drewN nq).heap[w.heap.size]? = some (.cells (ocells 2 wh t N) 51 (0, 0))) := O1.out
  have hs2 : w.heap.size < (w1.drewN nq).heap.size := hs1
  clear c0 c1 d0 d1 S1 O1 hs1
  revert S2 O2 hs2
  generalize w1.drewN nq = wd
  intro S2 O2 hs2
  have o0 := (ocell O2.out).1
  go_wp2_with fail
  refine (sfirst S2.out hj).mono ?_
  rintro e w' ⟨rfl, rfl⟩
  clear o0
  go_wp2_with fail
  refine (srfirst S2.out hj).mono ?_
  rintro e w' ⟨rfl, rfl⟩
  generalize hdv (X j) = a at *
  generalize nonE (X j) = b at *
  have ha : (a == a) = true := by simp
  have hb : (b == b) = true := by simp
  have hl : (((X j).length : Int) == ((X j).length : Int)) = true := by simp
  have hp : (place (X j) t == place (X j) t) = true := by simp
  go_wp2_with fail
  have hB := below_drawn (B := wd.heap.size) (w := wd) 1
  have S3 : Hid (St w0 wd.drew P Q v X Y kv ks n) := S2.out.later hB
  have O3 : Hid (wd.drew.heap[w.heap.size]? = some (.cells (ocells 2 wh t N) 51 (0, 0))) := O2.out
  clear S2 O2 hs2 hB
  refine wp_region_noPanic ?_
  refine wp_region_held_drew (S := fun w' => Below wd.drew.heap.size wd.drew w') (by kernel_rfl) (Below.refl _ _) (fun hHeld => ?_)
  generalize wd.drew = we at *
  obtain ⟨pl, cl, hcl, _⟩ := S3.out.rl hj
  have RL : Hid (∀ w', Below we.heap.size we w' → w'.cell? ⟨Q (j + 2), 0, none⟩ = some (.slice pl (X j).length cl)) := fun w' hb => (hb.cell (p := ⟨Q (j + 2), 0, none⟩) (World.block_lt_of_cell? we _ hcl)).trans hcl
  have OT : Hid (∀ w', Below we.heap.size we w' → w'.cell? ⟨w.heap.size, 2, none⟩ = some (.int .u64 t)) := fun w' hb => (ocell (K51.of_below hb _ _ O3.out)).2.2.1
  have B3 : Hid (Below we.heap.size we we) := Below.refl _ _
  clear hcl O3
  refine wpAnyH_take (i := 0) (v := ?va1) (by simp; rfl) (by kernel_rfl) (by kernel_rfl) (by kernel_rfl) (fun _ _ _ h => h) (Or.inl ⟨by rfl, ?ya1⟩) hHeld ?ra1
  case ya1 => intro w hSw; clear hSw; go_simp; with_reducible rfl
  simp only [Act.put, List.setIfInBounds_toArray, List.set_cons_zero, List.set_cons_succ]
  refine wpAnyH_take (i := 1) (v := ?va2) (by simp; rfl) (by kernel_rfl) (by kernel_rfl) (by kernel_rfl) (fun _ _ _ h => h) (Or.inl ⟨by rfl, ?ya2⟩) hHeld ?ra2
  case ya2 => intro w hSw; clear hSw; go_simp; with_reducible rfl
  simp only [Act.put, List.setIfInBounds_toArray, List.set_cons_zero, List.set_cons_succ]
  refine wpAnyH_take (i := 2) (v := ?va3) (by simp; rfl) (by kernel_rfl) (by kernel_rfl) (by kernel_rfl) (fun _ _ _ h => h) (Or.inl ⟨by rfl, ?ya3⟩) hHeld ?ra3
  case ya3 => intro w hSw; clear hSw; go_simp; with_reducible rfl
  simp only [Act.put, List.setIfInBounds_toArray, List.set_cons_zero, List.set_cons_succ]
  refine wpAnyH_take (i := 3) (v := ?va4) (by simp; rfl) (by kernel_rfl) (by kernel_rfl) (by kernel_rfl) (fun _ _ _ h => h) (Or.inl ⟨by rfl, ?ya4⟩) hHeld ?ra4
  case ya4 => intro w hSw; clear hSw; go_simp; with_reducible rfl
  simp only [Act.put, List.setIfInBounds_toArray, List.set_cons_zero, List.set_cons_succ]
  refine wpAnyH_take (i := 4) (v := ?va5) (by simp; rfl) (by kernel_rfl) (by kernel_rfl) (by kernel_rfl) (fun _ _ _ h => h) (Or.inl ⟨by rfl, ?ya5⟩) hHeld ?ra5
  case ya5 => intro w hSw; clear hSw; go_simp; with_reducible rfl
  simp only [Act.put, List.setIfInBounds_toArray, List.set_cons_zero, List.set_cons_succ]
  refine wpAnyH_take (i := 5) (v := ?va6) (by simp; rfl) (by kernel_rfl) (by kernel_rfl) (by kernel_rfl) (fun _ _ _ h => h) (Or.inl ⟨by rfl, ?ya6⟩) hHeld ?ra6
  case ya6 => intro w hSw; clear hSw; go_simp; with_reducible rfl
  simp only [Act.put, List.setIfInBounds_toArray, List.set_cons_zero, List.set_cons_succ]
  refine wpAnyH_take (i := 6) (v := ?va7) (by simp; rfl) (by kernel_rfl) (by kernel_rfl) (by kernel_rfl) (fun _ _ _ h => h) (Or.inl ⟨by rfl, ?ya7⟩) hHeld ?ra7
  case ya7 => intro w hSw; clear hSw; go_simp; with_reducible rfl
  simp only [Act.put, List.setIfInBounds_toArray, List.set_cons_zero, List.set_cons_succ]
  refine wpAnyH_take (i := 7) (v := ?va8) (by simp; rfl) (by kernel_rfl) (by kernel_rfl) (by kernel_rfl) (fun _ _ _ h => h) (Or.inl ⟨by rfl, ?ya8⟩) hHeld ?ra8
  case ya8 => intro w hSw; clear hSw; go_simp; with_reducible rfl
  simp only [Act.put, List.setIfInBounds_toArray, List.set_cons_zero, List.set_cons_succ]
  refine wpAnyH_take (i := 8) (v := ?va9) (by simp; rfl) (by kernel_rfl) (by kernel_rfl) (by kernel_rfl) (fun _ _ _ h => h) (Or.inl ⟨by rfl, ?ya9⟩) hHeld ?ra9
  case ya9 => intro w hSw; clear hSw; go_simp; with_reducible rfl
  simp only [Act.put, List.setIfInBounds_toArray, List.set_cons_zero, List.set_cons_succ]
  refine wpAnyH_take (i := 9) (v := ?va10) (by simp; rfl) (by kernel_rfl) (by kernel_rfl) (by kernel_rfl) (fun _ _ _ h => h) (Or.inl ⟨by rfl, ?ya10⟩) hHeld ?ra10
  case ya10 => intro w hSw; clear hSw; go_simp; with_reducible rfl
  simp only [Act.put, List.setIfInBounds_toArray, List.set_cons_zero, List.set_cons_succ]
  refine wpAnyH_take (i := 11) (v := ?va11) (by simp; rfl) (by kernel_rfl) (by kernel_rfl) (by kernel_rfl) (fun _ _ _ h => h) (Or.inl ⟨by rfl, ?ya11⟩) hHeld ?ra11
  case ya11 => intro w hSw; clear hSw; go_simp; with_reducible rfl
  simp only [Act.put, List.setIfInBounds_toArray, List.set_cons_zero, List.set_cons_succ]
  refine wpAnyH_take (i := 12) (v := ?va12) (by simp; rfl) (by kernel_rfl) (by kernel_rfl) (by kernel_rfl) (fun _ _ _ h => h) (Or.inl ⟨by rfl, ?ya12⟩) hHeld ?ra12
  case ya12 => intro w hSw; clear hSw; go_simp; with_reducible rfl
  simp only [Act.put, List.setIfInBounds_toArray, List.set_cons_zero, List.set_cons_succ]
  refine wpAnyH_take (i := 13) (v := ?va13) (by simp; rfl) (by kernel_rfl) (by kernel_rfl) (by kernel_rfl) (fun _ _ _ h => h) (Or.inl ⟨by rfl, ?ya13⟩) hHeld ?ra13
  case ya13 => intro w hSw; clear hSw; go_simp; with_reducible rfl
  simp only [Act.put, List.setIfInBounds_toArray, List.set_cons_zero, List.set_cons_succ]
  refine wpAnyH_take (i := 14) (v := ?va14) (by simp; rfl) (by kernel_rfl) (by kernel_rfl) (by kernel_rfl) (fun _ _ _ h => h) (Or.inl ⟨by rfl, ?ya14⟩) hHeld ?ra14
  case ya14 => intro w hSw; have z := RL.out w hSw; clear hSw; go_simp; with_reducible rfl
  simp only [Act.put, List.setIfInBounds_toArray, List.set_cons_zero, List.set_cons_succ]
  refine wpAnyH_take (i := 15) (v := ?va15) (by simp; rfl) (by kernel_rfl) (by kernel_rfl) (by kernel_rfl) (fun _ _ _ h => h) (Or.inl ⟨by rfl, ?ya15⟩) hHeld ?ra15
  case ya15 => intro w hSw; clear hSw; go_simp; with_reducible rfl
  simp only [Act.put, List.setIfInBounds_toArray, List.set_cons_zero, List.set_cons_succ]
  refine wpAnyH_ready (rs := [10]) (by kernel_rfl) (by simp) ?_
  refine AllReadyH.cons (by simp; rfl) (fun Kc hKc => ?_) AllReadyH.nil
  go_simp
  refine (slen S3.out hj).mono ?_
  rintro e w' ⟨rfl, rfl⟩
  refine hKc.out _ _ B3.out (fun hHeld => ?_)
  clear hKc Kc
  refine wpAnyH_take (i := 16) (v := ?va16) (by simp; rfl) (by kernel_rfl) (by kernel_rfl) (by kernel_rfl) (fun _ _ _ h => h) (Or.inl ⟨by rfl, ?ya16⟩) hHeld ?ra16
  case ya16 => intro w hSw; clear hSw; go_simp; with_reducible rfl
  simp only [Act.put, List.setIfInBounds_toArray, List.set_cons_zero, List.set_cons_succ]
  refine wpAnyH_take (i := 17) (v := ?va17) (by simp; rfl) (by kernel_rfl) (by kernel_rfl) (by kernel_rfl) (fun _ _ _ h => h) (Or.inl ⟨by rfl, ?ya17⟩) hHeld ?ra17
  case ya17 => intro w hSw; clear hSw; go_simp; with_reducible rfl
  simp only [Act.put, List.setIfInBounds_toArray, List.set_cons_zero, List.set_cons_succ]
  refine wpAnyH_take (i := 18) (v := ?va18) (by simp; rfl) (by kernel_rfl) (by kernel_rfl) (by kernel_rfl) (fun _ _ _ h => h) (Or.inl ⟨by rfl, ?ya18⟩) hHeld ?ra18
  case ya18 => intro w hSw; clear hSw; go_simp; with_reducible rfl
  simp only [Act.put, List.setIfInBounds_toArray, List.set_cons_zero, List.set_cons_succ]
  refine wpAnyH_take (i := 19) (v := ?va19) (by simp; rfl) (by kernel_rfl) (by kernel_rfl) (by kernel_rfl) (fun _ _ _ h => h) (Or.inl ⟨by rfl, ?ya19⟩) hHeld ?ra19
  case ya19 => intro w hSw; clear hSw; go_simp; with_reducible rfl
  simp only [Act.put, List.setIfInBounds_toArray, List.set_cons_zero, List.set_cons_succ]
  refine wpAnyH_take (i := 20) (v := ?va20) (by simp; rfl) (by kernel_rfl) (by kernel_rfl) (by kernel_rfl) (fun _ _ _ h => h) (Or.inl ⟨by rfl, ?ya20⟩) hHeld ?ra20
  case ya20 => intro w hSw; clear hSw; go_simp; with_reducible rfl
  simp only [Act.put, List.setIfInBounds_toArray, List.set_cons_zero, List.set_cons_succ]
  refine wpAnyH_take (i := 21) (v := ?va21) (by simp; rfl) (by kernel_rfl) (by kernel_rfl) (by kernel_rfl) (fun _ _ _ h => h) (Or.inl ⟨by rfl, ?ya21⟩) hHeld ?ra21
  case ya21 => intro w hSw; have z := OT.out w hSw; clear hSw; go_simp; with_reducible rfl
  simp only [Act.put, List.setIfInBounds_toArray, List.set_cons_zero, List.set_cons_succ]
  refine wpAnyH_take (i := 23) (v := ?va22) (by simp; rfl) (by kernel_rfl) (by kernel_rfl) (by kernel_rfl) (fun _ _ _ h => h) (Or.inl ⟨by rfl, ?ya22⟩) hHeld ?ra22
  case ya22 => intro w hSw; clear hSw; go_simp; with_reducible rfl
  simp only [Act.put, List.setIfInBounds_toArray, List.set_cons_zero, List.set_cons_succ]
  refine wpAnyH_take (i := 24) (v := ?va23) (by simp; rfl) (by kernel_rfl) (by kernel_rfl) (by kernel_rfl) (fun _ _ _ h => h) (Or.inl ⟨by rfl, ?ya23⟩) hHeld ?ra23
  case ya23 => intro w hSw; clear hSw; go_simp; with_reducible rfl
  simp only [Act.put, List.setIfInBounds_toArray, List.set_cons_zero, List.set_cons_succ]
  refine wpAnyH_take (i := 25) (v := ?va24) (by simp; rfl) (by kernel_rfl) (by kernel_rfl) (by kernel_rfl) (fun _ _ _ h => h) (Or.inl ⟨by rfl, ?ya24⟩) hHeld ?ra24
  case ya24 => intro w hSw; have z := OT.out w hSw; clear hSw; go_simp; with_reducible rfl
  simp only [Act.put, List.setIfInBounds_toArray, List.set_cons_zero, List.set_cons_succ]
  refine wpAnyH_ready (rs := [22]) (by kernel_rfl) (by simp) ?_
  refine AllReadyH.cons (by simp; rfl) (fun Kc hKc => ?_) AllReadyH.nil
  go_simp
  refine (splace S3.out hn hj t).mono ?_
  rintro e w5 ⟨rfl, b5⟩
  have B5 : Hid (Below we.heap.size we w5) := below_then B3.out b5
  have S5 : Hid (St w0 w5 P Q v X Y kv ks n) := S3.out.later b5
  clear b5
  refine hKc.out _ _ B5.out (fun hHeld => ?_)
  clear hKc Kc
  refine wpAnyH_ready (rs := [26]) (by kernel_rfl) (by simp) ?_
  refine AllReadyH.cons (by simp; rfl) (fun Kc hKc => ?_) AllReadyH.nil
  go_simp
  refine (srplace S5.out hn hj t).mono ?_
  rintro e w' ⟨rfl, rfl⟩
  refine hKc.out _ _ B5.out (fun hHeld => ?_)
  clear hKc Kc
  refine wpAnyH_take (i := 27) (v := ?va25) (by simp; rfl) (by kernel_rfl) (by kernel_rfl) (by kernel_rfl) (fun _ _ _ h => h) (Or.inl ⟨by rfl, ?ya25⟩) hHeld ?ra25
  case ya25 => intro w hSw; clear hSw; go_simp; with_reducible rfl
  simp only [Act.put, List.setIfInBounds_toArray, List.set_cons_zero, List.set_cons_succ]
  refine wpAnyH_take (i := 28) (v := ?va26) (by simp; rfl) (by kernel_rfl) (by kernel_rfl) (by kernel_rfl) (fun _ _ _ h => h) (Or.inl ⟨by rfl, ?ya26⟩) hHeld ?ra26
  case ya26 => intro w hSw; clear hSw; go_simp; with_reducible rfl
  simp only [Act.put, List.setIfInBounds_toArray, List.set_cons_zero, List.set_cons_succ]
  refine wpAnyH_take (i := 29) (v := ?va27) (by simp; rfl) (by kernel_rfl) (by kernel_rfl) (by kernel_rfl) (fun _ _ _ h => h) (Or.inl ⟨by rfl, ?ya27⟩) hHeld ?ra27
  case ya27 => intro w hSw; clear hSw; go_simp; with_reducible rfl
  simp only [Act.put, List.setIfInBounds_toArray, List.set_cons_zero, List.set_cons_succ]
  clear hHeld
  refine wpAnyH_done (by kernel_rfl) (NoPanic.normal ?_) _
  go_wp2_with fail
  go_ret
  exact ⟨rfl, S5.out.next (Below.refl _ _)⟩
end Go.Proofs.Ytmmmgknlbkckdaa
