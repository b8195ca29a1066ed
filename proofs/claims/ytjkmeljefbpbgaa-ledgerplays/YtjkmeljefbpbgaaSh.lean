/-
  Layer 12: plays: Copy.
-/
import Derived.Test.YtjkmeljefbpbgaaSc
namespace Go.Proofs.Ytjkmeljefbpbgaa
open Go.RowKit

variable {w0 w w' : World} {P : Nat} {T : Nat → Th} {S : Nat → Lg} {N : Nat}
variable {j kk : Nat}
/-- what stands, and a family that is to stand -/
structure CC (w0 w : World) (P : Nat) (T : Nat → Th) (S : Nat → Lg) (N : Nat) (T2 : Nat → Th) : Prop where
  st : St w0 w P T S N
  fam : Fam w0 w T2
theorem c_copy (h : St w0 w P T S N) (hj : j < 2) (hk : kk = 1 - j) : Calls Try.prog 17 #[lp (T j).ptr] w fun e w' => ∃ Q1 b1 n1, e = .returned (lp Q1) ∧ (CC w0 w' P T S N (put T kk (.led Q1 b1 n1 (S j))) ∧ n1 ≤ N) ∧ KO w w' := by
  obtain ⟨Q, b, n, e, hn, hl, hp⟩ := h.l hj
  rw [hp]
  refine (copy_at hl).mono fun _ w' ⟨h1, h2, h3⟩ => ⟨w.heap.size, w.heap.size + 1, n, h1, ⟨⟨h.later h3, h.ps.fam.turn (by omega) (t := .led w.heap.size (w.heap.size + 1) n (S j)) h2 (Kept.of_below _ h3) (fun b hb => ?_) h.ps.below.size⟩, hn⟩, KO.of_below h3⟩
  rcases hb with rfl | rfl
  · exact .inr (Nat.le_refl _)
  · exact .inr (Nat.le_succ _)
/-- both are copied -/
structure C2 (w0 w : World) (P : Nat) (T : Nat → Th) (S : Nat → Lg) (N j kk Q1 R1 : Nat) : Prop where
  st : St w0 w P T S N
  fam : ∃ b1 n1 v1 rec gone ps K, Fam w0 w (put (put T kk (.led Q1 b1 n1 (S j))) (kk + 2) (.ref R1 v1 (S j) rec gone ps K)) ∧ n1 ≤ N ∧ K ≤ N
theorem c_rcopy {Q1 b1 n1 : Nat} (h : CC w0 w P T S N (put T kk (.led Q1 b1 n1 (S j))) ∧ n1 ≤ N) (hN : N ≤ 1000) (hj : j < 2) (hk : kk = 1 - j) : Calls Try.prog 26 #[lp (T (j + 2)).ptr] w fun e w' => ∃ R1, e = .returned (lp R1) ∧ C2 w0 w' P T S N j kk Q1 R1 ∧ KO w w' := by
  obtain ⟨R, v, rec, gone, ps, K, e, hK, hr, hpr⟩ := h.1.st.r hj
  rw [hpr]
  refine (rcopy_at hr (by omega) h.1.st.ps.below.size).mono fun _ w' ⟨v1, h1, h2, h3, h4⟩ => ⟨w.heap.size, h1, ⟨h.1.st.later h3, b1, n1, v1, rec, gone, ps, K, h.1.fam.turn (by omega) (t := .ref w.heap.size v1 (S j) rec gone ps K) h2 (Kept.of_below _ h3) (fun b hb => ?_) h.1.st.ps.below.size, h.2, hK⟩, KO.of_below h3⟩
  rcases hb with rfl | hb
  · exact .inr (Nat.le_refl _)
  · exact .inr (Nat.le_of_lt (h4 b hb))
theorem Fam.far (h : Fam w0 w T) {b : Nat} {cur : Array Value} (hb : w.heap[b]? = some (.cells cur 48 (0, 0))) (hk : Kept (· = b) w w') : Fam w0 w' T :=
  ⟨fun i hi => Th.kept (h.at' i hi) fun x hx => hk.block x (Th.lt (h.at' i hi) hx) fun e => Th.not (h.at' i hi) hb (by decide) (by decide) (by decide) (e ▸ hx), h.lo, h.apart⟩
theorem C2.set1 {Q1 R1 : Nat} (h : C2 w0 w P T S N j kk Q1 R1) (hj : j < 2) (hk : kk = 1 - j) :
    w.cell? ⟨P, kk, none⟩ = some (lp (T kk).ptr) ∧ w.frozen? ⟨P, kk, none⟩ = false ∧ (w.setCell ⟨P, kk, none⟩ (lp Q1)).cell? ⟨P, 2 + kk, none⟩ = some (lp (T (kk + 2)).ptr) ∧ (w.setCell ⟨P, kk, none⟩ (lp Q1)).frozen? ⟨P, 2 + kk, none⟩ = false ∧
      Hid (Next w0 ((w.setCell ⟨P, kk, none⟩ (lp Q1)).setCell ⟨P, 2 + kk, none⟩ (lp R1)) P (N + 1) ∧ ((w.setCell ⟨P, kk, none⟩ (lp Q1)).setCell ⟨P, 2 + kk, none⟩ (lp R1)).cell? ⟨P, kk, none⟩ = some (lp Q1)) ∧ KO w ((w.setCell ⟨P, kk, none⟩ (lp Q1)).setCell ⟨P, 2 + kk, none⟩ (lp R1)) := by
  obtain ⟨hs, b1, n1, v1, rec, gone, ps, K, hf, hn1, hK⟩ := h
  have hp := hs.ps.pr
  have hkl : kk < 2 := by omega
  have hk01 : (kk = 0 ∧ j = 1) ∨ (kk = 1 ∧ j = 0) := by omega
  have k1 := Kept.setCell (w := w) P kk (lp Q1)
  have k2 := Kept.setCell (w := w.setCell ⟨P, kk, none⟩ (lp Q1)) P (2 + kk) (lp R1)
  have kp : Kept (· = P) w ((w.setCell ⟨P, kk, none⟩ (lp Q1)).setCell ⟨P, 2 + kk, none⟩ (lp R1)) := k1.trans k2 fun _ _ e => e
  have p1 := st_set kk (lp Q1) hp
  have p2 := st_set (2 + kk) (lp R1) p1
  have hpc : pcs (put (put T kk (.led Q1 b1 n1 (S j))) (kk + 2) (.ref R1 v1 (S j) rec gone ps K)) = ((pcs T).setIfInBounds kk (lp Q1)).setIfInBounds (2 + kk) (lp R1) := by
    rcases hk01 with ⟨rfl, rfl⟩ | ⟨rfl, rfl⟩ <;> rfl
  refine ⟨hs.ps.cl hkl, hs.ps.free kk, ?_, by simp [World.frozen?, p1], ⟨⟨_, put S kk (S j), ⟨hf.far hp kp, by rw [p2, hpc], hs.ps.plo, kp.into hs.ps.below (fun b hb e => by have := hs.ps.plo; omega) (Nat.le_refl _)⟩, fun i hi => ?_, fun i hi => ?_, fun i hi => ?_⟩, ?_⟩, fun b cur hx => ?_⟩
  · rw [cell_of_row _ P (2 + kk) _ 48 (0, 0) p1]
    rcases hk01 with ⟨rfl, _⟩ | ⟨rfl, _⟩ <;> rfl
  · rw [put_other _ _ (by omega)]
    by_cases e : i = kk
    · subst e
      rw [put_same, put_same]
      exact ⟨_, _, _, rfl, Nat.le_succ_of_le hn1⟩
    · rw [put_other _ _ e, put_other _ _ e]
      obtain ⟨Q, b, n, e3, hn⟩ := hs.led i hi
      exact ⟨Q, b, n, e3, Nat.le_succ_of_le hn⟩
  · by_cases e : i = kk
    · subst e
      rw [put_same, put_same]
      exact ⟨_, _, _, _, _, _, rfl, Nat.le_succ_of_le hK⟩
    · rw [put_other _ _ (by omega), put_other _ _ (by omega), put_other _ _ e]
      obtain ⟨R, v, rec, gone, ps, K, e3, hK⟩ := hs.ref i hi
      exact ⟨R, v, rec, gone, ps, K, e3, Nat.le_succ_of_le hK⟩
  · by_cases e : i = kk
    · subst e; rw [put_same]; exact hs.ok j hj
    · rw [put_other _ _ e]; exact hs.ok i hi
  · rw [cell_of_row _ P kk _ 48 (0, 0) p2]
    rcases hk01 with ⟨rfl, _⟩ | ⟨rfl, _⟩ <;> rfl
  · refine (kp.block b (Array.getElem?_eq_some_iff.1 hx).1 fun e => ?_).trans hx
    subst e
    rw [hp] at hx
    simp at hx

set_option maxRecDepth 100000 in
set_option maxHeartbeats 4000000 in
theorem plays_copy (h : St w0 w P T S N) (hN : N < 1000) (wh t k : Int) (ht : U64 t) :
    Calls Try.prog 19 #[lp P, .agg #[.int .i64 5, .int .i64 wh, .int .u64 t, .int .i64 k]] w fun e w' => e = .returned (.bool true) ∧ Next w0 w' P (N + 1) := by
  have S0 : Hid (St w0 w P T S N) := h
  clear h
  have t2 := tmod2 wh
  have e2 := sl2_is wh
  have hj := sl2_lt wh
  go_enter Try.func19, Try.ntmps19
  go_wp2_with fail
  rw [e2]
  have HB : Hid (Below w.heap.size w (w.alloc (.cells #[.int .i64 5, .int .i64 wh, .int .u64 t, .int .i64 k] 32)) ∧ (w.alloc (.cells #[.int .i64 5, .int .i64 wh, .int .u64 t, .int .i64 k] 32)).heap[w.heap.size]? = some (.cells (ocells 5 wh t k) 32 (0, 0))) := ⟨below_alloc w _, heap_alloc_new w _⟩
  clear t2 e2
  revert HB hj
  generalize sl2 wh = j
  generalize w.alloc (.cells #[.int .i64 5, .int .i64 wh, .int .u64 t, .int .i64 k] 32) = w1
  intro hj HB
  have S1 : Hid (St w0 w1 P T S N) := S0.out.later HB.out.1
  have O1 : Hid (w1.heap[w.heap.size]? = some (.cells (ocells 5 wh t k) 32 (0, 0))) := HB.out.2
  clear HB S0
  have c0 := S1.out.ps.cl hj
  have c1 := S1.out.ps.cr hj
  have d0 : w1.drew.cell? ⟨P, j, none⟩ = some (lp (T j).ptr) := c0
  have d1 : w1.drew.cell? ⟨P, 2 + j, none⟩ = some (lp (T (j + 2)).ptr) := c1
  have i1 : (j : Int) < 2 := by omega
  go_quiet (fail)
  have S2 : Hid (St w0 (w1.drewN nq) P T S N) := S1.out.later (below_drawn nq)
  have O2 : Hid ((w1.drewN nq).heap[w.heap.size]? = some (.cells (ocells 5 wh t k) 32 (0, 0))) := O1.out
  clear c0 c1 d0 d1 S1 O1
  revert S2 O2
  generalize w1.drewN nq = wd
  intro S2 O2
  have o0 := (ocell O2.out).1
  obtain ⟨kk, hk⟩ : ∃ kk, kk = 1 - j := ⟨_, rfl⟩
  have hkw : IntKind.i64.wrap (1 - (j : Int)) = (kk : Int) := by rw [IntKind.wrap_i64]; omega
  have hk2 : (kk : Int) < 2 := by omega
  have HK : Hid (kk = 1 - j) := hk
  clear i1 hk
  go_wp2_with fail
  refine wp_region_noPanic ?_
  refine wp_region_held_drew (S := fun _ => True) (by kernel_rfl) trivial (fun hHeld => ?_)
  have S3 : Hid (St w0 wd.drew P T S N) := S2.out.later (below_drawn 1)
  clear S2 o0
  change Hid (wd.drew.heap[w.heap.size]? = _) at O2
  generalize wd.drew = we at *
  refine wpAnyH_take (i := 0) (v := ?va1) (by simp; rfl) (by kernel_rfl) (by kernel_rfl) (by kernel_rfl) (fun _ _ _ h => h) (Or.inl ⟨by rfl, ?ya1⟩) hHeld ?ra1
  case ya1 => intro w hSw; clear hSw; go_simp; with_reducible rfl
  simp only [Act.put, List.setIfInBounds_toArray, List.set_cons_zero, List.set_cons_succ]
  refine wpAnyH_take (i := 1) (v := ?va2) (by simp; rfl) (by kernel_rfl) (by kernel_rfl) (by kernel_rfl) (fun _ _ _ h => h) (Or.inl ⟨by rfl, ?ya2⟩) hHeld ?ra2
  case ya2 => intro w hSw; clear hSw; go_simp; with_reducible rfl
  simp only [Act.put, List.setIfInBounds_toArray, List.set_cons_zero, List.set_cons_succ]
  refine wpAnyH_take (i := 2) (v := ?va3) (by simp; rfl) (by kernel_rfl) (by kernel_rfl) (by kernel_rfl) (fun _ _ _ h => h) (Or.inl ⟨by rfl, ?ya3⟩) hHeld ?ra3
  case ya3 => intro w hSw; clear hSw; go_simp; with_reducible rfl
  simp only [Act.put, List.setIfInBounds_toArray, List.set_cons_zero, List.set_cons_succ]
  refine wpAnyH_take (i := 3) (v := ?va4) (by simp; rfl) (by kernel_rfl) (by kernel_rfl) (by kernel_rfl) (fun _ _ _ h => h) (Or.inl ⟨by rfl, ?ya4⟩) hHeld ?ra4
  case ya4 => intro w hSw; clear hSw; go_simp; with_reducible rfl
  simp only [Act.put, List.setIfInBounds_toArray, List.set_cons_zero, List.set_cons_succ]
  refine wpAnyH_take (i := 4) (v := ?va5) (by simp; rfl) (by kernel_rfl) (by kernel_rfl) (by kernel_rfl) (fun _ _ _ h => h) (Or.inl ⟨by rfl, ?ya5⟩) hHeld ?ra5
  case ya5 => intro w hSw; clear hSw; go_simp; with_reducible rfl
  simp only [Act.put, List.setIfInBounds_toArray, List.set_cons_zero, List.set_cons_succ]
  refine wpAnyH_take (i := 5) (v := ?va6) (by simp; rfl) (by kernel_rfl) (by kernel_rfl) (by kernel_rfl) (fun _ _ _ h => h) (Or.inl ⟨by rfl, ?ya6⟩) hHeld ?ra6
  case ya6 => intro w hSw; clear hSw; go_simp; with_reducible rfl
  simp only [Act.put, List.setIfInBounds_toArray, List.set_cons_zero, List.set_cons_succ]
  refine wpAnyH_take (i := 6) (v := ?va7) (by simp; rfl) (by kernel_rfl) (by kernel_rfl) (by kernel_rfl) (fun _ _ _ h => h) (Or.inl ⟨by rfl, ?ya7⟩) hHeld ?ra7
  case ya7 => intro w hSw; clear hSw; go_simp; with_reducible rfl
  simp only [Act.put, List.setIfInBounds_toArray, List.set_cons_zero, List.set_cons_succ]
  refine wpAnyH_take (i := 8) (v := ?va8) (by simp; rfl) (by kernel_rfl) (by kernel_rfl) (by kernel_rfl) (fun _ _ _ h => h) (Or.inl ⟨by rfl, ?ya8⟩) hHeld ?ra8
  case ya8 => intro w hSw; clear hSw; go_simp; with_reducible rfl
  simp only [Act.put, List.setIfInBounds_toArray, List.set_cons_zero, List.set_cons_succ]
  refine wpAnyH_take (i := 10) (v := ?va9) (by simp; rfl) (by kernel_rfl) (by kernel_rfl) (by kernel_rfl) (fun _ _ _ h => h) (Or.inl ⟨by rfl, ?ya9⟩) hHeld ?ra9
  case ya9 => intro w hSw; clear hSw; go_simp; with_reducible rfl
  simp only [Act.put, List.setIfInBounds_toArray, List.set_cons_zero, List.set_cons_succ]
  refine wpAnyH_take (i := 11) (v := ?va10) (by simp; rfl) (by kernel_rfl) (by kernel_rfl) (by kernel_rfl) (fun _ _ _ h => h) (Or.inl ⟨by rfl, ?ya10⟩) hHeld ?ra10
  case ya10 => intro w hSw; clear hSw; go_simp; with_reducible rfl
  simp only [Act.put, List.setIfInBounds_toArray, List.set_cons_zero, List.set_cons_succ]
  refine wpAnyH_take (i := 14) (v := ?va11) (by simp; rfl) (by kernel_rfl) (by kernel_rfl) (by kernel_rfl) (fun _ _ _ h => h) (Or.inl ⟨by rfl, ?ya11⟩) hHeld ?ra11
  case ya11 => intro w hSw; clear hSw; go_simp; with_reducible rfl
  simp only [Act.put, List.setIfInBounds_toArray, List.set_cons_zero, List.set_cons_succ]
  refine wpAnyH_take (i := 15) (v := ?va12) (by simp; rfl) (by kernel_rfl) (by kernel_rfl) (by kernel_rfl) (fun _ _ _ h => h) (Or.inl ⟨by rfl, ?ya12⟩) hHeld ?ra12
  case ya12 => intro w hSw; clear hSw; go_simp; with_reducible rfl
  simp only [Act.put, List.setIfInBounds_toArray, List.set_cons_zero, List.set_cons_succ]
  refine wpAnyH_ready (rs := [7]) (by kernel_rfl) (by simp) ?_
  refine AllReadyH.cons (by simp; rfl) (fun Kc hKc => ?_) AllReadyH.nil
  go_simp
  refine (c_copy S3.out hj HK.out).mono ?_
  rintro e w4 ⟨Q1, b1, n1, rfl, h4, k4⟩
  have A4 : Hid (CC w0 w4 P T S N (put T kk (.led Q1 b1 n1 (S j))) ∧ n1 ≤ N) := h4
  have O4 := k4 _ _ O2.out
  clear h4 k4
  refine hKc.out _ _ trivial (fun hHeld => ?_)
  clear hKc Kc
  refine wpAnyH_ready (rs := [9]) (by kernel_rfl) (by simp) ?_
  refine AllReadyH.cons (by simp; rfl) (fun Kc hKc => ?_) AllReadyH.nil
  go_simp
  refine (c_rcopy A4.out (by omega) hj HK.out).mono ?_
  rintro e w5 ⟨R1, rfl, h5, k5⟩
  have A5 : Hid (C2 w0 w5 P T S N j kk Q1 R1) := h5
  have O5 := k5 _ _ O4
  obtain ⟨c1, f1, c2, f2, A6, k6⟩ := A5.out.set1 hj HK.out
  have O6 : Hid (((w5.setCell ⟨P, kk, none⟩ (lp Q1)).setCell ⟨P, 2 + kk, none⟩ (lp R1)).heap[w.heap.size]? = some (.cells (ocells 5 wh t k) 32 (0, 0))) := k6 _ _ O5
  clear h5 k5 A4 k6
  refine hKc.out _ _ trivial (fun hHeld => ?_)
  clear hKc Kc
  refine wpAnyH_take (i := 12) (v := ?va13) (by simp; rfl) (by kernel_rfl) (by kernel_rfl) (by kernel_rfl) (fun _ _ _ h => h) (Or.inl ⟨by rfl, ?ya13⟩) hHeld ?ra13
  case ya13 => intro w hSw; clear hSw; go_simp; with_reducible rfl
  simp only [Act.put, List.setIfInBounds_toArray, List.set_cons_zero, List.set_cons_succ]
  refine wpAnyH_ready (rs := [13]) (by kernel_rfl) (by simp) ?_
  refine AllReadyH.cons (by simp; rfl) (fun Kc hKc => ?_) AllReadyH.nil
  go_simp
  refine hKc.out _ _ trivial (fun hHeld => ?_)
  clear hKc Kc
  refine wpAnyH_take (i := 16) (v := ?va14) (by simp; rfl) (by kernel_rfl) (by kernel_rfl) (by kernel_rfl) (fun _ _ _ h => h) (Or.inl ⟨by rfl, ?ya14⟩) hHeld ?ra14
  case ya14 => intro w hSw; clear hSw; go_simp; with_reducible rfl
  simp only [Act.put, List.setIfInBounds_toArray, List.set_cons_zero, List.set_cons_succ]
  refine wpAnyH_ready (rs := [17]) (by kernel_rfl) (by simp) ?_
  refine AllReadyH.cons (by simp; rfl) (fun Kc hKc => ?_) AllReadyH.nil
  go_simp
  refine hKc.out _ _ trivial (fun hHeld => ?_)
  clear hKc Kc
  clear hHeld
  refine wpAnyH_done (by kernel_rfl) (NoPanic.normal ?_) _
  clear c1 f1 c2 f2 A5 S3 O2 O4 O5
  generalize ((w5.setCell ⟨P, kk, none⟩ (lp Q1)).setCell ⟨P, 2 + kk, none⟩ (lp R1)) = w6 at *
  have H4 : Hid (Next w0 w6 P (N + 1)) := A6.out.1
  have c6 := A6.out.2
  clear A6
  have e3 : (1 : Int) - (j : Int) = (kk : Int) := by have := HK.out; omega
  have z0 := (ocell O6.out).1
  have z1 := (ocell O6.out).2.1
  have z2 := (ocell O6.out).2.2.1
  have z3 := (ocell O6.out).2.2.2
  go_wp2_with fail
  refine (same_0 H4.out (by omega) 5 wh t k ht).mono ?_
  rintro e w8 ⟨rfl, h8⟩
  have H8 : Hid (Next w0 w8 P (N + 1)) := H4.out.later h8
  have O8 : Hid (w8.heap[w.heap.size]? = some (.cells (ocells 5 wh t k) 32 (0, 0))) := KO.of_below h8 _ _ O6.out
  clear h8 z0 z1 z2 z3 H4 O6
  have z0 := (ocell O8.out).1
  have z1 := (ocell O8.out).2.1
  have z2 := (ocell O8.out).2.2.1
  have z3 := (ocell O8.out).2.2.2
  go_wp2_with fail
  refine (same_1 H8.out (by omega) 5 wh t k ht).mono ?_
  rintro e w9 ⟨rfl, h9⟩
  have H9 : Hid (Next w0 w9 P (N + 1)) := H8.out.later h9
  clear h9 z0 z1 z2 z3 H8 O8
  go_wp2_with fail
  go_ret
  exact ⟨rfl, H9.out⟩
end Go.Proofs.Ytjkmeljefbpbgaa
