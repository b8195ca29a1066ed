/-
  Layer 11: plays: Copy.
-/
import Derived.Test.YtmmmgknlbkckdaaTt
import Derived.Deep.RegionHeld3
import Derived.LaidMore
import Derived.BigQuiet
namespace Go.Proofs.Ytmmmgknlbkckdaa
open Go.RowKit

variable {w0 w w' : World} {P : Nat} {Q : Nat → Nat} {v : Nat → Value} {X : Nat → List Int} {Y : Nat → Int} {kv : Value} {ks : List (Nat × Nat)} {n : Nat}
variable {j k : Nat}
def sel (j : Nat) (ks : List (Nat × Nat)) : List (Nat × Nat) := ks.filter fun x => x.1 == j
theorem sel_succ {r : Nat} (hr : r < ks.length) : sel j (ks.take (r + 1)) = if ks[r].1 = j then sel j (ks.take r) ++ [ks[r]] else sel j (ks.take r) := by
  unfold sel
  rw [List.take_succ_eq_append_getElem hr, List.filter_append]
  by_cases h : ks[r].1 = j
  · rw [if_pos h]; congr 1; simp [h]
  · rw [if_neg h]; simp [h]
theorem sel_len (j : Nat) (ks : List (Nat × Nat)) : (sel j ks).length ≤ ks.length := List.length_filter_le _ _

/-- behind the program's Copy -/
structure C1 (w0 w : World) (P : Nat) (Q : Nat → Nat) (v : Nat → Value) (X : Nat → List Int) (Y : Nat → Int) (kv : Value) (ks : List (Nat × Nat)) (n j Q1 : Nat) (v1 : Value) : Prop where
  st : St w0 w P Q v X Y kv ks n
  jl : j < 2
  fam : Fam w0 w (put Q (1 - j) Q1) (put v (1 - j) v1) (put X (1 - j) (X j)) (put Y (1 - j) (Y j))
theorem St.c1 (h : St w0 w P Q v X Y kv ks n) (hj : j < 2) {Q1 : Nat} {v1 : Value} (q1 : QAt 28 w' Q1 v1 (X j) (Y j)) (l1 : w.heap.size ≤ Q1) (g1 : ∀ g, blk v1 = some g → w.heap.size ≤ g) (b1 : Below w.heap.size w w') : C1 w0 w' P Q v X Y kv ks n j Q1 v1 :=
  ⟨h.later b1, hj, h.ps.fam.swap (i := 1 - j) (by omega) (by rw [qty_lo (by omega)]; exact q1) l1 g1 b1 h.ps.below.size⟩
theorem C1.rat {Q1 : Nat} {v1 : Value} (h : C1 w0 w P Q v X Y kv ks n j Q1 v1) : QAt 44 w (Q (j + 2)) (v (j + 2)) (X j) (Y j) := h.st.rat h.jl
/-- behind both -/
structure C2 (w0 w : World) (P : Nat) (Q : Nat → Nat) (v : Nat → Value) (X : Nat → List Int) (Y : Nat → Int) (kv : Value) (ks : List (Nat × Nat)) (n j k Q1 Q2 : Nat) (v1 v2 : Value) : Prop where
  st : St w0 w P Q v X Y kv ks n
  jl : j < 2
  kj : k = 1 - j
  fam : Fam w0 w (put (put Q k Q1) (k + 2) Q2) (put (put v k v1) (k + 2) v2) (put (put X k (X j)) (k + 2) (X j)) (put (put Y k (Y j)) (k + 2) (Y j))
theorem C1.c2 {Q1 Q2 : Nat} {v1 v2 : Value} (h : C1 w0 w P Q v X Y kv ks n j Q1 v1) (hk : k = 1 - j) (q2 : QAt 44 w' Q2 v2 (X j) (Y j)) (l2 : w.heap.size ≤ Q2) (g2 : ∀ g, blk v2 = some g → w.heap.size ≤ g) (b2 : Below w.heap.size w w') :
    w'.cell? ⟨P, k, none⟩ = some (qp (Q k)) ∧ w'.frozen? ⟨P, k, none⟩ = false ∧ Hid (C2 w0 w' P Q v X Y kv ks n j k Q1 Q2 v1 v2) := by
  have hs := h.st.later b2
  have hkl : k < 2 := by omega
  refine ⟨hs.ps.cq hkl, hs.ps.free k, hs, h.jl, hk, ?_⟩
  subst hk
  exact h.fam.swap (i := 1 - j + 2) (by omega) (by rw [qty_hi hkl]; exact q2) l2 g2 b2 h.st.ps.below.size
/-- behind the stores: the queues are changed, what was kept is the same -/
structure Cp (w0 w : World) (P : Nat) (Q : Nat → Nat) (v : Nat → Value) (X : Nat → List Int) (Y : Nat → Int) (kv : Value) (ks : List (Nat × Nat)) (n j : Nat) : Prop where
  fam : Fam w0 w Q v X Y
  pr : w.heap[P]? = some (.cells #[qp (Q 0), qp (Q 1), qp (Q 2), qp (Q 3), kv] 48 (0, 0))
  plo : w0.heap.size ≤ P
  kept : w.ownsRow w0.heap.size 55 2 kv ks.length (kcells ks)
  box : ∀ x ∈ ks, x.1 = j → Boxed w x.2 25 (qp (Q j))
  below : Below w0.heap.size w0 w
  same : ∀ i, i < 2 → X (i + 2) = X i ∧ Y (i + 2) = Y i
  up : ∀ i, i < 2 → Up (X i) (Y i)
  len : ∀ i, i < 2 → (X i).length ≤ n
  klen : ks.length ≤ n
theorem Cp.later (h : Cp w0 w P Q v X Y kv ks n j) (hb : Below w.heap.size w w') : Cp w0 w' P Q v X Y kv ks n j :=
  ⟨h.fam.later hb, (hb.block P (Array.getElem?_eq_some_iff.1 h.pr).1).trans h.pr, h.plo, ownsRow_keeps h.kept fun g _ e => hb.block g (Array.getElem?_eq_some_iff.1 e).1, fun x hx e => (hb.block x.2 (h.box x hx e).lt).trans (h.box x hx e), below_then h.below hb, h.same, h.up, h.len, h.klen⟩
theorem Cp.ck (h : Cp w0 w P Q v X Y kv ks n j) : w.cell? ⟨P, 4, none⟩ = some kv := by
  rw [cell_of_row _ P 4 _ 48 (0, 0) h.pr]; rfl
theorem Cp.free (h : Cp w0 w P Q v X Y kv ks n j) (o : Nat) : w.frozen? ⟨P, o, none⟩ = false := by simp [World.frozen?, h.pr]
def CpN (w0 w : World) (P : Nat) (kv : Value) (ks : List (Nat × Nat)) (n j : Nat) : Prop := ∃ Q v X Y, Cp w0 w P Q v X Y kv ks n j
theorem C2.set1 {Q1 Q2 : Nat} {v1 v2 : Value} (h : C2 w0 w P Q v X Y kv ks n j k Q1 Q2 v1 v2) :
    (w.setCell ⟨P, k, none⟩ (qp Q1)).cell? ⟨P, 2 + k, none⟩ = some (qp (Q (k + 2))) ∧ (w.setCell ⟨P, k, none⟩ (qp Q1)).frozen? ⟨P, 2 + k, none⟩ = false ∧ Hid (CpN w0 ((w.setCell ⟨P, k, none⟩ (qp Q1)).setCell ⟨P, 2 + k, none⟩ (qp Q2)) P kv ks n j) := by
  obtain ⟨hs, hj, hk, hf⟩ := h
  have hp := hs.ps.pr
  have np : ∀ (b : Nat) (cur : Array Value) (t : TypeId), w.heap[b]? = some (.cells cur t (0, 0)) → t ≠ 48 → b ≠ P := fun b cur t hx hne e => by
    subst e
    rw [hp] at hx
    simp only [Option.some.injEq, Obj.cells.injEq] at hx
    exact hne hx.2.1.symm
  have k1 := Kept.setCell (w := w) P k (qp Q1)
  have k2 := Kept.setCell (w := w.setCell ⟨P, k, none⟩ (qp Q1)) P (2 + k) (qp Q2)
  have kk : Kept (· = P) w ((w.setCell ⟨P, k, none⟩ (qp Q1)).setCell ⟨P, 2 + k, none⟩ (qp Q2)) := k1.trans k2 fun _ _ e => e
  have p1 : (w.setCell ⟨P, k, none⟩ (qp Q1)).heap[P]? = some (.cells (#[qp (Q 0), qp (Q 1), qp (Q 2), qp (Q 3), kv].setIfInBounds k (qp Q1)) 48 (0, 0)) := by
    rw [setCell_eq_setRow w P k _ 48 (0, 0) _ hp]
    exact setRow_heap w P _ _ 48 _ hp
  have p2 : ((w.setCell ⟨P, k, none⟩ (qp Q1)).setCell ⟨P, 2 + k, none⟩ (qp Q2)).heap[P]? = some (.cells ((#[qp (Q 0), qp (Q 1), qp (Q 2), qp (Q 3), kv].setIfInBounds k (qp Q1)).setIfInBounds (2 + k) (qp Q2)) 48 (0, 0)) := by
    rw [setCell_eq_setRow _ P (2 + k) _ 48 (0, 0) _ p1]
    exact setRow_heap _ P _ _ 48 _ p1
  have hkl : k < 2 := by omega
  have hk01 : (k = 0 ∧ j = 1) ∨ (k = 1 ∧ j = 0) := by omega
  have ej : put (put X k (X j)) (k + 2) (X j) j = X j := by unfold put; rw [if_neg (by omega), if_neg (by omega)]
  have ek : put (put X k (X j)) (k + 2) (X j) k = X j := by unfold put; rw [if_neg (by omega), if_pos rfl]
  have ejy : put (put Y k (Y j)) (k + 2) (Y j) j = Y j := by unfold put; rw [if_neg (by omega), if_neg (by omega)]
  have eky : put (put Y k (Y j)) (k + 2) (Y j) k = Y j := by unfold put; rw [if_neg (by omega), if_pos rfl]
  have two : ∀ i, i < 2 → i = j ∨ i = k := by omega
  refine ⟨?_, by simp [World.frozen?, p1], ⟨_, _, _, _, hf.far kk fun b cur t hx ht => np b cur t hx (by rcases ht with rfl | rfl | rfl <;> decide), ?_, hs.ps.plo, ownsRow_keeps hs.ps.kept fun g cur e => kk.block g (Array.getElem?_eq_some_iff.1 e).1 (np g cur 55 e (by decide)), fun x hx e => ?_, kk.into hs.ps.below (fun b hb e => by have := hs.ps.plo; omega) (Nat.le_refl _), fun i hi => ⟨put_two X hkl hi _ fun i hi => (hs.same i hi).1, put_two Y hkl hi _ fun i hi => (hs.same i hi).2⟩, fun i hi => ?_, fun i hi => ?_, hs.klen⟩⟩
  · rw [cell_of_row _ P (2 + k) _ 48 (0, 0) p1]
    rcases hk01 with ⟨rfl, _⟩ | ⟨rfl, _⟩ <;> rfl
  · rw [p2]
    rcases hk01 with ⟨rfl, _⟩ | ⟨rfl, _⟩ <;> rfl
  · have hb := (hs.ps.box x hx).2
    rw [e] at hb
    have eq : put (put Q k Q1) (k + 2) Q2 j = Q j := by unfold put; rw [if_neg (by omega), if_neg (by omega)]
    rw [eq]
    exact (kk.block x.2 hb.lt (np _ _ _ hb (by decide))).trans hb
  · rcases two i hi with rfl | rfl
    · rw [ej, ejy]; exact hs.up _ hj
    · rw [ek, eky]; exact hs.up _ hj
  · rcases two i hi with rfl | rfl
    · rw [ej]; exact hs.len _ hj
    · rw [ek]; exact hs.len _ hj
theorem Cp.done (h : Cp w0 w P Q v X Y kv ks n j) (hj : j < 2) {u : Value} {B : Nat} (hB : w0.heap.size ≤ B) (ho : w.ownsRow B 55 2 u (sel j ks).length (kcells (sel j ks))) (hk : k < 2) :
    (∃ q, (w.setCell ⟨P, 4, none⟩ u).cell? ⟨P, k, none⟩ = some (qp q)) ∧ Hid (Next w0 (w.setCell ⟨P, 4, none⟩ u) P (n + 1)) := by
  have np : ∀ (b : Nat) (cur : Array Value) (t : TypeId), w.heap[b]? = some (.cells cur t (0, 0)) → t ≠ 48 → b ≠ P := fun b cur t hx hne e => by
    subst e
    rw [h.pr] at hx
    simp only [Option.some.injEq, Obj.cells.injEq] at hx
    exact hne hx.2.1.symm
  have hs := Kept.setCell (w := w) P 4 u
  have ho' : w.ownsRow w0.heap.size 55 2 u (sel j ks).length (kcells (sel j ks)) := by
    refine ⟨ho.1, or_id ho.2 ?_⟩
    rintro ⟨g, cap, cur, e1, e2, r⟩
    exact ⟨g, cap, cur, e1, Nat.le_trans hB e2, r⟩
  have hps : PS w0 (w.setCell ⟨P, 4, none⟩ u) P Q v X Y u (sel j ks) := by
    refine ⟨h.fam.far hs fun b cur t hx ht => np b cur t hx (by rcases ht with rfl | rfl | rfl <;> decide), ?_, h.plo, ownsRow_keeps ho' fun g cur e => hs.block g (Array.getElem?_eq_some_iff.1 e).1 (np g cur 55 e (by decide)), fun x hx => ?_, hs.into h.below (fun b hb e => by have := h.plo; omega) (Nat.le_refl _)⟩
    · rw [setCell_eq_setRow w P 4 _ 48 (0, 0) u h.pr]
      exact setRow_heap w P _ _ 48 _ h.pr
    · have hx' := List.mem_filter.1 hx
      have e : x.1 = j := by simpa using hx'.2
      have hb := h.box x hx'.1 e
      rw [e]
      exact ⟨hj, (hs.block x.2 hb.lt (np _ _ _ hb (by decide))).trans hb⟩
  exact ⟨⟨_, hps.cq hk⟩, _, _, _, _, _, _, hps, h.same, h.up, fun i hi => Nat.le_succ_of_le (h.len i hi), by have := sel_len j ks; have := h.klen; omega⟩

set_option maxRecDepth 100000 in
set_option maxHeartbeats 4000000 in
theorem plays_copy (h : St w0 w P Q v X Y kv ks n) (hn : n ≤ 1000) (wh t N : Int) :
    Calls Try.prog 15 #[qp P, .agg #[.int .i64 7, .int .i64 wh, .int .u64 t, .int .i64 N]] w fun e w' => e = .returned (.bool true) ∧ Next w0 w' P (n + 1) := by
  have S0 : Hid (St w0 w P Q v X Y kv ks n) := h
  clear h
  have t2 := tmod2 wh
  have e2 := sl2_is wh
  have hj := sl2_lt wh
  go_enter Try.func15, Try.ntmps15
  go_wp2_with fail
  rw [e2]
  have HB : Hid (Below w.heap.size w (w.alloc (.cells (ocells 7 wh t N) 51)) ∧ (w.alloc (.cells (ocells 7 wh t N) 51)).heap[w.heap.size]? = some (.cells (ocells 7 wh t N) 51 (0, 0))) := ⟨below_alloc w _, heap_alloc_new w _⟩
  clear t2 e2
  revert HB hj
  generalize sl2 wh = j
  change _ → Hid (_ ∧ (w.alloc (.cells #[.int .i64 7, .int .i64 wh, .int .u64 t, .int .i64 N] 51)).heap[w.heap.size]? = _) → _
  generalize w.alloc (.cells #[.int .i64 7, .int .i64 wh, .int .u64 t, .int .i64 N] 51) = w1
  intro hj HB
  have S1 : Hid (St w0 w1 P Q v X Y kv ks n) := S0.out.later HB.out.1
  have O1 : Hid (w1.heap[w.heap.size]? = some (.cells (ocells 7 wh t N) 51 (0, 0))) := HB.out.2
  have hs1 : w.heap.size < w1.heap.size := (Array.getElem?_eq_some_iff.1 HB.out.2).1
  clear HB S0
  have c0 := S1.out.ps.cq hj
  have c1 := S1.out.ps.cr hj
  have d0 : w1.drew.cell? ⟨P, j, none⟩ = some (qp (Q j)) := c0
  have d1 : w1.drew.cell? ⟨P, 2 + j, none⟩ = some (qp (Q (j + 2))) := c1
  have i1 : (j : Int) < 2 := by omega
  go_quiet (fail)
  have S2 : Hid (St w0 (w1.drewN nq) P Q v X Y kv ks n) := S1.out.later (below_drawn nq)
  have O2 : Hid ((w1.drewN nq).heap[w.heap.size]? = some (.cells (ocells 7 wh t N) 51 (0, 0))) := O1.out
  have hs2 : w.heap.size < (w1.drewN nq).heap.size := hs1
  clear c0 c1 d0 d1 S1 O1 hs1
  revert S2 O2 hs2
  generalize w1.drewN nq = wd
  intro S2 O2 hs2
  have o0 := (ocell O2.out).1
  obtain ⟨i0, hi, hz0, hz1', hz2⟩ := info_parts info55
  have hlj : (X j).length ≤ 100000 := by have := S2.out.len j hj; omega
  obtain ⟨k, hk⟩ : ∃ k, k = 1 - j := ⟨_, rfl⟩
  have hkw : IntKind.i64.wrap (1 - (j : Int)) = (k : Int) := by rw [IntKind.wrap_i64]; omega
  have hk2 : (k : Int) < 2 := by omega
  have hk3 : k < 2 := by omega
  have HK : Hid (k = 1 - j) := hk
  clear i1 hk
  go_wp2_with fail
  refine wp_region_noPanic ?_
  refine wp_region_held_drew (S := fun _ => True) (by kernel_rfl) trivial (fun hHeld => ?_)
  have S3 : Hid (St w0 wd.drew P Q v X Y kv ks n) := S2.out.later (below_drawn 1)
  clear S2 O2 hs2 o0
  generalize wd.drew = we at *
  refine wpAnyH_take (i := 0) (v := ?va1) (by simp; rfl) (by kernel_rfl) (by kernel_rfl) (by kernel_rfl) (fun _ _ _ h => h) (Or.inl ⟨by rfl, ?ya1⟩) hHeld ?ra1
  case ya1 => intro w hSw; clear hSw; go_simp; with_reducible rfl
  simp only [Act.put, List.setIfInBounds_toArray, List.set_cons_zero, List.set_cons_succ]
  refine wpAnyH_take (i := 1) (v := ?va2) (by simp; rfl) (by kernel_rfl) (by kernel_rfl) (by kernel_rfl) (fun _ _ _ h => h) (Or.inl ⟨by rfl, ?ya2⟩) hHeld ?ra2
  case ya2 => intro w hSw; clear hSw; go_simp; with_reducible rfl
  simp only [Act.put, List.setIfInBounds_toArray, List.set_cons_zero, List.set_cons_succ]
  refine wpAnyH_take (i := 2) (v := ?va3) (by simp; rfl) (by kernel_rfl) (by kernel_rfl) (by kernel_rfl) (fun _ _ _ h => h) (Or.inl ⟨by rfl, ?ya3⟩) hHeld ?ra3
  case ya3 => intro w hSw; clear hSw; go_simp; with_reducible rfl
  simp only [Act.put, List.setIfInBounds_toArray, List.set_cons_zero, List.set_cons_succ]
  refine wpAnyH_take (i := 3) (v := ?va4) (by simp; rfl) (by kernel_rfl) (by kernel_rfl) (by kernel_rfl) (fun _ _ _ h => h) (Or.inl ⟨by rfl, ?ya4⟩) hHeld ?ra4
  case ya4 => intro w hSw; clear hSw; go_simp; with_reducible rfl
  simp only [Act.put, List.setIfInBounds_toArray, List.set_cons_zero, List.set_cons_succ]
  refine wpAnyH_take (i := 4) (v := ?va5) (by simp; rfl) (by kernel_rfl) (by kernel_rfl) (by kernel_rfl) (fun _ _ _ h => h) (Or.inl ⟨by rfl, ?ya5⟩) hHeld ?ra5
  case ya5 => intro w hSw; clear hSw; go_simp; with_reducible rfl
  simp only [Act.put, List.setIfInBounds_toArray, List.set_cons_zero, List.set_cons_succ]
  refine wpAnyH_take (i := 5) (v := ?va6) (by simp; rfl) (by kernel_rfl) (by kernel_rfl) (by kernel_rfl) (fun _ _ _ h => h) (Or.inl ⟨by rfl, ?ya6⟩) hHeld ?ra6
  case ya6 => intro w hSw; clear hSw; go_simp; with_reducible rfl
  simp only [Act.put, List.setIfInBounds_toArray, List.set_cons_zero, List.set_cons_succ]
  refine wpAnyH_take (i := 6) (v := ?va7) (by simp; rfl) (by kernel_rfl) (by kernel_rfl) (by kernel_rfl) (fun _ _ _ h => h) (Or.inl ⟨by rfl, ?ya7⟩) hHeld ?ra7
  case ya7 => intro w hSw; clear hSw; go_simp; with_reducible rfl
  simp only [Act.put, List.setIfInBounds_toArray, List.set_cons_zero, List.set_cons_succ]
  refine wpAnyH_take (i := 8) (v := ?va8) (by simp; rfl) (by kernel_rfl) (by kernel_rfl) (by kernel_rfl) (fun _ _ _ h => h) (Or.inl ⟨by rfl, ?ya8⟩) hHeld ?ra8
  case ya8 => intro w hSw; clear hSw; go_simp; with_reducible rfl
  simp only [Act.put, List.setIfInBounds_toArray, List.set_cons_zero, List.set_cons_succ]
  refine wpAnyH_take (i := 10) (v := ?va9) (by simp; rfl) (by kernel_rfl) (by kernel_rfl) (by kernel_rfl) (fun _ _ _ h => h) (Or.inl ⟨by rfl, ?ya9⟩) hHeld ?ra9
  case ya9 => intro w hSw; clear hSw; go_simp; with_reducible rfl
  simp only [Act.put, List.setIfInBounds_toArray, List.set_cons_zero, List.set_cons_succ]
  refine wpAnyH_take (i := 11) (v := ?va10) (by simp; rfl) (by kernel_rfl) (by kernel_rfl) (by kernel_rfl) (fun _ _ _ h => h) (Or.inl ⟨by rfl, ?ya10⟩) hHeld ?ra10
  case ya10 => intro w hSw; clear hSw; go_simp; with_reducible rfl
  simp only [Act.put, List.setIfInBounds_toArray, List.set_cons_zero, List.set_cons_succ]
  refine wpAnyH_take (i := 14) (v := ?va11) (by simp; rfl) (by kernel_rfl) (by kernel_rfl) (by kernel_rfl) (fun _ _ _ h => h) (Or.inl ⟨by rfl, ?ya11⟩) hHeld ?ra11
  case ya11 => intro w hSw; clear hSw; go_simp; with_reducible rfl
  simp only [Act.put, List.setIfInBounds_toArray, List.set_cons_zero, List.set_cons_succ]
  refine wpAnyH_take (i := 15) (v := ?va12) (by simp; rfl) (by kernel_rfl) (by kernel_rfl) (by kernel_rfl) (fun _ _ _ h => h) (Or.inl ⟨by rfl, ?ya12⟩) hHeld ?ra12
  case ya12 => intro w hSw; clear hSw; go_simp; with_reducible rfl
  simp only [Act.put, List.setIfInBounds_toArray, List.set_cons_zero, List.set_cons_succ]
  refine wpAnyH_ready (rs := [7]) (by kernel_rfl) (by simp) ?_
  refine AllReadyH.cons (by simp; rfl) (fun Kc hKc => ?_) AllReadyH.nil
  go_simp
  refine (copy_at (S3.out.at' hj) hlj).mono ?_
  rintro e w4 ⟨Q1, v1, rfl, q1, l1, g1, b1⟩
  have A4 : Hid (C1 w0 w4 P Q v X Y kv ks n j Q1 v1) := S3.out.c1 hj q1 l1 g1 b1
  clear q1 l1 g1 b1
  refine hKc.out _ _ trivial (fun hHeld => ?_)
  clear hKc Kc
  refine wpAnyH_ready (rs := [9]) (by kernel_rfl) (by simp) ?_
  refine AllReadyH.cons (by simp; rfl) (fun Kc hKc => ?_) AllReadyH.nil
  go_simp
  refine (rcopy_at (A4.out.rat) hlj).mono ?_
  rintro e w5 ⟨Q2, v2, rfl, q2, l2, g2, b2⟩
  obtain ⟨c1, f1, A5⟩ := A4.out.c2 HK.out q2 l2 g2 b2
  obtain ⟨c2, f2, A6⟩ := A5.out.set1
  clear q2 l2 g2 b2 A4
  refine hKc.out _ _ trivial (fun hHeld => ?_)
  clear hKc Kc
  refine wpAnyH_take (i := 12) (v := ?va13) (by simp; rfl) (by kernel_rfl) (by kernel_rfl) (by kernel_rfl) (fun _ _ _ h => h) (Or.inl ⟨by rfl, ?ya13⟩) hHeld ?ra13
  case ya13 => intro w hSw; clear hSw; go_simp; with_reducible rfl
  simp only [Act.put, List.setIfInBounds_toArray, List.set_cons_zero, List.set_cons_succ]
  refine wpAnyH_ready (rs := [13]) (by kernel_rfl) (by simp) ?_
  refine AllReadyH.cons (by simp; rfl) (fun Kc hKc => ?_) AllReadyH.nil
  go_simp
  refine hKc.out _ _ trivial (fun hHeld => ?_)
  clear hKc Kc
  refine wpAnyH_take (i := 16) (v := ?va14) (by simp; rfl) (by kernel_rfl) (by kernel_rfl) (by kernel_rfl) (fun _ _ _ h => h) (Or.inl ⟨by rfl, ?ya14⟩) hHeld ?ra14
  case ya14 => intro w hSw; clear hSw; go_simp; with_reducible rfl
  simp only [Act.put, List.setIfInBounds_toArray, List.set_cons_zero, List.set_cons_succ]
  refine wpAnyH_ready (rs := [17]) (by kernel_rfl) (by simp) ?_
  refine AllReadyH.cons (by simp; rfl) (fun Kc hKc => ?_) AllReadyH.nil
  go_simp
  refine hKc.out _ _ trivial (fun hHeld => ?_)
  clear hKc Kc
  clear hHeld
  refine wpAnyH_done (by kernel_rfl) (NoPanic.normal ?_) _
  have K6 : Hid (ks.length ≤ 1000) := by have := S3.out.klen; show _ ≤ _; omega
  clear c1 f1 c2 f2 A5 S3
  generalize ((w5.setCell ⟨P, k, none⟩ (qp Q1)).setCell ⟨P, 2 + k, none⟩ (qp Q2)) = w6 at *
  obtain ⟨Q', v', X', Y', a6⟩ := A6.out
  have C6 : Hid (Cp w0 w6 P Q' v' X' Y' kv ks n j) := a6
  obtain ⟨pk, ck, rfl, hK⟩ := KIn.of a6.kept
  have KI : Hid (KIn w6 pk ks) := hK
  have c6 := a6.ck
  clear a6 hK A6
  go_wp2_with fail
  go_loopw [22, 214] (fun u i wr => ∃ r : Nat, r ≤ ks.length ∧ i = .int .i64 r ∧ Hid (wr.ownsRow w6.heap.size 55 2 u (sel j (ks.take r)).length (kcells (sel j (ks.take r)))) ∧ Hid (Below w6.heap.size w6 wr)) (fun _ i _ => ks.length - (intOf i).toNat)
  case atStart => exact ⟨0, Nat.zero_le _, rfl, World.ownsRow_nil _ _ _ _, Below.refl _ _⟩
  case round =>
    obtain ⟨r, hr, rfl, RO, BL⟩ := hrel
    by_cases hlt : r < ks.length
    · obtain ⟨g, rfl, ca, cb⟩ := (KI.out.later BL.out).cells r hlt
      have i2 : (r : Int) < (ks.length : Int) := by omega
      have HS : Hid (sel j (ks.take (r + 1)) = if ks[r].1 = j then sel j (ks.take r) ++ [ks[r]] else sel j (ks.take r)) := sel_succ hlt
      have hl1 : (sel j (ks.take r)).length ≤ 1000 := by
        have h1 := sel_len j (ks.take r)
        have h2 := K6.out
        rw [List.length_take] at h1
        omega
      obtain ⟨a, b, hx⟩ : ∃ a b, ks[r] = (a, b) := ⟨_, _, rfl⟩
      rw [hx] at ca cb HS
      have HL : Hid ((Instr.loadAt 55 (.pointer (some ⟨g, r * 2, none⟩))).run Try.prog wr = .ok (.agg #[.int .i64 (a : Nat), seqV b]) wr) := load55 ca cb
      have HA : Hid ((Instr.alloc 55 true (.tuple #[])).run Try.prog wr = .ok (.pointer (some ⟨wr.heap.size, 0, none⟩)) (wr.alloc (.cells #[.int .i64 0, .nilFunc] 55))) := alloc55 wr
      have HT : Hid ((Instr.storeAt 55 (.pointer (some ⟨wr.heap.size, 0, none⟩)) (.agg #[.int .i64 (a : Nat), seqV b])).run Try.prog (wr.alloc (.cells #[.int .i64 0, .nilFunc] 55)) = .ok () (wr.alloc (.cells #[.int .i64 (a : Nat), seqV b] 55))) := store55 wr _ _
      clear ca cb hx
      have HL2 : Hid ((Instr.loadAt 55 (.pointer (some ⟨wr.heap.size, 0, none⟩))).run Try.prog (wr.alloc (.cells #[.int .i64 (a : Nat), seqV b] 55)) = .ok (.agg #[.int .i64 (a : Nat), seqV b]) (wr.alloc (.cells #[.int .i64 (a : Nat), seqV b] 55))) := load55 (two_at wr a b).1 (two_at wr a b).2
      have hsz := BL.out.size
      have hk6 : ks.length ≤ 1000 := K6.out
      have hrw : IntKind.i64.wrap ((r : Int) + 1) = (r : Int) + 1 := by rw [IntKind.wrap_i64]; omega
      have c9 : (wr.alloc (.cells #[.int .i64 (a : Nat), seqV b] 55)).cell? ⟨wr.heap.size, 0, none⟩ = some (.int .i64 (a : Nat)) := (two_at wr a b).1
      have B9 : Hid (Below w6.heap.size w6 (wr.alloc (.cells #[.int .i64 (a : Nat), seqV b] 55))) := BL.out.alloc hsz _
      have R9 : Hid ((wr.alloc (.cells #[.int .i64 (a : Nat), seqV b] 55)).ownsRow w6.heap.size 55 2 u22 (sel j (ks.take r)).length (kcells (sel j (ks.take r)))) := RO.out.alloc _
      have hs9 : w6.heap.size ≤ (wr.alloc (.cells #[.int .i64 (a : Nat), seqV b] 55)).heap.size := by simp; omega
      generalize hW9 : wr.alloc (.cells #[.int .i64 (a : Nat), seqV b] 55) = w9 at *
      by_cases hz : a = j
      · have hz1 : ((a : Int) == (j : Int)) = true := by rw [hz]; simp
        have E1 : Hid (sel j (ks.take (r + 1)) = sel j (ks.take r) ++ [(a, b)]) := by have := HS.out; rwa [if_pos hz] at this
        clear HS RO BL hz hW9
        generalize sel j (ks.take r) = ls at *
        have L1 : Hid (ls.length + 1 ≤ maxLen ∧ (ls.length + 1) * 16 ≤ 140737488355328) := by
          have hml : 2000 ≤ maxLen := by decide
          exact ⟨by omega, by omega⟩
        have L2 : Hid (w6.heap.size ≤ (w9.alloc (.cells #[.int .i64 a, seqV b] 55)).heap.size) := by
          show _ ≤ _
          simp
          omega
        go_wp2_with (first | ((with_reducible refine at_ops ?_); first | (refine wpList_load_is (by rfl) 55 rfl rfl HL.out ?_; simp only [Act.put, List.setIfInBounds_toArray, List.set_cons_zero, List.set_cons_succ]) | (refine wpList_load_is (by rfl) 55 rfl rfl HL2.out ?_; simp only [Act.put, List.setIfInBounds_toArray, List.set_cons_zero, List.set_cons_succ]) | (refine wpList_alloc_is (by rfl) 55 rfl HA.out ?_; simp only [Act.put, List.setIfInBounds_toArray, List.set_cons_zero, List.set_cons_succ]) | (refine wpList_store_is (by rfl) 55 rfl rfl rfl HT.out ?_; simp only [Act.put])) | (at_builtin; refine wpList_append_own _ rfl (.tmp 222) (.tmp 224) 46 rfl w6.heap.size 55 i0 (.agg #[.int .i64 0, .nilFunc]) 2 16 Try.underlying46 hi hz0 hz1' hz2 rfl (by decide) _ ls.length (kcells ls) rfl (R9.out.alloc _) ⟨w9.heap.size, 0, none⟩ 1 1 [.int .i64 a, seqV b] rfl rfl two_cells (one_pair a b) L1.out.1 L1.out.2 L2.out ?_; intro u2 wA hownA hgrowA _; obtain ⟨g', cap', rfl⟩ := ownsRow_succ hownA; have RA : Hid (wA.ownsRow w6.heap.size 55 2 (.slice (some ⟨g', 0, none⟩) (ls.length + 1) cap') (ls ++ [(a, b)]).length (kcells (ls ++ [(a, b)]))) := (by show World.ownsRow _ _ _ _ _ _ _; rw [kcells_app, List.length_append]; exact hownA); have BA : Hid (Below w6.heap.size w6 wA) := (B9.out.alloc hs9 _).grown hgrowA L2.out (fun g hg => (R9.out.lt g hg).1); clear hownA hgrowA))
        go_roundw
        case rel => exact ⟨r + 1, by omega, by go_num, by rw [E1.out]; exact RA, BA⟩
        case measure => simp [intOf]; omega
      · have hz3 : ((a : Int) == (j : Int)) = false := by rw [beq_eq_false_iff_ne]; omega
        have E1 : Hid (sel j (ks.take (r + 1)) = sel j (ks.take r)) := by have := HS.out; rwa [if_neg hz] at this
        clear HS RO BL hz hW9
        generalize sel j (ks.take r) = ls at *
        go_wp2_with ((with_reducible refine at_ops ?_); first | (refine wpList_load_is (by rfl) 55 rfl rfl HL.out ?_; simp only [Act.put, List.setIfInBounds_toArray, List.set_cons_zero, List.set_cons_succ]) | (refine wpList_alloc_is (by rfl) 55 rfl HA.out ?_; simp only [Act.put, List.setIfInBounds_toArray, List.set_cons_zero, List.set_cons_succ]) | (refine wpList_store_is (by rfl) 55 rfl rfl rfl HT.out ?_; simp only [Act.put]))
        go_roundw
        case rel => exact ⟨r + 1, by omega, by go_num, by rw [E1.out]; exact R9, B9⟩
        case measure => simp [intOf]; omega
    · obtain rfl : r = ks.length := by omega
      rw [List.take_length] at RO
      have C7 : Hid (Cp w0 wr P Q' v' X' Y' (.slice pk ks.length ck) ks n j) := C6.out.later BL.out
      obtain ⟨pu, cu, rfl, _⟩ := KIn.of RO.out
      obtain ⟨⟨q, c8⟩, N8⟩ := C7.out.done hj C6.out.below.size RO.out hk3
      have c7 := C7.out.ck
      have f7 := C7.out.free 4
      have i2 : ¬ (ks.length : Int) < (ks.length : Int) := by omega
      go_wp2_with fail
      go_ret
      exact ⟨rfl, N8.out⟩
end Go.Proofs.Ytmmmgknlbkckdaa
