/-
  Layer 13: plays: no kind, Append, Done. Layer 13: plays: Done, Leave, Freed. Layer 13: plays: Enter, Begin. Layer 13: plays: Copy. Layer 13: plays; how the two lines are made; how a script lies.
-/
import Derived.Test.YtnbegddpgmejnaaGreatM1
namespace Go.Proofs.YtnbegddpgmejnaaGreat
open Go.RowKit

variable {w0 w w' : World} {P : Nat} {q : Nat → Nat} {S D : Nat → Ad} {X : Nat → Th} {N a b j k k2 : Nat}

/-- nothing loose -/
abbrev XN : Nat → Th := fun _ => .no
/-- a step's cells -/
abbrev ocells (kd wh : Int) (v : Value) (t n : Int) : Array Value := #[.int .i64 kd, .int .i64 wh, v, .int .u64 t, .int .i64 n]
theorem ocell {B : Nat} {kd wh t n : Int} {v : Value} (h : w.heap[B]? = some (.cells (ocells kd wh v t n) 46 (0, 0))) : w.cell? ⟨B, 0, none⟩ = some (.int .i64 kd) ∧ w.cell? ⟨B, 1, none⟩ = some (.int .i64 wh) ∧ w.cell? ⟨B, 2, none⟩ = some v ∧ w.cell? ⟨B, 3, none⟩ = some (.int .u64 t) ∧ w.cell? ⟨B, 4, none⟩ = some (.int .i64 n) :=
  ⟨cell_of_row _ B 0 _ 46 (0, 0) h, cell_of_row _ B 1 _ 46 (0, 0) h, cell_of_row _ B 2 _ 46 (0, 0) h, cell_of_row _ B 3 _ 46 (0, 0) h, cell_of_row _ B 4 _ 46 (0, 0) h⟩
/-- what stands between two steps -/
def Nx (w0 w : World) (P N a b : Nat) (B : Int) : Prop := ∃ q S, St w0 w P q S S XN N a b ∧ ∀ j, j < 2 → (S j).next ≤ B
def sl2 (x : Int) : Nat := ((x.tmod 2 + 2) % 2).toNat
theorem sl2_is (x : Int) : (x.tmod 2 + 2) % 2 = ((sl2 x : Nat) : Int) := by unfold sl2; omega
theorem sl2_lt (x : Int) : sl2 x < 2 := by unfold sl2; omega
theorem tmod2 (x : Int) : -2 < x.tmod 2 ∧ x.tmod 2 < 2 := by
  by_cases h : 0 ≤ x
  · rw [Int.tmod_eq_emod_of_nonneg h]; omega
  · rw [show x = -(-x) by omega, Int.neg_tmod, Int.tmod_eq_emod_of_nonneg (show 0 ≤ -x by omega)]; omega
/-- the box is laid aside -/
theorem XN_box (t : Th) : put (put XN 2 t) 2 .no = XN := by rw [put_put]; exact put_idem _ _ rfl
theorem next_put {S : Nat → Ad} {A : Ad} {j : Nat} {B : Int} (h : ∀ i, i < 2 → (S i).next ≤ B) (hA : A.next ≤ B + 1) : ∀ i, i < 2 → (put S j A i).next ≤ B + 1 := fun i hi => by
  by_cases e : i = j
  · subst e; rw [put_same]; exact hA
  · rw [put_other _ _ e]; have := h i hi; omega
theorem next_app (A : Ad) (t : Int) : (A.appS t).next = A.next := by unfold Ad.appS; split <;> rfl
theorem next_don (A : Ad) (t : Int) : (A.donS t).next = A.next := by unfold Ad.donS; split <;> rfl
theorem next_lea (A : Ad) (t : Int) : (A.leaS t).next = A.next := by unfold Ad.leaS; split <;> rfl
theorem next_fre (A : Ad) (t : Int) : (A.freS t).next = A.next := by unfold Ad.freS; split <;> rfl
theorem next_ent (A : Ad) : A.entS.next = A.next := by unfold Ad.entS; split <;> rfl
theorem next_beg (A : Ad) (xs : List Int) : (A.begS xs).next ≤ A.next + 1 := by
  unfold Ad.begS
  split
  · exact Int.le_refl _
  · omega
set_option maxHeartbeats 8000000 in
set_option maxRecDepth 100000 in
theorem plays_none (h : St w0 w P q S S XN N a b) (_hN : N < 8000) {B : Int} (hB : ∀ j, j < 2 → (S j).next ≤ B) (hB9 : B ≤ 900) (ha : a ≤ 3900) (hb : b ≤ 3900) (kd wh t n : Int) (p : Option Addr) (m c : Nat) (ht : L.U64 t) (k1 : kd ≠ 1) (k2 : kd ≠ 2) (k3 : kd ≠ 3) (k4 : kd ≠ 4) (k5 : kd ≠ 5) (k6 : kd ≠ 6) (k7 : kd ≠ 7) :
    Calls Tryz.prog 9 #[qp P, .agg #[.int .i64 kd, .int .i64 wh, .slice p m c, .int .u64 t, .int .i64 n]] w fun e w' => e = .returned (.bool true) ∧ Nx w0 w' P (N + 2) (a + 3) (b + 4) (B + 1) := by
  have S0 : Hid (St w0 w P q S S XN N a b) := h
  have HBx : Hid (∀ j, j < 2 → (S j).next ≤ B) := hB
  have HT : Hid (L.U64 t) := ht
  clear h hB ht
  have t2 := tmod2 wh
  have e2 := sl2_is wh
  have hj := sl2_lt wh
  have b1 : (kd == 1) = false := by rw [beq_eq_false_iff_ne]; exact k1
  have b2 : (kd == 2) = false := by rw [beq_eq_false_iff_ne]; exact k2
  have b3 : (kd == 3) = false := by rw [beq_eq_false_iff_ne]; exact k3
  have b4 : (kd == 4) = false := by rw [beq_eq_false_iff_ne]; exact k4
  have b5 : (kd == 5) = false := by rw [beq_eq_false_iff_ne]; exact k5
  have b6 : (kd == 6) = false := by rw [beq_eq_false_iff_ne]; exact k6
  have b7 : (kd == 7) = false := by rw [beq_eq_false_iff_ne]; exact k7
  clear k1 k2 k3 k4 k5 k6 k7
  go_enter Tryz.func9, Tryz.ntmps9
  go_wp2_with fail
  rw [e2]
  have HA : Hid (St w0 (w.alloc (.cells #[.int .i64 kd, .int .i64 wh, .slice p m c, .int .u64 t, .int .i64 n] 46)) P q S S (put XN 2 (.box w.heap.size (ocells kd wh (.slice p m c) t n))) N a b) := S0.out.fresh (k := 2) (below_alloc w _) (by omega) (fun _ => heap_alloc_new w _) (fun b hb => by have e : b = w.heap.size := hb; omega)
  clear t2 e2 S0
  revert HA hj
  generalize sl2 wh = j
  generalize w.alloc (.cells #[.int .i64 kd, .int .i64 wh, .slice p m c, .int .u64 t, .int .i64 n] 46) = w1
  intro hj HA
  obtain ⟨c0, c1⟩ := HA.out.cells hj
  have d0 : w1.drew.cell? ⟨P, j, none⟩ = some (qp (q j)) := c0
  have d1 : w1.drew.cell? ⟨P, 2 + j, none⟩ = some (qp (q (j + 2))) := c1
  have i1 : (j : Int) < 2 := by omega
  go_quiet (fail)
  have H2 : Hid (St w0 (w1.drewN nq) P q S S (put XN 2 (.box w.heap.size (ocells kd wh (.slice p m c) t n))) N a b) := HA.out.later (below_drawn nq)
  clear c0 c1 d0 d1 HA
  revert H2
  generalize w1.drewN nq = wd
  intro H2
  have hnj : (S j).next ≤ 1000 := by have := HBx.out j hj; omega
  have HNx : Hid (∀ i, i < 2 → (S i).next ≤ B + 1) := fun i hi => by have := HBx.out i hi; omega
  have z0 := (ocell (H2.out.box (k := 2) (by omega) rfl)).1
  have z1 := (ocell (H2.out.box (k := 2) (by omega) rfl)).2.1
  have z2 := (ocell (H2.out.box (k := 2) (by omega) rfl)).2.2.1
  have z3 := (ocell (H2.out.box (k := 2) (by omega) rfl)).2.2.2.1
  have z4 := (ocell (H2.out.box (k := 2) (by omega) rfl)).2.2.2.2
  go_wp2_with fail
  refine (tells_at H2.out hj (by have h9 := HNx.out j hj; omega) (by omega) (by omega) ⟨rfl, rfl, rfl, rfl, rfl⟩ HT.out).mono ?_
  rintro e w9 ⟨rfl, h9⟩
  have H9 : Hid (St w0 w9 P q S S (put XN 2 (.box w.heap.size (ocells kd wh (.slice p m c) t n))) (N) (a + 2) (b + 4)) := h9
  clear h9 H2 z0 z1 z2 z3 z4
  go_wp2_with fail
  go_ret
  refine ⟨rfl, q, S, ?_, HNx.out⟩
  have hz := H9.out.drop (k := 2) (by omega)
  rw [XN_box] at hz
  exact hz.mono (by omega) (by omega) (by omega)
set_option maxHeartbeats 8000000 in
set_option maxRecDepth 100000 in
theorem plays_append (h : St w0 w P q S S XN N a b) (_hN : N < 8000) {B : Int} (hB : ∀ j, j < 2 → (S j).next ≤ B) (hB9 : B ≤ 900) (ha : a ≤ 3900) (hb : b ≤ 3900) (wh t n : Int) (p : Option Addr) (m c : Nat) (ht : L.U64 t) :
    Calls Tryz.prog 9 #[qp P, .agg #[.int .i64 3, .int .i64 wh, .slice p m c, .int .u64 t, .int .i64 n]] w fun e w' => e = .returned (.bool true) ∧ Nx w0 w' P (N + 2) (a + 3) (b + 4) (B + 1) := by
  have S0 : Hid (St w0 w P q S S XN N a b) := h
  have HBx : Hid (∀ j, j < 2 → (S j).next ≤ B) := hB
  have HT : Hid (L.U64 t) := ht
  clear h hB ht
  have t2 := tmod2 wh
  have e2 := sl2_is wh
  have hj := sl2_lt wh
  go_enter Tryz.func9, Tryz.ntmps9
  go_wp2_with fail
  rw [e2]
  have HA : Hid (St w0 (w.alloc (.cells #[.int .i64 3, .int .i64 wh, .slice p m c, .int .u64 t, .int .i64 n] 46)) P q S S (put XN 2 (.box w.heap.size (ocells 3 wh (.slice p m c) t n))) N a b) := S0.out.fresh (k := 2) (below_alloc w _) (by omega) (fun _ => heap_alloc_new w _) (fun b hb => by have e : b = w.heap.size := hb; omega)
  clear t2 e2 S0
  revert HA hj
  generalize sl2 wh = j
  generalize w.alloc (.cells #[.int .i64 3, .int .i64 wh, .slice p m c, .int .u64 t, .int .i64 n] 46) = w1
  intro hj HA
  obtain ⟨c0, c1⟩ := HA.out.cells hj
  have d0 : w1.drew.cell? ⟨P, j, none⟩ = some (qp (q j)) := c0
  have d1 : w1.drew.cell? ⟨P, 2 + j, none⟩ = some (qp (q (j + 2))) := c1
  have i1 : (j : Int) < 2 := by omega
  go_quiet (fail)
  have H2 : Hid (St w0 (w1.drewN nq) P q S S (put XN 2 (.box w.heap.size (ocells 3 wh (.slice p m c) t n))) N a b) := HA.out.later (below_drawn nq)
  clear c0 c1 d0 d1 HA
  revert H2
  generalize w1.drewN nq = wd
  intro H2
  have hnj : (S j).next ≤ 1000 := by have := HBx.out j hj; omega
  have z0 := (ocell (H2.out.box (k := 2) (by omega) rfl)).1
  have z1 := (ocell (H2.out.box (k := 2) (by omega) rfl)).2.1
  have z2 := (ocell (H2.out.box (k := 2) (by omega) rfl)).2.2.1
  have z3 := (ocell (H2.out.box (k := 2) (by omega) rfl)).2.2.2.1
  have z4 := (ocell (H2.out.box (k := 2) (by omega) rfl)).2.2.2.2
  have HNx : Hid (∀ i, i < 2 → (put S j ((S j).appS t) i).next ≤ B + 1) := next_put HBx.out (by rw [next_app]; have := HBx.out j hj; omega)
  go_wp2_with fail
  refine (s_append H2.out hj (by omega) HT.out).mono ?_
  rintro e w3 ⟨rfl, h3⟩
  have H3 : Hid (St w0 w3 P q (put S j ((S j).appS t)) S (put XN 2 (.box w.heap.size (ocells 3 wh (.slice p m c) t n))) (N + 2) a b) := h3
  clear h3 H2 z0 z1 z2 z3 z4
  have z0 := (ocell (H3.out.box (k := 2) (by omega) rfl)).1
  have z1 := (ocell (H3.out.box (k := 2) (by omega) rfl)).2.1
  have z2 := (ocell (H3.out.box (k := 2) (by omega) rfl)).2.2.1
  have z3 := (ocell (H3.out.box (k := 2) (by omega) rfl)).2.2.2.1
  have z4 := (ocell (H3.out.box (k := 2) (by omega) rfl)).2.2.2.2
  obtain ⟨qa, qa'⟩ := bne_self_i ((S j).appE t)
  go_wp2_with fail
  refine (d_append H3.out hj hnj t).mono ?_
  rintro e w4 ⟨rfl, h4⟩
  have H4 : Hid (St w0 w4 P q (put S j ((S j).appS t)) (put S j ((S j).appS t)) (put XN 2 (.box w.heap.size (ocells 3 wh (.slice p m c) t n))) (N + 2) a b) := h4
  clear h4 H3 z0 z1 z2 z3 z4
  have z0 := (ocell (H4.out.box (k := 2) (by omega) rfl)).1
  have z1 := (ocell (H4.out.box (k := 2) (by omega) rfl)).2.1
  have z2 := (ocell (H4.out.box (k := 2) (by omega) rfl)).2.2.1
  have z3 := (ocell (H4.out.box (k := 2) (by omega) rfl)).2.2.2.1
  have z4 := (ocell (H4.out.box (k := 2) (by omega) rfl)).2.2.2.2
  go_wp2_with fail
  refine (tells_at H4.out hj (by have h9 := HNx.out j hj; omega) (by omega) (by omega) ⟨rfl, rfl, rfl, rfl, rfl⟩ HT.out).mono ?_
  rintro e w9 ⟨rfl, h9⟩
  have H9 : Hid (St w0 w9 P q (put S j ((S j).appS t)) (put S j ((S j).appS t)) (put XN 2 (.box w.heap.size (ocells 3 wh (.slice p m c) t n))) (N + 2) (a + 2) (b + 4)) := h9
  clear h9 H4 z0 z1 z2 z3 z4
  go_wp2_with fail
  go_ret
  refine ⟨rfl, q, (put S j ((S j).appS t)), ?_, HNx.out⟩
  have hz := H9.out.drop (k := 2) (by omega)
  rw [XN_box] at hz
  exact hz.mono (by omega) (by omega) (by omega)
end Go.Proofs.YtnbegddpgmejnaaGreat
namespace Go.Proofs.YtnbegddpgmejnaaGreat
open Go.RowKit

variable {w0 w w' : World} {P : Nat} {q : Nat → Nat} {S D : Nat → Ad} {X : Nat → Th} {N a b j k k2 : Nat}
set_option maxHeartbeats 8000000 in
set_option maxRecDepth 100000 in
theorem plays_done (h : St w0 w P q S S XN N a b) (_hN : N < 8000) {B : Int} (hB : ∀ j, j < 2 → (S j).next ≤ B) (hB9 : B ≤ 900) (ha : a ≤ 3900) (hb : b ≤ 3900) (wh t n : Int) (p : Option Addr) (m c : Nat) (ht : L.U64 t) :
    Calls Tryz.prog 9 #[qp P, .agg #[.int .i64 4, .int .i64 wh, .slice p m c, .int .u64 t, .int .i64 n]] w fun e w' => e = .returned (.bool true) ∧ Nx w0 w' P (N + 2) (a + 3) (b + 4) (B + 1) := by
  have S0 : Hid (St w0 w P q S S XN N a b) := h
  have HBx : Hid (∀ j, j < 2 → (S j).next ≤ B) := hB
  have HT : Hid (L.U64 t) := ht
  clear h hB ht
  have t2 := tmod2 wh
  have e2 := sl2_is wh
  have hj := sl2_lt wh
  go_enter Tryz.func9, Tryz.ntmps9
  go_wp2_with fail
  rw [e2]
  have HA : Hid (St w0 (w.alloc (.cells #[.int .i64 4, .int .i64 wh, .slice p m c, .int .u64 t, .int .i64 n] 46)) P q S S (put XN 2 (.box w.heap.size (ocells 4 wh (.slice p m c) t n))) N a b) := S0.out.fresh (k := 2) (below_alloc w _) (by omega) (fun _ => heap_alloc_new w _) (fun b hb => by have e : b = w.heap.size := hb; omega)
  clear t2 e2 S0
  revert HA hj
  generalize sl2 wh = j
  generalize w.alloc (.cells #[.int .i64 4, .int .i64 wh, .slice p m c, .int .u64 t, .int .i64 n] 46) = w1
  intro hj HA
  obtain ⟨c0, c1⟩ := HA.out.cells hj
  have d0 : w1.drew.cell? ⟨P, j, none⟩ = some (qp (q j)) := c0
  have d1 : w1.drew.cell? ⟨P, 2 + j, none⟩ = some (qp (q (j + 2))) := c1
  have i1 : (j : Int) < 2 := by omega
  go_quiet (fail)
  have H2 : Hid (St w0 (w1.drewN nq) P q S S (put XN 2 (.box w.heap.size (ocells 4 wh (.slice p m c) t n))) N a b) := HA.out.later (below_drawn nq)
  clear c0 c1 d0 d1 HA
  revert H2
  generalize w1.drewN nq = wd
  intro H2
  have hnj : (S j).next ≤ 1000 := by have := HBx.out j hj; omega
  have z0 := (ocell (H2.out.box (k := 2) (by omega) rfl)).1
  have z1 := (ocell (H2.out.box (k := 2) (by omega) rfl)).2.1
  have z2 := (ocell (H2.out.box (k := 2) (by omega) rfl)).2.2.1
  have z3 := (ocell (H2.out.box (k := 2) (by omega) rfl)).2.2.2.1
  have z4 := (ocell (H2.out.box (k := 2) (by omega) rfl)).2.2.2.2
  have HNx : Hid (∀ i, i < 2 → (put S j ((S j).donS t) i).next ≤ B + 1) := next_put HBx.out (by rw [next_don]; have := HBx.out j hj; omega)
  go_wp2_with fail
  refine (s_done H2.out hj (by omega) hnj HT.out).mono ?_
  rintro e w3 ⟨rfl, h3⟩
  have H3 : Hid (St w0 w3 P q (put S j ((S j).donS t)) S (put XN 2 (.box w.heap.size (ocells 4 wh (.slice p m c) t n))) (N + 2) a b) := h3
  clear h3 H2 z0 z1 z2 z3 z4
  have z0 := (ocell (H3.out.box (k := 2) (by omega) rfl)).1
  have z1 := (ocell (H3.out.box (k := 2) (by omega) rfl)).2.1
  have z2 := (ocell (H3.out.box (k := 2) (by omega) rfl)).2.2.1
  have z3 := (ocell (H3.out.box (k := 2) (by omega) rfl)).2.2.2.1
  have z4 := (ocell (H3.out.box (k := 2) (by omega) rfl)).2.2.2.2
  obtain ⟨qa, qa'⟩ := bne_self_i ((S j).donE t)
  go_wp2_with fail
  refine (d_done H3.out hj hnj t).mono ?_
  rintro e w4 ⟨rfl, h4⟩
  have H4 : Hid (St w0 w4 P q (put S j ((S j).donS t)) (put S j ((S j).donS t)) (put XN 2 (.box w.heap.size (ocells 4 wh (.slice p m c) t n))) (N + 2) a b) := h4
  clear h4 H3 z0 z1 z2 z3 z4
  have z0 := (ocell (H4.out.box (k := 2) (by omega) rfl)).1
  have z1 := (ocell (H4.out.box (k := 2) (by omega) rfl)).2.1
  have z2 := (ocell (H4.out.box (k := 2) (by omega) rfl)).2.2.1
  have z3 := (ocell (H4.out.box (k := 2) (by omega) rfl)).2.2.2.1
  have z4 := (ocell (H4.out.box (k := 2) (by omega) rfl)).2.2.2.2
  go_wp2_with fail
  refine (tells_at H4.out hj (by have h9 := HNx.out j hj; omega) (by omega) (by omega) ⟨rfl, rfl, rfl, rfl, rfl⟩ HT.out).mono ?_
  rintro e w9 ⟨rfl, h9⟩
  have H9 : Hid (St w0 w9 P q (put S j ((S j).donS t)) (put S j ((S j).donS t)) (put XN 2 (.box w.heap.size (ocells 4 wh (.slice p m c) t n))) (N + 2) (a + 2) (b + 4)) := h9
  clear h9 H4 z0 z1 z2 z3 z4
  go_wp2_with fail
  go_ret
  refine ⟨rfl, q, (put S j ((S j).donS t)), ?_, HNx.out⟩
  have hz := H9.out.drop (k := 2) (by omega)
  rw [XN_box] at hz
  exact hz.mono (by omega) (by omega) (by omega)
set_option maxHeartbeats 8000000 in
set_option maxRecDepth 100000 in
theorem plays_leave (h : St w0 w P q S S XN N a b) (_hN : N < 8000) {B : Int} (hB : ∀ j, j < 2 → (S j).next ≤ B) (hB9 : B ≤ 900) (ha : a ≤ 3900) (hb : b ≤ 3900) (wh t n : Int) (p : Option Addr) (m c : Nat) (ht : L.U64 t) :
    Calls Tryz.prog 9 #[qp P, .agg #[.int .i64 5, .int .i64 wh, .slice p m c, .int .u64 t, .int .i64 n]] w fun e w' => e = .returned (.bool true) ∧ Nx w0 w' P (N + 2) (a + 3) (b + 4) (B + 1) := by
  have S0 : Hid (St w0 w P q S S XN N a b) := h
  have HBx : Hid (∀ j, j < 2 → (S j).next ≤ B) := hB
  have HT : Hid (L.U64 t) := ht
  clear h hB ht
  have t2 := tmod2 wh
  have e2 := sl2_is wh
  have hj := sl2_lt wh
  go_enter Tryz.func9, Tryz.ntmps9
  go_wp2_with fail
  rw [e2]
  have HA : Hid (St w0 (w.alloc (.cells #[.int .i64 5, .int .i64 wh, .slice p m c, .int .u64 t, .int .i64 n] 46)) P q S S (put XN 2 (.box w.heap.size (ocells 5 wh (.slice p m c) t n))) N a b) := S0.out.fresh (k := 2) (below_alloc w _) (by omega) (fun _ => heap_alloc_new w _) (fun b hb => by have e : b = w.heap.size := hb; omega)
  clear t2 e2 S0
  revert HA hj
  generalize sl2 wh = j
  generalize w.alloc (.cells #[.int .i64 5, .int .i64 wh, .slice p m c, .int .u64 t, .int .i64 n] 46) = w1
  intro hj HA
  obtain ⟨c0, c1⟩ := HA.out.cells hj
  have d0 : w1.drew.cell? ⟨P, j, none⟩ = some (qp (q j)) := c0
  have d1 : w1.drew.cell? ⟨P, 2 + j, none⟩ = some (qp (q (j + 2))) := c1
  have i1 : (j : Int) < 2 := by omega
  go_quiet (fail)
  have H2 : Hid (St w0 (w1.drewN nq) P q S S (put XN 2 (.box w.heap.size (ocells 5 wh (.slice p m c) t n))) N a b) := HA.out.later (below_drawn nq)
  clear c0 c1 d0 d1 HA
  revert H2
  generalize w1.drewN nq = wd
  intro H2
  have hnj : (S j).next ≤ 1000 := by have := HBx.out j hj; omega
  have z0 := (ocell (H2.out.box (k := 2) (by omega) rfl)).1
  have z1 := (ocell (H2.out.box (k := 2) (by omega) rfl)).2.1
  have z2 := (ocell (H2.out.box (k := 2) (by omega) rfl)).2.2.1
  have z3 := (ocell (H2.out.box (k := 2) (by omega) rfl)).2.2.2.1
  have z4 := (ocell (H2.out.box (k := 2) (by omega) rfl)).2.2.2.2
  have HNx : Hid (∀ i, i < 2 → (put S j ((S j).leaS t) i).next ≤ B + 1) := next_put HBx.out (by rw [next_lea]; have := HBx.out j hj; omega)
  go_wp2_with fail
  refine (s_leave H2.out hj (by omega) hnj HT.out).mono ?_
  rintro e w3 ⟨rfl, h3⟩
  have H3 : Hid (St w0 w3 P q (put S j ((S j).leaS t)) S (put XN 2 (.box w.heap.size (ocells 5 wh (.slice p m c) t n))) (N + 2) a b) := h3
  clear h3 H2 z0 z1 z2 z3 z4
  have z0 := (ocell (H3.out.box (k := 2) (by omega) rfl)).1
  have z1 := (ocell (H3.out.box (k := 2) (by omega) rfl)).2.1
  have z2 := (ocell (H3.out.box (k := 2) (by omega) rfl)).2.2.1
  have z3 := (ocell (H3.out.box (k := 2) (by omega) rfl)).2.2.2.1
  have z4 := (ocell (H3.out.box (k := 2) (by omega) rfl)).2.2.2.2
  obtain ⟨qa, qa'⟩ := bne_self_i ((S j).leaE t)
  go_wp2_with fail
  refine (d_leave H3.out hj hnj t).mono ?_
  rintro e w4 ⟨rfl, h4⟩
  have H4 : Hid (St w0 w4 P q (put S j ((S j).leaS t)) (put S j ((S j).leaS t)) (put XN 2 (.box w.heap.size (ocells 5 wh (.slice p m c) t n))) (N + 2) a b) := h4
  clear h4 H3 z0 z1 z2 z3 z4
  have z0 := (ocell (H4.out.box (k := 2) (by omega) rfl)).1
  have z1 := (ocell (H4.out.box (k := 2) (by omega) rfl)).2.1
  have z2 := (ocell (H4.out.box (k := 2) (by omega) rfl)).2.2.1
  have z3 := (ocell (H4.out.box (k := 2) (by omega) rfl)).2.2.2.1
  have z4 := (ocell (H4.out.box (k := 2) (by omega) rfl)).2.2.2.2
  go_wp2_with fail
  refine (tells_at H4.out hj (by have h9 := HNx.out j hj; omega) (by omega) (by omega) ⟨rfl, rfl, rfl, rfl, rfl⟩ HT.out).mono ?_
  rintro e w9 ⟨rfl, h9⟩
  have H9 : Hid (St w0 w9 P q (put S j ((S j).leaS t)) (put S j ((S j).leaS t)) (put XN 2 (.box w.heap.size (ocells 5 wh (.slice p m c) t n))) (N + 2) (a + 2) (b + 4)) := h9
  clear h9 H4 z0 z1 z2 z3 z4
  go_wp2_with fail
  go_ret
  refine ⟨rfl, q, (put S j ((S j).leaS t)), ?_, HNx.out⟩
  have hz := H9.out.drop (k := 2) (by omega)
  rw [XN_box] at hz
  exact hz.mono (by omega) (by omega) (by omega)
set_option maxHeartbeats 8000000 in
set_option maxRecDepth 100000 in
theorem plays_freed (h : St w0 w P q S S XN N a b) (_hN : N < 8000) {B : Int} (hB : ∀ j, j < 2 → (S j).next ≤ B) (hB9 : B ≤ 900) (ha : a ≤ 3900) (hb : b ≤ 3900) (wh t n : Int) (p : Option Addr) (m c : Nat) (ht : L.U64 t) :
    Calls Tryz.prog 9 #[qp P, .agg #[.int .i64 6, .int .i64 wh, .slice p m c, .int .u64 t, .int .i64 n]] w fun e w' => e = .returned (.bool true) ∧ Nx w0 w' P (N + 2) (a + 3) (b + 4) (B + 1) := by
  have S0 : Hid (St w0 w P q S S XN N a b) := h
  have HBx : Hid (∀ j, j < 2 → (S j).next ≤ B) := hB
  have HT : Hid (L.U64 t) := ht
  clear h hB ht
  have t2 := tmod2 wh
  have e2 := sl2_is wh
  have hj := sl2_lt wh
  go_enter Tryz.func9, Tryz.ntmps9
  go_wp2_with fail
  rw [e2]
  have HA : Hid (St w0 (w.alloc (.cells #[.int .i64 6, .int .i64 wh, .slice p m c, .int .u64 t, .int .i64 n] 46)) P q S S (put XN 2 (.box w.heap.size (ocells 6 wh (.slice p m c) t n))) N a b) := S0.out.fresh (k := 2) (below_alloc w _) (by omega) (fun _ => heap_alloc_new w _) (fun b hb => by have e : b = w.heap.size := hb; omega)
  clear t2 e2 S0
  revert HA hj
  generalize sl2 wh = j
  generalize w.alloc (.cells #[.int .i64 6, .int .i64 wh, .slice p m c, .int .u64 t, .int .i64 n] 46) = w1
  intro hj HA
  obtain ⟨c0, c1⟩ := HA.out.cells hj
  have d0 : w1.drew.cell? ⟨P, j, none⟩ = some (qp (q j)) := c0
  have d1 : w1.drew.cell? ⟨P, 2 + j, none⟩ = some (qp (q (j + 2))) := c1
  have i1 : (j : Int) < 2 := by omega
  go_quiet (fail)
  have H2 : Hid (St w0 (w1.drewN nq) P q S S (put XN 2 (.box w.heap.size (ocells 6 wh (.slice p m c) t n))) N a b) := HA.out.later (below_drawn nq)
  clear c0 c1 d0 d1 HA
  revert H2
  generalize w1.drewN nq = wd
  intro H2
  have hnj : (S j).next ≤ 1000 := by have := HBx.out j hj; omega
  have z0 := (ocell (H2.out.box (k := 2) (by omega) rfl)).1
  have z1 := (ocell (H2.out.box (k := 2) (by omega) rfl)).2.1
  have z2 := (ocell (H2.out.box (k := 2) (by omega) rfl)).2.2.1
  have z3 := (ocell (H2.out.box (k := 2) (by omega) rfl)).2.2.2.1
  have z4 := (ocell (H2.out.box (k := 2) (by omega) rfl)).2.2.2.2
  have HNx : Hid (∀ i, i < 2 → (put S j ((S j).freS n) i).next ≤ B + 1) := next_put HBx.out (by rw [next_fre]; have := HBx.out j hj; omega)
  go_wp2_with fail
  refine (s_freed H2.out hj n).mono ?_
  rintro e w3 ⟨rfl, h3⟩
  have H3 : Hid (St w0 w3 P q (put S j ((S j).freS n)) S (put XN 2 (.box w.heap.size (ocells 6 wh (.slice p m c) t n))) (N + 2) a b) := h3
  clear h3 H2 z0 z1 z2 z3 z4
  have z0 := (ocell (H3.out.box (k := 2) (by omega) rfl)).1
  have z1 := (ocell (H3.out.box (k := 2) (by omega) rfl)).2.1
  have z2 := (ocell (H3.out.box (k := 2) (by omega) rfl)).2.2.1
  have z3 := (ocell (H3.out.box (k := 2) (by omega) rfl)).2.2.2.1
  have z4 := (ocell (H3.out.box (k := 2) (by omega) rfl)).2.2.2.2
  obtain ⟨qa, qa'⟩ := bne_self_i ((S j).freE n)
  go_wp2_with fail
  refine (d_freed H3.out hj n).mono ?_
  rintro e w4 ⟨rfl, h4⟩
  have H4 : Hid (St w0 w4 P q (put S j ((S j).freS n)) (put S j ((S j).freS n)) (put XN 2 (.box w.heap.size (ocells 6 wh (.slice p m c) t n))) (N + 2) a b) := h4
  clear h4 H3 z0 z1 z2 z3 z4
  have z0 := (ocell (H4.out.box (k := 2) (by omega) rfl)).1
  have z1 := (ocell (H4.out.box (k := 2) (by omega) rfl)).2.1
  have z2 := (ocell (H4.out.box (k := 2) (by omega) rfl)).2.2.1
  have z3 := (ocell (H4.out.box (k := 2) (by omega) rfl)).2.2.2.1
  have z4 := (ocell (H4.out.box (k := 2) (by omega) rfl)).2.2.2.2
  go_wp2_with fail
  refine (tells_at H4.out hj (by have h9 := HNx.out j hj; omega) (by omega) (by omega) ⟨rfl, rfl, rfl, rfl, rfl⟩ HT.out).mono ?_
  rintro e w9 ⟨rfl, h9⟩
  have H9 : Hid (St w0 w9 P q (put S j ((S j).freS n)) (put S j ((S j).freS n)) (put XN 2 (.box w.heap.size (ocells 6 wh (.slice p m c) t n))) (N + 2) (a + 2) (b + 4)) := h9
  clear h9 H4 z0 z1 z2 z3 z4
  go_wp2_with fail
  go_ret
  refine ⟨rfl, q, (put S j ((S j).freS n)), ?_, HNx.out⟩
  have hz := H9.out.drop (k := 2) (by omega)
  rw [XN_box] at hz
  exact hz.mono (by omega) (by omega) (by omega)
end Go.Proofs.YtnbegddpgmejnaaGreat
namespace Go.Proofs.YtnbegddpgmejnaaGreat
open Go.RowKit

variable {w0 w w' : World} {P : Nat} {q : Nat → Nat} {S D : Nat → Ad} {X : Nat → Th} {N a b j k k2 : Nat}
set_option maxHeartbeats 8000000 in
set_option maxRecDepth 100000 in
theorem plays_enter (h : St w0 w P q S S XN N a b) (_hN : N < 8000) {B : Int} (hB : ∀ j, j < 2 → (S j).next ≤ B) (hB9 : B ≤ 900) (ha : a ≤ 3900) (hb : b ≤ 3900) (wh t n : Int) (p : Option Addr) (m c : Nat) (ht : L.U64 t) :
    Calls Tryz.prog 9 #[qp P, .agg #[.int .i64 2, .int .i64 wh, .slice p m c, .int .u64 t, .int .i64 n]] w fun e w' => e = .returned (.bool true) ∧ Nx w0 w' P (N + 2) (a + 3) (b + 4) (B + 1) := by
  have S0 : Hid (St w0 w P q S S XN N a b) := h
  have HBx : Hid (∀ j, j < 2 → (S j).next ≤ B) := hB
  have HT : Hid (L.U64 t) := ht
  clear h hB ht
  have t2 := tmod2 wh
  have e2 := sl2_is wh
  have hj := sl2_lt wh
  go_enter Tryz.func9, Tryz.ntmps9
  go_wp2_with fail
  rw [e2]
  have HA : Hid (St w0 (w.alloc (.cells #[.int .i64 2, .int .i64 wh, .slice p m c, .int .u64 t, .int .i64 n] 46)) P q S S (put XN 2 (.box w.heap.size (ocells 2 wh (.slice p m c) t n))) N a b) := S0.out.fresh (k := 2) (below_alloc w _) (by omega) (fun _ => heap_alloc_new w _) (fun b hb => by have e : b = w.heap.size := hb; omega)
  clear t2 e2 S0
  revert HA hj
  generalize sl2 wh = j
  generalize w.alloc (.cells #[.int .i64 2, .int .i64 wh, .slice p m c, .int .u64 t, .int .i64 n] 46) = w1
  intro hj HA
  obtain ⟨c0, c1⟩ := HA.out.cells hj
  have d0 : w1.drew.cell? ⟨P, j, none⟩ = some (qp (q j)) := c0
  have d1 : w1.drew.cell? ⟨P, 2 + j, none⟩ = some (qp (q (j + 2))) := c1
  have i1 : (j : Int) < 2 := by omega
  go_quiet (fail)
  have H2 : Hid (St w0 (w1.drewN nq) P q S S (put XN 2 (.box w.heap.size (ocells 2 wh (.slice p m c) t n))) N a b) := HA.out.later (below_drawn nq)
  clear c0 c1 d0 d1 HA
  revert H2
  generalize w1.drewN nq = wd
  intro H2
  have hnj : (S j).next ≤ 1000 := by have := HBx.out j hj; omega
  have z0 := (ocell (H2.out.box (k := 2) (by omega) rfl)).1
  have z1 := (ocell (H2.out.box (k := 2) (by omega) rfl)).2.1
  have z2 := (ocell (H2.out.box (k := 2) (by omega) rfl)).2.2.1
  have z3 := (ocell (H2.out.box (k := 2) (by omega) rfl)).2.2.2.1
  have z4 := (ocell (H2.out.box (k := 2) (by omega) rfl)).2.2.2.2
  have HNx : Hid (∀ i, i < 2 → (put S j (S j).entS i).next ≤ B + 1) := next_put HBx.out (by rw [next_ent]; have := HBx.out j hj; omega)
  have HFL : Hid ((S j).entF.length ≤ 16) := by
    show _ ≤ _
    unfold Ad.entF
    split
    · exact (H2.out.ok hj).flen
    · exact Nat.zero_le _
  go_wp2_with fail
  refine (s_enter (k := 0) H2.out hj (by omega) (by omega) hnj).mono ?_
  rintro e w3 ⟨p3, c3, rfl, h3⟩
  have H3 : Hid (St w0 w3 P q (put S j (S j).entS) S (put (put XN 2 (.box w.heap.size (ocells 2 wh (.slice p m c) t n))) 0 (.lf (.slice p3 (S j).entF.length c3) (S j).entF)) (N + 2) a b) := h3
  clear h3 H2 z0 z1 z2 z3 z4
  obtain ⟨qa, qa'⟩ := bne_self_i ((S j).entT)
  obtain ⟨qb, qb'⟩ := bne_self_i ((S j).entE)
  go_wp2_with fail
  refine (d_enter (k := 3) H3.out hj (by omega) hnj).mono ?_
  rintro e w4 ⟨p4, c4, rfl, h4⟩
  have H4 : Hid (St w0 w4 P q (put S j (S j).entS) (put S j (S j).entS) (put (put (put XN 2 (.box w.heap.size (ocells 2 wh (.slice p m c) t n))) 0 (.lf (.slice p3 (S j).entF.length c3) (S j).entF)) 3 (.im (.slice p4 (S j).entF.length c4) (S j).entF)) (N + 2) a b) := h4
  clear h4 H3
  go_wp2_with fail
  refine (form_at (k := 0) (k2 := 3) H4.out (by omega) rfl (by omega) rfl HFL.out (by omega)).mono ?_
  rintro e w5 ⟨rfl, h5⟩
  have H5 : Hid (St w0 w5 P q (put S j (S j).entS) (put S j (S j).entS) (put XN 2 (.box w.heap.size (ocells 2 wh (.slice p m c) t n))) (N + 2) (a + 1) b) := by
    have h6 := h5.drop (k := 3) (by omega)
    have ez : put (put (put (put (put XN 2 (.box w.heap.size (ocells 2 wh (.slice p m c) t n))) 0 (.lf (.slice p3 (S j).entF.length c3) (S j).entF)) 3 (.im (.slice p4 (S j).entF.length c4) (S j).entF)) 0 .no) 3 .no = (put XN 2 (.box w.heap.size (ocells 2 wh (.slice p m c) t n))) := by
      funext i
      simp only [put]
      by_cases i3 : i = 3
      · subst i3; simp
      by_cases i0 : i = 0
      · subst i0; simp
      simp [i3, i0]
    rw [ez] at h6
    exact h6
  clear h5 H4
  have z0 := (ocell (H5.out.box (k := 2) (by omega) rfl)).1
  have z1 := (ocell (H5.out.box (k := 2) (by omega) rfl)).2.1
  have z2 := (ocell (H5.out.box (k := 2) (by omega) rfl)).2.2.1
  have z3 := (ocell (H5.out.box (k := 2) (by omega) rfl)).2.2.2.1
  have z4 := (ocell (H5.out.box (k := 2) (by omega) rfl)).2.2.2.2
  go_wp2_with fail
  refine (tells_at H5.out hj (by have h9 := HNx.out j hj; omega) (by omega) (by omega) ⟨rfl, rfl, rfl, rfl, rfl⟩ HT.out).mono ?_
  rintro e w9 ⟨rfl, h9⟩
  have H9 : Hid (St w0 w9 P q (put S j (S j).entS) (put S j (S j).entS) (put XN 2 (.box w.heap.size (ocells 2 wh (.slice p m c) t n))) (N + 2) ((a + 1) + 2) (b + 4)) := h9
  clear h9 H5 z0 z1 z2 z3 z4
  go_wp2_with fail
  go_ret
  refine ⟨rfl, q, (put S j (S j).entS), ?_, HNx.out⟩
  have hz := H9.out.drop (k := 2) (by omega)
  rw [XN_box] at hz
  exact hz.mono (by omega) (by omega) (by omega)
set_option maxHeartbeats 8000000 in
set_option maxRecDepth 100000 in
theorem plays_begin (h : St w0 w P q S S XN N a b) (_hN : N < 8000) {B : Int} (hB : ∀ j, j < 2 → (S j).next ≤ B) (hB9 : B ≤ 900) (ha : a ≤ 3900) (hb : b ≤ 3900) (wh t n : Int) (p : Option Addr) (m c : Nat) (ht : L.U64 t) {xs : List Int} (hI : ∀ w', Below w0.heap.size w0 w' → Go.Proofs.YtnbegddpgmejnaaGreat.B.IIn w' p m xs) (hmc : m ≤ c) (hpc : p = none → c = 0) (hmm : m ≤ 9223372036854775807) :
    Calls Tryz.prog 9 #[qp P, .agg #[.int .i64 1, .int .i64 wh, .slice p m c, .int .u64 t, .int .i64 n]] w fun e w' => e = .returned (.bool true) ∧ Nx w0 w' P (N + 2) (a + 3) (b + 4) (B + 1) := by
  have S0 : Hid (St w0 w P q S S XN N a b) := h
  have HBx : Hid (∀ j, j < 2 → (S j).next ≤ B) := hB
  have HT : Hid (L.U64 t) := ht
  clear h hB ht
  have t2 := tmod2 wh
  have e2 := sl2_is wh
  have hj := sl2_lt wh
  go_enter Tryz.func9, Tryz.ntmps9
  go_wp2_with fail
  rw [e2]
  have HA : Hid (St w0 (w.alloc (.cells #[.int .i64 1, .int .i64 wh, .slice p m c, .int .u64 t, .int .i64 n] 46)) P q S S (put XN 2 (.box w.heap.size (ocells 1 wh (.slice p m c) t n))) N a b) := S0.out.fresh (k := 2) (below_alloc w _) (by omega) (fun _ => heap_alloc_new w _) (fun b hb => by have e : b = w.heap.size := hb; omega)
  clear t2 e2 S0
  revert HA hj
  generalize sl2 wh = j
  generalize w.alloc (.cells #[.int .i64 1, .int .i64 wh, .slice p m c, .int .u64 t, .int .i64 n] 46) = w1
  intro hj HA
  obtain ⟨c0, c1⟩ := HA.out.cells hj
  have d0 : w1.drew.cell? ⟨P, j, none⟩ = some (qp (q j)) := c0
  have d1 : w1.drew.cell? ⟨P, 2 + j, none⟩ = some (qp (q (j + 2))) := c1
  have i1 : (j : Int) < 2 := by omega
  go_quiet (fail)
  have H2 : Hid (St w0 (w1.drewN nq) P q S S (put XN 2 (.box w.heap.size (ocells 1 wh (.slice p m c) t n))) N a b) := HA.out.later (below_drawn nq)
  clear c0 c1 d0 d1 HA
  revert H2
  generalize w1.drewN nq = wd
  intro H2
  have hnj : (S j).next ≤ 1000 := by have := HBx.out j hj; omega
  have z0 := (ocell (H2.out.box (k := 2) (by omega) rfl)).1
  have z1 := (ocell (H2.out.box (k := 2) (by omega) rfl)).2.1
  have z2 := (ocell (H2.out.box (k := 2) (by omega) rfl)).2.2.1
  have z3 := (ocell (H2.out.box (k := 2) (by omega) rfl)).2.2.2.1
  have z4 := (ocell (H2.out.box (k := 2) (by omega) rfl)).2.2.2.2
  have HNx : Hid (∀ i, i < 2 → (put S j ((S j).begS (xs.take 100)) i).next ≤ B + 1) := next_put HBx.out (by have := next_beg (S j) (xs.take 100); have := HBx.out j hj; omega)
  have HI : Hid (∀ w', Below w0.heap.size w0 w' → Go.Proofs.YtnbegddpgmejnaaGreat.B.IIn w' p m xs) := hI
  clear hI
  go_wp2_with fail
  refine (begins_at H2.out hj (by omega) (by have := HBx.out j hj; omega) (by omega) ⟨rfl, rfl, rfl⟩ HI.out hmc hpc hmm).mono ?_
  rintro e w5 ⟨rfl, h5⟩
  have H5 : Hid (St w0 w5 P q (put S j ((S j).begS (xs.take 100))) (put S j ((S j).begS (xs.take 100))) (put XN 2 (.box w.heap.size (ocells 1 wh (.slice p m c) t n))) (N + 2) (a + 1) b) := h5
  clear h5 H2 z0 z1 z2 z3 z4 hmc hpc hmm
  have z0 := (ocell (H5.out.box (k := 2) (by omega) rfl)).1
  have z1 := (ocell (H5.out.box (k := 2) (by omega) rfl)).2.1
  have z2 := (ocell (H5.out.box (k := 2) (by omega) rfl)).2.2.1
  have z3 := (ocell (H5.out.box (k := 2) (by omega) rfl)).2.2.2.1
  have z4 := (ocell (H5.out.box (k := 2) (by omega) rfl)).2.2.2.2
  go_wp2_with fail
  refine (tells_at H5.out hj (by have h9 := HNx.out j hj; omega) (by omega) (by omega) ⟨rfl, rfl, rfl, rfl, rfl⟩ HT.out).mono ?_
  rintro e w9 ⟨rfl, h9⟩
  have H9 : Hid (St w0 w9 P q (put S j ((S j).begS (xs.take 100))) (put S j ((S j).begS (xs.take 100))) (put XN 2 (.box w.heap.size (ocells 1 wh (.slice p m c) t n))) (N + 2) ((a + 1) + 2) (b + 4)) := h9
  clear h9 H5 z0 z1 z2 z3 z4
  go_wp2_with fail
  go_ret
  refine ⟨rfl, q, (put S j ((S j).begS (xs.take 100))), ?_, HNx.out⟩
  have hz := H9.out.drop (k := 2) (by omega)
  rw [XN_box] at hz
  exact hz.mono (by omega) (by omega) (by omega)
end Go.Proofs.YtnbegddpgmejnaaGreat
namespace Go.Proofs.YtnbegddpgmejnaaGreat
open Go.RowKit

variable {w0 w w' : World} {P : Nat} {q : Nat → Nat} {S D : Nat → Ad} {X : Nat → Th} {N a b j k k2 : Nat}

theorem c_copy (h : St w0 w P q S D X N a b) (hj : j < 2) (hN : (S j).next ≤ 1000) : Calls Tryz.prog 7 #[qp (q j)] w fun e w' => ∃ F1 n1, e = .returned (qp F1.Q) ∧ St w0 w' P q S D (put X 0 (.led F1 n1 (S j))) N a b ∧ n1 ≤ N := by
  obtain ⟨T, G, F, n, hp, hs, e1, e2, e3, hl, hG⟩ := h.line hj
  rw [← e2]
  refine (copyL_at hl hN).mono ?_
  rintro e w' ⟨F', rfl, h1, h2, h3, h4⟩
  exact ⟨F', n, rfl, ⟨_, G, (hp.later h4).fresh hp (k := 8) (by omega) (u := .led F' n (S j)) ⟨h1, by rw [h3]; exact hG⟩ h2, hs.loose (k := 0) (by omega)⟩, e3⟩
theorem d_copy (h : St w0 w P q S D X N a b) (hj : j < 2) : Calls Tryz.prog 8 #[qp (q (j + 2))] w fun e w' => ∃ R1, e = .returned (qp R1) ∧ St w0 w' P q S D (put X 1 (.ref R1 (D j))) N a b := by
  obtain ⟨T, G, vW, vI, ws, is, hp, hs, hr, ok, hg⟩ := h.doc hj
  refine (rcopy_at hr).mono ?_
  rintro e w' ⟨rfl, h1, h2⟩
  exact ⟨w.heap.size, rfl, _, G, (hp.later h2).fresh hp (k := 9) (by omega) (u := .ref w.heap.size (D j)) ⟨⟨vW, vI, ws, is, h1⟩, ok⟩ (fun b hb => by have e : b = w.heap.size := hb; omega), hs.loose (k := 1) (by omega)⟩
/-- the other one becomes the copy -/
theorem St.swap {F1 : Ft} {n1 R1 kk : Nat} (h : St w0 w P q S S X N a b) (hj : j < 2) (hk : kk = 1 - j) (e0 : X 0 = .led F1 n1 (S j)) (e1 : X 1 = .ref R1 (S j)) (hn : n1 ≤ N) :
    w.cell? ⟨P, kk, none⟩ = some (qp (q kk)) ∧ w.frozen? ⟨P, kk, none⟩ = false ∧ (w.setCell ⟨P, kk, none⟩ (qp F1.Q)).cell? ⟨P, 2 + kk, none⟩ = some (qp (q (kk + 2))) ∧ (w.setCell ⟨P, kk, none⟩ (qp F1.Q)).frozen? ⟨P, 2 + kk, none⟩ = false ∧
      St w0 ((w.setCell ⟨P, kk, none⟩ (qp F1.Q)).setCell ⟨P, 2 + kk, none⟩ (qp R1)) P (put (put q kk F1.Q) (kk + 2) R1) (put S kk (S j)) (put S kk (S j)) (put (put X 0 .no) 1 .no) N a b := by
  have hkl : kk < 2 := by omega
  have hc := h.cells hkl
  obtain ⟨T, G, hp, hs⟩ := h
  have t8 : T 8 = .led F1 n1 (S j) := by rw [hs.x 0 (by omega)]; exact e0
  have t9 : T 9 = .ref R1 (S j) := by rw [hs.x 1 (by omega)]; exact e1
  have a8 : (Th.led F1 n1 (S j)).at w G := by have := hp.fam.at' 8 (by omega); rw [t8] at this; exact this
  have a9 : (Th.ref R1 (S j)).at w G := by have := hp.fam.at' 9 (by omega); rw [t9] at this; exact this
  have f1 := hp.fam.move (i := kk) (k := 8) (t := .led F1 n1 (S j)) (S := fun _ => False) (w' := w) (G' := G) (by omega) (by omega) a8 (Kept.refl _ _) (fun _ e => e.elim) (fun b hb => .inr (.inr ⟨by omega, by rw [t8]; exact hb⟩)) hp.below.size (fun _ hg => hg) (fun _ hg => .inl hg)
  have t9' : put (put T kk (.led F1 n1 (S j))) 8 .no 9 = .ref R1 (S j) := by rw [put_other _ _ (by omega), put_other _ _ (by omega)]; exact t9
  have f2 := f1.move (i := kk + 2) (k := 9) (t := .ref R1 (S j)) (S := fun _ => False) (w' := w) (G' := G) (by omega) (by omega) a9 (Kept.refl _ _) (fun _ e => e.elim) (fun b hb => .inr (.inr ⟨by omega, by rw [t9']; exact hb⟩)) hp.below.size (fun _ hg => hg) (fun _ hg => .inl hg)
  have hpf : ∀ i, i < 15 → ¬ (put (put (put (put T kk (.led F1 n1 (S j))) 8 .no) (kk + 2) (.ref R1 (S j))) 9 .no i).foot P := fun i hi hb => by
    by_cases i9 : i = 9
    · subst i9; rw [put_same] at hb; exact hb.elim
    rw [put_other _ _ i9] at hb
    by_cases ik2 : i = kk + 2
    · subst ik2; rw [put_same] at hb; exact hp.pf 9 (by omega) (by rw [t9]; exact hb)
    rw [put_other _ _ ik2] at hb
    by_cases i8 : i = 8
    · subst i8; rw [put_same] at hb; exact hb.elim
    rw [put_other _ _ i8] at hb
    by_cases ik : i = kk
    · subst ik; rw [put_same] at hb; exact hp.pf 8 (by omega) (by rw [t8]; exact hb)
    rw [put_other _ _ ik] at hb
    exact hp.pf i hi hb
  have p1 := L.st_set kk (qp F1.Q) hp.pr
  have p2 := L.st_set (2 + kk) (qp R1) p1
  have kp : Kept (· = P) w ((w.setCell ⟨P, kk, none⟩ (qp F1.Q)).setCell ⟨P, 2 + kk, none⟩ (qp R1)) := (Kept.setCell P kk _).trans (Kept.setCell P (2 + kk) _) (fun _ _ e => e)
  refine ⟨hc.1, hp.free kk, ?_, by simp [World.frozen?, p1], _, G, ⟨f2.far kp (fun l hl b hb e => by have e' : b = P := e; subst e'; exact hpf l hl hb) (fun g hg e => by have e' : g = P := e; subst e'; exact hp.pg hg), ?_, hp.plo, hpf, hp.pg, kp.into hp.below (fun b hb e => by have e' : b = P := e; have := hp.plo; omega) (Nat.le_refl _)⟩, ?_⟩
  · have h2 := hc.2
    rw [cell_of_row _ P (2 + kk) _ 41 (0, 0) hp.pr] at h2
    rw [cell_of_row _ P (2 + kk) _ 41 (0, 0) p1]
    rcases (show kk = 0 ∨ kk = 1 by omega) with rfl | rfl <;> exact h2
  · rw [p2]
    congr 2
    rcases (show kk = 0 ∨ kk = 1 by omega) with rfl | rfl <;> rfl
  · have hx : ∀ i, i ≠ kk → i ≠ kk + 2 → i ≠ 8 → i ≠ 9 → (put (put (put (put T kk (.led F1 n1 (S j))) 8 .no) (kk + 2) (.ref R1 (S j))) 9 .no) i = T i := fun i h1 h2 h3 h4 => by
      rw [put_other _ _ h4, put_other _ _ h2, put_other _ _ h3, put_other _ _ h1]
    refine ⟨fun i hi => ?_, fun i hi => ?_, ?_, ?_, fun i hi => ?_⟩
    · by_cases e : i = kk
      · subst e
        rw [put_other _ _ (by omega), put_other _ _ (by omega), put_other _ _ (by omega), put_same, put_same]
        exact ⟨F1, n1, rfl, by rw [put_other _ _ (by omega), put_same], hn⟩
      · rw [hx i e (by omega) (by omega) (by omega), put_other _ _ e, put_other _ _ (by omega), put_other _ _ e]
        exact hs.led i hi
    · by_cases e : i = kk
      · subst e
        rw [put_other _ _ (by omega), put_same, put_same, put_same]
      · rw [hx (i + 2) (by omega) (by omega) (by omega) (by omega), put_other _ _ (by omega), put_other _ _ (by omega), put_other _ _ e]
        exact hs.ref i hi
    · rw [hx 4 (by omega) (by omega) (by omega) (by omega), hx 5 (by omega) (by omega) (by omega) (by omega)]; exact hs.fo
    · rw [hx 6 (by omega) (by omega) (by omega) (by omega), hx 7 (by omega) (by omega) (by omega) (by omega)]; exact hs.li
    · by_cases i0 : i = 0
      · subst i0
        rw [put_other _ _ (by omega), put_other _ _ (by omega), put_same, put_other _ _ (by omega), put_same]
      by_cases i1 : i = 1
      · subst i1
        rw [put_same, put_same]
      · rw [hx (8 + i) (by omega) (by omega) (by omega) (by omega), put_other _ _ i1, put_other _ _ i0]
        exact hs.x i hi
set_option maxHeartbeats 8000000 in
set_option maxRecDepth 100000 in
theorem plays_copy (h : St w0 w P q S S XN N a b) (_hN : N < 8000) {B : Int} (hB : ∀ j, j < 2 → (S j).next ≤ B) (hB9 : B ≤ 900) (ha : a ≤ 3900) (hb : b ≤ 3900) (wh t n : Int) (p : Option Addr) (m c : Nat) (ht : L.U64 t) :
    Calls Tryz.prog 9 #[qp P, .agg #[.int .i64 7, .int .i64 wh, .slice p m c, .int .u64 t, .int .i64 n]] w fun e w' => e = .returned (.bool true) ∧ Nx w0 w' P (N + 2) (a + 3) (b + 4) (B + 1) := by
  have S0 : Hid (St w0 w P q S S XN N a b) := h
  have HBx : Hid (∀ j, j < 2 → (S j).next ≤ B) := hB
  have HT : Hid (L.U64 t) := ht
  clear h hB ht
  have t2 := tmod2 wh
  have e2 := sl2_is wh
  have hj := sl2_lt wh
  go_enter Tryz.func9, Tryz.ntmps9
  go_wp2_with fail
  rw [e2]
  have HA : Hid (St w0 (w.alloc (.cells #[.int .i64 7, .int .i64 wh, .slice p m c, .int .u64 t, .int .i64 n] 46)) P q S S (put XN 2 (.box w.heap.size (ocells 7 wh (.slice p m c) t n))) N a b) := S0.out.fresh (k := 2) (below_alloc w _) (by omega) (fun _ => heap_alloc_new w _) (fun b hb => by have e : b = w.heap.size := hb; omega)
  clear t2 e2 S0
  revert HA hj
  generalize sl2 wh = j
  generalize w.alloc (.cells #[.int .i64 7, .int .i64 wh, .slice p m c, .int .u64 t, .int .i64 n] 46) = w1
  intro hj HA
  obtain ⟨c0, c1⟩ := HA.out.cells hj
  have d0 : w1.drew.cell? ⟨P, j, none⟩ = some (qp (q j)) := c0
  have d1 : w1.drew.cell? ⟨P, 2 + j, none⟩ = some (qp (q (j + 2))) := c1
  have i1 : (j : Int) < 2 := by omega
  go_quiet (fail)
  have H2 : Hid (St w0 (w1.drewN nq) P q S S (put XN 2 (.box w.heap.size (ocells 7 wh (.slice p m c) t n))) N a b) := HA.out.later (below_drawn nq)
  clear c0 c1 d0 d1 HA
  revert H2
  generalize w1.drewN nq = wd
  intro H2
  have hnj : (S j).next ≤ 1000 := by have := HBx.out j hj; omega
  obtain ⟨kk, hk⟩ : ∃ kk, kk = 1 - j := ⟨_, rfl⟩
  have hkw : IntKind.i64.wrap (1 - (j : Int)) = (kk : Int) := by rw [IntKind.wrap_i64]; omega
  have hk2 : (kk : Int) < 2 := by omega
  have HK : Hid (kk = 1 - j) := hk
  have HNx : Hid (∀ i, i < 2 → (put S kk (S j) i).next ≤ B + 1) := next_put HBx.out (by have := HBx.out j hj; omega)
  clear i1 hk
  have z0 := (ocell (H2.out.box (k := 2) (by omega) rfl)).1
  have z1 := (ocell (H2.out.box (k := 2) (by omega) rfl)).2.1
  have z2 := (ocell (H2.out.box (k := 2) (by omega) rfl)).2.2.1
  have z3 := (ocell (H2.out.box (k := 2) (by omega) rfl)).2.2.2.1
  have z4 := (ocell (H2.out.box (k := 2) (by omega) rfl)).2.2.2.2
  go_wp2_with fail
  refine wp_region_noPanic ?_
  refine wp_region_held_drew (S := fun _ => True) (by kernel_rfl) trivial (fun hHeld => ?_)
  have H3 : Hid (St w0 wd.drew P q S S (put XN 2 (.box w.heap.size (ocells 7 wh (.slice p m c) t n))) N a b) := H2.out.later (below_drew wd)
  clear H2 z0 z1 z2 z3 z4
  generalize wd.drew = we at *
  refine wpAnyH_take (i := 0) (v := ?va1) (by simp; rfl) (by kernel_rfl) (by kernel_rfl) (by kernel_rfl) (fun _ _ _ h => h) (Or.inl ⟨by rfl, ?ya1⟩) hHeld ?ra1
  case ya1 => intro w hSw; clear hSw; go_simp; with_reducible rfl
  simp only [Act.put, List.setIfInBounds_toArray, List.set_cons_zero, List.set_cons_succ]
  refine wpAnyH_take (i := 1) (v := ?va2) (by simp; rfl) (by kernel_rfl) (by kernel_rfl) (by kernel_rfl) (fun _ _ _ h => h) (Or.inl ⟨by rfl, ?ya2⟩) hHeld ?ra2
  case ya2 => intro w hSw; clear hSw; go_simp; with_reducible rfl
  simp only [Act.put, List.setIfInBounds_toArray, List.set_cons_zero, List.set_cons_succ]
  refine wpAnyH_take (i := 2) (v := ?va3) (by simp; rfl) (by kernel_rfl) (by kernel_rfl) (by kernel_rfl) (fun _ _ _ h => h) (Or.inl ⟨by rfl, ?ya3⟩) hHeld ?ra3
  case ya3 => intro w hSw; clear hSw; go_simp; with_reducible rfl
  simp only [Act.put, List.setIfInBounds_toArray, List.set_cons_zero, List.set_cons_succ]
  refine wpAnyH_take (i := 3) (v := ?va4) (by simp; rfl) (by kernel_rfl) (by kernel_rfl) (by kernel_rfl) (fun _ _ _ h => h) (Or.inl ⟨by rfl, ?ya4⟩) hHeld ?ra4
  case ya4 => intro w hSw; clear hSw; go_simp; with_reducible rfl
  simp only [Act.put, List.setIfInBounds_toArray, List.set_cons_zero, List.set_cons_succ]
  refine wpAnyH_take (i := 4) (v := ?va5) (by simp; rfl) (by kernel_rfl) (by kernel_rfl) (by kernel_rfl) (fun _ _ _ h => h) (Or.inl ⟨by rfl, ?ya5⟩) hHeld ?ra5
  case ya5 => intro w hSw; clear hSw; go_simp; with_reducible rfl
  simp only [Act.put, List.setIfInBounds_toArray, List.set_cons_zero, List.set_cons_succ]
  refine wpAnyH_take (i := 5) (v := ?va6) (by simp; rfl) (by kernel_rfl) (by kernel_rfl) (by kernel_rfl) (fun _ _ _ h => h) (Or.inl ⟨by rfl, ?ya6⟩) hHeld ?ra6
  case ya6 => intro w hSw; clear hSw; go_simp; with_reducible rfl
  simp only [Act.put, List.setIfInBounds_toArray, List.set_cons_zero, List.set_cons_succ]
  refine wpAnyH_take (i := 6) (v := ?va7) (by simp; rfl) (by kernel_rfl) (by kernel_rfl) (by kernel_rfl) (fun _ _ _ h => h) (Or.inl ⟨by rfl, ?ya7⟩) hHeld ?ra7
  case ya7 => intro w hSw; clear hSw; go_simp; with_reducible rfl
  simp only [Act.put, List.setIfInBounds_toArray, List.set_cons_zero, List.set_cons_succ]
  refine wpAnyH_take (i := 8) (v := ?va8) (by simp; rfl) (by kernel_rfl) (by kernel_rfl) (by kernel_rfl) (fun _ _ _ h => h) (Or.inl ⟨by rfl, ?ya8⟩) hHeld ?ra8
  case ya8 => intro w hSw; clear hSw; go_simp; with_reducible rfl
  simp only [Act.put, List.setIfInBounds_toArray, List.set_cons_zero, List.set_cons_succ]
  refine wpAnyH_take (i := 10) (v := ?va9) (by simp; rfl) (by kernel_rfl) (by kernel_rfl) (by kernel_rfl) (fun _ _ _ h => h) (Or.inl ⟨by rfl, ?ya9⟩) hHeld ?ra9
  case ya9 => intro w hSw; clear hSw; go_simp; with_reducible rfl
  simp only [Act.put, List.setIfInBounds_toArray, List.set_cons_zero, List.set_cons_succ]
  refine wpAnyH_take (i := 11) (v := ?va10) (by simp; rfl) (by kernel_rfl) (by kernel_rfl) (by kernel_rfl) (fun _ _ _ h => h) (Or.inl ⟨by rfl, ?ya10⟩) hHeld ?ra10
  case ya10 => intro w hSw; clear hSw; go_simp; with_reducible rfl
  simp only [Act.put, List.setIfInBounds_toArray, List.set_cons_zero, List.set_cons_succ]
  refine wpAnyH_take (i := 14) (v := ?va11) (by simp; rfl) (by kernel_rfl) (by kernel_rfl) (by kernel_rfl) (fun _ _ _ h => h) (Or.inl ⟨by rfl, ?ya11⟩) hHeld ?ra11
  case ya11 => intro w hSw; clear hSw; go_simp; with_reducible rfl
  simp only [Act.put, List.setIfInBounds_toArray, List.set_cons_zero, List.set_cons_succ]
  refine wpAnyH_take (i := 15) (v := ?va12) (by simp; rfl) (by kernel_rfl) (by kernel_rfl) (by kernel_rfl) (fun _ _ _ h => h) (Or.inl ⟨by rfl, ?ya12⟩) hHeld ?ra12
  case ya12 => intro w hSw; clear hSw; go_simp; with_reducible rfl
  simp only [Act.put, List.setIfInBounds_toArray, List.set_cons_zero, List.set_cons_succ]
  refine wpAnyH_ready (rs := [7]) (by kernel_rfl) (by simp) ?_
  refine AllReadyH.cons (by simp; rfl) (fun Kc hKc => ?_) AllReadyH.nil
  go_simp
  refine (c_copy H3.out hj hnj).mono ?_
  rintro e w4 ⟨F1, n1, rfl, h4, hn1⟩
  have A4 : Hid (St w0 w4 P q S S (put (put XN 2 (.box w.heap.size (ocells 7 wh (.slice p m c) t n))) 0 (.led F1 n1 (S j))) N a b ∧ n1 ≤ N) := ⟨h4, hn1⟩
  clear h4 hn1 H3
  refine hKc.out _ _ trivial (fun hHeld => ?_)
  clear hKc Kc
  refine wpAnyH_ready (rs := [9]) (by kernel_rfl) (by simp) ?_
  refine AllReadyH.cons (by simp; rfl) (fun Kc hKc => ?_) AllReadyH.nil
  go_simp
  refine (d_copy A4.out.1 hj).mono ?_
  rintro e w5 ⟨R1, rfl, h5⟩
  have A5 : Hid (St w0 w5 P q S S (put (put (put XN 2 (.box w.heap.size (ocells 7 wh (.slice p m c) t n))) 0 (.led F1 n1 (S j))) 1 (.ref R1 (S j))) N a b) := h5
  obtain ⟨x1, f1, x2, f2, h6⟩ := A5.out.swap hj HK.out rfl rfl A4.out.2
  have A6 : Hid (St w0 ((w5.setCell ⟨P, kk, none⟩ (qp F1.Q)).setCell ⟨P, 2 + kk, none⟩ (qp R1)) P (put (put q kk F1.Q) (kk + 2) R1) (put S kk (S j)) (put S kk (S j)) (put XN 2 (.box w.heap.size (ocells 7 wh (.slice p m c) t n))) N a b ∧ ((w5.setCell ⟨P, kk, none⟩ (qp F1.Q)).setCell ⟨P, 2 + kk, none⟩ (qp R1)).cell? ⟨P, kk, none⟩ = some (qp F1.Q)) := by
    have ez : put (put (put (put (put XN 2 (.box w.heap.size (ocells 7 wh (.slice p m c) t n))) 0 (.led F1 n1 (S j))) 1 (.ref R1 (S j))) 0 .no) 1 .no = (put XN 2 (.box w.heap.size (ocells 7 wh (.slice p m c) t n))) := by
      funext i
      simp only [put]
      by_cases i1 : i = 1
      · subst i1; simp
      by_cases i0 : i = 0
      · subst i0; simp
      simp [i1, i0]
    rw [ez] at h6
    refine ⟨h6, ?_⟩
    have h7 := (h6.cells (j := kk) (by have := HK.out; omega)).1
    rw [put_other _ _ (by omega), put_same] at h7
    exact h7
  clear h5 A4 h6 A5
  refine hKc.out _ _ trivial (fun hHeld => ?_)
  clear hKc Kc
  refine wpAnyH_take (i := 12) (v := ?va13) (by simp; rfl) (by kernel_rfl) (by kernel_rfl) (by kernel_rfl) (fun _ _ _ h => h) (Or.inl ⟨by rfl, ?ya13⟩) hHeld ?ra13
  case ya13 => intro w hSw; clear hSw; go_simp; with_reducible rfl
  simp only [Act.put, List.setIfInBounds_toArray, List.set_cons_zero, List.set_cons_succ]
  refine wpAnyH_ready (rs := [13]) (by kernel_rfl) (by simp) ?_
  refine AllReadyH.cons (by simp; rfl) (fun Kc hKc => ?_) AllReadyH.nil
  go_simp
  refine hKc.out _ _ trivial (fun hHeld => ?_)
  clear hKc Kc
  refine wpAnyH_take (i := 16) (v := ?va14) (by simp; rfl) (by kernel_rfl) (by kernel_rfl) (by kernel_rfl) (fun _ _ _ h => h) (Or.inl ⟨by rfl, ?ya14⟩) hHeld ?ra14
  case ya14 => intro w hSw; clear hSw; go_simp; with_reducible rfl
  simp only [Act.put, List.setIfInBounds_toArray, List.set_cons_zero, List.set_cons_succ]
  refine wpAnyH_ready (rs := [17]) (by kernel_rfl) (by simp) ?_
  refine AllReadyH.cons (by simp; rfl) (fun Kc hKc => ?_) AllReadyH.nil
  go_simp
  refine hKc.out _ _ trivial (fun hHeld => ?_)
  clear hKc Kc
  clear hHeld
  refine wpAnyH_done (by kernel_rfl) (NoPanic.normal ?_) _
  clear x1 f1 x2 f2
  have y1 := A6.out.2
  have A7 : Hid (St w0 ((w5.setCell ⟨P, kk, none⟩ (qp F1.Q)).setCell ⟨P, 2 + kk, none⟩ (qp R1)) P (put (put q kk F1.Q) (kk + 2) R1) (put S kk (S j)) (put S kk (S j)) (put XN 2 (.box w.heap.size (ocells 7 wh (.slice p m c) t n))) N a b) := A6.out.1
  clear A6
  generalize (w5.setCell ⟨P, kk, none⟩ (qp F1.Q)).setCell ⟨P, 2 + kk, none⟩ (qp R1) = w7 at *
  have z0 := (ocell (A7.out.box (k := 2) (by omega) rfl)).1
  have z1 := (ocell (A7.out.box (k := 2) (by omega) rfl)).2.1
  have z2 := (ocell (A7.out.box (k := 2) (by omega) rfl)).2.2.1
  have z3 := (ocell (A7.out.box (k := 2) (by omega) rfl)).2.2.2.1
  have z4 := (ocell (A7.out.box (k := 2) (by omega) rfl)).2.2.2.2
  go_wp2_with fail
  refine (tells_at A7.out hj (by have h9 := HNx.out j hj; omega) (by omega) (by omega) ⟨rfl, rfl, rfl, rfl, rfl⟩ HT.out).mono ?_
  rintro e w9 ⟨rfl, h9⟩
  have H9 : Hid (St w0 w9 P (put (put q kk F1.Q) (kk + 2) R1) (put S kk (S j)) (put S kk (S j)) (put XN 2 (.box w.heap.size (ocells 7 wh (.slice p m c) t n))) (N) (a + 2) (b + 4)) := h9
  clear h9 A7 z0 z1 z2 z3 z4
  go_wp2_with fail
  go_ret
  refine ⟨rfl, (put (put q kk F1.Q) (kk + 2) R1), (put S kk (S j)), ?_, HNx.out⟩
  have hz := H9.out.drop (k := 2) (by omega)
  rw [XN_box] at hz
  exact hz.mono (by omega) (by omega) (by omega)
end Go.Proofs.YtnbegddpgmejnaaGreat
namespace Go.Proofs.YtnbegddpgmejnaaGreat
open Go.RowKit

variable {w0 w w' : World} {P : Nat} {q : Nat → Nat} {S D : Nat → Ad} {X : Nat → Th} {N a b j k k2 : Nat}

theorem plays_any {Bx : Int} (h : Nx w0 w P N a b Bx) (hN : N < 8000) (hB9 : Bx ≤ 900) (ha : a ≤ 3900) (hb : b ≤ 3900) (kd wh t n : Int) (p : Option Addr) (m c : Nat) (ht : L.U64 t) {xs : List Int} (hI : ∀ w', Below w0.heap.size w0 w' → B.IIn w' p m xs) (hmc : m ≤ c) (hpc : p = none → c = 0) (hmm : m ≤ 9223372036854775807) :
    Calls Tryz.prog 9 #[qp P, .agg #[.int .i64 kd, .int .i64 wh, .slice p m c, .int .u64 t, .int .i64 n]] w fun e w' => e = .returned (.bool true) ∧ Nx w0 w' P (N + 2) (a + 3) (b + 4) (Bx + 1) := by
  obtain ⟨q, S, h, hB⟩ := h
  by_cases k1 : kd = 1
  · subst k1; exact plays_begin h hN hB hB9 ha hb wh t n p m c ht hI hmc hpc hmm
  by_cases k2 : kd = 2
  · subst k2; exact plays_enter h hN hB hB9 ha hb wh t n p m c ht
  by_cases k3 : kd = 3
  · subst k3; exact plays_append h hN hB hB9 ha hb wh t n p m c ht
  by_cases k4 : kd = 4
  · subst k4; exact plays_done h hN hB hB9 ha hb wh t n p m c ht
  by_cases k5 : kd = 5
  · subst k5; exact plays_leave h hN hB hB9 ha hb wh t n p m c ht
  by_cases k6 : kd = 6
  · subst k6; exact plays_freed h hN hB hB9 ha hb wh t n p m c ht
  by_cases k7 : kd = 7
  · subst k7; exact plays_copy h hN hB hB9 ha hb wh t n p m c ht
  exact plays_none h hN hB hB9 ha hb kd wh t n p m c ht k1 k2 k3 k4 k5 k6 k7
theorem Fam.fresh' {we : World} {T : Nat → Th} {G : Nat → Prop} (h : Fam w0 w T G) (he : Fam w0 we T G) {k : Nat} {u : Th} (hu : u.at w G) (hf : ∀ b, u.foot b → we.heap.size ≤ b) (hw : w0.heap.size ≤ we.heap.size) : Fam w0 w (put T k u) G :=
  h.add hu fun b hb => ⟨Nat.le_trans hw (hf b hb), fun hg => by have := he.glt b hg; have := hf b hb; omega, fun j hj _ hx => by have := Th.lt (he.at' j hj) hx; have := hf b hb; omega⟩
/-- the two lines are made -/
theorem begun {w1 w2 w3 w4 w5 : World} {F F' : Ft} {R : Nat} {A : Ad} (hb1 : Below w.heap.size w w1) (hl : PL w2 F 0 A) (hF : ∀ b, F.has b → w1.heap.size ≤ b) (hG : ∀ g, ¬ F.G g) (hb2 : Below w1.heap.size w1 w2) (hr : RL w3 (fun _ => False) R nils nils A [] []) (hR : w2.heap.size ≤ R) (hb3 : Below w2.heap.size w2 w3) (hl' : PL w4 F' 0 A) (hF' : ∀ b, F'.has b → w3.heap.size ≤ b) (hG' : F'.G = F.G) (hb4 : Below w3.heap.size w3 w4) (hr' : RL w5 (fun _ => False) w4.heap.size nils nils A [] []) (hb5 : Below w4.heap.size w4 w5) (hn : A.next ≤ 1) :
    Nx w (w5.alloc (.cells #[qp F.Q, qp F'.Q, qp R, qp w4.heap.size, nils, nils, nils, nils] 41)) w5.heap.size 0 0 0 1 := by
  have f1 : Fam w w1 XN (fun _ => False) := ⟨fun _ _ => trivial, fun _ _ _ h => h.elim, fun _ _ _ _ _ _ h => h.elim, fun _ _ _ h => h.elim, fun _ h => h.elim⟩
  have f2 := (f1.later hb2).fresh' f1 (k := 0) (u := .led F 0 A) ⟨hl, fun g hg => hG g hg⟩ hF hb1.size
  have s2 := Nat.le_trans hb1.size hb2.size
  have f3 := (f2.later hb3).fresh' f2 (k := 2) (u := .ref R A) ⟨⟨nils, nils, [], [], hr⟩, hl.ok⟩ (fun b hb => by have e : b = R := hb; omega) s2
  have s3 := Nat.le_trans s2 hb3.size
  have f4 := (f3.later hb4).fresh' f3 (k := 1) (u := .led F' 0 A) ⟨hl', fun g hg => hG g (by rw [← hG']; exact hg)⟩ hF' s3
  have s4 := Nat.le_trans s3 hb4.size
  have f5 := (f4.later hb5).fresh' f4 (k := 3) (u := .ref w4.heap.size A) ⟨⟨nils, nils, [], [], hr'⟩, hl.ok⟩ (fun b hb => by have e : b = w4.heap.size := hb; omega) s4
  have s5 := Nat.le_trans s4 hb5.size
  have nof : ∀ b, ¬ LFt nils [] b := fun b hb => by
    rcases hb with h | ⟨u, hu, _⟩
    · cases h
    · cases hu
  have f6 := (((f5.add (k := 4) (u := .il nils [] []) (Lists.nil _ _ _ _) (fun b hb => (nof b hb).elim)).add (k := 5) (u := .il nils [] []) (Lists.nil _ _ _ _) (fun b hb => (nof b hb).elim)).add (k := 6) (u := .ul nils [] []) (Lists.nil _ _ _ _) (fun b hb => (nof b hb).elim)).add (k := 7) (u := .ul nils [] []) (Lists.nil _ _ _ _) (fun b hb => (nof b hb).elim)
  have f7 := f6.later (below_alloc w5 (.cells #[qp F.Q, qp F'.Q, qp R, qp w4.heap.size, nils, nils, nils, nils] 41))
  have hbelow : Below w.heap.size w (w5.alloc (.cells #[qp F.Q, qp F'.Q, qp R, qp w4.heap.size, nils, nils, nils, nils] 41)) := below_then hb1 (below_then hb2 (below_then hb3 (below_then hb4 (below_then hb5 (below_alloc w5 _)))))
  refine ⟨put (put (put (put (fun _ => 0) 0 F.Q) 1 F'.Q) 2 R) 3 w4.heap.size, fun _ => A, ⟨_, _, ⟨f7, heap_alloc_new w5 _, s5, fun i hi hb => ?_, fun h => h, hbelow⟩, ⟨fun j hj => ?_, fun j hj => ?_, ?_, ?_, fun i hi => ?_⟩⟩, fun j hj => hn⟩
  · have := Th.lt (f6.at' i hi) hb
    omega
  · rcases (show j = 0 ∨ j = 1 by omega) with rfl | rfl
    · exact ⟨F, 0, rfl, rfl, Nat.le_refl _⟩
    · exact ⟨F', 0, rfl, rfl, Nat.le_refl _⟩
  · rcases (show j = 0 ∨ j = 1 by omega) with rfl | rfl <;> rfl
  · exact ⟨nils, [], nils, [], [], rfl, rfl, Nat.le_refl _, fun f hf => by cases hf⟩
  · exact ⟨nils, [], nils, [], [], rfl, rfl, Nat.le_refl _, fun f hf => by cases hf⟩
  · rcases (show i = 0 ∨ i = 1 ∨ i = 2 ∨ i = 3 ∨ i = 4 ∨ i = 5 by omega) with rfl | rfl | rfl | rfl | rfl | rfl <;> rfl
/-- a step, and its set -/
structure OpV where
  kd : Int
  wh : Int
  p : Option Addr
  m : Nat
  c : Nat
  t : Int
  k : Int
abbrev opcells (o : OpV) : Array Value := #[.int .i64 o.kd, .int .i64 o.wh, .slice o.p o.m o.c, .int .u64 o.t, .int .i64 o.k]
structure OpOk (w : World) (o : OpV) (xs : List Int) : Prop where
  i : B.IIn w o.p o.m xs
  mc : o.m ≤ o.c
  nl : o.p = none → o.c = 0
  u : L.U64 o.t
  mm : o.m ≤ 9223372036854775807
theorem OpOk.later {o : OpV} {xs : List Int} (h : OpOk w o xs) (hb : Below w.heap.size w w') : OpOk w' o xs := ⟨h.i.later hb, h.mc, h.nl, h.u, h.mm⟩
structure ScIn (w : World) (p : Option Addr) (n : Nat) (f : Nat → OpV) (g : Nat → List Int) : Prop where
  cells : 0 < n → ∃ b o, p = some ⟨b, o, none⟩ ∧ ∀ i, i < n → w.rangeAt b (o + i * 5) (opcells (f i)).toList
  each : ∀ i, i < n → OpOk w (f i) (g i)
theorem ScIn.later {p : Option Addr} {n : Nat} {f : Nat → OpV} {g : Nat → List Int} (h : ScIn w p n f g) (hb : Below w.heap.size w w') : ScIn w' p n f g := by
  refine ⟨fun h0 => ?_, fun i hi => (h.each i hi).later hb⟩
  obtain ⟨b, o, rfl, hc⟩ := h.cells h0
  refine ⟨b, o, rfl, fun i hi j u hj => ?_⟩
  have := hc i hi j u hj
  exact (hb.cell (p := ⟨b, o + i * 5 + j, none⟩) (World.block_lt_of_cell? w _ this)).trans this
theorem Nx.below {Bx : Int} (h : Nx w0 w P N a b Bx) : Below w0.heap.size w0 w := by
  obtain ⟨q, S, h, _⟩ := h
  exact h.below
theorem tells_0 {Bx : Int} (h : Nx w0 w P N a b Bx) (hB : Bx ≤ 1000) (ha : a ≤ 4000) (hb : b ≤ 4000) : Calls Tryz.prog 10 #[qp P, .int .i64 0, .int .u64 1] w fun e w' => e = .returned (.bool true) ∧ Nx w0 w' P N (a + 2) (b + 4) Bx := by
  obtain ⟨q, S, h, h2⟩ := h
  exact (tells_at (j := 0) (t := 1) h (by omega) (Int.le_trans (h2 0 (by omega)) hB) ha hb ⟨rfl, rfl, rfl, rfl, rfl⟩ (u64_small (by decide) (by decide))).mono fun e w' ⟨h3, h4⟩ => ⟨h3, q, S, h4, h2⟩
theorem tells_1 {Bx : Int} (h : Nx w0 w P N a b Bx) (hB : Bx ≤ 1000) (ha : a ≤ 4000) (hb : b ≤ 4000) : Calls Tryz.prog 10 #[qp P, .int .i64 1, .int .u64 1] w fun e w' => e = .returned (.bool true) ∧ Nx w0 w' P N (a + 2) (b + 4) Bx := by
  obtain ⟨q, S, h, h2⟩ := h
  exact (tells_at (j := 1) (t := 1) h (by omega) (Int.le_trans (h2 1 (by omega)) hB) ha hb ⟨rfl, rfl, rfl, rfl, rfl⟩ (u64_small (by decide) (by decide))).mono fun e w' ⟨h3, h4⟩ => ⟨h3, q, S, h4, h2⟩
end Go.Proofs.YtnbegddpgmejnaaGreat
