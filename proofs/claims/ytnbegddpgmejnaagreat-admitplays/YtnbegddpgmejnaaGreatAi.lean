/-
  Layer 13: Enter, Copy.
-/
import Derived.Test.YtnbegddpgmejnaaGreatAh
namespace Go.Proofs.YtnbegddpgmejnaaGreat
open Go.RowKit


section
variable {w w' : World} {F : Ft} {n : Nat} {a : Ad}
/-- Enter -/
theorem enter_at (h : PL w F n a) (hn : n < 10000) (hN : a.next ≤ 1000) :
    Calls Tryz.prog 15 #[qp F.Q] w fun e w' => ∃ q d v1' v2', e = .returned (.tuple #[.int .u64 a.entT, .slice q a.entF.length d, .int .i64 a.entE]) ∧ w'.ownsRow w.heap.size 3 1 (.slice q a.entF.length d) a.entF.length (B.I64 a.entF) ∧ PL w' { F with v1 := v1', v2 := v2' } (n + 1) a.entS ∧ blk v1' = blk F.v1 ∧ (blk v2' = blk F.v2 ∨ ∃ g, blk v2' = some g ∧ w.heap.size ≤ g) ∧ Kept F.has w w' := by
  cases hW : a.W with
  | nil =>
    have e1 : a.entE = 110 := by simp [Ad.entE, hW]
    have e2 : a.entT = 0 ∧ a.entF = [] ∧ a.entS = a := by simp [Ad.entT, Ad.entF, Ad.entS, e1]
    rw [e1, e2.1, e2.2.1, e2.2.2]
    refine (enter_no h hN (by simp [Ad.isW, hW])).mono ?_
    rintro e w' ⟨rfl, hb⟩
    exact ⟨none, 0, F.v1, F.v2, rfl, World.ownsRow_nil _ _ _ _, (h.later hb).mono (Nat.le_succ n), rfl, .inl rfl, Kept.of_below _ hb⟩
  | cons x r =>
    cases hf : a.fits with
    | false =>
      have e1 : a.entE = 120 := by simp [Ad.entE, hW, hf]
      have e2 : a.entT = 0 ∧ a.entF = [] ∧ a.entS = a := by simp [Ad.entT, Ad.entF, Ad.entS, e1]
      rw [e1, e2.1, e2.2.1, e2.2.2]
      refine (enter_room h hn hN hW hf).mono ?_
      rintro e w' ⟨rfl, hp, hk⟩
      exact ⟨none, 0, F.v1, F.v2, rfl, World.ownsRow_nil _ _ _ _, hp, rfl, .inl rfl, hk⟩
    | true =>
      have e1 : a.entE = 0 := by simp [Ad.entE, hW, hf]
      have e2 : a.entT = x.1 ∧ a.entF = x.2 ∧ a.entS = { a with W := r, I := a.I ++ [(x.1, x.2, (x.2.length : Int) + 1)], got := x.1 } := by simp [Ad.entT, Ad.entF, Ad.entS, e1, Ad.fT, Ad.fF, hW]
      have hok := h.ok.ent
      rw [e2.2.2] at hok
      rw [e1, e2.1, e2.2.1, e2.2.2]
      exact enter_ok h hn hN hW hf hok
set_option maxHeartbeats 2000000 in
set_option maxRecDepth 100000 in
theorem copy_nilL (w : World) : Calls Tryz.prog 7 #[nilq] w fun e w' => e = .returned nilq ∧ w' = w := by
  go_enter Tryz.func7, Tryz.ntmps7
  go_wp2
  go_ret
  exact ⟨rfl, rfl⟩
abbrev tcells (a : Ad) (p1 p2 m b : Value) : Array Value := #[.int .i64 a.bl, .int .i64 a.lc, .int .i64 a.mr, .int .i64 a.hi, .int .i64 a.cl, .int .u64 a.next, p1, p2, m, b]
/-- a twin while it is made: what is known at a world -/
structure Tw (w V : World) (Q : Nat) (a : Ad) (p1 p2 m b : Value) : Prop where
  st : V.heap[Q]? = some (.cells (tcells a p1 p2 m b) 67 (0, 0))
  below : Below w.heap.size w V
section
variable {V V' : World} {Q : Nat} {p1 p2 m b : Value}
theorem Tw.c (h : Tw w V Q a p1 p2 m b) (o : Nat) : V.cell? ⟨Q, o, none⟩ = (tcells a p1 p2 m b)[o]? := cell_of_row _ Q o _ 67 (0, 0) h.st
theorem Tw.free (h : Tw w V Q a p1 p2 m b) (o : Nat) : V.frozen? ⟨Q, o, none⟩ = false := by simp [World.frozen?, h.st]
theorem Tw.later (h : Tw w V Q a p1 p2 m b) (hb : Below V.heap.size V V') : Tw w V' Q a p1 p2 m b := ⟨(hb.block Q (Array.getElem?_eq_some_iff.1 h.st).1).trans h.st, h.below.trans (hb.mono h.below.size)⟩
theorem Tw.set6 (h : Tw w V Q a p1 p2 m b) (hQ : w.heap.size ≤ Q) (v : Value) : Tw w (V.setCell ⟨Q, 6, none⟩ v) Q a v p2 m b := ⟨by rw [L.st_set 6 _ h.st]; rfl, h.below.setCell (p := ⟨Q, 6, none⟩) (by simpa using hQ) v⟩
theorem Tw.set7 (h : Tw w V Q a p1 p2 m b) (hQ : w.heap.size ≤ Q) (v : Value) : Tw w (V.setCell ⟨Q, 7, none⟩ v) Q a p1 v m b := ⟨by rw [L.st_set 7 _ h.st]; rfl, h.below.setCell (p := ⟨Q, 7, none⟩) (by simpa using hQ) v⟩
theorem Tw.set8 (h : Tw w V Q a p1 p2 m b) (hQ : w.heap.size ≤ Q) (v : Value) : Tw w (V.setCell ⟨Q, 8, none⟩ v) Q a p1 p2 v b := ⟨by rw [L.st_set 8 _ h.st]; rfl, h.below.setCell (p := ⟨Q, 8, none⟩) (by simpa using hQ) v⟩
theorem Tw.set9 (h : Tw w V Q a p1 p2 m b) (hQ : w.heap.size ≤ Q) (v : Value) : Tw w (V.setCell ⟨Q, 9, none⟩ v) Q a p1 p2 m v := ⟨by rw [L.st_set 9 _ h.st]; rfl, h.below.setCell (p := ⟨Q, 9, none⟩) (by simpa using hQ) v⟩
end
set_option maxHeartbeats 2000000 in
set_option maxRecDepth 100000 in
theorem copyL_at (h : PL w F n a) (hN : a.next ≤ 1000) : Calls Tryz.prog 7 #[qp F.Q] w fun e w' => ∃ F', e = .returned (qp F'.Q) ∧ PL w' F' n a ∧ (∀ b, F'.has b → w.heap.size ≤ b) ∧ F'.G = F.G ∧ Below w.heap.size w w' := by
  have H : Hid (PL w F n a) := h
  have hwl : (wt a.W).length ≤ 1000 := by have := h.ok.wlen; simp only [wt, List.length_map]; omega
  have hil : (it a.I).length ≤ 1000 := by have := h.ok.ilen; simp only [it, List.length_map]; omega
  have c0 : w.cell? ⟨F.Q, 0, none⟩ = some (.int .i64 a.bl) := h.c 0
  have c1 : w.cell? ⟨F.Q, 1, none⟩ = some (.int .i64 a.lc) := h.c 1
  have c2 : w.cell? ⟨F.Q, 2, none⟩ = some (.int .i64 a.mr) := h.c 2
  have c3 : w.cell? ⟨F.Q, 3, none⟩ = some (.int .i64 a.hi) := h.c 3
  have c4 : w.cell? ⟨F.Q, 4, none⟩ = some (.int .i64 a.cl) := h.c 4
  have c5 : w.cell? ⟨F.Q, 5, none⟩ = some (.int .u64 a.next) := h.c 5
  have c6 : w.cell? ⟨F.Q, 6, none⟩ = some (qp F.q1) := h.c 6
  have c7 : w.cell? ⟨F.Q, 7, none⟩ = some (qp F.q2) := h.c 7
  have c8 : w.cell? ⟨F.Q, 8, none⟩ = some (.map (some F.mb)) := h.c 8
  have c9 : w.cell? ⟨F.Q, 9, none⟩ = some (qp F.lb) := h.c 9
  have T1 : Hid (Tw w (w.alloc (.cells (tcells a (qp F.q1) (qp F.q2) (.map (some F.mb)) (qp F.lb)) 67)) w.heap.size a (qp F.q1) (qp F.q2) (.map (some F.mb)) (qp F.lb)) := ⟨heap_alloc_new w _, below_alloc w _⟩
  have d6 : (w.alloc (.cells (tcells a (qp F.q1) (qp F.q2) (.map (some F.mb)) (qp F.lb)) 67)).cell? ⟨F.Q, 6, none⟩ = some (qp F.q1) := (h.later (below_alloc w _)).c 6
  clear h
  go_enter Tryz.func7, Tryz.ntmps7
  go_wp2_with fail
  clear c0 c1 c2 c3 c4 c5 c6 c7 c8 c9 d6
  have hs1 : Hid ((w.alloc (.cells (tcells a (qp F.q1) (qp F.q2) (.map (some F.mb)) (qp F.lb)) 67)).heap.size = w.heap.size + 1) := by show _ = _; simp
  obtain ⟨w1, hw1⟩ : ∃ x, w.alloc (.cells (tcells a (qp F.q1) (qp F.q2) (.map (some F.mb)) (qp F.lb)) 67) = x := ⟨_, rfl⟩
  rw [hw1] at T1 hs1 ⊢
  clear hw1
  refine (copy_at (H.out.later T1.out.below).l1 (by omega)).mono ?_
  rintro e w2 ⟨q1', v1', rfl, hq, hg1, hg2, hb⟩
  have Q1 : Hid (QAt 64 w2 q1' v1' (wt a.W) (a.next - 1) ∧ w.heap.size + 1 ≤ q1' ∧ (∀ g, blk v1' = some g → w.heap.size + 1 ≤ g)) := ⟨hq, by rw [← hs1.out]; exact hg1, fun g hg => by rw [← hs1.out]; exact hg2 g hg⟩
  have T2 : Hid (Tw w w2 w.heap.size a (qp F.q1) (qp F.q2) (.map (some F.mb)) (qp F.lb)) := T1.out.later hb
  clear hq hg1 hg2 hb
  have t6 : w2.cell? ⟨w.heap.size, 6, none⟩ = some (qp F.q1) := T2.out.c 6
  have g6 := T2.out.free 6
  have T3 : Hid (Tw w (w2.setCell ⟨w.heap.size, 6, none⟩ (qp q1')) w.heap.size a (qp q1') (qp F.q2) (.map (some F.mb)) (qp F.lb)) := T2.out.set6 (Nat.le_refl _) _
  have d7 : (w2.setCell ⟨w.heap.size, 6, none⟩ (qp q1')).cell? ⟨F.Q, 7, none⟩ = some (qp F.q2) := (H.out.later T3.out.below).c 7
  go_wp2_with fail
  clear t6 g6 d7
  have Q1' : Hid (QAt 64 (w2.setCell ⟨w.heap.size, 6, none⟩ (qp q1')) q1' v1' (wt a.W) (a.next - 1)) := Q1.out.1.far (Kept.setCell w.heap.size 6 _) (by have := Q1.out.2.1; omega) (fun g hg => by have := Q1.out.2.2 g hg; omega)
  obtain ⟨w3, hw3⟩ : ∃ x, w2.setCell ⟨w.heap.size, 6, none⟩ (qp q1') = x := ⟨_, rfl⟩
  rw [hw3] at T3 Q1' ⊢
  clear hw3
  refine (copy_at (H.out.later T3.out.below).l2 (by omega)).mono ?_
  rintro e w4 ⟨q2', v2', rfl, hq, hg1, hg2, hb⟩
  have hlt3 : Hid (w.heap.size < w3.heap.size ∧ q1' < w3.heap.size) := ⟨(Array.getElem?_eq_some_iff.1 T3.out.st).1, Q1'.out.lt⟩
  have Q2 : Hid (QAt 64 w4 q2' v2' (it a.I) a.got ∧ w3.heap.size ≤ q2' ∧ (∀ g, blk v2' = some g → w3.heap.size ≤ g)) := ⟨hq, hg1, hg2⟩
  have P1 : Hid (QAt 64 w4 q1' v1' (wt a.W) (a.next - 1) ∧ ∀ g, blk v1' = some g → g < w3.heap.size) := ⟨Q1'.out.later hb, fun g hg => Q1'.out.row.lt hg⟩
  have T4 : Hid (Tw w w4 w.heap.size a (qp q1') (qp F.q2) (.map (some F.mb)) (qp F.lb)) := T3.out.later hb
  clear hq hg1 hg2 hb
  have t7 : w4.cell? ⟨w.heap.size, 7, none⟩ = some (qp F.q2) := T4.out.c 7
  have g7 := T4.out.free 7
  have T5 : Hid (Tw w (w4.setCell ⟨w.heap.size, 7, none⟩ (qp q2')) w.heap.size a (qp q1') (qp q2') (.map (some F.mb)) (qp F.lb)) := T4.out.set7 (Nat.le_refl _) _
  have d8 : (w4.setCell ⟨w.heap.size, 7, none⟩ (qp q2')).cell? ⟨F.Q, 8, none⟩ = some (.map (some F.mb)) := (H.out.later T5.out.below).c 8
  go_wp2_with fail
  clear t7 g7 d8
  have R5 : Hid (QAt 64 (w4.setCell ⟨w.heap.size, 7, none⟩ (qp q2')) q1' v1' (wt a.W) (a.next - 1) ∧ QAt 64 (w4.setCell ⟨w.heap.size, 7, none⟩ (qp q2')) q2' v2' (it a.I) a.got) := ⟨P1.out.1.far (Kept.setCell w.heap.size 7 _) (by have := Q1.out.2.1; omega) (fun g hg => by have := Q1.out.2.2 g hg; omega), Q2.out.1.far (Kept.setCell w.heap.size 7 _) (by have := Q2.out.2.1; have := hlt3.out.1; omega) (fun g hg => by have := Q2.out.2.2 g hg; have := hlt3.out.1; omega)⟩
  obtain ⟨w5, hw5⟩ : ∃ x, w4.setCell ⟨w.heap.size, 7, none⟩ (qp q2') = x := ⟨_, rfl⟩
  rw [hw5] at T5 R5 ⊢
  clear hw5
  obtain ⟨M, hm1, hm2, hm3⟩ := (H.out.later T5.out.below).fm
  have HM : Hid ((∀ t v, M t = some v → ∃ p n c, v = .slice p n c) ∧ ∀ x ∈ a.fl, ∃ v, M x.1 = some v ∧ Frm w5 v x.2 ∧ ∀ g, blk v = some g → F.G g) := ⟨hm2, hm3⟩
  refine (cloneF_at hm1).mono ?_
  rintro e w6 ⟨rfl, hm6, hb⟩
  have M6 : Hid (VMp w6 w5.heap.size n M ∧ Below w5.heap.size w5 w6) := ⟨hm6, hb⟩
  have T6 : Hid (Tw w w6 w.heap.size a (qp q1') (qp q2') (.map (some F.mb)) (qp F.lb)) := T5.out.later hb
  have R6 : Hid (QAt 64 w6 q1' v1' (wt a.W) (a.next - 1) ∧ QAt 64 w6 q2' v2' (it a.I) a.got) := ⟨R5.out.1.later hb, R5.out.2.later hb⟩
  have hlt5 : Hid (w.heap.size < w5.heap.size ∧ q1' < w5.heap.size ∧ q2' < w5.heap.size) := ⟨(Array.getElem?_eq_some_iff.1 T5.out.st).1, R5.out.1.lt, R5.out.2.lt⟩
  clear hm1 hm2 hm3 hm6 hb
  have t8 : w6.cell? ⟨w.heap.size, 8, none⟩ = some (.map (some F.mb)) := T6.out.c 8
  have g8 := T6.out.free 8
  have T7 : Hid (Tw w (w6.setCell ⟨w.heap.size, 8, none⟩ (.map (some w5.heap.size))) w.heap.size a (qp q1') (qp q2') (.map (some w5.heap.size)) (qp F.lb)) := T6.out.set8 (Nat.le_refl _) _
  have d9 : (w6.setCell ⟨w.heap.size, 8, none⟩ (.map (some w5.heap.size))).cell? ⟨F.Q, 9, none⟩ = some (qp F.lb) := (H.out.later T7.out.below).c 9
  go_wp2_with fail
  clear t8 g8 d9
  have K7 : Hid (Kept (· = w.heap.size) w5 (w6.setCell ⟨w.heap.size, 8, none⟩ (.map (some w5.heap.size)))) := (Kept.of_below (· = w.heap.size) M6.out.2).trans (Kept.setCell w.heap.size 8 _) (fun _ _ e => e)
  have M7 : Hid (VMp (w6.setCell ⟨w.heap.size, 8, none⟩ (.map (some w5.heap.size))) w5.heap.size n M) := M6.out.1.kept ((Kept.setCell w.heap.size 8 _).block _ M6.out.1.lt (by have := hlt5.out.1; omega))
  have R7 : Hid (QAt 64 (w6.setCell ⟨w.heap.size, 8, none⟩ (.map (some w5.heap.size))) q1' v1' (wt a.W) (a.next - 1) ∧ QAt 64 (w6.setCell ⟨w.heap.size, 8, none⟩ (.map (some w5.heap.size))) q2' v2' (it a.I) a.got) := ⟨R6.out.1.far (Kept.setCell w.heap.size 8 _) (by have := Q1.out.2.1; omega) (fun g hg => by have := Q1.out.2.2 g hg; omega), R6.out.2.far (Kept.setCell w.heap.size 8 _) (by have := Q2.out.2.1; have := hlt3.out.1; omega) (fun g hg => by have := Q2.out.2.2 g hg; have := hlt3.out.1; omega)⟩
  obtain ⟨w7, hw7⟩ : ∃ x, w6.setCell ⟨w.heap.size, 8, none⟩ (.map (some w5.heap.size)) = x := ⟨_, rfl⟩
  rw [hw7] at T7 R7 M7 K7 ⊢
  clear hw7
  refine (L.copy_at (H.out.later T7.out.below).rm).mono ?_
  rintro e w8 ⟨rfl, hl8, hb⟩
  have L8 : Hid (L.LAt w8 w7.heap.size (w7.heap.size + 1) n a.lg ∧ Below w7.heap.size w7 w8) := ⟨hl8, hb⟩
  have T8 : Hid (Tw w w8 w.heap.size a (qp q1') (qp q2') (.map (some w5.heap.size)) (qp F.lb)) := T7.out.later hb
  clear hl8 hb
  have t9 : w8.cell? ⟨w.heap.size, 9, none⟩ = some (qp F.lb) := T8.out.c 9
  have g9 := T8.out.free 9
  go_wp2
  go_ret
  have hs7 := M7.out.lt
  have hk9 := Kept.setCell (w := w8) w.heap.size 9 (qp w7.heap.size)
  refine ⟨⟨w.heap.size, q1', q2', w5.heap.size, w7.heap.size, w7.heap.size + 1, v1', v2', F.G⟩, rfl, ⟨(T8.out.set9 (Nat.le_refl _) (qp w7.heap.size)).st, ?_, ?_, ?_, ?_, H.out.ok, ?_, ?_, ?_⟩, ?_, rfl, (T8.out.set9 (Nat.le_refl _) (qp w7.heap.size)).below⟩
  · exact (R7.out.1.later L8.out.2).far hk9 (by have := Q1.out.2.1; show q1' ≠ _; omega) (fun g hg => by have := Q1.out.2.2 g hg; omega)
  · exact (R7.out.2.later L8.out.2).far hk9 (by have := Q2.out.2.1; have := hlt3.out.1; show q2' ≠ _; omega) (fun g hg => by have := Q2.out.2.2 g hg; have := hlt3.out.1; omega)
  · refine ⟨M, (M7.out.kept (L8.out.2.block _ hs7)).kept (hk9.block _ (Nat.lt_of_lt_of_le hs7 L8.out.2.size) (by have := hlt5.out.1; omega)), HM.out.1, fun x hx => ?_⟩
    obtain ⟨v, hv, hf, hG⟩ := HM.out.2 x hx
    have kk : Kept (· = w.heap.size) w5 (w8.setCell ⟨w.heap.size, 9, none⟩ (qp w7.heap.size)) := (K7.out.trans (Kept.of_below (fun _ => False) L8.out.2) (fun _ _ e => e.elim)).trans hk9 (fun _ _ e => e)
    refine ⟨v, hv, hf.far kk (fun g _ hg e => ?_), hG⟩
    rw [e] at hg
    rw [kd_cells T5.out.st] at hg
    cases hg
  · exact L8.out.1.kept (hk9.block _ L8.out.1.lt (by have := hlt5.out.1; omega)) (hk9.block _ L8.out.1.mp.lt (by have := hlt5.out.1; omega))
  · show q1' ≠ q2'
    have := Q2.out.2.1; have := hlt3.out.2; omega
  · intro g hg e
    have h1 := P1.out.2 g hg
    have h2 := Q2.out.2.2 g e
    omega
  · show w5.heap.size ≠ w7.heap.size + 1
    omega
  · have h5 := hlt5.out.1
    have h3 := hlt3.out.1
    rintro b (rfl | rfl | rfl | e | e | rfl | rfl | rfl)
    · exact Nat.le_refl _
    · exact Nat.le_trans (Nat.le_succ _) Q1.out.2.1
    · exact Nat.le_trans (Nat.le_of_lt h3) Q2.out.2.1
    · have := Q1.out.2.2 b e; omega
    · have := Q2.out.2.2 b e; omega
    · show w.heap.size ≤ w5.heap.size; omega
    · show w.heap.size ≤ w7.heap.size; omega
    · show w.heap.size ≤ w7.heap.size + 1; omega
end
end Go.Proofs.YtnbegddpgmejnaaGreat
