/-
  Layer 14: New, Copy.
-/
import Derived.Test.YtkffmglcllhbmaaKh
import Derived.Deep.OwnRows
namespace Go.Proofs.Ytkffmglcllhbmaa
open Go.RowKit


/-- the row of queues while it is filled -/
def rowOf (q : Nat → Nat) (k N : Nat) : List Value := (List.range N).map fun i => if i < k then qp (q i) else nilq
theorem rowOf_zero (q : Nat → Nat) (N : Nat) : madeCells #[nilq] N = (rowOf q 0 N).toArray := by
  apply Array.ext
  · simp [size_madeCells, rowOf]
  · intro i h1 h2
    simp [madeCells, rowOf, Nat.mod_one]
theorem rowOf_step (q : Nat → Nat) {k N b : Nat} : (rowOf q k N).set k (qp b) = rowOf (upd q k b) (k + 1) N := by
  apply List.ext_getElem
  · simp [rowOf]
  · intro i h1 h2
    rw [List.getElem_set]
    simp only [rowOf, List.getElem_map, List.getElem_range, upd]
    by_cases e : k = i
    · subst e; simp
    · rw [if_neg e]
      by_cases e2 : i < k
      · rw [if_pos e2, if_pos (by omega), if_neg (fun e3 => e e3.symm)]
      · rw [if_neg e2, if_neg (by omega)]
theorem rowOf_all (F : Ft) (N : Nat) : rowOf F.q N N = qrow F N := by
  unfold rowOf qrow
  apply List.map_congr_left
  intro i hi
  rw [if_pos (by simpa using hi)]
/-- new queues in a new row, k of them there -/
structure Fil (w0 w : World) (qb N k : Nat) (q : Nat → Nat) (v : Nat → Value) (f : Nat → List Int) (M : Nat → Int) : Prop where
  row : w.heap[qb]? = some (.cells (rowOf q k N).toArray 80 (0, 0))
  lq : ∀ i, i < k → QAt 101 w (q i) (v i) (f i) (M i)
  hi : ∀ i, i < k → w0.heap.size ≤ q i
  vhi : ∀ i g, i < k → blk (v i) = some g → w0.heap.size ≤ g
  qq : ∀ i j, i < k → j < k → q i = q j → i = j
  vv : ∀ i j g, i < k → j < k → blk (v i) = some g → blk (v j) = some g → i = j
  below : Below w0.heap.size w0 w
  qbn : w0.heap.size ≤ qb
section
variable {w0 w w' : World} {qb N k : Nat} {q : Nat → Nat} {v : Nat → Value} {f : Nat → List Int} {M : Nat → Int}
theorem Fil.later (h : Fil w0 w qb N k q v f M) (hb : Below w.heap.size w w') : Fil w0 w' qb N k q v f M :=
  ⟨(hb.block _ (Array.getElem?_eq_some_iff.1 h.row).1).trans h.row, fun i hi => (h.lq i hi).later hb, h.hi, h.vhi, h.qq, h.vv, below_then h.below hb, h.qbn⟩
theorem Fil.start (w : World) (N : Nat) (q : Nat → Nat) (v : Nat → Value) (f : Nat → List Int) (M : Nat → Int) : Fil w (w.alloc (.cells (madeCells #[nilq] N) 80)) w.heap.size N 0 q v f M :=
  ⟨by rw [rowOf_zero q N]; exact heap_alloc_new w _, fun i hi => by omega, fun i hi => by omega, fun i g hi => by omega, fun i j hi => by omega, fun i j g hi => by omega, below_alloc w _, Nat.le_refl _⟩
theorem Fil.store (h : Fil w0 w qb N k q v f M) (hk : k < N) {b : Nat} {v' : Value} {xs : List Int} {m : Int} (hb : Below w.heap.size w w') (hq : QAt 101 w' b v' xs m) (hbn : w.heap.size ≤ b) (hvn : ∀ g, blk v' = some g → w.heap.size ≤ g) :
    Fil w0 (w'.setCell ⟨qb, k, none⟩ (qp b)) qb N (k + 1) (upd q k b) (upd v k v') (upd f k xs) (upd M k m) := by
  have h2 := h.later hb
  have hs := h.below.size
  have hK := Kept.setCell (w := w') qb k (qp b)
  have kqb : kd w' qb = 80 := kd_cells h2.row
  have far : ∀ {Q u ys z}, QAt 101 w' Q u ys z → QAt 101 (w'.setCell ⟨qb, k, none⟩ (qp b)) Q u ys z := fun {Q u ys z} hQ => hQ.far hK (ne_kd (kd_cells hQ.st) kqb (by decide)) (fun g hg => ne_kd (hQ.row.kd hg) kqb (by decide))
  have qlt : ∀ i, i < k → q i < w.heap.size := fun i hi => (h.lq i hi).lt
  have vlt : ∀ i g, i < k → blk (v i) = some g → g < w.heap.size := fun i g hi hg => (h.lq i hi).row.lt hg
  refine ⟨?_, fun i hi => ?_, fun i hi => ?_, fun i g hi hg => ?_, fun i j hi hj e => ?_, fun i j g hi hj e1 e2 => ?_, ?_, h.qbn⟩
  · rw [setCell_eq_setRow w' qb k _ 80 (0, 0) _ h2.row, setRow_heap w' qb _ _ 80 _ h2.row, ← rowOf_step q]
    simp
  · by_cases e : i = k
    · subst e; rw [upd_same, upd_same, upd_same, upd_same]; exact far hq
    · rw [upd_other _ _ e, upd_other _ _ e, upd_other _ _ e, upd_other _ _ e]; exact far (h2.lq i (by omega))
  · by_cases e : i = k
    · subst e; rw [upd_same]; omega
    · rw [upd_other _ _ e]; exact h.hi i (by omega)
  · by_cases e : i = k
    · subst e; rw [upd_same] at hg; have := hvn g hg; omega
    · rw [upd_other _ _ e] at hg; exact h.vhi i g (by omega) hg
  · by_cases d1 : i = k
    · by_cases d2 : j = k
      · omega
      · subst d1; rw [upd_same, upd_other _ _ d2] at e; have := qlt j (by omega); omega
    · by_cases d2 : j = k
      · subst d2; rw [upd_same, upd_other _ _ d1] at e; have := qlt i (by omega); omega
      · rw [upd_other _ _ d1, upd_other _ _ d2] at e; exact h.qq i j (by omega) (by omega) e
  · by_cases d1 : i = k
    · by_cases d2 : j = k
      · omega
      · subst d1; rw [upd_same] at e1; rw [upd_other _ _ d2] at e2; have := hvn g e1; have := vlt j g (by omega) e2; omega
    · by_cases d2 : j = k
      · subst d2; rw [upd_same] at e2; rw [upd_other _ _ d1] at e1; have := hvn g e2; have := vlt i g (by omega) e1; omega
      · rw [upd_other _ _ d1] at e1; rw [upd_other _ _ d2] at e2; exact h.vv i j g (by omega) (by omega) e1 e2
  · exact h2.below.setCell (p := ⟨qb, k, none⟩) h.qbn _
end
/-- locks out of new queues -/
theorem Fil.pl {w0 W : World} {a : Lk} {n qb th mb Q : Nat} {q : Nat → Nat} {v : Nat → Value} {M : Nat → Int} {tv : Value} {G : Nat → Prop} {m : Int → Option Value} (hF : Fil w0 W qb a.bl a.bl q v (fun i => qS a.L i) M) (hM : ∀ i, i < a.bl → M i ≤ a.last) (ht : QAt 101 W th tv (tix a.L) a.last) (hth : ∀ i, i < a.bl → q i < th) (htv : ∀ i g, i < a.bl → blk (v i) = some g → ¬ blk tv = some g)
    (hc : CM W G mb n a.L m) (st : W.heap[Q]? = some (.cells #[.slice (some ⟨qb, 0, none⟩) a.bl a.bl, qp th, .map (some mb)] 83 (0, 0))) (ok : Ok a) (hl : a.L.length ≤ n) : PL W ⟨Q, qb, q, v, th, tv, mb, G, m⟩ n a :=
  ⟨st, by have := hF.row; rw [rowOf_all ⟨Q, qb, q, v, th, tv, mb, G, m⟩ a.bl] at this; exact this, fun i hi => ⟨M i, hM i hi, hF.lq i hi⟩, ht, hc, ok, hl, hF.qq, fun i hi => Nat.ne_of_lt (hth i hi), hF.vv, htv⟩
theorem info_pq : (Try.prog.info? 80).map (fun i => (i.zero, i.size, i.bytes)) = some (some nilq, 1, 8) := by kernel_rfl
set_option maxHeartbeats 2000000 in
set_option maxRecDepth 100000 in
theorem new_bad (i : Int) (w : World) (h : i < 1 ∨ 64 < i) : Calls Try.prog 27 #[.int .i64 i] w fun e w' => e = .returned (.tuple #[nilq, .int .i64 2]) ∧ w = w' := by
  rcases h with h | h
  · go_enter Try.func27, Try.ntmps27
    go_wp2
    go_ret2
    exact ⟨rfl, rfl⟩
  · have c1 : ¬ i < 1 := by omega
    go_enter Try.func27, Try.ntmps27
    go_wp2
    go_ret2
    exact ⟨rfl, rfl⟩
set_option maxHeartbeats 2000000 in
set_option maxRecDepth 100000 in
theorem new_ok (N : Nat) (w : World) (h1 : 1 ≤ N) (h2 : N ≤ 64) : Calls Try.prog 27 #[.int .i64 N] w fun e w' => ∃ F, e = .returned (.tuple #[qp F.Q, .int .i64 0]) ∧ PL w' F 0 ⟨N, 0, []⟩ ∧ (∀ b, F.has N b → w.heap.size ≤ b) ∧ (∀ g, ¬ F.G g) ∧ Below w.heap.size w w' := by
  have hmk := run_make_row' (P := Try.prog) 79 80 nilq 8 Try.underlying79 info_pq rfl .i64 .i64 N (by omega) (by omega) w
  have c1 : ¬ (N : Int) < 1 := by omega
  have c2 : ¬ (64 : Int) < (N : Int) := by omega
  have HF : Hid (Fil w (w.alloc (.cells (madeCells #[nilq] N) 80)) w.heap.size N 0 (fun _ => 0) (fun _ => nils) (fun _ => []) (fun _ => 0)) := Fil.start w N _ _ _ _
  obtain ⟨W1, hW1⟩ : ∃ x, w.alloc (.cells (madeCells #[nilq] N) 80) = x := ⟨_, rfl⟩
  rw [hW1] at HF hmk
  clear hW1
  go_enter Try.func27, Try.ntmps27
  go_wp2
  clear hmk
  go_loopw [16] (fun i wr => ∃ k : Nat, k ≤ N ∧ i = .int .i64 k ∧ Hid (∃ q, Fil w wr w.heap.size N k q (fun _ => nils) (fun _ => []) (fun _ => 0))) (fun i _ => N - (intOf i).toNat)
  case atStart => exact ⟨0, Nat.zero_le _, rfl, _, HF.out⟩
  case round =>
    obtain ⟨k, hk2, rfl, HW⟩ := hrel
    clear HF
    by_cases hlt : k < N
    · obtain ⟨q, hF⟩ := HW.out
      have hq : QAt 101 (wr.alloc (.cells #[nils, .int .u64 0] 101)) wr.heap.size nils [] 0 := QAt.new wr 101 (m := 0) (Row.empty wr)
      have hF2 := hF.store hlt (below_alloc wr (.cells #[nils, .int .u64 0] 101)) hq (Nat.le_refl _) (fun g hg => by cases hg)
      have c0 : (wr.alloc (.cells #[nils, .int .u64 0] 101)).cell? ⟨w.heap.size, k, none⟩ = some nilq := by
        rw [cell_of_row _ _ k _ 80 (0, 0) (hF.later (below_alloc wr _)).row]
        simp [rowOf, hlt]
      have f0 : (wr.alloc (.cells #[nils, .int .u64 0] 101)).frozen? ⟨w.heap.size, k, none⟩ = false := by simp [World.frozen?, (hF.later (below_alloc wr (.cells #[nils, .int .u64 0] 101))).row]
      have HF2 : Hid (∃ q, Fil w ((wr.alloc (.cells #[nils, .int .u64 0] 101)).setCell ⟨w.heap.size, k, none⟩ (qp wr.heap.size)) w.heap.size N (k + 1) q (fun _ => nils) (fun _ => []) (fun _ => 0)) := by
        refine ⟨upd q k wr.heap.size, hF2.row, fun i hi => ?_, hF2.hi, fun i g hi hg => (by cases hg), hF2.qq, fun i j g hi hj e => (by cases e), hF2.below, hF2.qbn⟩
        have := hF2.lq i hi
        by_cases e : i = k
        · subst e; simp only [upd_same] at this ⊢; exact this
        · simp only [upd_other _ _ e] at this ⊢; exact this
      have i1 : (k : Int) < (N : Int) := by omega
      clear hF hF2 hq HW
      go_wp2
      go_roundw
      case rel => exact ⟨k + 1, by omega, by go_num, HF2.out⟩
      case measure => simp [intOf]; omega
    · obtain rfl : k = N := by omega
      obtain ⟨q, hF⟩ := HW.out
      have HF : Hid (Fil w wr w.heap.size k k q (fun _ => nils) (fun _ => []) (fun _ => 0)) := hF
      clear hF HW
      have hmm := @run_makeMap Try.prog
      go_wp2
      go_ret2
      refine ⟨⟨wr.heap.size + 1 + 1, w.heap.size, q, fun _ => nils, wr.heap.size, nils, wr.heap.size + 1, fun _ => False, fun _ => none⟩, rfl, ?_, ?_, fun g hg => hg, ?_⟩
      · obtain ⟨V, hV⟩ : ∃ V, (wr.alloc (.cells #[nils, .int .u64 0] 101)).alloc (.map #[] 0) = V := ⟨_, rfl⟩
        have hVs : V.heap.size = wr.heap.size + 1 + 1 := by rw [← hV]; simp
        have q1 := QAt.new wr 101 (m := 0) (Row.empty wr)
        have m1 := VMp.made (wr.alloc (.cells #[nils, .int .u64 0] 101))
        have b1 : Below (wr.alloc (.cells #[nils, .int .u64 0] 101)).heap.size (wr.alloc (.cells #[nils, .int .u64 0] 101)) V := by rw [← hV]; exact below_alloc _ _
        have b0 : Below wr.heap.size wr V := below_then (below_alloc wr _) b1
        have bV := below_alloc V (.cells #[.slice (some ⟨w.heap.size, 0, none⟩) k k, qp wr.heap.size, .map (some (wr.heap.size + 1))] 83)
        have st := heap_alloc_new V (.cells #[.slice (some ⟨w.heap.size, 0, none⟩) k k, qp wr.heap.size, .map (some (wr.heap.size + 1))] 83)
        rw [hV] at m1
        rw [hVs] at st
        simp only [World.size_alloc] at m1
        rw [hV]
        refine Fil.pl (a := ⟨k, 0, []⟩) (M := fun _ => 0) ((HF.out.later b0).later bV) (fun _ _ => Int.le_refl _) ((q1.later b1).later bV) (fun i hi => (HF.out.lq i hi).lt) (fun i g hi hg => by cases hg) ⟨m1.kept (bV.block _ (by rw [hVs]; omega)), fun _ _ _ => rfl, fun e he => by cases he⟩ st (Ok.new h1 h2) (Nat.le_refl _)
      · have hs := HF.out.below.size
        have hs2 : w.heap.size < wr.heap.size := (Array.getElem?_eq_some_iff.1 HF.out.row).1
        rintro b (rfl | rfl | ⟨i, hi, rfl⟩ | ⟨i, hi, e⟩ | rfl | e | rfl)
        · show w.heap.size ≤ wr.heap.size + 1 + 1; omega
        · exact Nat.le_refl _
        · exact HF.out.hi i hi
        · cases e
        · exact hs
        · cases e
        · show w.heap.size ≤ wr.heap.size + 1; omega
      · exact below_then HF.out.below (below_then (below_alloc _ _) (below_then (below_alloc _ _) (below_alloc _ _)))
set_option maxHeartbeats 2000000 in
set_option maxRecDepth 100000 in
theorem copyL_nil (w : World) : Calls Try.prog 26 #[nilq] w fun e w' => e = .returned nilq ∧ w' = w := by
  go_enter Try.func26, Try.ntmps26
  go_wp2
  go_ret
  exact ⟨rfl, rfl⟩
theorem copied {w wr wd w5 w6 : World} {F : Ft} {n Q5 : Nat} {a : Lk} {v5 : Value} {q : Nat → Nat} {v : Nat → Value} {M : Nat → Int} (h : PL w F n a) (hM : ∀ i, i < a.bl → M i ≤ a.last) (hF : Fil w wr w.heap.size a.bl a.bl q v (fun i => qS a.L i) M) (hBd : Below wr.heap.size wr wd)
    (h5 : QAt 101 w5 Q5 v5 (tix a.L) a.last ∧ wd.heap.size ≤ Q5 ∧ (∀ g, blk v5 = some g → wd.heap.size ≤ g) ∧ Below wd.heap.size wd w5) (hB5 : Below wr.heap.size wr w5) (h6 : VMp w6 w5.heap.size n F.m ∧ Below w5.heap.size w5 w6) :
    ∃ F', qp w6.heap.size = qp F'.Q ∧ PL (w6.alloc (.cells #[.slice (some ⟨w.heap.size, 0, none⟩) a.bl a.bl, qp Q5, .map (some w5.heap.size)] 83)) F' n a ∧ (∀ b, F'.has a.bl b → w.heap.size ≤ b) ∧ (∀ g, F'.G g → F.G g) ∧ Below w.heap.size w (w6.alloc (.cells #[.slice (some ⟨w.heap.size, 0, none⟩) a.bl a.bl, qp Q5, .map (some w5.heap.size)] 83)) := by
  have bV := below_alloc w6 (.cells #[.slice (some ⟨w.heap.size, 0, none⟩) a.bl a.bl, qp Q5, .map (some w5.heap.size)] 83)
  have b56 := below_then h6.2 bV
  have bw := below_then (below_then hF.below hB5) b56
  have s1 := hF.below.size
  have s2 := hBd.size
  have s3 := h5.2.2.2.size
  have s4 := h6.2.size
  have hs2 : w.heap.size < wr.heap.size := (Array.getElem?_eq_some_iff.1 hF.row).1
  refine ⟨⟨w6.heap.size, w.heap.size, q, v, Q5, v5, w5.heap.size, F.G, F.m⟩, rfl, Fil.pl ((hF.later hB5).later b56) hM (h5.1.later b56) (fun i hi => ?_) (fun i g hi hg e => ?_) ⟨h6.1.kept (bV.block _ h6.1.lt), h.cm.out, fun e he => ?_⟩ (heap_alloc_new w6 _) h.ok h.len, ?_, fun g hg => hg, bw⟩
  · have := (hF.lq i hi).lt; omega
  · have := (hF.lq i hi).row.lt hg; have := h5.2.2.1 g e; omega
  · obtain ⟨p, c, e1, e2, e3⟩ := h.cm.ins e he
    exact ⟨p, c, e1, e2.later bw, e3⟩
  · rintro b (rfl | rfl | ⟨i, hi, rfl⟩ | ⟨i, hi, e⟩ | rfl | e | rfl)
    · show w.heap.size ≤ w6.heap.size; omega
    · exact Nat.le_refl _
    · exact hF.hi i hi
    · exact hF.vhi i b hi e
    · have := h5.2.1; omega
    · have := h5.2.2.1 b e; omega
    · show w.heap.size ≤ w5.heap.size; omega
set_option maxHeartbeats 2000000 in
set_option maxRecDepth 100000 in
theorem copyL_at {w : World} {F : Ft} {n : Nat} {a : Lk} (h : PL w F n a) (hn : n ≤ 10000) : Calls Try.prog 26 #[qp F.Q] w fun e w' => ∃ F', e = .returned (qp F'.Q) ∧ PL w' F' n a ∧ (∀ b, F'.has a.bl b → w.heap.size ≤ b) ∧ (∀ g, F'.G g → F.G g) ∧ Below w.heap.size w w' := by
  have hb64 := h.ok.b64
  have hmk := run_make_row' (P := Try.prog) 79 80 nilq 8 Try.underlying79 info_pq rfl .i64 .i64 a.bl (by omega) (by omega) w
  have H : Hid (PL w F n a) := h
  obtain ⟨M, hM, hT⟩ := h.trn
  have HM : Hid (∀ i, i < a.bl → M i ≤ a.last) := hM
  have HT : Hid (Trn w F a.bl w F (fun i => qS a.L i) M (tix a.L) a.last) := hT
  have hlen : (tix a.L).length ≤ n := by have := h.len; simpa [tix] using this
  have HF : Hid (Fil w (w.alloc (.cells (madeCells #[nilq] a.bl) 80)) w.heap.size a.bl 0 (fun _ => 0) (fun _ => nils) (fun i => qS a.L i) M) := Fil.start w a.bl _ _ _ _
  have c0 : w.cell? ⟨F.Q, 0, none⟩ = some (.slice (some ⟨F.qb, 0, none⟩) a.bl a.bl) := h.c 0
  have c1 : (w.alloc (.cells (madeCells #[nilq] a.bl) 80)).cell? ⟨F.Q, 0, none⟩ = some (.slice (some ⟨F.qb, 0, none⟩) a.bl a.bl) := (h.later (below_alloc w _)).c 0
  clear h hT hM
  obtain ⟨W1, hW1⟩ : ∃ x, w.alloc (.cells (madeCells #[nilq] a.bl) 80) = x := ⟨_, rfl⟩
  rw [hW1] at HF hmk c1
  clear hW1
  go_enter Try.func26, Try.ntmps26
  go_wp2
  clear hmk c0 c1
  go_loopw [19] (fun i wr => ∃ k : Nat, k ≤ a.bl ∧ i = .int .i64 k ∧ Hid (∃ q v, Fil w wr w.heap.size a.bl k q v (fun i => qS a.L i) M)) (fun i _ => a.bl - (intOf i).toNat)
  case atStart => exact ⟨0, Nat.zero_le _, rfl, _, _, HF.out⟩
  case round =>
    obtain ⟨k, hk2, rfl, HW⟩ := hrel
    clear HF
    by_cases hlt : k < a.bl
    · obtain ⟨q, v, hF⟩ := HW.out
      have HF : Hid (Fil w wr w.heap.size a.bl k q v (fun i => qS a.L i) M) := hF
      have cq : wr.cell? ⟨F.qb, k, none⟩ = some (qp (F.q k)) := (H.out.later hF.below).cq hlt
      have HQ : Hid (QAt 101 wr (F.q k) (F.v k) (qS a.L k) (M k)) := (HT.out.pq.lq k hlt).later hF.below
      have hql := H.out.qlen k
      have i1 : (k : Int) < (a.bl : Int) := by omega
      clear hF HW
      go_wp2_with (go_at_call 46; refine (copy_at HQ.out (by omega)).mono ?_; rintro e w2 ⟨Q2, v2, rfl, q1, q2, q3, q4⟩; have HF2 : Hid (Fil w (w2.setCell ⟨w.heap.size, k, none⟩ (qp Q2)) w.heap.size a.bl (k + 1) (upd q k Q2) (upd v k v2) (upd (fun i => qS a.L i) k (qS a.L k)) (upd M k (M k))) := HF.out.store hlt q4 q1 q2 q3; have r2 := (HF.out.later q4).row; have c5 : w2.cell? ⟨w.heap.size, k, none⟩ = some nilq := (by rw [cell_of_row _ _ k _ 80 (0, 0) r2]; simp [rowOf, hlt]); have f5 : w2.frozen? ⟨w.heap.size, k, none⟩ = false := (by simp [World.frozen?, r2]); clear q1 q2 q3 q4 r2)
      go_roundw
      case rel =>
        have e1 : upd (fun i : Nat => qS a.L i) k (qS a.L k) = fun i : Nat => qS a.L i := by funext i; unfold upd; split <;> simp_all
        have e2 : upd M k (M k) = M := by funext i; unfold upd; split <;> simp_all
        refine ⟨k + 1, by omega, by go_num, upd q k Q2, upd v k v2, ?_⟩
        have := HF2.out
        rw [e1, e2] at this
        exact this
      case measure => simp [intOf]; omega
    · obtain rfl : k = a.bl := by omega
      obtain ⟨q, v, hF⟩ := HW.out
      have HF : Hid (Fil w wr w.heap.size a.bl a.bl q v (fun i => qS a.L i) M) := hF
      have HC : Hid (∀ w', Below wr.heap.size wr w' → w'.cell? ⟨F.Q, 1, none⟩ = some (qp F.th) ∧ w'.cell? ⟨F.Q, 2, none⟩ = some (.map (some F.mb))) := fun w' hb => ⟨(H.out.later (below_then hF.below hb)).c 1, (H.out.later (below_then hF.below hb)).c 2⟩
      have HL : Hid (∀ w', Below wr.heap.size wr w' → QAt 101 w' F.th F.tv (tix a.L) a.last ∧ VMp w' F.mb n F.m) := fun w' hb => ⟨(H.out.later (below_then hF.below hb)).lt', (H.out.later (below_then hF.below hb)).cm.mp⟩
      clear hF HW
      go_wp2_with fail
      refine wp_region_noPanic ?_
      refine wp_region_held_drew (S := fun w' => Below wr.heap.size wr w') (by kernel_rfl) (below_drawn 1) (fun hHeld => ?_)
      have HBd : Hid (Below wr.heap.size wr wr.drew) := below_drawn 1
      generalize wr.drew = wd at *
      refine wpAnyH_take (i := 0) (v := ?va1) (by simp; rfl) (by kernel_rfl) (by kernel_rfl) (by kernel_rfl) (fun _ _ _ h => h) (Or.inl ⟨by rfl, ?ya1⟩) hHeld ?ra1
      case ya1 => intro w hSw; clear hSw; go_simp; with_reducible rfl
      simp only [Act.put, List.setIfInBounds_toArray, List.set_cons_zero, List.set_cons_succ]
      refine wpAnyH_take (i := 1) (v := ?va2) (by simp; rfl) (by kernel_rfl) (by kernel_rfl) (by kernel_rfl) (fun _ _ _ h => h) (Or.inl ⟨by rfl, ?ya2⟩) hHeld ?ra2
      case ya2 => intro w hSw; clear hSw; go_simp; with_reducible rfl
      simp only [Act.put, List.setIfInBounds_toArray, List.set_cons_zero, List.set_cons_succ]
      refine wpAnyH_take (i := 2) (v := ?va3) (by simp; rfl) (by kernel_rfl) (by kernel_rfl) (by kernel_rfl) (fun _ _ _ h => h) (Or.inl ⟨by rfl, ?ya3⟩) hHeld ?ra3
      case ya3 => intro w hSw; clear hSw; go_simp; with_reducible rfl
      simp only [Act.put, List.setIfInBounds_toArray, List.set_cons_zero, List.set_cons_succ]
      refine wpAnyH_take (i := 3) (v := ?va4) (by simp; rfl) (by kernel_rfl) (by kernel_rfl) (by kernel_rfl) (fun _ _ _ h => h) (Or.inl ⟨by rfl, ?ya4⟩) hHeld ?ra4
      case ya4 => intro w hSw; clear hSw; go_simp; with_reducible rfl
      simp only [Act.put, List.setIfInBounds_toArray, List.set_cons_zero, List.set_cons_succ]
      refine wpAnyH_take (i := 4) (v := ?va5) (by simp; rfl) (by kernel_rfl) (by kernel_rfl) (by kernel_rfl) (fun _ _ _ h => h) (Or.inl ⟨by rfl, ?ya5⟩) hHeld ?ra5
      case ya5 => intro w hSw; have z := (HC.out w hSw).1; clear hSw; go_simp; with_reducible rfl
      simp only [Act.put, List.setIfInBounds_toArray, List.set_cons_zero, List.set_cons_succ]
      refine wpAnyH_take (i := 6) (v := ?va6) (by simp; rfl) (by kernel_rfl) (by kernel_rfl) (by kernel_rfl) (fun _ _ _ h => h) (Or.inl ⟨by rfl, ?ya6⟩) hHeld ?ra6
      case ya6 => intro w hSw; clear hSw; go_simp; with_reducible rfl
      simp only [Act.put, List.setIfInBounds_toArray, List.set_cons_zero, List.set_cons_succ]
      refine wpAnyH_take (i := 7) (v := ?va7) (by simp; rfl) (by kernel_rfl) (by kernel_rfl) (by kernel_rfl) (fun _ _ _ h => h) (Or.inl ⟨by rfl, ?ya7⟩) hHeld ?ra7
      case ya7 => intro w hSw; clear hSw; go_simp; with_reducible rfl
      simp only [Act.put, List.setIfInBounds_toArray, List.set_cons_zero, List.set_cons_succ]
      refine wpAnyH_take (i := 8) (v := ?va8) (by simp; rfl) (by kernel_rfl) (by kernel_rfl) (by kernel_rfl) (fun _ _ _ h => h) (Or.inl ⟨by rfl, ?ya8⟩) hHeld ?ra8
      case ya8 => intro w hSw; clear hSw; go_simp; with_reducible rfl
      simp only [Act.put, List.setIfInBounds_toArray, List.set_cons_zero, List.set_cons_succ]
      refine wpAnyH_take (i := 9) (v := ?va9) (by simp; rfl) (by kernel_rfl) (by kernel_rfl) (by kernel_rfl) (fun _ _ _ h => h) (Or.inl ⟨by rfl, ?ya9⟩) hHeld ?ra9
      case ya9 => intro w hSw; have z := (HC.out w hSw).2; clear hSw; go_simp; with_reducible rfl
      simp only [Act.put, List.setIfInBounds_toArray, List.set_cons_zero, List.set_cons_succ]
      refine wpAnyH_ready (rs := [5]) (by kernel_rfl) (by simp) ?_
      refine AllReadyH.cons (by simp; rfl) (fun Kc hKc => ?_) AllReadyH.nil
      go_simp
      refine (copy_at (HL.out _ hHeld).1 (by omega)).mono ?_
      rintro e w5 ⟨Q5, v5, rfl, q1, q2, q3, q4⟩
      have H5 : Hid (QAt 101 w5 Q5 v5 (tix a.L) a.last ∧ wd.heap.size ≤ Q5 ∧ (∀ g, blk v5 = some g → wd.heap.size ≤ g) ∧ Below wd.heap.size wd w5) := ⟨q1, q2, q3, q4⟩
      have HB5 : Hid (Below wr.heap.size wr w5) := below_then hHeld q4
      clear q1 q2 q3 q4
      refine hKc.out _ _ HB5.out (fun hHeld => ?_)
      clear hKc Kc
      refine wpAnyH_ready (rs := [10]) (by kernel_rfl) (by simp) ?_
      refine AllReadyH.cons (by simp; rfl) (fun Kc hKc => ?_) AllReadyH.nil
      go_simp
      refine (cloneC_at (HL.out _ hHeld).2).mono ?_
      rintro e w6 ⟨rfl, q1, q2⟩
      have H6 : Hid (VMp w6 w5.heap.size n F.m ∧ Below w5.heap.size w5 w6) := ⟨q1, q2⟩
      have HB6 : Hid (Below wr.heap.size wr w6) := below_then HB5.out q2
      clear q1 q2
      refine hKc.out _ _ HB6.out (fun hHeld => ?_)
      clear hKc Kc
      refine wpAnyH_take (i := 11) (v := ?va10) (by simp; rfl) (by kernel_rfl) (by kernel_rfl) (by kernel_rfl) (fun _ _ _ h => h) (Or.inl ⟨by rfl, ?ya10⟩) hHeld ?ra10
      case ya10 => intro w hSw; clear hSw; go_simp; with_reducible rfl
      simp only [Act.put, List.setIfInBounds_toArray, List.set_cons_zero, List.set_cons_succ]
      refine wpAnyH_ready (rs := [12]) (by kernel_rfl) (by simp) ?_
      refine AllReadyH.cons (by simp; rfl) (fun Kc hKc => ?_) AllReadyH.nil
      have HB7 : Hid (Below wr.heap.size wr (w6.alloc (.cells #[.slice (some ⟨w.heap.size, 0, none⟩) a.bl a.bl, qp Q5, .map (some w5.heap.size)] 83))) := below_then HB6.out (below_alloc _ _)
      go_simp
      refine hKc.out _ _ HB7.out (fun hHeld => ?_)
      clear hKc Kc
      refine wpAnyH_take (i := 13) (v := ?va11) (by simp; rfl) (by kernel_rfl) (by kernel_rfl) (by kernel_rfl) (fun _ _ _ h => h) (Or.inl ⟨by rfl, ?ya11⟩) hHeld ?ra11
      case ya11 => intro w hSw; clear hSw; go_simp; with_reducible rfl
      simp only [Act.put, List.setIfInBounds_toArray, List.set_cons_zero, List.set_cons_succ]
      clear hHeld
      refine wpAnyH_done (by kernel_rfl) (NoPanic.normal ?_) _
      go_wp2_with fail
      go_ret
      obtain ⟨F', e1, e2⟩ := copied H.out HM.out HF.out HBd.out H5.out HB5.out H6.out
      exact ⟨F', by rw [← e1]; rfl, e2⟩
end Go.Proofs.Ytkffmglcllhbmaa
