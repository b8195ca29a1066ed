/-
  Layer 14: the queues while they are turned one by one.
-/
import Derived.Test.YtkffmglcllhbmaaKd
namespace Go.Proofs.Ytkffmglcllhbmaa
open Go.RowKit


/-- f, but y at i -/
def upd {α : Type} (f : Nat → α) (i : Nat) (y : α) : Nat → α := fun j => if j = i then y else f j
theorem upd_same {α : Type} (f : Nat → α) (i : Nat) (y : α) : upd f i y i = y := if_pos rfl
theorem upd_other {α : Type} (f : Nat → α) {i j : Nat} (y : α) (h : j ≠ i) : upd f i y j = f j := if_neg h
/-- locks' cells, queues and all, whatever the queues hold -/
structure PQ (w : World) (F : Ft) (N : Nat) (f : Nat → List Int) (M : Nat → Int) (l : List Int) (m : Int) : Prop where
  st : w.heap[F.Q]? = some (.cells (kcells F N) 83 (0, 0))
  qs : w.heap[F.qb]? = some (.cells (qrow F N).toArray 80 (0, 0))
  lq : ∀ i, i < N → QAt 101 w (F.q i) (F.v i) (f i) (M i)
  lt' : QAt 101 w F.th F.tv l m
  qq : ∀ i j, i < N → j < N → F.q i = F.q j → i = j
  qt : ∀ i, i < N → F.q i ≠ F.th
  vv : ∀ i j g, i < N → j < N → blk (F.v i) = some g → blk (F.v j) = some g → i = j
  vt : ∀ i g, i < N → blk (F.v i) = some g → ¬ blk F.tv = some g
/-- the blocks of the queues -/
def Ft.qset (F : Ft) (N b : Nat) : Prop := (∃ i, i < N ∧ b = F.q i) ∨ (∃ i, i < N ∧ blk (F.v i) = some b) ∨ b = F.th ∨ blk F.tv = some b
theorem qset_has {F : Ft} {N b : Nat} (h : F.qset N b) : F.has N b := by
  rcases h with h | h | h | h
  · exact .inr (.inr (.inl h))
  · exact .inr (.inr (.inr (.inl h)))
  · exact .inr (.inr (.inr (.inr (.inl h))))
  · exact .inr (.inr (.inr (.inr (.inr (.inl h)))))
/-- the same place, but for the queues' lists, which may have moved into new memory -/
structure Fro (w : World) (N : Nat) (F F' : Ft) : Prop where
  Q : F'.Q = F.Q
  qb : F'.qb = F.qb
  q : F'.q = F.q
  th : F'.th = F.th
  mb : F'.mb = F.mb
  G : F'.G = F.G
  m : F'.m = F.m
  v : ∀ i g, i < N → blk (F'.v i) = some g → blk (F.v i) = some g ∨ w.heap.size ≤ g
  tv : ∀ g, blk F'.tv = some g → blk F.tv = some g ∨ w.heap.size ≤ g
theorem Fro.refl (w : World) (N : Nat) (F : Ft) : Fro w N F F := ⟨rfl, rfl, rfl, rfl, rfl, rfl, rfl, fun _ _ _ h => .inl h, fun _ h => .inl h⟩
theorem Fro.qset {w : World} {N : Nat} {F F' : Ft} (h : Fro w N F F') {b : Nat} (hb : F'.qset N b) : F.qset N b ∨ w.heap.size ≤ b := by
  rcases hb with ⟨i, hi, e⟩ | ⟨i, hi, e⟩ | e | e
  · rw [h.q] at e; exact .inl (.inl ⟨i, hi, e⟩)
  · rcases h.v i b hi e with e | e
    · exact .inl (.inr (.inl ⟨i, hi, e⟩))
    · exact .inr e
  · rw [h.th] at e; exact .inl (.inr (.inr (.inl e)))
  · rcases h.tv b e with e | e
    · exact .inl (.inr (.inr (.inr e)))
    · exact .inr e
theorem Fro.has {w : World} {N : Nat} {F F' : Ft} (h : Fro w N F F') {b : Nat} (hb : F'.has N b) : F.has N b ∨ w.heap.size ≤ b := by
  rcases hb with e | e | e | e | e | e | e
  · rw [h.Q] at e; exact .inl (.inl e)
  · rw [h.qb] at e; exact .inl (.inr (.inl e))
  · exact (h.qset (.inl e)).elim (fun x => .inl (qset_has x)) .inr
  · exact (h.qset (.inr (.inl e))).elim (fun x => .inl (qset_has x)) .inr
  · exact (h.qset (.inr (.inr (.inl e)))).elim (fun x => .inl (qset_has x)) .inr
  · exact (h.qset (.inr (.inr (.inr e)))).elim (fun x => .inl (qset_has x)) .inr
  · rw [h.mb] at e; exact .inl (.inr (.inr (.inr (.inr (.inr (.inr e))))))
theorem Fro.grw {w : World} {N : Nat} {F F' : Ft} (w' : World) (h : Fro w N F F') : Grw w w' N F F' := ⟨h.Q, fun _ hb => h.has hb, fun b hb => by rw [h.G] at hb; exact .inl hb⟩
section
variable {w w' w0 : World} {F F' : Ft} {N : Nat} {f : Nat → List Int} {M : Nat → Int} {l : List Int} {m : Int}
theorem PQ.kq (h : PQ w F N f M l m) {b : Nat} (hb : F.qset N b) : kd w b = 101 ∨ kd w b = 30 := by
  rcases hb with ⟨i, hi, rfl⟩ | ⟨i, hi, e⟩ | rfl | e
  · exact .inl (kd_cells (h.lq i hi).st)
  · exact .inr ((h.lq i hi).row.kd e)
  · exact .inl (kd_cells h.lt'.st)
  · exact .inr (h.lt'.row.kd e)
theorem PQ.noq (h : PQ w F N f M l m) {b k : Nat} (hk : kd w b = k) (h1 : k ≠ 101) (h2 : k ≠ 30) : ¬ F.qset N b := fun hb => by
  rcases h.kq hb with e | e <;> rw [hk] at e
  · exact h1 e
  · exact h2 e
theorem PQ.later (h : PQ w F N f M l m) (hb : Below w.heap.size w w') : PQ w' F N f M l m :=
  ⟨(hb.block _ (Array.getElem?_eq_some_iff.1 h.st).1).trans h.st, (hb.block _ (Array.getElem?_eq_some_iff.1 h.qs).1).trans h.qs, fun i hi => (h.lq i hi).later hb, h.lt'.later hb, h.qq, h.qt, h.vv, h.vt⟩
theorem PQ.qlt (h : PQ w F N f M l m) {b : Nat} (hb : F.qset N b) : b < w.heap.size := by
  rcases hb with ⟨i, hi, rfl⟩ | ⟨i, hi, e⟩ | rfl | e
  · exact (h.lq i hi).lt
  · exact (h.lq i hi).row.lt e
  · exact h.lt'.lt
  · exact h.lt'.row.lt e
/-- one queue is turned -/
theorem PQ.turn (h : PQ w F N f M l m) {i : Nat} (hi : i < N) {v' : Value} {xs : List Int} {k : Int} (hk : Kept (fun b => b = F.q i ∨ blk (F.v i) = some b) w w') (hq : QAt 101 w' (F.q i) v' xs k) (hv : ∀ g, blk v' = some g → blk (F.v i) = some g ∨ w.heap.size ≤ g) :
    PQ w' { F with v := upd F.v i v' } N (upd f i xs) (upd M i k) l m := by
  have hS : ∀ b, (b = F.q i ∨ blk (F.v i) = some b) → F.qset N b := fun b hb => by
    rcases hb with e | e
    · exact .inl ⟨i, hi, e⟩
    · exact .inr (.inl ⟨i, hi, e⟩)
  have hQ : ¬ (F.Q = F.q i ∨ blk (F.v i) = some F.Q) := fun e => h.noq (kd_cells h.st) (by decide) (by decide) (hS _ e)
  have hB : ¬ (F.qb = F.q i ∨ blk (F.v i) = some F.qb) := fun e => h.noq (kd_cells h.qs) (by decide) (by decide) (hS _ e)
  have kq : ∀ j, j < N → kd w (F.q j) = 101 := fun j hj => kd_cells (h.lq j hj).st
  have kv : ∀ j g, j < N → blk (F.v j) = some g → kd w g = 30 := fun j g hj hg => (h.lq j hj).row.kd hg
  refine ⟨(hk.block _ (Array.getElem?_eq_some_iff.1 h.st).1 hQ).trans h.st, (hk.block _ (Array.getElem?_eq_some_iff.1 h.qs).1 hB).trans h.qs, fun j hj => ?_, ?_, h.qq, h.qt, fun j1 j2 g h1 h2 e1 e2 => ?_, fun j g hj e => ?_⟩
  · by_cases e : j = i
    · subst e
      show QAt _ _ _ (upd F.v j v' j) (upd f j xs j) (upd M j k j)
      rw [upd_same, upd_same, upd_same]; exact hq
    · show QAt _ _ _ (upd F.v i v' j) (upd f i xs j) (upd M i k j)
      rw [upd_other _ _ e, upd_other _ _ e, upd_other _ _ e]
      refine (h.lq j hj).far hk (fun e2 => ?_) (fun g hg e2 => ?_)
      · rcases e2 with e2 | e2
        · exact e (h.qq _ _ hj hi e2)
        · exact absurd ((kq j hj).symm.trans (kv i _ hi e2)) (by decide)
      · rcases e2 with e2 | e2
        · exact absurd ((kv j g hj hg).symm.trans ((congrArg (kd w) e2).trans (kq i hi))) (by decide)
        · exact e (h.vv _ _ g hj hi hg e2)
  · refine h.lt'.far hk (fun e2 => ?_) (fun g hg e2 => ?_)
    · rcases e2 with e2 | e2
      · exact h.qt i hi e2.symm
      · exact absurd ((kd_cells h.lt'.st).symm.trans (kv i _ hi e2)) (by decide)
    · rcases e2 with e2 | e2
      · exact absurd ((h.lt'.row.kd hg).symm.trans ((congrArg (kd w) e2).trans (kq i hi))) (by decide)
      · exact h.vt i g hi e2 hg
  · have key : ∀ j, j < N → j ≠ i → blk (F.v j) = some g → blk v' = some g → False := fun j hj hji hg hg' => by
      rcases hv g hg' with e | e
      · exact hji (h.vv _ _ g hj hi hg e)
      · have := (h.lq j hj).row.lt hg; omega
    by_cases d1 : j1 = i
    · by_cases d2 : j2 = i
      · rw [d1, d2]
      · exfalso; subst d1
        have e1' : blk v' = some g := by have := e1; simp only [upd_same] at this; exact this
        have e2' : blk (F.v j2) = some g := by have := e2; simp only [upd_other _ _ d2] at this; exact this
        exact key j2 h2 d2 e2' e1'
    · by_cases d2 : j2 = i
      · exfalso; subst d2
        have e2' : blk v' = some g := by have := e2; simp only [upd_same] at this; exact this
        have e1' : blk (F.v j1) = some g := by have := e1; simp only [upd_other _ _ d1] at this; exact this
        exact key j1 h1 d1 e1' e2'
      · have e1' : blk (F.v j1) = some g := by have := e1; simp only [upd_other _ _ d1] at this; exact this
        have e2' : blk (F.v j2) = some g := by have := e2; simp only [upd_other _ _ d2] at this; exact this
        exact h.vv _ _ g h1 h2 e1' e2'
  · by_cases d : j = i
    · subst d
      have e' : blk v' = some g := by have := e; simp only [upd_same] at this; exact this
      rcases hv g e' with e2 | e2
      · exact h.vt j g hj e2
      · intro e3; have := h.lt'.row.lt e3; omega
    · have e' : blk (F.v j) = some g := by have := e; simp only [upd_other _ _ d] at this; exact this
      exact h.vt j g hj e'
/-- the queue of all is turned -/
theorem PQ.turnT (h : PQ w F N f M l m) {v' : Value} {xs : List Int} {k : Int} (hk : Kept (fun b => b = F.th ∨ blk F.tv = some b) w w') (hq : QAt 101 w' F.th v' xs k) (hv : ∀ g, blk v' = some g → blk F.tv = some g ∨ w.heap.size ≤ g) :
    PQ w' { F with tv := v' } N f M xs k := by
  have hS : ∀ b, (b = F.th ∨ blk F.tv = some b) → F.qset N b := fun b hb => by
    rcases hb with e | e
    · exact .inr (.inr (.inl e))
    · exact .inr (.inr (.inr e))
  have hQ : ¬ (F.Q = F.th ∨ blk F.tv = some F.Q) := fun e => h.noq (kd_cells h.st) (by decide) (by decide) (hS _ e)
  have hB : ¬ (F.qb = F.th ∨ blk F.tv = some F.qb) := fun e => h.noq (kd_cells h.qs) (by decide) (by decide) (hS _ e)
  have kq : ∀ j, j < N → kd w (F.q j) = 101 := fun j hj => kd_cells (h.lq j hj).st
  have kv : ∀ j g, j < N → blk (F.v j) = some g → kd w g = 30 := fun j g hj hg => (h.lq j hj).row.kd hg
  refine ⟨(hk.block _ (Array.getElem?_eq_some_iff.1 h.st).1 hQ).trans h.st, (hk.block _ (Array.getElem?_eq_some_iff.1 h.qs).1 hB).trans h.qs, fun j hj => ?_, hq, h.qq, h.qt, h.vv, fun j g hj e e2 => ?_⟩
  · refine (h.lq j hj).far hk (fun e2 => ?_) (fun g hg e2 => ?_)
    · rcases e2 with e2 | e2
      · exact h.qt j hj e2
      · exact absurd ((kq j hj).symm.trans (h.lt'.row.kd e2)) (by decide)
    · rcases e2 with e2 | e2
      · exact absurd ((kv j g hj hg).symm.trans ((congrArg (kd w) e2).trans (kd_cells h.lt'.st))) (by decide)
      · exact h.vt j g hj hg e2
  · rcases hv g e2 with e3 | e3
    · exact h.vt j g hj e e3
    · have := (h.lq j hj).row.lt e; omega
/-- a map is turned: no queue is -/
theorem PQ.mapped (h : PQ w F N f M l m) {b : Nat} (hk : Kept (· = b) w w') (hb : kd w b = 100000) : PQ w' F N f M l m := by
  have hnq : ¬ F.qset N b := h.noq hb (by decide) (by decide)
  refine ⟨?_, ?_, fun i hi => ?_, ?_, h.qq, h.qt, h.vv, h.vt⟩
  · exact (hk.block _ (Array.getElem?_eq_some_iff.1 h.st).1 (ne_kd (kd_cells h.st) hb (by decide))).trans h.st
  · exact (hk.block _ (Array.getElem?_eq_some_iff.1 h.qs).1 (ne_kd (kd_cells h.qs) hb (by decide))).trans h.qs
  · exact (h.lq i hi).far hk (fun e => hnq (.inl ⟨i, hi, e.symm⟩)) (fun g hg e => hnq (.inr (.inl ⟨i, hi, by rw [← e]; exact hg⟩)))
  · exact h.lt'.far hk (fun e => hnq (.inr (.inr (.inl e.symm)))) (fun g hg e => hnq (.inr (.inr (.inr (by rw [← e]; exact hg)))))
/-- how far the turning has come: from w0, where locks lay at F, to w, where they lie at F' -/
structure Trn (w0 : World) (F : Ft) (N : Nat) (w : World) (F' : Ft) (f : Nat → List Int) (M : Nat → Int) (l : List Int) (m : Int) : Prop where
  pq : PQ w F' N f M l m
  fro : Fro w0 N F F'
  kept : Kept (F.qset N) w0 w
theorem Trn.put {l' : List Int} (h : Trn w0 F N w F' f M l' m) {i : Nat} (hi : i < N) {v' : Value} {xs : List Int} {k : Int} (hk : Kept (fun b => b = F'.q i ∨ blk (F'.v i) = some b) w w') (hq : QAt 101 w' (F'.q i) v' xs k) (hv : ∀ g, blk v' = some g → blk (F'.v i) = some g ∨ w.heap.size ≤ g) :
    Trn w0 F N w' { F' with v := upd F'.v i v' } (upd f i xs) (upd M i k) l' m := by
  have hs := h.kept.size
  refine ⟨h.pq.turn hi hk hq hv, ⟨h.fro.Q, h.fro.qb, h.fro.q, h.fro.th, h.fro.mb, h.fro.G, h.fro.m, fun j g hj e => ?_, h.fro.tv⟩, h.kept.trans hk (fun x hx e => ?_)⟩
  · by_cases d : j = i
    · subst d
      have e' : blk v' = some g := by have := e; simp only [upd_same] at this; exact this
      rcases hv g e' with e2 | e2
      · exact h.fro.v j g hj e2
      · exact .inr (by omega)
    · have e' : blk (F'.v j) = some g := by have := e; simp only [upd_other _ _ d] at this; exact this
      exact h.fro.v j g hj e'
  · have hb : F'.qset N x := by
      rcases e with e | e
      · exact .inl ⟨i, hi, e⟩
      · exact .inr (.inl ⟨i, hi, e⟩)
    rcases h.fro.qset hb with e | e
    · exact e
    · omega
theorem Trn.putT (h : Trn w0 F N w F' f M l m) {v' : Value} {xs : List Int} {k : Int} (hk : Kept (fun b => b = F'.th ∨ blk F'.tv = some b) w w') (hq : QAt 101 w' F'.th v' xs k) (hv : ∀ g, blk v' = some g → blk F'.tv = some g ∨ w.heap.size ≤ g) :
    Trn w0 F N w' { F' with tv := v' } f M xs k := by
  have hs := h.kept.size
  refine ⟨h.pq.turnT hk hq hv, ⟨h.fro.Q, h.fro.qb, h.fro.q, h.fro.th, h.fro.mb, h.fro.G, h.fro.m, h.fro.v, fun g e => ?_⟩, h.kept.trans hk (fun x hx e => ?_)⟩
  · rcases hv g e with e2 | e2
    · exact h.fro.tv g e2
    · exact .inr (by omega)
  · have hb : F'.qset N x := by
      rcases e with e | e
      · exact .inr (.inr (.inl e))
      · exact .inr (.inr (.inr e))
    rcases h.fro.qset hb with e | e
    · exact e
    · omega
theorem Trn.later (h : Trn w0 F N w F' f M l m) (hb : Below w.heap.size w w') : Trn w0 F N w' F' f M l m := ⟨h.pq.later hb, h.fro, h.kept.trans (Kept.of_below (fun _ => False) hb) (fun _ _ e => e.elim)⟩
theorem Trn.congr {f' : Nat → List Int} (h : Trn w0 F N w F' f M l m) (hf : ∀ i, i < N → f' i = f i) : Trn w0 F N w F' f' M l m :=
  ⟨⟨h.pq.st, h.pq.qs, fun i hi => by rw [hf i hi]; exact h.pq.lq i hi, h.pq.lt', h.pq.qq, h.pq.qt, h.pq.vv, h.pq.vt⟩, h.fro, h.kept⟩
/-- locks are turned in that they are cut into queues and claims -/
theorem PL.trn {a : Lk} {n : Nat} (h : PL w F n a) : ∃ M, (∀ i, i < a.bl → M i ≤ a.last) ∧ Trn w F a.bl w F (fun i => qS a.L i) M (tix a.L) a.last := by
  have h1 : ∀ i, ∃ m, i < a.bl → m ≤ a.last ∧ QAt 101 w (F.q i) (F.v i) (qS a.L i) m := fun i => by
    by_cases hi : i < a.bl
    · obtain ⟨m, hm, hq⟩ := h.lq i hi; exact ⟨m, fun _ => ⟨hm, hq⟩⟩
    · exact ⟨0, fun e => absurd e hi⟩
  refine ⟨fun i => Classical.choose (h1 i), fun i hi => (Classical.choose_spec (h1 i) hi).1, ⟨h.st, h.qs, fun i hi => (Classical.choose_spec (h1 i) hi).2, h.lt', h.qq, h.qt, h.vv, h.vt⟩, Fro.refl _ _ _, Kept.refl _ _⟩
/-- the map of claims stands while queues are turned -/
theorem Trn.cm {a : Lk} {n : Nat} (h : Trn w0 F a.bl w F' f M l m) (h0 : PL w0 F n a) : CM w F.G F.mb n a.L F.m :=
  h0.cm.far h.kept (fun e => by have := h0.kinds (qset_has e); obtain ⟨M0, _, t0⟩ := h0.trn; exact t0.pq.noq h0.km (by decide) (by decide) e) (fun g _ hg e => h0.noInts hg (qset_has e))
/-- and together again -/
theorem Trn.pl {a : Lk} {n : Nat} (h : Trn w0 F a.bl w F' (fun i => qS a.L i) M (tix a.L) a.last) (hM : ∀ i, i < a.bl → M i ≤ a.last) (hc : CM w F'.G F'.mb n a.L F'.m) (ok : Ok a) (hl : a.L.length ≤ n) : PL w F' n a :=
  ⟨h.pq.st, h.pq.qs, fun i hi => ⟨_, hM i hi, h.pq.lq i hi⟩, h.pq.lt', hc, ok, hl, h.pq.qq, h.pq.qt, h.pq.vv, h.pq.vt⟩
end
end Go.Proofs.Ytkffmglcllhbmaa
