/-
  Layer 14: the queues while they are turned one by one. Layer 14: Lay.
-/
import Derived.Test.YtkgjmejpbklabaaGreatN17
namespace Go.Proofs.YtkgjmejpbklabaaGreat.K
open Go.RowKit
/-- f, but y at i -/
def upd {α : Type} (f : Nat → α) (i : Nat) (y : α) : Nat → α := fun j => if j = i then y else f j
theorem upd_same {α : Type} (f : Nat → α) (i : Nat) (y : α) : upd f i y i = y := if_pos rfl
theorem upd_other {α : Type} (f : Nat → α) {i j : Nat} (y : α) (h : j ≠ i) : upd f i y j = f j := if_neg h
/-- locks' cells, queues and all, whatever the queues hold -/
structure PQ (w : World) (F : Ft) (N : Nat) (f : Nat → List Int) (M : Nat → Int) (l : List Int) (m : Int) : Prop where
  st : w.heap[F.Q]? = some (.cells (kcells F N) 66 (0, 0))
  qs : w.heap[F.qb]? = some (.cells (qrow F N).toArray 57 (0, 0))
  lq : ∀ i, i < N → QAt 59 w (F.q i) (F.v i) (f i) (M i)
  lt' : QAt 59 w F.th F.tv l m
  qq : ∀ i j, i < N → j < N → F.q i = F.q j → i = j
  qt : ∀ i, i < N → F.q i ≠ F.th
  vv : ∀ i j g, i < N → j < N → blk (F.v i) = some g → blk (F.v j) = some g → i = j
  vt : ∀ i g, i < N → blk (F.v i) = some g → ¬ blk F.tv = some g
/-- the blocks of the queues -/
def Ft.qset (F : Ft) (N b : Nat) : Prop := (∃ i, i < N ∧ b = F.q i) ∨ (∃ i, i < N ∧ blk (F.v i) = some b) ∨ b = F.th ∨ blk F.tv = some b
theorem qset_has {F : Ft} {N b : Nat} (h : F.qset N b) : F.has N b := by
  rcases h with h | h | h | h
  · exact .inr (.inr (.inl h))
  · exact .inr (.inr (.inr (.inl h)))
  · exact .inr (.inr (.inr (.inr (.inl h))))
  · exact .inr (.inr (.inr (.inr (.inr (.inl h)))))
/-- the same place, but for the queues' lists, which may have moved into new memory -/
structure Fro (w : World) (N : Nat) (F F' : Ft) : Prop where
  Q : F'.Q = F.Q
  qb : F'.qb = F.qb
  q : F'.q = F.q
  th : F'.th = F.th
  mb : F'.mb = F.mb
  G : F'.G = F.G
  m : F'.m = F.m
  v : ∀ i g, i < N → blk (F'.v i) = some g → blk (F.v i) = some g ∨ w.heap.size ≤ g
  tv : ∀ g, blk F'.tv = some g → blk F.tv = some g ∨ w.heap.size ≤ g
theorem Fro.refl (w : World) (N : Nat) (F : Ft) : Fro w N F F := ⟨rfl, rfl, rfl, rfl, rfl, rfl, rfl, fun _ _ _ h => .inl h, fun _ h => .inl h⟩
theorem Fro.qset {w : World} {N : Nat} {F F' : Ft} (h : Fro w N F F') {b : Nat} (hb : F'.qset N b) : F.qset N b ∨ w.heap.size ≤ b := by
  rcases hb with ⟨i, hi, e⟩ | ⟨i, hi, e⟩ | e | e
  · rw [h.q] at e; exact .inl (.inl ⟨i, hi, e⟩)
  · rcases h.v i b hi e with e | e
    · exact .inl (.inr (.inl ⟨i, hi, e⟩))
    · exact .inr e
  · rw [h.th] at e; exact .inl (.inr (.inr (.inl e)))
  · rcases h.tv b e with e | e
    · exact .inl (.inr (.inr (.inr e)))
    · exact .inr e
theorem Fro.has {w : World} {N : Nat} {F F' : Ft} (h : Fro w N F F') {b : Nat} (hb : F'.has N b) : F.has N b ∨ w.heap.size ≤ b := by
  rcases hb with e | e | e | e | e | e | e
  · rw [h.Q] at e; exact .inl (.inl e)
  · rw [h.qb] at e; exact .inl (.inr (.inl e))
  · exact (h.qset (.inl e)).elim (fun x => .inl (qset_has x)) .inr
  · exact (h.qset (.inr (.inl e))).elim (fun x => .inl (qset_has x)) .inr
  · exact (h.qset (.inr (.inr (.inl e)))).elim (fun x => .inl (qset_has x)) .inr
  · exact (h.qset (.inr (.inr (.inr e)))).elim (fun x => .inl (qset_has x)) .inr
  · rw [h.mb] at e; exact .inl (.inr (.inr (.inr (.inr (.inr (.inr e))))))
theorem Fro.grw {w : World} {N : Nat} {F F' : Ft} (w' : World) (h : Fro w N F F') : Grw w w' N F F' := ⟨h.Q, fun _ hb => h.has hb, fun b hb => by rw [h.G] at hb; exact .inl hb⟩
section
variable {w w' w0 : World} {F F' : Ft} {N : Nat} {f : Nat → List Int} {M : Nat → Int} {l : List Int} {m : Int}
theorem PQ.kq (h : PQ w F N f M l m) {b : Nat} (hb : F.qset N b) : kd w b = 59 ∨ kd w b = 44 := by
  rcases hb with ⟨i, hi, rfl⟩ | ⟨i, hi, e⟩ | rfl | e
  · exact .inl (kd_cells (h.lq i hi).st)
  · exact .inr ((Row_kd (h.lq i hi).row e))
  · exact .inl (kd_cells h.lt'.st)
  · exact .inr ((Row_kd h.lt'.row e))
theorem PQ.noq (h : PQ w F N f M l m) {b k : Nat} (hk : kd w b = k) (h1 : k ≠ 59) (h2 : k ≠ 44) : ¬ F.qset N b := fun hb => by
  rcases h.kq hb with e | e <;> rw [hk] at e
  · exact h1 e
  · exact h2 e
theorem PQ.later (h : PQ w F N f M l m) (hb : Below w.heap.size w w') : PQ w' F N f M l m :=
  ⟨(hb.block _ (Array.getElem?_eq_some_iff.1 h.st).1).trans h.st, (hb.block _ (Array.getElem?_eq_some_iff.1 h.qs).1).trans h.qs, fun i hi => (h.lq i hi).later hb, h.lt'.later hb, h.qq, h.qt, h.vv, h.vt⟩
theorem PQ.qlt (h : PQ w F N f M l m) {b : Nat} (hb : F.qset N b) : b < w.heap.size := by
  rcases hb with ⟨i, hi, rfl⟩ | ⟨i, hi, e⟩ | rfl | e
  · exact (h.lq i hi).lt
  · exact (h.lq i hi).row.lt e
  · exact h.lt'.lt
  · exact h.lt'.row.lt e
/-- one queue is turned -/
theorem PQ.turn (h : PQ w F N f M l m) {i : Nat} (hi : i < N) {v' : Value} {xs : List Int} {k : Int} (hk : Kept (fun b => b = F.q i ∨ blk (F.v i) = some b) w w') (hq : QAt 59 w' (F.q i) v' xs k) (hv : ∀ g, blk v' = some g → blk (F.v i) = some g ∨ w.heap.size ≤ g) :
    PQ w' { F with v := upd F.v i v' } N (upd f i xs) (upd M i k) l m := by
  have hS : ∀ b, (b = F.q i ∨ blk (F.v i) = some b) → F.qset N b := fun b hb => by
    rcases hb with e | e
    · exact .inl ⟨i, hi, e⟩
    · exact .inr (.inl ⟨i, hi, e⟩)
  have hQ : ¬ (F.Q = F.q i ∨ blk (F.v i) = some F.Q) := fun e => h.noq (kd_cells h.st) (by decide) (by decide) (hS _ e)
  have hB : ¬ (F.qb = F.q i ∨ blk (F.v i) = some F.qb) := fun e => h.noq (kd_cells h.qs) (by decide) (by decide) (hS _ e)
  have kq : ∀ j, j < N → kd w (F.q j) = 59 := fun j hj => kd_cells (h.lq j hj).st
  have kv : ∀ j g, j < N → blk (F.v j) = some g → kd w g = 44 := fun j g hj hg => (Row_kd (h.lq j hj).row hg)
  refine ⟨(hk.block _ (Array.getElem?_eq_some_iff.1 h.st).1 hQ).trans h.st, (hk.block _ (Array.getElem?_eq_some_iff.1 h.qs).1 hB).trans h.qs, fun j hj => ?_, ?_, h.qq, h.qt, fun j1 j2 g h1 h2 e1 e2 => ?_, fun j g hj e => ?_⟩
  · by_cases e : j = i
    · subst e
      show QAt _ _ _ (upd F.v j v' j) (upd f j xs j) (upd M j k j)
      rw [upd_same, upd_same, upd_same]; exact hq
    · show QAt _ _ _ (upd F.v i v' j) (upd f i xs j) (upd M i k j)
      rw [upd_other _ _ e, upd_other _ _ e, upd_other _ _ e]
      refine (h.lq j hj).far hk (fun e2 => ?_) (fun g hg e2 => ?_)
      · rcases e2 with e2 | e2
        · exact e (h.qq _ _ hj hi e2)
        · exact absurd ((kq j hj).symm.trans (kv i _ hi e2)) (by decide)
      · rcases e2 with e2 | e2
        · exact absurd ((kv j g hj hg).symm.trans ((congrArg (kd w) e2).trans (kq i hi))) (by decide)
        · exact e (h.vv _ _ g hj hi hg e2)
  · refine h.lt'.far hk (fun e2 => ?_) (fun g hg e2 => ?_)
    · rcases e2 with e2 | e2
      · exact h.qt i hi e2.symm
      · exact absurd ((kd_cells h.lt'.st).symm.trans (kv i _ hi e2)) (by decide)
    · rcases e2 with e2 | e2
      · exact absurd (((Row_kd h.lt'.row hg)).symm.trans ((congrArg (kd w) e2).trans (kq i hi))) (by decide)
      · exact h.vt i g hi e2 hg
  · have key : ∀ j, j < N → j ≠ i → blk (F.v j) = some g → blk v' = some g → False := fun j hj hji hg hg' => by
      rcases hv g hg' with e | e
      · exact hji (h.vv _ _ g hj hi hg e)
      · have := (h.lq j hj).row.lt hg; omega
    by_cases d1 : j1 = i
    · by_cases d2 : j2 = i
      · rw [d1, d2]
      · exfalso; subst d1
        have e1' : blk v' = some g := by have := e1; simp only [upd_same] at this; exact this
        have e2' : blk (F.v j2) = some g := by have := e2; simp only [upd_other _ _ d2] at this; exact this
        exact key j2 h2 d2 e2' e1'
    · by_cases d2 : j2 = i
      · exfalso; subst d2
        have e2' : blk v' = some g := by have := e2; simp only [upd_same] at this; exact this
        have e1' : blk (F.v j1) = some g := by have := e1; simp only [upd_other _ _ d1] at this; exact this
        exact key j1 h1 d1 e1' e2'
      · have e1' : blk (F.v j1) = some g := by have := e1; simp only [upd_other _ _ d1] at this; exact this
        have e2' : blk (F.v j2) = some g := by have := e2; simp only [upd_other _ _ d2] at this; exact this
        exact h.vv _ _ g h1 h2 e1' e2'
  · by_cases d : j = i
    · subst d
      have e' : blk v' = some g := by have := e; simp only [upd_same] at this; exact this
      rcases hv g e' with e2 | e2
      · exact h.vt j g hj e2
      · intro e3; have := h.lt'.row.lt e3; omega
    · have e' : blk (F.v j) = some g := by have := e; simp only [upd_other _ _ d] at this; exact this
      exact h.vt j g hj e'
/-- the queue of all is turned -/
theorem PQ.turnT (h : PQ w F N f M l m) {v' : Value} {xs : List Int} {k : Int} (hk : Kept (fun b => b = F.th ∨ blk F.tv = some b) w w') (hq : QAt 59 w' F.th v' xs k) (hv : ∀ g, blk v' = some g → blk F.tv = some g ∨ w.heap.size ≤ g) :
    PQ w' { F with tv := v' } N f M xs k := by
  have hS : ∀ b, (b = F.th ∨ blk F.tv = some b) → F.qset N b := fun b hb => by
    rcases hb with e | e
    · exact .inr (.inr (.inl e))
    · exact .inr (.inr (.inr e))
  have hQ : ¬ (F.Q = F.th ∨ blk F.tv = some F.Q) := fun e => h.noq (kd_cells h.st) (by decide) (by decide) (hS _ e)
  have hB : ¬ (F.qb = F.th ∨ blk F.tv = some F.qb) := fun e => h.noq (kd_cells h.qs) (by decide) (by decide) (hS _ e)
  have kq : ∀ j, j < N → kd w (F.q j) = 59 := fun j hj => kd_cells (h.lq j hj).st
  have kv : ∀ j g, j < N → blk (F.v j) = some g → kd w g = 44 := fun j g hj hg => (Row_kd (h.lq j hj).row hg)
  refine ⟨(hk.block _ (Array.getElem?_eq_some_iff.1 h.st).1 hQ).trans h.st, (hk.block _ (Array.getElem?_eq_some_iff.1 h.qs).1 hB).trans h.qs, fun j hj => ?_, hq, h.qq, h.qt, h.vv, fun j g hj e e2 => ?_⟩
  · refine (h.lq j hj).far hk (fun e2 => ?_) (fun g hg e2 => ?_)
    · rcases e2 with e2 | e2
      · exact h.qt j hj e2
      · exact absurd ((kq j hj).symm.trans ((Row_kd h.lt'.row e2))) (by decide)
    · rcases e2 with e2 | e2
      · exact absurd ((kv j g hj hg).symm.trans ((congrArg (kd w) e2).trans (kd_cells h.lt'.st))) (by decide)
      · exact h.vt j g hj hg e2
  · rcases hv g e2 with e3 | e3
    · exact h.vt j g hj e e3
    · have := (h.lq j hj).row.lt e; omega
/-- a map is turned: no queue is -/
theorem PQ.mapped (h : PQ w F N f M l m) {b : Nat} (hk : Kept (· = b) w w') (hb : kd w b = 100000) : PQ w' F N f M l m := by
  have hnq : ¬ F.qset N b := h.noq hb (by decide) (by decide)
  refine ⟨?_, ?_, fun i hi => ?_, ?_, h.qq, h.qt, h.vv, h.vt⟩
  · exact (hk.block _ (Array.getElem?_eq_some_iff.1 h.st).1 (ne_kd (kd_cells h.st) hb (by decide))).trans h.st
  · exact (hk.block _ (Array.getElem?_eq_some_iff.1 h.qs).1 (ne_kd (kd_cells h.qs) hb (by decide))).trans h.qs
  · exact (h.lq i hi).far hk (fun e => hnq (.inl ⟨i, hi, e.symm⟩)) (fun g hg e => hnq (.inr (.inl ⟨i, hi, by rw [← e]; exact hg⟩)))
  · exact h.lt'.far hk (fun e => hnq (.inr (.inr (.inl e.symm)))) (fun g hg e => hnq (.inr (.inr (.inr (by rw [← e]; exact hg)))))
/-- how far the turning has come: from w0, where locks lay at F, to w, where they lie at F' -/
structure Trn (w0 : World) (F : Ft) (N : Nat) (w : World) (F' : Ft) (f : Nat → List Int) (M : Nat → Int) (l : List Int) (m : Int) : Prop where
  pq : PQ w F' N f M l m
  fro : Fro w0 N F F'
  kept : Kept (F.qset N) w0 w
theorem Trn.put {l' : List Int} (h : Trn w0 F N w F' f M l' m) {i : Nat} (hi : i < N) {v' : Value} {xs : List Int} {k : Int} (hk : Kept (fun b => b = F'.q i ∨ blk (F'.v i) = some b) w w') (hq : QAt 59 w' (F'.q i) v' xs k) (hv : ∀ g, blk v' = some g → blk (F'.v i) = some g ∨ w.heap.size ≤ g) :
    Trn w0 F N w' { F' with v := upd F'.v i v' } (upd f i xs) (upd M i k) l' m := by
  have hs := h.kept.size
  refine ⟨h.pq.turn hi hk hq hv, ⟨h.fro.Q, h.fro.qb, h.fro.q, h.fro.th, h.fro.mb, h.fro.G, h.fro.m, fun j g hj e => ?_, h.fro.tv⟩, h.kept.trans hk (fun x hx e => ?_)⟩
  · by_cases d : j = i
    · subst d
      have e' : blk v' = some g := by have := e; simp only [upd_same] at this; exact this
      rcases hv g e' with e2 | e2
      · exact h.fro.v j g hj e2
      · exact .inr (by omega)
    · have e' : blk (F'.v j) = some g := by have := e; simp only [upd_other _ _ d] at this; exact this
      exact h.fro.v j g hj e'
  · have hb : F'.qset N x := by
      rcases e with e | e
      · exact .inl ⟨i, hi, e⟩
      · exact .inr (.inl ⟨i, hi, e⟩)
    rcases h.fro.qset hb with e | e
    · exact e
    · omega
theorem Trn.putT (h : Trn w0 F N w F' f M l m) {v' : Value} {xs : List Int} {k : Int} (hk : Kept (fun b => b = F'.th ∨ blk F'.tv = some b) w w') (hq : QAt 59 w' F'.th v' xs k) (hv : ∀ g, blk v' = some g → blk F'.tv = some g ∨ w.heap.size ≤ g) :
    Trn w0 F N w' { F' with tv := v' } f M xs k := by
  have hs := h.kept.size
  refine ⟨h.pq.turnT hk hq hv, ⟨h.fro.Q, h.fro.qb, h.fro.q, h.fro.th, h.fro.mb, h.fro.G, h.fro.m, h.fro.v, fun g e => ?_⟩, h.kept.trans hk (fun x hx e => ?_)⟩
  · rcases hv g e with e2 | e2
    · exact h.fro.tv g e2
    · exact .inr (by omega)
  · have hb : F'.qset N x := by
      rcases e with e | e
      · exact .inr (.inr (.inl e))
      · exact .inr (.inr (.inr e))
    rcases h.fro.qset hb with e | e
    · exact e
    · omega
theorem Trn.later (h : Trn w0 F N w F' f M l m) (hb : Below w.heap.size w w') : Trn w0 F N w' F' f M l m := ⟨h.pq.later hb, h.fro, h.kept.trans (Kept.of_below (fun _ => False) hb) (fun _ _ e => e.elim)⟩
theorem Trn.congr {f' : Nat → List Int} (h : Trn w0 F N w F' f M l m) (hf : ∀ i, i < N → f' i = f i) : Trn w0 F N w F' f' M l m :=
  ⟨⟨h.pq.st, h.pq.qs, fun i hi => by rw [hf i hi]; exact h.pq.lq i hi, h.pq.lt', h.pq.qq, h.pq.qt, h.pq.vv, h.pq.vt⟩, h.fro, h.kept⟩
/-- locks are turned in that they are cut into queues and claims -/
theorem PL.trn {a : Lk} {n : Nat} (h : PL w F n a) : ∃ M, (∀ i, i < a.bl → M i ≤ a.last) ∧ Trn w F a.bl w F (fun i => qS a.L i) M (tix a.L) a.last := by
  have h1 : ∀ i, ∃ m, i < a.bl → m ≤ a.last ∧ QAt 59 w (F.q i) (F.v i) (qS a.L i) m := fun i => by
    by_cases hi : i < a.bl
    · obtain ⟨m, hm, hq⟩ := h.lq i hi; exact ⟨m, fun _ => ⟨hm, hq⟩⟩
    · exact ⟨0, fun e => absurd e hi⟩
  refine ⟨fun i => Classical.choose (h1 i), fun i hi => (Classical.choose_spec (h1 i) hi).1, ⟨h.st, h.qs, fun i hi => (Classical.choose_spec (h1 i) hi).2, h.lt', h.qq, h.qt, h.vv, h.vt⟩, Fro.refl _ _ _, Kept.refl _ _⟩
/-- the map of claims stands while queues are turned -/
theorem Trn.cm {a : Lk} {n : Nat} (h : Trn w0 F a.bl w F' f M l m) (h0 : PL w0 F n a) : CM w F.G F.mb n a.L F.m :=
  h0.cm.far h.kept (fun e => by have := h0.kinds (qset_has e); obtain ⟨M0, _, t0⟩ := h0.trn; exact t0.pq.noq h0.km (by decide) (by decide) e) (fun g _ hg e => h0.noInts hg (qset_has e))
/-- and together again -/
theorem Trn.pl {a : Lk} {n : Nat} (h : Trn w0 F a.bl w F' (fun i => qS a.L i) M (tix a.L) a.last) (hM : ∀ i, i < a.bl → M i ≤ a.last) (hc : CM w F'.G F'.mb n a.L F'.m) (ok : Ok a) (hl : a.L.length ≤ n) : PL w F' n a :=
  ⟨h.pq.st, h.pq.qs, fun i hi => ⟨_, hM i hi, h.pq.lq i hi⟩, h.pq.lt', hc, ok, hl, h.pq.qq, h.pq.qt, h.pq.vv, h.pq.vt⟩
end
end Go.Proofs.YtkgjmejpbklabaaGreat.K
namespace Go.Proofs.YtkgjmejpbklabaaGreat.K
open Go.RowKit
section
variable {w : World} {F : Ft} {n : Nat} {a : Lk}
theorem own_blk {w : World} {base : Nat} {e : TypeId} {size : Nat} {v : Value} {n : Nat} {xs : List Value} (h : w.ownsRow base e size v n xs) {g : Nat} (hg : blk v = some g) : base ≤ g := by
  rcases h.2 with ⟨rfl, _⟩ | ⟨g', cap, cur, rfl, h1, _⟩
  · cases hg
  · cases hg; exact h1
set_option maxHeartbeats 2000000 in
set_option maxRecDepth 100000 in
theorem lay_nil (w : World) (t : Int) (v : Value) : Calls Tryz.prog 33 #[nilq, .int .u64 t, v] w fun e w' => e = .returned (.int .i64 1) ∧ w' = w := by
  go_enter Tryz.func33, Tryz.ntmps33
  go_wp2
  go_ret
  exact ⟨rfl, rfl⟩
set_option maxHeartbeats 2000000 in
set_option maxRecDepth 100000 in
theorem lay_empty (F : Ft) (w : World) (t : Int) (p : Option Addr) (c : Nat) : Calls Tryz.prog 33 #[qp F.Q, .int .u64 t, .slice p 0 c] w fun e w' => e = .returned (.int .i64 53) ∧ Below w.heap.size w w' := by
  go_enter Tryz.func33, Tryz.ntmps33
  go_wp2
  go_ret
  exact ⟨rfl, Below.refl _ _⟩
set_option maxHeartbeats 2000000 in
set_option maxRecDepth 100000 in
theorem lay_form (F : Ft) (t : Int) {p : Option Addr} {k c : Nat} {s : List Int} (hI : B.IIn w p k s) (hk : k ≤ 140737488355328) (h0 : 0 < k) (hs : risS s = false) : Calls Tryz.prog 33 #[qp F.Q, .int .u64 t, .slice p k c] w fun e w' => e = .returned (.int .i64 53) ∧ Below w.heap.size w w' := by
  have hz : ((k : Int) == 0) = false := by rw [beq_eq_false_iff_ne]; omega
  go_enter Tryz.func33, Tryz.ntmps33
  go_wp2_with (go_at_call 64; refine (rises_is p k c s w hI hk).mono ?_; rw [hs]; rintro e w1 ⟨rfl, m, rfl⟩)
  go_ret
  exact ⟨rfl, below_drawn _⟩
theorem last_get {s : List Int} (h : s ≠ []) : s.getD (s.length - 1) 0 ∈ s := by
  have hl : s.length - 1 < s.length := by have := List.length_pos_iff.2 h; omega
  rw [List.getD, List.getElem?_eq_getElem hl]
  exact List.getElem_mem hl
theorem rng_ends {s : List Int} {N : Nat} (hs : s ≠ []) (hp : s.Pairwise (· < ·)) (h0 : 0 ≤ s.getD 0 0) (h1 : s.getD (s.length - 1) 0 < N) : ∀ b ∈ s, 0 ≤ b ∧ b < N := by
  intro b hb
  obtain ⟨i, hi, rfl⟩ := List.getElem_of_mem hb
  have hl : 0 < s.length := List.length_pos_iff.2 hs
  have hg : ∀ j (hj : j < s.length), s.getD j 0 = s[j] := fun j hj => by simp [List.getD, hj]
  rw [hg 0 hl] at h0
  rw [hg (s.length - 1) (by omega)] at h1
  have hpw := List.pairwise_iff_getElem.1 hp
  constructor
  · by_cases e : i = 0
    · subst e; exact h0
    · have := hpw 0 i hl hi (by omega); omega
  · by_cases e : i = s.length - 1
    · subst e; exact h1
    · have := hpw i (s.length - 1) hi (by omega) (by omega); omega
set_option maxHeartbeats 2000000 in
set_option maxRecDepth 100000 in
theorem lay_block0 (h : PL w F n a) (t : Int) {p : Option Addr} {k c : Nat} {s : List Int} (hI : B.IIn w p k s) (hk : k ≤ 140737488355328) (h0 : 0 < k) (hs : risS s = true) (hb : isB a (s.getD 0 0) = false) : Calls Tryz.prog 33 #[qp F.Q, .int .u64 t, .slice p k c] w fun e w' => e = .returned (.int .i64 51) ∧ Below w.heap.size w w' := by
  have hz : ((k : Int) == 0) = false := by rw [beq_eq_false_iff_ne]; omega
  have HI : Hid (B.IIn w p k s) := hI
  obtain ⟨bb, o, rfl, hc⟩ := hI.cells h0
  have c0 : ∀ m, (w.drewN m).cell? ⟨bb, o, none⟩ = some (.int .i64 (s.getD 0 0)) := fun m => hc 0 h0
  have H : Hid (PL w F n a) := h
  clear h hI hc
  generalize s.getD 0 0 = x at *
  have i1 : (0 : Int) < (k : Int) := by omega
  go_enter Tryz.func33, Tryz.ntmps33
  go_wp2_with (first | (go_at_call 64; refine (rises_is _ k c s w HI.out hk).mono ?_; rw [hs]; rintro e w1 ⟨rfl, m, rfl⟩; have c1 := c0 m) | (go_at_call 65; refine (hasBlock_at (H.out.drawn m) x).mono ?_; rw [hb]; rintro e w2 ⟨rfl, rfl⟩))
  go_ret
  exact ⟨rfl, below_drawn _⟩
set_option maxHeartbeats 2000000 in
set_option maxRecDepth 100000 in
theorem lay_block1 (h : PL w F n a) (t : Int) {p : Option Addr} {k c : Nat} {s : List Int} (hI : B.IIn w p k s) (hk : k ≤ 140737488355328) (h0 : 0 < k) (hs : risS s = true) (hb0 : isB a (s.getD 0 0) = true) (hb : isB a (s.getD (k - 1) 0) = false) : Calls Tryz.prog 33 #[qp F.Q, .int .u64 t, .slice p k c] w fun e w' => e = .returned (.int .i64 51) ∧ Below w.heap.size w w' := by
  have hz : ((k : Int) == 0) = false := by rw [beq_eq_false_iff_ne]; omega
  have HI : Hid (B.IIn w p k s) := hI
  obtain ⟨bb, o, rfl, hc⟩ := hI.cells h0
  have c0 : ∀ m, (w.drewN m).cell? ⟨bb, o, none⟩ = some (.int .i64 (s.getD 0 0)) := fun m => hc 0 h0
  have cl : ∀ m, (w.drewN m).cell? ⟨bb, o + (k - 1), none⟩ = some (.int .i64 (s.getD (k - 1) 0)) := fun m => hc (k - 1) (by omega)
  have H : Hid (PL w F n a) := h
  clear h hI hc
  have hne : Hid (isB a (s.getD 0 0) = true) := hb0
  have hne2 : Hid (isB a (s.getD (k - 1) 0) = false) := hb
  clear hb0 hb
  generalize s.getD 0 0 = x at *
  generalize s.getD (k - 1) 0 = y at *
  have i1 : (0 : Int) < (k : Int) := by omega
  have i2 : IntKind.i64.wrap ((k : Int) - 1) = ((k - 1 : Nat) : Int) := by rw [IntKind.wrap_i64]; omega
  have i3 : ((k - 1 : Nat) : Int) < (k : Int) := by omega
  generalize k - 1 = k1 at *
  go_enter Tryz.func33, Tryz.ntmps33
  go_wp2_with (go_at_call 64; refine (rises_is _ k c s w HI.out hk).mono ?_; rw [hs]; rintro e w1 ⟨rfl, m, rfl⟩; have c1 := c0 m; have c2 := cl m)
  refine (hasBlock_at (H.out.drawn m) x).mono ?_
  rw [hne.out]
  rintro e w2 ⟨rfl, rfl⟩
  go_wp2_with fail
  refine (hasBlock_at (H.out.drawn m) y).mono ?_
  rw [hne2.out]
  rintro e w2 ⟨rfl, rfl⟩
  go_wp2_with fail
  go_ret
  exact ⟨rfl, below_drawn _⟩
set_option maxHeartbeats 2000000 in
set_option maxRecDepth 100000 in
theorem lay_low (h : PL w F n a) (t : Int) {p : Option Addr} {k c : Nat} {s : List Int} (hI : B.IIn w p k s) (hk : k ≤ 140737488355328) (h0 : 0 < k) (hs : risS s = true) (hb0 : isB a (s.getD 0 0) = true) (hb : isB a (s.getD (k - 1) 0) = true) (ht : t ≤ a.last) : Calls Tryz.prog 33 #[qp F.Q, .int .u64 t, .slice p k c] w fun e w' => e = .returned (.int .i64 110) ∧ Below w.heap.size w w' := by
  have hz : ((k : Int) == 0) = false := by rw [beq_eq_false_iff_ne]; omega
  have HI : Hid (B.IIn w p k s) := hI
  obtain ⟨bb, o, rfl, hc⟩ := hI.cells h0
  have c0 : ∀ m, (w.drewN m).cell? ⟨bb, o, none⟩ = some (.int .i64 (s.getD 0 0)) := fun m => hc 0 h0
  have cl : ∀ m, (w.drewN m).cell? ⟨bb, o + (k - 1), none⟩ = some (.int .i64 (s.getD (k - 1) 0)) := fun m => hc (k - 1) (by omega)
  have ct : ∀ m, (w.drewN m).cell? ⟨F.Q, 1, none⟩ = some (qp F.th) := fun m => h.c 1
  have H : Hid (PL w F n a) := h
  clear h hI hc
  have hne : Hid (isB a (s.getD 0 0) = true) := hb0
  have hne2 : Hid (isB a (s.getD (k - 1) 0) = true) := hb
  have HT : Hid (t ≤ a.last) := ht
  clear hb0 hb ht
  generalize s.getD 0 0 = x at *
  generalize s.getD (k - 1) 0 = y at *
  have i1 : (0 : Int) < (k : Int) := by omega
  have i2 : IntKind.i64.wrap ((k : Int) - 1) = ((k - 1 : Nat) : Int) := by rw [IntKind.wrap_i64]; omega
  have i3 : ((k - 1 : Nat) : Int) < (k : Int) := by omega
  generalize k - 1 = k1 at *
  go_enter Tryz.func33, Tryz.ntmps33
  go_wp2_with (go_at_call 64; refine (rises_is _ k c s w HI.out hk).mono ?_; rw [hs]; rintro e w1 ⟨rfl, m, rfl⟩; have c1 := c0 m; have c2 := cl m; have c3 := ct m)
  refine (hasBlock_at (H.out.drawn m) x).mono ?_
  rw [hne.out]
  rintro e w2 ⟨rfl, rfl⟩
  go_wp2_with fail
  refine (hasBlock_at (H.out.drawn m) y).mono ?_
  rw [hne2.out]
  rintro e w2 ⟨rfl, rfl⟩
  go_wp2_with fail
  refine (put_low (H.out.drawn m).lt' t HT.out).mono ?_
  rintro e w2 ⟨rfl, rfl⟩
  go_wp2_with fail
  go_ret
  exact ⟨rfl, below_drawn _⟩
/-- what the queues hold when k of the set are through -/
def laidQ (L : List En) (t : Int) (s : List Int) (k : Nat) (i : Nat) : List Int := if (i : Int) ∈ s.take k then qS L i ++ [t] else qS L i
theorem laidQ_step {L : List En} {t : Int} {s : List Int} {k i : Nat} (hk : k < s.length) (hs : s.Pairwise (· < ·)) (hi : s.getD k 0 = (i : Int)) : (laidQ L t s k i = qS L i) ∧ ∀ j, laidQ L t s (k + 1) j = upd (laidQ L t s k) i (qS L i ++ [t]) j := by
  have hg : s[k] = (i : Int) := by rw [← hi]; simp [List.getD, hk]
  have hn : (i : Int) ∉ s.take k := fun hm => by
    obtain ⟨j, hj, e⟩ := List.getElem_of_mem hm
    have hj2 : j < k ∧ j < s.length := by simp at hj; omega
    rw [List.getElem_take] at e
    have := (List.pairwise_iff_getElem.1 hs) j k hj2.2 hk hj2.1
    omega
  refine ⟨if_neg hn, fun j => ?_⟩
  unfold laidQ
  rw [List.take_succ_eq_append_getElem hk, hg]
  by_cases e : j = i
  · subst e
    rw [upd_same, if_pos (by simp)]
  · rw [upd_other _ _ e]
    have : ((j : Int) ∈ s.take k ++ [(i : Int)]) ↔ (j : Int) ∈ s.take k := by
      simp only [List.mem_append, List.mem_singleton]
      exact ⟨fun h => h.elim id (fun e2 => absurd (by omega) e), .inl⟩
    simp only [this]
theorem laidQ_all {L : List En} {t : Int} {s : List Int} (i : Nat) : laidQ L t s s.length i = qS (L ++ [⟨t, s, 0⟩]) i := by
  rw [qS_snoc]
  unfold laidQ
  simp only [List.take_length, hsS_iff]
theorem laidQ_zero {L : List En} {t : Int} {s : List Int} (i : Nat) : laidQ L t s 0 i = qS L i := by simp [laidQ]
/-- what is laid: locks with one more -/
theorem PL.laid {w5 w6 wX : World} {F' : Ft} {M : Nat → Int} {t : Int} {s : List Int} {q : Option Addr} {d : Nat} (h : PL w F n a) (ht : a.last < t) (ok : Ok ⟨a.bl, t, a.L ++ [⟨t, s, 0⟩]⟩) (hT : Trn w F a.bl wX F' (fun i => qS (a.L ++ [⟨t, s, 0⟩]) i) M (tix a.L ++ [t]) t) (hM : ∀ i, i < a.bl → M i ≤ t)
    (hb5 : Below wX.heap.size wX w5) (hfr : Frm w5 (.slice q s.length d) s) (hq : ∀ g, blk (.slice q s.length d) = some g → w.heap.size ≤ g) (hm6 : VMp w6 F.mb (n + 1) (fun u => if u = t then some (cv (.slice q s.length d) 0) else F.m u)) (hk6 : Kept (· = F.mb) w5 w6) :
    ∃ F2, PL w6 F2 (n + 1) ⟨a.bl, t, a.L ++ [⟨t, s, 0⟩]⟩ ∧ Kept (F.has a.bl) w w6 ∧ Grw w w6 a.bl F F2 := by
  have hc5 : CM w5 F.G F.mb n a.L F.m := hT.cm h |>.far (Kept.of_below (fun _ => False) hb5) id (fun _ _ _ => id)
  have hT5 := hT.later hb5
  have kk : Kept (F.has a.bl) w w6 := (hT5.kept.wider (T := F.has a.bl) (fun x _ e => qset_has e)).trans hk6 (fun x _ e => .inr (.inr (.inr (.inr (.inr (.inr e))))))
  have km5 : kd w5 F.mb = 100000 := kd_map hc5.mp.typ
  have hi5 : ∀ g, kd w5 g = 3 → ¬ g = F.mb := fun g hg e => by rw [e, km5] at hg; cases hg
  let F2 : Ft := { F' with G := fun b => F.G b ∨ (w.heap.size ≤ b ∧ b < w6.heap.size), m := fun u => if u = t then some (cv (.slice q s.length d) 0) else F.m u }
  have hT6 := hT5.pq.mapped hk6 km5
  refine ⟨F2, ⟨hT6.st, hT6.qs, fun i hi => ⟨M i, hM i hi, hT6.lq i hi⟩, ?_, ⟨?_, fun u hu hin => ?_, fun e he => ?_⟩, ok, by have := h.len; simp; omega, hT6.qq, hT6.qt, hT6.vv, hT6.vt⟩, kk, ?_⟩
  · show QAt _ _ F'.th F'.tv (tix (a.L ++ [⟨t, s, 0⟩])) t
    rw [tix_snoc]; exact hT6.lt'
  · show VMp w6 F'.mb (n + 1) _
    rw [hT.fro.mb]; exact hm6
  · have hut : u ≠ t := fun e => by
      have : isIn (a.L ++ [⟨t, s, 0⟩]) u = true := isIn_iff.2 (by rw [tix_snoc, e]; simp)
      rw [hin] at this; cases this
    show (if u = t then _ else F.m u) = none
    rw [if_neg hut]
    refine hc5.out u hu ?_
    cases hi : isIn a.L u with
    | false => rfl
    | true =>
      have : isIn (a.L ++ [⟨t, s, 0⟩]) u = true := isIn_iff.2 (by rw [tix_snoc]; exact List.mem_append_left _ (isIn_iff.1 hi))
      rw [hin] at this; cases this
  · rcases List.mem_append.1 he with he | he
    · have hne : e.t ≠ t := by have := h.ok.top e he; omega
      obtain ⟨p, c, e1, e2, e3⟩ := hc5.ins e he
      refine ⟨p, c, ?_, e2.far hk6 (fun g _ hg => hi5 g hg), fun g hg => .inl (e3 g hg)⟩
      show (if e.t = t then _ else F.m e.t) = _
      rw [if_neg hne]; exact e1
    · simp only [List.mem_singleton] at he
      subst he
      exact ⟨q, d, if_pos rfl, hfr.far hk6 (fun g _ hg => hi5 g hg), fun g hg => .inr ⟨hq g hg, Nat.lt_of_lt_of_le (hfr.lt hg).1 hk6.size⟩⟩
  · refine ⟨hT.fro.Q, fun b hb => hT.fro.has hb, fun b hb => hb⟩
set_option maxHeartbeats 2000000 in
set_option maxRecDepth 100000 in
theorem lay_ok (h : PL w F n a) (hn : n < 10000) (t : Int) (ht : U64 t) {p : Option Addr} {k c : Nat} {s : List Int} (hI : B.IIn w p k s) (hkc : k ≤ c) (hp0 : p = none → c = 0) (hk : k ≤ 64) (h0 : 0 < k) (hs : risS s = true) (hr : ∀ b ∈ s, 0 ≤ b ∧ b < a.bl) (hlt : a.last < t) (h3 : ∀ ad, p = some ad → kd w ad.block = 3) :
    Calls Tryz.prog 33 #[qp F.Q, .int .u64 t, .slice p k c] w fun e w' => e = .returned (.int .i64 0) ∧ ∃ F', PL w' F' (n + 1) ⟨a.bl, t, a.L ++ [⟨t, s, 0⟩]⟩ ∧ Kept (F.has a.bl) w w' ∧ Grw w w' a.bl F F' := by
  have hlen := hI.len
  subst hlen
  have hz : ((s.length : Int) == 0) = false := by rw [beq_eq_false_iff_ne]; omega
  have hsn : s ≠ [] := List.length_pos_iff.1 h0
  have hup : s.Pairwise (· < ·) := by simpa [risS] using hs
  have HI : Hid (B.IIn w p s.length s) := hI
  have HOK : Hid (Ok ⟨a.bl, t, a.L ++ [⟨t, s, 0⟩]⟩) := h.ok.lay hsn hup hr hlt (u64_iff.1 ht).2
  have HU : Hid (s.Pairwise (· < ·)) := hup
  have HR : Hid (∀ b ∈ s, 0 ≤ b ∧ b < a.bl) := hr
  have HLT : Hid (a.last < t) := hlt
  have hmem : ∀ j, j < s.length → s.getD j 0 ∈ s := fun j hj => by rw [List.getD, List.getElem?_eq_getElem hj]; exact List.getElem_mem hj
  have hne : Hid (isB a (s.getD 0 0) = true) := decide_eq_true (hr _ (hmem 0 h0))
  have hne2 : Hid (isB a (s.getD (s.length - 1) 0) = true) := decide_eq_true (hr _ (hmem _ (by omega)))
  have HMEM : Hid (∀ j, j < s.length → s.getD j 0 ∈ s) := hmem
  obtain ⟨bb, o, hpp, hc⟩ := hI.cells h0
  subst hpp
  have HN : Hid (¬ F.qset a.bl bb) := fun e => h.noInts (h3 _ rfl) (qset_has e)
  clear h3
  have c0 : ∀ m, (w.drewN m).cell? ⟨bb, o, none⟩ = some (.int .i64 (s.getD 0 0)) := fun m => hc 0 h0
  have cl : ∀ m, (w.drewN m).cell? ⟨bb, o + (s.length - 1), none⟩ = some (.int .i64 (s.getD (s.length - 1) 0)) := fun m => hc (s.length - 1) (by omega)
  have ct : ∀ m, (w.drewN m).cell? ⟨F.Q, 1, none⟩ = some (qp F.th) := fun m => h.c 1
  have hlen : (tix a.L).length ≤ n := by have := h.len; simpa [tix] using this
  have H : Hid (PL w F n a) := h
  clear h hI hc hsn hup hr hlt hmem
  have i1 : (0 : Int) < (s.length : Int) := by omega
  have i2 : IntKind.i64.wrap ((s.length : Int) - 1) = ((s.length - 1 : Nat) : Int) := by rw [IntKind.wrap_i64]; omega
  have i3 : ((s.length - 1 : Nat) : Int) < (s.length : Int) := by omega
  obtain ⟨x, hx⟩ : ∃ x, s.getD 0 0 = x := ⟨_, rfl⟩
  rw [hx] at hne c0
  obtain ⟨y, hy⟩ : ∃ x, s.getD (s.length - 1) 0 = x := ⟨_, rfl⟩
  rw [hy] at hne2 cl
  clear hx hy
  obtain ⟨k1, hk1⟩ : ∃ x, s.length - 1 = x := ⟨_, rfl⟩
  rw [hk1] at cl i2 i3
  clear hk1
  go_enter Tryz.func33, Tryz.ntmps33
  go_wp2_with (go_at_call 64; refine (rises_is _ s.length c s w HI.out (by omega)).mono ?_; rw [hs]; rintro e w1 ⟨rfl, m, rfl⟩; have c1 := c0 m; have c2 := cl m; have c3 := ct m)
  refine (hasBlock_at (H.out.drawn m) x).mono ?_
  rw [hne.out]
  rintro e w2 ⟨rfl, rfl⟩
  go_wp2_with fail
  refine (hasBlock_at (H.out.drawn m) y).mono ?_
  rw [hne2.out]
  rintro e w2 ⟨rfl, rfl⟩
  go_wp2_with fail
  obtain ⟨M, hM, hT⟩ := H.out.trn
  have hT1 := hT.later (below_drawn m)
  refine (put_high (H.out.drawn m).lt' t (by have := HLT.out; omega) (by omega)).mono ?_
  rintro e w2 ⟨rfl, v', q1, q2, q3⟩
  have HT2 : Hid (Trn w F a.bl w2 { F with tv := v' } (laidQ a.L t s 0) M (tix a.L ++ [t]) t) := (hT1.putT q2 q1 (fun g hg => by
    rcases q3 with e | ⟨g', e, hg'⟩
    · rw [e] at hg; exact .inl hg
    · rw [e] at hg; cases hg; exact .inr hg')).congr (fun i _ => laidQ_zero i)
  have HM2 : Hid (∀ i, i < a.bl → M i ≤ t ∧ ((i : Int) ∉ s.take 0 → M i ≤ a.last)) := fun i hi => ⟨by have := hM i hi; have := HLT.out; omega, fun _ => hM i hi⟩
  clear q1 q2 q3 hM hT hT1 c0 cl ct c1 c2 c3 i1 i2 i3 hne hne2
  go_wp2_with fail
  go_loopw [51] (fun i wr => ∃ k : Nat, k ≤ s.length ∧ i = .int .i64 k ∧ Hid (∃ F' M, Trn w F a.bl wr F' (laidQ a.L t s k) M (tix a.L ++ [t]) t ∧ ∀ i, i < a.bl → M i ≤ t ∧ ((i : Int) ∉ s.take k → M i ≤ a.last))) (fun i _ => s.length - (intOf i).toNat)
  case atStart => exact ⟨0, Nat.zero_le _, rfl, _, _, HT2.out, HM2.out⟩
  case round =>
    obtain ⟨k, hk2, rfl, HW⟩ := hrel
    clear HT2 HM2
    by_cases hlt : k < s.length
    · obtain ⟨F', M', hT, hM⟩ := HW.out
      have hrk := HR.out _ (HMEM.out k hlt)
      obtain ⟨i, hi⟩ : ∃ i : Nat, s.getD k 0 = (i : Int) := ⟨(s.getD k 0).toNat, by omega⟩
      have hib : i < a.bl := by omega
      obtain ⟨hQ1, hQ2⟩ := laidQ_step (L := a.L) (t := t) hlt HU.out hi
      have hnk : (i : Int) ∉ s.take k := fun hm => by
        obtain ⟨j, hj, e⟩ := List.getElem_of_mem hm
        have hj2 : j < k ∧ j < s.length := by simp at hj; omega
        rw [List.getElem_take] at e
        have := (List.pairwise_iff_getElem.1 HU.out) j k hj2.2 hlt hj2.1
        have hg : s[k] = (i : Int) := by rw [← hi]; simp [List.getD, hlt]
        omega
      obtain ⟨b', o', e', hcs⟩ := HI.out.cells h0
      simp only [Option.some.injEq, Addr.mk.injEq, and_true] at e'
      obtain ⟨rfl, rfl⟩ := e'
      have hbW : w.heap[bb]? = wr.heap[bb]? := by
        have hblt := World.block_lt_of_cell? w _ (hcs 0 h0)
        refine (hT.kept.block bb hblt fun e => ?_).symm
        exact HN.out e
      have cs : wr.cell? ⟨bb, o + k, none⟩ = some (.int .i64 (i : Int)) := by
        rw [World.cell?_of_block (w := w) (a := ⟨bb, o + k, none⟩) hbW.symm, hcs k hlt, hi]
      have d0 : wr.cell? ⟨F.Q, 0, none⟩ = some (.slice (some ⟨F.qb, 0, none⟩) a.bl a.bl) := by
        have := cell_of_row _ F'.Q 0 _ 66 (0, 0) hT.pq.st
        rw [hT.fro.Q] at this
        rw [this]; simp [kcells, hT.fro.qb]
      have d1 : wr.cell? ⟨F.qb, i, none⟩ = some (qp (F'.q i)) := by
        have := cell_of_row _ F'.qb i _ 57 (0, 0) hT.pq.qs
        rw [hT.fro.qb] at this
        rw [this]; simp [qrow, hib]
      have HQ : Hid (QAt 59 wr (F'.q i) (F'.v i) (qS a.L i) (M' i)) := by have := hT.pq.lq i hib; rw [hQ1] at this; exact this
      have HM' : Hid (M' i ≤ a.last) := (hM i hib).2 hnk
      have hql : (qS a.L i).length ≤ n := H.out.qlen i
      have HT : Hid (Trn w F a.bl wr F' (laidQ a.L t s k) M' (tix a.L ++ [t]) t ∧ ∀ i, i < a.bl → M' i ≤ t ∧ ((i : Int) ∉ s.take k → M' i ≤ a.last)) := ⟨hT, hM⟩
      have HQ2 : Hid (∀ j, laidQ a.L t s (k + 1) j = upd (laidQ a.L t s k) i (qS a.L i ++ [t]) j) := hQ2
      have HI2 : Hid (s.getD k 0 = (i : Int)) := hi
      clear hT hM hcs hbW hQ1 hQ2 hnk hrk hi HW
      have i4 : (i : Int) < (a.bl : Int) := by omega
      go_wp2_with (go_at_call 60; refine (put_high HQ.out t (by have := HM'.out; have := HLT.out; omega) (by omega)).mono ?_; rintro e w3 ⟨rfl, v3, q1, q2, q3⟩; have HT3 : Hid (Trn w F a.bl w3 { F' with v := upd F'.v i v3 } (laidQ a.L t s (k + 1)) (upd M' i t) (tix a.L ++ [t]) t) := (HT.out.1.put hib q2 q1 (fun g hg => by rcases q3 with e | ⟨g', e, hg'⟩; (rw [e] at hg; exact .inl hg); (rw [e] at hg; cases hg; exact .inr hg'))).congr (fun j _ => HQ2.out j); clear q1 q2 q3)
      go_roundw
      case rel =>
        refine ⟨k + 1, by omega, by go_num, _, _, HT3.out, fun j hj => ?_⟩
        by_cases e : j = i
        · subst e
          rw [upd_same]
          refine ⟨Int.le_refl _, fun hn => absurd ?_ hn⟩
          rw [List.take_succ_eq_append_getElem hlt]
          have hg : s[k] = (j : Int) := by rw [← HI2.out]; simp [List.getD, hlt]
          simp [hg]
        · rw [upd_other _ _ e]
          refine ⟨(HT.out.2 j hj).1, fun hn => (HT.out.2 j hj).2 fun hm => hn ?_⟩
          rw [List.take_succ_eq_append_getElem hlt]
          exact List.mem_append_left _ hm
      case measure => simp [intOf]; omega
    · obtain rfl : k = s.length := by omega
      obtain ⟨F', M', hT, hM⟩ := HW.out
      have HT : Hid (Trn w F a.bl wr F' (fun i => qS (a.L ++ [⟨t, s, 0⟩]) i) M' (tix a.L ++ [t]) t ∧ ∀ i, i < a.bl → M' i ≤ t) := ⟨hT.congr (fun i _ => (laidQ_all i).symm), fun i hi => (hM i hi).1⟩
      have d2 : wr.cell? ⟨F.Q, 2, none⟩ = some (.map (some F.mb)) := by
        have := cell_of_row _ F'.Q 2 _ 66 (0, 0) hT.pq.st
        rw [hT.fro.Q] at this
        rw [this]; simp [kcells, hT.fro.mb]
      have hQlt : F.Q < wr.heap.size := World.block_lt_of_cell? wr _ d2
      have HC2 : Hid (∀ w', Below wr.heap.size wr w' → w'.cell? ⟨F.Q, 2, none⟩ = some (.map (some F.mb))) := fun w' hb => (hb.cell (p := ⟨F.Q, 2, none⟩) hQlt).trans d2
      have HV : Hid (∀ w', Below wr.heap.size wr w' → VMp w' F.mb n F.m) := fun w' hb => ((hT.cm H.out).mp).kept (hb.block _ (hT.cm H.out).mp.lt)
      have HIr : Hid (∀ w', Below wr.heap.size wr w' → B.IIn w' (some ⟨bb, o, none⟩) s.length s) := fun w' hb => by
        have hblt := HI.out.lt h0
        refine B.IIn.later ⟨HI.out.len, fun _ => ?_⟩ hb
        obtain ⟨b', o', e', hcs⟩ := HI.out.cells h0
        refine ⟨b', o', e', fun i hi => ?_⟩
        rw [← hcs i hi]
        simp only [Option.some.injEq, Addr.mk.injEq, and_true] at e'
        obtain ⟨rfl, rfl⟩ := e'
        exact World.cell?_of_block (hT.kept.block bb hblt fun e => HN.out e)
      have HQm : Hid (F.Q ≠ F.mb) := ne_kd H.out.kQ H.out.km (by decide)
      clear HW hT hM d2 hQlt HI
      go_wp2_with fail
      refine wp_region_noPanic ?_
      refine wp_region_held_drew (S := fun w' => w'.cell? ⟨F.Q, 2, none⟩ = some (.map (some F.mb))) (by kernel_rfl) (HC2.out _ (below_drawn 1)) (fun hHeld => ?_)
      have HBd : Hid (Below wr.heap.size wr wr.drew) := below_drawn 1
      generalize wr.drew = wd at *
      refine wpAnyH_take (i := 0) (v := ?va1) (by simp; rfl) (by kernel_rfl) (by kernel_rfl) (by kernel_rfl) (fun _ _ _ h => h) (Or.inl ⟨by rfl, ?ya1⟩) hHeld ?ra1
      case ya1 => intro w hSw; clear hSw; go_simp; with_reducible rfl
      simp only [Act.put, List.setIfInBounds_toArray, List.set_cons_zero, List.set_cons_succ]
      refine wpAnyH_take (i := 1) (v := ?va2) (by simp; rfl) (by kernel_rfl) (by kernel_rfl) (by kernel_rfl) (fun _ _ _ h => h) (Or.inl ⟨by rfl, ?ya2⟩) hHeld ?ra2
      case ya2 => intro w hSw; clear hSw; go_simp; with_reducible rfl
      simp only [Act.put, List.setIfInBounds_toArray, List.set_cons_zero, List.set_cons_succ]
      refine wpAnyH_take (i := 2) (v := ?va3) (by simp; rfl) (by kernel_rfl) (by kernel_rfl) (by kernel_rfl) (fun _ _ _ h => h) (Or.inl ⟨by rfl, ?ya3⟩) hHeld ?ra3
      case ya3 => intro w hSw; clear hSw; go_simp; with_reducible rfl
      simp only [Act.put, List.setIfInBounds_toArray, List.set_cons_zero, List.set_cons_succ]
      refine wpAnyH_take (i := 3) (v := ?va4) (by simp; rfl) (by kernel_rfl) (by kernel_rfl) (by kernel_rfl) (fun _ _ _ h => h) (Or.inl ⟨by rfl, ?ya4⟩) hHeld ?ra4
      case ya4 => intro w hSw; have z := hSw; clear hSw; go_simp; with_reducible rfl
      simp only [Act.put, List.setIfInBounds_toArray, List.set_cons_zero, List.set_cons_succ]
      refine wpAnyH_take (i := 4) (v := ?va5) (by simp; rfl) (by kernel_rfl) (by kernel_rfl) (by kernel_rfl) (fun _ _ _ h => h) (Or.inl ⟨by rfl, ?ya5⟩) hHeld ?ra5
      case ya5 => intro w hSw; clear hSw; go_simp; with_reducible rfl
      simp only [Act.put, List.setIfInBounds_toArray, List.set_cons_zero, List.set_cons_succ]
      refine wpAnyH_take (i := 5) (v := ?va6) (by simp; rfl) (by kernel_rfl) (by kernel_rfl) (by kernel_rfl) (fun _ _ _ h => h) (Or.inl ⟨by rfl, ?ya6⟩) hHeld ?ra6
      case ya6 => intro w hSw; clear hSw; go_simp; with_reducible rfl
      simp only [Act.put, List.setIfInBounds_toArray, List.set_cons_zero, List.set_cons_succ]
      refine wpAnyH_ready (rs := [6]) (by kernel_rfl) (by simp) ?_
      refine AllReadyH.cons (by simp; rfl) (fun Kc hKc => ?_) AllReadyH.nil
      go_simp
      refine (cloneI_at (HIr.out _ HBd.out) hkc hp0 (by omega)).mono ?_
      rintro e w5 ⟨q, d, rfl, hm⟩
      have HM : Hid (B.Made wd w5 q s.length d s) := hm
      clear hm
      have HB5 : Hid (Below wr.heap.size wr w5) := below_then HBd.out HM.out.below
      refine hKc.out _ _ (HC2.out _ HB5.out) (fun hHeld => ?_)
      clear hKc Kc
      refine wpAnyH_take (i := 7) (v := ?va7) (by simp; rfl) (by kernel_rfl) (by kernel_rfl) (by kernel_rfl) (fun _ _ _ h => h) (Or.inl ⟨by rfl, ?ya7⟩) hHeld ?ra7
      case ya7 => intro w hSw; clear hSw; go_simp; with_reducible rfl
      simp only [Act.put, List.setIfInBounds_toArray, List.set_cons_zero, List.set_cons_succ]
      refine wpAnyH_ready (rs := [8]) (by kernel_rfl) (by simp) ?_
      refine AllReadyH.cons (by simp; rfl) (fun Kc hKc => ?_) AllReadyH.nil
      obtain ⟨w6, hrun, hm6, hk6⟩ := (HV.out w5 HB5.out).run_put hn ht (.agg #[.slice q s.length d, .int .i64 0])
      have H6 : Hid (VMp w6 F.mb (n + 1) (fun u => if u = t then some (cv (.slice q s.length d) 0) else F.m u) ∧ Kept (· = F.mb) w5 w6) := ⟨hm6, hk6⟩
      have C6 : Hid (w6.cell? ⟨F.Q, 2, none⟩ = some (.map (some F.mb))) := (World.cell?_of_block (w := w5) (a := ⟨F.Q, 2, none⟩) (hk6.block _ (World.block_lt_of_cell? w5 _ (HC2.out _ HB5.out)) (HQm.out))).trans (HC2.out _ HB5.out)
      clear hm6 hk6 hHeld
      go_simp
      refine hKc.out _ _ C6.out (fun hHeld => ?_)
      clear hKc Kc hHeld hrun
      refine wpAnyH_done (by kernel_rfl) (NoPanic.normal ?_) _
      have HP : Hid (∃ F2, PL w6 F2 (n + 1) ⟨a.bl, t, a.L ++ [⟨t, s, 0⟩]⟩ ∧ Kept (F.has a.bl) w w6 ∧ Grw w w6 a.bl F F2) := H.out.laid HLT.out HOK.out HT.out.1 HT.out.2 HB5.out (Frm.of_made HM.out) (fun g hg => Nat.le_trans (Nat.le_trans HT.out.1.kept.size HBd.out.size) (own_blk HM.out.own hg)) H6.out.1 H6.out.2
      go_wp2_with fail
      go_ret
      exact ⟨rfl, HP.out⟩
end
theorem layE_cases {a : Lk} {t : Int} {s : List Int} : (s = [] ∧ layE a t s = 53) ∨ (s ≠ [] ∧ risS s = false ∧ layE a t s = 53) ∨ (s ≠ [] ∧ risS s = true ∧ (¬ ∀ b ∈ s, 0 ≤ b ∧ b < a.bl) ∧ layE a t s = 51) ∨ (s ≠ [] ∧ risS s = true ∧ (∀ b ∈ s, 0 ≤ b ∧ b < a.bl) ∧ t ≤ a.last ∧ layE a t s = 110) ∨ (s ≠ [] ∧ risS s = true ∧ (∀ b ∈ s, 0 ≤ b ∧ b < a.bl) ∧ a.last < t ∧ layE a t s = 0) := by
  unfold layE
  by_cases h1 : s = []
  · exact .inl ⟨h1, if_pos (.inl h1)⟩
  · refine .inr ?_
    by_cases h2 : s.Pairwise (· < ·)
    · have hr : risS s = true := decide_eq_true h2
      refine .inr ?_
      rw [if_neg (fun e => e.elim h1 (fun e => e h2))]
      by_cases h3 : ∀ b ∈ s, 0 ≤ b ∧ b < a.bl
      · refine .inr ?_
        rw [if_neg (fun e => e h3)]
        by_cases h4 : t ≤ a.last
        · exact .inl ⟨h1, hr, h3, h4, if_pos h4⟩
        · exact .inr ⟨h1, hr, h3, by omega, if_neg h4⟩
      · exact .inl ⟨h1, hr, h3, if_pos h3⟩
    · exact .inl ⟨h1, decide_eq_false h2, if_pos (.inr h2)⟩
section
variable {w : World} {F : Ft} {n : Nat} {a : Lk}
/-- refused -/
theorem lay_bad (h : PL w F n a) (t : Int) {p : Option Addr} {k c : Nat} {s : List Int} (hI : B.IIn w p k s) (hk : k ≤ 140737488355328) (hE : layE a t s ≠ 0) :
    Calls Tryz.prog 33 #[qp F.Q, .int .u64 t, .slice p k c] w fun e w' => e = .returned (.int .i64 (layE a t s)) ∧ Below w.heap.size w w' := by
  have hlen := hI.len
  have pos : s ≠ [] → 0 < k := fun h1 => by rw [← hlen]; exact List.length_pos_iff.2 h1
  have hmem : ∀ j, j < s.length → s.getD j 0 ∈ s := fun j hj => by rw [List.getD, List.getElem?_eq_getElem hj]; exact List.getElem_mem hj
  rcases layE_cases (a := a) (t := t) (s := s) with ⟨h1, e⟩ | ⟨h1, h2, e⟩ | ⟨h1, h2, h3, e⟩ | ⟨h1, h2, h3, h4, e⟩ | ⟨_, _, _, _, e⟩
  · rw [e]
    subst h1
    obtain rfl : k = 0 := hlen.symm
    exact lay_empty F w t p c
  · rw [e]; exact lay_form F t hI hk (pos h1) h2
  · rw [e]
    cases hb : isB a (s.getD 0 0) with
    | false => exact lay_block0 h t hI hk (pos h1) h2 hb
    | true =>
      cases hb2 : isB a (s.getD (k - 1) 0) with
      | false => exact lay_block1 h t hI hk (pos h1) h2 hb hb2
      | true =>
        exfalso
        have e1 : 0 ≤ s.getD 0 0 ∧ s.getD 0 0 < a.bl := by simpa [isB] using hb
        have e2 : 0 ≤ s.getD (k - 1) 0 ∧ s.getD (k - 1) 0 < a.bl := by simpa [isB] using hb2
        rw [← hlen] at e2
        exact h3 (rng_ends h1 (by simpa [risS] using h2) e1.1 e2.2)
  · rw [e]
    exact lay_low h t hI hk (pos h1) h2 (decide_eq_true (h3 _ (hmem 0 (by rw [hlen]; exact pos h1)))) (decide_eq_true (h3 _ (hmem (k - 1) (by have := pos h1; omega)))) h4
  · exact absurd e hE
/-- Lay -/
theorem lay_at (h : PL w F n a) (hn : n < 10000) (t : Int) (ht : U64 t) {p : Option Addr} {k c : Nat} {s : List Int} (hI : B.IIn w p k s) (hkc : k ≤ c) (hp0 : p = none → c = 0) (hk : k ≤ 140737488355328) (h3 : ∀ ad, p = some ad → kd w ad.block = 3) :
    Calls Tryz.prog 33 #[qp F.Q, .int .u64 t, .slice p k c] w fun e w' => e = .returned (.int .i64 (layE a t s)) ∧ ∃ F', PL w' F' (n + 1) (layS a t s) ∧ Kept (F.has a.bl) w w' ∧ Grw w w' a.bl F F' := by
  by_cases hE : layE a t s = 0
  · obtain ⟨h1, h2, h4, h5⟩ := layE_zero.1 hE
    have e1 : layS a t s = ⟨a.bl, t, a.L ++ [⟨t, s, 0⟩]⟩ := if_pos hE
    have hl := up_len a.bl 0 s h2 (fun b hb => by have := h4 b hb; omega)
    have hb := h.ok.b64
    have hlen := hI.len
    have hpos := List.length_pos_iff.2 h1
    rw [e1, hE]
    exact lay_ok h hn t ht hI hkc hp0 (by omega) (by omega) (decide_eq_true h2) h4 h5 h3
  · have e1 : layS a t s = a := if_neg hE
    rw [e1]
    refine (lay_bad h t hI hk hE).mono ?_
    rintro e w' ⟨rfl, hb⟩
    exact ⟨rfl, F, (h.later hb).more, Kept.of_below _ hb, Grw.refl _ _ _ _⟩
end
end Go.Proofs.YtkgjmejpbklabaaGreat.K
