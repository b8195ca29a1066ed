/-
  Layer 11: two queues on both sides, and what was kept of them.
-/
import Derived.Test.YtmmmgknlbkckdaaTj
namespace Go.Proofs.Ytmmmgknlbkckdaa
open Go.RowKit


def put {α : Type} (f : Nat → α) (i : Nat) (a : α) : Nat → α := fun j => if j = i then a else f j
theorem put_same {α : Type} (f : Nat → α) (i : Nat) (a : α) : put f i a i = a := if_pos rfl
theorem put_other {α : Type} (f : Nat → α) {i j : Nat} (a : α) (h : j ≠ i) : put f i a j = f j := if_neg h
def qty (i : Nat) : TypeId := if i < 2 then 28 else 44
theorem qty_lo {i : Nat} (h : i < 2) : qty i = 28 := if_pos h
theorem qty_hi {i : Nat} (h : i < 2) : qty (i + 2) = 44 := if_neg (by omega)
theorem qty_or (i : Nat) : qty i = 28 ∨ qty i = 44 := by unfold qty; split <;> simp

/-- four queues, each in memory of its own, made since w0: two of the program's, two of the document's -/
structure Fam (w0 w : World) (Q : Nat → Nat) (v : Nat → Value) (X : Nat → List Int) (Y : Nat → Int) : Prop where
  at' : ∀ i, i < 4 → QAt (qty i) w (Q i) (v i) (X i) (Y i)
  lo : ∀ i, i < 4 → w0.heap.size ≤ Q i
  row : ∀ i, i < 4 → ∀ g, blk (v i) = some g → w0.heap.size ≤ g
  apart : ∀ i j, i < 4 → j < 4 → i ≠ j → Q i ≠ Q j
  rows : ∀ i j, i < 4 → j < 4 → i ≠ j → ∀ g, blk (v i) = some g → blk (v j) ≠ some g
variable {w0 w w' : World} {P : Nat} {Q : Nat → Nat} {v : Nat → Value} {X : Nat → List Int} {Y : Nat → Int} {kv : Value} {ks : List (Nat × Nat)} {n : Nat}
theorem Fam.later (h : Fam w0 w Q v X Y) (hb : Below w.heap.size w w') : Fam w0 w' Q v X Y := ⟨fun i hi => (h.at' i hi).later hb, h.lo, h.row, h.apart, h.rows⟩
theorem Fam.not (h : Fam w0 w Q v X Y) {i : Nat} (hi : i < 4) {b : Nat} {cur : Array Value} {t : TypeId} {f : Nat × Nat} (hx : w.heap[b]? = some (.cells cur t f)) (h1 : t ≠ 28) (h2 : t ≠ 44) (h3 : t ≠ 26) : ¬ (b = Q i ∨ blk (v i) = some b) := by
  rintro (rfl | e)
  · rw [(h.at' i hi).st] at hx
    simp only [Option.some.injEq, Obj.cells.injEq] at hx
    rcases qty_or i with e | e
    · exact h1 (hx.2.1.symm.trans e)
    · exact h2 (hx.2.1.symm.trans e)
  · obtain ⟨c, hc⟩ := (h.at' i hi).row.typ e
    rw [hc] at hx
    simp only [Option.some.injEq, Obj.cells.injEq] at hx
    exact h3 hx.2.1.symm
theorem qty_ne (i : Nat) : qty i ≠ 26 := by rcases qty_or i with e | e <;> rw [e] <;> decide
/-- a queue is no row of another's -/
theorem Fam.other (h : Fam w0 w Q v X Y) {i j : Nat} (hi : i < 4) (hj : j < 4) : blk (v i) ≠ some (Q j) := fun e => by
  obtain ⟨c, hc⟩ := (h.at' i hi).row.typ e
  rw [(h.at' j hj).st] at hc
  simp only [Option.some.injEq, Obj.cells.injEq] at hc
  exact qty_ne j hc.2.1
theorem Fam.turn (h : Fam w0 w Q v X Y) {i : Nat} (hi : i < 4) {v' : Value} {xs : List Int} {m : Int} (hq : QAt (qty i) w' (Q i) v' xs m) (hk : Kept (fun b => b = Q i ∨ blk (v i) = some b) w w') (hv : blk v' = blk (v i) ∨ ∀ g, blk v' = some g → w.heap.size ≤ g) (hw : w0.heap.size ≤ w.heap.size) :
    Fam w0 w' Q (put v i v') (put X i xs) (put Y i m) := by
  have far : ∀ j, j < 4 → j ≠ i → QAt (qty j) w' (Q j) (v j) (X j) (Y j) := fun j hj hne => by
    refine (h.at' j hj).far hk ?_ ?_
    · rintro (e | e)
      · exact h.apart j i hj hi hne e
      · exact h.other hi hj e
    · rintro g hg (e | e)
      · subst e; exact h.other hj hi hg
      · exact h.rows j i hj hi hne g hg e
  have new : ∀ j, j < 4 → j ≠ i → ∀ g, blk v' = some g → blk (v j) ≠ some g := fun j hj hne g hg e => by
    rcases hv with hv | hv
    · rw [hv] at hg; exact h.rows j i hj hi hne g e hg
    · have := hv g hg; have := (h.at' j hj).row.lt e; omega
  refine ⟨fun j hj => ?_, h.lo, fun j hj g hg => ?_, h.apart, fun a b ha hb hne g hg => ?_⟩
  · by_cases e : j = i
    · subst e; simpa only [put_same] using hq
    · simpa only [put_other _ _ e] using far j hj e
  · by_cases e : j = i
    · subst e
      rw [put_same] at hg
      rcases hv with hv | hv
      · rw [hv] at hg; exact h.row j hj g hg
      · have := hv g hg; omega
    · rw [put_other _ _ e] at hg; exact h.row j hj g hg
  · by_cases e : a = i
    · subst e
      rw [put_same] at hg
      rw [put_other _ _ (Ne.symm hne)]
      exact new b hb (Ne.symm hne) g hg
    · rw [put_other _ _ e] at hg
      by_cases e2 : b = i
      · subst e2
        rw [put_same]
        exact fun e3 => new a ha hne g e3 hg
      · rw [put_other _ _ e2]; exact h.rows a b ha hb hne g hg
/-- a new queue in another's place -/
theorem Fam.swap (h : Fam w0 w Q v X Y) {i : Nat} (hi : i < 4) {Q' : Nat} {v' : Value} {xs : List Int} {m : Int} (hq : QAt (qty i) w' Q' v' xs m) (hQ : w.heap.size ≤ Q') (hv : ∀ g, blk v' = some g → w.heap.size ≤ g) (hb : Below w.heap.size w w') (hw : w0.heap.size ≤ w.heap.size) :
    Fam w0 w' (put Q i Q') (put v i v') (put X i xs) (put Y i m) := by
  have h' := h.later hb
  have lts : ∀ j, j < 4 → Q j < w.heap.size := fun j hj => (h.at' j hj).lt
  have ltr : ∀ j, j < 4 → ∀ g, blk (v j) = some g → g < w.heap.size := fun j hj g hg => (h.at' j hj).row.lt hg
  refine ⟨fun j hj => ?_, fun j hj => ?_, fun j hj g hg => ?_, fun a b ha hb' hne => ?_, fun a b ha hb' hne g hg => ?_⟩
  · by_cases e : j = i
    · subst e; simpa only [put_same] using hq
    · simpa only [put_other _ _ e] using h'.at' j hj
  · by_cases e : j = i
    · subst e; rw [put_same]; omega
    · rw [put_other _ _ e]; exact h.lo j hj
  · by_cases e : j = i
    · subst e; rw [put_same] at hg; have := hv g hg; omega
    · rw [put_other _ _ e] at hg; exact h.row j hj g hg
  · by_cases e : a = i
    · subst e; rw [put_same, put_other _ _ (Ne.symm hne)]; have := lts b hb'; omega
    · rw [put_other _ _ e]
      by_cases e2 : b = i
      · subst e2; rw [put_same]; have := lts a ha; omega
      · rw [put_other _ _ e2]; exact h.apart a b ha hb' hne
  · by_cases e : a = i
    · subst e
      rw [put_same] at hg
      rw [put_other _ _ (Ne.symm hne)]
      intro e3
      have := hv g hg; have := ltr b hb' g e3; omega
    · rw [put_other _ _ e] at hg
      by_cases e2 : b = i
      · subst e2
        rw [put_same]
        intro e3
        have := hv g e3; have := ltr a ha g hg; omega
      · rw [put_other _ _ e2]; exact h.rows a b ha hb' hne g hg

/-- the cells of what was kept: whose it is, the sequence (its box) -/
def kcells (ks : List (Nat × Nat)) : List Value := ks.flatMap fun x => [Value.int .i64 x.1, seqV x.2]
theorem kcells_app (ks ls : List (Nat × Nat)) : kcells (ks ++ ls) = kcells ks ++ kcells ls := List.flatMap_append
theorem kcells_len (ks : List (Nat × Nat)) : (kcells ks).length = ks.length * 2 := by
  induction ks with
  | nil => rfl
  | cons x xs ih => simp only [kcells, List.flatMap_cons, List.length_append, List.length_cons, List.length_nil] at ih ⊢; omega
theorem kcells_at (ks : List (Nat × Nat)) (k : Nat) (hk : k < ks.length) : (kcells ks)[k * 2]? = some (.int .i64 (ks[k].1 : Nat)) ∧ (kcells ks)[k * 2 + 1]? = some (seqV ks[k].2) := by
  induction ks generalizing k with
  | nil => simp at hk
  | cons x xs ih =>
    cases k with
    | zero => exact ⟨rfl, rfl⟩
    | succ k =>
      have := ih k (by simpa using hk)
      simp only [kcells, List.flatMap_cons] at this ⊢
      refine ⟨?_, ?_⟩
      · rw [List.getElem?_append_right (by simp; omega)]
        simpa [Nat.succ_mul] using this.1
      · rw [List.getElem?_append_right (by simp; omega)]
        have e : (k + 1) * 2 + 1 - 2 = k * 2 + 1 := by omega
        simpa [e] using this.2

/-- the pair: its five cells, and what was kept -/
structure PS (w0 w : World) (P : Nat) (Q : Nat → Nat) (v : Nat → Value) (X : Nat → List Int) (Y : Nat → Int) (kv : Value) (ks : List (Nat × Nat)) : Prop where
  fam : Fam w0 w Q v X Y
  pr : w.heap[P]? = some (.cells #[qp (Q 0), qp (Q 1), qp (Q 2), qp (Q 3), kv] 48 (0, 0))
  plo : w0.heap.size ≤ P
  kept : w.ownsRow w0.heap.size 55 2 kv ks.length (kcells ks)
  box : ∀ x ∈ ks, x.1 < 2 ∧ Boxed w x.2 25 (qp (Q x.1))
  below : Below w0.heap.size w0 w
theorem ownsRow_keeps {w w' : World} {base : Nat} {e : TypeId} {size : Nat} {kv : Value} {n : Nat} {xs : List Value} (h : w.ownsRow base e size kv n xs) (hk : ∀ (g : Nat) (cur : Array Value), w.heap[g]? = some (.cells cur e (0, 0)) → w'.heap[g]? = w.heap[g]?) : w'.ownsRow base e size kv n xs := by
  refine ⟨h.1, ?_⟩
  rcases h.2 with h | ⟨g, cap, cur, e1, e2, e3, r⟩
  · exact .inl h
  · exact .inr ⟨g, cap, cur, e1, e2, (hk g cur e3).trans e3, r⟩
theorem PS.later (h : PS w0 w P Q v X Y kv ks) (hb : Below w.heap.size w w') : PS w0 w' P Q v X Y kv ks :=
  ⟨h.fam.later hb, (hb.block P (Array.getElem?_eq_some_iff.1 h.pr).1).trans h.pr, h.plo, ownsRow_keeps h.kept fun g _ e => hb.block g (Array.getElem?_eq_some_iff.1 e).1, fun x hx => ⟨(h.box x hx).1, (hb.block x.2 (h.box x hx).2.lt).trans (h.box x hx).2⟩, below_then h.below hb⟩
theorem PS.turn (h : PS w0 w P Q v X Y kv ks) {i : Nat} (hi : i < 4) {v' : Value} {xs : List Int} {m : Int} (hq : QAt (qty i) w' (Q i) v' xs m) (hk : Kept (fun b => b = Q i ∨ blk (v i) = some b) w w') (hv : blk v' = blk (v i) ∨ ∀ g, blk v' = some g → w.heap.size ≤ g) :
    PS w0 w' P Q (put v i v') (put X i xs) (put Y i m) kv ks := by
  have far : ∀ {b : Nat} {cur : Array Value} {t : TypeId} {f : Nat × Nat}, w.heap[b]? = some (.cells cur t f) → t ≠ 28 → t ≠ 44 → t ≠ 26 → w'.heap[b]? = w.heap[b]? := fun hx h1 h2 h3 => hk.block _ (Array.getElem?_eq_some_iff.1 hx).1 (h.fam.not hi hx h1 h2 h3)
  refine ⟨h.fam.turn hi hq hk hv h.below.size, (far h.pr (by decide) (by decide) (by decide)).trans h.pr, h.plo, ownsRow_keeps h.kept fun g cur e => far e (by decide) (by decide) (by decide), fun x hx => ⟨(h.box x hx).1, (far (h.box x hx).2 (by decide) (by decide) (by decide)).trans (h.box x hx).2⟩, hk.into h.below (fun b hb e => ?_) (Nat.le_refl _)⟩
  rcases e with e | e
  · have := h.fam.lo i hi; omega
  · have := h.fam.row i hi b e; omega
theorem PS.cq (h : PS w0 w P Q v X Y kv ks) {j : Nat} (hj : j < 2) : w.cell? ⟨P, j, none⟩ = some (qp (Q j)) := by
  rw [cell_of_row _ P j _ 48 (0, 0) h.pr]
  rcases (show j = 0 ∨ j = 1 by omega) with rfl | rfl <;> rfl
theorem PS.cr (h : PS w0 w P Q v X Y kv ks) {j : Nat} (hj : j < 2) : w.cell? ⟨P, 2 + j, none⟩ = some (qp (Q (j + 2))) := by
  rw [cell_of_row _ P (2 + j) _ 48 (0, 0) h.pr]
  rcases (show j = 0 ∨ j = 1 by omega) with rfl | rfl <;> rfl
theorem PS.ck (h : PS w0 w P Q v X Y kv ks) : w.cell? ⟨P, 4, none⟩ = some kv := by
  rw [cell_of_row _ P 4 _ 48 (0, 0) h.pr]; rfl
theorem PS.free (h : PS w0 w P Q v X Y kv ks) (o : Nat) : w.frozen? ⟨P, o, none⟩ = false := by simp [World.frozen?, h.pr]

/-- steps' cells stay -/
def K51 (w w' : World) : Prop := ∀ (b : Nat) (cur : Array Value), w.heap[b]? = some (.cells cur 51 (0, 0)) → w'.heap[b]? = some (.cells cur 51 (0, 0))
theorem PS.k51 (h : PS w0 w P Q v X Y kv ks) {i : Nat} (hi : i < 4) (hk : Kept (fun b => b = Q i ∨ blk (v i) = some b) w w') : K51 w w' := fun b cur hx => (hk.block b (Array.getElem?_eq_some_iff.1 hx).1 (h.fam.not hi hx (by decide) (by decide) (by decide))).trans hx
theorem K51.of_below (hb : Below w.heap.size w w') : K51 w w' := fun b _ hx => (hb.block b (Array.getElem?_eq_some_iff.1 hx).1).trans hx

/-- what stands between two steps, n steps behind -/
structure St (w0 w : World) (P : Nat) (Q : Nat → Nat) (v : Nat → Value) (X : Nat → List Int) (Y : Nat → Int) (kv : Value) (ks : List (Nat × Nat)) (n : Nat) : Prop where
  ps : PS w0 w P Q v X Y kv ks
  same : ∀ j, j < 2 → X (j + 2) = X j ∧ Y (j + 2) = Y j
  up : ∀ j, j < 2 → Up (X j) (Y j)
  len : ∀ j, j < 2 → (X j).length ≤ n
  klen : ks.length ≤ n
def Next (w0 w : World) (P n : Nat) : Prop := ∃ Q v X Y kv ks, St w0 w P Q v X Y kv ks n
theorem St.later (h : St w0 w P Q v X Y kv ks n) (hb : Below w.heap.size w w') : St w0 w' P Q v X Y kv ks n := ⟨h.ps.later hb, h.same, h.up, h.len, h.klen⟩
theorem St.succ (h : St w0 w P Q v X Y kv ks n) : St w0 w P Q v X Y kv ks (n + 1) := ⟨h.ps, h.same, h.up, fun j hj => Nat.le_succ_of_le (h.len j hj), Nat.le_succ_of_le h.klen⟩
theorem St.next (h : St w0 w P Q v X Y kv ks n) (hb : Below w.heap.size w w') : Next w0 w' P (n + 1) := ⟨Q, v, X, Y, kv, ks, (h.later hb).succ⟩
/-- the program's queue j has turned, the document's not yet -/
structure Half (w0 w : World) (P : Nat) (Q : Nat → Nat) (X : Nat → List Int) (Y : Nat → Int) (kv : Value) (ks : List (Nat × Nat)) (n j : Nat) (xs : List Int) (m : Int) : Prop where
  ps : ∃ v, PS w0 w P Q v (put X j xs) (put Y j m) kv ks
  same : ∀ j, j < 2 → X (j + 2) = X j ∧ Y (j + 2) = Y j
  up : ∀ j, j < 2 → Up (X j) (Y j)
  len : ∀ j, j < 2 → (X j).length ≤ n
  klen : ks.length ≤ n
  up' : Up xs m
  len' : xs.length ≤ n + 1
variable {j : Nat} {xs : List Int} {m : Int}
theorem St.half (h : St w0 w P Q v X Y kv ks n) (hu : Up xs m) (hl : xs.length ≤ n + 1) {v'} (hp : PS w0 w' P Q v' (put X j xs) (put Y j m) kv ks) : Half w0 w' P Q X Y kv ks n j xs m := ⟨⟨v', hp⟩, h.same, h.up, h.len, h.klen, hu, hl⟩
theorem Half.later (h : Half w0 w P Q X Y kv ks n j xs m) (hb : Below w.heap.size w w') : Half w0 w' P Q X Y kv ks n j xs m := by
  obtain ⟨⟨v, hp⟩, h1, h2, h3, h4, h5, h6⟩ := h
  exact ⟨⟨v, hp.later hb⟩, h1, h2, h3, h4, h5, h6⟩
theorem put_two {α : Type} (f : Nat → α) {j i : Nat} (hj : j < 2) (hi : i < 2) (a : α) (hf : ∀ i, i < 2 → f (i + 2) = f i) : put (put f j a) (j + 2) a (i + 2) = put (put f j a) (j + 2) a i := by
  unfold put
  by_cases e : i = j
  · subst e; simp
  · rw [if_neg (by omega), if_neg (by omega), if_neg (by omega), if_neg e]; exact hf i hi
theorem Half.next (h : Half w0 w P Q X Y kv ks n j xs m) (hj : j < 2) {v'} (hp : PS w0 w' P Q v' (put (put X j xs) (j + 2) xs) (put (put Y j m) (j + 2) m) kv ks) : Next w0 w' P (n + 1) := by
  have e1 : ∀ i, i < 2 → put (put X j xs) (j + 2) xs i = if i = j then xs else X i := fun i hi => by unfold put; rw [if_neg (by omega)]
  have e2 : ∀ i, i < 2 → put (put Y j m) (j + 2) m i = if i = j then m else Y i := fun i hi => by unfold put; rw [if_neg (by omega)]
  refine ⟨_, _, _, _, _, _, hp, fun i hi => ⟨put_two X hj hi xs fun i hi => (h.same i hi).1, put_two Y hj hi m fun i hi => (h.same i hi).2⟩, fun i hi => ?_, fun i hi => ?_, Nat.le_succ_of_le h.klen⟩
  · rw [e1 i hi, e2 i hi]
    split
    · exact h.up'
    · exact h.up i hi
  · rw [e1 i hi]
    split
    · exact h.len'
    · exact Nat.le_succ_of_le (h.len i hi)
theorem Half.rat (h : Half w0 w P Q X Y kv ks n j xs m) (hj : j < 2) : ∃ v, PS w0 w P Q v (put X j xs) (put Y j m) kv ks ∧ QAt 44 w (Q (j + 2)) (v (j + 2)) (X j) (Y j) := by
  obtain ⟨v, hp⟩ := h.ps
  have := hp.fam.at' (j + 2) (by omega)
  rw [put_other X xs (by omega : j + 2 ≠ j), put_other Y m (by omega : j + 2 ≠ j), (h.same j hj).1, (h.same j hj).2, qty_hi hj] at this
  exact ⟨v, hp, this⟩
theorem St.at' (h : St w0 w P Q v X Y kv ks n) (hj : j < 2) : QAt 28 w (Q j) (v j) (X j) (Y j) := by
  have := h.ps.fam.at' j (by omega)
  rwa [qty_lo hj] at this
theorem St.rat (h : St w0 w P Q v X Y kv ks n) (hj : j < 2) : QAt 44 w (Q (j + 2)) (v (j + 2)) (X j) (Y j) := by
  have := h.ps.fam.at' (j + 2) (by omega)
  rwa [(h.same j hj).1, (h.same j hj).2, qty_hi hj] at this
theorem St.stands (h : St w0 w P Q v X Y kv ks n) (hj : j < 2) : Stands w (some ⟨Q j, 0, none⟩) (X j) := .inr ⟨_, _, _, rfl, h.at' hj⟩
/-- the document's L -/
theorem St.rl (h : St w0 w P Q v X Y kv ks n) (hj : j < 2) : ∃ p c, w.cell? ⟨Q (j + 2), 0, none⟩ = some (.slice p (X j).length c) ∧ UIn w p (X j).length (X j) ∧ (X j).length ≤ c ∧ (p = none → c = 0) := by
  obtain ⟨p, c, e, hI, hc, h0⟩ := (h.rat hj).row.form
  exact ⟨p, c, by rw [(h.rat hj).c0, e], hI, hc, h0⟩
end Go.Proofs.Ytmmmgknlbkckdaa
