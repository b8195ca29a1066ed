/-
  Layer 12: two ledgers on both sides.
-/
import Derived.Test.YtjkmeljefbpbgaaRd
namespace Go.Proofs.Ytjkmeljefbpbgaa
open Go.RowKit


def put {α : Type} (f : Nat → α) (i : Nat) (a : α) : Nat → α := fun j => if j = i then a else f j
theorem put_same {α : Type} (f : Nat → α) (i : Nat) (a : α) : put f i a i = a := if_pos rfl
theorem put_other {α : Type} (f : Nat → α) {i j : Nat} (a : α) (h : j ≠ i) : put f i a j = f j := if_neg h

/-- a ledger, the program's or the document's: how it lies, where, and that it stays -/
structure Th where
  at' : World → World → Prop
  foot : Nat → Prop
  ptr : Nat
  kept' : ∀ w0 w w', at' w0 w → (∀ b, foot b → w'.heap[b]? = w.heap[b]?) → at' w0 w'
  typ' : ∀ w0 w b, at' w0 w → foot b → (∃ cur ty, w.heap[b]? = some (.cells cur ty (0, 0)) ∧ (ty = 56 ∨ ty = 60 ∨ ty = 67)) ∨ ∃ es c, w.heap[b]? = some (.map es c)
def Th.at (w0 w : World) (t : Th) : Prop := t.at' w0 w
variable {w0 w w' : World}
theorem led_typ {Q m n b : Nat} {s : Lg} (h : LAt w Q m n s) (hb : LF Q m b) : (∃ cur ty, w.heap[b]? = some (.cells cur ty (0, 0)) ∧ (ty = 56 ∨ ty = 60 ∨ ty = 67)) ∨ ∃ es c, w.heap[b]? = some (.map es c) := by
  rcases hb with rfl | rfl
  · exact .inl ⟨_, _, h.st, .inl rfl⟩
  · exact .inr h.mp.typ
theorem ref_typ {R K b : Nat} {v : Value} {s : Lg} {rec gone : Int} {ps : List Pt} (h : RAt w0 w R v s rec gone ps K) (hb : RF R v b) : (∃ cur ty, w.heap[b]? = some (.cells cur ty (0, 0)) ∧ (ty = 56 ∨ ty = 60 ∨ ty = 67)) ∨ ∃ es c, w.heap[b]? = some (.map es c) := by
  rcases hb with rfl | hb
  · exact .inl ⟨_, _, h.st, .inr (.inl rfl)⟩
  · obtain ⟨cur, hc⟩ := own_typ h.row hb
    exact .inl ⟨cur, _, hc, .inr (.inr rfl)⟩
def Th.led (Q b n : Nat) (s : Lg) : Th := ⟨fun _ w => LAt w Q b n s, LF Q b, Q, fun _ _ _ h hk => LAt.kept h (hk Q (.inl rfl)) (hk b (.inr rfl)), fun _ _ _ h hb => led_typ h hb⟩
def Th.ref (R : Nat) (v : Value) (s : Lg) (rec gone : Int) (ps : List Pt) (K : Nat) : Th := ⟨fun w0 w => RAt w0 w R v s rec gone ps K, RF R v, R, fun _ _ _ h hk => ⟨(hk R (.inl rfl)).trans h.st, own_keeps h.row fun g hg => hk g (.inr hg), h.mir⟩, fun _ _ _ h hb => ref_typ h hb⟩
theorem Th.kept {t : Th} (h : t.at w0 w) (hk : ∀ b, t.foot b → w'.heap[b]? = w.heap[b]?) : t.at w0 w' := t.kept' w0 w w' h hk
theorem Th.typ {t : Th} (h : t.at w0 w) {b : Nat} (hb : t.foot b) : (∃ cur ty, w.heap[b]? = some (.cells cur ty (0, 0)) ∧ (ty = 56 ∨ ty = 60 ∨ ty = 67)) ∨ ∃ es c, w.heap[b]? = some (.map es c) := t.typ' w0 w b h hb
theorem Th.lt {t : Th} (h : t.at w0 w) {b : Nat} (hb : t.foot b) : b < w.heap.size := by
  rcases Th.typ h hb with ⟨_, _, e, _⟩ | ⟨_, _, e⟩ <;> exact (Array.getElem?_eq_some_iff.1 e).1
theorem Th.not {t : Th} (h : t.at w0 w) {b : Nat} {cur : Array Value} {ty : TypeId} {f : Nat × Nat} (hx : w.heap[b]? = some (.cells cur ty f)) (h1 : ty ≠ 56) (h2 : ty ≠ 60) (h3 : ty ≠ 67) : ¬ t.foot b := fun hb => by
  rcases Th.typ h hb with ⟨c, t', e, ht⟩ | ⟨_, _, e⟩
  · rw [e] at hx
    simp only [Option.some.injEq, Obj.cells.injEq] at hx
    have := hx.2.1
    rcases ht with rfl | rfl | rfl
    · exact h1 this.symm
    · exact h2 this.symm
    · exact h3 this.symm
  · rw [e] at hx
    cases hx

/-- four of them, each in memory of its own, made since w0 -/
structure Fam (w0 w : World) (T : Nat → Th) : Prop where
  at' : ∀ i, i < 4 → (T i).at w0 w
  lo : ∀ i, i < 4 → ∀ b, (T i).foot b → w0.heap.size ≤ b
  apart : ∀ i j, i < 4 → j < 4 → i ≠ j → ∀ b, (T i).foot b → ¬ (T j).foot b
variable {P : Nat} {T : Nat → Th}
theorem Fam.later (h : Fam w0 w T) (hb : Below w.heap.size w w') : Fam w0 w' T := ⟨fun i hi => Th.kept (h.at' i hi) fun b hf => hb.block b (Th.lt (h.at' i hi) hf), h.lo, h.apart⟩
theorem Fam.turn (h : Fam w0 w T) {i : Nat} (hi : i < 4) {t : Th} (ht : t.at w0 w') (hk : Kept (T i).foot w w') (hf : ∀ b, t.foot b → (T i).foot b ∨ w.heap.size ≤ b) (hw : w0.heap.size ≤ w.heap.size) : Fam w0 w' (put T i t) := by
  have new : ∀ j, j < 4 → j ≠ i → ∀ b, t.foot b → ¬ (T j).foot b := fun j hj hne b hb e => by
    rcases hf b hb with h1 | h1
    · exact h.apart j i hj hi hne b e h1
    · have := Th.lt (h.at' j hj) e; omega
  refine ⟨fun j hj => ?_, fun j hj b hb => ?_, fun a c ha hc hne b hb => ?_⟩
  · by_cases e : j = i
    · subst e; rw [put_same]; exact ht
    · rw [put_other _ _ e]
      exact Th.kept (h.at' j hj) fun b hb => hk.block b (Th.lt (h.at' j hj) hb) (h.apart j i hj hi e b hb)
  · by_cases e : j = i
    · subst e
      rw [put_same] at hb
      rcases hf b hb with h1 | h1
      · exact h.lo j hj b h1
      · omega
    · rw [put_other _ _ e] at hb; exact h.lo j hj b hb
  · by_cases e : a = i
    · subst e
      rw [put_same] at hb
      rw [put_other _ _ (Ne.symm hne)]
      exact new c hc (Ne.symm hne) b hb
    · rw [put_other _ _ e] at hb
      by_cases e2 : c = i
      · subst e2
        rw [put_same]
        exact fun e3 => new a ha hne b e3 hb
      · rw [put_other _ _ e2]; exact h.apart a c ha hc hne b hb
theorem Fam.cells (h : Fam w0 w T) {i : Nat} (hi : i < 4) (hk : Kept (T i).foot w w') {b : Nat} {cur : Array Value} {ty : TypeId} {f : Nat × Nat} (hx : w.heap[b]? = some (.cells cur ty f)) (h1 : ty ≠ 56) (h2 : ty ≠ 60) (h3 : ty ≠ 67) : w'.heap[b]? = some (.cells cur ty f) :=
  (hk.block b (Array.getElem?_eq_some_iff.1 hx).1 (Th.not (h.at' i hi) hx h1 h2 h3)).trans hx

/-- the pair's four cells -/
abbrev pcs (T : Nat → Th) : Array Value := #[lp (T 0).ptr, lp (T 1).ptr, lp (T 2).ptr, lp (T 3).ptr]
structure PS (w0 w : World) (P : Nat) (T : Nat → Th) : Prop where
  fam : Fam w0 w T
  pr : w.heap[P]? = some (.cells (pcs T) 48 (0, 0))
  plo : w0.heap.size ≤ P
  below : Below w0.heap.size w0 w
theorem PS.later (h : PS w0 w P T) (hb : Below w.heap.size w w') : PS w0 w' P T := ⟨h.fam.later hb, (hb.block P (Array.getElem?_eq_some_iff.1 h.pr).1).trans h.pr, h.plo, below_then h.below hb⟩
theorem pcs_put {i : Nat} {t : Th} (ht : t.ptr = (T i).ptr) : pcs (put T i t) = pcs T := by
  have e : ∀ j, (put T i t j).ptr = (T j).ptr := fun j => by
    by_cases h : j = i
    · subst h; rw [put_same]; exact ht
    · rw [put_other _ _ h]
  simp only [pcs, e]
theorem PS.turn (h : PS w0 w P T) {i : Nat} (hi : i < 4) {t : Th} (ht : t.at w0 w') (hp : t.ptr = (T i).ptr) (hk : Kept (T i).foot w w') (hf : ∀ b, t.foot b → (T i).foot b ∨ w.heap.size ≤ b) : PS w0 w' P (put T i t) :=
  ⟨h.fam.turn hi ht hk hf h.below.size, by rw [pcs_put hp]; exact h.fam.cells hi hk h.pr (by decide) (by decide) (by decide), h.plo, hk.into h.below (fun b hb e => by have := h.fam.lo i hi b e; omega) (Nat.le_refl _)⟩
theorem PS.cl (h : PS w0 w P T) {j : Nat} (hj : j < 2) : w.cell? ⟨P, j, none⟩ = some (lp (T j).ptr) := by
  rw [cell_of_row _ P j _ 48 (0, 0) h.pr]
  rcases (show j = 0 ∨ j = 1 by omega) with rfl | rfl <;> rfl
theorem PS.cr (h : PS w0 w P T) {j : Nat} (hj : j < 2) : w.cell? ⟨P, 2 + j, none⟩ = some (lp (T (j + 2)).ptr) := by
  rw [cell_of_row _ P (2 + j) _ 48 (0, 0) h.pr]
  rcases (show j = 0 ∨ j = 1 by omega) with rfl | rfl <;> rfl
theorem PS.free (h : PS w0 w P T) (o : Nat) : w.frozen? ⟨P, o, none⟩ = false := by simp [World.frozen?, h.pr]

/-- a step's cells stay -/
def KO (w w' : World) : Prop := ∀ (b : Nat) (cur : Array Value), w.heap[b]? = some (.cells cur 32 (0, 0)) → w'.heap[b]? = some (.cells cur 32 (0, 0))
theorem KO.of_below (hb : Below w.heap.size w w') : KO w w' := fun b _ hx => (hb.block b (Array.getElem?_eq_some_iff.1 hx).1).trans hx
theorem PS.ko (h : PS w0 w P T) {i : Nat} (hi : i < 4) (hk : Kept (T i).foot w w') : KO w w' := fun b cur hx => h.fam.cells hi hk hx (by decide) (by decide) (by decide)

/-- what stands between two steps, N steps behind -/
structure St (w0 w : World) (P : Nat) (T : Nat → Th) (S : Nat → Lg) (N : Nat) : Prop where
  ps : PS w0 w P T
  led : ∀ j, j < 2 → ∃ Q b n, T j = .led Q b n (S j) ∧ n ≤ N
  ref : ∀ j, j < 2 → ∃ R v rec gone ps K, T (j + 2) = .ref R v (S j) rec gone ps K ∧ K ≤ N
  ok : ∀ j, j < 2 → Ok (S j)
variable {S : Nat → Lg} {N j : Nat} {s' : Lg}
def Next (w0 w : World) (P N : Nat) : Prop := ∃ T S, St w0 w P T S N
theorem St.later (h : St w0 w P T S N) (hb : Below w.heap.size w w') : St w0 w' P T S N := ⟨h.ps.later hb, h.led, h.ref, h.ok⟩
theorem St.succ (h : St w0 w P T S N) : St w0 w P T S (N + 1) := ⟨h.ps, fun j hj => by
  obtain ⟨Q, b, n, e, hn⟩ := h.led j hj
  exact ⟨Q, b, n, e, Nat.le_succ_of_le hn⟩, fun j hj => by
  obtain ⟨R, v, rec, gone, ps, K, e, hK⟩ := h.ref j hj
  exact ⟨R, v, rec, gone, ps, K, e, Nat.le_succ_of_le hK⟩, h.ok⟩
theorem St.next (h : St w0 w P T S N) (hb : Below w.heap.size w w') : Next w0 w' P (N + 1) := ⟨T, S, (h.later hb).succ⟩
theorem Next.later (h : Next w0 w P N) (hb : Below w.heap.size w w') : Next w0 w' P N := by
  obtain ⟨T, S, h⟩ := h
  exact ⟨T, S, h.later hb⟩
/-- the program's ledger j has turned, the document's not yet -/
structure Half (w0 w : World) (P : Nat) (T : Nat → Th) (S : Nat → Lg) (N j : Nat) (s' : Lg) : Prop where
  ps : PS w0 w P T
  me : ∃ Q b n, T j = .led Q b n s' ∧ n ≤ N + 1
  led : ∀ i, i < 2 → i ≠ j → ∃ Q b n, T i = .led Q b n (S i) ∧ n ≤ N
  ref : ∀ i, i < 2 → ∃ R v rec gone ps K, T (i + 2) = .ref R v (S i) rec gone ps K ∧ K ≤ N
  ok : ∀ i, i < 2 → Ok (S i)
  ok' : Ok s'
theorem St.l (h : St w0 w P T S N) (hj : j < 2) : ∃ Q b n, T j = .led Q b n (S j) ∧ n ≤ N ∧ LAt w Q b n (S j) ∧ (T j).ptr = Q := by
  obtain ⟨Q, b, n, e, hn⟩ := h.led j hj
  have := h.ps.fam.at' j (by omega)
  rw [e] at this
  exact ⟨Q, b, n, e, hn, this, by rw [e]; rfl⟩
theorem St.r (h : St w0 w P T S N) (hj : j < 2) : ∃ R v rec gone ps K, T (j + 2) = .ref R v (S j) rec gone ps K ∧ K ≤ N ∧ RAt w0 w R v (S j) rec gone ps K ∧ (T (j + 2)).ptr = R := by
  obtain ⟨R, v, rec, gone, ps, K, e, hK⟩ := h.ref j hj
  have := h.ps.fam.at' (j + 2) (by omega)
  rw [e] at this
  exact ⟨R, v, rec, gone, ps, K, e, hK, this, by rw [e]; rfl⟩
/-- a call of the program's -/
theorem St.half (h : St w0 w P T S N) (hj : j < 2) {Q b n : Nat} (e : T j = .led Q b n (S j)) (hl : LAt w' Q b (n + 1) s') (hn : n ≤ N) (ok : Ok s') (hk : Kept (LF Q b) w w') : (∃ T', Half w0 w' P T' S N j s' ∧ pcs T' = pcs T) ∧ KO w w' := by
  have hk' : Kept (T j).foot w w' := by rw [e]; exact hk
  have hp : (Th.led Q b (n + 1) s').ptr = (T j).ptr := by rw [e]; rfl
  refine ⟨⟨put T j (.led Q b (n + 1) s'), ⟨h.ps.turn (by omega) hl hp hk' fun b' hb => .inl (by rw [e]; exact hb), ⟨Q, b, n + 1, put_same _ _ _, by omega⟩, fun i hi hne => ?_, fun i hi => ?_, h.ok, ok⟩, pcs_put hp⟩, h.ps.ko (by omega) hk'⟩
  · rw [put_other _ _ hne]; exact h.led i hi
  · rw [put_other _ _ (by omega)]; exact h.ref i hi
/-- then one of the document's -/
theorem Half.next (h : Half w0 w P T S N j s') (hj : j < 2) {R : Nat} {v : Value} {rec gone : Int} {ps : List Pt} {K : Nat} (e : T (j + 2) = .ref R v (S j) rec gone ps K) (hK : K ≤ N) (ha : After w0 w w' R v s' (K + 1)) : Next w0 w' P (N + 1) ∧ KO w w' := by
  obtain ⟨v', rec', gone', ps', hr, hk, hv⟩ := ha
  have hk' : Kept (T (j + 2)).foot w w' := by rw [e]; exact hk
  have hp : (Th.ref R v' s' rec' gone' ps' (K + 1)).ptr = (T (j + 2)).ptr := by rw [e]; rfl
  refine ⟨⟨put T (j + 2) (.ref R v' s' rec' gone' ps' (K + 1)), put S j s', ⟨h.ps.turn (by omega) hr hp hk' fun b hb => ?_, fun i hi => ?_, fun i hi => ?_, fun i hi => ?_⟩⟩, h.ps.ko (by omega) hk'⟩
  · rw [e]
    rcases hb with hb | hb
    · exact .inl (.inl hb)
    · rcases hv b hb with h1 | h1
      · exact .inl (.inr h1)
      · exact .inr h1
  · rw [put_other _ _ (by omega)]
    by_cases e2 : i = j
    · subst e2
      rw [put_same]
      exact h.me
    · rw [put_other _ _ e2]
      obtain ⟨Q, b, n, e3, hn⟩ := h.led i hi e2
      exact ⟨Q, b, n, e3, Nat.le_succ_of_le hn⟩
  · by_cases e2 : i = j
    · subst e2
      rw [put_same, put_same]
      exact ⟨_, _, _, _, _, _, rfl, by omega⟩
    · rw [put_other _ _ e2, put_other _ _ (by omega)]
      obtain ⟨R, v, rec, gone, ps, K, e3, hK⟩ := h.ref i hi
      exact ⟨R, v, rec, gone, ps, K, e3, Nat.le_succ_of_le hK⟩
  · by_cases e2 : i = j
    · subst e2; rw [put_same]; exact h.ok'
    · rw [put_other _ _ e2]; exact h.ok i hi
theorem Half.r (h : Half w0 w P T S N j s') (hj : j < 2) : ∃ R v rec gone ps K, T (j + 2) = .ref R v (S j) rec gone ps K ∧ K ≤ N ∧ RAt w0 w R v (S j) rec gone ps K ∧ (T (j + 2)).ptr = R := by
  obtain ⟨R, v, rec, gone, ps, K, e, hK⟩ := h.ref j hj
  have := h.ps.fam.at' (j + 2) (by omega)
  rw [e] at this
  exact ⟨R, v, rec, gone, ps, K, e, hK, this, by rw [e]; rfl⟩
theorem ptr_eq {T' : Nat → Th} (h : pcs T' = pcs T) {i : Nat} (hi : i < 4) : (T' i).ptr = (T i).ptr := by
  simp only [pcs] at h
  injection h with h
  simp only [List.cons.injEq, and_true] at h
  obtain ⟨h0, h1, h2, h3⟩ := h
  have g : ∀ {a b : Nat}, lp a = lp b → a = b := fun e => by
    injection e with e
    injection e with e
    injection e
  rcases (show i = 0 ∨ i = 1 ∨ i = 2 ∨ i = 3 by omega) with rfl | rfl | rfl | rfl
  · exact g h0
  · exact g h1
  · exact g h2
  · exact g h3

/-- the calls as the pair sees them -/
def HalfQ (w0 w w' : World) (P : Nat) (T : Nat → Th) (S : Nat → Lg) (N j : Nat) (s' : Lg) : Prop := (∃ T', Half w0 w' P T' S N j s' ∧ pcs T' = pcs T) ∧ KO w w'
theorem s_reserve (h : St w0 w P T S N) (hN : N ≤ 1000) (hj : j < 2) {t : Int} (ht : U64 t) (k : Int) : Calls Try.prog 10 #[lp (T j).ptr, .int .u64 t, .int .i64 k] w fun e w' => e = .returned (.int .i64 (rsvE (S j) t k)) ∧ HalfQ w0 w w' P T S N j (rsvS (S j) t k) := by
  obtain ⟨Q, b, n, e, hn, hl, hp⟩ := h.l hj
  rw [hp]
  exact (reserve_at hl (h.ok j hj) (by omega) ht k).mono fun _ w' ⟨h1, h2, h3⟩ => ⟨h1, h.half hj e h2 hn ((h.ok j hj).rsv t k) h3⟩
theorem s_append (h : St w0 w P T S N) (hN : N ≤ 1000) (hj : j < 2) {t : Int} (ht : U64 t) : Calls Try.prog 11 #[lp (T j).ptr, .int .u64 t] w fun e w' => e = .returned (.int .i64 (appE (S j) t)) ∧ HalfQ w0 w w' P T S N j (appS (S j) t) := by
  obtain ⟨Q, b, n, e, hn, hl, hp⟩ := h.l hj
  rw [hp]
  exact (append_at hl (h.ok j hj) (by omega) ht).mono fun _ w' ⟨h1, h2, h3⟩ => ⟨h1, h.half hj e h2 hn ((h.ok j hj).app t) h3⟩
theorem s_close (h : St w0 w P T S N) (hj : j < 2) {t : Int} (ht : U64 t) : Calls Try.prog 12 #[lp (T j).ptr, .int .u64 t] w fun e w' => e = .returned (.int .i64 (clsE (S j) t)) ∧ HalfQ w0 w w' P T S N j (clsS (S j) t) := by
  obtain ⟨Q, b, n, e, hn, hl, hp⟩ := h.l hj
  rw [hp]
  exact (close_at hl (h.ok j hj) ht).mono fun _ w' ⟨h1, h2, h3⟩ => ⟨h1, h.half hj e h2 hn ((h.ok j hj).cls t) h3⟩
theorem s_free (h : St w0 w P T S N) (hj : j < 2) (k : Int) : Calls Try.prog 13 #[lp (T j).ptr, .int .i64 k] w fun e w' => e = .returned (.int .i64 (freE (S j) k)) ∧ HalfQ w0 w w' P T S N j (freS (S j) k) := by
  obtain ⟨Q, b, n, e, hn, hl, hp⟩ := h.l hj
  rw [hp]
  exact (free_at hl (h.ok j hj) k).mono fun _ w' ⟨h1, h2, h3⟩ => ⟨h1, h.half hj e h2 hn ((h.ok j hj).fre k) h3⟩
theorem h_reserve {T' : Nat → Th} (h : Half w0 w P T' S N j s') (hN : N ≤ 1000) (hj : j < 2) (hp : pcs T' = pcs T) (t k : Int) (hs : rsvS (S j) t k = s') : Calls Try.prog 22 #[lp (T (j + 2)).ptr, .int .u64 t, .int .i64 k] w fun e w' => e = .returned (.int .i64 (rsvE (S j) t k)) ∧ Next w0 w' P (N + 1) ∧ KO w w' := by
  subst hs
  obtain ⟨R, v, rec, gone, ps, K, e, hK, hr, hpr⟩ := h.r hj
  rw [← ptr_eq hp (by omega), hpr]
  exact (rreserve_at hr (h.ok j hj) (by omega) h.ps.below.size t k).mono fun _ w' ⟨h1, h2⟩ => ⟨h1, h.next hj e hK h2⟩
theorem h_append {T' : Nat → Th} (h : Half w0 w P T' S N j s') (hN : N ≤ 1000) (hj : j < 2) (hp : pcs T' = pcs T) (t : Int) (hs : appS (S j) t = s') : Calls Try.prog 23 #[lp (T (j + 2)).ptr, .int .u64 t] w fun e w' => e = .returned (.int .i64 (appE (S j) t)) ∧ Next w0 w' P (N + 1) ∧ KO w w' := by
  subst hs
  obtain ⟨R, v, rec, gone, ps, K, e, hK, hr, hpr⟩ := h.r hj
  rw [← ptr_eq hp (by omega), hpr]
  exact (rappend_at hr (h.ok j hj) (by omega) t).mono fun _ w' ⟨h1, h2⟩ => ⟨h1, h.next hj e hK h2⟩
theorem h_close {T' : Nat → Th} (h : Half w0 w P T' S N j s') (hN : N ≤ 1000) (hj : j < 2) (hp : pcs T' = pcs T) (t : Int) (hs : clsS (S j) t = s') : Calls Try.prog 24 #[lp (T (j + 2)).ptr, .int .u64 t] w fun e w' => e = .returned (.int .i64 (clsE (S j) t)) ∧ Next w0 w' P (N + 1) ∧ KO w w' := by
  subst hs
  obtain ⟨R, v, rec, gone, ps, K, e, hK, hr, hpr⟩ := h.r hj
  rw [← ptr_eq hp (by omega), hpr]
  exact (rclose_at hr (h.ok j hj) (by omega) h.ps.below.size t).mono fun _ w' ⟨h1, h2⟩ => ⟨h1, h.next hj e hK h2⟩
theorem h_free {T' : Nat → Th} (h : Half w0 w P T' S N j s') (hN : N ≤ 1000) (hj : j < 2) (hp : pcs T' = pcs T) (k : Int) (hs : freS (S j) k = s') : Calls Try.prog 25 #[lp (T (j + 2)).ptr, .int .i64 k] w fun e w' => e = .returned (.int .i64 (freE (S j) k)) ∧ Next w0 w' P (N + 1) ∧ KO w w' := by
  subst hs
  obtain ⟨R, v, rec, gone, ps, K, e, hK, hr, hpr⟩ := h.r hj
  rw [← ptr_eq hp (by omega), hpr]
  exact (rfree_at hr (by omega) k).mono fun _ w' ⟨h1, h2⟩ => ⟨h1, h.next hj e hK h2⟩
end Go.Proofs.Ytjkmeljefbpbgaa
