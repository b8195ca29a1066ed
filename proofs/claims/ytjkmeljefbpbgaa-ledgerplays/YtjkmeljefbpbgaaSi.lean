/-
  Layer 12: every step; the pair as it is made.
-/
import Derived.Test.YtjkmeljefbpbgaaSd
import Derived.Test.YtjkmeljefbpbgaaSe
import Derived.Test.YtjkmeljefbpbgaaSf
import Derived.Test.YtjkmeljefbpbgaaSg
import Derived.Test.YtjkmeljefbpbgaaSh
namespace Go.Proofs.Ytjkmeljefbpbgaa
open Go.RowKit

variable {w0 w w' : World} {P : Nat} {T : Nat → Th} {S : Nat → Lg} {N : Nat}

theorem plays_any (h : Next w0 w P N) (hN : N < 1000) (kd wh t k : Int) (ht : U64 t) :
    Calls Try.prog 19 #[lp P, .agg #[.int .i64 kd, .int .i64 wh, .int .u64 t, .int .i64 k]] w fun e w' => e = .returned (.bool true) ∧ Next w0 w' P (N + 1) := by
  obtain ⟨T, S, h⟩ := h
  by_cases k1 : kd = 1
  · subst k1; exact plays_reserve h hN wh t k ht
  by_cases k2 : kd = 2
  · subst k2; exact plays_append h hN wh t k ht
  by_cases k3 : kd = 3
  · subst k3; exact plays_close h hN wh t k ht
  by_cases k4 : kd = 4
  · subst k4; exact plays_free h hN wh t k ht
  by_cases k5 : kd = 5
  · subst k5; exact plays_copy h hN wh t k ht
  exact plays_none h hN kd wh t k ht k1 k2 k3 k4 k5
theorem Next.below (h : Next w0 w P N) : Below w0.heap.size w0 w := by
  obtain ⟨T, S, h⟩ := h
  exact h.ps.below

def Dm (M i : Nat) : Prop := i < M ∨ (2 ≤ i ∧ i < 2 + M)
def cel (T : Nat → Th) (M j : Nat) : Value := if j < M then lp (T j).ptr else nilp
def cer (T : Nat → Th) (M j : Nat) : Value := if j < M then lp (T (j + 2)).ptr else nilp
/-- the pair while it is made: M of its ledgers are there -/
structure PI (w0 w : World) (P : Nat) (T : Nat → Th) (S : Nat → Lg) (M : Nat) : Prop where
  at' : ∀ i, Dm M i → (T i).at w0 w
  lo : ∀ i, Dm M i → ∀ b, (T i).foot b → w0.heap.size ≤ b
  apart : ∀ i j, Dm M i → Dm M j → i ≠ j → ∀ b, (T i).foot b → ¬ (T j).foot b
  led : ∀ j, j < M → ∃ Q b, T j = .led Q b 0 (S j)
  ref : ∀ j, j < M → ∃ R, T (j + 2) = .ref R (.slice none 0 0) (S j) 0 0 [] 0
  ok : ∀ j, j < M → Ok (S j)
  pr : w.heap[P]? = some (.cells #[cel T M 0, cel T M 1, cer T M 0, cer T M 1] 48 (0, 0))
  plo : w0.heap.size ≤ P
  below : Below w0.heap.size w0 w
variable {M : Nat}
theorem PI.later (h : PI w0 w P T S M) (hb : Below w.heap.size w w') : PI w0 w' P T S M :=
  ⟨fun i hi => Th.kept (h.at' i hi) fun b hf => hb.block b (Th.lt (h.at' i hi) hf), h.lo, h.apart, h.led, h.ref, h.ok, (hb.block P (Array.getElem?_eq_some_iff.1 h.pr).1).trans h.pr, h.plo, below_then h.below hb⟩
theorem PI.start (w : World) (T : Nat → Th) (S : Nat → Lg) : PI w (w.alloc (.cells #[nilp, nilp, nilp, nilp] 48)) w.heap.size T S 0 := by
  have no : ∀ i, ¬ Dm 0 i := fun i h => by unfold Dm at h; omega
  exact ⟨fun i hi => absurd hi (no i), fun i hi => absurd hi (no i), fun i _ hi => absurd hi (no i), fun j hj => absurd hj (Nat.not_lt_zero j), fun j hj => absurd hj (Nat.not_lt_zero j), fun j hj => absurd hj (Nat.not_lt_zero j), heap_alloc_new w _, Nat.le_refl _, below_alloc w _⟩
theorem PI.st (h : PI w0 w P T S 2) : St w0 w P T S 0 := by
  have d : ∀ i, i < 4 → Dm 2 i := fun i hi => by unfold Dm; omega
  refine ⟨⟨⟨fun i hi => h.at' i (d i hi), fun i hi => h.lo i (d i hi), fun i j hi hj => h.apart i j (d i hi) (d j hj)⟩, h.pr, h.plo, h.below⟩, fun j hj => ?_, fun j hj => ?_, h.ok⟩
  · obtain ⟨Q, b, e⟩ := h.led j hj
    exact ⟨Q, b, 0, e, Nat.le_refl _⟩
  · obtain ⟨R, e⟩ := h.ref j hj
    exact ⟨R, _, _, _, _, _, e, Nat.le_refl _⟩
theorem PI.cells (h : PI w0 w P T S M) (hM : M < 2) {Q : Nat} (hb : Below w.heap.size w w') :
    w'.cell? ⟨P, M, none⟩ = some nilp ∧ w'.frozen? ⟨P, M, none⟩ = false ∧ (w'.setCell ⟨P, M, none⟩ (lp Q)).cell? ⟨P, 2 + M, none⟩ = some nilp ∧ (w'.setCell ⟨P, M, none⟩ (lp Q)).frozen? ⟨P, 2 + M, none⟩ = false := by
  have hp := (h.later hb).pr
  have p1 := st_set M (lp Q) hp
  have hM01 : M = 0 ∨ M = 1 := by omega
  refine ⟨?_, by simp [World.frozen?, hp], ?_, by simp [World.frozen?, p1]⟩
  · rw [cell_of_row _ P M _ 48 (0, 0) hp]
    rcases hM01 with rfl | rfl <;> rfl
  · rw [cell_of_row _ P (2 + M) _ 48 (0, 0) p1]
    rcases hM01 with rfl | rfl <;> rfl
theorem PI.add (h : PI w0 w P T S M) (hM : M < 2) {Q b R : Nat} {s : Lg} (hl : LAt w' Q b 0 s) (hr : RAt w0 w' R (.slice none 0 0) s 0 0 [] 0) (ok : Ok s) (hb : Below w.heap.size w w') (hQ : w.heap.size ≤ Q) (hbl : w.heap.size ≤ b) (hR : w.heap.size ≤ R) :
    ∃ T' S', PI w0 ((w'.setCell ⟨P, M, none⟩ (lp Q)).setCell ⟨P, 2 + M, none⟩ (lp R)) P T' S' (M + 1) := by
  have h' := h.later hb
  have hp := h'.pr
  have k1 := Kept.setCell (w := w') P M (lp Q)
  have k2 := Kept.setCell (w := w'.setCell ⟨P, M, none⟩ (lp Q)) P (2 + M) (lp R)
  have kp : Kept (· = P) w' ((w'.setCell ⟨P, M, none⟩ (lp Q)).setCell ⟨P, 2 + M, none⟩ (lp R)) := k1.trans k2 fun _ _ e => e
  have p2 := st_set (2 + M) (lp R) (st_set M (lp Q) hp)
  have far : ∀ {t : Th}, t.at w0 w' → t.at w0 ((w'.setCell ⟨P, M, none⟩ (lp Q)).setCell ⟨P, 2 + M, none⟩ (lp R)) := fun {t} ht => Th.kept ht fun x hx => kp.block x (Th.lt ht hx) fun e => Th.not ht hp (by decide) (by decide) (by decide) (e ▸ hx)
  have hM01 : M = 0 ∨ M = 1 := by omega
  have tl : (Th.led Q b 0 s).at w0 w' := hl
  have tr : (Th.ref R (.slice none 0 0) s 0 0 [] 0).at w0 w' := hr
  have fr : ∀ x, (Th.ref R (.slice none 0 0) s 0 0 [] 0).foot x → x = R := fun x hx => by
    rcases hx with hx | hx
    · exact hx
    · cases hx
  have fl : ∀ x, (Th.led Q b 0 s).foot x → w.heap.size ≤ x := fun x hx => by rcases hx with rfl | rfl <;> omega
  have lr : ∀ x, (Th.led Q b 0 s).foot x → x ≠ R := fun x hx e => by
    subst e
    rcases hx with e | e
    · have h1 := hr.st
      rw [e, hl.st] at h1
      simp at h1
    · obtain ⟨es, c, hm⟩ := hl.mp.typ
      have h1 := hr.st
      rw [e, hm] at h1
      cases h1
  have old : ∀ i, Dm M i → ∀ x, (T i).foot x → x < w.heap.size := fun i hi x hx => Th.lt (h.at' i hi) hx
  have dd : ∀ i, Dm (M + 1) i → i = M ∨ i = M + 2 ∨ Dm M i := fun i hi => by unfold Dm at hi ⊢; omega
  have eM : ∀ {α : Type} (f : Nat → α) (x y : α), put (put f M x) (M + 2) y M = x := fun f x y => by rw [put_other _ _ (by omega), put_same]
  have eM2 : ∀ {α : Type} (f : Nat → α) (x y : α), put (put f M x) (M + 2) y (M + 2) = y := fun f x y => put_same _ _ _
  have eo : ∀ {α : Type} (f : Nat → α) (x y : α) (i : Nat), i ≠ M → i ≠ M + 2 → put (put f M x) (M + 2) y i = f i := fun f x y i h1 h2 => by rw [put_other _ _ h2, put_other _ _ h1]
  have dn : ∀ i, Dm M i → i ≠ M ∧ i ≠ M + 2 := fun i hi => by unfold Dm at hi; omega
  refine ⟨put (put T M (.led Q b 0 s)) (M + 2) (.ref R (.slice none 0 0) s 0 0 [] 0), put S M s, ⟨fun i hi => ?_, fun i hi x hx => ?_, fun i j hi hj hne x hx => ?_, fun j hj => ?_, fun j hj => ?_, fun j hj => ?_, ?_, h.plo, kp.into h'.below (fun x hx e => by have := h.plo; omega) (Nat.le_refl _)⟩⟩
  · rcases dd i hi with rfl | rfl | hd
    · rw [eM]; exact far tl
    · rw [eM2]; exact far tr
    · rw [eo _ _ _ i (dn i hd).1 (dn i hd).2]; exact far (h'.at' i hd)
  · have hw := h.below.size
    rcases dd i hi with rfl | rfl | hd
    · rw [eM] at hx; have := fl x hx; omega
    · rw [eM2] at hx; have := fr x hx; omega
    · rw [eo _ _ _ i (dn i hd).1 (dn i hd).2] at hx; exact h.lo i hd x hx
  · rcases dd i hi with rfl | rfl | hd
    · rw [eM] at hx
      rcases dd j hj with rfl | rfl | hd2
      · exact absurd rfl hne
      · rw [eM2]; exact fun e => lr x hx (fr x e)
      · rw [eo _ _ _ j (dn j hd2).1 (dn j hd2).2]; exact fun e => by have := old j hd2 x e; have := fl x hx; omega
    · rw [eM2] at hx
      rcases dd j hj with rfl | rfl | hd2
      · rw [eM]; exact fun e => lr x e (fr x hx)
      · exact absurd rfl hne
      · rw [eo _ _ _ j (dn j hd2).1 (dn j hd2).2]; exact fun e => by have := old j hd2 x e; have := fr x hx; omega
    · rw [eo _ _ _ i (dn i hd).1 (dn i hd).2] at hx
      rcases dd j hj with rfl | rfl | hd2
      · rw [eM]; exact fun e => by have := old i hd x hx; have := fl x e; omega
      · rw [eM2]; exact fun e => by have := old i hd x hx; have := fr x e; omega
      · rw [eo _ _ _ j (dn j hd2).1 (dn j hd2).2]; exact h.apart i j hd hd2 hne x hx
  · by_cases e : j = M
    · subst e; rw [eM, put_same]; exact ⟨Q, b, rfl⟩
    · rw [eo _ _ _ j e (by omega), put_other _ _ e]; exact h.led j (by omega)
  · by_cases e : j = M
    · subst e; rw [eM2, put_same]; exact ⟨R, rfl⟩
    · rw [eo _ _ _ (j + 2) (by omega) (by omega), put_other _ _ e]; exact h.ref j (by omega)
  · by_cases e : j = M
    · subst e; rw [put_same]; exact ok
    · rw [put_other _ _ e]; exact h.ok j (by omega)
  · rw [p2]
    rcases hM01 with rfl | rfl <;> rfl
end Go.Proofs.Ytjkmeljefbpbgaa
