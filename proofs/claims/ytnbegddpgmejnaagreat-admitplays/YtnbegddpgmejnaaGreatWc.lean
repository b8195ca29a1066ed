/-
  Layer 13: a list more.
-/
import Derived.Test.YtnbegddpgmejnaaGreatWb
import Derived.Test.YtnbegddpgmejnaaGreatZa
namespace Go.Proofs.YtnbegddpgmejnaaGreat
open Go.RowKit

variable {w0 w w' : World} {P : Nat} {q : Nat → Nat} {S D : Nat → Ad} {X : Nat → Th} {N a b j k : Nat}

/-- one of the four lists has grown in its row, its cell not yet -/
structure Mid (w0 w : World) (P : Nat) (T : Nat → Th) (G : Nat → Prop) (i : Nat) (t : Th) (k : Nat) : Prop where
  fam : Fam w0 w (put (put T i t) k .no) G
  pr : w.heap[P]? = some (.cells (pcs T) 41 (0, 0))
  plo : w0.heap.size ≤ P
  pf : ∀ l, l < 15 → ¬ (put (put T i t) k .no l).foot P
  pg : ¬ G P
  below : Below w0.heap.size w0 w
theorem Mid.store {T : Nat → Th} {G : Nat → Prop} {i : Nat} {t : Th} (h : Mid w0 w P T G i t k) (hi : i < 8) (hk : 8 ≤ k) : PS w0 (w.setCell ⟨P, i, none⟩ t.val) P (put (put T i t) k .no) G := by
  have hkp := Kept.setCell (w := w) P i t.val
  refine ⟨h.fam.far hkp (fun l hl b hb e => by have e' : b = P := e; subst e'; exact h.pf l hl hb) (fun g hg e => by have e' : g = P := e; subst e'; exact h.pg hg), ?_, h.plo, h.pf, h.pg, hkp.into h.below (fun b hb e => by have e' : b = P := e; have := h.plo; omega) (Nat.le_refl _)⟩
  rw [L.st_set i _ h.pr, pcs_put8 hk]
  congr 2
  have e : ∀ l, l ≠ i → (put T i t l) = T l := fun l hl => put_other _ _ hl
  have e2 : put T i t i = t := put_same _ _ _
  rcases (show i = 0 ∨ i = 1 ∨ i = 2 ∨ i = 3 ∨ i = 4 ∨ i = 5 ∨ i = 6 ∨ i = 7 by omega) with rfl | rfl | rfl | rfl | rfl | rfl | rfl | rfl <;> simp [pcs, put]
/-- 'append(w.forms, got)': the row -/
theorem PS.grow {T : Nat → Th} {G : Nat → Prop} {i : Nat} {t : Th} {S' : Nat → Prop} (h : PS w0 w P T G) (hi : i < 15) (hik : i ≠ k) (ht : t.at w' G) (hk : Kept S' w w') (hS : ∀ b, S' b → (T i).foot b) (hf : ∀ b, t.foot b → (T i).foot b ∨ w.heap.size ≤ b ∨ (k < 15 ∧ (T k).foot b)) : Mid w0 w' P T G i t k := by
  refine ⟨h.fam.move hi hik ht hk hS hf h.below.size (fun _ hg => hg) (fun _ hg => .inl hg), (hk.block P h.plt fun hs => h.pf i hi (hS P hs)).trans h.pr, h.plo, fun l hl hb => ?_, h.pg, hk.into h.below (fun b hb hs => by have := h.fam.lo i hi b (hS b hs); omega) (Nat.le_refl _)⟩
  by_cases e : l = k
  · subst e; rw [put_same] at hb; exact hb.elim
  · rw [put_other _ _ e] at hb
    by_cases e2 : l = i
    · subst e2
      rw [put_same] at hb
      rcases hf P hb with h1 | h1 | ⟨h1, h2⟩
      · exact h.pf l hl h1
      · have := h.plt; omega
      · exact h.pf k h1 h2
    · rw [put_other _ _ e2] at hb; exact h.pf l hl hb
theorem nm_val {v : Value} {us : List Value} {fs : List (List Int)} : (Th.il v us fs).val = v ∧ (Th.ul v us fs).val = v := ⟨rfl, rfl⟩
end Go.Proofs.YtnbegddpgmejnaaGreat
