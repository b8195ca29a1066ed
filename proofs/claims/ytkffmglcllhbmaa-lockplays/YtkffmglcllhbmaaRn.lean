/-
  Layer 14: two locks on both sides.
-/
import Derived.Test.YtkffmglcllhbmaaRl
namespace Go.Proofs.Ytkffmglcllhbmaa
open Go.RowKit

def putf {α : Type} (f : Nat → α) (i : Nat) (a : α) : Nat → α := fun j => if j = i then a else f j
theorem putf_same {α : Type} (f : Nat → α) (i : Nat) (a : α) : putf f i a i = a := if_pos rfl
theorem putf_other {α : Type} (f : Nat → α) {i j : Nat} (a : α) (h : j ≠ i) : putf f i a j = f j := if_neg h
/-- what stands between two steps: two locks, the document's beside each, and the two rows that point to them -/
structure S2 (w0 w : World) (F : Nat → Ft) (R : Nat → Nat) (a : Nat → Lk) (n : Nat) (G : Nat → Prop) (bl br : Nat) : Prop where
  pr : ∀ j, j < 2 → Pr w0 w (F j) n (R j) G (a j)
  sep : ∀ i j, i < 2 → j < 2 → i ≠ j → ∀ b, (F i).has (a i).bl b → ¬ (F j).has (a j).bl b
  rs : ∀ i j, i < 2 → j < 2 → i ≠ j → R i ≠ R j
  ls : w.heap[bl]? = some (.cells #[qp (F 0).Q, qp (F 1).Q] 24 (0, 0))
  lr : w.heap[br]? = some (.cells #[qp (R 0), qp (R 1)] 61 (0, 0))
  gl : ¬ G bl ∧ ¬ G br
  lo : w0.heap.size ≤ bl ∧ w0.heap.size ≤ br
section
variable {w0 w w' w1 w2 w3 w4 : World} {F : Nat → Ft} {R : Nat → Nat} {a : Nat → Lk} {n bl br j : Nat} {G G' : Nat → Prop}
theorem noP : ¬ kinds 24 := by intro h; rcases h with e | e | e | e | e <;> cases e
theorem noQ : ¬ kinds 61 := by intro h; rcases h with e | e | e | e | e <;> cases e
theorem S2.below (h : S2 w0 w F R a n G bl br) : Below w0.heap.size w0 w := (h.pr 0 (by omega)).below
theorem Pr.kR {F : Ft} {R : Nat} {a : Lk} (h : Pr w0 w F n R G a) : kd w R = 103 := by
  obtain ⟨v, es, hr⟩ := h.rl
  exact hr.kR
theorem S2.kl (h : S2 w0 w F R a n G bl br) : kd w bl = 24 ∧ kd w br = 61 := ⟨kd_cells h.ls, kd_cells h.lr⟩
theorem S2.cl (h : S2 w0 w F R a n G bl br) (hj : j < 2) : w.cell? ⟨bl, j, none⟩ = some (qp (F j).Q) ∧ w.cell? ⟨br, j, none⟩ = some (qp (R j)) := by
  rw [cell_of_row _ bl j _ 24 (0, 0) h.ls, cell_of_row _ br j _ 61 (0, 0) h.lr]
  rcases (show j = 0 ∨ j = 1 by omega) with rfl | rfl <;> exact ⟨rfl, rfl⟩
theorem S2.turn {F' : Ft} {a' : Lk} (h : S2 w0 w F R a n G bl br) (hj : j < 2) (ht : Tn w w' (F j) (R j) G (a j).bl (n + 1) F' G' a') : S2 w0 w' (putf F j F') R (putf a j a') (n + 1) G' bl br := by
  have P := h.pr j hj
  have s := ht.kept.size
  have hb : Below w0.heap.size w0 w' := ht.kept.into P.below (fun b hb e => by
    rcases e with e | e
    · have := P.lo b e; omega
    · have := P.rlo; omega) (Nat.le_refl _)
  have hgl : ∀ g, G' g → g < w'.heap.size := fun g hg => by
    rcases ht.g2 g hg with e | e
    · have := P.gl g e; omega
    · exact e.2
  have kl := h.kl
  have hbl : bl < w.heap.size := (Array.getElem?_eq_some_iff.1 h.ls).1
  have hbr : br < w.heap.size := (Array.getElem?_eq_some_iff.1 h.lr).1
  have nbl : ¬ ((F j).has (a j).bl bl ∨ bl = R j) := fun e => by
    rcases e with e | e
    · have := P.pl.kinds e; rw [kl.1] at this; exact noP this
    · have := P.kR; rw [← e, kl.1] at this; cases this
  have nbr : ¬ ((F j).has (a j).bl br ∨ br = R j) := fun e => by
    rcases e with e | e
    · have := P.pl.kinds e; rw [kl.2] at this; exact noQ this
    · have := P.kR; rw [← e, kl.2] at this; cases this
  have hq : ∀ i, (putf F j F' i).Q = (F i).Q := fun i => by
    by_cases e : i = j
    · subst e; rw [putf_same]; exact ht.grw.q
    · rw [putf_other _ _ e]
  have hhas : ∀ b, F'.has a'.bl b → (F j).has (a j).bl b ∨ w.heap.size ≤ b := fun b hb' => ht.grw.has b (by rw [← ht.bl]; exact hb')
  refine ⟨fun i hi => ?_, fun i k hi hk hne b hb1 hb2 => ?_, h.rs, ?_, ?_, ⟨fun e => ?_, fun e => ?_⟩, h.lo⟩
  · by_cases e : i = j
    · subst e
      rw [putf_same, putf_same]
      refine ⟨ht.pl, ht.rl, fun g hg => ?_, hgl, fun g hg => by rw [ht.bl]; exact ht.gf g hg, fun e => ?_, fun b hb' => ?_, P.rlo, hb⟩
      · rcases ht.grw.g g hg with e | e
        · have := P.fl g e; omega
        · exact e.2
      · rcases ht.g2 _ e with e | e
        · exact P.gR e
        · have := P.R_lt; omega
      · rcases hhas b hb' with e | e
        · exact P.lo b e
        · have := P.below.size; omega
    · rw [putf_other _ _ e, putf_other _ _ e]
      have Q := h.pr i hi
      obtain ⟨v, es, hr⟩ := Q.rl
      refine ⟨(Q.pl.far ht.kept (fun b hb' e2 => ?_) (fun g _ h3 e2 => ?_)).more, ⟨v, es, (hr.far ht.kept (fun e2 => ?_) (fun g hg _ e2 => ?_)).wide ht.g1⟩, fun g hg => by have := Q.fl g hg; omega, hgl, fun g hg e2 => ?_, fun e2 => ?_, Q.lo, Q.rlo, hb⟩
      · rcases e2 with e2 | e2
        · exact h.sep i j hi hj e b hb' e2
        · have h1 := Q.pl.kinds hb'
          rw [e2, P.kR] at h1
          exact no103 h1
      · rcases e2 with e2 | e2
        · have := P.pl.kinds e2
          rw [h3] at this
          exact no3 this
        · rw [e2, P.kR] at h3; cases h3
      · rcases e2 with e2 | e2
        · have := P.pl.kinds e2
          rw [Q.kR] at this
          exact no103 this
        · exact h.rs i j hi hj e e2
      · rcases e2 with e2 | e2
        · exact P.gf g hg e2
        · exact P.gR (e2 ▸ hg)
      · rcases ht.g2 g hg with e3 | e3
        · exact Q.gf g e3 e2
        · have := Q.pl.lt e2; omega
      · rcases ht.g2 _ e2 with e3 | e3
        · exact Q.gR e3
        · have := Q.R_lt; omega
  · by_cases e : i = j
    · subst e
      rw [putf_same, putf_same] at hb1
      rw [putf_other _ _ (Ne.symm hne), putf_other _ _ (Ne.symm hne)] at hb2
      rcases hhas b hb1 with e | e
      · exact h.sep i k hi hk hne b e hb2
      · have := (h.pr k hk).pl.lt hb2; omega
    · rw [putf_other _ _ e, putf_other _ _ e] at hb1
      by_cases e2 : k = j
      · subst e2
        rw [putf_same, putf_same] at hb2
        rcases hhas b hb2 with e3 | e3
        · exact h.sep i k hi hk hne b hb1 e3
        · have := (h.pr i hi).pl.lt hb1; omega
      · rw [putf_other _ _ e2, putf_other _ _ e2] at hb2
        exact h.sep i k hi hk hne b hb1 hb2
  · rw [hq, hq]; exact (ht.kept.block bl hbl nbl).trans h.ls
  · exact (ht.kept.block br hbr nbr).trans h.lr
  · rcases ht.g2 _ e with e | e
    · exact h.gl.1 e
    · omega
  · rcases ht.g2 _ e with e | e
    · exact h.gl.2 e
    · omega
theorem RL.trim {R : Nat} {v : Value} {a : Lk} {es : List Er} (h : RL w G R v a es) : RL w (fun g => G g ∧ g ≠ R) R v a es := by
  have h1 : ∀ x y, Mi w G x y → Mi w (fun g => G g ∧ g ≠ R) x y := fun x y m => ⟨m.t, m.f, fun g hg => ⟨m.g g hg, fun e => by
    have h1 := (m.f.lt hg).2
    rw [e, h.kR] at h1
    cases h1⟩, m.d⟩
  exact ⟨h.st, h.row, h.mi.map h1, fun g hg => ⟨h.g g hg, fun e => O.own_not h.row h.st (by decide) (e ▸ hg)⟩⟩
/-- the other one becomes a copy of this one -/
theorem S2.copied {F' : Ft} {R' k : Nat} {v' : Value} {es : List Er} (h : S2 w0 w F R a n G bl br) (hj : j < 2) (hk : k = 1 - j) (hp : PL w1 F' n (a j)) (hF : ∀ b, F'.has (a j).bl b → w.heap.size ≤ b) (hFG : ∀ g, F'.G g → (F j).G g) (hb1 : Below w.heap.size w w1) (h2 : w2 = w1.setCell ⟨bl, k, none⟩ (qp F'.Q)) (hr : RL w3 (Gp w2 w3 G) R' v' (a j) es) (hR : w2.heap.size ≤ R') (hb3 : Below w2.heap.size w2 w3) :
    S2 w0 (w3.setCell ⟨br, k, none⟩ (qp R')) (putf F k F') (putf R k R') (putf a k (a j)) n (fun g => Gp w2 w3 G g ∧ g ≠ R') bl br := by
  have P := h.pr j hj
  have kl := h.kl
  have hbl : bl < w.heap.size := (Array.getElem?_eq_some_iff.1 h.ls).1
  have hbr : br < w.heap.size := (Array.getElem?_eq_some_iff.1 h.lr).1
  have hne : bl ≠ br := ne_kd kl.1 kl.2 (by decide)
  have s1 := hb1.size
  have k2 : Kept (· = bl) w1 w2 := by rw [h2]; exact Kept.setCell bl k _
  have s2 := k2.size
  have s3 := hb3.size
  have k4 := Kept.setCell (w := w3) br k (qp R')
  have s4 := k4.size
  have kA : Kept (fun b => b = bl ∨ b = br) w1 (w3.setCell ⟨br, k, none⟩ (qp R')) := ((k2.wider fun _ _ e => .inl e).trans (Kept.of_below (fun _ => False) hb3) (fun _ _ e => e.elim)).trans k4 (fun _ _ e => .inr e)
  have kB : Kept (fun b => b = bl ∨ b = br) w (w3.setCell ⟨br, k, none⟩ (qp R')) := (Kept.of_below _ hb1).trans kA (fun _ _ e => e)
  have hb : Below w0.heap.size w0 (w3.setCell ⟨br, k, none⟩ (qp R')) := kB.into P.below (fun b hb e => by have := h.lo; omega) (Nat.le_refl _)
  have hRl : R' < w3.heap.size := hr.lt
  have hgl : ∀ g, (Gp w2 w3 G g ∧ g ≠ R') → g < (w3.setCell ⟨br, k, none⟩ (qp R')).heap.size := fun g hg => by
    rcases hg.1 with e | e
    · have := P.gl g e; omega
    · omega
  have hjk : j ≠ k := by omega
  have kl1 : kd w1 bl = 24 ∧ kd w1 br = 61 := ⟨by rw [kd_eq (hb1.block bl hbl)]; exact kl.1, by rw [kd_eq (hb1.block br hbr)]; exact kl.2⟩
  have kl3 : kd w3 br = 61 := by
    rw [kd_eq (hb3.block br (by omega)), kd_eq (k2.block br (by omega) (fun e => hne e.symm))]
    exact kl1.2
  refine ⟨fun i hi => ?_, fun i x hi hx hne' b h1 h2' => ?_, fun i x hi hx hne' => ?_, ?_, ?_, ⟨fun e => ?_, fun e => ?_⟩, h.lo⟩
  · by_cases e : i = k
    · subst e
      rw [putf_same, putf_same, putf_same]
      refine ⟨hp.far kA (fun b hb' e2 => ?_) (fun g _ h3 e2 => ?_), ⟨v', es, hr.trim.far k4 (fun e2 => ?_) (fun g hg hl e2 => ?_)⟩, fun g hg => by have := P.fl g (hFG g hg); omega, hgl, fun g hg e2 => ?_, fun e2 => ?_, fun b hb' => ?_, ?_, hb⟩
      · have h3 := hF b hb'
        omega
      · rcases e2 with e2 | e2
        · rw [e2, kl1.1] at h3; cases h3
        · rw [e2, kl1.2] at h3; cases h3
      · omega
      · rcases hg.1 with e3 | e3
        · exact h.gl.2 (e2 ▸ e3)
        · omega
      · have h3 := hF g e2
        have h4 := hp.lt e2
        rcases hg.1 with e3 | e3
        · have := P.gl g e3; omega
        · omega
      · exact e2.2 rfl
      · have := hF b hb'; have := P.below.size; omega
      · have := P.below.size; omega
    · have eij : i = j := by omega
      subst eij
      rw [putf_other _ _ e, putf_other _ _ e, putf_other _ _ e]
      obtain ⟨v, es', hr'⟩ := P.rl
      refine ⟨P.pl.far kB (fun b hb' e2 => ?_) (fun g _ h3 e2 => ?_), ⟨v, es', (hr'.far kB (fun e2 => ?_) (fun g hg _ e2 => ?_)).wide fun g hg => ⟨.inl hg, by have := P.gl g hg; omega⟩⟩, fun g hg => by have := P.fl g hg; omega, hgl, fun g hg e2 => ?_, fun e2 => ?_, P.lo, P.rlo, hb⟩
      · have h1 := P.pl.kinds hb'
        rcases e2 with e2 | e2
        · rw [e2, kl.1] at h1; exact noP h1
        · rw [e2, kl.2] at h1; exact noQ h1
      · rcases e2 with e2 | e2
        · rw [e2, kl.1] at h3; cases h3
        · rw [e2, kl.2] at h3; cases h3
      · have h1 := P.kR
        rcases e2 with e2 | e2
        · rw [e2, kl.1] at h1; cases h1
        · rw [e2, kl.2] at h1; cases h1
      · rcases e2 with e2 | e2
        · exact h.gl.1 (e2 ▸ hg)
        · exact h.gl.2 (e2 ▸ hg)
      · have h1 := P.pl.lt e2
        rcases hg.1 with e3 | e3
        · exact P.gf g e3 e2
        · omega
      · have := P.R_lt
        rcases e2.1 with e3 | e3
        · exact P.gR e3
        · omega
  · have old : ∀ y, y < 2 → y ≠ k → ∀ b, (putf F k F' y).has (putf a k (a j) y).bl b → b < w.heap.size := fun y hy hyk b hb' => by
      rw [putf_other _ _ hyk, putf_other _ _ hyk] at hb'
      exact (h.pr y hy).pl.lt hb'
    have new : ∀ b, (putf F k F' k).has (putf a k (a j) k).bl b → w.heap.size ≤ b := fun b hb' => by
      rw [putf_same, putf_same] at hb'
      exact hF b hb'
    by_cases e : i = k
    · subst e
      have := new b h1
      have := old x hx (Ne.symm hne') b h2'
      omega
    · have e2 : x = k := by omega
      subst e2
      have := new b h2'
      have := old i hi e b h1
      omega
  · by_cases e : i = k
    · subst e
      rw [putf_same, putf_other _ _ (Ne.symm hne')]
      have := (h.pr x hx).R_lt
      omega
    · have e2 : x = k := by omega
      subst e2
      rw [putf_same, putf_other _ _ e]
      have := (h.pr i hi).R_lt
      omega
  · have e1 : w2.heap[bl]? = some (.cells #[qp (putf F k F' 0).Q, qp (putf F k F' 1).Q] 24 (0, 0)) := by
      rw [h2, st_set k _ ((hb1.block bl hbl).trans h.ls)]
      rcases (show k = 0 ∨ k = 1 by omega) with e | e <;> subst e <;> rfl
    exact (k4.block bl (by omega) hne).trans ((hb3.block bl (by omega)).trans e1)
  · have e1 : w3.heap[br]? = some (.cells #[qp (R 0), qp (R 1)] 61 (0, 0)) := (hb3.block br (by omega)).trans ((k2.block br (by omega) (fun e => hne e.symm)).trans ((hb1.block br hbr).trans h.lr))
    rw [st_set k _ e1]
    rcases (show k = 0 ∨ k = 1 by omega) with e | e <;> subst e <;> rfl
  · rcases e.1 with e | e
    · exact h.gl.1 e
    · omega
  · rcases e.1 with e | e
    · exact h.gl.2 e
    · omega
end
end Go.Proofs.Ytkffmglcllhbmaa
