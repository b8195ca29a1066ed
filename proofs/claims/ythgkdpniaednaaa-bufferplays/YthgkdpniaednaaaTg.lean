/-
  Layer 16: BufferPlays, up to the script.
-/
import Derived.Test.YthgkdpniaednaaaTf
import Derived.Test.YthgkdpniaednaaaBNb
import Derived.Deep.Cut
import Derived.Deep.CutBlock
namespace Go.Proofs.Ythgkdpniaednaaa
open Go.RowKit

open B (I64)
namespace W
/-- a row that nobody looks at -/
def Th.any (v : Value) (n : Nat) : Th := ⟨fun w _ => ∃ xs, w.ownsRow 0 3 1 v n xs, fun b => v.ownBlock = some b, undef, fun _ _ b h hb => by obtain ⟨xs, h⟩ := h; exact (World.ownsRow.lt h b hb).2, fun _ _ _ _ _ h hk hf _ _ => by obtain ⟨xs, h⟩ := h; exact ⟨xs, O.own_far h hk hf⟩⟩
theorem PS.any {w0 w : World} {P k n : Nat} {cs : Array Value} {T : Nat → Th} {G : Nat → Prop} {v : Value} (h : PS w0 w P cs T G) (hk : k < 15) (e : T k = .any v n) : ∃ xs, w.ownsRow 0 3 1 v n xs := by
  have := h.fam.at' k hk
  rw [e] at this
  exact this
/-- a cell of it is written -/
theorem PS.mark {w0 w : World} {P k n g c i : Nat} {cs : Array Value} {T : Nat → Th} {G : Nat → Prop} (h : PS w0 w P cs T G) (hk : k < 15) (e : T k = .any (.slice (some ⟨g, 0, none⟩) n c) n) (x : Value) : PS w0 (w.setCell ⟨g, i, none⟩ x) P cs T G := by
  obtain ⟨xs, hx⟩ := h.any hk e
  have := h.turn (i := k) (t := .any (.slice (some ⟨g, 0, none⟩) n c) n) hk (G' := G) ⟨_, O.own_set hx (g := g) rfl i x⟩ (Kept.setCell g i x) (fun b hb => by rw [e, show b = g from hb]; rfl) (fun b hb => .inl (by rw [e]; exact hb)) (fun _ hg => hg) (fun _ hg => .inl hg)
  rw [put_idem _ _ e] at this
  exact this
/-- while the buffers are made -/
structure Ini (T : Nat → Th) (F : Nat → List Int) (i : Nat) : Prop where
  buf : ∀ j, j < i → ∃ Q pf cf vi, T j = .buf Q pf cf (F j) vi (ims (F j) [])
  ref : ∀ j, j < i → ∃ R ps cs vw, T (j + 2) = .ref R ps cs (F j) vw []
  is : ∀ j, j < i → B.isS (F j) = true
  e4 : T 4 = .il true (.slice none 0 0) [] []
  e5 : T 5 = .il true (.slice none 0 0) [] []
  e6 : T 6 = .fo true (.slice none 0 0) [] []
def St0 (w0 w : World) (P i : Nat) : Prop := ∃ T G F, PS w0 w P (pcs T) T G ∧ Ini T F i
theorem ims_nil (F : List Int) : ims F [] = [] := by
  induction F with
  | nil => rfl
  | cons x r ih =>
    simp [ims, lst] at ih ⊢
    exact ⟨rfl, ih⟩
theorem St0.begin (w : World) : St0 w (w.alloc (.cells #[.pointer none, .pointer none, .pointer none, .pointer none, .slice none 0 0, .slice none 0 0, .slice none 0 0] 51)) w.heap.size 0 := by
  refine ⟨fun i => if i < 4 then .non (.pointer none) else if i < 6 then .il true (.slice none 0 0) [] [] else if i = 6 then .fo true (.slice none 0 0) [] [] else .no, fun _ => False, fun _ => [], ⟨⟨fun i _ => ?_, fun i _ b hb => ?_, fun i j _ _ _ b hb => ?_, fun i _ b hb hg => hg, fun g hg => hg.elim⟩, heap_alloc_new w _, Nat.le_refl _, fun i _ hb => ?_, fun hg => hg, below_alloc w _⟩, fun j hj => absurd hj (Nat.not_lt_zero j), fun j hj => absurd hj (Nat.not_lt_zero j), fun j hj => absurd hj (Nat.not_lt_zero j), rfl, rfl, rfl⟩
  · show Th.at _ _ (if i < 4 then _ else _)
    split
    · trivial
    · split
      · exact Ls.nil _ _ _ _ _ _ _
      · split
        · exact Ls.nil _ _ _ _ _ _ _
        · trivial
  all_goals
    have hb2 : (if i < 4 then Th.non (.pointer none) else if i < 6 then .il true (.slice none 0 0) [] [] else if i = 6 then .fo true (.slice none 0 0) [] [] else .no).foot _ := hb
    exfalso
    split at hb2
    · exact hb2
    · split at hb2
      · rcases hb2 with h | ⟨u, hu, _⟩
        · cases h
        · cases hu
      · split at hb2
        · rcases hb2 with h | ⟨u, hu, _⟩
          · cases h
          · cases hu
        · exact hb2
/-- one more pair of buffers -/
theorem ini_next {w0 w : World} {P i : Nat} {F : Nat → List Int} {T TB : Nat → Th} {G : Nat → Prop} {Q cf R cs : Nat} {pf ps : Option Addr} {vi vw : Value} {f : List Int} (hs : Ini T F i) (ht : ∀ i, i < 7 → TB i = T i) (hp : PS w0 w P (((pcs T).setIfInBounds i (.pointer (some ⟨Q, 0, none⟩))).setIfInBounds (i + 2) (.pointer (some ⟨R, 0, none⟩))) TB G) (e9 : TB 9 = .buf Q pf cf f vi []) (e10 : TB 10 = .ref R ps cs f vw []) (hj : i < 2) (hi : B.isS f = true) : St0 w0 w P (i + 1) := by
  have h1 := (hp.place (i := i) (k := 9) (t := .buf Q pf cf f vi []) (by omega) (by decide) (by omega) e9).place (i := i + 2) (k := 10) (t := .ref R ps cs f vw []) (by omega) (by decide) (by omega) (by rw [put_other _ _ (by decide), put_other _ _ (by omega)]; exact e10)
  obtain ⟨T3, hT3⟩ : ∃ T3, T3 = put (put (put (put TB i (.buf Q pf cf f vi [])) 9 .no) (i + 2) (.ref R ps cs f vw [])) 10 .no := ⟨_, rfl⟩
  rw [← hT3] at h1
  have e1 : T3 i = .buf Q pf cf f vi [] := by rw [hT3, put_other _ _ (by omega), put_other _ _ (by omega), put_other _ _ (by omega), put_same]
  have e2 : T3 (i + 2) = .ref R ps cs f vw [] := by rw [hT3, put_other _ _ (by omega), put_same]
  have e3 : ∀ k, k < 7 → k ≠ i → k ≠ i + 2 → T3 k = T k := fun k hk n1 n2 => by rw [hT3, put_other _ _ (by omega), put_other _ _ n2, put_other _ _ (by omega), put_other _ _ n1]; exact ht k hk
  have hc : pcs T3 = ((pcs T).setIfInBounds i (.pointer (some ⟨Q, 0, none⟩))).setIfInBounds (i + 2) (.pointer (some ⟨R, 0, none⟩)) := by
    rcases (show i = 0 ∨ i = 1 by omega) with rfl | rfl
    · simp only [pcs, e1, e3 1 (by decide) (by decide) (by decide), show T3 2 = .ref R ps cs f vw [] from e2, e3 3 (by decide) (by decide) (by decide), e3 4 (by decide) (by decide) (by decide), e3 5 (by decide) (by decide) (by decide), e3 6 (by decide) (by decide) (by decide)]
      rfl
    · simp only [pcs, e1, e3 0 (by decide) (by decide) (by decide), show T3 3 = .ref R ps cs f vw [] from e2, e3 2 (by decide) (by decide) (by decide), e3 4 (by decide) (by decide) (by decide), e3 5 (by decide) (by decide) (by decide), e3 6 (by decide) (by decide) (by decide)]
      rfl
  refine ⟨T3, G, put F i f, by rw [hc]; exact h1, fun j hj => ?_, fun j hj => ?_, fun j hj => ?_, (e3 4 (by decide) (by omega) (by omega)).trans hs.e4, (e3 5 (by decide) (by omega) (by omega)).trans hs.e5, (e3 6 (by decide) (by omega) (by omega)).trans hs.e6⟩
  · by_cases e : j = i
    · subst e; rw [put_same, ims_nil]; exact ⟨_, _, _, _, e1⟩
    · rw [put_other _ _ e, e3 j (by omega) e (by omega)]; exact hs.buf j (by omega)
  · by_cases e : j = i
    · subst e; rw [put_same]; exact ⟨_, _, _, _, e2⟩
    · rw [put_other _ _ e, e3 (j + 2) (by omega) (by omega) (by omega)]; exact hs.ref j (by omega)
  · by_cases e : j = i
    · subst e; rw [put_same]; exact hi
    · rw [put_other _ _ e]; exact hs.is j (by omega)
theorem St0.start {w0 w : World} {P : Nat} (h : St0 w0 w P 2) : ∃ F, St w0 w P F (fun _ => []) true 0 0 := by
  obtain ⟨T, G, F, hp, hs⟩ := h
  exact ⟨F, T, G, hp, hs.buf, hs.ref, hs.is, fun _ _ => ⟨ImsWf.nil, Nat.zero_le _⟩, ⟨_, _, _, _, _, hs.e4, hs.e5, Nat.zero_le _, fun _ h => (by cases h)⟩, ⟨_, _, _, hs.e6, Nat.zero_le _, fun _ h => (by cases h)⟩⟩
end W
end Go.Proofs.Ythgkdpniaednaaa
