/-
  Layer 17: two caches on both sides, and what was handed out.
-/
import Derived.Test.YthcpnfelnonhnaaDoorSa
namespace Go.Proofs.YthcpnfelnonhnaaDoor
open Go.RowKit

namespace W
def put {α : Type} (f : Nat → α) (i : Nat) (a : α) : Nat → α := fun j => if j = i then a else f j
theorem put_same {α : Type} (f : Nat → α) (i : Nat) (a : α) : put f i a i = a := if_pos rfl
theorem put_other {α : Type} (f : Nat → α) {i j : Nat} (a : α) (h : j ≠ i) : put f i a j = f j := if_neg h
theorem or_id {a b c : Prop} (h : a ∨ b) (f : b → c) : a ∨ c := h.elim .inl fun x => .inr (f x)

/-- rows of rows, each in memory of its own; with fl they are what they were -/
structure Ls {α : Type} (w : World) (fl : Bool) (t e : TypeId) (s : Nat) (n : α → Nat) (c : α → List Value) (v : Value) (us : List Value) (fs : List α) : Prop where
  row : w.ownsRow 0 t 1 v us.length us
  len : fs.length = us.length
  ltu : ∀ u ∈ us, ∀ b, u.ownBlock = some b → b < w.heap.size
  each : fl = true → ∀ (k : Nat) u f, us[k]? = some u → fs[k]? = some f → w.ownsRow 0 e s u (n f) (c f)
  sep : us.Pairwise fun u u' => ∀ g, u.ownBlock = some g → u'.ownBlock ≠ some g
/-- where they lie -/
def LFt (v : Value) (us : List Value) (b : Nat) : Prop := v.ownBlock = some b ∨ ∃ u ∈ us, u.ownBlock = some b
section
variable {α : Type} {w w' : World} {fl : Bool} {t e : TypeId} {s : Nat} {n : α → Nat} {c : α → List Value} {v v' : Value} {us : List Value} {fs : List α}
theorem Ls.lt (h : Ls w fl t e s n c v us fs) {b : Nat} (hb : LFt v us b) : b < w.heap.size := by
  rcases hb with hb | ⟨u, hu, hb⟩
  · exact (h.row.lt b hb).2
  · exact h.ltu u hu b hb
theorem Ls.kept {S : Nat → Prop} (h : Ls w fl t e s n c v us fs) (hk : Kept S w w') (hS : ∀ b, LFt v us b → ¬ S b) : Ls w' fl t e s n c v us fs :=
  ⟨O.own_far h.row hk fun g hg => hS g (.inl hg), h.len, fun u hu b hb => Nat.lt_of_lt_of_le (h.ltu u hu b hb) hk.size, fun hfl k u f hu hf => O.own_far (h.each hfl k u f hu hf) hk fun g hg => hS g (.inr ⟨u, List.mem_of_getElem? hu, hg⟩), h.sep⟩
/-- one more -/
theorem Ls.app {S : Nat → Prop} {u : Value} {f : α} (h : Ls w fl t e s n c v us fs) (hk : Kept S w w') (hS : ∀ b, (fl = true ∧ ∃ u ∈ us, u.ownBlock = some b) ∨ u.ownBlock = some b → ¬ S b) (hr : w'.ownsRow 0 t 1 v' (us.length + 1) (us ++ [u])) (hu : w.ownsRow 0 e s u (n f) (c f)) (hsep : ∀ x ∈ us, ∀ g, x.ownBlock = some g → u.ownBlock ≠ some g) : Ls w' fl t e s n c v' (us ++ [u]) (fs ++ [f]) := by
  refine ⟨by rw [List.length_append, List.length_singleton]; exact hr, by simp [h.len], fun x hx b hb => ?_, fun hfl k x y hx hy => ?_, ?_⟩
  · rcases List.mem_append.1 hx with hx | hx
    · exact Nat.lt_of_lt_of_le (h.ltu x hx b hb) hk.size
    · rw [List.mem_singleton.1 hx] at hb
      exact Nat.lt_of_lt_of_le (hu.lt b hb).2 hk.size
  · rcases Nat.lt_or_ge k us.length with a | a
    · rw [List.getElem?_append_left a] at hx
      rw [List.getElem?_append_left (by rw [h.len]; exact a)] at hy
      exact O.own_far (h.each hfl k x y hx hy) hk fun g hg => hS g (.inl ⟨hfl, x, List.mem_of_getElem? hx, hg⟩)
    · rw [List.getElem?_append_right a] at hx
      rw [List.getElem?_append_right (by rw [h.len]; exact a), h.len] at hy
      have hk0 : k - us.length = 0 := by
        have := (List.getElem?_eq_some_iff.1 hx).1
        simp at this
        omega
      rw [hk0] at hx hy
      cases hx
      cases hy
      exact O.own_far hu hk fun g hg => hS g (.inr hg)
  · exact List.pairwise_append.2 ⟨h.sep, List.pairwise_singleton _ _, fun x hx y hy g hg => by rw [List.mem_singleton.1 hy]; exact hsep x hx g hg⟩
theorem Ls.nil (w : World) (fl : Bool) (t e : TypeId) (s : Nat) (n : α → Nat) (c : α → List Value) : Ls w fl t e s n c (.slice none 0 0) [] [] := ⟨World.ownsRow_nil _ _ _ _, rfl, fun _ h => (by cases h), fun _ k u f hu => (by cases hu), List.Pairwise.nil⟩
end

/-- something that stands in memory of its own: how it lies, where, its value -/
structure Th where
  at' : World → (Nat → Prop) → Prop
  foot : Nat → Prop
  val : Value
  lt' : ∀ w G b, at' w G → foot b → b < w.heap.size
  kept' : ∀ w w' G G' S, at' w G → Kept S w w' → (∀ b, foot b → ¬ S b) → (∀ g, G g → ¬ S g) → (∀ g, G g → G' g) → at' w' G'
def Th.at (w : World) (G : Nat → Prop) (t : Th) : Prop := t.at' w G
def Th.non (v : Value) : Th := ⟨fun _ _ => True, fun _ => False, v, fun _ _ _ _ h => h.elim, fun _ _ _ _ _ _ _ _ _ _ => trivial⟩
abbrev Th.no : Th := .non undef
def qp (Q : Nat) : Value := .pointer (some ⟨Q, 0, none⟩)
/-- integers' cells -/
abbrev I6 (l : List Int) : List Value := l.map (.int .i64)
def Th.cac (Q : Nat) (n : Int) (v : Value) (L : List En) (nx : Int) : Th := ⟨fun w _ => CAt w Q n v L nx, fun b => b = Q ∨ v.ownBlock = some b, qp Q,
  fun _ _ b h hb => hb.elim (fun e => e ▸ h.lt) (fun e => (h.row.lt b e).2), fun _ _ _ _ _ h hk hf _ _ => h.far hk (hf _ (.inl rfl)) (fun g hg => hf g (.inr hg))⟩
def Th.ref (Q : Nat) (n : Int) (v : Value) (L : List En) (s : Bool) (p : Int) : Th := ⟨fun w _ => RAt w Q n v L s p, fun b => b = Q ∨ v.ownBlock = some b, qp Q,
  fun _ _ b h hb => hb.elim (fun e => e ▸ h.lt) (fun e => (h.row.lt b e).2), fun _ _ _ _ _ h hk hf _ _ => h.far hk (hf _ (.inl rfl)) (fun g hg => hf g (.inr hg))⟩
/-- a row of one-celled elements -/
def Th.row (t : TypeId) (v : Value) (xs : List Value) : Th := ⟨fun w _ => w.ownsRow 0 t 1 v xs.length xs, fun b => v.ownBlock = some b, v, fun _ _ b h hb => (World.ownsRow.lt h b hb).2, fun _ _ _ _ _ h hk hf _ _ => O.own_far h hk hf⟩
/-- the sequences that were handed out: each with its box, which nobody writes, and the cache in it -/
def Th.sq (v : Value) (bs : List (Nat × Nat)) : Th := ⟨fun w G => w.ownsRow 0 83 1 v bs.length (bs.map fun b => seqV b.1) ∧ ∀ b ∈ bs, G b.1 ∧ Boxed w b.1 24 (qp b.2), fun b => v.ownBlock = some b, v, fun _ _ b h hb => (World.ownsRow.lt h.1 b hb).2,
  fun _ _ _ _ _ h hk hf hS hGG => ⟨O.own_far h.1 hk hf, fun b hb => ⟨hGG _ (h.2 b hb).1, (hk.block b.1 (h.2 b hb).2.lt (hS _ (h.2 b hb).1)).trans (h.2 b hb).2⟩⟩⟩
def Th.ls {α : Type} (fl : Bool) (t e : TypeId) (s : Nat) (n : α → Nat) (c : α → List Value) (v : Value) (us : List Value) (fs : List α) : Th := ⟨fun w _ => Ls w fl t e s n c v us fs, LFt v us, v, fun _ _ _ h hb => Ls.lt h hb, fun _ _ _ _ _ h hk hf _ _ => Ls.kept h hk hf⟩
def Th.el {α : Type} (e : TypeId) (s : Nat) (n : α → Nat) (c : α → List Value) (u : Value) (f : α) : Th := ⟨fun w _ => w.ownsRow 0 e s u (n f) (c f), fun b => u.ownBlock = some b, undef, fun _ _ b h hb => (World.ownsRow.lt h b hb).2, fun _ _ _ _ _ h hk hf _ _ => O.own_far h hk hf⟩
theorem one_kept {w w' : World} {S : Nat → Prop} {t : TypeId} {B : Nat} {u : Value} (h : w.heap[B]? = some (.cells #[u] t (0, 0))) (hk : Kept S w w') (hf : ∀ b, b = B → ¬ S b) : w'.heap[B]? = some (.cells #[u] t (0, 0)) := (hk.block B (Array.getElem?_eq_some_iff.1 h).1 (hf B rfl)).trans h
theorem one_lt {w : World} {B b : Nat} {t : TypeId} {u : Value} (h : w.heap[B]? = some (.cells #[u] t (0, 0))) (hb : b = B) : b < w.heap.size := by
  rw [hb]
  exact (Array.getElem?_eq_some_iff.1 h).1
def Th.one (t : TypeId) (B : Nat) (u : Value) : Th := ⟨fun w _ => w.heap[B]? = some (.cells #[u] t (0, 0)), fun b => b = B, undef, fun _ _ _ h hb => one_lt h hb, fun _ _ _ _ _ h hk hf _ _ => one_kept h hk hf⟩
variable {w0 w w' : World} {G G' : Nat → Prop}
theorem Th.lt {t : Th} (h : t.at w G) {b : Nat} (hb : t.foot b) : b < w.heap.size := t.lt' w G b h hb
theorem Th.kept {t : Th} {S : Nat → Prop} (h : t.at w G) (hk : Kept S w w') (hf : ∀ b, t.foot b → ¬ S b) (hS : ∀ g, G g → ¬ S g) (hGG : ∀ g, G g → G' g) : t.at w' G' := t.kept' w w' G G' S h hk hf hS hGG

/-- fourteen of them, each in memory of its own, made since w0; and what is never written again -/
structure Fam (w0 w : World) (T : Nat → Th) (G : Nat → Prop) : Prop where
  at' : ∀ i, i < 15 → (T i).at w G
  lo : ∀ i, i < 15 → ∀ b, (T i).foot b → w0.heap.size ≤ b
  apart : ∀ i j, i < 15 → j < 15 → i ≠ j → ∀ b, (T i).foot b → ¬ (T j).foot b
  im : ∀ i, i < 15 → ∀ b, (T i).foot b → ¬ G b
  glt : ∀ g, G g → g < w.heap.size
variable {P : Nat} {cs : Array Value} {T : Nat → Th}
theorem Fam.far {S : Nat → Prop} (h : Fam w0 w T G) (hk : Kept S w w') (hf : ∀ i, i < 15 → ∀ b, (T i).foot b → ¬ S b) (hS : ∀ g, G g → ¬ S g) : Fam w0 w' T G :=
  ⟨fun i hi => Th.kept (h.at' i hi) hk (hf i hi) hS (fun _ hg => hg), h.lo, h.apart, h.im, fun g hg => Nat.lt_of_lt_of_le (h.glt g hg) hk.size⟩
theorem Fam.later (h : Fam w0 w T G) (hb : Below w.heap.size w w') : Fam w0 w' T G := h.far (Kept.of_below (fun _ => False) hb) (fun _ _ _ _ e => e) (fun _ _ e => e)
/-- one of them has turned; it may have taken another's memory -/
theorem Fam.move (h : Fam w0 w T G) {i k : Nat} (hi : i < 15) (hik : i ≠ k) {t : Th} {S : Nat → Prop} (ht : t.at w' G') (hk : Kept S w w') (hS : ∀ b, S b → (T i).foot b) (hf : ∀ b, t.foot b → (T i).foot b ∨ w.heap.size ≤ b ∨ (k < 15 ∧ (T k).foot b)) (hw : w0.heap.size ≤ w.heap.size) (hG : ∀ g, G g → G' g) (hG2 : ∀ g, G' g → G g ∨ (w.heap.size ≤ g ∧ g < w'.heap.size ∧ ¬ t.foot g)) : Fam w0 w' (put (put T i t) k .no) G' := by
  have hGS : ∀ g, G g → ¬ S g := fun g hg hs => h.im i hi g (hS g hs) hg
  have hnew : ∀ j, j < 15 → ∀ b, (T j).foot b → b < w.heap.size := fun j hj b hb => Th.lt (h.at' j hj) hb
  have hap : ∀ j, j < 15 → j ≠ i → j ≠ k → ∀ b, t.foot b → ¬ (T j).foot b := fun j hj hji hjk b hb e => by
    rcases hf b hb with h1 | h1 | ⟨h1, h2⟩
    · exact h.apart j i hj hi hji b e h1
    · have := hnew j hj b e; omega
    · exact h.apart j k hj h1 hjk b e h2
  refine ⟨fun j hj => ?_, fun j hj b hb => ?_, fun x y hx hy hne b hb => ?_, fun j hj b hb hg => ?_, fun g hg => ?_⟩
  · by_cases e : j = k
    · subst e; rw [put_same]; trivial
    · rw [put_other _ _ e]
      by_cases e2 : j = i
      · subst e2; rw [put_same]; exact ht
      · rw [put_other _ _ e2]
        exact Th.kept (h.at' j hj) hk (fun b hb hs => h.apart j i hj hi e2 b hb (hS b hs)) hGS hG
  · by_cases e : j = k
    · subst e; rw [put_same] at hb; exact hb.elim
    · rw [put_other _ _ e] at hb
      by_cases e2 : j = i
      · subst e2
        rw [put_same] at hb
        rcases hf b hb with h1 | h1 | ⟨h1, h2⟩
        · exact h.lo j hj b h1
        · omega
        · exact h.lo k h1 b h2
      · rw [put_other _ _ e2] at hb; exact h.lo j hj b hb
  · by_cases e : x = k
    · subst e; rw [put_same] at hb; exact hb.elim
    · by_cases e' : y = k
      · subst e'; rw [put_same]; exact fun h => h
      · rw [put_other _ _ e] at hb
        rw [put_other _ _ e']
        by_cases e2 : x = i
        · subst e2
          rw [put_same] at hb
          rw [put_other _ _ (Ne.symm hne)]
          exact hap y hy (Ne.symm hne) e' b hb
        · rw [put_other _ _ e2] at hb
          by_cases e3 : y = i
          · subst e3
            rw [put_same]
            exact fun h2 => hap x hx e2 e b h2 hb
          · rw [put_other _ _ e3]
            exact h.apart x y hx hy hne b hb
  · by_cases e : j = k
    · subst e; rw [put_same] at hb; exact hb.elim
    · rw [put_other _ _ e] at hb
      by_cases e2 : j = i
      · subst e2
        rw [put_same] at hb
        rcases hG2 b hg with h1 | ⟨_, _, h1⟩
        · rcases hf b hb with h2 | h2 | ⟨h2, h3⟩
          · exact h.im j hj b h2 h1
          · have := h.glt b h1; omega
          · exact h.im k h2 b h3 h1
        · exact h1 hb
      · rw [put_other _ _ e2] at hb
        rcases hG2 b hg with h1 | ⟨h1, _⟩
        · exact h.im j hj b hb h1
        · have := hnew j hj b hb; omega
  · rcases hG2 g hg with h1 | ⟨_, h1, _⟩
    · exact Nat.lt_of_lt_of_le (h.glt g h1) hk.size
    · exact h1
theorem put_no {i : Nat} {t : Th} (hi : i < 15) : put (put T i t) 15 .no i = t := by rw [put_other _ _ (by omega), put_same]
/-- what is beyond the fourteen does not matter -/
theorem Fam.congr {T' : Nat → Th} (h : Fam w0 w T G) (he : ∀ i, i < 15 → T' i = T i) : Fam w0 w T' G :=
  ⟨fun i hi => by rw [he i hi]; exact h.at' i hi, fun i hi => by rw [he i hi]; exact h.lo i hi, fun i j hi hj => by rw [he i hi, he j hj]; exact h.apart i j hi hj, fun i hi => by rw [he i hi]; exact h.im i hi, h.glt⟩
theorem Fam.turn (h : Fam w0 w T G) {i : Nat} (hi : i < 15) {t : Th} {S : Nat → Prop} (ht : t.at w' G') (hk : Kept S w w') (hS : ∀ b, S b → (T i).foot b) (hf : ∀ b, t.foot b → (T i).foot b ∨ w.heap.size ≤ b) (hw : w0.heap.size ≤ w.heap.size) (hG : ∀ g, G g → G' g) (hG2 : ∀ g, G' g → G g ∨ (w.heap.size ≤ g ∧ g < w'.heap.size ∧ ¬ t.foot g)) : Fam w0 w' (put T i t) G' :=
  (h.move (k := 15) hi (by omega) ht hk hS (fun b hb => or_id (hf b hb) fun e => .inl e) hw hG hG2).congr fun j hj => by rw [put_other (put T i t) _ (by omega)]
/-- one more, in memory that nobody has -/
theorem Fam.add (h : Fam w0 w T G) {k : Nat} {u : Th} (hu : u.at w G) (hf : ∀ b, u.foot b → w0.heap.size ≤ b ∧ ¬ G b ∧ ∀ j, j < 15 → j ≠ k → ¬ (T j).foot b) : Fam w0 w (put T k u) G := by
  refine ⟨fun j hj => ?_, fun j hj b hb => ?_, fun x y hx hy hne b hb => ?_, fun j hj b hb => ?_, h.glt⟩
  · by_cases e : j = k
    · subst e; rw [put_same]; exact hu
    · rw [put_other _ _ e]; exact h.at' j hj
  · by_cases e : j = k
    · subst e; rw [put_same] at hb; exact (hf b hb).1
    · rw [put_other _ _ e] at hb; exact h.lo j hj b hb
  · by_cases e : x = k
    · subst e
      rw [put_same] at hb
      rw [put_other _ _ (Ne.symm hne)]
      exact (hf b hb).2.2 y hy (Ne.symm hne)
    · rw [put_other _ _ e] at hb
      by_cases e2 : y = k
      · subst e2
        rw [put_same]
        exact fun h2 => (hf b h2).2.2 x hx e hb
      · rw [put_other _ _ e2]; exact h.apart x y hx hy hne b hb
  · by_cases e : j = k
    · subst e; rw [put_same] at hb; exact (hf b hb).2.1
    · rw [put_other _ _ e] at hb; exact h.im j hj b hb
theorem Fam.drop (h : Fam w0 w T G) (k : Nat) : Fam w0 w (put T k .no) G := h.add trivial fun _ hb => hb.elim
theorem Fam.new (h : Fam w0 w T G) {k : Nat} {u : Th} {s : Nat} (hu : u.at w G) (hf : ∀ b, u.foot b → s ≤ b) (hw : w0.heap.size ≤ s) (hs : ∀ b, s ≤ b → ¬ G b ∧ ∀ j, j < 15 → j ≠ k → ¬ (T j).foot b) : Fam w0 w (put T k u) G := h.add hu fun b hb => ⟨Nat.le_trans hw (hf b hb), hs b (hf b hb)⟩


/-- the pair's cells -/
abbrev pcs (T : Nat → Th) (g : Nat → Int) : Array Value := #[(T 0).val, (T 1).val, (T 2).val, (T 3).val, (T 4).val, (T 5).val, (T 6).val, (T 7).val, .int .i64 (g 0), .int .i64 (g 1), (T 8).val]
structure PS (w0 w : World) (P : Nat) (cs : Array Value) (T : Nat → Th) (G : Nat → Prop) : Prop where
  fam : Fam w0 w T G
  pr : w.heap[P]? = some (.cells cs 42 (0, 0))
  plo : w0.heap.size ≤ P
  pf : ∀ i, i < 15 → ¬ (T i).foot P
  pg : ¬ G P
  below : Below w0.heap.size w0 w
theorem PS.plt (h : PS w0 w P cs T G) : P < w.heap.size := (Array.getElem?_eq_some_iff.1 h.pr).1
theorem PS.later (h : PS w0 w P cs T G) (hb : Below w.heap.size w w') : PS w0 w' P cs T G := ⟨h.fam.later hb, (hb.block P h.plt).trans h.pr, h.plo, h.pf, h.pg, below_then h.below hb⟩
theorem PS.move (h : PS w0 w P cs T G) {i k : Nat} (hi : i < 15) (hik : i ≠ k) {t : Th} {S : Nat → Prop} (ht : t.at w' G') (hk : Kept S w w') (hS : ∀ b, S b → (T i).foot b) (hf : ∀ b, t.foot b → (T i).foot b ∨ w.heap.size ≤ b ∨ (k < 15 ∧ (T k).foot b)) (hG : ∀ g, G g → G' g) (hG2 : ∀ g, G' g → G g ∨ (w.heap.size ≤ g ∧ g < w'.heap.size ∧ ¬ t.foot g)) : PS w0 w' P cs (put (put T i t) k .no) G' := by
  have hlt := h.plt
  refine ⟨h.fam.move hi hik ht hk hS hf h.below.size hG hG2, (hk.block P hlt fun hs => h.pf i hi (hS P hs)).trans h.pr, h.plo, fun j hj hb => ?_, fun hg => ?_, hk.into h.below (fun b hb hs => by have := h.fam.lo i hi b (hS b hs); omega) (Nat.le_refl _)⟩
  · by_cases e0 : j = k
    · subst e0; rw [put_same] at hb; exact hb
    · rw [put_other _ _ e0] at hb
      by_cases e : j = i
      · subst e
        rw [put_same] at hb
        rcases hf P hb with h1 | h1 | ⟨h1, h2⟩
        · exact h.pf j hj h1
        · omega
        · exact h.pf k h1 h2
      · rw [put_other _ _ e] at hb; exact h.pf j hj hb
  · rcases hG2 P hg with h1 | ⟨h1, _⟩
    · exact h.pg h1
    · omega
theorem PS.congr {T' : Nat → Th} (h : PS w0 w P cs T G) (he : ∀ i, i < 15 → T' i = T i) : PS w0 w P cs T' G := ⟨h.fam.congr he, h.pr, h.plo, fun i hi => by rw [he i hi]; exact h.pf i hi, h.pg, h.below⟩
theorem PS.turn (h : PS w0 w P cs T G) {i : Nat} (hi : i < 15) {t : Th} {S : Nat → Prop} (ht : t.at w' G') (hk : Kept S w w') (hS : ∀ b, S b → (T i).foot b) (hf : ∀ b, t.foot b → (T i).foot b ∨ w.heap.size ≤ b) (hG : ∀ g, G g → G' g) (hG2 : ∀ g, G' g → G g ∨ (w.heap.size ≤ g ∧ g < w'.heap.size ∧ ¬ t.foot g)) : PS w0 w' P cs (put T i t) G' :=
  (h.move (k := 15) hi (by omega) ht hk hS (fun b hb => or_id (hf b hb) fun e => .inl e) hG hG2).congr fun j hj => by rw [put_other (put T i t) _ (by omega)]
theorem PS.add (h : PS w0 w P cs T G) {k : Nat} {u : Th} (hu : u.at w G) (hf : ∀ b, u.foot b → w0.heap.size ≤ b ∧ ¬ G b ∧ b ≠ P ∧ ∀ j, j < 15 → j ≠ k → ¬ (T j).foot b) : PS w0 w P cs (put T k u) G := by
  refine ⟨h.fam.add hu fun b hb => ⟨(hf b hb).1, (hf b hb).2.1, (hf b hb).2.2.2⟩, h.pr, h.plo, fun j hj hb => ?_, h.pg, h.below⟩
  by_cases e : j = k
  · subst e; rw [put_same] at hb; exact (hf P hb).2.2.1 rfl
  · rw [put_other _ _ e] at hb; exact h.pf j hj hb
/-- something made since we, which nobody has -/
theorem PS.fresh {we : World} (h : PS w0 we P cs T G) (hb : Below we.heap.size we w) (k : Nat) {u : Th} (hu : u.at w G) (hf : ∀ b, u.foot b → we.heap.size ≤ b) : PS w0 w P cs (put T k u) G :=
  (h.later hb).add hu fun b hb2 => by
    have hb2 := hf b hb2
    refine ⟨Nat.le_trans h.below.size hb2, fun hg => ?_, fun e => ?_, fun j hj _ hx => ?_⟩
    · have := h.fam.glt b hg; omega
    · have := h.plt; omega
    · have := Th.lt (h.fam.at' j hj) hx; omega
/-- more that nobody writes again -/
theorem PS.still {G2 : Nat → Prop} (h : PS w0 w P cs T G) (hG : ∀ g, G g → G2 g) (hl : ∀ g, G2 g → g < w.heap.size) (hn : ∀ g, G2 g → ¬ G g → g ≠ P ∧ ∀ j, j < 15 → ¬ (T j).foot g) : PS w0 w P cs T G2 := by
  refine ⟨⟨fun i hi => Th.kept (h.fam.at' i hi) (Kept.refl (fun _ => False) w) (fun _ _ e => e) (fun _ _ e => e) hG, h.fam.lo, h.fam.apart, fun i hi b hb hg => ?_, hl⟩, h.pr, h.plo, h.pf, fun hg => ?_, h.below⟩
  · by_cases e : G b
    · exact h.fam.im i hi b hb e
    · exact (hn b hg e).2 i hi hb
  · by_cases e : G P
    · exact h.pg e
    · exact (hn P hg e).1 rfl
theorem PS.cell (h : PS w0 w P cs T G) {j : Nat} {v : Value} (hj : cs[j]? = some v) : w.cell? ⟨P, j, none⟩ = some v := by
  rw [cell_of_row _ P j _ 42 (0, 0) h.pr]; exact hj
theorem PS.free (h : PS w0 w P cs T G) (o : Nat) : w.frozen? ⟨P, o, none⟩ = false := by simp [World.frozen?, h.pr]
theorem PS.store (h : PS w0 w P cs T G) (k : Nat) (v : Value) : PS w0 (w.setCell ⟨P, k, none⟩ v) P (cs.setIfInBounds k v) T G := by
  have hk := Kept.setCell (w := w) P k v
  refine ⟨h.fam.far hk (fun i hi b hb e => ?_) (fun g hg e => ?_), ?_, h.plo, h.pf, h.pg, hk.into h.below (fun b hb e => ?_) (Nat.le_refl _)⟩
  · subst e; exact h.pf i hi hb
  · subst e; exact h.pg hg
  · rw [setCell_eq_setRow w P k _ 42 (0, 0) v h.pr]
    exact setRow_heap w P _ _ 42 _ h.pr
  · subst e; have := h.plo; omega
/-- one more list, that lay loose -/
theorem PS.app {α : Type} {fl : Bool} {t e tt : TypeId} {s bytes : Nat} {n : α → Nat} {c : α → List Value} {v u : Value} {us : List Value} {fs : List α} {f : α} {i k o B : Nat} (E : O.ElT tt t 1 bytes) (h : PS w0 w P cs T G) (hi : i < 15) (hk : k < 15) (ho : o < 15) (hik : i ≠ k) (ei : T i = .ls fl t e s n c v us fs) (ek : T k = .el e s n c u f) (eo : T o = .one t B u) (hl : us.length + 1 ≤ 10000) (h1 : u.oneCell' = true) (hte : t ≠ e) :
    ∃ v' w', (Builtin.append_ #[tt, tt] tt #[v, .slice (some ⟨B, 0, none⟩) 1 1]).run Tryd.prog w = .ok v' w' ∧ (∃ p' c', v' = .slice p' (us.length + 1) c') ∧ PS w0 w' P cs (put (put T i (.ls fl t e s n c v' (us ++ [u]) (fs ++ [f]))) k .no) G := by
  have hL : Ls w fl t e s n c v us fs := by have := h.fam.at' i hi; rw [ei] at this; exact this
  have hE : w.ownsRow 0 e s u (n f) (c f) := by have := h.fam.at' k hk; rw [ek] at this; exact this
  have hO : w.heap[B]? = some (.cells #[u] t (0, 0)) := by have := h.fam.at' o ho; rw [eo] at this; exact this
  have hrow : w.ownsRow 0 t 1 (.slice (some ⟨B, 0, none⟩) 1 1) 1 [u] := ⟨rfl, .inr ⟨B, 1, #[u], rfl, Nat.zero_le _, hO, Nat.le_refl _, by decide, rfl, by simp⟩⟩
  obtain ⟨v', w', hr, hown, hkk, hv⟩ := O.run_own_any E hL.row tt hrow (O.one_one h1) hl (Nat.zero_le _)
  have hfi : ∀ b, LFt v us b → (T i).foot b := fun b hb => by rw [ei]; exact hb
  have hfk : ∀ b, u.ownBlock = some b → (T k).foot b := fun b hb => by rw [ek]; exact hb
  refine ⟨v', w', hr, O.own_shape hown, h.move hi hik (G' := G) (S := fun b => v.ownBlock = some b) ?_ hkk (fun b hb => hfi b (.inl hb)) (fun b hb => ?_) (fun _ hg => hg) (fun _ hg => .inl hg)⟩
  · refine hL.app hkk (fun b hb hs => ?_) hown hE (fun x hx g hg hu => ?_)
    · rcases hb with ⟨hfl, x, hx, hb⟩ | hb
      · obtain ⟨j, hj⟩ := List.getElem?_of_mem hx
        have hjl := (List.getElem?_eq_some_iff.1 hj).1
        have hf : fs[j]? = some (fs[j]'(by rw [hL.len]; exact hjl)) := List.getElem?_eq_getElem _
        exact O.own_ne hL.row (hL.each hfl j x _ hj hf) hte hs hb
      · exact h.fam.apart i k hi hk hik b (hfi b (.inl hs)) (hfk b hb)
    · exact h.fam.apart i k hi hk hik g (hfi g (.inr ⟨x, hx, hg⟩)) (hfk g hu)
  · rcases hb with hb | ⟨x, hx, hb⟩
    · rcases hv with hv | hv
      · exact .inl (hfi b (.inl (hv ▸ hb)))
      · rw [hv] at hb; cases hb; exact .inr (.inl (Nat.le_refl _))
    · rcases List.mem_append.1 hx with hx | hx
      · exact .inl (hfi b (.inr ⟨x, hx, hb⟩))
      · rw [List.mem_singleton.1 hx] at hb; exact .inr (.inr ⟨hk, hfk b hb⟩)
theorem put_idem {α : Type} (f : Nat → α) (i : Nat) {x : α} (h : f i = x) : put f i x = f := funext fun j => by
  by_cases e : j = i
  · subst e; rw [put_same, h]
  · rw [put_other _ _ e]
theorem put_put {α : Type} (f : Nat → α) (i : Nat) (x y : α) : put (put f i x) i y = put f i y := funext fun j => by
  by_cases e : j = i
  · subst e; rw [put_same, put_same]
  · rw [put_other _ _ e, put_other _ _ e, put_other _ _ e]
theorem put_comm {α : Type} (f : Nat → α) {i k : Nat} (x y : α) (h : i ≠ k) : put (put f i x) k y = put (put f k y) i x := funext fun j => by
  by_cases e : j = k
  · subst e; rw [put_same, put_other _ _ (Ne.symm h), put_same]
  · rw [put_other _ _ e]
    by_cases e2 : j = i
    · subst e2; rw [put_same, put_same]
    · rw [put_other _ _ e2, put_other _ _ e2, put_other _ _ e]
/-- one more in a row of one-celled elements -/
theorem PS.appR {t tt : TypeId} {bytes : Nat} {v u : Value} {xs : List Value} {i B : Nat} (E : O.ElT tt t 1 bytes) (h : PS w0 w P cs T G) (hi : i < 15) (ei : T i = .row t v xs) (hO : w.heap[B]? = some (.cells #[u] t (0, 0))) (hl : xs.length + 1 ≤ 10000) (h1 : u.oneCell' = true) :
    ∃ v' w', (Builtin.append_ #[tt, tt] tt #[v, .slice (some ⟨B, 0, none⟩) 1 1]).run Tryd.prog w = .ok v' w' ∧ (∃ p' c', v' = .slice p' (xs.length + 1) c') ∧ PS w0 w' P cs (put T i (.row t v' (xs ++ [u]))) G := by
  have hL : w.ownsRow 0 t 1 v xs.length xs := by have := h.fam.at' i hi; rw [ei] at this; exact this
  have hrow : w.ownsRow 0 t 1 (.slice (some ⟨B, 0, none⟩) 1 1) 1 [u] := ⟨rfl, .inr ⟨B, 1, #[u], rfl, Nat.zero_le _, hO, Nat.le_refl _, by decide, rfl, by simp⟩⟩
  obtain ⟨v', w', hr, hown, hkk, hv⟩ := O.run_own_any E hL tt hrow (O.one_one h1) hl (Nat.zero_le _)
  refine ⟨v', w', hr, O.own_shape hown, h.turn hi (G' := G) (S := fun b => v.ownBlock = some b) ?_ hkk (fun b hb => by rw [ei]; exact hb) (fun b hb => ?_) (fun _ hg => hg) (fun _ hg => .inl hg)⟩
  · show World.ownsRow _ _ _ _ _ _ _
    rw [List.length_append, List.length_singleton]; exact hown
  · rcases hv with hv | hv
    · exact .inl (by rw [ei]; exact hv.symm.trans hb)
    · have hb2 : v'.ownBlock = some b := hb
      rw [hv] at hb2; cases hb2; exact .inr (Nat.le_refl _)
/-- one more sequence -/
theorem PS.appQ {tt : TypeId} {bytes : Nat} {v : Value} {bs : List (Nat × Nat)} {i B X Q : Nat} (E : O.ElT tt 83 1 bytes) (h : PS w0 w P cs T G) (hi : i < 15) (ei : T i = .sq v bs) (hO : w.heap[B]? = some (.cells #[seqV X] 83 (0, 0))) (hX : G X) (hB : Boxed w X 24 (qp Q)) (hl : bs.length + 1 ≤ 10000) :
    ∃ v' w', (Builtin.append_ #[tt, tt] tt #[v, .slice (some ⟨B, 0, none⟩) 1 1]).run Tryd.prog w = .ok v' w' ∧ (∃ p' c', v' = .slice p' (bs.length + 1) c') ∧ PS w0 w' P cs (put T i (.sq v' (bs ++ [(X, Q)]))) G := by
  have hL : w.ownsRow 0 83 1 v bs.length (bs.map fun b => seqV b.1) ∧ ∀ b ∈ bs, G b.1 ∧ Boxed w b.1 24 (qp b.2) := by have := h.fam.at' i hi; rw [ei] at this; exact this
  have hrow : w.ownsRow 0 83 1 (.slice (some ⟨B, 0, none⟩) 1 1) 1 [seqV X] := ⟨rfl, .inr ⟨B, 1, #[seqV X], rfl, Nat.zero_le _, hO, Nat.le_refl _, by decide, rfl, by simp⟩⟩
  obtain ⟨v', w', hr, hown, hkk, hv⟩ := O.run_own_any E hL.1 tt hrow (O.one_one rfl) hl (Nat.zero_le _)
  have hGv : ∀ g, G g → ¬ v.ownBlock = some g := fun g hg e => h.fam.im i hi g (by rw [ei]; exact e) hg
  refine ⟨v', w', hr, O.own_shape hown, h.turn hi (G' := G) (S := fun b => v.ownBlock = some b) ⟨?_, fun b hb => ?_⟩ hkk (fun b hb => by rw [ei]; exact hb) (fun b hb => ?_) (fun _ hg => hg) (fun _ hg => .inl hg)⟩
  · show World.ownsRow _ _ _ _ _ _ _
    rw [List.length_append, List.length_singleton, List.map_append]; exact hown
  · rcases List.mem_append.1 hb with hb | hb
    · exact ⟨(hL.2 b hb).1, (hkk.block b.1 (hL.2 b hb).2.lt (hGv _ (hL.2 b hb).1)).trans (hL.2 b hb).2⟩
    · rw [List.mem_singleton.1 hb]
      exact ⟨hX, (hkk.block X hB.lt (hGv _ hX)).trans hB⟩
  · rcases hv with hv | hv
    · exact .inl (by rw [ei]; exact hv.symm.trans hb)
    · have hb2 : v'.ownBlock = some b := hb
      rw [hv] at hb2; cases hb2; exact .inr (Nat.le_refl _)
/-- which is which -/
structure Sh (T : Nat → Th) (n : Int) (L : Nat → List En) (s : Nat → Bool) (p : Nat → Int) (g : Nat → Int) (a : Nat) : Prop where
  ok : ∀ j, j < 2 → Okc n (L j) (nxR (s j) (p j)) ∧ (0 ≤ p j ∧ p j ≤ 4611686018427387904) ∧ (s j = false → p j = 0)
  gen : ∀ j, j < 2 → 0 ≤ g j ∧ g j ≤ a
  ref : ∀ j, j < 2 → ∃ R v, T (j + 2) = .ref R n v (L j) (s j) (p j)
  ls : ∃ v4 us4 v5 us5 ls, T 4 = .ls true 60 57 34 (fun l : List En => l.length) EC v4 us4 ls ∧ T 5 = .ls true 46 75 34 (fun l : List En => l.length) EC v5 us5 ls ∧ ls.length ≤ a ∧ ∀ l ∈ ls, l.length ≤ 64 ∧ EnsWf l
  cs : ∃ (Q : Nat → Nat) (v : Nat → Value) (v6 v7 v8 : Value) (bs : List (Nat × Nat)) (os rs : List Int), (∀ j, j < 2 → T j = .cac (Q j) n (v j) (L j) (nxR (s j) (p j))) ∧ T 6 = .sq v6 bs ∧ T 7 = .row 3 v7 (I6 os) ∧ T 8 = .row 3 v8 (I6 rs) ∧ os.length = bs.length ∧ rs.length = bs.length ∧ bs.length ≤ a ∧
    ∀ k, k < bs.length → ∃ j : Nat, j < 2 ∧ os[k]? = some (j : Int) ∧ ∃ r, rs[k]? = some r ∧ r ≤ g j ∧ -9000 ≤ r ∧ (r = g j → (bs[k]?).map (·.2) = some (Q j))
/-- what stands between two calls -/
def St (w0 w : World) (P : Nat) (n : Int) (a : Nat) : Prop := ∃ T G L s p g, PS w0 w P (pcs T g) T G ∧ Sh T n L s p g a
theorem St.later {n : Int} {a : Nat} (h : St w0 w P n a) (hb : Below w.heap.size w w') : St w0 w' P n a := by
  obtain ⟨T, G, L, s, p, g, h, hs⟩ := h
  exact ⟨T, G, L, s, p, g, h.later hb, hs⟩
theorem St.below {n : Int} {a : Nat} (h : St w0 w P n a) : Below w0.heap.size w0 w := by
  obtain ⟨T, G, L, s, p, g, h, hs⟩ := h
  exact h.below
theorem pcs_get {g : Nat → Int} {j : Nat} (hj : j < 8) : (pcs T g)[j]? = some (T j).val := by
  rcases (show j = 0 ∨ j = 1 ∨ j = 2 ∨ j = 3 ∨ j = 4 ∨ j = 5 ∨ j = 6 ∨ j = 7 by omega) with rfl | rfl | rfl | rfl | rfl | rfl | rfl | rfl <;> rfl
theorem PS.c {g : Nat → Int} {j : Nat} (h : PS w0 w P (pcs T g) T G) (hj : j < 8) : w.cell? ⟨P, j, none⟩ = some (T j).val := h.cell (pcs_get hj)
theorem PS.cac {j Q : Nat} {n nx : Int} {v : Value} {L : List En} (h : PS w0 w P cs T G) (hj : j < 15) (e : T j = .cac Q n v L nx) : CAt w Q n v L nx := by
  have := h.fam.at' j hj
  rw [e] at this
  exact this
theorem PS.ref {j Q : Nat} {n p : Int} {v : Value} {L : List En} {s : Bool} (h : PS w0 w P cs T G) (hj : j < 15) (e : T j = .ref Q n v L s p) : RAt w Q n v L s p := by
  have := h.fam.at' j hj
  rw [e] at this
  exact this
theorem PS.ls {α : Type} {fl : Bool} {j : Nat} {t e : TypeId} {s : Nat} {n : α → Nat} {c : α → List Value} {v : Value} {us : List Value} {fs : List α} (h : PS w0 w P cs T G) (hj : j < 15) (e1 : T j = .ls fl t e s n c v us fs) : Ls w fl t e s n c v us fs := by
  have := h.fam.at' j hj
  rw [e1] at this
  exact this
theorem PS.row {j : Nat} {t : TypeId} {v : Value} {xs : List Value} (h : PS w0 w P cs T G) (hj : j < 15) (e1 : T j = .row t v xs) : w.ownsRow 0 t 1 v xs.length xs := by
  have := h.fam.at' j hj
  rw [e1] at this
  exact this
theorem PS.sq {j : Nat} {v : Value} {bs : List (Nat × Nat)} (h : PS w0 w P cs T G) (hj : j < 15) (e1 : T j = .sq v bs) : w.ownsRow 0 83 1 v bs.length (bs.map fun b => seqV b.1) ∧ ∀ b ∈ bs, G b.1 ∧ Boxed w b.1 24 (qp b.2) := by
  have := h.fam.at' j hj
  rw [e1] at this
  exact this
end W
end Go.Proofs.YthcpnfelnonhnaaDoor
