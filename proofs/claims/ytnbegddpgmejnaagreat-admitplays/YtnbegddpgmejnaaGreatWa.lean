/-
  Layer 13: two lines on both sides, and the lists that were handed out.
-/
import Derived.Test.YtnbegddpgmejnaaGreatRb
namespace Go.Proofs.YtnbegddpgmejnaaGreat
open Go.RowKit


def put {α : Type} (f : Nat → α) (i : Nat) (a : α) : Nat → α := fun j => if j = i then a else f j
theorem put_same {α : Type} (f : Nat → α) (i : Nat) (a : α) : put f i a i = a := if_pos rfl
theorem put_other {α : Type} (f : Nat → α) {i j : Nat} (a : α) (h : j ≠ i) : put f i a j = f j := if_neg h

/-- rows of lists of numbers, each in memory of its own -/
structure Lists (w : World) (t e : TypeId) (c : Int → Value) (v : Value) (us : List Value) (fs : List (List Int)) : Prop where
  row : w.ownsRow 0 t 1 v us.length us
  len : fs.length = us.length
  each : ∀ (k : Nat) u f, us[k]? = some u → fs[k]? = some f → w.ownsRow 0 e 1 u f.length (f.map c)
  sep : us.Pairwise fun u u' => ∀ g, u.ownBlock = some g → u'.ownBlock ≠ some g
abbrev IL (w : World) := Lists w 43 3 (Value.int .i64)
abbrev UL (w : World) := Lists w 62 44 (Value.int .u64)
/-- where they lie -/
def LFt (v : Value) (us : List Value) (b : Nat) : Prop := v.ownBlock = some b ∨ ∃ u ∈ us, u.ownBlock = some b
section
variable {w w' : World} {t e : TypeId} {c : Int → Value} {v v' : Value} {us : List Value} {fs : List (List Int)}
theorem Lists.of_mem (h : Lists w t e c v us fs) {u : Value} (hu : u ∈ us) : ∃ f, f ∈ fs ∧ w.ownsRow 0 e 1 u f.length (f.map c) := by
  obtain ⟨k, hk⟩ := List.getElem?_of_mem hu
  have hkl := (List.getElem?_eq_some_iff.1 hk).1
  have hf : fs[k]? = some (fs[k]'(by rw [h.len]; exact hkl)) := List.getElem?_eq_getElem _
  exact ⟨_, List.getElem_mem _, h.each k u _ hk hf⟩
theorem Lists.lt (h : Lists w t e c v us fs) {b : Nat} (hb : LFt v us b) : b < w.heap.size := by
  rcases hb with hb | ⟨u, hu, hb⟩
  · exact (h.row.lt b hb).2
  · obtain ⟨f, _, o⟩ := h.of_mem hu
    exact (o.lt b hb).2
theorem Lists.kept {S : Nat → Prop} (h : Lists w t e c v us fs) (hk : Kept S w w') (hS : ∀ b, LFt v us b → ¬ S b) : Lists w' t e c v us fs :=
  ⟨own_far h.row hk fun g hg => hS g (.inl hg), h.len, fun k u f hu hf => own_far (h.each k u f hu hf) hk fun g hg => hS g (.inr ⟨u, List.mem_of_getElem? hu, hg⟩), h.sep⟩
/-- one more -/
theorem Lists.app {S : Nat → Prop} {u : Value} {f : List Int} (h : Lists w t e c v us fs) (hk : Kept S w w') (hS : ∀ b, (∃ u ∈ us, u.ownBlock = some b) ∨ u.ownBlock = some b → ¬ S b) (hr : w'.ownsRow 0 t 1 v' (us.length + 1) (us ++ [u])) (hu : w.ownsRow 0 e 1 u f.length (f.map c)) (hsep : ∀ x ∈ us, ∀ g, x.ownBlock = some g → u.ownBlock ≠ some g) : Lists w' t e c v' (us ++ [u]) (fs ++ [f]) := by
  refine ⟨by rw [List.length_append, List.length_singleton]; exact hr, by simp [h.len], fun k x y hx hy => ?_, ?_⟩
  · rcases Nat.lt_or_ge k us.length with a | a
    · rw [List.getElem?_append_left a] at hx
      rw [List.getElem?_append_left (by rw [h.len]; exact a)] at hy
      exact own_far (h.each k x y hx hy) hk fun g hg => hS g (.inl ⟨x, List.mem_of_getElem? hx, hg⟩)
    · rw [List.getElem?_append_right a] at hx
      rw [List.getElem?_append_right (by rw [h.len]; exact a), h.len] at hy
      have hk0 : k - us.length = 0 := by
        have := (List.getElem?_eq_some_iff.1 hx).1
        simp at this
        omega
      rw [hk0] at hx hy
      cases hx
      cases hy
      exact own_far hu hk fun g hg => hS g (.inr hg)
  · exact List.pairwise_append.2 ⟨h.sep, List.pairwise_singleton _ _, fun x hx y hy g hg => by rw [List.mem_singleton.1 hy]; exact hsep x hx g hg⟩
theorem Lists.nil (w : World) (t e : TypeId) (c : Int → Value) : Lists w t e c nils [] [] := ⟨World.ownsRow_nil _ _ _ _, rfl, fun k u f hu => (by cases hu), List.Pairwise.nil⟩
end

/-- something that stands in memory of its own: how it lies, where, its value -/
structure Th where
  at' : World → (Nat → Prop) → Prop
  foot : Nat → Prop
  val : Value
  lt' : ∀ w G b, at' w G → foot b → b < w.heap.size
  kept' : ∀ w w' G G' S, at' w G → Kept S w w' → (∀ b, foot b → ¬ S b) → (∀ g, G g → ¬ S g) → (∀ g, G g → G' g) → at' w' G'
def Th.at (w : World) (G : Nat → Prop) (t : Th) : Prop := t.at' w G
def Th.no : Th := ⟨fun _ _ => True, fun _ => False, undef, fun _ _ _ _ h => h.elim, fun _ _ _ _ _ _ _ _ _ _ => trivial⟩
def Th.led (F : Ft) (n : Nat) (a : Ad) : Th := ⟨fun w G => PL w F n a ∧ ∀ g, F.G g → G g, F.has, qp F.Q, fun _ _ _ h hb => h.1.lt hb, fun _ _ _ _ _ h hk hf hS hGG => ⟨h.1.far hk hf (fun g hg _ => hS g (h.2 g hg)), fun g hg => hGG g (h.2 g hg)⟩⟩
theorem ref_kept {w w' : World} {G G' S : Nat → Prop} {R : Nat} {a : Ad} (h : (∃ vW vI ws is, RL w G R vW vI a ws is) ∧ a.Ok) (hk : Kept S w w') (hf : ∀ b, b = R → ¬ S b) (hS : ∀ g, G g → ¬ S g) (hGG : ∀ g, G g → G' g) : (∃ vW vI ws is, RL w' G' R vW vI a ws is) ∧ a.Ok := by
  obtain ⟨⟨vW, vI, ws, is, h⟩, ok⟩ := h
  exact ⟨⟨vW, vI, ws, is, h.kept (hk.block R h.lt (hf R rfl)) (fun g hg hl => hk.block g hl (hS g hg)) hGG⟩, ok⟩
theorem ref_lt {w : World} {G : Nat → Prop} {R b : Nat} {a : Ad} (h : (∃ vW vI ws is, RL w G R vW vI a ws is) ∧ a.Ok) (hb : b = R) : b < w.heap.size := by
  obtain ⟨⟨vW, vI, ws, is, h⟩, _⟩ := h
  rw [hb]
  exact h.lt
def Th.ref (R : Nat) (a : Ad) : Th := ⟨fun w G => (∃ vW vI ws is, RL w G R vW vI a ws is) ∧ a.Ok, fun b => b = R, qp R, fun _ _ _ h hb => ref_lt h hb, fun _ _ _ _ _ h hk hf hS hGG => ref_kept h hk hf hS hGG⟩
def Th.il (v : Value) (us : List Value) (fs : List (List Int)) : Th := ⟨fun w _ => IL w v us fs, LFt v us, v, fun _ _ _ h hb => Lists.lt h hb, fun _ _ _ _ _ h hk hf _ _ => Lists.kept h hk hf⟩
def Th.ul (v : Value) (us : List Value) (ls : List (List Int)) : Th := ⟨fun w _ => UL w v us ls, LFt v us, v, fun _ _ _ h hb => Lists.lt h hb, fun _ _ _ _ _ h hk hf _ _ => Lists.kept h hk hf⟩
def Th.lf (u : Value) (f : List Int) : Th := ⟨fun w _ => Frm w u f, fun b => u.ownBlock = some b, undef, fun _ _ b h hb => (World.ownsRow.lt h b hb).2, fun _ _ _ _ _ h hk hf _ _ => own_far h hk hf⟩
def Th.lu (u : Value) (l : List Int) : Th := ⟨fun w _ => w.ownsRow 0 44 1 u l.length (V64 l), fun b => u.ownBlock = some b, undef, fun _ _ b h hb => (World.ownsRow.lt h b hb).2, fun _ _ _ _ _ h hk hf _ _ => own_far h hk hf⟩
def Th.im (u : Value) (f : List Int) : Th := ⟨fun w G => Frm w u f ∧ ∀ g, blk u = some g → G g, fun _ => False, undef, fun _ _ _ _ h => h.elim, fun _ _ _ _ _ h hk _ hS hGG => ⟨h.1.keeps fun g hg => hk.block g (h.1.lt hg) (hS g (h.2 g hg)), fun g hg => hGG g (h.2 g hg)⟩⟩
theorem box_kept {w w' : World} {S : Nat → Prop} {B : Nat} {cs : Array Value} (h : w.heap[B]? = some (.cells cs 46 (0, 0))) (hk : Kept S w w') (hf : ∀ b, b = B → ¬ S b) : w'.heap[B]? = some (.cells cs 46 (0, 0)) := (hk.block B (Array.getElem?_eq_some_iff.1 h).1 (hf B rfl)).trans h
theorem box_lt {w : World} {B b : Nat} {cs : Array Value} (h : w.heap[B]? = some (.cells cs 46 (0, 0))) (hb : b = B) : b < w.heap.size := by
  rw [hb]
  exact (Array.getElem?_eq_some_iff.1 h).1
def Th.box (B : Nat) (cs : Array Value) : Th := ⟨fun w _ => w.heap[B]? = some (.cells cs 46 (0, 0)), fun b => b = B, undef, fun _ _ _ h hb => box_lt h hb, fun _ _ _ _ _ h hk hf _ _ => box_kept h hk hf⟩
variable {w0 w w' : World} {G G' : Nat → Prop}
theorem Th.lt {t : Th} (h : t.at w G) {b : Nat} (hb : t.foot b) : b < w.heap.size := t.lt' w G b h hb
theorem Th.kept {t : Th} {S : Nat → Prop} (h : t.at w G) (hk : Kept S w w') (hf : ∀ b, t.foot b → ¬ S b) (hS : ∀ g, G g → ¬ S g) (hGG : ∀ g, G g → G' g) : t.at w' G' := t.kept' w w' G G' S h hk hf hS hGG
theorem Th.lf_blk {u : Value} {f : List Int} {b : Nat} (h : blk u = some b) : (Th.lf u f).foot b := by rw [blk_own] at h; exact h

/-- fourteen of them, each in memory of its own, made since w0; and what is never written again -/
structure Fam (w0 w : World) (T : Nat → Th) (G : Nat → Prop) : Prop where
  at' : ∀ i, i < 15 → (T i).at w G
  lo : ∀ i, i < 15 → ∀ b, (T i).foot b → w0.heap.size ≤ b
  apart : ∀ i j, i < 15 → j < 15 → i ≠ j → ∀ b, (T i).foot b → ¬ (T j).foot b
  im : ∀ i, i < 15 → ∀ b, (T i).foot b → ¬ G b
  glt : ∀ g, G g → g < w.heap.size
variable {P : Nat} {T : Nat → Th}
theorem Fam.far {S : Nat → Prop} (h : Fam w0 w T G) (hk : Kept S w w') (hf : ∀ i, i < 15 → ∀ b, (T i).foot b → ¬ S b) (hS : ∀ g, G g → ¬ S g) : Fam w0 w' T G :=
  ⟨fun i hi => Th.kept (h.at' i hi) hk (hf i hi) hS (fun _ hg => hg), h.lo, h.apart, h.im, fun g hg => Nat.lt_of_lt_of_le (h.glt g hg) hk.size⟩
theorem Fam.later (h : Fam w0 w T G) (hb : Below w.heap.size w w') : Fam w0 w' T G := h.far (Kept.of_below (fun _ => False) hb) (fun _ _ _ _ e => e) (fun _ _ e => e)
/-- one of them has turned; it may have taken another's memory -/
theorem Fam.move (h : Fam w0 w T G) {i k : Nat} (hi : i < 15) (hik : i ≠ k) {t : Th} {S : Nat → Prop} (ht : t.at w' G') (hk : Kept S w w') (hS : ∀ b, S b → (T i).foot b) (hf : ∀ b, t.foot b → (T i).foot b ∨ w.heap.size ≤ b ∨ (k < 15 ∧ (T k).foot b)) (hw : w0.heap.size ≤ w.heap.size) (hG : ∀ g, G g → G' g) (hG2 : ∀ g, G' g → G g ∨ (w.heap.size ≤ g ∧ g < w'.heap.size ∧ ¬ t.foot g)) : Fam w0 w' (put (put T i t) k .no) G' := by
  have hGS : ∀ g, G g → ¬ S g := fun g hg hs => h.im i hi g (hS g hs) hg
  have hnew : ∀ j, j < 15 → ∀ b, (T j).foot b → b < w.heap.size := fun j hj b hb => Th.lt (h.at' j hj) hb
  have hap : ∀ j, j < 15 → j ≠ i → j ≠ k → ∀ b, t.foot b → ¬ (T j).foot b := fun j hj hji hjk b hb e => by
    rcases hf b hb with h1 | h1 | ⟨h1, h2⟩
    · exact h.apart j i hj hi hji b e h1
    · have := hnew j hj b e; omega
    · exact h.apart j k hj h1 hjk b e h2
  refine ⟨fun j hj => ?_, fun j hj b hb => ?_, fun x y hx hy hne b hb => ?_, fun j hj b hb hg => ?_, fun g hg => ?_⟩
  · by_cases e : j = k
    · subst e; rw [put_same]; trivial
    · rw [put_other _ _ e]
      by_cases e2 : j = i
      · subst e2; rw [put_same]; exact ht
      · rw [put_other _ _ e2]
        exact Th.kept (h.at' j hj) hk (fun b hb hs => h.apart j i hj hi e2 b hb (hS b hs)) hGS hG
  · by_cases e : j = k
    · subst e; rw [put_same] at hb; exact hb.elim
    · rw [put_other _ _ e] at hb
      by_cases e2 : j = i
      · subst e2
        rw [put_same] at hb
        rcases hf b hb with h1 | h1 | ⟨h1, h2⟩
        · exact h.lo j hj b h1
        · omega
        · exact h.lo k h1 b h2
      · rw [put_other _ _ e2] at hb; exact h.lo j hj b hb
  · by_cases e : x = k
    · subst e; rw [put_same] at hb; exact hb.elim
    · by_cases e' : y = k
      · subst e'; rw [put_same]; exact fun h => h
      · rw [put_other _ _ e] at hb
        rw [put_other _ _ e']
        by_cases e2 : x = i
        · subst e2
          rw [put_same] at hb
          rw [put_other _ _ (Ne.symm hne)]
          exact hap y hy (Ne.symm hne) e' b hb
        · rw [put_other _ _ e2] at hb
          by_cases e3 : y = i
          · subst e3
            rw [put_same]
            exact fun h2 => hap x hx e2 e b h2 hb
          · rw [put_other _ _ e3]
            exact h.apart x y hx hy hne b hb
  · by_cases e : j = k
    · subst e; rw [put_same] at hb; exact hb.elim
    · rw [put_other _ _ e] at hb
      by_cases e2 : j = i
      · subst e2
        rw [put_same] at hb
        rcases hG2 b hg with h1 | ⟨_, _, h1⟩
        · rcases hf b hb with h2 | h2 | ⟨h2, h3⟩
          · exact h.im j hj b h2 h1
          · have := h.glt b h1; omega
          · exact h.im k h2 b h3 h1
        · exact h1 hb
      · rw [put_other _ _ e2] at hb
        rcases hG2 b hg with h1 | ⟨h1, _⟩
        · exact h.im j hj b hb h1
        · have := hnew j hj b hb; omega
  · rcases hG2 g hg with h1 | ⟨_, h1, _⟩
    · exact Nat.lt_of_lt_of_le (h.glt g h1) hk.size
    · exact h1
theorem put_no {i : Nat} {t : Th} (hi : i < 15) : put (put T i t) 15 .no i = t := by rw [put_other _ _ (by omega), put_same]
/-- what is beyond the fourteen does not matter -/
theorem Fam.congr {T' : Nat → Th} (h : Fam w0 w T G) (he : ∀ i, i < 15 → T' i = T i) : Fam w0 w T' G :=
  ⟨fun i hi => by rw [he i hi]; exact h.at' i hi, fun i hi => by rw [he i hi]; exact h.lo i hi, fun i j hi hj => by rw [he i hi, he j hj]; exact h.apart i j hi hj, fun i hi => by rw [he i hi]; exact h.im i hi, h.glt⟩
theorem Fam.turn (h : Fam w0 w T G) {i : Nat} (hi : i < 15) {t : Th} {S : Nat → Prop} (ht : t.at w' G') (hk : Kept S w w') (hS : ∀ b, S b → (T i).foot b) (hf : ∀ b, t.foot b → (T i).foot b ∨ w.heap.size ≤ b) (hw : w0.heap.size ≤ w.heap.size) (hG : ∀ g, G g → G' g) (hG2 : ∀ g, G' g → G g ∨ (w.heap.size ≤ g ∧ g < w'.heap.size ∧ ¬ t.foot g)) : Fam w0 w' (put T i t) G' :=
  (h.move (k := 15) hi (by omega) ht hk hS (fun b hb => or_id (hf b hb) fun e => .inl e) hw hG hG2).congr fun j hj => by rw [put_other (put T i t) _ (by omega)]
/-- one more, in memory that nobody has -/
theorem Fam.add (h : Fam w0 w T G) {k : Nat} {u : Th} (hu : u.at w G) (hf : ∀ b, u.foot b → w0.heap.size ≤ b ∧ ¬ G b ∧ ∀ j, j < 15 → j ≠ k → ¬ (T j).foot b) : Fam w0 w (put T k u) G := by
  refine ⟨fun j hj => ?_, fun j hj b hb => ?_, fun x y hx hy hne b hb => ?_, fun j hj b hb => ?_, h.glt⟩
  · by_cases e : j = k
    · subst e; rw [put_same]; exact hu
    · rw [put_other _ _ e]; exact h.at' j hj
  · by_cases e : j = k
    · subst e; rw [put_same] at hb; exact (hf b hb).1
    · rw [put_other _ _ e] at hb; exact h.lo j hj b hb
  · by_cases e : x = k
    · subst e
      rw [put_same] at hb
      rw [put_other _ _ (Ne.symm hne)]
      exact (hf b hb).2.2 y hy (Ne.symm hne)
    · rw [put_other _ _ e] at hb
      by_cases e2 : y = k
      · subst e2
        rw [put_same]
        exact fun h2 => (hf b h2).2.2 x hx e hb
      · rw [put_other _ _ e2]; exact h.apart x y hx hy hne b hb
  · by_cases e : j = k
    · subst e; rw [put_same] at hb; exact (hf b hb).2.1
    · rw [put_other _ _ e] at hb; exact h.im j hj b hb
theorem Fam.drop (h : Fam w0 w T G) (k : Nat) : Fam w0 w (put T k .no) G := h.add trivial fun _ hb => hb.elim
theorem Fam.imm (h : Fam w0 w T G) {k : Nat} {u : Value} {f : List Int} (hu : Frm w u f) (hg : ∀ g, blk u = some g → G g) : Fam w0 w (put T k (.im u f)) G := h.add ⟨hu, hg⟩ fun _ hb => hb.elim
theorem Fam.new (h : Fam w0 w T G) {k : Nat} {u : Th} {s : Nat} (hu : u.at w G) (hf : ∀ b, u.foot b → s ≤ b) (hw : w0.heap.size ≤ s) (hs : ∀ b, s ≤ b → ¬ G b ∧ ∀ j, j < 15 → j ≠ k → ¬ (T j).foot b) : Fam w0 w (put T k u) G := h.add hu fun b hb => ⟨Nat.le_trans hw (hf b hb), hs b (hf b hb)⟩

/-- the world's cells -/
abbrev pcs (T : Nat → Th) : Array Value := #[(T 0).val, (T 1).val, (T 2).val, (T 3).val, (T 4).val, (T 5).val, (T 6).val, (T 7).val]
structure PS (w0 w : World) (P : Nat) (T : Nat → Th) (G : Nat → Prop) : Prop where
  fam : Fam w0 w T G
  pr : w.heap[P]? = some (.cells (pcs T) 41 (0, 0))
  plo : w0.heap.size ≤ P
  pf : ∀ i, i < 15 → ¬ (T i).foot P
  pg : ¬ G P
  below : Below w0.heap.size w0 w
theorem PS.plt (h : PS w0 w P T G) : P < w.heap.size := (Array.getElem?_eq_some_iff.1 h.pr).1
theorem PS.later (h : PS w0 w P T G) (hb : Below w.heap.size w w') : PS w0 w' P T G := ⟨h.fam.later hb, (hb.block P h.plt).trans h.pr, h.plo, h.pf, h.pg, below_then h.below hb⟩
theorem pcs_put {i : Nat} {t : Th} (ht : t.val = (T i).val) : pcs (put T i t) = pcs T := by
  have e : ∀ j, (put T i t j).val = (T j).val := fun j => by
    by_cases h : j = i
    · subst h; rw [put_same]; exact ht
    · rw [put_other _ _ h]
  simp only [pcs, e]
theorem pcs_put8 {i : Nat} {t : Th} (hi : 8 ≤ i) : pcs (put T i t) = pcs T := by
  have e : ∀ j, j < 8 → (put T i t j) = (T j) := fun j hj => put_other _ _ (by omega)
  simp only [pcs, e 0 (by omega), e 1 (by omega), e 2 (by omega), e 3 (by omega), e 4 (by omega), e 5 (by omega), e 6 (by omega), e 7 (by omega)]
theorem PS.turn (h : PS w0 w P T G) {i : Nat} (hi : i < 15) {t : Th} {S : Nat → Prop} (hv : t.val = (T i).val) (ht : t.at w' G') (hk : Kept S w w') (hS : ∀ b, S b → (T i).foot b) (hf : ∀ b, t.foot b → (T i).foot b ∨ w.heap.size ≤ b) (hG : ∀ g, G g → G' g) (hG2 : ∀ g, G' g → G g ∨ (w.heap.size ≤ g ∧ g < w'.heap.size ∧ ¬ t.foot g)) : PS w0 w' P (put T i t) G' := by
  have hlt := h.plt
  refine ⟨h.fam.turn hi ht hk hS hf h.below.size hG hG2, ?_, h.plo, fun j hj hb => ?_, fun hg => ?_, hk.into h.below (fun b hb hs => by have := h.fam.lo i hi b (hS b hs); omega) (Nat.le_refl _)⟩
  · rw [pcs_put hv]
    exact (hk.block P hlt fun hs => h.pf i hi (hS P hs)).trans h.pr
  · by_cases e : j = i
    · subst e
      rw [put_same] at hb
      rcases hf P hb with h1 | h1
      · exact h.pf j hj h1
      · omega
    · rw [put_other _ _ e] at hb; exact h.pf j hj hb
  · rcases hG2 P hg with h1 | ⟨h1, _⟩
    · exact h.pg h1
    · omega
theorem PS.add (h : PS w0 w P T G) {k : Nat} (hk : 8 ≤ k) {u : Th} (hu : u.at w G) (hf : ∀ b, u.foot b → w0.heap.size ≤ b ∧ ¬ G b ∧ b ≠ P ∧ ∀ j, j < 15 → j ≠ k → ¬ (T j).foot b) : PS w0 w P (put T k u) G := by
  refine ⟨h.fam.add hu fun b hb => ⟨(hf b hb).1, (hf b hb).2.1, (hf b hb).2.2.2⟩, by rw [pcs_put8 hk]; exact h.pr, h.plo, fun j hj hb => ?_, h.pg, h.below⟩
  by_cases e : j = k
  · subst e; rw [put_same] at hb; exact (hf P hb).2.2.1 rfl
  · rw [put_other _ _ e] at hb; exact h.pf j hj hb
theorem PS.drop (h : PS w0 w P T G) {k : Nat} (hk : 8 ≤ k) : PS w0 w P (put T k .no) G := h.add hk trivial fun _ hb => hb.elim
/-- something made since we, which nobody has -/
theorem PS.fresh {we : World} (h : PS w0 w P T G) (he : PS w0 we P T G) {k : Nat} (hk : 8 ≤ k) {u : Th} (hu : u.at w G) (hf : ∀ b, u.foot b → we.heap.size ≤ b) : PS w0 w P (put T k u) G :=
  h.add hk hu fun b hb => by
    have hb2 := hf b hb
    refine ⟨Nat.le_trans he.below.size hb2, fun hg => ?_, fun e => ?_, fun j hj _ hx => ?_⟩
    · have := he.fam.glt b hg; omega
    · have := he.plt; omega
    · have := Th.lt (he.fam.at' j hj) hx; omega
theorem PS.cl (h : PS w0 w P T G) {j : Nat} (hj : j < 8) : w.cell? ⟨P, j, none⟩ = some (T j).val := by
  rw [cell_of_row _ P j _ 41 (0, 0) h.pr]
  rcases (show j = 0 ∨ j = 1 ∨ j = 2 ∨ j = 3 ∨ j = 4 ∨ j = 5 ∨ j = 6 ∨ j = 7 by omega) with rfl | rfl | rfl | rfl | rfl | rfl | rfl | rfl <;> rfl
theorem PS.free (h : PS w0 w P T G) (o : Nat) : w.frozen? ⟨P, o, none⟩ = false := by simp [World.frozen?, h.pr]

/-- which is which -/
structure Sh (T : Nat → Th) (q : Nat → Nat) (S D : Nat → Ad) (X : Nat → Th) (N a b : Nat) : Prop where
  led : ∀ j, j < 2 → ∃ F n, T j = .led F n (S j) ∧ F.Q = q j ∧ n ≤ N
  ref : ∀ j, j < 2 → T (j + 2) = .ref (q (j + 2)) (D j)
  fo : ∃ v us v' us' fs, T 4 = .il v us fs ∧ T 5 = .il v' us' fs ∧ fs.length ≤ a ∧ ∀ f ∈ fs, f.length ≤ 16
  li : ∃ v us v' us' ls, T 6 = .ul v us ls ∧ T 7 = .ul v' us' ls ∧ ls.length ≤ b ∧ ∀ l ∈ ls, l.length ≤ 1000
  x : ∀ i, i < 6 → T (8 + i) = X i
/-- what stands between two calls -/
def St (w0 w : World) (P : Nat) (q : Nat → Nat) (S D : Nat → Ad) (X : Nat → Th) (N a b : Nat) : Prop := ∃ T G, PS w0 w P T G ∧ Sh T q S D X N a b
variable {q : Nat → Nat} {S D : Nat → Ad} {X : Nat → Th} {N a b : Nat}
theorem St.later (h : St w0 w P q S D X N a b) (hb : Below w.heap.size w w') : St w0 w' P q S D X N a b := by
  obtain ⟨T, G, h, hs⟩ := h
  exact ⟨T, G, h.later hb, hs⟩
theorem St.mono {N' a' b' : Nat} (h : St w0 w P q S D X N a b) (h1 : N ≤ N') (h2 : a ≤ a') (h3 : b ≤ b') : St w0 w P q S D X N' a' b' := by
  obtain ⟨T, G, h, hs⟩ := h
  refine ⟨T, G, h, fun j hj => ?_, hs.ref, ?_, ?_, hs.x⟩
  · obtain ⟨F, n, e1, e2, e3⟩ := hs.led j hj
    exact ⟨F, n, e1, e2, by omega⟩
  · obtain ⟨v, us, v', us', fs, e1, e2, e3, e4⟩ := hs.fo
    exact ⟨v, us, v', us', fs, e1, e2, by omega, e4⟩
  · obtain ⟨v, us, v', us', fs, e1, e2, e3, e4⟩ := hs.li
    exact ⟨v, us, v', us', fs, e1, e2, by omega, e4⟩
theorem St.below (h : St w0 w P q S D X N a b) : Below w0.heap.size w0 w := by
  obtain ⟨T, G, h, _⟩ := h
  exact h.below
/-- the shape with another loose thing -/
theorem Sh.loose {k : Nat} {u : Th} (h : Sh T q S D X N a b) (hk : k < 6) : Sh (put T (8 + k) u) q S D (put X k u) N a b := by
  have e : ∀ j, j < 8 → put T (8 + k) u j = T j := fun j hj => put_other _ _ (by omega)
  refine ⟨fun j hj => ?_, fun j hj => ?_, ?_, ?_, fun i hi => ?_⟩
  · rw [e j (by omega)]; exact h.led j hj
  · rw [e (j + 2) (by omega)]; exact h.ref j hj
  · rw [e 4 (by omega), e 5 (by omega)]; exact h.fo
  · rw [e 6 (by omega), e 7 (by omega)]; exact h.li
  · by_cases e2 : i = k
    · subst e2; rw [put_same, put_same]
    · rw [put_other _ _ (by omega), put_other _ _ e2]; exact h.x i hi
/-- a line, or the document's, has turned -/
theorem Sh.line {j : Nat} {F : Ft} {n N' : Nat} {A : Ad} (h : Sh T q S D X N a b) (hj : j < 2) (hQ : F.Q = q j) (hn : n ≤ N') (hN : N ≤ N') : Sh (put T j (.led F n A)) q (put S j A) D X N' a b := by
  have e : ∀ i, i ≠ j → put T j (.led F n A) i = T i := fun i hi => put_other _ _ hi
  refine ⟨fun i hi => ?_, fun i hi => ?_, ?_, ?_, fun i hi => ?_⟩
  · by_cases e2 : i = j
    · subst e2; rw [put_same, put_same]; exact ⟨F, n, rfl, hQ, hn⟩
    · rw [e i e2, put_other _ _ e2]
      obtain ⟨F', n', h1, h2, h3⟩ := h.led i hi
      exact ⟨F', n', h1, h2, by omega⟩
  · rw [e (i + 2) (by omega)]; exact h.ref i hi
  · rw [e 4 (by omega), e 5 (by omega)]; exact h.fo
  · rw [e 6 (by omega), e 7 (by omega)]; exact h.li
  · rw [e (8 + i) (by omega)]; exact h.x i hi
theorem Sh.doc {j : Nat} {A : Ad} (h : Sh T q S D X N a b) (hj : j < 2) : Sh (put T (j + 2) (.ref (q (j + 2)) A)) q S (put D j A) X N a b := by
  have e : ∀ i, i ≠ j + 2 → put T (j + 2) (.ref (q (j + 2)) A) i = T i := fun i hi => put_other _ _ hi
  refine ⟨fun i hi => ?_, fun i hi => ?_, ?_, ?_, fun i hi => ?_⟩
  · rw [e i (by omega)]; exact h.led i hi
  · by_cases e2 : i = j
    · subst e2; rw [put_same, put_same]
    · rw [e (i + 2) (by omega), put_other _ _ e2]; exact h.ref i hi
  · rw [e 4 (by omega), e 5 (by omega)]; exact h.fo
  · rw [e 6 (by omega), e 7 (by omega)]; exact h.li
  · rw [e (8 + i) (by omega)]; exact h.x i hi
theorem put_idem {α : Type} (f : Nat → α) (i : Nat) {x : α} (h : f i = x) : put f i x = f := funext fun j => by
  by_cases e : j = i
  · subst e; rw [put_same, h]
  · rw [put_other _ _ e]
theorem put_put {α : Type} (f : Nat → α) (i : Nat) (x y : α) : put (put f i x) i y = put f i y := funext fun j => by
  by_cases e : j = i
  · subst e; rw [put_same, put_same]
  · rw [put_other _ _ e, put_other _ _ e, put_other _ _ e]
theorem put_comm {α : Type} (f : Nat → α) {i k : Nat} (x y : α) (h : i ≠ k) : put (put f i x) k y = put (put f k y) i x := funext fun j => by
  by_cases e : j = k
  · subst e; rw [put_same, put_other _ _ (Ne.symm h), put_same]
  · rw [put_other _ _ e]
    by_cases e2 : j = i
    · subst e2; rw [put_same, put_same]
    · rw [put_other _ _ e2, put_other _ _ e2, put_other _ _ e]
end Go.Proofs.YtnbegddpgmejnaaGreat
