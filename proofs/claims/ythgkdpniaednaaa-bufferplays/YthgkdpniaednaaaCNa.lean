/-
  Lists of images that are apart: what the loops of Apart hold.
-/
import Derived.Test.YthgkdpniaednaaaSb
import Derived.Test.YthgkdpniaednaaaBNa
namespace Go.Proofs.Ythgkdpniaednaaa
open Go.RowKit

open B (I64)
namespace C
def mrk (x : Int) : Im := ⟨x, zs 32⟩
/-- a row of images, so many -/
structure IOw (w : World) (B : Nat) (v : Value) (n : Nat) (l : List Im) : Prop where
  own : w.ownsRow B 33 33 v n (IC l)
  wf : ImsWf l
  len : l.length = n
section
variable {w w' : World} {B n : Nat} {v : Value} {l : List Im}
theorem IOw.kept {row : Option Nat} (h : IOw w B v n l) (hg : w.grownBy w' row) (hr : v.ownBlock = none ∨ v.ownBlock ≠ row) : IOw w' B v n l := ⟨h.own.kept hg hr, h.wf, h.len⟩
theorem IOw.alloc (h : IOw w B v n l) (o : Obj) : IOw (w.alloc o) B v n l := ⟨h.own.alloc o, h.wf, h.len⟩
theorem IOw.range {g c k : Nat} {x : Im} (h : IOw w B (.slice (some ⟨g, 0, none⟩) n c) n l) (hx : l[k]? = some x) : w.rangeAt g (k * 33) (icells x) := fun j u hj => by
  have hj' : j < 33 := by have := (List.getElem?_eq_some_iff.1 hj).1; rw [icells_len (h.wf x (List.mem_of_getElem? hx)).len] at this; exact this
  have := h.own.cells (g := g) rfl (33 * k + j) u (by rw [IC_at h.wf hx j hj']; exact hj)
  rw [Go.WideShapes.add_plain, Nat.zero_add] at this
  rw [show k * 33 + j = 33 * k + j by omega]; exact this
end
/-- bytes that are watched: in block b, from lo to hi, all of them x; where b is the row that grows (r), they lie ahead of its end -/
structure Watch (w : World) (r : Option Nat) (cur : Nat) (b lo hi : Nat) (x : Int) : Prop where
  block : ∃ cs, w.heap[b]? = some (.cells cs 33 (0, 0))
  cells : ∀ k, lo ≤ k → k < hi → w.rangeAt b (k * 33) (icells (mrk x))
  ahead : r = some b → hi ≤ cur
theorem Watch.lt {w : World} {r : Option Nat} {cur b lo hi : Nat} {x : Int} (h : Watch w r cur b lo hi x) : b < w.heap.size := by
  obtain ⟨cs, hc⟩ := h.block
  exact (Array.getElem?_eq_some_iff.1 hc).1
/-- a step that leaves block b alone -/
theorem Watch.same {w w' : World} {r r' : Option Nat} {cur cur' b lo hi : Nat} {x : Int} (h : Watch w r cur b lo hi x) (hb : w'.heap[b]? = w.heap[b]?) (hr : r' = some b → hi ≤ cur') : Watch w' r' cur' b lo hi x := by
  refine ⟨by rw [hb]; exact h.block, fun k h1 h2 => ?_, hr⟩
  exact rangeAt_same (h.cells k h1 h2) hb
/-- the lists that are handed to Apart: m of them, in block L; each is nil or a row of its own -/
structure Fam (w : World) (B L m : Nat) (vp : Nat → Option Addr) (vn vc : Nat → Nat) : Prop where
  few : m ≤ 500
  list : ∀ i, i < m → w.cell? ⟨L, i, none⟩ = some (.slice (vp i) (vn i) (vc i))
  kind : ∃ cs, w.heap[L]? = some (.cells cs 23 (0, 0))
  rows : ∀ i, i < m → ∃ xs, IOw w B (.slice (vp i) (vn i) (vc i)) (vn i) xs
  apart : ∀ i j a b, i < m → j < m → i ≠ j → vp i = some a → vp j = some b → a.block ≠ b.block
  size : ∀ i, i < m → vn i ≤ 2000
  base : B ≤ w.heap.size
/-- nothing has turned but the rows' own blocks -/
structure Fr (m : Nat) (vp : Nat → Option Addr) (w w' : World) : Prop where
  os : w'.os = w.os
  tape : w'.tape = w.tape
  output : w'.output = w.output
  size : w.heap.size ≤ w'.heap.size
  block : ∀ k, k < w.heap.size → (∀ i a, i < m → vp i = some a → a.block ≠ k) → w'.heap[k]? = w.heap[k]?
theorem Fr.refl (m : Nat) (vp : Nat → Option Addr) (w : World) : Fr m vp w w := ⟨rfl, rfl, rfl, Nat.le_refl _, fun _ _ _ => rfl⟩
/-- a row's value: nil, or at the head of a block -/
theorem own_at {w : World} {base : Nat} {p : Option Addr} {n c : Nat} {xs : List Im} (h : IOw w base (.slice p n c) n xs) : (p = none ∧ n = 0) ∨ ∃ g cs, p = some ⟨g, 0, none⟩ ∧ base ≤ g ∧ w.heap[g]? = some (.cells cs 33 (0, 0)) := by
  rcases h.own.2 with ⟨e1, e2⟩ | ⟨g, cap, cur, e1, hb, hg, _⟩
  · simp only [Value.slice.injEq] at e1
    exact .inl ⟨e1.1, e2⟩
  · simp only [Value.slice.injEq] at e1
    exact .inr ⟨g, cur, e1.1, hb, hg⟩
theorem own_len {w : World} {base : Nat} {v : Value} {n : Nat} {xs : List Im} (h : IOw w base v n xs) : xs.length = n := h.len
abbrev rep (n : Nat) (x : Int) : List Im := List.replicate n (mrk x)
/-- phase 1: lists below i are marked, of list i the first k -/
structure Mark (w wr : World) (B m : Nat) (vp : Nat → Option Addr) (vn vc : Nat → Nat) (i k : Nat) : Prop where
  fr : Fr m vp w wr
  rows : ∀ j, j < m → ∃ xs, IOw wr B (.slice (vp j) (vn j) (vc j)) (vn j) xs ∧ (j < i → xs = rep (vn j) (-1 - (j : Int))) ∧ (j = i → xs.take k = rep k (-1 - (i : Int)))
theorem Fam.start {w : World} {B L m : Nat} {vp : Nat → Option Addr} {vn vc : Nat → Nat} (h : Fam w B L m vp vn vc) : Mark w w B m vp vn vc 0 0 := by
  refine ⟨Fr.refl _ _ _, fun j hj => ?_⟩
  obtain ⟨xs, hx⟩ := h.rows j hj
  exact ⟨xs, hx, fun h => absurd h (Nat.not_lt_zero _), fun _ => rfl⟩
/-- the list of lists reads as it did -/
theorem Fam.block_L {w wr : World} {B L m : Nat} {vp : Nat → Option Addr} {vn vc : Nat → Nat} (h : Fam w B L m vp vn vc) (hf : Fr m vp w wr) : wr.heap[L]? = w.heap[L]? := by
  obtain ⟨cs, hc⟩ := h.kind
  refine hf.block L (Array.getElem?_eq_some_iff.1 hc).1 fun i a hi ha e => ?_
  obtain ⟨xs, hx⟩ := h.rows i hi
  rcases own_at hx with ⟨h1, _⟩ | ⟨g, cs2, h1, _, hg⟩
  · rw [ha] at h1; cases h1
  · rw [ha] at h1
    simp only [Option.some.injEq] at h1
    subst h1
    simp only at e
    subst e
    rw [hc] at hg
    simp at hg
theorem Fam.cell_L {w wr : World} {B L m : Nat} {vp : Nat → Option Addr} {vn vc : Nat → Nat} (h : Fam w B L m vp vn vc) (hf : Fr m vp w wr) (i : Nat) (hi : i < m) : wr.cell? ⟨L, i, none⟩ = some (.slice (vp i) (vn i) (vc i)) :=
  (World.cell?_of_block (w := w) (w' := wr) (a := ⟨L, i, none⟩) (h.block_L hf)).trans (h.list i hi)
theorem Mark.store {w wr : World} {B L m : Nat} {vp : Nat → Option Addr} {vn vc : Nat → Nat} {i k : Nat} (hF : Fam w B L m vp vn vc) (h : Mark w wr B m vp vn vc i k) (hi : i < m) (hk : k < vn i) (hm : Im.Wf (mrk (-1 - (i : Int)))) :
    ∃ g W', vp i = some ⟨g, 0, none⟩ ∧ (Instr.storeAt 33 (.pointer (some ⟨g, k * 33, none⟩)) (.agg (icells (mrk (-1 - (i : Int)))).toArray)).run Try.prog wr = .ok () W' ∧ Mark w W' B m vp vn vc i (k + 1) := by
  obtain ⟨xs, hx, _, hx2⟩ := h.rows i hi
  rcases own_at hx with ⟨_, h0⟩ | ⟨g, cs, hg, hB, hh⟩
  · omega
  · rw [hg] at hx
    have hl := own_len hx
    have ho : IOwn wr B (.slice (some ⟨g, 0, none⟩) (vn i) (vc i)) xs := by have := hx.own; rw [← hl] at this ⊢; exact this
    obtain ⟨W', hr, hst, hgr⟩ := IOwn.put ho hx.wf (mrk (-1 - (i : Int))) hm k (by omega)
    have hset : xs.take k ++ [mrk (-1 - (i : Int))] ++ xs.drop (k + 1) = xs.set k (mrk (-1 - (i : Int))) := by rw [List.set_eq_take_append_cons_drop, if_pos (by omega)]; simp
    rw [hset] at hst
    refine ⟨g, W', hg, hr, ⟨hgr.os.trans h.fr.os, hgr.tape.trans h.fr.tape, hgr.output.trans h.fr.output, Nat.le_trans h.fr.size hgr.size, fun q hq hn => ?_⟩, fun j hj => ?_⟩
    · rw [hgr.block q (Nat.lt_of_lt_of_le hq h.fr.size) (fun e => by simp only [Option.some.injEq] at e; exact hn i _ hi hg e.symm)]
      exact h.fr.block q hq hn
    · by_cases e : j = i
      · subst e
        refine ⟨xs.set k (mrk (-1 - (j : Int))), ⟨by rw [hg]; have := hst; unfold IOwn at this; rw [List.length_set, hl] at this; exact this, fun x hxm => ?_, by rw [List.length_set]; exact hl⟩, fun h => absurd h (Nat.lt_irrefl _), fun _ => ?_⟩
        · rcases List.mem_or_eq_of_mem_set hxm with h1 | h1
          · exact hx.wf x h1
          · rw [h1]; exact hm
        · rw [List.take_succ_eq_append_getElem (by simpa [hl] using hk), List.take_set_of_le (Nat.le_refl _), hx2 rfl, List.getElem_set_self]
          exact List.replicate_succ'.symm
      · obtain ⟨ys, hy, hy1, hy2⟩ := h.rows j hj
        refine ⟨ys, hy.kept hgr ?_, hy1, fun e2 => absurd e2 e⟩
        cases hp : vp j with
        | none => left; rfl
        | some b =>
          right
          have := hF.apart j i b _ hj hi e hp hg
          simpa [Value.ownBlock] using this
theorem Mark.next {w wr : World} {B m : Nat} {vp : Nat → Option Addr} {vn vc : Nat → Nat} {i k : Nat} (h : Mark w wr B m vp vn vc i k) (hk : vn i ≤ k) : Mark w wr B m vp vn vc (i + 1) 0 := by
  refine ⟨h.fr, fun j hj => ?_⟩
  obtain ⟨xs, hx, hx1, hx2⟩ := h.rows j hj
  refine ⟨xs, hx, fun hlt => ?_, fun e => rfl⟩
  by_cases e : j = i
  · subst e
    have hl := own_len hx
    have := hx2 rfl
    rw [List.take_of_length_le (by omega)] at this
    have hk2 : k = vn j := by have := congrArg List.length this; simp at this; omega
    rw [this, hk2]
  · exact hx1 (by omega)
/-- an entry of 'longer': where it lies, and that it is watched -/
def Entry (wr : World) (m : Nat) (vp : Nat → Option Addr) (vn : Nat → Nat) (i : Nat) (r : Option Nat) (cur q : Nat) (v : Value) : Prop :=
  ∃ b len cap, v = .slice (some ⟨b, 0, none⟩) len cap ∧ vn (q / 17) ≤ len ∧ len ≤ 140737488355328 ∧ Watch wr r cur b (vn (q / 17)) len (-1001 - ((q / 17 : Nat) : Int)) ∧ ∀ j a, i ≤ j → j < m → vp j = some a → a.block ≠ b
/-- phase 2: the lists from i on are rows of their own still; r: the block of the list that grows, cur: how many it holds; V: 'longer', its entries LL -/
structure Grow (w wr : World) (B m : Nat) (vp : Nat → Option Addr) (vn vc : Nat → Nat) (i : Nat) (r : Option Nat) (cur : Nat) (V : Value) (LL : List Value) : Prop where
  fr : Fr m vp w wr
  base : B ≤ wr.heap.size
  rows : ∀ j a, j < m → vp j = some a → Watch wr r cur a.block 0 (vn j) (-1 - (j : Int))
  todo : ∀ j, i ≤ j → j < m → ∃ xs, IOw wr B (.slice (vp j) (vn j) (vc j)) (vn j) xs
  long : wr.ownsRow w.heap.size 23 1 V LL.length LL
  entry : ∀ q (h : q < LL.length), Entry wr m vp vn i r cur q LL[q]
theorem Mark.grow {w wr : World} {B m : Nat} {vp : Nat → Option Addr} {vn vc : Nat → Nat} (h : Mark w wr B m vp vn vc m 0) (hB : B ≤ w.heap.size) : Grow w wr B m vp vn vc 0 none 0 (.slice none 0 0) [] := by
  refine ⟨h.fr, Nat.le_trans hB h.fr.size, fun j a hj ha => ?_, fun j _ hj => ?_, World.ownsRow_nil _ _ _ _, fun q h => absurd h (Nat.not_lt_zero _)⟩
  · obtain ⟨xs, hx, hx1, _⟩ := h.rows j hj
    have hx1 := hx1 hj
    subst hx1
    rcases own_at hx with ⟨h1, _⟩ | ⟨g, cs, h1, _, hg⟩
    · rw [ha] at h1; cases h1
    · rw [ha] at h1
      simp only [Option.some.injEq] at h1
      subst h1
      refine ⟨⟨cs, hg⟩, fun k _ hk => ?_, fun e => by cases e⟩
      rw [ha] at hx
      exact hx.range (k := k) (x := mrk (-1 - (j : Int))) (by simp [rep, hk])
  · obtain ⟨xs, hx, _⟩ := h.rows j hj
    exact ⟨xs, hx⟩
theorem Entry.same {wr w' : World} {m : Nat} {vp : Nat → Option Addr} {vn : Nat → Nat} {i i' : Nat} {r r' : Option Nat} {cur cur' q : Nat} {v : Value} (h : Entry wr m vp vn i r cur q v) (hi : i ≤ i')
    (hs : ∀ b lo hi x, Watch wr r cur b lo hi x → Watch w' r' cur' b lo hi x) : Entry w' m vp vn i' r' cur' q v := by
  obtain ⟨b, len, cap, e, h1, h2, h3, h4⟩ := h
  exact ⟨b, len, cap, e, h1, h2, hs _ _ _ _ h3, fun j a hj => h4 j a (Nat.le_trans hi hj)⟩
/-- a new block -/
theorem Grow.alloc {w wr : World} {B m : Nat} {vp : Nat → Option Addr} {vn vc : Nat → Nat} {i : Nat} {r : Option Nat} {cur : Nat} {V : Value} {LL : List Value} (h : Grow w wr B m vp vn vc i r cur V LL) (o : Obj) : Grow w (wr.alloc o) B m vp vn vc i r cur V LL := by
  have hw : ∀ b lo hi x, Watch wr r cur b lo hi x → Watch (wr.alloc o) r cur b lo hi x := fun b lo hi x hx => hx.same (Below.heap_alloc wr o b hx.lt) hx.ahead
  refine ⟨⟨h.fr.os, h.fr.tape, h.fr.output, Nat.le_trans h.fr.size (by simp), fun k hk hn => ?_⟩, Nat.le_trans h.base (by simp), fun j a hj ha => hw _ _ _ _ (h.rows j a hj ha), fun j h1 h2 => ?_, h.long.alloc o, fun q hq => (h.entry q hq).same (Nat.le_refl _) hw⟩
  · rw [Below.heap_alloc wr o k (Nat.lt_of_lt_of_le hk h.fr.size)]
    exact h.fr.block k hk hn
  · obtain ⟨xs, hx⟩ := h.todo j h1 h2
    exact ⟨xs, hx.alloc o⟩
/-- list i begins to grow: its value is x, which owns its row -/
theorem Grow.begin {w wr : World} {B m : Nat} {vp : Nat → Option Addr} {vn vc : Nat → Nat} {i : Nat} {V : Value} {LL : List Value} {L : Nat} (hF : Fam w B L m vp vn vc) (h : Grow w wr B m vp vn vc i none 0 V LL) (hi : i < m) :
    Grow w wr B m vp vn vc (i + 1) (Value.slice (vp i) (vn i) (vc i)).ownBlock (vn i) V LL ∧ (∃ xs, IOw wr B (.slice (vp i) (vn i) (vc i)) (vn i) xs) ∧
      (∀ j a, i + 1 ≤ j → j < m → vp j = some a → (Value.slice (vp i) (vn i) (vc i)).ownBlock ≠ some a.block) := by
  have hb : ∀ a, vp i = some a → (Value.slice (vp i) (vn i) (vc i)).ownBlock = some a.block := fun a ha => by rw [ha]; rfl
  have hbn : ∀ g, (Value.slice (vp i) (vn i) (vc i)).ownBlock = some g → ∃ a, vp i = some a ∧ a.block = g := by
    intro g hg
    cases hp : vp i with
    | none => rw [hp] at hg; cases hg
    | some a => rw [hp] at hg; exact ⟨a, rfl, by simpa [Value.ownBlock] using hg⟩
  refine ⟨⟨h.fr, h.base, fun j a hj ha => ?_, fun j h1 h2 => h.todo j (by omega) h2, h.long, fun q hq => ?_⟩, h.todo i (Nat.le_refl _) hi, fun j a h1 h2 ha e => ?_⟩
  · have hx := h.rows j a hj ha
    refine hx.same rfl fun e => ?_
    obtain ⟨b, hb1, hb2⟩ := hbn _ e
    by_cases hji : j = i
    · subst hji; exact Nat.le_refl _
    · exact absurd hb2.symm (hF.apart j i a b hj hi hji ha hb1)
  · obtain ⟨b, len, cap, e, h1, h2, h3, h4⟩ := h.entry q hq
    refine ⟨b, len, cap, e, h1, h2, h3.same rfl fun e => ?_, fun j a hj => h4 j a (by omega)⟩
    obtain ⟨a, ha, hb2⟩ := hbn _ e
    exact absurd hb2 (h4 i a (Nat.le_refl _) hi ha)
  · obtain ⟨b, hb1, hb2⟩ := hbn _ e
    exact hF.apart i j b a hi h2 (by omega) hb1 ha hb2
/-- the list that grows: its row is one of the call's own, or one of the lists', and none that is still to come -/
structure Own (w wr : World) (B m : Nat) (vp : Nat → Option Addr) (i : Nat) (r : Option Nat) : Prop where
  far : ∀ j a, i ≤ j → j < m → vp j = some a → r ≠ some a.block
  kind : ∀ k, r = some k → (∃ cs, wr.heap[k]? = some (.cells cs 33 (0, 0))) ∧ B ≤ k
  whose : ∀ k, r = some k → w.heap.size ≤ k ∨ ∃ j a, j < m ∧ vp j = some a ∧ a.block = k
/-- the list that grows has grown by one -/
theorem Grow.append {w wr w' : World} {B L m : Nat} {vp : Nat → Option Addr} {vn vc : Nat → Nat} {i : Nat} {r : Option Nat} {cur : Nat} {V : Value} {LL : List Value} {g cap : Nat} {xs : List Im}
    (hF : Fam w B L m vp vn vc) (h : Grow w wr B m vp vn vc i r cur V LL) (ho : Own w wr B m vp i r)
    (hown : IOw w' B (.slice (some ⟨g, 0, none⟩) (cur + 1) cap) (cur + 1) xs) (hgrow : wr.grownBy w' r) (hat : r = some g ∨ g = wr.heap.size)
    (hkeep : ∀ k, r = some k → (∃ cs, w'.heap[k]? = some (.cells cs 33 (0, 0))) ∧ ∀ j, j < cur * 33 → w'.cell? ⟨k, j, none⟩ = wr.cell? ⟨k, j, none⟩) :
    Grow w w' B m vp vn vc i (some g) (cur + 1) V LL ∧ Own w w' B m vp i (some g) := by
  have hg5 : (∃ cs, w'.heap[g]? = some (.cells cs 33 (0, 0))) ∧ B ≤ g := by
    rcases own_at hown with ⟨h1, _⟩ | ⟨g', cs, h1, hb, hg⟩
    · cases h1
    · simp only [Option.some.injEq, Addr.mk.injEq, and_true] at h1
      subst h1
      exact ⟨⟨cs, hg⟩, hb⟩
  have hw : ∀ b lo hi x, Watch wr r cur b lo hi x → Watch w' (some g) (cur + 1) b lo hi x := by
    intro b lo hi x hx
    by_cases e : r = some b
    · have hle := hx.ahead e
      exact ⟨(hkeep b e).1, fun k h1 h2 j v hv => ((hkeep b e).2 (k * 33 + j) (by have := (List.getElem?_eq_some_iff.1 hv).1; rw [icells_len (zs_len 32)] at this; omega)).trans (hx.cells k h1 h2 j v hv), fun _ => by omega⟩
    · refine hx.same (hgrow.block b hx.lt (fun e2 => e e2.symm)) fun e2 => ?_
      simp only [Option.some.injEq] at e2
      subst e2
      rcases hat with hat | hat
      · exact absurd hat e
      · have := hx.lt; omega
  have hlow : ∀ j a, j < m → vp j = some a → a.block < w.heap.size := by
    intro j a hj ha
    obtain ⟨xs, hx⟩ := hF.rows j hj
    rcases own_at hx with ⟨h1, _⟩ | ⟨g', cs, h1, _, hg⟩
    · rw [ha] at h1; cases h1
    · rw [ha] at h1
      simp only [Option.some.injEq] at h1
      subst h1
      exact (Array.getElem?_eq_some_iff.1 hg).1
  have hsz := h.fr.size
  refine ⟨⟨⟨hgrow.os.trans h.fr.os, hgrow.tape.trans h.fr.tape, hgrow.output.trans h.fr.output, Nat.le_trans h.fr.size hgrow.size, fun k hk hn => ?_⟩, Nat.le_trans h.base hgrow.size, fun j a hj ha => hw _ _ _ _ (h.rows j a hj ha), fun j h1 h2 => ?_, ?_, fun q hq => (h.entry q hq).same (Nat.le_refl _) hw⟩, ⟨fun j a h1 h2 ha e => ?_, fun k e => ?_, fun k e => ?_⟩⟩
  · rw [hgrow.block k (Nat.lt_of_lt_of_le hk hsz) fun e => ?_]
    · exact h.fr.block k hk hn
    · rcases ho.whose k e.symm with hw1 | ⟨j, a, h1, h2, h3⟩
      · omega
      · exact hn j a h1 h2 h3
  · obtain ⟨ys, hy⟩ := h.todo j h1 h2
    refine ⟨ys, hy.kept hgrow ?_⟩
    cases hp : vp j with
    | none => left; rfl
    | some a => right; exact fun e => ho.far j a h1 h2 hp e.symm
  · refine h.long.kept hgrow ?_
    cases hv : V.ownBlock with
    | none => left; rfl
    | some k =>
      right
      intro e
      obtain ⟨cs, hcs⟩ := (ho.kind k e.symm).1
      rcases h.long.2 with ⟨h1, _⟩ | ⟨gV, capV, curV, h1, _, hgV, _⟩
      · rw [h1] at hv; cases hv
      · rw [h1] at hv
        simp only [Value.ownBlock, Option.some.injEq] at hv
        subst hv
        rw [hcs] at hgV
        simp at hgV
  · simp only [Option.some.injEq] at e
    rcases hat with hat | hat
    · rw [e] at hat
      exact ho.far j a h1 h2 ha hat
    · have := hlow j a h2 ha
      omega
  · simp only [Option.some.injEq] at e
    subst e
    exact hg5
  · simp only [Option.some.injEq] at e
    subst e
    rcases hat with hat | hat
    · exact ho.whose g hat
    · left; omega
/-- 'longer' has got one entry more: the list that grows, as it is now -/
theorem Grow.enter {w wr w' : World} {B m : Nat} {vp : Nat → Option Addr} {vn vc : Nat → Nat} {i : Nat} {g cap cur : Nat} {V V' : Value} {LL : List Value} {xs : List Im}
    (h : Grow w wr B m vp vn vc (i + 1) (some g) cur V LL) (ho : Own w wr B m vp (i + 1) (some g)) (hx : IOw wr B (.slice (some ⟨g, 0, none⟩) cur cap) cur (xs ++ rep (cur - vn i) (-1001 - (i : Int)))) (hxl : xs.length = vn i) (hcur : vn i ≤ cur) (hbig : cur ≤ 140737488355328)
    (hq : LL.length / 17 = i) (hown : w'.ownsRow w.heap.size 23 1 V' (LL.length + 1) (LL ++ [.slice (some ⟨g, 0, none⟩) cur cap])) (hgrow : wr.grownBy w' V.ownBlock) :
    Grow w w' B m vp vn vc (i + 1) (some g) cur V' (LL ++ [.slice (some ⟨g, 0, none⟩) cur cap]) ∧ Own w w' B m vp (i + 1) (some g) ∧ IOw w' B (.slice (some ⟨g, 0, none⟩) cur cap) cur (xs ++ rep (cur - vn i) (-1001 - (i : Int))) := by
  have hne : ∀ b, (∃ cs, wr.heap[b]? = some (.cells cs 33 (0, 0))) → some b ≠ V.ownBlock := by
    rintro b ⟨cs, hcs⟩ e
    rcases h.long.2 with ⟨h1, _⟩ | ⟨gV, capV, curV, h1, _, hgV, _⟩
    · rw [h1] at e; cases e
    · rw [h1] at e
      simp only [Value.ownBlock, Option.some.injEq] at e
      subst e
      rw [hcs] at hgV
      simp at hgV
  have hw : ∀ b lo hi x, Watch wr (some g) cur b lo hi x → Watch w' (some g) cur b lo hi x := fun b lo hi x hx => hx.same (hgrow.block b hx.lt (hne b hx.block)) hx.ahead
  have hsz := h.fr.size
  have hgk := ho.kind g rfl
  have hx' : IOw w' B (.slice (some ⟨g, 0, none⟩) cur cap) cur (xs ++ rep (cur - vn i) (-1001 - (i : Int))) := hx.kept hgrow (.inr (hne g hgk.1))
  refine ⟨⟨⟨hgrow.os.trans h.fr.os, hgrow.tape.trans h.fr.tape, hgrow.output.trans h.fr.output, Nat.le_trans h.fr.size hgrow.size, fun k hk hn => ?_⟩, Nat.le_trans h.base hgrow.size, fun j a hj ha => hw _ _ _ _ (h.rows j a hj ha), fun j h1 h2 => ?_, by simpa using hown, fun q hq2 => ?_⟩, ⟨ho.far, fun k e => ?_, ho.whose⟩, hx'⟩
  · rw [hgrow.block k (Nat.lt_of_lt_of_le hk hsz) fun e => by have := (h.long.lt k e.symm).1; omega]
    exact h.fr.block k hk hn
  · obtain ⟨ys, hy⟩ := h.todo j h1 h2
    refine ⟨ys, hy.kept hgrow ?_⟩
    rcases own_at hy with ⟨h3, _⟩ | ⟨g', cs, h3, _, hg'⟩
    · left; rw [h3]; rfl
    · right; rw [h3]; exact hne g' ⟨cs, hg'⟩
  · by_cases hlt : q < LL.length
    · rw [List.getElem_append_left hlt]
      exact (h.entry q hlt).same (Nat.le_refl _) hw
    · have hql : q = LL.length := by simp at hq2; omega
      subst hql
      rw [List.getElem_append_right (Nat.le_refl _)]
      simp only [Nat.sub_self, List.getElem_cons_zero]
      refine ⟨g, cur, cap, rfl, by rw [hq]; exact hcur, hbig, ?_, fun j a h1 h2 ha e => ho.far j a h1 h2 ha (by rw [e])⟩
      rw [hq]
      refine ⟨(hgk.1).elim fun cs hcs => ⟨cs, (hgrow.block g (Array.getElem?_eq_some_iff.1 hcs).1 (hne g hgk.1)).trans hcs⟩, fun k h1 h2 => ?_, fun _ => Nat.le_refl _⟩
      exact hx'.range (k := k) (x := mrk (-1001 - (i : Int))) (by rw [List.getElem?_append_right (by omega), List.getElem?_replicate, if_pos (by omega)])
  · simp only [Option.some.injEq] at e
    subst e
    exact ⟨hgk.1.elim fun cs hcs => ⟨cs, (hgrow.block g (Array.getElem?_eq_some_iff.1 hcs).1 (hne g hgk.1)).trans hcs⟩, hgk.2⟩
theorem Fam.shape {w : World} {B L m : Nat} {vp : Nat → Option Addr} {vn vc : Nat → Nat} (h : Fam w B L m vp vn vc) (i : Nat) (hi : i < m) (h0 : 0 < vn i) : ∃ g, vp i = some ⟨g, 0, none⟩ := by
  obtain ⟨xs, hx⟩ := h.rows i hi
  rcases own_at hx with ⟨_, h2⟩ | ⟨g, cs, h1, _, _⟩
  · omega
  · exact ⟨g, h1⟩
theorem Own.begin {w wr : World} {B m : Nat} {vp : Nat → Option Addr} {vn vc : Nat → Nat} {i : Nat} {xs : List Im} (hi : i < m) (hx : IOw wr B (.slice (vp i) (vn i) (vc i)) (vn i) xs)
    (hfar : ∀ j a, i + 1 ≤ j → j < m → vp j = some a → (Value.slice (vp i) (vn i) (vc i)).ownBlock ≠ some a.block) : Own w wr B m vp (i + 1) (Value.slice (vp i) (vn i) (vc i)).ownBlock := by
  rcases own_at hx with ⟨h1, _⟩ | ⟨g, cs, h1, hb, hg⟩
  · refine ⟨hfar, fun k e => ?_, fun k e => ?_⟩ <;> rw [h1] at e <;> cases e
  · refine ⟨hfar, fun k e => ?_, fun k e => ?_⟩ <;> rw [h1] at e <;> simp only [Value.ownBlock, Option.some.injEq] at e <;> subst e
    · exact ⟨⟨cs, hg⟩, hb⟩
    · exact .inr ⟨i, _, hi, h1, rfl⟩
theorem Own.alloc {w wr : World} {B m : Nat} {vp : Nat → Option Addr} {i : Nat} {r : Option Nat} (h : Own w wr B m vp i r) (o : Obj) : Own w (wr.alloc o) B m vp i r := by
  refine ⟨h.far, fun k e => ?_, h.whose⟩
  obtain ⟨⟨cs, hcs⟩, hb⟩ := h.kind k e
  exact ⟨⟨cs, (Below.heap_alloc wr o k (Array.getElem?_eq_some_iff.1 hcs).1).trans hcs⟩, hb⟩
/-- the next list -/
theorem Grow.next {w wr : World} {B m : Nat} {vp : Nat → Option Addr} {vn vc : Nat → Nat} {i : Nat} {r : Option Nat} {cur : Nat} {V : Value} {LL : List Value} (h : Grow w wr B m vp vn vc i r cur V LL) : Grow w wr B m vp vn vc i none 0 V LL := by
  have hw : ∀ b lo hi x, Watch wr r cur b lo hi x → Watch wr none 0 b lo hi x := fun b lo hi x hx => hx.same rfl fun e => by cases e
  exact ⟨h.fr, h.base, fun j a hj ha => hw _ _ _ _ (h.rows j a hj ha), h.todo, h.long, fun q hq => (h.entry q hq).same (Nat.le_refl _) hw⟩
end C
end Go.Proofs.Ythgkdpniaednaaa
