/-
  Layer 4: how a disk of the program lies in memory, and what a call may turn.
-/
import Derived.Test.YtefnkjajjidfaaaGreatDoorDBa
namespace Go.Proofs.YtefnkjajjidfaaaGreatDoor
open Go.RowKit
/-- what was there is as it was, but for the blocks of S -/
structure Kept (S : Nat → Prop) (w w' : World) : Prop where
  os : w'.os = w.os
  tape : w'.tape = w.tape
  output : w'.output = w.output
  size : w.heap.size ≤ w'.heap.size
  block : ∀ k, k < w.heap.size → ¬ S k → w'.heap[k]? = w.heap[k]?
/-- S, and all that is new -/
abbrev More (S : Nat → Prop) (w : World) : Nat → Prop := fun k => S k ∨ w.heap.size ≤ k
theorem Kept.refl (S : Nat → Prop) (w : World) : Kept S w w := ⟨rfl, rfl, rfl, Nat.le_refl _, fun _ _ _ => rfl⟩
theorem Kept.of_below {S : Nat → Prop} {w w' : World} (h : Below w.heap.size w w') : Kept S w w' := ⟨h.os, h.tape, h.output, h.size, fun k hk _ => h.block k hk⟩
theorem Kept.trans {S T : Nat → Prop} {a b c : World} (h : Kept S a b) (k : Kept T b c) (hs : ∀ i, i < a.heap.size → T i → S i) : Kept S a c :=
  ⟨k.os.trans h.os, k.tape.trans h.tape, k.output.trans h.output, Nat.le_trans h.size k.size, fun i hi hn => (k.block i (Nat.lt_of_lt_of_le hi h.size) (fun t => hn (hs i hi t))).trans (h.block i hi hn)⟩
theorem Kept.mono {S T : Nat → Prop} {a b : World} (h : Kept S a b) (hs : ∀ i, i < a.heap.size → S i → T i) : Kept T a b :=
  ⟨h.os, h.tape, h.output, h.size, fun i hi hn => h.block i hi (fun t => hn (hs i hi t))⟩
theorem Kept.then {S : Nat → Prop} {a b c : World} (h : Kept S a b) (k : Kept (More S a) b c) : Kept S a c :=
  h.trans k (fun i hi t => t.elim id (fun t => by omega))
theorem Kept.below {S : Nat → Prop} {w w' : World} (h : Kept S w w') {B : Nat} (hB : B ≤ w.heap.size) (hs : ∀ k, S k → B ≤ k) : Below B w w' :=
  ⟨h.os, h.tape, h.output, h.size, fun k hk => h.block k (by omega) (fun s => by have := hs k s; omega)⟩
theorem Kept.alloc {S : Nat → Prop} {a w : World} (h : Kept S a w) (o : Obj) : Kept S a (w.alloc o) :=
  h.trans (T := fun _ => False) (Kept.of_below (below_alloc w o)) (fun _ _ f => f.elim)
theorem Kept.drew {S : Nat → Prop} {a w : World} (h : Kept S a w) : Kept S a w.drew := ⟨h.os, h.tape, h.output, h.size, h.block⟩
theorem Kept.setCell {S : Nat → Prop} {a w : World} (h : Kept S a w) {p : Addr} (hp : p.block < a.heap.size → S p.block) (u : Value) : Kept S a (w.setCell p u) :=
  h.trans (T := fun k => k = p.block) ⟨rfl, rfl, rfl, by simp [World.setCell], fun k _ hk => Below.heap_setCell _ _ _ _ hk⟩ (fun i hi e => by subst e; exact hp hi)
theorem Kept.setCells {S : Nat → Prop} {a : World} {g : Nat} (hg : g < a.heap.size → S g) : ∀ (vs : List Value) (o : Nat) (w : World), Kept S a w → Kept S a (w.setCells g o vs)
  | [], _, _, h => h
  | v :: r, o, _, h => Kept.setCells hg r (o + 1) _ (h.setCell (p := ⟨g, o, none⟩) hg v)
theorem Kept.grown {S : Nat → Prop} {a w w' : World} {row : Option Nat} (h : Kept S a w) (hg : w.grownBy w' row) (hr : ∀ k, row = some k → k < a.heap.size → S k) : Kept S a w' :=
  h.trans (T := fun k => some k = row) ⟨hg.os, hg.tape, hg.output, hg.size, fun k hk hn => hg.block k hk hn⟩ (fun i hi e => hr i e.symm hi)
/-- a block of cells that may be written, of this type and size -/
def Blk (w : World) (g : Nat) (t : TypeId) (sz : Nat) : Prop := ∃ cur, w.heap[g]? = some (.cells cur t (0, 0)) ∧ cur.size = sz
theorem Blk.lt {w : World} {g t sz : Nat} (h : Blk w g t sz) : g < w.heap.size := by
  obtain ⟨cur, h, _⟩ := h; exact (Array.getElem?_eq_some_iff.1 h).1
theorem Blk.same {w w' : World} {g t sz : Nat} (h : Blk w g t sz) (e : w'.heap[g]? = w.heap[g]?) : Blk w' g t sz := by
  obtain ⟨cur, h, hs⟩ := h; exact ⟨cur, e.trans h, hs⟩
theorem Blk.there {w : World} {g t sz : Nat} (h : Blk w g t sz) (o n : Nat) (hn : o + n ≤ sz) : w.there g o n := fun j hj => by
  obtain ⟨cur, h, hs⟩ := h
  refine ⟨?_, frozen_of_row w g (o + j) _ t h⟩
  rw [cell_of_row w g (o + j) cur t (0, 0) h, Array.getElem?_eq_getElem (by omega)]
  rfl
theorem Blk.setCell {w : World} {g g' o t sz : Nat} (h : Blk w g t sz) (v : Value) : Blk (w.setCell ⟨g', o, none⟩ v) g t sz := by
  by_cases e : g = g'
  · subst e
    obtain ⟨cur, h, hs⟩ := h
    exact ⟨_, heap_setCell_same w g o cur t v h, by simpa using hs⟩
  · exact h.same (heap_setCell_other w ⟨g', o, none⟩ g v e)
theorem Blk.setCells {g g' t sz : Nat} : ∀ (vs : List Value) (o : Nat) (w : World), Blk w g t sz → Blk (w.setCells g' o vs) g t sz
  | [], _, _, h => h
  | v :: r, o, _, h => Blk.setCells r (o + 1) _ (h.setCell v)
theorem setCells_other {g k : Nat} (hk : k ≠ g) : ∀ (vs : List Value) (o : Nat) (w : World), (w.setCells g o vs).heap[k]? = w.heap[k]?
  | [], _, _ => rfl
  | v :: r, o, w => (setCells_other hk r (o + 1) (w.setCell ⟨g, o, none⟩ v)).trans (heap_setCell_other w ⟨g, o, none⟩ k v hk)
theorem setCells_drew (g : Nat) : ∀ (vs : List Value) (o : Nat) (w : World), w.drew.setCells g o vs = (w.setCells g o vs).drew
  | [], _, _ => rfl
  | v :: r, o, w => setCells_drew g r (o + 1) (w.setCell ⟨g, o, none⟩ v)
theorem below_setCells {B g : Nat} (hg : B ≤ g) : ∀ (vs : List Value) (o : Nat) (w w' : World), Below B w w' → Below B w (w'.setCells g o vs)
  | [], _, _, _, h => h
  | v :: r, o, w, w', h => below_setCells hg r (o + 1) w _ (h.setCell (by simpa using hg) v)
theorem Blk.ne {w : World} {g g' t t' sz sz' : Nat} (h : Blk w g t sz) (h' : Blk w g' t' sz') (ht : t ≠ t') : g ≠ g' := by
  rintro rfl
  obtain ⟨cur, h, _⟩ := h
  obtain ⟨cur', h', _⟩ := h'
  rw [h] at h'
  simp only [Option.some.injEq, Obj.cells.injEq] at h'
  exact ht h'.2.1
theorem rangeAt_same {w w' : World} {g o : Nat} {cs : List Value} (h : w.rangeAt g o cs) (e : w'.heap[g]? = w.heap[g]?) : w'.rangeAt g o cs := fun j v hv => by
  rw [World.cell?_of_block (w := w) (a := ⟨g, o + j, none⟩) e]; exact h j v hv
/-- how the places of a disk lie: D durable, N newest -/
structure Pl (w : World) (q n cap : Nat) (D N : Nat → List Int) : Prop where
  blk : Blk w q 118 (cap * 128)
  ncap : n ≤ cap
  cm : cap ≤ maxLen
  dl : ∀ i, i < n → (D i).length = 64
  nl : ∀ i, i < n → (N i).length = 64
  dur : ∀ i, i < n → w.rangeAt q (i * 128) (U8 (D i))
  new : ∀ i, i < n → w.rangeAt q (i * 128 + 64) (U8 (N i))
theorem Pl.same {w w' : World} {q n cap : Nat} {D N : Nat → List Int} (h : Pl w q n cap D N) (e : w'.heap[q]? = w.heap[q]?) : Pl w' q n cap D N :=
  ⟨h.blk.same e, h.ncap, h.cm, h.dl, h.nl, fun i hi => rangeAt_same (h.dur i hi) e, fun i hi => rangeAt_same (h.new i hi) e⟩
theorem Pl.congr {w : World} {q n cap : Nat} {D N D' N' : Nat → List Int} (h : Pl w q n cap D N) (hd : ∀ i, i < n → D i = D' i) (hn : ∀ i, i < n → N i = N' i) : Pl w q n cap D' N' :=
  ⟨h.blk, h.ncap, h.cm, fun i hi => by rw [← hd i hi]; exact h.dl i hi, fun i hi => by rw [← hn i hi]; exact h.nl i hi, fun i hi => by rw [← hd i hi]; exact h.dur i hi, fun i hi => by rw [← hn i hi]; exact h.new i hi⟩
/-- a sector's durable bytes stored -/
theorem Pl.setD {w : World} {q n cap s : Nat} {D N : Nat → List Int} (h : Pl w q n cap D N) (b : List Int) (hb : b.length = 64) (hs : s < n) : Pl (w.setCells q (s * 128) (U8 b)) q n cap (fun i => if i = s then b else D i) N := by
  refine ⟨Blk.setCells _ _ _ h.blk, h.ncap, h.cm, fun i hi => ?_, h.nl, fun i hi => ?_, fun i hi => ?_⟩
  · show (if i = s then b else D i).length = 64
    split
    · exact hb
    · exact h.dl i hi
  · show (w.setCells q (s * 128) (U8 b)).rangeAt q (i * 128) (U8 (if i = s then b else D i))
    split
    · rename_i e; subst e
      exact World.rangeAt_setCells_same _ _ _ _ (h.blk.there _ _ (by rw [U8_length]; have := h.ncap; omega))
    · exact World.rangeAt_setCells_apart (h.dur i hi) _ _ _ (by rw [U8_length, U8_length, hb, h.dl i hi]; omega)
  · exact World.rangeAt_setCells_apart (h.new i hi) _ _ _ (by rw [U8_length, U8_length, hb, h.nl i hi]; omega)
/-- a sector's newest bytes stored -/
theorem Pl.setN {w : World} {q n cap s : Nat} {D N : Nat → List Int} (h : Pl w q n cap D N) (b : List Int) (hb : b.length = 64) (hs : s < n) : Pl (w.setCells q (s * 128 + 64) (U8 b)) q n cap D (fun i => if i = s then b else N i) := by
  refine ⟨Blk.setCells _ _ _ h.blk, h.ncap, h.cm, h.dl, fun i hi => ?_, fun i hi => ?_, fun i hi => ?_⟩
  · show (if i = s then b else N i).length = 64
    split
    · exact hb
    · exact h.nl i hi
  · exact World.rangeAt_setCells_apart (h.dur i hi) _ _ _ (by rw [U8_length, U8_length, hb, h.dl i hi]; omega)
  · show (w.setCells q (s * 128 + 64) (U8 b)).rangeAt q (i * 128 + 64) (U8 (if i = s then b else N i))
    split
    · rename_i e; subst e
      exact World.rangeAt_setCells_same _ _ _ _ (h.blk.there _ _ (by rw [U8_length]; have := h.ncap; omega))
    · exact World.rangeAt_setCells_apart (h.new i hi) _ _ _ (by rw [U8_length, U8_length, hb, h.nl i hi]; omega)
/-- the cells of a write that waits -/
def wcell (x : Wr) : List Value := .int .i64 (x.s : Int) :: U8 x.b
def WC (ws : List Wr) : List Value := (ws.map wcell).flatten
theorem wcell_length {n : Nat} {ws : List Wr} (h : Fit n ws) : ∀ l ∈ ws.map wcell, l.length = 65 := fun l hl => by
  obtain ⟨x, hx, rfl⟩ := List.mem_map.1 hl
  simp [wcell, (h x hx).2.1]
theorem WC_length {n : Nat} {ws : List Wr} (h : Fit n ws) : (WC ws).length = ws.length * 65 := by
  unfold WC; rw [flat_length _ (wcell_length h)]; simp
theorem WC_snoc (ws : List Wr) (x : Wr) : WC (ws ++ [x]) = WC ws ++ wcell x := by simp [WC]
theorem wcell_ones (x : Wr) : ∀ u ∈ wcell x, u.oneCell' = true := fun u hu => by
  rcases List.mem_cons.1 hu with rfl | hu
  · rfl
  · exact ones_u8 _ u hu
theorem WC_ones (ws : List Wr) : ∀ u ∈ WC ws, u.oneCell' = true := fun u hu => by
  obtain ⟨l, hl, hu⟩ := List.mem_flatten.1 hu
  obtain ⟨x, _, rfl⟩ := List.mem_map.1 hl
  exact wcell_ones x u hu
/-- a row that is owned, as ranges -/
theorem own_range {w : World} {base e size : Nat} {g n cap : Nat} {xs : List Value} (h : w.ownsRow base e size (.slice (some ⟨g, 0, none⟩) n cap) n xs) : w.rangeAt g 0 xs := fun j v hv => by
  have := h.cells (g := g) rfl j v hv
  rwa [Addr.add_mid] at this
theorem own_range_part {w : World} {base e size : Nat} {g n cap : Nat} {xs ys : List Value} {o : Nat} (h : w.ownsRow base e size (.slice (some ⟨g, 0, none⟩) n cap) n xs) (hp : ∀ j v, ys[j]? = some v → xs[o + j]? = some v) : w.rangeAt g o ys := fun j v hv => by
  have := own_range h (o + j) v (hp j v hv)
  rwa [Nat.zero_add] at this
theorem own_blk {w : World} {base e size : Nat} {g n cap : Nat} {xs : List Value} (h : w.ownsRow base e size (.slice (some ⟨g, 0, none⟩) n cap) n xs) : Blk w g e (cap * size) ∧ n ≤ cap ∧ cap ≤ maxLen ∧ base ≤ g := by
  rcases h.2 with ⟨h', _⟩ | ⟨g', cap', cur, h', h1, hg, h2, h3, hsz, _⟩
  · simp at h'
  · simp only [Value.slice.injEq, Option.some.injEq, Addr.mk.injEq, and_true, true_and] at h'
    obtain ⟨rfl, rfl⟩ := h'
    exact ⟨⟨cur, hg, hsz⟩, h2, h3, h1⟩
theorem own_slice {w : World} {base e size : Nat} {v : Value} {n : Nat} {xs : List Value} (h : w.ownsRow base e size v n xs) : ∃ p cap, v = .slice p n cap ∧ (p = none → n = 0 ∧ cap = 0) ∧ (∀ a, p = some a → ∃ g, a = ⟨g, 0, none⟩) := by
  rcases h.2 with ⟨rfl, rfl⟩ | ⟨g, cap, cur, rfl, _⟩
  · exact ⟨none, 0, rfl, fun _ => ⟨rfl, rfl⟩, fun a e => (by cases e)⟩
  · exact ⟨_, cap, rfl, fun e => (by cases e), fun a e => (by cases e; exact ⟨g, rfl⟩)⟩
theorem own_same {w w' : World} {base e size : Nat} {v : Value} {n : Nat} {xs : List Value} (h : w.ownsRow base e size v n xs) (hb : ∀ k, v.ownBlock = some k → w'.heap[k]? = w.heap[k]?) : w'.ownsRow base e size v n xs := by
  refine ⟨h.1, ?_⟩
  rcases h.2 with hn | ⟨g, cap, cur, rfl, h1, hg, rest⟩
  · exact .inl hn
  · exact .inr ⟨g, cap, cur, rfl, h1, (hb g rfl).trans hg, rest⟩
theorem own_base {w : World} {base base' e size : Nat} {v : Value} {n : Nat} {xs : List Value} (h : w.ownsRow base e size v n xs) (hb : ∀ k, v.ownBlock = some k → base' ≤ k) : w.ownsRow base' e size v n xs := by
  refine ⟨h.1, ?_⟩
  rcases h.2 with hn | ⟨g, cap, cur, rfl, h1, rest⟩
  · exact .inl hn
  · exact .inr ⟨g, cap, cur, rfl, hb g rfl, rest⟩
theorem own_ownBlk {w : World} {base e size : Nat} {v : Value} {n : Nat} {xs : List Value} (h : w.ownsRow base e size v n xs) {k : Nat} (hk : v.ownBlock = some k) : ∃ sz, Blk w k e sz := by
  rcases h.2 with ⟨rfl, _⟩ | ⟨g, cap, cur, rfl, h1, hg, _, _, hsz, _⟩
  · simp [Value.ownBlock] at hk
  · simp only [Value.ownBlock, Option.some.injEq] at hk
    subst hk
    exact ⟨_, cur, hg, hsz⟩
/-- **a disk of the program**: its block p, n sectors, the durable bytes d, the waiting writes ws; all its blocks are S's -/
structure PD (w : World) (S : Nat → Prop) (p n : Nat) (d : List Int) (ws : List Wr) (q cap : Nat) (v : Value) : Prop where
  str : w.heap[p]? = some (.cells #[.slice (some ⟨q, 0, none⟩) n cap, v] 114 (0, 0))
  pl : Pl w q n cap (sec d) (newest ws d)
  wt : w.ownsRow 0 121 65 v ws.length (WC ws)
  sp : S p
  sq : S q
  sv : ∀ k, v.ownBlock = some k → S k
  n1 : 1 ≤ n
  n2 : n ≤ 4096
  dl : d.length = 64 * n
  db : Bytes d
  fit : Fit n ws
/-- whatever its inner blocks -/
def Dsk (w : World) (S : Nat → Prop) (p n : Nat) (d : List Int) (ws : List Wr) : Prop := ∃ q cap v, PD w S p n d ws q cap v
theorem PD.blk {w : World} {S : Nat → Prop} {p n : Nat} {d : List Int} {ws : List Wr} {q cap : Nat} {v : Value} (h : PD w S p n d ws q cap v) : Blk w p 114 2 := ⟨_, h.str, rfl⟩
theorem PD.pq {w : World} {S : Nat → Prop} {p n : Nat} {d : List Int} {ws : List Wr} {q cap : Nat} {v : Value} (h : PD w S p n d ws q cap v) : p ≠ q := h.blk.ne h.pl.blk (by decide)
theorem PD.pv {w : World} {S : Nat → Prop} {p n : Nat} {d : List Int} {ws : List Wr} {q cap : Nat} {v : Value} (h : PD w S p n d ws q cap v) : ∀ k, v.ownBlock = some k → k ≠ p ∧ k ≠ q := fun k hk => by
  obtain ⟨sz, hb⟩ := own_ownBlk h.wt hk
  exact ⟨hb.ne h.blk (by decide), hb.ne h.pl.blk (by decide)⟩
theorem PD.cell0 {w : World} {S : Nat → Prop} {p n : Nat} {d : List Int} {ws : List Wr} {q cap : Nat} {v : Value} (h : PD w S p n d ws q cap v) : w.cell? ⟨p, 0, none⟩ = some (.slice (some ⟨q, 0, none⟩) n cap) := by
  rw [cell_of_row w p 0 _ 114 (0, 0) h.str]; rfl
theorem PD.cell1 {w : World} {S : Nat → Prop} {p n : Nat} {d : List Int} {ws : List Wr} {q cap : Nat} {v : Value} (h : PD w S p n d ws q cap v) : w.cell? ⟨p, 1, none⟩ = some v := by
  rw [cell_of_row w p 1 _ 114 (0, 0) h.str]; rfl
theorem PD.free {w : World} {S : Nat → Prop} {p n : Nat} {d : List Int} {ws : List Wr} {q cap : Nat} {v : Value} (h : PD w S p n d ws q cap v) (j : Nat) : w.frozen? ⟨p, j, none⟩ = false := frozen_of_row w p j _ 114 h.str
/-- in a later world that left its blocks alone -/
theorem PD.same {w w' : World} {S T : Nat → Prop} {p n : Nat} {d : List Int} {ws : List Wr} {q cap : Nat} {v : Value} (h : PD w S p n d ws q cap v) (hs : ∀ k, k < w.heap.size → S k → T k) (e : ∀ k, k < w.heap.size → S k → w'.heap[k]? = w.heap[k]?) : PD w' T p n d ws q cap v :=
  have hp := h.blk.lt
  have hq := h.pl.blk.lt
  have hv : ∀ k, v.ownBlock = some k → k < w.heap.size := fun _ hk => (own_ownBlk h.wt hk).elim fun _ hb => hb.lt
  ⟨(e p hp h.sp).trans h.str, h.pl.same (e q hq h.sq), own_same h.wt (fun k hk => e k (hv k hk) (h.sv k hk)), hs p hp h.sp, hs q hq h.sq, fun k hk => hs k (hv k hk) (h.sv k hk), h.n1, h.n2, h.dl, h.db, h.fit⟩
theorem PD.later {w w' : World} {S : Nat → Prop} {p n : Nat} {d : List Int} {ws : List Wr} {q cap : Nat} {v : Value} (h : PD w S p n d ws q cap v) (hb : Below w.heap.size w w') : PD w' S p n d ws q cap v :=
  h.same (fun _ _ => id) (fun k' hk' _ => hb.block k' hk')
/-- while another one is turned -/
theorem PD.kept {w w' : World} {S T : Nat → Prop} {p n : Nat} {d : List Int} {ws : List Wr} {q cap : Nat} {v : Value} (h : PD w S p n d ws q cap v) (hk : Kept T w w') (hd : ∀ k, S k → T k → False) : PD w' S p n d ws q cap v :=
  h.same (fun _ _ => id) (fun k hk' hs => hk.block k hk' (fun t => hd k hs t))
theorem Dsk.later {w w' : World} {S : Nat → Prop} {p n : Nat} {d : List Int} {ws : List Wr} (h : Dsk w S p n d ws) (hb : Below w.heap.size w w') : Dsk w' S p n d ws := by
  obtain ⟨q, cap, v, h⟩ := h; exact ⟨q, cap, v, h.later hb⟩
theorem Dsk.kept {w w' : World} {S T : Nat → Prop} {p n : Nat} {d : List Int} {ws : List Wr} (h : Dsk w S p n d ws) (hk : Kept T w w') (hd : ∀ k, S k → T k → False) : Dsk w' S p n d ws := by
  obtain ⟨q, cap, v, h⟩ := h; exact ⟨q, cap, v, h.kept hk hd⟩
theorem Dsk.mono {w : World} {S T : Nat → Prop} {p n : Nat} {d : List Int} {ws : List Wr} (h : Dsk w S p n d ws) (hs : ∀ k, k < w.heap.size → S k → T k) : Dsk w T p n d ws := by
  obtain ⟨q, cap, v, h⟩ := h; exact ⟨q, cap, v, h.same hs (fun _ _ _ => rfl)⟩
end Go.Proofs.YtefnkjajjidfaaaGreatDoor
