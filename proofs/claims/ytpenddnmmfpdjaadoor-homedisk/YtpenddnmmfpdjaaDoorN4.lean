/-
  What any walk over bytes wants: how a []byte lies, how parts lie, laws for append. (Our own texts of layer 1, written for this seat.) Layer 4: how a disk of the program lies in memory, and what a call may turn. Contracts of layer 4, first part: refuses, Len, bytes.Clone, New, Read. Layer 4: what the operations on a write and on a place do, said once: no cell by cell.
-/
import Derived.Test.YtpenddnmmfpdjaaDoorN1
import Derived.Test.YtpenddnmmfpdjaaDoorN3
import Derived.Below
import Derived.WalkKit
import Derived.WalkSpells
import Derived.WalkLawsBesides
import Derived.Deep.MidRow
import Derived.Deep.AppendLies
import Derived.Laws.BytesString
import Derived.Laws.BytesArg
import Derived.Laws.AppendOwn
import Derived.Laws.MakeOwn
import Derived.Laws.OwnMore
import Derived.Laws.AppendOwnNone
import Derived.Laws.CopyOwn
import Derived.Deep.RegionHeld3
import Derived.Laws.Cover3
import Derived.Great.FillDense
import Derived.Great.BuildSlice
namespace Go.Proofs.YtpenddnmmfpdjaaDoor
open Go.RowKit
theorem or_map {a b c d : Prop} (h : a ∨ b) (f : a → c) (g : b → d) : c ∨ d := by
  rcases h with h | h
  · exact .inl (f h)
  · exact .inr (g h)
theorem step_append_own {P : Program} {w : World} {ops : Array Oper} {o : Oper} {a : Act} {K : Act → World → Prop} {Q : Exit → Act → World → Prop} {E : Prop} (hgd : o.guard = none) (s x : Operand) (t : TypeId)
    (ho : o.op = .call { callee := .builtin .append, args := #[s, x], argTypes := #[t, t] })
    (base : Nat) (e : TypeId) (i : TypeInfo) (z : Value) (size bytes : Nat) (ht : P.underlying t = some (.slice e)) (hi : P.info? e = some i) (hz : i.zero = some z)
    (hsize : i.size = size) (hby : i.bytes = bytes) (hzs : z.cells.size = size) (hsz : 0 < size)
    (v : Value) (n : Nat) (xs : List Value) (hs : a.eval s = v) (hown : w.ownsRow base e size v n xs)
    (ad : Addr) (m c : Nat) (news : List Value) (hx : a.eval x = .slice (some ad) m c) (hl : news.length = m * size) (hnews : ∀ j u, news[j]? = some u → w.cell? (ad.add j) = some u) (h1 : ∀ u ∈ news, u.oneCell' = true)
    (h63 : n + m ≤ maxLen) (hbytes : (n + m) * bytes ≤ 140737488355328) (hbase : base ≤ w.heap.size)
    (h : ∀ v' w', w'.ownsRow base e size v' (n + m) (xs ++ news) → w.grownBy w' v.ownBlock → K (a.put o.dst v') w') :
    if Region.wanted o (yielded ops a.tmps) = true then Oper.wp P o a w K Q else E := by
  have hw : Region.wanted o (yielded ops a.tmps) = true := by simp [Region.wanted, hgd]
  rw [if_pos hw]
  exact wp_append_own w s x t ho base e i z size bytes ht hi hz hsize hby hzs hsz v n xs hs hown ad m c news hx hl hnews h1 h63 hbytes hbase fun v' w' a b _ => h v' w' a b
end Go.Proofs.YtpenddnmmfpdjaaDoor
namespace Go.Proofs.YtpenddnmmfpdjaaDoor
open Go.RowKit
/-- what was there is as it was, but for the blocks of S -/
structure Kept (S : Nat → Prop) (w w' : World) : Prop where
  os : w'.os = w.os
  tape : w'.tape = w.tape
  output : w'.output = w.output
  size : w.heap.size ≤ w'.heap.size
  block : ∀ k, k < w.heap.size → ¬ S k → w'.heap[k]? = w.heap[k]?
/-- S, and all that is new -/
abbrev More (S : Nat → Prop) (w : World) : Nat → Prop := fun k => S k ∨ w.heap.size ≤ k
theorem Kept.refl (S : Nat → Prop) (w : World) : Kept S w w := ⟨rfl, rfl, rfl, Nat.le_refl _, fun _ _ _ => rfl⟩
theorem Kept.of_below {S : Nat → Prop} {w w' : World} (h : Below w.heap.size w w') : Kept S w w' := ⟨h.os, h.tape, h.output, h.size, fun k hk _ => h.block k hk⟩
theorem Kept.trans {S T : Nat → Prop} {a b c : World} (h : Kept S a b) (k : Kept T b c) (hs : ∀ i, i < a.heap.size → T i → S i) : Kept S a c :=
  ⟨k.os.trans h.os, k.tape.trans h.tape, k.output.trans h.output, Nat.le_trans h.size k.size, fun i hi hn => (k.block i (Nat.lt_of_lt_of_le hi h.size) (fun t => hn (hs i hi t))).trans (h.block i hi hn)⟩
theorem Kept.mono {S T : Nat → Prop} {a b : World} (h : Kept S a b) (hs : ∀ i, i < a.heap.size → S i → T i) : Kept T a b :=
  ⟨h.os, h.tape, h.output, h.size, fun i hi hn => h.block i hi (fun t => hn (hs i hi t))⟩
theorem Kept.then {S : Nat → Prop} {a b c : World} (h : Kept S a b) (k : Kept (More S a) b c) : Kept S a c :=
  h.trans k (fun i hi t => t.elim id (fun t => by omega))
theorem Kept.below {S : Nat → Prop} {w w' : World} (h : Kept S w w') {B : Nat} (hB : B ≤ w.heap.size) (hs : ∀ k, S k → B ≤ k) : Below B w w' :=
  ⟨h.os, h.tape, h.output, h.size, fun k hk => h.block k (by omega) (fun s => by have := hs k s; omega)⟩
theorem Kept.alloc {S : Nat → Prop} {a w : World} (h : Kept S a w) (o : Obj) : Kept S a (w.alloc o) :=
  h.trans (T := fun _ => False) (Kept.of_below (below_alloc w o)) (fun _ _ f => f.elim)
theorem Kept.drew {S : Nat → Prop} {a w : World} (h : Kept S a w) : Kept S a w.drew := ⟨h.os, h.tape, h.output, h.size, h.block⟩
theorem Kept.setCell {S : Nat → Prop} {a w : World} (h : Kept S a w) {p : Addr} (hp : p.block < a.heap.size → S p.block) (u : Value) : Kept S a (w.setCell p u) :=
  h.trans (T := fun k => k = p.block) ⟨rfl, rfl, rfl, by simp [World.setCell], fun k _ hk => Below.heap_setCell _ _ _ _ hk⟩ (fun i hi e => by subst e; exact hp hi)
theorem Kept.setCells {S : Nat → Prop} {a : World} {g : Nat} (hg : g < a.heap.size → S g) : ∀ (vs : List Value) (o : Nat) (w : World), Kept S a w → Kept S a (w.setCells g o vs)
  | [], _, _, h => h
  | v :: r, o, _, h => Kept.setCells hg r (o + 1) _ (h.setCell (p := ⟨g, o, none⟩) hg v)
theorem Kept.grown {S : Nat → Prop} {a w w' : World} {row : Option Nat} (h : Kept S a w) (hg : w.grownBy w' row) (hr : ∀ k, row = some k → k < a.heap.size → S k) : Kept S a w' :=
  h.trans (T := fun k => some k = row) ⟨hg.os, hg.tape, hg.output, hg.size, fun k hk hn => hg.block k hk hn⟩ (fun i hi e => hr i e.symm hi)
/-- a block of cells that may be written, of this type and size -/
def Blk (w : World) (g : Nat) (t : TypeId) (sz : Nat) : Prop := ∃ cur, w.heap[g]? = some (.cells cur t (0, 0)) ∧ cur.size = sz
theorem Blk.lt {w : World} {g t sz : Nat} (h : Blk w g t sz) : g < w.heap.size := by
  obtain ⟨cur, h, _⟩ := h; exact (Array.getElem?_eq_some_iff.1 h).1
theorem Blk.same {w w' : World} {g t sz : Nat} (h : Blk w g t sz) (e : w'.heap[g]? = w.heap[g]?) : Blk w' g t sz := by
  obtain ⟨cur, h, hs⟩ := h; exact ⟨cur, e.trans h, hs⟩
theorem Blk.there {w : World} {g t sz : Nat} (h : Blk w g t sz) (o n : Nat) (hn : o + n ≤ sz) : w.there g o n := fun j hj => by
  obtain ⟨cur, h, hs⟩ := h
  refine ⟨?_, frozen_of_row w g (o + j) _ t h⟩
  rw [cell_of_row w g (o + j) cur t (0, 0) h, Array.getElem?_eq_getElem (by omega)]
  rfl
theorem Blk.setCell {w : World} {g g' o t sz : Nat} (h : Blk w g t sz) (v : Value) : Blk (w.setCell ⟨g', o, none⟩ v) g t sz := by
  by_cases e : g = g'
  · subst e
    obtain ⟨cur, h, hs⟩ := h
    exact ⟨_, heap_setCell_same w g o cur t v h, by simpa using hs⟩
  · exact h.same (heap_setCell_other w ⟨g', o, none⟩ g v e)
theorem Blk.setCells {g g' t sz : Nat} : ∀ (vs : List Value) (o : Nat) (w : World), Blk w g t sz → Blk (w.setCells g' o vs) g t sz
  | [], _, _, h => h
  | v :: r, o, _, h => Blk.setCells r (o + 1) _ (h.setCell v)
theorem setCells_other {g k : Nat} (hk : k ≠ g) : ∀ (vs : List Value) (o : Nat) (w : World), (w.setCells g o vs).heap[k]? = w.heap[k]?
  | [], _, _ => rfl
  | v :: r, o, w => (setCells_other hk r (o + 1) (w.setCell ⟨g, o, none⟩ v)).trans (heap_setCell_other w ⟨g, o, none⟩ k v hk)
theorem setCells_drew (g : Nat) : ∀ (vs : List Value) (o : Nat) (w : World), w.drew.setCells g o vs = (w.setCells g o vs).drew
  | [], _, _ => rfl
  | v :: r, o, w => setCells_drew g r (o + 1) (w.setCell ⟨g, o, none⟩ v)
theorem below_setCells {B g : Nat} (hg : B ≤ g) : ∀ (vs : List Value) (o : Nat) (w w' : World), Below B w w' → Below B w (w'.setCells g o vs)
  | [], _, _, _, h => h
  | v :: r, o, w, w', h => below_setCells hg r (o + 1) w _ (h.setCell (by simpa using hg) v)
theorem Blk.ne {w : World} {g g' t t' sz sz' : Nat} (h : Blk w g t sz) (h' : Blk w g' t' sz') (ht : t ≠ t') : g ≠ g' := by
  rintro rfl
  obtain ⟨cur, h, _⟩ := h
  obtain ⟨cur', h', _⟩ := h'
  rw [h] at h'
  simp only [Option.some.injEq, Obj.cells.injEq] at h'
  exact ht h'.2.1
theorem rangeAt_same {w w' : World} {g o : Nat} {cs : List Value} (h : w.rangeAt g o cs) (e : w'.heap[g]? = w.heap[g]?) : w'.rangeAt g o cs := fun j v hv => by
  rw [World.cell?_of_block (w := w) (a := ⟨g, o + j, none⟩) e]; exact h j v hv
/-- how the places of a disk lie: D durable, N newest -/
structure Pl (w : World) (q n cap : Nat) (D N : Nat → List Int) : Prop where
  blk : Blk w q 104 (cap * 128)
  ncap : n ≤ cap
  cm : cap ≤ maxLen
  dl : ∀ i, i < n → (D i).length = 64
  nl : ∀ i, i < n → (N i).length = 64
  dur : ∀ i, i < n → w.rangeAt q (i * 128) (U8 (D i))
  new : ∀ i, i < n → w.rangeAt q (i * 128 + 64) (U8 (N i))
theorem Pl.same {w w' : World} {q n cap : Nat} {D N : Nat → List Int} (h : Pl w q n cap D N) (e : w'.heap[q]? = w.heap[q]?) : Pl w' q n cap D N :=
  ⟨h.blk.same e, h.ncap, h.cm, h.dl, h.nl, fun i hi => rangeAt_same (h.dur i hi) e, fun i hi => rangeAt_same (h.new i hi) e⟩
theorem Pl.congr {w : World} {q n cap : Nat} {D N D' N' : Nat → List Int} (h : Pl w q n cap D N) (hd : ∀ i, i < n → D i = D' i) (hn : ∀ i, i < n → N i = N' i) : Pl w q n cap D' N' :=
  ⟨h.blk, h.ncap, h.cm, fun i hi => by rw [← hd i hi]; exact h.dl i hi, fun i hi => by rw [← hn i hi]; exact h.nl i hi, fun i hi => by rw [← hd i hi]; exact h.dur i hi, fun i hi => by rw [← hn i hi]; exact h.new i hi⟩
/-- a sector's durable bytes stored -/
theorem Pl.setD {w : World} {q n cap s : Nat} {D N : Nat → List Int} (h : Pl w q n cap D N) (b : List Int) (hb : b.length = 64) (hs : s < n) : Pl (w.setCells q (s * 128) (U8 b)) q n cap (fun i => if i = s then b else D i) N := by
  refine ⟨Blk.setCells _ _ _ h.blk, h.ncap, h.cm, fun i hi => ?_, h.nl, fun i hi => ?_, fun i hi => ?_⟩
  · show (if i = s then b else D i).length = 64
    split
    · exact hb
    · exact h.dl i hi
  · show (w.setCells q (s * 128) (U8 b)).rangeAt q (i * 128) (U8 (if i = s then b else D i))
    split
    · rename_i e; subst e
      exact World.rangeAt_setCells_same _ _ _ _ (h.blk.there _ _ (by rw [U8_length]; have := h.ncap; omega))
    · exact World.rangeAt_setCells_apart (h.dur i hi) _ _ _ (by rw [U8_length, U8_length, hb, h.dl i hi]; omega)
  · exact World.rangeAt_setCells_apart (h.new i hi) _ _ _ (by rw [U8_length, U8_length, hb, h.nl i hi]; omega)
/-- a sector's newest bytes stored -/
theorem Pl.setN {w : World} {q n cap s : Nat} {D N : Nat → List Int} (h : Pl w q n cap D N) (b : List Int) (hb : b.length = 64) (hs : s < n) : Pl (w.setCells q (s * 128 + 64) (U8 b)) q n cap D (fun i => if i = s then b else N i) := by
  refine ⟨Blk.setCells _ _ _ h.blk, h.ncap, h.cm, h.dl, fun i hi => ?_, fun i hi => ?_, fun i hi => ?_⟩
  · show (if i = s then b else N i).length = 64
    split
    · exact hb
    · exact h.nl i hi
  · exact World.rangeAt_setCells_apart (h.dur i hi) _ _ _ (by rw [U8_length, U8_length, hb, h.dl i hi]; omega)
  · show (w.setCells q (s * 128 + 64) (U8 b)).rangeAt q (i * 128 + 64) (U8 (if i = s then b else N i))
    split
    · rename_i e; subst e
      exact World.rangeAt_setCells_same _ _ _ _ (h.blk.there _ _ (by rw [U8_length]; have := h.ncap; omega))
    · exact World.rangeAt_setCells_apart (h.new i hi) _ _ _ (by rw [U8_length, U8_length, hb, h.nl i hi]; omega)
/-- the cells of a write that waits -/
def wcell (x : Wr) : List Value := .int .i64 (x.s : Int) :: U8 x.b
def WC (ws : List Wr) : List Value := (ws.map wcell).flatten
theorem wcell_length {n : Nat} {ws : List Wr} (h : Fit n ws) : ∀ l ∈ ws.map wcell, l.length = 65 := fun l hl => by
  obtain ⟨x, hx, rfl⟩ := List.mem_map.1 hl
  simp [wcell, (h x hx).2.1]
theorem WC_length {n : Nat} {ws : List Wr} (h : Fit n ws) : (WC ws).length = ws.length * 65 := by
  unfold WC; rw [flat_length _ (wcell_length h)]; simp
theorem WC_snoc (ws : List Wr) (x : Wr) : WC (ws ++ [x]) = WC ws ++ wcell x := by simp [WC]
theorem wcell_ones (x : Wr) : ∀ u ∈ wcell x, u.oneCell' = true := fun u hu => by
  rcases List.mem_cons.1 hu with rfl | hu
  · rfl
  · exact ones_u8 _ u hu
theorem WC_ones (ws : List Wr) : ∀ u ∈ WC ws, u.oneCell' = true := fun u hu => by
  obtain ⟨l, hl, hu⟩ := List.mem_flatten.1 hu
  obtain ⟨x, _, rfl⟩ := List.mem_map.1 hl
  exact wcell_ones x u hu
/-- a row that is owned, as ranges -/
theorem own_range {w : World} {base e size : Nat} {g n cap : Nat} {xs : List Value} (h : w.ownsRow base e size (.slice (some ⟨g, 0, none⟩) n cap) n xs) : w.rangeAt g 0 xs := fun j v hv => by
  have := h.cells (g := g) rfl j v hv
  rwa [Addr.add_mid] at this
theorem own_range_part {w : World} {base e size : Nat} {g n cap : Nat} {xs ys : List Value} {o : Nat} (h : w.ownsRow base e size (.slice (some ⟨g, 0, none⟩) n cap) n xs) (hp : ∀ j v, ys[j]? = some v → xs[o + j]? = some v) : w.rangeAt g o ys := fun j v hv => by
  have := own_range h (o + j) v (hp j v hv)
  rwa [Nat.zero_add] at this
theorem own_blk {w : World} {base e size : Nat} {g n cap : Nat} {xs : List Value} (h : w.ownsRow base e size (.slice (some ⟨g, 0, none⟩) n cap) n xs) : Blk w g e (cap * size) ∧ n ≤ cap ∧ cap ≤ maxLen ∧ base ≤ g := by
  rcases h.2 with ⟨h', _⟩ | ⟨g', cap', cur, h', h1, hg, h2, h3, hsz, _⟩
  · simp at h'
  · simp only [Value.slice.injEq, Option.some.injEq, Addr.mk.injEq, and_true, true_and] at h'
    obtain ⟨rfl, rfl⟩ := h'
    exact ⟨⟨cur, hg, hsz⟩, h2, h3, h1⟩
theorem own_slice {w : World} {base e size : Nat} {v : Value} {n : Nat} {xs : List Value} (h : w.ownsRow base e size v n xs) : ∃ p cap, v = .slice p n cap ∧ (p = none → n = 0 ∧ cap = 0) ∧ (∀ a, p = some a → ∃ g, a = ⟨g, 0, none⟩) := by
  rcases h.2 with ⟨rfl, rfl⟩ | ⟨g, cap, cur, rfl, _⟩
  · exact ⟨none, 0, rfl, fun _ => ⟨rfl, rfl⟩, fun a e => (by cases e)⟩
  · exact ⟨_, cap, rfl, fun e => (by cases e), fun a e => (by cases e; exact ⟨g, rfl⟩)⟩
theorem own_same {w w' : World} {base e size : Nat} {v : Value} {n : Nat} {xs : List Value} (h : w.ownsRow base e size v n xs) (hb : ∀ k, v.ownBlock = some k → w'.heap[k]? = w.heap[k]?) : w'.ownsRow base e size v n xs := by
  refine ⟨h.1, ?_⟩
  rcases h.2 with hn | ⟨g, cap, cur, rfl, h1, hg, rest⟩
  · exact .inl hn
  · exact .inr ⟨g, cap, cur, rfl, h1, (hb g rfl).trans hg, rest⟩
theorem own_base {w : World} {base base' e size : Nat} {v : Value} {n : Nat} {xs : List Value} (h : w.ownsRow base e size v n xs) (hb : ∀ k, v.ownBlock = some k → base' ≤ k) : w.ownsRow base' e size v n xs := by
  refine ⟨h.1, ?_⟩
  rcases h.2 with hn | ⟨g, cap, cur, rfl, h1, rest⟩
  · exact .inl hn
  · exact .inr ⟨g, cap, cur, rfl, hb g rfl, rest⟩
theorem own_ownBlk {w : World} {base e size : Nat} {v : Value} {n : Nat} {xs : List Value} (h : w.ownsRow base e size v n xs) {k : Nat} (hk : v.ownBlock = some k) : ∃ sz, Blk w k e sz := by
  rcases h.2 with ⟨rfl, _⟩ | ⟨g, cap, cur, rfl, h1, hg, _, _, hsz, _⟩
  · simp [Value.ownBlock] at hk
  · simp only [Value.ownBlock, Option.some.injEq] at hk
    subst hk
    exact ⟨_, cur, hg, hsz⟩
/-- **a disk of the program**: its block p, n sectors, the durable bytes d, the waiting writes ws; all its blocks are S's -/
structure PD (w : World) (S : Nat → Prop) (p n : Nat) (d : List Int) (ws : List Wr) (q cap : Nat) (v : Value) : Prop where
  str : w.heap[p]? = some (.cells #[.slice (some ⟨q, 0, none⟩) n cap, v] 97 (0, 0))
  pl : Pl w q n cap (sec d) (newest ws d)
  wt : w.ownsRow 0 100 65 v ws.length (WC ws)
  sp : S p
  sq : S q
  sv : ∀ k, v.ownBlock = some k → S k
  n1 : 1 ≤ n
  n2 : n ≤ 4096
  dl : d.length = 64 * n
  db : Bytes d
  fit : Fit n ws
/-- whatever its inner blocks -/
def Dsk (w : World) (S : Nat → Prop) (p n : Nat) (d : List Int) (ws : List Wr) : Prop := ∃ q cap v, PD w S p n d ws q cap v
theorem PD.blk {w : World} {S : Nat → Prop} {p n : Nat} {d : List Int} {ws : List Wr} {q cap : Nat} {v : Value} (h : PD w S p n d ws q cap v) : Blk w p 97 2 := ⟨_, h.str, rfl⟩
theorem PD.pq {w : World} {S : Nat → Prop} {p n : Nat} {d : List Int} {ws : List Wr} {q cap : Nat} {v : Value} (h : PD w S p n d ws q cap v) : p ≠ q := h.blk.ne h.pl.blk (by decide)
theorem PD.pv {w : World} {S : Nat → Prop} {p n : Nat} {d : List Int} {ws : List Wr} {q cap : Nat} {v : Value} (h : PD w S p n d ws q cap v) : ∀ k, v.ownBlock = some k → k ≠ p ∧ k ≠ q := fun k hk => by
  obtain ⟨sz, hb⟩ := own_ownBlk h.wt hk
  exact ⟨hb.ne h.blk (by decide), hb.ne h.pl.blk (by decide)⟩
theorem PD.cell0 {w : World} {S : Nat → Prop} {p n : Nat} {d : List Int} {ws : List Wr} {q cap : Nat} {v : Value} (h : PD w S p n d ws q cap v) : w.cell? ⟨p, 0, none⟩ = some (.slice (some ⟨q, 0, none⟩) n cap) := by
  rw [cell_of_row w p 0 _ 97 (0, 0) h.str]; rfl
theorem PD.cell1 {w : World} {S : Nat → Prop} {p n : Nat} {d : List Int} {ws : List Wr} {q cap : Nat} {v : Value} (h : PD w S p n d ws q cap v) : w.cell? ⟨p, 1, none⟩ = some v := by
  rw [cell_of_row w p 1 _ 97 (0, 0) h.str]; rfl
theorem PD.free {w : World} {S : Nat → Prop} {p n : Nat} {d : List Int} {ws : List Wr} {q cap : Nat} {v : Value} (h : PD w S p n d ws q cap v) (j : Nat) : w.frozen? ⟨p, j, none⟩ = false := frozen_of_row w p j _ 97 h.str
/-- in a later world that left its blocks alone -/
theorem PD.same {w w' : World} {S T : Nat → Prop} {p n : Nat} {d : List Int} {ws : List Wr} {q cap : Nat} {v : Value} (h : PD w S p n d ws q cap v) (hs : ∀ k, k < w.heap.size → S k → T k) (e : ∀ k, k < w.heap.size → S k → w'.heap[k]? = w.heap[k]?) : PD w' T p n d ws q cap v :=
  have hp := h.blk.lt
  have hq := h.pl.blk.lt
  have hv : ∀ k, v.ownBlock = some k → k < w.heap.size := fun _ hk => (own_ownBlk h.wt hk).elim fun _ hb => hb.lt
  ⟨(e p hp h.sp).trans h.str, h.pl.same (e q hq h.sq), own_same h.wt (fun k hk => e k (hv k hk) (h.sv k hk)), hs p hp h.sp, hs q hq h.sq, fun k hk => hs k (hv k hk) (h.sv k hk), h.n1, h.n2, h.dl, h.db, h.fit⟩
theorem PD.later {w w' : World} {S : Nat → Prop} {p n : Nat} {d : List Int} {ws : List Wr} {q cap : Nat} {v : Value} (h : PD w S p n d ws q cap v) (hb : Below w.heap.size w w') : PD w' S p n d ws q cap v :=
  h.same (fun _ _ => id) (fun k' hk' _ => hb.block k' hk')
/-- while another one is turned -/
theorem PD.kept {w w' : World} {S T : Nat → Prop} {p n : Nat} {d : List Int} {ws : List Wr} {q cap : Nat} {v : Value} (h : PD w S p n d ws q cap v) (hk : Kept T w w') (hd : ∀ k, S k → T k → False) : PD w' S p n d ws q cap v :=
  h.same (fun _ _ => id) (fun k hk' hs => hk.block k hk' (fun t => hd k hs t))
theorem Dsk.later {w w' : World} {S : Nat → Prop} {p n : Nat} {d : List Int} {ws : List Wr} (h : Dsk w S p n d ws) (hb : Below w.heap.size w w') : Dsk w' S p n d ws := by
  obtain ⟨q, cap, v, h⟩ := h; exact ⟨q, cap, v, h.later hb⟩
theorem Dsk.kept {w w' : World} {S T : Nat → Prop} {p n : Nat} {d : List Int} {ws : List Wr} (h : Dsk w S p n d ws) (hk : Kept T w w') (hd : ∀ k, S k → T k → False) : Dsk w' S p n d ws := by
  obtain ⟨q, cap, v, h⟩ := h; exact ⟨q, cap, v, h.kept hk hd⟩
theorem Dsk.mono {w : World} {S T : Nat → Prop} {p n : Nat} {d : List Int} {ws : List Wr} (h : Dsk w S p n d ws) (hs : ∀ k, k < w.heap.size → S k → T k) : Dsk w T p n d ws := by
  obtain ⟨q, cap, v, h⟩ := h; exact ⟨q, cap, v, h.same hs (fun _ _ _ => rfl)⟩
end Go.Proofs.YtpenddnmmfpdjaaDoor
namespace Go.Proofs.YtpenddnmmfpdjaaDoor
open Go.RowKit
theorem info71 : (Tryd.prog.info? 104).map (fun i => (i.zero, i.size, i.bytes)) = some (some (.agg (List.replicate 128 (Value.int .u8 0)).toArray), 128, 128) := by kernel_rfl
theorem info80 : (Tryd.prog.info? 100).map (fun i => (i.zero, i.size, i.bytes)) = some (some (.agg (.int .i64 0 :: List.replicate 64 (Value.int .u8 0)).toArray), 65, 72) := by kernel_rfl
theorem size69 : (Tryd.prog.info? 98).map (·.size) = some 64 := by kernel_rfl
theorem size71 : (Tryd.prog.info? 104).map (·.size) = some 128 := by kernel_rfl
theorem size80 : (Tryd.prog.info? 100).map (·.size) = some 65 := by kernel_rfl
/-- what 'refuses' tells -/
def refS (n : Nat) (i : Int) : Int := if 0 ≤ i ∧ i < n then 0 else 40
set_option maxHeartbeats 400000 in
set_option maxRecDepth 100000 in
theorem refuses_nil (i : Int) (w : World) : Calls Tryd.prog 65 #[.pointer none, .int .i64 i] w fun e w' => e = .returned (.int .i64 1) ∧ w = w' := by
  go_enter Tryd.func65, Tryd.ntmps65
  go_wp2
  go_ret
  exact ⟨rfl, rfl⟩
set_option maxHeartbeats 1000000 in
set_option maxRecDepth 100000 in
theorem refuses_any (i : Int) (w : World) (p n : Nat) (q cap : Nat) (h0 : w.cell? ⟨p, 0, none⟩ = some (.slice (some ⟨q, 0, none⟩) n cap)) :
    Calls Tryd.prog 65 #[.pointer (some ⟨p, 0, none⟩), .int .i64 i] w fun e w' => e = .returned (.int .i64 (refS n i)) ∧ w = w' := by
  obtain ⟨r, hr⟩ : ∃ r, Hid (refS n i = r) := ⟨_, rfl⟩
  rw [hr.out]
  by_cases c1 : i < 0
  · have e : r = 40 := by rw [← hr.out, refS, if_neg (by omega)]
    subst e
    go_enter Tryd.func65, Tryd.ntmps65
    go_wp2
    go_ret
    exact ⟨rfl, rfl⟩
  · by_cases c2 : (n : Int) ≤ i
    · have e : r = 40 := by rw [← hr.out, refS, if_neg (by omega)]
      subst e
      go_enter Tryd.func65, Tryd.ntmps65
      go_wp2
      go_ret
      exact ⟨rfl, rfl⟩
    · have e : r = 0 := by rw [← hr.out, refS, if_pos (by omega)]
      subst e
      go_enter Tryd.func65, Tryd.ntmps65
      go_wp2
      go_ret
      exact ⟨rfl, rfl⟩
set_option maxHeartbeats 400000 in
set_option maxRecDepth 100000 in
theorem len_nil (w : World) : Calls Tryd.prog 37 #[.pointer none] w fun e w' => e = .returned (.int .i64 0) ∧ w = w' := by
  go_enter Tryd.func37, Tryd.ntmps37
  go_wp2
  go_ret
  exact ⟨rfl, rfl⟩
set_option maxHeartbeats 400000 in
set_option maxRecDepth 100000 in
theorem len_any {w : World} {S : Nat → Prop} {p n : Nat} {d : List Int} {ws : List Wr} (h : Dsk w S p n d ws) : Calls Tryd.prog 37 #[.pointer (some ⟨p, 0, none⟩)] w fun e w' => e = .returned (.int .i64 n) ∧ w = w' := by
  obtain ⟨q, cap, v, h⟩ := h
  have h0 := h.cell0
  clear h
  go_enter Tryd.func37, Tryd.ntmps37
  go_wp2
  go_ret
  exact ⟨rfl, rfl⟩
/-- of bytes that lie so: a list of its own -/
theorem clone_range (g o n c : Nat) (xs : List Int) (w : World) (hx : xs.length = n) (hbig : n ≤ 140737488355328) (hr : w.rangeAt g o (U8 xs)) :
    Calls Tryd.prog 44 #[.slice (some ⟨g, o, none⟩) n c] w fun e w' => ∃ v', e = .returned v' ∧ w'.ownsRow w.heap.size 5 1 v' n (U8 xs) ∧ Below w.heap.size w w' :=
  clone_at _ n c xs w hx hbig (fun i hi => by
    rw [Addr.add_mid]
    refine hr i _ ?_
    simp [U8, List.getD, List.getElem?_eq_getElem (show i < xs.length by omega)])
theorem made_rep (m : Nat) (v : Value) (hm : 0 < m) (n : Nat) : madeCells (List.replicate m v).toArray n = (List.replicate n v).toArray := by
  apply Array.ext
  · simp [size_madeCells]
  · intro i h1 h2
    have h3 : i % m < m := Nat.mod_lt _ hm
    simp [madeCells, h3]
theorem zeros_range (n : Nat) : madeCells (List.replicate 128 (Value.int .u8 0)).toArray n = (List.replicate n (Value.int .u8 0)).toArray := made_rep 128 _ (by omega) n
theorem sec_zeros (n i : Nat) (hi : i < n) : sec (List.replicate (64 * n) 0) i = List.replicate 64 0 := by
  simp only [sec, List.drop_replicate, List.take_replicate]
  congr 1; omega
theorem new_pl (w : World) (n : Nat) (hn : n ≤ 4096) : Pl (w.alloc (.cells (List.replicate (n * 128) (Value.int .u8 0)).toArray 104)) w.heap.size n n (sec (List.replicate (64 * n) 0)) (newest [] (List.replicate (64 * n) 0)) := by
  have hb := heap_alloc_new w (.cells (List.replicate (n * 128) (Value.int .u8 0)).toArray 104)
  have hr : ∀ o, o + 64 ≤ n * 128 → (w.alloc (.cells (List.replicate (n * 128) (Value.int .u8 0)).toArray 104)).rangeAt w.heap.size o (U8 (List.replicate 64 0)) := fun o ho j v hv => by
    rw [U8, List.map_replicate, List.getElem?_replicate] at hv
    rw [cell_of_row _ _ _ _ 104 (0, 0) hb, List.getElem?_toArray, List.getElem?_replicate]
    split at hv
    · rw [if_pos (by omega)]; exact hv
    · cases hv
  refine ⟨⟨_, hb, by simp⟩, Nat.le_refl _, by unfold maxLen; omega, fun i hi => ?_, fun i hi => ?_, fun i hi => ?_, fun i hi => ?_⟩
  · rw [sec_zeros n i hi]; simp
  · rw [newest_nil, sec_zeros n i hi]; simp
  · rw [sec_zeros n i hi]; exact hr _ (by omega)
  · rw [newest_nil, sec_zeros n i hi]; exact hr _ (by omega)
set_option maxHeartbeats 1000000 in
set_option maxRecDepth 100000 in
theorem new_bad (i : Int) (w : World) (h : i < 1 ∨ 4096 < i) : Calls Tryd.prog 63 #[.int .i64 i] w fun e w' => e = .returned (.tuple #[.pointer none, .int .i64 2]) ∧ w = w' := by
  rcases h with h | h
  · go_enter Tryd.func63, Tryd.ntmps63
    go_wp2
    go_ret2
    exact ⟨rfl, rfl⟩
  · have c1 : ¬ i < 1 := by omega
    go_enter Tryd.func63, Tryd.ntmps63
    go_wp2
    go_ret2
    exact ⟨rfl, rfl⟩
set_option maxHeartbeats 1000000 in
set_option maxRecDepth 100000 in
theorem new_good (n : Nat) (w : World) (h1 : 1 ≤ n) (h2 : n ≤ 4096) : Calls Tryd.prog 63 #[.int .i64 n] w fun e w' => ∃ p, e = .returned (.tuple #[.pointer (some ⟨p, 0, none⟩), .int .i64 0]) ∧ Dsk w' (fun k => w.heap.size ≤ k) p n (List.replicate (64 * n) 0) [] ∧ Below w.heap.size w w' := by
  obtain ⟨i0, hi, hz0, hz1, hz2⟩ := info_parts info71
  have hmk := run_make (P := Tryd.prog) w 94 104 i0 _ Tryd.underlying94 hi hz0 .i64 .i64 (n : Int) (n : Int) (by omega) (Int.le_refl _) (by rw [hz2]; omega) (by omega)
  rw [hz1] at hmk
  simp only [Int.toNat_natCast, Value.cells] at hmk
  rw [zeros_range] at hmk
  have c1 : ¬ (n : Int) < 1 := by omega
  have c2 : ¬ (4096 : Int) < (n : Int) := by omega
  have HP : Hid (Pl (w.alloc (.cells (List.replicate (n * 128) (Value.int .u8 0)).toArray 104)) w.heap.size n n (sec (List.replicate (64 * n) 0)) (newest [] (List.replicate (64 * n) 0))) := new_pl w n h2
  obtain ⟨o, ho⟩ : ∃ o, Obj.cells (List.replicate (n * 128) (Value.int .u8 0)).toArray 104 = o := ⟨_, rfl⟩
  rw [ho] at HP hmk
  clear ho
  go_enter Tryd.func63, Tryd.ntmps63
  go_wp2
  go_ret2
  have hb2 := below_alloc (w.alloc o) (Obj.cells #[Value.slice (some ⟨w.heap.size, 0, none⟩) n n, Value.slice none 0 0] 97)
  refine ⟨w.heap.size + 1, rfl, ⟨w.heap.size, n, .slice none 0 0, ?_⟩, below_of_alloc hb2⟩
  refine ⟨heap_alloc2_new w o _, HP.out.same (hb2.block _ (by simp)), World.ownsRow_nil _ _ _ _, Nat.le_succ _, Nat.le_refl _, fun k hk => (by simp [Value.ownBlock] at hk), h1, h2, by simp, Bytes.rep _ _ (by omega), Fit.nil _⟩
set_option maxHeartbeats 1000000 in
set_option maxRecDepth 100000 in
theorem read_nil (i : Int) (w : World) : Calls Tryd.prog 42 #[.pointer none, .int .i64 i] w fun e w' => e = .returned (.tuple #[.slice none 0 0, .int .i64 1]) ∧ w = w' := by
  go_enter Tryd.func42, Tryd.ntmps42
  go_wp2_with fail
  refine (refuses_nil i w).mono ?_
  rintro e w1 ⟨rfl, rfl⟩
  go_wp2
  go_ret2
  exact ⟨rfl, rfl⟩
set_option maxHeartbeats 1000000 in
set_option maxRecDepth 100000 in
theorem read_bad {w : World} {S : Nat → Prop} {p n : Nat} {d : List Int} {ws : List Wr} (h : Dsk w S p n d ws) (i : Int) (hi : i < 0 ∨ (n : Int) ≤ i) : Calls Tryd.prog 42 #[.pointer (some ⟨p, 0, none⟩), .int .i64 i] w fun e w' => e = .returned (.tuple #[.slice none 0 0, .int .i64 40]) ∧ w = w' := by
  obtain ⟨q, cap, v, h⟩ := h
  have h0 := h.cell0
  clear h
  go_enter Tryd.func42, Tryd.ntmps42
  go_wp2_with fail
  refine (refuses_any i w p n q cap h0).mono ?_
  rintro e w1 ⟨rfl, rfl⟩
  rw [refS, if_neg (by omega)]
  go_wp2
  go_ret2
  exact ⟨rfl, rfl⟩
set_option maxHeartbeats 1000000 in
set_option maxRecDepth 100000 in
theorem read_good {w : World} {S : Nat → Prop} {p n : Nat} {d : List Int} {ws : List Wr} (h : Dsk w S p n d ws) (i : Nat) (hi : i < n) : Calls Tryd.prog 42 #[.pointer (some ⟨p, 0, none⟩), .int .i64 i] w fun e w' => ∃ v, e = .returned (.tuple #[v, .int .i64 0]) ∧ w'.ownsRow w.heap.size 5 1 v 64 (U8 (newest ws d i)) ∧ Below w.heap.size w w' := by
  obtain ⟨q, cap, v, h⟩ := h
  have h0 := h.cell0
  have HN : Hid (w.rangeAt q (i * 128 + 64) (U8 (newest ws d i)) ∧ (newest ws d i).length = 64) := ⟨h.pl.new i hi, h.pl.nl i hi⟩
  clear h
  go_enter Tryd.func42, Tryd.ntmps42
  go_wp2_with fail
  refine (refuses_any i w p n q cap h0).mono ?_
  rintro e w1 ⟨rfl, rfl⟩
  rw [refS, if_pos (by omega)]
  go_wp2_with fail
  refine (clone_range q (i * 128 + 64) 64 64 (newest ws d i) w HN.out.2 (by omega) HN.out.1).mono ?_
  rintro e w1 ⟨v1, rfl, hown, hb⟩
  go_wp2
  go_ret2
  exact ⟨v1, rfl, hown, hb⟩
end Go.Proofs.YtpenddnmmfpdjaaDoor
namespace Go.Proofs.YtpenddnmmfpdjaaDoor
open Go.RowKit
theorem part_fill4 (off : Nat) (vs : List Value) (cs : List Value) (h : off + vs.length ≤ cs.length) :
    vs.toArray.zipIdx.foldl (fun cs (x : Value × Nat) => cs.setIfInBounds (off + x.2) x.1) cs.toArray = (cs.take off ++ vs ++ cs.drop (off + vs.length)).toArray := by
  rw [← Array.foldl_toList, Array.toList_zipIdx]
  obtain ⟨h1, h2⟩ := Great.foldl_set off vs 0 cs.toArray
  apply Array.ext_getElem?
  intro k
  have e := h2 k
  simp only [Nat.add_zero, List.size_toArray] at e
  refine Eq.trans e ?_
  rw [List.getElem?_toArray, List.getElem?_toArray]
  by_cases c1 : k < off
  · rw [if_neg (by omega), List.append_assoc, List.getElem?_append_left (by simp; omega), List.getElem?_take, if_pos c1]
  · by_cases c2 : k < off + vs.length
    · rw [if_pos ⟨by omega, c2, by omega⟩, List.append_assoc, List.getElem?_append_right (by simp; omega), List.getElem?_append_left (by simp; omega)]
      congr 1; simp; omega
    · rw [if_neg (by omega), List.getElem?_append_right (by simp; omega), List.getElem?_drop]
      congr 1; simp; omega
theorem places80 : placesOf Tryd.prog 100 = some [(0, 1), (1, 64)] := by kernel_rfl
theorem places71 : placesOf Tryd.prog 104 = some [(0, 64), (64, 64)] := by kernel_rfl
theorem zero804 : (Tryd.prog.info? 100).bind (·.zero) = some (.agg (.int .i64 0 :: List.replicate 64 (Value.int .u8 0)).toArray) := by kernel_rfl
theorem zero71 : (Tryd.prog.info? 104).bind (·.zero) = some (.agg (List.replicate 128 (Value.int .u8 0)).toArray) := by kernel_rfl
theorem zero694 : (Tryd.prog.info? 98).bind (·.zero) = some (.agg (List.replicate 64 (Value.int .u8 0)).toArray) := by kernel_rfl
theorem fill_two4 (ps : List (Nat × Nat)) (cs : List Value) (o0 n0 o1 n1 : Nat) (hp : ps = [(o0, n0), (o1, n1)]) (v0 v1 : Value) (c0 c1 : List Value) (h0 : v0.cells = c0.toArray) (h1 : v1.cells = c1.toArray) (e0 : c0.length = n0) (e1 : c1.length = n1) (ho0 : o0 = 0) (ho1 : n0 = o1) (hl : cs.length = n0 + n1) :
    Instr.fill (ps.toArray[·]?) cs.toArray [(0, v0), (1, v1)] = some (c0 ++ c1).toArray := by
  subst hp ho0 ho1
  have a0 := part_fill4 0 c0 cs (by omega)
  have a1 := part_fill4 n0 c1 (cs.take 0 ++ c0 ++ cs.drop (0 + c0.length)) (by simp; omega)
  simp only [Instr.fill]
  rw [h0, h1]
  simp only [List.size_toArray, List.getElem?_toArray, List.getElem?_cons_zero, List.getElem?_cons_succ]
  rw [if_neg (by simp [e0]; omega)]
  have a0' : c0.toArray.zipIdx.foldl (fun cs x => match x with | (c, j) => cs.setIfInBounds (0 + j) c) cs.toArray = (cs.take 0 ++ c0 ++ cs.drop (0 + c0.length)).toArray := a0
  rw [a0']
  simp only [List.size_toArray]
  rw [if_neg (by simp [e0, e1]; omega)]
  have a1' : c1.toArray.zipIdx.foldl (fun cs x => match x with | (c, j) => cs.setIfInBounds (n0 + j) c) (cs.take 0 ++ c0 ++ cs.drop (0 + c0.length)).toArray = _ := a1
  rw [a1']
  congr 2
  apply List.ext_getElem?
  intro k
  simp only [List.take_zero, List.nil_append, Nat.zero_add]
  rw [List.take_append_of_le_length (by omega), List.take_of_length_le (by omega), List.drop_eq_nil_of_le (by simp; omega), List.append_nil]
theorem built80 (s : Int) (b : List Int) (hb : b.length = 64) : Tryd.prog.built 100 [(0, .int .i64 s), (1, .agg (U8 b).toArray)] = some (.int .i64 s :: U8 b).toArray := by
  rw [built_of 100 _ _ _ places80 zero804]
  exact fill_two4 _ _ 0 1 1 64 rfl _ _ [.int .i64 s] (U8 b) rfl rfl rfl (by rw [U8_length, hb]) rfl rfl (by simp)
theorem built71 (a b : List Int) (ha : a.length = 64) (hb : b.length = 64) : Tryd.prog.built 104 [(0, .agg (U8 a).toArray), (1, .agg (U8 b).toArray)] = some (U8 a ++ U8 b).toArray := by
  rw [built_of 104 _ _ _ places71 zero71]
  exact fill_two4 _ _ 0 64 64 64 rfl _ _ (U8 a) (U8 b) rfl rfl (by rw [U8_length, ha]) (by rw [U8_length, hb]) rfl rfl (by simp)
/-- 'pending{sector: s, data: b}' -/
theorem run_build80 (w : World) (s : Nat) (b : List Int) (hb : b.length = 64) : (Instr.build 100 #[(0, .int .i64 s), (1, .agg (U8 b).toArray)]).run Tryd.prog w = .ok (.agg (wcell ⟨s, b⟩).toArray) w :=
  run_build w 100 _ _ (built80 s b hb)
theorem run_build71 (w : World) (a b : List Int) (ha : a.length = 64) (hb : b.length = 64) : (Instr.build 104 #[(0, .agg (U8 a).toArray), (1, .agg (U8 b).toArray)]).run Tryd.prog w = .ok (.agg (U8 a ++ U8 b).toArray) w :=
  run_build w 104 _ _ (built71 a b ha hb)
/-- a new variable's cells: never looked into -/
def Z80 : Array Value := (.int .i64 0 :: List.replicate 64 (Value.int .u8 0)).toArray
def Z69 : Array Value := (List.replicate 64 (Value.int .u8 0)).toArray
theorem Z80_size : Z80.size = 65 := by simp [Z80]
theorem Z69_size : Z69.size = 64 := by simp [Z69]
theorem zv4 (t : TypeId) (z : Value) (hz : (Tryd.prog.info? t).bind (·.zero) = some z) (w : World) : (zeroValue t).run Tryd.prog w = .ok z w := by
  cases hi : Tryd.prog.info? t with
  | none => simp [hi] at hz
  | some it =>
    simp only [hi, Option.bind_some] at hz
    simp [zeroValue, typeInfo, hi, hz]
theorem run_alloc80 (w : World) : (Instr.alloc 100 true (.tuple #[])).run Tryd.prog w = .ok (.pointer (some ⟨w.heap.size, 0, none⟩)) (w.alloc (.cells Z80 100)) := by
  simp only [Instr.alloc, Sem.run_bind, zv4 100 _ zero804, Result.andThen_ok]
  simp [newVar, newRow, Value.cells, Z80]
theorem run_alloc69 (w : World) : (Instr.alloc 98 true (.tuple #[])).run Tryd.prog w = .ok (.pointer (some ⟨w.heap.size, 0, none⟩)) (w.alloc (.cells Z69 98)) := by
  simp only [Instr.alloc, Sem.run_bind, zv4 98 _ zero694, Result.andThen_ok]
  simp [newVar, newRow, Value.cells, Z69]
theorem world_ext4 : ∀ (u v : World), u.heap = v.heap → u.tape = v.tape → u.drawn = v.drawn → u.os = v.os → u.output = v.output → u = v
  | ⟨_, _, _, _, _⟩, ⟨_, _, _, _, _⟩, h1, h2, h3, h4, h5 => by
    simp only at h1 h2 h3 h4 h5
    subst h1 h2 h3 h4 h5
    rfl
theorem setRow_alloc4 (w : World) (a b : Array Value) (t : TypeId) : (w.alloc (.cells a t)).setRow w.heap.size b = w.alloc (.cells b t) := by
  refine world_ext4 _ _ ?_ rfl rfl rfl rfl
  apply Array.ext_getElem?
  intro k
  by_cases c : k = w.heap.size
  · subst c
    rw [setRow_heap _ _ a b t (0, 0) (heap_alloc_new w _), heap_alloc_new]
  · have e1 : ((w.alloc (.cells a t)).setRow w.heap.size b).heap[k]? = (w.alloc (.cells a t)).heap[k]? := by
      simp only [World.setRow, Array.getElem?_modify]
      rw [if_neg (fun h => c h.symm)]
    rw [e1]
    show (w.heap.push _)[k]? = (w.heap.push _)[k]?
    rw [Array.getElem?_push, Array.getElem?_push, if_neg c, if_neg c]
/-- a new variable stored whole -/
theorem run_store_new (w : World) (t : TypeId) (Z cs : Array Value) (hz : Z.size = cs.size) (hi : (Tryd.prog.info? t).map (·.size) = some cs.size) (h1 : cs.all (·.oneCell') = true) :
    (Instr.storeAt t (.pointer (some ⟨w.heap.size, 0, none⟩)) (.agg cs)).run Tryd.prog (w.alloc (.cells Z t)) = .ok () (w.alloc (.cells cs t)) := by
  simp only [Instr.storeAt, Instr.sureAddr, Sem.run_bind, Sem.run_pure, Result.andThen_ok, run_storeVar_row (w.alloc (.cells Z t)) w.heap.size t t Z cs (heap_alloc_new w _) hi hz h1, setRow_alloc4]
theorem wc_ones (x : Wr) : (wcell x).toArray.all (·.oneCell') = true := all_oneCell_toArray (wcell_ones x)
theorem u8_ones (b : List Int) : (U8 b).toArray.all (·.oneCell') = true := all_oneCell_toArray (ones_u8 b)
theorem run_store80 (w : World) (x : Wr) (hx : x.b.length = 64) : (Instr.storeAt 100 (.pointer (some ⟨w.heap.size, 0, none⟩)) (.agg (wcell x).toArray)).run Tryd.prog (w.alloc (.cells Z80 100)) = .ok () (w.alloc (.cells (wcell x).toArray 100)) :=
  run_store_new w 100 Z80 _ (by simp [Z80_size, wcell, hx]) (by rw [size80]; simp [wcell, hx]) (wc_ones x)
theorem run_store69 (w : World) (b : List Int) (hb : b.length = 64) : (Instr.storeAt 98 (.pointer (some ⟨w.heap.size, 0, none⟩)) (.agg (U8 b).toArray)).run Tryd.prog (w.alloc (.cells Z69 98)) = .ok () (w.alloc (.cells (U8 b).toArray 98)) :=
  run_store_new w 98 Z69 _ (by simp [Z69_size, hb]) (by rw [size69]; simp [hb]) (u8_ones b)
/-- '[]pending{x}' -/
theorem run_buildSlice73 (w : World) (x : Wr) (hx : x.b.length = 64) : (Instr.buildSlice 95 1 #[(0, .agg (wcell x).toArray)]).run Tryd.prog w = .ok (.slice (some ⟨w.heap.size, 0, none⟩) 1 1) (w.alloc (.cells (wcell x).toArray 100)) := by
  obtain ⟨i0, hi, hz0, hz1, hz2⟩ := info_parts info80
  refine run_buildSlice w 95 100 1 _ _ i0 _ Tryd.underlying95 hi hz0 (by rw [hz1]; decide) (by rw [hz1]; decide) ?_
  rw [hz1]
  have hl : (wcell x).length = 65 := by simp [wcell, hx]
  have hA : ∀ A : Array Value, A.size = 65 → Instr.fill (fun i => some (i * 65, 65)) A [(0, .agg (wcell x).toArray)] = some (wcell x).toArray := by
    intro A hA
    have a0 := part_fill4 0 (wcell x) A.toList (by simp; omega)
    simp only [Instr.fill, Value.cells, List.size_toArray, Nat.zero_mul]
    rw [if_neg (by simp [hl, hA])]
    have a0' : (wcell x).toArray.zipIdx.foldl (fun cs x => match x with | (c, j) => cs.setIfInBounds (0 + j) c) A = ((A.toList.take 0 ++ wcell x ++ A.toList.drop (0 + (wcell x).length))).toArray := a0
    rw [a0', List.drop_eq_nil_of_le (by simp [hl, hA])]
    simp
  exact hA _ (by simp)
/-- the same, as the walk meets them -/
theorem wp_val {o : Oper} {a : Act} {w w' : World} {v : Value} {K : Act → World → Prop} {Q : Exit → Act → World → Prop} (heq : (execOp a.eval o).run Tryd.prog w = .ok (.value v) w') (h : K (a.put o.dst v) w') : o.wp Tryd.prog a w K Q := by
  unfold Oper.wp; rw [heq]; exact h
theorem wp_skip' {o : Oper} {a : Act} {w w' : World} {K : Act → World → Prop} {Q : Exit → Act → World → Prop} (heq : (execOp a.eval o).run Tryd.prog w = .ok .skip w') (h : K (a.put o.dst undef) w') : o.wp Tryd.prog a w K Q := by
  unfold Oper.wp; rw [heq]; exact h
theorem wpList_alloc80 {ops : Array Oper} {rest : List Oper} {o : Oper} {a : Act} {w : World} {Q : Exit → Act → World → Prop} (hgd : o.guard = none) (ho : o.op = .alloc 100)
    (h : wpList Tryd.prog ops Q rest (a.put o.dst (.pointer (some ⟨w.heap.size, 0, none⟩))) (w.alloc (.cells Z80 100))) : wpList Tryd.prog ops Q (o :: rest) a w :=
  wpList_plain hgd fun _ hK => wp_val (by unfold execOp; simp only [ho, Sem.run_bind, run_alloc80, Result.andThen_ok, Sem.run_pure]) (hK _ _ h)
theorem wpList_alloc69 {ops : Array Oper} {rest : List Oper} {o : Oper} {a : Act} {w : World} {Q : Exit → Act → World → Prop} (hgd : o.guard = none) (ho : o.op = .alloc 98)
    (h : wpList Tryd.prog ops Q rest (a.put o.dst (.pointer (some ⟨w.heap.size, 0, none⟩))) (w.alloc (.cells Z69 98))) : wpList Tryd.prog ops Q (o :: rest) a w :=
  wpList_plain hgd fun _ hK => wp_val (by unfold execOp; simp only [ho, Sem.run_bind, run_alloc69, Result.andThen_ok, Sem.run_pure]) (hK _ _ h)
theorem wpList_build80 {ops : Array Oper} {rest : List Oper} {o : Oper} {a : Act} {w : World} {Q : Exit → Act → World → Prop} (hgd : o.guard = none) (x y : Operand) (ho : o.op = .build 100 #[(0, x), (1, y)]) (s : Nat) (b : List Int) (hx : a.eval x = .int .i64 s) (hy : a.eval y = .agg (U8 b).toArray) (hb : b.length = 64)
    (h : wpList Tryd.prog ops Q rest (a.put o.dst (.agg (wcell ⟨s, b⟩).toArray)) w) : wpList Tryd.prog ops Q (o :: rest) a w :=
  wpList_plain hgd fun _ hK => wp_val (by
    have e : (#[(0, x), (1, y)] : Array (Nat × Operand)).map (fun (i, x) => (i, a.eval x)) = #[(0, a.eval x), (1, a.eval y)] := by simp
    unfold execOp; simp only [ho]; rw [e, hx, hy]; simp only [Sem.run_bind, run_build80 w s b hb, Result.andThen_ok, Sem.run_pure]) (hK _ _ h)
theorem wpList_store80 {ops : Array Oper} {rest : List Oper} {o : Oper} {a : Act} {w : World} {Q : Exit → Act → World → Prop} (hgd : o.guard = none) (x y : Operand) (ho : o.op = .store 100 x y) (z : Wr) (hx : a.eval x = .pointer (some ⟨w.heap.size, 0, none⟩)) (hy : a.eval y = .agg (wcell z).toArray) (hz : z.b.length = 64)
    (h : wpList Tryd.prog ops Q rest (a.put o.dst undef) (w.alloc (.cells (wcell z).toArray 100))) : wpList Tryd.prog ops Q (o :: rest) a (w.alloc (.cells Z80 100)) :=
  wpList_plain hgd fun _ hK => wp_skip' (by unfold execOp; simp only [ho, hx, hy, Sem.run_bind, run_store80 w z hz, Result.andThen_ok, Sem.run_pure]) (hK _ _ h)
theorem wpList_store69 {ops : Array Oper} {rest : List Oper} {o : Oper} {a : Act} {w : World} {Q : Exit → Act → World → Prop} (hgd : o.guard = none) (x y : Operand) (ho : o.op = .store 98 x y) (b : List Int) (hx : a.eval x = .pointer (some ⟨w.heap.size, 0, none⟩)) (hy : a.eval y = .agg (U8 b).toArray) (hb : b.length = 64)
    (h : wpList Tryd.prog ops Q rest (a.put o.dst undef) (w.alloc (.cells (U8 b).toArray 98))) : wpList Tryd.prog ops Q (o :: rest) a (w.alloc (.cells Z69 98)) :=
  wpList_plain hgd fun _ hK => wp_skip' (by unfold execOp; simp only [ho, hx, hy, Sem.run_bind, run_store69 w b hb, Result.andThen_ok, Sem.run_pure]) (hK _ _ h)
theorem wp_buildSlice73 {o : Oper} {a : Act} {w : World} {K : Act → World → Prop} {Q : Exit → Act → World → Prop} (x : Operand) (ho : o.op = .buildSlice 95 1 #[(0, x)]) (z : Wr) (hx : a.eval x = .agg (wcell z).toArray) (hz : z.b.length = 64)
    (h : K (a.put o.dst (.slice (some ⟨w.heap.size, 0, none⟩) 1 1)) (w.alloc (.cells (wcell z).toArray 100))) : o.wp Tryd.prog a w K Q :=
  wp_val (by
    have e : (#[(0, x)] : Array (Nat × Operand)).map (fun (i, x) => (i, a.eval x)) = #[(0, a.eval x)] := by simp
    unfold execOp; simp only [ho]; rw [e, hx]; simp only [Sem.run_bind, run_buildSlice73 w z hz, Result.andThen_ok, Sem.run_pure]) h
theorem yields_build71 {ops : Array Oper} {S : World → Prop} {o : Oper} {a : Act} (hw : Region.wanted o (yielded ops a.tmps) = true) (x y : Operand) (ho : o.op = .build 104 #[(0, x), (1, y)]) (b c : List Int) (hx : a.eval x = .agg (U8 b).toArray) (hy : a.eval y = .agg (U8 c).toArray) (hb : b.length = 64) (hc : c.length = 64) : YieldsIf Tryd.prog ops S o (.agg (U8 b ++ U8 c).toArray) a :=
  .inl ⟨hw, fun w _ => by
    have e : (#[(0, x), (1, y)] : Array (Nat × Operand)).map (fun (i, x) => (i, a.eval x)) = #[(0, a.eval x), (1, a.eval y)] := by simp
    unfold execOp; simp only [ho]; rw [e, hx, hy]; simp only [Sem.run_bind, run_build71 w b c hb hc, Result.andThen_ok, Sem.run_pure]⟩
/-- what the new variable holds -/
theorem new_range (w : World) (cs : List Value) (t : TypeId) : (w.alloc (.cells cs.toArray t)).rangeAt w.heap.size 0 cs := fun j v hv => by
  rw [cell_of_row _ _ _ _ t (0, 0) (heap_alloc_new w _), Nat.zero_add, List.getElem?_toArray]; exact hv
theorem new_range_at (w : World) (cs ds : List Value) (o : Nat) (t : TypeId) (h : ∀ j v, ds[j]? = some v → cs[o + j]? = some v) : (w.alloc (.cells cs.toArray t)).rangeAt w.heap.size o ds := fun j v hv => by
  rw [cell_of_row _ _ _ _ t (0, 0) (heap_alloc_new w _), List.getElem?_toArray]; exact h j v hv
theorem wcell_data (x : Wr) : ∀ j v, (U8 x.b)[j]? = some v → (wcell x)[1 + j]? = some v := fun j v hv => by
  rw [Nat.add_comm]; simpa [wcell] using hv
theorem BIn.range {w : World} {g o n : Nat} {b : List Int} (h : BIn w (some ⟨g, o, none⟩) n b) : w.rangeAt g o (U8 b) := fun j v hv => by
  have := h.news j v hv
  rwa [Addr.add_mid] at this
end Go.Proofs.YtpenddnmmfpdjaaDoor
