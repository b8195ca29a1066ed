/-
  SuperHands: what its loops hold, step by step, outside of the walk.
-/
import Derived.Test.YtcfofoddfhbkcaaDoorTa
import Derived.Deep.AppendLies
namespace Go.Proofs.YtcfofoddfhbkcaaDoor
open Go.RowKit

section
variable {P : Program} (w : World)
/-- 'append' onto a slice that is full, elements of one cell: a new block; nothing that was there turns. -/
theorem run_append_full (t ty : TypeId) (base : Nat) (e : TypeId) (i : TypeInfo) (z : Value) (bytes : Nat) (ht : P.underlying t = some (.slice e)) (hi : P.info? e = some i) (hz : i.zero = some z)
    (hsize : i.size = 1) (hby : i.bytes = bytes) (hzs : z.cells.size = 1) (g n : Nat) (xs : List Value) (hown : w.ownsRow base e 1 (.slice (some ⟨g, 0, none⟩) n n) n xs)
    (ad : Addr) (m c : Nat) (news : List Value) (hl : news.length = m * 1) (hnews : ∀ j u, news[j]? = some u → w.cell? (ad.add j) = some u)
    (hm : 0 < m) (h63 : n + m ≤ maxLen) (hbytes : (n + m) * bytes ≤ 140737488355328) :
    ∃ cap w', (Builtin.append_ #[t, t] ty #[.slice (some ⟨g, 0, none⟩) n n, .slice (some ad) m c]).run P w = .ok (.slice (some ⟨w.heap.size, 0, none⟩) (n + m) cap) w' ∧
      w'.ownsRow w.heap.size e 1 (.slice (some ⟨w.heap.size, 0, none⟩) (n + m) cap) (n + m) (xs ++ news) ∧ Below w.heap.size w w' := by
  have hsmall : n + m ≤ 9223372036854775807 := by simp only [maxLen] at h63; omega
  have hxl : xs.length = n := by have := hown.1; omega
  have holds : ∀ j u, xs[j]? = some u → w.cell? ((⟨g, 0, none⟩ : Addr).add j) = some u := hown.cells (g := g) rfl
  have hr := run_append_grow (P := P) w t ty e i z ht hi hz ⟨g, 0, none⟩ n n xs (by rw [hsize]; exact hown.1) holds ad m c news (by rw [hsize]; exact hl) hnews (by omega) (by omega) (growslice_fits (by omega) (by rw [hby]; exact hbytes))
  have hge := grownCap_ge w (n + m) n e
  have hcm2 : grownCap w (n + m) n e ≤ maxLen := grownCap_le_maxLen w (n + m) n e h63
  refine ⟨_, _, hr, ⟨by simp only [List.length_append]; omega, .inr ⟨w.heap.size, _, _, rfl, Nat.le_refl _, heap_alloc_new w.drew _, hge, hcm2, ?_, ?_⟩⟩, ((Below.refl _ w).drew).alloc (Nat.le_refl _) _⟩
  · simp only [Array.size_append, List.size_toArray, size_zeroCells]
    rw [hzs]
    omega
  · simp only [Array.toList_append, List.append_assoc]
    rw [← List.append_assoc, List.take_left']
    simp only [List.length_append]
    omega
theorem wpList_append_full {ops : Array Oper} {rest : List Oper} {o : Oper} {a : Act} {Q : Exit → Act → World → Prop} (hgd : o.guard = none) (s x : Operand) (t : TypeId)
    (ho : o.op = .call { callee := .builtin .append, args := #[s, x], argTypes := #[t, t] })
    (base : Nat) (e : TypeId) (i : TypeInfo) (z : Value) (bytes : Nat) (ht : P.underlying t = some (.slice e)) (hi : P.info? e = some i) (hz : i.zero = some z)
    (hsize : i.size = 1) (hby : i.bytes = bytes) (hzs : z.cells.size = 1)
    (g n : Nat) (xs : List Value) (hs : a.eval s = .slice (some ⟨g, 0, none⟩) n n) (hown : w.ownsRow base e 1 (.slice (some ⟨g, 0, none⟩) n n) n xs)
    (ad : Addr) (m c : Nat) (news : List Value) (hx : a.eval x = .slice (some ad) m c) (hl : news.length = m * 1) (hnews : ∀ j u, news[j]? = some u → w.cell? (ad.add j) = some u)
    (hm : 0 < m) (h63 : n + m ≤ maxLen) (hbytes : (n + m) * bytes ≤ 140737488355328)
    (h : ∀ cap w', w'.ownsRow w.heap.size e 1 (.slice (some ⟨w.heap.size, 0, none⟩) (n + m) cap) (n + m) (xs ++ news) → Below w.heap.size w w' → wpList P ops Q rest (a.put o.dst (.slice (some ⟨w.heap.size, 0, none⟩) (n + m) cap)) w') : wpList P ops Q (o :: rest) a w := by
  refine wpList_plain hgd fun K hK => ?_
  obtain ⟨cap, w', hr, h2, h3⟩ := run_append_full (P := P) w t o.type base e i z bytes ht hi hz hsize hby hzs g n xs hown ad m c news hl hnews hm h63 hbytes
  unfold Oper.wp
  simp [execOp, ho, resolve, invoke, builtin, hs, hx, hr, Result.andThen]
  exact hK _ _ (h cap w' h2 h3)
end

/-- a row's own block: its kind -/
theorem own_kind {w : World} {base e : Nat} {v : Value} {n : Nat} {xs : List Value} (h : w.ownsRow base e 1 v n xs) {g : Nat} (hg : v.ownBlock = some g) : base ≤ g ∧ ∃ cs, w.heap[g]? = some (.cells cs e (0, 0)) := by
  rcases h.2 with ⟨rfl, _⟩ | ⟨g', cap, cur, rfl, hb, hgg, _⟩
  · cases hg
  · simp only [Value.ownBlock, Option.some.injEq] at hg
    subst hg
    exact ⟨hb, cur, hgg⟩
/-- a row of another kind grows -/
theorem own_other {w w' : World} {base base' e e' n m : Nat} {v u : Value} {xs ys : List Value} (h : w.ownsRow base e 1 v n xs) (k : w.ownsRow base' e' 1 u m ys) (hne : e ≠ e') (hg : w.grownBy w' u.ownBlock) : w'.ownsRow base e 1 v n xs := by
  refine h.kept hg ?_
  cases hv : v.ownBlock with
  | none => exact .inl rfl
  | some g =>
    right
    intro hu
    obtain ⟨_, cs, h1⟩ := own_kind h hv
    obtain ⟨_, ds, h2⟩ := own_kind k hu.symm
    rw [h1] at h2
    simp at h2
    exact hne h2.2

abbrev sl (g : Nat) : Value := .slice (some ⟨g, 0, none⟩) 64 64
/-- the lists that were handed out (gs: their blocks; C: what stands in them), and what they were -/
structure Hand (w wr : World) (s t : Sup) (l we : Value) (gs : List Nat) (ws : List Value) (C : Nat → List Int) : Prop where
  below : Below w.heap.size w wr
  bs : SAt 26 wr w.heap.size s
  bt : SAt 26 wr (w.heap.size + 1) t
  few : gs.length ≤ 5
  list : wr.ownsRow (w.heap.size + 2) 27 1 l gs.length (gs.map sl)
  were : wr.ownsRow (w.heap.size + 2) 9 1 we ws.length ws
  rows : ∀ j (h : j < gs.length), wr.ownsRow (w.heap.size + 2) 5 1 (sl gs[j]) 64 (U8 (C j)) ∧ Bytes (C j)
  apart : ∀ i j (h : i < gs.length) (k : j < gs.length), i ≠ j → gs[i] ≠ gs[j]
variable {w wr : World} {s t : Sup} {l we : Value} {gs : List Nat} {ws : List Value} {C : Nat → List Int}
theorem Hand.later {w' : World} (h : Hand w wr s t l we gs ws C) (hb : Below wr.heap.size wr w') : Hand w w' s t l we gs ws C :=
  ⟨below_then h.below hb, LAt.later h.bs hb, LAt.later h.bt hb, h.few, own_later h.list hb, own_later h.were hb, fun j hj => ⟨own_later (h.rows j hj).1 hb, (h.rows j hj).2⟩, h.apart⟩
theorem Hand.size (h : Hand w wr s t l we gs ws C) : w.heap.size + 2 ≤ wr.heap.size := by have := LAt.lt h.bt; omega
theorem Hand.lt (h : Hand w wr s t l we gs ws C) (j : Nat) (hj : j < gs.length) : w.heap.size + 2 ≤ gs[j] ∧ gs[j] < wr.heap.size := (h.rows j hj).1.lt gs[j] rfl
theorem box_kept {w' : World} {B g : Nat} {r : Option Nat} {x : Sup} (h : SAt 26 wr g x) (hg : wr.grownBy w' r) (hr : ∀ k, r = some k → B ≤ k) (hl : g < B) : SAt 26 w' g x :=
  (hg.block g (LAt.lt h) (fun e => by have := hr g e.symm; omega)).trans h
/-- the list of lists has got one more -/
theorem Hand.more {w4 : World} {l' : Value} {X : List Int} {g : Nat} (h : Hand w wr s t l we gs ws C) (hf : gs.length < 5) (hg : ∀ j (h : j < gs.length), gs[j] < g) (ho : wr.ownsRow (w.heap.size + 2) 5 1 (sl g) 64 (U8 X)) (hX : Bytes X) (hC : X = C gs.length)
    (hl : w4.ownsRow (w.heap.size + 2) 27 1 l' (gs.length + 1) (gs.map sl ++ [sl g])) (hgr : wr.grownBy w4 l.ownBlock) : Hand w w4 s t l' we (gs ++ [g]) ws C := by
  have hr : ∀ k, l.ownBlock = some k → w.heap.size + 2 ≤ k := fun k hk => (own_kind h.list hk).1
  refine ⟨h.below.grown hgr (by have := h.size; omega) (fun k hk => by have := hr k hk; omega), box_kept h.bs hgr hr (by omega), box_kept h.bt hgr hr (by omega), by simp; omega, by simpa using hl, own_other h.were h.list (by omega) hgr, fun j hj => ?_, fun i j hi hj hne => ?_⟩
  · by_cases c : j < gs.length
    · rw [List.getElem_append_left c]
      exact ⟨own_other (h.rows j c).1 h.list (by omega) hgr, (h.rows j c).2⟩
    · have hj' : j = gs.length := by simp at hj; omega
      subst hj'
      rw [List.getElem_append_right (Nat.le_refl _)]
      simp only [Nat.sub_self, List.getElem_cons_zero]
      rw [← hC]
      exact ⟨own_other ho h.list (by omega) hgr, hX⟩
  · simp only [List.length_append, List.length_cons, List.length_nil] at hi hj
    by_cases c1 : i < gs.length
    · rw [List.getElem_append_left c1]
      by_cases c2 : j < gs.length
      · rw [List.getElem_append_left c2]; exact h.apart i j c1 c2 hne
      · have := hg i c1
        rw [List.getElem_append_right (by omega)]
        simp only [show j - gs.length = 0 by omega, List.getElem_cons_zero]
        omega
    · have := hg j (by omega)
      rw [List.getElem_append_right (by omega), List.getElem_append_left (show j < gs.length by omega)]
      simp only [show i - gs.length = 0 by omega, List.getElem_cons_zero]
      omega
/-- and what it was -/
theorem Hand.text {w5 : World} {we' : Value} {x : Value} (h : Hand w wr s t l we gs ws C) (hl : w5.ownsRow (w.heap.size + 2) 9 1 we' (ws.length + 1) (ws ++ [x])) (hgr : wr.grownBy w5 we.ownBlock) : Hand w w5 s t l we' gs (ws ++ [x]) C := by
  have hr : ∀ k, we.ownBlock = some k → w.heap.size + 2 ≤ k := fun k hk => (own_kind h.were hk).1
  exact ⟨h.below.grown hgr (by have := h.size; omega) (fun k hk => by have := hr k hk; omega), box_kept h.bs hgr hr (by omega), box_kept h.bt hgr hr (by omega), h.few, own_other h.list h.were (by omega) hgr, by simpa using hl, fun j hj => ⟨own_other (h.rows j hj).1 h.were (by omega) hgr, (h.rows j hj).2⟩, h.apart⟩
/-- one byte of one list is written -/
theorem Hand.mark (h : Hand w wr s t l we gs ws C) (i : Nat) (hi : i < gs.length) (k : Nat) (v : Int) (h0 : 0 ≤ v) (h1 : v < 256) (D : Nat → List Int) (hD : D i = (C i).set k v) (hE : ∀ j, j ≠ i → D j = C j) :
    Hand w (wr.setCell ⟨gs[i], k, none⟩ (.int .u8 v)) s t l we gs ws D := by
  have hrow := (h.rows i hi).1
  have hst := hrow.stored k (.int .u8 v)
  have hlt := h.lt i hi
  have hset : (U8 (C i)).set k (.int .u8 v) = U8 (D i) := by rw [hD]; simp [U8, List.map_set]
  rw [hset] at hst
  have hr : ∀ k, some gs[i] = some k → w.heap.size + 2 ≤ k := fun k hk => by simp only [Option.some.injEq] at hk; omega
  refine ⟨h.below.setCell (by show _ ≤ gs[i]; omega) _, box_kept h.bs hst.2 hr (by omega), box_kept h.bt hst.2 hr (by omega), h.few, own_other h.list hrow (by omega) hst.2, own_other h.were hrow (by omega) hst.2, fun j hj => ?_, h.apart⟩
  by_cases e : j = i
  · subst e
    refine ⟨hst.1, ?_⟩
    rw [hD]
    intro y hy
    rcases List.mem_or_eq_of_mem_set hy with hy | rfl
    · exact (h.rows j hj).2 y hy
    · exact ⟨h0, h1⟩
  · rw [hE j e]
    refine ⟨(h.rows j hj).1.kept hst.2 (.inr ?_), (h.rows j hj).2⟩
    have := h.apart j i hj hi e
    simpa [Value.ownBlock] using this
/-- a variable of its own kind is written -/
theorem own_var {w w' : World} {base e n g : Nat} {v : Value} {xs cs : List Value} (h : w.ownsRow base e 1 v n xs) (hx : LAt 29 w g cs) (hne : e ≠ 29) (hg : w.grownBy w' (some g)) : w'.ownsRow base e 1 v n xs := by
  refine h.kept hg ?_
  cases hv : v.ownBlock with
  | none => exact .inl rfl
  | some k =>
    right
    intro hu
    simp only [Option.some.injEq] at hu
    subst hu
    obtain ⟨_, ds, h2⟩ := own_kind h hv
    have hx' : w.heap[k]? = _ := hx
    rw [hx'] at h2
    simp at h2
    exact hne h2.2.symm
theorem Hand.var {w' : World} {g : Nat} {cs : List Value} (h : Hand w wr s t l we gs ws C) (hx : LAt 29 wr g cs) (hge : w.heap.size + 2 ≤ g) (hgr : wr.grownBy w' (some g)) : Hand w w' s t l we gs ws C := by
  have hr : ∀ k, some g = some k → w.heap.size + 2 ≤ k := fun k hk => by simp only [Option.some.injEq] at hk; omega
  exact ⟨h.below.grown hgr (by have := h.size; omega) (fun k hk => by have := hr k hk; omega), box_kept h.bs hgr hr (by omega), box_kept h.bt hgr hr (by omega), h.few, own_var h.list hx (by omega) hgr, own_var h.were hx (by omega) hgr, fun j hj => ⟨own_var (h.rows j hj).1 hx (by omega) hgr, (h.rows j hj).2⟩, h.apart⟩
theorem setRow_grown (w : World) (g : Nat) (cs : Array Value) : w.grownBy (w.setRow g cs) (some g) :=
  ⟨rfl, rfl, rfl, by rw [size_setRow]; exact Nat.le_refl _, fun k _ hk => setRow_other w _ k _ (fun e => hk (by rw [e]))⟩

abbrev rep (n : Nat) (x : Int) : List Value := List.replicate n (Value.int .u8 x)
/-- 'long': its entries, each of its own -/
structure Long (wD wr : World) (V : Value) (LL : List Value) : Prop where
  below : Below wD.heap.size wD wr
  own : wr.ownsRow wD.heap.size 27 1 V LL.length LL
  entry : ∀ q (h : q < LL.length), ∃ b len cap, LL[q] = .slice (some ⟨b, 0, none⟩) len cap ∧ len ≤ 200 ∧ wr.ownsRow wD.heap.size 5 1 (.slice (some ⟨b, 0, none⟩) len cap) len (rep len (((q % 5 : Nat) : Int) + 1))
variable {wD : World} {V : Value} {LL : List Value}
theorem Long.later {w' : World} (h : Long wD wr V LL) (hb : Below wr.heap.size wr w') : Long wD w' V LL :=
  ⟨below_then h.below hb, own_later h.own hb, fun q hq => by obtain ⟨b, len, cap, e, h1, h2⟩ := h.entry q hq; exact ⟨b, len, cap, e, h1, own_later h2 hb⟩⟩
theorem Long.more {w' : World} {V' : Value} {b len cap : Nat} {x : Int} (h : Long wD wr V LL) (hlen : len ≤ 200) (ho : wr.ownsRow wD.heap.size 5 1 (.slice (some ⟨b, 0, none⟩) len cap) len (rep len x)) (hx : x = ((LL.length % 5 : Nat) : Int) + 1)
    (hown : w'.ownsRow wD.heap.size 27 1 V' (LL.length + 1) (LL ++ [.slice (some ⟨b, 0, none⟩) len cap])) (hgr : wr.grownBy w' V.ownBlock) : Long wD w' V' (LL ++ [.slice (some ⟨b, 0, none⟩) len cap]) := by
  refine ⟨h.below.grown hgr h.below.size (fun k hk => (own_kind h.own hk).1), by simpa using hown, fun q hq => ?_⟩
  by_cases c : q < LL.length
  · rw [List.getElem_append_left c]
    obtain ⟨b, len, cap, e, h1, h2⟩ := h.entry q c
    exact ⟨b, len, cap, e, h1, own_other h2 h.own (by omega) hgr⟩
  · have hq' : q = LL.length := by simp at hq; omega
    subst hq'
    rw [List.getElem_append_right (Nat.le_refl _)]
    simp only [Nat.sub_self, List.getElem_cons_zero]
    refine ⟨b, len, cap, rfl, hlen, ?_⟩
    rw [← hx]
    exact own_other ho h.own (by omega) hgr
/-- what stands in the lists: the bytes of a superblock that may be; marks -/
def enc5 (s t : Sup) (j : Nat) : List Int := encS (mayS (if j = 2 then t else s))
theorem enc5_bytes (s t : Sup) (j : Nat) : Bytes (enc5 s t j) := encS_bytes _
theorem enc5_len (s t : Sup) (j : Nat) : (enc5 s t j).length = 64 := encS_len _
def txt5 (s t : Sup) (a : Nat) : List Value := (List.range a).map fun j => .string (strOfNums (enc5 s t j))
theorem txt5_len (s t : Sup) (a : Nat) : (txt5 s t a).length = a := by simp [txt5]
theorem txt5_next (s t : Sup) (a : Nat) : txt5 s t a ++ [.string (strOfNums (enc5 s t a))] = txt5 s t (a + 1) := by simp [txt5, List.range_succ]
theorem txt5_at (s t : Sup) (a j : Nat) (h : j < a) : (txt5 s t a)[j]? = some (.string (strOfNums (enc5 s t j))) := by simp [txt5, h]
/-- the first i lists are marked, of list i the first k bytes -/
def cm (s t : Sup) (i k j : Nat) : List Int := if j < i then List.replicate 64 ((j : Int) + 1) else if j = i then List.replicate k ((i : Int) + 1) ++ (enc5 s t i).drop k else enc5 s t j
theorem cm_zero (s t : Sup) (j : Nat) : cm s t 0 0 j = enc5 s t j := by
  unfold cm
  rw [if_neg (by omega)]
  by_cases h : j = 0
  · subst h; simp
  · rw [if_neg h]
theorem cm_step (s t : Sup) (i k : Nat) (hk : k < 64) : cm s t i (k + 1) i = (cm s t i k i).set k ((i : Int) + 1) := by
  unfold cm
  rw [if_neg (by omega), if_pos rfl, if_neg (by omega), if_pos rfl]
  have hl := enc5_len s t i
  rw [List.set_append_right _ _ (by simp), List.length_replicate, Nat.sub_self, List.drop_eq_getElem_cons (show k < (enc5 s t i).length by omega), List.set_cons_zero, List.replicate_succ', List.append_assoc]
  rfl
theorem cm_far (s t : Sup) (i k k' j : Nat) (h : j ≠ i) : cm s t i k' j = cm s t i k j := by
  unfold cm
  by_cases c : j < i
  · rw [if_pos c, if_pos c]
  · rw [if_neg c, if_neg c, if_neg h, if_neg h]
theorem cm_next (s t : Sup) (i j : Nat) : cm s t (i + 1) 0 j = cm s t i 64 j := by
  unfold cm
  have hl := enc5_len s t i
  by_cases c : j < i
  · rw [if_pos (by omega), if_pos c]
  · by_cases e : j = i
    · subst e
      rw [if_pos (by omega), if_neg c, if_pos rfl, List.drop_of_length_le (by omega), List.append_nil]
    · rw [if_neg (by omega), if_neg c, if_neg e]
      by_cases e2 : j = i + 1
      · subst e2; simp
      · rw [if_neg e2]
theorem cm_all (s t : Sup) (j : Nat) (h : j < 5) : cm s t 5 0 j = List.replicate 64 ((j : Int) + 1) := if_pos h
theorem Hand.same {D : Nat → List Int} (h : Hand w wr s t l we gs ws C) (hD : ∀ j, D j = C j) : Hand w wr s t l we gs ws D :=
  ⟨h.below, h.bs, h.bt, h.few, h.list, h.were, fun j hj => by rw [hD]; exact h.rows j hj, h.apart⟩
end Go.Proofs.YtcfofoddfhbkcaaDoor
