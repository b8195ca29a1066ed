/-
  The statements' own helpers: Apart, what its loops hold.
-/
import Derived.Test.YtlidjenkicgldaaTa
import Derived.Deep.AppendLies
namespace Go.Proofs.Ytlidjenkicgldaa
open Go.RowKit

section
variable {P : Program} (w : World)

/-- 'append' onto a slice that the call owns, elements of one cell: the first n cells of the old row are as they were, whether it grew or not. -/
theorem append_keeps (t ty : TypeId) (base : Nat) (e : TypeId) (i : TypeInfo) (z : Value) (bytes : Nat) (ht : P.underlying t = some (.slice e)) (hi : P.info? e = some i) (hz : i.zero = some z)
    (hsize : i.size = 1) (hby : i.bytes = bytes) (v : Value) (n : Nat) (xs : List Value) (hown : w.ownsRow base e 1 v n xs)
    (ad : Addr) (m c : Nat) (news : List Value) (hl : news.length = m * 1) (hnews : ∀ j u, news[j]? = some u → w.cell? (ad.add j) = some u) (h1 : ∀ u ∈ news, u.oneCell' = true)
    (h63 : n + m ≤ maxLen) (hbytes : (n + m) * bytes ≤ 140737488355328) (v' : Value) (w' : World) (hrun : (Builtin.append_ #[t, t] ty #[v, .slice (some ad) m c]).run P w = .ok v' w') :
    ∀ g, v.ownBlock = some g → (∃ cs, w'.heap[g]? = some (.cells cs e (0, 0))) ∧ ∀ j, j < n → w'.cell? ⟨g, j, none⟩ = w.cell? ⟨g, j, none⟩ := by
  intro g0 hg0
  have hsmall : n + m ≤ 9223372036854775807 := by simp only [maxLen] at h63; omega
  rcases hown.2 with ⟨rfl, rfl⟩ | ⟨g, cap, cur, rfl, hbg, hg, hnc, hcm, hcs, htake⟩
  · cases hg0
  · obtain rfl : g = g0 := by simpa [Value.ownBlock] using hg0
    by_cases hroom : n + m ≤ cap
    · have hfit : n * i.size + news.length ≤ cur.size := by rw [hl, hcs, hsize]; omega
      have hr := run_append_room (P := P) w t ty e i ht hi g n cap cur hg ad m c news (by rw [hsize]; exact hl) hnews h1 hroom hfit
      rw [hr] at hrun
      simp only [Result.ok.injEq] at hrun
      rw [← hrun.2]
      refine ⟨⟨_, setRow_heap w g cur _ e _ hg⟩, fun j hj => ?_⟩
      rw [cell_of_row _ g j _ e (0, 0) (setRow_heap w g cur _ e _ hg), cell_of_row w g j cur e (0, 0) hg]
      simp only [List.getElem?_toArray, hsize, Nat.mul_one]
      rw [List.append_assoc, List.getElem?_append_left (by simp; omega), List.getElem?_take, if_pos hj]
      simp
    · have holds : ∀ j u, xs[j]? = some u → w.cell? ((⟨g, 0, none⟩ : Addr).add j) = some u := hown.cells (g := g) rfl
      have hr := run_append_grow (P := P) w t ty e i z ht hi hz ⟨g, 0, none⟩ n cap xs (by rw [hsize]; exact hown.1) holds ad m c news (by rw [hsize]; exact hl) hnews (by omega) (by omega) (growslice_fits (by omega) (by rw [hby]; exact hbytes))
      rw [hr] at hrun
      simp only [Result.ok.injEq] at hrun
      rw [← hrun.2]
      have hlt := (Array.getElem?_eq_some_iff.1 hg).1
      have hbk := Below.heap_alloc w.drew (.cells (xs.toArray ++ news.toArray ++ Builtin.zeroCells z.cells (grownCap w (n + m) cap e - (n + m))) e) g hlt
      exact ⟨⟨cur, hbk.trans hg⟩, fun j hj => World.cell?_of_block (w := w) (a := ⟨g, j, none⟩) hbk⟩

/-- the law for the walk: what 'wpList_append_lies' leaves, and that the first n cells are kept -/
theorem wpList_append_kept {ops : Array Oper} {rest : List Oper} {o : Oper} {a : Act} {Q : Exit → Act → World → Prop} (hgd : o.guard = none) (s x : Operand) (t : TypeId)
    (ho : o.op = .call { callee := .builtin .append, args := #[s, x], argTypes := #[t, t] })
    (base : Nat) (e : TypeId) (i : TypeInfo) (z : Value) (bytes : Nat) (ht : P.underlying t = some (.slice e)) (hi : P.info? e = some i) (hz : i.zero = some z)
    (hsize : i.size = 1) (hby : i.bytes = bytes) (hzs : z.cells.size = 1)
    (v : Value) (n : Nat) (xs : List Value) (hs : a.eval s = v) (hown : w.ownsRow base e 1 v n xs)
    (ad : Addr) (m c : Nat) (news : List Value) (hx : a.eval x = .slice (some ad) m c) (hl : news.length = m * 1) (hnews : ∀ j u, news[j]? = some u → w.cell? (ad.add j) = some u) (h1 : ∀ u ∈ news, u.oneCell' = true)
    (hm : 0 < m) (h63 : n + m ≤ maxLen) (hbytes : (n + m) * bytes ≤ 140737488355328) (hbase : base ≤ w.heap.size)
    (h : ∀ g cap w', w'.ownsRow base e 1 (.slice (some ⟨g, 0, none⟩) (n + m) cap) (n + m) (xs ++ news) → w.grownBy w' v.ownBlock → (v.ownBlock = some g ∨ g = w.heap.size) → g < w'.heap.size →
      (∀ g, v.ownBlock = some g → (∃ cs, w'.heap[g]? = some (.cells cs e (0, 0))) ∧ ∀ j, j < n → w'.cell? ⟨g, j, none⟩ = w.cell? ⟨g, j, none⟩) → wpList P ops Q rest (a.put o.dst (.slice (some ⟨g, 0, none⟩) (n + m) cap)) w') : wpList P ops Q (o :: rest) a w := by
  refine wpList_plain hgd fun K hK => ?_
  obtain ⟨g, cap, w', hr, h2, h3, h4, h5⟩ := run_append_lies (P := P) w t o.type base e i z 1 bytes ht hi hz hsize hby hzs (by omega) v n xs hown ad m c news hl hnews h1 hm h63 hbytes hbase _ rfl
  have hk := append_keeps (P := P) w t o.type base e i z bytes ht hi hz hsize hby v n xs hown ad m c news hl hnews h1 h63 hbytes _ w' hr
  unfold Oper.wp
  simp [execOp, ho, resolve, invoke, builtin, hs, hx, hr, Result.andThen]
  exact hK _ _ (h g cap w' h2 h3 h4 h5 hk)
end


abbrev rep (n : Nat) (x : Int) : List Value := List.replicate n (Value.int .u8 x)
theorem own_len {w : World} {base e : Nat} {v : Value} {n : Nat} {xs : List Value} (h : w.ownsRow base e 1 v n xs) : xs.length = n := by have := h.1; omega

/-- where list j lies -/
def gOf (vs : List Value) (j : Nat) : Nat := match vs[j]? with | some (.slice (some a) _ _) => a.block | _ => 0
def cOf (vs : List Value) (j : Nat) : Nat := match vs[j]? with | some (.slice _ _ c) => c | _ => 0

theorem Told.form {w : World} {B g : Nat} {ws : List Wr} {vs : List Value} (h : Told w B g ws vs) (j : Nat) (hj : j < ws.length) : vs[j]'(by rw [h.len]; exact hj) = .slice (some ⟨gOf vs j, 0, none⟩) 64 (cOf vs j) := by
  have hjv : j < vs.length := by rw [h.len]; exact hj
  rcases (h.each j hj hjv).2 with ⟨_, h0⟩ | ⟨gj, cap, cur, e, _⟩
  · omega
  · rw [e]
    have e2 : vs[j]? = some (.slice (some ⟨gj, 0, none⟩) 64 cap) := by rw [List.getElem?_eq_getElem hjv, e]
    simp [gOf, cOf, e2]
theorem Told.rise {w : World} {B g : Nat} {ws : List Wr} {vs : List Value} (h : Told w B g ws vs) (i j : Nat) (hij : i < j) (hj : j < ws.length) : gOf vs i < gOf vs j := by
  have hi' : i < vs.length := by rw [h.len]; omega
  have hj' : j < vs.length := by rw [h.len]; omega
  exact h.apart i j hi' hj' hij _ _ (by rw [h.form i (by omega)]; rfl) (by rw [h.form j hj]; rfl)
theorem Told.unlike {w : World} {B g : Nat} {ws : List Wr} {vs : List Value} (h : Told w B g ws vs) (i j : Nat) (hi : i < ws.length) (hj : j < ws.length) (hne : i ≠ j) : gOf vs i ≠ gOf vs j := by
  rcases Nat.lt_or_gt_of_ne hne with c | c
  · exact Nat.ne_of_lt (h.rise i j c hj)
  · exact Nat.ne_of_gt (h.rise j i c hi)

/-- phase 1: lists below i are marked, of list i the first k bytes -/
structure Ph (w wr : World) (B g m : Nat) (vs : List Value) (i k : Nat) : Prop where
  below : Below B w wr
  blk : Blk wr g 82 (m * 2)
  data : ∀ j, j < m → wr.cell? ⟨g, j * 2 + 1, none⟩ = some (.slice (some ⟨gOf vs j, 0, none⟩) 64 (cOf vs j))
  sect : ∀ j, j < i → j < m → wr.cell? ⟨g, j * 2, none⟩ = some (.int .i64 (-(j : Int)))
  rows : ∀ j, j < m → ∃ xs, wr.ownsRow B 5 1 (.slice (some ⟨gOf vs j, 0, none⟩) 64 (cOf vs j)) 64 xs ∧ (j < i → xs = rep 64 ((j : Int) + 1)) ∧ (j = i → xs.take k = rep k ((i : Int) + 1))

theorem Told.start {w : World} {B g : Nat} {ws : List Wr} {vs : List Value} (h : Told w B g ws vs) : Ph w w B g ws.length vs 0 0 := by
  refine ⟨Below.refl _ _, h.blk, fun j hj => ?_, fun j hj => absurd hj (Nat.not_lt_zero _), fun j hj => ?_⟩
  · rw [h.data j (by rw [h.len]; exact hj), h.form j hj]
  · have := h.each j hj (by rw [h.len]; exact hj)
    rw [h.form j hj] at this
    exact ⟨_, this, fun h => absurd h (Nat.not_lt_zero _), fun _ => rfl⟩

theorem Ph.store {w wr : World} {B g : Nat} {ws : List Wr} {vs : List Value} {i k : Nat} (hT : Told w B g ws vs) (h : Ph w wr B g ws.length vs i k) (hi : i < ws.length) (hk : k < 64) :
    (∃ u, wr.cell? ⟨gOf vs i, k, none⟩ = some u) ∧ wr.frozen? ⟨gOf vs i, k, none⟩ = false ∧ Ph w (wr.setCell ⟨gOf vs i, k, none⟩ (.int .u8 ((i : Int) + 1))) B g ws.length vs i (k + 1) := by
  obtain ⟨xs, hx, _, hx2⟩ := h.rows i hi
  have hl := own_len hx
  have hc := hx.cellAt k (by omega)
  have hg := own_blk hx
  have hne : g ≠ gOf vs i := h.blk.ne hg.1 (by decide)
  refine ⟨⟨_, hc.trans (List.getElem?_eq_getElem (by omega))⟩, hx.frozenAt k, ?_⟩
  have hst := hx.stored k (.int .u8 ((i : Int) + 1))
  refine ⟨h.below.setCell hg.2.2.2 _, h.blk.setCell _, fun j hj => ?_, fun j hj hjm => ?_, fun j hj => ?_⟩
  · rw [World.cell?_setCell_far _ _ _ _ (by show gOf vs i ≠ g; exact fun e => hne e.symm)]; exact h.data j hj
  · rw [World.cell?_setCell_far _ _ _ _ (by show gOf vs i ≠ g; exact fun e => hne e.symm)]; exact h.sect j hj hjm
  · by_cases e : j = i
    · subst e
      refine ⟨xs.set k (.int .u8 ((j : Int) + 1)), hst.1, fun h => absurd h (Nat.lt_irrefl _), fun _ => ?_⟩
      rw [List.take_succ_eq_append_getElem (by simpa [hl] using hk), List.take_set_of_le (Nat.le_refl _), hx2 rfl, List.getElem_set_self]
      exact List.replicate_succ'.symm
    · obtain ⟨ys, hy, hy1, hy2⟩ := h.rows j hj
      refine ⟨ys, hy.kept hst.2 (.inr ?_), hy1, fun e2 => absurd e2 e⟩
      simp only [Value.ownBlock, ne_eq, Option.some.injEq]
      exact hT.unlike j i hj hi e

theorem Ph.next {w wr : World} {B g : Nat} {ws : List Wr} {vs : List Value} {i : Nat} (hT : Told w B g ws vs) (h : Ph w wr B g ws.length vs i 64) (hi : i < ws.length) :
    (∃ u, wr.cell? ⟨g, i * 2, none⟩ = some u) ∧ wr.frozen? ⟨g, i * 2, none⟩ = false ∧ Ph w (wr.setCell ⟨g, i * 2, none⟩ (.int .i64 (-(i : Int)))) B g ws.length vs (i + 1) 0 := by
  obtain ⟨u, hu⟩ := h.blk.some (i * 2) (by omega)
  refine ⟨⟨u, hu⟩, h.blk.free _, h.below.setCell hT.hg _, h.blk.setCell _, fun j hj => ?_, fun j hj hjm => ?_, fun j hj => ?_⟩
  · rw [World.cell?_setCell_other _ _ _ _ (by intro e; simp only [Addr.mk.injEq] at e; omega)]; exact h.data j hj
  · by_cases e : j = i
    · subst e; exact World.cell?_setCell_same _ _ _ hu
    · rw [World.cell?_setCell_other _ _ _ _ (by intro e; simp only [Addr.mk.injEq] at e; omega)]; exact h.sect j (by omega) hjm
  · obtain ⟨xs, hx, hx1, hx2⟩ := h.rows j hj
    have hne : gOf vs j ≠ g := (own_blk hx).1.ne h.blk (by decide)
    refine ⟨xs, own_same hx (fun k hk => heap_setCell_other _ _ _ _ (by simp only [Value.ownBlock, Option.some.injEq] at hk; rw [← hk]; exact hne)), fun hlt => ?_, fun _ => rfl⟩
    by_cases e : j = i
    · subst e
      have := hx2 rfl
      rw [List.take_of_length_le (by rw [own_len hx]; omega)] at this
      exact this
    · exact hx1 (by omega)

/-- bytes of one kind at the head of a block -/
def MkR (w : World) (b n : Nat) (x : Int) : Prop := (∃ cs, w.heap[b]? = some (.cells cs 5 (0, 0))) ∧ ∀ k, k < n → w.cell? ⟨b, k, none⟩ = some (.int .u8 x)
theorem MkR.same {w w' : World} {b n : Nat} {x : Int} (h : MkR w b n x) (e : w'.heap[b]? = w.heap[b]?) : MkR w' b n x := by
  refine ⟨by rw [e]; exact h.1, fun k hk => ?_⟩
  rw [World.cell?_of_block (w := w) (a := ⟨b, k, none⟩) e]; exact h.2 k hk
theorem MkR.lt {w : World} {b n : Nat} {x : Int} (h : MkR w b n x) : b < w.heap.size := by
  obtain ⟨⟨cs, h⟩, _⟩ := h; exact (Array.getElem?_eq_some_iff.1 h).1
theorem MkR.of {w : World} {base b n c : Nat} {x : Int} (h : w.ownsRow base 5 1 (.slice (some ⟨b, 0, none⟩) n c) n (rep n x)) : MkR w b n x := by
  obtain ⟨⟨cs, hc, _⟩, _⟩ := own_blk h
  refine ⟨⟨cs, hc⟩, fun k hk => ?_⟩
  have := h.cellAt k (by omega)
  rw [this]
  simp [rep, hk]

/-- phase 2: lists from i on are still to be grown; r: the block of the list that grows now; LL: the grown ones -/
structure Gr (w wr : World) (B g m : Nat) (vs : List Value) (i : Nat) (r : Option Nat) (V : Value) (LL : List Value) : Prop where
  below : Below B w wr
  bw : w.heap.size ≤ wr.heap.size
  hB : B ≤ w.heap.size
  data : ∀ j, j < m → wr.cell? ⟨g, j * 2 + 1, none⟩ = some (.slice (some ⟨gOf vs j, 0, none⟩) 64 (cOf vs j))
  sect : ∀ j, j < m → wr.cell? ⟨g, j * 2, none⟩ = some (.int .i64 (-(j : Int)))
  blk : Blk wr g 82 (m * 2)
  marks : ∀ j, j < m → MkR wr (gOf vs j) 64 ((j : Int) + 1)
  todo : ∀ j, i ≤ j → j < m → wr.ownsRow B 5 1 (.slice (some ⟨gOf vs j, 0, none⟩) 64 (cOf vs j)) 64 (rep 64 ((j : Int) + 1))
  long : wr.ownsRow w.heap.size 23 1 V LL.length LL
  entry : ∀ q (h : q < LL.length), ∃ b c, LL[q] = .slice (some ⟨b, 0, none⟩) 134 c ∧ MkR wr b 134 ((q : Int) + 1) ∧ (∀ j, i ≤ j → j < m → gOf vs j ≠ b) ∧ r ≠ some b
  rfar : ∀ b, r = some b → ∀ j, i ≤ j → j < m → gOf vs j ≠ b

theorem Ph.grow {w wr : World} {B g : Nat} {ws : List Wr} {vs : List Value} (h : Ph w wr B g ws.length vs ws.length 0) (hB : B ≤ w.heap.size) : Gr w wr B g ws.length vs 0 none (.slice none 0 0) [] := by
  have hr : ∀ j, j < ws.length → wr.ownsRow B 5 1 (.slice (some ⟨gOf vs j, 0, none⟩) 64 (cOf vs j)) 64 (rep 64 ((j : Int) + 1)) := fun j hj => by
    obtain ⟨xs, hx, hx1, _⟩ := h.rows j hj
    rw [hx1 hj] at hx
    exact hx
  exact ⟨h.below, h.below.size, hB, h.data, fun j hj => h.sect j hj hj, h.blk, fun j hj => MkR.of (hr j hj), fun j _ hj => hr j hj, World.ownsRow_nil _ _ _ _, fun q h => absurd h (Nat.not_lt_zero _), fun b e => by cases e⟩

/-- a step that turns nothing but blocks beyond all of these, or the block of the list that grows, behind its first n bytes -/
theorem Gr.step {w wr w' : World} {B g : Nat} {ws : List Wr} {vs : List Value} {i : Nat} {r r' : Option Nat} {V : Value} {LL : List Value} (h : Gr w wr B g ws.length vs i r V LL)
    (hb : Below B wr w') (hsz : wr.heap.size ≤ w'.heap.size) (hk : ∀ k, k < wr.heap.size → some k ≠ r → w'.heap[k]? = wr.heap[k]?)
    (hr : ∀ k, r = some k → (∃ cs, w'.heap[k]? = some (.cells cs 5 (0, 0))) ∧ ∀ j, j < 64 → w'.cell? ⟨k, j, none⟩ = wr.cell? ⟨k, j, none⟩) (hr5 : ∀ k, r = some k → ∃ sz, Blk wr k 5 sz)
    (hr' : ∀ b, r' = some b → r = some b ∨ wr.heap.size ≤ b) : Gr w w' B g ws.length vs i r' V LL := by
  have hng : some g ≠ r := fun e => by
    obtain ⟨sz, hb5⟩ := hr5 g e.symm
    exact hb5.ne h.blk (by decide) rfl
  have hgg := hk g h.blk.lt hng
  have hnV : ∀ k, V.ownBlock = some k → w'.heap[k]? = wr.heap[k]? := fun k e => by
    obtain ⟨sz, hb23⟩ := own_ownBlk h.long e
    refine hk k hb23.lt (fun e2 => ?_)
    obtain ⟨sz5, hb5⟩ := hr5 k e2.symm
    exact hb5.ne hb23 (by decide) rfl
  refine ⟨h.below.trans hb, Nat.le_trans h.bw hsz, h.hB, fun j hj => ?_, fun j hj => ?_, h.blk.same hgg, fun j hj => ?_, fun j hij hj => ?_, own_same h.long hnV, fun q hq => ?_, fun b e j hij hj => ?_⟩
  · rw [World.cell?_of_block (w := wr) (a := ⟨g, j * 2 + 1, none⟩) hgg]; exact h.data j hj
  · rw [World.cell?_of_block (w := wr) (a := ⟨g, j * 2, none⟩) hgg]; exact h.sect j hj
  · by_cases e : some (gOf vs j) = r
    · obtain ⟨h1, h2⟩ := hr _ e.symm
      exact ⟨h1, fun k hk' => by rw [h2 k hk']; exact (h.marks j hj).2 k hk'⟩
    · exact (h.marks j hj).same (hk _ (h.marks j hj).lt e)
  · refine own_same (h.todo j hij hj) (fun k hkk => ?_)
    simp only [Value.ownBlock, Option.some.injEq] at hkk
    subst hkk
    exact hk _ (own_blk (h.todo j hij hj)).1.lt (fun e => h.rfar _ e.symm j hij hj rfl)
  · obtain ⟨b, c, h1, h2, h3, h4⟩ := h.entry q hq
    exact ⟨b, c, h1, h2.same (hk b h2.lt (fun e => h4 e.symm)), h3, fun e => (hr' b e).elim h4 (fun e2 => by have := h2.lt; omega)⟩
  · rcases hr' b e with e2 | e2
    · exact h.rfar b e2 j hij hj
    · have := (h.marks j hj).lt; omega

/-- begin with list i -/
theorem Gr.begin {w wr : World} {B g : Nat} {ws : List Wr} {vs : List Value} {i : Nat} {V : Value} {LL : List Value} (hT : Told w B g ws vs) (h : Gr w wr B g ws.length vs i none V LL) (hi : i < ws.length) : Gr w wr B g ws.length vs (i + 1) (some (gOf vs i)) V LL := by
  refine ⟨h.below, h.bw, h.hB, h.data, h.sect, h.blk, h.marks, fun j hij hj => h.todo j (by omega) hj, h.long, fun q hq => ?_, fun b e j hij hj => ?_⟩
  · obtain ⟨b, c, h1, h2, h3, _⟩ := h.entry q hq
    exact ⟨b, c, h1, h2, fun j hij hj => h3 j (by omega) hj, fun e => h3 i (Nat.le_refl _) hi (Option.some.inj e)⟩
  · simp only [Option.some.injEq] at e
    subst e
    exact hT.unlike j i hj hi (by omega)

/-- list i has grown -/
theorem Gr.enter {w wr w' : World} {B g : Nat} {ws : List Wr} {vs : List Value} {i b c : Nat} {V V' : Value} {LL : List Value} (h : Gr w wr B g ws.length vs (i + 1) (some b) V LL) (hl : LL.length = i) (hx : MkR wr b 134 ((i : Int) + 1))
    (hown : w'.ownsRow w.heap.size 23 1 V' (LL.length + 1) (LL ++ [.slice (some ⟨b, 0, none⟩) 134 c])) (hgrow : wr.grownBy w' V.ownBlock) : Gr w w' B g ws.length vs (i + 1) none V' (LL ++ [.slice (some ⟨b, 0, none⟩) 134 c]) := by
  have hn : ∀ k sz t, Blk wr k t sz → t ≠ 23 → w'.heap[k]? = wr.heap[k]? := fun k sz t hk ht => hgrow.block k hk.lt (fun e => by
    obtain ⟨sz', hk'⟩ := own_ownBlk h.long e.symm
    exact hk.ne hk' ht rfl)
  have hm : ∀ b n x, MkR wr b n x → MkR w' b n x := fun b n x hM => by
    obtain ⟨cs, hcs⟩ := hM.1
    exact hM.same (hn b cs.size 5 ⟨cs, hcs, rfl⟩ (by decide))
  have hgg := hn g _ 82 h.blk (by decide)
  refine ⟨h.below.grown hgrow (Nat.le_trans h.hB h.bw) (fun k hk => Nat.le_trans h.hB (h.long.lt k hk).1), Nat.le_trans h.bw hgrow.size, h.hB, fun j hj => ?_, fun j hj => ?_, h.blk.same hgg, fun j hj => hm _ _ _ (h.marks j hj), fun j hij hj => ?_, by rw [List.length_append, List.length_singleton]; exact hown, fun q hq => ?_, fun b e => by cases e⟩
  · rw [World.cell?_of_block (w := wr) (a := ⟨g, j * 2 + 1, none⟩) hgg]; exact h.data j hj
  · rw [World.cell?_of_block (w := wr) (a := ⟨g, j * 2, none⟩) hgg]; exact h.sect j hj
  · refine own_same (h.todo j hij hj) (fun k hk => ?_)
    obtain ⟨sz, hk'⟩ := own_ownBlk (h.todo j hij hj) hk
    exact hn k sz 5 hk' (by decide)
  · by_cases cq : q < LL.length
    · obtain ⟨b2, c2, h1, h2, h3, _⟩ := h.entry q cq
      exact ⟨b2, c2, by rw [List.getElem_append_left cq]; exact h1, hm _ _ _ h2, h3, fun e => by cases e⟩
    · have e : q = LL.length := by simp at hq; omega
      subst e
      refine ⟨b, c, by simp, ?_, fun j hij hj => h.rfar b rfl j hij hj, fun e => by cases e⟩
      rw [hl]; exact hm _ _ _ hx
end Go.Proofs.Ytlidjenkicgldaa
