/-
  Rows of ones own, of whatever elements.
-/
import Derived.Test.YthcpnfelnonhnaaDoorEa
import Derived.Maps.AppendAt
import Derived.Laws.AppendOwn
import Derived.Laws.AppendOwnNone
import Derived.Deep.AppendLies
import Derived.ArgAppend
import Derived.Deep.MidRow
import Derived.BigQuiet
import Derived.Deep.RegionHeld3
import Derived.LaidMore
namespace Go.Proofs.YthcpnfelnonhnaaDoor
open Go.RowKit

namespace O
structure ElT (t e : TypeId) (size bytes : Nat) : Prop where
  ut : Tryd.prog.underlying t = some (.slice e)
  inf : ∃ i z, Tryd.prog.info? e = some i ∧ i.zero = some z ∧ i.size = size ∧ i.bytes = bytes ∧ z.cells.size = size
  pos : 0 < size
  small : bytes ≤ 100
section
variable {w w' : World} {base : Nat} {t e : TypeId} {size bytes : Nat} {v : Value} {n : Nat} {xs : List Value}
theorem kept_grown (h : w.grownBy w' v.ownBlock) : Kept (fun b => v.ownBlock = some b) w w' := ⟨h.os, h.tape, h.output, h.size, fun b hb hne => h.block b hb fun e => hne e.symm⟩
theorem own_typ (h : w.ownsRow base e size v n xs) {b : Nat} (hb : v.ownBlock = some b) : ∃ cur, w.heap[b]? = some (.cells cur e (0, 0)) := by
  rcases h.2 with ⟨rfl, _⟩ | ⟨g, cap, cur, rfl, _, hg, _⟩
  · cases hb
  · cases hb; exact ⟨cur, hg⟩
theorem own_keeps (h : w.ownsRow base e size v n xs) (hk : ∀ g, v.ownBlock = some g → w'.heap[g]? = w.heap[g]?) : w'.ownsRow base e size v n xs := by
  refine ⟨h.1, ?_⟩
  rcases h.2 with h | ⟨g, cap, cur, rfl, e2, e3, r⟩
  · exact .inl h
  · exact .inr ⟨g, cap, cur, rfl, e2, (hk g rfl).trans e3, r⟩
theorem own_later (h : w.ownsRow base e size v n xs) (hb : Below w.heap.size w w') : w'.ownsRow base e size v n xs := own_keeps h fun g hg => hb.block g (h.lt g hg).2
theorem own_far {S : Nat → Prop} (h : w.ownsRow base e size v n xs) (hk : Kept S w w') (hS : ∀ g, v.ownBlock = some g → ¬ S g) : w'.ownsRow base e size v n xs := own_keeps h fun g hg => hk.block g (h.lt g hg).2 (hS g hg)
/-- rows of different elements are apart -/
theorem own_ne {base' : Nat} {e' : TypeId} {size' : Nat} {v' : Value} {n' : Nat} {xs' : List Value} (h : w.ownsRow base e size v n xs) (h' : w.ownsRow base' e' size' v' n' xs') (hne : e ≠ e') {g : Nat} (hg : v.ownBlock = some g) : v'.ownBlock ≠ some g := fun hg' => by
  obtain ⟨c, hc⟩ := own_typ h hg
  obtain ⟨c', hc'⟩ := own_typ h' hg'
  rw [hc] at hc'
  simp only [Option.some.injEq, Obj.cells.injEq] at hc'
  exact hne hc'.2.1
theorem own_not (h : w.ownsRow base e size v n xs) {b : Nat} {cur : Array Value} {ty : TypeId} {f : Nat × Nat} (hx : w.heap[b]? = some (.cells cur ty f)) (hne : ty ≠ e) : v.ownBlock ≠ some b := fun hg => by
  obtain ⟨c, hc⟩ := own_typ h hg
  rw [hc] at hx
  simp only [Option.some.injEq, Obj.cells.injEq] at hx
  exact hne hx.2.1.symm
theorem own_notMap (h : w.ownsRow base e size v n xs) {b : Nat} {es : Array MapEntry} {clock : Nat} (hx : w.heap[b]? = some (.map es clock)) : v.ownBlock ≠ some b := fun hg => by
  obtain ⟨c, hc⟩ := own_typ h hg
  rw [hc] at hx
  cases hx
/-- a row that is not empty -/
theorem own_some (h : w.ownsRow base e size v n xs) (hn : 0 < n) : ∃ g cap, v = .slice (some ⟨g, 0, none⟩) n cap ∧ n ≤ cap ∧ (∀ j u, xs[j]? = some u → w.cell? ⟨g, j, none⟩ = some u) ∧ ∀ o, w.frozen? ⟨g, o, none⟩ = false := by
  have hc : ∀ g, v.ownBlock = some g → _ := fun g hg => h.cells (g := g) hg
  rcases h.2 with ⟨_, e0⟩ | ⟨g, cap, cur, rfl, _, hg, hcap, _⟩
  · omega
  · refine ⟨g, cap, rfl, hcap, fun j u hj => ?_, fun o => by simp [World.frozen?, hg]⟩
    have := hc g rfl j u hj
    rw [Go.WideShapes.add_plain, Nat.zero_add] at this
    exact this
theorem own_form (h : w.ownsRow base e size v n xs) : ∃ p c, v = .slice p n c ∧ n ≤ c ∧ (0 < n → ∃ g, p = some ⟨g, 0, none⟩) := by
  rcases h.2 with ⟨rfl, rfl⟩ | ⟨g, cap, cur, rfl, _, _, hcap, _⟩
  · exact ⟨_, _, rfl, Nat.le_refl _, fun h => absurd h (Nat.lt_irrefl 0)⟩
  · exact ⟨_, _, rfl, hcap, fun _ => ⟨g, rfl⟩⟩
theorem own_cell {g c : Nat} (h : w.ownsRow base e size (.slice (some ⟨g, 0, none⟩) n c) n xs) {j : Nat} {u : Value} (hj : xs[j]? = some u) : w.cell? ⟨g, j, none⟩ = some u := by
  have := h.cells (g := g) rfl j u hj
  rw [Go.WideShapes.add_plain, Nat.zero_add] at this
  exact this
theorem own_free {g c : Nat} (h : w.ownsRow base e size (.slice (some ⟨g, 0, none⟩) n c) n xs) (o : Nat) : w.frozen? ⟨g, o, none⟩ = false := by
  obtain ⟨cur, hc⟩ := own_typ (b := g) h rfl
  simp [World.frozen?, hc]
theorem own_set (h : w.ownsRow base e size v n xs) {g : Nat} (hg : v.ownBlock = some g) (j : Nat) (u : Value) : (w.setCell ⟨g, j, none⟩ u).ownsRow base e size v n (xs.set j u) := by
  refine ⟨by rw [List.length_set]; exact h.1, ?_⟩
  rcases h.2 with ⟨rfl, _⟩ | ⟨g', cap, cur, rfl, hb, hg', hcap, hm, hs, ht⟩
  · cases hg
  · obtain rfl : g' = g := by simpa [Value.ownBlock] using hg
    refine .inr ⟨g', cap, cur.setIfInBounds j u, rfl, hb, ?_, hcap, hm, by simpa using hs, ?_⟩
    · rw [setCell_eq_setRow w g' j _ e (0, 0) u hg']
      exact setRow_heap w g' _ _ e _ hg'
    · rw [← ht]
      simp [List.take_set]
/-- 'append' -/
theorem run_own (E : ElT t e size bytes) (h : w.ownsRow base e size v n xs) (ty : TypeId) (a : Addr) (m c : Nat) (news : List Value) (hl : news.length = m * size) (hnews : ∀ j u, news[j]? = some u → w.cell? (a.add j) = some u) (h1 : ∀ u ∈ news, u.oneCell' = true) (hn : n + m ≤ 10000) (hb : base ≤ w.heap.size) :
    ∃ v' w', (Builtin.append_ #[t, t] ty #[v, .slice (some a) m c]).run Tryd.prog w = .ok v' w' ∧ w'.ownsRow base e size v' (n + m) (xs ++ news) ∧ Kept (fun b => v.ownBlock = some b) w w' ∧ (v'.ownBlock = v.ownBlock ∨ v'.ownBlock = some w.heap.size) := by
  obtain ⟨i, z, hi, hz, hs, hby, hzs⟩ := E.inf
  have hml : 10000 ≤ maxLen := by decide
  have hsm := E.small
  obtain ⟨v', w', hr, h2, h3, _, h5⟩ := run_append_own_at w base t ty e i z size bytes E.ut hi hz hs hby hzs E.pos v n xs h a m c news hl hnews h1 (by omega) (by have := Nat.mul_le_mul hn hsm; omega) hb
  exact ⟨v', w', hr, h2, kept_grown h3, h5⟩
theorem wpList_own {ops : Array Oper} {rest : List Oper} {o : Oper} {A : Act} {Q : Exit → Act → World → Prop} (hgd : o.guard = none) (s x : Operand) (E : ElT t e size bytes)
    (ho : o.op = .call { callee := .builtin .append, args := #[s, x], argTypes := #[t, t] }) (hs : A.eval s = v) (h : w.ownsRow base e size v n xs)
    (a : Addr) (m c : Nat) (news : List Value) (hx : A.eval x = .slice (some a) m c) (hl : news.length = m * size) (hnews : ∀ j u, news[j]? = some u → w.cell? (a.add j) = some u) (h1 : ∀ u ∈ news, u.oneCell' = true) (hn : n + m ≤ 10000) (hb : base ≤ w.heap.size)
    (hK : ∀ v' w', w'.ownsRow base e size v' (n + m) (xs ++ news) → Kept (fun b => v.ownBlock = some b) w w' → (v'.ownBlock = v.ownBlock ∨ v'.ownBlock = some w.heap.size) → wpList Tryd.prog ops Q rest (A.put o.dst v') w') : wpList Tryd.prog ops Q (o :: rest) A w := by
  refine wpList_plain hgd fun K hK' => ?_
  obtain ⟨v', w', hr, h2, h3, h4⟩ := run_own E h o.type a m c news hl hnews h1 hn hb
  unfold Oper.wp
  simp [execOp, ho, resolve, invoke, builtin, hs, hx, hr, Result.andThen]
  exact hK' _ _ (hK v' w' h2 h3 h4)
theorem step_own {ops : Array Oper} {o : Oper} {A : Act} {K : Act → World → Prop} {Q : Exit → Act → World → Prop} {F : Prop} (hgd : o.guard = none) (s x : Operand) (E : ElT t e size bytes)
    (ho : o.op = .call { callee := .builtin .append, args := #[s, x], argTypes := #[t, t] }) (hs : A.eval s = v) (h : w.ownsRow base e size v n xs)
    (a : Addr) (m c : Nat) (news : List Value) (hx : A.eval x = .slice (some a) m c) (hl : news.length = m * size) (hnews : ∀ j u, news[j]? = some u → w.cell? (a.add j) = some u) (h1 : ∀ u ∈ news, u.oneCell' = true) (hn : n + m ≤ 10000) (hb : base ≤ w.heap.size)
    (hK : ∀ v' w', w'.ownsRow base e size v' (n + m) (xs ++ news) → Kept (fun b => v.ownBlock = some b) w w' → (v'.ownBlock = v.ownBlock ∨ v'.ownBlock = some w.heap.size) → K (A.put o.dst v') w') :
    if Region.wanted o (yielded ops A.tmps) = true then Oper.wp Tryd.prog o A w K Q else F := by
  have hw : Region.wanted o (yielded ops A.tmps) = true := by simp [Region.wanted, hgd]
  rw [if_pos hw]
  obtain ⟨v', w', hr, h2, h3, h4⟩ := run_own E h o.type a m c news hl hnews h1 hn hb
  unfold Oper.wp
  simp [execOp, ho, resolve, invoke, builtin, hs, hx, hr, Result.andThen]
  exact hK v' w' h2 h3 h4
/-- an empty row, made -/
theorem own_empty (w : World) (hb : base ≤ w.heap.size) : (w.alloc (.cells #[] e)).ownsRow base e size (.slice (some ⟨w.heap.size, 0, none⟩) 0 0) 0 [] := World.ownsRow_made w #[] 0 hb (Nat.zero_le _) (by simp)
/-- a piece of a row -/
theorem own_piece (h : w.ownsRow base e size v n xs) {g : Nat} (hg : v.ownBlock = some g) (k l : Nat) : ∀ j u, ((xs.drop k).take l)[j]? = some u → w.cell? ((⟨g, k, none⟩ : Addr).add j) = some u := by
  intro j u hj
  have hc := h.cells hg (k + j) u (by rw [List.getElem?_take] at hj; split at hj <;> simp_all)
  rw [Go.WideShapes.add_plain] at hc ⊢
  rw [Nat.zero_add] at hc
  exact hc
end

section
variable {w w' : World}
structure FR (we w : World) (base : Nat) (e : TypeId) (size : Nat) (v : Value) (n : Nat) (xs : List Value) : Prop where
  own : w.ownsRow base e size v n xs
  below : Below we.heap.size we w
  new : ∀ g, v.ownBlock = some g → we.heap.size ≤ g
theorem FR.empty {we w : World} {base : Nat} (e : TypeId) (size : Nat) (hb : Below we.heap.size we w) (hB : base ≤ we.heap.size) : FR we (w.alloc (.cells #[] e)) base e size (.slice (some ⟨w.heap.size, 0, none⟩) 0 0) 0 [] :=
  ⟨own_empty w (Nat.le_trans hB hb.size), below_then hb (below_alloc w _), fun g hg => by have := hb.size; simp [Value.ownBlock] at hg; omega⟩
theorem FR.app {we w w' : World} {base : Nat} {e : TypeId} {size : Nat} {v v' : Value} {n n' : Nat} {xs ys : List Value} (h : FR we w base e size v n xs) (ho : w'.ownsRow base e size v' n' ys) (hk : Kept (fun b => v.ownBlock = some b) w w') (hv : v'.ownBlock = v.ownBlock ∨ v'.ownBlock = some w.heap.size) : FR we w' base e size v' n' ys :=
  ⟨ho, hk.into h.below (fun b hb e => by have := h.new b e; omega) (Nat.le_refl _), fun g hg => by
    rcases hv with e | e
    · exact h.new g (e ▸ hg)
    · rw [e] at hg; have := h.below.size; simp at hg; omega⟩
def One (w : World) (g : Nat) (e : TypeId) (v : Value) : Prop := w.heap[g]? = some (.cells #[v] e (0, 0))
theorem One.made (w : World) (e : TypeId) (v : Value) : One (w.alloc (.cells #[v] e)) w.heap.size e v := heap_alloc_new w _
theorem One.later {g : Nat} {e : TypeId} {v : Value} (h : One w g e v) (hb : Below w.heap.size w w') : One w' g e v := (hb.block g (Array.getElem?_eq_some_iff.1 h).1).trans h
theorem One.news {g : Nat} {e : TypeId} {v : Value} (h : One w g e v) : ∀ j u, [v][j]? = some u → w.cell? ((⟨g, 0, none⟩ : Addr).add j) = some u := by
  intro j u hj
  rw [Go.WideShapes.add_plain, cell_of_row _ g (0 + j) _ e (0, 0) h, Nat.zero_add]
  simpa using hj
theorem one_one {v : Value} (h : v.oneCell' = true) : ∀ u ∈ [v], u.oneCell' = true := by
  intro u hu; obtain rfl := List.mem_singleton.1 hu; exact h
theorem own_shape {base : Nat} {e : TypeId} {size : Nat} {v : Value} {n : Nat} {xs : List Value} (h : w.ownsRow base e size v n xs) : ∃ p c, v = .slice p n c := by
  obtain ⟨p, c, e1, _⟩ := own_form h
  exact ⟨p, c, e1⟩
theorem ones_piece {xs : List Value} (h : ∀ u ∈ xs, u.oneCell' = true) (k l : Nat) : ∀ u ∈ (xs.drop k).take l, u.oneCell' = true := fun u hu => h u (List.mem_of_mem_drop (List.mem_of_mem_take hu))
theorem own_piece2 {base : Nat} {e : TypeId} {size : Nat} {v : Value} {n : Nat} {xs : List Value} (h : w.ownsRow base e size v n xs) {g : Nat} (hg : v.ownBlock = some g) {ad : Addr} {k l : Nat} (ha : ad = ⟨g, k, none⟩ ∨ l = 0) : ∀ j u, ((xs.drop k).take l)[j]? = some u → w.cell? (ad.add j) = some u := by
  rcases ha with rfl | rfl
  · exact own_piece h hg k l
  · intro j u hj
    simp at hj
end
theorem drew_more {w wr : World} (h : ∃ m, wr = w.drewN m) (n : Nat) : ∃ m, wr.drewN n = w.drewN m := by
  obtain ⟨m, rfl⟩ := h
  exact ⟨m + n, by simp [World.drewN, Nat.add_assoc]⟩


theorem elE : ElT 60 57 34 48 := by
  obtain ⟨i0, hi, h0, h1, h2⟩ := info_parts etC.inf
  exact ⟨etC.ut, ⟨i0, _, hi, h0, h1, h2, rfl⟩, by decide, by decide⟩
theorem elR : ElT 46 75 34 48 := by
  obtain ⟨i0, hi, h0, h1, h2⟩ := info_parts etR.inf
  exact ⟨etR.ut, ⟨i0, _, hi, h0, h1, h2, rfl⟩, by decide, by decide⟩
theorem elM : ElT 45 55 33 40 := by
  obtain ⟨i0, hi, h0, h1, h2⟩ := info_parts infoI
  exact ⟨Tryd.underlying45, ⟨i0, _, hi, h0, h1, h2, rfl⟩, by decide, by decide⟩
theorem info3 : (Tryd.prog.info? 3).map (fun i => (i.zero, i.size, i.bytes)) = some (some (.int .i64 0), 1, 8) := by kernel_rfl
theorem elI : ElT 39 3 1 8 := by
  obtain ⟨i0, hi, h0, h1, h2⟩ := info_parts info3
  exact ⟨Tryd.underlying39, ⟨i0, _, hi, h0, h1, h2, rfl⟩, by decide, by decide⟩
section
variable {w w' : World} {base base' : Nat} {t e : TypeId} {size bytes : Nat} {v u : Value} {n m : Nat} {xs ys : List Value}
/-- 'append' of a whole row, nil or not -/
theorem run_own_any (E : ElT t e size bytes) (h : w.ownsRow base e size v n xs) (ty : TypeId) (hu : w.ownsRow base' e size u m ys) (h1 : ∀ x ∈ ys, x.oneCell' = true) (hn : n + m ≤ 10000) (hb : base ≤ w.heap.size) :
    ∃ v' w', (Builtin.append_ #[t, t] ty #[v, u]).run Tryd.prog w = .ok v' w' ∧ w'.ownsRow base e size v' (n + m) (xs ++ ys) ∧ Kept (fun b => v.ownBlock = some b) w w' ∧ (v'.ownBlock = v.ownBlock ∨ v'.ownBlock = some w.heap.size) := by
  rcases hu.2 with ⟨rfl, rfl⟩ | ⟨g, cap, cur, rfl, _⟩
  · obtain ⟨i, z, hi, hz, hs, hby, hzs⟩ := E.inf
    have e0 : ys = [] := List.eq_nil_of_length_eq_zero (by have := hu.1; omega)
    refine ⟨v, w, run_append_owned_none (P := Tryd.prog) (w := w) base t ty e i size E.ut hi v n xs h, by rw [e0]; simpa using h, Kept.refl _ _, .inl rfl⟩
  · exact run_own E h ty ⟨g, 0, none⟩ m cap ys hu.1 (fun j x hj => hu.cells (g := g) rfl j x hj) h1 hn hb
theorem wpList_own_any {ops : Array Oper} {rest : List Oper} {o : Oper} {A : Act} {Q : Exit → Act → World → Prop} (hgd : o.guard = none) (s x : Operand) (E : ElT t e size bytes)
    (ho : o.op = .call { callee := .builtin .append, args := #[s, x], argTypes := #[t, t] }) (hs : A.eval s = v) (h : w.ownsRow base e size v n xs)
    (hx : A.eval x = u) (hu : w.ownsRow base' e size u m ys) (h1 : ∀ x ∈ ys, x.oneCell' = true) (hn : n + m ≤ 10000) (hb : base ≤ w.heap.size)
    (hK : ∀ v' w', w'.ownsRow base e size v' (n + m) (xs ++ ys) → Kept (fun b => v.ownBlock = some b) w w' → (v'.ownBlock = v.ownBlock ∨ v'.ownBlock = some w.heap.size) → wpList Tryd.prog ops Q rest (A.put o.dst v') w') : wpList Tryd.prog ops Q (o :: rest) A w := by
  refine wpList_plain hgd fun K hK' => ?_
  obtain ⟨v', w', hr, h2, h3, h4⟩ := run_own_any E h o.type hu h1 hn hb
  unfold Oper.wp
  simp [execOp, ho, resolve, invoke, builtin, hs, hx, hr, Result.andThen]
  exact hK' _ _ (hK v' w' h2 h3 h4)
theorem step_own_any {ops : Array Oper} {o : Oper} {A : Act} {K : Act → World → Prop} {Q : Exit → Act → World → Prop} {F : Prop} (hgd : o.guard = none) (s x : Operand) (E : ElT t e size bytes)
    (ho : o.op = .call { callee := .builtin .append, args := #[s, x], argTypes := #[t, t] }) (hs : A.eval s = v) (h : w.ownsRow base e size v n xs)
    (hx : A.eval x = u) (hu : w.ownsRow base' e size u m ys) (h1 : ∀ x ∈ ys, x.oneCell' = true) (hn : n + m ≤ 10000) (hb : base ≤ w.heap.size)
    (hK : ∀ v' w', w'.ownsRow base e size v' (n + m) (xs ++ ys) → Kept (fun b => v.ownBlock = some b) w w' → (v'.ownBlock = v.ownBlock ∨ v'.ownBlock = some w.heap.size) → K (A.put o.dst v') w') :
    if Region.wanted o (yielded ops A.tmps) = true then Oper.wp Tryd.prog o A w K Q else F := by
  have hw : Region.wanted o (yielded ops A.tmps) = true := by simp [Region.wanted, hgd]
  rw [if_pos hw]
  obtain ⟨v', w', hr, h2, h3, h4⟩ := run_own_any E h o.type hu h1 hn hb
  unfold Oper.wp
  simp [execOp, ho, resolve, invoke, builtin, hs, hx, hr, Result.andThen]
  exact hK v' w' h2 h3 h4
theorem blk_own (v : Value) : blk v = v.ownBlock := by
  cases v with
  | slice p n c => cases p <;> rfl
  | _ => rfl
/-- a slice of one element, made just now -/
theorem own_one {cs : List Value} (w : World) (hl : cs.length = 1 * size) (hb : base ≤ w.heap.size) : (w.alloc (.cells cs.toArray e)).ownsRow base e size (.slice (some ⟨w.heap.size, 0, none⟩) 1 1) 1 cs :=
  ⟨hl, .inr ⟨w.heap.size, 1, cs.toArray, rfl, hb, heap_alloc_new w _, Nat.le_refl _, by decide, by simpa using hl, by simp [hl.symm]⟩⟩
end
end O
end Go.Proofs.YthcpnfelnonhnaaDoor
