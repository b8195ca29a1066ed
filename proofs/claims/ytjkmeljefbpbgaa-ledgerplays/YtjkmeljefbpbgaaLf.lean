/-
  Layer 12: rows of one's own; how a script lies.
-/
import Derived.Test.YtjkmeljefbpbgaaLd
import Derived.Maps.AppendAt
import Derived.Laws.AppendOwn
import Derived.Laws.AppendOwnNone
import Derived.Deep.AppendLies
import Derived.ArgAppend
import Derived.Deep.MidRow
namespace Go.Proofs.Ytjkmeljefbpbgaa
open Go.RowKit


theorem info30 : (Try.prog.info? 30).map (fun i => (i.zero, i.size, i.bytes)) = some (some (.int .u64 0), 1, 8) := by kernel_rfl
theorem info3 : (Try.prog.info? 3).map (fun i => (i.zero, i.size, i.bytes)) = some (some (.int .i64 0), 1, 8) := by kernel_rfl
theorem info67 : (Try.prog.info? 67).map (fun i => (i.zero, i.size, i.bytes)) = some (some (.agg #[.int .u64 0, .int .i64 0, .int .i64 0]), 3, 24) := by kernel_rfl
/-- a list's type, its elements' -/
structure ElT (t e : TypeId) (size bytes : Nat) : Prop where
  ut : Try.prog.underlying t = some (.slice e)
  inf : ∃ i z, Try.prog.info? e = some i ∧ i.zero = some z ∧ i.size = size ∧ i.bytes = bytes ∧ z.cells.size = size
  pos : 0 < size
  small : bytes ≤ 100
theorem el28 : ElT 28 30 1 8 := by
  obtain ⟨i0, hi, h0, h1, h2⟩ := info_parts info30
  exact ⟨Try.underlying28, ⟨i0, _, hi, h0, h1, h2, rfl⟩, by decide, by decide⟩
theorem el29 : ElT 29 3 1 8 := by
  obtain ⟨i0, hi, h0, h1, h2⟩ := info_parts info3
  exact ⟨Try.underlying29, ⟨i0, _, hi, h0, h1, h2, rfl⟩, by decide, by decide⟩
theorem el58 : ElT 58 67 3 24 := by
  obtain ⟨i0, hi, h0, h1, h2⟩ := info_parts info67
  exact ⟨Try.underlying58, ⟨i0, _, hi, h0, h1, h2, rfl⟩, by decide, by decide⟩

section
variable {w w' : World} {base : Nat} {t e : TypeId} {size bytes : Nat} {v : Value} {n : Nat} {xs : List Value}
theorem kept_grown (h : w.grownBy w' v.ownBlock) : Kept (fun b => v.ownBlock = some b) w w' := ⟨h.os, h.tape, h.output, h.size, fun b hb hne => h.block b hb fun e => hne e.symm⟩
theorem own_typ (h : w.ownsRow base e size v n xs) {b : Nat} (hb : v.ownBlock = some b) : ∃ cur, w.heap[b]? = some (.cells cur e (0, 0)) := by
  rcases h.2 with ⟨rfl, _⟩ | ⟨g, cap, cur, rfl, _, hg, _⟩
  · cases hb
  · cases hb; exact ⟨cur, hg⟩
theorem own_keeps (h : w.ownsRow base e size v n xs) (hk : ∀ g, v.ownBlock = some g → w'.heap[g]? = w.heap[g]?) : w'.ownsRow base e size v n xs := by
  refine ⟨h.1, ?_⟩
  rcases h.2 with h | ⟨g, cap, cur, rfl, e2, e3, r⟩
  · exact .inl h
  · exact .inr ⟨g, cap, cur, rfl, e2, (hk g rfl).trans e3, r⟩
theorem own_later (h : w.ownsRow base e size v n xs) (hb : Below w.heap.size w w') : w'.ownsRow base e size v n xs := own_keeps h fun g hg => hb.block g (h.lt g hg).2
theorem own_far {S : Nat → Prop} (h : w.ownsRow base e size v n xs) (hk : Kept S w w') (hS : ∀ g, v.ownBlock = some g → ¬ S g) : w'.ownsRow base e size v n xs := own_keeps h fun g hg => hk.block g (h.lt g hg).2 (hS g hg)
/-- rows of different elements are apart -/
theorem own_ne {base' : Nat} {e' : TypeId} {size' : Nat} {v' : Value} {n' : Nat} {xs' : List Value} (h : w.ownsRow base e size v n xs) (h' : w.ownsRow base' e' size' v' n' xs') (hne : e ≠ e') {g : Nat} (hg : v.ownBlock = some g) : v'.ownBlock ≠ some g := fun hg' => by
  obtain ⟨c, hc⟩ := own_typ h hg
  obtain ⟨c', hc'⟩ := own_typ h' hg'
  rw [hc] at hc'
  simp only [Option.some.injEq, Obj.cells.injEq] at hc'
  exact hne hc'.2.1
theorem own_not (h : w.ownsRow base e size v n xs) {b : Nat} {cur : Array Value} {ty : TypeId} {f : Nat × Nat} (hx : w.heap[b]? = some (.cells cur ty f)) (hne : ty ≠ e) : v.ownBlock ≠ some b := fun hg => by
  obtain ⟨c, hc⟩ := own_typ h hg
  rw [hc] at hx
  simp only [Option.some.injEq, Obj.cells.injEq] at hx
  exact hne hx.2.1.symm
theorem own_notMap (h : w.ownsRow base e size v n xs) {b : Nat} {es : Array MapEntry} {clock : Nat} (hx : w.heap[b]? = some (.map es clock)) : v.ownBlock ≠ some b := fun hg => by
  obtain ⟨c, hc⟩ := own_typ h hg
  rw [hc] at hx
  cases hx
/-- a row that is not empty -/
theorem own_some (h : w.ownsRow base e size v n xs) (hn : 0 < n) : ∃ g cap, v = .slice (some ⟨g, 0, none⟩) n cap ∧ n ≤ cap ∧ (∀ j u, xs[j]? = some u → w.cell? ⟨g, j, none⟩ = some u) ∧ ∀ o, w.frozen? ⟨g, o, none⟩ = false := by
  have hc : ∀ g, v.ownBlock = some g → _ := fun g hg => h.cells (g := g) hg
  rcases h.2 with ⟨_, e0⟩ | ⟨g, cap, cur, rfl, _, hg, hcap, _⟩
  · omega
  · refine ⟨g, cap, rfl, hcap, fun j u hj => ?_, fun o => by simp [World.frozen?, hg]⟩
    have := hc g rfl j u hj
    rw [Go.WideShapes.add_plain, Nat.zero_add] at this
    exact this
theorem own_form (h : w.ownsRow base e size v n xs) : ∃ p c, v = .slice p n c ∧ n ≤ c ∧ (0 < n → ∃ g, p = some ⟨g, 0, none⟩) := by
  rcases h.2 with ⟨rfl, rfl⟩ | ⟨g, cap, cur, rfl, _, _, hcap, _⟩
  · exact ⟨_, _, rfl, Nat.le_refl _, fun h => absurd h (Nat.lt_irrefl 0)⟩
  · exact ⟨_, _, rfl, hcap, fun _ => ⟨g, rfl⟩⟩
theorem own_cell {g c : Nat} (h : w.ownsRow base e size (.slice (some ⟨g, 0, none⟩) n c) n xs) {j : Nat} {u : Value} (hj : xs[j]? = some u) : w.cell? ⟨g, j, none⟩ = some u := by
  have := h.cells (g := g) rfl j u hj
  rw [Go.WideShapes.add_plain, Nat.zero_add] at this
  exact this
theorem own_free {g c : Nat} (h : w.ownsRow base e size (.slice (some ⟨g, 0, none⟩) n c) n xs) (o : Nat) : w.frozen? ⟨g, o, none⟩ = false := by
  obtain ⟨cur, hc⟩ := own_typ (b := g) h rfl
  simp [World.frozen?, hc]
theorem own_set (h : w.ownsRow base e size v n xs) {g : Nat} (hg : v.ownBlock = some g) (j : Nat) (u : Value) : (w.setCell ⟨g, j, none⟩ u).ownsRow base e size v n (xs.set j u) := by
  refine ⟨by rw [List.length_set]; exact h.1, ?_⟩
  rcases h.2 with ⟨rfl, _⟩ | ⟨g', cap, cur, rfl, hb, hg', hcap, hm, hs, ht⟩
  · cases hg
  · obtain rfl : g' = g := by simpa [Value.ownBlock] using hg
    refine .inr ⟨g', cap, cur.setIfInBounds j u, rfl, hb, ?_, hcap, hm, by simpa using hs, ?_⟩
    · rw [setCell_eq_setRow w g' j _ e (0, 0) u hg']
      exact setRow_heap w g' _ _ e _ hg'
    · rw [← ht]
      simp [List.take_set]
/-- 'append' -/
theorem run_own (E : ElT t e size bytes) (h : w.ownsRow base e size v n xs) (ty : TypeId) (a : Addr) (m c : Nat) (news : List Value) (hl : news.length = m * size) (hnews : ∀ j u, news[j]? = some u → w.cell? (a.add j) = some u) (h1 : ∀ u ∈ news, u.oneCell' = true) (hn : n + m ≤ 10000) (hb : base ≤ w.heap.size) :
    ∃ v' w', (Builtin.append_ #[t, t] ty #[v, .slice (some a) m c]).run Try.prog w = .ok v' w' ∧ w'.ownsRow base e size v' (n + m) (xs ++ news) ∧ Kept (fun b => v.ownBlock = some b) w w' ∧ (v'.ownBlock = v.ownBlock ∨ v'.ownBlock = some w.heap.size) := by
  obtain ⟨i, z, hi, hz, hs, hby, hzs⟩ := E.inf
  have hml : 10000 ≤ maxLen := by decide
  have hsm := E.small
  obtain ⟨v', w', hr, h2, h3, _, h5⟩ := run_append_own_at w base t ty e i z size bytes E.ut hi hz hs hby hzs E.pos v n xs h a m c news hl hnews h1 (by omega) (by have := Nat.mul_le_mul hn hsm; omega) hb
  exact ⟨v', w', hr, h2, kept_grown h3, h5⟩
theorem wpList_own {ops : Array Oper} {rest : List Oper} {o : Oper} {A : Act} {Q : Exit → Act → World → Prop} (hgd : o.guard = none) (s x : Operand) (E : ElT t e size bytes)
    (ho : o.op = .call { callee := .builtin .append, args := #[s, x], argTypes := #[t, t] }) (hs : A.eval s = v) (h : w.ownsRow base e size v n xs)
    (a : Addr) (m c : Nat) (news : List Value) (hx : A.eval x = .slice (some a) m c) (hl : news.length = m * size) (hnews : ∀ j u, news[j]? = some u → w.cell? (a.add j) = some u) (h1 : ∀ u ∈ news, u.oneCell' = true) (hn : n + m ≤ 10000) (hb : base ≤ w.heap.size)
    (hK : ∀ v' w', w'.ownsRow base e size v' (n + m) (xs ++ news) → Kept (fun b => v.ownBlock = some b) w w' → (v'.ownBlock = v.ownBlock ∨ v'.ownBlock = some w.heap.size) → wpList Try.prog ops Q rest (A.put o.dst v') w') : wpList Try.prog ops Q (o :: rest) A w := by
  refine wpList_plain hgd fun K hK' => ?_
  obtain ⟨v', w', hr, h2, h3, h4⟩ := run_own E h o.type a m c news hl hnews h1 hn hb
  unfold Oper.wp
  simp [execOp, ho, resolve, invoke, builtin, hs, hx, hr, Result.andThen]
  exact hK' _ _ (hK v' w' h2 h3 h4)
theorem step_own {ops : Array Oper} {o : Oper} {A : Act} {K : Act → World → Prop} {Q : Exit → Act → World → Prop} {F : Prop} (hgd : o.guard = none) (s x : Operand) (E : ElT t e size bytes)
    (ho : o.op = .call { callee := .builtin .append, args := #[s, x], argTypes := #[t, t] }) (hs : A.eval s = v) (h : w.ownsRow base e size v n xs)
    (a : Addr) (m c : Nat) (news : List Value) (hx : A.eval x = .slice (some a) m c) (hl : news.length = m * size) (hnews : ∀ j u, news[j]? = some u → w.cell? (a.add j) = some u) (h1 : ∀ u ∈ news, u.oneCell' = true) (hn : n + m ≤ 10000) (hb : base ≤ w.heap.size)
    (hK : ∀ v' w', w'.ownsRow base e size v' (n + m) (xs ++ news) → Kept (fun b => v.ownBlock = some b) w w' → (v'.ownBlock = v.ownBlock ∨ v'.ownBlock = some w.heap.size) → K (A.put o.dst v') w') :
    if Region.wanted o (yielded ops A.tmps) = true then Oper.wp Try.prog o A w K Q else F := by
  have hw : Region.wanted o (yielded ops A.tmps) = true := by simp [Region.wanted, hgd]
  rw [if_pos hw]
  obtain ⟨v', w', hr, h2, h3, h4⟩ := run_own E h o.type a m c news hl hnews h1 hn hb
  unfold Oper.wp
  simp [execOp, ho, resolve, invoke, builtin, hs, hx, hr, Result.andThen]
  exact hK v' w' h2 h3 h4
/-- an empty row, made -/
theorem own_empty (w : World) (hb : base ≤ w.heap.size) : (w.alloc (.cells #[] e)).ownsRow base e size (.slice (some ⟨w.heap.size, 0, none⟩) 0 0) 0 [] := World.ownsRow_made w #[] 0 hb (Nat.zero_le _) (by simp)
/-- a piece of a row -/
theorem own_piece (h : w.ownsRow base e size v n xs) {g : Nat} (hg : v.ownBlock = some g) (k l : Nat) : ∀ j u, ((xs.drop k).take l)[j]? = some u → w.cell? ((⟨g, k, none⟩ : Addr).add j) = some u := by
  intro j u hj
  have hc := h.cells hg (k + j) u (by rw [List.getElem?_take] at hj; split at hj <;> simp_all)
  rw [Go.WideShapes.add_plain] at hc ⊢
  rw [Nat.zero_add] at hc
  exact hc
end

/-- a step as it lies -/
structure OpV where
  kd : Int
  wh : Int
  t : Int
  N : Int
def OpV.val (o : OpV) : List Value := [.int .i64 o.kd, .int .i64 o.wh, .int .u64 o.t, .int .i64 o.N]
/-- how a script lies -/
structure ScIn (w : World) (p : Option Addr) (n : Nat) (f : Nat → OpV) : Prop where
  cells : 0 < n → ∃ b o, p = some ⟨b, o, none⟩ ∧ ∀ i, i < n → w.rangeAt b (o + i * 4) (f i).val
  u64 : ∀ i, i < n → U64 (f i).t
theorem ScIn.later {w w' : World} {p : Option Addr} {n : Nat} {f : Nat → OpV} (h : ScIn w p n f) (hb : Below w.heap.size w w') : ScIn w' p n f := by
  refine ⟨fun h0 => ?_, h.u64⟩
  obtain ⟨b, o, rfl, hc⟩ := h.cells h0
  refine ⟨b, o, rfl, fun i hi j u hj => ?_⟩
  have := hc i hi j u hj
  exact (hb.cell (p := ⟨b, o + i * 4 + j, none⟩) (World.block_lt_of_cell? w _ this)).trans this
theorem size32 : (Try.prog.info? 32).map (·.size) = some 4 := by kernel_rfl
theorem load32 {w : World} {b o : Nat} {v : OpV} (h : w.rangeAt b o v.val) : (Instr.loadAt 32 (.pointer (some ⟨b, o, none⟩))).run Try.prog w = .ok (.agg #[.int .i64 v.kd, .int .i64 v.wh, .int .u64 v.t, .int .i64 v.N]) w := run_loadAt_mid w b o 32 v.val _ h Try.underlying32 rfl size32
abbrev ocells (kd wh t N : Int) : Array Value := #[.int .i64 kd, .int .i64 wh, .int .u64 t, .int .i64 N]
theorem ocell {w : World} {b : Nat} {kd wh t N : Int} (h : w.heap[b]? = some (.cells (ocells kd wh t N) 32 (0, 0))) :
    w.cell? ⟨b, 0, none⟩ = some (.int .i64 kd) ∧ w.cell? ⟨b, 1, none⟩ = some (.int .i64 wh) ∧ w.cell? ⟨b, 2, none⟩ = some (.int .u64 t) ∧ w.cell? ⟨b, 3, none⟩ = some (.int .i64 N) :=
  ⟨by rw [cell_of_row _ b 0 _ 32 (0, 0) h]; rfl, by rw [cell_of_row _ b 1 _ 32 (0, 0) h]; rfl, by rw [cell_of_row _ b 2 _ 32 (0, 0) h]; rfl, by rw [cell_of_row _ b 3 _ 32 (0, 0) h]; rfl⟩
end Go.Proofs.Ytjkmeljefbpbgaa
