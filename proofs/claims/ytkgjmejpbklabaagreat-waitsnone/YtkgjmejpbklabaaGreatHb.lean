/-
  Layer 15: given, marked, the document's Free.
-/
import Derived.Test.YtkgjmejpbklabaaGreatHa
namespace Go.Proofs.YtkgjmejpbklabaaGreat
open Go.RowKit
namespace O
theorem infoR : (Tryz.prog.info? 100).map (fun i => (i.zero, i.size, i.bytes)) = some (some (.agg #[.int .u64 0, .int .u64 0, .int .i64 0, .int .i64 0]), 4, 32) := by kernel_rfl
theorem elR : ElT 51 100 4 32 := by
  obtain ⟨i0, hi, h0, h1, h2⟩ := info_parts infoR
  exact ⟨Tryz.underlying51, ⟨i0, _, hi, h0, h1, h2, rfl⟩, by decide, by decide⟩
section
variable {w w' : World} {base : Nat} {t e : TypeId} {bytes : Nat} {v : Value} {n : Nat} {xs : List Value}
/-- 'append' of one element of some cells, made just now -/
theorem wpList_agg {ops : Array Oper} {rest : List Oper} {o : Oper} {A : Act} {Q : Exit → Act → World → Prop} {size : Nat} (hgd : o.guard = none) (s x : Operand) (E : ElT t e size bytes)
    (ho : o.op = .call { callee := .builtin .append, args := #[s, x], argTypes := #[t, t] }) (hs : A.eval s = v) (h : w.ownsRow base e size v n xs)
    (cs : List Value) {z : Nat} (hx : A.eval x = .slice (some ⟨z, 0, none⟩) 1 1) (hz : w.heap.size = z) (hl : cs.length = 1 * size) (h1 : ∀ y ∈ cs, y.oneCell' = true) (hn : n + 1 ≤ 10000) (hb : base ≤ w.heap.size)
    (hK : ∀ g c w', w'.ownsRow base e size (.slice (some ⟨g, 0, none⟩) (n + 1) c) (n + 1) (xs ++ cs) → Kept (fun b => v.ownBlock = some b) w w' → wpList Tryz.prog ops Q rest (A.put o.dst (.slice (some ⟨g, 0, none⟩) (n + 1) c)) w') : wpList Tryz.prog ops Q (o :: rest) A (w.alloc (.cells cs.toArray e)) := by
  subst hz
  refine wpList_own_any hgd s x E ho hs (own_later h (below_alloc w _)) hx (own_one (base := 0) (e := e) w hl (Nat.zero_le _)) h1 hn (by simp; omega) ?_
  intro v' w' h3 h4 h5
  obtain ⟨g, c, e1, -⟩ := own_some h3 (by omega)
  subst e1
  exact hK g c w' h3 ((Kept.of_below _ (below_alloc w _)).trans h4 fun _ _ hx => hx)
end
end O
theorem ecs_snoc (es : List Eg) (e : Eg) : ecs (es ++ [e]) = ecs es ++ ecells e := by simp [ecs]
theorem EIn.of_ownR {w : World} {base n c : Nat} {p : Option Addr} {es : List Eg} {ty : TypeId} (h : w.ownsRow base ty 4 (.slice p n c) n (ecs es)) : EIn w p n es := by
  have hl : es.length = n := by have := h.1; rw [ecs_len] at this; omega
  refine ⟨hl, fun h0 => ?_⟩
  rcases h.2 with ⟨_, hv⟩ | ⟨g, cap, cur, e, _⟩
  · omega
  · cases e
    refine ⟨g, 0, rfl, fun j hj => ?_⟩
    have hc := fun i u hi => h.cells (g := g) rfl i u hi
    have ha := ecs_at es j (by omega)
    simp only [Go.WideShapes.add_plain] at hc
    refine ⟨?_, ?_, ?_, ?_⟩
    · exact hc _ _ ha.1
    · have := hc _ _ ha.2.1; rw [Nat.add_assoc]; exact this
    · have := hc _ _ ha.2.2.1; rw [Nat.add_assoc]; exact this
    · have := hc _ _ ha.2.2.2; rw [Nat.add_assoc]; exact this
theorem EIn.news {w : World} {a : Addr} {n : Nat} {es : List Eg} (h : EIn w (some a) n es) : ∀ j u, (ecs es)[j]? = some u → w.cell? (a.add j) = some u := by
  intro j u hj
  have hjl := (List.getElem?_eq_some_iff.1 hj).1
  rw [ecs_len, h.len] at hjl
  obtain ⟨b, o, e, hc⟩ := h.cells (by omega)
  cases e
  rw [Go.WideShapes.add_plain]
  have hq : j / 4 < n := by omega
  obtain ⟨c0, c1, c2, c3⟩ := hc (j / 4) hq
  obtain ⟨d0, d1, d2, d3⟩ := ecs_at es (j / 4) (by rw [h.len]; exact hq)
  have hr : j = j / 4 * 4 + 0 ∨ j = j / 4 * 4 + 1 ∨ j = j / 4 * 4 + 2 ∨ j = j / 4 * 4 + 3 := by omega
  generalize j / 4 = t at *
  rcases hr with rfl | rfl | rfl | rfl
  · rw [Nat.add_zero] at hj ⊢; rw [d0] at hj; cases hj; exact c0
  · rw [d1] at hj; cases hj; rw [← Nat.add_assoc]; exact c1
  · rw [d2] at hj; cases hj; rw [← Nat.add_assoc]; exact c2
  · rw [d3] at hj; cases hj; rw [← Nat.add_assoc]; exact c3
theorem ecs_one {es : List Eg} : ∀ u ∈ ecs es, u.oneCell' = true := by
  intro u hu
  obtain ⟨e, _, he⟩ := List.mem_flatMap.1 hu
  simp at he
  rcases he with rfl | rfl | rfl | rfl <;> rfl
theorem U64_one {xs : List Int} : ∀ u ∈ U64 xs, u.oneCell' = true := by
  intro u hu
  obtain ⟨x, _, rfl⟩ := List.mem_map.1 hu
  rfl
namespace O
section
variable {w w' : World} {base : Nat} {v : Value} {n : Nat} {xs : List Value}
theorem own_made {n : Nat} (w : World) (e' : TypeId) (size : Nat) (cs : List Value) (hl : cs.length = n * size) (hn : n ≤ 10000) (hb : base ≤ w.heap.size) : (w.alloc (.cells cs.toArray e')).ownsRow base e' size (.slice (some ⟨w.heap.size, 0, none⟩) n n) n cs :=
  ⟨hl, .inr ⟨w.heap.size, n, cs.toArray, rfl, hb, heap_alloc_new w _, Nat.le_refl _, Nat.le_trans hn (by decide), by simp [hl], by simp [← hl]⟩⟩
/-- 'append' of edges that are read -/
theorem wpList_edges {ops : Array Oper} {rest : List Oper} {o : Oper} {A : Act} {Q : Exit → Act → World → Prop} (hgd : o.guard = none) (s x : Operand)
    (ho : o.op = .call { callee := .builtin .append, args := #[s, x], argTypes := #[31, 31] }) (hs : A.eval s = v) (h : w.ownsRow base 46 4 v n xs) {p : Option Addr} {m c : Nat} {es : List Eg} (hx : A.eval x = .slice p m c) (hE : EIn w p m es) (hp : p = none → c = 0) (hn : n + m ≤ 10000) (hb : base ≤ w.heap.size)
    (hK : ∀ v' w', w'.ownsRow base 46 4 v' (n + m) (xs ++ ecs es) → Kept (fun b => v.ownBlock = some b) w w' → (v'.ownBlock = v.ownBlock ∨ v'.ownBlock = some w.heap.size) → wpList Tryz.prog ops Q rest (A.put o.dst v') w') : wpList Tryz.prog ops Q (o :: rest) A w := by
  cases p with
  | none =>
    obtain rfl := hp rfl
    have h0 : m = 0 := by
      cases m with
      | zero => rfl
      | succ k => obtain ⟨b, o, e, _⟩ := hE.cells (by omega); cases e
    subst h0
    have he : es = [] := List.eq_nil_of_length_eq_zero hE.len
    subst he
    exact wpList_own_any hgd s x elE ho hs h hx (base' := 0) (World.ownsRow_nil _ _ _ _) (fun y hy => by simp at hy) hn hb hK
  | some a => exact wpList_own hgd s x elE ho hs h a m c (ecs es) hx (by rw [ecs_len, hE.len]) hE.news ecs_one hn hb hK
/-- 'append' of tickets that are read -/
theorem wpList_tickets {ops : Array Oper} {rest : List Oper} {o : Oper} {A : Act} {Q : Exit → Act → World → Prop} (hgd : o.guard = none) (s x : Operand)
    (ho : o.op = .call { callee := .builtin .append, args := #[s, x], argTypes := #[37, 37] }) (hs : A.eval s = v) (h : w.ownsRow base 44 1 v n xs) {p : Option Addr} {m c : Nat} {tk : List Int} (hx : A.eval x = .slice p m c) (hE : UIn w p m tk) (hp : p = none → c = 0) (hn : n + m ≤ 10000) (hb : base ≤ w.heap.size)
    (hK : ∀ v' w', w'.ownsRow base 44 1 v' (n + m) (xs ++ U64 tk) → Kept (fun b => v.ownBlock = some b) w w' → (v'.ownBlock = v.ownBlock ∨ v'.ownBlock = some w.heap.size) → wpList Tryz.prog ops Q rest (A.put o.dst v') w') : wpList Tryz.prog ops Q (o :: rest) A w := by
  cases p with
  | none =>
    obtain rfl := hp rfl
    have h0 : m = 0 := by
      cases m with
      | zero => rfl
      | succ k => obtain ⟨b, o, e, _⟩ := hE.cells (by omega); cases e
    subst h0
    have he : tk = [] := List.eq_nil_of_length_eq_zero hE.len
    subst he
    exact wpList_own_any hgd s x elU ho hs h hx (base' := 0) (World.ownsRow_nil _ _ _ _) (fun y hy => by simp at hy) hn hb hK
  | some a => exact wpList_own hgd s x elU ho hs h a m c (U64 tk) hx (by simp [U64, hE.len]) hE.news U64_one hn hb hK
end
end O
/-- the mark -/
abbrev e77 : Eg := ⟨0, 0, 77, 0⟩
abbrev c77 : List Value := [.int .u64 0, .int .u64 0, .int .i64 77, .int .i64 0, .int .u64 0, .int .u64 0, .int .i64 77, .int .i64 0]
theorem wpList_77 {w : World} {base : Nat} {v : Value} {n : Nat} {xs : List Value} {ops : Array Oper} {rest : List Oper} {o : Oper} {A : Act} {Q : Exit → Act → World → Prop} (hgd : o.guard = none) (s x : Operand)
    (ho : o.op = .call { callee := .builtin .append, args := #[s, x], argTypes := #[31, 31] }) (hs : A.eval s = v) (h : w.ownsRow base 46 4 v n xs) {z : Nat} (hx : A.eval x = .slice (some ⟨z, 0, none⟩) 2 2) (hz : w.heap.size = z) (hn : n + 2 ≤ 10000) (hb : base ≤ w.heap.size)
    (hK : ∀ g c w', n + 2 ≤ c → w'.ownsRow base 46 4 (.slice (some ⟨g, 0, none⟩) (n + 2) c) (n + 2) (xs ++ c77) → Kept (fun b => v.ownBlock = some b) w w' → wpList Tryz.prog ops Q rest (A.put o.dst (.slice (some ⟨g, 0, none⟩) (n + 2) c)) w') : wpList Tryz.prog ops Q (o :: rest) A (w.alloc (.cells c77.toArray 46)) := by
  subst hz
  refine O.wpList_own_any hgd s x O.elE ho hs (O.own_later h (below_alloc w _)) hx (O.own_made (base := 0) (n := 2) w 46 4 c77 rfl (by omega) (Nat.zero_le _)) ?_ hn (by simp; omega) ?_
  · intro y hy
    simp [c77] at hy
    rcases hy with rfl | rfl | rfl | rfl | rfl | rfl <;> rfl
  · intro v' w' h3 h4 h5
    obtain ⟨g, c, e1, hc, -⟩ := O.own_some h3 (by omega)
    subst e1
    exact hK g c w' hc h3 ((Kept.of_below _ (below_alloc w _)).trans h4 fun _ _ hx => hx)
theorem tk_get {tk : List Int} {n i : Nat} (hl : tk.length = n) (hi : i < n) : tk.take (i + 1) = tk.take i ++ [tk.getD i 0] ∧ tk.getD i 0 ∈ tk := by
  have h : i < tk.length := by omega
  refine ⟨?_, ?_⟩
  · rw [List.take_add_one, List.getElem?_eq_getElem h]
    simp [List.getD, List.getElem?_eq_getElem h]
  · rw [List.getD, List.getElem?_eq_getElem h]; exact List.getElem_mem _
theorem any_take {es : List Eg} {n k : Nat} {x : Int} (hl : es.length = n) (hk : k < n) : (es.take (k + 1)).any (fun e => e.f == x) = ((es.take k).any (fun e => e.f == x) || ((es.getD k noEg).f == x)) := by
  rw [(es_get hl hk).1, List.any_append]
  simp
theorem drew_ex {w W : World} (h : ∃ q, W = w.drewN q) (k : Nat) : ∃ q, W.drewN k = w.drewN q := by
  obtain ⟨q, rfl⟩ := h
  exact ⟨q + k, by simp [World.drewN, Nat.add_assoc]⟩
end Go.Proofs.YtkgjmejpbklabaaGreat
