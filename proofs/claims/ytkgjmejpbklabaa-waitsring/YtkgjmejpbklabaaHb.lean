/-
  Layer 15: given, marked, the document's Free.
-/
import Derived.Test.YtkgjmejpbklabaaHa
namespace Go.Proofs.Ytkgjmejpbklabaa
open Go.RowKit

namespace O
theorem infoR : (Try.prog.info? 50).map (fun i => (i.zero, i.size, i.bytes)) = some (some (.agg #[.int .u64 0, .int .u64 0, .int .i64 0, .int .i64 0]), 4, 32) := by kernel_rfl
theorem elR : ElT 29 50 4 32 := by
  obtain ⟨i0, hi, h0, h1, h2⟩ := info_parts infoR
  exact ⟨Try.underlying29, ⟨i0, _, hi, h0, h1, h2, rfl⟩, by decide, by decide⟩
section
variable {w w' : World} {base : Nat} {t e : TypeId} {bytes : Nat} {v : Value} {n : Nat} {xs : List Value}
/-- 'append' of one element of some cells, made just now -/
theorem wpList_agg {ops : Array Oper} {rest : List Oper} {o : Oper} {A : Act} {Q : Exit → Act → World → Prop} {size : Nat} (hgd : o.guard = none) (s x : Operand) (E : ElT t e size bytes)
    (ho : o.op = .call { callee := .builtin .append, args := #[s, x], argTypes := #[t, t] }) (hs : A.eval s = v) (h : w.ownsRow base e size v n xs)
    (cs : List Value) {z : Nat} (hx : A.eval x = .slice (some ⟨z, 0, none⟩) 1 1) (hz : w.heap.size = z) (hl : cs.length = 1 * size) (h1 : ∀ y ∈ cs, y.oneCell' = true) (hn : n + 1 ≤ 10000) (hb : base ≤ w.heap.size)
    (hK : ∀ g c w', w'.ownsRow base e size (.slice (some ⟨g, 0, none⟩) (n + 1) c) (n + 1) (xs ++ cs) → Kept (fun b => v.ownBlock = some b) w w' → wpList Try.prog ops Q rest (A.put o.dst (.slice (some ⟨g, 0, none⟩) (n + 1) c)) w') : wpList Try.prog ops Q (o :: rest) A (w.alloc (.cells cs.toArray e)) := by
  subst hz
  refine wpList_own_any hgd s x E ho hs (own_later h (below_alloc w _)) hx (own_one (base := 0) (e := e) w hl (Nat.zero_le _)) h1 hn (by simp; omega) ?_
  intro v' w' h3 h4 h5
  obtain ⟨g, c, e1, -⟩ := own_some h3 (by omega)
  subst e1
  exact hK g c w' h3 ((Kept.of_below _ (below_alloc w _)).trans h4 fun _ _ hx => hx)
end
end O
theorem ecs_snoc (es : List Eg) (e : Eg) : ecs (es ++ [e]) = ecs es ++ ecells e := by simp [ecs]
theorem EIn.of_ownR {w : World} {base n c : Nat} {p : Option Addr} {es : List Eg} {ty : TypeId} (h : w.ownsRow base ty 4 (.slice p n c) n (ecs es)) : EIn w p n es := by
  have hl : es.length = n := by have := h.1; rw [ecs_len] at this; omega
  refine ⟨hl, fun h0 => ?_⟩
  rcases h.2 with ⟨_, hv⟩ | ⟨g, cap, cur, e, _⟩
  · omega
  · cases e
    refine ⟨g, 0, rfl, fun j hj => ?_⟩
    have hc := fun i u hi => h.cells (g := g) rfl i u hi
    have ha := ecs_at es j (by omega)
    simp only [Go.WideShapes.add_plain] at hc
    refine ⟨?_, ?_, ?_, ?_⟩
    · exact hc _ _ ha.1
    · have := hc _ _ ha.2.1; rw [Nat.add_assoc]; exact this
    · have := hc _ _ ha.2.2.1; rw [Nat.add_assoc]; exact this
    · have := hc _ _ ha.2.2.2; rw [Nat.add_assoc]; exact this
set_option maxHeartbeats 2000000 in
set_option maxRecDepth 100000 in
theorem given_at {w : World} {p : Option Addr} {n c : Nat} {es : List Eg} (hE : EIn w p n es) (hz : n ≤ 9000) :
    Calls Try.prog 9 #[.slice p n c] w fun e w' => ∃ r cr, e = .returned (.slice r n cr) ∧ w'.ownsRow w.heap.size 50 4 (.slice r n cr) n (ecs es) ∧ RowKit.Below w.heap.size w w' := by
  have HE : Hid (∀ W, RowKit.Below w.heap.size w W → EIn W p n es) := fun W hW => hE.later hW
  have HL : Hid (es.length = n) := hE.len
  clear hE
  go_enter Try.func9, Try.ntmps9
  go_wp2_with fail
  go_loopw [3, 8] (fun v3 v W => ∃ (r : Option Addr) (cr j : Nat), v3 = .slice r j cr ∧ v = .int .i64 (j : Int) ∧ j ≤ n ∧ Hid (RowKit.Below w.heap.size w W) ∧ Hid (W.ownsRow w.heap.size 50 4 (.slice r j cr) j (ecs (es.take j)))) (fun v3 v _ => n - (intV v).toNat)
  case atStart => exact ⟨none, 0, 0, rfl, rfl, by omega, RowKit.Below.refl _ _, World.ownsRow_nil _ _ _ _⟩
  case round =>
    obtain ⟨r, cr, j, rfl, rfl, hj, HB, HO⟩ := hrel
    by_cases hjn : j < n
    · obtain ⟨eb, eo, rfl, hcs⟩ := (HE.out wr HB.out).cells (by omega)
      obtain ⟨h1, h2, h3, h4⟩ := hcs j hjn
      have HTA : Hid (es.take (j + 1) = es.take j ++ [es.getD j noEg]) := (es_get HL.out hjn).1
      clear hcs
      generalize es.getD j noEg = ed at *
      obtain ⟨ef, et, ey, ebk⟩ := ed
      simp only at h1 h2 h3 h4
      have HO2 : Hid ((wr.alloc (Obj.cells #[Value.int .u64 ef, .int .u64 et, .int .i64 ey, .int .i64 ebk] 45)).ownsRow w.heap.size 50 4 (.slice r j cr) j (ecs (es.take j))) := O.own_later HO.out (below_alloc _ _)
      have HSZ : Hid (w.heap.size ≤ (wr.alloc (Obj.cells #[Value.int .u64 ef, .int .u64 et, .int .i64 ey, .int .i64 ebk] 45)).heap.size) := by have := HB.out.size; show _ ≤ _; simp; omega
      go_wp2_with (at_builtin; refine O.wpList_agg (w := wr.alloc (Obj.cells #[Value.int .u64 ef, .int .u64 et, .int .i64 ey, .int .i64 ebk] 45)) rfl (.tmp 12) (.tmp 22) O.elR rfl rfl HO2.out [Value.int .u64 ef, .int .u64 et, .int .i64 ey, .int .i64 ebk] rfl (by simp) rfl (fun y hy => by simp at hy; rcases hy with rfl | rfl | rfl | rfl <;> rfl) (by omega) HSZ.out ?_; intro g5 c5 w5 ho hk; have HO5 : Hid (w5.ownsRow w.heap.size 50 4 (.slice (some ⟨g5, 0, none⟩) (j + 1) c5) (j + 1) (ecs (es.take j) ++ [Value.int .u64 ef, .int .u64 et, .int .i64 ey, .int .i64 ebk])) := ho; have HK5 : Hid (Kept (fun b => (Value.slice r j cr).ownBlock = some b) (wr.alloc (Obj.cells #[Value.int .u64 ef, .int .u64 et, .int .i64 ey, .int .i64 ebk] 45)) w5) := hk; clear ho hk)
      go_roundw
      case rel =>
        refine ⟨some ⟨g5, 0, none⟩, c5, j + 1, rfl, rfl, by omega, HK5.out.into (below_then HB.out (below_alloc _ _)) (fun b hb e => by have := (HO2.out.lt b e).1; omega) (Nat.le_refl _), ?_⟩
        rw [HTA.out, ecs_snoc]
        exact HO5.out
      case measure => simp [intV]; omega
    · obtain rfl : j = n := by omega
      have HF : Hid (es.take j = es) := by show _ = _; rw [← HL.out, List.take_length]
      rw [HF.out] at HO
      go_wp2_with fail
      go_ret
      exact ⟨r, cr, rfl, HO.out, HB.out⟩
theorem EIn.news {w : World} {a : Addr} {n : Nat} {es : List Eg} (h : EIn w (some a) n es) : ∀ j u, (ecs es)[j]? = some u → w.cell? (a.add j) = some u := by
  intro j u hj
  have hjl := (List.getElem?_eq_some_iff.1 hj).1
  rw [ecs_len, h.len] at hjl
  obtain ⟨b, o, e, hc⟩ := h.cells (by omega)
  cases e
  rw [Go.WideShapes.add_plain]
  have hq : j / 4 < n := by omega
  obtain ⟨c0, c1, c2, c3⟩ := hc (j / 4) hq
  obtain ⟨d0, d1, d2, d3⟩ := ecs_at es (j / 4) (by rw [h.len]; exact hq)
  have hr : j = j / 4 * 4 + 0 ∨ j = j / 4 * 4 + 1 ∨ j = j / 4 * 4 + 2 ∨ j = j / 4 * 4 + 3 := by omega
  generalize j / 4 = t at *
  rcases hr with rfl | rfl | rfl | rfl
  · rw [Nat.add_zero] at hj ⊢; rw [d0] at hj; cases hj; exact c0
  · rw [d1] at hj; cases hj; rw [← Nat.add_assoc]; exact c1
  · rw [d2] at hj; cases hj; rw [← Nat.add_assoc]; exact c2
  · rw [d3] at hj; cases hj; rw [← Nat.add_assoc]; exact c3
theorem ecs_one {es : List Eg} : ∀ u ∈ ecs es, u.oneCell' = true := by
  intro u hu
  obtain ⟨e, _, he⟩ := List.mem_flatMap.1 hu
  simp at he
  rcases he with rfl | rfl | rfl | rfl <;> rfl
theorem U64_one {xs : List Int} : ∀ u ∈ U64 xs, u.oneCell' = true := by
  intro u hu
  obtain ⟨x, _, rfl⟩ := List.mem_map.1 hu
  rfl
namespace O
section
variable {w w' : World} {base : Nat} {v : Value} {n : Nat} {xs : List Value}
theorem own_made {n : Nat} (w : World) (e' : TypeId) (size : Nat) (cs : List Value) (hl : cs.length = n * size) (hn : n ≤ 10000) (hb : base ≤ w.heap.size) : (w.alloc (.cells cs.toArray e')).ownsRow base e' size (.slice (some ⟨w.heap.size, 0, none⟩) n n) n cs :=
  ⟨hl, .inr ⟨w.heap.size, n, cs.toArray, rfl, hb, heap_alloc_new w _, Nat.le_refl _, Nat.le_trans hn (by decide), by simp [hl], by simp [← hl]⟩⟩
/-- 'append' of edges that are read -/
theorem wpList_edges {ops : Array Oper} {rest : List Oper} {o : Oper} {A : Act} {Q : Exit → Act → World → Prop} (hgd : o.guard = none) (s x : Operand)
    (ho : o.op = .call { callee := .builtin .append, args := #[s, x], argTypes := #[22, 22] }) (hs : A.eval s = v) (h : w.ownsRow base 45 4 v n xs) {p : Option Addr} {m c : Nat} {es : List Eg} (hx : A.eval x = .slice p m c) (hE : EIn w p m es) (hp : p = none → c = 0) (hn : n + m ≤ 10000) (hb : base ≤ w.heap.size)
    (hK : ∀ v' w', w'.ownsRow base 45 4 v' (n + m) (xs ++ ecs es) → Kept (fun b => v.ownBlock = some b) w w' → (v'.ownBlock = v.ownBlock ∨ v'.ownBlock = some w.heap.size) → wpList Try.prog ops Q rest (A.put o.dst v') w') : wpList Try.prog ops Q (o :: rest) A w := by
  cases p with
  | none =>
    obtain rfl := hp rfl
    have h0 : m = 0 := by
      cases m with
      | zero => rfl
      | succ k => obtain ⟨b, o, e, _⟩ := hE.cells (by omega); cases e
    subst h0
    have he : es = [] := List.eq_nil_of_length_eq_zero hE.len
    subst he
    exact wpList_own_any hgd s x elE ho hs h hx (base' := 0) (World.ownsRow_nil _ _ _ _) (fun y hy => by simp at hy) hn hb hK
  | some a => exact wpList_own hgd s x elE ho hs h a m c (ecs es) hx (by rw [ecs_len, hE.len]) hE.news ecs_one hn hb hK
/-- 'append' of tickets that are read -/
theorem wpList_tickets {ops : Array Oper} {rest : List Oper} {o : Oper} {A : Act} {Q : Exit → Act → World → Prop} (hgd : o.guard = none) (s x : Operand)
    (ho : o.op = .call { callee := .builtin .append, args := #[s, x], argTypes := #[23, 23] }) (hs : A.eval s = v) (h : w.ownsRow base 25 1 v n xs) {p : Option Addr} {m c : Nat} {tk : List Int} (hx : A.eval x = .slice p m c) (hE : UIn w p m tk) (hp : p = none → c = 0) (hn : n + m ≤ 10000) (hb : base ≤ w.heap.size)
    (hK : ∀ v' w', w'.ownsRow base 25 1 v' (n + m) (xs ++ U64 tk) → Kept (fun b => v.ownBlock = some b) w w' → (v'.ownBlock = v.ownBlock ∨ v'.ownBlock = some w.heap.size) → wpList Try.prog ops Q rest (A.put o.dst v') w') : wpList Try.prog ops Q (o :: rest) A w := by
  cases p with
  | none =>
    obtain rfl := hp rfl
    have h0 : m = 0 := by
      cases m with
      | zero => rfl
      | succ k => obtain ⟨b, o, e, _⟩ := hE.cells (by omega); cases e
    subst h0
    have he : tk = [] := List.eq_nil_of_length_eq_zero hE.len
    subst he
    exact wpList_own_any hgd s x elU ho hs h hx (base' := 0) (World.ownsRow_nil _ _ _ _) (fun y hy => by simp at hy) hn hb hK
  | some a => exact wpList_own hgd s x elU ho hs h a m c (U64 tk) hx (by simp [U64, hE.len]) hE.news U64_one hn hb hK
end
end O
/-- the mark -/
abbrev e77 : Eg := ⟨0, 0, 77, 0⟩
abbrev c77 : List Value := [.int .u64 0, .int .u64 0, .int .i64 77, .int .i64 0, .int .u64 0, .int .u64 0, .int .i64 77, .int .i64 0]
theorem wpList_77 {w : World} {base : Nat} {v : Value} {n : Nat} {xs : List Value} {ops : Array Oper} {rest : List Oper} {o : Oper} {A : Act} {Q : Exit → Act → World → Prop} (hgd : o.guard = none) (s x : Operand)
    (ho : o.op = .call { callee := .builtin .append, args := #[s, x], argTypes := #[22, 22] }) (hs : A.eval s = v) (h : w.ownsRow base 45 4 v n xs) {z : Nat} (hx : A.eval x = .slice (some ⟨z, 0, none⟩) 2 2) (hz : w.heap.size = z) (hn : n + 2 ≤ 10000) (hb : base ≤ w.heap.size)
    (hK : ∀ g c w', n + 2 ≤ c → w'.ownsRow base 45 4 (.slice (some ⟨g, 0, none⟩) (n + 2) c) (n + 2) (xs ++ c77) → Kept (fun b => v.ownBlock = some b) w w' → wpList Try.prog ops Q rest (A.put o.dst (.slice (some ⟨g, 0, none⟩) (n + 2) c)) w') : wpList Try.prog ops Q (o :: rest) A (w.alloc (.cells c77.toArray 45)) := by
  subst hz
  refine O.wpList_own_any hgd s x O.elE ho hs (O.own_later h (below_alloc w _)) hx (O.own_made (base := 0) (n := 2) w 45 4 c77 rfl (by omega) (Nat.zero_le _)) ?_ hn (by simp; omega) ?_
  · intro y hy
    simp [c77] at hy
    rcases hy with rfl | rfl | rfl | rfl | rfl | rfl <;> rfl
  · intro v' w' h3 h4 h5
    obtain ⟨g, c, e1, hc, -⟩ := O.own_some h3 (by omega)
    subst e1
    exact hK g c w' hc h3 ((Kept.of_below _ (below_alloc w _)).trans h4 fun _ _ hx => hx)
set_option maxHeartbeats 2000000 in
set_option maxRecDepth 100000 in
theorem marked_at {w : World} {p : Option Addr} {n c : Nat} {es : List Eg} (hE : EIn w p n es) (hz : n ≤ 9000) (hp : p = none → c = 0) :
    Calls Try.prog 7 #[.slice p n c] w fun e w' => ∃ g cr, n + 2 ≤ cr ∧ e = .returned (.slice (some ⟨g, 0, none⟩) n cr) ∧ w'.ownsRow w.heap.size 45 4 (.slice (some ⟨g, 0, none⟩) (n + 2) cr) (n + 2) (ecs (es ++ [e77, e77])) ∧ RowKit.Below w.heap.size w w' := by
  have HE : Hid (EIn (w.alloc (Obj.cells #[] 45)) p n es) := hE.later (below_alloc _ _)
  have HO0 : Hid ((w.alloc (Obj.cells #[] 45)).ownsRow w.heap.size 45 4 (.slice (some ⟨w.heap.size, 0, none⟩) 0 0) 0 []) := O.own_empty w (Nat.le_refl _)
  have HP : Hid (p = none → c = 0) := hp
  clear hE hp
  go_enter Try.func7, Try.ntmps7
  go_wp2_with (at_builtin; first | (refine O.wpList_edges rfl (.tmp 4) (.tmp 5) rfl rfl HO0.out rfl HE.out HP.out (by omega) (by simp) ?_; intro v1 w1 ho1 hk1 _; have HK1 : Hid (RowKit.Below w.heap.size w w1) := hk1.into (below_alloc w _) (fun b hb e => by have := (HO0.out.lt b e).1; omega) (Nat.le_refl _); have HO1 : Hid (w1.ownsRow w.heap.size 45 4 v1 (0 + n) ([] ++ ecs es)) := ho1; clear ho1 hk1) | (refine wpList_77 rfl (.tmp 6) (.tmp 9) rfl rfl HO1.out rfl rfl (by omega) HK1.out.size ?_; intro g2 c2 w2 hc2 ho2 hk2; have HK2 : Hid (RowKit.Below w.heap.size w w2) := hk2.into HK1.out (fun b hb e => by have := (HO1.out.lt b e).1; omega) (Nat.le_refl _); have HO2 : Hid (w2.ownsRow w.heap.size 45 4 (.slice (some ⟨g2, 0, none⟩) (0 + n + 2) c2) (0 + n + 2) ([] ++ ecs es ++ c77)) := ho2; clear ho2 hk2))
  go_ret
  refine ⟨g2, c2, by omega, rfl, ?_, HK2.out⟩
  have h1 := HO2.out
  simp only [Nat.zero_add, List.nil_append] at h1
  rw [show ecs (es ++ [e77, e77]) = ecs es ++ c77 by simp [ecs]]
  exact h1

theorem tk_get {tk : List Int} {n i : Nat} (hl : tk.length = n) (hi : i < n) : tk.take (i + 1) = tk.take i ++ [tk.getD i 0] ∧ tk.getD i 0 ∈ tk := by
  have h : i < tk.length := by omega
  refine ⟨?_, ?_⟩
  · rw [List.take_add_one, List.getElem?_eq_getElem h]
    simp [List.getD, List.getElem?_eq_getElem h]
  · rw [List.getD, List.getElem?_eq_getElem h]; exact List.getElem_mem _
theorem any_take {es : List Eg} {n k : Nat} {x : Int} (hl : es.length = n) (hk : k < n) : (es.take (k + 1)).any (fun e => e.f == x) = ((es.take k).any (fun e => e.f == x) || ((es.getD k noEg).f == x)) := by
  rw [(es_get hl hk).1, List.any_append]
  simp
theorem drew_ex {w W : World} (h : ∃ q, W = w.drewN q) (k : Nat) : ∃ q, W.drewN k = w.drewN q := by
  obtain ⟨q, rfl⟩ := h
  exact ⟨q + k, by simp [World.drewN, Nat.add_assoc]⟩
set_option maxHeartbeats 2000000 in
set_option maxRecDepth 100000 in
theorem rfree_at {w : World} {p q : Option Addr} {n c m d : Nat} {es : List Eg} {tk : List Int} (hE : EIn w p n es) (hz : n ≤ 9000) (hU : UIn w q m tk) (hm : m ≤ 9000) :
    Calls Try.prog 8 #[.slice p n c, .slice q m d] w fun e w' => ∃ r cr, e = .returned (.slice r (freS es tk).length cr) ∧ w'.ownsRow w.heap.size 25 1 (.slice r (freS es tk).length cr) (freS es tk).length (U64 (freS es tk)) ∧ RowKit.Below w.heap.size w w' := by
  have HE : Hid (∀ W, RowKit.Below w.heap.size w W → EIn W p n es) := fun W hW => hE.later hW
  have HU : Hid (∀ W, RowKit.Below w.heap.size w W → UIn W q m tk) := fun W hW => hU.later hW
  have HL : Hid (es.length = n) := hE.len
  have HM : Hid (tk.length = m) := hU.len
  clear hE hU
  go_enter Try.func8, Try.ntmps8
  go_wp2_with fail
  go_loopw [5, 6] (fun v5 v W => ∃ (r : Option Addr) (cr i : Nat), v5 = .slice r (freS es (tk.take i)).length cr ∧ v = .int .i64 (i : Int) ∧ i ≤ m ∧ Hid (RowKit.Below w.heap.size w W) ∧ Hid (W.ownsRow w.heap.size 25 1 (.slice r (freS es (tk.take i)).length cr) (freS es (tk.take i)).length (U64 (freS es (tk.take i))))) (fun v5 v _ => m - (intV v).toNat)
  case atStart => exact ⟨none, 0, 0, rfl, rfl, by omega, RowKit.Below.refl _ _, World.ownsRow_nil _ _ _ _⟩
  case round =>
    obtain ⟨r, cr, i, rfl, rfl, hi, HB, HO⟩ := hrel
    by_cases him : i < m
    · obtain ⟨ub, uo, rfl, hcs⟩ := (HU.out wr HB.out).cells (by omega)
      have HCI : Hid (∀ W, RowKit.Below w.heap.size w W → W.cell? ⟨ub, uo + i, none⟩ = some (.int .u64 (tk.getD i 0))) := fun W hW => by
        obtain ⟨b', o', e', hc'⟩ := (HU.out W hW).cells (by omega)
        cases e'
        exact hc' i him
      have HTK : Hid (freS es (tk.take (i + 1)) = freS es (tk.take i) ++ (if es.any (fun e => e.f == tk.getD i 0) then [] else [tk.getD i 0])) := freS_take (es := es) (tk := tk) (i := i) (by have := HM.out; omega)
      have hol : (freS es (tk.take i)).length ≤ 9000 := by
        have := freS_len es (tk.take i)
        rw [List.length_take] at this
        omega
      clear hcs
      obtain ⟨fl, hfl⟩ : ∃ fl, freS es (tk.take i) = fl := ⟨_, rfl⟩
      rw [hfl] at hol HO HTK ⊢
      clear hfl
      generalize tk.getD i 0 = x at *
      go_wp2_with fail
      go_loopw [7, 8] (fun v7 v W => ∃ (k : Nat), v7 = .bool ((es.take k).any (fun e => e.f == x)) ∧ v = .int .i64 (k : Int) ∧ k ≤ n ∧ Hid (∃ q, W = wr.drewN q)) (fun v7 v _ => n - (intV v).toNat)
      case atStart => exact ⟨0, by simp, rfl, by omega, ⟨0, rfl⟩⟩
      case round =>
        obtain ⟨k, rfl, rfl, hk, HW⟩ := hrel
        have HBi : Hid (RowKit.Below w.heap.size w wr) := by
          obtain ⟨q, e⟩ := HW.out
          rw [e]; exact HB.out.trans (below_dr _ _ q)
        by_cases hkn : k < n
        · obtain ⟨eb, eo, rfl, hcs⟩ := (HE.out wr HBi.out).cells (by omega)
          have h1 := (hcs k hkn).1
          have hci := HCI.out wr HBi.out
          have HAN : Hid ((es.take (k + 1)).any (fun e => e.f == x) = ((es.take k).any (fun e => e.f == x) || ((es.getD k noEg).f == x))) := any_take HL.out hkn
          clear hcs
          generalize (es.getD k noEg).f = ef at *
          cases hb : (es.take k).any (fun e => e.f == x) with
          | true =>
            rw [hb] at HAN
            clear hb
            go_wp2_with fail
            go_quiet (fail)
            go_wp2_with fail
            go_roundw
            case rel => exact ⟨k + 1, by rw [HAN.out]; simp, rfl, by omega, drew_ex HW.out nq⟩
            case measure => simp [intV]; omega
          | false =>
            rw [hb] at HAN
            clear hb
            go_wp2_with fail
            go_quiet (fail)
            go_wp2_with fail
            go_roundw
            case rel => exact ⟨k + 1, by rw [HAN.out]; simp, rfl, by omega, drew_ex HW.out nq⟩
            case measure => simp [intV]; omega
        · obtain rfl : k = n := by omega
          have HF : Hid (es.take k = es) := by show _ = _; rw [← HL.out, List.take_length]
          rw [HF.out] at *
          have HOi : Hid (wr.ownsRow w.heap.size 25 1 (.slice r fl.length cr) fl.length (U64 fl)) := by
            obtain ⟨q, e⟩ := HW.out
            rw [e]; exact O.own_later HO.out (below_dr _ _ q)
          have hci := HCI.out wr HBi.out
          have HSZ : Hid (w.heap.size ≤ wr.heap.size) := HBi.out.size
          clear HW
          cases hb : es.any (fun e => e.f == x) with
          | true =>
            rw [hb] at HTK
            simp only [if_true, List.append_nil] at HTK
            go_wp2_with fail
            go_roundw
            case rel => exact ⟨r, cr, i + 1, by rw [HTK.out], rfl, by omega, HBi, by rw [HTK.out]; exact HOi⟩
            case measure => simp [intV]; omega
          | false =>
            rw [hb] at HTK
            simp only [Bool.false_eq_true, if_false] at HTK
            go_wp2_with (at_builtin; refine O.wpList_one (w := wr) rfl (.tmp 36) (.tmp 41) O.elU rfl rfl HOi.out _ rfl (by simp) rfl (by omega) HSZ.out ?_; intro p5 c5 w5 ho hk hv; have HO5 : Hid (w5.ownsRow w.heap.size 25 1 (.slice p5 (fl.length + 1) c5) (fl.length + 1) (U64 fl ++ [.int .u64 x])) := ho; have HK5 : Hid (Kept (fun b => (Value.slice r fl.length cr).ownBlock = some b) wr w5) := hk; clear ho hk hv)
            go_roundw
            case rel =>
              refine ⟨p5, c5, i + 1, by rw [HTK.out]; simp, rfl, by omega, HK5.out.into HBi.out (fun b hb e => by have := (HOi.out.lt b e).1; omega) (Nat.le_refl _), ?_⟩
              rw [HTK.out, List.length_append, List.length_singleton, U64, List.map_append]
              exact HO5.out
            case measure => simp [intV]; omega
    · obtain rfl : i = m := by omega
      have HF : Hid (tk.take i = tk) := by show _ = _; rw [← HM.out, List.take_length]
      rw [HF.out] at HO ⊢
      go_wp2_with fail
      go_ret
      exact ⟨r, cr, rfl, HO.out, HB.out⟩
end Go.Proofs.Ytkgjmejpbklabaa
