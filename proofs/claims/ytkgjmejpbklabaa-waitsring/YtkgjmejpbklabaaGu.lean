/-
  Layer 15: edges; the graph of edges, first part.
-/
import Derived.Test.YtkgjmejpbklabaaGt
import Derived.Test.YtkgjmejpbklabaaGn
import Derived.Test.YtkgjmejpbklabaaGp
import Derived.Test.YtkgjmejpbklabaaGg
namespace Go.Proofs.Ytkgjmejpbklabaa
open Go.RowKit

open B (IIn I64)

/-- an edge -/
structure Eg where
  f : Int
  t : Int
  y : Int
  b : Int
def Eg.pr (e : Eg) : Int × Int := (e.f, e.t)
abbrev egs (es : List Eg) : List (Int × Int) := es.map Eg.pr
abbrev noEg : Eg := ⟨0, 0, 0, 0⟩
abbrev ecells (e : Eg) : List Value := [.int .u64 e.f, .int .u64 e.t, .int .i64 e.y, .int .i64 e.b]
def ecs (es : List Eg) : List Value := es.flatMap ecells
theorem ecs_len (es : List Eg) : (ecs es).length = es.length * 4 := by
  induction es with
  | nil => rfl
  | cons e es ih => simp only [ecs, List.flatMap_cons, List.length_append, List.length_cons, List.length_nil] at ih ⊢; omega
theorem ecs_at : ∀ (es : List Eg) (j : Nat), j < es.length → (ecs es)[j * 4]? = some (.int .u64 (es.getD j noEg).f) ∧ (ecs es)[j * 4 + 1]? = some (.int .u64 (es.getD j noEg).t) ∧ (ecs es)[j * 4 + 2]? = some (.int .i64 (es.getD j noEg).y) ∧ (ecs es)[j * 4 + 3]? = some (.int .i64 (es.getD j noEg).b)
  | [], j, h => by simp at h
  | e :: es, 0, _ => by simp [ecs]
  | e :: es, j + 1, h => by
    have ih := ecs_at es j (by simpa using h)
    have e0 : ecs (e :: es) = ecells e ++ ecs es := rfl
    have e1 : ∀ k, (ecs (e :: es))[(j + 1) * 4 + k]? = (ecs es)[j * 4 + k]? := fun k => by
      rw [e0, List.getElem?_append_right (by simp; omega)]
      congr 1
      simp; omega
    have e2 : (e :: es).getD (j + 1) noEg = es.getD j noEg := by simp [List.getD]
    rw [e2]
    refine ⟨?_, ?_, ?_, ?_⟩
    · have := e1 0; simp only [Nat.add_zero] at this; rw [this]; exact ih.1
    · rw [e1 1]; exact ih.2.1
    · rw [e1 2]; exact ih.2.2.1
    · rw [e1 3]; exact ih.2.2.2
/-- edges that are read -/
structure EIn (w : World) (p : Option Addr) (n : Nat) (es : List Eg) : Prop where
  len : es.length = n
  cells : 0 < n → ∃ b o, p = some ⟨b, o, none⟩ ∧ ∀ j, j < n → w.cell? ⟨b, o + j * 4, none⟩ = some (.int .u64 (es.getD j noEg).f) ∧ w.cell? ⟨b, o + j * 4 + 1, none⟩ = some (.int .u64 (es.getD j noEg).t) ∧ w.cell? ⟨b, o + j * 4 + 2, none⟩ = some (.int .i64 (es.getD j noEg).y) ∧ w.cell? ⟨b, o + j * 4 + 3, none⟩ = some (.int .i64 (es.getD j noEg).b)
theorem EIn.keep {w w' : World} {p : Option Addr} {n : Nat} {es : List Eg} (h : EIn w p n es) (hk : ∀ a, p = some a → 0 < n → w'.heap[a.block]? = w.heap[a.block]?) : EIn w' p n es := by
  refine ⟨h.len, fun h0 => ?_⟩
  obtain ⟨b, o, rfl, hc⟩ := h.cells h0
  refine ⟨b, o, rfl, fun j hj => ?_⟩
  have hb : ∀ k, w'.cell? ⟨b, k, none⟩ = w.cell? ⟨b, k, none⟩ := fun k => World.cell?_of_block (w := w) (w' := w') (a := ⟨b, k, none⟩) (hk ⟨b, o, none⟩ rfl h0)
  rw [hb, hb, hb, hb]
  exact hc j hj
theorem EIn.lt {w : World} {a : Addr} {n : Nat} {es : List Eg} (h : EIn w (some a) n es) (h0 : 0 < n) : a.block < w.heap.size := by
  obtain ⟨b, o, e, hc⟩ := h.cells h0
  cases e
  exact World.block_lt_of_cell? w _ (hc 0 h0).1
theorem EIn.later {w w' : World} {p : Option Addr} {n : Nat} {es : List Eg} (h : EIn w p n es) (hb : RowKit.Below w.heap.size w w') : EIn w' p n es := h.keep fun a e h0 => by subst e; exact hb.block _ (h.lt h0)
theorem EIn.far {S : Nat → Prop} {w w' : World} {p : Option Addr} {n : Nat} {es : List Eg} (h : EIn w p n es) (hk : Kept S w w') (hS : ∀ a, p = some a → 0 < n → ¬ S a.block) : EIn w' p n es := h.keep fun a e h0 => by
  have h1 := hS a e h0
  subst e; exact hk.block _ (h.lt h0) h1
theorem EIn.take {w : World} {p : Option Addr} {n k : Nat} {es : List Eg} (h : EIn w p n es) (hk : k ≤ n) : EIn w p k (es.take k) := by
  refine ⟨by rw [List.length_take, h.len]; omega, fun h0 => ?_⟩
  obtain ⟨b, o, rfl, hc⟩ := h.cells (by omega)
  refine ⟨b, o, rfl, fun j hj => ?_⟩
  have e : (es.take k).getD j noEg = es.getD j noEg := by simp [List.getD, hj]
  rw [e]
  exact hc j (by omega)
theorem EIn.of_own {w : World} {base n c : Nat} {p : Option Addr} {es : List Eg} (h : w.ownsRow base 45 4 (.slice p n c) n (ecs es)) : EIn w p n es := by
  have hl : es.length = n := by have := h.1; rw [ecs_len] at this; omega
  refine ⟨hl, fun h0 => ?_⟩
  rcases h.2 with ⟨_, hv⟩ | ⟨g, cap, cur, e, _⟩
  · omega
  · cases e
    refine ⟨g, 0, rfl, fun j hj => ?_⟩
    have hc := fun i u hi => h.cells (g := g) rfl i u hi
    have ha := ecs_at es j (by omega)
    simp only [Go.WideShapes.add_plain] at hc
    refine ⟨?_, ?_, ?_, ?_⟩
    · exact hc _ _ ha.1
    · have := hc _ _ ha.2.1; rw [Nat.add_assoc]; exact this
    · have := hc _ _ ha.2.2.1; rw [Nat.add_assoc]; exact this
    · have := hc _ _ ha.2.2.2; rw [Nat.add_assoc]; exact this

namespace O
section
variable {w w' : World} {base : Nat} {t e : TypeId} {bytes : Nat} {v : Value} {n : Nat} {xs : List Value}
/-- 'append' of two elements, made just now -/
theorem wpList_two {ops : Array Oper} {rest : List Oper} {o : Oper} {A : Act} {Q : Exit → Act → World → Prop} (hgd : o.guard = none) (s x : Operand) (E : ElT t e 1 bytes)
    (ho : o.op = .call { callee := .builtin .append, args := #[s, x], argTypes := #[t, t] }) (hs : A.eval s = v) (h : w.ownsRow base e 1 v n xs)
    (u u' : Value) {z : Nat} (hx : A.eval x = .slice (some ⟨z, 0, none⟩) 2 2) (hz : w.heap.size = z) (h1 : u.oneCell' = true) (h2 : u'.oneCell' = true) (hn : n + 2 ≤ 10000) (hb : base ≤ w.heap.size)
    (hK : ∀ g c w', w'.ownsRow base e 1 (.slice (some ⟨g, 0, none⟩) (n + 2) c) (n + 2) (xs ++ [u, u']) → Kept (fun b => v.ownBlock = some b) w w' → wpList Try.prog ops Q rest (A.put o.dst (.slice (some ⟨g, 0, none⟩) (n + 2) c)) w') : wpList Try.prog ops Q (o :: rest) A (w.alloc (.cells #[u, u'] e)) := by
  subst hz
  have hO : (w.alloc (.cells [u, u'].toArray e)).ownsRow 0 e 1 (.slice (some ⟨w.heap.size, 0, none⟩) 2 2) 2 [u, u'] := own_all w e [u, u'] 2 rfl (by omega) (Nat.zero_le _)
  refine wpList_own_any hgd s x E ho hs (own_later h (below_alloc w _)) hx hO (fun y hy => by simp at hy; rcases hy with rfl | rfl <;> assumption) hn (by simp; omega) ?_
  intro v' w' h3 h4 h5
  obtain ⟨g, c, e1, -⟩ := own_some h3 (by omega)
  subst e1
  exact hK g c w' h3 ((Kept.of_below _ (below_alloc w _)).trans h4 fun _ _ hx => hx)
end
end O
theorem make_u64s (w : World) (m : Nat) (hm : m ≤ 10000) : (Instr.makeSlice 23 (.int .i64 0) (.int .i64 (m : Int))).run Try.prog w = .ok (.slice (some ⟨w.heap.size, 0, none⟩) 0 m) (w.alloc (.cells (List.replicate m (Value.int .u64 0)).toArray 25)) := by
  obtain ⟨i0, hi, h0, h1, h2⟩ := info_parts info26
  have hmm : (i0.bytes : Int) * (m : Int) ≤ 281474976710656 := by rw [h2]; omega
  have := run_make (P := Try.prog) w 23 25 i0 (.int .u64 0) Try.underlying23 hi h0 .i64 .i64 0 (m : Int) (by omega) (by omega) hmm (by omega)
  rw [Int.toNat_natCast] at this
  rw [this, h1]
  have e1 : madeCells #[Value.int .u64 0] m = (List.replicate m (Value.int .u64 0)).toArray := by rw [← toList_madeCells_one (Value.int .u64 0) m]
  simp [Value.cells, e1]
theorem own_cap (w : World) (m : Nat) (hm : m ≤ 10000) {base : Nat} (hb : base ≤ w.heap.size) : (w.alloc (.cells (List.replicate m (Value.int .u64 0)).toArray 25)).ownsRow base 25 1 (.slice (some ⟨w.heap.size, 0, none⟩) 0 m) 0 [] :=
  ⟨by simp, .inr ⟨w.heap.size, m, _, rfl, hb, heap_alloc_new w _, by omega, Nat.le_trans hm (by decide), by simp, by simp⟩⟩

/-- one list is another one now -/
theorem Rws.turn {w w' : World} {base g n : Nat} {vs : List Value} {bk : List (List Nat)} (h : Rws w base g n vs bk) {i : Nat} {row : List Nat} (hi : i < n) {v' : Value} (ho : w'.ownsRow base 3 1 v' row.length (I64 (nz row)))
    (hk : Kept (fun b => (vs.getD i nils).ownBlock = some b) w w') (hv : ∀ b, v'.ownBlock = some b → (vs.getD i nils).ownBlock = some b ∨ w.heap.size ≤ b) :
    w'.ownsRow base 34 1 (.slice (some ⟨g, 0, none⟩) n n) n vs ∧ Rws (w'.setCell ⟨g, i, none⟩ v') base g n (vs.set i v') (bk.set i row) := by
  have hg : ∀ j, j < n → (vs.getD j nils).ownBlock ≠ some g := fun j hj hc => O.own_ne (h.row j hj) h.top (by decide) hc rfl
  have ht : w'.ownsRow base 34 1 (.slice (some ⟨g, 0, none⟩) n n) n vs := O.own_far h.top hk fun b hb hc => hg i hi (by simp [Value.ownBlock] at hb; rw [hb]; exact hc)
  have hs : Kept (· = g) w' (w'.setCell ⟨g, i, none⟩ v') := Kept.setCell g i v'
  have hvg : v'.ownBlock ≠ some g := fun hc => O.own_ne ho ht (by decide) hc rfl
  have e1 : ∀ j, (vs.set i v').getD j nils = if i = j then v' else vs.getD j nils := fun j => by
    rw [getD_set]
    by_cases hj : i = j
    · rw [if_pos ⟨hj, by rw [h.lv]; exact hi⟩, if_pos hj]
    · rw [if_neg (fun hc => hj hc.1), if_neg hj]
  have e2 : ∀ j, (bk.set i row).getD j [] = if i = j then row else bk.getD j [] := fun j => by
    rw [getD_set]
    by_cases hj : i = j
    · rw [if_pos ⟨hj, by rw [h.lb]; exact hi⟩, if_pos hj]
    · rw [if_neg (fun hc => hj hc.1), if_neg hj]
  refine ⟨ht, by simp [h.lv], by simp [h.lb], O.own_set ht rfl i v', fun j hj => ?_, fun j l b hj hl h1 h2 => ?_⟩
  · rw [e1, e2]
    by_cases hij : i = j
    · rw [if_pos hij, if_pos hij]
      exact O.own_far ho hs fun b hb e => hvg (e ▸ hb)
    · rw [if_neg hij, if_neg hij]
      refine O.own_far (O.own_far (h.row j hj) hk fun b hb hc => hij (h.apart i j b hi hj hc hb)) hs fun b hb e => hg j hj (e ▸ hb)
  · rw [e1] at h1 h2
    have old : ∀ m, m < n → i ≠ m → (vs.getD m nils).ownBlock = some b → v'.ownBlock = some b → False := fun m hm hne h3 h4 => by
      rcases hv b h4 with h5 | h5
      · exact hne (h.apart i m b hi hm h5 h3)
      · have := ((h.row m hm).lt b h3).2; omega
    by_cases hij : i = j
    · rw [if_pos hij] at h1
      by_cases hil : i = l
      · rw [← hij, hil]
      · rw [if_neg hil] at h2
        exact (old l hl hil h2 h1).elim
    · rw [if_neg hij] at h1
      by_cases hil : i = l
      · rw [if_pos hil] at h2
        exact (old j hj hij h1 h2).elim
      · rw [if_neg hil] at h2
        exact h.apart j l b hj hl h1 h2

end Go.Proofs.Ytkgjmejpbklabaa
