/-
  Layer 15: how a graph lies.
-/
import Derived.Test.YtkgjmejpbklabaaOa
import Derived.Test.YtkgjmejpbklabaaGr
import Derived.Test.YtkgjmejpbklabaaSm
import Derived.Test.YtkgjmejpbklabaaBRa
namespace Go.Proofs.Ytkgjmejpbklabaa
open Go.RowKit

open B (IIn I64)

abbrev nils : Value := .slice none 0 0
/-- places as numbers -/
def nz (l : List Nat) : List Int := l.map fun (x : Nat) => (x : Int)
theorem nz_length (l : List Nat) : (nz l).length = l.length := by simp [nz]
theorem nz_getD (l : List Nat) (i : Nat) : (nz l).getD i 0 = ((l.getD i 0 : Nat) : Int) := by
  by_cases h : i < l.length <;> simp [nz, List.getD, h]
theorem nz_append (l m : List Nat) : nz (l ++ m) = nz l ++ nz m := by simp [nz]
theorem nz_set (l : List Nat) (i x : Nat) : (nz l).set i (x : Int) = nz (l.set i x) := by simp [nz, List.map_set]
theorem I64_set (xs : List Int) (i : Nat) (x : Int) : (I64 xs).set i (.int .i64 x) = I64 (xs.set i x) := by simp [I64, List.map_set]
theorem I64_append (xs ys : List Int) : I64 (xs ++ ys) = I64 xs ++ I64 ys := by simp [I64]
theorem I64_get {xs : List Int} {i : Nat} (h : i < xs.length) : (I64 xs)[i]? = some (.int .i64 (xs.getD i 0)) := by simp [I64, List.getD, h]
theorem nzI_get {l : List Nat} {i : Nat} (h : i < l.length) : (I64 (nz l))[i]? = some (.int .i64 ((l.getD i 0 : Nat) : Int)) := by
  rw [I64_get (by rw [nz_length]; exact h), nz_getD]

/-- of each place the places of those that it waits for: the lists lie in blocks of S -/
def NIn (S : Nat → Prop) (w : World) (nv : Value) (nx : List (List Nat)) : Prop :=
  ∃ g c, nv = .slice (some ⟨g, 0, none⟩) nx.length c ∧ S g ∧ g < w.heap.size ∧ ∀ i, i < nx.length → ∃ p k, w.cell? ⟨g, i, none⟩ = some (.slice p (nx.getD i []).length k) ∧ IIn w p (nx.getD i []).length (nz (nx.getD i [])) ∧ (∀ a, p = some a → 0 < (nx.getD i []).length → S a.block)
theorem NIn.keep {S : Nat → Prop} {w w' : World} {nv : Value} {nx : List (List Nat)} (h : NIn S w nv nx) (hs : w.heap.size ≤ w'.heap.size) (hk : ∀ k, S k → k < w.heap.size → w'.heap[k]? = w.heap[k]?) : NIn S w' nv nx := by
  obtain ⟨g, c, e, hS, hg, hc⟩ := h
  refine ⟨g, c, e, hS, by omega, fun i hi => ?_⟩
  obtain ⟨p, k, h1, h2, h3⟩ := hc i hi
  refine ⟨p, k, ?_, ⟨h2.len, fun h0 => ?_⟩, h3⟩
  · rw [World.cell?_of_block (w := w) (w' := w') (a := ⟨g, i, none⟩) (hk g hS hg)]; exact h1
  · obtain ⟨b, o, e2, hcc⟩ := h2.cells h0
    subst e2
    refine ⟨b, o, rfl, fun j hj => ?_⟩
    have hb : b < w.heap.size := World.block_lt_of_cell? w _ (hcc 0 h0)
    rw [World.cell?_of_block (w := w) (w' := w') (a := ⟨b, o + j, none⟩) (hk b (h3 _ rfl h0) hb)]
    exact hcc j hj
theorem NIn.later {S : Nat → Prop} {w w' : World} {nv : Value} {nx : List (List Nat)} (h : NIn S w nv nx) (hb : Below w.heap.size w w') : NIn S w' nv nx := h.keep hb.size fun k _ hk => hb.block k hk
theorem NIn.far {S T : Nat → Prop} {w w' : World} {nv : Value} {nx : List (List Nat)} (h : NIn S w nv nx) (hb : Kept T w w') (hd : ∀ k, S k → ¬ T k) : NIn S w' nv nx := h.keep hb.size fun k hS hk => hb.block k hk (hd k hS)
theorem NIn.wider {S T : Nat → Prop} {w : World} {nv : Value} {nx : List (List Nat)} (h : NIn S w nv nx) (hd : ∀ k, k < w.heap.size → S k → T k) : NIn T w nv nx := by
  obtain ⟨g, c, e, hS, hg, hc⟩ := h
  refine ⟨g, c, e, hd g hg hS, hg, fun i hi => ?_⟩
  obtain ⟨p, k, h1, h2, h3⟩ := hc i hi
  refine ⟨p, k, h1, h2, fun a ha h0 => hd _ ?_ (h3 a ha h0)⟩
  subst ha
  exact h2.lt h0

/-- where a place's list lies, now and later -/
theorem NIn.row {S : Nat → Prop} {w : World} {nv : Value} {nx : List (List Nat)} (h : NIn S w nv nx) : ∃ g c, nv = .slice (some ⟨g, 0, none⟩) nx.length c ∧ ∀ i, i < nx.length → ∃ p k, ∀ W : World, (∀ k, S k → k < w.heap.size → W.heap[k]? = w.heap[k]?) →
    W.cell? ⟨g, i, none⟩ = some (.slice p (nx.getD i []).length k) ∧ IIn W p (nx.getD i []).length (nz (nx.getD i [])) := by
  obtain ⟨g, c, e, hS, hg, hc⟩ := h
  refine ⟨g, c, e, fun i hi => ?_⟩
  obtain ⟨p, k, h1, h2, h3⟩ := hc i hi
  refine ⟨p, k, fun W hk => ⟨?_, h2.len, fun h0 => ?_⟩⟩
  · rw [World.cell?_of_block (w := w) (w' := W) (a := ⟨g, i, none⟩) (hk g hS hg)]; exact h1
  · obtain ⟨b, o, e2, hcc⟩ := h2.cells h0
    subst e2
    refine ⟨b, o, rfl, fun j hj => ?_⟩
    have hb : b < w.heap.size := World.block_lt_of_cell? w _ (hcc 0 h0)
    rw [World.cell?_of_block (w := w) (w' := W) (a := ⟨b, o + j, none⟩) (hk b (h3 _ rfl h0) hb)]
    exact hcc j hj
/-- a graph in a block of its own -/
def GBx (w : World) (b : Nat) (tv nv : Value) : Prop := w.heap[b]? = some (.cells #[tv, nv] 56 (0, 0))
theorem GBx.c0 {w : World} {b : Nat} {tv nv : Value} (h : GBx w b tv nv) : w.cell? ⟨b, 0, none⟩ = some tv := by rw [cell_of_row _ b 0 _ 56 (0, 0) h]; rfl
theorem GBx.c1 {w : World} {b : Nat} {tv nv : Value} (h : GBx w b tv nv) : w.cell? ⟨b, 1, none⟩ = some nv := by rw [cell_of_row _ b 1 _ 56 (0, 0) h]; rfl
theorem GBx.lt {w : World} {b : Nat} {tv nv : Value} (h : GBx w b tv nv) : b < w.heap.size := (Array.getElem?_eq_some_iff.1 h).1
theorem GBx.far {T : Nat → Prop} {w w' : World} {b : Nat} {tv nv : Value} (h : GBx w b tv nv) (hk : Kept T w w') (hb : ¬ T b) : GBx w' b tv nv := (hk.block b h.lt hb).trans h
theorem GBx.later {w w' : World} {b : Nat} {tv nv : Value} (h : GBx w b tv nv) (hb : Below w.heap.size w w') : GBx w' b tv nv := (hb.block b h.lt).trans h
theorem GBx.new (w : World) (tv nv : Value) : GBx (w.alloc (.cells #[tv, nv] 56)) w.heap.size tv nv := heap_alloc_new w _

namespace O
section
variable {w w' : World} {base : Nat} {t e : TypeId} {bytes : Nat} {v : Value} {n : Nat} {xs : List Value}
/-- 'append' of one element, made just now -/
theorem wpList_one {ops : Array Oper} {rest : List Oper} {o : Oper} {A : Act} {Q : Exit → Act → World → Prop} (hgd : o.guard = none) (s x : Operand) (E : ElT t e 1 bytes)
    (ho : o.op = .call { callee := .builtin .append, args := #[s, x], argTypes := #[t, t] }) (hs : A.eval s = v) (h : w.ownsRow base e 1 v n xs)
    (u : Value) {z : Nat} (hx : A.eval x = .slice (some ⟨z, 0, none⟩) 1 1) (hz : w.heap.size = z) (h1 : u.oneCell' = true) (hn : n + 1 ≤ 10000) (hb : base ≤ w.heap.size)
    (hK : ∀ p c w', w'.ownsRow base e 1 (.slice p (n + 1) c) (n + 1) (xs ++ [u]) → Kept (fun b => v.ownBlock = some b) w w' → (∀ g, (Value.slice p (n + 1) c).ownBlock = some g → v.ownBlock = some g ∨ w.heap.size ≤ g) → wpList Try.prog ops Q rest (A.put o.dst (.slice p (n + 1) c)) w') : wpList Try.prog ops Q (o :: rest) A (w.alloc (.cells #[u] e)) := by
  subst hz
  refine wpList_own_any hgd s x E ho hs (own_later h (below_alloc w _)) hx (own_one (cs := [u]) (base := 0) w rfl (Nat.zero_le _)) (one_one h1) hn (by simp; omega) ?_
  intro v' w' h2 h3 h4
  obtain ⟨p, c, rfl⟩ := own_shape h2
  refine hK p c w' h2 ((Kept.of_below _ (below_alloc w _)).trans h3 fun _ _ hx => hx) fun g hg => ?_
  rcases h4 with h4 | h4
  · exact .inl (h4 ▸ hg)
  · rw [hg] at h4
    simp at h4
    exact .inr (by omega)
end
end O
end Go.Proofs.Ytkgjmejpbklabaa
