/-
  Layer 15: a walk that goes as deep as it can: what it keeps.
-/
import Derived.Test.YtkgjmejpbklabaaGc
namespace Go.Proofs.Ytkgjmejpbklabaa
open Go.RowKit

open B (IIn I64)

abbrev Bs (l : List Bool) : List Value := l.map Value.bool
theorem Bs_set (l : List Bool) (i : Nat) (x : Bool) : (Bs l).set i (.bool x) = Bs (l.set i x) := by simp [Bs, List.map_set]
/-- the lists of a walk: who was met, along how many edges it has gone, those that are settled, the way -/
structure Stg (w W : World) (n bm bg : Nat) (tv nv ov wv : Value) (o wy : List Nat) (mt : List Bool) (gn : List Nat) : Prop where
  bel : RowKit.Below w.heap.size w W
  bx : GBx W w.heap.size tv nv
  om : W.ownsRow w.heap.size 4 1 (.slice (some ⟨bm, 0, none⟩) n n) n (Bs mt)
  og : W.ownsRow w.heap.size 3 1 (.slice (some ⟨bg, 0, none⟩) n n) n (I64 (nz gn))
  oo : W.ownsRow w.heap.size 3 1 ov o.length (I64 (nz o))
  ow : W.ownsRow w.heap.size 3 1 wv wy.length (I64 (nz wy.reverse))
  d1 : ov.ownBlock ≠ some bg
  d2 : wv.ownBlock ≠ some bg
  d3 : ∀ b, ov.ownBlock = some b → wv.ownBlock ≠ some b
section
variable {w W W' : World} {n bm bg : Nat} {tv nv ov wv : Value} {o wy : List Nat} {mt : List Bool} {gn : List Nat}
theorem Stg.draws (h : Stg w W n bm bg tv nv ov wv o wy mt gn) (q : Nat) : Stg w (W.drewN q) n bm bg tv nv ov wv o wy mt gn := { h with
  bel := h.bel.trans (below_dr _ _ q)
  om := O.own_later h.om (below_dr _ _ q)
  og := O.own_later h.og (below_dr _ _ q)
  oo := O.own_later h.oo (below_dr _ _ q)
  ow := O.own_later h.ow (below_dr _ _ q) }
theorem Stg.lm (h : Stg w W n bm bg tv nv ov wv o wy mt gn) : mt.length = n := by have := h.om.1; simpa using this
theorem Stg.lg (h : Stg w W n bm bg tv nv ov wv o wy mt gn) : gn.length = n := by have := h.og.1; simpa [nz_length] using this
theorem Stg.cm (h : Stg w W n bm bg tv nv ov wv o wy mt gn) {x : Nat} (hx : x < n) : W.cell? ⟨bm, x, none⟩ = some (.bool (mt.getD x false)) :=
  O.own_cell h.om (by simp [List.getD, show x < mt.length by rw [h.lm]; exact hx])
theorem Stg.cg (h : Stg w W n bm bg tv nv ov wv o wy mt gn) {x : Nat} (hx : x < n) : W.cell? ⟨bg, x, none⟩ = some (.int .i64 ((gn.getD x 0 : Nat) : Int)) :=
  O.own_cell h.og (nzI_get (by rw [h.lg]; exact hx))
theorem Stg.setm (h : Stg w W n bm bg tv nv ov wv o wy mt gn) (x : Nat) : Stg w (W.setCell ⟨bm, x, none⟩ (.bool true)) n bm bg tv nv ov wv o wy (mt.set x true) gn := by
  have hk : Kept (· = bm) W (W.setCell ⟨bm, x, none⟩ (.bool true)) := Kept.setCell bm x _
  have hi : ∀ {v : Value} {k : Nat} {xs : List Value}, W.ownsRow w.heap.size 3 1 v k xs → ∀ b, v.ownBlock = some b → ¬ b = bm := fun h2 b hb e => O.own_ne h2 h.om (by decide) (e ▸ hb) rfl
  exact { h with
    bel := h.bel.setCell (h.om.lt bm rfl).1 _
    bx := h.bx.far hk fun e => O.own_not h.om h.bx (by decide) (by rw [e]; rfl)
    om := by have := O.own_set h.om (g := bm) rfl x (.bool true); rw [Bs_set] at this; exact this
    og := O.own_far h.og hk (hi h.og)
    oo := O.own_far h.oo hk (hi h.oo)
    ow := O.own_far h.ow hk (hi h.ow) }
theorem Stg.setg (h : Stg w W n bm bg tv nv ov wv o wy mt gn) (x k : Nat) : Stg w (W.setCell ⟨bg, x, none⟩ (.int .i64 (k : Int))) n bm bg tv nv ov wv o wy mt (gn.set x k) := by
  have hk : Kept (· = bg) W (W.setCell ⟨bg, x, none⟩ (.int .i64 (k : Int))) := Kept.setCell bg x _
  exact { h with
    bel := h.bel.setCell (h.og.lt bg rfl).1 _
    bx := h.bx.far hk fun e => O.own_not h.og h.bx (by decide) (by rw [e]; rfl)
    om := O.own_far h.om hk fun b hb e => O.own_ne h.om h.og (by decide) (e ▸ hb) rfl
    og := own_put h.og x k
    oo := O.own_far h.oo hk fun b hb e => h.d1 (e ▸ hb)
    ow := O.own_far h.ow hk fun b hb e => h.d2 (e ▸ hb) }
/-- a new way -/
theorem Stg.begin (h : Stg w W n bm bg tv nv ov wv o [] mt gn) (r : Nat) : Stg w (W.alloc (Obj.cells #[Value.int .i64 (r : Int)] 3)) n bm bg tv nv ov (.slice (some ⟨W.heap.size, 0, none⟩) 1 1) o [r] mt gn := by
  have hb := below_alloc W (Obj.cells #[Value.int .i64 (r : Int)] 3)
  exact { h with
    bel := h.bel.trans (hb.mono h.bel.size)
    bx := h.bx.later hb
    om := O.own_later h.om hb
    og := O.own_later h.og hb
    oo := O.own_later h.oo hb
    ow := O.own_one (base := w.heap.size) (size := 1) (e := 3) (cs := [Value.int .i64 (r : Int)]) W rfl h.bel.size
    d2 := fun e => by have := (h.og.lt bg rfl).2; simp [Value.ownBlock] at e; omega
    d3 := fun b hb e => by have := (h.oo.lt b hb).2; simp [Value.ownBlock] at e; omega }
/-- one more is settled -/
theorem Stg.addo (h : Stg w W n bm bg tv nv ov wv o wy mt gn) {p : Option Addr} {c x : Nat} (ho : W'.ownsRow w.heap.size 3 1 (.slice p (o.length + 1) c) (o.length + 1) (I64 (nz o) ++ [.int .i64 (x : Int)]))
    (hk : Kept (fun b => ov.ownBlock = some b) W W') (hv : ∀ g, (Value.slice p (o.length + 1) c).ownBlock = some g → ov.ownBlock = some g ∨ W.heap.size ≤ g) :
    Stg w W' n bm bg tv nv (.slice p (o ++ [x]).length c) wv (o ++ [x]) wy mt gn := by
  have el : (o ++ [x]).length = o.length + 1 := by simp
  have ei : I64 (nz (o ++ [x])) = I64 (nz o) ++ [.int .i64 (x : Int)] := by simp [nz, I64]
  have hnb : ∀ b, ov.ownBlock = some b → w.heap.size ≤ b := fun b hb => (h.oo.lt b hb).1
  exact { h with
    bel := Kept.into hk h.bel (fun b hb hc => by have := hnb b hc; omega) (Nat.le_refl _)
    bx := h.bx.far hk fun hc => O.own_not h.oo h.bx (by decide) hc
    om := O.own_far h.om hk fun b hb hc => O.own_ne h.oo h.om (by decide) hc hb
    og := O.own_far h.og hk fun b hb hc => h.d1 (by simp [Value.ownBlock] at hb; rw [hb]; exact hc)
    oo := by rw [el, ei]; exact ho
    ow := O.own_far h.ow hk fun b hb hc => h.d3 b hc hb
    d1 := fun e => by
      rw [el] at e
      rcases hv bg e with h1 | h1
      · exact h.d1 h1
      · have := (h.og.lt bg rfl).2; omega
    d3 := fun b hb e => by
      rw [el] at hb
      rcases hv b hb with h1 | h1
      · exact h.d3 b h1 e
      · have := (h.ow.lt b e).2; omega }
/-- the way goes on -/
theorem Stg.addw (h : Stg w W n bm bg tv nv ov wv o wy mt gn) {p : Option Addr} {c x : Nat} (ho : W'.ownsRow w.heap.size 3 1 (.slice p (wy.length + 1) c) (wy.length + 1) (I64 (nz wy.reverse) ++ [.int .i64 (x : Int)]))
    (hk : Kept (fun b => wv.ownBlock = some b) W W') (hv : ∀ g, (Value.slice p (wy.length + 1) c).ownBlock = some g → wv.ownBlock = some g ∨ W.heap.size ≤ g) :
    Stg w W' n bm bg tv nv ov (.slice p (x :: wy).length c) o (x :: wy) mt gn := by
  have el : (x :: wy).length = wy.length + 1 := by simp
  have ei : I64 (nz (x :: wy).reverse) = I64 (nz wy.reverse) ++ [.int .i64 (x : Int)] := by simp [nz, I64]
  have hnb : ∀ b, wv.ownBlock = some b → w.heap.size ≤ b := fun b hb => (h.ow.lt b hb).1
  exact { h with
    bel := Kept.into hk h.bel (fun b hb hc => by have := hnb b hc; omega) (Nat.le_refl _)
    bx := h.bx.far hk fun hc => O.own_not h.ow h.bx (by decide) hc
    om := O.own_far h.om hk fun b hb hc => O.own_ne h.ow h.om (by decide) hc hb
    og := O.own_far h.og hk fun b hb hc => h.d2 (by simp [Value.ownBlock] at hb; rw [hb]; exact hc)
    ow := by rw [el, ei]; exact ho
    oo := O.own_far h.oo hk fun b hb hc => h.d3 b hb hc
    d2 := fun e => by
      rw [el] at e
      rcases hv bg e with h1 | h1
      · exact h.d2 h1
      · have := (h.og.lt bg rfl).2; omega
    d3 := fun b hb e => by
      rw [el] at e
      rcases hv b e with h1 | h1
      · exact h.d3 b hb h1
      · have := (h.oo.lt b hb).2; omega }
/-- the way goes back -/
theorem Stg.back {p : Option Addr} {c t : Nat} (h : Stg w W n bm bg tv nv ov (.slice p (t :: wy).length c) o (t :: wy) mt gn) : Stg w W n bm bg tv nv ov (.slice p wy.length c) o wy mt gn := by
  have eb : (Value.slice p wy.length c).ownBlock = (Value.slice p (t :: wy).length c).ownBlock := by cases p <;> rfl
  refine { h with ow := ⟨by simp [nz_length], ?_⟩, d2 := by rw [eb]; exact h.d2, d3 := fun b hb => by rw [eb]; exact h.d3 b hb }
  rcases h.ow.2 with ⟨_, h0⟩ | ⟨g, cap, cur, e, hb, hg, hc, hm, hs, ht⟩
  · simp at h0
  · simp only [Value.slice.injEq] at e
    obtain ⟨rfl, _, rfl⟩ := e
    refine .inr ⟨g, c, cur, rfl, hb, hg, by simp at hc; omega, hm, hs, ?_⟩
    have := congrArg (List.take wy.length) ht
    rw [List.take_take] at this
    simp [nz, I64] at this ⊢
    exact this
end
end Go.Proofs.Ytkgjmejpbklabaa
