/-
  Layer 14: the document's locks: how they lie.
-/
import Derived.Test.YtkffmglcllhbmaaRm
import Derived.Test.YtkffmglcllhbmaaOa
import Derived.Test.YtkffmglcllhbmaaZa
namespace Go.Proofs.Ytkffmglcllhbmaa
open Go.RowKit

/-- a ticket that is there, as the document keeps it -/
structure Er where
  t : Int
  p : Option Addr
  m : Nat
  c : Nat
  d : Nat
abbrev Er.v (x : Er) : Value := .slice x.p x.m x.c
def Er.cs (x : Er) : List Value := [.int .u64 x.t, .slice x.p x.m x.c, .int .i64 x.d]
def rcs (ps : List Er) : List Value := ps.flatMap Er.cs
theorem rcs_app (ps qs : List Er) : rcs (ps ++ qs) = rcs ps ++ rcs qs := List.flatMap_append
theorem rcs_cons (p : Er) (ps : List Er) : rcs (p :: ps) = p.cs ++ rcs ps := rfl
theorem rcs_one (p : Er) : rcs [p] = p.cs := by simp [rcs]
theorem rcs_len (ps : List Er) : (rcs ps).length = ps.length * 3 := by
  induction ps with
  | nil => rfl
  | cons x xs ih => rw [rcs_cons, List.length_append, ih]; simp only [Er.cs, List.length_cons, List.length_nil]; omega
theorem rcs_at : ∀ (ps : List Er) (k : Nat) (hk : k < ps.length) (j : Nat), j < 3 → (rcs ps)[k * 3 + j]? = (ps[k]).cs[j]?
  | [], k, hk, _, _ => by simp at hk
  | x :: xs, 0, _, j, hj => by rw [rcs_cons, List.getElem?_append_left (by simp [Er.cs]; omega)]; simp
  | x :: xs, k + 1, hk, j, hj => by
    have h := rcs_at xs k (by simpa using hk) j hj
    rw [rcs_cons, List.getElem?_append_right (by simp [Er.cs]; omega)]
    have e : (k + 1) * 3 + j - x.cs.length = k * 3 + j := by simp only [Er.cs, List.length_cons, List.length_nil]; omega
    rw [e, h]
    rfl
theorem rcs_take (ps : List Er) : ∀ k, (rcs ps).take (k * 3) = rcs (ps.take k) := by
  induction ps with
  | nil => intro k; simp [rcs]
  | cons x xs ih =>
    intro k
    cases k with
    | zero => simp [rcs]
    | succ k =>
      have e : (k + 1) * 3 = k * 3 + 3 := by omega
      rw [rcs_cons, List.take_succ_cons, rcs_cons, e]
      simp [Er.cs, ih]
theorem rcs_drop (ps : List Er) : ∀ k, (rcs ps).drop (k * 3) = rcs (ps.drop k) := by
  induction ps with
  | nil => intro k; simp [rcs]
  | cons x xs ih =>
    intro k
    cases k with
    | zero => simp
    | succ k =>
      have e : (k + 1) * 3 = k * 3 + 3 := by omega
      rw [rcs_cons, List.drop_succ_cons, e]
      simp [Er.cs, ih]
theorem rcs_set : ∀ (ps : List Er) (k : Nat) (hk : k < ps.length) (d : Nat), (rcs ps).set (k * 3 + 2) (.int .i64 d) = rcs (ps.set k { ps[k] with d := d })
  | [], k, hk, _ => by simp at hk
  | p :: qs, 0, _, d => by simp [rcs, Er.cs]
  | p :: qs, k + 1, hk, d => by
    have ih := rcs_set qs k (by simpa using hk) d
    have e : (k + 1) * 3 + 2 = (k * 3 + 2) + 3 := by omega
    rw [rcs_cons, e]
    simp only [Er.cs, List.cons_append, List.nil_append, List.set_cons_succ, List.getElem_cons_succ, rcs_cons, ← ih]
theorem ones_r (ps : List Er) : ∀ u ∈ rcs ps, u.oneCell' = true := by
  intro u hu
  obtain ⟨p, _, hp⟩ := List.mem_flatMap.1 hu
  simp only [Er.cs, List.mem_cons, List.not_mem_nil, or_false] at hp
  rcases hp with rfl | rfl | rfl <;> rfl

/-- one beside another: the same ticket, set, and how much is locked -/
structure Mi (w : World) (G : Nat → Prop) (x : En) (y : Er) : Prop where
  t : y.t = x.t
  f : Frm w y.v x.s
  g : ∀ g, blk y.v = some g → G g
  d : y.d = x.d
def Mis (w : World) (G : Nat → Prop) : List En → List Er → Prop
  | [], [] => True
  | x :: xs, y :: ys => Mi w G x y ∧ Mis w G xs ys
  | _, _ => False
section
variable {w w' : World} {G : Nat → Prop}
theorem Mi.m {x : En} {y : Er} (h : Mi w G x y) : y.m = x.s.length := by
  obtain ⟨p, c, e, _⟩ := h.f.read
  simp only [Value.slice.injEq] at e
  exact e.2.1
theorem Mis.len : ∀ {xs ys}, Mis w G xs ys → ys.length = xs.length
  | [], [], _ => rfl
  | _ :: _, _ :: _, h => by simp [Mis.len h.2]
  | [], _ :: _, h => h.elim
  | _ :: _, [], h => h.elim
theorem Mis.get : ∀ {xs ys}, Mis w G xs ys → ∀ (k : Nat) (h1 : k < xs.length) (h2 : k < ys.length), Mi w G xs[k] ys[k]
  | _ :: _, _ :: _, h, 0, _, _ => h.1
  | _ :: _, _ :: _, h, k + 1, h1, h2 => Mis.get h.2 k (by simpa using h1) (by simpa using h2)
theorem Mis.app : ∀ {xs ys}, Mis w G xs ys → ∀ {x y}, Mi w G x y → Mis w G (xs ++ [x]) (ys ++ [y])
  | [], [], _, _, _, h => ⟨h, trivial⟩
  | _ :: _, _ :: _, h, _, _, h' => ⟨h.1, Mis.app h.2 h'⟩
  | [], _ :: _, h, _, _, _ => h.elim
  | _ :: _, [], h, _, _, _ => h.elim
theorem Mis.map {w' : World} {G' : Nat → Prop} (hf : ∀ x y, Mi w G x y → Mi w' G' x y) : ∀ {xs ys}, Mis w G xs ys → Mis w' G' xs ys
  | [], [], _ => trivial
  | _ :: _, _ :: _, h => ⟨hf _ _ h.1, Mis.map hf h.2⟩
  | [], _ :: _, h => h.elim
  | _ :: _, [], h => h.elim
theorem Mis.cut : ∀ {xs ys}, Mis w G xs ys → ∀ k, Mis w G (xs.take k ++ xs.drop (k + 1)) (ys.take k ++ ys.drop (k + 1))
  | [], [], _, _ => by simp [Mis]
  | _ :: _, _ :: _, h, 0 => by simpa using h.2
  | _ :: _, _ :: _, h, k + 1 => ⟨h.1, Mis.cut h.2 k⟩
  | [], _ :: _, h, _ => h.elim
  | _ :: _, [], h, _ => h.elim
theorem Mis.set : ∀ {xs ys}, Mis w G xs ys → ∀ (k : Nat) {x y}, Mi w G x y → Mis w G (xs.set k x) (ys.set k y)
  | [], [], _, _, _, _, _ => by simp [Mis]
  | _ :: _, _ :: _, h, 0, _, _, h' => ⟨h', h.2⟩
  | _ :: _, _ :: _, h, k + 1, _, _, h' => ⟨h.1, Mis.set h.2 k h'⟩
  | [], _ :: _, h, _, _, _, _ => h.elim
  | _ :: _, [], h, _, _, _, _ => h.elim
end

/-- how the document's locks lie: the row and the sets in memory that is never written again -/
abbrev rcells (a : Lk) (v : Value) : Array Value := #[.int .i64 a.bl, .int .u64 a.last, v]
structure RL (w : World) (G : Nat → Prop) (R : Nat) (v : Value) (a : Lk) (es : List Er) : Prop where
  st : w.heap[R]? = some (.cells (rcells a v) 103 (0, 0))
  row : w.ownsRow 0 97 3 v es.length (rcs es)
  mi : Mis w G a.L es
  g : ∀ g, v.ownBlock = some g → G g
section
variable {w w' : World} {G G' : Nat → Prop} {R : Nat} {v : Value} {a : Lk} {es : List Er} {xs : List En}
theorem RL.lt (h : RL w G R v a es) : R < w.heap.size := (Array.getElem?_eq_some_iff.1 h.st).1
theorem RL.kR (h : RL w G R v a es) : kd w R = 103 := kd_cells h.st
theorem Frm.keeps {v : Value} {f : List Int} (h : Frm w v f) (hk : ∀ g, blk v = some g → w'.heap[g]? = w.heap[g]?) : Frm w' v f := O.own_keeps h fun g hg => hk g (by rw [O.blk_own]; exact hg)
theorem Mi.kept {x : En} {y : Er} (m : Mi w G x y) (hG : ∀ g, G g → g < w.heap.size → w'.heap[g]? = w.heap[g]?) (hGG : ∀ g, G g → G' g) : Mi w' G' x y :=
  ⟨m.t, m.f.keeps fun g hg => hG g (m.g g hg) (m.f.lt hg).1, fun g hg => hGG g (m.g g hg), m.d⟩
theorem RL.kept (h : RL w G R v a es) (hR : w'.heap[R]? = w.heap[R]?) (hG : ∀ g, G g → g < w.heap.size → w'.heap[g]? = w.heap[g]?) (hGG : ∀ g, G g → G' g) : RL w' G' R v a es :=
  ⟨hR.trans h.st, O.own_keeps h.row fun g hg => hG g (h.g g hg) (h.row.lt g hg).2, h.mi.map fun _ _ m => m.kept hG hGG, fun g hg => hGG g (h.g g hg)⟩
theorem RL.later (h : RL w G R v a es) (hb : Below w.heap.size w w') : RL w' G R v a es := h.kept (hb.block R h.lt) (fun g _ hg => hb.block g hg) (fun _ hg => hg)
theorem RL.drawn (h : RL w G R v a es) (m : Nat) : RL (w.drewN m) G R v a es := h.later (below_drawn m)
theorem RL.far {S : Nat → Prop} (h : RL w G R v a es) (hk : Kept S w w') (hR : ¬ S R) (hS : ∀ g, G g → g < w.heap.size → ¬ S g) : RL w' G R v a es := h.kept (hk.block R h.lt hR) (fun g hg hl => hk.block g hl (hS g hg hl)) (fun _ hg => hg)
theorem RL.wide (h : RL w G R v a es) (hGG : ∀ g, G g → G' g) : RL w G' R v a es := h.kept rfl (fun _ _ _ => rfl) hGG
theorem RL.c (h : RL w G R v a es) (o : Nat) : w.cell? ⟨R, o, none⟩ = (rcells a v)[o]? := cell_of_row _ R o _ 103 (0, 0) h.st
theorem RL.free (h : RL w G R v a es) (o : Nat) : w.frozen? ⟨R, o, none⟩ = false := by simp [World.frozen?, h.st]
theorem RL.len (h : RL w G R v a es) : es.length = a.L.length := h.mi.len
/-- what is never written again, with all that has been made since -/
def Gp (w w' : World) (G : Nat → Prop) (g : Nat) : Prop := G g ∨ (w.heap.size ≤ g ∧ g < w'.heap.size)
theorem Mis.turn (h : Mis w G xs es) (hR : ¬ G R) (hk : Kept (· = R) w w') : Mis w' (Gp w w' G) xs es := h.map fun _ _ m => m.kept (fun g hg hl => hk.block g hl fun e => hR (e ▸ hg)) fun _ hg => .inl hg
/-- the document's locks behind a call -/
structure RAf (w w' : World) (G : Nat → Prop) (R : Nat) (a' : Lk) : Prop where
  rl : ∃ v es, RL w' (Gp w w' G) R v a' es
  kept : Kept (· = R) w w'
theorem RAf.same (h : RL w G R v a es) (hb : Below w.heap.size w w') : RAf w w' G R a := ⟨⟨v, es, h.kept (hb.block R h.lt) (fun g _ hg => hb.block g hg) (fun _ hg => .inl hg)⟩, Kept.of_below _ hb⟩
theorem erow_cell {g c n : Nat} {ps : List Er} (h : w.ownsRow 0 97 3 (.slice (some ⟨g, 0, none⟩) n c) n (rcs ps)) {k : Nat} (hk : k < ps.length) : w.cell? ⟨g, k * 3, none⟩ = some (.int .u64 ps[k].t) ∧ w.cell? ⟨g, k * 3 + 1, none⟩ = some ps[k].v ∧ w.cell? ⟨g, k * 3 + 2, none⟩ = some (.int .i64 ps[k].d) := by
  have h0 := rcs_at ps k hk 0 (by omega)
  have h1 := rcs_at ps k hk 1 (by omega)
  have h2 := rcs_at ps k hk 2 (by omega)
  exact ⟨O.own_cell h h0, O.own_cell h h1, O.own_cell h h2⟩
/-- an entry in the words of the list: where it lies -/
structure Ecell (w : World) (G : Nat → Prop) (g k : Nat) (x : En) (p : Option Addr) (c : Nat) : Prop where
  t : w.cell? ⟨g, k * 3, none⟩ = some (.int .u64 x.t)
  s : w.cell? ⟨g, k * 3 + 1, none⟩ = some (.slice p x.s.length c)
  d : w.cell? ⟨g, k * 3 + 2, none⟩ = some (.int .i64 x.d)
  f : Frm w (.slice p x.s.length c) x.s
  g : ∀ h, blk (.slice p x.s.length c) = some h → G h
theorem RL.cell {g c n : Nat} (h : RL w G R (.slice (some ⟨g, 0, none⟩) n c) a es) (hn : n = es.length) {k : Nat} (hk : k < a.L.length) : ∃ p c', Ecell w G g k a.L[k] p c' := by
  have hk' : k < es.length := by rw [h.len]; exact hk
  subst hn
  obtain ⟨x0, x1, x2⟩ := erow_cell h.row hk'
  have hm := h.mi.get k hk hk'
  have em := hm.m
  refine ⟨es[k].p, es[k].c, ?_, ?_, ?_, ?_, ?_⟩
  · rw [x0, hm.t]
  · rw [x1, Er.v, em]
  · rw [x2, hm.d]
  · have := hm.f; rw [Er.v, em] at this; exact this
  · have := hm.g; rw [Er.v, em] at this; exact this
/-- the list's slice -/
theorem RL.shape (h : RL w G R v a es) : ∃ p c, v = .slice p a.L.length c ∧ a.L.length ≤ c ∧ (0 < a.L.length → ∃ g, p = some ⟨g, 0, none⟩) := by
  obtain ⟨p, c, e, h1, h2⟩ := O.own_form h.row
  rw [h.len] at e h1 h2
  exact ⟨p, c, e, h1, h2⟩
end
end Go.Proofs.Ytkffmglcllhbmaa
