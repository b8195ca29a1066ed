/-
  Layer 13: the document's line: how it lies.
-/
import Derived.Test.YtnbegddpgmejnaaGreatOa
namespace Go.Proofs.YtnbegddpgmejnaaGreat
open Go.RowKit


/-- one that waits, or is in, as the document keeps it -/
structure Who where
  t : Int
  p : Option Addr
  m : Nat
  c : Nat
  l : Int
  b : Bool
abbrev Who.v (x : Who) : Value := .slice x.p x.m x.c
def Who.cs (x : Who) : List Value := [.int .u64 x.t, .slice x.p x.m x.c, .int .i64 x.l, .bool x.b]
def hcells (ps : List Who) : List Value := ps.flatMap Who.cs
theorem hcells_app (ps qs : List Who) : hcells (ps ++ qs) = hcells ps ++ hcells qs := List.flatMap_append
theorem hcells_cons (p : Who) (ps : List Who) : hcells (p :: ps) = p.cs ++ hcells ps := rfl
theorem hcells_one (p : Who) : hcells [p] = p.cs := by simp [hcells]
theorem hcells_len (ps : List Who) : (hcells ps).length = ps.length * 4 := by
  induction ps with
  | nil => rfl
  | cons x xs ih => rw [hcells_cons, List.length_append, ih]; simp only [Who.cs, List.length_cons, List.length_nil]; omega
theorem hcells_at : ∀ (ps : List Who) (k : Nat) (hk : k < ps.length) (j : Nat), j < 4 → (hcells ps)[k * 4 + j]? = (ps[k]).cs[j]?
  | [], k, hk, _, _ => by simp at hk
  | x :: xs, 0, _, j, hj => by rw [hcells_cons, List.getElem?_append_left (by simp [Who.cs]; omega)]; simp
  | x :: xs, k + 1, hk, j, hj => by
    have h := hcells_at xs k (by simpa using hk) j hj
    rw [hcells_cons, List.getElem?_append_right (by simp [Who.cs]; omega)]
    have e : (k + 1) * 4 + j - x.cs.length = k * 4 + j := by simp only [Who.cs, List.length_cons, List.length_nil]; omega
    rw [e, h]
    rfl
theorem hcells_take (ps : List Who) : ∀ k, (hcells ps).take (k * 4) = hcells (ps.take k) := by
  induction ps with
  | nil => intro k; simp [hcells]
  | cons x xs ih =>
    intro k
    cases k with
    | zero => simp [hcells]
    | succ k =>
      have e : (k + 1) * 4 = k * 4 + 4 := by omega
      rw [hcells_cons, List.take_succ_cons, hcells_cons, e]
      simp [Who.cs, ih]
theorem hcells_drop (ps : List Who) : ∀ k, (hcells ps).drop (k * 4) = hcells (ps.drop k) := by
  induction ps with
  | nil => intro k; simp [hcells]
  | cons x xs ih =>
    intro k
    cases k with
    | zero => simp
    | succ k =>
      have e : (k + 1) * 4 = k * 4 + 4 := by omega
      rw [hcells_cons, List.drop_succ_cons, e]
      simp [Who.cs, ih]
theorem hcells_set : ∀ (ps : List Who) (k : Nat) (hk : k < ps.length) (x : Int) (b : Bool), ((hcells ps).set (k * 4 + 2) (.int .i64 x)).set (k * 4 + 3) (.bool b) = hcells (ps.set k { ps[k] with l := x, b := b })
  | [], k, hk, _, _ => by simp at hk
  | p :: qs, 0, _, x, b => by simp [hcells, Who.cs]
  | p :: qs, k + 1, hk, x, b => by
    have ih := hcells_set qs k (by simpa using hk) x b
    have e : (k + 1) * 4 + 2 = (k * 4 + 2) + 4 := by omega
    have e' : (k + 1) * 4 + 3 = (k * 4 + 3) + 4 := by omega
    rw [hcells_cons, e, e']
    simp only [Who.cs, List.cons_append, List.nil_append, List.set_cons_succ, List.getElem_cons_succ, hcells_cons, ← ih]
theorem ones_h (ps : List Who) : ∀ u ∈ hcells ps, u.oneCell' = true := by
  intro u hu
  obtain ⟨p, _, hp⟩ := List.mem_flatMap.1 hu
  simp only [Who.cs, List.mem_cons, List.not_mem_nil, or_false] at hp
  rcases hp with rfl | rfl | rfl | rfl <;> rfl

/-- one beside another: the same ticket, form, and what is left; told, if less is left than all -/
structure Mi (w : World) (G : Nat → Prop) (x : Int × List Int × Int) (y : Who) : Prop where
  t : y.t = x.1
  f : Frm w y.v x.2.1
  g : ∀ g, blk y.v = some g → G g
  l : y.l = x.2.2
  b : y.b = decide (x.2.2 ≠ 0 ∧ x.2.2 < (x.2.1.length : Int) + 1)
def Mis (w : World) (G : Nat → Prop) : List (Int × List Int × Int) → List Who → Prop
  | [], [] => True
  | x :: xs, y :: ys => Mi w G x y ∧ Mis w G xs ys
  | _, _ => False
section
variable {w w' : World} {G : Nat → Prop}
theorem Mi.m {x : Int × List Int × Int} {y : Who} (h : Mi w G x y) : y.m = x.2.1.length := by
  obtain ⟨p, c, e, _⟩ := h.f.read
  simp only [Value.slice.injEq] at e
  exact e.2.1
theorem Mis.len : ∀ {xs ys}, Mis w G xs ys → ys.length = xs.length
  | [], [], _ => rfl
  | _ :: _, _ :: _, h => by simp [Mis.len h.2]
  | [], _ :: _, h => h.elim
  | _ :: _, [], h => h.elim
theorem Mis.get : ∀ {xs ys}, Mis w G xs ys → ∀ (k : Nat) (h1 : k < xs.length) (h2 : k < ys.length), Mi w G xs[k] ys[k]
  | _ :: _, _ :: _, h, 0, _, _ => h.1
  | _ :: _, _ :: _, h, k + 1, h1, h2 => Mis.get h.2 k (by simpa using h1) (by simpa using h2)
theorem Mis.app : ∀ {xs ys}, Mis w G xs ys → ∀ {x y}, Mi w G x y → Mis w G (xs ++ [x]) (ys ++ [y])
  | [], [], _, _, _, h => ⟨h, trivial⟩
  | _ :: _, _ :: _, h, _, _, h' => ⟨h.1, Mis.app h.2 h'⟩
  | [], _ :: _, h, _, _, _ => h.elim
  | _ :: _, [], h, _, _, _ => h.elim
theorem Mis.map {w' : World} {G' : Nat → Prop} (hf : ∀ x y, Mi w G x y → Mi w' G' x y) : ∀ {xs ys}, Mis w G xs ys → Mis w' G' xs ys
  | [], [], _ => trivial
  | _ :: _, _ :: _, h => ⟨hf _ _ h.1, Mis.map hf h.2⟩
  | [], _ :: _, h => h.elim
  | _ :: _, [], h => h.elim
theorem Mis.cut : ∀ {xs ys}, Mis w G xs ys → ∀ k, Mis w G (xs.take k ++ xs.drop (k + 1)) (ys.take k ++ ys.drop (k + 1))
  | [], [], _, _ => by simp [Mis]
  | _ :: _, _ :: _, h, 0 => by simpa using h.2
  | _ :: _, _ :: _, h, k + 1 => ⟨h.1, Mis.cut h.2 k⟩
  | [], _ :: _, h, _ => h.elim
  | _ :: _, [], h, _ => h.elim
theorem Mis.set : ∀ {xs ys}, Mis w G xs ys → ∀ (k : Nat) {x y}, Mi w G x y → Mis w G (xs.set k x) (ys.set k y)
  | [], [], _, _, _, _, _ => by simp [Mis]
  | _ :: _, _ :: _, h, 0, _, _, h' => ⟨h', h.2⟩
  | _ :: _, _ :: _, h, k + 1, _, _, h' => ⟨h.1, Mis.set h.2 k h'⟩
  | [], _ :: _, h, _, _, _, _ => h.elim
  | _ :: _, [], h, _, _, _, _ => h.elim
end
def wl (W : List (Int × List Int)) : List (Int × List Int × Int) := W.map fun x => (x.1, x.2, 0)
theorem cutI_pos (t : Int) : ∀ I : List (Int × List Int × Int), cutI t I = I.take (L.pos t (lefts I)) ++ I.drop (L.pos t (lefts I) + 1)
  | [] => rfl
  | x :: xs => by
    by_cases e : x.1 = t
    · simp [cutI, L.pos, lefts, e]
    · have := cutI_pos t xs
      simp only [lefts] at this
      simp [cutI, L.pos, lefts, e, this]
theorem decI_pos {t : Int} : ∀ {I : List (Int × List Int × Int)} {f : List Int} {n : Int}, fi t I = some (f, n) → decI t I = I.set (L.pos t (lefts I)) (t, f, n - 1)
  | [], _, _, h => by simp [fi] at h
  | x :: xs, f, n, h => by
    by_cases e : x.1 = t
    · simp only [fi, if_pos e, Option.some.injEq] at h
      simp [decI, L.pos, lefts, e, h]
    · simp only [fi, if_neg e] at h
      have := decI_pos h
      simp only [lefts] at this
      simp [decI, L.pos, lefts, e, this]
theorem fi_pos {t : Int} : ∀ {I : List (Int × List Int × Int)} {f : List Int} {n : Int}, fi t I = some (f, n) → ∃ h : L.pos t (lefts I) < I.length, I[L.pos t (lefts I)] = (t, f, n)
  | [], _, _, h => by simp [fi] at h
  | x :: xs, f, n, h => by
    by_cases e : x.1 = t
    · simp only [fi, if_pos e, Option.some.injEq] at h
      refine ⟨by simp [L.pos, lefts, e], ?_⟩
      simp [L.pos, lefts, e]
      rw [← e, ← h]
    · simp only [fi, if_neg e] at h
      obtain ⟨h1, h2⟩ := fi_pos h
      simp only [lefts] at h1 h2
      have ep : L.pos t (lefts (x :: xs)) = L.pos t (xs.map fun x => (x.1, x.2.2)) + 1 := by simp [L.pos, lefts, e]
      refine ⟨by rw [ep]; simpa using h1, ?_⟩
      simp only [ep, List.getElem_cons_succ]
      exact h2
theorem lefts_len (I : List (Int × List Int × Int)) : (lefts I).length = I.length := by simp [lefts]

/-- how the document's line lies: its rows and forms in memory that is never written again -/
abbrev rcells (a : Ad) (vW vI : Value) : Array Value := #[.int .i64 a.bl, .int .i64 a.lc, .int .i64 a.mr, .int .i64 a.hi, .int .i64 a.cl, .int .u64 a.next, vW, vI, .int .i64 a.used]
/-- one of its rows: in memory that is never written again -/
structure RR (w : World) (G : Nat → Prop) (v : Value) (xs : List (Int × List Int × Int)) (ps : List Who) : Prop where
  row : w.ownsRow 0 84 4 v ps.length (hcells ps)
  mi : Mis w G xs ps
  g : ∀ g, v.ownBlock = some g → G g
structure RL (w : World) (G : Nat → Prop) (R : Nat) (vW vI : Value) (a : Ad) (ws is : List Who) : Prop where
  st : w.heap[R]? = some (.cells (rcells a vW vI) 71 (0, 0))
  W : RR w G vW (wl a.W) ws
  I : RR w G vI a.I is
section
variable {w w' : World} {G G' : Nat → Prop} {R : Nat} {v vW vI : Value} {a : Ad} {ws is ps : List Who} {xs : List (Int × List Int × Int)}
theorem RL.wr (h : RL w G R vW vI a ws is) : w.ownsRow 0 84 4 vW ws.length (hcells ws) := h.W.row
theorem RL.ir (h : RL w G R vW vI a ws is) : w.ownsRow 0 84 4 vI is.length (hcells is) := h.I.row
theorem RL.wm (h : RL w G R vW vI a ws is) : Mis w G (wl a.W) ws := h.W.mi
theorem RL.im (h : RL w G R vW vI a ws is) : Mis w G a.I is := h.I.mi
theorem RL.lt (h : RL w G R vW vI a ws is) : R < w.heap.size := (Array.getElem?_eq_some_iff.1 h.st).1
theorem Frm.keeps {v : Value} {f : List Int} (h : Frm w v f) (hk : ∀ g, blk v = some g → w'.heap[g]? = w.heap[g]?) : Frm w' v f := own_keeps h fun g hg => hk g (by rw [blk_own]; exact hg)
theorem Frm.lt {v : Value} {f : List Int} (h : Frm w v f) {g : Nat} (hg : blk v = some g) : g < w.heap.size := by rw [blk_own] at hg; exact (World.ownsRow.lt h g hg).2
theorem Mi.kept {x : Int × List Int × Int} {y : Who} (m : Mi w G x y) (hG : ∀ g, G g → g < w.heap.size → w'.heap[g]? = w.heap[g]?) (hGG : ∀ g, G g → G' g) : Mi w' G' x y :=
  ⟨m.t, m.f.keeps fun g hg => hG g (m.g g hg) (m.f.lt hg), fun g hg => hGG g (m.g g hg), m.l, m.b⟩
theorem RR.kept (h : RR w G v xs ps) (hG : ∀ g, G g → g < w.heap.size → w'.heap[g]? = w.heap[g]?) (hGG : ∀ g, G g → G' g) : RR w' G' v xs ps :=
  ⟨own_keeps h.row fun g hg => hG g (h.g g hg) (h.row.lt g hg).2, h.mi.map fun _ _ m => m.kept hG hGG, fun g hg => hGG g (h.g g hg)⟩
/-- blocks that are never written again lie as they lay -/
theorem RL.kept (h : RL w G R vW vI a ws is) (hR : w'.heap[R]? = w.heap[R]?) (hG : ∀ g, G g → g < w.heap.size → w'.heap[g]? = w.heap[g]?) (hGG : ∀ g, G g → G' g) : RL w' G' R vW vI a ws is := ⟨hR.trans h.st, h.W.kept hG hGG, h.I.kept hG hGG⟩
theorem RL.later (h : RL w G R vW vI a ws is) (hb : Below w.heap.size w w') : RL w' G R vW vI a ws is := h.kept (hb.block R h.lt) (fun g _ hg => hb.block g hg) (fun _ hg => hg)
theorem RL.drawn (h : RL w G R vW vI a ws is) (m : Nat) : RL (w.drewN m) G R vW vI a ws is := h.later (below_drawn m)
theorem RL.c (h : RL w G R vW vI a ws is) (o : Nat) : w.cell? ⟨R, o, none⟩ = (rcells a vW vI)[o]? := cell_of_row _ R o _ 71 (0, 0) h.st
theorem RL.free (h : RL w G R vW vI a ws is) (o : Nat) : w.frozen? ⟨R, o, none⟩ = false := by simp [World.frozen?, h.st]
/-- what is never written again, with all that has been made since -/
def Gp (w w' : World) (G : Nat → Prop) (g : Nat) : Prop := G g ∨ (w.heap.size ≤ g ∧ g < w'.heap.size)
theorem Mis.turn (h : Mis w G xs ps) (hR : ¬ G R) (hk : Kept (· = R) w w') : Mis w' (Gp w w' G) xs ps := h.map fun _ _ m => m.kept (fun g hg hl => hk.block g hl fun e => hR (e ▸ hg)) fun _ hg => .inl hg
theorem RR.turn (h : RR w G v xs ps) (hR : ¬ G R) (hk : Kept (· = R) w w') : RR w' (Gp w w' G) v xs ps := h.kept (fun g hg hl => hk.block g hl fun e => hR (e ▸ hg)) fun _ hg => .inl hg
theorem RR.fresh (ho : w'.ownsRow 0 84 4 v ps.length (hcells ps)) (hm : Mis w' (Gp w w' G) xs ps) (hv : ∀ g, v.ownBlock = some g → w.heap.size ≤ g) : RR w' (Gp w w' G) v xs ps := ⟨ho, hm, fun g hg => .inr ⟨hv g hg, (ho.lt g hg).2⟩⟩
/-- the document's line behind a call -/
structure RAf (w w' : World) (G : Nat → Prop) (R : Nat) (a' : Ad) : Prop where
  rl : ∃ vW vI ws is, RL w' (Gp w w' G) R vW vI a' ws is
  kept : Kept (· = R) w w'
theorem RAf.same (h : RL w G R vW vI a ws is) (hb : Below w.heap.size w w') : RAf w w' G R a := ⟨⟨vW, vI, ws, is, h.kept (hb.block R h.lt) (fun g _ hg => hb.block g hg) (fun _ hg => .inl hg)⟩, Kept.of_below _ hb⟩
theorem hrow_cell {g c n : Nat} {ps : List Who} (h : w.ownsRow 0 84 4 (.slice (some ⟨g, 0, none⟩) n c) n (hcells ps)) {k : Nat} (hk : k < ps.length) : w.cell? ⟨g, k * 4, none⟩ = some (.int .u64 ps[k].t) ∧ w.cell? ⟨g, k * 4 + 1, none⟩ = some ps[k].v ∧ w.cell? ⟨g, k * 4 + 2, none⟩ = some (.int .i64 ps[k].l) ∧ w.cell? ⟨g, k * 4 + 3, none⟩ = some (.bool ps[k].b) := by
  have h0 := hcells_at ps k hk 0 (by omega)
  have h1 := hcells_at ps k hk 1 (by omega)
  have h2 := hcells_at ps k hk 2 (by omega)
  have h3 := hcells_at ps k hk 3 (by omega)
  exact ⟨own_cell h h0, own_cell h h1, own_cell h h2, own_cell h h3⟩
theorem RL.wlen (h : RL w G R vW vI a ws is) : ws.length = a.W.length := by rw [h.wm.len]; simp [wl]
theorem RL.ilen (h : RL w G R vW vI a ws is) : is.length = a.I.length := h.im.len
theorem RL.left (h : RL w G R vW vI a ws is) {k : Nat} (hk : k < is.length) : ∃ hk' : k < (lefts a.I).length, (lefts a.I)[k] = (is[k].t, is[k].l) := by
  have h1 : k < a.I.length := by rw [← h.ilen]; exact hk
  have hm := h.im.get k h1 hk
  exact ⟨by rw [lefts_len]; exact h1, by simp only [lefts, List.getElem_map]; rw [← hm.t, ← hm.l]⟩
end
end Go.Proofs.YtnbegddpgmejnaaGreat
