/-
  Layer 4: the pair of disks on both sides: what holds of it between two steps.
-/
import Derived.Test.YtlidjenkicgldaaTc
namespace Go.Proofs.Ytlidjenkicgldaa
open Go.RowKit

/-- bytes that were told, in a block of role 0 -/
def TIn (w : World) (R : Nat → Nat) (v : Value) (b : List Int) : Prop := w.ownsRow 0 5 1 v b.length (U8 b) ∧ Bytes b ∧ ∀ k, v.ownBlock = some k → R k = 0

theorem own_lt {w : World} {base e size : Nat} {v : Value} {n : Nat} {xs : List Value} (h : w.ownsRow base e size v n xs) {k : Nat} (hk : v.ownBlock = some k) : k < w.heap.size := by
  obtain ⟨_, hb⟩ := own_ownBlk h hk; exact hb.lt

theorem TIn.move {w w' : World} {R R' : Nat → Nat} {v : Value} {b : List Int} (h : TIn w R v b) (hR : ∀ k, k < w.heap.size → R' k = R k) (hs : ∀ k, k < w.heap.size → R k = 0 → w'.heap[k]? = w.heap[k]?) : TIn w' R' v b :=
  ⟨own_same h.1 (fun k hk => hs k (own_lt h.1 hk) (h.2.2 k hk)), h.2.1, fun k hk => (hR k (own_lt h.1 hk)).trans (h.2.2 k hk)⟩

/-- what has been told so far: m lists, and the same again -/
structure TD (w : World) (R : Nat → Nat) (P m : Nat) (tv wv : Value) (tl wl : List Value) : Prop where
  c4 : w.cell? ⟨P, 4, none⟩ = some tv
  c5 : w.cell? ⟨P, 5, none⟩ = some wv
  told : w.ownsRow 0 23 1 tv m tl
  want : w.ownsRow 0 23 1 wv m wl
  rt : ∀ k, tv.ownBlock = some k → R k = 6
  rw : ∀ k, wv.ownBlock = some k → R k = 7
  each : ∀ i (h : i < tl.length) (h2 : i < wl.length), ∃ b, TIn w R tl[i] b ∧ TIn w R wl[i] b

theorem cell_same {w w' : World} {g o : Nat} (e : w'.heap[g]? = w.heap[g]?) : w'.cell? ⟨g, o, none⟩ = w.cell? ⟨g, o, none⟩ := World.cell?_of_block (w := w) (a := ⟨g, o, none⟩) e

theorem TD.move {w w' : World} {R R' : Nat → Nat} {P m : Nat} {tv wv : Value} {tl wl : List Value} (h : TD w R P m tv wv tl wl) (hR : ∀ k, k < w.heap.size → R' k = R k)
    (hs : ∀ k, k < w.heap.size → (R k = 0 ∨ R k = 6 ∨ R k = 7) → w'.heap[k]? = w.heap[k]?) (h4 : w'.cell? ⟨P, 4, none⟩ = w.cell? ⟨P, 4, none⟩) (h5 : w'.cell? ⟨P, 5, none⟩ = w.cell? ⟨P, 5, none⟩) : TD w' R' P m tv wv tl wl :=
  ⟨h4.trans h.c4, h5.trans h.c5, own_same h.told (fun k hk => hs k (own_lt h.told hk) (.inr (.inl (h.rt k hk)))), own_same h.want (fun k hk => hs k (own_lt h.want hk) (.inr (.inr (h.rw k hk)))),
   fun k hk => (hR k (own_lt h.told hk)).trans (h.rt k hk), fun k hk => (hR k (own_lt h.want hk)).trans (h.rw k hk),
   fun i h1 h2 => by
     obtain ⟨b, a1, a2⟩ := h.each i h1 h2
     exact ⟨b, a1.move hR (fun k hk h0 => hs k hk (.inl h0)), a2.move hR (fun k hk h0 => hs k hk (.inl h0))⟩⟩

/-- **the pair**: its block P; R: what each block is for (1 + i: the program's disk i; 3 + i: the document's; 5: the pair; 6, 7: the lists of what has been told; 0: bytes that stay) -/
structure Pr (w : World) (R : Nat → Nat) (B P : Nat) (x y : Nat → Nat) (n : Nat) (e : Nat → List Int) (u : Nat → List Wr) (f : Nat → List Int) (g : Nat → List Wr) (m : Nat) : Prop where
  blk : Blk w P 58 6
  rp : R P = 5
  cx : ∀ i, i < 2 → w.cell? ⟨P, i, none⟩ = some (.pointer (some ⟨x i, 0, none⟩))
  cy : ∀ i, i < 2 → w.cell? ⟨P, 2 + i, none⟩ = some (.pointer (some ⟨y i, 0, none⟩))
  dsk : ∀ i, i < 2 → Dsk w (fun k => R k = 1 + i) (x i) n (e i) (u i)
  ref : ∀ i, i < 2 → Ref w (fun k => R k = 3 + i) (y i) n (f i) (g i)
  tld : ∃ tv wv tl wl, TD w R P m tv wv tl wl
  hi : ∀ k, w.heap.size ≤ k → R k = 0
  lo : ∀ k, k < B → R k = 0

theorem Dsk.same {w w' : World} {S T : Nat → Prop} {p n : Nat} {d : List Int} {ws : List Wr} (h : Dsk w S p n d ws) (hs : ∀ k, k < w.heap.size → S k → T k) (e : ∀ k, k < w.heap.size → S k → w'.heap[k]? = w.heap[k]?) : Dsk w' T p n d ws := by
  obtain ⟨q, cap, v, h⟩ := h; exact ⟨q, cap, v, h.same hs e⟩
theorem Ref.same {w w' : World} {S T : Nat → Prop} {p n : Nat} {d : List Int} {ws : List Wr} (h : Ref w S p n d ws) (hs : ∀ k, k < w.heap.size → S k → T k) (e : ∀ k, k < w.heap.size → S k → w'.heap[k]? = w.heap[k]?) : Ref w' T p n d ws := by
  obtain ⟨g, L, cap, v, vs, h⟩ := h; exact ⟨g, L, cap, v, vs, h.same hs e⟩

/-- what a call that turns nothing leaves -/
theorem Pr.later {w w' : World} {R : Nat → Nat} {B P : Nat} {x y : Nat → Nat} {n : Nat} {e : Nat → List Int} {u : Nat → List Wr} {f : Nat → List Int} {g : Nat → List Wr} {m : Nat} (h : Pr w R B P x y n e u f g m) (hb : Below w.heap.size w w') : Pr w' R B P x y n e u f g m := by
  have hP := hb.block P h.blk.lt
  refine ⟨h.blk.same hP, h.rp, fun i hi => (cell_same hP).trans (h.cx i hi), fun i hi => (cell_same hP).trans (h.cy i hi), fun i hi => (h.dsk i hi).later hb, fun i hi => (h.ref i hi).later hb, ?_, fun k hk => h.hi k (Nat.le_trans hb.size hk), h.lo⟩
  obtain ⟨tv, wv, tl, wl, ht⟩ := h.tld
  exact ⟨tv, wv, tl, wl, ht.move (fun _ _ => rfl) (fun k hk _ => hb.block k hk) (cell_same hP) (cell_same hP)⟩

/-- the roles, with those of the new blocks X -/
def up (R : Nat → Nat) (a b X : Nat) : Nat → Nat := fun k => if a ≤ k then (if k < b then X else 0) else R k
theorem up_lo {R : Nat → Nat} {a b X k : Nat} (h : k < a) : up R a b X k = R k := by unfold up; rw [if_neg (by omega)]
theorem up_mid {R : Nat → Nat} {a b X k : Nat} (h : a ≤ k) (h2 : k < b) : up R a b X k = X := by unfold up; rw [if_pos h, if_pos h2]
theorem up_hi {R : Nat → Nat} {a b X k : Nat} (h : a ≤ k) (h2 : b ≤ k) : up R a b X k = 0 := by unfold up; rw [if_pos h, if_neg (by omega)]

def at2 {α : Type} (e : Nat → α) (i : Nat) (E : α) : Nat → α := fun j => if j = i then E else e j
theorem at2_same {α : Type} (e : Nat → α) (i : Nat) (E : α) : at2 e i E i = E := by simp [at2]
theorem at2_other {α : Type} (e : Nat → α) (i j : Nat) (E : α) (h : j ≠ i) : at2 e i E j = e j := by simp [at2, h]

/-- the program's disk i is turned -/
theorem Pr.setD {w w' : World} {R : Nat → Nat} {B P : Nat} {x y : Nat → Nat} {n : Nat} {e : Nat → List Int} {u : Nat → List Wr} {f : Nat → List Int} {g : Nat → List Wr} {m : Nat} (h : Pr w R B P x y n e u f g m) {i : Nat} (hi : i < 2) {E : List Int} {U : List Wr}
    (hk : Kept (fun k => R k = 1 + i) w w') (hd : Dsk w' (More (fun k => R k = 1 + i) w) (x i) n E U) (hB : B ≤ w.heap.size) :
    Pr w' (up R w.heap.size w'.heap.size (1 + i)) B P x y n (at2 e i E) (at2 u i U) f g m := by
  have hsz := hk.size
  have hs : ∀ k, k < w.heap.size → R k ≠ 1 + i → w'.heap[k]? = w.heap[k]? := fun k h1 h2 => hk.block k h1 h2
  have hP := hs P h.blk.lt (by rw [h.rp]; omega)
  refine ⟨h.blk.same hP, (up_lo h.blk.lt).trans h.rp, fun j hj => (cell_same hP).trans (h.cx j hj), fun j hj => (cell_same hP).trans (h.cy j hj), fun j hj => ?_, fun j hj => ?_, ?_, fun k h1 => up_hi (by omega) h1, fun k h1 => (up_lo (by omega)).trans (h.lo k h1)⟩
  · by_cases c : j = i
    · subst c
      rw [at2_same, at2_same]
      refine hd.mono (fun k h1 h2 => ?_)
      by_cases h3 : w.heap.size ≤ k
      · exact up_mid h3 h1
      · exact (up_lo (by omega)).trans (h2.elim id (fun h2 => by omega))
    · rw [at2_other _ _ _ _ c, at2_other _ _ _ _ c]
      exact (h.dsk j hj).same (fun k h1 h2 => (up_lo h1).trans h2) (fun k h1 h2 => hs k h1 (by rw [h2]; omega))
  · exact (h.ref j hj).same (fun k h1 h2 => (up_lo h1).trans h2) (fun k h1 h2 => hs k h1 (by rw [h2]; omega))
  · obtain ⟨tv, wv, tl, wl, ht⟩ := h.tld
    exact ⟨tv, wv, tl, wl, ht.move (fun k h1 => up_lo h1) (fun k h1 h2 => hs k h1 (by omega)) (cell_same hP) (cell_same hP)⟩

/-- the document's disk i is turned -/
theorem Pr.setR {w w' : World} {R : Nat → Nat} {B P : Nat} {x y : Nat → Nat} {n : Nat} {e : Nat → List Int} {u : Nat → List Wr} {f : Nat → List Int} {g : Nat → List Wr} {m : Nat} (h : Pr w R B P x y n e u f g m) {i : Nat} (hi : i < 2) {E : List Int} {U : List Wr}
    (hk : Kept (fun k => R k = 3 + i) w w') (hd : Ref w' (More (fun k => R k = 3 + i) w) (y i) n E U) (hB : B ≤ w.heap.size) :
    Pr w' (up R w.heap.size w'.heap.size (3 + i)) B P x y n e u (at2 f i E) (at2 g i U) m := by
  have hsz := hk.size
  have hs : ∀ k, k < w.heap.size → R k ≠ 3 + i → w'.heap[k]? = w.heap[k]? := fun k h1 h2 => hk.block k h1 h2
  have hP := hs P h.blk.lt (by rw [h.rp]; omega)
  refine ⟨h.blk.same hP, (up_lo h.blk.lt).trans h.rp, fun j hj => (cell_same hP).trans (h.cx j hj), fun j hj => (cell_same hP).trans (h.cy j hj), fun j hj => ?_, fun j hj => ?_, ?_, fun k h1 => up_hi (by omega) h1, fun k h1 => (up_lo (by omega)).trans (h.lo k h1)⟩
  · exact (h.dsk j hj).same (fun k h1 h2 => (up_lo h1).trans h2) (fun k h1 h2 => hs k h1 (by rw [h2]; omega))
  · by_cases c : j = i
    · subst c
      rw [at2_same, at2_same]
      refine hd.mono (fun k h1 h2 => ?_)
      by_cases h3 : w.heap.size ≤ k
      · exact up_mid h3 h1
      · exact (up_lo (by omega)).trans (h2.elim id (fun h2 => by omega))
    · rw [at2_other _ _ _ _ c, at2_other _ _ _ _ c]
      exact (h.ref j hj).same (fun k h1 h2 => (up_lo h1).trans h2) (fun k h1 h2 => hs k h1 (by rw [h2]; omega))
  · obtain ⟨tv, wv, tl, wl, ht⟩ := h.tld
    exact ⟨tv, wv, tl, wl, ht.move (fun k h1 => up_lo h1) (fun k h1 h2 => hs k h1 (by omega)) (cell_same hP) (cell_same hP)⟩

/-- the roles, with two new disks -/
def up2 (R : Nat → Nat) (a b : Nat) (S1 S2 : Nat → Prop) [DecidablePred S1] [DecidablePred S2] (X Y : Nat) : Nat → Nat := fun k => if k < a then R k else if b ≤ k then 0 else if S1 k then X else if S2 k then Y else 0

open Classical in
/-- both disks j are put in place of others -/
theorem Pr.swap {w w2 w3 : World} {R : Nat → Nat} {B P : Nat} {x y : Nat → Nat} {n : Nat} {e : Nat → List Int} {u : Nat → List Wr} {f : Nat → List Int} {g : Nat → List Wr} {m : Nat} (h : Pr w R B P x y n e u f g m) {j : Nat} (hj : j < 2) {E : List Int} {U : List Wr} {p q : Nat} {S1 S2 : Nat → Prop}
    (hb : Below w.heap.size w w2) (hd : Dsk w2 S1 p n E U) (hr : Ref w2 S2 q n E U) (h1 : ∀ k, S1 k → w.heap.size ≤ k) (h2 : ∀ k, S2 k → w.heap.size ≤ k) (h12 : ∀ k, S1 k → S2 k → False)
    (hsz : w3.heap.size = w2.heap.size) (hs : ∀ k, k ≠ P → w3.heap[k]? = w2.heap[k]?) (hblk : Blk w3 P 58 6)
    (hc : ∀ o, o ≠ j → o ≠ 2 + j → w3.cell? ⟨P, o, none⟩ = w2.cell? ⟨P, o, none⟩) (hcx : w3.cell? ⟨P, j, none⟩ = some (.pointer (some ⟨p, 0, none⟩))) (hcy : w3.cell? ⟨P, 2 + j, none⟩ = some (.pointer (some ⟨q, 0, none⟩))) (hB : B ≤ w.heap.size) :
    ∃ R', Pr w3 R' B P (at2 x j p) (at2 y j q) n (at2 e j E) (at2 u j U) (at2 f j E) (at2 g j U) m := by
  have hPl := h.blk.lt
  have hz := hb.size
  have hP2 := hb.block P hPl
  have lo' : ∀ k, k < w.heap.size → up2 R w.heap.size w2.heap.size S1 S2 (1 + j) (3 + j) k = R k := fun k hk => by unfold up2; rw [if_pos hk]
  have hs' : ∀ k, k < w.heap.size → R k ≠ 5 → w3.heap[k]? = w.heap[k]? := fun k hk h5 => (hs k (by rintro rfl; exact h5 h.rp)).trans (hb.block k hk)
  refine ⟨up2 R w.heap.size w2.heap.size S1 S2 (1 + j) (3 + j), hblk, (lo' P hPl).trans h.rp, fun i hi => ?_, fun i hi => ?_, fun i hi => ?_, fun i hi => ?_, ?_, fun k hk => ?_, fun k hk => (lo' k (by omega)).trans (h.lo k hk)⟩
  · by_cases c : i = j
    · subst c; rw [at2_same]; exact hcx
    · rw [at2_other _ _ _ _ c, hc i c (by omega), cell_same hP2]; exact h.cx i hi
  · by_cases c : i = j
    · subst c; rw [at2_same]; exact hcy
    · rw [at2_other _ _ _ _ c, hc (2 + i) (by omega) (by omega), cell_same hP2]; exact h.cy i hi
  · by_cases c : i = j
    · subst c; rw [at2_same, at2_same, at2_same]
      refine hd.same (fun k hk hs1 => ?_) (fun k hk hs1 => hs k (by rintro rfl; have := h1 _ hs1; omega))
      have := h1 k hs1
      unfold up2; rw [if_neg (by omega), if_neg (by omega), if_pos hs1]
    · rw [at2_other _ _ _ _ c, at2_other _ _ _ _ c, at2_other _ _ _ _ c]
      exact (h.dsk i hi).same (fun k hk he => (lo' k hk).trans he) (fun k hk he => hs' k hk (by omega))
  · by_cases c : i = j
    · subst c; rw [at2_same, at2_same, at2_same]
      refine hr.same (fun k hk hs1 => ?_) (fun k hk hs1 => hs k (by rintro rfl; have := h2 _ hs1; omega))
      have := h2 k hs1
      unfold up2; rw [if_neg (by omega), if_neg (by omega), if_neg (fun t => h12 k t hs1), if_pos hs1]
    · rw [at2_other _ _ _ _ c, at2_other _ _ _ _ c, at2_other _ _ _ _ c]
      exact (h.ref i hi).same (fun k hk he => (lo' k hk).trans he) (fun k hk he => hs' k hk (by omega))
  · obtain ⟨tv, wv, tl, wl, ht⟩ := h.tld
    exact ⟨tv, wv, tl, wl, ht.move lo' (fun k hk h0 => hs' k hk (by omega)) ((hc 4 (by omega) (by omega)).trans (cell_same hP2)) ((hc 5 (by omega) (by omega)).trans (cell_same hP2))⟩
  · unfold up2; rw [if_neg (by omega), if_pos (by omega)]

/-- the roles, with two new lists -/
def up3 (R : Nat → Nat) (a : Nat) (tv wv : Value) : Nat → Nat := fun k => if k < a then R k else if tv.ownBlock = some k then 6 else if wv.ownBlock = some k then 7 else 0

/-- more has been told -/
theorem Pr.tell {w w' : World} {R : Nat → Nat} {B P : Nat} {x y : Nat → Nat} {n : Nat} {e : Nat → List Int} {u : Nat → List Wr} {f : Nat → List Int} {g : Nat → List Wr} {m : Nat} (h : Pr w R B P x y n e u f g m) {tv wv tv' wv' v v2 : Value} {tl wl : List Value} {b : List Int}
    (ht : TD w R P m tv wv tl wl) (hv : TIn w R v b) (hk : Kept (fun k => k = P ∨ tv.ownBlock = some k ∨ wv.ownBlock = some k) w w') (hblk : Blk w' P 58 6)
    (hc : ∀ o, o < 4 → w'.cell? ⟨P, o, none⟩ = w.cell? ⟨P, o, none⟩) (h4 : w'.cell? ⟨P, 4, none⟩ = some tv') (h5 : w'.cell? ⟨P, 5, none⟩ = some wv')
    (hto : w'.ownsRow 0 23 1 tv' (m + 1) (tl ++ [v])) (hwo : w'.ownsRow 0 23 1 wv' (m + 1) (wl ++ [v2])) (hv2 : w'.ownsRow w.heap.size 5 1 v2 b.length (U8 b))
    (hto' : ∀ k, tv'.ownBlock = some k → tv.ownBlock = some k ∨ w.heap.size ≤ k) (hwo' : ∀ k, wv'.ownBlock = some k → wv.ownBlock = some k ∨ w.heap.size ≤ k) (hne : ∀ k, tv'.ownBlock = some k → wv'.ownBlock = some k → False) (hB : B ≤ w.heap.size) :
    ∃ R', Pr w' R' B P x y n e u f g (m + 1) := by
  have hsz := hk.size
  have hPl := h.blk.lt
  have lo' : ∀ k, k < w.heap.size → up3 R w.heap.size tv' wv' k = R k := fun k h1 => by unfold up3; rw [if_pos h1]
  have hs : ∀ k, k < w.heap.size → R k ≠ 5 → R k ≠ 6 → R k ≠ 7 → w'.heap[k]? = w.heap[k]? := fun k h1 k5 k6 k7 => hk.block k h1 (fun c => by
    rcases c with c | c | c
    · exact k5 (by rw [c]; exact h.rp)
    · exact k6 (ht.rt k c)
    · exact k7 (ht.rw k c))
  have hlt : tl.length = m := by have := ht.told.1; omega
  have hlw : wl.length = m := by have := ht.want.1; omega
  refine ⟨up3 R w.heap.size tv' wv', hblk, (lo' P hPl).trans h.rp, fun i hi => (hc i (by omega)).trans (h.cx i hi), fun i hi => (hc (2 + i) (by omega)).trans (h.cy i hi), fun i hi => ?_, fun i hi => ?_, ⟨tv', wv', tl ++ [v], wl ++ [v2], h4, h5, hto, hwo, fun k hk' => ?_, fun k hk' => ?_, fun i h1 h2 => ?_⟩, fun k hk' => ?_, fun k hk' => (lo' k (by omega)).trans (h.lo k hk')⟩
  · exact (h.dsk i hi).same (fun k h1 he => (lo' k h1).trans he) (fun k h1 he => hs k h1 (by omega) (by omega) (by omega))
  · exact (h.ref i hi).same (fun k h1 he => (lo' k h1).trans he) (fun k h1 he => hs k h1 (by omega) (by omega) (by omega))
  · by_cases c : k < w.heap.size
    · exact (lo' k c).trans (ht.rt k ((hto' k hk').elim id (fun t => by omega)))
    · unfold up3; rw [if_neg c, if_pos hk']
  · by_cases c : k < w.heap.size
    · exact (lo' k c).trans (ht.rw k ((hwo' k hk').elim id (fun t => by omega)))
    · unfold up3; rw [if_neg c, if_neg (fun t => hne k t hk'), if_pos hk']
  · have mv : ∀ z c, TIn w R z c → TIn w' (up3 R w.heap.size tv' wv') z c := fun z c hz => hz.move lo' (fun k h1 h0 => hs k h1 (by omega) (by omega) (by omega))
    rw [List.length_append, List.length_singleton] at h1 h2
    by_cases c : i < m
    · obtain ⟨b', a1, a2⟩ := ht.each i (by omega) (by omega)
      refine ⟨b', ?_, ?_⟩
      · rw [List.getElem_append_left (by omega)]; exact mv _ _ a1
      · rw [List.getElem_append_left (by omega)]; exact mv _ _ a2
    · obtain rfl : i = m := by omega
      refine ⟨b, ?_, ?_⟩
      · rw [List.getElem_append_right (by omega)]; simpa [hlt] using mv _ _ hv
      · rw [List.getElem_append_right (by omega)]
        refine ⟨by simpa [hlw] using own_mono hv2 (Nat.zero_le _), hv.2.1, fun k hk' => ?_⟩
        replace hk' : v2.ownBlock = some k := by simpa [hlw] using hk'
        have hge := (hv2.lt k hk').1
        obtain ⟨_, hbk⟩ := own_ownBlk hv2 hk'
        unfold up3
        rw [if_neg (by omega), if_neg (fun t => by obtain ⟨_, hb'⟩ := own_ownBlk hto t; exact hb'.ne hbk (by decide) rfl), if_neg (fun t => by obtain ⟨_, hb'⟩ := own_ownBlk hwo t; exact hb'.ne hbk (by decide) rfl)]
  · have e1 : tv'.ownBlock ≠ some k := fun t => by have := own_lt hto t; omega
    have e2 : wv'.ownBlock ≠ some k := fun t => by have := own_lt hwo t; omega
    unfold up3; rw [if_neg (by omega), if_neg e1, if_neg e2]

/-- between two steps: both sides say the same -/
def St (w : World) (B P n K : Nat) : Prop := ∃ R x y e u m, Pr w R B P x y n e u e u m ∧ (∀ i, i < 2 → (u i).length ≤ K) ∧ m ≤ K ∧ B ≤ w.heap.size

end Go.Proofs.Ytlidjenkicgldaa
