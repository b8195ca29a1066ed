/-
  The desk, with nothing said of what the lists that were told hold: for the steps behind their overwriting.
-/
import Derived.Test.YtpenddnmmfpdjaaDoorXi
namespace Go.Proofs.YtpenddnmmfpdjaaDoor
namespace Z
open Go.RowKit
/-- nothing is said of what the lists hold -/
structure Pair (w : World) (R : Nat → Nat) (i : Nat) (u v : Value) : Prop where
  none : True
theorem Pair.move {w w' : World} {R R' : Nat → Nat} {i : Nat} {u v : Value} (_h : Pair w R i u v) (_hR : ∀ k, k < w.heap.size → R' k = R k) (_hs : ∀ k, k < w.heap.size → (R k = 6 ∨ R k = 10 + i) → w'.heap[k]? = w.heap[k]?) : Pair w' R' i u v := ⟨trivial⟩
theorem Pair.move2 {w w' : World} {R R' : Nat → Nat} {i : Nat} {u v : Value} (_h : Pair w R i u v) (_hR : ∀ k, k < w.heap.size → (R k = 6 ∨ R k = 10 + i) → R' k = R k) (_hs : ∀ k, k < w.heap.size → (R k = 6 ∨ R k = 10 + i) → w'.heap[k]? = w.heap[k]?) : Pair w' R' i u v := ⟨trivial⟩
/-- what has been told so far: m lists, and the same again -/
structure TD (w : World) (R : Nat → Nat) (m : Nat) (vt vw : Value) (tl wl : List Value) : Prop where
  told : w.ownsRow 0 41 1 vt m tl
  want : w.ownsRow 0 41 1 vw m wl
  rt : ∀ k, vt.ownBlock = some k → R k = 4
  rw : ∀ k, vw.ownBlock = some k → R k = 5
  each : ∀ i (h : i < tl.length) (h2 : i < wl.length), Pair w R i tl[i] wl[i]
theorem TD.move {w w' : World} {R R' : Nat → Nat} {m : Nat} {vt vw : Value} {tl wl : List Value} (h : TD w R m vt vw tl wl) (hR : ∀ k, k < w.heap.size → R' k = R k)
    (hs : ∀ k, k < w.heap.size → 4 ≤ R k → w'.heap[k]? = w.heap[k]?) : TD w' R' m vt vw tl wl :=
  ⟨own_same h.told (fun k hk => hs k (own_lt h.told hk) (by rw [h.rt k hk]; omega)), own_same h.want (fun k hk => hs k (own_lt h.want hk) (by rw [h.rw k hk]; omega)),
   fun k hk => (hR k (own_lt h.told hk)).trans (h.rt k hk), fun k hk => (hR k (own_lt h.want hk)).trans (h.rw k hk),
   fun i h1 h2 => (h.each i h1 h2).move hR (fun k hk hr => hs k hk (by omega))⟩

/-- **the desk**: its block g; R: what each block is for (1: the program's disk; 2: the document's; 3: the desk; 4, 5: the lists of what has been told; 6: the lists that are wanted; 10 + i: list i that was told; 0: the rest) -/
structure Dk (w : World) (R : Nat → Nat) (B g p r n : Nat) (s : Sup) (d : List Int) (ws : List Wr) (e : List Int) (us : List Wr) (m : Nat) : Prop where
  tab : Tab w
  b1 : 1 < B
  desk : ∃ vt vw tl wl, KAt w g p r s vt vw ∧ TD w R m vt vw tl wl
  rg : R g = 3
  dsk : Dsk w (fun k => R k = 1) p n d ws
  ref : Ref w (fun k => R k = 2) r n e us
  hi : ∀ k, w.heap.size ≤ k → R k = 0
  lo : ∀ k, k < B → R k = 0
theorem Dk.later {w w' : World} {R : Nat → Nat} {B g p r n : Nat} {s : Sup} {d : List Int} {ws : List Wr} {e : List Int} {us : List Wr} {m : Nat} (h : Dk w R B g p r n s d ws e us m) (hb : Below w.heap.size w w') : Dk w' R B g p r n s d ws e us m := by
  obtain ⟨vt, vw, tl, wl, hk, ht⟩ := h.desk
  exact ⟨h.tab.later hb, h.b1, ⟨vt, vw, tl, wl, LAt.later hk hb, ht.move (fun _ _ => rfl) (fun k hk _ => hb.block k hk)⟩, h.rg, h.dsk.later hb, h.ref.later hb, fun k hk => h.hi k (Nat.le_trans hb.size hk), h.lo⟩

/-- the program's disk is turned -/
theorem Dk.setD {w w' : World} {R : Nat → Nat} {B g p r n : Nat} {s : Sup} {d d' : List Int} {ws ws' : List Wr} {e : List Int} {us : List Wr} {m : Nat} (h : Dk w R B g p r n s d ws e us m)
    (hk : Kept (fun k => R k = 1) w w') (hd : Dsk w' (More (fun k => R k = 1) w) p n d' ws') (hB : B ≤ w.heap.size) : Dk w' (up R w.heap.size w'.heap.size 1) B g p r n s d' ws' e us m ∧ Below B w w' := by
  have hsz := hk.size
  have hs : ∀ k, k < w.heap.size → R k ≠ 1 → w'.heap[k]? = w.heap[k]? := fun k h1 h2 => hk.block k h1 h2
  obtain ⟨vt, vw, tl, wl, hK, ht⟩ := h.desk
  have hg := LAt.lt hK
  have b1 := h.b1
  refine ⟨⟨h.tab.kept (hs 0 (by omega) (by rw [h.lo 0 (by omega)]; omega)) (hs 1 (by omega) (by rw [h.lo 1 (by omega)]; omega)), h.b1,
    ⟨vt, vw, tl, wl, (hs g hg (by rw [h.rg]; omega)).trans hK, ht.move (fun k h1 => up_lo h1) (fun k h1 h2 => hs k h1 (by omega))⟩, (up_lo hg).trans h.rg, ?_, ?_, fun k h1 => up_hi (by omega) h1, fun k h1 => (up_lo (by omega)).trans (h.lo k h1)⟩, hk.below hB (fun k hs => Nat.le_of_not_lt fun c => by have := h.lo k c; omega)⟩
  · refine hd.mono (fun k h1 h2 => ?_)
    by_cases h3 : w.heap.size ≤ k
    · exact up_mid h3 h1
    · exact (up_lo (by omega)).trans (h2.elim id (fun h2 => by omega))
  · exact h.ref.same (fun k h1 h2 => (up_lo h1).trans h2) (fun k h1 h2 => hs k h1 (by rw [h2]; omega))
/-- the document's disk is turned -/
theorem Dk.setR {w w' : World} {R : Nat → Nat} {B g p r n : Nat} {s : Sup} {d : List Int} {ws : List Wr} {e e' : List Int} {us us' : List Wr} {m : Nat} (h : Dk w R B g p r n s d ws e us m)
    (hk : Kept (fun k => R k = 2) w w') (hd : Ref w' (More (fun k => R k = 2) w) r n e' us') (hB : B ≤ w.heap.size) : Dk w' (up R w.heap.size w'.heap.size 2) B g p r n s d ws e' us' m ∧ Below B w w' := by
  have hsz := hk.size
  have hs : ∀ k, k < w.heap.size → R k ≠ 2 → w'.heap[k]? = w.heap[k]? := fun k h1 h2 => hk.block k h1 h2
  obtain ⟨vt, vw, tl, wl, hK, ht⟩ := h.desk
  have hg := LAt.lt hK
  have b1 := h.b1
  refine ⟨⟨h.tab.kept (hs 0 (by omega) (by rw [h.lo 0 (by omega)]; omega)) (hs 1 (by omega) (by rw [h.lo 1 (by omega)]; omega)), h.b1,
    ⟨vt, vw, tl, wl, (hs g hg (by rw [h.rg]; omega)).trans hK, ht.move (fun k h1 => up_lo h1) (fun k h1 h2 => hs k h1 (by omega))⟩, (up_lo hg).trans h.rg, ?_, ?_, fun k h1 => up_hi (by omega) h1, fun k h1 => (up_lo (by omega)).trans (h.lo k h1)⟩, hk.below hB (fun k hs => Nat.le_of_not_lt fun c => by have := h.lo k c; omega)⟩
  · exact h.dsk.same (fun k h1 h2 => (up_lo h1).trans h2) (fun k h1 h2 => hs k h1 (by rw [h2]; omega))
  · refine hd.mono (fun k h1 h2 => ?_)
    by_cases h3 : w.heap.size ≤ k
    · exact up_mid h3 h1
    · exact (up_lo (by omega)).trans (h2.elim id (fun h2 => by omega))

/-- between two steps: both disks the same; at most K writes wait, at most 2 K lists were told -/
def St (w : World) (B g p r n : Nat) (s : Sup) (K : Nat) : Prop := ∃ R d ws m, Dk w R B g p r n s d ws d ws m ∧ ws.length ≤ K ∧ m ≤ 2 * K ∧ B ≤ w.heap.size
theorem St.later {w w' : World} {B g p r n : Nat} {s : Sup} {K : Nat} (h : St w B g p r n s K) (hb : Below w.heap.size w w') : St w' B g p r n s K := by
  obtain ⟨R, d, ws, m, h1, h2, h3, h4⟩ := h
  exact ⟨R, d, ws, m, h1.later hb, h2, h3, Nat.le_trans h4 hb.size⟩
theorem St.more {w : World} {B g p r n : Nat} {s : Sup} {K K' : Nat} (h : St w B g p r n s K) (hK : K ≤ K') : St w B g p r n s K' := by
  obtain ⟨R, d, ws, m, h1, h2, h3, h4⟩ := h
  exact ⟨R, d, ws, m, h1, by omega, by omega, h4⟩

theorem Dk.tell {wb w : World} {R : Nat → Nat} {B g p r n : Nat} {s : Sup} {d : List Int} {ws : List Wr} {e : List Int} {us : List Wr} {m : Nat} {vt vw : Value} {tl wl : List Value} {lu lv : Value} {g1 c1 g2 c2 : Nat}
    (h : Dk wb R B g p r n s d ws e us m) (hK : KAt wb g p r s vt vw) (hT : TD wb R m vt vw tl wl) (hC : TC wb w m vt vw tl wl lu lv g1 c1 g2 c2) (hB : B ≤ wb.heap.size)
    (hP : ∃ (q : Option Addr) (n c : Nat) (q2 : Option Addr) (c2 : Nat) (vs : List (List Int)), lu = .slice q n c ∧ lv = .slice q2 n c2 ∧ n ≤ 64 ∧ vs.length = n ∧ (∀ l ∈ vs, l.length = 32) ∧ wb.ownsRow 0 23 32 (.slice q n c) n (VC vs) ∧ wb.ownsRow 0 23 32 (.slice q2 n c2) n (VC vs))
    (hu : ∀ k, lu.ownBlock = some k → R k = 0 ∧ B ≤ k) (hv : ∀ k, lv.ownBlock = some k → R k = 0 ∧ B ≤ k) (_huv : ∀ k, lu.ownBlock = some k → lv.ownBlock = some k → False) :
    Dk ((w.setCell ⟨g, 7, none⟩ (.slice (some ⟨g1, 0, none⟩) (m + 1) c1)).setCell ⟨g, 8, none⟩ (.slice (some ⟨g2, 0, none⟩) (m + 1) c2)) (tellR R m g1 g2 lu lv) B g p r n s d ws e us (m + 1) ∧
    Kept (fun k => 3 ≤ R k) wb ((w.setCell ⟨g, 7, none⟩ (.slice (some ⟨g1, 0, none⟩) (m + 1) c1)).setCell ⟨g, 8, none⟩ (.slice (some ⟨g2, 0, none⟩) (m + 1) c2)) ∧
    (∀ k, k < wb.heap.size → R k = 0 → lu.ownBlock ≠ some k → lv.ownBlock ≠ some k → tellR R m g1 g2 lu lv k = 0) := by
  have hg := LAt.lt hK
  have hgr := h.rg
  have lu1 : ∀ k, lu.ownBlock = some k → k < wb.heap.size := fun k hk => by
    obtain ⟨q, n, c, q2, c2, vs, rfl, rfl, _, _, _, h4, h5⟩ := hP; exact own_lt h4 hk
  have lv1 : ∀ k, lv.ownBlock = some k → k < wb.heap.size := fun k hk => by
    obtain ⟨q, n, c, q2, c2, vs, rfl, rfl, _, _, _, h4, h5⟩ := hP; exact own_lt h5 hk
  have n1 : ∀ k, k < wb.heap.size → R k ≠ 4 → k ≠ g1 := fun k hk hr e => by
    subst e
    rcases hC.at1 with c | c
    · exact hr (hT.rt _ c)
    · omega
  have n2 : ∀ k, k < wb.heap.size → R k ≠ 5 → k ≠ g2 := fun k hk hr e => by
    subst e
    rcases hC.at2 with c | c
    · exact hr (hT.rw _ c)
    · omega
  have same : ∀ k, k < wb.heap.size → R k ≠ 4 → R k ≠ 5 → lu.ownBlock ≠ some k → lv.ownBlock ≠ some k → tellR R m g1 g2 lu lv k = R k := fun k hk h4 h5 hu hv => by
    unfold tellR
    rw [if_neg (n1 k hk h4), if_neg (n2 k hk h5), if_neg hu, if_neg hv]
  have same2 : ∀ k, k < wb.heap.size → R k ≠ 0 → R k ≠ 4 → R k ≠ 5 → tellR R m g1 g2 lu lv k = R k := fun k hk h0 h4 h5 =>
    same k hk h4 h5 (fun c => h0 (hu k c).1) (fun c => h0 (hv k c).1)
  have kp : ∀ k, k < wb.heap.size → R k ≠ 4 → R k ≠ 5 → w.heap[k]? = wb.heap[k]? := fun k hk h4 h5 => hC.kept.block k hk (fun c => c.elim (fun c => h4 (hT.rt k c)) (fun c => h5 (hT.rw k c)))
  have hKw : KAt w g p r s vt vw := (kp g hg (by omega) (by omega)).trans hK
  have gg1 : g ≠ g1 := n1 g hg (by omega)
  have gg2 : g ≠ g2 := n2 g hg (by omega)
  obtain ⟨w', hw'⟩ : ∃ w', w' = (w.setCell ⟨g, 7, none⟩ (.slice (some ⟨g1, 0, none⟩) (m + 1) c1)).setCell ⟨g, 8, none⟩ (.slice (some ⟨g2, 0, none⟩) (m + 1) c2) := ⟨_, rfl⟩
  have kw : ∀ k, k ≠ g → w'.heap[k]? = w.heap[k]? := fun k hk => by
    rw [hw', heap_setCell_other _ _ _ _ hk, heap_setCell_other _ _ _ _ hk]
  have hKw' : KAt w' g p r s (.slice (some ⟨g1, 0, none⟩) (m + 1) c1) (.slice (some ⟨g2, 0, none⟩) (m + 1) c2) := by
    rw [hw']; exact LAt.set (LAt.set hKw 7 _) 8 _
  have sz' : w'.heap.size = w.heap.size := by rw [hw']; simp [World.setCell]
  have kpw : ∀ k, k < wb.heap.size → R k < 3 ∨ 6 ≤ R k → w'.heap[k]? = wb.heap[k]? := fun k hk hr =>
    (kw k (fun e => by subst e; omega)).trans (kp k hk (by omega) (by omega))
  rw [← hw']
  have l1 : tl.length = m := by have := hT.told.1; omega
  have l2 : wl.length = m := by have := hT.want.1; omega
  have hsz := hC.kept.size
  have b1 := h.b1
  have hlo : ∀ k, k < B → tellR R m g1 g2 lu lv k = 0 := fun k hk => by
    have r0 := h.lo k hk
    rw [same k (by omega) (by omega) (by omega) (fun c => by have := (hu k c).2; omega) (fun c => by have := (hv k c).2; omega)]
    exact r0
  refine ⟨⟨h.tab.kept (kpw 0 (by omega) (by rw [h.lo 0 (by omega)]; omega)) (kpw 1 (by omega) (by rw [h.lo 1 (by omega)]; omega)), h.b1,
    ⟨_, _, tl ++ [lu], wl ++ [lv], hKw', ⟨own_same hC.told (fun k hk => ?_), own_same hC.want (fun k hk => ?_), fun k hk => ?_, fun k hk => ?_, fun i hi1 hi2 => ?_⟩⟩,
    (same2 g hg (by omega) (by omega) (by omega)).trans hgr, ?_, ?_, fun k hk => ?_, hlo⟩, ?_, fun k hk h0 hu hv => (same k hk (by omega) (by omega) hu hv).trans h0⟩
  · simp only [Value.ownBlock, Option.some.injEq] at hk
    exact kw k (fun e => gg1 (e.symm.trans hk.symm))
  · simp only [Value.ownBlock, Option.some.injEq] at hk
    exact kw k (fun e => gg2 (e.symm.trans hk.symm))
  · simp only [Value.ownBlock, Option.some.injEq] at hk
    unfold tellR; rw [if_pos hk.symm]
  · simp only [Value.ownBlock, Option.some.injEq] at hk
    unfold tellR; rw [if_neg (fun e => hC.ne (e.symm.trans hk.symm)), if_pos hk.symm]
  · by_cases c : i < tl.length
    · rw [List.getElem_append_left c, List.getElem_append_left (by omega)]
      exact (hT.each i c (by omega)).move2 (fun k hk hr => same2 k hk (by omega) (by omega) (by omega)) (fun k hk hr => kpw k hk (by omega))
    · have ei : i = m := by simp at hi1; omega
      subst ei
      rw [List.getElem_append_right (by omega), List.getElem_append_right (by omega)]
      simp only [l1, l2, Nat.sub_self, List.getElem_cons_zero]
      exact ⟨trivial⟩
  · exact h.dsk.same (fun k h1 h2 => (same2 k h1 (by omega) (by omega) (by omega)).trans h2) (fun k h1 h2 => kpw k h1 (by omega))
  · exact h.ref.same (fun k h1 h2 => (same2 k h1 (by omega) (by omega) (by omega)).trans h2) (fun k h1 h2 => kpw k h1 (by omega))
  · have hk2 : wb.heap.size ≤ k := by omega
    have hg1 := (own_blk hC.told).1.lt
    have hg2 := (own_blk hC.want).1.lt
    unfold tellR
    rw [if_neg (by omega), if_neg (by omega), if_neg (fun c => by have := lu1 k c; omega), if_neg (fun c => by have := lv1 k c; omega)]
    exact h.hi k hk2
  · refine ⟨?_, ?_, ?_, by omega, fun k hk hr => kpw k hk (by omega)⟩
    · rw [hw']; exact hC.kept.os
    · rw [hw']; exact hC.kept.tape
    · rw [hw']; exact hC.kept.output
end Z
end Go.Proofs.YtpenddnmmfpdjaaDoor
