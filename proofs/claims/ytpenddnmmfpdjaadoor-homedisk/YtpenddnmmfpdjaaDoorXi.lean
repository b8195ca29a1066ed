/-
  The desk when a list has been told.
-/
import Derived.Test.YtpenddnmmfpdjaaDoorXc
import Derived.Test.YtpenddnmmfpdjaaDoorDZa
namespace Go.Proofs.YtpenddnmmfpdjaaDoor
open Go.RowKit

theorem or_id {a b c : Prop} (h : a ∨ b) (f : b → c) : a ∨ c := by
  rcases h with h | h
  · exact .inl h
  · exact .inr (f h)
theorem Pair.move2 {w w' : World} {R R' : Nat → Nat} {i : Nat} {u v : Value} (h : Pair w R i u v) (hR : ∀ k, k < w.heap.size → (R k = 6 ∨ R k = 10 + i) → R' k = R k) (hs : ∀ k, k < w.heap.size → (R k = 6 ∨ R k = 10 + i) → w'.heap[k]? = w.heap[k]?) : Pair w' R' i u v := by
  obtain ⟨⟨q, n, c, q2, c2, vs, rfl, rfl, h1, h2, h3, h4, h5⟩, h6, h7⟩ := h
  exact ⟨⟨q, n, c, q2, c2, vs, rfl, rfl, h1, h2, h3, own_same h4 (fun k hk => hs k (own_lt h4 hk) (.inr (h6 k hk))), own_same h5 (fun k hk => hs k (own_lt h5 hk) (.inl (h7 k hk)))⟩,
    fun k hk => (hR k (own_lt h4 hk) (.inr (h6 k hk))).trans (h6 k hk), fun k hk => (hR k (own_lt h5 hk) (.inl (h7 k hk))).trans (h7 k hk)⟩
/-- behind the first append -/
structure TB (wb w : World) (m : Nat) (vt : Value) (tl : List Value) (lu : Value) (g1 c1 : Nat) : Prop where
  kept : Kept (fun k => vt.ownBlock = some k) wb w
  told : w.ownsRow 0 41 1 (.slice (some ⟨g1, 0, none⟩) (m + 1) c1) (m + 1) (tl ++ [lu])
  at1 : vt.ownBlock = some g1 ∨ wb.heap.size ≤ g1
theorem TB.of {wb w w' : World} {m : Nat} {vt : Value} {tl : List Value} {lu : Value} {g1 c1 : Nat} (hb : Below wb.heap.size wb w) (hown : w'.ownsRow 0 41 1 (.slice (some ⟨g1, 0, none⟩) (m + 1) c1) (m + 1) (tl ++ [lu])) (hg : w.grownBy w' vt.ownBlock) (hat : vt.ownBlock = some g1 ∨ g1 = w.heap.size) : TB wb w' m vt tl lu g1 c1 :=
  ⟨(Kept.of_below hb).grown hg (fun _ e _ => e), hown, or_id hat (fun e => by rw [e]; exact hb.size)⟩
theorem TB.alloc {wb w : World} {m : Nat} {vt : Value} {tl : List Value} {lu : Value} {g1 c1 : Nat} (h : TB wb w m vt tl lu g1 c1) (o : Obj) : TB wb (w.alloc o) m vt tl lu g1 c1 := ⟨h.kept.alloc o, h.told.alloc o, h.at1⟩
/-- behind the second -/
structure TC (wb w : World) (m : Nat) (vt vw : Value) (tl wl : List Value) (lu lv : Value) (g1 c1 g2 c2 : Nat) : Prop where
  kept : Kept (fun k => vt.ownBlock = some k ∨ vw.ownBlock = some k) wb w
  told : w.ownsRow 0 41 1 (.slice (some ⟨g1, 0, none⟩) (m + 1) c1) (m + 1) (tl ++ [lu])
  want : w.ownsRow 0 41 1 (.slice (some ⟨g2, 0, none⟩) (m + 1) c2) (m + 1) (wl ++ [lv])
  at1 : vt.ownBlock = some g1 ∨ wb.heap.size ≤ g1
  at2 : vw.ownBlock = some g2 ∨ wb.heap.size ≤ g2
  ne : g1 ≠ g2
theorem TC.of {wb w w' : World} {m : Nat} {vt vw : Value} {tl wl : List Value} {lu lv : Value} {g1 c1 g2 c2 : Nat} (h : TB wb w m vt tl lu g1 c1) (hown : w'.ownsRow 0 41 1 (.slice (some ⟨g2, 0, none⟩) (m + 1) c2) (m + 1) (wl ++ [lv])) (hg : w.grownBy w' vw.ownBlock)
    (hat : vw.ownBlock = some g2 ∨ g2 = w.heap.size) (hne : ∀ k, vt.ownBlock = some k → vw.ownBlock = some k → False) (hlt : ∀ k, vw.ownBlock = some k → k < wb.heap.size) : TC wb w' m vt vw tl wl lu lv g1 c1 g2 c2 := by
  have h1 : ∀ k, vw.ownBlock = some k → k ≠ g1 := fun k hk e => by
    subst e
    rcases h.at1 with h | h
    · exact hne _ h hk
    · have := hlt _ hk; omega
  have hl1 : g1 < w.heap.size := (own_blk h.told).1.lt
  refine ⟨?_, own_same h.told (fun k hk => ?_), hown, h.at1, or_id hat (fun e => by rw [e]; exact h.kept.size), fun e => ?_⟩
  · exact (h.kept.mono (fun _ _ hk => .inl hk)).grown hg (fun _ e _ => .inr e)
  · simp only [Value.ownBlock, Option.some.injEq] at hk
    subst hk
    exact hg.block _ hl1 (fun e => h1 _ e.symm rfl)
  · rcases hat with hat | hat
    · exact h1 _ hat e.symm
    · omega

/-- the roles when a list has been told -/
def tellR (R : Nat → Nat) (m g1 g2 : Nat) (lu lv : Value) : Nat → Nat := fun k => if k = g1 then 4 else if k = g2 then 5 else if lu.ownBlock = some k then 10 + m else if lv.ownBlock = some k then 6 else R k
theorem Dk.tell {wb w : World} {R : Nat → Nat} {B g p r n : Nat} {s : Sup} {d : List Int} {ws : List Wr} {e : List Int} {us : List Wr} {m : Nat} {vt vw : Value} {tl wl : List Value} {lu lv : Value} {g1 c1 g2 c2 : Nat}
    (h : Dk wb R B g p r n s d ws e us m) (hK : KAt wb g p r s vt vw) (hT : TD wb R m vt vw tl wl) (hC : TC wb w m vt vw tl wl lu lv g1 c1 g2 c2) (hB : B ≤ wb.heap.size)
    (hP : ∃ (q : Option Addr) (n c : Nat) (q2 : Option Addr) (c2 : Nat) (vs : List (List Int)), lu = .slice q n c ∧ lv = .slice q2 n c2 ∧ n ≤ 64 ∧ vs.length = n ∧ (∀ l ∈ vs, l.length = 32) ∧ wb.ownsRow 0 23 32 (.slice q n c) n (VC vs) ∧ wb.ownsRow 0 23 32 (.slice q2 n c2) n (VC vs))
    (hu : ∀ k, lu.ownBlock = some k → R k = 0 ∧ B ≤ k) (hv : ∀ k, lv.ownBlock = some k → R k = 0 ∧ B ≤ k) (huv : ∀ k, lu.ownBlock = some k → lv.ownBlock = some k → False) :
    Dk ((w.setCell ⟨g, 7, none⟩ (.slice (some ⟨g1, 0, none⟩) (m + 1) c1)).setCell ⟨g, 8, none⟩ (.slice (some ⟨g2, 0, none⟩) (m + 1) c2)) (tellR R m g1 g2 lu lv) B g p r n s d ws e us (m + 1) ∧
    Kept (fun k => 3 ≤ R k) wb ((w.setCell ⟨g, 7, none⟩ (.slice (some ⟨g1, 0, none⟩) (m + 1) c1)).setCell ⟨g, 8, none⟩ (.slice (some ⟨g2, 0, none⟩) (m + 1) c2)) ∧
    (∀ k, k < wb.heap.size → R k = 0 → lu.ownBlock ≠ some k → lv.ownBlock ≠ some k → tellR R m g1 g2 lu lv k = 0) := by
  have hg := LAt.lt hK
  have hgr := h.rg
  have lu1 : ∀ k, lu.ownBlock = some k → k < wb.heap.size := fun k hk => by
    obtain ⟨q, n, c, q2, c2, vs, rfl, rfl, _, _, _, h4, h5⟩ := hP; exact own_lt h4 hk
  have lv1 : ∀ k, lv.ownBlock = some k → k < wb.heap.size := fun k hk => by
    obtain ⟨q, n, c, q2, c2, vs, rfl, rfl, _, _, _, h4, h5⟩ := hP; exact own_lt h5 hk
  have n1 : ∀ k, k < wb.heap.size → R k ≠ 4 → k ≠ g1 := fun k hk hr e => by
    subst e
    rcases hC.at1 with c | c
    · exact hr (hT.rt _ c)
    · omega
  have n2 : ∀ k, k < wb.heap.size → R k ≠ 5 → k ≠ g2 := fun k hk hr e => by
    subst e
    rcases hC.at2 with c | c
    · exact hr (hT.rw _ c)
    · omega
  have same : ∀ k, k < wb.heap.size → R k ≠ 4 → R k ≠ 5 → lu.ownBlock ≠ some k → lv.ownBlock ≠ some k → tellR R m g1 g2 lu lv k = R k := fun k hk h4 h5 hu hv => by
    unfold tellR
    rw [if_neg (n1 k hk h4), if_neg (n2 k hk h5), if_neg hu, if_neg hv]
  have same2 : ∀ k, k < wb.heap.size → R k ≠ 0 → R k ≠ 4 → R k ≠ 5 → tellR R m g1 g2 lu lv k = R k := fun k hk h0 h4 h5 =>
    same k hk h4 h5 (fun c => h0 (hu k c).1) (fun c => h0 (hv k c).1)
  have kp : ∀ k, k < wb.heap.size → R k ≠ 4 → R k ≠ 5 → w.heap[k]? = wb.heap[k]? := fun k hk h4 h5 => hC.kept.block k hk (fun c => c.elim (fun c => h4 (hT.rt k c)) (fun c => h5 (hT.rw k c)))
  have hKw : KAt w g p r s vt vw := (kp g hg (by omega) (by omega)).trans hK
  have gg1 : g ≠ g1 := n1 g hg (by omega)
  have gg2 : g ≠ g2 := n2 g hg (by omega)
  obtain ⟨w', hw'⟩ : ∃ w', w' = (w.setCell ⟨g, 7, none⟩ (.slice (some ⟨g1, 0, none⟩) (m + 1) c1)).setCell ⟨g, 8, none⟩ (.slice (some ⟨g2, 0, none⟩) (m + 1) c2) := ⟨_, rfl⟩
  have kw : ∀ k, k ≠ g → w'.heap[k]? = w.heap[k]? := fun k hk => by
    rw [hw', heap_setCell_other _ _ _ _ hk, heap_setCell_other _ _ _ _ hk]
  have hKw' : KAt w' g p r s (.slice (some ⟨g1, 0, none⟩) (m + 1) c1) (.slice (some ⟨g2, 0, none⟩) (m + 1) c2) := by
    rw [hw']; exact LAt.set (LAt.set hKw 7 _) 8 _
  have sz' : w'.heap.size = w.heap.size := by rw [hw']; simp [World.setCell]
  have kpw : ∀ k, k < wb.heap.size → R k < 3 ∨ 6 ≤ R k → w'.heap[k]? = wb.heap[k]? := fun k hk hr =>
    (kw k (fun e => by subst e; omega)).trans (kp k hk (by omega) (by omega))
  rw [← hw']
  have l1 : tl.length = m := by have := hT.told.1; omega
  have l2 : wl.length = m := by have := hT.want.1; omega
  have hsz := hC.kept.size
  have b1 := h.b1
  have hlo : ∀ k, k < B → tellR R m g1 g2 lu lv k = 0 := fun k hk => by
    have r0 := h.lo k hk
    rw [same k (by omega) (by omega) (by omega) (fun c => by have := (hu k c).2; omega) (fun c => by have := (hv k c).2; omega)]
    exact r0
  refine ⟨⟨h.tab.kept (kpw 0 (by omega) (by rw [h.lo 0 (by omega)]; omega)) (kpw 1 (by omega) (by rw [h.lo 1 (by omega)]; omega)), h.b1,
    ⟨_, _, tl ++ [lu], wl ++ [lv], hKw', ⟨own_same hC.told (fun k hk => ?_), own_same hC.want (fun k hk => ?_), fun k hk => ?_, fun k hk => ?_, fun i hi1 hi2 => ?_⟩⟩,
    (same2 g hg (by omega) (by omega) (by omega)).trans hgr, ?_, ?_, fun k hk => ?_, hlo⟩, ?_, fun k hk h0 hu hv => (same k hk (by omega) (by omega) hu hv).trans h0⟩
  · simp only [Value.ownBlock, Option.some.injEq] at hk
    exact kw k (fun e => gg1 (e.symm.trans hk.symm))
  · simp only [Value.ownBlock, Option.some.injEq] at hk
    exact kw k (fun e => gg2 (e.symm.trans hk.symm))
  · simp only [Value.ownBlock, Option.some.injEq] at hk
    unfold tellR; rw [if_pos hk.symm]
  · simp only [Value.ownBlock, Option.some.injEq] at hk
    unfold tellR; rw [if_neg (fun e => hC.ne (e.symm.trans hk.symm)), if_pos hk.symm]
  · by_cases c : i < tl.length
    · rw [List.getElem_append_left c, List.getElem_append_left (by omega)]
      exact (hT.each i c (by omega)).move2 (fun k hk hr => same2 k hk (by omega) (by omega) (by omega)) (fun k hk hr => kpw k hk (by omega))
    · have ei : i = m := by simp at hi1; omega
      subst ei
      rw [List.getElem_append_right (by omega), List.getElem_append_right (by omega)]
      simp only [l1, l2, Nat.sub_self, List.getElem_cons_zero]
      refine ⟨?_, fun k hk => ?_, fun k hk => ?_⟩
      · obtain ⟨q, n', c', q2, c2', vs, rfl, rfl, h1, h2, h3, h4, h5⟩ := hP
        exact ⟨q, n', c', q2, c2', vs, rfl, rfl, h1, h2, h3, own_same h4 (fun k hk => kpw k (own_lt h4 hk) (by rw [(hu k hk).1]; omega)), own_same h5 (fun k hk => kpw k (own_lt h5 hk) (by rw [(hv k hk).1]; omega))⟩
      · have r0 := (hu k hk).1
        unfold tellR
        rw [if_neg (n1 k (lu1 k hk) (by omega)), if_neg (n2 k (lu1 k hk) (by omega)), if_pos hk]
      · have r0 := (hv k hk).1
        unfold tellR
        rw [if_neg (n1 k (lv1 k hk) (by omega)), if_neg (n2 k (lv1 k hk) (by omega)), if_neg (fun c => huv k c hk), if_pos hk]
  · exact h.dsk.same (fun k h1 h2 => (same2 k h1 (by omega) (by omega) (by omega)).trans h2) (fun k h1 h2 => kpw k h1 (by omega))
  · exact h.ref.same (fun k h1 h2 => (same2 k h1 (by omega) (by omega) (by omega)).trans h2) (fun k h1 h2 => kpw k h1 (by omega))
  · have hk2 : wb.heap.size ≤ k := by omega
    have hg1 := (own_blk hC.told).1.lt
    have hg2 := (own_blk hC.want).1.lt
    unfold tellR
    rw [if_neg (by omega), if_neg (by omega), if_neg (fun c => by have := lu1 k c; omega), if_neg (fun c => by have := lv1 k c; omega)]
    exact h.hi k hk2
  · refine ⟨?_, ?_, ?_, by omega, fun k hk hr => kpw k hk (by omega)⟩
    · rw [hw']; exact hC.kept.os
    · rw [hw']; exact hC.kept.tape
    · rw [hw']; exact hC.kept.output
end Go.Proofs.YtpenddnmmfpdjaaDoor
