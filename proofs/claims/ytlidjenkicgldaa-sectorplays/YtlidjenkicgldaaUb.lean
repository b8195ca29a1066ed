/-
  Layer 4: keeps: what was told is put aside.
-/
import Derived.Test.YtlidjenkicgldaaUa
namespace Go.Proofs.Ytlidjenkicgldaa
open Go.RowKit

/-- a list of the pair has grown by one -/
theorem half_tell {w w1 : World} {ob : Obj} {P o m : Nat} {tv z : Value} {tl : List Value} {g cap : Nat} (hblk : Blk w P 58 6) (ho : o < 6) (ht : w.ownsRow 0 23 1 tv m tl)
    (hown : w1.ownsRow 0 23 1 (.slice (some ⟨g, 0, none⟩) (m + 1) cap) (m + 1) (tl ++ [z])) (hgrow : (w.alloc ob).grownBy w1 tv.ownBlock) :
    (∀ j, w1.cell? ⟨P, j, none⟩ = w.cell? ⟨P, j, none⟩) ∧ w1.frozen? ⟨P, o, none⟩ = false ∧ Blk (w1.setCell ⟨P, o, none⟩ (.slice (some ⟨g, 0, none⟩) (m + 1) cap)) P 58 6 ∧ (w1.setCell ⟨P, o, none⟩ (.slice (some ⟨g, 0, none⟩) (m + 1) cap)).cell? ⟨P, o, none⟩ = some (.slice (some ⟨g, 0, none⟩) (m + 1) cap) ∧
    (∀ j, j ≠ o → (w1.setCell ⟨P, o, none⟩ (.slice (some ⟨g, 0, none⟩) (m + 1) cap)).cell? ⟨P, j, none⟩ = w.cell? ⟨P, j, none⟩) ∧ (w1.setCell ⟨P, o, none⟩ (.slice (some ⟨g, 0, none⟩) (m + 1) cap)).ownsRow 0 23 1 (.slice (some ⟨g, 0, none⟩) (m + 1) cap) (m + 1) (tl ++ [z]) ∧
    Kept (fun k => k = P ∨ tv.ownBlock = some k) w (w1.setCell ⟨P, o, none⟩ (.slice (some ⟨g, 0, none⟩) (m + 1) cap)) := by
  have hPl := hblk.lt
  have hne : tv.ownBlock ≠ some P := fun e => by obtain ⟨_, hb⟩ := own_ownBlk ht e; exact hb.ne hblk (by decide) rfl
  have e1 : w1.heap[P]? = w.heap[P]? := (hgrow.block P (by simp; omega) (fun e => hne e.symm)).trans (Below.heap_alloc _ _ _ hPl)
  have hb1 := hblk.same e1
  obtain ⟨v0, hv0⟩ := hb1.some o ho
  have hgP : g ≠ P := (own_blk hown).1.ne hb1 (by decide)
  refine ⟨fun j => cell_same e1, hb1.free o, hb1.setCell _, World.cell?_setCell_same _ _ _ hv0, fun j hj => ?_, own_same hown (fun k hk => heap_setCell_other _ _ _ _ (by simp only [Value.ownBlock, Option.some.injEq] at hk; rw [← hk]; exact hgP)), ?_⟩
  · rw [World.cell?_setCell_other _ _ _ _ (by intro e; simp only [Addr.mk.injEq] at e; omega)]; exact cell_same e1
  · exact (((Kept.refl (fun k => k = P ∨ tv.ownBlock = some k) w).alloc ob).grown hgrow (fun k hk _ => .inr hk)).setCell (fun _ => .inl rfl) _

set_option maxHeartbeats 4000000 in
theorem tells_any {w : World} {R : Nat → Nat} {B P : Nat} {x y : Nat → Nat} {n : Nat} {e : Nat → List Int} {u : Nat → List Wr} {f : Nat → List Int} {g : Nat → List Wr} {m : Nat} (h : Pr w R B P x y n e u f g m) (p : Option Addr) (L c : Nat) (b : List Int) (hv : TIn w R (.slice p L c) b) (hm : m ≤ 1000) (hB : B ≤ w.heap.size) (hL : L ≤ 140737488355328) :
    Calls Try.prog 36 #[.pointer (some ⟨P, 0, none⟩), .slice p L c] w fun e0 w' => e0 = .returned (.tuple #[]) ∧ (∃ R', Pr w' R' B P x y n e u f g (m + 1)) ∧ Below B w w' := by
  obtain ⟨i23, hi23, hz230, hz231, hz232⟩ := info_parts info23
  obtain ⟨tv, wv, tl, wl, ht⟩ := h.tld
  have c4 := ht.c4
  have HH : Hid (Pr w R B P x y n e u f g m) := h
  have HT : Hid (TD w R P m tv wv tl wl) := ht
  have HV : Hid (TIn w R (.slice p L c) b) := hv
  have HLb : Hid (L = b.length) := by
    rcases hv.1.2 with ⟨h1, h2⟩ | ⟨_, _, _, h1, _⟩
    · simp only [Value.slice.injEq] at h1; show L = _; omega
    · simp only [Value.slice.injEq] at h1; exact h1.2.1
  obtain ⟨pt, ct, rfl, _⟩ := own_slice ht.told
  obtain ⟨pw, cw, rfl, _⟩ := own_slice ht.want
  clear h ht hv
  go_enter Try.func36, Try.ntmps36
  go_wp2_with (at_builtin; refine wpList_append_lies _ rfl (.tmp 8) (.tmp 10) 56 rfl 0 23 i23 (.slice none 0 0) 1 24 Try.underlying56 hi23 hz230 hz231 hz232 rfl (by omega) _ m tl rfl (HT.out.told.alloc _) ⟨w.heap.size, 0, none⟩ 1 1 [.slice p L c] rfl rfl (cell_one_new _ _ _) (one_slice _ _ _) (by omega) (by unfold maxLen; omega) (by omega) (Nat.zero_le _) _ rfl ?_)
  intro g1 cap1 w1 hown1 hgrow1 hat1 hlt1
  obtain ⟨a1, a2, a3, a4, a5, a6, a7⟩ := half_tell HH.out.blk (o := 4) (by omega) HT.out.told hown1 hgrow1
  have hat : (Value.slice pt m ct).ownBlock = some g1 ∨ w.heap.size ≤ g1 := or_map hat1 id (fun q => by rw [q]; simp)
  have s4 := (a1 4).trans c4
  have HA : Hid (Blk (w1.setCell ⟨P, 4, none⟩ (.slice (some ⟨g1, 0, none⟩) (m + 1) cap1)) P 58 6 ∧ (w1.setCell ⟨P, 4, none⟩ (.slice (some ⟨g1, 0, none⟩) (m + 1) cap1)).cell? ⟨P, 4, none⟩ = some (.slice (some ⟨g1, 0, none⟩) (m + 1) cap1) ∧ (∀ j, j ≠ 4 → (w1.setCell ⟨P, 4, none⟩ (.slice (some ⟨g1, 0, none⟩) (m + 1) cap1)).cell? ⟨P, j, none⟩ = w.cell? ⟨P, j, none⟩) ∧ (w1.setCell ⟨P, 4, none⟩ (.slice (some ⟨g1, 0, none⟩) (m + 1) cap1)).ownsRow 0 23 1 (.slice (some ⟨g1, 0, none⟩) (m + 1) cap1) (m + 1) (tl ++ [.slice p L c]) ∧
    Kept (fun k => k = P ∨ (Value.slice pt m ct).ownBlock = some k) w (w1.setCell ⟨P, 4, none⟩ (.slice (some ⟨g1, 0, none⟩) (m + 1) cap1)) ∧ ((Value.slice pt m ct).ownBlock = some g1 ∨ w.heap.size ≤ g1)) := ⟨a3, a4, a5, a6, a7, hat⟩
  clear a1 a3 a4 a5 a6 a7 hown1 hgrow1 hat1 hat hlt1 c4
  go_wp2
  clear a2 s4
  revert HA
  generalize w1.setCell ⟨P, 4, none⟩ (.slice (some ⟨g1, 0, none⟩) (m + 1) cap1) = w2
  intro HA
  have wk : ∀ k, (Value.slice pw m cw).ownBlock = some k → ¬ (k = P ∨ (Value.slice pt m ct).ownBlock = some k) := fun k hk hc => by
    have r7 := HT.out.rw k hk
    rcases hc with rfl | hc
    · rw [HH.out.rp] at r7; omega
    · rw [HT.out.rt k hc] at r7; omega
  have HW : Hid (w2.ownsRow 0 23 1 (.slice pw m cw) m wl) := own_same HT.out.want (fun k hk => HA.out.2.2.2.2.1.block k (own_lt HT.out.want hk) (wk k hk))
  have vk : ∀ k, (Value.slice p L c).ownBlock = some k → ¬ (k = P ∨ (Value.slice pt m ct).ownBlock = some k) := fun k hk hc => by
    have r7 := HV.out.2.2 k hk
    rcases hc with rfl | hc
    · rw [HH.out.rp] at r7; omega
    · rw [HT.out.rt k hc] at r7; omega
  have HB2 : Hid (w2.ownsRow 0 5 1 (.slice p L c) L (U8 b) ∧ Bytes b) := ⟨by rw [HLb.out]; have := own_same HV.out.1 (fun k hk => HA.out.2.2.2.2.1.block k (own_lt HV.out.1 hk) (vk k hk)); rwa [HLb.out] at this, HV.out.2.1⟩
  have c5 : w2.cell? ⟨P, 5, none⟩ = some (.slice pw m cw) := (HA.out.2.2.1 5 (by omega)).trans HT.out.c5
  refine wp_region_noPanic ?_
  refine wp_region_last 11 (fun w' => w'.cell? ⟨P, 5, none⟩ = some (.slice pw m cw)) (by kernel_rfl) ?_
  have hHeld : w2.drew.cell? ⟨P, 5, none⟩ = some (.slice pw m cw) := c5
  refine wpAnyL_take (i := 0) (v := ?v0) (by simp; rfl) (by kernel_rfl) (by kernel_rfl) (by kernel_rfl) (by kernel_rfl) (fun _ _ _ h => h) (Or.inl ⟨by rfl, ?y0⟩) hHeld ?r0
  case y0 => intro w hSw; clear hSw; go_simp; with_reducible rfl
  simp only [Act.put, List.setIfInBounds_toArray, List.set_cons_zero, List.set_cons_succ]
  refine wpAnyL_take (i := 1) (v := ?v1) (by simp; rfl) (by kernel_rfl) (by kernel_rfl) (by kernel_rfl) (by kernel_rfl) (fun _ _ _ h => h) (Or.inl ⟨by rfl, ?y1⟩) hHeld ?r1
  case y1 => intro w hSw; clear hSw; go_simp; with_reducible rfl
  simp only [Act.put, List.setIfInBounds_toArray, List.set_cons_zero, List.set_cons_succ]
  refine wpAnyL_take (i := 2) (v := ?v2) (by simp; rfl) (by kernel_rfl) (by kernel_rfl) (by kernel_rfl) (by kernel_rfl) (fun _ _ _ h => h) (Or.inl ⟨by rfl, ?y2⟩) hHeld ?r2
  case y2 => intro w hSw; clear hSw; go_simp; with_reducible rfl
  simp only [Act.put, List.setIfInBounds_toArray, List.set_cons_zero, List.set_cons_succ]
  refine wpAnyL_take (i := 3) (v := ?v3) (by simp; rfl) (by kernel_rfl) (by kernel_rfl) (by kernel_rfl) (by kernel_rfl) (fun _ _ _ h => h) (Or.inl ⟨by rfl, ?y3⟩) hHeld ?r3
  case y3 => intro w hSw; clear hSw; go_simp; with_reducible rfl
  simp only [Act.put, List.setIfInBounds_toArray, List.set_cons_zero, List.set_cons_succ]
  refine wpAnyL_take (i := 4) (v := ?v4) (by simp; rfl) (by kernel_rfl) (by kernel_rfl) (by kernel_rfl) (by kernel_rfl) (fun _ _ _ h => h) (Or.inl ⟨by rfl, ?y4⟩) hHeld ?r4
  case y4 => intro w hSw; go_simp; with_reducible rfl
  simp only [Act.put, List.setIfInBounds_toArray, List.set_cons_zero, List.set_cons_succ]
  refine wpAnyL_take (i := 5) (v := ?v5) (by simp; rfl) (by kernel_rfl) (by kernel_rfl) (by kernel_rfl) (by kernel_rfl) (fun _ _ _ h => h) (Or.inl ⟨by rfl, ?y5⟩) hHeld ?r5
  case y5 => intro w hSw; clear hSw; go_simp; with_reducible rfl
  simp only [Act.put, List.setIfInBounds_toArray, List.set_cons_zero, List.set_cons_succ]
  refine wpAnyL_ready (rs := [6]) (by kernel_rfl) (by simp) ?_
  refine AllReadyL.cons (by simp; rfl) (fun K hK => ?_) AllReadyL.nil
  go_simp
  obtain ⟨qa, qc, qe, hin, hqc, hqn, _⟩ := own_in HB2.out.1 HB2.out.2
  simp only [Value.slice.injEq, true_and] at qe
  obtain ⟨rfl, rfl⟩ := qe
  refine (ownb_any p L c b w2.drew hin.drew hqn hqc hL).mono ?_
  rintro e1 w3 ⟨v2, rfl, hown2, hb3⟩
  replace hb3 : Below w2.heap.size w2 w3 := below_undrew hb3
  replace hown2 : w3.ownsRow w2.heap.size 5 1 v2 L (U8 b) := hown2
  obtain ⟨p2, c2, rfl, _⟩ := own_slice hown2
  have hH6 : w3.cell? ⟨P, 5, none⟩ = some (.slice pw m cw) := (hb3.cell (p := ⟨P, 5, none⟩) HA.out.1.lt).trans c5
  refine hK.out _ _ (fun _ => hH6) ?_
  clear hK K hHeld c5 hin hqc hqn
  have hHeld := hH6
  refine wpAnyL_ready (rs := [7]) (by kernel_rfl) (by simp) ?_
  refine AllReadyL.cons (by simp; rfl) (fun K hK => ?_) AllReadyL.nil
  go_simp
  have hH7 : (w3.alloc (.cells #[.slice p2 L c2] 23)).cell? ⟨P, 5, none⟩ = some (.slice pw m cw) := ((below_alloc w3 _).cell (p := ⟨P, 5, none⟩) (World.block_lt_of_cell? w3 _ hH6)).trans hH6
  refine hK.out _ _ (fun _ => hH7) ?_
  clear hK K hHeld
  have hHeld := hH7
  refine wpAnyL_ready (rs := [8]) (by kernel_rfl) (by simp) ?_
  refine AllReadyL.cons (by simp; rfl) (fun K hK => ?_) AllReadyL.nil
  refine step_append_lies _ rfl (.tmp 18) (.tmp 21) 56 rfl 0 23 i23 (.slice none 0 0) 1 24 Try.underlying56 hi23 hz230 hz231 hz232 rfl (by omega) _ m wl rfl ((own_later HW.out hb3).alloc _) ⟨w3.heap.size, 0, none⟩ 1 1 [.slice p2 L c2] rfl rfl (cell_one_new _ _ _) (one_slice _ _ _) (by omega) (by unfold maxLen; omega) (by omega) (Nat.zero_le _) _ rfl ?_
  intro g4 cap4 w4 hown4 hgrow4 hat4 hlt4
  obtain ⟨a1, a2, a3, a4, a5, a6, a7⟩ := half_tell (HA.out.1.same (hb3.block P HA.out.1.lt)) (o := 5) (by omega) (own_later HW.out hb3) hown4 hgrow4
  have hat : (Value.slice pw m cw).ownBlock = some g4 ∨ w3.heap.size ≤ g4 := or_map hat4 id (fun q => by rw [q]; simp)
  have f1 := (a1 5).trans hH6
  refine hK.out _ _ (fun _ => f1) ?_
  clear hK K hHeld hH6 hH7
  have hs2 := HA.out.2.2.2.2.1.size
  have hs3 := hb3.size
  have HF : Hid ((∃ R', Pr (w4.setCell ⟨P, 5, none⟩ (.slice (some ⟨g4, 0, none⟩) (m + 1) cap4)) R' B P x y n e u f g (m + 1)) ∧ Below B w (w4.setCell ⟨P, 5, none⟩ (.slice (some ⟨g4, 0, none⟩) (m + 1) cap4))) := by
    have K1 : Kept (fun k => k = P ∨ (Value.slice pt m ct).ownBlock = some k ∨ (Value.slice pw m cw).ownBlock = some k) w (w4.setCell ⟨P, 5, none⟩ (.slice (some ⟨g4, 0, none⟩) (m + 1) cap4)) := by
      refine ((HA.out.2.2.2.2.1.mono (T := fun k => k = P ∨ (Value.slice pt m ct).ownBlock = some k ∨ (Value.slice pw m cw).ownBlock = some k) (fun i _ h => h.elim .inl (fun h => .inr (.inl h)))).trans (Kept.of_below (S := fun _ => False) hb3) (fun _ _ h => h.elim)).trans a7 (fun i _ h => h.elim .inl (fun h => .inr (.inr h)))
    have g1k : ∀ k, (Value.slice (some ⟨g1, 0, none⟩) (m + 1) cap1).ownBlock = some k → k ≠ P ∧ (Value.slice pw m cw).ownBlock ≠ some k := fun k hk => by
      have bk := (own_blk HA.out.2.2.2.1).1
      simp only [Value.ownBlock, Option.some.injEq] at hk
      subst hk
      refine ⟨bk.ne HA.out.1 (by decide), fun hw' => ?_⟩
      have hlw := own_lt HT.out.want hw'
      rcases HA.out.2.2.2.2.2 with hh | hh
      · have r6 := HT.out.rt _ hh
        rw [HT.out.rw _ hw'] at r6
        omega
      · omega
    have hto3 : (w4.setCell ⟨P, 5, none⟩ (.slice (some ⟨g4, 0, none⟩) (m + 1) cap4)).ownsRow 0 23 1 (.slice (some ⟨g1, 0, none⟩) (m + 1) cap1) (m + 1) (tl ++ [.slice p L c]) :=
      own_same (own_later HA.out.2.2.2.1 hb3) (fun k hk => a7.block k (own_lt (own_later HA.out.2.2.2.1 hb3) hk) (fun hc => hc.elim (g1k k hk).1 (g1k k hk).2))
    have hv3 : (w4.setCell ⟨P, 5, none⟩ (.slice (some ⟨g4, 0, none⟩) (m + 1) cap4)).ownsRow w.heap.size 5 1 (.slice p2 L c2) b.length (U8 b) := by
      rw [← HLb.out]
      refine own_same (own_mono hown2 hs2) (fun k hk => a7.block k (own_lt hown2 hk) (fun hc => ?_))
      obtain ⟨_, bk⟩ := own_ownBlk hown2 hk
      rcases hc with rfl | hc
      · exact bk.ne (HA.out.1.same (hb3.block k HA.out.1.lt)) (by decide) rfl
      · obtain ⟨_, bw⟩ := own_ownBlk (own_later HW.out hb3) hc
        exact bk.ne bw (by decide) rfl
    refine ⟨HH.out.tell HT.out HV.out K1 a3 (fun o ho => ?_) ?_ a4 hto3 a6 hv3 (fun k hk => ?_) (fun k hk => ?_) (fun k hk hk' => ?_) hB, K1.below hB (fun k hk => ?_)⟩
    · rw [a5 o (by omega), cell_same (hb3.block P HA.out.1.lt)]; exact HA.out.2.2.1 o (by omega)
    · rw [a5 4 (by omega), cell_same (hb3.block P HA.out.1.lt)]; exact HA.out.2.1
    · simp only [Value.ownBlock, Option.some.injEq] at hk; subst hk; exact HA.out.2.2.2.2.2
    · simp only [Value.ownBlock, Option.some.injEq] at hk; subst hk; exact or_map hat id (fun q => by omega)
    · have g1' := g1k k hk
      have g1l := own_lt HA.out.2.2.2.1 hk
      simp only [Value.ownBlock, Option.some.injEq] at hk'
      subst hk'
      rcases hat with q | q
      · exact g1'.2 q
      · omega
    · have nz : R k ≠ 0 := by
        rcases hk with rfl | hk | hk
        · rw [HH.out.rp]; omega
        · rw [HT.out.rt k hk]; omega
        · rw [HT.out.rw k hk]; omega
      exact Nat.le_of_not_lt (fun q => nz (HH.out.lo k q))
  clear a1 a3 a4 a5 a6 a7 hat hown4 hgrow4 hat4 hlt4 wk vk hown2 hb3 HA HW HB2 HH HT HV
  have hHeld := f1
  simp only [Act.put, List.setIfInBounds_toArray, List.set_cons_zero, List.set_cons_succ]
  refine wpAnyL_ready (rs := [9]) (by kernel_rfl) (by simp) ?_
  refine AllReadyL.cons (by simp; rfl) (fun K hK => ?_) AllReadyL.nil
  go_simp
  refine hK.out _ _ (fun _ => f1) ?_
  clear hK K
  refine wpAnyL_ready (rs := [10]) (by kernel_rfl) (by simp) ?_
  refine AllReadyL.cons (by simp; rfl) (fun K hK => ?_) AllReadyL.nil
  go_simp
  refine hK.out _ _ (fun _ => f1) ?_
  clear hK K
  refine wpAnyL_ready (rs := [11]) (by kernel_rfl) (by simp) ?_
  refine AllReadyL.cons (by simp; rfl) (fun K hK => ?_) AllReadyL.nil
  go_simp
  refine hK.out _ _ (fun h => absurd rfl h) ?_
  clear hK K
  refine wpAnyL_done (by kernel_rfl) (NoPanic.normal ?_) _
  clear f1 a2 hHeld
  go_wp2
  go_end0
  exact ⟨rfl, HF.out.1, HF.out.2⟩
end Go.Proofs.Ytlidjenkicgldaa
