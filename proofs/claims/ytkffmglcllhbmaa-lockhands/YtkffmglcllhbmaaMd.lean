/-
  Layer 14: rows of lists that are handed out; kept.
-/
import Derived.Test.YtkffmglcllhbmaaMb
namespace Go.Proofs.Ytkffmglcllhbmaa
open Go.RowKit

open Go.Shelf
theorem qS_len {a : Lk} {w : World} {F : Ft} {n : Nat} (h : PL w F n a) (b : Int) : (qS a.L b).length ≤ n := by
  unfold qS
  rw [List.length_map]
  exact Nat.le_trans (List.length_filter_le _ _) h.len
theorem Own.qlen {w0 w : World} {Q n : Nat} {a : Lk} {X : Nat → Prop} (h : Own w0 w Q n a X) (b : Int) : (qS a.L b).length ≤ n := by
  obtain ⟨F, -, h2, -⟩ := h
  exact qS_len h2 b
theorem ent_d64 {a : Lk} (h : Ok a) (t : Int) : (ent a.L t).d ≤ 64 := by
  cases hi : isIn a.L t with
  | false => rw [(out_nx hi).2.2.2.1]; omega
  | true => exact Nat.le_trans (h.don _ (isIn_ent hi).2.1) (h.slen (isIn_ent hi).2.1)
/-- what kept reads: lists as they were -/
def WrQ (W : World) (p : Option Addr) (N : Nat) (f : Nat → List Int) : Prop := ∀ i, i < N → ∃ b q c, p = some ⟨b, 0, none⟩ ∧ W.cell? ⟨b, i, none⟩ = some (.slice q (f i).length c) ∧ UIn W q (f i).length (f i)
def WrH (W : World) (p : Option Addr) (N : Nat) (f : Nat → List Int) : Prop := ∀ i, i < N → ∃ b q c, p = some ⟨b, 0, none⟩ ∧ W.cell? ⟨b, i, none⟩ = some (.slice q (f i).length c) ∧ B.IIn W q (f i).length (f i)
set_option maxRecDepth 100000 in
set_option maxHeartbeats 16000000 in
theorem kept_any {w0 w : World} {Q n : Nat} {a : Lk} {X : Nat → Prop} (h : Own w0 w Q n a X) (hn : n ≤ 10000) {N K nq nh cq ch : Nat} {pq ph : Option Addr} (hN : N ≤ 64) (hK : K ≤ 10) (hNq : N ≤ nq) (hKh : K ≤ nh) (hq : WrQ w pq N (fun i => qS a.L (i : Int))) (hh : WrH w ph K (fun i => (ent a.L ((i : Int) + 1)).held)) :
    Calls Try.prog 19 #[qp Q, .int .i64 N, .int .i64 K, .slice pq nq cq, .slice ph nh ch] w fun e w' => e = .returned (.bool true) ∧ Below w.heap.size w w' := by
  have HO : Hid (Own w0 w Q n a X) := h
  have HQ : Hid (WrQ w pq N (fun i => qS a.L (i : Int)) ∧ ∀ b, (qS a.L b).length ≤ n) := ⟨hq, h.qlen⟩
  have HH : Hid (WrH w ph K (fun i => (ent a.L ((i : Int) + 1)).held) ∧ ∀ t, (ent a.L t).d ≤ 64) := ⟨hh, ent_d64 h.ok⟩
  clear hq hh h
  go_enter Try.func19, Try.ntmps19
  go_wp2_with fail
  go_loopw [11] (fun i wr => ∃ k : Nat, k ≤ N ∧ i = .int .i64 k ∧ Hid (Below w.heap.size w wr)) (fun i _ => N - (intOf i).toNat)
  case atStart => exact ⟨0, Nat.zero_le _, rfl, Below.refl _ _⟩
  case round =>
    obtain ⟨k, hk, rfl, HB⟩ := hrel
    by_cases hlt : k < N
    · obtain ⟨bq, pk, ck, rfl, hc1, hu1⟩ := HQ.out.1 k hlt
      have hln := HQ.out.2 (k : Int)
      obtain ⟨l, HL⟩ : ∃ l, Hid (qS a.L (k : Int) = l) := ⟨_, rfl⟩
      dsimp only at hc1 hu1
      rw [HL.out] at hc1 hu1 hln
      have HC : Hid (∀ w', Below wr.heap.size wr w' → w'.cell? ⟨bq, k, none⟩ = some (.slice pk l.length ck)) := fun w' hb => ((below_then HB.out hb).cell (p := ⟨bq, k, none⟩) (World.block_lt_of_cell? w _ hc1)).trans hc1
      have HI : Hid (∀ w', Below wr.heap.size wr w' → UIn w' pk l.length l) := fun w' hb => hu1.later (below_then HB.out hb)
      have i1 : (k : Int) < (N : Int) := by omega
      have i2 : (k : Int) < (nq : Int) := by omega
      have i0 : (0 : Int) ≤ (k : Int) := by omega
      clear hc1 hu1
      go_wp2_with fail
      refine wp_region_noPanic ?_
      refine wp_region_held_drew (S := fun w' => Below wr.heap.size wr w') (by kernel_rfl) (below_drawn 1) (fun hHeld => ?_)
      generalize wr.drew = wd at *
      refine wpAnyH_take (i := 0) (v := ?va1) (by simp; rfl) (by kernel_rfl) (by kernel_rfl) (by kernel_rfl) (fun _ _ _ h => h) (Or.inl ⟨by rfl, ?ya1⟩) hHeld ?ra1
      case ya1 => intro w hSw; clear hSw; go_simp; with_reducible rfl
      simp only [Act.put, List.setIfInBounds_toArray, List.set_cons_zero, List.set_cons_succ]
      refine wpAnyH_take (i := 1) (v := ?va2) (by simp; rfl) (by kernel_rfl) (by kernel_rfl) (by kernel_rfl) (fun _ _ _ h => h) (Or.inl ⟨by rfl, ?ya2⟩) hHeld ?ra2
      case ya2 => intro w hSw; clear hSw; go_simp; with_reducible rfl
      simp only [Act.put, List.setIfInBounds_toArray, List.set_cons_zero, List.set_cons_succ]
      refine wpAnyH_take (i := 3) (v := ?va3) (by simp; rfl) (by kernel_rfl) (by kernel_rfl) (by kernel_rfl) (fun _ _ _ h => h) (Or.inl ⟨by rfl, ?ya3⟩) hHeld ?ra3
      case ya3 => intro w hSw; clear hSw; go_simp; with_reducible rfl
      simp only [Act.put, List.setIfInBounds_toArray, List.set_cons_zero, List.set_cons_succ]
      refine wpAnyH_take (i := 4) (v := ?va4) (by simp; rfl) (by kernel_rfl) (by kernel_rfl) (by kernel_rfl) (fun _ _ _ h => h) (Or.inl ⟨by rfl, ?ya4⟩) hHeld ?ra4
      case ya4 => intro w hSw; clear hSw; go_simp; with_reducible rfl
      simp only [Act.put, List.setIfInBounds_toArray, List.set_cons_zero, List.set_cons_succ]
      refine wpAnyH_take (i := 5) (v := ?va5) (by simp; rfl) (by kernel_rfl) (by kernel_rfl) (by kernel_rfl) (fun _ _ _ h => h) (Or.inl ⟨by rfl, ?ya5⟩) hHeld ?ra5
      case ya5 => intro w hSw; clear hSw; go_simp; with_reducible rfl
      simp only [Act.put, List.setIfInBounds_toArray, List.set_cons_zero, List.set_cons_succ]
      refine wpAnyH_take (i := 6) (v := ?va6) (by simp; rfl) (by kernel_rfl) (by kernel_rfl) (by kernel_rfl) (fun _ _ _ h => h) (Or.inl ⟨by rfl, ?ya6⟩) hHeld ?ra6
      case ya6 => intro w hSw; have z := HC.out w hSw; clear hSw; go_simp; with_reducible rfl
      simp only [Act.put, List.setIfInBounds_toArray, List.set_cons_zero, List.set_cons_succ]
      refine wpAnyH_ready (rs := [2]) (by kernel_rfl) (by simp) ?_
      refine AllReadyH.cons (by simp; rfl) (fun Kc hKc => ?_) AllReadyH.nil
      go_simp
      refine (o_queue (HO.out.later (below_then HB.out hHeld)) hn (k : Int) HL.out).mono ?_
      rintro e w5 ⟨v5, rfl, hm, -⟩
      obtain ⟨q5, c5, rfl, hU5, -, -⟩ := hm.read
      have H5 : Hid (UIn w5 q5 l.length l) := hU5
      have HB5 : Hid (Below wr.heap.size wr w5) := below_then hHeld hm.below
      clear hm hU5
      refine hKc.out _ _ HB5.out (fun hHeld => ?_)
      clear hKc Kc
      refine wpAnyH_ready (rs := [7]) (by kernel_rfl) (by simp) ?_
      refine AllReadyH.cons (by simp; rfl) (fun Kc hKc => ?_) AllReadyH.nil
      go_simp
      refine (sameT_is q5 pk l.length c5 l.length ck l l w5 H5.out (HI.out w5 HB5.out) (by omega)).mono ?_
      rintro e w6 ⟨rfl, m6, hm6⟩
      have HB6 : Hid (Below wr.heap.size wr w6) := by rw [hm6]; exact below_then HB5.out (below_drawn m6)
      clear hm6
      refine hKc.out _ _ HB6.out (fun hHeld => ?_)
      clear hKc Kc
      try simp only [decide_true]
      refine wpAnyH_take (i := 8) (v := ?va7) (by simp; rfl) (by kernel_rfl) (by kernel_rfl) (by kernel_rfl) (fun _ _ _ h => h) (Or.inl ⟨by rfl, ?ya7⟩) hHeld ?ra7
      case ya7 => intro w hSw; clear hSw; go_simp; with_reducible rfl
      simp only [Act.put, List.setIfInBounds_toArray, List.set_cons_zero, List.set_cons_succ]
      have HBZ : Hid (Below w.heap.size w w6) := below_then HB.out hHeld
      clear hHeld
      refine wpAnyH_done (by kernel_rfl) (NoPanic.normal ?_) _
      clear HC HI H5 HB5 HB6
      go_wp2
      go_roundw
      case rel => exact ⟨k + 1, by omega, by go_num, HBZ.out⟩
      case measure => simp [intOf]; omega

    · have i1 : ¬ (k : Int) < (N : Int) := by omega
      obtain ⟨wp, hwp⟩ : ∃ wp, wp = wr := ⟨_, rfl⟩
      subst hwp
      go_wp2_with fail
      go_loopw [12] (fun i wr => ∃ k : Nat, k ≤ K ∧ i = .int .i64 k ∧ Hid (Below w.heap.size w wr)) (fun i _ => K - (intOf i).toNat)
      case atStart => exact ⟨0, Nat.zero_le _, rfl, HB.out⟩
      case round =>
        clear HB
        obtain ⟨k, hk, rfl, HB⟩ := hrel
        by_cases hlt : k < K
        · obtain ⟨bq, pk, ck, rfl, hc1, hu1⟩ := HH.out.1 k hlt
          have hln := HH.out.2 ((k : Int) + 1)
          obtain ⟨l, HL⟩ : ∃ l, Hid ((ent a.L ((k : Int) + 1)).held = l) := ⟨_, rfl⟩
          obtain ⟨dk, HDk⟩ : ∃ l, Hid ((ent a.L ((k : Int) + 1)).d = l) := ⟨_, rfl⟩
          rw [HDk.out] at hln
          dsimp only at hc1 hu1
          rw [HL.out] at hc1 hu1
          have HC : Hid (∀ w', Below wr.heap.size wr w' → w'.cell? ⟨bq, k, none⟩ = some (.slice pk l.length ck)) := fun w' hb => ((below_then HB.out hb).cell (p := ⟨bq, k, none⟩) (World.block_lt_of_cell? w _ hc1)).trans hc1
          have HI : Hid (∀ w', Below wr.heap.size wr w' → B.IIn w' pk l.length l) := fun w' hb => hu1.later (below_then HB.out hb)
          have i1 : (k : Int) < (K : Int) := by omega
          have i2 : (k : Int) < (nh : Int) := by omega
          have i0 : (0 : Int) ≤ (k : Int) := by omega
          have hw1 : wrap64 ((k : Int) + 1) = (k : Int) + 1 := by unfold wrap64; omega
          have hw3 : IntKind.i64.wrap ((k : Int) + 1) = (k : Int) + 1 := by rw [IntKind.wrap_i64]; omega
          have hw2 : IntKind.u64.wrap ((k : Int) + 1) = (k : Int) + 1 := by rw [IntKind.wrap_u64]; omega
          clear hc1 hu1
          go_wp2_with fail
          refine wp_region_noPanic ?_
          refine wp_region_held_drew (S := fun w' => Below wr.heap.size wr w') (by kernel_rfl) (below_drawn 1) (fun hHeld => ?_)
          generalize wr.drew = wd at *
          refine wpAnyH_take (i := 0) (v := ?va8) (by simp; rfl) (by kernel_rfl) (by kernel_rfl) (by kernel_rfl) (fun _ _ _ h => h) (Or.inl ⟨by rfl, ?ya8⟩) hHeld ?ra8
          case ya8 => intro w hSw; clear hSw; go_simp; with_reducible rfl
          simp only [Act.put, List.setIfInBounds_toArray, List.set_cons_zero, List.set_cons_succ]
          refine wpAnyH_take (i := 1) (v := ?va9) (by simp; rfl) (by kernel_rfl) (by kernel_rfl) (by kernel_rfl) (fun _ _ _ h => h) (Or.inl ⟨by rfl, ?ya9⟩) hHeld ?ra9
          case ya9 => intro w hSw; clear hSw; go_simp; with_reducible rfl
          simp only [Act.put, List.setIfInBounds_toArray, List.set_cons_zero, List.set_cons_succ]
          refine wpAnyH_take (i := 2) (v := ?va10) (by simp; rfl) (by kernel_rfl) (by kernel_rfl) (by kernel_rfl) (fun _ _ _ h => h) (Or.inl ⟨by rfl, ?ya10⟩) hHeld ?ra10
          case ya10 => intro w hSw; clear hSw; go_simp; with_reducible rfl
          simp only [Act.put, List.setIfInBounds_toArray, List.set_cons_zero, List.set_cons_succ]
          refine wpAnyH_take (i := 3) (v := ?va11) (by simp; rfl) (by kernel_rfl) (by kernel_rfl) (by kernel_rfl) (fun _ _ _ h => h) (Or.inl ⟨by rfl, ?ya11⟩) hHeld ?ra11
          case ya11 => intro w hSw; clear hSw; go_simp; with_reducible rfl
          simp only [Act.put, List.setIfInBounds_toArray, List.set_cons_zero, List.set_cons_succ]
          refine wpAnyH_take (i := 5) (v := ?va12) (by simp; rfl) (by kernel_rfl) (by kernel_rfl) (by kernel_rfl) (fun _ _ _ h => h) (Or.inl ⟨by rfl, ?ya12⟩) hHeld ?ra12
          case ya12 => intro w hSw; clear hSw; go_simp; with_reducible rfl
          simp only [Act.put, List.setIfInBounds_toArray, List.set_cons_zero, List.set_cons_succ]
          refine wpAnyH_take (i := 6) (v := ?va13) (by simp; rfl) (by kernel_rfl) (by kernel_rfl) (by kernel_rfl) (fun _ _ _ h => h) (Or.inl ⟨by rfl, ?ya13⟩) hHeld ?ra13
          case ya13 => intro w hSw; clear hSw; go_simp; with_reducible rfl
          simp only [Act.put, List.setIfInBounds_toArray, List.set_cons_zero, List.set_cons_succ]
          refine wpAnyH_take (i := 7) (v := ?va14) (by simp; rfl) (by kernel_rfl) (by kernel_rfl) (by kernel_rfl) (fun _ _ _ h => h) (Or.inl ⟨by rfl, ?ya14⟩) hHeld ?ra14
          case ya14 => intro w hSw; clear hSw; go_simp; with_reducible rfl
          simp only [Act.put, List.setIfInBounds_toArray, List.set_cons_zero, List.set_cons_succ]
          refine wpAnyH_take (i := 8) (v := ?va15) (by simp; rfl) (by kernel_rfl) (by kernel_rfl) (by kernel_rfl) (fun _ _ _ h => h) (Or.inl ⟨by rfl, ?ya15⟩) hHeld ?ra15
          case ya15 => intro w hSw; have z := HC.out w hSw; clear hSw; go_simp; with_reducible rfl
          simp only [Act.put, List.setIfInBounds_toArray, List.set_cons_zero, List.set_cons_succ]
          refine wpAnyH_ready (rs := [4]) (by kernel_rfl) (by simp) ?_
          refine AllReadyH.cons (by simp; rfl) (fun Kc hKc => ?_) AllReadyH.nil
          go_simp
          try simp only [hw3, hw2]
          refine (o_held (HO.out.later (below_then HB.out hHeld)) (t := (k : Int) + 1) (u64_small (by omega) (by omega))).mono ?_
          rintro e w5 ⟨q5, c5, he5, hm, -⟩
          rw [HL.out, HDk.out] at hm
          rw [HDk.out] at he5
          subst he5
          have H5 : Hid (B.IIn w5 q5 dk l) := hm.read
          have HB5 : Hid (Below wr.heap.size wr w5) := below_then hHeld hm.below
          clear hm
          refine hKc.out _ _ HB5.out (fun hHeld => ?_)
          clear hKc Kc
          refine wpAnyH_ready (rs := [9]) (by kernel_rfl) (by simp) ?_
          refine AllReadyH.cons (by simp; rfl) (fun Kc hKc => ?_) AllReadyH.nil
          go_simp
          refine (sameI_is q5 pk dk c5 l.length ck l l w5 H5.out (HI.out w5 HB5.out) (by omega)).mono ?_
          rintro e w6 ⟨rfl, m6, hm6⟩
          have HB6 : Hid (Below wr.heap.size wr w6) := by rw [hm6]; exact below_then HB5.out (below_drawn m6)
          clear hm6
          refine hKc.out _ _ HB6.out (fun hHeld => ?_)
          clear hKc Kc
          try simp only [decide_true]
          refine wpAnyH_take (i := 10) (v := ?va16) (by simp; rfl) (by kernel_rfl) (by kernel_rfl) (by kernel_rfl) (fun _ _ _ h => h) (Or.inl ⟨by rfl, ?ya16⟩) hHeld ?ra16
          case ya16 => intro w hSw; clear hSw; go_simp; with_reducible rfl
          simp only [Act.put, List.setIfInBounds_toArray, List.set_cons_zero, List.set_cons_succ]
          have HBZ : Hid (Below w.heap.size w w6) := below_then HB.out hHeld
          clear hHeld
          refine wpAnyH_done (by kernel_rfl) (NoPanic.normal ?_) _
          clear HC HI H5 HB5 HB6
          go_wp2
          go_roundw
          case rel => exact ⟨k + 1, by omega, by go_num, HBZ.out⟩
          case measure => simp [intOf]; omega

        · have i1 : ¬ (k : Int) < (K : Int) := by omega
          go_wp2
          go_ret
          exact ⟨rfl, HB.out⟩
end Go.Proofs.Ytkffmglcllhbmaa
