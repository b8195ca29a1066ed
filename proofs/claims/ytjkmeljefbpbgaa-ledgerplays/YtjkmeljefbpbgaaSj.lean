/-
  Layer 12: LedgerPlays.
-/
import Derived.Test.YtjkmeljefbpbgaaSi
namespace Go.Proofs.Ytjkmeljefbpbgaa
open Go.RowKit

variable {w0 w w' : World} {P : Nat} {T : Nat → Th} {S : Nat → Lg} {N : Nat}

theorem two_at {w : World} {b : Nat} {x y : Value} (h : w.heap[b]? = some (.cells #[x, y] 42 (0, 0))) : w.cell? ⟨b, 0, none⟩ = some x ∧ w.cell? ⟨b, 1, none⟩ = some y := ⟨by rw [cell_of_row _ b 0 _ 42 (0, 0) h]; rfl, by rw [cell_of_row _ b 1 _ 42 (0, 0) h]; rfl⟩
theorem may54 : mayNew 5 4 := by decide

set_option maxRecDepth 100000 in
set_option maxHeartbeats 8000000 in
theorem ledgerPlays_any (a0 a1 b0 b1 : Int) (p : Option Addr) (len cap : Nat) (f : Nat → OpV) (w : World) (hp : ScIn w p len f) (hn : len ≤ 9223372036854775807) :
    Calls Try.prog 5 #[.agg #[.int .i64 a0, .int .i64 a1], .agg #[.int .i64 b0, .int .i64 b1], .slice p len cap] w fun e w' => e = .returned (.bool true) ∧ Below w.heap.size w w' := by
  have HP : Hid (ScIn w p len f) := hp
  clear hp
  have HB : Hid (Below w.heap.size w ((w.alloc (.cells #[.int .i64 a0, .int .i64 a1] 42)).alloc (.cells #[.int .i64 b0, .int .i64 b1] 42)) ∧ ((w.alloc (.cells #[.int .i64 a0, .int .i64 a1] 42)).alloc (.cells #[.int .i64 b0, .int .i64 b1] 42)).heap[w.heap.size]? = some (.cells #[.int .i64 a0, .int .i64 a1] 42 (0, 0)) ∧ ((w.alloc (.cells #[.int .i64 a0, .int .i64 a1] 42)).alloc (.cells #[.int .i64 b0, .int .i64 b1] 42)).heap[w.heap.size + 1]? = some (.cells #[.int .i64 b0, .int .i64 b1] 42 (0, 0))) := by
    have e : (w.alloc (.cells #[.int .i64 a0, .int .i64 a1] 42)).heap.size = w.heap.size + 1 := by simp
    refine ⟨below_then (below_alloc w _) (below_alloc _ _), ((below_alloc _ _).block _ (by rw [e]; omega)).trans (heap_alloc_new w _), ?_⟩
    rw [← e]
    exact heap_alloc_new _ _
  go_enter Try.func5, Try.ntmps5
  go_wp2_with fail
  generalize (w.alloc (.cells #[.int .i64 a0, .int .i64 a1] 42)).alloc (.cells #[.int .i64 b0, .int .i64 b1] 42) = wx at *
  refine (awake_any wx).mono ?_
  rintro e wa ⟨rfl, ba⟩
  have HA : Hid (Below w.heap.size w wa ∧ wa.heap[w.heap.size]? = some (.cells #[.int .i64 a0, .int .i64 a1] 42 (0, 0)) ∧ wa.heap[w.heap.size + 1]? = some (.cells #[.int .i64 b0, .int .i64 b1] 42 (0, 0))) := ⟨below_then HB.out.1 ba, (ba.block _ (Array.getElem?_eq_some_iff.1 HB.out.2.1).1).trans HB.out.2.1, (ba.block _ (Array.getElem?_eq_some_iff.1 HB.out.2.2).1).trans HB.out.2.2⟩
  clear ba HB
  go_wp2_with fail
  have N1 : Hid (∃ T S, PI wa (wa.alloc (.cells #[nilp, nilp, nilp, nilp] 48)) wa.heap.size T S 0) := ⟨fun _ => .led 0 0 0 (newS 0 0), fun _ => newS 0 0, PI.start wa _ _⟩
  revert N1
  generalize wa.alloc (.cells #[nilp, nilp, nilp, nilp] 48) = w1
  generalize wa.heap.size = P
  intro N1
  go_loopw [8] (fun i wr => ∃ M : Nat, M ≤ 2 ∧ i = .int .i64 M ∧ Hid (∃ T S, PI wa wr P T S M)) (fun i _ => 2 - (intOf i).toNat)
  case atStart => exact ⟨0, by omega, rfl, N1⟩
  case round =>
    clear N1
    obtain ⟨M, hM, rfl, N2⟩ := hrel
    by_cases hM2 : M < 2
    · have BW : Hid (Below wa.heap.size wa wr) := by obtain ⟨T, S, hh⟩ := N2.out; exact hh.below
      have J0 : Hid (wr.heap[w.heap.size]? = some (.cells #[.int .i64 a0, .int .i64 a1] 42 (0, 0))) := (BW.out.block _ (Array.getElem?_eq_some_iff.1 HA.out.2.1).1).trans HA.out.2.1
      have J1 : Hid (wr.heap[w.heap.size + 1]? = some (.cells #[.int .i64 b0, .int .i64 b1] 42 (0, 0))) := (BW.out.block _ (Array.getElem?_eq_some_iff.1 HA.out.2.2).1).trans HA.out.2.2
      have j0 := (two_at J0.out).1
      have j1 := (two_at J0.out).2
      have j2 := (two_at J1.out).1
      have j3 := (two_at J1.out).2
      clear BW
      rcases (show M = 0 ∨ M = 1 by omega) with rfl | rfl
      · clear j2 j3
        go_wp2_with fail
        have PZ : Hid (∃ T S, PI wa (wr.alloc (.cells #[.int .i64 a0, .int .i64 a1] 42)) P T S 0) := by obtain ⟨T, S, hh⟩ := N2.out; exact ⟨T, S, hh.later (below_alloc wr _)⟩
        have XZ : Hid ((wr.alloc (.cells #[.int .i64 a0, .int .i64 a1] 42)).heap[wr.heap.size]? = some (.cells #[.int .i64 a0, .int .i64 a1] 42 (0, 0))) := heap_alloc_new wr _
        generalize wr.alloc (.cells #[.int .i64 a0, .int .i64 a1] 42) = wz at *
        generalize wr.heap.size = xb at *
        have y0 := (two_at XZ.out).1
        have y1 := (two_at XZ.out).2
        clear N2 j0 j1
        by_cases hm : mayNew a0 a1
        · as_aux_lemma =>
            go_wp2_with fail
            refine (new_ok wz hm).mono ?_
            rintro e w3 ⟨rfl, hl, hb3⟩
            have L3 : Hid (LAt w3 (wz.heap.size + 1) wz.heap.size 0 (newS a0 a1) ∧ Below wz.heap.size wz w3) := ⟨hl, hb3⟩
            clear hl hb3
            have XW : Hid (w3.heap[xb]? = some (.cells #[.int .i64 a0, .int .i64 a1] 42 (0, 0))) := (L3.out.2.block xb (Array.getElem?_eq_some_iff.1 XZ.out).1).trans XZ.out
            have y0 := (two_at XW.out).1
            have y1 := (two_at XW.out).2
            clear XZ XW
            go_wp2_with fail
            refine (rnew_ok wa w3 hm).mono ?_
            rintro e w4 ⟨rfl, hr, hb4⟩
            have L4' : Hid (LAt w4 (wz.heap.size + 1) wz.heap.size 0 (newS a0 a1)) := L3.out.1.later hb4
            have R4' : Hid (RAt wa w4 w3.heap.size (.slice none 0 0) (newS a0 a1) 0 0 [] 0) := hr
            have B4 : Hid (Below wz.heap.size wz w4) := below_then L3.out.2 hb4
            have HQ' : Hid (wz.heap.size ≤ wz.heap.size + 1 ∧ wz.heap.size ≤ wz.heap.size ∧ wz.heap.size ≤ w3.heap.size) := ⟨Nat.le_succ _, Nat.le_refl _, L3.out.2.size⟩
            have OK : Hid (Ok (newS a0 a1)) := Ok.new hm
            clear hr hb4 L3
            clear y0 y1
            obtain ⟨Q, hQ⟩ : ∃ Q, wz.heap.size + 1 = Q := ⟨_, rfl⟩
            obtain ⟨b, hb⟩ : ∃ b, b = wz.heap.size := ⟨_, rfl⟩
            obtain ⟨R, hR⟩ : ∃ R, w3.heap.size = R := ⟨_, rfl⟩
            have L4 : Hid (LAt w4 Q b 0 (newS a0 a1)) := by rw [← hQ, hb]; exact L4'
            have R4 : Hid (RAt wa w4 R (.slice none 0 0) (newS a0 a1) 0 0 [] 0) := by rw [← hR]; exact R4'
            have HQ : Hid (wz.heap.size ≤ Q ∧ wz.heap.size ≤ b ∧ wz.heap.size ≤ R) := by rw [← hQ, hb, ← hR]; exact HQ'
            rw [hQ, hR]
            clear L4' R4' HQ' hQ hb hR
            go_wp2_with fail
            refine wp_region_noPanic ?_
            refine wp_region_held_drew (S := fun _ => True) (by kernel_rfl) trivial (fun hHeld => ?_)
            have L5 : Hid (LAt w4.drew Q b 0 (newS a0 a1)) := L4.out.later (below_drawn 1)
            have R5 : Hid (RAt wa w4.drew R (.slice none 0 0) (newS a0 a1) 0 0 [] 0) := R4.out.later (below_drawn 1)
            have B5 : Hid (Below wz.heap.size wz w4.drew) := below_then B4.out (below_drawn 1)
            clear L4 R4 B4
            generalize w4.drew = we at *
            obtain ⟨T, S, hz⟩ := PZ.out
            obtain ⟨c1, f1, c2, f2⟩ := hz.cells (by omega) (Q := Q) B5.out
            have A6 : Hid (∃ T' S', PI wa ((we.setCell ⟨P, 0, none⟩ (lp Q)).setCell ⟨P, 2 + 0, none⟩ (lp R)) P T' S' (0 + 1)) := hz.add (by omega) L5.out R5.out OK.out B5.out HQ.out.1 HQ.out.2.1 HQ.out.2.2
            clear hz L5 R5 B5 PZ
            refine wpAnyH_take (i := 0) (v := ?va1) (by simp; rfl) (by kernel_rfl) (by kernel_rfl) (by kernel_rfl) (fun _ _ _ h => h) (Or.inl ⟨by rfl, ?ya1⟩) hHeld ?ra1
            case ya1 => intro w hSw; clear hSw; go_simp; with_reducible rfl
            simp only [Act.put, List.setIfInBounds_toArray, List.set_cons_zero, List.set_cons_succ]
            refine wpAnyH_take (i := 1) (v := ?va2) (by simp; rfl) (by kernel_rfl) (by kernel_rfl) (by kernel_rfl) (fun _ _ _ h => h) (Or.inl ⟨by rfl, ?ya2⟩) hHeld ?ra2
            case ya2 => intro w hSw; clear hSw; go_simp; with_reducible rfl
            simp only [Act.put, List.setIfInBounds_toArray, List.set_cons_zero, List.set_cons_succ]
            refine wpAnyH_take (i := 2) (v := ?va3) (by simp; rfl) (by kernel_rfl) (by kernel_rfl) (by kernel_rfl) (fun _ _ _ h => h) (Or.inl ⟨by rfl, ?ya3⟩) hHeld ?ra3
            case ya3 => intro w hSw; clear hSw; go_simp; with_reducible rfl
            simp only [Act.put, List.setIfInBounds_toArray, List.set_cons_zero, List.set_cons_succ]
            refine wpAnyH_take (i := 3) (v := ?va4) (by simp; rfl) (by kernel_rfl) (by kernel_rfl) (by kernel_rfl) (fun _ _ _ h => h) (Or.inl ⟨by rfl, ?ya4⟩) hHeld ?ra4
            case ya4 => intro w hSw; clear hSw; go_simp; with_reducible rfl
            simp only [Act.put, List.setIfInBounds_toArray, List.set_cons_zero, List.set_cons_succ]
            refine wpAnyH_take (i := 4) (v := ?va5) (by simp; rfl) (by kernel_rfl) (by kernel_rfl) (by kernel_rfl) (fun _ _ _ h => h) (Or.inl ⟨by rfl, ?ya5⟩) hHeld ?ra5
            case ya5 => intro w hSw; clear hSw; go_simp; with_reducible rfl
            simp only [Act.put, List.setIfInBounds_toArray, List.set_cons_zero, List.set_cons_succ]
            refine wpAnyH_take (i := 5) (v := ?va6) (by simp; rfl) (by kernel_rfl) (by kernel_rfl) (by kernel_rfl) (fun _ _ _ h => h) (Or.inl ⟨by rfl, ?ya6⟩) hHeld ?ra6
            case ya6 => intro w hSw; clear hSw; go_simp; with_reducible rfl
            simp only [Act.put, List.setIfInBounds_toArray, List.set_cons_zero, List.set_cons_succ]
            refine wpAnyH_take (i := 6) (v := ?va7) (by simp; rfl) (by kernel_rfl) (by kernel_rfl) (by kernel_rfl) (fun _ _ _ h => h) (Or.inl ⟨by rfl, ?ya7⟩) hHeld ?ra7
            case ya7 => intro w hSw; clear hSw; go_simp; with_reducible rfl
            simp only [Act.put, List.setIfInBounds_toArray, List.set_cons_zero, List.set_cons_succ]
            refine wpAnyH_take (i := 7) (v := ?va8) (by simp; rfl) (by kernel_rfl) (by kernel_rfl) (by kernel_rfl) (fun _ _ _ h => h) (Or.inl ⟨by rfl, ?ya8⟩) hHeld ?ra8
            case ya8 => intro w hSw; clear hSw; go_simp; with_reducible rfl
            simp only [Act.put, List.setIfInBounds_toArray, List.set_cons_zero, List.set_cons_succ]
            refine wpAnyH_take (i := 8) (v := ?va9) (by simp; rfl) (by kernel_rfl) (by kernel_rfl) (by kernel_rfl) (fun _ _ _ h => h) (Or.inl ⟨by rfl, ?ya9⟩) hHeld ?ra9
            case ya9 => intro w hSw; clear hSw; go_simp; with_reducible rfl
            simp only [Act.put, List.setIfInBounds_toArray, List.set_cons_zero, List.set_cons_succ]
            refine wpAnyH_take (i := 10) (v := ?va10) (by simp; rfl) (by kernel_rfl) (by kernel_rfl) (by kernel_rfl) (fun _ _ _ h => h) (Or.inl ⟨by rfl, ?ya10⟩) hHeld ?ra10
            case ya10 => intro w hSw; clear hSw; go_simp; with_reducible rfl
            simp only [Act.put, List.setIfInBounds_toArray, List.set_cons_zero, List.set_cons_succ]
            refine wpAnyH_take (i := 11) (v := ?va11) (by simp; rfl) (by kernel_rfl) (by kernel_rfl) (by kernel_rfl) (fun _ _ _ h => h) (Or.inl ⟨by rfl, ?ya11⟩) hHeld ?ra11
            case ya11 => intro w hSw; clear hSw; go_simp; with_reducible rfl
            simp only [Act.put, List.setIfInBounds_toArray, List.set_cons_zero, List.set_cons_succ]
            refine wpAnyH_ready (rs := [9]) (by kernel_rfl) (by simp) ?_
            refine AllReadyH.cons (by simp; rfl) (fun Kc hKc => ?_) AllReadyH.nil
            go_simp
            refine hKc.out _ _ trivial (fun hHeld => ?_)
            clear hKc Kc
            refine wpAnyH_take (i := 12) (v := ?va12) (by simp; rfl) (by kernel_rfl) (by kernel_rfl) (by kernel_rfl) (fun _ _ _ h => h) (Or.inl ⟨by rfl, ?ya12⟩) hHeld ?ra12
            case ya12 => intro w hSw; clear hSw; go_simp; with_reducible rfl
            simp only [Act.put, List.setIfInBounds_toArray, List.set_cons_zero, List.set_cons_succ]
            refine wpAnyH_ready (rs := [13]) (by kernel_rfl) (by simp) ?_
            refine AllReadyH.cons (by simp; rfl) (fun Kc hKc => ?_) AllReadyH.nil
            go_simp
            refine hKc.out _ _ trivial (fun hHeld => ?_)
            clear hKc Kc
            clear hHeld
            refine wpAnyH_done (by kernel_rfl) (NoPanic.normal ?_) _
            clear c1 f1 c2 f2
            go_wp2_with fail
            go_roundw
            case rel => exact ⟨0 + 1, by omega, by go_num, A6⟩
            case measure => simp [intOf]
        · as_aux_lemma =>
            go_wp2_with fail
            refine (new_bad wz hm).mono ?_
            rintro e w2 ⟨rfl, rfl⟩
            go_wp2_with fail
            refine (rnew_bad w2 hm).mono ?_
            rintro e wz ⟨rfl, rfl⟩
            clear y0 y1 XZ
            go_wp2_with fail
            refine (new_ok wz may54).mono ?_
            rintro e w3 ⟨rfl, hl, hb3⟩
            have L3 : Hid (LAt w3 (wz.heap.size + 1) wz.heap.size 0 (newS 5 4) ∧ Below wz.heap.size wz w3) := ⟨hl, hb3⟩
            clear hl hb3
            go_wp2_with fail
            refine (rnew_ok wa w3 may54).mono ?_
            rintro e w4 ⟨rfl, hr, hb4⟩
            have L4' : Hid (LAt w4 (wz.heap.size + 1) wz.heap.size 0 (newS 5 4)) := L3.out.1.later hb4
            have R4' : Hid (RAt wa w4 w3.heap.size (.slice none 0 0) (newS 5 4) 0 0 [] 0) := hr
            have B4 : Hid (Below wz.heap.size wz w4) := below_then L3.out.2 hb4
            have HQ' : Hid (wz.heap.size ≤ wz.heap.size + 1 ∧ wz.heap.size ≤ wz.heap.size ∧ wz.heap.size ≤ w3.heap.size) := ⟨Nat.le_succ _, Nat.le_refl _, L3.out.2.size⟩
            have OK : Hid (Ok (newS 5 4)) := Ok.new may54
            clear hr hb4 L3
            obtain ⟨Q, hQ⟩ : ∃ Q, wz.heap.size + 1 = Q := ⟨_, rfl⟩
            obtain ⟨b, hb⟩ : ∃ b, b = wz.heap.size := ⟨_, rfl⟩
            obtain ⟨R, hR⟩ : ∃ R, w3.heap.size = R := ⟨_, rfl⟩
            have L4 : Hid (LAt w4 Q b 0 (newS 5 4)) := by rw [← hQ, hb]; exact L4'
            have R4 : Hid (RAt wa w4 R (.slice none 0 0) (newS 5 4) 0 0 [] 0) := by rw [← hR]; exact R4'
            have HQ : Hid (wz.heap.size ≤ Q ∧ wz.heap.size ≤ b ∧ wz.heap.size ≤ R) := by rw [← hQ, hb, ← hR]; exact HQ'
            rw [hQ, hR]
            clear L4' R4' HQ' hQ hb hR
            go_wp2_with fail
            refine wp_region_noPanic ?_
            refine wp_region_held_drew (S := fun _ => True) (by kernel_rfl) trivial (fun hHeld => ?_)
            have L5 : Hid (LAt w4.drew Q b 0 (newS 5 4)) := L4.out.later (below_drawn 1)
            have R5 : Hid (RAt wa w4.drew R (.slice none 0 0) (newS 5 4) 0 0 [] 0) := R4.out.later (below_drawn 1)
            have B5 : Hid (Below wz.heap.size wz w4.drew) := below_then B4.out (below_drawn 1)
            clear L4 R4 B4
            generalize w4.drew = we at *
            obtain ⟨T, S, hz⟩ := PZ.out
            obtain ⟨c1, f1, c2, f2⟩ := hz.cells (by omega) (Q := Q) B5.out
            have A6 : Hid (∃ T' S', PI wa ((we.setCell ⟨P, 0, none⟩ (lp Q)).setCell ⟨P, 2 + 0, none⟩ (lp R)) P T' S' (0 + 1)) := hz.add (by omega) L5.out R5.out OK.out B5.out HQ.out.1 HQ.out.2.1 HQ.out.2.2
            clear hz L5 R5 B5 PZ
            refine wpAnyH_take (i := 0) (v := ?va13) (by simp; rfl) (by kernel_rfl) (by kernel_rfl) (by kernel_rfl) (fun _ _ _ h => h) (Or.inl ⟨by rfl, ?ya13⟩) hHeld ?ra13
            case ya13 => intro w hSw; clear hSw; go_simp; with_reducible rfl
            simp only [Act.put, List.setIfInBounds_toArray, List.set_cons_zero, List.set_cons_succ]
            refine wpAnyH_take (i := 1) (v := ?va14) (by simp; rfl) (by kernel_rfl) (by kernel_rfl) (by kernel_rfl) (fun _ _ _ h => h) (Or.inl ⟨by rfl, ?ya14⟩) hHeld ?ra14
            case ya14 => intro w hSw; clear hSw; go_simp; with_reducible rfl
            simp only [Act.put, List.setIfInBounds_toArray, List.set_cons_zero, List.set_cons_succ]
            refine wpAnyH_take (i := 2) (v := ?va15) (by simp; rfl) (by kernel_rfl) (by kernel_rfl) (by kernel_rfl) (fun _ _ _ h => h) (Or.inl ⟨by rfl, ?ya15⟩) hHeld ?ra15
            case ya15 => intro w hSw; clear hSw; go_simp; with_reducible rfl
            simp only [Act.put, List.setIfInBounds_toArray, List.set_cons_zero, List.set_cons_succ]
            refine wpAnyH_take (i := 3) (v := ?va16) (by simp; rfl) (by kernel_rfl) (by kernel_rfl) (by kernel_rfl) (fun _ _ _ h => h) (Or.inl ⟨by rfl, ?ya16⟩) hHeld ?ra16
            case ya16 => intro w hSw; clear hSw; go_simp; with_reducible rfl
            simp only [Act.put, List.setIfInBounds_toArray, List.set_cons_zero, List.set_cons_succ]
            refine wpAnyH_take (i := 4) (v := ?va17) (by simp; rfl) (by kernel_rfl) (by kernel_rfl) (by kernel_rfl) (fun _ _ _ h => h) (Or.inl ⟨by rfl, ?ya17⟩) hHeld ?ra17
            case ya17 => intro w hSw; clear hSw; go_simp; with_reducible rfl
            simp only [Act.put, List.setIfInBounds_toArray, List.set_cons_zero, List.set_cons_succ]
            refine wpAnyH_take (i := 5) (v := ?va18) (by simp; rfl) (by kernel_rfl) (by kernel_rfl) (by kernel_rfl) (fun _ _ _ h => h) (Or.inl ⟨by rfl, ?ya18⟩) hHeld ?ra18
            case ya18 => intro w hSw; clear hSw; go_simp; with_reducible rfl
            simp only [Act.put, List.setIfInBounds_toArray, List.set_cons_zero, List.set_cons_succ]
            refine wpAnyH_take (i := 6) (v := ?va19) (by simp; rfl) (by kernel_rfl) (by kernel_rfl) (by kernel_rfl) (fun _ _ _ h => h) (Or.inl ⟨by rfl, ?ya19⟩) hHeld ?ra19
            case ya19 => intro w hSw; clear hSw; go_simp; with_reducible rfl
            simp only [Act.put, List.setIfInBounds_toArray, List.set_cons_zero, List.set_cons_succ]
            refine wpAnyH_take (i := 7) (v := ?va20) (by simp; rfl) (by kernel_rfl) (by kernel_rfl) (by kernel_rfl) (fun _ _ _ h => h) (Or.inl ⟨by rfl, ?ya20⟩) hHeld ?ra20
            case ya20 => intro w hSw; clear hSw; go_simp; with_reducible rfl
            simp only [Act.put, List.setIfInBounds_toArray, List.set_cons_zero, List.set_cons_succ]
            refine wpAnyH_take (i := 8) (v := ?va21) (by simp; rfl) (by kernel_rfl) (by kernel_rfl) (by kernel_rfl) (fun _ _ _ h => h) (Or.inl ⟨by rfl, ?ya21⟩) hHeld ?ra21
            case ya21 => intro w hSw; clear hSw; go_simp; with_reducible rfl
            simp only [Act.put, List.setIfInBounds_toArray, List.set_cons_zero, List.set_cons_succ]
            refine wpAnyH_take (i := 10) (v := ?va22) (by simp; rfl) (by kernel_rfl) (by kernel_rfl) (by kernel_rfl) (fun _ _ _ h => h) (Or.inl ⟨by rfl, ?ya22⟩) hHeld ?ra22
            case ya22 => intro w hSw; clear hSw; go_simp; with_reducible rfl
            simp only [Act.put, List.setIfInBounds_toArray, List.set_cons_zero, List.set_cons_succ]
            refine wpAnyH_take (i := 11) (v := ?va23) (by simp; rfl) (by kernel_rfl) (by kernel_rfl) (by kernel_rfl) (fun _ _ _ h => h) (Or.inl ⟨by rfl, ?ya23⟩) hHeld ?ra23
            case ya23 => intro w hSw; clear hSw; go_simp; with_reducible rfl
            simp only [Act.put, List.setIfInBounds_toArray, List.set_cons_zero, List.set_cons_succ]
            refine wpAnyH_ready (rs := [9]) (by kernel_rfl) (by simp) ?_
            refine AllReadyH.cons (by simp; rfl) (fun Kc hKc => ?_) AllReadyH.nil
            go_simp
            refine hKc.out _ _ trivial (fun hHeld => ?_)
            clear hKc Kc
            refine wpAnyH_take (i := 12) (v := ?va24) (by simp; rfl) (by kernel_rfl) (by kernel_rfl) (by kernel_rfl) (fun _ _ _ h => h) (Or.inl ⟨by rfl, ?ya24⟩) hHeld ?ra24
            case ya24 => intro w hSw; clear hSw; go_simp; with_reducible rfl
            simp only [Act.put, List.setIfInBounds_toArray, List.set_cons_zero, List.set_cons_succ]
            refine wpAnyH_ready (rs := [13]) (by kernel_rfl) (by simp) ?_
            refine AllReadyH.cons (by simp; rfl) (fun Kc hKc => ?_) AllReadyH.nil
            go_simp
            refine hKc.out _ _ trivial (fun hHeld => ?_)
            clear hKc Kc
            clear hHeld
            refine wpAnyH_done (by kernel_rfl) (NoPanic.normal ?_) _
            clear c1 f1 c2 f2
            go_wp2_with fail
            go_roundw
            case rel => exact ⟨0 + 1, by omega, by go_num, A6⟩
            case measure => simp [intOf]
      · have j4 : (wr.alloc (.cells #[.int .i64 a0, .int .i64 a1] 42)).cell? ⟨w.heap.size + 1, 0, none⟩ = some (.int .i64 b0) := ((below_alloc wr _).cell (p := ⟨w.heap.size + 1, 0, none⟩) (World.block_lt_of_cell? wr _ j2)).trans j2
        have j5 : (wr.alloc (.cells #[.int .i64 a0, .int .i64 a1] 42)).cell? ⟨w.heap.size + 1, 1, none⟩ = some (.int .i64 b1) := ((below_alloc wr _).cell (p := ⟨w.heap.size + 1, 1, none⟩) (World.block_lt_of_cell? wr _ j3)).trans j3
        go_wp2_with fail
        have PZ : Hid (∃ T S, PI wa (wr.alloc (.cells #[.int .i64 b0, .int .i64 b1] 42)) P T S 1) := by obtain ⟨T, S, hh⟩ := N2.out; exact ⟨T, S, hh.later (below_alloc wr _)⟩
        have XZ : Hid ((wr.alloc (.cells #[.int .i64 b0, .int .i64 b1] 42)).heap[wr.heap.size]? = some (.cells #[.int .i64 b0, .int .i64 b1] 42 (0, 0))) := heap_alloc_new wr _
        generalize wr.alloc (.cells #[.int .i64 b0, .int .i64 b1] 42) = wz at *
        generalize wr.heap.size = xb at *
        have y0 := (two_at XZ.out).1
        have y1 := (two_at XZ.out).2
        clear N2 j0 j1 j2 j3 j4 j5
        by_cases hm : mayNew b0 b1
        · as_aux_lemma =>
            go_wp2_with fail
            refine (new_ok wz hm).mono ?_
            rintro e w3 ⟨rfl, hl, hb3⟩
            have L3 : Hid (LAt w3 (wz.heap.size + 1) wz.heap.size 0 (newS b0 b1) ∧ Below wz.heap.size wz w3) := ⟨hl, hb3⟩
            clear hl hb3
            have XW : Hid (w3.heap[xb]? = some (.cells #[.int .i64 b0, .int .i64 b1] 42 (0, 0))) := (L3.out.2.block xb (Array.getElem?_eq_some_iff.1 XZ.out).1).trans XZ.out
            have y0 := (two_at XW.out).1
            have y1 := (two_at XW.out).2
            clear XZ XW
            go_wp2_with fail
            refine (rnew_ok wa w3 hm).mono ?_
            rintro e w4 ⟨rfl, hr, hb4⟩
            have L4' : Hid (LAt w4 (wz.heap.size + 1) wz.heap.size 0 (newS b0 b1)) := L3.out.1.later hb4
            have R4' : Hid (RAt wa w4 w3.heap.size (.slice none 0 0) (newS b0 b1) 0 0 [] 0) := hr
            have B4 : Hid (Below wz.heap.size wz w4) := below_then L3.out.2 hb4
            have HQ' : Hid (wz.heap.size ≤ wz.heap.size + 1 ∧ wz.heap.size ≤ wz.heap.size ∧ wz.heap.size ≤ w3.heap.size) := ⟨Nat.le_succ _, Nat.le_refl _, L3.out.2.size⟩
            have OK : Hid (Ok (newS b0 b1)) := Ok.new hm
            clear hr hb4 L3
            clear y0 y1
            obtain ⟨Q, hQ⟩ : ∃ Q, wz.heap.size + 1 = Q := ⟨_, rfl⟩
            obtain ⟨b, hb⟩ : ∃ b, b = wz.heap.size := ⟨_, rfl⟩
            obtain ⟨R, hR⟩ : ∃ R, w3.heap.size = R := ⟨_, rfl⟩
            have L4 : Hid (LAt w4 Q b 0 (newS b0 b1)) := by rw [← hQ, hb]; exact L4'
            have R4 : Hid (RAt wa w4 R (.slice none 0 0) (newS b0 b1) 0 0 [] 0) := by rw [← hR]; exact R4'
            have HQ : Hid (wz.heap.size ≤ Q ∧ wz.heap.size ≤ b ∧ wz.heap.size ≤ R) := by rw [← hQ, hb, ← hR]; exact HQ'
            rw [hQ, hR]
            clear L4' R4' HQ' hQ hb hR
            go_wp2_with fail
            refine wp_region_noPanic ?_
            refine wp_region_held_drew (S := fun _ => True) (by kernel_rfl) trivial (fun hHeld => ?_)
            have L5 : Hid (LAt w4.drew Q b 0 (newS b0 b1)) := L4.out.later (below_drawn 1)
            have R5 : Hid (RAt wa w4.drew R (.slice none 0 0) (newS b0 b1) 0 0 [] 0) := R4.out.later (below_drawn 1)
            have B5 : Hid (Below wz.heap.size wz w4.drew) := below_then B4.out (below_drawn 1)
            clear L4 R4 B4
            generalize w4.drew = we at *
            obtain ⟨T, S, hz⟩ := PZ.out
            obtain ⟨c1, f1, c2, f2⟩ := hz.cells (by omega) (Q := Q) B5.out
            have A6 : Hid (∃ T' S', PI wa ((we.setCell ⟨P, 1, none⟩ (lp Q)).setCell ⟨P, 2 + 1, none⟩ (lp R)) P T' S' (1 + 1)) := hz.add (by omega) L5.out R5.out OK.out B5.out HQ.out.1 HQ.out.2.1 HQ.out.2.2
            clear hz L5 R5 B5 PZ
            refine wpAnyH_take (i := 0) (v := ?va25) (by simp; rfl) (by kernel_rfl) (by kernel_rfl) (by kernel_rfl) (fun _ _ _ h => h) (Or.inl ⟨by rfl, ?ya25⟩) hHeld ?ra25
            case ya25 => intro w hSw; clear hSw; go_simp; with_reducible rfl
            simp only [Act.put, List.setIfInBounds_toArray, List.set_cons_zero, List.set_cons_succ]
            refine wpAnyH_take (i := 1) (v := ?va26) (by simp; rfl) (by kernel_rfl) (by kernel_rfl) (by kernel_rfl) (fun _ _ _ h => h) (Or.inl ⟨by rfl, ?ya26⟩) hHeld ?ra26
            case ya26 => intro w hSw; clear hSw; go_simp; with_reducible rfl
            simp only [Act.put, List.setIfInBounds_toArray, List.set_cons_zero, List.set_cons_succ]
            refine wpAnyH_take (i := 2) (v := ?va27) (by simp; rfl) (by kernel_rfl) (by kernel_rfl) (by kernel_rfl) (fun _ _ _ h => h) (Or.inl ⟨by rfl, ?ya27⟩) hHeld ?ra27
            case ya27 => intro w hSw; clear hSw; go_simp; with_reducible rfl
            simp only [Act.put, List.setIfInBounds_toArray, List.set_cons_zero, List.set_cons_succ]
            refine wpAnyH_take (i := 3) (v := ?va28) (by simp; rfl) (by kernel_rfl) (by kernel_rfl) (by kernel_rfl) (fun _ _ _ h => h) (Or.inl ⟨by rfl, ?ya28⟩) hHeld ?ra28
            case ya28 => intro w hSw; clear hSw; go_simp; with_reducible rfl
            simp only [Act.put, List.setIfInBounds_toArray, List.set_cons_zero, List.set_cons_succ]
            refine wpAnyH_take (i := 4) (v := ?va29) (by simp; rfl) (by kernel_rfl) (by kernel_rfl) (by kernel_rfl) (fun _ _ _ h => h) (Or.inl ⟨by rfl, ?ya29⟩) hHeld ?ra29
            case ya29 => intro w hSw; clear hSw; go_simp; with_reducible rfl
            simp only [Act.put, List.setIfInBounds_toArray, List.set_cons_zero, List.set_cons_succ]
            refine wpAnyH_take (i := 5) (v := ?va30) (by simp; rfl) (by kernel_rfl) (by kernel_rfl) (by kernel_rfl) (fun _ _ _ h => h) (Or.inl ⟨by rfl, ?ya30⟩) hHeld ?ra30
            case ya30 => intro w hSw; clear hSw; go_simp; with_reducible rfl
            simp only [Act.put, List.setIfInBounds_toArray, List.set_cons_zero, List.set_cons_succ]
            refine wpAnyH_take (i := 6) (v := ?va31) (by simp; rfl) (by kernel_rfl) (by kernel_rfl) (by kernel_rfl) (fun _ _ _ h => h) (Or.inl ⟨by rfl, ?ya31⟩) hHeld ?ra31
            case ya31 => intro w hSw; clear hSw; go_simp; with_reducible rfl
            simp only [Act.put, List.setIfInBounds_toArray, List.set_cons_zero, List.set_cons_succ]
            refine wpAnyH_take (i := 7) (v := ?va32) (by simp; rfl) (by kernel_rfl) (by kernel_rfl) (by kernel_rfl) (fun _ _ _ h => h) (Or.inl ⟨by rfl, ?ya32⟩) hHeld ?ra32
            case ya32 => intro w hSw; clear hSw; go_simp; with_reducible rfl
            simp only [Act.put, List.setIfInBounds_toArray, List.set_cons_zero, List.set_cons_succ]
            refine wpAnyH_take (i := 8) (v := ?va33) (by simp; rfl) (by kernel_rfl) (by kernel_rfl) (by kernel_rfl) (fun _ _ _ h => h) (Or.inl ⟨by rfl, ?ya33⟩) hHeld ?ra33
            case ya33 => intro w hSw; clear hSw; go_simp; with_reducible rfl
            simp only [Act.put, List.setIfInBounds_toArray, List.set_cons_zero, List.set_cons_succ]
            refine wpAnyH_take (i := 10) (v := ?va34) (by simp; rfl) (by kernel_rfl) (by kernel_rfl) (by kernel_rfl) (fun _ _ _ h => h) (Or.inl ⟨by rfl, ?ya34⟩) hHeld ?ra34
            case ya34 => intro w hSw; clear hSw; go_simp; with_reducible rfl
            simp only [Act.put, List.setIfInBounds_toArray, List.set_cons_zero, List.set_cons_succ]
            refine wpAnyH_take (i := 11) (v := ?va35) (by simp; rfl) (by kernel_rfl) (by kernel_rfl) (by kernel_rfl) (fun _ _ _ h => h) (Or.inl ⟨by rfl, ?ya35⟩) hHeld ?ra35
            case ya35 => intro w hSw; clear hSw; go_simp; with_reducible rfl
            simp only [Act.put, List.setIfInBounds_toArray, List.set_cons_zero, List.set_cons_succ]
            refine wpAnyH_ready (rs := [9]) (by kernel_rfl) (by simp) ?_
            refine AllReadyH.cons (by simp; rfl) (fun Kc hKc => ?_) AllReadyH.nil
            go_simp
            refine hKc.out _ _ trivial (fun hHeld => ?_)
            clear hKc Kc
            refine wpAnyH_take (i := 12) (v := ?va36) (by simp; rfl) (by kernel_rfl) (by kernel_rfl) (by kernel_rfl) (fun _ _ _ h => h) (Or.inl ⟨by rfl, ?ya36⟩) hHeld ?ra36
            case ya36 => intro w hSw; clear hSw; go_simp; with_reducible rfl
            simp only [Act.put, List.setIfInBounds_toArray, List.set_cons_zero, List.set_cons_succ]
            refine wpAnyH_ready (rs := [13]) (by kernel_rfl) (by simp) ?_
            refine AllReadyH.cons (by simp; rfl) (fun Kc hKc => ?_) AllReadyH.nil
            go_simp
            refine hKc.out _ _ trivial (fun hHeld => ?_)
            clear hKc Kc
            clear hHeld
            refine wpAnyH_done (by kernel_rfl) (NoPanic.normal ?_) _
            clear c1 f1 c2 f2
            go_wp2_with fail
            go_roundw
            case rel => exact ⟨1 + 1, by omega, by go_num, A6⟩
            case measure => simp [intOf]
        · as_aux_lemma =>
            go_wp2_with fail
            refine (new_bad wz hm).mono ?_
            rintro e w2 ⟨rfl, rfl⟩
            go_wp2_with fail
            refine (rnew_bad w2 hm).mono ?_
            rintro e wz ⟨rfl, rfl⟩
            clear y0 y1 XZ
            go_wp2_with fail
            refine (new_ok wz may54).mono ?_
            rintro e w3 ⟨rfl, hl, hb3⟩
            have L3 : Hid (LAt w3 (wz.heap.size + 1) wz.heap.size 0 (newS 5 4) ∧ Below wz.heap.size wz w3) := ⟨hl, hb3⟩
            clear hl hb3
            go_wp2_with fail
            refine (rnew_ok wa w3 may54).mono ?_
            rintro e w4 ⟨rfl, hr, hb4⟩
            have L4' : Hid (LAt w4 (wz.heap.size + 1) wz.heap.size 0 (newS 5 4)) := L3.out.1.later hb4
            have R4' : Hid (RAt wa w4 w3.heap.size (.slice none 0 0) (newS 5 4) 0 0 [] 0) := hr
            have B4 : Hid (Below wz.heap.size wz w4) := below_then L3.out.2 hb4
            have HQ' : Hid (wz.heap.size ≤ wz.heap.size + 1 ∧ wz.heap.size ≤ wz.heap.size ∧ wz.heap.size ≤ w3.heap.size) := ⟨Nat.le_succ _, Nat.le_refl _, L3.out.2.size⟩
            have OK : Hid (Ok (newS 5 4)) := Ok.new may54
            clear hr hb4 L3
            obtain ⟨Q, hQ⟩ : ∃ Q, wz.heap.size + 1 = Q := ⟨_, rfl⟩
            obtain ⟨b, hb⟩ : ∃ b, b = wz.heap.size := ⟨_, rfl⟩
            obtain ⟨R, hR⟩ : ∃ R, w3.heap.size = R := ⟨_, rfl⟩
            have L4 : Hid (LAt w4 Q b 0 (newS 5 4)) := by rw [← hQ, hb]; exact L4'
            have R4 : Hid (RAt wa w4 R (.slice none 0 0) (newS 5 4) 0 0 [] 0) := by rw [← hR]; exact R4'
            have HQ : Hid (wz.heap.size ≤ Q ∧ wz.heap.size ≤ b ∧ wz.heap.size ≤ R) := by rw [← hQ, hb, ← hR]; exact HQ'
            rw [hQ, hR]
            clear L4' R4' HQ' hQ hb hR
            go_wp2_with fail
            refine wp_region_noPanic ?_
            refine wp_region_held_drew (S := fun _ => True) (by kernel_rfl) trivial (fun hHeld => ?_)
            have L5 : Hid (LAt w4.drew Q b 0 (newS 5 4)) := L4.out.later (below_drawn 1)
            have R5 : Hid (RAt wa w4.drew R (.slice none 0 0) (newS 5 4) 0 0 [] 0) := R4.out.later (below_drawn 1)
            have B5 : Hid (Below wz.heap.size wz w4.drew) := below_then B4.out (below_drawn 1)
            clear L4 R4 B4
            generalize w4.drew = we at *
            obtain ⟨T, S, hz⟩ := PZ.out
            obtain ⟨c1, f1, c2, f2⟩ := hz.cells (by omega) (Q := Q) B5.out
            have A6 : Hid (∃ T' S', PI wa ((we.setCell ⟨P, 1, none⟩ (lp Q)).setCell ⟨P, 2 + 1, none⟩ (lp R)) P T' S' (1 + 1)) := hz.add (by omega) L5.out R5.out OK.out B5.out HQ.out.1 HQ.out.2.1 HQ.out.2.2
            clear hz L5 R5 B5 PZ
            refine wpAnyH_take (i := 0) (v := ?va37) (by simp; rfl) (by kernel_rfl) (by kernel_rfl) (by kernel_rfl) (fun _ _ _ h => h) (Or.inl ⟨by rfl, ?ya37⟩) hHeld ?ra37
            case ya37 => intro w hSw; clear hSw; go_simp; with_reducible rfl
            simp only [Act.put, List.setIfInBounds_toArray, List.set_cons_zero, List.set_cons_succ]
            refine wpAnyH_take (i := 1) (v := ?va38) (by simp; rfl) (by kernel_rfl) (by kernel_rfl) (by kernel_rfl) (fun _ _ _ h => h) (Or.inl ⟨by rfl, ?ya38⟩) hHeld ?ra38
            case ya38 => intro w hSw; clear hSw; go_simp; with_reducible rfl
            simp only [Act.put, List.setIfInBounds_toArray, List.set_cons_zero, List.set_cons_succ]
            refine wpAnyH_take (i := 2) (v := ?va39) (by simp; rfl) (by kernel_rfl) (by kernel_rfl) (by kernel_rfl) (fun _ _ _ h => h) (Or.inl ⟨by rfl, ?ya39⟩) hHeld ?ra39
            case ya39 => intro w hSw; clear hSw; go_simp; with_reducible rfl
            simp only [Act.put, List.setIfInBounds_toArray, List.set_cons_zero, List.set_cons_succ]
            refine wpAnyH_take (i := 3) (v := ?va40) (by simp; rfl) (by kernel_rfl) (by kernel_rfl) (by kernel_rfl) (fun _ _ _ h => h) (Or.inl ⟨by rfl, ?ya40⟩) hHeld ?ra40
            case ya40 => intro w hSw; clear hSw; go_simp; with_reducible rfl
            simp only [Act.put, List.setIfInBounds_toArray, List.set_cons_zero, List.set_cons_succ]
            refine wpAnyH_take (i := 4) (v := ?va41) (by simp; rfl) (by kernel_rfl) (by kernel_rfl) (by kernel_rfl) (fun _ _ _ h => h) (Or.inl ⟨by rfl, ?ya41⟩) hHeld ?ra41
            case ya41 => intro w hSw; clear hSw; go_simp; with_reducible rfl
            simp only [Act.put, List.setIfInBounds_toArray, List.set_cons_zero, List.set_cons_succ]
            refine wpAnyH_take (i := 5) (v := ?va42) (by simp; rfl) (by kernel_rfl) (by kernel_rfl) (by kernel_rfl) (fun _ _ _ h => h) (Or.inl ⟨by rfl, ?ya42⟩) hHeld ?ra42
            case ya42 => intro w hSw; clear hSw; go_simp; with_reducible rfl
            simp only [Act.put, List.setIfInBounds_toArray, List.set_cons_zero, List.set_cons_succ]
            refine wpAnyH_take (i := 6) (v := ?va43) (by simp; rfl) (by kernel_rfl) (by kernel_rfl) (by kernel_rfl) (fun _ _ _ h => h) (Or.inl ⟨by rfl, ?ya43⟩) hHeld ?ra43
            case ya43 => intro w hSw; clear hSw; go_simp; with_reducible rfl
            simp only [Act.put, List.setIfInBounds_toArray, List.set_cons_zero, List.set_cons_succ]
            refine wpAnyH_take (i := 7) (v := ?va44) (by simp; rfl) (by kernel_rfl) (by kernel_rfl) (by kernel_rfl) (fun _ _ _ h => h) (Or.inl ⟨by rfl, ?ya44⟩) hHeld ?ra44
            case ya44 => intro w hSw; clear hSw; go_simp; with_reducible rfl
            simp only [Act.put, List.setIfInBounds_toArray, List.set_cons_zero, List.set_cons_succ]
            refine wpAnyH_take (i := 8) (v := ?va45) (by simp; rfl) (by kernel_rfl) (by kernel_rfl) (by kernel_rfl) (fun _ _ _ h => h) (Or.inl ⟨by rfl, ?ya45⟩) hHeld ?ra45
            case ya45 => intro w hSw; clear hSw; go_simp; with_reducible rfl
            simp only [Act.put, List.setIfInBounds_toArray, List.set_cons_zero, List.set_cons_succ]
            refine wpAnyH_take (i := 10) (v := ?va46) (by simp; rfl) (by kernel_rfl) (by kernel_rfl) (by kernel_rfl) (fun _ _ _ h => h) (Or.inl ⟨by rfl, ?ya46⟩) hHeld ?ra46
            case ya46 => intro w hSw; clear hSw; go_simp; with_reducible rfl
            simp only [Act.put, List.setIfInBounds_toArray, List.set_cons_zero, List.set_cons_succ]
            refine wpAnyH_take (i := 11) (v := ?va47) (by simp; rfl) (by kernel_rfl) (by kernel_rfl) (by kernel_rfl) (fun _ _ _ h => h) (Or.inl ⟨by rfl, ?ya47⟩) hHeld ?ra47
            case ya47 => intro w hSw; clear hSw; go_simp; with_reducible rfl
            simp only [Act.put, List.setIfInBounds_toArray, List.set_cons_zero, List.set_cons_succ]
            refine wpAnyH_ready (rs := [9]) (by kernel_rfl) (by simp) ?_
            refine AllReadyH.cons (by simp; rfl) (fun Kc hKc => ?_) AllReadyH.nil
            go_simp
            refine hKc.out _ _ trivial (fun hHeld => ?_)
            clear hKc Kc
            refine wpAnyH_take (i := 12) (v := ?va48) (by simp; rfl) (by kernel_rfl) (by kernel_rfl) (by kernel_rfl) (fun _ _ _ h => h) (Or.inl ⟨by rfl, ?ya48⟩) hHeld ?ra48
            case ya48 => intro w hSw; clear hSw; go_simp; with_reducible rfl
            simp only [Act.put, List.setIfInBounds_toArray, List.set_cons_zero, List.set_cons_succ]
            refine wpAnyH_ready (rs := [13]) (by kernel_rfl) (by simp) ?_
            refine AllReadyH.cons (by simp; rfl) (fun Kc hKc => ?_) AllReadyH.nil
            go_simp
            refine hKc.out _ _ trivial (fun hHeld => ?_)
            clear hKc Kc
            clear hHeld
            refine wpAnyH_done (by kernel_rfl) (NoPanic.normal ?_) _
            clear c1 f1 c2 f2
            go_wp2_with fail
            go_roundw
            case rel => exact ⟨1 + 1, by omega, by go_num, A6⟩
            case measure => simp [intOf]
    · obtain rfl : M = 2 := by omega
      have S0 : Hid (Next wa wr P 0) := by obtain ⟨T, S, hh⟩ := N2.out; exact ⟨T, S, hh.st⟩
      clear N2
      rw [show ((2 : Nat) : Int) = 2 from rfl]
      go_wp2_with fail
      go_loopw [14] (fun i wr => ∃ k : Nat, k ≤ len ∧ k ≤ 150 ∧ i = .int .i64 k ∧ Hid (Next wa wr P k)) (fun i _ => 150 - (intOf i).toNat)
      case atStart => exact ⟨0, Nat.zero_le _, Nat.zero_le _, rfl, S0⟩
      case round =>
        clear S0
        obtain ⟨k, hkn, hk2, rfl, NK⟩ := hrel
        by_cases hk : k < len ∧ k < 150
        · obtain ⟨h1, h2⟩ := hk
          have i1 : (k : Int) < (len : Int) := by omega
          have i2 : (k : Int) < 150 := by omega
          have BW : Hid (Below w.heap.size w wr) := below_then HA.out.1 NK.out.below
          obtain ⟨bb, o, rfl, hc⟩ := (HP.out.later BW.out).cells (by omega)
          have hu : U64 (f k).t := HP.out.u64 k h1
          have x0 : wr.cell? ⟨bb, o + k * 4, none⟩ = some (.int .i64 (f k).kd) := hc k h1 0 _ rfl
          have x1 : wr.cell? ⟨bb, o + k * 4 + 1, none⟩ = some (.int .i64 (f k).wh) := hc k h1 1 _ rfl
          have x2 : wr.cell? ⟨bb, o + k * 4 + 2, none⟩ = some (.int .u64 (f k).t) := hc k h1 2 _ rfl
          have x3 : wr.cell? ⟨bb, o + k * 4 + 3, none⟩ = some (.int .i64 (f k).N) := hc k h1 3 _ rfl
          clear hc
          generalize (f k).kd = kd at *
          generalize (f k).wh = wh at *
          generalize (f k).t = t at *
          generalize (f k).N = N at *
          go_wp2_with fail
          refine (plays_any NK.out (by omega) kd wh t N hu).mono ?_
          rintro e w7 ⟨rfl, h7⟩
          have N7 : Hid (Next wa w7 P (k + 1)) := h7
          clear h7 x0 x1 x2 x3 NK
          go_wp2_with fail
          go_roundw
          case rel => exact ⟨k + 1, by omega, by omega, by go_num, N7⟩
          case measure => simp [intOf]; omega
        · by_cases h1 : k < len
          · have i1 : (k : Int) < (len : Int) := by omega
            have i2 : ¬ (k : Int) < 150 := by omega
            go_wp2_with fail
            refine (same_0 NK.out (by omega) 0 0 0 0 (by decide)).mono ?_
            rintro e w8 ⟨rfl, h8⟩
            have N8 : Hid (Next wa w8 P k) := NK.out.later h8
            clear h8
            go_wp2_with fail
            refine (same_1 N8.out (by omega) 0 0 0 0 (by decide)).mono ?_
            rintro e w9 ⟨rfl, h9⟩
            have N9 : Hid (Next wa w9 P k) := N8.out.later h9
            clear h9
            go_wp2_with fail
            go_ret
            exact ⟨rfl, below_then HA.out.1 N9.out.below⟩
          · have i1 : ¬ (k : Int) < (len : Int) := by omega
            go_wp2_with fail
            refine (same_0 NK.out (by omega) 0 0 0 0 (by decide)).mono ?_
            rintro e w8 ⟨rfl, h8⟩
            have N8 : Hid (Next wa w8 P k) := NK.out.later h8
            clear h8
            go_wp2_with fail
            refine (same_1 N8.out (by omega) 0 0 0 0 (by decide)).mono ?_
            rintro e w9 ⟨rfl, h9⟩
            have N9 : Hid (Next wa w9 P k) := N8.out.later h9
            clear h9
            go_wp2_with fail
            go_ret
            exact ⟨rfl, below_then HA.out.1 N9.out.below⟩
end Go.Proofs.Ytjkmeljefbpbgaa
