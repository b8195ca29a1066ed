/-
  The statement SectorPlays: its walk, more than 64 sectors asked for; the whole.
-/
import Derived.Test.YtlidjenkicgldaaUn
namespace Go.Proofs.Ytlidjenkicgldaa
open Go.RowKit

set_option maxRecDepth 100000 in
set_option maxHeartbeats 8000000 in
theorem splays_big (s : Int) (ps : Option Addr) (ls cs : Nat) (os : List OpV) (w : World) (h : ScIn w w.heap.size ps ls os) (hm : ls ≤ maxLen) (n : Nat) (hn1 : 1 ≤ n) (hn2 : n ≤ 64) (h64 : (64 : Int) < s) (hn : s % 64 + 1 = (n : Int)) :
    Calls Try.prog 6 #[.int .i64 s, .slice ps ls cs] w fun e w' => e = .returned (.bool true) ∧ Below w.heap.size w w' := by
  have HSc : Hid (ScIn w w.heap.size ps ls os) := h
  have hmx : ls ≤ 9223372036854775807 := hm
  have ht : s.tmod 64 = s % 64 := Int.tmod_eq_emod_of_nonneg (by omega)
  clear h hm
  go_enter Try.func6, Try.ntmps6
  go_wp2_with fail
  refine (awake_any w).mono ?_
  rintro e w1 ⟨rfl, hb1⟩
  go_wp2_with fail

  clear ht hn
  refine (new_good n w1 hn1 (by omega)).mono ?_
  rintro e w2 ⟨p, rfl, hd0, b2⟩
  go_wp2_with fail
  refine (rnew_good n w2 hn1 (by omega)).mono ?_
  rintro e w3 ⟨q, rfl, hr0, b3⟩
  go_wp2_with fail
  refine (copy_any (hd0.later b3) (by simp)).mono ?_
  rintro e w4 ⟨p', rfl, hd1, b4⟩
  go_wp2_with fail
  refine (rcopy_any (hr0.later b4) (by simp)).mono ?_
  rintro e w5 ⟨q', rfl, hr1, b5⟩
  have HS0 : Hid (St (w5.alloc (.cells #[.pointer (some ⟨p, 0, none⟩), .pointer (some ⟨p', 0, none⟩), .pointer (some ⟨q, 0, none⟩), .pointer (some ⟨q', 0, none⟩), .slice none 0 0, .slice none 0 0] 58)) w.heap.size w5.heap.size n 0 ∧ Below w.heap.size w (w5.alloc (.cells #[.pointer (some ⟨p, 0, none⟩), .pointer (some ⟨p', 0, none⟩), .pointer (some ⟨q, 0, none⟩), .pointer (some ⟨q', 0, none⟩), .slice none 0 0, .slice none 0 0] 58))) := ⟨St.start (B := w.heap.size) hb1.size b2 b3 b4 b5 hd0 hr0 hd1 hr1, (below_then (below_then (below_then (below_then hb1 b2) b3) b4) b5).trans ((below_alloc w5 _).mono (below_then (below_then (below_then (below_then hb1 b2) b3) b4) b5).size)⟩
  clear hd0 hr0 hd1 hr1 b2 b3 b4 b5 hb1
  go_wp2
  revert HS0
  generalize w5.alloc (.cells #[.pointer (some ⟨p, 0, none⟩), .pointer (some ⟨p', 0, none⟩), .pointer (some ⟨q, 0, none⟩), .pointer (some ⟨q', 0, none⟩), .slice none 0 0, .slice none 0 0] 58) = w6
  generalize w5.heap.size = P
  intro HS0
  go_loopw [10] (fun v wr => ∃ k : Nat, k ≤ 40 ∧ k ≤ ls ∧ v = .int .i64 k ∧ Hid (St wr w.heap.size P n k ∧ Below w.heap.size w wr)) (fun v _ => 40 - (intOf v).toNat)
  case atStart => exact ⟨0, by omega, by omega, rfl, HS0.out⟩
  case round =>
    obtain ⟨k, hk40, hkl, rfl, HR⟩ := hrel
    clear HS0
    by_cases hl : k < ls
    · by_cases h40 : k < 40
      · have hsc := HSc.out.below HR.out.2
        have hko : k < os.length := by have := hsc.len; omega
        obtain ⟨b, o, rfl, _, hcl⟩ := hsc.cells (by omega)
        have hop := hsc.each k hko
        obtain ⟨f0, f1, f2, f3, f4⟩ := step_cells (hcl k hko)
        clear hcl hsc
        revert hop f0 f1 f2 f3 f4
        generalize os[k] = op
        intro hop f0 f1 f2 f3 f4
        have HOp : Hid (OpIn wr w.heap.size op) := hop
        clear hop
        go_wp2_with fail
        refine (plays_any HR.out.1 (by omega) op HOp.out).mono ?_
        rintro e1 w7 ⟨rfl, hst, hb7⟩
        have HN : Hid (St w7 w.heap.size P n (k + 1) ∧ Below w.heap.size w w7) := ⟨hst, HR.out.2.trans hb7⟩
        clear hst hb7 f0 f1 f2 f3 f4 HOp HR
        go_wp2
        go_roundw
        case rel => exact ⟨k + 1, by omega, by omega, by go_num, HN.out⟩
        case measure => simp [intOf]; omega
      · obtain ⟨w9, hw9⟩ : ∃ w9, w9 = wr := ⟨_, rfl⟩
        subst hw9
        have HS9 : Hid (St w9 w.heap.size P n k ∧ Below w.heap.size w w9) := HR
        clear HR
        obtain ⟨R, x, y, e, u, m, hp, hu, hm9, _⟩ := HS9.out.1
        have HP9 : Hid (Pr w9 R w.heap.size P x y n e u e u m) := hp
        have HB9 : Hid (Below w.heap.size w w9) := HS9.out.2
        clear hp HS9
        go_wp2
        go_loopw [11] (fun v wr => ∃ c : Nat, c ≤ 2 ∧ v = .int .i64 c ∧ Hid (Below w9.heap.size w9 wr)) (fun v _ => 2 - (intOf v).toNat)
        case atStart => exact ⟨0, by omega, rfl, Below.refl _ _⟩
        case round =>
          obtain ⟨c, hc, rfl, HRc⟩ := hrel
          obtain ⟨wc, hwc⟩ : ∃ wc, wc = wr := ⟨_, rfl⟩
          subst hwc
          by_cases hc2 : c < 2
          · have hc2I : (c : Int) < 2 := by omega
            have hul := hu c hc2
            have HD : Hid (Dsk w9 (fun k => R k = 1 + c) (x c) n (e c) (u c)) := HP9.out.dsk c hc2
            obtain ⟨gr, Lr, cr, vr, vsr, hrd⟩ := HP9.out.ref c hc2
            obtain ⟨pv, cv, rfl, _⟩ := own_slice hrd.wr
            have HRD : Hid (RD w9 (fun k => R k = 3 + c) (y c) n (e c) (u c) gr Lr cr (.slice pv (u c).length cv) vsr) := hrd
            clear hrd
            have sF : ∀ W, Below w9.heap.size w9 W → W.cell? ⟨P, c, none⟩ = some (.pointer (some ⟨x c, 0, none⟩)) ∧ W.cell? ⟨P, 2 + c, none⟩ = some (.pointer (some ⟨y c, 0, none⟩)) ∧ W.cell? ⟨y c, 0, none⟩ = some (.slice (some ⟨gr, 0, none⟩) Lr cr) ∧ W.cell? ⟨y c, 1, none⟩ = some (.slice pv (u c).length cv) ∧ (convert 23 9 (.slice (some ⟨gr, 0, none⟩) Lr cr)).run Try.prog W = .ok (.string (strOfNums (e c))) W := fun W hb =>
              ⟨(HP9.out.later hb).cx c hc2, (HP9.out.later hb).cy c hc2, (HRD.out.later hb).cell0, (HRD.out.later hb).cell1, (own_bin (HRD.out.later hb).dur HRD.out.db).1.str cr⟩
            have Bd : Below w9.heap.size w9 wc.drew := HRc.out.trans ⟨rfl, rfl, rfl, Nat.le_refl _, fun _ _ => rfl⟩
            go_wp2
            refine wp_region_noPanic ?_
            refine wp_region_held_drew (S := fun w' => w'.cell? ⟨P, c, none⟩ = some (.pointer (some ⟨x c, 0, none⟩)) ∧ w'.cell? ⟨P, 2 + c, none⟩ = some (.pointer (some ⟨y c, 0, none⟩)) ∧ w'.cell? ⟨y c, 0, none⟩ = some (.slice (some ⟨gr, 0, none⟩) Lr cr) ∧ w'.cell? ⟨y c, 1, none⟩ = some (.slice pv (u c).length cv) ∧ (convert 23 9 (.slice (some ⟨gr, 0, none⟩) Lr cr)).run Try.prog w' = .ok (.string (strOfNums (e c))) w') (by kernel_rfl) (sF _ Bd) (fun hHeld => ?_)
            refine wpAnyH_take (i := 0) (v := ?v0ha) (by simp; rfl) (by kernel_rfl) (by kernel_rfl) (by kernel_rfl) (fun _ _ _ h => h) (Or.inl ⟨by rfl, ?y0ha⟩) hHeld ?r0ha
            case y0ha => intro w hSw; clear hSw; go_simp; with_reducible rfl
            simp only [Act.put, List.setIfInBounds_toArray, List.set_cons_zero, List.set_cons_succ]
            refine wpAnyH_take (i := 1) (v := ?v1ha) (by simp; rfl) (by kernel_rfl) (by kernel_rfl) (by kernel_rfl) (fun _ _ _ h => h) (Or.inl ⟨by rfl, ?y1ha⟩) hHeld ?r1ha
            case y1ha => intro w hSw; clear hSw; go_simp; with_reducible rfl
            simp only [Act.put, List.setIfInBounds_toArray, List.set_cons_zero, List.set_cons_succ]
            refine wpAnyH_take (i := 2) (v := ?v2ha) (by simp; rfl) (by kernel_rfl) (by kernel_rfl) (by kernel_rfl) (fun _ _ _ h => h) (Or.inl ⟨by rfl, ?y2ha⟩) hHeld ?r2ha
            case y2ha => intro w hSw; clear hSw; go_simp; with_reducible rfl
            simp only [Act.put, List.setIfInBounds_toArray, List.set_cons_zero, List.set_cons_succ]
            refine wpAnyH_take (i := 3) (v := ?v3ha) (by simp; rfl) (by kernel_rfl) (by kernel_rfl) (by kernel_rfl) (fun _ _ _ h => h) (Or.inl ⟨by rfl, ?y3ha⟩) hHeld ?r3ha
            case y3ha => intro w hSw; clear hSw; go_simp; with_reducible rfl
            simp only [Act.put, List.setIfInBounds_toArray, List.set_cons_zero, List.set_cons_succ]
            refine wpAnyH_take (i := 4) (v := ?v4ha) (by simp; rfl) (by kernel_rfl) (by kernel_rfl) (by kernel_rfl) (fun _ _ _ h => h) (Or.inl ⟨by rfl, ?y4ha⟩) hHeld ?r4ha
            case y4ha => intro w hSw; clear hSw; go_simp; with_reducible rfl
            simp only [Act.put, List.setIfInBounds_toArray, List.set_cons_zero, List.set_cons_succ]
            refine wpAnyH_take (i := 5) (v := ?v5ha) (by simp; rfl) (by kernel_rfl) (by kernel_rfl) (by kernel_rfl) (fun _ _ _ h => h) (Or.inl ⟨by rfl, ?y5ha⟩) hHeld ?r5ha
            case y5ha => intro w hSw; obtain ⟨z1, z2, z3, z4, z5⟩ := hSw; go_simp; with_reducible rfl
            simp only [Act.put, List.setIfInBounds_toArray, List.set_cons_zero, List.set_cons_succ]
            refine wpAnyH_take (i := 8) (v := ?v8ha) (by simp; rfl) (by kernel_rfl) (by kernel_rfl) (by kernel_rfl) (fun _ _ _ h => h) (Or.inl ⟨by rfl, ?y8ha⟩) hHeld ?r8ha
            case y8ha => intro w hSw; clear hSw; go_simp; with_reducible rfl
            simp only [Act.put, List.setIfInBounds_toArray, List.set_cons_zero, List.set_cons_succ]
            refine wpAnyH_take (i := 9) (v := ?v9ha) (by simp; rfl) (by kernel_rfl) (by kernel_rfl) (by kernel_rfl) (fun _ _ _ h => h) (Or.inl ⟨by rfl, ?y9ha⟩) hHeld ?r9ha
            case y9ha => intro w hSw; clear hSw; go_simp; with_reducible rfl
            simp only [Act.put, List.setIfInBounds_toArray, List.set_cons_zero, List.set_cons_succ]
            refine wpAnyH_take (i := 10) (v := ?v10ha) (by simp; rfl) (by kernel_rfl) (by kernel_rfl) (by kernel_rfl) (fun _ _ _ h => h) (Or.inl ⟨by rfl, ?y10ha⟩) hHeld ?r10ha
            case y10ha => intro w hSw; clear hSw; go_simp; with_reducible rfl
            simp only [Act.put, List.setIfInBounds_toArray, List.set_cons_zero, List.set_cons_succ]
            refine wpAnyH_take (i := 11) (v := ?v11ha) (by simp; rfl) (by kernel_rfl) (by kernel_rfl) (by kernel_rfl) (fun _ _ _ h => h) (Or.inl ⟨by rfl, ?y11ha⟩) hHeld ?r11ha
            case y11ha => intro w hSw; clear hSw; go_simp; with_reducible rfl
            simp only [Act.put, List.setIfInBounds_toArray, List.set_cons_zero, List.set_cons_succ]
            refine wpAnyH_take (i := 12) (v := ?v12ha) (by simp; rfl) (by kernel_rfl) (by kernel_rfl) (by kernel_rfl) (fun _ _ _ h => h) (Or.inl ⟨by rfl, ?y12ha⟩) hHeld ?r12ha
            case y12ha => intro w hSw; clear hSw; go_simp; with_reducible rfl
            simp only [Act.put, List.setIfInBounds_toArray, List.set_cons_zero, List.set_cons_succ]
            refine wpAnyH_take (i := 13) (v := ?v13ha) (by simp; rfl) (by kernel_rfl) (by kernel_rfl) (by kernel_rfl) (fun _ _ _ h => h) (Or.inl ⟨by rfl, ?y13ha⟩) hHeld ?r13ha
            case y13ha => intro w hSw; obtain ⟨z1, z2, z3, z4, z5⟩ := hSw; go_simp; with_reducible rfl
            simp only [Act.put, List.setIfInBounds_toArray, List.set_cons_zero, List.set_cons_succ]
            refine wpAnyH_take (i := 14) (v := ?v14ha) (by simp; rfl) (by kernel_rfl) (by kernel_rfl) (by kernel_rfl) (fun _ _ _ h => h) (Or.inl ⟨by rfl, ?y14ha⟩) hHeld ?r14ha
            case y14ha => intro w hSw; clear hSw; go_simp; with_reducible rfl
            simp only [Act.put, List.setIfInBounds_toArray, List.set_cons_zero, List.set_cons_succ]
            refine wpAnyH_take (i := 15) (v := ?v15ha) (by simp; rfl) (by kernel_rfl) (by kernel_rfl) (by kernel_rfl) (fun _ _ _ h => h) (Or.inl ⟨by rfl, ?y15ha⟩) hHeld ?r15ha
            case y15ha => intro w hSw; clear hSw; go_simp; with_reducible rfl
            simp only [Act.put, List.setIfInBounds_toArray, List.set_cons_zero, List.set_cons_succ]
            refine wpAnyH_take (i := 16) (v := ?v16ha) (by simp; rfl) (by kernel_rfl) (by kernel_rfl) (by kernel_rfl) (fun _ _ _ h => h) (Or.inl ⟨by rfl, ?y16ha⟩) hHeld ?r16ha
            case y16ha => intro w hSw; obtain ⟨z1, z2, z3, z4, z5⟩ := hSw; go_simp; with_reducible rfl
            simp only [Act.put, List.setIfInBounds_toArray, List.set_cons_zero, List.set_cons_succ]
            refine wpAnyH_take (i := 17) (v := ?v17ha) (by simp; rfl) (by kernel_rfl) (by kernel_rfl) (by kernel_rfl) (fun _ _ _ h => h) (Or.inl ⟨by rfl, ?y17ha⟩) hHeld ?r17ha
            case y17ha => intro w hSw; obtain ⟨z1, z2, z3, z4, z5⟩ := hSw; go_simp; with_reducible rfl
            simp only [Act.put, List.setIfInBounds_toArray, List.set_cons_zero, List.set_cons_succ]
            refine wpAnyH_ready (rs := [6]) (by kernel_rfl) (by simp) ?_
            refine AllReadyH.cons (by simp; rfl) (fun Kc hKc => ?_) AllReadyH.nil
            go_simp
            refine (image_any (HD.out.later Bd)).mono ?_
            rintro e1 w10 ⟨vi, rfl, hoi, hb10⟩
            obtain ⟨qi, ci, rfl, _⟩ := own_slice hoi
            have B10 : Below w9.heap.size w9 w10 := below_then Bd hb10
            have z9 := (own_bin hoi HRD.out.db).1.str ci
            refine hKc.out _ _ (sF _ B10) (fun hHeld => ?_)
            clear hKc Kc hoi hb10
            refine wpAnyH_ready (rs := [7]) (by kernel_rfl) (by simp) ?_
            refine AllReadyH.cons (by simp; rfl) (fun Kc hKc => ?_) AllReadyH.nil
            go_simp
            refine hKc.out _ _ (sF _ B10) (fun hHeld => ?_)
            clear hKc Kc z9
            refine wpAnyH_take (i := 18) (v := ?v18ha) (by simp; rfl) (by kernel_rfl) (by kernel_rfl) (by kernel_rfl) (fun _ _ _ h => h) (Or.inl ⟨by rfl, ?y18ha⟩) hHeld ?r18ha
            case y18ha => intro w hSw; clear hSw; go_simp; with_reducible rfl
            simp only [Act.put, List.setIfInBounds_toArray, List.set_cons_zero, List.set_cons_succ]
            refine wpAnyH_take (i := 19) (v := ?v19ha) (by simp; rfl) (by kernel_rfl) (by kernel_rfl) (by kernel_rfl) (fun _ _ _ h => h) (Or.inl ⟨by rfl, ?y19ha⟩) hHeld ?r19ha
            case y19ha => intro w hSw; clear hSw; go_simp; with_reducible rfl
            simp only [Act.put, List.setIfInBounds_toArray, List.set_cons_zero, List.set_cons_succ]
            refine wpAnyH_take (i := 20) (v := ?v20ha) (by simp; rfl) (by kernel_rfl) (by kernel_rfl) (by kernel_rfl) (fun _ _ _ h => h) (Or.inl ⟨by rfl, ?y20ha⟩) hHeld ?r20ha
            case y20ha => intro w hSw; clear hSw; go_simp; with_reducible rfl
            simp only [Act.put, List.setIfInBounds_toArray, List.set_cons_zero, List.set_cons_succ]
            refine wpAnyH_take (i := 21) (v := ?v21ha) (by simp; rfl) (by kernel_rfl) (by kernel_rfl) (by kernel_rfl) (fun _ _ _ h => h) (Or.inl ⟨by rfl, ?y21ha⟩) hHeld ?r21ha
            case y21ha => intro w hSw; clear hSw; go_simp; with_reducible rfl
            simp only [Act.put, List.setIfInBounds_toArray, List.set_cons_zero, List.set_cons_succ]
            refine wpAnyH_take (i := 22) (v := ?v22ha) (by simp; rfl) (by kernel_rfl) (by kernel_rfl) (by kernel_rfl) (fun _ _ _ h => h) (Or.inl ⟨by rfl, ?y22ha⟩) hHeld ?r22ha
            case y22ha => intro w hSw; clear hSw; go_simp; with_reducible rfl
            simp only [Act.put, List.setIfInBounds_toArray, List.set_cons_zero, List.set_cons_succ]
            refine wpAnyH_take (i := 23) (v := ?v23ha) (by simp; rfl) (by kernel_rfl) (by kernel_rfl) (by kernel_rfl) (fun _ _ _ h => h) (Or.inl ⟨by rfl, ?y23ha⟩) hHeld ?r23ha
            case y23ha => intro w hSw; clear hSw; go_simp; with_reducible rfl
            simp only [Act.put, List.setIfInBounds_toArray, List.set_cons_zero, List.set_cons_succ]
            refine wpAnyH_take (i := 24) (v := ?v24ha) (by simp; rfl) (by kernel_rfl) (by kernel_rfl) (by kernel_rfl) (fun _ _ _ h => h) (Or.inl ⟨by rfl, ?y24ha⟩) hHeld ?r24ha
            case y24ha => intro w hSw; clear hSw; go_simp; with_reducible rfl
            simp only [Act.put, List.setIfInBounds_toArray, List.set_cons_zero, List.set_cons_succ]
            refine wpAnyH_take (i := 25) (v := ?v25ha) (by simp; rfl) (by kernel_rfl) (by kernel_rfl) (by kernel_rfl) (fun _ _ _ h => h) (Or.inl ⟨by rfl, ?y25ha⟩) hHeld ?r25ha
            case y25ha => intro w hSw; obtain ⟨z1, z2, z3, z4, z5⟩ := hSw; go_simp; with_reducible rfl
            simp only [Act.put, List.setIfInBounds_toArray, List.set_cons_zero, List.set_cons_succ]
            refine wpAnyH_take (i := 27) (v := ?v27ha) (by simp; rfl) (by kernel_rfl) (by kernel_rfl) (by kernel_rfl) (fun _ _ _ h => h) (Or.inl ⟨by rfl, ?y27ha⟩) hHeld ?r27ha
            case y27ha => intro w hSw; clear hSw; go_simp; with_reducible rfl
            simp only [Act.put, List.setIfInBounds_toArray, List.set_cons_zero, List.set_cons_succ]
            refine wpAnyH_take (i := 28) (v := ?v28ha) (by simp; rfl) (by kernel_rfl) (by kernel_rfl) (by kernel_rfl) (fun _ _ _ h => h) (Or.inl ⟨by rfl, ?y28ha⟩) hHeld ?r28ha
            case y28ha => intro w hSw; clear hSw; go_simp; with_reducible rfl
            simp only [Act.put, List.setIfInBounds_toArray, List.set_cons_zero, List.set_cons_succ]
            refine wpAnyH_take (i := 29) (v := ?v29ha) (by simp; rfl) (by kernel_rfl) (by kernel_rfl) (by kernel_rfl) (fun _ _ _ h => h) (Or.inl ⟨by rfl, ?y29ha⟩) hHeld ?r29ha
            case y29ha => intro w hSw; clear hSw; go_simp; with_reducible rfl
            simp only [Act.put, List.setIfInBounds_toArray, List.set_cons_zero, List.set_cons_succ]
            refine wpAnyH_take (i := 30) (v := ?v30ha) (by simp; rfl) (by kernel_rfl) (by kernel_rfl) (by kernel_rfl) (fun _ _ _ h => h) (Or.inl ⟨by rfl, ?y30ha⟩) hHeld ?r30ha
            case y30ha => intro w hSw; clear hSw; go_simp; with_reducible rfl
            simp only [Act.put, List.setIfInBounds_toArray, List.set_cons_zero, List.set_cons_succ]
            refine wpAnyH_take (i := 31) (v := ?v31ha) (by simp; rfl) (by kernel_rfl) (by kernel_rfl) (by kernel_rfl) (fun _ _ _ h => h) (Or.inl ⟨by rfl, ?y31ha⟩) hHeld ?r31ha
            case y31ha => intro w hSw; clear hSw; go_simp; with_reducible rfl
            simp only [Act.put, List.setIfInBounds_toArray, List.set_cons_zero, List.set_cons_succ]
            refine wpAnyH_take (i := 32) (v := ?v32ha) (by simp; rfl) (by kernel_rfl) (by kernel_rfl) (by kernel_rfl) (fun _ _ _ h => h) (Or.inl ⟨by rfl, ?y32ha⟩) hHeld ?r32ha
            case y32ha => intro w hSw; obtain ⟨z1, z2, z3, z4, z5⟩ := hSw; go_simp; with_reducible rfl
            simp only [Act.put, List.setIfInBounds_toArray, List.set_cons_zero, List.set_cons_succ]
            refine wpAnyH_take (i := 33) (v := ?v33ha) (by simp; rfl) (by kernel_rfl) (by kernel_rfl) (by kernel_rfl) (fun _ _ _ h => h) (Or.inl ⟨by rfl, ?y33ha⟩) hHeld ?r33ha
            case y33ha => intro w hSw; clear hSw; go_simp; with_reducible rfl
            simp only [Act.put, List.setIfInBounds_toArray, List.set_cons_zero, List.set_cons_succ]
            refine wpAnyH_take (i := 34) (v := ?v34ha) (by simp; rfl) (by kernel_rfl) (by kernel_rfl) (by kernel_rfl) (fun _ _ _ h => h) (Or.inl ⟨by rfl, ?y34ha⟩) hHeld ?r34ha
            case y34ha => intro w hSw; clear hSw; go_simp; with_reducible rfl
            simp only [Act.put, List.setIfInBounds_toArray, List.set_cons_zero, List.set_cons_succ]
            refine wpAnyH_take (i := 35) (v := ?v35ha) (by simp; rfl) (by kernel_rfl) (by kernel_rfl) (by kernel_rfl) (fun _ _ _ h => h) (Or.inl ⟨by rfl, ?y35ha⟩) hHeld ?r35ha
            case y35ha => intro w hSw; obtain ⟨z1, z2, z3, z4, z5⟩ := hSw; go_simp; with_reducible rfl
            simp only [Act.put, List.setIfInBounds_toArray, List.set_cons_zero, List.set_cons_succ]
            refine wpAnyH_ready (rs := [26]) (by kernel_rfl) (by simp) ?_
            refine AllReadyH.cons (by simp; rfl) (fun Kc hKc => ?_) AllReadyH.nil
            go_simp
            refine (waiting_any (HD.out.later B10) (by omega)).mono ?_
            rintro e1 w11 ⟨gw, vsw, rfl, htw, hb11⟩
            have B11 : Below w9.heap.size w9 w11 := below_then B10 hb11
            refine hKc.out _ _ (sF _ B11) (fun hHeld => ?_)
            clear hKc Kc hb11
            refine wpAnyH_ready (rs := [36]) (by kernel_rfl) (by simp) ?_
            refine AllReadyH.cons (by simp; rfl) (fun Kc hKc => ?_) AllReadyH.nil
            go_simp
            refine (same_any htw (HRD.out.later B11) (by omega)).mono ?_
            rintro e1 w12 ⟨rfl, hb12⟩
            have B12 : Below w9.heap.size w9 w12 := below_then B11 hb12
            refine hKc.out _ _ (sF _ B12) (fun hHeld => ?_)
            clear hKc Kc hb12 htw
            refine wpAnyH_take (i := 37) (v := ?v37ha) (by simp; rfl) (by kernel_rfl) (by kernel_rfl) (by kernel_rfl) (fun _ _ _ h => h) (Or.inl ⟨by rfl, ?y37ha⟩) hHeld ?r37ha
            case y37ha => intro w hSw; clear hSw; go_simp; with_reducible rfl
            simp only [Act.put, List.setIfInBounds_toArray, List.set_cons_zero, List.set_cons_succ]
            refine wpAnyH_take (i := 38) (v := ?v38ha) (by simp; rfl) (by kernel_rfl) (by kernel_rfl) (by kernel_rfl) (fun _ _ _ h => h) (Or.inl ⟨by rfl, ?y38ha⟩) hHeld ?r38ha
            case y38ha => intro w hSw; clear hSw; go_simp; with_reducible rfl
            simp only [Act.put, List.setIfInBounds_toArray, List.set_cons_zero, List.set_cons_succ]
            refine wpAnyH_done (by kernel_rfl) (NoPanic.normal ?_) _
            have HN : Hid (Below w9.heap.size w9 w12) := B12
            clear hHeld sF Bd B10 B11 B12 HRc
            go_wp2
            go_roundw
            case rel => exact ⟨c + 1, by omega, by go_num, HN.out⟩
            case measure => simp [intOf]; omega
          · obtain ⟨tv, wv, tl, wl, htd⟩ := HP9.out.tld
            obtain ⟨pt, ct, rfl, _⟩ := own_slice htd.told
            obtain ⟨pw, cw, rfl, _⟩ := own_slice htd.want
            have HTD : Hid (TD w9 R P m (.slice pt m ct) (.slice pw m cw) tl wl) := htd
            clear htd
            have mF : ∀ W, Below w9.heap.size w9 W → TD W R P m (.slice pt m ct) (.slice pw m cw) tl wl := fun W hb => by
              have hP := hb.block P HP9.out.blk.lt
              exact HTD.out.move (fun _ _ => rfl) (fun k hk _ => hb.block k hk) (cell_same hP) (cell_same hP)
            have c4 := (mF _ HRc.out).c4
            go_wp2
            clear c4
            go_loopw [123] (fun v wr => ∃ j : Nat, j ≤ m ∧ v = .int .i64 j ∧ Hid (Below w9.heap.size w9 wr)) (fun v _ => m - (intOf v).toNat)
            case atStart => exact ⟨0, by omega, rfl, HRc.out⟩
            case round =>
              obtain ⟨j, hj, rfl, HRj⟩ := hrel
              by_cases hjm : j < m
              · have hT := mF _ HRj.out
                have hlt : j < tl.length := by have := own_len hT.told; omega
                have hlw : j < wl.length := by have := own_len hT.want; omega
                obtain ⟨g1, rfl, f1⟩ := own_at hT.told hlt
                obtain ⟨g2, rfl, f2⟩ := own_at hT.want hlw
                obtain ⟨bb, t1, t2⟩ := hT.each j hlt hlw
                obtain ⟨p1, c1, e1, i1, _⟩ := own_in t1.1 t1.2.1
                obtain ⟨p2, c2, e2, i2, _⟩ := own_in t2.1 t2.2.1
                rw [e1] at f1
                rw [e2] at f2
                have c4 := hT.c4
                have c5 := hT.c5
                have z1 : ∀ i, (convert 23 9 (.slice p1 bb.length c1)).run Try.prog (wr.drewN i) = .ok (.string (strOfNums bb)) (wr.drewN i) := fun i => (i1.drewN i).str c1
                have z2 : ∀ i, (convert 23 9 (.slice p2 bb.length c2)).run Try.prog (wr.drewN i) = .ok (.string (strOfNums bb)) (wr.drewN i) := fun i => (i2.drewN i).str c2
                clear hT t1 t2 e1 e2 i1 i2
                go_wp2
                go_quiet (fail)
                have HN : Hid (Below w9.heap.size w9 (wr.drewN nq)) := HRj.out.trans (below_drawn nq)
                clear f1 f2 c4 c5 z1 z2 HRj
                go_wp2
                go_roundw
                case rel => exact ⟨j + 1, by omega, by go_num, HN.out⟩
                case measure => simp [intOf]; omega
              · go_wp2
                go_ret
                exact ⟨rfl, below_then HB9.out HRj.out⟩
    · obtain ⟨w9, hw9⟩ : ∃ w9, w9 = wr := ⟨_, rfl⟩
      subst hw9
      have HS9 : Hid (St w9 w.heap.size P n k ∧ Below w.heap.size w w9) := HR
      clear HR
      obtain ⟨R, x, y, e, u, m, hp, hu, hm9, _⟩ := HS9.out.1
      have HP9 : Hid (Pr w9 R w.heap.size P x y n e u e u m) := hp
      have HB9 : Hid (Below w.heap.size w w9) := HS9.out.2
      clear hp HS9
      go_wp2
      go_loopw [11] (fun v wr => ∃ c : Nat, c ≤ 2 ∧ v = .int .i64 c ∧ Hid (Below w9.heap.size w9 wr)) (fun v _ => 2 - (intOf v).toNat)
      case atStart => exact ⟨0, by omega, rfl, Below.refl _ _⟩
      case round =>
        obtain ⟨c, hc, rfl, HRc⟩ := hrel
        obtain ⟨wc, hwc⟩ : ∃ wc, wc = wr := ⟨_, rfl⟩
        subst hwc
        by_cases hc2 : c < 2
        · have hc2I : (c : Int) < 2 := by omega
          have hul := hu c hc2
          have HD : Hid (Dsk w9 (fun k => R k = 1 + c) (x c) n (e c) (u c)) := HP9.out.dsk c hc2
          obtain ⟨gr, Lr, cr, vr, vsr, hrd⟩ := HP9.out.ref c hc2
          obtain ⟨pv, cv, rfl, _⟩ := own_slice hrd.wr
          have HRD : Hid (RD w9 (fun k => R k = 3 + c) (y c) n (e c) (u c) gr Lr cr (.slice pv (u c).length cv) vsr) := hrd
          clear hrd
          have sF : ∀ W, Below w9.heap.size w9 W → W.cell? ⟨P, c, none⟩ = some (.pointer (some ⟨x c, 0, none⟩)) ∧ W.cell? ⟨P, 2 + c, none⟩ = some (.pointer (some ⟨y c, 0, none⟩)) ∧ W.cell? ⟨y c, 0, none⟩ = some (.slice (some ⟨gr, 0, none⟩) Lr cr) ∧ W.cell? ⟨y c, 1, none⟩ = some (.slice pv (u c).length cv) ∧ (convert 23 9 (.slice (some ⟨gr, 0, none⟩) Lr cr)).run Try.prog W = .ok (.string (strOfNums (e c))) W := fun W hb =>
            ⟨(HP9.out.later hb).cx c hc2, (HP9.out.later hb).cy c hc2, (HRD.out.later hb).cell0, (HRD.out.later hb).cell1, (own_bin (HRD.out.later hb).dur HRD.out.db).1.str cr⟩
          have Bd : Below w9.heap.size w9 wc.drew := HRc.out.trans ⟨rfl, rfl, rfl, Nat.le_refl _, fun _ _ => rfl⟩
          go_wp2
          refine wp_region_noPanic ?_
          refine wp_region_held_drew (S := fun w' => w'.cell? ⟨P, c, none⟩ = some (.pointer (some ⟨x c, 0, none⟩)) ∧ w'.cell? ⟨P, 2 + c, none⟩ = some (.pointer (some ⟨y c, 0, none⟩)) ∧ w'.cell? ⟨y c, 0, none⟩ = some (.slice (some ⟨gr, 0, none⟩) Lr cr) ∧ w'.cell? ⟨y c, 1, none⟩ = some (.slice pv (u c).length cv) ∧ (convert 23 9 (.slice (some ⟨gr, 0, none⟩) Lr cr)).run Try.prog w' = .ok (.string (strOfNums (e c))) w') (by kernel_rfl) (sF _ Bd) (fun hHeld => ?_)
          refine wpAnyH_take (i := 0) (v := ?v0hb) (by simp; rfl) (by kernel_rfl) (by kernel_rfl) (by kernel_rfl) (fun _ _ _ h => h) (Or.inl ⟨by rfl, ?y0hb⟩) hHeld ?r0hb
          case y0hb => intro w hSw; clear hSw; go_simp; with_reducible rfl
          simp only [Act.put, List.setIfInBounds_toArray, List.set_cons_zero, List.set_cons_succ]
          refine wpAnyH_take (i := 1) (v := ?v1hb) (by simp; rfl) (by kernel_rfl) (by kernel_rfl) (by kernel_rfl) (fun _ _ _ h => h) (Or.inl ⟨by rfl, ?y1hb⟩) hHeld ?r1hb
          case y1hb => intro w hSw; clear hSw; go_simp; with_reducible rfl
          simp only [Act.put, List.setIfInBounds_toArray, List.set_cons_zero, List.set_cons_succ]
          refine wpAnyH_take (i := 2) (v := ?v2hb) (by simp; rfl) (by kernel_rfl) (by kernel_rfl) (by kernel_rfl) (fun _ _ _ h => h) (Or.inl ⟨by rfl, ?y2hb⟩) hHeld ?r2hb
          case y2hb => intro w hSw; clear hSw; go_simp; with_reducible rfl
          simp only [Act.put, List.setIfInBounds_toArray, List.set_cons_zero, List.set_cons_succ]
          refine wpAnyH_take (i := 3) (v := ?v3hb) (by simp; rfl) (by kernel_rfl) (by kernel_rfl) (by kernel_rfl) (fun _ _ _ h => h) (Or.inl ⟨by rfl, ?y3hb⟩) hHeld ?r3hb
          case y3hb => intro w hSw; clear hSw; go_simp; with_reducible rfl
          simp only [Act.put, List.setIfInBounds_toArray, List.set_cons_zero, List.set_cons_succ]
          refine wpAnyH_take (i := 4) (v := ?v4hb) (by simp; rfl) (by kernel_rfl) (by kernel_rfl) (by kernel_rfl) (fun _ _ _ h => h) (Or.inl ⟨by rfl, ?y4hb⟩) hHeld ?r4hb
          case y4hb => intro w hSw; clear hSw; go_simp; with_reducible rfl
          simp only [Act.put, List.setIfInBounds_toArray, List.set_cons_zero, List.set_cons_succ]
          refine wpAnyH_take (i := 5) (v := ?v5hb) (by simp; rfl) (by kernel_rfl) (by kernel_rfl) (by kernel_rfl) (fun _ _ _ h => h) (Or.inl ⟨by rfl, ?y5hb⟩) hHeld ?r5hb
          case y5hb => intro w hSw; obtain ⟨z1, z2, z3, z4, z5⟩ := hSw; go_simp; with_reducible rfl
          simp only [Act.put, List.setIfInBounds_toArray, List.set_cons_zero, List.set_cons_succ]
          refine wpAnyH_take (i := 8) (v := ?v8hb) (by simp; rfl) (by kernel_rfl) (by kernel_rfl) (by kernel_rfl) (fun _ _ _ h => h) (Or.inl ⟨by rfl, ?y8hb⟩) hHeld ?r8hb
          case y8hb => intro w hSw; clear hSw; go_simp; with_reducible rfl
          simp only [Act.put, List.setIfInBounds_toArray, List.set_cons_zero, List.set_cons_succ]
          refine wpAnyH_take (i := 9) (v := ?v9hb) (by simp; rfl) (by kernel_rfl) (by kernel_rfl) (by kernel_rfl) (fun _ _ _ h => h) (Or.inl ⟨by rfl, ?y9hb⟩) hHeld ?r9hb
          case y9hb => intro w hSw; clear hSw; go_simp; with_reducible rfl
          simp only [Act.put, List.setIfInBounds_toArray, List.set_cons_zero, List.set_cons_succ]
          refine wpAnyH_take (i := 10) (v := ?v10hb) (by simp; rfl) (by kernel_rfl) (by kernel_rfl) (by kernel_rfl) (fun _ _ _ h => h) (Or.inl ⟨by rfl, ?y10hb⟩) hHeld ?r10hb
          case y10hb => intro w hSw; clear hSw; go_simp; with_reducible rfl
          simp only [Act.put, List.setIfInBounds_toArray, List.set_cons_zero, List.set_cons_succ]
          refine wpAnyH_take (i := 11) (v := ?v11hb) (by simp; rfl) (by kernel_rfl) (by kernel_rfl) (by kernel_rfl) (fun _ _ _ h => h) (Or.inl ⟨by rfl, ?y11hb⟩) hHeld ?r11hb
          case y11hb => intro w hSw; clear hSw; go_simp; with_reducible rfl
          simp only [Act.put, List.setIfInBounds_toArray, List.set_cons_zero, List.set_cons_succ]
          refine wpAnyH_take (i := 12) (v := ?v12hb) (by simp; rfl) (by kernel_rfl) (by kernel_rfl) (by kernel_rfl) (fun _ _ _ h => h) (Or.inl ⟨by rfl, ?y12hb⟩) hHeld ?r12hb
          case y12hb => intro w hSw; clear hSw; go_simp; with_reducible rfl
          simp only [Act.put, List.setIfInBounds_toArray, List.set_cons_zero, List.set_cons_succ]
          refine wpAnyH_take (i := 13) (v := ?v13hb) (by simp; rfl) (by kernel_rfl) (by kernel_rfl) (by kernel_rfl) (fun _ _ _ h => h) (Or.inl ⟨by rfl, ?y13hb⟩) hHeld ?r13hb
          case y13hb => intro w hSw; obtain ⟨z1, z2, z3, z4, z5⟩ := hSw; go_simp; with_reducible rfl
          simp only [Act.put, List.setIfInBounds_toArray, List.set_cons_zero, List.set_cons_succ]
          refine wpAnyH_take (i := 14) (v := ?v14hb) (by simp; rfl) (by kernel_rfl) (by kernel_rfl) (by kernel_rfl) (fun _ _ _ h => h) (Or.inl ⟨by rfl, ?y14hb⟩) hHeld ?r14hb
          case y14hb => intro w hSw; clear hSw; go_simp; with_reducible rfl
          simp only [Act.put, List.setIfInBounds_toArray, List.set_cons_zero, List.set_cons_succ]
          refine wpAnyH_take (i := 15) (v := ?v15hb) (by simp; rfl) (by kernel_rfl) (by kernel_rfl) (by kernel_rfl) (fun _ _ _ h => h) (Or.inl ⟨by rfl, ?y15hb⟩) hHeld ?r15hb
          case y15hb => intro w hSw; clear hSw; go_simp; with_reducible rfl
          simp only [Act.put, List.setIfInBounds_toArray, List.set_cons_zero, List.set_cons_succ]
          refine wpAnyH_take (i := 16) (v := ?v16hb) (by simp; rfl) (by kernel_rfl) (by kernel_rfl) (by kernel_rfl) (fun _ _ _ h => h) (Or.inl ⟨by rfl, ?y16hb⟩) hHeld ?r16hb
          case y16hb => intro w hSw; obtain ⟨z1, z2, z3, z4, z5⟩ := hSw; go_simp; with_reducible rfl
          simp only [Act.put, List.setIfInBounds_toArray, List.set_cons_zero, List.set_cons_succ]
          refine wpAnyH_take (i := 17) (v := ?v17hb) (by simp; rfl) (by kernel_rfl) (by kernel_rfl) (by kernel_rfl) (fun _ _ _ h => h) (Or.inl ⟨by rfl, ?y17hb⟩) hHeld ?r17hb
          case y17hb => intro w hSw; obtain ⟨z1, z2, z3, z4, z5⟩ := hSw; go_simp; with_reducible rfl
          simp only [Act.put, List.setIfInBounds_toArray, List.set_cons_zero, List.set_cons_succ]
          refine wpAnyH_ready (rs := [6]) (by kernel_rfl) (by simp) ?_
          refine AllReadyH.cons (by simp; rfl) (fun Kc hKc => ?_) AllReadyH.nil
          go_simp
          refine (image_any (HD.out.later Bd)).mono ?_
          rintro e1 w10 ⟨vi, rfl, hoi, hb10⟩
          obtain ⟨qi, ci, rfl, _⟩ := own_slice hoi
          have B10 : Below w9.heap.size w9 w10 := below_then Bd hb10
          have z9 := (own_bin hoi HRD.out.db).1.str ci
          refine hKc.out _ _ (sF _ B10) (fun hHeld => ?_)
          clear hKc Kc hoi hb10
          refine wpAnyH_ready (rs := [7]) (by kernel_rfl) (by simp) ?_
          refine AllReadyH.cons (by simp; rfl) (fun Kc hKc => ?_) AllReadyH.nil
          go_simp
          refine hKc.out _ _ (sF _ B10) (fun hHeld => ?_)
          clear hKc Kc z9
          refine wpAnyH_take (i := 18) (v := ?v18hb) (by simp; rfl) (by kernel_rfl) (by kernel_rfl) (by kernel_rfl) (fun _ _ _ h => h) (Or.inl ⟨by rfl, ?y18hb⟩) hHeld ?r18hb
          case y18hb => intro w hSw; clear hSw; go_simp; with_reducible rfl
          simp only [Act.put, List.setIfInBounds_toArray, List.set_cons_zero, List.set_cons_succ]
          refine wpAnyH_take (i := 19) (v := ?v19hb) (by simp; rfl) (by kernel_rfl) (by kernel_rfl) (by kernel_rfl) (fun _ _ _ h => h) (Or.inl ⟨by rfl, ?y19hb⟩) hHeld ?r19hb
          case y19hb => intro w hSw; clear hSw; go_simp; with_reducible rfl
          simp only [Act.put, List.setIfInBounds_toArray, List.set_cons_zero, List.set_cons_succ]
          refine wpAnyH_take (i := 20) (v := ?v20hb) (by simp; rfl) (by kernel_rfl) (by kernel_rfl) (by kernel_rfl) (fun _ _ _ h => h) (Or.inl ⟨by rfl, ?y20hb⟩) hHeld ?r20hb
          case y20hb => intro w hSw; clear hSw; go_simp; with_reducible rfl
          simp only [Act.put, List.setIfInBounds_toArray, List.set_cons_zero, List.set_cons_succ]
          refine wpAnyH_take (i := 21) (v := ?v21hb) (by simp; rfl) (by kernel_rfl) (by kernel_rfl) (by kernel_rfl) (fun _ _ _ h => h) (Or.inl ⟨by rfl, ?y21hb⟩) hHeld ?r21hb
          case y21hb => intro w hSw; clear hSw; go_simp; with_reducible rfl
          simp only [Act.put, List.setIfInBounds_toArray, List.set_cons_zero, List.set_cons_succ]
          refine wpAnyH_take (i := 22) (v := ?v22hb) (by simp; rfl) (by kernel_rfl) (by kernel_rfl) (by kernel_rfl) (fun _ _ _ h => h) (Or.inl ⟨by rfl, ?y22hb⟩) hHeld ?r22hb
          case y22hb => intro w hSw; clear hSw; go_simp; with_reducible rfl
          simp only [Act.put, List.setIfInBounds_toArray, List.set_cons_zero, List.set_cons_succ]
          refine wpAnyH_take (i := 23) (v := ?v23hb) (by simp; rfl) (by kernel_rfl) (by kernel_rfl) (by kernel_rfl) (fun _ _ _ h => h) (Or.inl ⟨by rfl, ?y23hb⟩) hHeld ?r23hb
          case y23hb => intro w hSw; clear hSw; go_simp; with_reducible rfl
          simp only [Act.put, List.setIfInBounds_toArray, List.set_cons_zero, List.set_cons_succ]
          refine wpAnyH_take (i := 24) (v := ?v24hb) (by simp; rfl) (by kernel_rfl) (by kernel_rfl) (by kernel_rfl) (fun _ _ _ h => h) (Or.inl ⟨by rfl, ?y24hb⟩) hHeld ?r24hb
          case y24hb => intro w hSw; clear hSw; go_simp; with_reducible rfl
          simp only [Act.put, List.setIfInBounds_toArray, List.set_cons_zero, List.set_cons_succ]
          refine wpAnyH_take (i := 25) (v := ?v25hb) (by simp; rfl) (by kernel_rfl) (by kernel_rfl) (by kernel_rfl) (fun _ _ _ h => h) (Or.inl ⟨by rfl, ?y25hb⟩) hHeld ?r25hb
          case y25hb => intro w hSw; obtain ⟨z1, z2, z3, z4, z5⟩ := hSw; go_simp; with_reducible rfl
          simp only [Act.put, List.setIfInBounds_toArray, List.set_cons_zero, List.set_cons_succ]
          refine wpAnyH_take (i := 27) (v := ?v27hb) (by simp; rfl) (by kernel_rfl) (by kernel_rfl) (by kernel_rfl) (fun _ _ _ h => h) (Or.inl ⟨by rfl, ?y27hb⟩) hHeld ?r27hb
          case y27hb => intro w hSw; clear hSw; go_simp; with_reducible rfl
          simp only [Act.put, List.setIfInBounds_toArray, List.set_cons_zero, List.set_cons_succ]
          refine wpAnyH_take (i := 28) (v := ?v28hb) (by simp; rfl) (by kernel_rfl) (by kernel_rfl) (by kernel_rfl) (fun _ _ _ h => h) (Or.inl ⟨by rfl, ?y28hb⟩) hHeld ?r28hb
          case y28hb => intro w hSw; clear hSw; go_simp; with_reducible rfl
          simp only [Act.put, List.setIfInBounds_toArray, List.set_cons_zero, List.set_cons_succ]
          refine wpAnyH_take (i := 29) (v := ?v29hb) (by simp; rfl) (by kernel_rfl) (by kernel_rfl) (by kernel_rfl) (fun _ _ _ h => h) (Or.inl ⟨by rfl, ?y29hb⟩) hHeld ?r29hb
          case y29hb => intro w hSw; clear hSw; go_simp; with_reducible rfl
          simp only [Act.put, List.setIfInBounds_toArray, List.set_cons_zero, List.set_cons_succ]
          refine wpAnyH_take (i := 30) (v := ?v30hb) (by simp; rfl) (by kernel_rfl) (by kernel_rfl) (by kernel_rfl) (fun _ _ _ h => h) (Or.inl ⟨by rfl, ?y30hb⟩) hHeld ?r30hb
          case y30hb => intro w hSw; clear hSw; go_simp; with_reducible rfl
          simp only [Act.put, List.setIfInBounds_toArray, List.set_cons_zero, List.set_cons_succ]
          refine wpAnyH_take (i := 31) (v := ?v31hb) (by simp; rfl) (by kernel_rfl) (by kernel_rfl) (by kernel_rfl) (fun _ _ _ h => h) (Or.inl ⟨by rfl, ?y31hb⟩) hHeld ?r31hb
          case y31hb => intro w hSw; clear hSw; go_simp; with_reducible rfl
          simp only [Act.put, List.setIfInBounds_toArray, List.set_cons_zero, List.set_cons_succ]
          refine wpAnyH_take (i := 32) (v := ?v32hb) (by simp; rfl) (by kernel_rfl) (by kernel_rfl) (by kernel_rfl) (fun _ _ _ h => h) (Or.inl ⟨by rfl, ?y32hb⟩) hHeld ?r32hb
          case y32hb => intro w hSw; obtain ⟨z1, z2, z3, z4, z5⟩ := hSw; go_simp; with_reducible rfl
          simp only [Act.put, List.setIfInBounds_toArray, List.set_cons_zero, List.set_cons_succ]
          refine wpAnyH_take (i := 33) (v := ?v33hb) (by simp; rfl) (by kernel_rfl) (by kernel_rfl) (by kernel_rfl) (fun _ _ _ h => h) (Or.inl ⟨by rfl, ?y33hb⟩) hHeld ?r33hb
          case y33hb => intro w hSw; clear hSw; go_simp; with_reducible rfl
          simp only [Act.put, List.setIfInBounds_toArray, List.set_cons_zero, List.set_cons_succ]
          refine wpAnyH_take (i := 34) (v := ?v34hb) (by simp; rfl) (by kernel_rfl) (by kernel_rfl) (by kernel_rfl) (fun _ _ _ h => h) (Or.inl ⟨by rfl, ?y34hb⟩) hHeld ?r34hb
          case y34hb => intro w hSw; clear hSw; go_simp; with_reducible rfl
          simp only [Act.put, List.setIfInBounds_toArray, List.set_cons_zero, List.set_cons_succ]
          refine wpAnyH_take (i := 35) (v := ?v35hb) (by simp; rfl) (by kernel_rfl) (by kernel_rfl) (by kernel_rfl) (fun _ _ _ h => h) (Or.inl ⟨by rfl, ?y35hb⟩) hHeld ?r35hb
          case y35hb => intro w hSw; obtain ⟨z1, z2, z3, z4, z5⟩ := hSw; go_simp; with_reducible rfl
          simp only [Act.put, List.setIfInBounds_toArray, List.set_cons_zero, List.set_cons_succ]
          refine wpAnyH_ready (rs := [26]) (by kernel_rfl) (by simp) ?_
          refine AllReadyH.cons (by simp; rfl) (fun Kc hKc => ?_) AllReadyH.nil
          go_simp
          refine (waiting_any (HD.out.later B10) (by omega)).mono ?_
          rintro e1 w11 ⟨gw, vsw, rfl, htw, hb11⟩
          have B11 : Below w9.heap.size w9 w11 := below_then B10 hb11
          refine hKc.out _ _ (sF _ B11) (fun hHeld => ?_)
          clear hKc Kc hb11
          refine wpAnyH_ready (rs := [36]) (by kernel_rfl) (by simp) ?_
          refine AllReadyH.cons (by simp; rfl) (fun Kc hKc => ?_) AllReadyH.nil
          go_simp
          refine (same_any htw (HRD.out.later B11) (by omega)).mono ?_
          rintro e1 w12 ⟨rfl, hb12⟩
          have B12 : Below w9.heap.size w9 w12 := below_then B11 hb12
          refine hKc.out _ _ (sF _ B12) (fun hHeld => ?_)
          clear hKc Kc hb12 htw
          refine wpAnyH_take (i := 37) (v := ?v37hb) (by simp; rfl) (by kernel_rfl) (by kernel_rfl) (by kernel_rfl) (fun _ _ _ h => h) (Or.inl ⟨by rfl, ?y37hb⟩) hHeld ?r37hb
          case y37hb => intro w hSw; clear hSw; go_simp; with_reducible rfl
          simp only [Act.put, List.setIfInBounds_toArray, List.set_cons_zero, List.set_cons_succ]
          refine wpAnyH_take (i := 38) (v := ?v38hb) (by simp; rfl) (by kernel_rfl) (by kernel_rfl) (by kernel_rfl) (fun _ _ _ h => h) (Or.inl ⟨by rfl, ?y38hb⟩) hHeld ?r38hb
          case y38hb => intro w hSw; clear hSw; go_simp; with_reducible rfl
          simp only [Act.put, List.setIfInBounds_toArray, List.set_cons_zero, List.set_cons_succ]
          refine wpAnyH_done (by kernel_rfl) (NoPanic.normal ?_) _
          have HN : Hid (Below w9.heap.size w9 w12) := B12
          clear hHeld sF Bd B10 B11 B12 HRc
          go_wp2
          go_roundw
          case rel => exact ⟨c + 1, by omega, by go_num, HN.out⟩
          case measure => simp [intOf]; omega
        · obtain ⟨tv, wv, tl, wl, htd⟩ := HP9.out.tld
          obtain ⟨pt, ct, rfl, _⟩ := own_slice htd.told
          obtain ⟨pw, cw, rfl, _⟩ := own_slice htd.want
          have HTD : Hid (TD w9 R P m (.slice pt m ct) (.slice pw m cw) tl wl) := htd
          clear htd
          have mF : ∀ W, Below w9.heap.size w9 W → TD W R P m (.slice pt m ct) (.slice pw m cw) tl wl := fun W hb => by
            have hP := hb.block P HP9.out.blk.lt
            exact HTD.out.move (fun _ _ => rfl) (fun k hk _ => hb.block k hk) (cell_same hP) (cell_same hP)
          have c4 := (mF _ HRc.out).c4
          go_wp2
          clear c4
          go_loopw [123] (fun v wr => ∃ j : Nat, j ≤ m ∧ v = .int .i64 j ∧ Hid (Below w9.heap.size w9 wr)) (fun v _ => m - (intOf v).toNat)
          case atStart => exact ⟨0, by omega, rfl, HRc.out⟩
          case round =>
            obtain ⟨j, hj, rfl, HRj⟩ := hrel
            by_cases hjm : j < m
            · have hT := mF _ HRj.out
              have hlt : j < tl.length := by have := own_len hT.told; omega
              have hlw : j < wl.length := by have := own_len hT.want; omega
              obtain ⟨g1, rfl, f1⟩ := own_at hT.told hlt
              obtain ⟨g2, rfl, f2⟩ := own_at hT.want hlw
              obtain ⟨bb, t1, t2⟩ := hT.each j hlt hlw
              obtain ⟨p1, c1, e1, i1, _⟩ := own_in t1.1 t1.2.1
              obtain ⟨p2, c2, e2, i2, _⟩ := own_in t2.1 t2.2.1
              rw [e1] at f1
              rw [e2] at f2
              have c4 := hT.c4
              have c5 := hT.c5
              have z1 : ∀ i, (convert 23 9 (.slice p1 bb.length c1)).run Try.prog (wr.drewN i) = .ok (.string (strOfNums bb)) (wr.drewN i) := fun i => (i1.drewN i).str c1
              have z2 : ∀ i, (convert 23 9 (.slice p2 bb.length c2)).run Try.prog (wr.drewN i) = .ok (.string (strOfNums bb)) (wr.drewN i) := fun i => (i2.drewN i).str c2
              clear hT t1 t2 e1 e2 i1 i2
              go_wp2
              go_quiet (fail)
              have HN : Hid (Below w9.heap.size w9 (wr.drewN nq)) := HRj.out.trans (below_drawn nq)
              clear f1 f2 c4 c5 z1 z2 HRj
              go_wp2
              go_roundw
              case rel => exact ⟨j + 1, by omega, by go_num, HN.out⟩
              case measure => simp [intOf]; omega
            · go_wp2
              go_ret
              exact ⟨rfl, below_then HB9.out HRj.out⟩

theorem splays_any (s : Int) (ps : Option Addr) (ls cs : Nat) (os : List OpV) (w : World) (h : ScIn w w.heap.size ps ls os) (hm : ls ≤ maxLen) :
    Calls Try.prog 6 #[.int .i64 s, .slice ps ls cs] w fun e w' => e = .returned (.bool true) ∧ Below w.heap.size w w' := by
  by_cases h1 : s < 1
  · exact splays_none s _ w h1
  by_cases h2 : (64 : Int) < s
  · exact splays_big s ps ls cs os w h hm (s % 64 + 1).toNat (by omega) (by omega) h2 (by omega)
  · exact splays_good s ps ls cs os w h hm s.toNat (by omega) (by omega) ⟨h2, by omega⟩
end Go.Proofs.Ytlidjenkicgldaa
