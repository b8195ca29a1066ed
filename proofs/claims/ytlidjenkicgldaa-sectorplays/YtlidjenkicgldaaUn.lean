/-
  The statement SectorPlays: its walk.
-/
import Derived.Test.YtlidjenkicgldaaUm
namespace Go.Proofs.Ytlidjenkicgldaa
open Go.RowKit

/-- the cells of a step -/
theorem step_cells {w : World} {b o : Nat} {op : OpV} (h : w.rangeAt b o op.val) : w.cell? ⟨b, o, none⟩ = some (.int .i64 op.kd) ∧ w.cell? ⟨b, o + 1, none⟩ = some (.int .i64 op.W) ∧ w.cell? ⟨b, o + 2, none⟩ = some (.int .i64 op.N) ∧ w.cell? ⟨b, o + 3, none⟩ = some (.slice op.pd op.ld op.cd) ∧ w.cell? ⟨b, o + 4, none⟩ = some (.slice op.pk op.lk op.ck) :=
  ⟨h 0 _ rfl, h 1 _ rfl, h 2 _ rfl, h 3 _ rfl, h 4 _ rfl⟩

/-- an element of a list that is owned -/
theorem own_at {w : World} {base m c j : Nat} {p : Option Addr} {tl : List Value} (h : w.ownsRow base 23 1 (.slice p m c) m tl) (hj : j < tl.length) : ∃ g, p = some ⟨g, 0, none⟩ ∧ w.cell? ⟨g, j, none⟩ = some tl[j] := by
  have hl : tl.length = m := own_len h
  rcases h.2 with ⟨_, h2⟩ | ⟨g, cap, cur, h1, _⟩
  · omega
  · simp only [Value.slice.injEq] at h1
    obtain ⟨rfl, _, _⟩ := h1
    have := own_range h j _ (List.getElem?_eq_getElem hj)
    rw [Nat.zero_add] at this
    exact ⟨g, rfl, this⟩

set_option maxHeartbeats 2000000 in
theorem splays_none (s : Int) (v : Value) (w : World) (h : s < 1) :
    Calls Try.prog 6 #[.int .i64 s, v] w fun e w' => e = .returned (.bool true) ∧ Below w.heap.size w w' := by
  have h64 : ¬ (64 : Int) < s := by omega
  go_enter Try.func6, Try.ntmps6
  go_wp2_with fail
  refine (awake_any w).mono ?_
  rintro e w1 ⟨rfl, hb1⟩
  go_wp2_with fail
  refine (new_bad s w1 (by omega)).mono ?_
  rintro e w2 ⟨rfl, rfl⟩
  go_wp2_with fail
  refine (rnew_bad s w1 (by omega)).mono ?_
  rintro e w2 ⟨rfl, rfl⟩
  go_wp2
  go_ret
  exact ⟨rfl, hb1⟩

set_option maxRecDepth 100000 in
set_option maxHeartbeats 8000000 in
theorem splays_good (s : Int) (ps : Option Addr) (ls cs : Nat) (os : List OpV) (w : World) (h : ScIn w w.heap.size ps ls os) (hm : ls ≤ maxLen) (n : Nat) (hn1 : 1 ≤ n) (hn2 : n ≤ 64) (hs : ¬ (64 : Int) < s ∧ s = (n : Int)) :
    Calls Try.prog 6 #[.int .i64 s, .slice ps ls cs] w fun e w' => e = .returned (.bool true) ∧ Below w.heap.size w w' := by
  obtain ⟨h64, rfl⟩ := hs
  have HSc : Hid (ScIn w w.heap.size ps ls os) := h
  have hmx : ls ≤ 9223372036854775807 := hm
  clear h hm
  go_enter Try.func6, Try.ntmps6
  go_wp2_with fail
  refine (awake_any w).mono ?_
  rintro e w1 ⟨rfl, hb1⟩
  go_wp2_with fail
  refine (new_good n w1 hn1 (by omega)).mono ?_
  rintro e w2 ⟨p, rfl, hd0, b2⟩
  go_wp2_with fail
  refine (rnew_good n w2 hn1 (by omega)).mono ?_
  rintro e w3 ⟨q, rfl, hr0, b3⟩
  go_wp2_with fail
  refine (copy_any (hd0.later b3) (by simp)).mono ?_
  rintro e w4 ⟨p', rfl, hd1, b4⟩
  go_wp2_with fail
  refine (rcopy_any (hr0.later b4) (by simp)).mono ?_
  rintro e w5 ⟨q', rfl, hr1, b5⟩
  have HS0 : Hid (St (w5.alloc (.cells #[.pointer (some ⟨p, 0, none⟩), .pointer (some ⟨p', 0, none⟩), .pointer (some ⟨q, 0, none⟩), .pointer (some ⟨q', 0, none⟩), .slice none 0 0, .slice none 0 0] 58)) w.heap.size w5.heap.size n 0 ∧ Below w.heap.size w (w5.alloc (.cells #[.pointer (some ⟨p, 0, none⟩), .pointer (some ⟨p', 0, none⟩), .pointer (some ⟨q, 0, none⟩), .pointer (some ⟨q', 0, none⟩), .slice none 0 0, .slice none 0 0] 58))) := ⟨St.start (B := w.heap.size) hb1.size b2 b3 b4 b5 hd0 hr0 hd1 hr1, (below_then (below_then (below_then (below_then hb1 b2) b3) b4) b5).trans ((below_alloc w5 _).mono (below_then (below_then (below_then (below_then hb1 b2) b3) b4) b5).size)⟩
  clear hd0 hr0 hd1 hr1 b2 b3 b4 b5 hb1
  go_wp2
  revert HS0
  generalize w5.alloc (.cells #[.pointer (some ⟨p, 0, none⟩), .pointer (some ⟨p', 0, none⟩), .pointer (some ⟨q, 0, none⟩), .pointer (some ⟨q', 0, none⟩), .slice none 0 0, .slice none 0 0] 58) = w6
  generalize w5.heap.size = P
  intro HS0
  go_loopw [10] (fun v wr => ∃ k : Nat, k ≤ 40 ∧ k ≤ ls ∧ v = .int .i64 k ∧ Hid (St wr w.heap.size P n k ∧ Below w.heap.size w wr)) (fun v _ => 40 - (intOf v).toNat)
  case atStart => exact ⟨0, by omega, by omega, rfl, HS0.out⟩
  case round =>
    obtain ⟨k, hk40, hkl, rfl, HR⟩ := hrel
    clear HS0
    by_cases hl : k < ls
    · by_cases h40 : k < 40
      · have hsc := HSc.out.below HR.out.2
        have hko : k < os.length := by have := hsc.len; omega
        obtain ⟨b, o, rfl, _, hcl⟩ := hsc.cells (by omega)
        have hop := hsc.each k hko
        obtain ⟨f0, f1, f2, f3, f4⟩ := step_cells (hcl k hko)
        clear hcl hsc
        revert hop f0 f1 f2 f3 f4
        generalize os[k] = op
        intro hop f0 f1 f2 f3 f4
        have HOp : Hid (OpIn wr w.heap.size op) := hop
        clear hop
        go_wp2_with fail
        refine (plays_any HR.out.1 (by omega) op HOp.out).mono ?_
        rintro e1 w7 ⟨rfl, hst, hb7⟩
        have HN : Hid (St w7 w.heap.size P n (k + 1) ∧ Below w.heap.size w w7) := ⟨hst, HR.out.2.trans hb7⟩
        clear hst hb7 f0 f1 f2 f3 f4 HOp HR
        go_wp2
        go_roundw
        case rel => exact ⟨k + 1, by omega, by omega, by go_num, HN.out⟩
        case measure => simp [intOf]; omega
      · obtain ⟨w9, hw9⟩ : ∃ w9, w9 = wr := ⟨_, rfl⟩
        subst hw9
        have HS9 : Hid (St w9 w.heap.size P n k ∧ Below w.heap.size w w9) := HR
        clear HR
        obtain ⟨R, x, y, e, u, m, hp, hu, hm9, _⟩ := HS9.out.1
        have HP9 : Hid (Pr w9 R w.heap.size P x y n e u e u m) := hp
        have HB9 : Hid (Below w.heap.size w w9) := HS9.out.2
        clear hp HS9
        go_wp2
        go_loopw [11] (fun v wr => ∃ c : Nat, c ≤ 2 ∧ v = .int .i64 c ∧ Hid (Below w9.heap.size w9 wr)) (fun v _ => 2 - (intOf v).toNat)
        case atStart => exact ⟨0, by omega, rfl, Below.refl _ _⟩
        case round =>
          obtain ⟨c, hc, rfl, HRc⟩ := hrel
          obtain ⟨wc, hwc⟩ : ∃ wc, wc = wr := ⟨_, rfl⟩
          subst hwc
          by_cases hc2 : c < 2
          · have hc2I : (c : Int) < 2 := by omega
            have hul := hu c hc2
            have HD : Hid (Dsk w9 (fun k => R k = 1 + c) (x c) n (e c) (u c)) := HP9.out.dsk c hc2
            obtain ⟨gr, Lr, cr, vr, vsr, hrd⟩ := HP9.out.ref c hc2
            obtain ⟨pv, cv, rfl, _⟩ := own_slice hrd.wr
            have HRD : Hid (RD w9 (fun k => R k = 3 + c) (y c) n (e c) (u c) gr Lr cr (.slice pv (u c).length cv) vsr) := hrd
            clear hrd
            have sF : ∀ W, Below w9.heap.size w9 W → W.cell? ⟨P, c, none⟩ = some (.pointer (some ⟨x c, 0, none⟩)) ∧ W.cell? ⟨P, 2 + c, none⟩ = some (.pointer (some ⟨y c, 0, none⟩)) ∧ W.cell? ⟨y c, 0, none⟩ = some (.slice (some ⟨gr, 0, none⟩) Lr cr) ∧ W.cell? ⟨y c, 1, none⟩ = some (.slice pv (u c).length cv) ∧ (convert 23 9 (.slice (some ⟨gr, 0, none⟩) Lr cr)).run Try.prog W = .ok (.string (strOfNums (e c))) W := fun W hb =>
              ⟨(HP9.out.later hb).cx c hc2, (HP9.out.later hb).cy c hc2, (HRD.out.later hb).cell0, (HRD.out.later hb).cell1, (own_bin (HRD.out.later hb).dur HRD.out.db).1.str cr⟩
            have Bd : Below w9.heap.size w9 wc.drew := HRc.out.trans ⟨rfl, rfl, rfl, Nat.le_refl _, fun _ _ => rfl⟩
            go_wp2
            refine wp_region_noPanic ?_
            refine wp_region_held_drew (S := fun w' => w'.cell? ⟨P, c, none⟩ = some (.pointer (some ⟨x c, 0, none⟩)) ∧ w'.cell? ⟨P, 2 + c, none⟩ = some (.pointer (some ⟨y c, 0, none⟩)) ∧ w'.cell? ⟨y c, 0, none⟩ = some (.slice (some ⟨gr, 0, none⟩) Lr cr) ∧ w'.cell? ⟨y c, 1, none⟩ = some (.slice pv (u c).length cv) ∧ (convert 23 9 (.slice (some ⟨gr, 0, none⟩) Lr cr)).run Try.prog w' = .ok (.string (strOfNums (e c))) w') (by kernel_rfl) (sF _ Bd) (fun hHeld => ?_)
            refine wpAnyH_take (i := 0) (v := ?v0ga) (by simp; rfl) (by kernel_rfl) (by kernel_rfl) (by kernel_rfl) (fun _ _ _ h => h) (Or.inl ⟨by rfl, ?y0ga⟩) hHeld ?r0ga
            case y0ga => intro w hSw; clear hSw; go_simp; with_reducible rfl
            simp only [Act.put, List.setIfInBounds_toArray, List.set_cons_zero, List.set_cons_succ]
            refine wpAnyH_take (i := 1) (v := ?v1ga) (by simp; rfl) (by kernel_rfl) (by kernel_rfl) (by kernel_rfl) (fun _ _ _ h => h) (Or.inl ⟨by rfl, ?y1ga⟩) hHeld ?r1ga
            case y1ga => intro w hSw; clear hSw; go_simp; with_reducible rfl
            simp only [Act.put, List.setIfInBounds_toArray, List.set_cons_zero, List.set_cons_succ]
            refine wpAnyH_take (i := 2) (v := ?v2ga) (by simp; rfl) (by kernel_rfl) (by kernel_rfl) (by kernel_rfl) (fun _ _ _ h => h) (Or.inl ⟨by rfl, ?y2ga⟩) hHeld ?r2ga
            case y2ga => intro w hSw; clear hSw; go_simp; with_reducible rfl
            simp only [Act.put, List.setIfInBounds_toArray, List.set_cons_zero, List.set_cons_succ]
            refine wpAnyH_take (i := 3) (v := ?v3ga) (by simp; rfl) (by kernel_rfl) (by kernel_rfl) (by kernel_rfl) (fun _ _ _ h => h) (Or.inl ⟨by rfl, ?y3ga⟩) hHeld ?r3ga
            case y3ga => intro w hSw; clear hSw; go_simp; with_reducible rfl
            simp only [Act.put, List.setIfInBounds_toArray, List.set_cons_zero, List.set_cons_succ]
            refine wpAnyH_take (i := 4) (v := ?v4ga) (by simp; rfl) (by kernel_rfl) (by kernel_rfl) (by kernel_rfl) (fun _ _ _ h => h) (Or.inl ⟨by rfl, ?y4ga⟩) hHeld ?r4ga
            case y4ga => intro w hSw; clear hSw; go_simp; with_reducible rfl
            simp only [Act.put, List.setIfInBounds_toArray, List.set_cons_zero, List.set_cons_succ]
            refine wpAnyH_take (i := 5) (v := ?v5ga) (by simp; rfl) (by kernel_rfl) (by kernel_rfl) (by kernel_rfl) (fun _ _ _ h => h) (Or.inl ⟨by rfl, ?y5ga⟩) hHeld ?r5ga
            case y5ga => intro w hSw; obtain ⟨z1, z2, z3, z4, z5⟩ := hSw; go_simp; with_reducible rfl
            simp only [Act.put, List.setIfInBounds_toArray, List.set_cons_zero, List.set_cons_succ]
            refine wpAnyH_take (i := 8) (v := ?v8ga) (by simp; rfl) (by kernel_rfl) (by kernel_rfl) (by kernel_rfl) (fun _ _ _ h => h) (Or.inl ⟨by rfl, ?y8ga⟩) hHeld ?r8ga
            case y8ga => intro w hSw; clear hSw; go_simp; with_reducible rfl
            simp only [Act.put, List.setIfInBounds_toArray, List.set_cons_zero, List.set_cons_succ]
            refine wpAnyH_take (i := 9) (v := ?v9ga) (by simp; rfl) (by kernel_rfl) (by kernel_rfl) (by kernel_rfl) (fun _ _ _ h => h) (Or.inl ⟨by rfl, ?y9ga⟩) hHeld ?r9ga
            case y9ga => intro w hSw; clear hSw; go_simp; with_reducible rfl
            simp only [Act.put, List.setIfInBounds_toArray, List.set_cons_zero, List.set_cons_succ]
            refine wpAnyH_take (i := 10) (v := ?v10ga) (by simp; rfl) (by kernel_rfl) (by kernel_rfl) (by kernel_rfl) (fun _ _ _ h => h) (Or.inl ⟨by rfl, ?y10ga⟩) hHeld ?r10ga
            case y10ga => intro w hSw; clear hSw; go_simp; with_reducible rfl
            simp only [Act.put, List.setIfInBounds_toArray, List.set_cons_zero, List.set_cons_succ]
            refine wpAnyH_take (i := 11) (v := ?v11ga) (by simp; rfl) (by kernel_rfl) (by kernel_rfl) (by kernel_rfl) (fun _ _ _ h => h) (Or.inl ⟨by rfl, ?y11ga⟩) hHeld ?r11ga
            case y11ga => intro w hSw; clear hSw; go_simp; with_reducible rfl
            simp only [Act.put, List.setIfInBounds_toArray, List.set_cons_zero, List.set_cons_succ]
            refine wpAnyH_take (i := 12) (v := ?v12ga) (by simp; rfl) (by kernel_rfl) (by kernel_rfl) (by kernel_rfl) (fun _ _ _ h => h) (Or.inl ⟨by rfl, ?y12ga⟩) hHeld ?r12ga
            case y12ga => intro w hSw; clear hSw; go_simp; with_reducible rfl
            simp only [Act.put, List.setIfInBounds_toArray, List.set_cons_zero, List.set_cons_succ]
            refine wpAnyH_take (i := 13) (v := ?v13ga) (by simp; rfl) (by kernel_rfl) (by kernel_rfl) (by kernel_rfl) (fun _ _ _ h => h) (Or.inl ⟨by rfl, ?y13ga⟩) hHeld ?r13ga
            case y13ga => intro w hSw; obtain ⟨z1, z2, z3, z4, z5⟩ := hSw; go_simp; with_reducible rfl
            simp only [Act.put, List.setIfInBounds_toArray, List.set_cons_zero, List.set_cons_succ]
            refine wpAnyH_take (i := 14) (v := ?v14ga) (by simp; rfl) (by kernel_rfl) (by kernel_rfl) (by kernel_rfl) (fun _ _ _ h => h) (Or.inl ⟨by rfl, ?y14ga⟩) hHeld ?r14ga
            case y14ga => intro w hSw; clear hSw; go_simp; with_reducible rfl
            simp only [Act.put, List.setIfInBounds_toArray, List.set_cons_zero, List.set_cons_succ]
            refine wpAnyH_take (i := 15) (v := ?v15ga) (by simp; rfl) (by kernel_rfl) (by kernel_rfl) (by kernel_rfl) (fun _ _ _ h => h) (Or.inl ⟨by rfl, ?y15ga⟩) hHeld ?r15ga
            case y15ga => intro w hSw; clear hSw; go_simp; with_reducible rfl
            simp only [Act.put, List.setIfInBounds_toArray, List.set_cons_zero, List.set_cons_succ]
            refine wpAnyH_take (i := 16) (v := ?v16ga) (by simp; rfl) (by kernel_rfl) (by kernel_rfl) (by kernel_rfl) (fun _ _ _ h => h) (Or.inl ⟨by rfl, ?y16ga⟩) hHeld ?r16ga
            case y16ga => intro w hSw; obtain ⟨z1, z2, z3, z4, z5⟩ := hSw; go_simp; with_reducible rfl
            simp only [Act.put, List.setIfInBounds_toArray, List.set_cons_zero, List.set_cons_succ]
            refine wpAnyH_take (i := 17) (v := ?v17ga) (by simp; rfl) (by kernel_rfl) (by kernel_rfl) (by kernel_rfl) (fun _ _ _ h => h) (Or.inl ⟨by rfl, ?y17ga⟩) hHeld ?r17ga
            case y17ga => intro w hSw; obtain ⟨z1, z2, z3, z4, z5⟩ := hSw; go_simp; with_reducible rfl
            simp only [Act.put, List.setIfInBounds_toArray, List.set_cons_zero, List.set_cons_succ]
            refine wpAnyH_ready (rs := [6]) (by kernel_rfl) (by simp) ?_
            refine AllReadyH.cons (by simp; rfl) (fun Kc hKc => ?_) AllReadyH.nil
            go_simp
            refine (image_any (HD.out.later Bd)).mono ?_
            rintro e1 w10 ⟨vi, rfl, hoi, hb10⟩
            obtain ⟨qi, ci, rfl, _⟩ := own_slice hoi
            have B10 : Below w9.heap.size w9 w10 := below_then Bd hb10
            have z9 := (own_bin hoi HRD.out.db).1.str ci
            refine hKc.out _ _ (sF _ B10) (fun hHeld => ?_)
            clear hKc Kc hoi hb10
            refine wpAnyH_ready (rs := [7]) (by kernel_rfl) (by simp) ?_
            refine AllReadyH.cons (by simp; rfl) (fun Kc hKc => ?_) AllReadyH.nil
            go_simp
            refine hKc.out _ _ (sF _ B10) (fun hHeld => ?_)
            clear hKc Kc z9
            refine wpAnyH_take (i := 18) (v := ?v18ga) (by simp; rfl) (by kernel_rfl) (by kernel_rfl) (by kernel_rfl) (fun _ _ _ h => h) (Or.inl ⟨by rfl, ?y18ga⟩) hHeld ?r18ga
            case y18ga => intro w hSw; clear hSw; go_simp; with_reducible rfl
            simp only [Act.put, List.setIfInBounds_toArray, List.set_cons_zero, List.set_cons_succ]
            refine wpAnyH_take (i := 19) (v := ?v19ga) (by simp; rfl) (by kernel_rfl) (by kernel_rfl) (by kernel_rfl) (fun _ _ _ h => h) (Or.inl ⟨by rfl, ?y19ga⟩) hHeld ?r19ga
            case y19ga => intro w hSw; clear hSw; go_simp; with_reducible rfl
            simp only [Act.put, List.setIfInBounds_toArray, List.set_cons_zero, List.set_cons_succ]
            refine wpAnyH_take (i := 20) (v := ?v20ga) (by simp; rfl) (by kernel_rfl) (by kernel_rfl) (by kernel_rfl) (fun _ _ _ h => h) (Or.inl ⟨by rfl, ?y20ga⟩) hHeld ?r20ga
            case y20ga => intro w hSw; clear hSw; go_simp; with_reducible rfl
            simp only [Act.put, List.setIfInBounds_toArray, List.set_cons_zero, List.set_cons_succ]
            refine wpAnyH_take (i := 21) (v := ?v21ga) (by simp; rfl) (by kernel_rfl) (by kernel_rfl) (by kernel_rfl) (fun _ _ _ h => h) (Or.inl ⟨by rfl, ?y21ga⟩) hHeld ?r21ga
            case y21ga => intro w hSw; clear hSw; go_simp; with_reducible rfl
            simp only [Act.put, List.setIfInBounds_toArray, List.set_cons_zero, List.set_cons_succ]
            refine wpAnyH_take (i := 22) (v := ?v22ga) (by simp; rfl) (by kernel_rfl) (by kernel_rfl) (by kernel_rfl) (fun _ _ _ h => h) (Or.inl ⟨by rfl, ?y22ga⟩) hHeld ?r22ga
            case y22ga => intro w hSw; clear hSw; go_simp; with_reducible rfl
            simp only [Act.put, List.setIfInBounds_toArray, List.set_cons_zero, List.set_cons_succ]
            refine wpAnyH_take (i := 23) (v := ?v23ga) (by simp; rfl) (by kernel_rfl) (by kernel_rfl) (by kernel_rfl) (fun _ _ _ h => h) (Or.inl ⟨by rfl, ?y23ga⟩) hHeld ?r23ga
            case y23ga => intro w hSw; clear hSw; go_simp; with_reducible rfl
            simp only [Act.put, List.setIfInBounds_toArray, List.set_cons_zero, List.set_cons_succ]
            refine wpAnyH_take (i := 24) (v := ?v24ga) (by simp; rfl) (by kernel_rfl) (by kernel_rfl) (by kernel_rfl) (fun _ _ _ h => h) (Or.inl ⟨by rfl, ?y24ga⟩) hHeld ?r24ga
            case y24ga => intro w hSw; clear hSw; go_simp; with_reducible rfl
            simp only [Act.put, List.setIfInBounds_toArray, List.set_cons_zero, List.set_cons_succ]
            refine wpAnyH_take (i := 25) (v := ?v25ga) (by simp; rfl) (by kernel_rfl) (by kernel_rfl) (by kernel_rfl) (fun _ _ _ h => h) (Or.inl ⟨by rfl, ?y25ga⟩) hHeld ?r25ga
            case y25ga => intro w hSw; obtain ⟨z1, z2, z3, z4, z5⟩ := hSw; go_simp; with_reducible rfl
            simp only [Act.put, List.setIfInBounds_toArray, List.set_cons_zero, List.set_cons_succ]
            refine wpAnyH_take (i := 27) (v := ?v27ga) (by simp; rfl) (by kernel_rfl) (by kernel_rfl) (by kernel_rfl) (fun _ _ _ h => h) (Or.inl ⟨by rfl, ?y27ga⟩) hHeld ?r27ga
            case y27ga => intro w hSw; clear hSw; go_simp; with_reducible rfl
            simp only [Act.put, List.setIfInBounds_toArray, List.set_cons_zero, List.set_cons_succ]
            refine wpAnyH_take (i := 28) (v := ?v28ga) (by simp; rfl) (by kernel_rfl) (by kernel_rfl) (by kernel_rfl) (fun _ _ _ h => h) (Or.inl ⟨by rfl, ?y28ga⟩) hHeld ?r28ga
            case y28ga => intro w hSw; clear hSw; go_simp; with_reducible rfl
            simp only [Act.put, List.setIfInBounds_toArray, List.set_cons_zero, List.set_cons_succ]
            refine wpAnyH_take (i := 29) (v := ?v29ga) (by simp; rfl) (by kernel_rfl) (by kernel_rfl) (by kernel_rfl) (fun _ _ _ h => h) (Or.inl ⟨by rfl, ?y29ga⟩) hHeld ?r29ga
            case y29ga => intro w hSw; clear hSw; go_simp; with_reducible rfl
            simp only [Act.put, List.setIfInBounds_toArray, List.set_cons_zero, List.set_cons_succ]
            refine wpAnyH_take (i := 30) (v := ?v30ga) (by simp; rfl) (by kernel_rfl) (by kernel_rfl) (by kernel_rfl) (fun _ _ _ h => h) (Or.inl ⟨by rfl, ?y30ga⟩) hHeld ?r30ga
            case y30ga => intro w hSw; clear hSw; go_simp; with_reducible rfl
            simp only [Act.put, List.setIfInBounds_toArray, List.set_cons_zero, List.set_cons_succ]
            refine wpAnyH_take (i := 31) (v := ?v31ga) (by simp; rfl) (by kernel_rfl) (by kernel_rfl) (by kernel_rfl) (fun _ _ _ h => h) (Or.inl ⟨by rfl, ?y31ga⟩) hHeld ?r31ga
            case y31ga => intro w hSw; clear hSw; go_simp; with_reducible rfl
            simp only [Act.put, List.setIfInBounds_toArray, List.set_cons_zero, List.set_cons_succ]
            refine wpAnyH_take (i := 32) (v := ?v32ga) (by simp; rfl) (by kernel_rfl) (by kernel_rfl) (by kernel_rfl) (fun _ _ _ h => h) (Or.inl ⟨by rfl, ?y32ga⟩) hHeld ?r32ga
            case y32ga => intro w hSw; obtain ⟨z1, z2, z3, z4, z5⟩ := hSw; go_simp; with_reducible rfl
            simp only [Act.put, List.setIfInBounds_toArray, List.set_cons_zero, List.set_cons_succ]
            refine wpAnyH_take (i := 33) (v := ?v33ga) (by simp; rfl) (by kernel_rfl) (by kernel_rfl) (by kernel_rfl) (fun _ _ _ h => h) (Or.inl ⟨by rfl, ?y33ga⟩) hHeld ?r33ga
            case y33ga => intro w hSw; clear hSw; go_simp; with_reducible rfl
            simp only [Act.put, List.setIfInBounds_toArray, List.set_cons_zero, List.set_cons_succ]
            refine wpAnyH_take (i := 34) (v := ?v34ga) (by simp; rfl) (by kernel_rfl) (by kernel_rfl) (by kernel_rfl) (fun _ _ _ h => h) (Or.inl ⟨by rfl, ?y34ga⟩) hHeld ?r34ga
            case y34ga => intro w hSw; clear hSw; go_simp; with_reducible rfl
            simp only [Act.put, List.setIfInBounds_toArray, List.set_cons_zero, List.set_cons_succ]
            refine wpAnyH_take (i := 35) (v := ?v35ga) (by simp; rfl) (by kernel_rfl) (by kernel_rfl) (by kernel_rfl) (fun _ _ _ h => h) (Or.inl ⟨by rfl, ?y35ga⟩) hHeld ?r35ga
            case y35ga => intro w hSw; obtain ⟨z1, z2, z3, z4, z5⟩ := hSw; go_simp; with_reducible rfl
            simp only [Act.put, List.setIfInBounds_toArray, List.set_cons_zero, List.set_cons_succ]
            refine wpAnyH_ready (rs := [26]) (by kernel_rfl) (by simp) ?_
            refine AllReadyH.cons (by simp; rfl) (fun Kc hKc => ?_) AllReadyH.nil
            go_simp
            refine (waiting_any (HD.out.later B10) (by omega)).mono ?_
            rintro e1 w11 ⟨gw, vsw, rfl, htw, hb11⟩
            have B11 : Below w9.heap.size w9 w11 := below_then B10 hb11
            refine hKc.out _ _ (sF _ B11) (fun hHeld => ?_)
            clear hKc Kc hb11
            refine wpAnyH_ready (rs := [36]) (by kernel_rfl) (by simp) ?_
            refine AllReadyH.cons (by simp; rfl) (fun Kc hKc => ?_) AllReadyH.nil
            go_simp
            refine (same_any htw (HRD.out.later B11) (by omega)).mono ?_
            rintro e1 w12 ⟨rfl, hb12⟩
            have B12 : Below w9.heap.size w9 w12 := below_then B11 hb12
            refine hKc.out _ _ (sF _ B12) (fun hHeld => ?_)
            clear hKc Kc hb12 htw
            refine wpAnyH_take (i := 37) (v := ?v37ga) (by simp; rfl) (by kernel_rfl) (by kernel_rfl) (by kernel_rfl) (fun _ _ _ h => h) (Or.inl ⟨by rfl, ?y37ga⟩) hHeld ?r37ga
            case y37ga => intro w hSw; clear hSw; go_simp; with_reducible rfl
            simp only [Act.put, List.setIfInBounds_toArray, List.set_cons_zero, List.set_cons_succ]
            refine wpAnyH_take (i := 38) (v := ?v38ga) (by simp; rfl) (by kernel_rfl) (by kernel_rfl) (by kernel_rfl) (fun _ _ _ h => h) (Or.inl ⟨by rfl, ?y38ga⟩) hHeld ?r38ga
            case y38ga => intro w hSw; clear hSw; go_simp; with_reducible rfl
            simp only [Act.put, List.setIfInBounds_toArray, List.set_cons_zero, List.set_cons_succ]
            refine wpAnyH_done (by kernel_rfl) (NoPanic.normal ?_) _
            have HN : Hid (Below w9.heap.size w9 w12) := B12
            clear hHeld sF Bd B10 B11 B12 HRc
            go_wp2
            go_roundw
            case rel => exact ⟨c + 1, by omega, by go_num, HN.out⟩
            case measure => simp [intOf]; omega
          · obtain ⟨tv, wv, tl, wl, htd⟩ := HP9.out.tld
            obtain ⟨pt, ct, rfl, _⟩ := own_slice htd.told
            obtain ⟨pw, cw, rfl, _⟩ := own_slice htd.want
            have HTD : Hid (TD w9 R P m (.slice pt m ct) (.slice pw m cw) tl wl) := htd
            clear htd
            have mF : ∀ W, Below w9.heap.size w9 W → TD W R P m (.slice pt m ct) (.slice pw m cw) tl wl := fun W hb => by
              have hP := hb.block P HP9.out.blk.lt
              exact HTD.out.move (fun _ _ => rfl) (fun k hk _ => hb.block k hk) (cell_same hP) (cell_same hP)
            have c4 := (mF _ HRc.out).c4
            go_wp2
            clear c4
            go_loopw [123] (fun v wr => ∃ j : Nat, j ≤ m ∧ v = .int .i64 j ∧ Hid (Below w9.heap.size w9 wr)) (fun v _ => m - (intOf v).toNat)
            case atStart => exact ⟨0, by omega, rfl, HRc.out⟩
            case round =>
              obtain ⟨j, hj, rfl, HRj⟩ := hrel
              by_cases hjm : j < m
              · have hT := mF _ HRj.out
                have hlt : j < tl.length := by have := own_len hT.told; omega
                have hlw : j < wl.length := by have := own_len hT.want; omega
                obtain ⟨g1, rfl, f1⟩ := own_at hT.told hlt
                obtain ⟨g2, rfl, f2⟩ := own_at hT.want hlw
                obtain ⟨bb, t1, t2⟩ := hT.each j hlt hlw
                obtain ⟨p1, c1, e1, i1, _⟩ := own_in t1.1 t1.2.1
                obtain ⟨p2, c2, e2, i2, _⟩ := own_in t2.1 t2.2.1
                rw [e1] at f1
                rw [e2] at f2
                have c4 := hT.c4
                have c5 := hT.c5
                have z1 : ∀ i, (convert 23 9 (.slice p1 bb.length c1)).run Try.prog (wr.drewN i) = .ok (.string (strOfNums bb)) (wr.drewN i) := fun i => (i1.drewN i).str c1
                have z2 : ∀ i, (convert 23 9 (.slice p2 bb.length c2)).run Try.prog (wr.drewN i) = .ok (.string (strOfNums bb)) (wr.drewN i) := fun i => (i2.drewN i).str c2
                clear hT t1 t2 e1 e2 i1 i2
                go_wp2
                go_quiet (fail)
                have HN : Hid (Below w9.heap.size w9 (wr.drewN nq)) := HRj.out.trans (below_drawn nq)
                clear f1 f2 c4 c5 z1 z2 HRj
                go_wp2
                go_roundw
                case rel => exact ⟨j + 1, by omega, by go_num, HN.out⟩
                case measure => simp [intOf]; omega
              · go_wp2
                go_ret
                exact ⟨rfl, below_then HB9.out HRj.out⟩
    · obtain ⟨w9, hw9⟩ : ∃ w9, w9 = wr := ⟨_, rfl⟩
      subst hw9
      have HS9 : Hid (St w9 w.heap.size P n k ∧ Below w.heap.size w w9) := HR
      clear HR
      obtain ⟨R, x, y, e, u, m, hp, hu, hm9, _⟩ := HS9.out.1
      have HP9 : Hid (Pr w9 R w.heap.size P x y n e u e u m) := hp
      have HB9 : Hid (Below w.heap.size w w9) := HS9.out.2
      clear hp HS9
      go_wp2
      go_loopw [11] (fun v wr => ∃ c : Nat, c ≤ 2 ∧ v = .int .i64 c ∧ Hid (Below w9.heap.size w9 wr)) (fun v _ => 2 - (intOf v).toNat)
      case atStart => exact ⟨0, by omega, rfl, Below.refl _ _⟩
      case round =>
        obtain ⟨c, hc, rfl, HRc⟩ := hrel
        obtain ⟨wc, hwc⟩ : ∃ wc, wc = wr := ⟨_, rfl⟩
        subst hwc
        by_cases hc2 : c < 2
        · have hc2I : (c : Int) < 2 := by omega
          have hul := hu c hc2
          have HD : Hid (Dsk w9 (fun k => R k = 1 + c) (x c) n (e c) (u c)) := HP9.out.dsk c hc2
          obtain ⟨gr, Lr, cr, vr, vsr, hrd⟩ := HP9.out.ref c hc2
          obtain ⟨pv, cv, rfl, _⟩ := own_slice hrd.wr
          have HRD : Hid (RD w9 (fun k => R k = 3 + c) (y c) n (e c) (u c) gr Lr cr (.slice pv (u c).length cv) vsr) := hrd
          clear hrd
          have sF : ∀ W, Below w9.heap.size w9 W → W.cell? ⟨P, c, none⟩ = some (.pointer (some ⟨x c, 0, none⟩)) ∧ W.cell? ⟨P, 2 + c, none⟩ = some (.pointer (some ⟨y c, 0, none⟩)) ∧ W.cell? ⟨y c, 0, none⟩ = some (.slice (some ⟨gr, 0, none⟩) Lr cr) ∧ W.cell? ⟨y c, 1, none⟩ = some (.slice pv (u c).length cv) ∧ (convert 23 9 (.slice (some ⟨gr, 0, none⟩) Lr cr)).run Try.prog W = .ok (.string (strOfNums (e c))) W := fun W hb =>
            ⟨(HP9.out.later hb).cx c hc2, (HP9.out.later hb).cy c hc2, (HRD.out.later hb).cell0, (HRD.out.later hb).cell1, (own_bin (HRD.out.later hb).dur HRD.out.db).1.str cr⟩
          have Bd : Below w9.heap.size w9 wc.drew := HRc.out.trans ⟨rfl, rfl, rfl, Nat.le_refl _, fun _ _ => rfl⟩
          go_wp2
          refine wp_region_noPanic ?_
          refine wp_region_held_drew (S := fun w' => w'.cell? ⟨P, c, none⟩ = some (.pointer (some ⟨x c, 0, none⟩)) ∧ w'.cell? ⟨P, 2 + c, none⟩ = some (.pointer (some ⟨y c, 0, none⟩)) ∧ w'.cell? ⟨y c, 0, none⟩ = some (.slice (some ⟨gr, 0, none⟩) Lr cr) ∧ w'.cell? ⟨y c, 1, none⟩ = some (.slice pv (u c).length cv) ∧ (convert 23 9 (.slice (some ⟨gr, 0, none⟩) Lr cr)).run Try.prog w' = .ok (.string (strOfNums (e c))) w') (by kernel_rfl) (sF _ Bd) (fun hHeld => ?_)
          refine wpAnyH_take (i := 0) (v := ?v0gb) (by simp; rfl) (by kernel_rfl) (by kernel_rfl) (by kernel_rfl) (fun _ _ _ h => h) (Or.inl ⟨by rfl, ?y0gb⟩) hHeld ?r0gb
          case y0gb => intro w hSw; clear hSw; go_simp; with_reducible rfl
          simp only [Act.put, List.setIfInBounds_toArray, List.set_cons_zero, List.set_cons_succ]
          refine wpAnyH_take (i := 1) (v := ?v1gb) (by simp; rfl) (by kernel_rfl) (by kernel_rfl) (by kernel_rfl) (fun _ _ _ h => h) (Or.inl ⟨by rfl, ?y1gb⟩) hHeld ?r1gb
          case y1gb => intro w hSw; clear hSw; go_simp; with_reducible rfl
          simp only [Act.put, List.setIfInBounds_toArray, List.set_cons_zero, List.set_cons_succ]
          refine wpAnyH_take (i := 2) (v := ?v2gb) (by simp; rfl) (by kernel_rfl) (by kernel_rfl) (by kernel_rfl) (fun _ _ _ h => h) (Or.inl ⟨by rfl, ?y2gb⟩) hHeld ?r2gb
          case y2gb => intro w hSw; clear hSw; go_simp; with_reducible rfl
          simp only [Act.put, List.setIfInBounds_toArray, List.set_cons_zero, List.set_cons_succ]
          refine wpAnyH_take (i := 3) (v := ?v3gb) (by simp; rfl) (by kernel_rfl) (by kernel_rfl) (by kernel_rfl) (fun _ _ _ h => h) (Or.inl ⟨by rfl, ?y3gb⟩) hHeld ?r3gb
          case y3gb => intro w hSw; clear hSw; go_simp; with_reducible rfl
          simp only [Act.put, List.setIfInBounds_toArray, List.set_cons_zero, List.set_cons_succ]
          refine wpAnyH_take (i := 4) (v := ?v4gb) (by simp; rfl) (by kernel_rfl) (by kernel_rfl) (by kernel_rfl) (fun _ _ _ h => h) (Or.inl ⟨by rfl, ?y4gb⟩) hHeld ?r4gb
          case y4gb => intro w hSw; clear hSw; go_simp; with_reducible rfl
          simp only [Act.put, List.setIfInBounds_toArray, List.set_cons_zero, List.set_cons_succ]
          refine wpAnyH_take (i := 5) (v := ?v5gb) (by simp; rfl) (by kernel_rfl) (by kernel_rfl) (by kernel_rfl) (fun _ _ _ h => h) (Or.inl ⟨by rfl, ?y5gb⟩) hHeld ?r5gb
          case y5gb => intro w hSw; obtain ⟨z1, z2, z3, z4, z5⟩ := hSw; go_simp; with_reducible rfl
          simp only [Act.put, List.setIfInBounds_toArray, List.set_cons_zero, List.set_cons_succ]
          refine wpAnyH_take (i := 8) (v := ?v8gb) (by simp; rfl) (by kernel_rfl) (by kernel_rfl) (by kernel_rfl) (fun _ _ _ h => h) (Or.inl ⟨by rfl, ?y8gb⟩) hHeld ?r8gb
          case y8gb => intro w hSw; clear hSw; go_simp; with_reducible rfl
          simp only [Act.put, List.setIfInBounds_toArray, List.set_cons_zero, List.set_cons_succ]
          refine wpAnyH_take (i := 9) (v := ?v9gb) (by simp; rfl) (by kernel_rfl) (by kernel_rfl) (by kernel_rfl) (fun _ _ _ h => h) (Or.inl ⟨by rfl, ?y9gb⟩) hHeld ?r9gb
          case y9gb => intro w hSw; clear hSw; go_simp; with_reducible rfl
          simp only [Act.put, List.setIfInBounds_toArray, List.set_cons_zero, List.set_cons_succ]
          refine wpAnyH_take (i := 10) (v := ?v10gb) (by simp; rfl) (by kernel_rfl) (by kernel_rfl) (by kernel_rfl) (fun _ _ _ h => h) (Or.inl ⟨by rfl, ?y10gb⟩) hHeld ?r10gb
          case y10gb => intro w hSw; clear hSw; go_simp; with_reducible rfl
          simp only [Act.put, List.setIfInBounds_toArray, List.set_cons_zero, List.set_cons_succ]
          refine wpAnyH_take (i := 11) (v := ?v11gb) (by simp; rfl) (by kernel_rfl) (by kernel_rfl) (by kernel_rfl) (fun _ _ _ h => h) (Or.inl ⟨by rfl, ?y11gb⟩) hHeld ?r11gb
          case y11gb => intro w hSw; clear hSw; go_simp; with_reducible rfl
          simp only [Act.put, List.setIfInBounds_toArray, List.set_cons_zero, List.set_cons_succ]
          refine wpAnyH_take (i := 12) (v := ?v12gb) (by simp; rfl) (by kernel_rfl) (by kernel_rfl) (by kernel_rfl) (fun _ _ _ h => h) (Or.inl ⟨by rfl, ?y12gb⟩) hHeld ?r12gb
          case y12gb => intro w hSw; clear hSw; go_simp; with_reducible rfl
          simp only [Act.put, List.setIfInBounds_toArray, List.set_cons_zero, List.set_cons_succ]
          refine wpAnyH_take (i := 13) (v := ?v13gb) (by simp; rfl) (by kernel_rfl) (by kernel_rfl) (by kernel_rfl) (fun _ _ _ h => h) (Or.inl ⟨by rfl, ?y13gb⟩) hHeld ?r13gb
          case y13gb => intro w hSw; obtain ⟨z1, z2, z3, z4, z5⟩ := hSw; go_simp; with_reducible rfl
          simp only [Act.put, List.setIfInBounds_toArray, List.set_cons_zero, List.set_cons_succ]
          refine wpAnyH_take (i := 14) (v := ?v14gb) (by simp; rfl) (by kernel_rfl) (by kernel_rfl) (by kernel_rfl) (fun _ _ _ h => h) (Or.inl ⟨by rfl, ?y14gb⟩) hHeld ?r14gb
          case y14gb => intro w hSw; clear hSw; go_simp; with_reducible rfl
          simp only [Act.put, List.setIfInBounds_toArray, List.set_cons_zero, List.set_cons_succ]
          refine wpAnyH_take (i := 15) (v := ?v15gb) (by simp; rfl) (by kernel_rfl) (by kernel_rfl) (by kernel_rfl) (fun _ _ _ h => h) (Or.inl ⟨by rfl, ?y15gb⟩) hHeld ?r15gb
          case y15gb => intro w hSw; clear hSw; go_simp; with_reducible rfl
          simp only [Act.put, List.setIfInBounds_toArray, List.set_cons_zero, List.set_cons_succ]
          refine wpAnyH_take (i := 16) (v := ?v16gb) (by simp; rfl) (by kernel_rfl) (by kernel_rfl) (by kernel_rfl) (fun _ _ _ h => h) (Or.inl ⟨by rfl, ?y16gb⟩) hHeld ?r16gb
          case y16gb => intro w hSw; obtain ⟨z1, z2, z3, z4, z5⟩ := hSw; go_simp; with_reducible rfl
          simp only [Act.put, List.setIfInBounds_toArray, List.set_cons_zero, List.set_cons_succ]
          refine wpAnyH_take (i := 17) (v := ?v17gb) (by simp; rfl) (by kernel_rfl) (by kernel_rfl) (by kernel_rfl) (fun _ _ _ h => h) (Or.inl ⟨by rfl, ?y17gb⟩) hHeld ?r17gb
          case y17gb => intro w hSw; obtain ⟨z1, z2, z3, z4, z5⟩ := hSw; go_simp; with_reducible rfl
          simp only [Act.put, List.setIfInBounds_toArray, List.set_cons_zero, List.set_cons_succ]
          refine wpAnyH_ready (rs := [6]) (by kernel_rfl) (by simp) ?_
          refine AllReadyH.cons (by simp; rfl) (fun Kc hKc => ?_) AllReadyH.nil
          go_simp
          refine (image_any (HD.out.later Bd)).mono ?_
          rintro e1 w10 ⟨vi, rfl, hoi, hb10⟩
          obtain ⟨qi, ci, rfl, _⟩ := own_slice hoi
          have B10 : Below w9.heap.size w9 w10 := below_then Bd hb10
          have z9 := (own_bin hoi HRD.out.db).1.str ci
          refine hKc.out _ _ (sF _ B10) (fun hHeld => ?_)
          clear hKc Kc hoi hb10
          refine wpAnyH_ready (rs := [7]) (by kernel_rfl) (by simp) ?_
          refine AllReadyH.cons (by simp; rfl) (fun Kc hKc => ?_) AllReadyH.nil
          go_simp
          refine hKc.out _ _ (sF _ B10) (fun hHeld => ?_)
          clear hKc Kc z9
          refine wpAnyH_take (i := 18) (v := ?v18gb) (by simp; rfl) (by kernel_rfl) (by kernel_rfl) (by kernel_rfl) (fun _ _ _ h => h) (Or.inl ⟨by rfl, ?y18gb⟩) hHeld ?r18gb
          case y18gb => intro w hSw; clear hSw; go_simp; with_reducible rfl
          simp only [Act.put, List.setIfInBounds_toArray, List.set_cons_zero, List.set_cons_succ]
          refine wpAnyH_take (i := 19) (v := ?v19gb) (by simp; rfl) (by kernel_rfl) (by kernel_rfl) (by kernel_rfl) (fun _ _ _ h => h) (Or.inl ⟨by rfl, ?y19gb⟩) hHeld ?r19gb
          case y19gb => intro w hSw; clear hSw; go_simp; with_reducible rfl
          simp only [Act.put, List.setIfInBounds_toArray, List.set_cons_zero, List.set_cons_succ]
          refine wpAnyH_take (i := 20) (v := ?v20gb) (by simp; rfl) (by kernel_rfl) (by kernel_rfl) (by kernel_rfl) (fun _ _ _ h => h) (Or.inl ⟨by rfl, ?y20gb⟩) hHeld ?r20gb
          case y20gb => intro w hSw; clear hSw; go_simp; with_reducible rfl
          simp only [Act.put, List.setIfInBounds_toArray, List.set_cons_zero, List.set_cons_succ]
          refine wpAnyH_take (i := 21) (v := ?v21gb) (by simp; rfl) (by kernel_rfl) (by kernel_rfl) (by kernel_rfl) (fun _ _ _ h => h) (Or.inl ⟨by rfl, ?y21gb⟩) hHeld ?r21gb
          case y21gb => intro w hSw; clear hSw; go_simp; with_reducible rfl
          simp only [Act.put, List.setIfInBounds_toArray, List.set_cons_zero, List.set_cons_succ]
          refine wpAnyH_take (i := 22) (v := ?v22gb) (by simp; rfl) (by kernel_rfl) (by kernel_rfl) (by kernel_rfl) (fun _ _ _ h => h) (Or.inl ⟨by rfl, ?y22gb⟩) hHeld ?r22gb
          case y22gb => intro w hSw; clear hSw; go_simp; with_reducible rfl
          simp only [Act.put, List.setIfInBounds_toArray, List.set_cons_zero, List.set_cons_succ]
          refine wpAnyH_take (i := 23) (v := ?v23gb) (by simp; rfl) (by kernel_rfl) (by kernel_rfl) (by kernel_rfl) (fun _ _ _ h => h) (Or.inl ⟨by rfl, ?y23gb⟩) hHeld ?r23gb
          case y23gb => intro w hSw; clear hSw; go_simp; with_reducible rfl
          simp only [Act.put, List.setIfInBounds_toArray, List.set_cons_zero, List.set_cons_succ]
          refine wpAnyH_take (i := 24) (v := ?v24gb) (by simp; rfl) (by kernel_rfl) (by kernel_rfl) (by kernel_rfl) (fun _ _ _ h => h) (Or.inl ⟨by rfl, ?y24gb⟩) hHeld ?r24gb
          case y24gb => intro w hSw; clear hSw; go_simp; with_reducible rfl
          simp only [Act.put, List.setIfInBounds_toArray, List.set_cons_zero, List.set_cons_succ]
          refine wpAnyH_take (i := 25) (v := ?v25gb) (by simp; rfl) (by kernel_rfl) (by kernel_rfl) (by kernel_rfl) (fun _ _ _ h => h) (Or.inl ⟨by rfl, ?y25gb⟩) hHeld ?r25gb
          case y25gb => intro w hSw; obtain ⟨z1, z2, z3, z4, z5⟩ := hSw; go_simp; with_reducible rfl
          simp only [Act.put, List.setIfInBounds_toArray, List.set_cons_zero, List.set_cons_succ]
          refine wpAnyH_take (i := 27) (v := ?v27gb) (by simp; rfl) (by kernel_rfl) (by kernel_rfl) (by kernel_rfl) (fun _ _ _ h => h) (Or.inl ⟨by rfl, ?y27gb⟩) hHeld ?r27gb
          case y27gb => intro w hSw; clear hSw; go_simp; with_reducible rfl
          simp only [Act.put, List.setIfInBounds_toArray, List.set_cons_zero, List.set_cons_succ]
          refine wpAnyH_take (i := 28) (v := ?v28gb) (by simp; rfl) (by kernel_rfl) (by kernel_rfl) (by kernel_rfl) (fun _ _ _ h => h) (Or.inl ⟨by rfl, ?y28gb⟩) hHeld ?r28gb
          case y28gb => intro w hSw; clear hSw; go_simp; with_reducible rfl
          simp only [Act.put, List.setIfInBounds_toArray, List.set_cons_zero, List.set_cons_succ]
          refine wpAnyH_take (i := 29) (v := ?v29gb) (by simp; rfl) (by kernel_rfl) (by kernel_rfl) (by kernel_rfl) (fun _ _ _ h => h) (Or.inl ⟨by rfl, ?y29gb⟩) hHeld ?r29gb
          case y29gb => intro w hSw; clear hSw; go_simp; with_reducible rfl
          simp only [Act.put, List.setIfInBounds_toArray, List.set_cons_zero, List.set_cons_succ]
          refine wpAnyH_take (i := 30) (v := ?v30gb) (by simp; rfl) (by kernel_rfl) (by kernel_rfl) (by kernel_rfl) (fun _ _ _ h => h) (Or.inl ⟨by rfl, ?y30gb⟩) hHeld ?r30gb
          case y30gb => intro w hSw; clear hSw; go_simp; with_reducible rfl
          simp only [Act.put, List.setIfInBounds_toArray, List.set_cons_zero, List.set_cons_succ]
          refine wpAnyH_take (i := 31) (v := ?v31gb) (by simp; rfl) (by kernel_rfl) (by kernel_rfl) (by kernel_rfl) (fun _ _ _ h => h) (Or.inl ⟨by rfl, ?y31gb⟩) hHeld ?r31gb
          case y31gb => intro w hSw; clear hSw; go_simp; with_reducible rfl
          simp only [Act.put, List.setIfInBounds_toArray, List.set_cons_zero, List.set_cons_succ]
          refine wpAnyH_take (i := 32) (v := ?v32gb) (by simp; rfl) (by kernel_rfl) (by kernel_rfl) (by kernel_rfl) (fun _ _ _ h => h) (Or.inl ⟨by rfl, ?y32gb⟩) hHeld ?r32gb
          case y32gb => intro w hSw; obtain ⟨z1, z2, z3, z4, z5⟩ := hSw; go_simp; with_reducible rfl
          simp only [Act.put, List.setIfInBounds_toArray, List.set_cons_zero, List.set_cons_succ]
          refine wpAnyH_take (i := 33) (v := ?v33gb) (by simp; rfl) (by kernel_rfl) (by kernel_rfl) (by kernel_rfl) (fun _ _ _ h => h) (Or.inl ⟨by rfl, ?y33gb⟩) hHeld ?r33gb
          case y33gb => intro w hSw; clear hSw; go_simp; with_reducible rfl
          simp only [Act.put, List.setIfInBounds_toArray, List.set_cons_zero, List.set_cons_succ]
          refine wpAnyH_take (i := 34) (v := ?v34gb) (by simp; rfl) (by kernel_rfl) (by kernel_rfl) (by kernel_rfl) (fun _ _ _ h => h) (Or.inl ⟨by rfl, ?y34gb⟩) hHeld ?r34gb
          case y34gb => intro w hSw; clear hSw; go_simp; with_reducible rfl
          simp only [Act.put, List.setIfInBounds_toArray, List.set_cons_zero, List.set_cons_succ]
          refine wpAnyH_take (i := 35) (v := ?v35gb) (by simp; rfl) (by kernel_rfl) (by kernel_rfl) (by kernel_rfl) (fun _ _ _ h => h) (Or.inl ⟨by rfl, ?y35gb⟩) hHeld ?r35gb
          case y35gb => intro w hSw; obtain ⟨z1, z2, z3, z4, z5⟩ := hSw; go_simp; with_reducible rfl
          simp only [Act.put, List.setIfInBounds_toArray, List.set_cons_zero, List.set_cons_succ]
          refine wpAnyH_ready (rs := [26]) (by kernel_rfl) (by simp) ?_
          refine AllReadyH.cons (by simp; rfl) (fun Kc hKc => ?_) AllReadyH.nil
          go_simp
          refine (waiting_any (HD.out.later B10) (by omega)).mono ?_
          rintro e1 w11 ⟨gw, vsw, rfl, htw, hb11⟩
          have B11 : Below w9.heap.size w9 w11 := below_then B10 hb11
          refine hKc.out _ _ (sF _ B11) (fun hHeld => ?_)
          clear hKc Kc hb11
          refine wpAnyH_ready (rs := [36]) (by kernel_rfl) (by simp) ?_
          refine AllReadyH.cons (by simp; rfl) (fun Kc hKc => ?_) AllReadyH.nil
          go_simp
          refine (same_any htw (HRD.out.later B11) (by omega)).mono ?_
          rintro e1 w12 ⟨rfl, hb12⟩
          have B12 : Below w9.heap.size w9 w12 := below_then B11 hb12
          refine hKc.out _ _ (sF _ B12) (fun hHeld => ?_)
          clear hKc Kc hb12 htw
          refine wpAnyH_take (i := 37) (v := ?v37gb) (by simp; rfl) (by kernel_rfl) (by kernel_rfl) (by kernel_rfl) (fun _ _ _ h => h) (Or.inl ⟨by rfl, ?y37gb⟩) hHeld ?r37gb
          case y37gb => intro w hSw; clear hSw; go_simp; with_reducible rfl
          simp only [Act.put, List.setIfInBounds_toArray, List.set_cons_zero, List.set_cons_succ]
          refine wpAnyH_take (i := 38) (v := ?v38gb) (by simp; rfl) (by kernel_rfl) (by kernel_rfl) (by kernel_rfl) (fun _ _ _ h => h) (Or.inl ⟨by rfl, ?y38gb⟩) hHeld ?r38gb
          case y38gb => intro w hSw; clear hSw; go_simp; with_reducible rfl
          simp only [Act.put, List.setIfInBounds_toArray, List.set_cons_zero, List.set_cons_succ]
          refine wpAnyH_done (by kernel_rfl) (NoPanic.normal ?_) _
          have HN : Hid (Below w9.heap.size w9 w12) := B12
          clear hHeld sF Bd B10 B11 B12 HRc
          go_wp2
          go_roundw
          case rel => exact ⟨c + 1, by omega, by go_num, HN.out⟩
          case measure => simp [intOf]; omega
        · obtain ⟨tv, wv, tl, wl, htd⟩ := HP9.out.tld
          obtain ⟨pt, ct, rfl, _⟩ := own_slice htd.told
          obtain ⟨pw, cw, rfl, _⟩ := own_slice htd.want
          have HTD : Hid (TD w9 R P m (.slice pt m ct) (.slice pw m cw) tl wl) := htd
          clear htd
          have mF : ∀ W, Below w9.heap.size w9 W → TD W R P m (.slice pt m ct) (.slice pw m cw) tl wl := fun W hb => by
            have hP := hb.block P HP9.out.blk.lt
            exact HTD.out.move (fun _ _ => rfl) (fun k hk _ => hb.block k hk) (cell_same hP) (cell_same hP)
          have c4 := (mF _ HRc.out).c4
          go_wp2
          clear c4
          go_loopw [123] (fun v wr => ∃ j : Nat, j ≤ m ∧ v = .int .i64 j ∧ Hid (Below w9.heap.size w9 wr)) (fun v _ => m - (intOf v).toNat)
          case atStart => exact ⟨0, by omega, rfl, HRc.out⟩
          case round =>
            obtain ⟨j, hj, rfl, HRj⟩ := hrel
            by_cases hjm : j < m
            · have hT := mF _ HRj.out
              have hlt : j < tl.length := by have := own_len hT.told; omega
              have hlw : j < wl.length := by have := own_len hT.want; omega
              obtain ⟨g1, rfl, f1⟩ := own_at hT.told hlt
              obtain ⟨g2, rfl, f2⟩ := own_at hT.want hlw
              obtain ⟨bb, t1, t2⟩ := hT.each j hlt hlw
              obtain ⟨p1, c1, e1, i1, _⟩ := own_in t1.1 t1.2.1
              obtain ⟨p2, c2, e2, i2, _⟩ := own_in t2.1 t2.2.1
              rw [e1] at f1
              rw [e2] at f2
              have c4 := hT.c4
              have c5 := hT.c5
              have z1 : ∀ i, (convert 23 9 (.slice p1 bb.length c1)).run Try.prog (wr.drewN i) = .ok (.string (strOfNums bb)) (wr.drewN i) := fun i => (i1.drewN i).str c1
              have z2 : ∀ i, (convert 23 9 (.slice p2 bb.length c2)).run Try.prog (wr.drewN i) = .ok (.string (strOfNums bb)) (wr.drewN i) := fun i => (i2.drewN i).str c2
              clear hT t1 t2 e1 e2 i1 i2
              go_wp2
              go_quiet (fail)
              have HN : Hid (Below w9.heap.size w9 (wr.drewN nq)) := HRj.out.trans (below_drawn nq)
              clear f1 f2 c4 c5 z1 z2 HRj
              go_wp2
              go_roundw
              case rel => exact ⟨j + 1, by omega, by go_num, HN.out⟩
              case measure => simp [intOf]; omega
            · go_wp2
              go_ret
              exact ⟨rfl, below_then HB9.out HRj.out⟩
end Go.Proofs.Ytlidjenkicgldaa
