/-
  HomeDisk walked.
-/
import Derived.Test.YtpenddnmmfpdjaaDoorXk
import Derived.Test.YtpenddnmmfpdjaaDoorYj
import Derived.Test.YtpenddnmmfpdjaaDoorTd
namespace Go.Proofs.YtpenddnmmfpdjaaDoor
open Go.RowKit

set_option maxRecDepth 100000 in
set_option maxHeartbeats 8000000 in
theorem homeDisk_good (s : Sup) (hc : MayC s) (ps : Option Addr) (ls cs : Nat) (os : List OpV) (w : World) (h : ScIn w w.heap.size ps ls os) (hm : ls ≤ maxLen) (ht : Tab w) :
    Calls Tryd.prog 8 #[.agg (ccells s).toArray, .slice ps ls cs] w fun e w' => e = .returned (.bool true) ∧ Below w.heap.size w w' := by
  have HSc : Hid (ScIn w w.heap.size ps ls os) := h
  have hmx : ls ≤ 9223372036854775807 := hm
  have HT : Hid (Tab w) := ht
  have H1 : Hid (1 < w.heap.size) := World.block_lt_of_cell? w _ (ht.half 0 (by omega))
  have HC : Hid (MayC s) := hc
  obtain ⟨w0, hw0⟩ : ∃ x, x = w.alloc (.cells (ccells s).toArray 39) := ⟨_, rfl⟩
  have ew := hw0.symm
  have B0 : Hid (Below w.heap.size w w0) := by rw [hw0]; exact below_alloc w _
  have C0 : Hid (CAt w0 w.heap.size s) := by rw [hw0]; exact LAt.new 39 w (ccells s)
  clear hw0 h hm ht hc
  go_enter Tryd.func8, Tryd.ntmps8
  go_wp2_with fail
  clear ew
  refine (awake_any w0 (HT.out.later B0.out)).mono ?_
  rintro e w1 ⟨rfl, b1⟩
  have B1 : Hid (Below w.heap.size w w1) := below_then B0.out b1
  have C1 : Hid (CAt w1 w.heap.size s) := LAt.later C0.out b1
  have L1 : Hid (_) := CAt.load23 C1.out
  clear b1 B0 C0
  go_wp2_with ((with_reducible refine at_ops ?_); (refine wpList_load_is (by rfl) 39 rfl rfl L1.out ?_); simp only [Act.put, List.setIfInBounds_toArray, List.set_cons_zero, List.set_cons_succ])
  clear L1
  refine (hnew_good s HC.out w1 (HT.out.later B1.out)).mono ?_
  rintro e x2 ⟨p, rfl, d2, b2⟩
  have C2 : Hid (CAt x2 w.heap.size s) := LAt.later C1.out b2
  have M2 : Hid (_) := CAt.load23 C2.out
  go_wp2_with ((with_reducible refine at_ops ?_); (refine wpList_load_is (by rfl) 39 rfl rfl M2.out ?_); simp only [Act.put, List.setIfInBounds_toArray, List.set_cons_zero, List.set_cons_succ])
  clear M2
  refine (rnew8_good s HC.out x2).mono ?_
  rintro e x3 ⟨r, rfl, r3, b3⟩
  have C3 : Hid (CAt x3 w.heap.size s) := LAt.later C2.out b3
  have M3 : Hid (_) := CAt.load23 C3.out
  have U3 : Hid (_) := build69 x3 p r s
  have HS0' := St.start (s := s) (B := w.heap.size) B1.out.size H1.out (HT.out.later B1.out) b2 b3 d2 r3
  obtain ⟨w4, hw4⟩ : ∃ x, x = x3.alloc (.cells (dcells p r s (.slice none 0 0) (.slice none 0 0)).toArray 69) := ⟨_, rfl⟩
  rw [← hw4] at HS0'
  have HS0 : Hid (St w4 w.heap.size x3.heap.size p r (cntS s) s 0 ∧ Below w.heap.size w w4) := ⟨HS0'.1, below_then B1.out HS0'.2⟩
  have ew4 := hw4.symm
  clear hw4 HS0' b2 b3 d2 r3 C2 C3 C1 B1
  go_wp2_with ((with_reducible refine at_ops ?_); (first | (refine wpList_load_is (by rfl) 39 rfl rfl M3.out ?_) | (refine wpList_build_is (vs := [(0, .pointer (some ⟨p, 0, none⟩)), (1, .pointer (some ⟨r, 0, none⟩)), (2, .agg (ccells s).toArray)]) (by rfl) 69 rfl (by rfl) U3.out ?_)); simp only [Act.put, List.setIfInBounds_toArray, List.set_cons_zero, List.set_cons_succ])
  clear M3 U3 ew4
  generalize x3.heap.size = g at *
  generalize cntS s = n at *
  refine (HS0.out.1.same (by omega)).mono ?_
  rintro e w5 ⟨rfl, b5⟩
  have HS5 : Hid (St w5 w.heap.size g p r n s 0 ∧ Below w.heap.size w w5) := ⟨HS0.out.1.later b5, below_then HS0.out.2 b5⟩
  clear b5 HS0
  go_wp2_with fail
  go_loopw [10] (fun v wr => ∃ k : Nat, k ≤ 60 ∧ k ≤ ls ∧ v = .int .i64 k ∧ Hid (St wr w.heap.size g p r n s k ∧ Below w.heap.size w wr)) (fun v _ => 60 - (intOf v).toNat)
  case atStart => exact ⟨0, by omega, by omega, rfl, HS5.out⟩
  case round =>
    obtain ⟨k, hk60, hkl, rfl, HR⟩ := hrel
    clear HS5
    by_cases hl : k < ls
    · by_cases h60 : k < 60
      · have hsc := HSc.out.below HR.out.2
        have hko : k < os.length := by have := hsc.len; omega
        obtain ⟨b, o, rfl, _, hcl⟩ := hsc.cells (by omega)
        have hop := hsc.each k hko
        have LE0 := load73 (hcl k hko) hop
        clear hcl hsc
        revert hop LE0
        generalize os[k] = op
        intro hop LE0
        have LE : Hid (_) := LE0
        have HOp : Hid (OpIn wr w.heap.size op) := hop
        clear hop LE0
        have i1 : (k : Int) < 60 := by omega
        have i2 : (k : Int) < (ls : Int) := by omega
        have i3 : (0 : Int) ≤ (k : Int) := by omega
        go_wp2_with ((with_reducible refine at_ops ?_); (refine wpList_load_is (by rfl) 73 rfl rfl LE.out ?_); simp only [Act.put, List.setIfInBounds_toArray, List.set_cons_zero, List.set_cons_succ])
        clear LE
        refine (plays_any HR.out.1 (by omega) op HOp.out).mono ?_
        rintro e1 w7 ⟨rfl, hst, hb7⟩
        have HN7 : Hid (St w7 w.heap.size g p r n s (k + 1) ∧ Below w.heap.size w w7) := ⟨hst, HR.out.2.trans hb7⟩
        clear hst hb7 HOp HR
        go_wp2_with fail
        refine (HN7.out.1.same (by omega)).mono ?_
        rintro e2 w8 ⟨rfl, b8⟩
        have HN8 : Hid (St w8 w.heap.size g p r n s (k + 1) ∧ Below w.heap.size w w8) := ⟨HN7.out.1.later b8, below_then HN7.out.2 b8⟩
        clear b8 HN7
        go_wp2_with fail
        go_roundw
        case rel => exact ⟨k + 1, by omega, by omega, by go_num, HN8.out⟩
        case measure => simp [intOf]; omega
      · have i1 : ¬ (k : Int) < 60 := by omega
        have i2 : (k : Int) < (ls : Int) := by omega
        obtain ⟨w9, hw9⟩ : ∃ w9, w9 = wr := ⟨_, rfl⟩
        subst hw9
        obtain ⟨R, d, ws, m, hD, hl9, hm9, hB9⟩ := HR.out.1
        obtain ⟨vt, vw, tl, wl, hk0, ht0⟩ := hD.desk
        obtain ⟨pt, ct, rfl, -⟩ := own_slice ht0.told
        obtain ⟨pw, cw, rfl, -⟩ := own_slice ht0.want
        have HD : Hid (Dk w9 R w.heap.size g p r n s d ws d ws m) := hD
        have HB9 : Hid (Below w.heap.size w w9) := HR.out.2
        have HK : Hid (KAt w9 g p r s (.slice pt m ct) (.slice pw m cw)) := hk0
        have HTD : Hid (TD w9 R m (.slice pt m ct) (.slice pw m cw) tl wl) := ht0
        have hm130 : m ≤ 130 := by omega
        have HWK : Hid (ws.length ≤ 60 ∧ m ≤ 2 * 60) := ⟨by omega, by omega⟩
        clear hD hk0 ht0 HR hl9 hm9
        go_wp2_with fail
        go_loopw [11] (fun v wc => ∃ c : Nat, c ≤ m ∧ v = .int .i64 c ∧ Hid (Below w9.heap.size w9 wc)) (fun v _ => m - (intOf v).toNat)
        case atStart => exact ⟨0, Nat.zero_le _, rfl, Below.refl _ _⟩
        case round =>
          obtain ⟨c, hcm, rfl, HRc⟩ := hrel
          obtain ⟨wc, hwc⟩ : ∃ wc, wc = wr := ⟨_, rfl⟩
          subst hwc
          have hT' : TD wc R m (.slice pt m ct) (.slice pw m cw) tl wl := HTD.out.move (fun _ _ => rfl) (fun k hk _ => HRc.out.block k hk)
          have hK' : KAt wc g p r s (.slice pt m ct) (.slice pw m cw) := LAt.later HK.out HRc.out
          have c7 := KAt.c7 hK'
          have c8 := KAt.c8 hK'
          have lt1 := hT'.told.1
          have lw1 := hT'.want.1
          by_cases hc : c < m
          · have hcI : (c : Int) < (m : Int) := by omega
            have hc0 : (0 : Int) ≤ (c : Int) := by omega
            obtain ⟨gt, rfl, z1⟩ := own_at hT'.told (j := c) (by omega)
            obtain ⟨gw, rfl, z2⟩ := own_at hT'.want (j := c) (by omega)
            obtain ⟨⟨q, n2, e1, q2, e2, vs, f1, f2, hn64, hvl, hve, ho1, ho2⟩, -, -⟩ := hT'.each c (by omega) (by omega)
            rw [f1] at z1
            rw [f2] at z2
            have HVA : Hid (VIn wc q n2 vs) := VIn.of_own ho1 hve hvl
            have HVB : Hid (VIn wc q2 n2 vs) := VIn.of_own ho2 hve hvl
            have M1 : Hid (g < wc.heap.size ∧ gt < wc.heap.size ∧ gw < wc.heap.size) := ⟨LAt.lt hK', World.block_lt_of_cell? wc _ z1, World.block_lt_of_cell? wc _ z2⟩
            clear hT' hK' lt1 lw1 f1 f2 hve ho1 ho2 hvl
            go_wp2_with fail
            refine wp_region_noPanic ?_
            refine wp_region_held_drew (S := fun w' => Below wc.heap.size wc w') (by kernel_rfl) (below_drawn 1) (fun hHeld => ?_)
            have Dd : Hid (Below wc.heap.size wc wc.drew) := hHeld
            generalize wc.drew = wd at *
            refine wpAnyH_take (i := 0) (v := ?va1) (by simp; rfl) (by kernel_rfl) (by kernel_rfl) (by kernel_rfl) (fun _ _ _ h => h) (Or.inl ⟨by rfl, ?ya1⟩) hHeld ?ra1
            case ya1 => intro w hSw; clear hSw; go_simp; with_reducible rfl
            simp only [Act.put, List.setIfInBounds_toArray, List.set_cons_zero, List.set_cons_succ]
            refine wpAnyH_take (i := 1) (v := ?va2) (by simp; rfl) (by kernel_rfl) (by kernel_rfl) (by kernel_rfl) (fun _ _ _ h => h) (Or.inl ⟨by rfl, ?ya2⟩) hHeld ?ra2
            case ya2 => intro w hSw; clear hSw; go_simp; with_reducible rfl
            simp only [Act.put, List.setIfInBounds_toArray, List.set_cons_zero, List.set_cons_succ]
            refine wpAnyH_take (i := 2) (v := ?va3) (by simp; rfl) (by kernel_rfl) (by kernel_rfl) (by kernel_rfl) (fun _ _ _ h => h) (Or.inl ⟨by rfl, ?ya3⟩) hHeld ?ra3
            case ya3 => intro w hSw; clear hSw; go_simp; with_reducible rfl
            simp only [Act.put, List.setIfInBounds_toArray, List.set_cons_zero, List.set_cons_succ]
            refine wpAnyH_take (i := 3) (v := ?va4) (by simp; rfl) (by kernel_rfl) (by kernel_rfl) (by kernel_rfl) (fun _ _ _ h => h) (Or.inl ⟨by rfl, ?ya4⟩) hHeld ?ra4
            case ya4 => intro w hSw; have z := (hSw.cell (p := ⟨g, 7, none⟩) M1.out.1).trans c7; clear hSw; go_simp; with_reducible rfl
            simp only [Act.put, List.setIfInBounds_toArray, List.set_cons_zero, List.set_cons_succ]
            refine wpAnyH_take (i := 4) (v := ?va5) (by simp; rfl) (by kernel_rfl) (by kernel_rfl) (by kernel_rfl) (fun _ _ _ h => h) (Or.inl ⟨by rfl, ?ya5⟩) hHeld ?ra5
            case ya5 => intro w hSw; clear hSw; go_simp; with_reducible rfl
            simp only [Act.put, List.setIfInBounds_toArray, List.set_cons_zero, List.set_cons_succ]
            refine wpAnyH_take (i := 5) (v := ?va6) (by simp; rfl) (by kernel_rfl) (by kernel_rfl) (by kernel_rfl) (fun _ _ _ h => h) (Or.inl ⟨by rfl, ?ya6⟩) hHeld ?ra6
            case ya6 => intro w hSw; clear hSw; go_simp; with_reducible rfl
            simp only [Act.put, List.setIfInBounds_toArray, List.set_cons_zero, List.set_cons_succ]
            refine wpAnyH_take (i := 6) (v := ?va7) (by simp; rfl) (by kernel_rfl) (by kernel_rfl) (by kernel_rfl) (fun _ _ _ h => h) (Or.inl ⟨by rfl, ?ya7⟩) hHeld ?ra7
            case ya7 => intro w hSw; have z := (hSw.cell (p := ⟨gt, c, none⟩) M1.out.2.1).trans z1; clear hSw; go_simp; with_reducible rfl
            simp only [Act.put, List.setIfInBounds_toArray, List.set_cons_zero, List.set_cons_succ]
            refine wpAnyH_take (i := 7) (v := ?va8) (by simp; rfl) (by kernel_rfl) (by kernel_rfl) (by kernel_rfl) (fun _ _ _ h => h) (Or.inl ⟨by rfl, ?ya8⟩) hHeld ?ra8
            case ya8 => intro w hSw; clear hSw; go_simp; with_reducible rfl
            simp only [Act.put, List.setIfInBounds_toArray, List.set_cons_zero, List.set_cons_succ]
            refine wpAnyH_take (i := 8) (v := ?va9) (by simp; rfl) (by kernel_rfl) (by kernel_rfl) (by kernel_rfl) (fun _ _ _ h => h) (Or.inl ⟨by rfl, ?ya9⟩) hHeld ?ra9
            case ya9 => intro w hSw; clear hSw; go_simp; with_reducible rfl
            simp only [Act.put, List.setIfInBounds_toArray, List.set_cons_zero, List.set_cons_succ]
            refine wpAnyH_take (i := 9) (v := ?va10) (by simp; rfl) (by kernel_rfl) (by kernel_rfl) (by kernel_rfl) (fun _ _ _ h => h) (Or.inl ⟨by rfl, ?ya10⟩) hHeld ?ra10
            case ya10 => intro w hSw; clear hSw; go_simp; with_reducible rfl
            simp only [Act.put, List.setIfInBounds_toArray, List.set_cons_zero, List.set_cons_succ]
            refine wpAnyH_take (i := 10) (v := ?va11) (by simp; rfl) (by kernel_rfl) (by kernel_rfl) (by kernel_rfl) (fun _ _ _ h => h) (Or.inl ⟨by rfl, ?ya11⟩) hHeld ?ra11
            case ya11 => intro w hSw; have z := (hSw.cell (p := ⟨g, 8, none⟩) M1.out.1).trans c8; clear hSw; go_simp; with_reducible rfl
            simp only [Act.put, List.setIfInBounds_toArray, List.set_cons_zero, List.set_cons_succ]
            refine wpAnyH_take (i := 11) (v := ?va12) (by simp; rfl) (by kernel_rfl) (by kernel_rfl) (by kernel_rfl) (fun _ _ _ h => h) (Or.inl ⟨by rfl, ?ya12⟩) hHeld ?ra12
            case ya12 => intro w hSw; clear hSw; go_simp; with_reducible rfl
            simp only [Act.put, List.setIfInBounds_toArray, List.set_cons_zero, List.set_cons_succ]
            refine wpAnyH_take (i := 12) (v := ?va13) (by simp; rfl) (by kernel_rfl) (by kernel_rfl) (by kernel_rfl) (fun _ _ _ h => h) (Or.inl ⟨by rfl, ?ya13⟩) hHeld ?ra13
            case ya13 => intro w hSw; clear hSw; go_simp; with_reducible rfl
            simp only [Act.put, List.setIfInBounds_toArray, List.set_cons_zero, List.set_cons_succ]
            refine wpAnyH_take (i := 13) (v := ?va14) (by simp; rfl) (by kernel_rfl) (by kernel_rfl) (by kernel_rfl) (fun _ _ _ h => h) (Or.inl ⟨by rfl, ?ya14⟩) hHeld ?ra14
            case ya14 => intro w hSw; have z := (hSw.cell (p := ⟨gw, c, none⟩) M1.out.2.2).trans z2; clear hSw; go_simp; with_reducible rfl
            simp only [Act.put, List.setIfInBounds_toArray, List.set_cons_zero, List.set_cons_succ]
            refine wpAnyH_ready (rs := [14]) (by kernel_rfl) (by simp) ?_
            refine AllReadyH.cons (by simp; rfl) (fun Kc hKc => ?_) AllReadyH.nil
            go_simp
            refine (same_vals q q2 n2 n2 e1 e2 vs vs wd (HVA.out.later Dd.out) (HVB.out.later Dd.out) (by omega)).mono ?_
            rintro e we ⟨rfl, be⟩
            rw [decide_eq_true rfl]
            have De : Hid (Below wc.heap.size wc we) := below_then Dd.out be
            clear be Dd hHeld
            refine hKc.out _ _ De.out (fun hHeld => ?_)
            clear hKc Kc
            refine wpAnyH_take (i := 15) (v := ?va15) (by simp; rfl) (by kernel_rfl) (by kernel_rfl) (by kernel_rfl) (fun _ _ _ h => h) (Or.inl ⟨by rfl, ?ya15⟩) hHeld ?ra15
            case ya15 => intro w hSw; clear hSw; go_simp; with_reducible rfl
            simp only [Act.put, List.setIfInBounds_toArray, List.set_cons_zero, List.set_cons_succ]
            clear hHeld
            refine wpAnyH_done (by kernel_rfl) (NoPanic.normal ?_) _
            have Be : Hid (Below w9.heap.size w9 we) := below_then HRc.out De.out
            clear c7 c8 z1 z2 De HRc HVA HVB M1
            go_wp2_with fail
            go_roundw
            case rel => exact ⟨c + 1, by omega, by go_num, Be.out⟩
            case measure => simp [intOf]; omega
          · have hcI : ¬ (c : Int) < (m : Int) := by omega
            have hBc : Below w.heap.size w wc := below_then HB9.out HRc.out
            by_cases hm0 : 0 < m
            · obtain ⟨gt, rfl, -⟩ := own_at hT'.told (j := 0) (by omega)
              have HX : Hid (Dk wc R w.heap.size g p r n s d ws d ws m ∧ KAt wc g p r s (.slice (some ⟨gt, 0, none⟩) m ct) (.slice pw m cw) ∧ TD wc R m (.slice (some ⟨gt, 0, none⟩) m ct) (.slice pw m cw) tl wl ∧ Below w.heap.size w wc) := ⟨HD.out.later HRc.out, hK', hT', hBc⟩
              clear hT' hK' c8 lt1 lw1 hBc HRc HD HK HTD HB9
              go_wp2_with fail
              clear c7
              refine (V.apart_any wc 0 gt m ct _ _ _ (HX.out.2.2.1.fam hm130) hm0).mono ?_
              rintro e wz ⟨rfl, hfr⟩
              have HZ : Hid (Z.St wz w.heap.size g p r n s 60 ∧ Below w.heap.size w wz) := by
                obtain ⟨hz, bz⟩ := HX.out.1.apart HX.out.2.1 HX.out.2.2.1 HX.out.2.2.2.size hfr
                exact ⟨⟨R, d, ws, m, hz, HWK.out.1, HWK.out.2, Nat.le_trans HX.out.2.2.2.size hfr.size⟩, HX.out.2.2.2.trans bz⟩
              clear hfr HX
              have U9 : Hid (_) := build73 wz
              go_wp2_with ((with_reducible refine at_ops ?_); (refine wpList_build_is (vs := [(0, .int .i64 3)]) (by rfl) 73 rfl (by rfl) U9.out ?_); simp only [Act.put, List.setIfInBounds_toArray, List.set_cons_zero, List.set_cons_succ])
              clear U9
              refine (Z.plays_all HZ.out.1 (by omega) 0 (zs 32) (zs_len 32) (zs_bytes 32) _ _ sup0 false).mono ?_
              rintro e wf ⟨rfl, hst, bf⟩
              have HZf : Hid (Z.St wf w.heap.size g p r n s 61 ∧ Below w.heap.size w wf) := ⟨hst, HZ.out.2.trans bf⟩
              clear hst bf HZ
              go_wp2_with fail
              refine (Z.St.same HZf.out.1 (by omega)).mono ?_
              rintro e wg ⟨rfl, bg⟩
              have HBg : Hid (Below w.heap.size w wg) := below_then HZf.out.2 bg
              clear bg HZf
              go_wp2_with fail
              go_ret
              exact ⟨rfl, HBg.out⟩
            · have em : m = 0 := by omega
              subst em
              have HX : Hid (Dk wc R w.heap.size g p r n s d ws d ws 0 ∧ Below w.heap.size w wc) := ⟨HD.out.later HRc.out, hBc⟩
              clear hT' hK' c8 lt1 lw1 hBc HRc HD HK HTD HB9
              go_wp2_with fail
              clear c7
              refine (apart_nil pt ct wc).mono ?_
              rintro e wz ⟨rfl, bz⟩
              have HZ : Hid (Z.St wz w.heap.size g p r n s 60 ∧ Below w.heap.size w wz) := ⟨⟨R, d, ws, 0, (HX.out.1.later bz).toZ, HWK.out.1, HWK.out.2, Nat.le_trans HX.out.2.size bz.size⟩, below_then HX.out.2 bz⟩
              clear bz HX
              have U9 : Hid (_) := build73 wz
              go_wp2_with ((with_reducible refine at_ops ?_); (refine wpList_build_is (vs := [(0, .int .i64 3)]) (by rfl) 73 rfl (by rfl) U9.out ?_); simp only [Act.put, List.setIfInBounds_toArray, List.set_cons_zero, List.set_cons_succ])
              clear U9
              refine (Z.plays_all HZ.out.1 (by omega) 0 (zs 32) (zs_len 32) (zs_bytes 32) _ _ sup0 false).mono ?_
              rintro e wf ⟨rfl, hst, bf⟩
              have HZf : Hid (Z.St wf w.heap.size g p r n s 61 ∧ Below w.heap.size w wf) := ⟨hst, HZ.out.2.trans bf⟩
              clear hst bf HZ
              go_wp2_with fail
              refine (Z.St.same HZf.out.1 (by omega)).mono ?_
              rintro e wg ⟨rfl, bg⟩
              have HBg : Hid (Below w.heap.size w wg) := below_then HZf.out.2 bg
              clear bg HZf
              go_wp2_with fail
              go_ret
              exact ⟨rfl, HBg.out⟩
    · have i2 : ¬ (k : Int) < (ls : Int) := by omega
      obtain ⟨w9, hw9⟩ : ∃ w9, w9 = wr := ⟨_, rfl⟩
      subst hw9
      obtain ⟨R, d, ws, m, hD, hl9, hm9, hB9⟩ := HR.out.1
      obtain ⟨vt, vw, tl, wl, hk0, ht0⟩ := hD.desk
      obtain ⟨pt, ct, rfl, -⟩ := own_slice ht0.told
      obtain ⟨pw, cw, rfl, -⟩ := own_slice ht0.want
      have HD : Hid (Dk w9 R w.heap.size g p r n s d ws d ws m) := hD
      have HB9 : Hid (Below w.heap.size w w9) := HR.out.2
      have HK : Hid (KAt w9 g p r s (.slice pt m ct) (.slice pw m cw)) := hk0
      have HTD : Hid (TD w9 R m (.slice pt m ct) (.slice pw m cw) tl wl) := ht0
      have hm130 : m ≤ 130 := by omega
      have HWK : Hid (ws.length ≤ 60 ∧ m ≤ 2 * 60) := ⟨by omega, by omega⟩
      clear hD hk0 ht0 HR hl9 hm9
      go_wp2_with fail
      go_loopw [11] (fun v wc => ∃ c : Nat, c ≤ m ∧ v = .int .i64 c ∧ Hid (Below w9.heap.size w9 wc)) (fun v _ => m - (intOf v).toNat)
      case atStart => exact ⟨0, Nat.zero_le _, rfl, Below.refl _ _⟩
      case round =>
        obtain ⟨c, hcm, rfl, HRc⟩ := hrel
        obtain ⟨wc, hwc⟩ : ∃ wc, wc = wr := ⟨_, rfl⟩
        subst hwc
        have hT' : TD wc R m (.slice pt m ct) (.slice pw m cw) tl wl := HTD.out.move (fun _ _ => rfl) (fun k hk _ => HRc.out.block k hk)
        have hK' : KAt wc g p r s (.slice pt m ct) (.slice pw m cw) := LAt.later HK.out HRc.out
        have c7 := KAt.c7 hK'
        have c8 := KAt.c8 hK'
        have lt1 := hT'.told.1
        have lw1 := hT'.want.1
        by_cases hc : c < m
        · have hcI : (c : Int) < (m : Int) := by omega
          have hc0 : (0 : Int) ≤ (c : Int) := by omega
          obtain ⟨gt, rfl, z1⟩ := own_at hT'.told (j := c) (by omega)
          obtain ⟨gw, rfl, z2⟩ := own_at hT'.want (j := c) (by omega)
          obtain ⟨⟨q, n2, e1, q2, e2, vs, f1, f2, hn64, hvl, hve, ho1, ho2⟩, -, -⟩ := hT'.each c (by omega) (by omega)
          rw [f1] at z1
          rw [f2] at z2
          have HVA : Hid (VIn wc q n2 vs) := VIn.of_own ho1 hve hvl
          have HVB : Hid (VIn wc q2 n2 vs) := VIn.of_own ho2 hve hvl
          have M1 : Hid (g < wc.heap.size ∧ gt < wc.heap.size ∧ gw < wc.heap.size) := ⟨LAt.lt hK', World.block_lt_of_cell? wc _ z1, World.block_lt_of_cell? wc _ z2⟩
          clear hT' hK' lt1 lw1 f1 f2 hve ho1 ho2 hvl
          go_wp2_with fail
          refine wp_region_noPanic ?_
          refine wp_region_held_drew (S := fun w' => Below wc.heap.size wc w') (by kernel_rfl) (below_drawn 1) (fun hHeld => ?_)
          have Dd : Hid (Below wc.heap.size wc wc.drew) := hHeld
          generalize wc.drew = wd at *
          refine wpAnyH_take (i := 0) (v := ?va16) (by simp; rfl) (by kernel_rfl) (by kernel_rfl) (by kernel_rfl) (fun _ _ _ h => h) (Or.inl ⟨by rfl, ?ya16⟩) hHeld ?ra16
          case ya16 => intro w hSw; clear hSw; go_simp; with_reducible rfl
          simp only [Act.put, List.setIfInBounds_toArray, List.set_cons_zero, List.set_cons_succ]
          refine wpAnyH_take (i := 1) (v := ?va17) (by simp; rfl) (by kernel_rfl) (by kernel_rfl) (by kernel_rfl) (fun _ _ _ h => h) (Or.inl ⟨by rfl, ?ya17⟩) hHeld ?ra17
          case ya17 => intro w hSw; clear hSw; go_simp; with_reducible rfl
          simp only [Act.put, List.setIfInBounds_toArray, List.set_cons_zero, List.set_cons_succ]
          refine wpAnyH_take (i := 2) (v := ?va18) (by simp; rfl) (by kernel_rfl) (by kernel_rfl) (by kernel_rfl) (fun _ _ _ h => h) (Or.inl ⟨by rfl, ?ya18⟩) hHeld ?ra18
          case ya18 => intro w hSw; clear hSw; go_simp; with_reducible rfl
          simp only [Act.put, List.setIfInBounds_toArray, List.set_cons_zero, List.set_cons_succ]
          refine wpAnyH_take (i := 3) (v := ?va19) (by simp; rfl) (by kernel_rfl) (by kernel_rfl) (by kernel_rfl) (fun _ _ _ h => h) (Or.inl ⟨by rfl, ?ya19⟩) hHeld ?ra19
          case ya19 => intro w hSw; have z := (hSw.cell (p := ⟨g, 7, none⟩) M1.out.1).trans c7; clear hSw; go_simp; with_reducible rfl
          simp only [Act.put, List.setIfInBounds_toArray, List.set_cons_zero, List.set_cons_succ]
          refine wpAnyH_take (i := 4) (v := ?va20) (by simp; rfl) (by kernel_rfl) (by kernel_rfl) (by kernel_rfl) (fun _ _ _ h => h) (Or.inl ⟨by rfl, ?ya20⟩) hHeld ?ra20
          case ya20 => intro w hSw; clear hSw; go_simp; with_reducible rfl
          simp only [Act.put, List.setIfInBounds_toArray, List.set_cons_zero, List.set_cons_succ]
          refine wpAnyH_take (i := 5) (v := ?va21) (by simp; rfl) (by kernel_rfl) (by kernel_rfl) (by kernel_rfl) (fun _ _ _ h => h) (Or.inl ⟨by rfl, ?ya21⟩) hHeld ?ra21
          case ya21 => intro w hSw; clear hSw; go_simp; with_reducible rfl
          simp only [Act.put, List.setIfInBounds_toArray, List.set_cons_zero, List.set_cons_succ]
          refine wpAnyH_take (i := 6) (v := ?va22) (by simp; rfl) (by kernel_rfl) (by kernel_rfl) (by kernel_rfl) (fun _ _ _ h => h) (Or.inl ⟨by rfl, ?ya22⟩) hHeld ?ra22
          case ya22 => intro w hSw; have z := (hSw.cell (p := ⟨gt, c, none⟩) M1.out.2.1).trans z1; clear hSw; go_simp; with_reducible rfl
          simp only [Act.put, List.setIfInBounds_toArray, List.set_cons_zero, List.set_cons_succ]
          refine wpAnyH_take (i := 7) (v := ?va23) (by simp; rfl) (by kernel_rfl) (by kernel_rfl) (by kernel_rfl) (fun _ _ _ h => h) (Or.inl ⟨by rfl, ?ya23⟩) hHeld ?ra23
          case ya23 => intro w hSw; clear hSw; go_simp; with_reducible rfl
          simp only [Act.put, List.setIfInBounds_toArray, List.set_cons_zero, List.set_cons_succ]
          refine wpAnyH_take (i := 8) (v := ?va24) (by simp; rfl) (by kernel_rfl) (by kernel_rfl) (by kernel_rfl) (fun _ _ _ h => h) (Or.inl ⟨by rfl, ?ya24⟩) hHeld ?ra24
          case ya24 => intro w hSw; clear hSw; go_simp; with_reducible rfl
          simp only [Act.put, List.setIfInBounds_toArray, List.set_cons_zero, List.set_cons_succ]
          refine wpAnyH_take (i := 9) (v := ?va25) (by simp; rfl) (by kernel_rfl) (by kernel_rfl) (by kernel_rfl) (fun _ _ _ h => h) (Or.inl ⟨by rfl, ?ya25⟩) hHeld ?ra25
          case ya25 => intro w hSw; clear hSw; go_simp; with_reducible rfl
          simp only [Act.put, List.setIfInBounds_toArray, List.set_cons_zero, List.set_cons_succ]
          refine wpAnyH_take (i := 10) (v := ?va26) (by simp; rfl) (by kernel_rfl) (by kernel_rfl) (by kernel_rfl) (fun _ _ _ h => h) (Or.inl ⟨by rfl, ?ya26⟩) hHeld ?ra26
          case ya26 => intro w hSw; have z := (hSw.cell (p := ⟨g, 8, none⟩) M1.out.1).trans c8; clear hSw; go_simp; with_reducible rfl
          simp only [Act.put, List.setIfInBounds_toArray, List.set_cons_zero, List.set_cons_succ]
          refine wpAnyH_take (i := 11) (v := ?va27) (by simp; rfl) (by kernel_rfl) (by kernel_rfl) (by kernel_rfl) (fun _ _ _ h => h) (Or.inl ⟨by rfl, ?ya27⟩) hHeld ?ra27
          case ya27 => intro w hSw; clear hSw; go_simp; with_reducible rfl
          simp only [Act.put, List.setIfInBounds_toArray, List.set_cons_zero, List.set_cons_succ]
          refine wpAnyH_take (i := 12) (v := ?va28) (by simp; rfl) (by kernel_rfl) (by kernel_rfl) (by kernel_rfl) (fun _ _ _ h => h) (Or.inl ⟨by rfl, ?ya28⟩) hHeld ?ra28
          case ya28 => intro w hSw; clear hSw; go_simp; with_reducible rfl
          simp only [Act.put, List.setIfInBounds_toArray, List.set_cons_zero, List.set_cons_succ]
          refine wpAnyH_take (i := 13) (v := ?va29) (by simp; rfl) (by kernel_rfl) (by kernel_rfl) (by kernel_rfl) (fun _ _ _ h => h) (Or.inl ⟨by rfl, ?ya29⟩) hHeld ?ra29
          case ya29 => intro w hSw; have z := (hSw.cell (p := ⟨gw, c, none⟩) M1.out.2.2).trans z2; clear hSw; go_simp; with_reducible rfl
          simp only [Act.put, List.setIfInBounds_toArray, List.set_cons_zero, List.set_cons_succ]
          refine wpAnyH_ready (rs := [14]) (by kernel_rfl) (by simp) ?_
          refine AllReadyH.cons (by simp; rfl) (fun Kc hKc => ?_) AllReadyH.nil
          go_simp
          refine (same_vals q q2 n2 n2 e1 e2 vs vs wd (HVA.out.later Dd.out) (HVB.out.later Dd.out) (by omega)).mono ?_
          rintro e we ⟨rfl, be⟩
          rw [decide_eq_true rfl]
          have De : Hid (Below wc.heap.size wc we) := below_then Dd.out be
          clear be Dd hHeld
          refine hKc.out _ _ De.out (fun hHeld => ?_)
          clear hKc Kc
          refine wpAnyH_take (i := 15) (v := ?va30) (by simp; rfl) (by kernel_rfl) (by kernel_rfl) (by kernel_rfl) (fun _ _ _ h => h) (Or.inl ⟨by rfl, ?ya30⟩) hHeld ?ra30
          case ya30 => intro w hSw; clear hSw; go_simp; with_reducible rfl
          simp only [Act.put, List.setIfInBounds_toArray, List.set_cons_zero, List.set_cons_succ]
          clear hHeld
          refine wpAnyH_done (by kernel_rfl) (NoPanic.normal ?_) _
          have Be : Hid (Below w9.heap.size w9 we) := below_then HRc.out De.out
          clear c7 c8 z1 z2 De HRc HVA HVB M1
          go_wp2_with fail
          go_roundw
          case rel => exact ⟨c + 1, by omega, by go_num, Be.out⟩
          case measure => simp [intOf]; omega
        · have hcI : ¬ (c : Int) < (m : Int) := by omega
          have hBc : Below w.heap.size w wc := below_then HB9.out HRc.out
          by_cases hm0 : 0 < m
          · obtain ⟨gt, rfl, -⟩ := own_at hT'.told (j := 0) (by omega)
            have HX : Hid (Dk wc R w.heap.size g p r n s d ws d ws m ∧ KAt wc g p r s (.slice (some ⟨gt, 0, none⟩) m ct) (.slice pw m cw) ∧ TD wc R m (.slice (some ⟨gt, 0, none⟩) m ct) (.slice pw m cw) tl wl ∧ Below w.heap.size w wc) := ⟨HD.out.later HRc.out, hK', hT', hBc⟩
            clear hT' hK' c8 lt1 lw1 hBc HRc HD HK HTD HB9
            go_wp2_with fail
            clear c7
            refine (V.apart_any wc 0 gt m ct _ _ _ (HX.out.2.2.1.fam hm130) hm0).mono ?_
            rintro e wz ⟨rfl, hfr⟩
            have HZ : Hid (Z.St wz w.heap.size g p r n s 60 ∧ Below w.heap.size w wz) := by
              obtain ⟨hz, bz⟩ := HX.out.1.apart HX.out.2.1 HX.out.2.2.1 HX.out.2.2.2.size hfr
              exact ⟨⟨R, d, ws, m, hz, HWK.out.1, HWK.out.2, Nat.le_trans HX.out.2.2.2.size hfr.size⟩, HX.out.2.2.2.trans bz⟩
            clear hfr HX
            have U9 : Hid (_) := build73 wz
            go_wp2_with ((with_reducible refine at_ops ?_); (refine wpList_build_is (vs := [(0, .int .i64 3)]) (by rfl) 73 rfl (by rfl) U9.out ?_); simp only [Act.put, List.setIfInBounds_toArray, List.set_cons_zero, List.set_cons_succ])
            clear U9
            refine (Z.plays_all HZ.out.1 (by omega) 0 (zs 32) (zs_len 32) (zs_bytes 32) _ _ sup0 false).mono ?_
            rintro e wf ⟨rfl, hst, bf⟩
            have HZf : Hid (Z.St wf w.heap.size g p r n s 61 ∧ Below w.heap.size w wf) := ⟨hst, HZ.out.2.trans bf⟩
            clear hst bf HZ
            go_wp2_with fail
            refine (Z.St.same HZf.out.1 (by omega)).mono ?_
            rintro e wg ⟨rfl, bg⟩
            have HBg : Hid (Below w.heap.size w wg) := below_then HZf.out.2 bg
            clear bg HZf
            go_wp2_with fail
            go_ret
            exact ⟨rfl, HBg.out⟩
          · have em : m = 0 := by omega
            subst em
            have HX : Hid (Dk wc R w.heap.size g p r n s d ws d ws 0 ∧ Below w.heap.size w wc) := ⟨HD.out.later HRc.out, hBc⟩
            clear hT' hK' c8 lt1 lw1 hBc HRc HD HK HTD HB9
            go_wp2_with fail
            clear c7
            refine (apart_nil pt ct wc).mono ?_
            rintro e wz ⟨rfl, bz⟩
            have HZ : Hid (Z.St wz w.heap.size g p r n s 60 ∧ Below w.heap.size w wz) := ⟨⟨R, d, ws, 0, (HX.out.1.later bz).toZ, HWK.out.1, HWK.out.2, Nat.le_trans HX.out.2.size bz.size⟩, below_then HX.out.2 bz⟩
            clear bz HX
            have U9 : Hid (_) := build73 wz
            go_wp2_with ((with_reducible refine at_ops ?_); (refine wpList_build_is (vs := [(0, .int .i64 3)]) (by rfl) 73 rfl (by rfl) U9.out ?_); simp only [Act.put, List.setIfInBounds_toArray, List.set_cons_zero, List.set_cons_succ])
            clear U9
            refine (Z.plays_all HZ.out.1 (by omega) 0 (zs 32) (zs_len 32) (zs_bytes 32) _ _ sup0 false).mono ?_
            rintro e wf ⟨rfl, hst, bf⟩
            have HZf : Hid (Z.St wf w.heap.size g p r n s 61 ∧ Below w.heap.size w wf) := ⟨hst, HZ.out.2.trans bf⟩
            clear hst bf HZ
            go_wp2_with fail
            refine (Z.St.same HZf.out.1 (by omega)).mono ?_
            rintro e wg ⟨rfl, bg⟩
            have HBg : Hid (Below w.heap.size w wg) := below_then HZf.out.2 bg
            clear bg HZf
            go_wp2_with fail
            go_ret
            exact ⟨rfl, HBg.out⟩
end Go.Proofs.YtpenddnmmfpdjaaDoor
