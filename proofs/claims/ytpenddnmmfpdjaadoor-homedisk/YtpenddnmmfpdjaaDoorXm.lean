/-
  HomeDisk walked.
-/
import Derived.Test.YtpenddnmmfpdjaaDoorXk
import Derived.Test.YtpenddnmmfpdjaaDoorYj
import Derived.Test.YtpenddnmmfpdjaaDoorTd
namespace Go.Proofs.YtpenddnmmfpdjaaDoor
open Go.RowKit

set_option maxRecDepth 100000 in
set_option maxHeartbeats 8000000 in
theorem homeDisk_bad (s : Sup) (hc : ¬ MayC s) (ps : Option Addr) (ls cs : Nat) (os : List OpV) (w : World) (h : ScIn w w.heap.size ps ls os) (hm : ls ≤ maxLen) (ht : Tab w) :
    Calls Tryd.prog 8 #[.agg (ccells s).toArray, .slice ps ls cs] w fun e w' => e = .returned (.bool true) ∧ Below w.heap.size w w' := by
  have HSc : Hid (ScIn w w.heap.size ps ls os) := h
  have hmx : ls ≤ 9223372036854775807 := hm
  have HT : Hid (Tab w) := ht
  have H1 : Hid (1 < w.heap.size) := World.block_lt_of_cell? w _ (ht.half 0 (by omega))
  have HC : Hid (¬ MayC s) := hc
  obtain ⟨w0, hw0⟩ : ∃ x, x = w.alloc (.cells (ccells s).toArray 39) := ⟨_, rfl⟩
  have ew := hw0.symm
  have B0 : Hid (Below w.heap.size w w0) := by rw [hw0]; exact below_alloc w _
  have C0 : Hid (CAt w0 w.heap.size s) := by rw [hw0]; exact LAt.new 39 w (ccells s)
  clear hw0 h hm ht hc
  go_enter Tryd.func8, Tryd.ntmps8
  go_wp2_with fail
  clear ew
  refine (awake_any w0 (HT.out.later B0.out)).mono ?_
  rintro e w1 ⟨rfl, b1⟩
  have B1 : Hid (Below w.heap.size w w1) := below_then B0.out b1
  have C1 : Hid (CAt w1 w.heap.size s) := LAt.later C0.out b1
  have L1 : Hid (_) := CAt.load23 C1.out
  clear b1 B0 C0
  go_wp2_with ((with_reducible refine at_ops ?_); (refine wpList_load_is (by rfl) 39 rfl rfl L1.out ?_); simp only [Act.put, List.setIfInBounds_toArray, List.set_cons_zero, List.set_cons_succ])
  clear L1
  refine (hnew_bad s HC.out w1).mono ?_
  rintro e w2 ⟨rfl, b2⟩
  have B2 : Hid (Below w.heap.size w w2) := below_then B1.out b2
  have C2' : Hid (CAt w2 w.heap.size s) := LAt.later C1.out b2
  have L2 : Hid (_) := CAt.load23 C2'.out
  clear b2 B1 C1
  go_wp2_with ((with_reducible refine at_ops ?_); (refine wpList_load_is (by rfl) 39 rfl rfl L2.out ?_); simp only [Act.put, List.setIfInBounds_toArray, List.set_cons_zero, List.set_cons_succ])
  clear L2
  refine (rnew8_bad s HC.out w2).mono ?_
  rintro e w3 ⟨rfl, b3⟩
  have B3 : Hid (Below w.heap.size w w3) := below_then B2.out b3
  have C3' : Hid (CAt w3 w.heap.size s) := LAt.later C2'.out b3
  clear b3 B2 C2'
  go_wp2_with fail
  refine (small_any w3).mono ?_
  rintro e y4 ⟨rfl, b4⟩
  have C4 : CAt y4 w.heap.size s := LAt.later C3'.out b4
  have S4 : Hid (_) := LAt.store (ds := ccells sm) C4 size23 rfl (ccells_all sm)
  obtain ⟨w6, hw6⟩ : ∃ x, x = y4.setRow w.heap.size (ccells sm).toArray := ⟨_, rfl⟩
  have C6 : Hid (CAt w6 w.heap.size sm) := by rw [hw6]; exact LAt.stored C4 _
  have B6 : Hid (Below w.heap.size w w6) := by rw [hw6]; exact below_setRow (below_then B3.out b4) (Nat.le_refl _) _
  rw [← hw6] at S4
  have L6 : Hid (_) := CAt.load23 C6.out
  clear hw6 b4 B3 C3' C4 HC
  go_wp2_with ((with_reducible refine at_ops ?_); (first | (refine wpList_store_is (by rfl) 39 rfl rfl rfl S4.out ?_) | (refine wpList_load_is (by rfl) 39 rfl rfl L6.out ?_)); simp only [Act.put, List.setIfInBounds_toArray, List.set_cons_zero, List.set_cons_succ])
  clear S4 L6
  refine (hnew_good sm sm_may w6 (HT.out.later B6.out)).mono ?_
  rintro e x2 ⟨p, rfl, d2, b2⟩
  have C2 : Hid (CAt x2 w.heap.size sm) := LAt.later C6.out b2
  have M2 : Hid (_) := CAt.load23 C2.out
  go_wp2_with ((with_reducible refine at_ops ?_); (refine wpList_load_is (by rfl) 39 rfl rfl M2.out ?_); simp only [Act.put, List.setIfInBounds_toArray, List.set_cons_zero, List.set_cons_succ])
  clear M2
  refine (rnew8_good sm sm_may x2).mono ?_
  rintro e x3 ⟨r, rfl, r3, b3⟩
  have C3 : Hid (CAt x3 w.heap.size sm) := LAt.later C2.out b3
  have M3 : Hid (_) := CAt.load23 C3.out
  have U3 : Hid (_) := build69 x3 p r sm
  have HS0' := St.start (s := sm) (B := w.heap.size) B6.out.size H1.out (HT.out.later B6.out) b2 b3 d2 r3
  obtain ⟨w4, hw4⟩ : ∃ x, x = x3.alloc (.cells (dcells p r sm (.slice none 0 0) (.slice none 0 0)).toArray 69) := ⟨_, rfl⟩
  rw [← hw4] at HS0'
  have HS0 : Hid (St w4 w.heap.size x3.heap.size p r (cntS sm) sm 0 ∧ Below w.heap.size w w4) := ⟨HS0'.1, below_then B6.out HS0'.2⟩
  have ew4 := hw4.symm
  clear hw4 HS0' b2 b3 d2 r3 C2 C3 C6 B6
  go_wp2_with ((with_reducible refine at_ops ?_); (first | (refine wpList_load_is (by rfl) 39 rfl rfl M3.out ?_) | (refine wpList_build_is (vs := [(0, .pointer (some ⟨p, 0, none⟩)), (1, .pointer (some ⟨r, 0, none⟩)), (2, .agg (ccells sm).toArray)]) (by rfl) 69 rfl (by rfl) U3.out ?_)); simp only [Act.put, List.setIfInBounds_toArray, List.set_cons_zero, List.set_cons_succ])
  clear M3 U3 ew4
  generalize x3.heap.size = g at *
  generalize cntS sm = n at *
  refine (HS0.out.1.same (by omega)).mono ?_
  rintro e w5 ⟨rfl, b5⟩
  have HS5 : Hid (St w5 w.heap.size g p r n sm 0 ∧ Below w.heap.size w w5) := ⟨HS0.out.1.later b5, below_then HS0.out.2 b5⟩
  clear b5 HS0
  go_wp2_with fail
  go_loopw [10] (fun v wr => ∃ k : Nat, k ≤ 60 ∧ k ≤ ls ∧ v = .int .i64 k ∧ Hid (St wr w.heap.size g p r n sm k ∧ Below w.heap.size w wr)) (fun v _ => 60 - (intOf v).toNat)
  case atStart => exact ⟨0, by omega, by omega, rfl, HS5.out⟩
  case round =>
    obtain ⟨k, hk60, hkl, rfl, HR⟩ := hrel
    clear HS5
    by_cases hl : k < ls
    · by_cases h60 : k < 60
      · have hsc := HSc.out.below HR.out.2
        have hko : k < os.length := by have := hsc.len; omega
        obtain ⟨b, o, rfl, _, hcl⟩ := hsc.cells (by omega)
        have hop := hsc.each k hko
        have LE0 := load73 (hcl k hko) hop
        clear hcl hsc
        revert hop LE0
        generalize os[k] = op
        intro hop LE0
        have LE : Hid (_) := LE0
        have HOp : Hid (OpIn wr w.heap.size op) := hop
        clear hop LE0
        have i1 : (k : Int) < 60 := by omega
        have i2 : (k : Int) < (ls : Int) := by omega
        have i3 : (0 : Int) ≤ (k : Int) := by omega
        go_wp2_with ((with_reducible refine at_ops ?_); (refine wpList_load_is (by rfl) 73 rfl rfl LE.out ?_); simp only [Act.put, List.setIfInBounds_toArray, List.set_cons_zero, List.set_cons_succ])
        clear LE
        refine (plays_any HR.out.1 (by omega) op HOp.out).mono ?_
        rintro e1 w7 ⟨rfl, hst, hb7⟩
        have HN7 : Hid (St w7 w.heap.size g p r n sm (k + 1) ∧ Below w.heap.size w w7) := ⟨hst, HR.out.2.trans hb7⟩
        clear hst hb7 HOp HR
        go_wp2_with fail
        refine (HN7.out.1.same (by omega)).mono ?_
        rintro e2 w8 ⟨rfl, b8⟩
        have HN8 : Hid (St w8 w.heap.size g p r n sm (k + 1) ∧ Below w.heap.size w w8) := ⟨HN7.out.1.later b8, below_then HN7.out.2 b8⟩
        clear b8 HN7
        go_wp2_with fail
        go_roundw
        case rel => exact ⟨k + 1, by omega, by omega, by go_num, HN8.out⟩
        case measure => simp [intOf]; omega
      · have i1 : ¬ (k : Int) < 60 := by omega
        have i2 : (k : Int) < (ls : Int) := by omega
        obtain ⟨w9, hw9⟩ : ∃ w9, w9 = wr := ⟨_, rfl⟩
        subst hw9
        obtain ⟨R, d, ws, m, hD, hl9, hm9, hB9⟩ := HR.out.1
        obtain ⟨vt, vw, tl, wl, hk0, ht0⟩ := hD.desk
        obtain ⟨pt, ct, rfl, -⟩ := own_slice ht0.told
        obtain ⟨pw, cw, rfl, -⟩ := own_slice ht0.want
        have HD : Hid (Dk w9 R w.heap.size g p r n sm d ws d ws m) := hD
        have HB9 : Hid (Below w.heap.size w w9) := HR.out.2
        have HK : Hid (KAt w9 g p r sm (.slice pt m ct) (.slice pw m cw)) := hk0
        have HTD : Hid (TD w9 R m (.slice pt m ct) (.slice pw m cw) tl wl) := ht0
        have hm130 : m ≤ 130 := by omega
        have HWK : Hid (ws.length ≤ 60 ∧ m ≤ 2 * 60) := ⟨by omega, by omega⟩
        clear hD hk0 ht0 HR hl9 hm9
        go_wp2_with fail
        go_loopw [11] (fun v wc => ∃ c : Nat, c ≤ m ∧ v = .int .i64 c ∧ Hid (Below w9.heap.size w9 wc)) (fun v _ => m - (intOf v).toNat)
        case atStart => exact ⟨0, Nat.zero_le _, rfl, Below.refl _ _⟩
        case round =>
          obtain ⟨c, hcm, rfl, HRc⟩ := hrel
          obtain ⟨wc, hwc⟩ : ∃ wc, wc = wr := ⟨_, rfl⟩
          subst hwc
          have hT' : TD wc R m (.slice pt m ct) (.slice pw m cw) tl wl := HTD.out.move (fun _ _ => rfl) (fun k hk _ => HRc.out.block k hk)
          have hK' : KAt wc g p r sm (.slice pt m ct) (.slice pw m cw) := LAt.later HK.out HRc.out
          have c7 := KAt.c7 hK'
          have c8 := KAt.c8 hK'
          have lt1 := hT'.told.1
          have lw1 := hT'.want.1
          by_cases hc : c < m
          · have hcI : (c : Int) < (m : Int) := by omega
            have hc0 : (0 : Int) ≤ (c : Int) := by omega
            obtain ⟨gt, rfl, z1⟩ := own_at hT'.told (j := c) (by omega)
            obtain ⟨gw, rfl, z2⟩ := own_at hT'.want (j := c) (by omega)
            obtain ⟨⟨q, n2, e1, q2, e2, vs, f1, f2, hn64, hvl, hve, ho1, ho2⟩, -, -⟩ := hT'.each c (by omega) (by omega)
            rw [f1] at z1
            rw [f2] at z2
            have HVA : Hid (VIn wc q n2 vs) := VIn.of_own ho1 hve hvl
            have HVB : Hid (VIn wc q2 n2 vs) := VIn.of_own ho2 hve hvl
            have M1 : Hid (g < wc.heap.size ∧ gt < wc.heap.size ∧ gw < wc.heap.size) := ⟨LAt.lt hK', World.block_lt_of_cell? wc _ z1, World.block_lt_of_cell? wc _ z2⟩
            clear hT' hK' lt1 lw1 f1 f2 hve ho1 ho2 hvl
            go_wp2_with fail
            refine wp_region_noPanic ?_
            refine wp_region_held_drew (S := fun w' => Below wc.heap.size wc w') (by kernel_rfl) (below_drawn 1) (fun hHeld => ?_)
            have Dd : Hid (Below wc.heap.size wc wc.drew) := hHeld
            generalize wc.drew = wd at *
            refine wpAnyH_take (i := 0) (v := ?va31) (by simp; rfl) (by kernel_rfl) (by kernel_rfl) (by kernel_rfl) (fun _ _ _ h => h) (Or.inl ⟨by rfl, ?ya31⟩) hHeld ?ra31
            case ya31 => intro w hSw; clear hSw; go_simp; with_reducible rfl
            simp only [Act.put, List.setIfInBounds_toArray, List.set_cons_zero, List.set_cons_succ]
            refine wpAnyH_take (i := 1) (v := ?va32) (by simp; rfl) (by kernel_rfl) (by kernel_rfl) (by kernel_rfl) (fun _ _ _ h => h) (Or.inl ⟨by rfl, ?ya32⟩) hHeld ?ra32
            case ya32 => intro w hSw; clear hSw; go_simp; with_reducible rfl
            simp only [Act.put, List.setIfInBounds_toArray, List.set_cons_zero, List.set_cons_succ]
            refine wpAnyH_take (i := 2) (v := ?va33) (by simp; rfl) (by kernel_rfl) (by kernel_rfl) (by kernel_rfl) (fun _ _ _ h => h) (Or.inl ⟨by rfl, ?ya33⟩) hHeld ?ra33
            case ya33 => intro w hSw; clear hSw; go_simp; with_reducible rfl
            simp only [Act.put, List.setIfInBounds_toArray, List.set_cons_zero, List.set_cons_succ]
            refine wpAnyH_take (i := 3) (v := ?va34) (by simp; rfl) (by kernel_rfl) (by kernel_rfl) (by kernel_rfl) (fun _ _ _ h => h) (Or.inl ⟨by rfl, ?ya34⟩) hHeld ?ra34
            case ya34 => intro w hSw; have z := (hSw.cell (p := ⟨g, 7, none⟩) M1.out.1).trans c7; clear hSw; go_simp; with_reducible rfl
            simp only [Act.put, List.setIfInBounds_toArray, List.set_cons_zero, List.set_cons_succ]
            refine wpAnyH_take (i := 4) (v := ?va35) (by simp; rfl) (by kernel_rfl) (by kernel_rfl) (by kernel_rfl) (fun _ _ _ h => h) (Or.inl ⟨by rfl, ?ya35⟩) hHeld ?ra35
            case ya35 => intro w hSw; clear hSw; go_simp; with_reducible rfl
            simp only [Act.put, List.setIfInBounds_toArray, List.set_cons_zero, List.set_cons_succ]
            refine wpAnyH_take (i := 5) (v := ?va36) (by simp; rfl) (by kernel_rfl) (by kernel_rfl) (by kernel_rfl) (fun _ _ _ h => h) (Or.inl ⟨by rfl, ?ya36⟩) hHeld ?ra36
            case ya36 => intro w hSw; clear hSw; go_simp; with_reducible rfl
            simp only [Act.put, List.setIfInBounds_toArray, List.set_cons_zero, List.set_cons_succ]
            refine wpAnyH_take (i := 6) (v := ?va37) (by simp; rfl) (by kernel_rfl) (by kernel_rfl) (by kernel_rfl) (fun _ _ _ h => h) (Or.inl ⟨by rfl, ?ya37⟩) hHeld ?ra37
            case ya37 => intro w hSw; have z := (hSw.cell (p := ⟨gt, c, none⟩) M1.out.2.1).trans z1; clear hSw; go_simp; with_reducible rfl
            simp only [Act.put, List.setIfInBounds_toArray, List.set_cons_zero, List.set_cons_succ]
            refine wpAnyH_take (i := 7) (v := ?va38) (by simp; rfl) (by kernel_rfl) (by kernel_rfl) (by kernel_rfl) (fun _ _ _ h => h) (Or.inl ⟨by rfl, ?ya38⟩) hHeld ?ra38
            case ya38 => intro w hSw; clear hSw; go_simp; with_reducible rfl
            simp only [Act.put, List.setIfInBounds_toArray, List.set_cons_zero, List.set_cons_succ]
            refine wpAnyH_take (i := 8) (v := ?va39) (by simp; rfl) (by kernel_rfl) (by kernel_rfl) (by kernel_rfl) (fun _ _ _ h => h) (Or.inl ⟨by rfl, ?ya39⟩) hHeld ?ra39
            case ya39 => intro w hSw; clear hSw; go_simp; with_reducible rfl
            simp only [Act.put, List.setIfInBounds_toArray, List.set_cons_zero, List.set_cons_succ]
            refine wpAnyH_take (i := 9) (v := ?va40) (by simp; rfl) (by kernel_rfl) (by kernel_rfl) (by kernel_rfl) (fun _ _ _ h => h) (Or.inl ⟨by rfl, ?ya40⟩) hHeld ?ra40
            case ya40 => intro w hSw; clear hSw; go_simp; with_reducible rfl
            simp only [Act.put, List.setIfInBounds_toArray, List.set_cons_zero, List.set_cons_succ]
            refine wpAnyH_take (i := 10) (v := ?va41) (by simp; rfl) (by kernel_rfl) (by kernel_rfl) (by kernel_rfl) (fun _ _ _ h => h) (Or.inl ⟨by rfl, ?ya41⟩) hHeld ?ra41
            case ya41 => intro w hSw; have z := (hSw.cell (p := ⟨g, 8, none⟩) M1.out.1).trans c8; clear hSw; go_simp; with_reducible rfl
            simp only [Act.put, List.setIfInBounds_toArray, List.set_cons_zero, List.set_cons_succ]
            refine wpAnyH_take (i := 11) (v := ?va42) (by simp; rfl) (by kernel_rfl) (by kernel_rfl) (by kernel_rfl) (fun _ _ _ h => h) (Or.inl ⟨by rfl, ?ya42⟩) hHeld ?ra42
            case ya42 => intro w hSw; clear hSw; go_simp; with_reducible rfl
            simp only [Act.put, List.setIfInBounds_toArray, List.set_cons_zero, List.set_cons_succ]
            refine wpAnyH_take (i := 12) (v := ?va43) (by simp; rfl) (by kernel_rfl) (by kernel_rfl) (by kernel_rfl) (fun _ _ _ h => h) (Or.inl ⟨by rfl, ?ya43⟩) hHeld ?ra43
            case ya43 => intro w hSw; clear hSw; go_simp; with_reducible rfl
            simp only [Act.put, List.setIfInBounds_toArray, List.set_cons_zero, List.set_cons_succ]
            refine wpAnyH_take (i := 13) (v := ?va44) (by simp; rfl) (by kernel_rfl) (by kernel_rfl) (by kernel_rfl) (fun _ _ _ h => h) (Or.inl ⟨by rfl, ?ya44⟩) hHeld ?ra44
            case ya44 => intro w hSw; have z := (hSw.cell (p := ⟨gw, c, none⟩) M1.out.2.2).trans z2; clear hSw; go_simp; with_reducible rfl
            simp only [Act.put, List.setIfInBounds_toArray, List.set_cons_zero, List.set_cons_succ]
            refine wpAnyH_ready (rs := [14]) (by kernel_rfl) (by simp) ?_
            refine AllReadyH.cons (by simp; rfl) (fun Kc hKc => ?_) AllReadyH.nil
            go_simp
            refine (same_vals q q2 n2 n2 e1 e2 vs vs wd (HVA.out.later Dd.out) (HVB.out.later Dd.out) (by omega)).mono ?_
            rintro e we ⟨rfl, be⟩
            rw [decide_eq_true rfl]
            have De : Hid (Below wc.heap.size wc we) := below_then Dd.out be
            clear be Dd hHeld
            refine hKc.out _ _ De.out (fun hHeld => ?_)
            clear hKc Kc
            refine wpAnyH_take (i := 15) (v := ?va45) (by simp; rfl) (by kernel_rfl) (by kernel_rfl) (by kernel_rfl) (fun _ _ _ h => h) (Or.inl ⟨by rfl, ?ya45⟩) hHeld ?ra45
            case ya45 => intro w hSw; clear hSw; go_simp; with_reducible rfl
            simp only [Act.put, List.setIfInBounds_toArray, List.set_cons_zero, List.set_cons_succ]
            clear hHeld
            refine wpAnyH_done (by kernel_rfl) (NoPanic.normal ?_) _
            have Be : Hid (Below w9.heap.size w9 we) := below_then HRc.out De.out
            clear c7 c8 z1 z2 De HRc HVA HVB M1
            go_wp2_with fail
            go_roundw
            case rel => exact ⟨c + 1, by omega, by go_num, Be.out⟩
            case measure => simp [intOf]; omega
          · have hcI : ¬ (c : Int) < (m : Int) := by omega
            have hBc : Below w.heap.size w wc := below_then HB9.out HRc.out
            by_cases hm0 : 0 < m
            · obtain ⟨gt, rfl, -⟩ := own_at hT'.told (j := 0) (by omega)
              have HX : Hid (Dk wc R w.heap.size g p r n sm d ws d ws m ∧ KAt wc g p r sm (.slice (some ⟨gt, 0, none⟩) m ct) (.slice pw m cw) ∧ TD wc R m (.slice (some ⟨gt, 0, none⟩) m ct) (.slice pw m cw) tl wl ∧ Below w.heap.size w wc) := ⟨HD.out.later HRc.out, hK', hT', hBc⟩
              clear hT' hK' c8 lt1 lw1 hBc HRc HD HK HTD HB9
              go_wp2_with fail
              clear c7
              refine (V.apart_any wc 0 gt m ct _ _ _ (HX.out.2.2.1.fam hm130) hm0).mono ?_
              rintro e wz ⟨rfl, hfr⟩
              have HZ : Hid (Z.St wz w.heap.size g p r n sm 60 ∧ Below w.heap.size w wz) := by
                obtain ⟨hz, bz⟩ := HX.out.1.apart HX.out.2.1 HX.out.2.2.1 HX.out.2.2.2.size hfr
                exact ⟨⟨R, d, ws, m, hz, HWK.out.1, HWK.out.2, Nat.le_trans HX.out.2.2.2.size hfr.size⟩, HX.out.2.2.2.trans bz⟩
              clear hfr HX
              have U9 : Hid (_) := build73 wz
              go_wp2_with ((with_reducible refine at_ops ?_); (refine wpList_build_is (vs := [(0, .int .i64 3)]) (by rfl) 73 rfl (by rfl) U9.out ?_); simp only [Act.put, List.setIfInBounds_toArray, List.set_cons_zero, List.set_cons_succ])
              clear U9
              refine (Z.plays_all HZ.out.1 (by omega) 0 (zs 32) (zs_len 32) (zs_bytes 32) _ _ sup0 false).mono ?_
              rintro e wf ⟨rfl, hst, bf⟩
              have HZf : Hid (Z.St wf w.heap.size g p r n sm 61 ∧ Below w.heap.size w wf) := ⟨hst, HZ.out.2.trans bf⟩
              clear hst bf HZ
              go_wp2_with fail
              refine (Z.St.same HZf.out.1 (by omega)).mono ?_
              rintro e wg ⟨rfl, bg⟩
              have HBg : Hid (Below w.heap.size w wg) := below_then HZf.out.2 bg
              clear bg HZf
              go_wp2_with fail
              go_ret
              exact ⟨rfl, HBg.out⟩
            · have em : m = 0 := by omega
              subst em
              have HX : Hid (Dk wc R w.heap.size g p r n sm d ws d ws 0 ∧ Below w.heap.size w wc) := ⟨HD.out.later HRc.out, hBc⟩
              clear hT' hK' c8 lt1 lw1 hBc HRc HD HK HTD HB9
              go_wp2_with fail
              clear c7
              refine (apart_nil pt ct wc).mono ?_
              rintro e wz ⟨rfl, bz⟩
              have HZ : Hid (Z.St wz w.heap.size g p r n sm 60 ∧ Below w.heap.size w wz) := ⟨⟨R, d, ws, 0, (HX.out.1.later bz).toZ, HWK.out.1, HWK.out.2, Nat.le_trans HX.out.2.size bz.size⟩, below_then HX.out.2 bz⟩
              clear bz HX
              have U9 : Hid (_) := build73 wz
              go_wp2_with ((with_reducible refine at_ops ?_); (refine wpList_build_is (vs := [(0, .int .i64 3)]) (by rfl) 73 rfl (by rfl) U9.out ?_); simp only [Act.put, List.setIfInBounds_toArray, List.set_cons_zero, List.set_cons_succ])
              clear U9
              refine (Z.plays_all HZ.out.1 (by omega) 0 (zs 32) (zs_len 32) (zs_bytes 32) _ _ sup0 false).mono ?_
              rintro e wf ⟨rfl, hst, bf⟩
              have HZf : Hid (Z.St wf w.heap.size g p r n sm 61 ∧ Below w.heap.size w wf) := ⟨hst, HZ.out.2.trans bf⟩
              clear hst bf HZ
              go_wp2_with fail
              refine (Z.St.same HZf.out.1 (by omega)).mono ?_
              rintro e wg ⟨rfl, bg⟩
              have HBg : Hid (Below w.heap.size w wg) := below_then HZf.out.2 bg
              clear bg HZf
              go_wp2_with fail
              go_ret
              exact ⟨rfl, HBg.out⟩
    · have i2 : ¬ (k : Int) < (ls : Int) := by omega
      obtain ⟨w9, hw9⟩ : ∃ w9, w9 = wr := ⟨_, rfl⟩
      subst hw9
      obtain ⟨R, d, ws, m, hD, hl9, hm9, hB9⟩ := HR.out.1
      obtain ⟨vt, vw, tl, wl, hk0, ht0⟩ := hD.desk
      obtain ⟨pt, ct, rfl, -⟩ := own_slice ht0.told
      obtain ⟨pw, cw, rfl, -⟩ := own_slice ht0.want
      have HD : Hid (Dk w9 R w.heap.size g p r n sm d ws d ws m) := hD
      have HB9 : Hid (Below w.heap.size w w9) := HR.out.2
      have HK : Hid (KAt w9 g p r sm (.slice pt m ct) (.slice pw m cw)) := hk0
      have HTD : Hid (TD w9 R m (.slice pt m ct) (.slice pw m cw) tl wl) := ht0
      have hm130 : m ≤ 130 := by omega
      have HWK : Hid (ws.length ≤ 60 ∧ m ≤ 2 * 60) := ⟨by omega, by omega⟩
      clear hD hk0 ht0 HR hl9 hm9
      go_wp2_with fail
      go_loopw [11] (fun v wc => ∃ c : Nat, c ≤ m ∧ v = .int .i64 c ∧ Hid (Below w9.heap.size w9 wc)) (fun v _ => m - (intOf v).toNat)
      case atStart => exact ⟨0, Nat.zero_le _, rfl, Below.refl _ _⟩
      case round =>
        obtain ⟨c, hcm, rfl, HRc⟩ := hrel
        obtain ⟨wc, hwc⟩ : ∃ wc, wc = wr := ⟨_, rfl⟩
        subst hwc
        have hT' : TD wc R m (.slice pt m ct) (.slice pw m cw) tl wl := HTD.out.move (fun _ _ => rfl) (fun k hk _ => HRc.out.block k hk)
        have hK' : KAt wc g p r sm (.slice pt m ct) (.slice pw m cw) := LAt.later HK.out HRc.out
        have c7 := KAt.c7 hK'
        have c8 := KAt.c8 hK'
        have lt1 := hT'.told.1
        have lw1 := hT'.want.1
        by_cases hc : c < m
        · have hcI : (c : Int) < (m : Int) := by omega
          have hc0 : (0 : Int) ≤ (c : Int) := by omega
          obtain ⟨gt, rfl, z1⟩ := own_at hT'.told (j := c) (by omega)
          obtain ⟨gw, rfl, z2⟩ := own_at hT'.want (j := c) (by omega)
          obtain ⟨⟨q, n2, e1, q2, e2, vs, f1, f2, hn64, hvl, hve, ho1, ho2⟩, -, -⟩ := hT'.each c (by omega) (by omega)
          rw [f1] at z1
          rw [f2] at z2
          have HVA : Hid (VIn wc q n2 vs) := VIn.of_own ho1 hve hvl
          have HVB : Hid (VIn wc q2 n2 vs) := VIn.of_own ho2 hve hvl
          have M1 : Hid (g < wc.heap.size ∧ gt < wc.heap.size ∧ gw < wc.heap.size) := ⟨LAt.lt hK', World.block_lt_of_cell? wc _ z1, World.block_lt_of_cell? wc _ z2⟩
          clear hT' hK' lt1 lw1 f1 f2 hve ho1 ho2 hvl
          go_wp2_with fail
          refine wp_region_noPanic ?_
          refine wp_region_held_drew (S := fun w' => Below wc.heap.size wc w') (by kernel_rfl) (below_drawn 1) (fun hHeld => ?_)
          have Dd : Hid (Below wc.heap.size wc wc.drew) := hHeld
          generalize wc.drew = wd at *
          refine wpAnyH_take (i := 0) (v := ?va46) (by simp; rfl) (by kernel_rfl) (by kernel_rfl) (by kernel_rfl) (fun _ _ _ h => h) (Or.inl ⟨by rfl, ?ya46⟩) hHeld ?ra46
          case ya46 => intro w hSw; clear hSw; go_simp; with_reducible rfl
          simp only [Act.put, List.setIfInBounds_toArray, List.set_cons_zero, List.set_cons_succ]
          refine wpAnyH_take (i := 1) (v := ?va47) (by simp; rfl) (by kernel_rfl) (by kernel_rfl) (by kernel_rfl) (fun _ _ _ h => h) (Or.inl ⟨by rfl, ?ya47⟩) hHeld ?ra47
          case ya47 => intro w hSw; clear hSw; go_simp; with_reducible rfl
          simp only [Act.put, List.setIfInBounds_toArray, List.set_cons_zero, List.set_cons_succ]
          refine wpAnyH_take (i := 2) (v := ?va48) (by simp; rfl) (by kernel_rfl) (by kernel_rfl) (by kernel_rfl) (fun _ _ _ h => h) (Or.inl ⟨by rfl, ?ya48⟩) hHeld ?ra48
          case ya48 => intro w hSw; clear hSw; go_simp; with_reducible rfl
          simp only [Act.put, List.setIfInBounds_toArray, List.set_cons_zero, List.set_cons_succ]
          refine wpAnyH_take (i := 3) (v := ?va49) (by simp; rfl) (by kernel_rfl) (by kernel_rfl) (by kernel_rfl) (fun _ _ _ h => h) (Or.inl ⟨by rfl, ?ya49⟩) hHeld ?ra49
          case ya49 => intro w hSw; have z := (hSw.cell (p := ⟨g, 7, none⟩) M1.out.1).trans c7; clear hSw; go_simp; with_reducible rfl
          simp only [Act.put, List.setIfInBounds_toArray, List.set_cons_zero, List.set_cons_succ]
          refine wpAnyH_take (i := 4) (v := ?va50) (by simp; rfl) (by kernel_rfl) (by kernel_rfl) (by kernel_rfl) (fun _ _ _ h => h) (Or.inl ⟨by rfl, ?ya50⟩) hHeld ?ra50
          case ya50 => intro w hSw; clear hSw; go_simp; with_reducible rfl
          simp only [Act.put, List.setIfInBounds_toArray, List.set_cons_zero, List.set_cons_succ]
          refine wpAnyH_take (i := 5) (v := ?va51) (by simp; rfl) (by kernel_rfl) (by kernel_rfl) (by kernel_rfl) (fun _ _ _ h => h) (Or.inl ⟨by rfl, ?ya51⟩) hHeld ?ra51
          case ya51 => intro w hSw; clear hSw; go_simp; with_reducible rfl
          simp only [Act.put, List.setIfInBounds_toArray, List.set_cons_zero, List.set_cons_succ]
          refine wpAnyH_take (i := 6) (v := ?va52) (by simp; rfl) (by kernel_rfl) (by kernel_rfl) (by kernel_rfl) (fun _ _ _ h => h) (Or.inl ⟨by rfl, ?ya52⟩) hHeld ?ra52
          case ya52 => intro w hSw; have z := (hSw.cell (p := ⟨gt, c, none⟩) M1.out.2.1).trans z1; clear hSw; go_simp; with_reducible rfl
          simp only [Act.put, List.setIfInBounds_toArray, List.set_cons_zero, List.set_cons_succ]
          refine wpAnyH_take (i := 7) (v := ?va53) (by simp; rfl) (by kernel_rfl) (by kernel_rfl) (by kernel_rfl) (fun _ _ _ h => h) (Or.inl ⟨by rfl, ?ya53⟩) hHeld ?ra53
          case ya53 => intro w hSw; clear hSw; go_simp; with_reducible rfl
          simp only [Act.put, List.setIfInBounds_toArray, List.set_cons_zero, List.set_cons_succ]
          refine wpAnyH_take (i := 8) (v := ?va54) (by simp; rfl) (by kernel_rfl) (by kernel_rfl) (by kernel_rfl) (fun _ _ _ h => h) (Or.inl ⟨by rfl, ?ya54⟩) hHeld ?ra54
          case ya54 => intro w hSw; clear hSw; go_simp; with_reducible rfl
          simp only [Act.put, List.setIfInBounds_toArray, List.set_cons_zero, List.set_cons_succ]
          refine wpAnyH_take (i := 9) (v := ?va55) (by simp; rfl) (by kernel_rfl) (by kernel_rfl) (by kernel_rfl) (fun _ _ _ h => h) (Or.inl ⟨by rfl, ?ya55⟩) hHeld ?ra55
          case ya55 => intro w hSw; clear hSw; go_simp; with_reducible rfl
          simp only [Act.put, List.setIfInBounds_toArray, List.set_cons_zero, List.set_cons_succ]
          refine wpAnyH_take (i := 10) (v := ?va56) (by simp; rfl) (by kernel_rfl) (by kernel_rfl) (by kernel_rfl) (fun _ _ _ h => h) (Or.inl ⟨by rfl, ?ya56⟩) hHeld ?ra56
          case ya56 => intro w hSw; have z := (hSw.cell (p := ⟨g, 8, none⟩) M1.out.1).trans c8; clear hSw; go_simp; with_reducible rfl
          simp only [Act.put, List.setIfInBounds_toArray, List.set_cons_zero, List.set_cons_succ]
          refine wpAnyH_take (i := 11) (v := ?va57) (by simp; rfl) (by kernel_rfl) (by kernel_rfl) (by kernel_rfl) (fun _ _ _ h => h) (Or.inl ⟨by rfl, ?ya57⟩) hHeld ?ra57
          case ya57 => intro w hSw; clear hSw; go_simp; with_reducible rfl
          simp only [Act.put, List.setIfInBounds_toArray, List.set_cons_zero, List.set_cons_succ]
          refine wpAnyH_take (i := 12) (v := ?va58) (by simp; rfl) (by kernel_rfl) (by kernel_rfl) (by kernel_rfl) (fun _ _ _ h => h) (Or.inl ⟨by rfl, ?ya58⟩) hHeld ?ra58
          case ya58 => intro w hSw; clear hSw; go_simp; with_reducible rfl
          simp only [Act.put, List.setIfInBounds_toArray, List.set_cons_zero, List.set_cons_succ]
          refine wpAnyH_take (i := 13) (v := ?va59) (by simp; rfl) (by kernel_rfl) (by kernel_rfl) (by kernel_rfl) (fun _ _ _ h => h) (Or.inl ⟨by rfl, ?ya59⟩) hHeld ?ra59
          case ya59 => intro w hSw; have z := (hSw.cell (p := ⟨gw, c, none⟩) M1.out.2.2).trans z2; clear hSw; go_simp; with_reducible rfl
          simp only [Act.put, List.setIfInBounds_toArray, List.set_cons_zero, List.set_cons_succ]
          refine wpAnyH_ready (rs := [14]) (by kernel_rfl) (by simp) ?_
          refine AllReadyH.cons (by simp; rfl) (fun Kc hKc => ?_) AllReadyH.nil
          go_simp
          refine (same_vals q q2 n2 n2 e1 e2 vs vs wd (HVA.out.later Dd.out) (HVB.out.later Dd.out) (by omega)).mono ?_
          rintro e we ⟨rfl, be⟩
          rw [decide_eq_true rfl]
          have De : Hid (Below wc.heap.size wc we) := below_then Dd.out be
          clear be Dd hHeld
          refine hKc.out _ _ De.out (fun hHeld => ?_)
          clear hKc Kc
          refine wpAnyH_take (i := 15) (v := ?va60) (by simp; rfl) (by kernel_rfl) (by kernel_rfl) (by kernel_rfl) (fun _ _ _ h => h) (Or.inl ⟨by rfl, ?ya60⟩) hHeld ?ra60
          case ya60 => intro w hSw; clear hSw; go_simp; with_reducible rfl
          simp only [Act.put, List.setIfInBounds_toArray, List.set_cons_zero, List.set_cons_succ]
          clear hHeld
          refine wpAnyH_done (by kernel_rfl) (NoPanic.normal ?_) _
          have Be : Hid (Below w9.heap.size w9 we) := below_then HRc.out De.out
          clear c7 c8 z1 z2 De HRc HVA HVB M1
          go_wp2_with fail
          go_roundw
          case rel => exact ⟨c + 1, by omega, by go_num, Be.out⟩
          case measure => simp [intOf]; omega
        · have hcI : ¬ (c : Int) < (m : Int) := by omega
          have hBc : Below w.heap.size w wc := below_then HB9.out HRc.out
          by_cases hm0 : 0 < m
          · obtain ⟨gt, rfl, -⟩ := own_at hT'.told (j := 0) (by omega)
            have HX : Hid (Dk wc R w.heap.size g p r n sm d ws d ws m ∧ KAt wc g p r sm (.slice (some ⟨gt, 0, none⟩) m ct) (.slice pw m cw) ∧ TD wc R m (.slice (some ⟨gt, 0, none⟩) m ct) (.slice pw m cw) tl wl ∧ Below w.heap.size w wc) := ⟨HD.out.later HRc.out, hK', hT', hBc⟩
            clear hT' hK' c8 lt1 lw1 hBc HRc HD HK HTD HB9
            go_wp2_with fail
            clear c7
            refine (V.apart_any wc 0 gt m ct _ _ _ (HX.out.2.2.1.fam hm130) hm0).mono ?_
            rintro e wz ⟨rfl, hfr⟩
            have HZ : Hid (Z.St wz w.heap.size g p r n sm 60 ∧ Below w.heap.size w wz) := by
              obtain ⟨hz, bz⟩ := HX.out.1.apart HX.out.2.1 HX.out.2.2.1 HX.out.2.2.2.size hfr
              exact ⟨⟨R, d, ws, m, hz, HWK.out.1, HWK.out.2, Nat.le_trans HX.out.2.2.2.size hfr.size⟩, HX.out.2.2.2.trans bz⟩
            clear hfr HX
            have U9 : Hid (_) := build73 wz
            go_wp2_with ((with_reducible refine at_ops ?_); (refine wpList_build_is (vs := [(0, .int .i64 3)]) (by rfl) 73 rfl (by rfl) U9.out ?_); simp only [Act.put, List.setIfInBounds_toArray, List.set_cons_zero, List.set_cons_succ])
            clear U9
            refine (Z.plays_all HZ.out.1 (by omega) 0 (zs 32) (zs_len 32) (zs_bytes 32) _ _ sup0 false).mono ?_
            rintro e wf ⟨rfl, hst, bf⟩
            have HZf : Hid (Z.St wf w.heap.size g p r n sm 61 ∧ Below w.heap.size w wf) := ⟨hst, HZ.out.2.trans bf⟩
            clear hst bf HZ
            go_wp2_with fail
            refine (Z.St.same HZf.out.1 (by omega)).mono ?_
            rintro e wg ⟨rfl, bg⟩
            have HBg : Hid (Below w.heap.size w wg) := below_then HZf.out.2 bg
            clear bg HZf
            go_wp2_with fail
            go_ret
            exact ⟨rfl, HBg.out⟩
          · have em : m = 0 := by omega
            subst em
            have HX : Hid (Dk wc R w.heap.size g p r n sm d ws d ws 0 ∧ Below w.heap.size w wc) := ⟨HD.out.later HRc.out, hBc⟩
            clear hT' hK' c8 lt1 lw1 hBc HRc HD HK HTD HB9
            go_wp2_with fail
            clear c7
            refine (apart_nil pt ct wc).mono ?_
            rintro e wz ⟨rfl, bz⟩
            have HZ : Hid (Z.St wz w.heap.size g p r n sm 60 ∧ Below w.heap.size w wz) := ⟨⟨R, d, ws, 0, (HX.out.1.later bz).toZ, HWK.out.1, HWK.out.2, Nat.le_trans HX.out.2.size bz.size⟩, below_then HX.out.2 bz⟩
            clear bz HX
            have U9 : Hid (_) := build73 wz
            go_wp2_with ((with_reducible refine at_ops ?_); (refine wpList_build_is (vs := [(0, .int .i64 3)]) (by rfl) 73 rfl (by rfl) U9.out ?_); simp only [Act.put, List.setIfInBounds_toArray, List.set_cons_zero, List.set_cons_succ])
            clear U9
            refine (Z.plays_all HZ.out.1 (by omega) 0 (zs 32) (zs_len 32) (zs_bytes 32) _ _ sup0 false).mono ?_
            rintro e wf ⟨rfl, hst, bf⟩
            have HZf : Hid (Z.St wf w.heap.size g p r n sm 61 ∧ Below w.heap.size w wf) := ⟨hst, HZ.out.2.trans bf⟩
            clear hst bf HZ
            go_wp2_with fail
            refine (Z.St.same HZf.out.1 (by omega)).mono ?_
            rintro e wg ⟨rfl, bg⟩
            have HBg : Hid (Below w.heap.size w wg) := below_then HZf.out.2 bg
            clear bg HZf
            go_wp2_with fail
            go_ret
            exact ⟨rfl, HBg.out⟩
end Go.Proofs.YtpenddnmmfpdjaaDoor
