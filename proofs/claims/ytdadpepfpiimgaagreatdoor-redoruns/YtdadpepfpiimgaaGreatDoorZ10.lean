import Derived.Test.YtdadpepfpiimgaaGreatDoorZ09
set_option maxHeartbeats 20000000
set_option maxRecDepth 100000
namespace Go.Proofs.YtdadpepfpiimgaaGreatDoor
open Go.RowKit
set_option maxHeartbeats 1000000 in
set_option maxRecDepth 100000 in
theorem hrefuses_any (s : Sup) {w : World} {S : Nat → Prop} {p n : Nat} {d : List Int} {ws : List Wr} (h : Dsk w S p n d ws) :
    Calls Tryz.prog 89 #[.pointer (some ⟨p, 0, none⟩), .agg (ccells s).toArray] w fun e w' => e = .returned (.int .i64 (rfS s n)) ∧ Below w.heap.size w w' := by
  have L1 : Hid (_) := CAt.load23 (LAt.new 23 w (ccells s))
  have HA : Hid (CAt (w.alloc (.cells (ccells s).toArray 23)) w.heap.size s) := LAt.new 23 w (ccells s)
  have HB : Hid (Below w.heap.size w (w.alloc (.cells (ccells s).toArray 23))) := below_alloc w _
  have HD : Hid (Dsk w S p n d ws) := h
  clear h
  go_enter Tryz.func89, Tryz.ntmps89
  go_wp2_with ((with_reducible refine at_ops ?_); (refine wpList_load_is (by rfl) 23 rfl rfl L1.out ?_); simp only [Act.put, List.setIfInBounds_toArray, List.set_cons_zero, List.set_cons_succ])
  refine (config_any s _).mono ?_
  rintro e w1 ⟨rfl, b1⟩
  have HA1 : Hid (CAt w1 w.heap.size s) := LAt.later HA.out b1
  have HB1 : Hid (Below w.heap.size w w1) := below_then HB.out b1
  have HD1 : Hid (Dsk w1 S p n d ws) := HD.out.later HB1.out
  clear b1 HA HB L1 HD
  by_cases hc : MayC s
  · rw [cfg_yes s hc]
    have HC : Hid (MayC s) := hc
    obtain ⟨⟨a1, a2⟩, ⟨a3, a4⟩, -⟩ := hc
    obtain ⟨bl, hbl⟩ : ∃ x, x = s.bl := ⟨_, rfl⟩
    obtain ⟨lc, hlc⟩ : ∃ x, x = s.lc := ⟨_, rfl⟩
    have k1 : IntKind.i64.wrap (1 + bl) = 1 + bl := by rw [IntKind.wrap_i64]; omega
    have k2 : IntKind.i64.wrap (1 + bl + lc) = 1 + bl + lc := by rw [IntKind.wrap_i64]; omega
    have HE : Hid (((n : Int) = 1 + bl + lc → rfS s n = 0) ∧ (¬ (n : Int) = 1 + bl + lc → rfS s n = 40)) := by rw [hbl, hlc]; exact ⟨fun h => rfS_ok HC.out h, fun h => rfS_len HC.out h⟩
    have HC0 : Hid (∀ w', CAt w' w.heap.size s → w'.cell? ⟨w.heap.size, 0, none⟩ = some (.int .i64 bl) ∧ w'.cell? ⟨w.heap.size, 1, none⟩ = some (.int .i64 lc)) := by rw [hbl, hlc]; exact fun w' h => ⟨CAt.c0 h, CAt.c1 h⟩
    clear hbl hlc a1 a2 a3 a4
    go_wp2_with fail
    refine wp_region_noPanic ?_
    refine wp_region_held_drew (S := fun w' => Below w1.heap.size w1 w') (by kernel_rfl) (below_drawn 1) (fun hHeld => ?_)
    have D1 : Hid (Below w1.heap.size w1 w1.drew) := hHeld
    generalize w1.drew = wd at *
    refine wpAnyH_take (i := 0) (v := ?va1) (by simp; rfl) (by kernel_rfl) (by kernel_rfl) (by kernel_rfl) (fun _ _ _ h => h) (Or.inl ⟨by rfl, ?ya1⟩) hHeld ?ra1
    case ya1 => intro w hSw; clear hSw; go_simp; with_reducible rfl
    simp only [Act.put, List.setIfInBounds_toArray, List.set_cons_zero, List.set_cons_succ]
    refine wpAnyH_take (i := 2) (v := ?va2) (by simp; rfl) (by kernel_rfl) (by kernel_rfl) (by kernel_rfl) (fun _ _ _ h => h) (Or.inl ⟨by rfl, ?ya2⟩) hHeld ?ra2
    case ya2 => intro w hSw; clear hSw; go_simp; with_reducible rfl
    simp only [Act.put, List.setIfInBounds_toArray, List.set_cons_zero, List.set_cons_succ]
    refine wpAnyH_take (i := 3) (v := ?va3) (by simp; rfl) (by kernel_rfl) (by kernel_rfl) (by kernel_rfl) (fun _ _ _ h => h) (Or.inl ⟨by rfl, ?ya3⟩) hHeld ?ra3
    case ya3 => intro w hSw; have z := (HC0.out _ (LAt.later HA1.out hSw)).1; clear hSw; go_simp; with_reducible rfl
    simp only [Act.put, List.setIfInBounds_toArray, List.set_cons_zero, List.set_cons_succ]
    refine wpAnyH_take (i := 4) (v := ?va4) (by simp; rfl) (by kernel_rfl) (by kernel_rfl) (by kernel_rfl) (fun _ _ _ h => h) (Or.inl ⟨by rfl, ?ya4⟩) hHeld ?ra4
    case ya4 => intro w hSw; clear hSw; go_simp; with_reducible rfl
    simp only [Act.put, List.setIfInBounds_toArray, List.set_cons_zero, List.set_cons_succ]
    refine wpAnyH_take (i := 5) (v := ?va5) (by simp; rfl) (by kernel_rfl) (by kernel_rfl) (by kernel_rfl) (fun _ _ _ h => h) (Or.inl ⟨by rfl, ?ya5⟩) hHeld ?ra5
    case ya5 => intro w hSw; clear hSw; go_simp; with_reducible rfl
    simp only [Act.put, List.setIfInBounds_toArray, List.set_cons_zero, List.set_cons_succ]
    refine wpAnyH_take (i := 6) (v := ?va6) (by simp; rfl) (by kernel_rfl) (by kernel_rfl) (by kernel_rfl) (fun _ _ _ h => h) (Or.inl ⟨by rfl, ?ya6⟩) hHeld ?ra6
    case ya6 => intro w hSw; have z := (HC0.out _ (LAt.later HA1.out hSw)).2; clear hSw; go_simp; with_reducible rfl
    simp only [Act.put, List.setIfInBounds_toArray, List.set_cons_zero, List.set_cons_succ]
    refine wpAnyH_take (i := 7) (v := ?va7) (by simp; rfl) (by kernel_rfl) (by kernel_rfl) (by kernel_rfl) (fun _ _ _ h => h) (Or.inl ⟨by rfl, ?ya7⟩) hHeld ?ra7
    case ya7 => intro w hSw; clear hSw; go_simp; with_reducible rfl
    simp only [Act.put, List.setIfInBounds_toArray, List.set_cons_zero, List.set_cons_succ]
    refine wpAnyH_ready (rs := [1]) (by kernel_rfl) (by simp) ?_
    refine AllReadyH.cons (by simp; rfl) (fun Kc hKc => ?_) AllReadyH.nil
    go_simp
    refine (len_any (HD1.out.later D1.out)).mono ?_
    rintro e wn ⟨rfl, rfl⟩
    refine hKc.out _ _ D1.out (fun hHeld => ?_)
    clear hKc Kc
    refine wpAnyH_take (i := 8) (v := ?va8) (by simp; rfl) (by kernel_rfl) (by kernel_rfl) (by kernel_rfl) (fun _ _ _ h => h) (Or.inl ⟨by rfl, ?ya8⟩) hHeld ?ra8
    case ya8 => intro w hSw; clear hSw; go_simp; with_reducible rfl
    simp only [Act.put, List.setIfInBounds_toArray, List.set_cons_zero, List.set_cons_succ]
    have HB2 : Hid (Below w.heap.size w wd) := below_then HB1.out D1.out
    clear hHeld D1 HD1 HC0
    refine wpAnyH_done (by kernel_rfl) (NoPanic.normal ?_) _
    by_cases he : (n : Int) = 1 + bl + lc
    · have hq : ((n : Int) != 1 + bl + lc) = false := by rw [he]; simp
      have HR : Hid (_) := HE.out.1 he
      clear he HE
      go_wp2_with fail
      go_ret
      exact ⟨by rw [HR.out]; rfl, HB2.out⟩
    · have hq : ((n : Int) != 1 + bl + lc) = true := by simp [he]
      have HR : Hid (_) := HE.out.2 he
      clear he HE
      go_wp2_with fail
      go_ret
      exact ⟨by rw [HR.out]; rfl, HB2.out⟩
  · rw [cfg_no s hc]
    have HR : Hid (rfS s n = 3) := rfS_no _ hc
    clear hc
    go_wp2_with fail
    go_ret
    exact ⟨by rw [HR.out]; rfl, HB1.out⟩
set_option maxHeartbeats 1000000 in
set_option maxRecDepth 100000 in
theorem hrefB_any (s : Sup) (b : Int) {w : World} {S : Nat → Prop} {p n : Nat} {d : List Int} {ws : List Wr} (h : Dsk w S p n d ws) :
    Calls Tryz.prog 103 #[.pointer (some ⟨p, 0, none⟩), .agg (ccells s).toArray, .int .i64 b] w fun e w' => e = .returned (.int .i64 (rbS s n b)) ∧ Below w.heap.size w w' := by
  have L1 : Hid (_) := CAt.load23 (LAt.new 23 w (ccells s))
  have HA : Hid (CAt (w.alloc (.cells (ccells s).toArray 23)) w.heap.size s) := LAt.new 23 w (ccells s)
  have HB : Hid (Below w.heap.size w (w.alloc (.cells (ccells s).toArray 23))) := below_alloc w _
  have HD : Hid (Dsk (w.alloc (.cells (ccells s).toArray 23)) S p n d ws) := h.later HB.out
  clear h
  go_enter Tryz.func103, Tryz.ntmps103
  go_wp2_with ((with_reducible refine at_ops ?_); (refine wpList_load_is (by rfl) 23 rfl rfl L1.out ?_); simp only [Act.put, List.setIfInBounds_toArray, List.set_cons_zero, List.set_cons_succ])
  refine (hrefuses_any s HD.out).mono ?_
  rintro e w1 ⟨rfl, b1⟩
  have HA1 : Hid (CAt w1 w.heap.size s) := LAt.later HA.out b1
  have HB1 : Hid (Below w.heap.size w w1) := below_then HB.out b1
  have c0 := CAt.c0 HA1.out
  clear b1 HA HB L1 HD HA1
  by_cases hr : rfS s n = 0
  · rw [hr]
    go_wp2_with fail
    refine (isBlock_any b s.bl _).mono ?_
    rintro e w2 ⟨rfl, rfl⟩
    by_cases hb : 0 ≤ b ∧ b < s.bl
    · have HR : Hid (rbS s n b = 0) := rbS_ok hr hb
      rw [decide_eq_true hb]
      clear hb hr
      go_wp2_with fail
      go_ret
      exact ⟨by rw [HR.out]; rfl, HB1.out⟩
    · have HR : Hid (rbS s n b = 51) := rbS_out hr hb
      rw [decide_eq_false hb]
      clear hb hr
      go_wp2_with fail
      go_ret
      exact ⟨by rw [HR.out]; rfl, HB1.out⟩
  · have HR : Hid (rbS s n b = rfS s n) := rbS_no b hr
    generalize rfS s n = q at *
    have hq : (q != 0) = true := by simp [hr]
    go_wp2_with fail
    go_ret
    exact ⟨by rw [HR.out]; rfl, HB1.out⟩
set_option maxHeartbeats 1000000 in
set_option maxRecDepth 100000 in
theorem hsave_any (s : Sup) (b : Int) (v : List Int) (hv : v.length = 32) (hvb : Bytes v) {w : World} {S : Nat → Prop} {p n : Nat} {d : List Int} {ws : List Wr} (h : Dsk w S p n d ws) (hk : ws.length ≤ 100000) (ht : Tab w) :
    Calls Tryz.prog 73 #[.pointer (some ⟨p, 0, none⟩), .agg (ccells s).toArray, .int .i64 b, .agg (U8 v).toArray] w fun e w' => e = .returned (.int .i64 (rbS s n b)) ∧ Dsk w' (More S w) p n d (svW s n ws b v) ∧ Kept S w w' := by
  obtain ⟨w0, hw0⟩ : ∃ x, x = (w.alloc (.cells (ccells s).toArray 23)).alloc (.cells (U8 v).toArray 39) := ⟨_, rfl⟩
  have ew := hw0.symm
  have B0 : Hid (Below w.heap.size w w0) := by rw [hw0]; exact below_then (below_alloc w _) (below_alloc _ _)
  have C0 : Hid (CAt w0 w.heap.size s) := by rw [hw0]; exact LAt.later (LAt.new 23 w (ccells s)) (below_alloc _ _)
  have V0 : Hid (VAt w0 (w.heap.size + 1) v) := by
    have := LAt.new 39 (w.alloc (.cells (ccells s).toArray 23)) (U8 v)
    rw [show (w.alloc (.cells (ccells s).toArray 23)).heap.size = w.heap.size + 1 by simp] at this
    rw [hw0]
    exact this
  have D0 : Hid (Dsk w0 S p n d ws) := h.later B0.out
  have L1 : Hid (_) := CAt.load23 C0.out
  have HT : Hid (Tab w) := ht
  have HV : Hid (v.length = 32 ∧ Bytes v) := ⟨hv, hvb⟩
  have HK : Hid (ws.length ≤ 100000) := hk
  clear hw0 h ht hv hvb hk
  go_enter Tryz.func73, Tryz.ntmps73
  go_wp2_with ((with_reducible refine at_ops ?_); (refine wpList_load_is (by rfl) 23 rfl rfl L1.out ?_); simp only [Act.put, List.setIfInBounds_toArray, List.set_cons_zero, List.set_cons_succ])
  clear ew
  refine (hrefB_any s b D0.out).mono ?_
  rintro e w1 ⟨rfl, b1⟩
  have B1 : Hid (Below w.heap.size w w1) := below_then B0.out b1
  have V1 : Hid (VAt w1 (w.heap.size + 1) v) := LAt.later V0.out b1
  have D1 : Hid (Dsk w1 S p n d ws) := D0.out.later b1
  have L2 : Hid (_) := VAt.load V1.out HV.out.1
  clear b1 B0 L1 C0 V0 D0 V1
  by_cases hr : rbS s n b = 0
  · obtain ⟨hb, h0, h1⟩ := rbS_in hr
    have HR : Hid (svW s n ws b v = ws ++ [⟨(1 + b).toNat, homeS b v⟩]) := svW_yes ws v hr
    have HRZ : Hid (rbS s n b = 0) := hr
    have hb0 := hb.1
    have hb1 := hb.2
    have H1 : Hid (1 + b < (n : Int)) := h1
    rw [hr]
    clear hr h0 h1
    go_wp2_with ((with_reducible refine at_ops ?_); (refine wpList_load_is (by rfl) 39 rfl rfl L2.out ?_); simp only [Act.put, List.setIfInBounds_toArray, List.set_cons_zero, List.set_cons_succ])
    refine (hencode_good b v hb HV.out.1 HV.out.2 w1 (HT.out.later B1.out)).mono ?_
    rintro e w2 ⟨g2, rfl, m2⟩
    have B2 : Hid (Below w.heap.size w w2) := below_then B1.out m2.below
    have D2 : Hid (Dsk w2 S p n d ws) := D1.out.later m2.below
    have X2 : Hid (BIn w2 (some ⟨g2, 0, none⟩) 64 (homeS b v)) := m2.read
    clear m2 B1 D1 L2 hb
    go_wp2_with fail
    refine (write_at D2.out (1 + b) (by omega) H1.out _ 64 _ X2.out HK.out).mono ?_
    rintro e w3 ⟨rfl, d3, k3⟩
    have F3 : Hid (Dsk w3 (More S w) p n d (ws ++ [⟨(1 + b).toNat, homeS b v⟩]) ∧ Kept S w w3) := by
      refine ⟨d3.mono (fun k _ hs => ?_), (Kept.of_below B2.out).trans k3 (fun _ _ t => t)⟩
      rcases hs with hs | hs
      · exact .inl hs
      · exact .inr (Nat.le_trans B2.out.size hs)
    clear d3 k3 D2 X2 B2
    go_wp2_with fail
    go_ret
    exact ⟨by rw [HRZ.out]; rfl, by rw [HR.out]; exact F3.out.1, F3.out.2⟩
  · have HR : Hid (svW s n ws b v = ws) := svW_no ws v hr
    have F1 : Hid (Dsk w1 (More S w) p n d ws ∧ Kept S w w1) := ⟨D1.out.mono (fun k _ hs => .inl hs), Kept.of_below B1.out⟩
    obtain ⟨q, hq0⟩ : ∃ q, q = rbS s n b := ⟨_, rfl⟩
    have HQ : Hid (q = rbS s n b) := hq0
    rw [← hq0] at hr ⊢
    have hq : (q != 0) = true := by simp [hr]
    clear L2 hq0
    go_wp2_with fail
    go_ret
    exact ⟨by rw [← HQ.out]; rfl, by rw [HR.out]; exact F1.out.1, F1.out.2⟩
set_option maxHeartbeats 2000000 in
set_option maxRecDepth 100000 in
theorem hload_any (s : Sup) (b : Int) {w : World} {S : Nat → Prop} {p n : Nat} {d : List Int} {ws : List Wr} (h : Dsk w S p n d ws) (ht : Tab w) :
    Calls Tryz.prog 90 #[.pointer (some ⟨p, 0, none⟩), .agg (ccells s).toArray, .int .i64 b] w fun e w' => e = .returned (.tuple #[.agg (U8 (ldS s n ws d b).1).toArray, .int .i64 (ldS s n ws d b).2]) ∧ Below w.heap.size w w' := by
  obtain ⟨wa, hwa⟩ : ∃ x, x = w.alloc (.cells (ccells s).toArray 23) := ⟨_, rfl⟩
  have ewa := hwa.symm
  have sza : wa.heap.size = w.heap.size + 1 := by rw [hwa]; simp
  have A1 : Hid (_) := allocV wa
  obtain ⟨w0, hw0⟩ : ∃ x, x = wa.alloc (.cells (U8 (zs 32)).toArray 39) := ⟨_, rfl⟩
  have B0 : Hid (Below w.heap.size w w0) := by rw [hw0, hwa]; exact below_then (below_alloc w _) (below_alloc _ _)
  have C0 : Hid (CAt w0 w.heap.size s) := by rw [hw0, hwa]; exact LAt.later (LAt.new 23 w (ccells s)) (below_alloc _ _)
  have V0 : Hid (VAt w0 (w.heap.size + 1) (zs 32)) := by
    have := LAt.new 39 wa (U8 (zs 32))
    rw [sza] at this
    rw [hw0]
    exact this
  rw [sza, ← hw0] at A1
  have L1 : Hid (_) := CAt.load23 C0.out
  have D0 : Hid (Dsk w0 S p n d ws) := h.later B0.out
  have HT : Hid (Tab w) := ht
  clear hw0 hwa sza h ht
  go_enter Tryz.func90, Tryz.ntmps90
  go_wp2_with ((with_reducible refine at_ops ?_); (first | (refine wpList_alloc_is (by rfl) 39 rfl A1.out ?_) | (refine wpList_load_is (by rfl) 23 rfl rfl L1.out ?_)); simp only [Act.put, List.setIfInBounds_toArray, List.set_cons_zero, List.set_cons_succ])
  clear ewa
  refine (hrefB_any s b D0.out).mono ?_
  rintro e w1 ⟨rfl, b1⟩
  have B1 : Hid (Below w.heap.size w w1) := below_then B0.out b1
  have V1 : Hid (VAt w1 (w.heap.size + 1) (zs 32)) := LAt.later V0.out b1
  have D1 : Hid (Dsk w1 S p n d ws) := D0.out.later b1
  clear b1 B0 L1 C0 V0 A1 D0
  by_cases hr : rbS s n b = 0
  · obtain ⟨hb, h0, h1⟩ := rbS_in hr
    have HR : Hid (ldS s n ws d b = hdec (newest ws d (1 + b).toNat) b) := ldS_yes ws d hr
    have hb0 := hb.1
    have hb1 := hb.2
    have H1 : Hid (1 + b < (n : Int)) := h1
    rw [hr]
    clear hr h0 h1 hb
    go_wp2_with fail
    refine (read_at D1.out (1 + b) (by omega) H1.out).mono ?_
    rintro e w2 ⟨q2, c2, rfl, x2, hc2, b2⟩
    have B2 : Hid (Below w.heap.size w w2) := below_then B1.out b2
    have V2 : Hid (VAt w2 (w.heap.size + 1) (zs 32)) := LAt.later V1.out b2
    have X2 : Hid (BIn w2 q2 64 (newest ws d (1 + b).toNat)) := x2
    clear b2 x2 B1 V1 D1
    go_wp2_with fail
    refine (hdecode_any q2 64 c2 _ b w2 X2.out hc2 (HT.out.later B2.out)).mono ?_
    rintro e w3 ⟨rfl, b3⟩
    rw [← HR.out]
    have B3 : Hid (Below w.heap.size w w3) := below_then B2.out b3
    have V3 : Hid (VAt w3 (w.heap.size + 1) (zs 32)) := LAt.later V2.out b3
    have HL : Hid ((ldS s n ws d b).1.length = 32) := ldS_len _ _ _ _ _
    obtain ⟨r, hr0⟩ : ∃ r, r = ldS s n ws d b := ⟨_, rfl⟩
    have HQ : Hid (r = ldS s n ws d b) := hr0
    rw [← hr0] at HL ⊢
    clear hr0
    have T3 : Hid (_) := VAt.store (v := r.1) V3.out (zs_len 32) HL.out
    have F3 : Hid (VAt (w3.setRow (w.heap.size + 1) (U8 r.1).toArray) (w.heap.size + 1) r.1) := LAt.stored V3.out _
    have G3 : Hid (Below w.heap.size w (w3.setRow (w.heap.size + 1) (U8 r.1).toArray)) := below_setRow B3.out (by omega) _
    clear b3 B2 V2 X2 HR
    go_wp2_with ((with_reducible refine at_ops ?_); (refine wpList_store_is (by rfl) 39 rfl rfl rfl T3.out ?_); simp only [Act.put])
    rw [← HQ.out]
    exact bodyPost_ret (results_val Tryz.results90 _ _ (w.heap.size + 1) _ _ (by rfl) F3.out HL.out Tryz.underlying39 rfl sizeV) rfl ⟨rfl, G3.out⟩
  · have HR : Hid (ldS s n ws d b = (zs 32, rbS s n b)) := ldS_no ws d hr
    have U1 : Hid (_) := buildV w1
    have T1 : Hid (_) := VAt.store (v := zs 32) V1.out (zs_len 32) (zs_len 32)
    have F1 : Hid (VAt (w1.setRow (w.heap.size + 1) (U8 (zs 32)).toArray) (w.heap.size + 1) (zs 32)) := LAt.stored V1.out _
    have G1 : Hid (Below w.heap.size w (w1.setRow (w.heap.size + 1) (U8 (zs 32)).toArray)) := below_setRow B1.out (by omega) _
    obtain ⟨q, hq0⟩ : ∃ q, q = rbS s n b := ⟨_, rfl⟩
    rw [← hq0] at hr HR ⊢
    have hq : (q != 0) = true := by simp [hr]
    clear hq0
    go_wp2_with ((with_reducible refine at_ops ?_); (first | (refine wpList_build_is (vs := []) (by rfl) 39 rfl (by rfl) U1.out ?_) | (refine wpList_store_is (by rfl) 39 rfl rfl rfl T1.out ?_)); simp only [Act.put, List.setIfInBounds_toArray, List.set_cons_zero, List.set_cons_succ])
    rw [HR.out]
    exact bodyPost_ret (results_val Tryz.results90 _ _ (w.heap.size + 1) _ _ (by rfl) F1.out (zs_len 32) Tryz.underlying39 rfl sizeV) rfl ⟨rfl, G1.out⟩
end Go.Proofs.YtdadpepfpiimgaaGreatDoor
namespace Go.Proofs.YtdadpepfpiimgaaGreatDoor
open Go.RowKit
def VC (vs : List (List Int)) : List Value := (vs.map U8).flatten
theorem VC_snoc (vs : List (List Int)) (v : List Int) : VC (vs ++ [v]) = VC vs ++ U8 v := by simp [VC]
theorem VC_length {vs : List (List Int)} (h : ∀ l ∈ vs, l.length = 32) : (VC vs).length = vs.length * 32 := by
  unfold VC
  rw [flat_length (m := 32) _ (fun l hl => by obtain ⟨x, hx, rfl⟩ := List.mem_map.1 hl; rw [U8_length]; exact h x hx)]
  simp
theorem LAt.setCells {t : TypeId} {g : Nat} : ∀ (vs : List Value) (o : Nat) (w : World) (cs : List Value), LAt t w g cs → o + vs.length ≤ cs.length → LAt t (w.setCells g o vs) g (cs.take o ++ vs ++ cs.drop (o + vs.length))
  | [], o, w, cs, h, _ => by
    show LAt t w g _
    simpa using h
  | v :: r, o, w, cs, h, hl => by
    simp only [List.length_cons] at hl
    have := LAt.setCells r (o + 1) (w.setCell ⟨g, o, none⟩ v) (cs.set o v) (LAt.set h o v) (by rw [List.length_set]; omega)
    have e : (cs.set o v).take (o + 1) ++ r ++ (cs.set o v).drop (o + 1 + r.length) = cs.take o ++ v :: r ++ cs.drop (o + (r.length + 1)) := by
      rw [List.take_succ_eq_append_getElem (by rw [List.length_set]; omega), List.take_set_of_le (by omega), List.drop_set_of_lt (by omega), List.getElem_set_self]
      simp [Nat.add_comm, Nat.add_left_comm]
    rw [e] at this
    exact this
theorem LAt.there {t : TypeId} {w : World} {g : Nat} {cs : List Value} (h : LAt t w g cs) (o n : Nat) (hn : o + n ≤ cs.length) : w.there g o n := fun j hj => by
  refine ⟨?_, frozen_of_row w g (o + j) _ t h⟩
  rw [h.cell (o + j), List.getElem?_eq_getElem (by omega)]
  rfl
theorem LAt.otherCells {t : TypeId} {w : World} {g k o : Nat} {cs vs : List Value} (h : LAt t w g cs) (hk : g ≠ k) : LAt t (w.setCells k o vs) g cs := (setCells_other hk vs o w).trans h
theorem own_of_LAt {w : World} {base t g n size : Nat} {cs : List Value} (h : LAt t w g cs) (hl : cs.length = n * size) (hb : base ≤ g) (hn : n ≤ maxLen) : w.ownsRow base t size (.slice (some ⟨g, 0, none⟩) n n) n cs :=
  ⟨hl, .inr ⟨g, n, cs.toArray, rfl, hb, h, Nat.le_refl _, hn, by simpa using hl, by simp [← hl]⟩⟩
theorem info23 : (Tryz.prog.info? 39).map (fun i => (i.zero, i.size, i.bytes)) = some (some (.agg (List.replicate 32 (Value.int .u8 0)).toArray), 32, 32) := by kernel_rfl
def part8 (vs : List (List Int)) (m k : Nat) : List Value := VC vs ++ List.replicate (32 * (m - k)) (Value.int .u8 0)
theorem part8_step {vs : List (List Int)} {m k : Nat} (v : List Int) (h : ∀ l ∈ vs, l.length = 32) (hk : vs.length = k) (hm : k < m) (hv : v.length = 32) :
    (part8 vs m k).take (k * 32) ++ U8 v ++ (part8 vs m k).drop (k * 32 + (U8 v).length) = part8 (vs ++ [v]) m (k + 1) := by
  have hl := VC_length h
  rw [hk] at hl
  unfold part8
  rw [VC_snoc, U8_length, hv, List.take_append_of_le_length (by omega), List.take_of_length_le (by omega), List.drop_append, hl, List.drop_of_length_le (by omega), List.nil_append, List.drop_replicate]
  congr 2
  omega
theorem part8_len {vs : List (List Int)} {m k : Nat} (h : ∀ l ∈ vs, l.length = 32) (hk : vs.length = k) (hm : k ≤ m) : (part8 vs m k).length = m * 32 := by
  unfold part8
  rw [List.length_append, VC_length h, hk, List.length_replicate]
  omega
set_option maxHeartbeats 2000000 in
set_option maxRecDepth 100000 in
theorem hall_any (s : Sup) {w : World} {S : Nat → Prop} {p n : Nat} {d : List Int} {ws : List Wr} (h : Dsk w S p n d ws) (ht : Tab w) :
    Calls Tryz.prog 52 #[.pointer (some ⟨p, 0, none⟩), .agg (ccells s).toArray] w fun e w' => ∃ q c, e = .returned (.tuple #[.slice q (alS s n ws d).1.length c, .int .i64 (alS s n ws d).2]) ∧ w'.ownsRow w.heap.size 39 32 (.slice q (alS s n ws d).1.length c) (alS s n ws d).1.length (VC (alS s n ws d).1) ∧ Below w.heap.size w w' := by
  obtain ⟨i0, hi, hz0, hz1, hz2⟩ := info_parts info23
  have L1 : Hid (_) := CAt.load23 (LAt.new 23 w (ccells s))
  have HA : Hid (CAt (w.alloc (.cells (ccells s).toArray 23)) w.heap.size s) := LAt.new 23 w (ccells s)
  have HB : Hid (Below w.heap.size w (w.alloc (.cells (ccells s).toArray 23))) := below_alloc w _
  have HD : Hid (Dsk w S p n d ws) := h
  have HT : Hid (Tab w) := ht
  clear h ht
  go_enter Tryz.func52, Tryz.ntmps52
  go_wp2_with ((with_reducible refine at_ops ?_); (refine wpList_load_is (by rfl) 23 rfl rfl L1.out ?_); simp only [Act.put, List.setIfInBounds_toArray, List.set_cons_zero, List.set_cons_succ])
  refine (hrefuses_any s (HD.out.later HB.out)).mono ?_
  rintro e w1 ⟨rfl, b1⟩
  have HA1 : Hid (CAt w1 w.heap.size s) := LAt.later HA.out b1
  have HB1 : Hid (Below w.heap.size w w1) := below_then HB.out b1
  clear b1 HA HB L1
  by_cases hr : rfS s n = 0
  · have HR : Hid (rfS s n = 0) := hr
    have hbl := (rfS_zero hr).1.1
    obtain ⟨m, hm⟩ : ∃ m, m = s.bl.toNat := ⟨_, rfl⟩
    have hmi : s.bl = (m : Int) := by omega
    have hm1 : 1 ≤ m := by omega
    have hm2 : m ≤ 64 := by omega
    have HM : Hid (m = s.bl.toNat) := hm
    rw [hr]
    have c0 := CAt.c0 HA1.out
    rw [hmi] at c0
    clear hr hbl hm hmi
    have hmk := run_make (P := Tryz.prog) w1 66 39 i0 _ Tryz.underlying66 hi hz0 .i64 .i64 (m : Int) (m : Int) (by omega) (Int.le_refl _) (by rw [hz2]; omega) (by omega)
    rw [hz1] at hmk
    simp only [Int.toNat_natCast, Value.cells] at hmk
    rw [made_rep 32 _ (by omega)] at hmk
    obtain ⟨w2, hw2⟩ : ∃ x, x = w1.alloc (.cells (List.replicate (m * 32) (Value.int .u8 0)).toArray 39) := ⟨_, rfl⟩
    rw [← hw2] at hmk
    have A2 : Hid (CAt w2 w.heap.size s) := by rw [hw2]; exact LAt.later HA1.out (below_alloc w1 _)
    have B2 : Hid (Below w.heap.size w w2) := by rw [hw2]; exact below_then HB1.out (below_alloc w1 _)
    have V2 : Hid (LAt 39 w2 w1.heap.size (part8 [] m 0)) := by
      have e : part8 [] m 0 = List.replicate (m * 32) (Value.int .u8 0) := by simp [part8, VC, Nat.mul_comm]
      rw [hw2, e]
      exact LAt.new 39 w1 _
    have hg : w.heap.size < w1.heap.size := LAt.lt HA1.out
    have HG : Hid (w.heap.size < w1.heap.size) := hg
    generalize w1.heap.size = g at *
    clear hw2 HA1 HB1 hg
    go_wp2_with fail
    clear hmk c0
    go_loopw [22] (fun i wr => ∃ k : Nat, k ≤ m ∧ i = .int .i64 k ∧ Hid (CAt wr w.heap.size s ∧ LAt 39 wr g (part8 (vals s n ws d k) m k) ∧ Below w.heap.size w wr ∧ allB s n ws d k)) (fun i _ => m - (intOf i).toNat)
    case atStart => exact ⟨0, Nat.zero_le _, rfl, A2.out, V2.out, B2.out, allB_iff.2 (fun i hi => by omega)⟩
    case round =>
      obtain ⟨k, hk, rfl, HI⟩ := hrel
      clear A2 V2 B2
      have Ar : Hid (CAt wr w.heap.size s) := HI.out.1
      have Vr : Hid (LAt 39 wr g (part8 (vals s n ws d k) m k)) := HI.out.2.1
      have Br : Hid (Below w.heap.size w wr) := HI.out.2.2.1
      have Kr : Hid (allB s n ws d k) := HI.out.2.2.2
      clear HI
      by_cases hlt : k < m
      · have L3 : Hid (_) := CAt.load23 Ar.out
        go_wp2_with ((with_reducible refine at_ops ?_); (refine wpList_load_is (by rfl) 23 rfl rfl L3.out ?_); simp only [Act.put, List.setIfInBounds_toArray, List.set_cons_zero, List.set_cons_succ])
        refine (hload_any s (k : Int) (HD.out.later Br.out) (HT.out.later Br.out)).mono ?_
        rintro e w3 ⟨rfl, b3⟩
        have A3 : Hid (CAt w3 w.heap.size s) := LAt.later Ar.out b3
        have V3 : Hid (LAt 39 w3 g (part8 (vals s n ws d k) m k)) := LAt.later Vr.out b3
        have B3 : Hid (Below w.heap.size w w3) := below_then Br.out b3
        have HL : Hid ((ldS s n ws d (k : Int)).1.length = 32) := ldS_len _ _ _ _ _
        have HX : Hid (vals s n ws d (k + 1) = vals s n ws d k ++ [(ldS s n ws d (k : Int)).1]) := vals_succ _ _ _ _ _
        have HZ : Hid ((ldS s n ws d (k : Int)).2 = 0 → allB s n ws d (k + 1)) := fun h => allB_succ Kr.out h
        have HQ : Hid (¬ (ldS s n ws d (k : Int)).2 = 0 → (ldS s n ws d (k : Int)).2 = 80 ∧ alS s n ws d = ([], 80)) := fun h => by
          obtain ⟨q', cap', v', hp⟩ := HD.out
          exact ⟨ldS_err hp.dl hp.fit (rbS_ok HR.out ⟨by omega, by have := HM.out; omega⟩) h, alS_bad HR.out k (by have := HM.out; omega) h⟩
        obtain ⟨r, hr0⟩ : ∃ r, r = ldS s n ws d (k : Int) := ⟨_, rfl⟩
        rw [← hr0] at HL HX HZ HQ ⊢
        clear hr0 b3 L3 Ar Vr Br Kr
        have A4 : Hid (_) := allocV w3
        have S4 : Hid (_) := store_newV w3 r.1 HL.out
        have L4 : Hid (_) := VAt.load (LAt.new 39 w3 (U8 r.1)) HL.out
        obtain ⟨w4, hw4⟩ : ∃ x, x = w3.alloc (.cells (U8 r.1).toArray 39) := ⟨_, rfl⟩
        have D4 : Hid (CAt w4 w.heap.size s) := by rw [hw4]; exact LAt.later A3.out (below_alloc _ _)
        have V4 : Hid (LAt 39 w4 g (part8 (vals s n ws d k) m k)) := by rw [hw4]; exact LAt.later V3.out (below_alloc _ _)
        have B4 : Hid (Below w.heap.size w w4) := by rw [hw4]; exact below_then B3.out (below_alloc _ _)
        rw [← hw4] at S4 L4
        clear hw4
        by_cases hz : r.2 = 0
        · have hq : (r.2 != 0) = false := by simp [hz]
          have HP : Hid ((part8 (vals s n ws d k) m k).length = m * 32) := part8_len (vals_each _ _ _ _ _) (vals_length _ _ _ _ _) (by omega)
          have T4 : Hid (_) := run_storeAt_mid (P := Tryz.prog) w4 g (k * 32) 39 (U8 r.1).toArray (LAt.there V4.out (k * 32) _ (by rw [HP.out]; simp [HL.out]; omega)) (by rw [sizeV]; simp [HL.out]) (allV r.1)
          have F4 : Hid (CAt (w4.setCells g (k * 32) (U8 r.1)) w.heap.size s ∧ LAt 39 (w4.setCells g (k * 32) (U8 r.1)) g (part8 (vals s n ws d (k + 1)) m (k + 1)) ∧ Below w.heap.size w (w4.setCells g (k * 32) (U8 r.1)) ∧ allB s n ws d (k + 1)) := by
            refine ⟨LAt.otherCells D4.out (by have := HG.out; omega), ?_, below_setCells (by have := HG.out; omega) _ _ _ _ B4.out, HZ.out hz⟩
            have := LAt.setCells (U8 r.1) (k * 32) w4 _ V4.out (by rw [HP.out, U8_length, HL.out]; omega)
            rw [part8_step r.1 (vals_each _ _ _ _ _) (vals_length _ _ _ _ _) hlt HL.out, ← HX.out] at this
            exact this
          clear hz HZ HQ HX A3 V3 B3
          go_wp2_with ((with_reducible refine at_ops ?_); (first | (refine wpList_alloc_is (by rfl) 39 rfl A4.out ?_) | (refine wpList_store_is (by rfl) 39 rfl rfl rfl S4.out ?_) | (refine wpList_load_is (by rfl) 39 rfl rfl L4.out ?_) | (refine wpList_store_is (by rfl) 39 rfl rfl rfl T4.out ?_)); simp only [Act.put, List.setIfInBounds_toArray, List.set_cons_zero, List.set_cons_succ])
          go_roundw
          case rel => exact ⟨k + 1, by omega, by go_num, F4.out⟩
          case measure => simp [intOf]; omega
        · have hq : (r.2 != 0) = true := by simp [hz]
          have HE : Hid (alS s n ws d = ([], 80)) := (HQ.out hz).2
          have HE2 : Hid (r.2 = 80) := (HQ.out hz).1
          clear hz HZ HQ HX A3 V3 B3
          go_wp2_with ((with_reducible refine at_ops ?_); (first | (refine wpList_alloc_is (by rfl) 39 rfl A4.out ?_) | (refine wpList_store_is (by rfl) 39 rfl rfl rfl S4.out ?_)); simp only [Act.put, List.setIfInBounds_toArray, List.set_cons_zero, List.set_cons_succ])
          go_ret2
          rw [HE.out]
          refine ⟨none, 0, ?_, World.ownsRow_nil _ _ _ _, B4.out⟩
          rw [← HE2.out]
          rfl
      · obtain rfl : m = k := by omega
        have HE : Hid (alS s n ws d = (vals s n ws d m, 0)) := by
          show _ = _
          rw [alS_ok HR.out (by rw [← HM.out]; exact Kr.out), ← HM.out]
        have F5 : Hid (wr.ownsRow w.heap.size 39 32 (.slice (some ⟨g, 0, none⟩) m m) m (VC (vals s n ws d m))) := by
          have e : part8 (vals s n ws d m) m m = VC (vals s n ws d m) := by simp [part8]
          have := Vr.out
          rw [e] at this
          exact own_of_LAt this (by rw [VC_length (vals_each _ _ _ _ _), vals_length]) (by have := HG.out; omega) (by unfold maxLen; omega)
        clear Vr Kr Ar
        go_wp2_with fail
        go_ret2
        rw [HE.out]
        refine ⟨some ⟨g, 0, none⟩, m, ?_, ?_, Br.out⟩
        · rw [vals_length]; rfl
        · rw [vals_length]; exact F5.out
  · have HR : Hid (alS s n ws d = ([], rfS s n)) := alS_no ws d hr
    obtain ⟨q, hq0⟩ : ∃ q, q = rfS s n := ⟨_, rfl⟩
    rw [← hq0] at hr HR ⊢
    have hq : (q != 0) = true := by simp [hr]
    clear hq0
    go_wp2_with fail
    go_ret2
    rw [HR.out]
    exact ⟨none, 0, rfl, World.ownsRow_nil _ _ _ _, HB1.out⟩
end Go.Proofs.YtdadpepfpiimgaaGreatDoor
namespace Go.Proofs.YtdadpepfpiimgaaGreatDoor
open Go.RowKit
theorem box_kept {w w' : World} {t : TypeId} {g : Nat} {cs : List Value} {base n : Nat} {v : Value} {xs : List Value} (hb : LAt t w g cs) (ho : w.ownsRow base 5 1 v n xs) (hg : w.grownBy w' v.ownBlock) (ht : t ≠ 5) : LAt t w' g cs := by
  refine (hg.block g hb.lt (fun e => ?_)).trans hb
  rcases ho.2 with ⟨rfl, _⟩ | ⟨g', cap, cur, rfl, _, h2, _⟩
  · simp [Value.ownBlock] at e
  · simp only [Value.ownBlock, Option.some.injEq] at e
    subst e
    unfold LAt at hb
    rw [hb] at h2
    simp only [Option.some.injEq, Obj.cells.injEq] at h2
    exact ht h2.2.1
theorem build_new (w : World) (s : Sup) : (Instr.build 121 #[(0, .agg (ccells s).toArray), (1, .int .u64 0), (2, .int .u64 1)]).run Tryz.prog w = .ok (.agg (scells (sup1 s)).toArray) w :=
  build29 w _ (sup1 s) (fill_all (sup1 s))
set_option maxHeartbeats 400000 in
set_option maxRecDepth 100000 in
theorem hnew_bad (s : Sup) (hc : ¬ MayC s) (w : World) :
    Calls Tryz.prog 16 #[.agg (ccells s).toArray] w fun e w' => e = .returned (.tuple #[.pointer none, .int .i64 3]) ∧ Below w.heap.size w w' := by
  have L1 : Hid (_) := CAt.load23 (LAt.new 23 w (ccells s))
  have HB : Hid (Below w.heap.size w (w.alloc (.cells (ccells s).toArray 23))) := below_alloc w _
  have U1 : Hid (_) := build_new (w.alloc (.cells (ccells s).toArray 23)) s
  have HC : Hid (chk (sup1 s) = 3) := (sup1_chk s).trans (cfg_no s hc)
  have HM : Hid (¬ May (sup1 s)) := fun h => hc h.1
  clear hc
  go_enter Tryz.func16, Tryz.ntmps16
  go_wp2_with ((with_reducible refine at_ops ?_); (first | (refine wpList_load_is (by rfl) 23 rfl rfl L1.out ?_) | (refine wpList_build_is (vs := [(0, .agg (ccells s).toArray), (1, .int .u64 0), (2, .int .u64 1)]) (by rfl) 121 rfl (by rfl) U1.out ?_)); simp only [Act.put, List.setIfInBounds_toArray, List.set_cons_zero, List.set_cons_succ])
  refine (encode_bad (sup1 s) HM.out _).mono ?_
  rintro e w1 ⟨rfl, b1⟩
  rw [HC.out]
  have HB1 : Hid (Below w.heap.size w w1) := below_then HB.out b1
  clear b1 HB L1 U1
  go_wp2_with fail
  go_ret2
  exact ⟨rfl, HB1.out⟩
set_option maxHeartbeats 2000000 in
set_option maxRecDepth 100000 in
theorem hnew_good (s : Sup) (hc : MayC s) (w : World) (ht : Tab w) :
    Calls Tryz.prog 16 #[.agg (ccells s).toArray] w fun e w' => ∃ p, e = .returned (.tuple #[.pointer (some ⟨p, 0, none⟩), .int .i64 0]) ∧ Dsk w' (fun k => w.heap.size ≤ k) p (cntS s) (newS s) [] ∧ Below w.heap.size w w' := by
  obtain ⟨i0, hi, hz0, hz1, hz2⟩ := info_parts info5
  have L1 : Hid (_) := CAt.load23 (LAt.new 23 w (ccells s))
  have HA : Hid (CAt (w.alloc (.cells (ccells s).toArray 23)) w.heap.size s) := LAt.new 23 w (ccells s)
  have HB : Hid (Below w.heap.size w (w.alloc (.cells (ccells s).toArray 23))) := below_alloc w _
  have U1 : Hid (_) := build_new (w.alloc (.cells (ccells s).toArray 23)) s
  have HC : Hid (MayC s) := hc
  have HT : Hid (Tab w) := ht
  obtain ⟨m, hm⟩ : ∃ m, m = s.bl.toNat := ⟨_, rfl⟩
  obtain ⟨l, hl⟩ : ∃ l, l = s.lc.toNat := ⟨_, rfl⟩
  have hb1 := hc.1
  have hl1 := hc.2.1
  have hmi : s.bl = (m : Int) := by omega
  have hli : s.lc = (l : Int) := by omega
  have hm1 : 1 ≤ m := by omega
  have hm2 : m ≤ 64 := by omega
  have hl0 : 2 ≤ l := by omega
  have hl2 : l ≤ 64 := by omega
  obtain ⟨K, hK⟩ : ∃ K, K = 64 * l := ⟨_, rfl⟩
  have HN : Hid (newS s = encS (sup1 s) ++ homes m ++ zs K ∧ 64 * (m + 1) + K = 64 * cntS s ∧ cntS s ≤ 4096) := by
    refine ⟨by unfold newS; rw [hK, hl, hm], ?_, ?_⟩
    · unfold cntS; omega
    · have := (cntS_bd hc).2; omega
  have hk3 : (l : Int) * 64 = (K : Int) := by omega
  have hk1 : 0 < K := by omega
  have hk2 : K ≤ 4096 := by omega
  have HCI : Hid (∀ w', CAt w' w.heap.size s → w'.cell? ⟨w.heap.size, 0, none⟩ = some (.int .i64 (m : Int)) ∧ w'.cell? ⟨w.heap.size, 1, none⟩ = some (.int .i64 (l : Int))) := by
    rw [← hmi, ← hli]; exact fun w' h => ⟨CAt.c0 h, CAt.c1 h⟩
  clear hc ht hm hl hb1 hl1 hmi hli hK
  go_enter Tryz.func16, Tryz.ntmps16
  go_wp2_with ((with_reducible refine at_ops ?_); (first | (refine wpList_load_is (by rfl) 23 rfl rfl L1.out ?_) | (refine wpList_build_is (vs := [(0, .agg (ccells s).toArray), (1, .int .u64 0), (2, .int .u64 1)]) (by rfl) 121 rfl (by rfl) U1.out ?_)); simp only [Act.put, List.setIfInBounds_toArray, List.set_cons_zero, List.set_cons_succ])
  refine (encode_good (sup1 s) (sup1_wf HC.out) (sup1_may HC.out) _ (HT.out.later HB.out)).mono ?_
  rintro e w1 ⟨g1, rfl, m1⟩
  have A1 : Hid (CAt w1 w.heap.size s) := LAt.later HA.out m1.below
  have B1 : Hid (Below w.heap.size w w1) := below_then HB.out m1.below
  have O1 : Hid (w1.ownsRow w.heap.size 5 1 (.slice (some ⟨g1, 0, none⟩) 64 64) 64 (U8 (encS (sup1 s)))) := own_mono m1.own HB.out.size
  clear m1 HA HB L1 U1
  have c0 := (HCI.out _ A1.out).1
  go_wp2_with fail
  clear c0
  go_loopw [4, 20] (fun v i wr => ∃ k : Nat, k ≤ m ∧ i = .int .i64 k ∧ Hid (CAt wr w.heap.size s ∧ wr.ownsRow w.heap.size 5 1 v (64 * (k + 1)) (U8 (encS (sup1 s) ++ homes k)) ∧ Below w.heap.size w wr)) (fun _ i _ => m - (intOf i).toNat)
  case atStart => exact ⟨0, Nat.zero_le _, rfl, A1.out, by simpa [homes] using O1.out, B1.out⟩
  case round =>
    obtain ⟨k, hk, rfl, HI⟩ := hrel
    clear A1 B1 O1
    have Ar : Hid (CAt wr w.heap.size s) := HI.out.1
    have Or : Hid (wr.ownsRow w.heap.size 5 1 u4 (64 * (k + 1)) (U8 (encS (sup1 s) ++ homes k))) := HI.out.2.1
    have Br : Hid (Below w.heap.size w wr) := HI.out.2.2
    clear HI
    by_cases hlt : k < m
    · have U2 : Hid (_) := buildV wr
      go_wp2_with ((with_reducible refine at_ops ?_); (refine wpList_build_is (vs := []) (by rfl) 39 rfl (by rfl) U2.out ?_); simp only [Act.put, List.setIfInBounds_toArray, List.set_cons_zero, List.set_cons_succ])
      refine (hencode_good (k : Int) (zs 32) ⟨by omega, by omega⟩ (zs_len 32) (zs_bytes 32) wr (HT.out.later Br.out)).mono ?_
      rintro e w2 ⟨g2, rfl, m2⟩
      have A2 : Hid (CAt w2 w.heap.size s) := LAt.later Ar.out m2.below
      have B2 : Hid (Below w.heap.size w w2) := below_then Br.out m2.below
      have O2 : Hid (w2.ownsRow w.heap.size 5 1 u4 (64 * (k + 1)) (U8 (encS (sup1 s) ++ homes k))) := own_later Or.out m2.below
      have X2 : Hid (BIn w2 (some ⟨g2, 0, none⟩) 64 (homeS (k : Int) (zs 32))) := m2.read
      have HL : Hid ((homeS (k : Int) (zs 32)).length = 64) := homeS_len _ (zs_len 32)
      have HX : Hid (U8 (encS (sup1 s) ++ homes (k + 1)) = U8 (encS (sup1 s) ++ homes k) ++ U8 (homeS (k : Int) (zs 32))) := by show _ = _; rw [homes_succ]; simp only [U8, List.map_append, List.append_assoc]
      clear m2 Ar Or Br U2
      generalize homeS (k : Int) (zs 32) = hs at *
      go_wp2_with (at_builtin; refine wpList_append_own _ rfl (.tmp 32) (.tmp 33) 27 rfl w.heap.size 5 i0 (.int .u8 0) 1 1 Tryz.underlying27 hi hz0 hz1 hz2 rfl (by decide) u4 (64 * (k + 1)) (U8 (encS (sup1 s) ++ homes k)) rfl O2.out ⟨g2, 0, none⟩ 64 64 (U8 hs) rfl (by rw [U8_length, HL.out]) X2.out.news (ones_u8 _) (by unfold maxLen; omega) (by omega) B2.out.size ?_)
      intro v3 w3 hown3 hgrow3 _
      have F3 : Hid (CAt w3 w.heap.size s ∧ w3.ownsRow w.heap.size 5 1 v3 (64 * (k + 1 + 1)) (U8 (encS (sup1 s) ++ homes (k + 1))) ∧ Below w.heap.size w w3) := by
        refine ⟨box_kept A2.out O2.out hgrow3 (by decide), ?_, B2.out.grown hgrow3 B2.out.size (fun g hg => (O2.out.lt g hg).1)⟩
        rw [HX.out, show 64 * (k + 1 + 1) = 64 * (k + 1) + 64 by omega]
        exact hown3
      clear hown3 hgrow3 A2 B2 O2 X2
      go_wp2_with fail
      go_roundw
      case rel => exact ⟨k + 1, by omega, by go_num, F3.out⟩
      case measure => simp [intOf]; omega
    · obtain rfl : m = k := by omega
      have c1 := (HCI.out _ Ar.out).2
      obtain ⟨g4, c4, rfl, -⟩ := own_shape Or.out (by omega)
      go_wp2_with (at_builtin; refine wpList_append_zeros_own _ rfl (.tmp 36) _ 27 3 rfl w.heap.size 5 i0 (.int .u8 0) 1 .i64 .i64 Tryz.underlying27 Tryz.underlying3 hi hz0 hz1 hz2 rfl rfl g4 (64 * (m + 1)) c4 (U8 (encS (sup1 s) ++ homes m)) rfl Or.out K rfl hk1 (by unfold maxLen; omega) (by omega) Br.out.size ?_)
      intro v5 w5 hown5 hgrow5
      have B5 : Hid (Below w.heap.size w w5) := Br.out.grown hgrow5 Br.out.size (fun k hk => (Or.out.lt k hk).1)
      have O5 : Hid (w5.ownsRow w.heap.size 5 1 v5 (64 * (m + 1) + K) (U8 (newS s))) := by
        show w5.ownsRow _ _ _ _ _ _
        rw [HN.out.1]
        simp only [U8, zs, List.map_append, List.map_replicate] at hown5 ⊢
        exact hown5
      clear hown5 hgrow5 Or Br Ar c1
      obtain ⟨g5, c5, rfl, hc5⟩ := own_shape O5.out (by omega)
      have X5 : Hid (BIn w5 (some ⟨g5, 0, none⟩) (64 * (m + 1) + K) (newS s)) := own_bin O5.out (newS_bytes HC.out)
      go_wp2_with fail
      refine (load_good g5 0 (64 * (m + 1) + K) c5 (cntS s) (newS s) w5 X5.out HN.out.2.1 hc5 (by unfold cntS; omega) HN.out.2.2).mono ?_
      rintro e w6 ⟨p, rfl, d6, b6⟩
      have F6 : Hid (Dsk w6 (fun k => w.heap.size ≤ k) p (cntS s) (newS s) [] ∧ Below w.heap.size w w6) := ⟨d6.mono (fun k _ hk => Nat.le_trans B5.out.size hk), below_then B5.out b6⟩
      clear d6 b6 X5 O5 B5
      go_wp2_with fail
      go_ret2
      exact ⟨p, rfl, F6.out.1, F6.out.2⟩
end Go.Proofs.YtdadpepfpiimgaaGreatDoor
