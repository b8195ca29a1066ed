/-
  Layer 8, the document's own functions, second part: May, fits, Save, Load.
-/
import Derived.Test.YtpenddnmmfpdjaaDoorRb
import Derived.Test.YtpenddnmmfpdjaaDoorDRe
import Derived.Test.YtpenddnmmfpdjaaDoorWd
namespace Go.Proofs.YtpenddnmmfpdjaaDoor
open Go.RowKit

set_option maxHeartbeats 4000000 in
set_option maxRecDepth 100000 in
theorem rmay_any (s : Sup) (w : World) : Calls Tryd.prog 48 #[.agg (ccells s).toArray] w fun e w' => e = .returned (.bool (decide (MayC s))) ∧ Below w.heap.size w w' := by
  have hA : CAt (w.alloc (.cells (ccells s).toArray 39)) w.heap.size s := LAt.new 39 w (ccells s)
  have c0 := CAt.c0 hA
  have c1 := CAt.c1 hA
  have c2 := CAt.c2 hA
  have c3 := CAt.c3 hA
  have c4 := CAt.c4 hA
  have HB : Hid (Below w.heap.size w (w.alloc (.cells (ccells s).toArray 39))) := below_alloc w _
  clear hA
  by_cases q0 : s.bl < 1
  · rw [decide_eq_false (fun h => by have := h.1.1; omega)]
    go_enter Tryd.func48, Tryd.ntmps48
    go_wp2
    go_ret
    first | exact ⟨rfl, HB.out⟩ | (refine ⟨?_, HB.out⟩; simp; omega)
  have g0 : 1 ≤ s.bl := by omega
  clear q0
  by_cases q1 : 64 < s.bl
  · rw [decide_eq_false (fun h => by have := h.1.2; omega)]
    go_enter Tryd.func48, Tryd.ntmps48
    go_wp2
    go_ret
    first | exact ⟨rfl, HB.out⟩ | (refine ⟨?_, HB.out⟩; simp; omega)
  have g1 : s.bl ≤ 64 := by omega
  clear q1
  by_cases q2 : s.lc < 2
  · rw [decide_eq_false (fun h => by have := h.2.1.1; omega)]
    go_enter Tryd.func48, Tryd.ntmps48
    go_wp2
    go_ret
    first | exact ⟨rfl, HB.out⟩ | (refine ⟨?_, HB.out⟩; simp; omega)
  have g2 : 2 ≤ s.lc := by omega
  clear q2
  by_cases q3 : 64 < s.lc
  · rw [decide_eq_false (fun h => by have := h.2.1.2; omega)]
    go_enter Tryd.func48, Tryd.ntmps48
    go_wp2
    go_ret
    first | exact ⟨rfl, HB.out⟩ | (refine ⟨?_, HB.out⟩; simp; omega)
  have g3 : s.lc ≤ 64 := by omega
  clear q3
  by_cases q4 : s.mr < 1
  · rw [decide_eq_false (fun h => by have := h.2.2.1.1; omega)]
    go_enter Tryd.func48, Tryd.ntmps48
    go_wp2
    go_ret
    first | exact ⟨rfl, HB.out⟩ | (refine ⟨?_, HB.out⟩; simp; omega)
  have g4 : 1 ≤ s.mr := by omega
  clear q4
  by_cases q5 : 16 < s.mr
  · rw [decide_eq_false (fun h => by have := h.2.2.1.2.1; omega)]
    go_enter Tryd.func48, Tryd.ntmps48
    go_wp2
    go_ret
    first | exact ⟨rfl, HB.out⟩ | (refine ⟨?_, HB.out⟩; simp; omega)
  have g5 : s.mr ≤ 16 := by omega
  clear q5
  by_cases q6 : s.bl < s.mr
  · rw [decide_eq_false (fun h => by have := h.2.2.1.2.2.1; omega)]
    go_enter Tryd.func48, Tryd.ntmps48
    go_wp2
    go_ret
    first | exact ⟨rfl, HB.out⟩ | (refine ⟨?_, HB.out⟩; simp; omega)
  have g6 : s.mr ≤ s.bl := by omega
  clear q6
  by_cases q7 : s.lc - 1 < s.mr
  · rw [decide_eq_false (fun h => by have := h.2.2.1.2.2.2; omega)]
    go_enter Tryd.func48, Tryd.ntmps48
    go_wp2
    go_ret
    first | exact ⟨rfl, HB.out⟩ | (refine ⟨?_, HB.out⟩; simp; omega)
  have g7 : s.mr ≤ s.lc - 1 := by omega
  clear q7
  by_cases q8 : s.hi < 1
  · rw [decide_eq_false (fun h => by have := h.2.2.2.1.1; omega)]
    go_enter Tryd.func48, Tryd.ntmps48
    go_wp2
    go_ret
    first | exact ⟨rfl, HB.out⟩ | (refine ⟨?_, HB.out⟩; simp; omega)
  have g8 : 1 ≤ s.hi := by omega
  clear q8
  by_cases q9 : s.lc < s.hi
  · rw [decide_eq_false (fun h => by have := h.2.2.2.1.2; omega)]
    go_enter Tryd.func48, Tryd.ntmps48
    go_wp2
    go_ret
    first | exact ⟨rfl, HB.out⟩ | (refine ⟨?_, HB.out⟩; simp; omega)
  have g9 : s.hi ≤ s.lc := by omega
  clear q9
  by_cases q10 : s.cl < 1
  · rw [decide_eq_false (fun h => by have := h.2.2.2.2.1; omega)]
    go_enter Tryd.func48, Tryd.ntmps48
    go_wp2
    go_ret
    first | exact ⟨rfl, HB.out⟩ | (refine ⟨?_, HB.out⟩; simp; omega)
  have g10 : 1 ≤ s.cl := by omega
  clear q10
  by_cases q11 : 8 < s.cl
  · rw [decide_eq_false (fun h => by have := h.2.2.2.2.2; omega)]
    go_enter Tryd.func48, Tryd.ntmps48
    go_wp2
    go_ret
    first | exact ⟨rfl, HB.out⟩ | (refine ⟨?_, HB.out⟩; simp; omega)
  have g11 : s.cl ≤ 8 := by omega
  clear q11
  rw [decide_eq_true ⟨⟨g0, g1⟩, ⟨g2, g3⟩, ⟨g4, g5, g6, g7⟩, ⟨g8, g9⟩, ⟨g10, g11⟩⟩]
  go_enter Tryd.func48, Tryd.ntmps48
  go_wp2
  go_ret
  first | exact ⟨rfl, HB.out⟩ | (refine ⟨?_, HB.out⟩; simp; omega)

set_option maxHeartbeats 1000000 in
set_option maxRecDepth 100000 in
theorem fits_any (s : Sup) {w : World} {S : Nat → Prop} {p n : Nat} {d : List Int} {ws : List Wr} (h : Ref w S p n d ws) :
    Calls Tryd.prog 68 #[.pointer (some ⟨p, 0, none⟩), .agg (ccells s).toArray] w fun e w' => e = .returned (.int .i64 (rfS s n)) ∧ Below w.heap.size w w' := by
  have L1 : Hid (_) := CAt.load23 (LAt.new 39 w (ccells s))
  have HA : Hid (CAt (w.alloc (.cells (ccells s).toArray 39)) w.heap.size s) := LAt.new 39 w (ccells s)
  have HB : Hid (Below w.heap.size w (w.alloc (.cells (ccells s).toArray 39))) := below_alloc w _
  have HD : Hid (Ref w S p n d ws) := h
  clear h
  go_enter Tryd.func68, Tryd.ntmps68
  go_wp2_with ((with_reducible refine at_ops ?_); (refine wpList_load_is (by rfl) 39 rfl rfl L1.out ?_); simp only [Act.put, List.setIfInBounds_toArray, List.set_cons_zero, List.set_cons_succ])
  refine (rmay_any s _).mono ?_
  rintro e w1 ⟨rfl, b1⟩
  have HA1 : Hid (CAt w1 w.heap.size s) := LAt.later HA.out b1
  have HB1 : Hid (Below w.heap.size w w1) := below_then HB.out b1
  have HD1 : Hid (Ref w1 S p n d ws) := HD.out.later HB1.out
  clear b1 HA HB L1 HD
  by_cases hc : MayC s
  · rw [decide_eq_true hc]
    have HC : Hid (MayC s) := hc
    obtain ⟨⟨a1, a2⟩, ⟨a3, a4⟩, -⟩ := hc
    obtain ⟨bl, hbl⟩ : ∃ x, x = s.bl := ⟨_, rfl⟩
    obtain ⟨lc, hlc⟩ : ∃ x, x = s.lc := ⟨_, rfl⟩
    have k1 : IntKind.i64.wrap (1 + bl) = 1 + bl := by rw [IntKind.wrap_i64]; omega
    have k2 : IntKind.i64.wrap (1 + bl + lc) = 1 + bl + lc := by rw [IntKind.wrap_i64]; omega
    have HE : Hid (((n : Int) = 1 + bl + lc → rfS s n = 0) ∧ (¬ (n : Int) = 1 + bl + lc → rfS s n = 40)) := by rw [hbl, hlc]; exact ⟨fun h => rfS_ok HC.out h, fun h => rfS_len HC.out h⟩
    have HC0 : Hid (∀ w', CAt w' w.heap.size s → w'.cell? ⟨w.heap.size, 0, none⟩ = some (.int .i64 bl) ∧ w'.cell? ⟨w.heap.size, 1, none⟩ = some (.int .i64 lc)) := by rw [hbl, hlc]; exact fun w' h => ⟨CAt.c0 h, CAt.c1 h⟩
    clear hbl hlc a1 a2 a3 a4
    go_wp2_with fail
    refine wp_region_noPanic ?_
    refine wp_region_held_drew (S := fun w' => Below w1.heap.size w1 w') (by kernel_rfl) (below_drawn 1) (fun hHeld => ?_)
    have D1 : Hid (Below w1.heap.size w1 w1.drew) := hHeld
    generalize w1.drew = wd at *
    refine wpAnyH_take (i := 0) (v := ?va1) (by simp; rfl) (by kernel_rfl) (by kernel_rfl) (by kernel_rfl) (fun _ _ _ h => h) (Or.inl ⟨by rfl, ?ya1⟩) hHeld ?ra1
    case ya1 => intro w hSw; clear hSw; go_simp; with_reducible rfl
    simp only [Act.put, List.setIfInBounds_toArray, List.set_cons_zero, List.set_cons_succ]
    refine wpAnyH_take (i := 2) (v := ?va2) (by simp; rfl) (by kernel_rfl) (by kernel_rfl) (by kernel_rfl) (fun _ _ _ h => h) (Or.inl ⟨by rfl, ?ya2⟩) hHeld ?ra2
    case ya2 => intro w hSw; clear hSw; go_simp; with_reducible rfl
    simp only [Act.put, List.setIfInBounds_toArray, List.set_cons_zero, List.set_cons_succ]
    refine wpAnyH_take (i := 3) (v := ?va3) (by simp; rfl) (by kernel_rfl) (by kernel_rfl) (by kernel_rfl) (fun _ _ _ h => h) (Or.inl ⟨by rfl, ?ya3⟩) hHeld ?ra3
    case ya3 => intro w hSw; have z := (HC0.out _ (LAt.later HA1.out hSw)).1; clear hSw; go_simp; with_reducible rfl
    simp only [Act.put, List.setIfInBounds_toArray, List.set_cons_zero, List.set_cons_succ]
    refine wpAnyH_take (i := 4) (v := ?va4) (by simp; rfl) (by kernel_rfl) (by kernel_rfl) (by kernel_rfl) (fun _ _ _ h => h) (Or.inl ⟨by rfl, ?ya4⟩) hHeld ?ra4
    case ya4 => intro w hSw; clear hSw; go_simp; with_reducible rfl
    simp only [Act.put, List.setIfInBounds_toArray, List.set_cons_zero, List.set_cons_succ]
    refine wpAnyH_take (i := 5) (v := ?va5) (by simp; rfl) (by kernel_rfl) (by kernel_rfl) (by kernel_rfl) (fun _ _ _ h => h) (Or.inl ⟨by rfl, ?ya5⟩) hHeld ?ra5
    case ya5 => intro w hSw; clear hSw; go_simp; with_reducible rfl
    simp only [Act.put, List.setIfInBounds_toArray, List.set_cons_zero, List.set_cons_succ]
    refine wpAnyH_take (i := 6) (v := ?va6) (by simp; rfl) (by kernel_rfl) (by kernel_rfl) (by kernel_rfl) (fun _ _ _ h => h) (Or.inl ⟨by rfl, ?ya6⟩) hHeld ?ra6
    case ya6 => intro w hSw; have z := (HC0.out _ (LAt.later HA1.out hSw)).2; clear hSw; go_simp; with_reducible rfl
    simp only [Act.put, List.setIfInBounds_toArray, List.set_cons_zero, List.set_cons_succ]
    refine wpAnyH_take (i := 7) (v := ?va7) (by simp; rfl) (by kernel_rfl) (by kernel_rfl) (by kernel_rfl) (fun _ _ _ h => h) (Or.inl ⟨by rfl, ?ya7⟩) hHeld ?ra7
    case ya7 => intro w hSw; clear hSw; go_simp; with_reducible rfl
    simp only [Act.put, List.setIfInBounds_toArray, List.set_cons_zero, List.set_cons_succ]
    refine wpAnyH_ready (rs := [1]) (by kernel_rfl) (by simp) ?_
    refine AllReadyH.cons (by simp; rfl) (fun Kc hKc => ?_) AllReadyH.nil
    go_simp
    refine (rlen_any (HD1.out.later D1.out)).mono ?_
    rintro e wn ⟨rfl, rfl⟩
    refine hKc.out _ _ D1.out (fun hHeld => ?_)
    clear hKc Kc
    refine wpAnyH_take (i := 8) (v := ?va8) (by simp; rfl) (by kernel_rfl) (by kernel_rfl) (by kernel_rfl) (fun _ _ _ h => h) (Or.inl ⟨by rfl, ?ya8⟩) hHeld ?ra8
    case ya8 => intro w hSw; clear hSw; go_simp; with_reducible rfl
    simp only [Act.put, List.setIfInBounds_toArray, List.set_cons_zero, List.set_cons_succ]
    refine wpAnyH_take (i := 9) (v := ?va9) (by simp; rfl) (by kernel_rfl) (by kernel_rfl) (by kernel_rfl) (fun _ _ _ h => h) (Or.inl ⟨by rfl, ?ya9⟩) hHeld ?ra9
    case ya9 => intro w hSw; clear hSw; go_simp; with_reducible rfl
    simp only [Act.put, List.setIfInBounds_toArray, List.set_cons_zero, List.set_cons_succ]
    have HB2 : Hid (Below w.heap.size w wd) := below_then HB1.out D1.out
    clear hHeld D1 HD1 HC0
    refine wpAnyH_done (by kernel_rfl) (NoPanic.normal ?_) _
    by_cases he : (n : Int) = 1 + bl + lc
    · have hq : ((n : Int) != 1 + bl + lc) = false := by rw [he]; simp
      have HR : Hid (_) := HE.out.1 he
      clear he HE
      go_wp2_with fail
      go_ret
      exact ⟨by rw [HR.out]; rfl, HB2.out⟩
    · have hq : ((n : Int) != 1 + bl + lc) = true := by simp [he]
      have HR : Hid (_) := HE.out.2 he
      clear he HE
      go_wp2_with fail
      go_ret
      exact ⟨by rw [HR.out]; rfl, HB2.out⟩
  · rw [decide_eq_false hc]
    have HR : Hid (rfS s n = 3) := rfS_no _ hc
    clear hc
    go_wp2_with fail
    go_ret
    exact ⟨by rw [HR.out]; rfl, HB1.out⟩

/-- the document's Read and Write, of a number that is there -/
theorem rread_at {w : World} {S : Nat → Prop} {p n : Nat} {d : List Int} {ws : List Wr} (h : Ref w S p n d ws) (i : Int) (h0 : 0 ≤ i) (h1 : i < n) (hk : ws.length ≤ 1000) : Calls Tryd.prog 69 #[.pointer (some ⟨p, 0, none⟩), .int .i64 i] w fun e w' => ∃ q c, e = .returned (.tuple #[.slice q 64 c, .int .i64 0]) ∧ BIn w' q 64 (newest ws d i.toNat) ∧ 64 ≤ c ∧ Below w.heap.size w w' := by
  have e0 : ((i.toNat : Nat) : Int) = i := by omega
  have := rread_good h i.toNat (by omega) hk
  rw [e0] at this
  obtain ⟨g', L', cap, v', vs', hp⟩ := h
  refine this.mono ?_
  rintro e w' ⟨v, rfl, hown, hb⟩
  obtain ⟨q, c, rfl, hr, hc, _⟩ := own_in hown (newk_bytes hp.db hp.fit _)
  exact ⟨q, c, rfl, hr, hc, hb⟩
theorem rwrite_at {w : World} {S : Nat → Prop} {p n : Nat} {d : List Int} {ws : List Wr} (h : Ref w S p n d ws) (i : Int) (h0 : 0 ≤ i) (h1 : i < n) (a : Option Addr) (c : Nat) (b : List Int) (hb : BIn w a 64 b) (hk : ws.length ≤ 1000) : Calls Tryd.prog 54 #[.pointer (some ⟨p, 0, none⟩), .int .i64 i, .slice a 64 c] w fun e w' => e = .returned (.int .i64 0) ∧ Ref w' (More S w) p n d (ws ++ [⟨i.toNat, b⟩]) ∧ Kept S w w' := by
  have e0 : ((i.toNat : Nat) : Int) = i := by omega
  have := rwrite_good h i.toNat (by omega) a c b hb hk
  rw [e0] at this
  exact this

set_option maxHeartbeats 2000000 in
set_option maxRecDepth 100000 in
theorem rsave_any (s : Sup) (b : Int) (v : List Int) (hv : v.length = 32) (hvb : Bytes v) {w : World} {S : Nat → Prop} {p n : Nat} {d : List Int} {ws : List Wr} (h : Ref w S p n d ws) (hk : ws.length ≤ 1000) :
    Calls Tryd.prog 51 #[.pointer (some ⟨p, 0, none⟩), .agg (ccells s).toArray, .int .i64 b, .agg (U8 v).toArray] w fun e w' => e = .returned (.int .i64 (rbS s n b)) ∧ Ref w' (More S w) p n d (svW s n ws b v) ∧ Kept S w w' := by
  obtain ⟨w0, hw0⟩ : ∃ x, x = (w.alloc (.cells (ccells s).toArray 39)).alloc (.cells (U8 v).toArray 23) := ⟨_, rfl⟩
  have ew := hw0.symm
  have B0 : Hid (Below w.heap.size w w0) := by rw [hw0]; exact below_then (below_alloc w _) (below_alloc _ _)
  have C0 : Hid (CAt w0 w.heap.size s) := by rw [hw0]; exact LAt.later (LAt.new 39 w (ccells s)) (below_alloc _ _)
  have V0 : Hid (VAt w0 (w.heap.size + 1) v) := by
    have := LAt.new 23 (w.alloc (.cells (ccells s).toArray 39)) (U8 v)
    rw [show (w.alloc (.cells (ccells s).toArray 39)).heap.size = w.heap.size + 1 by simp] at this
    rw [hw0]
    exact this
  have D0 : Hid (Ref w0 S p n d ws) := h.later B0.out
  have L1 : Hid (_) := CAt.load23 C0.out
  have HV : Hid (v.length = 32 ∧ Bytes v) := ⟨hv, hvb⟩
  have HK : Hid (ws.length ≤ 1000) := hk
  clear hw0 h hv hvb hk
  go_enter Tryd.func51, Tryd.ntmps51
  go_wp2_with ((with_reducible refine at_ops ?_); (refine wpList_load_is (by rfl) 39 rfl rfl L1.out ?_); simp only [Act.put, List.setIfInBounds_toArray, List.set_cons_zero, List.set_cons_succ])
  clear ew
  refine (fits_any s D0.out).mono ?_
  rintro e w1 ⟨rfl, b1⟩
  have B1 : Hid (Below w.heap.size w w1) := below_then B0.out b1
  have V1 : Hid (VAt w1 (w.heap.size + 1) v) := LAt.later V0.out b1
  have D1 : Hid (Ref w1 S p n d ws) := D0.out.later b1
  have L2 : Hid (_) := VAt.load V1.out HV.out.1
  have c0 := CAt.c0 (LAt.later C0.out b1)
  have F1 : Hid (Ref w1 (More S w) p n d ws ∧ Kept S w w1) := ⟨D1.out.mono (fun k _ hs => .inl hs), Kept.of_below B1.out⟩
  clear b1 B0 L1 C0 V0 D0 V1
  by_cases hf : rfS s n = 0
  · rw [hf]
    by_cases hb : 0 ≤ b ∧ b < s.bl
    · have hr : rbS s n b = 0 := rbS_ok hf hb
      obtain ⟨hbb, h0, h1⟩ := rbS_in hr
      have HR : Hid (svW s n ws b v = ws ++ [⟨(1 + b).toNat, homeS b v⟩]) := svW_yes ws v hr
      have HRZ : Hid (rbS s n b = 0) := hr
      have hb0 := hb.1
      have hb1 := hb.2
      have hb2 := hbb.2
      have H1 : Hid (1 + b < (n : Int)) := h1
      have HBB : Hid (inB b) := hbb
      clear hr h0 h1 hb hbb hf F1
      go_wp2_with ((with_reducible refine at_ops ?_); (refine wpList_load_is (by rfl) 23 rfl rfl L2.out ?_); simp only [Act.put, List.setIfInBounds_toArray, List.set_cons_zero, List.set_cons_succ])
      refine (rencode_good b v HBB.out HV.out.1 HV.out.2 w1).mono ?_
      rintro e w2 ⟨g2, c2, rfl, m2⟩
      have B2 : Hid (Below w.heap.size w w2) := below_then B1.out m2.below
      have D2 : Hid (Ref w2 S p n d ws) := D1.out.later m2.below
      have X2 : Hid (BIn w2 (some ⟨g2, 0, none⟩) 64 (homeS b v)) := m2.read
      clear m2 B1 D1 L2 c0
      go_wp2_with fail
      refine (rwrite_at D2.out (1 + b) (by omega) H1.out _ c2 _ X2.out HK.out).mono ?_
      rintro e w3 ⟨rfl, d3, k3⟩
      have F3 : Hid (Ref w3 (More S w) p n d (ws ++ [⟨(1 + b).toNat, homeS b v⟩]) ∧ Kept S w w3) := by
        refine ⟨d3.mono (fun k _ hs => ?_), (Kept.of_below B2.out).trans k3 (fun _ _ t => t)⟩
        rcases hs with hs | hs
        · exact .inl hs
        · exact .inr (Nat.le_trans B2.out.size hs)
      clear d3 k3 D2 X2 B2
      go_wp2_with fail
      go_ret
      exact ⟨by rw [HRZ.out]; rfl, by rw [HR.out]; exact F3.out.1, F3.out.2⟩
    · have hr : rbS s n b = 51 := rbS_out hf hb
      have HR : Hid (svW s n ws b v = ws) := svW_no ws v (by rw [hr]; decide)
      have HRZ : Hid (rbS s n b = 51) := hr
      have hd : b < 0 ∨ (0 ≤ b ∧ s.bl ≤ b) := by omega
      clear hr hb hf L2
      rcases hd with h1 | ⟨h1, h2⟩
      · go_wp2_with fail
        go_ret
        exact ⟨by rw [HRZ.out]; rfl, by rw [HR.out]; exact F1.out.1, F1.out.2⟩
      · go_wp2_with fail
        go_ret
        exact ⟨by rw [HRZ.out]; rfl, by rw [HR.out]; exact F1.out.1, F1.out.2⟩
  · have hr : rbS s n b = rfS s n := rbS_no b hf
    have HR : Hid (svW s n ws b v = ws) := svW_no ws v (by rw [hr]; exact hf)
    obtain ⟨q, hq0⟩ : ∃ q, q = rfS s n := ⟨_, rfl⟩
    rw [← hq0] at hf hr ⊢
    have HQ : Hid (rbS s n b = q) := hr
    have hq : (q != 0) = true := by simp [hf]
    clear L2 hq0 hr
    go_wp2_with fail
    go_ret
    exact ⟨by rw [HQ.out]; rfl, by rw [HR.out]; exact F1.out.1, F1.out.2⟩

set_option maxHeartbeats 2000000 in
set_option maxRecDepth 100000 in
theorem rload8_any (s : Sup) (b : Int) {w : World} {S : Nat → Prop} {p n : Nat} {d : List Int} {ws : List Wr} (h : Ref w S p n d ws) (hk : ws.length ≤ 1000) :
    Calls Tryd.prog 52 #[.pointer (some ⟨p, 0, none⟩), .agg (ccells s).toArray, .int .i64 b] w fun e w' => e = .returned (.tuple #[.agg (U8 (ldS s n ws d b).1).toArray, .int .i64 (ldS s n ws d b).2]) ∧ Below w.heap.size w w' := by
  obtain ⟨wa, hwa⟩ : ∃ x, x = w.alloc (.cells (ccells s).toArray 39) := ⟨_, rfl⟩
  have ewa := hwa.symm
  have sza : wa.heap.size = w.heap.size + 1 := by rw [hwa]; simp
  have A1 : Hid (_) := allocV wa
  obtain ⟨w0, hw0⟩ : ∃ x, x = wa.alloc (.cells (U8 (zs 32)).toArray 23) := ⟨_, rfl⟩
  have B0 : Hid (Below w.heap.size w w0) := by rw [hw0, hwa]; exact below_then (below_alloc w _) (below_alloc _ _)
  have C0 : Hid (CAt w0 w.heap.size s) := by rw [hw0, hwa]; exact LAt.later (LAt.new 39 w (ccells s)) (below_alloc _ _)
  have V0 : Hid (VAt w0 (w.heap.size + 1) (zs 32)) := by
    have := LAt.new 23 wa (U8 (zs 32))
    rw [sza] at this
    rw [hw0]
    exact this
  rw [sza, ← hw0] at A1
  have L1 : Hid (_) := CAt.load23 C0.out
  have D0 : Hid (Ref w0 S p n d ws) := h.later B0.out
  have HK : Hid (ws.length ≤ 1000) := hk
  clear hw0 hwa sza h hk
  go_enter Tryd.func52, Tryd.ntmps52
  go_wp2_with ((with_reducible refine at_ops ?_); (first | (refine wpList_alloc_is (by rfl) 23 rfl A1.out ?_) | (refine wpList_load_is (by rfl) 39 rfl rfl L1.out ?_)); simp only [Act.put, List.setIfInBounds_toArray, List.set_cons_zero, List.set_cons_succ])
  clear ewa
  refine (fits_any s D0.out).mono ?_
  rintro e w1 ⟨rfl, b1⟩
  have B1 : Hid (Below w.heap.size w w1) := below_then B0.out b1
  have V1 : Hid (VAt w1 (w.heap.size + 1) (zs 32)) := LAt.later V0.out b1
  have D1 : Hid (Ref w1 S p n d ws) := D0.out.later b1
  have c0 := CAt.c0 (LAt.later C0.out b1)
  have U1 : Hid (_) := buildV w1
  have T1 : Hid (_) := VAt.store (v := zs 32) V1.out (zs_len 32) (zs_len 32)
  have F1 : Hid (VAt (w1.setRow (w.heap.size + 1) (U8 (zs 32)).toArray) (w.heap.size + 1) (zs 32)) := LAt.stored V1.out _
  have G1 : Hid (Below w.heap.size w (w1.setRow (w.heap.size + 1) (U8 (zs 32)).toArray)) := below_setRow B1.out (by omega) _
  clear b1 B0 L1 C0 V0 A1 D0
  by_cases hf : rfS s n = 0
  · rw [hf]
    by_cases hb : 0 ≤ b ∧ b < s.bl
    · have hr : rbS s n b = 0 := rbS_ok hf hb
      obtain ⟨hbb, h0, h1⟩ := rbS_in hr
      have HR : Hid (ldS s n ws d b = hdec (newest ws d (1 + b).toNat) b) := ldS_yes ws d hr
      have hb0 := hb.1
      have hb1 := hb.2
      have hb2 := hbb.2
      have H1 : Hid (1 + b < (n : Int)) := h1
      clear hr h0 h1 hb hbb hf U1 T1 F1 G1
      go_wp2_with fail
      refine (rread_at D1.out (1 + b) (by omega) H1.out HK.out).mono ?_
      rintro e w2 ⟨q2, c2, rfl, x2, hc2, b2⟩
      have B2 : Hid (Below w.heap.size w w2) := below_then B1.out b2
      have V2 : Hid (VAt w2 (w.heap.size + 1) (zs 32)) := LAt.later V1.out b2
      have X2 : Hid (BIn w2 q2 64 (newest ws d (1 + b).toNat)) := x2
      clear b2 x2 B1 V1 D1 c0 hc2
      go_wp2_with fail
      refine (rdecode_any q2 64 c2 _ b w2 X2.out).mono ?_
      rintro e w3 ⟨rfl, b3⟩
      rw [← HR.out]
      have B3 : Hid (Below w.heap.size w w3) := below_then B2.out b3
      have V3 : Hid (VAt w3 (w.heap.size + 1) (zs 32)) := LAt.later V2.out b3
      have HL : Hid ((ldS s n ws d b).1.length = 32) := ldS_len _ _ _ _ _
      obtain ⟨r, hr0⟩ : ∃ r, r = ldS s n ws d b := ⟨_, rfl⟩
      have HQ : Hid (r = ldS s n ws d b) := hr0
      rw [← hr0] at HL ⊢
      clear hr0
      have T3 : Hid (_) := VAt.store (v := r.1) V3.out (zs_len 32) HL.out
      have F3 : Hid (VAt (w3.setRow (w.heap.size + 1) (U8 r.1).toArray) (w.heap.size + 1) r.1) := LAt.stored V3.out _
      have G3 : Hid (Below w.heap.size w (w3.setRow (w.heap.size + 1) (U8 r.1).toArray)) := below_setRow B3.out (by omega) _
      clear b3 B2 V2 X2 HR
      go_wp2_with ((with_reducible refine at_ops ?_); (refine wpList_store_is (by rfl) 23 rfl rfl rfl T3.out ?_); simp only [Act.put])
      rw [← HQ.out]
      exact bodyPost_ret (results_val Tryd.results52 _ _ (w.heap.size + 1) _ _ (by rfl) F3.out HL.out Tryd.underlying23 rfl sizeV) rfl ⟨rfl, G3.out⟩
    · have hr : rbS s n b = 51 := rbS_out hf hb
      have HR : Hid (ldS s n ws d b = (zs 32, 51)) := by have := ldS_no (s := s) (n := n) (b := b) ws d (by rw [hr]; decide); rw [hr] at this; exact this
      have hd : b < 0 ∨ (0 ≤ b ∧ s.bl ≤ b) := by omega
      clear hr hb hf
      rcases hd with h1 | ⟨h1, h2⟩
      · go_wp2_with ((with_reducible refine at_ops ?_); (first | (refine wpList_build_is (vs := []) (by rfl) 23 rfl (by rfl) U1.out ?_) | (refine wpList_store_is (by rfl) 23 rfl rfl rfl T1.out ?_)); simp only [Act.put, List.setIfInBounds_toArray, List.set_cons_zero, List.set_cons_succ])
        rw [HR.out]
        exact bodyPost_ret (results_val Tryd.results52 _ _ (w.heap.size + 1) _ _ (by rfl) F1.out (zs_len 32) Tryd.underlying23 rfl sizeV) rfl ⟨rfl, G1.out⟩
      · go_wp2_with ((with_reducible refine at_ops ?_); (first | (refine wpList_build_is (vs := []) (by rfl) 23 rfl (by rfl) U1.out ?_) | (refine wpList_store_is (by rfl) 23 rfl rfl rfl T1.out ?_)); simp only [Act.put, List.setIfInBounds_toArray, List.set_cons_zero, List.set_cons_succ])
        rw [HR.out]
        exact bodyPost_ret (results_val Tryd.results52 _ _ (w.heap.size + 1) _ _ (by rfl) F1.out (zs_len 32) Tryd.underlying23 rfl sizeV) rfl ⟨rfl, G1.out⟩
  · have hr : rbS s n b = rfS s n := rbS_no b hf
    have HR : Hid (ldS s n ws d b = (zs 32, rfS s n)) := by have := ldS_no (s := s) (n := n) (b := b) ws d (by rw [hr]; exact hf); rw [hr] at this; exact this
    obtain ⟨q, hq0⟩ : ∃ q, q = rfS s n := ⟨_, rfl⟩
    rw [← hq0] at hf HR ⊢
    have hq : (q != 0) = true := by simp [hf]
    clear hq0 hr
    go_wp2_with ((with_reducible refine at_ops ?_); (first | (refine wpList_build_is (vs := []) (by rfl) 23 rfl (by rfl) U1.out ?_) | (refine wpList_store_is (by rfl) 23 rfl rfl rfl T1.out ?_)); simp only [Act.put, List.setIfInBounds_toArray, List.set_cons_zero, List.set_cons_succ])
    rw [HR.out]
    exact bodyPost_ret (results_val Tryd.results52 _ _ (w.heap.size + 1) _ _ (by rfl) F1.out (zs_len 32) Tryd.underlying23 rfl sizeV) rfl ⟨rfl, G1.out⟩
end Go.Proofs.YtpenddnmmfpdjaaDoor
