/-
  plays: All, with nothing said of what the lists that were told hold.
-/
import Derived.Test.YtpenddnmmfpdjaaDoorYb
import Derived.Test.YtpenddnmmfpdjaaDoorXj
namespace Go.Proofs.YtpenddnmmfpdjaaDoor
namespace Z
open Go.RowKit
/-- what holds at a pass of All -/
structure LS (w wr : World) (R : Nat → Nat) (B g p r n : Nat) (s cf : Sup) (d : List Int) (ws : List Wr) (m : Nat) : Prop where
  dk : Dk wr R B g p r n s d ws d ws m
  cfg : CAt wr (w.heap.size + 1) cf
  rc : R (w.heap.size + 1) = 0
  below : Below B w wr
  le : B ≤ wr.heap.size
theorem LS.tell {w wr wb wx : World} {R : Nat → Nat} {B g p r n : Nat} {s cf : Sup} {d : List Int} {ws : List Wr} {m : Nat} {vt vw : Value} {tl wl : List Value} {lu lv : Value} {g1 c1 g2 c2 : Nat}
    (h : LS w wr R B g p r n s cf d ws m) (hb : Below wr.heap.size wr wb) (hK : KAt wb g p r s vt vw) (hT : TD wb R m vt vw tl wl) (hC : TC wb wx m vt vw tl wl lu lv g1 c1 g2 c2)
    (hP : ∃ (q : Option Addr) (n c : Nat) (q2 : Option Addr) (c2 : Nat) (vs : List (List Int)), lu = .slice q n c ∧ lv = .slice q2 n c2 ∧ n ≤ 64 ∧ vs.length = n ∧ (∀ l ∈ vs, l.length = 32) ∧ wb.ownsRow 0 23 32 (.slice q n c) n (VC vs) ∧ wb.ownsRow 0 23 32 (.slice q2 n c2) n (VC vs))
    (hu : ∀ k, lu.ownBlock = some k → wr.heap.size ≤ k) (hv : ∀ k, lv.ownBlock = some k → wr.heap.size ≤ k) (huv : ∀ k, lu.ownBlock = some k → lv.ownBlock = some k → False) :
    ∃ R', LS w ((wx.setCell ⟨g, 7, none⟩ (.slice (some ⟨g1, 0, none⟩) (m + 1) c1)).setCell ⟨g, 8, none⟩ (.slice (some ⟨g2, 0, none⟩) (m + 1) c2)) R' B g p r n s cf d ws (m + 1) := by
  have hs := hb.size
  have hl := h.le
  have hc := LAt.lt h.cfg
  obtain ⟨dk, kp, z⟩ := (h.dk.later hb).tell hK hT hC (by omega) hP (fun k hk => ⟨h.dk.hi k (hu k hk), Nat.le_trans hl (hu k hk)⟩) (fun k hk => ⟨h.dk.hi k (hv k hk), Nat.le_trans hl (hv k hk)⟩) huv
  refine ⟨_, dk, (kp.block _ (by omega) (by rw [h.rc]; omega)).trans (LAt.later h.cfg hb), z _ (by omega) h.rc (fun c => by have := hu _ c; omega) (fun c => by have := hv _ c; omega), ?_, ?_⟩
  · exact (h.below.trans (hb.mono hl)).trans (kp.below (by omega) (fun k hk => Nat.le_of_not_lt fun c => by have := h.dk.lo k c; omega))
  · have := kp.size; omega

set_option maxRecDepth 100000 in
set_option maxHeartbeats 8000000 in
theorem plays_all {w : World} {B g p r n K : Nat} {s : Sup} (h : St w B g p r n s K) (hK : K ≤ 100) (b : Int) (v : List Int) (hv : v.length = 32) (hvb : Bytes v) (raw keep : Value) (o : Sup) (odd : Bool) :
    Calls Tryd.prog 30 #[.pointer (some ⟨g, 0, none⟩), .agg (ocells 3 b v raw keep o odd).toArray] w fun e0 w' => e0 = .returned (.bool true) ∧ St w' B g p r n s (K + 1) ∧ Below B w w' := by
  obtain ⟨i41, hi41, hz410, hz411, hz412⟩ := info_parts V.info41
  obtain ⟨R, d, ws, m, hD, hl, hm, hB⟩ := h
  have HV : Hid (v.length = 32 ∧ Bytes v) := ⟨hv, hvb⟩
  obtain ⟨w0, hw0⟩ : ∃ x, x = w.alloc (.cells (ocells 3 b v raw keep o odd).toArray 73) := ⟨_, rfl⟩
  have ew := hw0.symm
  have sz0 : w0.heap.size = w.heap.size + 1 := by rw [hw0]; simp
  have b0 : Below w.heap.size w w0 := by rw [hw0]; exact below_alloc w _
  have O0 : OAt w0 w.heap.size 3 b v raw keep o odd := by rw [hw0]; exact LAt.new 73 w _
  obtain ⟨vt, vw, tl, wl, hk0, -⟩ := (hD.later b0).desk
  have L0 : Hid (_) := KAt.load39 hk0
  have A0 : Hid (_) := alloc23 w0
  have S0 : Hid (_) := store_newC w0 s
  obtain ⟨w1, hw1⟩ : ∃ x, x = w0.alloc (.cells (ccells s).toArray 39) := ⟨_, rfl⟩
  have b1 : Below w.heap.size w w1 := by rw [hw1]; exact below_then b0 (below_alloc _ _)
  have C1 : CAt w1 (w.heap.size + 1) s := by rw [hw1, ← sz0]; exact LAt.new 39 w0 _
  have O1 : OAt w1 w.heap.size 3 b v raw keep o odd := by rw [hw1]; exact LAt.later O0 (below_alloc _ _)
  have K1 : KAt w1 g p r s vt vw := by rw [hw1]; exact LAt.later hk0 (below_alloc _ _)
  have c41 := OAt.odd O1 hv
  rw [← hw1] at S0
  rw [sz0] at A0 S0
  have HF : Hid (Off R g w.heap.size (w.heap.size + 1)) := ⟨hD.rg, hD.hi _ (Nat.le_refl _), hD.hi _ (Nat.le_succ _)⟩
  have HBB : Hid (B ≤ w.heap.size) := hB
  clear hw0 hw1 O0 hk0
  cases odd
  · have HD : Hid (Dk w1 R B g p r n s d ws d ws m) := hD.later b1
    have HS : Hid (See w1 g p r s vt vw w.heap.size (ocells 3 b v raw keep o false) (w.heap.size + 1) s) := ⟨K1, O1, C1⟩
    have HB : Hid (Below w.heap.size w w1) := b1
    have kd := OAt.kind O1
    clear hD b0 b1 O1 C1 K1 hv hvb hB
    go_enter Tryd.func30, Tryd.ntmps30
    go_wp2_with ((with_reducible refine at_ops ?_); (first | (refine wpList_load_is (by rfl) 39 rfl rfl L0.out ?_) | (refine wpList_alloc_is (by rfl) 39 rfl A0.out ?_) | (refine wpList_store_is (by rfl) 39 rfl rfl rfl S0.out ?_)); simp only [Act.put, List.setIfInBounds_toArray, List.set_cons_zero, List.set_cons_succ])
    clear c41 kd L0 A0 S0 ew sz0
    obtain ⟨X, hX⟩ : ∃ X, X = alS s n ws d := ⟨_, rfl⟩
    obtain ⟨L, hL⟩ : ∃ L, L = X.1.length := ⟨_, rfl⟩
    have HX : Hid (X = alS s n ws d) := hX
    have HXL : Hid (L = X.1.length ∧ ∀ l ∈ X.1, l.length = 32) := ⟨hL, by rw [hX]; exact alS_each _ _ _ _⟩
    have hL64 : L ≤ 64 := by rw [hL, hX]; exact alS_length _ _ _ _
    have H0 : Hid (LS w w1 R B g p r n s s d ws m) := ⟨HD.out, HS.out.cfg, HF.out.2.2, HB.out.mono HBB.out, Nat.le_trans HBB.out HB.out.size⟩
    clear HD HS HF HB hX hL vt vw tl wl
    go_loopw [10] (fun i wr => ∃ k : Nat, k ≤ 2 ∧ i = .int .i64 k ∧ Hid (∃ R m', m' ≤ m + k ∧ LS w wr R B g p r n s s d ws m')) (fun i _ => 2 - (intOf i).toNat)
    case atStart => exact ⟨0, by omega, rfl, R, m, by omega, H0.out⟩
    case round =>
      obtain ⟨k, hk2, rfl, HL⟩ := hrel
      clear H0
      obtain ⟨Rr, mr, hmr, hL⟩ := HL.out
      have HLS : Hid (LS w wr Rr B g p r n s s d ws mr) := hL
      clear HL hL
      by_cases hlt : k < 2
      · have i1 : (k : Int) < 2 := by omega
        obtain ⟨vt, vw, tl, wl, hk0, ht0⟩ := HLS.out.dk.desk
        obtain ⟨pt, ct, rfl, _⟩ := own_slice ht0.told
        obtain ⟨pw, cw, rfl, _⟩ := own_slice ht0.want
        have HK : Hid (KAt wr g p r s (.slice pt mr ct) (.slice pw mr cw)) := hk0
        have HT : Hid (TD wr Rr mr (.slice pt mr ct) (.slice pw mr cw) tl wl) := ht0
        clear hk0 ht0
        go_wp2_with fail
        refine wp_region_noPanic ?_
        refine wp_region_held_drew (S := (fun w' => KAt w' g p r s (.slice pt mr ct) (.slice pw mr cw) ∧ CAt w' (w.heap.size + 1) s)) (by kernel_rfl) ⟨HK.out.drew, HLS.out.cfg.drew⟩ (fun hHeld => ?_)
        have Ba : Hid (Below wr.heap.size wr wr.drew) := below_drawn 1
        generalize wr.drew = wa at *
        refine wpAnyH_take (i := 0) (v := ?va1) (by simp; rfl) (by kernel_rfl) (by kernel_rfl) (by kernel_rfl) (fun _ _ _ h => h) (Or.inl ⟨by rfl, ?ya1⟩) hHeld ?ra1
        case ya1 => intro w hSw; clear hSw; go_simp; with_reducible rfl
        simp only [Act.put, List.setIfInBounds_toArray, List.set_cons_zero, List.set_cons_succ]
        refine wpAnyH_take (i := 1) (v := ?va2) (by simp; rfl) (by kernel_rfl) (by kernel_rfl) (by kernel_rfl) (fun _ _ _ h => h) (Or.inl ⟨by rfl, ?ya2⟩) hHeld ?ra2
        case ya2 => intro w hSw; clear hSw; go_simp; with_reducible rfl
        simp only [Act.put, List.setIfInBounds_toArray, List.set_cons_zero, List.set_cons_succ]
        refine wpAnyH_take (i := 2) (v := ?va3) (by simp; rfl) (by kernel_rfl) (by kernel_rfl) (by kernel_rfl) (fun _ _ _ h => h) (Or.inl ⟨by rfl, ?ya3⟩) hHeld ?ra3
        case ya3 => intro w hSw; clear hSw; go_simp; with_reducible rfl
        simp only [Act.put, List.setIfInBounds_toArray, List.set_cons_zero, List.set_cons_succ]
        refine wpAnyH_take (i := 3) (v := ?va4) (by simp; rfl) (by kernel_rfl) (by kernel_rfl) (by kernel_rfl) (fun _ _ _ h => h) (Or.inl ⟨by rfl, ?ya4⟩) hHeld ?ra4
        case ya4 => intro w hSw; have z := KAt.c0 hSw.1; clear hSw; go_simp; with_reducible rfl
        simp only [Act.put, List.setIfInBounds_toArray, List.set_cons_zero, List.set_cons_succ]
        refine wpAnyH_take (i := 4) (v := _) (by simp; rfl) (by kernel_rfl) (by kernel_rfl) (by kernel_rfl) (fun _ _ _ h => h) (yieldsIf_load_mid (by rfl) 39 (.tmp 5) rfl (w.heap.size + 1) 0 rfl (ccells s) _ (fun _ h => LAt.range h.2) Tryd.underlying39 rfl (by rw [size23, ccells_len])) hHeld ?_
        simp only [Act.put, List.setIfInBounds_toArray, List.set_cons_zero, List.set_cons_succ]
        refine wpAnyH_ready (rs := [5]) (by kernel_rfl) (by simp) ?_
        refine AllReadyH.cons (by simp; rfl) (fun Kc hKc => ?_) AllReadyH.nil
        go_simp
        refine (hall_any s (HLS.out.dk.later Ba.out).dsk (HLS.out.dk.later Ba.out).tab).mono ?_
        rintro e we ⟨qa, ca, rfl, oa, be⟩
        rw [← HX.out] at oa ⊢
        rw [← HXL.out.1] at oa ⊢
        have Be : Hid (Below wr.heap.size wr we) := below_then Ba.out be
        have OA : Hid (we.ownsRow wr.heap.size 23 32 (.slice qa L ca) L (VC X.1)) := own_mono oa Ba.out.size
        clear oa be Ba hHeld
        refine hKc.out _ _ ⟨LAt.later HK.out Be.out, LAt.later HLS.out.cfg Be.out⟩ (fun hHeld => ?_)
        clear hKc Kc
        refine wpAnyH_take (i := 6) (v := ?va5) (by simp; rfl) (by kernel_rfl) (by kernel_rfl) (by kernel_rfl) (fun _ _ _ h => h) (Or.inl ⟨by rfl, ?ya5⟩) hHeld ?ra5
        case ya5 => intro w hSw; clear hSw; go_simp; with_reducible rfl
        simp only [Act.put, List.setIfInBounds_toArray, List.set_cons_zero, List.set_cons_succ]
        refine wpAnyH_take (i := 7) (v := ?va6) (by simp; rfl) (by kernel_rfl) (by kernel_rfl) (by kernel_rfl) (fun _ _ _ h => h) (Or.inl ⟨by rfl, ?ya6⟩) hHeld ?ra6
        case ya6 => intro w hSw; clear hSw; go_simp; with_reducible rfl
        simp only [Act.put, List.setIfInBounds_toArray, List.set_cons_zero, List.set_cons_succ]
        refine wpAnyH_take (i := 8) (v := ?va7) (by simp; rfl) (by kernel_rfl) (by kernel_rfl) (by kernel_rfl) (fun _ _ _ h => h) (Or.inl ⟨by rfl, ?ya7⟩) hHeld ?ra7
        case ya7 => intro w hSw; clear hSw; go_simp; with_reducible rfl
        simp only [Act.put, List.setIfInBounds_toArray, List.set_cons_zero, List.set_cons_succ]
        refine wpAnyH_take (i := 9) (v := ?va8) (by simp; rfl) (by kernel_rfl) (by kernel_rfl) (by kernel_rfl) (fun _ _ _ h => h) (Or.inl ⟨by rfl, ?ya8⟩) hHeld ?ra8
        case ya8 => intro w hSw; clear hSw; go_simp; with_reducible rfl
        simp only [Act.put, List.setIfInBounds_toArray, List.set_cons_zero, List.set_cons_succ]
        refine wpAnyH_take (i := 10) (v := ?va9) (by simp; rfl) (by kernel_rfl) (by kernel_rfl) (by kernel_rfl) (fun _ _ _ h => h) (Or.inl ⟨by rfl, ?ya9⟩) hHeld ?ra9
        case ya9 => intro w hSw; clear hSw; go_simp; with_reducible rfl
        simp only [Act.put, List.setIfInBounds_toArray, List.set_cons_zero, List.set_cons_succ]
        clear hHeld
        refine wpAnyH_done (by kernel_rfl) (NoPanic.normal ?_) _
        go_wp2_with fail
        refine wp_region_noPanic ?_
        refine wp_region_held_drew (S := (fun w' => KAt w' g p r s (.slice pt mr ct) (.slice pw mr cw) ∧ CAt w' (w.heap.size + 1) s)) (by kernel_rfl) ⟨(LAt.later HK.out Be.out).drew, (LAt.later HLS.out.cfg Be.out).drew⟩ (fun hHeld => ?_)
        have Bf : Hid (Below wr.heap.size wr we.drew) := below_then Be.out (below_drawn 1)
        have OAf : Hid (we.drew.ownsRow wr.heap.size 23 32 (.slice qa L ca) L (VC X.1)) := own_later OA.out (below_drawn 1)
        clear Be OA
        generalize we.drew = wf at *
        refine wpAnyH_take (i := 0) (v := ?va10) (by simp; rfl) (by kernel_rfl) (by kernel_rfl) (by kernel_rfl) (fun _ _ _ h => h) (Or.inl ⟨by rfl, ?ya10⟩) hHeld ?ra10
        case ya10 => intro w hSw; clear hSw; go_simp; with_reducible rfl
        simp only [Act.put, List.setIfInBounds_toArray, List.set_cons_zero, List.set_cons_succ]
        refine wpAnyH_take (i := 1) (v := ?va11) (by simp; rfl) (by kernel_rfl) (by kernel_rfl) (by kernel_rfl) (fun _ _ _ h => h) (Or.inl ⟨by rfl, ?ya11⟩) hHeld ?ra11
        case ya11 => intro w hSw; clear hSw; go_simp; with_reducible rfl
        simp only [Act.put, List.setIfInBounds_toArray, List.set_cons_zero, List.set_cons_succ]
        refine wpAnyH_take (i := 2) (v := ?va12) (by simp; rfl) (by kernel_rfl) (by kernel_rfl) (by kernel_rfl) (fun _ _ _ h => h) (Or.inl ⟨by rfl, ?ya12⟩) hHeld ?ra12
        case ya12 => intro w hSw; clear hSw; go_simp; with_reducible rfl
        simp only [Act.put, List.setIfInBounds_toArray, List.set_cons_zero, List.set_cons_succ]
        refine wpAnyH_take (i := 3) (v := ?va13) (by simp; rfl) (by kernel_rfl) (by kernel_rfl) (by kernel_rfl) (fun _ _ _ h => h) (Or.inl ⟨by rfl, ?ya13⟩) hHeld ?ra13
        case ya13 => intro w hSw; have z := KAt.c1 hSw.1; clear hSw; go_simp; with_reducible rfl
        simp only [Act.put, List.setIfInBounds_toArray, List.set_cons_zero, List.set_cons_succ]
        refine wpAnyH_take (i := 4) (v := _) (by simp; rfl) (by kernel_rfl) (by kernel_rfl) (by kernel_rfl) (fun _ _ _ h => h) (yieldsIf_load_mid (by rfl) 39 (.tmp 5) rfl (w.heap.size + 1) 0 rfl (ccells s) _ (fun _ h => LAt.range h.2) Tryd.underlying39 rfl (by rw [size23, ccells_len])) hHeld ?_
        simp only [Act.put, List.setIfInBounds_toArray, List.set_cons_zero, List.set_cons_succ]
        refine wpAnyH_ready (rs := [5]) (by kernel_rfl) (by simp) ?_
        refine AllReadyH.cons (by simp; rfl) (fun Kc hKc => ?_) AllReadyH.nil
        go_simp
        refine (rall_any s (HLS.out.dk.later Bf.out).ref (by omega)).mono ?_
        rintro e wg ⟨qb, cb, rfl, ob, bg⟩
        rw [← HX.out] at ob ⊢
        rw [← HXL.out.1] at ob ⊢
        have Bg : Hid (Below wr.heap.size wr wg) := below_then Bf.out bg
        have OB : Hid (wg.ownsRow wf.heap.size 23 32 (.slice qb L cb) L (VC X.1)) := ob
        have OA2 : Hid (wg.ownsRow wr.heap.size 23 32 (.slice qa L ca) L (VC X.1)) := own_later OAf.out bg
        have HUV : Hid ((∀ k, Value.ownBlock (.slice qa L ca) = some k → wr.heap.size ≤ k) ∧ (∀ k, Value.ownBlock (.slice qb L cb) = some k → wr.heap.size ≤ k) ∧ (∀ k, Value.ownBlock (.slice qa L ca) = some k → Value.ownBlock (.slice qb L cb) = some k → False)) := by
          have h1 : ∀ k, Value.ownBlock (.slice qb L cb) = some k → wf.heap.size ≤ k := fun k hk => own_ge ob hk
          exact ⟨fun k hk => own_ge OAf.out hk, fun k hk => Nat.le_trans Bf.out.size (h1 k hk), fun k hk hk2 => by have := own_lt OAf.out hk; have := h1 k hk2; omega⟩
        clear ob bg Bf OAf hHeld
        refine hKc.out _ _ ⟨LAt.later HK.out Bg.out, LAt.later HLS.out.cfg Bg.out⟩ (fun hHeld => ?_)
        clear hKc Kc
        refine wpAnyH_take (i := 6) (v := ?va14) (by simp; rfl) (by kernel_rfl) (by kernel_rfl) (by kernel_rfl) (fun _ _ _ h => h) (Or.inl ⟨by rfl, ?ya14⟩) hHeld ?ra14
        case ya14 => intro w hSw; clear hSw; go_simp; with_reducible rfl
        simp only [Act.put, List.setIfInBounds_toArray, List.set_cons_zero, List.set_cons_succ]
        refine wpAnyH_take (i := 7) (v := ?va15) (by simp; rfl) (by kernel_rfl) (by kernel_rfl) (by kernel_rfl) (fun _ _ _ h => h) (Or.inl ⟨by rfl, ?ya15⟩) hHeld ?ra15
        case ya15 => intro w hSw; clear hSw; go_simp; with_reducible rfl
        simp only [Act.put, List.setIfInBounds_toArray, List.set_cons_zero, List.set_cons_succ]
        refine wpAnyH_take (i := 8) (v := ?va16) (by simp; rfl) (by kernel_rfl) (by kernel_rfl) (by kernel_rfl) (fun _ _ _ h => h) (Or.inl ⟨by rfl, ?ya16⟩) hHeld ?ra16
        case ya16 => intro w hSw; clear hSw; go_simp; with_reducible rfl
        simp only [Act.put, List.setIfInBounds_toArray, List.set_cons_zero, List.set_cons_succ]
        refine wpAnyH_take (i := 9) (v := ?va17) (by simp; rfl) (by kernel_rfl) (by kernel_rfl) (by kernel_rfl) (fun _ _ _ h => h) (Or.inl ⟨by rfl, ?ya17⟩) hHeld ?ra17
        case ya17 => intro w hSw; clear hSw; go_simp; with_reducible rfl
        simp only [Act.put, List.setIfInBounds_toArray, List.set_cons_zero, List.set_cons_succ]
        refine wpAnyH_take (i := 10) (v := ?va18) (by simp; rfl) (by kernel_rfl) (by kernel_rfl) (by kernel_rfl) (fun _ _ _ h => h) (Or.inl ⟨by rfl, ?ya18⟩) hHeld ?ra18
        case ya18 => intro w hSw; clear hSw; go_simp; with_reducible rfl
        simp only [Act.put, List.setIfInBounds_toArray, List.set_cons_zero, List.set_cons_succ]
        clear hHeld
        refine wpAnyH_done (by kernel_rfl) (NoPanic.normal ?_) _
        go_wp2_with fail
        refine (same_vals qa qb L L ca cb X.1 X.1 wg (VIn.of_own OA2.out HXL.out.2 HXL.out.1.symm) (VIn.of_own OB.out HXL.out.2 HXL.out.1.symm) (by omega)).mono ?_
        rintro e wh ⟨rfl, bh⟩
        rw [decide_eq_true rfl]
        have Bh : Hid (Below wr.heap.size wr wh) := below_then Bg.out bh
        have HPh : Hid (wh.ownsRow 0 23 32 (.slice qa L ca) L (VC X.1) ∧ wh.ownsRow 0 23 32 (.slice qb L cb) L (VC X.1)) := ⟨own_mono (own_later OA2.out bh) (Nat.zero_le _), own_mono (own_later OB.out bh) (Nat.zero_le _)⟩
        have hee : (X.2 != X.2) = false := by simp
        clear bh Bg OA2 OB
        go_wp2_with fail
        clear hee
        refine wp_region_noPanic ?_
        refine wp_region_last 21 (fun w' => w'.cell? ⟨g, 8, none⟩ = some (.slice pw mr cw)) (by kernel_rfl) ?_
        have HBb : Hid (Below wr.heap.size wr wh.drew) := below_then Bh.out (below_drawn 1)
        have HPb : Hid (∃ (q : Option Addr) (n c : Nat) (q2 : Option Addr) (c2 : Nat) (vs : List (List Int)), Value.slice qa L ca = .slice q n c ∧ Value.slice qb L cb = .slice q2 n c2 ∧ n ≤ 64 ∧ vs.length = n ∧ (∀ l ∈ vs, l.length = 32) ∧ wh.drew.ownsRow 0 23 32 (.slice q n c) n (VC vs) ∧ wh.drew.ownsRow 0 23 32 (.slice q2 n c2) n (VC vs)) := ⟨qa, L, ca, qb, cb, X.1, rfl, rfl, hL64, HXL.out.1.symm, HXL.out.2, own_later HPh.out.1 (below_drawn 1), own_later HPh.out.2 (below_drawn 1)⟩
        clear Bh HPh
        generalize wh.drew = wb at *
        have HKb : Hid (KAt wb g p r s (.slice pt mr ct) (.slice pw mr cw)) := LAt.later HK.out HBb.out
        have HTb : Hid (TD wb Rr mr (.slice pt mr ct) (.slice pw mr cw) tl wl) := HT.out.move (fun _ _ => rfl) (fun k hk _ => HBb.out.block k hk)
        have HNG : Hid (¬ Value.ownBlock (.slice pt mr ct) = some g ∧ ¬ Value.ownBlock (.slice pw mr cw) = some g ∧ ∀ k, Value.ownBlock (.slice pt mr ct) = some k → Value.ownBlock (.slice pw mr cw) = some k → False) := by
          have rg := HLS.out.dk.rg
          exact ⟨fun c => by have := HTb.out.rt g c; omega, fun c => by have := HTb.out.rw g c; omega, fun k c1 c2 => by have := HTb.out.rt k c1; have := HTb.out.rw k c2; omega⟩
        have HAwb : Hid (Below wb.heap.size wb wb) := Below.refl _ _
        have hHeld := KAt.c8 HKb.out
        clear HK HT
        generalize X.2 = x2 at *
        refine wpAnyL_take (i := 0) (v := ?va19) (by simp; rfl) (by kernel_rfl) (by kernel_rfl) (by kernel_rfl) (by kernel_rfl) (fun _ _ _ h => h) (Or.inl ⟨by rfl, ?ya19⟩) hHeld ?ra19
        case ya19 => intro w hSw; clear hSw; go_simp; with_reducible rfl
        simp only [Act.put, List.setIfInBounds_toArray, List.set_cons_zero, List.set_cons_succ]
        refine wpAnyL_take (i := 1) (v := ?va20) (by simp; rfl) (by kernel_rfl) (by kernel_rfl) (by kernel_rfl) (by kernel_rfl) (fun _ _ _ h => h) (Or.inl ⟨by rfl, ?ya20⟩) hHeld ?ra20
        case ya20 => intro w hSw; clear hSw; go_simp; with_reducible rfl
        simp only [Act.put, List.setIfInBounds_toArray, List.set_cons_zero, List.set_cons_succ]
        refine wpAnyL_take (i := 2) (v := ?va21) (by simp; rfl) (by kernel_rfl) (by kernel_rfl) (by kernel_rfl) (by kernel_rfl) (fun _ _ _ h => h) (Or.inl ⟨by rfl, ?ya21⟩) hHeld ?ra21
        case ya21 => intro w hSw; clear hSw; go_simp; with_reducible rfl
        simp only [Act.put, List.setIfInBounds_toArray, List.set_cons_zero, List.set_cons_succ]
        refine wpAnyL_take (i := 3) (v := ?va22) (by simp; rfl) (by kernel_rfl) (by kernel_rfl) (by kernel_rfl) (by kernel_rfl) (fun _ _ _ h => h) (Or.inl ⟨by rfl, ?ya22⟩) hHeld ?ra22
        case ya22 => intro w hSw; clear hSw; go_simp; with_reducible rfl
        simp only [Act.put, List.setIfInBounds_toArray, List.set_cons_zero, List.set_cons_succ]
        refine wpAnyL_take (i := 4) (v := ?va23) (by simp; rfl) (by kernel_rfl) (by kernel_rfl) (by kernel_rfl) (by kernel_rfl) (fun _ _ _ h => h) (Or.inl ⟨by rfl, ?ya23⟩) hHeld ?ra23
        case ya23 => intro w hSw; clear hSw; go_simp; with_reducible rfl
        simp only [Act.put, List.setIfInBounds_toArray, List.set_cons_zero, List.set_cons_succ]
        refine wpAnyL_take (i := 6) (v := ?va24) (by simp; rfl) (by kernel_rfl) (by kernel_rfl) (by kernel_rfl) (by kernel_rfl) (fun _ _ _ h => h) (Or.inl ⟨by rfl, ?ya24⟩) hHeld ?ra24
        case ya24 => intro w hSw; clear hSw; go_simp; with_reducible rfl
        simp only [Act.put, List.setIfInBounds_toArray, List.set_cons_zero, List.set_cons_succ]
        refine wpAnyL_take (i := 9) (v := ?va25) (by simp; rfl) (by kernel_rfl) (by kernel_rfl) (by kernel_rfl) (by kernel_rfl) (fun _ _ _ h => h) (Or.inl ⟨by rfl, ?ya25⟩) hHeld ?ra25
        case ya25 => intro w hSw; clear hSw; go_simp; with_reducible rfl
        simp only [Act.put, List.setIfInBounds_toArray, List.set_cons_zero, List.set_cons_succ]
        refine wpAnyL_take (i := 10) (v := ?va26) (by simp; rfl) (by kernel_rfl) (by kernel_rfl) (by kernel_rfl) (by kernel_rfl) (fun _ _ _ h => h) (Or.inl ⟨by rfl, ?ya26⟩) hHeld ?ra26
        case ya26 => intro w hSw; clear hSw; go_simp; with_reducible rfl
        simp only [Act.put, List.setIfInBounds_toArray, List.set_cons_zero, List.set_cons_succ]
        refine wpAnyL_take (i := 11) (v := ?va27) (by simp; rfl) (by kernel_rfl) (by kernel_rfl) (by kernel_rfl) (by kernel_rfl) (fun _ _ _ h => h) (Or.inl ⟨by rfl, ?ya27⟩) hHeld ?ra27
        case ya27 => intro w hSw; clear hSw; go_simp; with_reducible rfl
        simp only [Act.put, List.setIfInBounds_toArray, List.set_cons_zero, List.set_cons_succ]
        refine wpAnyL_take (i := 12) (v := ?va28) (by simp; rfl) (by kernel_rfl) (by kernel_rfl) (by kernel_rfl) (by kernel_rfl) (fun _ _ _ h => h) (Or.inl ⟨by rfl, ?ya28⟩) hHeld ?ra28
        case ya28 => intro w hSw; go_simp; with_reducible rfl
        simp only [Act.put, List.setIfInBounds_toArray, List.set_cons_zero, List.set_cons_succ]
        refine wpAnyL_take (i := 13) (v := ?va29) (by simp; rfl) (by kernel_rfl) (by kernel_rfl) (by kernel_rfl) (by kernel_rfl) (fun _ _ _ h => h) (Or.inl ⟨by rfl, ?ya29⟩) hHeld ?ra29
        case ya29 => intro w hSw; clear hSw; go_simp; with_reducible rfl
        simp only [Act.put, List.setIfInBounds_toArray, List.set_cons_zero, List.set_cons_succ]
        refine wpAnyL_ready (rs := [5, 7, 14]) (by kernel_rfl) (by simp) ?_
        refine AllReadyL.cons (by simp; rfl) (fun Kc hKc => ?_) (AllReadyL.cons (by simp; rfl) (fun Kc hKc => ?_) (AllReadyL.cons (by simp; rfl) (fun Kc hKc => ?_) AllReadyL.nil))
        · have z7 := KAt.c7 (LAt.later HKb.out HAwb.out)
          go_simp
          refine hKc.out _ _ (fun _ => hHeld) ?_
          clear hKc Kc z7
          refine wpAnyL_ready (rs := [7, 14]) (by kernel_rfl) (by simp) ?_
          refine AllReadyL.cons (by simp; rfl) (fun Kc hKc => ?_) (AllReadyL.cons (by simp; rfl) (fun Kc hKc => ?_) AllReadyL.nil)
          · go_simp
            have HAv1 : Hid (Below wb.heap.size wb (wb.alloc (.cells #[.slice qa L ca] 41))) := below_then HAwb.out (below_alloc _ _)
            have hH : (wb.alloc (.cells #[.slice qa L ca] 41)).cell? ⟨g, 8, none⟩ = some (.slice pw mr cw) := KAt.c8 (LAt.later HKb.out HAv1.out)
            have HN7v1 : Hid (LAt 41 (wb.alloc (.cells #[.slice qa L ca] 41)) wb.heap.size [.slice qa L ca]) := LAt.new 41 _ _
            have HZ7 : Hid (wb.heap.size ≤ wb.heap.size) := HAwb.out.size
            refine hKc.out _ (wb.alloc (.cells #[.slice qa L ca] 41)) (fun _ => hH) ?_
            clear HAwb
            clear hKc Kc hHeld
            have hHeld := hH
            clear hH
            generalize wb.alloc (.cells #[.slice qa L ca] 41) = v1 at *
            refine wpAnyL_ready (rs := [8, 14]) (by kernel_rfl) (by simp) ?_
            refine AllReadyL.cons (by simp; rfl) (fun Kc hKc => ?_) (AllReadyL.cons (by simp; rfl) (fun Kc hKc => ?_) AllReadyL.nil)
            · refine step_append_lies _ rfl (.tmp 123) (.tmp 125) 67 rfl 0 41 i41 (.slice none 0 0) 1 24 Tryd.underlying67 hi41 hz410 hz411 hz412 rfl (by omega) _ mr tl rfl (own_later HTb.out.told HAv1.out) ⟨wb.heap.size, 0, none⟩ 1 1 [.slice qa L ca] rfl rfl (news_of HN7v1.out) (one_sl _ _ _) (by omega) (by unfold maxLen; omega) (by omega) (Nat.zero_le _) _ rfl ?_
              intro g1 c1 v2 hown hgrow hat hlt
              have HTv2 : Hid (TB wb v2 mr (.slice pt mr ct) tl (.slice qa L ca) g1 c1) := TB.of HAv1.out hown hgrow hat
              have hH : v2.cell? ⟨g, 8, none⟩ = some (.slice pw mr cw) := KAt.c8 ((HTv2.out.kept.block g (LAt.lt HKb.out) HNG.out.1).trans HKb.out)
              refine hKc.out _ _ (fun _ => hH) ?_
              clear hown hgrow hat hlt HAv1 HN7v1 HZ7
              clear hKc Kc hHeld
              have hHeld := hH
              clear hH
              refine wpAnyL_ready (rs := [14]) (by kernel_rfl) (by simp) ?_
              refine AllReadyL.cons (by simp; rfl) (fun Kc hKc => ?_) AllReadyL.nil
              go_simp
              have HTv3 : Hid (TB wb (v2.alloc (.cells #[.slice qb L cb] 41)) mr (.slice pt mr ct) tl (.slice qa L ca) g1 c1) := HTv2.out.alloc _
              have hH : (v2.alloc (.cells #[.slice qb L cb] 41)).cell? ⟨g, 8, none⟩ = some (.slice pw mr cw) := KAt.c8 ((HTv3.out.kept.block g (LAt.lt HKb.out) HNG.out.1).trans HKb.out)
              have HN14v3 : Hid (LAt 41 (v2.alloc (.cells #[.slice qb L cb] 41)) v2.heap.size [.slice qb L cb]) := LAt.new 41 _ _
              have HZ14 : Hid (wb.heap.size ≤ v2.heap.size) := HTv2.out.kept.size
              refine hKc.out _ (v2.alloc (.cells #[.slice qb L cb] 41)) (fun _ => hH) ?_
              clear HTv2
              clear hKc Kc hHeld
              have hHeld := hH
              clear hH
              generalize v2.alloc (.cells #[.slice qb L cb] 41) = v3 at *
              refine wpAnyL_ready (rs := [15]) (by kernel_rfl) (by simp) ?_
              refine AllReadyL.cons (by simp; rfl) (fun Kc hKc => ?_) AllReadyL.nil
              refine step_append_lies _ rfl (.tmp 130) (.tmp 132) 67 rfl 0 41 i41 (.slice none 0 0) 1 24 Tryd.underlying67 hi41 hz410 hz411 hz412 rfl (by omega) _ mr wl rfl (own_same HTb.out.want (fun k hk => HTv3.out.kept.block k (own_lt HTb.out.want hk) (fun c => HNG.out.2.2 k c hk))) ⟨v2.heap.size, 0, none⟩ 1 1 [.slice qb L cb] rfl rfl (news_of HN14v3.out) (one_sl _ _ _) (by omega) (by unfold maxLen; omega) (by omega) (Nat.zero_le _) _ rfl ?_
              intro g2 c2 v4 hown hgrow hat hlt
              have HCv4 : Hid (TC wb v4 mr (.slice pt mr ct) (.slice pw mr cw) tl wl (.slice qa L ca) (.slice qb L cb) g1 c1 g2 c2) := TC.of HTv3.out hown hgrow hat HNG.out.2.2 (fun k hk => own_lt HTb.out.want hk)
              have Kw : KAt v4 g p r s (.slice pt mr ct) (.slice pw mr cw) := (HCv4.out.kept.block g (LAt.lt HKb.out) (fun c => c.elim HNG.out.1 HNG.out.2.1)).trans HKb.out
              have hH : v4.cell? ⟨g, 8, none⟩ = some (.slice pw mr cw) := KAt.c8 Kw
              refine hKc.out _ _ (fun _ => hH) ?_
              clear hown hgrow hat hlt HTv3 HN14v3 HZ14
              clear hKc Kc hHeld
              have hHeld := hH
              clear hH
              refine wpAnyL_take (i := 16) (v := ?va30) (by simp; rfl) (by kernel_rfl) (by kernel_rfl) (by kernel_rfl) (by kernel_rfl) (fun _ _ _ h => h) (Or.inl ⟨by rfl, ?ya30⟩) hHeld ?ra30
              case ya30 => intro w hSw; clear hSw; go_simp; with_reducible rfl
              simp only [Act.put, List.setIfInBounds_toArray, List.set_cons_zero, List.set_cons_succ]
              refine wpAnyL_take (i := 17) (v := ?va31) (by simp; rfl) (by kernel_rfl) (by kernel_rfl) (by kernel_rfl) (by kernel_rfl) (fun _ _ _ h => h) (Or.inl ⟨by rfl, ?ya31⟩) hHeld ?ra31
              case ya31 => intro w hSw; clear hSw; go_simp; with_reducible rfl
              simp only [Act.put, List.setIfInBounds_toArray, List.set_cons_zero, List.set_cons_succ]
              refine wpAnyL_ready (rs := [18]) (by kernel_rfl) (by simp) ?_
              refine AllReadyL.cons (by simp; rfl) (fun Kc hKc => ?_) AllReadyL.nil
              have f7 := frozen_of_row v4 g 7 _ 69 Kw
              have c7 := KAt.c7 Kw
              go_simp
              have Kx : KAt (v4.setCell ⟨g, 7, none⟩ (.slice (some ⟨g1, 0, none⟩) (mr + 1) c1)) g p r s (.slice (some ⟨g1, 0, none⟩) (mr + 1) c1) (.slice pw mr cw) := LAt.set Kw 7 _
              have hH := KAt.c8 Kx
              refine hKc.out _ (v4.setCell ⟨g, 7, none⟩ (.slice (some ⟨g1, 0, none⟩) (mr + 1) c1)) (fun _ => hH) ?_
              clear f7 c7 Kw
              clear hKc Kc hHeld
              have hHeld := hH
              clear hH
              refine wpAnyL_ready (rs := [19]) (by kernel_rfl) (by simp) ?_
              refine AllReadyL.cons (by simp; rfl) (fun Kc hKc => ?_) AllReadyL.nil
              go_simp
              refine hKc.out _ _ (fun _ => hHeld) ?_
              clear hKc Kc
              refine wpAnyL_take (i := 20) (v := ?va32) (by simp; rfl) (by kernel_rfl) (by kernel_rfl) (by kernel_rfl) (by kernel_rfl) (fun _ _ _ h => h) (Or.inl ⟨by rfl, ?ya32⟩) hHeld ?ra32
              case ya32 => intro w hSw; clear hSw; go_simp; with_reducible rfl
              simp only [Act.put, List.setIfInBounds_toArray, List.set_cons_zero, List.set_cons_succ]
              refine wpAnyL_ready (rs := [21]) (by kernel_rfl) (by simp) ?_
              refine AllReadyL.cons (by simp; rfl) (fun Kc hKc => ?_) AllReadyL.nil
              have f8 := frozen_of_row (v4.setCell ⟨g, 7, none⟩ (.slice (some ⟨g1, 0, none⟩) (mr + 1) c1)) g 8 _ 69 Kx
              have c8 := KAt.c8 Kx
              go_simp
              have HN : Hid (∃ R', LS w ((v4.setCell ⟨g, 7, none⟩ (.slice (some ⟨g1, 0, none⟩) (mr + 1) c1)).setCell ⟨g, 8, none⟩ (.slice (some ⟨g2, 0, none⟩) (mr + 1) c2)) R' B g p r n s s d ws (mr + 1)) := HLS.out.tell HBb.out HKb.out HTb.out HCv4.out HPb.out HUV.out.1 HUV.out.2.1 HUV.out.2.2
              refine hKc.out _ ((v4.setCell ⟨g, 7, none⟩ (.slice (some ⟨g1, 0, none⟩) (mr + 1) c1)).setCell ⟨g, 8, none⟩ (.slice (some ⟨g2, 0, none⟩) (mr + 1) c2)) (fun h => absurd rfl h) ?_
              clear hKc Kc hHeld f8 c8 Kx HCv4
              generalize (v4.setCell ⟨g, 7, none⟩ (.slice (some ⟨g1, 0, none⟩) (mr + 1) c1)).setCell ⟨g, 8, none⟩ (.slice (some ⟨g2, 0, none⟩) (mr + 1) c2) = wz at *
              refine wpAnyL_done (by kernel_rfl) (NoPanic.normal ?_) _
              go_wp2_with fail
              go_roundw
              case rel => exact ⟨k + 1, by omega, by go_num, HN.out.elim fun R' hR' => ⟨R', mr + 1, by omega, hR'⟩⟩
              case measure => simp [intOf]; omega
            · go_simp
              have HAv2 : Hid (Below wb.heap.size wb (v1.alloc (.cells #[.slice qb L cb] 41))) := below_then HAv1.out (below_alloc _ _)
              have hH : (v1.alloc (.cells #[.slice qb L cb] 41)).cell? ⟨g, 8, none⟩ = some (.slice pw mr cw) := KAt.c8 (LAt.later HKb.out HAv2.out)
              have HN14v2 : Hid (LAt 41 (v1.alloc (.cells #[.slice qb L cb] 41)) v1.heap.size [.slice qb L cb]) := LAt.new 41 _ _
              have HZ14 : Hid (wb.heap.size ≤ v1.heap.size) := HAv1.out.size
              have HN7v2 : Hid (LAt 41 (v1.alloc (.cells #[.slice qb L cb] 41)) wb.heap.size [.slice qa L ca]) := LAt.later HN7v1.out (below_alloc _ _)
              refine hKc.out _ (v1.alloc (.cells #[.slice qb L cb] 41)) (fun _ => hH) ?_
              clear HAv1 HN7v1
              clear hKc Kc hHeld
              have hHeld := hH
              clear hH
              generalize v1.alloc (.cells #[.slice qb L cb] 41) = v2 at *
              refine wpAnyL_ready (rs := [8]) (by kernel_rfl) (by simp) ?_
              refine AllReadyL.cons (by simp; rfl) (fun Kc hKc => ?_) AllReadyL.nil
              refine step_append_lies _ rfl (.tmp 123) (.tmp 125) 67 rfl 0 41 i41 (.slice none 0 0) 1 24 Tryd.underlying67 hi41 hz410 hz411 hz412 rfl (by omega) _ mr tl rfl (own_later HTb.out.told HAv2.out) ⟨wb.heap.size, 0, none⟩ 1 1 [.slice qa L ca] rfl rfl (news_of HN7v2.out) (one_sl _ _ _) (by omega) (by unfold maxLen; omega) (by omega) (Nat.zero_le _) _ rfl ?_
              intro g1 c1 v3 hown hgrow hat hlt
              have HTv3 : Hid (TB wb v3 mr (.slice pt mr ct) tl (.slice qa L ca) g1 c1) := TB.of HAv2.out hown hgrow hat
              have hH : v3.cell? ⟨g, 8, none⟩ = some (.slice pw mr cw) := KAt.c8 ((HTv3.out.kept.block g (LAt.lt HKb.out) HNG.out.1).trans HKb.out)
              have HN14v3 : Hid (LAt 41 v3 v1.heap.size [.slice qb L cb]) := (hgrow.block _ (LAt.lt HN14v2.out) (fun e => by have h1 := own_lt HTb.out.told e.symm; have h2 := HZ14.out; omega)).trans HN14v2.out
              refine hKc.out _ _ (fun _ => hH) ?_
              clear hown hgrow hat hlt HAv2 HN7v2 HZ7 HN14v2
              clear hKc Kc hHeld
              have hHeld := hH
              clear hH
              refine wpAnyL_ready (rs := [15]) (by kernel_rfl) (by simp) ?_
              refine AllReadyL.cons (by simp; rfl) (fun Kc hKc => ?_) AllReadyL.nil
              refine step_append_lies _ rfl (.tmp 130) (.tmp 132) 67 rfl 0 41 i41 (.slice none 0 0) 1 24 Tryd.underlying67 hi41 hz410 hz411 hz412 rfl (by omega) _ mr wl rfl (own_same HTb.out.want (fun k hk => HTv3.out.kept.block k (own_lt HTb.out.want hk) (fun c => HNG.out.2.2 k c hk))) ⟨v1.heap.size, 0, none⟩ 1 1 [.slice qb L cb] rfl rfl (news_of HN14v3.out) (one_sl _ _ _) (by omega) (by unfold maxLen; omega) (by omega) (Nat.zero_le _) _ rfl ?_
              intro g2 c2 v4 hown hgrow hat hlt
              have HCv4 : Hid (TC wb v4 mr (.slice pt mr ct) (.slice pw mr cw) tl wl (.slice qa L ca) (.slice qb L cb) g1 c1 g2 c2) := TC.of HTv3.out hown hgrow hat HNG.out.2.2 (fun k hk => own_lt HTb.out.want hk)
              have Kw : KAt v4 g p r s (.slice pt mr ct) (.slice pw mr cw) := (HCv4.out.kept.block g (LAt.lt HKb.out) (fun c => c.elim HNG.out.1 HNG.out.2.1)).trans HKb.out
              have hH : v4.cell? ⟨g, 8, none⟩ = some (.slice pw mr cw) := KAt.c8 Kw
              refine hKc.out _ _ (fun _ => hH) ?_
              clear hown hgrow hat hlt HTv3 HN14v3 HZ14
              clear hKc Kc hHeld
              have hHeld := hH
              clear hH
              refine wpAnyL_take (i := 16) (v := ?va33) (by simp; rfl) (by kernel_rfl) (by kernel_rfl) (by kernel_rfl) (by kernel_rfl) (fun _ _ _ h => h) (Or.inl ⟨by rfl, ?ya33⟩) hHeld ?ra33
              case ya33 => intro w hSw; clear hSw; go_simp; with_reducible rfl
              simp only [Act.put, List.setIfInBounds_toArray, List.set_cons_zero, List.set_cons_succ]
              refine wpAnyL_take (i := 17) (v := ?va34) (by simp; rfl) (by kernel_rfl) (by kernel_rfl) (by kernel_rfl) (by kernel_rfl) (fun _ _ _ h => h) (Or.inl ⟨by rfl, ?ya34⟩) hHeld ?ra34
              case ya34 => intro w hSw; clear hSw; go_simp; with_reducible rfl
              simp only [Act.put, List.setIfInBounds_toArray, List.set_cons_zero, List.set_cons_succ]
              refine wpAnyL_ready (rs := [18]) (by kernel_rfl) (by simp) ?_
              refine AllReadyL.cons (by simp; rfl) (fun Kc hKc => ?_) AllReadyL.nil
              have f7 := frozen_of_row v4 g 7 _ 69 Kw
              have c7 := KAt.c7 Kw
              go_simp
              have Kx : KAt (v4.setCell ⟨g, 7, none⟩ (.slice (some ⟨g1, 0, none⟩) (mr + 1) c1)) g p r s (.slice (some ⟨g1, 0, none⟩) (mr + 1) c1) (.slice pw mr cw) := LAt.set Kw 7 _
              have hH := KAt.c8 Kx
              refine hKc.out _ (v4.setCell ⟨g, 7, none⟩ (.slice (some ⟨g1, 0, none⟩) (mr + 1) c1)) (fun _ => hH) ?_
              clear f7 c7 Kw
              clear hKc Kc hHeld
              have hHeld := hH
              clear hH
              refine wpAnyL_ready (rs := [19]) (by kernel_rfl) (by simp) ?_
              refine AllReadyL.cons (by simp; rfl) (fun Kc hKc => ?_) AllReadyL.nil
              go_simp
              refine hKc.out _ _ (fun _ => hHeld) ?_
              clear hKc Kc
              refine wpAnyL_take (i := 20) (v := ?va35) (by simp; rfl) (by kernel_rfl) (by kernel_rfl) (by kernel_rfl) (by kernel_rfl) (fun _ _ _ h => h) (Or.inl ⟨by rfl, ?ya35⟩) hHeld ?ra35
              case ya35 => intro w hSw; clear hSw; go_simp; with_reducible rfl
              simp only [Act.put, List.setIfInBounds_toArray, List.set_cons_zero, List.set_cons_succ]
              refine wpAnyL_ready (rs := [21]) (by kernel_rfl) (by simp) ?_
              refine AllReadyL.cons (by simp; rfl) (fun Kc hKc => ?_) AllReadyL.nil
              have f8 := frozen_of_row (v4.setCell ⟨g, 7, none⟩ (.slice (some ⟨g1, 0, none⟩) (mr + 1) c1)) g 8 _ 69 Kx
              have c8 := KAt.c8 Kx
              go_simp
              have HN : Hid (∃ R', LS w ((v4.setCell ⟨g, 7, none⟩ (.slice (some ⟨g1, 0, none⟩) (mr + 1) c1)).setCell ⟨g, 8, none⟩ (.slice (some ⟨g2, 0, none⟩) (mr + 1) c2)) R' B g p r n s s d ws (mr + 1)) := HLS.out.tell HBb.out HKb.out HTb.out HCv4.out HPb.out HUV.out.1 HUV.out.2.1 HUV.out.2.2
              refine hKc.out _ ((v4.setCell ⟨g, 7, none⟩ (.slice (some ⟨g1, 0, none⟩) (mr + 1) c1)).setCell ⟨g, 8, none⟩ (.slice (some ⟨g2, 0, none⟩) (mr + 1) c2)) (fun h => absurd rfl h) ?_
              clear hKc Kc hHeld f8 c8 Kx HCv4
              generalize (v4.setCell ⟨g, 7, none⟩ (.slice (some ⟨g1, 0, none⟩) (mr + 1) c1)).setCell ⟨g, 8, none⟩ (.slice (some ⟨g2, 0, none⟩) (mr + 1) c2) = wz at *
              refine wpAnyL_done (by kernel_rfl) (NoPanic.normal ?_) _
              go_wp2_with fail
              go_roundw
              case rel => exact ⟨k + 1, by omega, by go_num, HN.out.elim fun R' hR' => ⟨R', mr + 1, by omega, hR'⟩⟩
              case measure => simp [intOf]; omega
          · go_simp
            have HAv1 : Hid (Below wb.heap.size wb (wb.alloc (.cells #[.slice qb L cb] 41))) := below_then HAwb.out (below_alloc _ _)
            have hH : (wb.alloc (.cells #[.slice qb L cb] 41)).cell? ⟨g, 8, none⟩ = some (.slice pw mr cw) := KAt.c8 (LAt.later HKb.out HAv1.out)
            have HN14v1 : Hid (LAt 41 (wb.alloc (.cells #[.slice qb L cb] 41)) wb.heap.size [.slice qb L cb]) := LAt.new 41 _ _
            have HZ14 : Hid (wb.heap.size ≤ wb.heap.size) := HAwb.out.size
            refine hKc.out _ (wb.alloc (.cells #[.slice qb L cb] 41)) (fun _ => hH) ?_
            clear HAwb
            clear hKc Kc hHeld
            have hHeld := hH
            clear hH
            generalize wb.alloc (.cells #[.slice qb L cb] 41) = v1 at *
            refine wpAnyL_ready (rs := [7]) (by kernel_rfl) (by simp) ?_
            refine AllReadyL.cons (by simp; rfl) (fun Kc hKc => ?_) AllReadyL.nil
            go_simp
            have HAv2 : Hid (Below wb.heap.size wb (v1.alloc (.cells #[.slice qa L ca] 41))) := below_then HAv1.out (below_alloc _ _)
            have hH : (v1.alloc (.cells #[.slice qa L ca] 41)).cell? ⟨g, 8, none⟩ = some (.slice pw mr cw) := KAt.c8 (LAt.later HKb.out HAv2.out)
            have HN7v2 : Hid (LAt 41 (v1.alloc (.cells #[.slice qa L ca] 41)) v1.heap.size [.slice qa L ca]) := LAt.new 41 _ _
            have HZ7 : Hid (wb.heap.size ≤ v1.heap.size) := HAv1.out.size
            have HN14v2 : Hid (LAt 41 (v1.alloc (.cells #[.slice qa L ca] 41)) wb.heap.size [.slice qb L cb]) := LAt.later HN14v1.out (below_alloc _ _)
            refine hKc.out _ (v1.alloc (.cells #[.slice qa L ca] 41)) (fun _ => hH) ?_
            clear HAv1 HN14v1
            clear hKc Kc hHeld
            have hHeld := hH
            clear hH
            generalize v1.alloc (.cells #[.slice qa L ca] 41) = v2 at *
            refine wpAnyL_ready (rs := [8]) (by kernel_rfl) (by simp) ?_
            refine AllReadyL.cons (by simp; rfl) (fun Kc hKc => ?_) AllReadyL.nil
            refine step_append_lies _ rfl (.tmp 123) (.tmp 125) 67 rfl 0 41 i41 (.slice none 0 0) 1 24 Tryd.underlying67 hi41 hz410 hz411 hz412 rfl (by omega) _ mr tl rfl (own_later HTb.out.told HAv2.out) ⟨v1.heap.size, 0, none⟩ 1 1 [.slice qa L ca] rfl rfl (news_of HN7v2.out) (one_sl _ _ _) (by omega) (by unfold maxLen; omega) (by omega) (Nat.zero_le _) _ rfl ?_
            intro g1 c1 v3 hown hgrow hat hlt
            have HTv3 : Hid (TB wb v3 mr (.slice pt mr ct) tl (.slice qa L ca) g1 c1) := TB.of HAv2.out hown hgrow hat
            have hH : v3.cell? ⟨g, 8, none⟩ = some (.slice pw mr cw) := KAt.c8 ((HTv3.out.kept.block g (LAt.lt HKb.out) HNG.out.1).trans HKb.out)
            have HN14v3 : Hid (LAt 41 v3 wb.heap.size [.slice qb L cb]) := (hgrow.block _ (LAt.lt HN14v2.out) (fun e => by have h1 := own_lt HTb.out.told e.symm; have h2 := HZ14.out; omega)).trans HN14v2.out
            refine hKc.out _ _ (fun _ => hH) ?_
            clear hown hgrow hat hlt HAv2 HN7v2 HZ7 HN14v2
            clear hKc Kc hHeld
            have hHeld := hH
            clear hH
            refine wpAnyL_ready (rs := [15]) (by kernel_rfl) (by simp) ?_
            refine AllReadyL.cons (by simp; rfl) (fun Kc hKc => ?_) AllReadyL.nil
            refine step_append_lies _ rfl (.tmp 130) (.tmp 132) 67 rfl 0 41 i41 (.slice none 0 0) 1 24 Tryd.underlying67 hi41 hz410 hz411 hz412 rfl (by omega) _ mr wl rfl (own_same HTb.out.want (fun k hk => HTv3.out.kept.block k (own_lt HTb.out.want hk) (fun c => HNG.out.2.2 k c hk))) ⟨wb.heap.size, 0, none⟩ 1 1 [.slice qb L cb] rfl rfl (news_of HN14v3.out) (one_sl _ _ _) (by omega) (by unfold maxLen; omega) (by omega) (Nat.zero_le _) _ rfl ?_
            intro g2 c2 v4 hown hgrow hat hlt
            have HCv4 : Hid (TC wb v4 mr (.slice pt mr ct) (.slice pw mr cw) tl wl (.slice qa L ca) (.slice qb L cb) g1 c1 g2 c2) := TC.of HTv3.out hown hgrow hat HNG.out.2.2 (fun k hk => own_lt HTb.out.want hk)
            have Kw : KAt v4 g p r s (.slice pt mr ct) (.slice pw mr cw) := (HCv4.out.kept.block g (LAt.lt HKb.out) (fun c => c.elim HNG.out.1 HNG.out.2.1)).trans HKb.out
            have hH : v4.cell? ⟨g, 8, none⟩ = some (.slice pw mr cw) := KAt.c8 Kw
            refine hKc.out _ _ (fun _ => hH) ?_
            clear hown hgrow hat hlt HTv3 HN14v3 HZ14
            clear hKc Kc hHeld
            have hHeld := hH
            clear hH
            refine wpAnyL_take (i := 16) (v := ?va36) (by simp; rfl) (by kernel_rfl) (by kernel_rfl) (by kernel_rfl) (by kernel_rfl) (fun _ _ _ h => h) (Or.inl ⟨by rfl, ?ya36⟩) hHeld ?ra36
            case ya36 => intro w hSw; clear hSw; go_simp; with_reducible rfl
            simp only [Act.put, List.setIfInBounds_toArray, List.set_cons_zero, List.set_cons_succ]
            refine wpAnyL_take (i := 17) (v := ?va37) (by simp; rfl) (by kernel_rfl) (by kernel_rfl) (by kernel_rfl) (by kernel_rfl) (fun _ _ _ h => h) (Or.inl ⟨by rfl, ?ya37⟩) hHeld ?ra37
            case ya37 => intro w hSw; clear hSw; go_simp; with_reducible rfl
            simp only [Act.put, List.setIfInBounds_toArray, List.set_cons_zero, List.set_cons_succ]
            refine wpAnyL_ready (rs := [18]) (by kernel_rfl) (by simp) ?_
            refine AllReadyL.cons (by simp; rfl) (fun Kc hKc => ?_) AllReadyL.nil
            have f7 := frozen_of_row v4 g 7 _ 69 Kw
            have c7 := KAt.c7 Kw
            go_simp
            have Kx : KAt (v4.setCell ⟨g, 7, none⟩ (.slice (some ⟨g1, 0, none⟩) (mr + 1) c1)) g p r s (.slice (some ⟨g1, 0, none⟩) (mr + 1) c1) (.slice pw mr cw) := LAt.set Kw 7 _
            have hH := KAt.c8 Kx
            refine hKc.out _ (v4.setCell ⟨g, 7, none⟩ (.slice (some ⟨g1, 0, none⟩) (mr + 1) c1)) (fun _ => hH) ?_
            clear f7 c7 Kw
            clear hKc Kc hHeld
            have hHeld := hH
            clear hH
            refine wpAnyL_ready (rs := [19]) (by kernel_rfl) (by simp) ?_
            refine AllReadyL.cons (by simp; rfl) (fun Kc hKc => ?_) AllReadyL.nil
            go_simp
            refine hKc.out _ _ (fun _ => hHeld) ?_
            clear hKc Kc
            refine wpAnyL_take (i := 20) (v := ?va38) (by simp; rfl) (by kernel_rfl) (by kernel_rfl) (by kernel_rfl) (by kernel_rfl) (fun _ _ _ h => h) (Or.inl ⟨by rfl, ?ya38⟩) hHeld ?ra38
            case ya38 => intro w hSw; clear hSw; go_simp; with_reducible rfl
            simp only [Act.put, List.setIfInBounds_toArray, List.set_cons_zero, List.set_cons_succ]
            refine wpAnyL_ready (rs := [21]) (by kernel_rfl) (by simp) ?_
            refine AllReadyL.cons (by simp; rfl) (fun Kc hKc => ?_) AllReadyL.nil
            have f8 := frozen_of_row (v4.setCell ⟨g, 7, none⟩ (.slice (some ⟨g1, 0, none⟩) (mr + 1) c1)) g 8 _ 69 Kx
            have c8 := KAt.c8 Kx
            go_simp
            have HN : Hid (∃ R', LS w ((v4.setCell ⟨g, 7, none⟩ (.slice (some ⟨g1, 0, none⟩) (mr + 1) c1)).setCell ⟨g, 8, none⟩ (.slice (some ⟨g2, 0, none⟩) (mr + 1) c2)) R' B g p r n s s d ws (mr + 1)) := HLS.out.tell HBb.out HKb.out HTb.out HCv4.out HPb.out HUV.out.1 HUV.out.2.1 HUV.out.2.2
            refine hKc.out _ ((v4.setCell ⟨g, 7, none⟩ (.slice (some ⟨g1, 0, none⟩) (mr + 1) c1)).setCell ⟨g, 8, none⟩ (.slice (some ⟨g2, 0, none⟩) (mr + 1) c2)) (fun h => absurd rfl h) ?_
            clear hKc Kc hHeld f8 c8 Kx HCv4
            generalize (v4.setCell ⟨g, 7, none⟩ (.slice (some ⟨g1, 0, none⟩) (mr + 1) c1)).setCell ⟨g, 8, none⟩ (.slice (some ⟨g2, 0, none⟩) (mr + 1) c2) = wz at *
            refine wpAnyL_done (by kernel_rfl) (NoPanic.normal ?_) _
            go_wp2_with fail
            go_roundw
            case rel => exact ⟨k + 1, by omega, by go_num, HN.out.elim fun R' hR' => ⟨R', mr + 1, by omega, hR'⟩⟩
            case measure => simp [intOf]; omega
        · go_simp
          have HAv1 : Hid (Below wb.heap.size wb (wb.alloc (.cells #[.slice qa L ca] 41))) := below_then HAwb.out (below_alloc _ _)
          have hH : (wb.alloc (.cells #[.slice qa L ca] 41)).cell? ⟨g, 8, none⟩ = some (.slice pw mr cw) := KAt.c8 (LAt.later HKb.out HAv1.out)
          have HN7v1 : Hid (LAt 41 (wb.alloc (.cells #[.slice qa L ca] 41)) wb.heap.size [.slice qa L ca]) := LAt.new 41 _ _
          have HZ7 : Hid (wb.heap.size ≤ wb.heap.size) := HAwb.out.size
          refine hKc.out _ (wb.alloc (.cells #[.slice qa L ca] 41)) (fun _ => hH) ?_
          clear HAwb
          clear hKc Kc hHeld
          have hHeld := hH
          clear hH
          generalize wb.alloc (.cells #[.slice qa L ca] 41) = v1 at *
          refine wpAnyL_ready (rs := [5, 14]) (by kernel_rfl) (by simp) ?_
          refine AllReadyL.cons (by simp; rfl) (fun Kc hKc => ?_) (AllReadyL.cons (by simp; rfl) (fun Kc hKc => ?_) AllReadyL.nil)
          · have z7 := KAt.c7 (LAt.later HKb.out HAv1.out)
            go_simp
            refine hKc.out _ _ (fun _ => hHeld) ?_
            clear hKc Kc z7
            refine wpAnyL_ready (rs := [8, 14]) (by kernel_rfl) (by simp) ?_
            refine AllReadyL.cons (by simp; rfl) (fun Kc hKc => ?_) (AllReadyL.cons (by simp; rfl) (fun Kc hKc => ?_) AllReadyL.nil)
            · refine step_append_lies _ rfl (.tmp 123) (.tmp 125) 67 rfl 0 41 i41 (.slice none 0 0) 1 24 Tryd.underlying67 hi41 hz410 hz411 hz412 rfl (by omega) _ mr tl rfl (own_later HTb.out.told HAv1.out) ⟨wb.heap.size, 0, none⟩ 1 1 [.slice qa L ca] rfl rfl (news_of HN7v1.out) (one_sl _ _ _) (by omega) (by unfold maxLen; omega) (by omega) (Nat.zero_le _) _ rfl ?_
              intro g1 c1 v2 hown hgrow hat hlt
              have HTv2 : Hid (TB wb v2 mr (.slice pt mr ct) tl (.slice qa L ca) g1 c1) := TB.of HAv1.out hown hgrow hat
              have hH : v2.cell? ⟨g, 8, none⟩ = some (.slice pw mr cw) := KAt.c8 ((HTv2.out.kept.block g (LAt.lt HKb.out) HNG.out.1).trans HKb.out)
              refine hKc.out _ _ (fun _ => hH) ?_
              clear hown hgrow hat hlt HAv1 HN7v1 HZ7
              clear hKc Kc hHeld
              have hHeld := hH
              clear hH
              refine wpAnyL_ready (rs := [14]) (by kernel_rfl) (by simp) ?_
              refine AllReadyL.cons (by simp; rfl) (fun Kc hKc => ?_) AllReadyL.nil
              go_simp
              have HTv3 : Hid (TB wb (v2.alloc (.cells #[.slice qb L cb] 41)) mr (.slice pt mr ct) tl (.slice qa L ca) g1 c1) := HTv2.out.alloc _
              have hH : (v2.alloc (.cells #[.slice qb L cb] 41)).cell? ⟨g, 8, none⟩ = some (.slice pw mr cw) := KAt.c8 ((HTv3.out.kept.block g (LAt.lt HKb.out) HNG.out.1).trans HKb.out)
              have HN14v3 : Hid (LAt 41 (v2.alloc (.cells #[.slice qb L cb] 41)) v2.heap.size [.slice qb L cb]) := LAt.new 41 _ _
              have HZ14 : Hid (wb.heap.size ≤ v2.heap.size) := HTv2.out.kept.size
              refine hKc.out _ (v2.alloc (.cells #[.slice qb L cb] 41)) (fun _ => hH) ?_
              clear HTv2
              clear hKc Kc hHeld
              have hHeld := hH
              clear hH
              generalize v2.alloc (.cells #[.slice qb L cb] 41) = v3 at *
              refine wpAnyL_ready (rs := [15]) (by kernel_rfl) (by simp) ?_
              refine AllReadyL.cons (by simp; rfl) (fun Kc hKc => ?_) AllReadyL.nil
              refine step_append_lies _ rfl (.tmp 130) (.tmp 132) 67 rfl 0 41 i41 (.slice none 0 0) 1 24 Tryd.underlying67 hi41 hz410 hz411 hz412 rfl (by omega) _ mr wl rfl (own_same HTb.out.want (fun k hk => HTv3.out.kept.block k (own_lt HTb.out.want hk) (fun c => HNG.out.2.2 k c hk))) ⟨v2.heap.size, 0, none⟩ 1 1 [.slice qb L cb] rfl rfl (news_of HN14v3.out) (one_sl _ _ _) (by omega) (by unfold maxLen; omega) (by omega) (Nat.zero_le _) _ rfl ?_
              intro g2 c2 v4 hown hgrow hat hlt
              have HCv4 : Hid (TC wb v4 mr (.slice pt mr ct) (.slice pw mr cw) tl wl (.slice qa L ca) (.slice qb L cb) g1 c1 g2 c2) := TC.of HTv3.out hown hgrow hat HNG.out.2.2 (fun k hk => own_lt HTb.out.want hk)
              have Kw : KAt v4 g p r s (.slice pt mr ct) (.slice pw mr cw) := (HCv4.out.kept.block g (LAt.lt HKb.out) (fun c => c.elim HNG.out.1 HNG.out.2.1)).trans HKb.out
              have hH : v4.cell? ⟨g, 8, none⟩ = some (.slice pw mr cw) := KAt.c8 Kw
              refine hKc.out _ _ (fun _ => hH) ?_
              clear hown hgrow hat hlt HTv3 HN14v3 HZ14
              clear hKc Kc hHeld
              have hHeld := hH
              clear hH
              refine wpAnyL_take (i := 16) (v := ?va39) (by simp; rfl) (by kernel_rfl) (by kernel_rfl) (by kernel_rfl) (by kernel_rfl) (fun _ _ _ h => h) (Or.inl ⟨by rfl, ?ya39⟩) hHeld ?ra39
              case ya39 => intro w hSw; clear hSw; go_simp; with_reducible rfl
              simp only [Act.put, List.setIfInBounds_toArray, List.set_cons_zero, List.set_cons_succ]
              refine wpAnyL_take (i := 17) (v := ?va40) (by simp; rfl) (by kernel_rfl) (by kernel_rfl) (by kernel_rfl) (by kernel_rfl) (fun _ _ _ h => h) (Or.inl ⟨by rfl, ?ya40⟩) hHeld ?ra40
              case ya40 => intro w hSw; clear hSw; go_simp; with_reducible rfl
              simp only [Act.put, List.setIfInBounds_toArray, List.set_cons_zero, List.set_cons_succ]
              refine wpAnyL_ready (rs := [18]) (by kernel_rfl) (by simp) ?_
              refine AllReadyL.cons (by simp; rfl) (fun Kc hKc => ?_) AllReadyL.nil
              have f7 := frozen_of_row v4 g 7 _ 69 Kw
              have c7 := KAt.c7 Kw
              go_simp
              have Kx : KAt (v4.setCell ⟨g, 7, none⟩ (.slice (some ⟨g1, 0, none⟩) (mr + 1) c1)) g p r s (.slice (some ⟨g1, 0, none⟩) (mr + 1) c1) (.slice pw mr cw) := LAt.set Kw 7 _
              have hH := KAt.c8 Kx
              refine hKc.out _ (v4.setCell ⟨g, 7, none⟩ (.slice (some ⟨g1, 0, none⟩) (mr + 1) c1)) (fun _ => hH) ?_
              clear f7 c7 Kw
              clear hKc Kc hHeld
              have hHeld := hH
              clear hH
              refine wpAnyL_ready (rs := [19]) (by kernel_rfl) (by simp) ?_
              refine AllReadyL.cons (by simp; rfl) (fun Kc hKc => ?_) AllReadyL.nil
              go_simp
              refine hKc.out _ _ (fun _ => hHeld) ?_
              clear hKc Kc
              refine wpAnyL_take (i := 20) (v := ?va41) (by simp; rfl) (by kernel_rfl) (by kernel_rfl) (by kernel_rfl) (by kernel_rfl) (fun _ _ _ h => h) (Or.inl ⟨by rfl, ?ya41⟩) hHeld ?ra41
              case ya41 => intro w hSw; clear hSw; go_simp; with_reducible rfl
              simp only [Act.put, List.setIfInBounds_toArray, List.set_cons_zero, List.set_cons_succ]
              refine wpAnyL_ready (rs := [21]) (by kernel_rfl) (by simp) ?_
              refine AllReadyL.cons (by simp; rfl) (fun Kc hKc => ?_) AllReadyL.nil
              have f8 := frozen_of_row (v4.setCell ⟨g, 7, none⟩ (.slice (some ⟨g1, 0, none⟩) (mr + 1) c1)) g 8 _ 69 Kx
              have c8 := KAt.c8 Kx
              go_simp
              have HN : Hid (∃ R', LS w ((v4.setCell ⟨g, 7, none⟩ (.slice (some ⟨g1, 0, none⟩) (mr + 1) c1)).setCell ⟨g, 8, none⟩ (.slice (some ⟨g2, 0, none⟩) (mr + 1) c2)) R' B g p r n s s d ws (mr + 1)) := HLS.out.tell HBb.out HKb.out HTb.out HCv4.out HPb.out HUV.out.1 HUV.out.2.1 HUV.out.2.2
              refine hKc.out _ ((v4.setCell ⟨g, 7, none⟩ (.slice (some ⟨g1, 0, none⟩) (mr + 1) c1)).setCell ⟨g, 8, none⟩ (.slice (some ⟨g2, 0, none⟩) (mr + 1) c2)) (fun h => absurd rfl h) ?_
              clear hKc Kc hHeld f8 c8 Kx HCv4
              generalize (v4.setCell ⟨g, 7, none⟩ (.slice (some ⟨g1, 0, none⟩) (mr + 1) c1)).setCell ⟨g, 8, none⟩ (.slice (some ⟨g2, 0, none⟩) (mr + 1) c2) = wz at *
              refine wpAnyL_done (by kernel_rfl) (NoPanic.normal ?_) _
              go_wp2_with fail
              go_roundw
              case rel => exact ⟨k + 1, by omega, by go_num, HN.out.elim fun R' hR' => ⟨R', mr + 1, by omega, hR'⟩⟩
              case measure => simp [intOf]; omega
            · go_simp
              have HAv2 : Hid (Below wb.heap.size wb (v1.alloc (.cells #[.slice qb L cb] 41))) := below_then HAv1.out (below_alloc _ _)
              have hH : (v1.alloc (.cells #[.slice qb L cb] 41)).cell? ⟨g, 8, none⟩ = some (.slice pw mr cw) := KAt.c8 (LAt.later HKb.out HAv2.out)
              have HN14v2 : Hid (LAt 41 (v1.alloc (.cells #[.slice qb L cb] 41)) v1.heap.size [.slice qb L cb]) := LAt.new 41 _ _
              have HZ14 : Hid (wb.heap.size ≤ v1.heap.size) := HAv1.out.size
              have HN7v2 : Hid (LAt 41 (v1.alloc (.cells #[.slice qb L cb] 41)) wb.heap.size [.slice qa L ca]) := LAt.later HN7v1.out (below_alloc _ _)
              refine hKc.out _ (v1.alloc (.cells #[.slice qb L cb] 41)) (fun _ => hH) ?_
              clear HAv1 HN7v1
              clear hKc Kc hHeld
              have hHeld := hH
              clear hH
              generalize v1.alloc (.cells #[.slice qb L cb] 41) = v2 at *
              refine wpAnyL_ready (rs := [8]) (by kernel_rfl) (by simp) ?_
              refine AllReadyL.cons (by simp; rfl) (fun Kc hKc => ?_) AllReadyL.nil
              refine step_append_lies _ rfl (.tmp 123) (.tmp 125) 67 rfl 0 41 i41 (.slice none 0 0) 1 24 Tryd.underlying67 hi41 hz410 hz411 hz412 rfl (by omega) _ mr tl rfl (own_later HTb.out.told HAv2.out) ⟨wb.heap.size, 0, none⟩ 1 1 [.slice qa L ca] rfl rfl (news_of HN7v2.out) (one_sl _ _ _) (by omega) (by unfold maxLen; omega) (by omega) (Nat.zero_le _) _ rfl ?_
              intro g1 c1 v3 hown hgrow hat hlt
              have HTv3 : Hid (TB wb v3 mr (.slice pt mr ct) tl (.slice qa L ca) g1 c1) := TB.of HAv2.out hown hgrow hat
              have hH : v3.cell? ⟨g, 8, none⟩ = some (.slice pw mr cw) := KAt.c8 ((HTv3.out.kept.block g (LAt.lt HKb.out) HNG.out.1).trans HKb.out)
              have HN14v3 : Hid (LAt 41 v3 v1.heap.size [.slice qb L cb]) := (hgrow.block _ (LAt.lt HN14v2.out) (fun e => by have h1 := own_lt HTb.out.told e.symm; have h2 := HZ14.out; omega)).trans HN14v2.out
              refine hKc.out _ _ (fun _ => hH) ?_
              clear hown hgrow hat hlt HAv2 HN7v2 HZ7 HN14v2
              clear hKc Kc hHeld
              have hHeld := hH
              clear hH
              refine wpAnyL_ready (rs := [15]) (by kernel_rfl) (by simp) ?_
              refine AllReadyL.cons (by simp; rfl) (fun Kc hKc => ?_) AllReadyL.nil
              refine step_append_lies _ rfl (.tmp 130) (.tmp 132) 67 rfl 0 41 i41 (.slice none 0 0) 1 24 Tryd.underlying67 hi41 hz410 hz411 hz412 rfl (by omega) _ mr wl rfl (own_same HTb.out.want (fun k hk => HTv3.out.kept.block k (own_lt HTb.out.want hk) (fun c => HNG.out.2.2 k c hk))) ⟨v1.heap.size, 0, none⟩ 1 1 [.slice qb L cb] rfl rfl (news_of HN14v3.out) (one_sl _ _ _) (by omega) (by unfold maxLen; omega) (by omega) (Nat.zero_le _) _ rfl ?_
              intro g2 c2 v4 hown hgrow hat hlt
              have HCv4 : Hid (TC wb v4 mr (.slice pt mr ct) (.slice pw mr cw) tl wl (.slice qa L ca) (.slice qb L cb) g1 c1 g2 c2) := TC.of HTv3.out hown hgrow hat HNG.out.2.2 (fun k hk => own_lt HTb.out.want hk)
              have Kw : KAt v4 g p r s (.slice pt mr ct) (.slice pw mr cw) := (HCv4.out.kept.block g (LAt.lt HKb.out) (fun c => c.elim HNG.out.1 HNG.out.2.1)).trans HKb.out
              have hH : v4.cell? ⟨g, 8, none⟩ = some (.slice pw mr cw) := KAt.c8 Kw
              refine hKc.out _ _ (fun _ => hH) ?_
              clear hown hgrow hat hlt HTv3 HN14v3 HZ14
              clear hKc Kc hHeld
              have hHeld := hH
              clear hH
              refine wpAnyL_take (i := 16) (v := ?va42) (by simp; rfl) (by kernel_rfl) (by kernel_rfl) (by kernel_rfl) (by kernel_rfl) (fun _ _ _ h => h) (Or.inl ⟨by rfl, ?ya42⟩) hHeld ?ra42
              case ya42 => intro w hSw; clear hSw; go_simp; with_reducible rfl
              simp only [Act.put, List.setIfInBounds_toArray, List.set_cons_zero, List.set_cons_succ]
              refine wpAnyL_take (i := 17) (v := ?va43) (by simp; rfl) (by kernel_rfl) (by kernel_rfl) (by kernel_rfl) (by kernel_rfl) (fun _ _ _ h => h) (Or.inl ⟨by rfl, ?ya43⟩) hHeld ?ra43
              case ya43 => intro w hSw; clear hSw; go_simp; with_reducible rfl
              simp only [Act.put, List.setIfInBounds_toArray, List.set_cons_zero, List.set_cons_succ]
              refine wpAnyL_ready (rs := [18]) (by kernel_rfl) (by simp) ?_
              refine AllReadyL.cons (by simp; rfl) (fun Kc hKc => ?_) AllReadyL.nil
              have f7 := frozen_of_row v4 g 7 _ 69 Kw
              have c7 := KAt.c7 Kw
              go_simp
              have Kx : KAt (v4.setCell ⟨g, 7, none⟩ (.slice (some ⟨g1, 0, none⟩) (mr + 1) c1)) g p r s (.slice (some ⟨g1, 0, none⟩) (mr + 1) c1) (.slice pw mr cw) := LAt.set Kw 7 _
              have hH := KAt.c8 Kx
              refine hKc.out _ (v4.setCell ⟨g, 7, none⟩ (.slice (some ⟨g1, 0, none⟩) (mr + 1) c1)) (fun _ => hH) ?_
              clear f7 c7 Kw
              clear hKc Kc hHeld
              have hHeld := hH
              clear hH
              refine wpAnyL_ready (rs := [19]) (by kernel_rfl) (by simp) ?_
              refine AllReadyL.cons (by simp; rfl) (fun Kc hKc => ?_) AllReadyL.nil
              go_simp
              refine hKc.out _ _ (fun _ => hHeld) ?_
              clear hKc Kc
              refine wpAnyL_take (i := 20) (v := ?va44) (by simp; rfl) (by kernel_rfl) (by kernel_rfl) (by kernel_rfl) (by kernel_rfl) (fun _ _ _ h => h) (Or.inl ⟨by rfl, ?ya44⟩) hHeld ?ra44
              case ya44 => intro w hSw; clear hSw; go_simp; with_reducible rfl
              simp only [Act.put, List.setIfInBounds_toArray, List.set_cons_zero, List.set_cons_succ]
              refine wpAnyL_ready (rs := [21]) (by kernel_rfl) (by simp) ?_
              refine AllReadyL.cons (by simp; rfl) (fun Kc hKc => ?_) AllReadyL.nil
              have f8 := frozen_of_row (v4.setCell ⟨g, 7, none⟩ (.slice (some ⟨g1, 0, none⟩) (mr + 1) c1)) g 8 _ 69 Kx
              have c8 := KAt.c8 Kx
              go_simp
              have HN : Hid (∃ R', LS w ((v4.setCell ⟨g, 7, none⟩ (.slice (some ⟨g1, 0, none⟩) (mr + 1) c1)).setCell ⟨g, 8, none⟩ (.slice (some ⟨g2, 0, none⟩) (mr + 1) c2)) R' B g p r n s s d ws (mr + 1)) := HLS.out.tell HBb.out HKb.out HTb.out HCv4.out HPb.out HUV.out.1 HUV.out.2.1 HUV.out.2.2
              refine hKc.out _ ((v4.setCell ⟨g, 7, none⟩ (.slice (some ⟨g1, 0, none⟩) (mr + 1) c1)).setCell ⟨g, 8, none⟩ (.slice (some ⟨g2, 0, none⟩) (mr + 1) c2)) (fun h => absurd rfl h) ?_
              clear hKc Kc hHeld f8 c8 Kx HCv4
              generalize (v4.setCell ⟨g, 7, none⟩ (.slice (some ⟨g1, 0, none⟩) (mr + 1) c1)).setCell ⟨g, 8, none⟩ (.slice (some ⟨g2, 0, none⟩) (mr + 1) c2) = wz at *
              refine wpAnyL_done (by kernel_rfl) (NoPanic.normal ?_) _
              go_wp2_with fail
              go_roundw
              case rel => exact ⟨k + 1, by omega, by go_num, HN.out.elim fun R' hR' => ⟨R', mr + 1, by omega, hR'⟩⟩
              case measure => simp [intOf]; omega
          · go_simp
            have HAv2 : Hid (Below wb.heap.size wb (v1.alloc (.cells #[.slice qb L cb] 41))) := below_then HAv1.out (below_alloc _ _)
            have hH : (v1.alloc (.cells #[.slice qb L cb] 41)).cell? ⟨g, 8, none⟩ = some (.slice pw mr cw) := KAt.c8 (LAt.later HKb.out HAv2.out)
            have HN14v2 : Hid (LAt 41 (v1.alloc (.cells #[.slice qb L cb] 41)) v1.heap.size [.slice qb L cb]) := LAt.new 41 _ _
            have HZ14 : Hid (wb.heap.size ≤ v1.heap.size) := HAv1.out.size
            have HN7v2 : Hid (LAt 41 (v1.alloc (.cells #[.slice qb L cb] 41)) wb.heap.size [.slice qa L ca]) := LAt.later HN7v1.out (below_alloc _ _)
            refine hKc.out _ (v1.alloc (.cells #[.slice qb L cb] 41)) (fun _ => hH) ?_
            clear HAv1 HN7v1
            clear hKc Kc hHeld
            have hHeld := hH
            clear hH
            generalize v1.alloc (.cells #[.slice qb L cb] 41) = v2 at *
            refine wpAnyL_ready (rs := [5]) (by kernel_rfl) (by simp) ?_
            refine AllReadyL.cons (by simp; rfl) (fun Kc hKc => ?_) AllReadyL.nil
            have z7 := KAt.c7 (LAt.later HKb.out HAv2.out)
            go_simp
            refine hKc.out _ _ (fun _ => hHeld) ?_
            clear hKc Kc z7
            refine wpAnyL_ready (rs := [8]) (by kernel_rfl) (by simp) ?_
            refine AllReadyL.cons (by simp; rfl) (fun Kc hKc => ?_) AllReadyL.nil
            refine step_append_lies _ rfl (.tmp 123) (.tmp 125) 67 rfl 0 41 i41 (.slice none 0 0) 1 24 Tryd.underlying67 hi41 hz410 hz411 hz412 rfl (by omega) _ mr tl rfl (own_later HTb.out.told HAv2.out) ⟨wb.heap.size, 0, none⟩ 1 1 [.slice qa L ca] rfl rfl (news_of HN7v2.out) (one_sl _ _ _) (by omega) (by unfold maxLen; omega) (by omega) (Nat.zero_le _) _ rfl ?_
            intro g1 c1 v3 hown hgrow hat hlt
            have HTv3 : Hid (TB wb v3 mr (.slice pt mr ct) tl (.slice qa L ca) g1 c1) := TB.of HAv2.out hown hgrow hat
            have hH : v3.cell? ⟨g, 8, none⟩ = some (.slice pw mr cw) := KAt.c8 ((HTv3.out.kept.block g (LAt.lt HKb.out) HNG.out.1).trans HKb.out)
            have HN14v3 : Hid (LAt 41 v3 v1.heap.size [.slice qb L cb]) := (hgrow.block _ (LAt.lt HN14v2.out) (fun e => by have h1 := own_lt HTb.out.told e.symm; have h2 := HZ14.out; omega)).trans HN14v2.out
            refine hKc.out _ _ (fun _ => hH) ?_
            clear hown hgrow hat hlt HAv2 HN7v2 HZ7 HN14v2
            clear hKc Kc hHeld
            have hHeld := hH
            clear hH
            refine wpAnyL_ready (rs := [15]) (by kernel_rfl) (by simp) ?_
            refine AllReadyL.cons (by simp; rfl) (fun Kc hKc => ?_) AllReadyL.nil
            refine step_append_lies _ rfl (.tmp 130) (.tmp 132) 67 rfl 0 41 i41 (.slice none 0 0) 1 24 Tryd.underlying67 hi41 hz410 hz411 hz412 rfl (by omega) _ mr wl rfl (own_same HTb.out.want (fun k hk => HTv3.out.kept.block k (own_lt HTb.out.want hk) (fun c => HNG.out.2.2 k c hk))) ⟨v1.heap.size, 0, none⟩ 1 1 [.slice qb L cb] rfl rfl (news_of HN14v3.out) (one_sl _ _ _) (by omega) (by unfold maxLen; omega) (by omega) (Nat.zero_le _) _ rfl ?_
            intro g2 c2 v4 hown hgrow hat hlt
            have HCv4 : Hid (TC wb v4 mr (.slice pt mr ct) (.slice pw mr cw) tl wl (.slice qa L ca) (.slice qb L cb) g1 c1 g2 c2) := TC.of HTv3.out hown hgrow hat HNG.out.2.2 (fun k hk => own_lt HTb.out.want hk)
            have Kw : KAt v4 g p r s (.slice pt mr ct) (.slice pw mr cw) := (HCv4.out.kept.block g (LAt.lt HKb.out) (fun c => c.elim HNG.out.1 HNG.out.2.1)).trans HKb.out
            have hH : v4.cell? ⟨g, 8, none⟩ = some (.slice pw mr cw) := KAt.c8 Kw
            refine hKc.out _ _ (fun _ => hH) ?_
            clear hown hgrow hat hlt HTv3 HN14v3 HZ14
            clear hKc Kc hHeld
            have hHeld := hH
            clear hH
            refine wpAnyL_take (i := 16) (v := ?va45) (by simp; rfl) (by kernel_rfl) (by kernel_rfl) (by kernel_rfl) (by kernel_rfl) (fun _ _ _ h => h) (Or.inl ⟨by rfl, ?ya45⟩) hHeld ?ra45
            case ya45 => intro w hSw; clear hSw; go_simp; with_reducible rfl
            simp only [Act.put, List.setIfInBounds_toArray, List.set_cons_zero, List.set_cons_succ]
            refine wpAnyL_take (i := 17) (v := ?va46) (by simp; rfl) (by kernel_rfl) (by kernel_rfl) (by kernel_rfl) (by kernel_rfl) (fun _ _ _ h => h) (Or.inl ⟨by rfl, ?ya46⟩) hHeld ?ra46
            case ya46 => intro w hSw; clear hSw; go_simp; with_reducible rfl
            simp only [Act.put, List.setIfInBounds_toArray, List.set_cons_zero, List.set_cons_succ]
            refine wpAnyL_ready (rs := [18]) (by kernel_rfl) (by simp) ?_
            refine AllReadyL.cons (by simp; rfl) (fun Kc hKc => ?_) AllReadyL.nil
            have f7 := frozen_of_row v4 g 7 _ 69 Kw
            have c7 := KAt.c7 Kw
            go_simp
            have Kx : KAt (v4.setCell ⟨g, 7, none⟩ (.slice (some ⟨g1, 0, none⟩) (mr + 1) c1)) g p r s (.slice (some ⟨g1, 0, none⟩) (mr + 1) c1) (.slice pw mr cw) := LAt.set Kw 7 _
            have hH := KAt.c8 Kx
            refine hKc.out _ (v4.setCell ⟨g, 7, none⟩ (.slice (some ⟨g1, 0, none⟩) (mr + 1) c1)) (fun _ => hH) ?_
            clear f7 c7 Kw
            clear hKc Kc hHeld
            have hHeld := hH
            clear hH
            refine wpAnyL_ready (rs := [19]) (by kernel_rfl) (by simp) ?_
            refine AllReadyL.cons (by simp; rfl) (fun Kc hKc => ?_) AllReadyL.nil
            go_simp
            refine hKc.out _ _ (fun _ => hHeld) ?_
            clear hKc Kc
            refine wpAnyL_take (i := 20) (v := ?va47) (by simp; rfl) (by kernel_rfl) (by kernel_rfl) (by kernel_rfl) (by kernel_rfl) (fun _ _ _ h => h) (Or.inl ⟨by rfl, ?ya47⟩) hHeld ?ra47
            case ya47 => intro w hSw; clear hSw; go_simp; with_reducible rfl
            simp only [Act.put, List.setIfInBounds_toArray, List.set_cons_zero, List.set_cons_succ]
            refine wpAnyL_ready (rs := [21]) (by kernel_rfl) (by simp) ?_
            refine AllReadyL.cons (by simp; rfl) (fun Kc hKc => ?_) AllReadyL.nil
            have f8 := frozen_of_row (v4.setCell ⟨g, 7, none⟩ (.slice (some ⟨g1, 0, none⟩) (mr + 1) c1)) g 8 _ 69 Kx
            have c8 := KAt.c8 Kx
            go_simp
            have HN : Hid (∃ R', LS w ((v4.setCell ⟨g, 7, none⟩ (.slice (some ⟨g1, 0, none⟩) (mr + 1) c1)).setCell ⟨g, 8, none⟩ (.slice (some ⟨g2, 0, none⟩) (mr + 1) c2)) R' B g p r n s s d ws (mr + 1)) := HLS.out.tell HBb.out HKb.out HTb.out HCv4.out HPb.out HUV.out.1 HUV.out.2.1 HUV.out.2.2
            refine hKc.out _ ((v4.setCell ⟨g, 7, none⟩ (.slice (some ⟨g1, 0, none⟩) (mr + 1) c1)).setCell ⟨g, 8, none⟩ (.slice (some ⟨g2, 0, none⟩) (mr + 1) c2)) (fun h => absurd rfl h) ?_
            clear hKc Kc hHeld f8 c8 Kx HCv4
            generalize (v4.setCell ⟨g, 7, none⟩ (.slice (some ⟨g1, 0, none⟩) (mr + 1) c1)).setCell ⟨g, 8, none⟩ (.slice (some ⟨g2, 0, none⟩) (mr + 1) c2) = wz at *
            refine wpAnyL_done (by kernel_rfl) (NoPanic.normal ?_) _
            go_wp2_with fail
            go_roundw
            case rel => exact ⟨k + 1, by omega, by go_num, HN.out.elim fun R' hR' => ⟨R', mr + 1, by omega, hR'⟩⟩
            case measure => simp [intOf]; omega
        · go_simp
          have HAv1 : Hid (Below wb.heap.size wb (wb.alloc (.cells #[.slice qb L cb] 41))) := below_then HAwb.out (below_alloc _ _)
          have hH : (wb.alloc (.cells #[.slice qb L cb] 41)).cell? ⟨g, 8, none⟩ = some (.slice pw mr cw) := KAt.c8 (LAt.later HKb.out HAv1.out)
          have HN14v1 : Hid (LAt 41 (wb.alloc (.cells #[.slice qb L cb] 41)) wb.heap.size [.slice qb L cb]) := LAt.new 41 _ _
          have HZ14 : Hid (wb.heap.size ≤ wb.heap.size) := HAwb.out.size
          refine hKc.out _ (wb.alloc (.cells #[.slice qb L cb] 41)) (fun _ => hH) ?_
          clear HAwb
          clear hKc Kc hHeld
          have hHeld := hH
          clear hH
          generalize wb.alloc (.cells #[.slice qb L cb] 41) = v1 at *
          refine wpAnyL_ready (rs := [5, 7]) (by kernel_rfl) (by simp) ?_
          refine AllReadyL.cons (by simp; rfl) (fun Kc hKc => ?_) (AllReadyL.cons (by simp; rfl) (fun Kc hKc => ?_) AllReadyL.nil)
          · have z7 := KAt.c7 (LAt.later HKb.out HAv1.out)
            go_simp
            refine hKc.out _ _ (fun _ => hHeld) ?_
            clear hKc Kc z7
            refine wpAnyL_ready (rs := [7]) (by kernel_rfl) (by simp) ?_
            refine AllReadyL.cons (by simp; rfl) (fun Kc hKc => ?_) AllReadyL.nil
            go_simp
            have HAv2 : Hid (Below wb.heap.size wb (v1.alloc (.cells #[.slice qa L ca] 41))) := below_then HAv1.out (below_alloc _ _)
            have hH : (v1.alloc (.cells #[.slice qa L ca] 41)).cell? ⟨g, 8, none⟩ = some (.slice pw mr cw) := KAt.c8 (LAt.later HKb.out HAv2.out)
            have HN7v2 : Hid (LAt 41 (v1.alloc (.cells #[.slice qa L ca] 41)) v1.heap.size [.slice qa L ca]) := LAt.new 41 _ _
            have HZ7 : Hid (wb.heap.size ≤ v1.heap.size) := HAv1.out.size
            have HN14v2 : Hid (LAt 41 (v1.alloc (.cells #[.slice qa L ca] 41)) wb.heap.size [.slice qb L cb]) := LAt.later HN14v1.out (below_alloc _ _)
            refine hKc.out _ (v1.alloc (.cells #[.slice qa L ca] 41)) (fun _ => hH) ?_
            clear HAv1 HN14v1
            clear hKc Kc hHeld
            have hHeld := hH
            clear hH
            generalize v1.alloc (.cells #[.slice qa L ca] 41) = v2 at *
            refine wpAnyL_ready (rs := [8]) (by kernel_rfl) (by simp) ?_
            refine AllReadyL.cons (by simp; rfl) (fun Kc hKc => ?_) AllReadyL.nil
            refine step_append_lies _ rfl (.tmp 123) (.tmp 125) 67 rfl 0 41 i41 (.slice none 0 0) 1 24 Tryd.underlying67 hi41 hz410 hz411 hz412 rfl (by omega) _ mr tl rfl (own_later HTb.out.told HAv2.out) ⟨v1.heap.size, 0, none⟩ 1 1 [.slice qa L ca] rfl rfl (news_of HN7v2.out) (one_sl _ _ _) (by omega) (by unfold maxLen; omega) (by omega) (Nat.zero_le _) _ rfl ?_
            intro g1 c1 v3 hown hgrow hat hlt
            have HTv3 : Hid (TB wb v3 mr (.slice pt mr ct) tl (.slice qa L ca) g1 c1) := TB.of HAv2.out hown hgrow hat
            have hH : v3.cell? ⟨g, 8, none⟩ = some (.slice pw mr cw) := KAt.c8 ((HTv3.out.kept.block g (LAt.lt HKb.out) HNG.out.1).trans HKb.out)
            have HN14v3 : Hid (LAt 41 v3 wb.heap.size [.slice qb L cb]) := (hgrow.block _ (LAt.lt HN14v2.out) (fun e => by have h1 := own_lt HTb.out.told e.symm; have h2 := HZ14.out; omega)).trans HN14v2.out
            refine hKc.out _ _ (fun _ => hH) ?_
            clear hown hgrow hat hlt HAv2 HN7v2 HZ7 HN14v2
            clear hKc Kc hHeld
            have hHeld := hH
            clear hH
            refine wpAnyL_ready (rs := [15]) (by kernel_rfl) (by simp) ?_
            refine AllReadyL.cons (by simp; rfl) (fun Kc hKc => ?_) AllReadyL.nil
            refine step_append_lies _ rfl (.tmp 130) (.tmp 132) 67 rfl 0 41 i41 (.slice none 0 0) 1 24 Tryd.underlying67 hi41 hz410 hz411 hz412 rfl (by omega) _ mr wl rfl (own_same HTb.out.want (fun k hk => HTv3.out.kept.block k (own_lt HTb.out.want hk) (fun c => HNG.out.2.2 k c hk))) ⟨wb.heap.size, 0, none⟩ 1 1 [.slice qb L cb] rfl rfl (news_of HN14v3.out) (one_sl _ _ _) (by omega) (by unfold maxLen; omega) (by omega) (Nat.zero_le _) _ rfl ?_
            intro g2 c2 v4 hown hgrow hat hlt
            have HCv4 : Hid (TC wb v4 mr (.slice pt mr ct) (.slice pw mr cw) tl wl (.slice qa L ca) (.slice qb L cb) g1 c1 g2 c2) := TC.of HTv3.out hown hgrow hat HNG.out.2.2 (fun k hk => own_lt HTb.out.want hk)
            have Kw : KAt v4 g p r s (.slice pt mr ct) (.slice pw mr cw) := (HCv4.out.kept.block g (LAt.lt HKb.out) (fun c => c.elim HNG.out.1 HNG.out.2.1)).trans HKb.out
            have hH : v4.cell? ⟨g, 8, none⟩ = some (.slice pw mr cw) := KAt.c8 Kw
            refine hKc.out _ _ (fun _ => hH) ?_
            clear hown hgrow hat hlt HTv3 HN14v3 HZ14
            clear hKc Kc hHeld
            have hHeld := hH
            clear hH
            refine wpAnyL_take (i := 16) (v := ?va48) (by simp; rfl) (by kernel_rfl) (by kernel_rfl) (by kernel_rfl) (by kernel_rfl) (fun _ _ _ h => h) (Or.inl ⟨by rfl, ?ya48⟩) hHeld ?ra48
            case ya48 => intro w hSw; clear hSw; go_simp; with_reducible rfl
            simp only [Act.put, List.setIfInBounds_toArray, List.set_cons_zero, List.set_cons_succ]
            refine wpAnyL_take (i := 17) (v := ?va49) (by simp; rfl) (by kernel_rfl) (by kernel_rfl) (by kernel_rfl) (by kernel_rfl) (fun _ _ _ h => h) (Or.inl ⟨by rfl, ?ya49⟩) hHeld ?ra49
            case ya49 => intro w hSw; clear hSw; go_simp; with_reducible rfl
            simp only [Act.put, List.setIfInBounds_toArray, List.set_cons_zero, List.set_cons_succ]
            refine wpAnyL_ready (rs := [18]) (by kernel_rfl) (by simp) ?_
            refine AllReadyL.cons (by simp; rfl) (fun Kc hKc => ?_) AllReadyL.nil
            have f7 := frozen_of_row v4 g 7 _ 69 Kw
            have c7 := KAt.c7 Kw
            go_simp
            have Kx : KAt (v4.setCell ⟨g, 7, none⟩ (.slice (some ⟨g1, 0, none⟩) (mr + 1) c1)) g p r s (.slice (some ⟨g1, 0, none⟩) (mr + 1) c1) (.slice pw mr cw) := LAt.set Kw 7 _
            have hH := KAt.c8 Kx
            refine hKc.out _ (v4.setCell ⟨g, 7, none⟩ (.slice (some ⟨g1, 0, none⟩) (mr + 1) c1)) (fun _ => hH) ?_
            clear f7 c7 Kw
            clear hKc Kc hHeld
            have hHeld := hH
            clear hH
            refine wpAnyL_ready (rs := [19]) (by kernel_rfl) (by simp) ?_
            refine AllReadyL.cons (by simp; rfl) (fun Kc hKc => ?_) AllReadyL.nil
            go_simp
            refine hKc.out _ _ (fun _ => hHeld) ?_
            clear hKc Kc
            refine wpAnyL_take (i := 20) (v := ?va50) (by simp; rfl) (by kernel_rfl) (by kernel_rfl) (by kernel_rfl) (by kernel_rfl) (fun _ _ _ h => h) (Or.inl ⟨by rfl, ?ya50⟩) hHeld ?ra50
            case ya50 => intro w hSw; clear hSw; go_simp; with_reducible rfl
            simp only [Act.put, List.setIfInBounds_toArray, List.set_cons_zero, List.set_cons_succ]
            refine wpAnyL_ready (rs := [21]) (by kernel_rfl) (by simp) ?_
            refine AllReadyL.cons (by simp; rfl) (fun Kc hKc => ?_) AllReadyL.nil
            have f8 := frozen_of_row (v4.setCell ⟨g, 7, none⟩ (.slice (some ⟨g1, 0, none⟩) (mr + 1) c1)) g 8 _ 69 Kx
            have c8 := KAt.c8 Kx
            go_simp
            have HN : Hid (∃ R', LS w ((v4.setCell ⟨g, 7, none⟩ (.slice (some ⟨g1, 0, none⟩) (mr + 1) c1)).setCell ⟨g, 8, none⟩ (.slice (some ⟨g2, 0, none⟩) (mr + 1) c2)) R' B g p r n s s d ws (mr + 1)) := HLS.out.tell HBb.out HKb.out HTb.out HCv4.out HPb.out HUV.out.1 HUV.out.2.1 HUV.out.2.2
            refine hKc.out _ ((v4.setCell ⟨g, 7, none⟩ (.slice (some ⟨g1, 0, none⟩) (mr + 1) c1)).setCell ⟨g, 8, none⟩ (.slice (some ⟨g2, 0, none⟩) (mr + 1) c2)) (fun h => absurd rfl h) ?_
            clear hKc Kc hHeld f8 c8 Kx HCv4
            generalize (v4.setCell ⟨g, 7, none⟩ (.slice (some ⟨g1, 0, none⟩) (mr + 1) c1)).setCell ⟨g, 8, none⟩ (.slice (some ⟨g2, 0, none⟩) (mr + 1) c2) = wz at *
            refine wpAnyL_done (by kernel_rfl) (NoPanic.normal ?_) _
            go_wp2_with fail
            go_roundw
            case rel => exact ⟨k + 1, by omega, by go_num, HN.out.elim fun R' hR' => ⟨R', mr + 1, by omega, hR'⟩⟩
            case measure => simp [intOf]; omega
          · go_simp
            have HAv2 : Hid (Below wb.heap.size wb (v1.alloc (.cells #[.slice qa L ca] 41))) := below_then HAv1.out (below_alloc _ _)
            have hH : (v1.alloc (.cells #[.slice qa L ca] 41)).cell? ⟨g, 8, none⟩ = some (.slice pw mr cw) := KAt.c8 (LAt.later HKb.out HAv2.out)
            have HN7v2 : Hid (LAt 41 (v1.alloc (.cells #[.slice qa L ca] 41)) v1.heap.size [.slice qa L ca]) := LAt.new 41 _ _
            have HZ7 : Hid (wb.heap.size ≤ v1.heap.size) := HAv1.out.size
            have HN14v2 : Hid (LAt 41 (v1.alloc (.cells #[.slice qa L ca] 41)) wb.heap.size [.slice qb L cb]) := LAt.later HN14v1.out (below_alloc _ _)
            refine hKc.out _ (v1.alloc (.cells #[.slice qa L ca] 41)) (fun _ => hH) ?_
            clear HAv1 HN14v1
            clear hKc Kc hHeld
            have hHeld := hH
            clear hH
            generalize v1.alloc (.cells #[.slice qa L ca] 41) = v2 at *
            refine wpAnyL_ready (rs := [5]) (by kernel_rfl) (by simp) ?_
            refine AllReadyL.cons (by simp; rfl) (fun Kc hKc => ?_) AllReadyL.nil
            have z7 := KAt.c7 (LAt.later HKb.out HAv2.out)
            go_simp
            refine hKc.out _ _ (fun _ => hHeld) ?_
            clear hKc Kc z7
            refine wpAnyL_ready (rs := [8]) (by kernel_rfl) (by simp) ?_
            refine AllReadyL.cons (by simp; rfl) (fun Kc hKc => ?_) AllReadyL.nil
            refine step_append_lies _ rfl (.tmp 123) (.tmp 125) 67 rfl 0 41 i41 (.slice none 0 0) 1 24 Tryd.underlying67 hi41 hz410 hz411 hz412 rfl (by omega) _ mr tl rfl (own_later HTb.out.told HAv2.out) ⟨v1.heap.size, 0, none⟩ 1 1 [.slice qa L ca] rfl rfl (news_of HN7v2.out) (one_sl _ _ _) (by omega) (by unfold maxLen; omega) (by omega) (Nat.zero_le _) _ rfl ?_
            intro g1 c1 v3 hown hgrow hat hlt
            have HTv3 : Hid (TB wb v3 mr (.slice pt mr ct) tl (.slice qa L ca) g1 c1) := TB.of HAv2.out hown hgrow hat
            have hH : v3.cell? ⟨g, 8, none⟩ = some (.slice pw mr cw) := KAt.c8 ((HTv3.out.kept.block g (LAt.lt HKb.out) HNG.out.1).trans HKb.out)
            have HN14v3 : Hid (LAt 41 v3 wb.heap.size [.slice qb L cb]) := (hgrow.block _ (LAt.lt HN14v2.out) (fun e => by have h1 := own_lt HTb.out.told e.symm; have h2 := HZ14.out; omega)).trans HN14v2.out
            refine hKc.out _ _ (fun _ => hH) ?_
            clear hown hgrow hat hlt HAv2 HN7v2 HZ7 HN14v2
            clear hKc Kc hHeld
            have hHeld := hH
            clear hH
            refine wpAnyL_ready (rs := [15]) (by kernel_rfl) (by simp) ?_
            refine AllReadyL.cons (by simp; rfl) (fun Kc hKc => ?_) AllReadyL.nil
            refine step_append_lies _ rfl (.tmp 130) (.tmp 132) 67 rfl 0 41 i41 (.slice none 0 0) 1 24 Tryd.underlying67 hi41 hz410 hz411 hz412 rfl (by omega) _ mr wl rfl (own_same HTb.out.want (fun k hk => HTv3.out.kept.block k (own_lt HTb.out.want hk) (fun c => HNG.out.2.2 k c hk))) ⟨wb.heap.size, 0, none⟩ 1 1 [.slice qb L cb] rfl rfl (news_of HN14v3.out) (one_sl _ _ _) (by omega) (by unfold maxLen; omega) (by omega) (Nat.zero_le _) _ rfl ?_
            intro g2 c2 v4 hown hgrow hat hlt
            have HCv4 : Hid (TC wb v4 mr (.slice pt mr ct) (.slice pw mr cw) tl wl (.slice qa L ca) (.slice qb L cb) g1 c1 g2 c2) := TC.of HTv3.out hown hgrow hat HNG.out.2.2 (fun k hk => own_lt HTb.out.want hk)
            have Kw : KAt v4 g p r s (.slice pt mr ct) (.slice pw mr cw) := (HCv4.out.kept.block g (LAt.lt HKb.out) (fun c => c.elim HNG.out.1 HNG.out.2.1)).trans HKb.out
            have hH : v4.cell? ⟨g, 8, none⟩ = some (.slice pw mr cw) := KAt.c8 Kw
            refine hKc.out _ _ (fun _ => hH) ?_
            clear hown hgrow hat hlt HTv3 HN14v3 HZ14
            clear hKc Kc hHeld
            have hHeld := hH
            clear hH
            refine wpAnyL_take (i := 16) (v := ?va51) (by simp; rfl) (by kernel_rfl) (by kernel_rfl) (by kernel_rfl) (by kernel_rfl) (fun _ _ _ h => h) (Or.inl ⟨by rfl, ?ya51⟩) hHeld ?ra51
            case ya51 => intro w hSw; clear hSw; go_simp; with_reducible rfl
            simp only [Act.put, List.setIfInBounds_toArray, List.set_cons_zero, List.set_cons_succ]
            refine wpAnyL_take (i := 17) (v := ?va52) (by simp; rfl) (by kernel_rfl) (by kernel_rfl) (by kernel_rfl) (by kernel_rfl) (fun _ _ _ h => h) (Or.inl ⟨by rfl, ?ya52⟩) hHeld ?ra52
            case ya52 => intro w hSw; clear hSw; go_simp; with_reducible rfl
            simp only [Act.put, List.setIfInBounds_toArray, List.set_cons_zero, List.set_cons_succ]
            refine wpAnyL_ready (rs := [18]) (by kernel_rfl) (by simp) ?_
            refine AllReadyL.cons (by simp; rfl) (fun Kc hKc => ?_) AllReadyL.nil
            have f7 := frozen_of_row v4 g 7 _ 69 Kw
            have c7 := KAt.c7 Kw
            go_simp
            have Kx : KAt (v4.setCell ⟨g, 7, none⟩ (.slice (some ⟨g1, 0, none⟩) (mr + 1) c1)) g p r s (.slice (some ⟨g1, 0, none⟩) (mr + 1) c1) (.slice pw mr cw) := LAt.set Kw 7 _
            have hH := KAt.c8 Kx
            refine hKc.out _ (v4.setCell ⟨g, 7, none⟩ (.slice (some ⟨g1, 0, none⟩) (mr + 1) c1)) (fun _ => hH) ?_
            clear f7 c7 Kw
            clear hKc Kc hHeld
            have hHeld := hH
            clear hH
            refine wpAnyL_ready (rs := [19]) (by kernel_rfl) (by simp) ?_
            refine AllReadyL.cons (by simp; rfl) (fun Kc hKc => ?_) AllReadyL.nil
            go_simp
            refine hKc.out _ _ (fun _ => hHeld) ?_
            clear hKc Kc
            refine wpAnyL_take (i := 20) (v := ?va53) (by simp; rfl) (by kernel_rfl) (by kernel_rfl) (by kernel_rfl) (by kernel_rfl) (fun _ _ _ h => h) (Or.inl ⟨by rfl, ?ya53⟩) hHeld ?ra53
            case ya53 => intro w hSw; clear hSw; go_simp; with_reducible rfl
            simp only [Act.put, List.setIfInBounds_toArray, List.set_cons_zero, List.set_cons_succ]
            refine wpAnyL_ready (rs := [21]) (by kernel_rfl) (by simp) ?_
            refine AllReadyL.cons (by simp; rfl) (fun Kc hKc => ?_) AllReadyL.nil
            have f8 := frozen_of_row (v4.setCell ⟨g, 7, none⟩ (.slice (some ⟨g1, 0, none⟩) (mr + 1) c1)) g 8 _ 69 Kx
            have c8 := KAt.c8 Kx
            go_simp
            have HN : Hid (∃ R', LS w ((v4.setCell ⟨g, 7, none⟩ (.slice (some ⟨g1, 0, none⟩) (mr + 1) c1)).setCell ⟨g, 8, none⟩ (.slice (some ⟨g2, 0, none⟩) (mr + 1) c2)) R' B g p r n s s d ws (mr + 1)) := HLS.out.tell HBb.out HKb.out HTb.out HCv4.out HPb.out HUV.out.1 HUV.out.2.1 HUV.out.2.2
            refine hKc.out _ ((v4.setCell ⟨g, 7, none⟩ (.slice (some ⟨g1, 0, none⟩) (mr + 1) c1)).setCell ⟨g, 8, none⟩ (.slice (some ⟨g2, 0, none⟩) (mr + 1) c2)) (fun h => absurd rfl h) ?_
            clear hKc Kc hHeld f8 c8 Kx HCv4
            generalize (v4.setCell ⟨g, 7, none⟩ (.slice (some ⟨g1, 0, none⟩) (mr + 1) c1)).setCell ⟨g, 8, none⟩ (.slice (some ⟨g2, 0, none⟩) (mr + 1) c2) = wz at *
            refine wpAnyL_done (by kernel_rfl) (NoPanic.normal ?_) _
            go_wp2_with fail
            go_roundw
            case rel => exact ⟨k + 1, by omega, by go_num, HN.out.elim fun R' hR' => ⟨R', mr + 1, by omega, hR'⟩⟩
            case measure => simp [intOf]; omega
      · have i2 : ¬ (k : Int) < 2 := by omega
        go_wp2_with fail
        go_ret
        exact ⟨rfl, ⟨Rr, d, ws, mr, HLS.out.dk, by omega, by omega, HLS.out.le⟩, HLS.out.below⟩
  · have L1 : Hid (_) := OAt.load39 O1 hv
    have S1 : Hid (_) := LAt.store (ds := ccells o) C1 size23 rfl (ccells_all o)
    obtain ⟨w2, hw2⟩ : ∃ x, x = w1.setRow (w.heap.size + 1) (ccells o).toArray := ⟨_, rfl⟩
    have b2 : Below w.heap.size w w2 := by rw [hw2]; exact below_setRow b1 (Nat.le_succ _) _
    have C2 : CAt w2 (w.heap.size + 1) o := by rw [hw2]; exact LAt.stored C1 _
    have O2 : OAt w2 w.heap.size 3 b v raw keep o true := by rw [hw2]; exact LAt.other O1 _ (by omega)
    have K2 : KAt w2 g p r s vt vw := by rw [hw2]; exact LAt.other K1 _ (by have hz := hD.hi (w.heap.size + 1) (Nat.le_succ _); have hg := hD.rg; intro c; rw [c, hz] at hg; cases hg)
    rw [← hw2] at S1
    have HD : Hid (Dk w2 R B g p r n s d ws d ws m) := hD.later b2
    have HS : Hid (See w2 g p r s vt vw w.heap.size (ocells 3 b v raw keep o true) (w.heap.size + 1) o) := ⟨K2, O2, C2⟩
    have HB : Hid (Below w.heap.size w w2) := b2
    have kd := OAt.kind O2
    clear hD b0 b1 b2 O1 C1 K1 O2 C2 K2 hw2 hv hvb hB
    go_enter Tryd.func30, Tryd.ntmps30
    go_wp2_with ((with_reducible refine at_ops ?_); (first | (refine wpList_load_is (by rfl) 39 rfl rfl L0.out ?_) | (refine wpList_alloc_is (by rfl) 39 rfl A0.out ?_) | (refine wpList_store_is (by rfl) 39 rfl rfl rfl S0.out ?_) | (refine wpList_load_is (by rfl) 39 rfl rfl L1.out ?_) | (refine wpList_store_is (by rfl) 39 rfl rfl rfl S1.out ?_)); simp only [Act.put, List.setIfInBounds_toArray, List.set_cons_zero, List.set_cons_succ])
    clear c41 kd L0 A0 S0 L1 S1 ew sz0
    obtain ⟨X, hX⟩ : ∃ X, X = alS o n ws d := ⟨_, rfl⟩
    obtain ⟨L, hL⟩ : ∃ L, L = X.1.length := ⟨_, rfl⟩
    have HX : Hid (X = alS o n ws d) := hX
    have HXL : Hid (L = X.1.length ∧ ∀ l ∈ X.1, l.length = 32) := ⟨hL, by rw [hX]; exact alS_each _ _ _ _⟩
    have hL64 : L ≤ 64 := by rw [hL, hX]; exact alS_length _ _ _ _
    have H0 : Hid (LS w w2 R B g p r n s o d ws m) := ⟨HD.out, HS.out.cfg, HF.out.2.2, HB.out.mono HBB.out, Nat.le_trans HBB.out HB.out.size⟩
    clear HD HS HF HB hX hL vt vw tl wl
    go_loopw [10] (fun i wr => ∃ k : Nat, k ≤ 2 ∧ i = .int .i64 k ∧ Hid (∃ R m', m' ≤ m + k ∧ LS w wr R B g p r n s o d ws m')) (fun i _ => 2 - (intOf i).toNat)
    case atStart => exact ⟨0, by omega, rfl, R, m, by omega, H0.out⟩
    case round =>
      obtain ⟨k, hk2, rfl, HL⟩ := hrel
      clear H0
      obtain ⟨Rr, mr, hmr, hL⟩ := HL.out
      have HLS : Hid (LS w wr Rr B g p r n s o d ws mr) := hL
      clear HL hL
      by_cases hlt : k < 2
      · have i1 : (k : Int) < 2 := by omega
        obtain ⟨vt, vw, tl, wl, hk0, ht0⟩ := HLS.out.dk.desk
        obtain ⟨pt, ct, rfl, _⟩ := own_slice ht0.told
        obtain ⟨pw, cw, rfl, _⟩ := own_slice ht0.want
        have HK : Hid (KAt wr g p r s (.slice pt mr ct) (.slice pw mr cw)) := hk0
        have HT : Hid (TD wr Rr mr (.slice pt mr ct) (.slice pw mr cw) tl wl) := ht0
        clear hk0 ht0
        go_wp2_with fail
        refine wp_region_noPanic ?_
        refine wp_region_held_drew (S := (fun w' => KAt w' g p r s (.slice pt mr ct) (.slice pw mr cw) ∧ CAt w' (w.heap.size + 1) o)) (by kernel_rfl) ⟨HK.out.drew, HLS.out.cfg.drew⟩ (fun hHeld => ?_)
        have Ba : Hid (Below wr.heap.size wr wr.drew) := below_drawn 1
        generalize wr.drew = wa at *
        refine wpAnyH_take (i := 0) (v := ?va54) (by simp; rfl) (by kernel_rfl) (by kernel_rfl) (by kernel_rfl) (fun _ _ _ h => h) (Or.inl ⟨by rfl, ?ya54⟩) hHeld ?ra54
        case ya54 => intro w hSw; clear hSw; go_simp; with_reducible rfl
        simp only [Act.put, List.setIfInBounds_toArray, List.set_cons_zero, List.set_cons_succ]
        refine wpAnyH_take (i := 1) (v := ?va55) (by simp; rfl) (by kernel_rfl) (by kernel_rfl) (by kernel_rfl) (fun _ _ _ h => h) (Or.inl ⟨by rfl, ?ya55⟩) hHeld ?ra55
        case ya55 => intro w hSw; clear hSw; go_simp; with_reducible rfl
        simp only [Act.put, List.setIfInBounds_toArray, List.set_cons_zero, List.set_cons_succ]
        refine wpAnyH_take (i := 2) (v := ?va56) (by simp; rfl) (by kernel_rfl) (by kernel_rfl) (by kernel_rfl) (fun _ _ _ h => h) (Or.inl ⟨by rfl, ?ya56⟩) hHeld ?ra56
        case ya56 => intro w hSw; clear hSw; go_simp; with_reducible rfl
        simp only [Act.put, List.setIfInBounds_toArray, List.set_cons_zero, List.set_cons_succ]
        refine wpAnyH_take (i := 3) (v := ?va57) (by simp; rfl) (by kernel_rfl) (by kernel_rfl) (by kernel_rfl) (fun _ _ _ h => h) (Or.inl ⟨by rfl, ?ya57⟩) hHeld ?ra57
        case ya57 => intro w hSw; have z := KAt.c0 hSw.1; clear hSw; go_simp; with_reducible rfl
        simp only [Act.put, List.setIfInBounds_toArray, List.set_cons_zero, List.set_cons_succ]
        refine wpAnyH_take (i := 4) (v := _) (by simp; rfl) (by kernel_rfl) (by kernel_rfl) (by kernel_rfl) (fun _ _ _ h => h) (yieldsIf_load_mid (by rfl) 39 (.tmp 5) rfl (w.heap.size + 1) 0 rfl (ccells o) _ (fun _ h => LAt.range h.2) Tryd.underlying39 rfl (by rw [size23, ccells_len])) hHeld ?_
        simp only [Act.put, List.setIfInBounds_toArray, List.set_cons_zero, List.set_cons_succ]
        refine wpAnyH_ready (rs := [5]) (by kernel_rfl) (by simp) ?_
        refine AllReadyH.cons (by simp; rfl) (fun Kc hKc => ?_) AllReadyH.nil
        go_simp
        refine (hall_any o (HLS.out.dk.later Ba.out).dsk (HLS.out.dk.later Ba.out).tab).mono ?_
        rintro e we ⟨qa, ca, rfl, oa, be⟩
        rw [← HX.out] at oa ⊢
        rw [← HXL.out.1] at oa ⊢
        have Be : Hid (Below wr.heap.size wr we) := below_then Ba.out be
        have OA : Hid (we.ownsRow wr.heap.size 23 32 (.slice qa L ca) L (VC X.1)) := own_mono oa Ba.out.size
        clear oa be Ba hHeld
        refine hKc.out _ _ ⟨LAt.later HK.out Be.out, LAt.later HLS.out.cfg Be.out⟩ (fun hHeld => ?_)
        clear hKc Kc
        refine wpAnyH_take (i := 6) (v := ?va58) (by simp; rfl) (by kernel_rfl) (by kernel_rfl) (by kernel_rfl) (fun _ _ _ h => h) (Or.inl ⟨by rfl, ?ya58⟩) hHeld ?ra58
        case ya58 => intro w hSw; clear hSw; go_simp; with_reducible rfl
        simp only [Act.put, List.setIfInBounds_toArray, List.set_cons_zero, List.set_cons_succ]
        refine wpAnyH_take (i := 7) (v := ?va59) (by simp; rfl) (by kernel_rfl) (by kernel_rfl) (by kernel_rfl) (fun _ _ _ h => h) (Or.inl ⟨by rfl, ?ya59⟩) hHeld ?ra59
        case ya59 => intro w hSw; clear hSw; go_simp; with_reducible rfl
        simp only [Act.put, List.setIfInBounds_toArray, List.set_cons_zero, List.set_cons_succ]
        refine wpAnyH_take (i := 8) (v := ?va60) (by simp; rfl) (by kernel_rfl) (by kernel_rfl) (by kernel_rfl) (fun _ _ _ h => h) (Or.inl ⟨by rfl, ?ya60⟩) hHeld ?ra60
        case ya60 => intro w hSw; clear hSw; go_simp; with_reducible rfl
        simp only [Act.put, List.setIfInBounds_toArray, List.set_cons_zero, List.set_cons_succ]
        refine wpAnyH_take (i := 9) (v := ?va61) (by simp; rfl) (by kernel_rfl) (by kernel_rfl) (by kernel_rfl) (fun _ _ _ h => h) (Or.inl ⟨by rfl, ?ya61⟩) hHeld ?ra61
        case ya61 => intro w hSw; clear hSw; go_simp; with_reducible rfl
        simp only [Act.put, List.setIfInBounds_toArray, List.set_cons_zero, List.set_cons_succ]
        refine wpAnyH_take (i := 10) (v := ?va62) (by simp; rfl) (by kernel_rfl) (by kernel_rfl) (by kernel_rfl) (fun _ _ _ h => h) (Or.inl ⟨by rfl, ?ya62⟩) hHeld ?ra62
        case ya62 => intro w hSw; clear hSw; go_simp; with_reducible rfl
        simp only [Act.put, List.setIfInBounds_toArray, List.set_cons_zero, List.set_cons_succ]
        clear hHeld
        refine wpAnyH_done (by kernel_rfl) (NoPanic.normal ?_) _
        go_wp2_with fail
        refine wp_region_noPanic ?_
        refine wp_region_held_drew (S := (fun w' => KAt w' g p r s (.slice pt mr ct) (.slice pw mr cw) ∧ CAt w' (w.heap.size + 1) o)) (by kernel_rfl) ⟨(LAt.later HK.out Be.out).drew, (LAt.later HLS.out.cfg Be.out).drew⟩ (fun hHeld => ?_)
        have Bf : Hid (Below wr.heap.size wr we.drew) := below_then Be.out (below_drawn 1)
        have OAf : Hid (we.drew.ownsRow wr.heap.size 23 32 (.slice qa L ca) L (VC X.1)) := own_later OA.out (below_drawn 1)
        clear Be OA
        generalize we.drew = wf at *
        refine wpAnyH_take (i := 0) (v := ?va63) (by simp; rfl) (by kernel_rfl) (by kernel_rfl) (by kernel_rfl) (fun _ _ _ h => h) (Or.inl ⟨by rfl, ?ya63⟩) hHeld ?ra63
        case ya63 => intro w hSw; clear hSw; go_simp; with_reducible rfl
        simp only [Act.put, List.setIfInBounds_toArray, List.set_cons_zero, List.set_cons_succ]
        refine wpAnyH_take (i := 1) (v := ?va64) (by simp; rfl) (by kernel_rfl) (by kernel_rfl) (by kernel_rfl) (fun _ _ _ h => h) (Or.inl ⟨by rfl, ?ya64⟩) hHeld ?ra64
        case ya64 => intro w hSw; clear hSw; go_simp; with_reducible rfl
        simp only [Act.put, List.setIfInBounds_toArray, List.set_cons_zero, List.set_cons_succ]
        refine wpAnyH_take (i := 2) (v := ?va65) (by simp; rfl) (by kernel_rfl) (by kernel_rfl) (by kernel_rfl) (fun _ _ _ h => h) (Or.inl ⟨by rfl, ?ya65⟩) hHeld ?ra65
        case ya65 => intro w hSw; clear hSw; go_simp; with_reducible rfl
        simp only [Act.put, List.setIfInBounds_toArray, List.set_cons_zero, List.set_cons_succ]
        refine wpAnyH_take (i := 3) (v := ?va66) (by simp; rfl) (by kernel_rfl) (by kernel_rfl) (by kernel_rfl) (fun _ _ _ h => h) (Or.inl ⟨by rfl, ?ya66⟩) hHeld ?ra66
        case ya66 => intro w hSw; have z := KAt.c1 hSw.1; clear hSw; go_simp; with_reducible rfl
        simp only [Act.put, List.setIfInBounds_toArray, List.set_cons_zero, List.set_cons_succ]
        refine wpAnyH_take (i := 4) (v := _) (by simp; rfl) (by kernel_rfl) (by kernel_rfl) (by kernel_rfl) (fun _ _ _ h => h) (yieldsIf_load_mid (by rfl) 39 (.tmp 5) rfl (w.heap.size + 1) 0 rfl (ccells o) _ (fun _ h => LAt.range h.2) Tryd.underlying39 rfl (by rw [size23, ccells_len])) hHeld ?_
        simp only [Act.put, List.setIfInBounds_toArray, List.set_cons_zero, List.set_cons_succ]
        refine wpAnyH_ready (rs := [5]) (by kernel_rfl) (by simp) ?_
        refine AllReadyH.cons (by simp; rfl) (fun Kc hKc => ?_) AllReadyH.nil
        go_simp
        refine (rall_any o (HLS.out.dk.later Bf.out).ref (by omega)).mono ?_
        rintro e wg ⟨qb, cb, rfl, ob, bg⟩
        rw [← HX.out] at ob ⊢
        rw [← HXL.out.1] at ob ⊢
        have Bg : Hid (Below wr.heap.size wr wg) := below_then Bf.out bg
        have OB : Hid (wg.ownsRow wf.heap.size 23 32 (.slice qb L cb) L (VC X.1)) := ob
        have OA2 : Hid (wg.ownsRow wr.heap.size 23 32 (.slice qa L ca) L (VC X.1)) := own_later OAf.out bg
        have HUV : Hid ((∀ k, Value.ownBlock (.slice qa L ca) = some k → wr.heap.size ≤ k) ∧ (∀ k, Value.ownBlock (.slice qb L cb) = some k → wr.heap.size ≤ k) ∧ (∀ k, Value.ownBlock (.slice qa L ca) = some k → Value.ownBlock (.slice qb L cb) = some k → False)) := by
          have h1 : ∀ k, Value.ownBlock (.slice qb L cb) = some k → wf.heap.size ≤ k := fun k hk => own_ge ob hk
          exact ⟨fun k hk => own_ge OAf.out hk, fun k hk => Nat.le_trans Bf.out.size (h1 k hk), fun k hk hk2 => by have := own_lt OAf.out hk; have := h1 k hk2; omega⟩
        clear ob bg Bf OAf hHeld
        refine hKc.out _ _ ⟨LAt.later HK.out Bg.out, LAt.later HLS.out.cfg Bg.out⟩ (fun hHeld => ?_)
        clear hKc Kc
        refine wpAnyH_take (i := 6) (v := ?va67) (by simp; rfl) (by kernel_rfl) (by kernel_rfl) (by kernel_rfl) (fun _ _ _ h => h) (Or.inl ⟨by rfl, ?ya67⟩) hHeld ?ra67
        case ya67 => intro w hSw; clear hSw; go_simp; with_reducible rfl
        simp only [Act.put, List.setIfInBounds_toArray, List.set_cons_zero, List.set_cons_succ]
        refine wpAnyH_take (i := 7) (v := ?va68) (by simp; rfl) (by kernel_rfl) (by kernel_rfl) (by kernel_rfl) (fun _ _ _ h => h) (Or.inl ⟨by rfl, ?ya68⟩) hHeld ?ra68
        case ya68 => intro w hSw; clear hSw; go_simp; with_reducible rfl
        simp only [Act.put, List.setIfInBounds_toArray, List.set_cons_zero, List.set_cons_succ]
        refine wpAnyH_take (i := 8) (v := ?va69) (by simp; rfl) (by kernel_rfl) (by kernel_rfl) (by kernel_rfl) (fun _ _ _ h => h) (Or.inl ⟨by rfl, ?ya69⟩) hHeld ?ra69
        case ya69 => intro w hSw; clear hSw; go_simp; with_reducible rfl
        simp only [Act.put, List.setIfInBounds_toArray, List.set_cons_zero, List.set_cons_succ]
        refine wpAnyH_take (i := 9) (v := ?va70) (by simp; rfl) (by kernel_rfl) (by kernel_rfl) (by kernel_rfl) (fun _ _ _ h => h) (Or.inl ⟨by rfl, ?ya70⟩) hHeld ?ra70
        case ya70 => intro w hSw; clear hSw; go_simp; with_reducible rfl
        simp only [Act.put, List.setIfInBounds_toArray, List.set_cons_zero, List.set_cons_succ]
        refine wpAnyH_take (i := 10) (v := ?va71) (by simp; rfl) (by kernel_rfl) (by kernel_rfl) (by kernel_rfl) (fun _ _ _ h => h) (Or.inl ⟨by rfl, ?ya71⟩) hHeld ?ra71
        case ya71 => intro w hSw; clear hSw; go_simp; with_reducible rfl
        simp only [Act.put, List.setIfInBounds_toArray, List.set_cons_zero, List.set_cons_succ]
        clear hHeld
        refine wpAnyH_done (by kernel_rfl) (NoPanic.normal ?_) _
        go_wp2_with fail
        refine (same_vals qa qb L L ca cb X.1 X.1 wg (VIn.of_own OA2.out HXL.out.2 HXL.out.1.symm) (VIn.of_own OB.out HXL.out.2 HXL.out.1.symm) (by omega)).mono ?_
        rintro e wh ⟨rfl, bh⟩
        rw [decide_eq_true rfl]
        have Bh : Hid (Below wr.heap.size wr wh) := below_then Bg.out bh
        have HPh : Hid (wh.ownsRow 0 23 32 (.slice qa L ca) L (VC X.1) ∧ wh.ownsRow 0 23 32 (.slice qb L cb) L (VC X.1)) := ⟨own_mono (own_later OA2.out bh) (Nat.zero_le _), own_mono (own_later OB.out bh) (Nat.zero_le _)⟩
        have hee : (X.2 != X.2) = false := by simp
        clear bh Bg OA2 OB
        go_wp2_with fail
        clear hee
        refine wp_region_noPanic ?_
        refine wp_region_last 21 (fun w' => w'.cell? ⟨g, 8, none⟩ = some (.slice pw mr cw)) (by kernel_rfl) ?_
        have HBb : Hid (Below wr.heap.size wr wh.drew) := below_then Bh.out (below_drawn 1)
        have HPb : Hid (∃ (q : Option Addr) (n c : Nat) (q2 : Option Addr) (c2 : Nat) (vs : List (List Int)), Value.slice qa L ca = .slice q n c ∧ Value.slice qb L cb = .slice q2 n c2 ∧ n ≤ 64 ∧ vs.length = n ∧ (∀ l ∈ vs, l.length = 32) ∧ wh.drew.ownsRow 0 23 32 (.slice q n c) n (VC vs) ∧ wh.drew.ownsRow 0 23 32 (.slice q2 n c2) n (VC vs)) := ⟨qa, L, ca, qb, cb, X.1, rfl, rfl, hL64, HXL.out.1.symm, HXL.out.2, own_later HPh.out.1 (below_drawn 1), own_later HPh.out.2 (below_drawn 1)⟩
        clear Bh HPh
        generalize wh.drew = wb at *
        have HKb : Hid (KAt wb g p r s (.slice pt mr ct) (.slice pw mr cw)) := LAt.later HK.out HBb.out
        have HTb : Hid (TD wb Rr mr (.slice pt mr ct) (.slice pw mr cw) tl wl) := HT.out.move (fun _ _ => rfl) (fun k hk _ => HBb.out.block k hk)
        have HNG : Hid (¬ Value.ownBlock (.slice pt mr ct) = some g ∧ ¬ Value.ownBlock (.slice pw mr cw) = some g ∧ ∀ k, Value.ownBlock (.slice pt mr ct) = some k → Value.ownBlock (.slice pw mr cw) = some k → False) := by
          have rg := HLS.out.dk.rg
          exact ⟨fun c => by have := HTb.out.rt g c; omega, fun c => by have := HTb.out.rw g c; omega, fun k c1 c2 => by have := HTb.out.rt k c1; have := HTb.out.rw k c2; omega⟩
        have HAwb : Hid (Below wb.heap.size wb wb) := Below.refl _ _
        have hHeld := KAt.c8 HKb.out
        clear HK HT
        generalize X.2 = x2 at *
        refine wpAnyL_take (i := 0) (v := ?va72) (by simp; rfl) (by kernel_rfl) (by kernel_rfl) (by kernel_rfl) (by kernel_rfl) (fun _ _ _ h => h) (Or.inl ⟨by rfl, ?ya72⟩) hHeld ?ra72
        case ya72 => intro w hSw; clear hSw; go_simp; with_reducible rfl
        simp only [Act.put, List.setIfInBounds_toArray, List.set_cons_zero, List.set_cons_succ]
        refine wpAnyL_take (i := 1) (v := ?va73) (by simp; rfl) (by kernel_rfl) (by kernel_rfl) (by kernel_rfl) (by kernel_rfl) (fun _ _ _ h => h) (Or.inl ⟨by rfl, ?ya73⟩) hHeld ?ra73
        case ya73 => intro w hSw; clear hSw; go_simp; with_reducible rfl
        simp only [Act.put, List.setIfInBounds_toArray, List.set_cons_zero, List.set_cons_succ]
        refine wpAnyL_take (i := 2) (v := ?va74) (by simp; rfl) (by kernel_rfl) (by kernel_rfl) (by kernel_rfl) (by kernel_rfl) (fun _ _ _ h => h) (Or.inl ⟨by rfl, ?ya74⟩) hHeld ?ra74
        case ya74 => intro w hSw; clear hSw; go_simp; with_reducible rfl
        simp only [Act.put, List.setIfInBounds_toArray, List.set_cons_zero, List.set_cons_succ]
        refine wpAnyL_take (i := 3) (v := ?va75) (by simp; rfl) (by kernel_rfl) (by kernel_rfl) (by kernel_rfl) (by kernel_rfl) (fun _ _ _ h => h) (Or.inl ⟨by rfl, ?ya75⟩) hHeld ?ra75
        case ya75 => intro w hSw; clear hSw; go_simp; with_reducible rfl
        simp only [Act.put, List.setIfInBounds_toArray, List.set_cons_zero, List.set_cons_succ]
        refine wpAnyL_take (i := 4) (v := ?va76) (by simp; rfl) (by kernel_rfl) (by kernel_rfl) (by kernel_rfl) (by kernel_rfl) (fun _ _ _ h => h) (Or.inl ⟨by rfl, ?ya76⟩) hHeld ?ra76
        case ya76 => intro w hSw; clear hSw; go_simp; with_reducible rfl
        simp only [Act.put, List.setIfInBounds_toArray, List.set_cons_zero, List.set_cons_succ]
        refine wpAnyL_take (i := 6) (v := ?va77) (by simp; rfl) (by kernel_rfl) (by kernel_rfl) (by kernel_rfl) (by kernel_rfl) (fun _ _ _ h => h) (Or.inl ⟨by rfl, ?ya77⟩) hHeld ?ra77
        case ya77 => intro w hSw; clear hSw; go_simp; with_reducible rfl
        simp only [Act.put, List.setIfInBounds_toArray, List.set_cons_zero, List.set_cons_succ]
        refine wpAnyL_take (i := 9) (v := ?va78) (by simp; rfl) (by kernel_rfl) (by kernel_rfl) (by kernel_rfl) (by kernel_rfl) (fun _ _ _ h => h) (Or.inl ⟨by rfl, ?ya78⟩) hHeld ?ra78
        case ya78 => intro w hSw; clear hSw; go_simp; with_reducible rfl
        simp only [Act.put, List.setIfInBounds_toArray, List.set_cons_zero, List.set_cons_succ]
        refine wpAnyL_take (i := 10) (v := ?va79) (by simp; rfl) (by kernel_rfl) (by kernel_rfl) (by kernel_rfl) (by kernel_rfl) (fun _ _ _ h => h) (Or.inl ⟨by rfl, ?ya79⟩) hHeld ?ra79
        case ya79 => intro w hSw; clear hSw; go_simp; with_reducible rfl
        simp only [Act.put, List.setIfInBounds_toArray, List.set_cons_zero, List.set_cons_succ]
        refine wpAnyL_take (i := 11) (v := ?va80) (by simp; rfl) (by kernel_rfl) (by kernel_rfl) (by kernel_rfl) (by kernel_rfl) (fun _ _ _ h => h) (Or.inl ⟨by rfl, ?ya80⟩) hHeld ?ra80
        case ya80 => intro w hSw; clear hSw; go_simp; with_reducible rfl
        simp only [Act.put, List.setIfInBounds_toArray, List.set_cons_zero, List.set_cons_succ]
        refine wpAnyL_take (i := 12) (v := ?va81) (by simp; rfl) (by kernel_rfl) (by kernel_rfl) (by kernel_rfl) (by kernel_rfl) (fun _ _ _ h => h) (Or.inl ⟨by rfl, ?ya81⟩) hHeld ?ra81
        case ya81 => intro w hSw; go_simp; with_reducible rfl
        simp only [Act.put, List.setIfInBounds_toArray, List.set_cons_zero, List.set_cons_succ]
        refine wpAnyL_take (i := 13) (v := ?va82) (by simp; rfl) (by kernel_rfl) (by kernel_rfl) (by kernel_rfl) (by kernel_rfl) (fun _ _ _ h => h) (Or.inl ⟨by rfl, ?ya82⟩) hHeld ?ra82
        case ya82 => intro w hSw; clear hSw; go_simp; with_reducible rfl
        simp only [Act.put, List.setIfInBounds_toArray, List.set_cons_zero, List.set_cons_succ]
        refine wpAnyL_ready (rs := [5, 7, 14]) (by kernel_rfl) (by simp) ?_
        refine AllReadyL.cons (by simp; rfl) (fun Kc hKc => ?_) (AllReadyL.cons (by simp; rfl) (fun Kc hKc => ?_) (AllReadyL.cons (by simp; rfl) (fun Kc hKc => ?_) AllReadyL.nil))
        · have z7 := KAt.c7 (LAt.later HKb.out HAwb.out)
          go_simp
          refine hKc.out _ _ (fun _ => hHeld) ?_
          clear hKc Kc z7
          refine wpAnyL_ready (rs := [7, 14]) (by kernel_rfl) (by simp) ?_
          refine AllReadyL.cons (by simp; rfl) (fun Kc hKc => ?_) (AllReadyL.cons (by simp; rfl) (fun Kc hKc => ?_) AllReadyL.nil)
          · go_simp
            have HAv1 : Hid (Below wb.heap.size wb (wb.alloc (.cells #[.slice qa L ca] 41))) := below_then HAwb.out (below_alloc _ _)
            have hH : (wb.alloc (.cells #[.slice qa L ca] 41)).cell? ⟨g, 8, none⟩ = some (.slice pw mr cw) := KAt.c8 (LAt.later HKb.out HAv1.out)
            have HN7v1 : Hid (LAt 41 (wb.alloc (.cells #[.slice qa L ca] 41)) wb.heap.size [.slice qa L ca]) := LAt.new 41 _ _
            have HZ7 : Hid (wb.heap.size ≤ wb.heap.size) := HAwb.out.size
            refine hKc.out _ (wb.alloc (.cells #[.slice qa L ca] 41)) (fun _ => hH) ?_
            clear HAwb
            clear hKc Kc hHeld
            have hHeld := hH
            clear hH
            generalize wb.alloc (.cells #[.slice qa L ca] 41) = v1 at *
            refine wpAnyL_ready (rs := [8, 14]) (by kernel_rfl) (by simp) ?_
            refine AllReadyL.cons (by simp; rfl) (fun Kc hKc => ?_) (AllReadyL.cons (by simp; rfl) (fun Kc hKc => ?_) AllReadyL.nil)
            · refine step_append_lies _ rfl (.tmp 123) (.tmp 125) 67 rfl 0 41 i41 (.slice none 0 0) 1 24 Tryd.underlying67 hi41 hz410 hz411 hz412 rfl (by omega) _ mr tl rfl (own_later HTb.out.told HAv1.out) ⟨wb.heap.size, 0, none⟩ 1 1 [.slice qa L ca] rfl rfl (news_of HN7v1.out) (one_sl _ _ _) (by omega) (by unfold maxLen; omega) (by omega) (Nat.zero_le _) _ rfl ?_
              intro g1 c1 v2 hown hgrow hat hlt
              have HTv2 : Hid (TB wb v2 mr (.slice pt mr ct) tl (.slice qa L ca) g1 c1) := TB.of HAv1.out hown hgrow hat
              have hH : v2.cell? ⟨g, 8, none⟩ = some (.slice pw mr cw) := KAt.c8 ((HTv2.out.kept.block g (LAt.lt HKb.out) HNG.out.1).trans HKb.out)
              refine hKc.out _ _ (fun _ => hH) ?_
              clear hown hgrow hat hlt HAv1 HN7v1 HZ7
              clear hKc Kc hHeld
              have hHeld := hH
              clear hH
              refine wpAnyL_ready (rs := [14]) (by kernel_rfl) (by simp) ?_
              refine AllReadyL.cons (by simp; rfl) (fun Kc hKc => ?_) AllReadyL.nil
              go_simp
              have HTv3 : Hid (TB wb (v2.alloc (.cells #[.slice qb L cb] 41)) mr (.slice pt mr ct) tl (.slice qa L ca) g1 c1) := HTv2.out.alloc _
              have hH : (v2.alloc (.cells #[.slice qb L cb] 41)).cell? ⟨g, 8, none⟩ = some (.slice pw mr cw) := KAt.c8 ((HTv3.out.kept.block g (LAt.lt HKb.out) HNG.out.1).trans HKb.out)
              have HN14v3 : Hid (LAt 41 (v2.alloc (.cells #[.slice qb L cb] 41)) v2.heap.size [.slice qb L cb]) := LAt.new 41 _ _
              have HZ14 : Hid (wb.heap.size ≤ v2.heap.size) := HTv2.out.kept.size
              refine hKc.out _ (v2.alloc (.cells #[.slice qb L cb] 41)) (fun _ => hH) ?_
              clear HTv2
              clear hKc Kc hHeld
              have hHeld := hH
              clear hH
              generalize v2.alloc (.cells #[.slice qb L cb] 41) = v3 at *
              refine wpAnyL_ready (rs := [15]) (by kernel_rfl) (by simp) ?_
              refine AllReadyL.cons (by simp; rfl) (fun Kc hKc => ?_) AllReadyL.nil
              refine step_append_lies _ rfl (.tmp 130) (.tmp 132) 67 rfl 0 41 i41 (.slice none 0 0) 1 24 Tryd.underlying67 hi41 hz410 hz411 hz412 rfl (by omega) _ mr wl rfl (own_same HTb.out.want (fun k hk => HTv3.out.kept.block k (own_lt HTb.out.want hk) (fun c => HNG.out.2.2 k c hk))) ⟨v2.heap.size, 0, none⟩ 1 1 [.slice qb L cb] rfl rfl (news_of HN14v3.out) (one_sl _ _ _) (by omega) (by unfold maxLen; omega) (by omega) (Nat.zero_le _) _ rfl ?_
              intro g2 c2 v4 hown hgrow hat hlt
              have HCv4 : Hid (TC wb v4 mr (.slice pt mr ct) (.slice pw mr cw) tl wl (.slice qa L ca) (.slice qb L cb) g1 c1 g2 c2) := TC.of HTv3.out hown hgrow hat HNG.out.2.2 (fun k hk => own_lt HTb.out.want hk)
              have Kw : KAt v4 g p r s (.slice pt mr ct) (.slice pw mr cw) := (HCv4.out.kept.block g (LAt.lt HKb.out) (fun c => c.elim HNG.out.1 HNG.out.2.1)).trans HKb.out
              have hH : v4.cell? ⟨g, 8, none⟩ = some (.slice pw mr cw) := KAt.c8 Kw
              refine hKc.out _ _ (fun _ => hH) ?_
              clear hown hgrow hat hlt HTv3 HN14v3 HZ14
              clear hKc Kc hHeld
              have hHeld := hH
              clear hH
              refine wpAnyL_take (i := 16) (v := ?va83) (by simp; rfl) (by kernel_rfl) (by kernel_rfl) (by kernel_rfl) (by kernel_rfl) (fun _ _ _ h => h) (Or.inl ⟨by rfl, ?ya83⟩) hHeld ?ra83
              case ya83 => intro w hSw; clear hSw; go_simp; with_reducible rfl
              simp only [Act.put, List.setIfInBounds_toArray, List.set_cons_zero, List.set_cons_succ]
              refine wpAnyL_take (i := 17) (v := ?va84) (by simp; rfl) (by kernel_rfl) (by kernel_rfl) (by kernel_rfl) (by kernel_rfl) (fun _ _ _ h => h) (Or.inl ⟨by rfl, ?ya84⟩) hHeld ?ra84
              case ya84 => intro w hSw; clear hSw; go_simp; with_reducible rfl
              simp only [Act.put, List.setIfInBounds_toArray, List.set_cons_zero, List.set_cons_succ]
              refine wpAnyL_ready (rs := [18]) (by kernel_rfl) (by simp) ?_
              refine AllReadyL.cons (by simp; rfl) (fun Kc hKc => ?_) AllReadyL.nil
              have f7 := frozen_of_row v4 g 7 _ 69 Kw
              have c7 := KAt.c7 Kw
              go_simp
              have Kx : KAt (v4.setCell ⟨g, 7, none⟩ (.slice (some ⟨g1, 0, none⟩) (mr + 1) c1)) g p r s (.slice (some ⟨g1, 0, none⟩) (mr + 1) c1) (.slice pw mr cw) := LAt.set Kw 7 _
              have hH := KAt.c8 Kx
              refine hKc.out _ (v4.setCell ⟨g, 7, none⟩ (.slice (some ⟨g1, 0, none⟩) (mr + 1) c1)) (fun _ => hH) ?_
              clear f7 c7 Kw
              clear hKc Kc hHeld
              have hHeld := hH
              clear hH
              refine wpAnyL_ready (rs := [19]) (by kernel_rfl) (by simp) ?_
              refine AllReadyL.cons (by simp; rfl) (fun Kc hKc => ?_) AllReadyL.nil
              go_simp
              refine hKc.out _ _ (fun _ => hHeld) ?_
              clear hKc Kc
              refine wpAnyL_take (i := 20) (v := ?va85) (by simp; rfl) (by kernel_rfl) (by kernel_rfl) (by kernel_rfl) (by kernel_rfl) (fun _ _ _ h => h) (Or.inl ⟨by rfl, ?ya85⟩) hHeld ?ra85
              case ya85 => intro w hSw; clear hSw; go_simp; with_reducible rfl
              simp only [Act.put, List.setIfInBounds_toArray, List.set_cons_zero, List.set_cons_succ]
              refine wpAnyL_ready (rs := [21]) (by kernel_rfl) (by simp) ?_
              refine AllReadyL.cons (by simp; rfl) (fun Kc hKc => ?_) AllReadyL.nil
              have f8 := frozen_of_row (v4.setCell ⟨g, 7, none⟩ (.slice (some ⟨g1, 0, none⟩) (mr + 1) c1)) g 8 _ 69 Kx
              have c8 := KAt.c8 Kx
              go_simp
              have HN : Hid (∃ R', LS w ((v4.setCell ⟨g, 7, none⟩ (.slice (some ⟨g1, 0, none⟩) (mr + 1) c1)).setCell ⟨g, 8, none⟩ (.slice (some ⟨g2, 0, none⟩) (mr + 1) c2)) R' B g p r n s o d ws (mr + 1)) := HLS.out.tell HBb.out HKb.out HTb.out HCv4.out HPb.out HUV.out.1 HUV.out.2.1 HUV.out.2.2
              refine hKc.out _ ((v4.setCell ⟨g, 7, none⟩ (.slice (some ⟨g1, 0, none⟩) (mr + 1) c1)).setCell ⟨g, 8, none⟩ (.slice (some ⟨g2, 0, none⟩) (mr + 1) c2)) (fun h => absurd rfl h) ?_
              clear hKc Kc hHeld f8 c8 Kx HCv4
              generalize (v4.setCell ⟨g, 7, none⟩ (.slice (some ⟨g1, 0, none⟩) (mr + 1) c1)).setCell ⟨g, 8, none⟩ (.slice (some ⟨g2, 0, none⟩) (mr + 1) c2) = wz at *
              refine wpAnyL_done (by kernel_rfl) (NoPanic.normal ?_) _
              go_wp2_with fail
              go_roundw
              case rel => exact ⟨k + 1, by omega, by go_num, HN.out.elim fun R' hR' => ⟨R', mr + 1, by omega, hR'⟩⟩
              case measure => simp [intOf]; omega
            · go_simp
              have HAv2 : Hid (Below wb.heap.size wb (v1.alloc (.cells #[.slice qb L cb] 41))) := below_then HAv1.out (below_alloc _ _)
              have hH : (v1.alloc (.cells #[.slice qb L cb] 41)).cell? ⟨g, 8, none⟩ = some (.slice pw mr cw) := KAt.c8 (LAt.later HKb.out HAv2.out)
              have HN14v2 : Hid (LAt 41 (v1.alloc (.cells #[.slice qb L cb] 41)) v1.heap.size [.slice qb L cb]) := LAt.new 41 _ _
              have HZ14 : Hid (wb.heap.size ≤ v1.heap.size) := HAv1.out.size
              have HN7v2 : Hid (LAt 41 (v1.alloc (.cells #[.slice qb L cb] 41)) wb.heap.size [.slice qa L ca]) := LAt.later HN7v1.out (below_alloc _ _)
              refine hKc.out _ (v1.alloc (.cells #[.slice qb L cb] 41)) (fun _ => hH) ?_
              clear HAv1 HN7v1
              clear hKc Kc hHeld
              have hHeld := hH
              clear hH
              generalize v1.alloc (.cells #[.slice qb L cb] 41) = v2 at *
              refine wpAnyL_ready (rs := [8]) (by kernel_rfl) (by simp) ?_
              refine AllReadyL.cons (by simp; rfl) (fun Kc hKc => ?_) AllReadyL.nil
              refine step_append_lies _ rfl (.tmp 123) (.tmp 125) 67 rfl 0 41 i41 (.slice none 0 0) 1 24 Tryd.underlying67 hi41 hz410 hz411 hz412 rfl (by omega) _ mr tl rfl (own_later HTb.out.told HAv2.out) ⟨wb.heap.size, 0, none⟩ 1 1 [.slice qa L ca] rfl rfl (news_of HN7v2.out) (one_sl _ _ _) (by omega) (by unfold maxLen; omega) (by omega) (Nat.zero_le _) _ rfl ?_
              intro g1 c1 v3 hown hgrow hat hlt
              have HTv3 : Hid (TB wb v3 mr (.slice pt mr ct) tl (.slice qa L ca) g1 c1) := TB.of HAv2.out hown hgrow hat
              have hH : v3.cell? ⟨g, 8, none⟩ = some (.slice pw mr cw) := KAt.c8 ((HTv3.out.kept.block g (LAt.lt HKb.out) HNG.out.1).trans HKb.out)
              have HN14v3 : Hid (LAt 41 v3 v1.heap.size [.slice qb L cb]) := (hgrow.block _ (LAt.lt HN14v2.out) (fun e => by have h1 := own_lt HTb.out.told e.symm; have h2 := HZ14.out; omega)).trans HN14v2.out
              refine hKc.out _ _ (fun _ => hH) ?_
              clear hown hgrow hat hlt HAv2 HN7v2 HZ7 HN14v2
              clear hKc Kc hHeld
              have hHeld := hH
              clear hH
              refine wpAnyL_ready (rs := [15]) (by kernel_rfl) (by simp) ?_
              refine AllReadyL.cons (by simp; rfl) (fun Kc hKc => ?_) AllReadyL.nil
              refine step_append_lies _ rfl (.tmp 130) (.tmp 132) 67 rfl 0 41 i41 (.slice none 0 0) 1 24 Tryd.underlying67 hi41 hz410 hz411 hz412 rfl (by omega) _ mr wl rfl (own_same HTb.out.want (fun k hk => HTv3.out.kept.block k (own_lt HTb.out.want hk) (fun c => HNG.out.2.2 k c hk))) ⟨v1.heap.size, 0, none⟩ 1 1 [.slice qb L cb] rfl rfl (news_of HN14v3.out) (one_sl _ _ _) (by omega) (by unfold maxLen; omega) (by omega) (Nat.zero_le _) _ rfl ?_
              intro g2 c2 v4 hown hgrow hat hlt
              have HCv4 : Hid (TC wb v4 mr (.slice pt mr ct) (.slice pw mr cw) tl wl (.slice qa L ca) (.slice qb L cb) g1 c1 g2 c2) := TC.of HTv3.out hown hgrow hat HNG.out.2.2 (fun k hk => own_lt HTb.out.want hk)
              have Kw : KAt v4 g p r s (.slice pt mr ct) (.slice pw mr cw) := (HCv4.out.kept.block g (LAt.lt HKb.out) (fun c => c.elim HNG.out.1 HNG.out.2.1)).trans HKb.out
              have hH : v4.cell? ⟨g, 8, none⟩ = some (.slice pw mr cw) := KAt.c8 Kw
              refine hKc.out _ _ (fun _ => hH) ?_
              clear hown hgrow hat hlt HTv3 HN14v3 HZ14
              clear hKc Kc hHeld
              have hHeld := hH
              clear hH
              refine wpAnyL_take (i := 16) (v := ?va86) (by simp; rfl) (by kernel_rfl) (by kernel_rfl) (by kernel_rfl) (by kernel_rfl) (fun _ _ _ h => h) (Or.inl ⟨by rfl, ?ya86⟩) hHeld ?ra86
              case ya86 => intro w hSw; clear hSw; go_simp; with_reducible rfl
              simp only [Act.put, List.setIfInBounds_toArray, List.set_cons_zero, List.set_cons_succ]
              refine wpAnyL_take (i := 17) (v := ?va87) (by simp; rfl) (by kernel_rfl) (by kernel_rfl) (by kernel_rfl) (by kernel_rfl) (fun _ _ _ h => h) (Or.inl ⟨by rfl, ?ya87⟩) hHeld ?ra87
              case ya87 => intro w hSw; clear hSw; go_simp; with_reducible rfl
              simp only [Act.put, List.setIfInBounds_toArray, List.set_cons_zero, List.set_cons_succ]
              refine wpAnyL_ready (rs := [18]) (by kernel_rfl) (by simp) ?_
              refine AllReadyL.cons (by simp; rfl) (fun Kc hKc => ?_) AllReadyL.nil
              have f7 := frozen_of_row v4 g 7 _ 69 Kw
              have c7 := KAt.c7 Kw
              go_simp
              have Kx : KAt (v4.setCell ⟨g, 7, none⟩ (.slice (some ⟨g1, 0, none⟩) (mr + 1) c1)) g p r s (.slice (some ⟨g1, 0, none⟩) (mr + 1) c1) (.slice pw mr cw) := LAt.set Kw 7 _
              have hH := KAt.c8 Kx
              refine hKc.out _ (v4.setCell ⟨g, 7, none⟩ (.slice (some ⟨g1, 0, none⟩) (mr + 1) c1)) (fun _ => hH) ?_
              clear f7 c7 Kw
              clear hKc Kc hHeld
              have hHeld := hH
              clear hH
              refine wpAnyL_ready (rs := [19]) (by kernel_rfl) (by simp) ?_
              refine AllReadyL.cons (by simp; rfl) (fun Kc hKc => ?_) AllReadyL.nil
              go_simp
              refine hKc.out _ _ (fun _ => hHeld) ?_
              clear hKc Kc
              refine wpAnyL_take (i := 20) (v := ?va88) (by simp; rfl) (by kernel_rfl) (by kernel_rfl) (by kernel_rfl) (by kernel_rfl) (fun _ _ _ h => h) (Or.inl ⟨by rfl, ?ya88⟩) hHeld ?ra88
              case ya88 => intro w hSw; clear hSw; go_simp; with_reducible rfl
              simp only [Act.put, List.setIfInBounds_toArray, List.set_cons_zero, List.set_cons_succ]
              refine wpAnyL_ready (rs := [21]) (by kernel_rfl) (by simp) ?_
              refine AllReadyL.cons (by simp; rfl) (fun Kc hKc => ?_) AllReadyL.nil
              have f8 := frozen_of_row (v4.setCell ⟨g, 7, none⟩ (.slice (some ⟨g1, 0, none⟩) (mr + 1) c1)) g 8 _ 69 Kx
              have c8 := KAt.c8 Kx
              go_simp
              have HN : Hid (∃ R', LS w ((v4.setCell ⟨g, 7, none⟩ (.slice (some ⟨g1, 0, none⟩) (mr + 1) c1)).setCell ⟨g, 8, none⟩ (.slice (some ⟨g2, 0, none⟩) (mr + 1) c2)) R' B g p r n s o d ws (mr + 1)) := HLS.out.tell HBb.out HKb.out HTb.out HCv4.out HPb.out HUV.out.1 HUV.out.2.1 HUV.out.2.2
              refine hKc.out _ ((v4.setCell ⟨g, 7, none⟩ (.slice (some ⟨g1, 0, none⟩) (mr + 1) c1)).setCell ⟨g, 8, none⟩ (.slice (some ⟨g2, 0, none⟩) (mr + 1) c2)) (fun h => absurd rfl h) ?_
              clear hKc Kc hHeld f8 c8 Kx HCv4
              generalize (v4.setCell ⟨g, 7, none⟩ (.slice (some ⟨g1, 0, none⟩) (mr + 1) c1)).setCell ⟨g, 8, none⟩ (.slice (some ⟨g2, 0, none⟩) (mr + 1) c2) = wz at *
              refine wpAnyL_done (by kernel_rfl) (NoPanic.normal ?_) _
              go_wp2_with fail
              go_roundw
              case rel => exact ⟨k + 1, by omega, by go_num, HN.out.elim fun R' hR' => ⟨R', mr + 1, by omega, hR'⟩⟩
              case measure => simp [intOf]; omega
          · go_simp
            have HAv1 : Hid (Below wb.heap.size wb (wb.alloc (.cells #[.slice qb L cb] 41))) := below_then HAwb.out (below_alloc _ _)
            have hH : (wb.alloc (.cells #[.slice qb L cb] 41)).cell? ⟨g, 8, none⟩ = some (.slice pw mr cw) := KAt.c8 (LAt.later HKb.out HAv1.out)
            have HN14v1 : Hid (LAt 41 (wb.alloc (.cells #[.slice qb L cb] 41)) wb.heap.size [.slice qb L cb]) := LAt.new 41 _ _
            have HZ14 : Hid (wb.heap.size ≤ wb.heap.size) := HAwb.out.size
            refine hKc.out _ (wb.alloc (.cells #[.slice qb L cb] 41)) (fun _ => hH) ?_
            clear HAwb
            clear hKc Kc hHeld
            have hHeld := hH
            clear hH
            generalize wb.alloc (.cells #[.slice qb L cb] 41) = v1 at *
            refine wpAnyL_ready (rs := [7]) (by kernel_rfl) (by simp) ?_
            refine AllReadyL.cons (by simp; rfl) (fun Kc hKc => ?_) AllReadyL.nil
            go_simp
            have HAv2 : Hid (Below wb.heap.size wb (v1.alloc (.cells #[.slice qa L ca] 41))) := below_then HAv1.out (below_alloc _ _)
            have hH : (v1.alloc (.cells #[.slice qa L ca] 41)).cell? ⟨g, 8, none⟩ = some (.slice pw mr cw) := KAt.c8 (LAt.later HKb.out HAv2.out)
            have HN7v2 : Hid (LAt 41 (v1.alloc (.cells #[.slice qa L ca] 41)) v1.heap.size [.slice qa L ca]) := LAt.new 41 _ _
            have HZ7 : Hid (wb.heap.size ≤ v1.heap.size) := HAv1.out.size
            have HN14v2 : Hid (LAt 41 (v1.alloc (.cells #[.slice qa L ca] 41)) wb.heap.size [.slice qb L cb]) := LAt.later HN14v1.out (below_alloc _ _)
            refine hKc.out _ (v1.alloc (.cells #[.slice qa L ca] 41)) (fun _ => hH) ?_
            clear HAv1 HN14v1
            clear hKc Kc hHeld
            have hHeld := hH
            clear hH
            generalize v1.alloc (.cells #[.slice qa L ca] 41) = v2 at *
            refine wpAnyL_ready (rs := [8]) (by kernel_rfl) (by simp) ?_
            refine AllReadyL.cons (by simp; rfl) (fun Kc hKc => ?_) AllReadyL.nil
            refine step_append_lies _ rfl (.tmp 123) (.tmp 125) 67 rfl 0 41 i41 (.slice none 0 0) 1 24 Tryd.underlying67 hi41 hz410 hz411 hz412 rfl (by omega) _ mr tl rfl (own_later HTb.out.told HAv2.out) ⟨v1.heap.size, 0, none⟩ 1 1 [.slice qa L ca] rfl rfl (news_of HN7v2.out) (one_sl _ _ _) (by omega) (by unfold maxLen; omega) (by omega) (Nat.zero_le _) _ rfl ?_
            intro g1 c1 v3 hown hgrow hat hlt
            have HTv3 : Hid (TB wb v3 mr (.slice pt mr ct) tl (.slice qa L ca) g1 c1) := TB.of HAv2.out hown hgrow hat
            have hH : v3.cell? ⟨g, 8, none⟩ = some (.slice pw mr cw) := KAt.c8 ((HTv3.out.kept.block g (LAt.lt HKb.out) HNG.out.1).trans HKb.out)
            have HN14v3 : Hid (LAt 41 v3 wb.heap.size [.slice qb L cb]) := (hgrow.block _ (LAt.lt HN14v2.out) (fun e => by have h1 := own_lt HTb.out.told e.symm; have h2 := HZ14.out; omega)).trans HN14v2.out
            refine hKc.out _ _ (fun _ => hH) ?_
            clear hown hgrow hat hlt HAv2 HN7v2 HZ7 HN14v2
            clear hKc Kc hHeld
            have hHeld := hH
            clear hH
            refine wpAnyL_ready (rs := [15]) (by kernel_rfl) (by simp) ?_
            refine AllReadyL.cons (by simp; rfl) (fun Kc hKc => ?_) AllReadyL.nil
            refine step_append_lies _ rfl (.tmp 130) (.tmp 132) 67 rfl 0 41 i41 (.slice none 0 0) 1 24 Tryd.underlying67 hi41 hz410 hz411 hz412 rfl (by omega) _ mr wl rfl (own_same HTb.out.want (fun k hk => HTv3.out.kept.block k (own_lt HTb.out.want hk) (fun c => HNG.out.2.2 k c hk))) ⟨wb.heap.size, 0, none⟩ 1 1 [.slice qb L cb] rfl rfl (news_of HN14v3.out) (one_sl _ _ _) (by omega) (by unfold maxLen; omega) (by omega) (Nat.zero_le _) _ rfl ?_
            intro g2 c2 v4 hown hgrow hat hlt
            have HCv4 : Hid (TC wb v4 mr (.slice pt mr ct) (.slice pw mr cw) tl wl (.slice qa L ca) (.slice qb L cb) g1 c1 g2 c2) := TC.of HTv3.out hown hgrow hat HNG.out.2.2 (fun k hk => own_lt HTb.out.want hk)
            have Kw : KAt v4 g p r s (.slice pt mr ct) (.slice pw mr cw) := (HCv4.out.kept.block g (LAt.lt HKb.out) (fun c => c.elim HNG.out.1 HNG.out.2.1)).trans HKb.out
            have hH : v4.cell? ⟨g, 8, none⟩ = some (.slice pw mr cw) := KAt.c8 Kw
            refine hKc.out _ _ (fun _ => hH) ?_
            clear hown hgrow hat hlt HTv3 HN14v3 HZ14
            clear hKc Kc hHeld
            have hHeld := hH
            clear hH
            refine wpAnyL_take (i := 16) (v := ?va89) (by simp; rfl) (by kernel_rfl) (by kernel_rfl) (by kernel_rfl) (by kernel_rfl) (fun _ _ _ h => h) (Or.inl ⟨by rfl, ?ya89⟩) hHeld ?ra89
            case ya89 => intro w hSw; clear hSw; go_simp; with_reducible rfl
            simp only [Act.put, List.setIfInBounds_toArray, List.set_cons_zero, List.set_cons_succ]
            refine wpAnyL_take (i := 17) (v := ?va90) (by simp; rfl) (by kernel_rfl) (by kernel_rfl) (by kernel_rfl) (by kernel_rfl) (fun _ _ _ h => h) (Or.inl ⟨by rfl, ?ya90⟩) hHeld ?ra90
            case ya90 => intro w hSw; clear hSw; go_simp; with_reducible rfl
            simp only [Act.put, List.setIfInBounds_toArray, List.set_cons_zero, List.set_cons_succ]
            refine wpAnyL_ready (rs := [18]) (by kernel_rfl) (by simp) ?_
            refine AllReadyL.cons (by simp; rfl) (fun Kc hKc => ?_) AllReadyL.nil
            have f7 := frozen_of_row v4 g 7 _ 69 Kw
            have c7 := KAt.c7 Kw
            go_simp
            have Kx : KAt (v4.setCell ⟨g, 7, none⟩ (.slice (some ⟨g1, 0, none⟩) (mr + 1) c1)) g p r s (.slice (some ⟨g1, 0, none⟩) (mr + 1) c1) (.slice pw mr cw) := LAt.set Kw 7 _
            have hH := KAt.c8 Kx
            refine hKc.out _ (v4.setCell ⟨g, 7, none⟩ (.slice (some ⟨g1, 0, none⟩) (mr + 1) c1)) (fun _ => hH) ?_
            clear f7 c7 Kw
            clear hKc Kc hHeld
            have hHeld := hH
            clear hH
            refine wpAnyL_ready (rs := [19]) (by kernel_rfl) (by simp) ?_
            refine AllReadyL.cons (by simp; rfl) (fun Kc hKc => ?_) AllReadyL.nil
            go_simp
            refine hKc.out _ _ (fun _ => hHeld) ?_
            clear hKc Kc
            refine wpAnyL_take (i := 20) (v := ?va91) (by simp; rfl) (by kernel_rfl) (by kernel_rfl) (by kernel_rfl) (by kernel_rfl) (fun _ _ _ h => h) (Or.inl ⟨by rfl, ?ya91⟩) hHeld ?ra91
            case ya91 => intro w hSw; clear hSw; go_simp; with_reducible rfl
            simp only [Act.put, List.setIfInBounds_toArray, List.set_cons_zero, List.set_cons_succ]
            refine wpAnyL_ready (rs := [21]) (by kernel_rfl) (by simp) ?_
            refine AllReadyL.cons (by simp; rfl) (fun Kc hKc => ?_) AllReadyL.nil
            have f8 := frozen_of_row (v4.setCell ⟨g, 7, none⟩ (.slice (some ⟨g1, 0, none⟩) (mr + 1) c1)) g 8 _ 69 Kx
            have c8 := KAt.c8 Kx
            go_simp
            have HN : Hid (∃ R', LS w ((v4.setCell ⟨g, 7, none⟩ (.slice (some ⟨g1, 0, none⟩) (mr + 1) c1)).setCell ⟨g, 8, none⟩ (.slice (some ⟨g2, 0, none⟩) (mr + 1) c2)) R' B g p r n s o d ws (mr + 1)) := HLS.out.tell HBb.out HKb.out HTb.out HCv4.out HPb.out HUV.out.1 HUV.out.2.1 HUV.out.2.2
            refine hKc.out _ ((v4.setCell ⟨g, 7, none⟩ (.slice (some ⟨g1, 0, none⟩) (mr + 1) c1)).setCell ⟨g, 8, none⟩ (.slice (some ⟨g2, 0, none⟩) (mr + 1) c2)) (fun h => absurd rfl h) ?_
            clear hKc Kc hHeld f8 c8 Kx HCv4
            generalize (v4.setCell ⟨g, 7, none⟩ (.slice (some ⟨g1, 0, none⟩) (mr + 1) c1)).setCell ⟨g, 8, none⟩ (.slice (some ⟨g2, 0, none⟩) (mr + 1) c2) = wz at *
            refine wpAnyL_done (by kernel_rfl) (NoPanic.normal ?_) _
            go_wp2_with fail
            go_roundw
            case rel => exact ⟨k + 1, by omega, by go_num, HN.out.elim fun R' hR' => ⟨R', mr + 1, by omega, hR'⟩⟩
            case measure => simp [intOf]; omega
        · go_simp
          have HAv1 : Hid (Below wb.heap.size wb (wb.alloc (.cells #[.slice qa L ca] 41))) := below_then HAwb.out (below_alloc _ _)
          have hH : (wb.alloc (.cells #[.slice qa L ca] 41)).cell? ⟨g, 8, none⟩ = some (.slice pw mr cw) := KAt.c8 (LAt.later HKb.out HAv1.out)
          have HN7v1 : Hid (LAt 41 (wb.alloc (.cells #[.slice qa L ca] 41)) wb.heap.size [.slice qa L ca]) := LAt.new 41 _ _
          have HZ7 : Hid (wb.heap.size ≤ wb.heap.size) := HAwb.out.size
          refine hKc.out _ (wb.alloc (.cells #[.slice qa L ca] 41)) (fun _ => hH) ?_
          clear HAwb
          clear hKc Kc hHeld
          have hHeld := hH
          clear hH
          generalize wb.alloc (.cells #[.slice qa L ca] 41) = v1 at *
          refine wpAnyL_ready (rs := [5, 14]) (by kernel_rfl) (by simp) ?_
          refine AllReadyL.cons (by simp; rfl) (fun Kc hKc => ?_) (AllReadyL.cons (by simp; rfl) (fun Kc hKc => ?_) AllReadyL.nil)
          · have z7 := KAt.c7 (LAt.later HKb.out HAv1.out)
            go_simp
            refine hKc.out _ _ (fun _ => hHeld) ?_
            clear hKc Kc z7
            refine wpAnyL_ready (rs := [8, 14]) (by kernel_rfl) (by simp) ?_
            refine AllReadyL.cons (by simp; rfl) (fun Kc hKc => ?_) (AllReadyL.cons (by simp; rfl) (fun Kc hKc => ?_) AllReadyL.nil)
            · refine step_append_lies _ rfl (.tmp 123) (.tmp 125) 67 rfl 0 41 i41 (.slice none 0 0) 1 24 Tryd.underlying67 hi41 hz410 hz411 hz412 rfl (by omega) _ mr tl rfl (own_later HTb.out.told HAv1.out) ⟨wb.heap.size, 0, none⟩ 1 1 [.slice qa L ca] rfl rfl (news_of HN7v1.out) (one_sl _ _ _) (by omega) (by unfold maxLen; omega) (by omega) (Nat.zero_le _) _ rfl ?_
              intro g1 c1 v2 hown hgrow hat hlt
              have HTv2 : Hid (TB wb v2 mr (.slice pt mr ct) tl (.slice qa L ca) g1 c1) := TB.of HAv1.out hown hgrow hat
              have hH : v2.cell? ⟨g, 8, none⟩ = some (.slice pw mr cw) := KAt.c8 ((HTv2.out.kept.block g (LAt.lt HKb.out) HNG.out.1).trans HKb.out)
              refine hKc.out _ _ (fun _ => hH) ?_
              clear hown hgrow hat hlt HAv1 HN7v1 HZ7
              clear hKc Kc hHeld
              have hHeld := hH
              clear hH
              refine wpAnyL_ready (rs := [14]) (by kernel_rfl) (by simp) ?_
              refine AllReadyL.cons (by simp; rfl) (fun Kc hKc => ?_) AllReadyL.nil
              go_simp
              have HTv3 : Hid (TB wb (v2.alloc (.cells #[.slice qb L cb] 41)) mr (.slice pt mr ct) tl (.slice qa L ca) g1 c1) := HTv2.out.alloc _
              have hH : (v2.alloc (.cells #[.slice qb L cb] 41)).cell? ⟨g, 8, none⟩ = some (.slice pw mr cw) := KAt.c8 ((HTv3.out.kept.block g (LAt.lt HKb.out) HNG.out.1).trans HKb.out)
              have HN14v3 : Hid (LAt 41 (v2.alloc (.cells #[.slice qb L cb] 41)) v2.heap.size [.slice qb L cb]) := LAt.new 41 _ _
              have HZ14 : Hid (wb.heap.size ≤ v2.heap.size) := HTv2.out.kept.size
              refine hKc.out _ (v2.alloc (.cells #[.slice qb L cb] 41)) (fun _ => hH) ?_
              clear HTv2
              clear hKc Kc hHeld
              have hHeld := hH
              clear hH
              generalize v2.alloc (.cells #[.slice qb L cb] 41) = v3 at *
              refine wpAnyL_ready (rs := [15]) (by kernel_rfl) (by simp) ?_
              refine AllReadyL.cons (by simp; rfl) (fun Kc hKc => ?_) AllReadyL.nil
              refine step_append_lies _ rfl (.tmp 130) (.tmp 132) 67 rfl 0 41 i41 (.slice none 0 0) 1 24 Tryd.underlying67 hi41 hz410 hz411 hz412 rfl (by omega) _ mr wl rfl (own_same HTb.out.want (fun k hk => HTv3.out.kept.block k (own_lt HTb.out.want hk) (fun c => HNG.out.2.2 k c hk))) ⟨v2.heap.size, 0, none⟩ 1 1 [.slice qb L cb] rfl rfl (news_of HN14v3.out) (one_sl _ _ _) (by omega) (by unfold maxLen; omega) (by omega) (Nat.zero_le _) _ rfl ?_
              intro g2 c2 v4 hown hgrow hat hlt
              have HCv4 : Hid (TC wb v4 mr (.slice pt mr ct) (.slice pw mr cw) tl wl (.slice qa L ca) (.slice qb L cb) g1 c1 g2 c2) := TC.of HTv3.out hown hgrow hat HNG.out.2.2 (fun k hk => own_lt HTb.out.want hk)
              have Kw : KAt v4 g p r s (.slice pt mr ct) (.slice pw mr cw) := (HCv4.out.kept.block g (LAt.lt HKb.out) (fun c => c.elim HNG.out.1 HNG.out.2.1)).trans HKb.out
              have hH : v4.cell? ⟨g, 8, none⟩ = some (.slice pw mr cw) := KAt.c8 Kw
              refine hKc.out _ _ (fun _ => hH) ?_
              clear hown hgrow hat hlt HTv3 HN14v3 HZ14
              clear hKc Kc hHeld
              have hHeld := hH
              clear hH
              refine wpAnyL_take (i := 16) (v := ?va92) (by simp; rfl) (by kernel_rfl) (by kernel_rfl) (by kernel_rfl) (by kernel_rfl) (fun _ _ _ h => h) (Or.inl ⟨by rfl, ?ya92⟩) hHeld ?ra92
              case ya92 => intro w hSw; clear hSw; go_simp; with_reducible rfl
              simp only [Act.put, List.setIfInBounds_toArray, List.set_cons_zero, List.set_cons_succ]
              refine wpAnyL_take (i := 17) (v := ?va93) (by simp; rfl) (by kernel_rfl) (by kernel_rfl) (by kernel_rfl) (by kernel_rfl) (fun _ _ _ h => h) (Or.inl ⟨by rfl, ?ya93⟩) hHeld ?ra93
              case ya93 => intro w hSw; clear hSw; go_simp; with_reducible rfl
              simp only [Act.put, List.setIfInBounds_toArray, List.set_cons_zero, List.set_cons_succ]
              refine wpAnyL_ready (rs := [18]) (by kernel_rfl) (by simp) ?_
              refine AllReadyL.cons (by simp; rfl) (fun Kc hKc => ?_) AllReadyL.nil
              have f7 := frozen_of_row v4 g 7 _ 69 Kw
              have c7 := KAt.c7 Kw
              go_simp
              have Kx : KAt (v4.setCell ⟨g, 7, none⟩ (.slice (some ⟨g1, 0, none⟩) (mr + 1) c1)) g p r s (.slice (some ⟨g1, 0, none⟩) (mr + 1) c1) (.slice pw mr cw) := LAt.set Kw 7 _
              have hH := KAt.c8 Kx
              refine hKc.out _ (v4.setCell ⟨g, 7, none⟩ (.slice (some ⟨g1, 0, none⟩) (mr + 1) c1)) (fun _ => hH) ?_
              clear f7 c7 Kw
              clear hKc Kc hHeld
              have hHeld := hH
              clear hH
              refine wpAnyL_ready (rs := [19]) (by kernel_rfl) (by simp) ?_
              refine AllReadyL.cons (by simp; rfl) (fun Kc hKc => ?_) AllReadyL.nil
              go_simp
              refine hKc.out _ _ (fun _ => hHeld) ?_
              clear hKc Kc
              refine wpAnyL_take (i := 20) (v := ?va94) (by simp; rfl) (by kernel_rfl) (by kernel_rfl) (by kernel_rfl) (by kernel_rfl) (fun _ _ _ h => h) (Or.inl ⟨by rfl, ?ya94⟩) hHeld ?ra94
              case ya94 => intro w hSw; clear hSw; go_simp; with_reducible rfl
              simp only [Act.put, List.setIfInBounds_toArray, List.set_cons_zero, List.set_cons_succ]
              refine wpAnyL_ready (rs := [21]) (by kernel_rfl) (by simp) ?_
              refine AllReadyL.cons (by simp; rfl) (fun Kc hKc => ?_) AllReadyL.nil
              have f8 := frozen_of_row (v4.setCell ⟨g, 7, none⟩ (.slice (some ⟨g1, 0, none⟩) (mr + 1) c1)) g 8 _ 69 Kx
              have c8 := KAt.c8 Kx
              go_simp
              have HN : Hid (∃ R', LS w ((v4.setCell ⟨g, 7, none⟩ (.slice (some ⟨g1, 0, none⟩) (mr + 1) c1)).setCell ⟨g, 8, none⟩ (.slice (some ⟨g2, 0, none⟩) (mr + 1) c2)) R' B g p r n s o d ws (mr + 1)) := HLS.out.tell HBb.out HKb.out HTb.out HCv4.out HPb.out HUV.out.1 HUV.out.2.1 HUV.out.2.2
              refine hKc.out _ ((v4.setCell ⟨g, 7, none⟩ (.slice (some ⟨g1, 0, none⟩) (mr + 1) c1)).setCell ⟨g, 8, none⟩ (.slice (some ⟨g2, 0, none⟩) (mr + 1) c2)) (fun h => absurd rfl h) ?_
              clear hKc Kc hHeld f8 c8 Kx HCv4
              generalize (v4.setCell ⟨g, 7, none⟩ (.slice (some ⟨g1, 0, none⟩) (mr + 1) c1)).setCell ⟨g, 8, none⟩ (.slice (some ⟨g2, 0, none⟩) (mr + 1) c2) = wz at *
              refine wpAnyL_done (by kernel_rfl) (NoPanic.normal ?_) _
              go_wp2_with fail
              go_roundw
              case rel => exact ⟨k + 1, by omega, by go_num, HN.out.elim fun R' hR' => ⟨R', mr + 1, by omega, hR'⟩⟩
              case measure => simp [intOf]; omega
            · go_simp
              have HAv2 : Hid (Below wb.heap.size wb (v1.alloc (.cells #[.slice qb L cb] 41))) := below_then HAv1.out (below_alloc _ _)
              have hH : (v1.alloc (.cells #[.slice qb L cb] 41)).cell? ⟨g, 8, none⟩ = some (.slice pw mr cw) := KAt.c8 (LAt.later HKb.out HAv2.out)
              have HN14v2 : Hid (LAt 41 (v1.alloc (.cells #[.slice qb L cb] 41)) v1.heap.size [.slice qb L cb]) := LAt.new 41 _ _
              have HZ14 : Hid (wb.heap.size ≤ v1.heap.size) := HAv1.out.size
              have HN7v2 : Hid (LAt 41 (v1.alloc (.cells #[.slice qb L cb] 41)) wb.heap.size [.slice qa L ca]) := LAt.later HN7v1.out (below_alloc _ _)
              refine hKc.out _ (v1.alloc (.cells #[.slice qb L cb] 41)) (fun _ => hH) ?_
              clear HAv1 HN7v1
              clear hKc Kc hHeld
              have hHeld := hH
              clear hH
              generalize v1.alloc (.cells #[.slice qb L cb] 41) = v2 at *
              refine wpAnyL_ready (rs := [8]) (by kernel_rfl) (by simp) ?_
              refine AllReadyL.cons (by simp; rfl) (fun Kc hKc => ?_) AllReadyL.nil
              refine step_append_lies _ rfl (.tmp 123) (.tmp 125) 67 rfl 0 41 i41 (.slice none 0 0) 1 24 Tryd.underlying67 hi41 hz410 hz411 hz412 rfl (by omega) _ mr tl rfl (own_later HTb.out.told HAv2.out) ⟨wb.heap.size, 0, none⟩ 1 1 [.slice qa L ca] rfl rfl (news_of HN7v2.out) (one_sl _ _ _) (by omega) (by unfold maxLen; omega) (by omega) (Nat.zero_le _) _ rfl ?_
              intro g1 c1 v3 hown hgrow hat hlt
              have HTv3 : Hid (TB wb v3 mr (.slice pt mr ct) tl (.slice qa L ca) g1 c1) := TB.of HAv2.out hown hgrow hat
              have hH : v3.cell? ⟨g, 8, none⟩ = some (.slice pw mr cw) := KAt.c8 ((HTv3.out.kept.block g (LAt.lt HKb.out) HNG.out.1).trans HKb.out)
              have HN14v3 : Hid (LAt 41 v3 v1.heap.size [.slice qb L cb]) := (hgrow.block _ (LAt.lt HN14v2.out) (fun e => by have h1 := own_lt HTb.out.told e.symm; have h2 := HZ14.out; omega)).trans HN14v2.out
              refine hKc.out _ _ (fun _ => hH) ?_
              clear hown hgrow hat hlt HAv2 HN7v2 HZ7 HN14v2
              clear hKc Kc hHeld
              have hHeld := hH
              clear hH
              refine wpAnyL_ready (rs := [15]) (by kernel_rfl) (by simp) ?_
              refine AllReadyL.cons (by simp; rfl) (fun Kc hKc => ?_) AllReadyL.nil
              refine step_append_lies _ rfl (.tmp 130) (.tmp 132) 67 rfl 0 41 i41 (.slice none 0 0) 1 24 Tryd.underlying67 hi41 hz410 hz411 hz412 rfl (by omega) _ mr wl rfl (own_same HTb.out.want (fun k hk => HTv3.out.kept.block k (own_lt HTb.out.want hk) (fun c => HNG.out.2.2 k c hk))) ⟨v1.heap.size, 0, none⟩ 1 1 [.slice qb L cb] rfl rfl (news_of HN14v3.out) (one_sl _ _ _) (by omega) (by unfold maxLen; omega) (by omega) (Nat.zero_le _) _ rfl ?_
              intro g2 c2 v4 hown hgrow hat hlt
              have HCv4 : Hid (TC wb v4 mr (.slice pt mr ct) (.slice pw mr cw) tl wl (.slice qa L ca) (.slice qb L cb) g1 c1 g2 c2) := TC.of HTv3.out hown hgrow hat HNG.out.2.2 (fun k hk => own_lt HTb.out.want hk)
              have Kw : KAt v4 g p r s (.slice pt mr ct) (.slice pw mr cw) := (HCv4.out.kept.block g (LAt.lt HKb.out) (fun c => c.elim HNG.out.1 HNG.out.2.1)).trans HKb.out
              have hH : v4.cell? ⟨g, 8, none⟩ = some (.slice pw mr cw) := KAt.c8 Kw
              refine hKc.out _ _ (fun _ => hH) ?_
              clear hown hgrow hat hlt HTv3 HN14v3 HZ14
              clear hKc Kc hHeld
              have hHeld := hH
              clear hH
              refine wpAnyL_take (i := 16) (v := ?va95) (by simp; rfl) (by kernel_rfl) (by kernel_rfl) (by kernel_rfl) (by kernel_rfl) (fun _ _ _ h => h) (Or.inl ⟨by rfl, ?ya95⟩) hHeld ?ra95
              case ya95 => intro w hSw; clear hSw; go_simp; with_reducible rfl
              simp only [Act.put, List.setIfInBounds_toArray, List.set_cons_zero, List.set_cons_succ]
              refine wpAnyL_take (i := 17) (v := ?va96) (by simp; rfl) (by kernel_rfl) (by kernel_rfl) (by kernel_rfl) (by kernel_rfl) (fun _ _ _ h => h) (Or.inl ⟨by rfl, ?ya96⟩) hHeld ?ra96
              case ya96 => intro w hSw; clear hSw; go_simp; with_reducible rfl
              simp only [Act.put, List.setIfInBounds_toArray, List.set_cons_zero, List.set_cons_succ]
              refine wpAnyL_ready (rs := [18]) (by kernel_rfl) (by simp) ?_
              refine AllReadyL.cons (by simp; rfl) (fun Kc hKc => ?_) AllReadyL.nil
              have f7 := frozen_of_row v4 g 7 _ 69 Kw
              have c7 := KAt.c7 Kw
              go_simp
              have Kx : KAt (v4.setCell ⟨g, 7, none⟩ (.slice (some ⟨g1, 0, none⟩) (mr + 1) c1)) g p r s (.slice (some ⟨g1, 0, none⟩) (mr + 1) c1) (.slice pw mr cw) := LAt.set Kw 7 _
              have hH := KAt.c8 Kx
              refine hKc.out _ (v4.setCell ⟨g, 7, none⟩ (.slice (some ⟨g1, 0, none⟩) (mr + 1) c1)) (fun _ => hH) ?_
              clear f7 c7 Kw
              clear hKc Kc hHeld
              have hHeld := hH
              clear hH
              refine wpAnyL_ready (rs := [19]) (by kernel_rfl) (by simp) ?_
              refine AllReadyL.cons (by simp; rfl) (fun Kc hKc => ?_) AllReadyL.nil
              go_simp
              refine hKc.out _ _ (fun _ => hHeld) ?_
              clear hKc Kc
              refine wpAnyL_take (i := 20) (v := ?va97) (by simp; rfl) (by kernel_rfl) (by kernel_rfl) (by kernel_rfl) (by kernel_rfl) (fun _ _ _ h => h) (Or.inl ⟨by rfl, ?ya97⟩) hHeld ?ra97
              case ya97 => intro w hSw; clear hSw; go_simp; with_reducible rfl
              simp only [Act.put, List.setIfInBounds_toArray, List.set_cons_zero, List.set_cons_succ]
              refine wpAnyL_ready (rs := [21]) (by kernel_rfl) (by simp) ?_
              refine AllReadyL.cons (by simp; rfl) (fun Kc hKc => ?_) AllReadyL.nil
              have f8 := frozen_of_row (v4.setCell ⟨g, 7, none⟩ (.slice (some ⟨g1, 0, none⟩) (mr + 1) c1)) g 8 _ 69 Kx
              have c8 := KAt.c8 Kx
              go_simp
              have HN : Hid (∃ R', LS w ((v4.setCell ⟨g, 7, none⟩ (.slice (some ⟨g1, 0, none⟩) (mr + 1) c1)).setCell ⟨g, 8, none⟩ (.slice (some ⟨g2, 0, none⟩) (mr + 1) c2)) R' B g p r n s o d ws (mr + 1)) := HLS.out.tell HBb.out HKb.out HTb.out HCv4.out HPb.out HUV.out.1 HUV.out.2.1 HUV.out.2.2
              refine hKc.out _ ((v4.setCell ⟨g, 7, none⟩ (.slice (some ⟨g1, 0, none⟩) (mr + 1) c1)).setCell ⟨g, 8, none⟩ (.slice (some ⟨g2, 0, none⟩) (mr + 1) c2)) (fun h => absurd rfl h) ?_
              clear hKc Kc hHeld f8 c8 Kx HCv4
              generalize (v4.setCell ⟨g, 7, none⟩ (.slice (some ⟨g1, 0, none⟩) (mr + 1) c1)).setCell ⟨g, 8, none⟩ (.slice (some ⟨g2, 0, none⟩) (mr + 1) c2) = wz at *
              refine wpAnyL_done (by kernel_rfl) (NoPanic.normal ?_) _
              go_wp2_with fail
              go_roundw
              case rel => exact ⟨k + 1, by omega, by go_num, HN.out.elim fun R' hR' => ⟨R', mr + 1, by omega, hR'⟩⟩
              case measure => simp [intOf]; omega
          · go_simp
            have HAv2 : Hid (Below wb.heap.size wb (v1.alloc (.cells #[.slice qb L cb] 41))) := below_then HAv1.out (below_alloc _ _)
            have hH : (v1.alloc (.cells #[.slice qb L cb] 41)).cell? ⟨g, 8, none⟩ = some (.slice pw mr cw) := KAt.c8 (LAt.later HKb.out HAv2.out)
            have HN14v2 : Hid (LAt 41 (v1.alloc (.cells #[.slice qb L cb] 41)) v1.heap.size [.slice qb L cb]) := LAt.new 41 _ _
            have HZ14 : Hid (wb.heap.size ≤ v1.heap.size) := HAv1.out.size
            have HN7v2 : Hid (LAt 41 (v1.alloc (.cells #[.slice qb L cb] 41)) wb.heap.size [.slice qa L ca]) := LAt.later HN7v1.out (below_alloc _ _)
            refine hKc.out _ (v1.alloc (.cells #[.slice qb L cb] 41)) (fun _ => hH) ?_
            clear HAv1 HN7v1
            clear hKc Kc hHeld
            have hHeld := hH
            clear hH
            generalize v1.alloc (.cells #[.slice qb L cb] 41) = v2 at *
            refine wpAnyL_ready (rs := [5]) (by kernel_rfl) (by simp) ?_
            refine AllReadyL.cons (by simp; rfl) (fun Kc hKc => ?_) AllReadyL.nil
            have z7 := KAt.c7 (LAt.later HKb.out HAv2.out)
            go_simp
            refine hKc.out _ _ (fun _ => hHeld) ?_
            clear hKc Kc z7
            refine wpAnyL_ready (rs := [8]) (by kernel_rfl) (by simp) ?_
            refine AllReadyL.cons (by simp; rfl) (fun Kc hKc => ?_) AllReadyL.nil
            refine step_append_lies _ rfl (.tmp 123) (.tmp 125) 67 rfl 0 41 i41 (.slice none 0 0) 1 24 Tryd.underlying67 hi41 hz410 hz411 hz412 rfl (by omega) _ mr tl rfl (own_later HTb.out.told HAv2.out) ⟨wb.heap.size, 0, none⟩ 1 1 [.slice qa L ca] rfl rfl (news_of HN7v2.out) (one_sl _ _ _) (by omega) (by unfold maxLen; omega) (by omega) (Nat.zero_le _) _ rfl ?_
            intro g1 c1 v3 hown hgrow hat hlt
            have HTv3 : Hid (TB wb v3 mr (.slice pt mr ct) tl (.slice qa L ca) g1 c1) := TB.of HAv2.out hown hgrow hat
            have hH : v3.cell? ⟨g, 8, none⟩ = some (.slice pw mr cw) := KAt.c8 ((HTv3.out.kept.block g (LAt.lt HKb.out) HNG.out.1).trans HKb.out)
            have HN14v3 : Hid (LAt 41 v3 v1.heap.size [.slice qb L cb]) := (hgrow.block _ (LAt.lt HN14v2.out) (fun e => by have h1 := own_lt HTb.out.told e.symm; have h2 := HZ14.out; omega)).trans HN14v2.out
            refine hKc.out _ _ (fun _ => hH) ?_
            clear hown hgrow hat hlt HAv2 HN7v2 HZ7 HN14v2
            clear hKc Kc hHeld
            have hHeld := hH
            clear hH
            refine wpAnyL_ready (rs := [15]) (by kernel_rfl) (by simp) ?_
            refine AllReadyL.cons (by simp; rfl) (fun Kc hKc => ?_) AllReadyL.nil
            refine step_append_lies _ rfl (.tmp 130) (.tmp 132) 67 rfl 0 41 i41 (.slice none 0 0) 1 24 Tryd.underlying67 hi41 hz410 hz411 hz412 rfl (by omega) _ mr wl rfl (own_same HTb.out.want (fun k hk => HTv3.out.kept.block k (own_lt HTb.out.want hk) (fun c => HNG.out.2.2 k c hk))) ⟨v1.heap.size, 0, none⟩ 1 1 [.slice qb L cb] rfl rfl (news_of HN14v3.out) (one_sl _ _ _) (by omega) (by unfold maxLen; omega) (by omega) (Nat.zero_le _) _ rfl ?_
            intro g2 c2 v4 hown hgrow hat hlt
            have HCv4 : Hid (TC wb v4 mr (.slice pt mr ct) (.slice pw mr cw) tl wl (.slice qa L ca) (.slice qb L cb) g1 c1 g2 c2) := TC.of HTv3.out hown hgrow hat HNG.out.2.2 (fun k hk => own_lt HTb.out.want hk)
            have Kw : KAt v4 g p r s (.slice pt mr ct) (.slice pw mr cw) := (HCv4.out.kept.block g (LAt.lt HKb.out) (fun c => c.elim HNG.out.1 HNG.out.2.1)).trans HKb.out
            have hH : v4.cell? ⟨g, 8, none⟩ = some (.slice pw mr cw) := KAt.c8 Kw
            refine hKc.out _ _ (fun _ => hH) ?_
            clear hown hgrow hat hlt HTv3 HN14v3 HZ14
            clear hKc Kc hHeld
            have hHeld := hH
            clear hH
            refine wpAnyL_take (i := 16) (v := ?va98) (by simp; rfl) (by kernel_rfl) (by kernel_rfl) (by kernel_rfl) (by kernel_rfl) (fun _ _ _ h => h) (Or.inl ⟨by rfl, ?ya98⟩) hHeld ?ra98
            case ya98 => intro w hSw; clear hSw; go_simp; with_reducible rfl
            simp only [Act.put, List.setIfInBounds_toArray, List.set_cons_zero, List.set_cons_succ]
            refine wpAnyL_take (i := 17) (v := ?va99) (by simp; rfl) (by kernel_rfl) (by kernel_rfl) (by kernel_rfl) (by kernel_rfl) (fun _ _ _ h => h) (Or.inl ⟨by rfl, ?ya99⟩) hHeld ?ra99
            case ya99 => intro w hSw; clear hSw; go_simp; with_reducible rfl
            simp only [Act.put, List.setIfInBounds_toArray, List.set_cons_zero, List.set_cons_succ]
            refine wpAnyL_ready (rs := [18]) (by kernel_rfl) (by simp) ?_
            refine AllReadyL.cons (by simp; rfl) (fun Kc hKc => ?_) AllReadyL.nil
            have f7 := frozen_of_row v4 g 7 _ 69 Kw
            have c7 := KAt.c7 Kw
            go_simp
            have Kx : KAt (v4.setCell ⟨g, 7, none⟩ (.slice (some ⟨g1, 0, none⟩) (mr + 1) c1)) g p r s (.slice (some ⟨g1, 0, none⟩) (mr + 1) c1) (.slice pw mr cw) := LAt.set Kw 7 _
            have hH := KAt.c8 Kx
            refine hKc.out _ (v4.setCell ⟨g, 7, none⟩ (.slice (some ⟨g1, 0, none⟩) (mr + 1) c1)) (fun _ => hH) ?_
            clear f7 c7 Kw
            clear hKc Kc hHeld
            have hHeld := hH
            clear hH
            refine wpAnyL_ready (rs := [19]) (by kernel_rfl) (by simp) ?_
            refine AllReadyL.cons (by simp; rfl) (fun Kc hKc => ?_) AllReadyL.nil
            go_simp
            refine hKc.out _ _ (fun _ => hHeld) ?_
            clear hKc Kc
            refine wpAnyL_take (i := 20) (v := ?va100) (by simp; rfl) (by kernel_rfl) (by kernel_rfl) (by kernel_rfl) (by kernel_rfl) (fun _ _ _ h => h) (Or.inl ⟨by rfl, ?ya100⟩) hHeld ?ra100
            case ya100 => intro w hSw; clear hSw; go_simp; with_reducible rfl
            simp only [Act.put, List.setIfInBounds_toArray, List.set_cons_zero, List.set_cons_succ]
            refine wpAnyL_ready (rs := [21]) (by kernel_rfl) (by simp) ?_
            refine AllReadyL.cons (by simp; rfl) (fun Kc hKc => ?_) AllReadyL.nil
            have f8 := frozen_of_row (v4.setCell ⟨g, 7, none⟩ (.slice (some ⟨g1, 0, none⟩) (mr + 1) c1)) g 8 _ 69 Kx
            have c8 := KAt.c8 Kx
            go_simp
            have HN : Hid (∃ R', LS w ((v4.setCell ⟨g, 7, none⟩ (.slice (some ⟨g1, 0, none⟩) (mr + 1) c1)).setCell ⟨g, 8, none⟩ (.slice (some ⟨g2, 0, none⟩) (mr + 1) c2)) R' B g p r n s o d ws (mr + 1)) := HLS.out.tell HBb.out HKb.out HTb.out HCv4.out HPb.out HUV.out.1 HUV.out.2.1 HUV.out.2.2
            refine hKc.out _ ((v4.setCell ⟨g, 7, none⟩ (.slice (some ⟨g1, 0, none⟩) (mr + 1) c1)).setCell ⟨g, 8, none⟩ (.slice (some ⟨g2, 0, none⟩) (mr + 1) c2)) (fun h => absurd rfl h) ?_
            clear hKc Kc hHeld f8 c8 Kx HCv4
            generalize (v4.setCell ⟨g, 7, none⟩ (.slice (some ⟨g1, 0, none⟩) (mr + 1) c1)).setCell ⟨g, 8, none⟩ (.slice (some ⟨g2, 0, none⟩) (mr + 1) c2) = wz at *
            refine wpAnyL_done (by kernel_rfl) (NoPanic.normal ?_) _
            go_wp2_with fail
            go_roundw
            case rel => exact ⟨k + 1, by omega, by go_num, HN.out.elim fun R' hR' => ⟨R', mr + 1, by omega, hR'⟩⟩
            case measure => simp [intOf]; omega
        · go_simp
          have HAv1 : Hid (Below wb.heap.size wb (wb.alloc (.cells #[.slice qb L cb] 41))) := below_then HAwb.out (below_alloc _ _)
          have hH : (wb.alloc (.cells #[.slice qb L cb] 41)).cell? ⟨g, 8, none⟩ = some (.slice pw mr cw) := KAt.c8 (LAt.later HKb.out HAv1.out)
          have HN14v1 : Hid (LAt 41 (wb.alloc (.cells #[.slice qb L cb] 41)) wb.heap.size [.slice qb L cb]) := LAt.new 41 _ _
          have HZ14 : Hid (wb.heap.size ≤ wb.heap.size) := HAwb.out.size
          refine hKc.out _ (wb.alloc (.cells #[.slice qb L cb] 41)) (fun _ => hH) ?_
          clear HAwb
          clear hKc Kc hHeld
          have hHeld := hH
          clear hH
          generalize wb.alloc (.cells #[.slice qb L cb] 41) = v1 at *
          refine wpAnyL_ready (rs := [5, 7]) (by kernel_rfl) (by simp) ?_
          refine AllReadyL.cons (by simp; rfl) (fun Kc hKc => ?_) (AllReadyL.cons (by simp; rfl) (fun Kc hKc => ?_) AllReadyL.nil)
          · have z7 := KAt.c7 (LAt.later HKb.out HAv1.out)
            go_simp
            refine hKc.out _ _ (fun _ => hHeld) ?_
            clear hKc Kc z7
            refine wpAnyL_ready (rs := [7]) (by kernel_rfl) (by simp) ?_
            refine AllReadyL.cons (by simp; rfl) (fun Kc hKc => ?_) AllReadyL.nil
            go_simp
            have HAv2 : Hid (Below wb.heap.size wb (v1.alloc (.cells #[.slice qa L ca] 41))) := below_then HAv1.out (below_alloc _ _)
            have hH : (v1.alloc (.cells #[.slice qa L ca] 41)).cell? ⟨g, 8, none⟩ = some (.slice pw mr cw) := KAt.c8 (LAt.later HKb.out HAv2.out)
            have HN7v2 : Hid (LAt 41 (v1.alloc (.cells #[.slice qa L ca] 41)) v1.heap.size [.slice qa L ca]) := LAt.new 41 _ _
            have HZ7 : Hid (wb.heap.size ≤ v1.heap.size) := HAv1.out.size
            have HN14v2 : Hid (LAt 41 (v1.alloc (.cells #[.slice qa L ca] 41)) wb.heap.size [.slice qb L cb]) := LAt.later HN14v1.out (below_alloc _ _)
            refine hKc.out _ (v1.alloc (.cells #[.slice qa L ca] 41)) (fun _ => hH) ?_
            clear HAv1 HN14v1
            clear hKc Kc hHeld
            have hHeld := hH
            clear hH
            generalize v1.alloc (.cells #[.slice qa L ca] 41) = v2 at *
            refine wpAnyL_ready (rs := [8]) (by kernel_rfl) (by simp) ?_
            refine AllReadyL.cons (by simp; rfl) (fun Kc hKc => ?_) AllReadyL.nil
            refine step_append_lies _ rfl (.tmp 123) (.tmp 125) 67 rfl 0 41 i41 (.slice none 0 0) 1 24 Tryd.underlying67 hi41 hz410 hz411 hz412 rfl (by omega) _ mr tl rfl (own_later HTb.out.told HAv2.out) ⟨v1.heap.size, 0, none⟩ 1 1 [.slice qa L ca] rfl rfl (news_of HN7v2.out) (one_sl _ _ _) (by omega) (by unfold maxLen; omega) (by omega) (Nat.zero_le _) _ rfl ?_
            intro g1 c1 v3 hown hgrow hat hlt
            have HTv3 : Hid (TB wb v3 mr (.slice pt mr ct) tl (.slice qa L ca) g1 c1) := TB.of HAv2.out hown hgrow hat
            have hH : v3.cell? ⟨g, 8, none⟩ = some (.slice pw mr cw) := KAt.c8 ((HTv3.out.kept.block g (LAt.lt HKb.out) HNG.out.1).trans HKb.out)
            have HN14v3 : Hid (LAt 41 v3 wb.heap.size [.slice qb L cb]) := (hgrow.block _ (LAt.lt HN14v2.out) (fun e => by have h1 := own_lt HTb.out.told e.symm; have h2 := HZ14.out; omega)).trans HN14v2.out
            refine hKc.out _ _ (fun _ => hH) ?_
            clear hown hgrow hat hlt HAv2 HN7v2 HZ7 HN14v2
            clear hKc Kc hHeld
            have hHeld := hH
            clear hH
            refine wpAnyL_ready (rs := [15]) (by kernel_rfl) (by simp) ?_
            refine AllReadyL.cons (by simp; rfl) (fun Kc hKc => ?_) AllReadyL.nil
            refine step_append_lies _ rfl (.tmp 130) (.tmp 132) 67 rfl 0 41 i41 (.slice none 0 0) 1 24 Tryd.underlying67 hi41 hz410 hz411 hz412 rfl (by omega) _ mr wl rfl (own_same HTb.out.want (fun k hk => HTv3.out.kept.block k (own_lt HTb.out.want hk) (fun c => HNG.out.2.2 k c hk))) ⟨wb.heap.size, 0, none⟩ 1 1 [.slice qb L cb] rfl rfl (news_of HN14v3.out) (one_sl _ _ _) (by omega) (by unfold maxLen; omega) (by omega) (Nat.zero_le _) _ rfl ?_
            intro g2 c2 v4 hown hgrow hat hlt
            have HCv4 : Hid (TC wb v4 mr (.slice pt mr ct) (.slice pw mr cw) tl wl (.slice qa L ca) (.slice qb L cb) g1 c1 g2 c2) := TC.of HTv3.out hown hgrow hat HNG.out.2.2 (fun k hk => own_lt HTb.out.want hk)
            have Kw : KAt v4 g p r s (.slice pt mr ct) (.slice pw mr cw) := (HCv4.out.kept.block g (LAt.lt HKb.out) (fun c => c.elim HNG.out.1 HNG.out.2.1)).trans HKb.out
            have hH : v4.cell? ⟨g, 8, none⟩ = some (.slice pw mr cw) := KAt.c8 Kw
            refine hKc.out _ _ (fun _ => hH) ?_
            clear hown hgrow hat hlt HTv3 HN14v3 HZ14
            clear hKc Kc hHeld
            have hHeld := hH
            clear hH
            refine wpAnyL_take (i := 16) (v := ?va101) (by simp; rfl) (by kernel_rfl) (by kernel_rfl) (by kernel_rfl) (by kernel_rfl) (fun _ _ _ h => h) (Or.inl ⟨by rfl, ?ya101⟩) hHeld ?ra101
            case ya101 => intro w hSw; clear hSw; go_simp; with_reducible rfl
            simp only [Act.put, List.setIfInBounds_toArray, List.set_cons_zero, List.set_cons_succ]
            refine wpAnyL_take (i := 17) (v := ?va102) (by simp; rfl) (by kernel_rfl) (by kernel_rfl) (by kernel_rfl) (by kernel_rfl) (fun _ _ _ h => h) (Or.inl ⟨by rfl, ?ya102⟩) hHeld ?ra102
            case ya102 => intro w hSw; clear hSw; go_simp; with_reducible rfl
            simp only [Act.put, List.setIfInBounds_toArray, List.set_cons_zero, List.set_cons_succ]
            refine wpAnyL_ready (rs := [18]) (by kernel_rfl) (by simp) ?_
            refine AllReadyL.cons (by simp; rfl) (fun Kc hKc => ?_) AllReadyL.nil
            have f7 := frozen_of_row v4 g 7 _ 69 Kw
            have c7 := KAt.c7 Kw
            go_simp
            have Kx : KAt (v4.setCell ⟨g, 7, none⟩ (.slice (some ⟨g1, 0, none⟩) (mr + 1) c1)) g p r s (.slice (some ⟨g1, 0, none⟩) (mr + 1) c1) (.slice pw mr cw) := LAt.set Kw 7 _
            have hH := KAt.c8 Kx
            refine hKc.out _ (v4.setCell ⟨g, 7, none⟩ (.slice (some ⟨g1, 0, none⟩) (mr + 1) c1)) (fun _ => hH) ?_
            clear f7 c7 Kw
            clear hKc Kc hHeld
            have hHeld := hH
            clear hH
            refine wpAnyL_ready (rs := [19]) (by kernel_rfl) (by simp) ?_
            refine AllReadyL.cons (by simp; rfl) (fun Kc hKc => ?_) AllReadyL.nil
            go_simp
            refine hKc.out _ _ (fun _ => hHeld) ?_
            clear hKc Kc
            refine wpAnyL_take (i := 20) (v := ?va103) (by simp; rfl) (by kernel_rfl) (by kernel_rfl) (by kernel_rfl) (by kernel_rfl) (fun _ _ _ h => h) (Or.inl ⟨by rfl, ?ya103⟩) hHeld ?ra103
            case ya103 => intro w hSw; clear hSw; go_simp; with_reducible rfl
            simp only [Act.put, List.setIfInBounds_toArray, List.set_cons_zero, List.set_cons_succ]
            refine wpAnyL_ready (rs := [21]) (by kernel_rfl) (by simp) ?_
            refine AllReadyL.cons (by simp; rfl) (fun Kc hKc => ?_) AllReadyL.nil
            have f8 := frozen_of_row (v4.setCell ⟨g, 7, none⟩ (.slice (some ⟨g1, 0, none⟩) (mr + 1) c1)) g 8 _ 69 Kx
            have c8 := KAt.c8 Kx
            go_simp
            have HN : Hid (∃ R', LS w ((v4.setCell ⟨g, 7, none⟩ (.slice (some ⟨g1, 0, none⟩) (mr + 1) c1)).setCell ⟨g, 8, none⟩ (.slice (some ⟨g2, 0, none⟩) (mr + 1) c2)) R' B g p r n s o d ws (mr + 1)) := HLS.out.tell HBb.out HKb.out HTb.out HCv4.out HPb.out HUV.out.1 HUV.out.2.1 HUV.out.2.2
            refine hKc.out _ ((v4.setCell ⟨g, 7, none⟩ (.slice (some ⟨g1, 0, none⟩) (mr + 1) c1)).setCell ⟨g, 8, none⟩ (.slice (some ⟨g2, 0, none⟩) (mr + 1) c2)) (fun h => absurd rfl h) ?_
            clear hKc Kc hHeld f8 c8 Kx HCv4
            generalize (v4.setCell ⟨g, 7, none⟩ (.slice (some ⟨g1, 0, none⟩) (mr + 1) c1)).setCell ⟨g, 8, none⟩ (.slice (some ⟨g2, 0, none⟩) (mr + 1) c2) = wz at *
            refine wpAnyL_done (by kernel_rfl) (NoPanic.normal ?_) _
            go_wp2_with fail
            go_roundw
            case rel => exact ⟨k + 1, by omega, by go_num, HN.out.elim fun R' hR' => ⟨R', mr + 1, by omega, hR'⟩⟩
            case measure => simp [intOf]; omega
          · go_simp
            have HAv2 : Hid (Below wb.heap.size wb (v1.alloc (.cells #[.slice qa L ca] 41))) := below_then HAv1.out (below_alloc _ _)
            have hH : (v1.alloc (.cells #[.slice qa L ca] 41)).cell? ⟨g, 8, none⟩ = some (.slice pw mr cw) := KAt.c8 (LAt.later HKb.out HAv2.out)
            have HN7v2 : Hid (LAt 41 (v1.alloc (.cells #[.slice qa L ca] 41)) v1.heap.size [.slice qa L ca]) := LAt.new 41 _ _
            have HZ7 : Hid (wb.heap.size ≤ v1.heap.size) := HAv1.out.size
            have HN14v2 : Hid (LAt 41 (v1.alloc (.cells #[.slice qa L ca] 41)) wb.heap.size [.slice qb L cb]) := LAt.later HN14v1.out (below_alloc _ _)
            refine hKc.out _ (v1.alloc (.cells #[.slice qa L ca] 41)) (fun _ => hH) ?_
            clear HAv1 HN14v1
            clear hKc Kc hHeld
            have hHeld := hH
            clear hH
            generalize v1.alloc (.cells #[.slice qa L ca] 41) = v2 at *
            refine wpAnyL_ready (rs := [5]) (by kernel_rfl) (by simp) ?_
            refine AllReadyL.cons (by simp; rfl) (fun Kc hKc => ?_) AllReadyL.nil
            have z7 := KAt.c7 (LAt.later HKb.out HAv2.out)
            go_simp
            refine hKc.out _ _ (fun _ => hHeld) ?_
            clear hKc Kc z7
            refine wpAnyL_ready (rs := [8]) (by kernel_rfl) (by simp) ?_
            refine AllReadyL.cons (by simp; rfl) (fun Kc hKc => ?_) AllReadyL.nil
            refine step_append_lies _ rfl (.tmp 123) (.tmp 125) 67 rfl 0 41 i41 (.slice none 0 0) 1 24 Tryd.underlying67 hi41 hz410 hz411 hz412 rfl (by omega) _ mr tl rfl (own_later HTb.out.told HAv2.out) ⟨v1.heap.size, 0, none⟩ 1 1 [.slice qa L ca] rfl rfl (news_of HN7v2.out) (one_sl _ _ _) (by omega) (by unfold maxLen; omega) (by omega) (Nat.zero_le _) _ rfl ?_
            intro g1 c1 v3 hown hgrow hat hlt
            have HTv3 : Hid (TB wb v3 mr (.slice pt mr ct) tl (.slice qa L ca) g1 c1) := TB.of HAv2.out hown hgrow hat
            have hH : v3.cell? ⟨g, 8, none⟩ = some (.slice pw mr cw) := KAt.c8 ((HTv3.out.kept.block g (LAt.lt HKb.out) HNG.out.1).trans HKb.out)
            have HN14v3 : Hid (LAt 41 v3 wb.heap.size [.slice qb L cb]) := (hgrow.block _ (LAt.lt HN14v2.out) (fun e => by have h1 := own_lt HTb.out.told e.symm; have h2 := HZ14.out; omega)).trans HN14v2.out
            refine hKc.out _ _ (fun _ => hH) ?_
            clear hown hgrow hat hlt HAv2 HN7v2 HZ7 HN14v2
            clear hKc Kc hHeld
            have hHeld := hH
            clear hH
            refine wpAnyL_ready (rs := [15]) (by kernel_rfl) (by simp) ?_
            refine AllReadyL.cons (by simp; rfl) (fun Kc hKc => ?_) AllReadyL.nil
            refine step_append_lies _ rfl (.tmp 130) (.tmp 132) 67 rfl 0 41 i41 (.slice none 0 0) 1 24 Tryd.underlying67 hi41 hz410 hz411 hz412 rfl (by omega) _ mr wl rfl (own_same HTb.out.want (fun k hk => HTv3.out.kept.block k (own_lt HTb.out.want hk) (fun c => HNG.out.2.2 k c hk))) ⟨wb.heap.size, 0, none⟩ 1 1 [.slice qb L cb] rfl rfl (news_of HN14v3.out) (one_sl _ _ _) (by omega) (by unfold maxLen; omega) (by omega) (Nat.zero_le _) _ rfl ?_
            intro g2 c2 v4 hown hgrow hat hlt
            have HCv4 : Hid (TC wb v4 mr (.slice pt mr ct) (.slice pw mr cw) tl wl (.slice qa L ca) (.slice qb L cb) g1 c1 g2 c2) := TC.of HTv3.out hown hgrow hat HNG.out.2.2 (fun k hk => own_lt HTb.out.want hk)
            have Kw : KAt v4 g p r s (.slice pt mr ct) (.slice pw mr cw) := (HCv4.out.kept.block g (LAt.lt HKb.out) (fun c => c.elim HNG.out.1 HNG.out.2.1)).trans HKb.out
            have hH : v4.cell? ⟨g, 8, none⟩ = some (.slice pw mr cw) := KAt.c8 Kw
            refine hKc.out _ _ (fun _ => hH) ?_
            clear hown hgrow hat hlt HTv3 HN14v3 HZ14
            clear hKc Kc hHeld
            have hHeld := hH
            clear hH
            refine wpAnyL_take (i := 16) (v := ?va104) (by simp; rfl) (by kernel_rfl) (by kernel_rfl) (by kernel_rfl) (by kernel_rfl) (fun _ _ _ h => h) (Or.inl ⟨by rfl, ?ya104⟩) hHeld ?ra104
            case ya104 => intro w hSw; clear hSw; go_simp; with_reducible rfl
            simp only [Act.put, List.setIfInBounds_toArray, List.set_cons_zero, List.set_cons_succ]
            refine wpAnyL_take (i := 17) (v := ?va105) (by simp; rfl) (by kernel_rfl) (by kernel_rfl) (by kernel_rfl) (by kernel_rfl) (fun _ _ _ h => h) (Or.inl ⟨by rfl, ?ya105⟩) hHeld ?ra105
            case ya105 => intro w hSw; clear hSw; go_simp; with_reducible rfl
            simp only [Act.put, List.setIfInBounds_toArray, List.set_cons_zero, List.set_cons_succ]
            refine wpAnyL_ready (rs := [18]) (by kernel_rfl) (by simp) ?_
            refine AllReadyL.cons (by simp; rfl) (fun Kc hKc => ?_) AllReadyL.nil
            have f7 := frozen_of_row v4 g 7 _ 69 Kw
            have c7 := KAt.c7 Kw
            go_simp
            have Kx : KAt (v4.setCell ⟨g, 7, none⟩ (.slice (some ⟨g1, 0, none⟩) (mr + 1) c1)) g p r s (.slice (some ⟨g1, 0, none⟩) (mr + 1) c1) (.slice pw mr cw) := LAt.set Kw 7 _
            have hH := KAt.c8 Kx
            refine hKc.out _ (v4.setCell ⟨g, 7, none⟩ (.slice (some ⟨g1, 0, none⟩) (mr + 1) c1)) (fun _ => hH) ?_
            clear f7 c7 Kw
            clear hKc Kc hHeld
            have hHeld := hH
            clear hH
            refine wpAnyL_ready (rs := [19]) (by kernel_rfl) (by simp) ?_
            refine AllReadyL.cons (by simp; rfl) (fun Kc hKc => ?_) AllReadyL.nil
            go_simp
            refine hKc.out _ _ (fun _ => hHeld) ?_
            clear hKc Kc
            refine wpAnyL_take (i := 20) (v := ?va106) (by simp; rfl) (by kernel_rfl) (by kernel_rfl) (by kernel_rfl) (by kernel_rfl) (fun _ _ _ h => h) (Or.inl ⟨by rfl, ?ya106⟩) hHeld ?ra106
            case ya106 => intro w hSw; clear hSw; go_simp; with_reducible rfl
            simp only [Act.put, List.setIfInBounds_toArray, List.set_cons_zero, List.set_cons_succ]
            refine wpAnyL_ready (rs := [21]) (by kernel_rfl) (by simp) ?_
            refine AllReadyL.cons (by simp; rfl) (fun Kc hKc => ?_) AllReadyL.nil
            have f8 := frozen_of_row (v4.setCell ⟨g, 7, none⟩ (.slice (some ⟨g1, 0, none⟩) (mr + 1) c1)) g 8 _ 69 Kx
            have c8 := KAt.c8 Kx
            go_simp
            have HN : Hid (∃ R', LS w ((v4.setCell ⟨g, 7, none⟩ (.slice (some ⟨g1, 0, none⟩) (mr + 1) c1)).setCell ⟨g, 8, none⟩ (.slice (some ⟨g2, 0, none⟩) (mr + 1) c2)) R' B g p r n s o d ws (mr + 1)) := HLS.out.tell HBb.out HKb.out HTb.out HCv4.out HPb.out HUV.out.1 HUV.out.2.1 HUV.out.2.2
            refine hKc.out _ ((v4.setCell ⟨g, 7, none⟩ (.slice (some ⟨g1, 0, none⟩) (mr + 1) c1)).setCell ⟨g, 8, none⟩ (.slice (some ⟨g2, 0, none⟩) (mr + 1) c2)) (fun h => absurd rfl h) ?_
            clear hKc Kc hHeld f8 c8 Kx HCv4
            generalize (v4.setCell ⟨g, 7, none⟩ (.slice (some ⟨g1, 0, none⟩) (mr + 1) c1)).setCell ⟨g, 8, none⟩ (.slice (some ⟨g2, 0, none⟩) (mr + 1) c2) = wz at *
            refine wpAnyL_done (by kernel_rfl) (NoPanic.normal ?_) _
            go_wp2_with fail
            go_roundw
            case rel => exact ⟨k + 1, by omega, by go_num, HN.out.elim fun R' hR' => ⟨R', mr + 1, by omega, hR'⟩⟩
            case measure => simp [intOf]; omega
      · have i2 : ¬ (k : Int) < 2 := by omega
        go_wp2_with fail
        go_ret
        exact ⟨rfl, ⟨Rr, d, ws, mr, HLS.out.dk, by omega, by omega, HLS.out.le⟩, HLS.out.below⟩
end Z
end Go.Proofs.YtpenddnmmfpdjaaDoor
