/-
  plays: Save.
-/
import Derived.Test.YtpenddnmmfpdjaaDoorXc
namespace Go.Proofs.YtpenddnmmfpdjaaDoor
open Go.RowKit

set_option maxRecDepth 100000 in
set_option maxHeartbeats 8000000 in
theorem plays_save {w : World} {B g p r n K : Nat} {s : Sup} (h : St w B g p r n s K) (hK : K ≤ 100) (b : Int) (v : List Int) (hv : v.length = 32) (hvb : Bytes v) (raw keep : Value) (o : Sup) (odd : Bool) :
    Calls Tryd.prog 30 #[.pointer (some ⟨g, 0, none⟩), .agg (ocells 1 b v raw keep o odd).toArray] w fun e0 w' => e0 = .returned (.bool true) ∧ St w' B g p r n s (K + 1) ∧ Below B w w' := by
  obtain ⟨R, d, ws, m, hD, hl, hm, hB⟩ := h
  have HV : Hid (v.length = 32 ∧ Bytes v) := ⟨hv, hvb⟩
  obtain ⟨w0, hw0⟩ : ∃ x, x = w.alloc (.cells (ocells 1 b v raw keep o odd).toArray 73) := ⟨_, rfl⟩
  have ew := hw0.symm
  have sz0 : w0.heap.size = w.heap.size + 1 := by rw [hw0]; simp
  have b0 : Below w.heap.size w w0 := by rw [hw0]; exact below_alloc w _
  have O0 : OAt w0 w.heap.size 1 b v raw keep o odd := by rw [hw0]; exact LAt.new 73 w _
  obtain ⟨vt, vw, tl, wl, hk0, -⟩ := (hD.later b0).desk
  have L0 : Hid (_) := KAt.load39 hk0
  have A0 : Hid (_) := alloc23 w0
  have S0 : Hid (_) := store_newC w0 s
  obtain ⟨w1, hw1⟩ : ∃ x, x = w0.alloc (.cells (ccells s).toArray 39) := ⟨_, rfl⟩
  have b1 : Below w.heap.size w w1 := by rw [hw1]; exact below_then b0 (below_alloc _ _)
  have C1 : CAt w1 (w.heap.size + 1) s := by rw [hw1, ← sz0]; exact LAt.new 39 w0 _
  have O1 : OAt w1 w.heap.size 1 b v raw keep o odd := by rw [hw1]; exact LAt.later O0 (below_alloc _ _)
  have K1 : KAt w1 g p r s vt vw := by rw [hw1]; exact LAt.later hk0 (below_alloc _ _)
  have c41 := OAt.odd O1 hv
  rw [← hw1] at S0
  rw [sz0] at A0 S0
  have HF : Hid (Off R g w.heap.size (w.heap.size + 1)) := ⟨hD.rg, hD.hi _ (Nat.le_refl _), hD.hi _ (Nat.le_succ _)⟩
  have HBB : Hid (B ≤ w.heap.size) := hB
  clear hw0 hw1 O0 hk0
  cases odd
  · have HD : Hid (Dk w1 R B g p r n s d ws d ws m) := hD.later b1
    have HS : Hid (See w1 g p r s vt vw w.heap.size (ocells 1 b v raw keep o false) (w.heap.size + 1) s) := ⟨K1, O1, C1⟩
    have HB : Hid (Below w.heap.size w w1) := b1
    have kd := OAt.kind O1
    clear hD b0 b1 O1 C1 K1 hv hvb hB
    go_enter Tryd.func30, Tryd.ntmps30
    go_wp2_with ((with_reducible refine at_ops ?_); (first | (refine wpList_load_is (by rfl) 39 rfl rfl L0.out ?_) | (refine wpList_alloc_is (by rfl) 39 rfl A0.out ?_) | (refine wpList_store_is (by rfl) 39 rfl rfl rfl S0.out ?_)); simp only [Act.put, List.setIfInBounds_toArray, List.set_cons_zero, List.set_cons_succ])
    clear c41 kd L0 A0 S0 ew sz0
    refine wp_region_noPanic ?_
    refine wp_region_held_drew (S := (fun w' => See w' g p r s vt vw w.heap.size (ocells 1 b v raw keep o false) (w.heap.size + 1) s)) (by kernel_rfl) (HS.out.later (below_drawn 1)) (fun hHeld => ?_)
    have HDd : Hid (Dk w1.drew R B g p r n s d ws d ws m) := HD.out.later (below_drawn 1)
    have HSd : Hid (See w1.drew g p r s vt vw w.heap.size (ocells 1 b v raw keep o false) (w.heap.size + 1) s) := HS.out.later (below_drawn 1)
    have HBd : Hid (Below w.heap.size w w1.drew) := below_then HB.out (below_drawn 1)
    have HLe : Hid (B ≤ w1.drew.heap.size) := Nat.le_trans HBB.out HBd.out.size
    clear HD HS HB
    generalize w1.drew = wd at *
    refine wpAnyH_take (i := 0) (v := ?va1) (by simp; rfl) (by kernel_rfl) (by kernel_rfl) (by kernel_rfl) (fun _ _ _ h => h) (Or.inl ⟨by rfl, ?ya1⟩) hHeld ?ra1
    case ya1 => intro w hSw; clear hSw; go_simp; with_reducible rfl
    simp only [Act.put, List.setIfInBounds_toArray, List.set_cons_zero, List.set_cons_succ]
    refine wpAnyH_take (i := 1) (v := ?va2) (by simp; rfl) (by kernel_rfl) (by kernel_rfl) (by kernel_rfl) (fun _ _ _ h => h) (Or.inl ⟨by rfl, ?ya2⟩) hHeld ?ra2
    case ya2 => intro w hSw; clear hSw; go_simp; with_reducible rfl
    simp only [Act.put, List.setIfInBounds_toArray, List.set_cons_zero, List.set_cons_succ]
    refine wpAnyH_take (i := 2) (v := ?va3) (by simp; rfl) (by kernel_rfl) (by kernel_rfl) (by kernel_rfl) (fun _ _ _ h => h) (Or.inl ⟨by rfl, ?ya3⟩) hHeld ?ra3
    case ya3 => intro w hSw; clear hSw; go_simp; with_reducible rfl
    simp only [Act.put, List.setIfInBounds_toArray, List.set_cons_zero, List.set_cons_succ]
    refine wpAnyH_take (i := 3) (v := ?va4) (by simp; rfl) (by kernel_rfl) (by kernel_rfl) (by kernel_rfl) (fun _ _ _ h => h) (Or.inl ⟨by rfl, ?ya4⟩) hHeld ?ra4
    case ya4 => intro w hSw; have z := KAt.c0 hSw.desk; clear hSw; go_simp; with_reducible rfl
    simp only [Act.put, List.setIfInBounds_toArray, List.set_cons_zero, List.set_cons_succ]
    refine wpAnyH_take (i := 4) (v := _) (by simp; rfl) (by kernel_rfl) (by kernel_rfl) (by kernel_rfl) (fun _ _ _ h => h) (yieldsIf_load_mid (by rfl) 39 (.tmp 5) rfl (w.heap.size + 1) 0 rfl (ccells s) _ (fun _ h => LAt.range h.cfg) Tryd.underlying39 rfl (by rw [size23, ccells_len])) hHeld ?_
    simp only [Act.put, List.setIfInBounds_toArray, List.set_cons_zero, List.set_cons_succ]
    refine wpAnyH_take (i := 5) (v := ?va5) (by simp; rfl) (by kernel_rfl) (by kernel_rfl) (by kernel_rfl) (fun _ _ _ h => h) (Or.inl ⟨by rfl, ?ya5⟩) hHeld ?ra5
    case ya5 => intro w hSw; clear hSw; go_simp; with_reducible rfl
    simp only [Act.put, List.setIfInBounds_toArray, List.set_cons_zero, List.set_cons_succ]
    refine wpAnyH_take (i := 6) (v := ?va6) (by simp; rfl) (by kernel_rfl) (by kernel_rfl) (by kernel_rfl) (fun _ _ _ h => h) (Or.inl ⟨by rfl, ?ya6⟩) hHeld ?ra6
    case ya6 => intro w hSw; have z := OAt.block hSw.op; clear hSw; go_simp; with_reducible rfl
    simp only [Act.put, List.setIfInBounds_toArray, List.set_cons_zero, List.set_cons_succ]
    refine wpAnyH_take (i := 7) (v := ?va7) (by simp; rfl) (by kernel_rfl) (by kernel_rfl) (by kernel_rfl) (fun _ _ _ h => h) (Or.inl ⟨by rfl, ?ya7⟩) hHeld ?ra7
    case ya7 => intro w hSw; clear hSw; go_simp; with_reducible rfl
    simp only [Act.put, List.setIfInBounds_toArray, List.set_cons_zero, List.set_cons_succ]
    refine wpAnyH_take (i := 8) (v := _) (by simp; rfl) (by kernel_rfl) (by kernel_rfl) (by kernel_rfl) (fun _ _ _ h => h) (yieldsIf_load_mid (by rfl) 23 (.tmp 39) rfl w.heap.size 2 rfl (U8 v) _ (fun _ h => OAt.val h.op) Tryd.underlying23 rfl (by rw [sizeV, U8_length, HV.out.1])) hHeld ?_
    simp only [Act.put, List.setIfInBounds_toArray, List.set_cons_zero, List.set_cons_succ]
    refine wpAnyH_take (i := 10) (v := ?va8) (by simp; rfl) (by kernel_rfl) (by kernel_rfl) (by kernel_rfl) (fun _ _ _ h => h) (Or.inl ⟨by rfl, ?ya8⟩) hHeld ?ra8
    case ya8 => intro w hSw; clear hSw; go_simp; with_reducible rfl
    simp only [Act.put, List.setIfInBounds_toArray, List.set_cons_zero, List.set_cons_succ]
    refine wpAnyH_take (i := 11) (v := ?va9) (by simp; rfl) (by kernel_rfl) (by kernel_rfl) (by kernel_rfl) (fun _ _ _ h => h) (Or.inl ⟨by rfl, ?ya9⟩) hHeld ?ra9
    case ya9 => intro w hSw; clear hSw; go_simp; with_reducible rfl
    simp only [Act.put, List.setIfInBounds_toArray, List.set_cons_zero, List.set_cons_succ]
    refine wpAnyH_take (i := 12) (v := ?va10) (by simp; rfl) (by kernel_rfl) (by kernel_rfl) (by kernel_rfl) (fun _ _ _ h => h) (Or.inl ⟨by rfl, ?ya10⟩) hHeld ?ra10
    case ya10 => intro w hSw; clear hSw; go_simp; with_reducible rfl
    simp only [Act.put, List.setIfInBounds_toArray, List.set_cons_zero, List.set_cons_succ]
    refine wpAnyH_take (i := 13) (v := ?va11) (by simp; rfl) (by kernel_rfl) (by kernel_rfl) (by kernel_rfl) (fun _ _ _ h => h) (Or.inl ⟨by rfl, ?ya11⟩) hHeld ?ra11
    case ya11 => intro w hSw; have z := KAt.c1 hSw.desk; clear hSw; go_simp; with_reducible rfl
    simp only [Act.put, List.setIfInBounds_toArray, List.set_cons_zero, List.set_cons_succ]
    refine wpAnyH_take (i := 14) (v := _) (by simp; rfl) (by kernel_rfl) (by kernel_rfl) (by kernel_rfl) (fun _ _ _ h => h) (yieldsIf_load_mid (by rfl) 39 (.tmp 5) rfl (w.heap.size + 1) 0 rfl (ccells s) _ (fun _ h => LAt.range h.cfg) Tryd.underlying39 rfl (by rw [size23, ccells_len])) hHeld ?_
    simp only [Act.put, List.setIfInBounds_toArray, List.set_cons_zero, List.set_cons_succ]
    refine wpAnyH_take (i := 15) (v := ?va12) (by simp; rfl) (by kernel_rfl) (by kernel_rfl) (by kernel_rfl) (fun _ _ _ h => h) (Or.inl ⟨by rfl, ?ya12⟩) hHeld ?ra12
    case ya12 => intro w hSw; clear hSw; go_simp; with_reducible rfl
    simp only [Act.put, List.setIfInBounds_toArray, List.set_cons_zero, List.set_cons_succ]
    refine wpAnyH_take (i := 16) (v := ?va13) (by simp; rfl) (by kernel_rfl) (by kernel_rfl) (by kernel_rfl) (fun _ _ _ h => h) (Or.inl ⟨by rfl, ?ya13⟩) hHeld ?ra13
    case ya13 => intro w hSw; have z := OAt.block hSw.op; clear hSw; go_simp; with_reducible rfl
    simp only [Act.put, List.setIfInBounds_toArray, List.set_cons_zero, List.set_cons_succ]
    refine wpAnyH_take (i := 17) (v := ?va14) (by simp; rfl) (by kernel_rfl) (by kernel_rfl) (by kernel_rfl) (fun _ _ _ h => h) (Or.inl ⟨by rfl, ?ya14⟩) hHeld ?ra14
    case ya14 => intro w hSw; clear hSw; go_simp; with_reducible rfl
    simp only [Act.put, List.setIfInBounds_toArray, List.set_cons_zero, List.set_cons_succ]
    refine wpAnyH_take (i := 18) (v := _) (by simp; rfl) (by kernel_rfl) (by kernel_rfl) (by kernel_rfl) (fun _ _ _ h => h) (yieldsIf_load_mid (by rfl) 23 (.tmp 49) rfl w.heap.size 2 rfl (U8 v) _ (fun _ h => OAt.val h.op) Tryd.underlying23 rfl (by rw [sizeV, U8_length, HV.out.1])) hHeld ?_
    simp only [Act.put, List.setIfInBounds_toArray, List.set_cons_zero, List.set_cons_succ]
    refine wpAnyH_ready (rs := [9]) (by kernel_rfl) (by simp) ?_
    refine AllReadyH.cons (by simp; rfl) (fun Kc hKc => ?_) AllReadyH.nil
    go_simp
    refine (hsave_any s b v HV.out.1 HV.out.2 HDd.out.dsk (by omega) HDd.out.tab).mono ?_
    rintro e we ⟨rfl, de, ke⟩
    have HDe : Hid (Dk we (up R wd.heap.size we.heap.size 1) B g p r n s d (svW s n ws b v) d ws m ∧ Below B wd we) := HDd.out.setD ke de HLe.out
    have HSe : Hid (See we g p r s vt vw w.heap.size (ocells 1 b v raw keep o false) (w.heap.size + 1) s) := HSd.out.turn ke HF.out (by decide) (by decide)
    have HFe : Hid (Off (up R wd.heap.size we.heap.size 1) g w.heap.size (w.heap.size + 1)) := HSd.out.off HF.out
    have HLf : Hid (B ≤ we.heap.size) := Nat.le_trans HLe.out ke.size
    clear de ke HDd HSd HF hHeld HLe
    generalize up R wd.heap.size we.heap.size 1 = Re at *
    refine hKc.out _ _ HSe.out (fun hHeld => ?_)
    clear hKc Kc
    refine wpAnyH_ready (rs := [19]) (by kernel_rfl) (by simp) ?_
    refine AllReadyH.cons (by simp; rfl) (fun Kc hKc => ?_) AllReadyH.nil
    go_simp
    refine (rsave_any s b v HV.out.1 HV.out.2 HDe.out.1.ref (by omega)).mono ?_
    rintro e wf ⟨rfl, df, kf⟩
    have HDf : Hid (Dk wf (up Re we.heap.size wf.heap.size 2) B g p r n s d (svW s n ws b v) d (svW s n ws b v) m ∧ Below B we wf) := HDe.out.1.setR kf df HLf.out
    have HSf : Hid (See wf g p r s vt vw w.heap.size (ocells 1 b v raw keep o false) (w.heap.size + 1) s) := HSe.out.turn kf HFe.out (by decide) (by decide)
    have HLg : Hid (B ≤ wf.heap.size) := Nat.le_trans HLf.out kf.size
    have HBf : Hid (Below B w wf) := ((HBd.out.mono HBB.out).trans HDe.out.2).trans HDf.out.2
    clear df kf HDe HSe HFe HLf hHeld
    refine hKc.out _ _ HSf.out (fun hHeld => ?_)
    clear hKc Kc
    refine wpAnyH_take (i := 20) (v := ?va15) (by simp; rfl) (by kernel_rfl) (by kernel_rfl) (by kernel_rfl) (fun _ _ _ h => h) (Or.inl ⟨by rfl, ?ya15⟩) hHeld ?ra15
    case ya15 => intro w hSw; clear hSw; go_simp; with_reducible rfl
    simp only [Act.put, List.setIfInBounds_toArray, List.set_cons_zero, List.set_cons_succ]
    refine wpAnyH_take (i := 21) (v := ?va16) (by simp; rfl) (by kernel_rfl) (by kernel_rfl) (by kernel_rfl) (fun _ _ _ h => h) (Or.inl ⟨by rfl, ?ya16⟩) hHeld ?ra16
    case ya16 => intro w hSw; clear hSw; go_simp; with_reducible rfl
    simp only [Act.put, List.setIfInBounds_toArray, List.set_cons_zero, List.set_cons_succ]
    refine wpAnyH_done (by kernel_rfl) (NoPanic.normal ?_) _
    go_wp2_with fail
    go_ret
    exact ⟨by simp, ⟨_, d, _, m, HDf.out.1, Nat.le_trans (svW_length _ _ _ _ _) (by omega), by omega, HLg.out⟩, HBf.out⟩
  · have L1 : Hid (_) := OAt.load39 O1 hv
    have S1 : Hid (_) := LAt.store (ds := ccells o) C1 size23 rfl (ccells_all o)
    obtain ⟨w2, hw2⟩ : ∃ x, x = w1.setRow (w.heap.size + 1) (ccells o).toArray := ⟨_, rfl⟩
    have b2 : Below w.heap.size w w2 := by rw [hw2]; exact below_setRow b1 (Nat.le_succ _) _
    have C2 : CAt w2 (w.heap.size + 1) o := by rw [hw2]; exact LAt.stored C1 _
    have O2 : OAt w2 w.heap.size 1 b v raw keep o true := by rw [hw2]; exact LAt.other O1 _ (by omega)
    have K2 : KAt w2 g p r s vt vw := by rw [hw2]; exact LAt.other K1 _ (by have hz := hD.hi (w.heap.size + 1) (Nat.le_succ _); have hg := hD.rg; intro c; rw [c, hz] at hg; cases hg)
    rw [← hw2] at S1
    have HD : Hid (Dk w2 R B g p r n s d ws d ws m) := hD.later b2
    have HS : Hid (See w2 g p r s vt vw w.heap.size (ocells 1 b v raw keep o true) (w.heap.size + 1) o) := ⟨K2, O2, C2⟩
    have HB : Hid (Below w.heap.size w w2) := b2
    have kd := OAt.kind O2
    clear hD b0 b1 b2 O1 C1 K1 O2 C2 K2 hw2 hv hvb hB
    go_enter Tryd.func30, Tryd.ntmps30
    go_wp2_with ((with_reducible refine at_ops ?_); (first | (refine wpList_load_is (by rfl) 39 rfl rfl L0.out ?_) | (refine wpList_alloc_is (by rfl) 39 rfl A0.out ?_) | (refine wpList_store_is (by rfl) 39 rfl rfl rfl S0.out ?_) | (refine wpList_load_is (by rfl) 39 rfl rfl L1.out ?_) | (refine wpList_store_is (by rfl) 39 rfl rfl rfl S1.out ?_)); simp only [Act.put, List.setIfInBounds_toArray, List.set_cons_zero, List.set_cons_succ])
    clear c41 kd L0 A0 S0 L1 S1 ew sz0
    refine wp_region_noPanic ?_
    refine wp_region_held_drew (S := (fun w' => See w' g p r s vt vw w.heap.size (ocells 1 b v raw keep o true) (w.heap.size + 1) o)) (by kernel_rfl) (HS.out.later (below_drawn 1)) (fun hHeld => ?_)
    have HDd : Hid (Dk w2.drew R B g p r n s d ws d ws m) := HD.out.later (below_drawn 1)
    have HSd : Hid (See w2.drew g p r s vt vw w.heap.size (ocells 1 b v raw keep o true) (w.heap.size + 1) o) := HS.out.later (below_drawn 1)
    have HBd : Hid (Below w.heap.size w w2.drew) := below_then HB.out (below_drawn 1)
    have HLe : Hid (B ≤ w2.drew.heap.size) := Nat.le_trans HBB.out HBd.out.size
    clear HD HS HB
    generalize w2.drew = wd at *
    refine wpAnyH_take (i := 0) (v := ?va17) (by simp; rfl) (by kernel_rfl) (by kernel_rfl) (by kernel_rfl) (fun _ _ _ h => h) (Or.inl ⟨by rfl, ?ya17⟩) hHeld ?ra17
    case ya17 => intro w hSw; clear hSw; go_simp; with_reducible rfl
    simp only [Act.put, List.setIfInBounds_toArray, List.set_cons_zero, List.set_cons_succ]
    refine wpAnyH_take (i := 1) (v := ?va18) (by simp; rfl) (by kernel_rfl) (by kernel_rfl) (by kernel_rfl) (fun _ _ _ h => h) (Or.inl ⟨by rfl, ?ya18⟩) hHeld ?ra18
    case ya18 => intro w hSw; clear hSw; go_simp; with_reducible rfl
    simp only [Act.put, List.setIfInBounds_toArray, List.set_cons_zero, List.set_cons_succ]
    refine wpAnyH_take (i := 2) (v := ?va19) (by simp; rfl) (by kernel_rfl) (by kernel_rfl) (by kernel_rfl) (fun _ _ _ h => h) (Or.inl ⟨by rfl, ?ya19⟩) hHeld ?ra19
    case ya19 => intro w hSw; clear hSw; go_simp; with_reducible rfl
    simp only [Act.put, List.setIfInBounds_toArray, List.set_cons_zero, List.set_cons_succ]
    refine wpAnyH_take (i := 3) (v := ?va20) (by simp; rfl) (by kernel_rfl) (by kernel_rfl) (by kernel_rfl) (fun _ _ _ h => h) (Or.inl ⟨by rfl, ?ya20⟩) hHeld ?ra20
    case ya20 => intro w hSw; have z := KAt.c0 hSw.desk; clear hSw; go_simp; with_reducible rfl
    simp only [Act.put, List.setIfInBounds_toArray, List.set_cons_zero, List.set_cons_succ]
    refine wpAnyH_take (i := 4) (v := _) (by simp; rfl) (by kernel_rfl) (by kernel_rfl) (by kernel_rfl) (fun _ _ _ h => h) (yieldsIf_load_mid (by rfl) 39 (.tmp 5) rfl (w.heap.size + 1) 0 rfl (ccells o) _ (fun _ h => LAt.range h.cfg) Tryd.underlying39 rfl (by rw [size23, ccells_len])) hHeld ?_
    simp only [Act.put, List.setIfInBounds_toArray, List.set_cons_zero, List.set_cons_succ]
    refine wpAnyH_take (i := 5) (v := ?va21) (by simp; rfl) (by kernel_rfl) (by kernel_rfl) (by kernel_rfl) (fun _ _ _ h => h) (Or.inl ⟨by rfl, ?ya21⟩) hHeld ?ra21
    case ya21 => intro w hSw; clear hSw; go_simp; with_reducible rfl
    simp only [Act.put, List.setIfInBounds_toArray, List.set_cons_zero, List.set_cons_succ]
    refine wpAnyH_take (i := 6) (v := ?va22) (by simp; rfl) (by kernel_rfl) (by kernel_rfl) (by kernel_rfl) (fun _ _ _ h => h) (Or.inl ⟨by rfl, ?ya22⟩) hHeld ?ra22
    case ya22 => intro w hSw; have z := OAt.block hSw.op; clear hSw; go_simp; with_reducible rfl
    simp only [Act.put, List.setIfInBounds_toArray, List.set_cons_zero, List.set_cons_succ]
    refine wpAnyH_take (i := 7) (v := ?va23) (by simp; rfl) (by kernel_rfl) (by kernel_rfl) (by kernel_rfl) (fun _ _ _ h => h) (Or.inl ⟨by rfl, ?ya23⟩) hHeld ?ra23
    case ya23 => intro w hSw; clear hSw; go_simp; with_reducible rfl
    simp only [Act.put, List.setIfInBounds_toArray, List.set_cons_zero, List.set_cons_succ]
    refine wpAnyH_take (i := 8) (v := _) (by simp; rfl) (by kernel_rfl) (by kernel_rfl) (by kernel_rfl) (fun _ _ _ h => h) (yieldsIf_load_mid (by rfl) 23 (.tmp 39) rfl w.heap.size 2 rfl (U8 v) _ (fun _ h => OAt.val h.op) Tryd.underlying23 rfl (by rw [sizeV, U8_length, HV.out.1])) hHeld ?_
    simp only [Act.put, List.setIfInBounds_toArray, List.set_cons_zero, List.set_cons_succ]
    refine wpAnyH_take (i := 10) (v := ?va24) (by simp; rfl) (by kernel_rfl) (by kernel_rfl) (by kernel_rfl) (fun _ _ _ h => h) (Or.inl ⟨by rfl, ?ya24⟩) hHeld ?ra24
    case ya24 => intro w hSw; clear hSw; go_simp; with_reducible rfl
    simp only [Act.put, List.setIfInBounds_toArray, List.set_cons_zero, List.set_cons_succ]
    refine wpAnyH_take (i := 11) (v := ?va25) (by simp; rfl) (by kernel_rfl) (by kernel_rfl) (by kernel_rfl) (fun _ _ _ h => h) (Or.inl ⟨by rfl, ?ya25⟩) hHeld ?ra25
    case ya25 => intro w hSw; clear hSw; go_simp; with_reducible rfl
    simp only [Act.put, List.setIfInBounds_toArray, List.set_cons_zero, List.set_cons_succ]
    refine wpAnyH_take (i := 12) (v := ?va26) (by simp; rfl) (by kernel_rfl) (by kernel_rfl) (by kernel_rfl) (fun _ _ _ h => h) (Or.inl ⟨by rfl, ?ya26⟩) hHeld ?ra26
    case ya26 => intro w hSw; clear hSw; go_simp; with_reducible rfl
    simp only [Act.put, List.setIfInBounds_toArray, List.set_cons_zero, List.set_cons_succ]
    refine wpAnyH_take (i := 13) (v := ?va27) (by simp; rfl) (by kernel_rfl) (by kernel_rfl) (by kernel_rfl) (fun _ _ _ h => h) (Or.inl ⟨by rfl, ?ya27⟩) hHeld ?ra27
    case ya27 => intro w hSw; have z := KAt.c1 hSw.desk; clear hSw; go_simp; with_reducible rfl
    simp only [Act.put, List.setIfInBounds_toArray, List.set_cons_zero, List.set_cons_succ]
    refine wpAnyH_take (i := 14) (v := _) (by simp; rfl) (by kernel_rfl) (by kernel_rfl) (by kernel_rfl) (fun _ _ _ h => h) (yieldsIf_load_mid (by rfl) 39 (.tmp 5) rfl (w.heap.size + 1) 0 rfl (ccells o) _ (fun _ h => LAt.range h.cfg) Tryd.underlying39 rfl (by rw [size23, ccells_len])) hHeld ?_
    simp only [Act.put, List.setIfInBounds_toArray, List.set_cons_zero, List.set_cons_succ]
    refine wpAnyH_take (i := 15) (v := ?va28) (by simp; rfl) (by kernel_rfl) (by kernel_rfl) (by kernel_rfl) (fun _ _ _ h => h) (Or.inl ⟨by rfl, ?ya28⟩) hHeld ?ra28
    case ya28 => intro w hSw; clear hSw; go_simp; with_reducible rfl
    simp only [Act.put, List.setIfInBounds_toArray, List.set_cons_zero, List.set_cons_succ]
    refine wpAnyH_take (i := 16) (v := ?va29) (by simp; rfl) (by kernel_rfl) (by kernel_rfl) (by kernel_rfl) (fun _ _ _ h => h) (Or.inl ⟨by rfl, ?ya29⟩) hHeld ?ra29
    case ya29 => intro w hSw; have z := OAt.block hSw.op; clear hSw; go_simp; with_reducible rfl
    simp only [Act.put, List.setIfInBounds_toArray, List.set_cons_zero, List.set_cons_succ]
    refine wpAnyH_take (i := 17) (v := ?va30) (by simp; rfl) (by kernel_rfl) (by kernel_rfl) (by kernel_rfl) (fun _ _ _ h => h) (Or.inl ⟨by rfl, ?ya30⟩) hHeld ?ra30
    case ya30 => intro w hSw; clear hSw; go_simp; with_reducible rfl
    simp only [Act.put, List.setIfInBounds_toArray, List.set_cons_zero, List.set_cons_succ]
    refine wpAnyH_take (i := 18) (v := _) (by simp; rfl) (by kernel_rfl) (by kernel_rfl) (by kernel_rfl) (fun _ _ _ h => h) (yieldsIf_load_mid (by rfl) 23 (.tmp 49) rfl w.heap.size 2 rfl (U8 v) _ (fun _ h => OAt.val h.op) Tryd.underlying23 rfl (by rw [sizeV, U8_length, HV.out.1])) hHeld ?_
    simp only [Act.put, List.setIfInBounds_toArray, List.set_cons_zero, List.set_cons_succ]
    refine wpAnyH_ready (rs := [9]) (by kernel_rfl) (by simp) ?_
    refine AllReadyH.cons (by simp; rfl) (fun Kc hKc => ?_) AllReadyH.nil
    go_simp
    refine (hsave_any o b v HV.out.1 HV.out.2 HDd.out.dsk (by omega) HDd.out.tab).mono ?_
    rintro e we ⟨rfl, de, ke⟩
    have HDe : Hid (Dk we (up R wd.heap.size we.heap.size 1) B g p r n s d (svW o n ws b v) d ws m ∧ Below B wd we) := HDd.out.setD ke de HLe.out
    have HSe : Hid (See we g p r s vt vw w.heap.size (ocells 1 b v raw keep o true) (w.heap.size + 1) o) := HSd.out.turn ke HF.out (by decide) (by decide)
    have HFe : Hid (Off (up R wd.heap.size we.heap.size 1) g w.heap.size (w.heap.size + 1)) := HSd.out.off HF.out
    have HLf : Hid (B ≤ we.heap.size) := Nat.le_trans HLe.out ke.size
    clear de ke HDd HSd HF hHeld HLe
    generalize up R wd.heap.size we.heap.size 1 = Re at *
    refine hKc.out _ _ HSe.out (fun hHeld => ?_)
    clear hKc Kc
    refine wpAnyH_ready (rs := [19]) (by kernel_rfl) (by simp) ?_
    refine AllReadyH.cons (by simp; rfl) (fun Kc hKc => ?_) AllReadyH.nil
    go_simp
    refine (rsave_any o b v HV.out.1 HV.out.2 HDe.out.1.ref (by omega)).mono ?_
    rintro e wf ⟨rfl, df, kf⟩
    have HDf : Hid (Dk wf (up Re we.heap.size wf.heap.size 2) B g p r n s d (svW o n ws b v) d (svW o n ws b v) m ∧ Below B we wf) := HDe.out.1.setR kf df HLf.out
    have HSf : Hid (See wf g p r s vt vw w.heap.size (ocells 1 b v raw keep o true) (w.heap.size + 1) o) := HSe.out.turn kf HFe.out (by decide) (by decide)
    have HLg : Hid (B ≤ wf.heap.size) := Nat.le_trans HLf.out kf.size
    have HBf : Hid (Below B w wf) := ((HBd.out.mono HBB.out).trans HDe.out.2).trans HDf.out.2
    clear df kf HDe HSe HFe HLf hHeld
    refine hKc.out _ _ HSf.out (fun hHeld => ?_)
    clear hKc Kc
    refine wpAnyH_take (i := 20) (v := ?va31) (by simp; rfl) (by kernel_rfl) (by kernel_rfl) (by kernel_rfl) (fun _ _ _ h => h) (Or.inl ⟨by rfl, ?ya31⟩) hHeld ?ra31
    case ya31 => intro w hSw; clear hSw; go_simp; with_reducible rfl
    simp only [Act.put, List.setIfInBounds_toArray, List.set_cons_zero, List.set_cons_succ]
    refine wpAnyH_take (i := 21) (v := ?va32) (by simp; rfl) (by kernel_rfl) (by kernel_rfl) (by kernel_rfl) (fun _ _ _ h => h) (Or.inl ⟨by rfl, ?ya32⟩) hHeld ?ra32
    case ya32 => intro w hSw; clear hSw; go_simp; with_reducible rfl
    simp only [Act.put, List.setIfInBounds_toArray, List.set_cons_zero, List.set_cons_succ]
    refine wpAnyH_done (by kernel_rfl) (NoPanic.normal ?_) _
    go_wp2_with fail
    go_ret
    exact ⟨by simp, ⟨_, d, _, m, HDf.out.1, Nat.le_trans (svW_length _ _ _ _ _) (by omega), by omega, HLg.out⟩, HBf.out⟩
end Go.Proofs.YtpenddnmmfpdjaaDoor
