/-
  plays: Raw.
-/
import Derived.Test.YtpenddnmmfpdjaaDoorXc
namespace Go.Proofs.YtpenddnmmfpdjaaDoor
open Go.RowKit

theorem bin_of_row {w : World} {g : Nat} {xs : List Int} (h : w.heap[g]? = some (.cells (U8 xs).toArray 5 (0, 0))) (hl : xs.length = 64) (hb : Bytes xs) : BIn w (some ⟨g, 0, none⟩) 64 xs := by
  refine ⟨hl, hb, fun _ => ⟨g, 0, rfl, fun i hi => ?_⟩⟩
  rw [Nat.zero_add, LAt.cell (t := 5) (cs := U8 xs) h i]
  simp [U8, List.getD, List.getElem?_eq_getElem (show i < xs.length by omega)]

set_option maxRecDepth 100000 in
set_option maxHeartbeats 8000000 in
theorem plays_raw {w : World} {B g p r n K : Nat} {s : Sup} (h : St w B g p r n s K) (hK : K ≤ 100) (b : Int) (v : List Int) (hv : v.length = 32) (hvb : Bytes v) (pa : Option Addr) (la ca : Nat) (keep : Value) (o : Sup) (odd : Bool) (xs : List Int) (hxs : BIn w pa la xs) :
    Calls Tryd.prog 30 #[.pointer (some ⟨g, 0, none⟩), .agg (ocells 4 b v (.slice pa la ca) keep o odd).toArray] w fun e0 w' => e0 = .returned (.bool true) ∧ St w' B g p r n s (K + 1) ∧ Below B w w' := by
  obtain ⟨i0, hi, hz0, hz1, hz2⟩ := info_parts info5
  obtain ⟨R, d, ws, m, hD, hl, hm, hB⟩ := h
  have HRAW : Hid (BIn w pa la xs) := hxs
  clear hxs
  have HV : Hid (v.length = 32 ∧ Bytes v) := ⟨hv, hvb⟩
  obtain ⟨w0, hw0⟩ : ∃ x, x = w.alloc (.cells (ocells 4 b v (.slice pa la ca) keep o odd).toArray 73) := ⟨_, rfl⟩
  have ew := hw0.symm
  have sz0 : w0.heap.size = w.heap.size + 1 := by rw [hw0]; simp
  have b0 : Below w.heap.size w w0 := by rw [hw0]; exact below_alloc w _
  have O0 : OAt w0 w.heap.size 4 b v (.slice pa la ca) keep o odd := by rw [hw0]; exact LAt.new 73 w _
  obtain ⟨vt, vw, tl, wl, hk0, -⟩ := (hD.later b0).desk
  have L0 : Hid (_) := KAt.load39 hk0
  have A0 : Hid (_) := alloc23 w0
  have S0 : Hid (_) := store_newC w0 s
  obtain ⟨w1, hw1⟩ : ∃ x, x = w0.alloc (.cells (ccells s).toArray 39) := ⟨_, rfl⟩
  have b1 : Below w.heap.size w w1 := by rw [hw1]; exact below_then b0 (below_alloc _ _)
  have C1 : CAt w1 (w.heap.size + 1) s := by rw [hw1, ← sz0]; exact LAt.new 39 w0 _
  have O1 : OAt w1 w.heap.size 4 b v (.slice pa la ca) keep o odd := by rw [hw1]; exact LAt.later O0 (below_alloc _ _)
  have K1 : KAt w1 g p r s vt vw := by rw [hw1]; exact LAt.later hk0 (below_alloc _ _)
  have c41 := OAt.odd O1 hv
  rw [← hw1] at S0
  rw [sz0] at A0 S0
  have HF : Hid (Off R g w.heap.size (w.heap.size + 1)) := ⟨hD.rg, hD.hi _ (Nat.le_refl _), hD.hi _ (Nat.le_succ _)⟩
  have HBB : Hid (B ≤ w.heap.size) := hB
  clear hw0 hw1 O0 hk0
  cases odd
  · have HD : Hid (Dk w1 R B g p r n s d ws d ws m) := hD.later b1
    have HS : Hid (See w1 g p r s vt vw w.heap.size (ocells 4 b v (.slice pa la ca) keep o false) (w.heap.size + 1) s) := ⟨K1, O1, C1⟩
    have HB : Hid (Below w.heap.size w w1) := b1
    have kd := OAt.kind O1
    have HY : Hid (BIn w1 pa la xs) := HRAW.out.later b1
    have hmk := run_make (P := Tryd.prog) w1 24 5 i0 _ Tryd.underlying24 hi hz0 .i64 .i64 64 64 (by omega) (Int.le_refl _) (by rw [hz2]; omega) (by omega)
    rw [hz1, show Int.toNat 64 * 1 = 64 from rfl, show Int.toNat 64 = 64 from rfl] at hmk
    simp only [Value.cells] at hmk
    rw [show madeCells #[Value.int .u8 0] 64 = (List.replicate 64 (Value.int .u8 0)).toArray from made_rep 1 _ (by omega) 64] at hmk
    obtain ⟨w5, hw5⟩ : ∃ x, x = w1.alloc (.cells (List.replicate 64 (Value.int .u8 0)).toArray 5) := ⟨_, rfl⟩
    have hb5 : Below w1.heap.size w1 w5 := by rw [hw5]; exact below_alloc _ _
    have HG : Hid (w5.heap[w1.heap.size]? = some (.cells (List.replicate 64 (Value.int .u8 0)).toArray 5 (0, 0))) := by rw [hw5]; exact LAt.new 5 w1 _
    rw [← hw5] at hmk
    have HB5 : Hid (Below w1.heap.size w1 w5) := hb5
    have HY5 : Hid (BIn w5 pa la xs) := HY.out.later hb5
    have braw := OAt.raw (HS.out.later hb5).op HV.out.1
    have HN : Hid ((U8 (xs.take 64)).length = Nat.min la 64) := by show _ = min la 64; rw [U8_length, List.length_take, HY5.out.len, Nat.min_comm]
    have HFi : Hid (0 + (U8 (xs.take 64)).length ≤ (List.replicate 64 (Value.int .u8 0)).length) := by show _ ≤ _; rw [U8_length, List.length_take, List.length_replicate]; omega
    have HP : Hid (0 < (U8 (xs.take 64)).length → some (⟨w1.heap.size, 0, none⟩ : Addr) = some ⟨w1.heap.size, 0, none⟩ ∧ ∃ ad, pa = some ad ∧ ∀ j v, (U8 (xs.take 64))[j]? = some v → w5.cell? (ad.add j) = some v) := by
      intro h0
      have h0' : 0 < la := by rw [U8_length, List.length_take, HY5.out.len] at h0; omega
      obtain ⟨b', o', e', hc⟩ := HY5.out.cells h0'
      refine ⟨rfl, ⟨b', o', none⟩, e', fun j u hu => ?_⟩
      have h2 := HY5.out
      rw [e'] at h2
      refine h2.news j u ?_
      rw [← hu]
      have hj : j < (U8 (xs.take 64)).length := (List.getElem?_eq_some_iff.1 hu).1
      rw [U8_length, List.length_take] at hj
      simp only [U8, List.getElem?_map, List.getElem?_take]
      rw [if_pos (by omega)]
    obtain ⟨zl, hzl⟩ : ∃ zl, zl = List.replicate 64 (Value.int .u8 0) := ⟨_, rfl⟩
    obtain ⟨nl, hnl⟩ : ∃ nl, nl = U8 (xs.take 64) := ⟨_, rfl⟩
    rw [← hzl] at HG HFi
    rw [← hnl] at HN HP HFi
    have HO : Hid (∀ v ∈ nl, v.oneCell' = true) := by rw [hnl]; exact ones_u8 _
    have HZN : Hid (zl = List.replicate 64 (Value.int .u8 0) ∧ nl = U8 (xs.take 64)) := ⟨hzl, hnl⟩
    clear hw5 hb5 hzl hnl
    clear hD b0 b1 O1 C1 K1 hv hvb hB
    go_enter Tryd.func30, Tryd.ntmps30
    go_wp2_with (first | ((with_reducible refine at_ops ?_); (first | (refine wpList_load_is (by rfl) 39 rfl rfl L0.out ?_) | (refine wpList_alloc_is (by rfl) 39 rfl A0.out ?_) | (refine wpList_store_is (by rfl) 39 rfl rfl rfl S0.out ?_)); simp only [Act.put, List.setIfInBounds_toArray, List.set_cons_zero, List.set_cons_succ]) | (refine wpList_copy_splice rfl (.tmp 141) (.tmp 143) 24 24 rfl 5 Tryd.underlying24 size5 (some ⟨w1.heap.size, 0, none⟩) pa 64 64 la ca rfl rfl w1.heap.size 0 zl 5 HG.out nl HN.out HP.out HFi.out HO.out w1.heap.size w1 HB5.out (Nat.le_refl _) ?_))
    clear c41 kd L0 A0 S0 ew sz0
    intro w6 hg6 hb6
    have hg6 := hg6.out
    rw [HZN.out.1, HZN.out.2, splice_pad _ 64 (by rw [List.length_take]; omega)] at hg6
    obtain ⟨ys, hys⟩ : ∃ ys, ys = xs.take 64 ++ List.replicate (64 - (xs.take 64).length) 0 := ⟨_, rfl⟩
    rw [← hys] at hg6
    have HYL : Hid (ys.length = 64 ∧ Bytes ys) := by
      rw [hys]
      refine ⟨by rw [List.length_append, List.length_replicate, List.length_take]; omega, (HY.out.byte.take 64).append (zs_bytes _)⟩
    have HS6 : Hid (See w6 g p r s vt vw w.heap.size (ocells 4 b v (.slice pa la ca) keep o false) (w.heap.size + 1) s) := HS.out.later hb6
    have HD6 : Hid (Dk w6 R B g p r n s d ws d ws m) := HD.out.later hb6
    have HB6 : Hid (Below w.heap.size w w6) := below_then HB.out hb6
    have HY6 : Hid (BIn w6 (some ⟨w1.heap.size, 0, none⟩) 64 ys) := bin_of_row hg6 HYL.out.1 HYL.out.2
    have HRY : Hid (R w1.heap.size = 0) := HD.out.hi _ (Nat.le_refl _)
    clear hg6 hb6 hys HG HB5 HY5 braw HN HFi HP HY HS HD HB hmk HO HZN
    obtain ⟨q, -, hq, hq1, hq2, -⟩ := place b 4096 (by omega)
    have wq1 : IntKind.i64.wrap q = q := by rw [IntKind.wrap_i64]; omega
    have wq2 : IntKind.i64.wrap (1 + q) = 1 + q := by rw [IntKind.wrap_i64]; omega
    have hq' : Int.tmod b 4096 = q := hq
    clear hq hq1 hq2
    go_wp2_with fail
    refine wp_region_noPanic ?_
    refine wp_region_held_drew (S := (fun w' => See w' g p r s vt vw w.heap.size (ocells 4 b v (.slice pa la ca) keep o false) (w.heap.size + 1) s)) (by kernel_rfl) (HS6.out.later (below_drawn 1)) (fun hHeld => ?_)
    have HDd : Hid (Dk w6.drew R B g p r n s d ws d ws m) := HD6.out.later (below_drawn 1)
    have HSd : Hid (See w6.drew g p r s vt vw w.heap.size (ocells 4 b v (.slice pa la ca) keep o false) (w.heap.size + 1) s) := HS6.out.later (below_drawn 1)
    have HBd : Hid (Below w.heap.size w w6.drew) := below_then HB6.out (below_drawn 1)
    have HLe : Hid (B ≤ w6.drew.heap.size) := Nat.le_trans HBB.out HBd.out.size
    clear HD6 HS6 HB6
    have HYd : Hid (BIn w6.drew (some ⟨w1.heap.size, 0, none⟩) 64 ys) := HY6.out.later (below_drawn 1)
    clear HY6
    generalize w6.drew = wd at *
    refine wpAnyH_take (i := 0) (v := ?va1) (by simp; rfl) (by kernel_rfl) (by kernel_rfl) (by kernel_rfl) (fun _ _ _ h => h) (Or.inl ⟨by rfl, ?ya1⟩) hHeld ?ra1
    case ya1 => intro w hSw; clear hSw; go_simp; with_reducible rfl
    simp only [Act.put, List.setIfInBounds_toArray, List.set_cons_zero, List.set_cons_succ]
    refine wpAnyH_take (i := 1) (v := ?va2) (by simp; rfl) (by kernel_rfl) (by kernel_rfl) (by kernel_rfl) (fun _ _ _ h => h) (Or.inl ⟨by rfl, ?ya2⟩) hHeld ?ra2
    case ya2 => intro w hSw; clear hSw; go_simp; with_reducible rfl
    simp only [Act.put, List.setIfInBounds_toArray, List.set_cons_zero, List.set_cons_succ]
    refine wpAnyH_take (i := 2) (v := ?va3) (by simp; rfl) (by kernel_rfl) (by kernel_rfl) (by kernel_rfl) (fun _ _ _ h => h) (Or.inl ⟨by rfl, ?ya3⟩) hHeld ?ra3
    case ya3 => intro w hSw; clear hSw; go_simp; with_reducible rfl
    simp only [Act.put, List.setIfInBounds_toArray, List.set_cons_zero, List.set_cons_succ]
    refine wpAnyH_take (i := 3) (v := ?va4) (by simp; rfl) (by kernel_rfl) (by kernel_rfl) (by kernel_rfl) (fun _ _ _ h => h) (Or.inl ⟨by rfl, ?ya4⟩) hHeld ?ra4
    case ya4 => intro w hSw; have z := KAt.c0 hSw.desk; clear hSw; go_simp; with_reducible rfl
    simp only [Act.put, List.setIfInBounds_toArray, List.set_cons_zero, List.set_cons_succ]
    refine wpAnyH_take (i := 4) (v := ?va5) (by simp; rfl) (by kernel_rfl) (by kernel_rfl) (by kernel_rfl) (fun _ _ _ h => h) (Or.inl ⟨by rfl, ?ya5⟩) hHeld ?ra5
    case ya5 => intro w hSw; clear hSw; go_simp; with_reducible rfl
    simp only [Act.put, List.setIfInBounds_toArray, List.set_cons_zero, List.set_cons_succ]
    refine wpAnyH_take (i := 5) (v := ?va6) (by simp; rfl) (by kernel_rfl) (by kernel_rfl) (by kernel_rfl) (fun _ _ _ h => h) (Or.inl ⟨by rfl, ?ya6⟩) hHeld ?ra6
    case ya6 => intro w hSw; have z := OAt.block hSw.op; clear hSw; go_simp; with_reducible rfl
    simp only [Act.put, List.setIfInBounds_toArray, List.set_cons_zero, List.set_cons_succ]
    refine wpAnyH_take (i := 6) (v := ?va7) (by simp; rfl) (by kernel_rfl) (by kernel_rfl) (by kernel_rfl) (fun _ _ _ h => h) (Or.inl ⟨by rfl, ?ya7⟩) hHeld ?ra7
    case ya7 => intro w hSw; clear hSw; go_simp; with_reducible rfl
    simp only [Act.put, List.setIfInBounds_toArray, List.set_cons_zero, List.set_cons_succ]
    refine wpAnyH_take (i := 7) (v := ?va8) (by simp; rfl) (by kernel_rfl) (by kernel_rfl) (by kernel_rfl) (fun _ _ _ h => h) (Or.inl ⟨by rfl, ?ya8⟩) hHeld ?ra8
    case ya8 => intro w hSw; clear hSw; go_simp; with_reducible rfl
    simp only [Act.put, List.setIfInBounds_toArray, List.set_cons_zero, List.set_cons_succ]
    refine wpAnyH_take (i := 8) (v := ?va9) (by simp; rfl) (by kernel_rfl) (by kernel_rfl) (by kernel_rfl) (fun _ _ _ h => h) (Or.inl ⟨by rfl, ?ya9⟩) hHeld ?ra9
    case ya9 => intro w hSw; clear hSw; go_simp; with_reducible rfl
    simp only [Act.put, List.setIfInBounds_toArray, List.set_cons_zero, List.set_cons_succ]
    refine wpAnyH_take (i := 10) (v := ?va10) (by simp; rfl) (by kernel_rfl) (by kernel_rfl) (by kernel_rfl) (fun _ _ _ h => h) (Or.inl ⟨by rfl, ?ya10⟩) hHeld ?ra10
    case ya10 => intro w hSw; clear hSw; go_simp; with_reducible rfl
    simp only [Act.put, List.setIfInBounds_toArray, List.set_cons_zero, List.set_cons_succ]
    refine wpAnyH_take (i := 11) (v := ?va11) (by simp; rfl) (by kernel_rfl) (by kernel_rfl) (by kernel_rfl) (fun _ _ _ h => h) (Or.inl ⟨by rfl, ?ya11⟩) hHeld ?ra11
    case ya11 => intro w hSw; clear hSw; go_simp; with_reducible rfl
    simp only [Act.put, List.setIfInBounds_toArray, List.set_cons_zero, List.set_cons_succ]
    refine wpAnyH_take (i := 12) (v := ?va12) (by simp; rfl) (by kernel_rfl) (by kernel_rfl) (by kernel_rfl) (fun _ _ _ h => h) (Or.inl ⟨by rfl, ?ya12⟩) hHeld ?ra12
    case ya12 => intro w hSw; clear hSw; go_simp; with_reducible rfl
    simp only [Act.put, List.setIfInBounds_toArray, List.set_cons_zero, List.set_cons_succ]
    refine wpAnyH_take (i := 13) (v := ?va13) (by simp; rfl) (by kernel_rfl) (by kernel_rfl) (by kernel_rfl) (fun _ _ _ h => h) (Or.inl ⟨by rfl, ?ya13⟩) hHeld ?ra13
    case ya13 => intro w hSw; have z := KAt.c1 hSw.desk; clear hSw; go_simp; with_reducible rfl
    simp only [Act.put, List.setIfInBounds_toArray, List.set_cons_zero, List.set_cons_succ]
    refine wpAnyH_take (i := 14) (v := ?va14) (by simp; rfl) (by kernel_rfl) (by kernel_rfl) (by kernel_rfl) (fun _ _ _ h => h) (Or.inl ⟨by rfl, ?ya14⟩) hHeld ?ra14
    case ya14 => intro w hSw; clear hSw; go_simp; with_reducible rfl
    simp only [Act.put, List.setIfInBounds_toArray, List.set_cons_zero, List.set_cons_succ]
    refine wpAnyH_take (i := 15) (v := ?va15) (by simp; rfl) (by kernel_rfl) (by kernel_rfl) (by kernel_rfl) (fun _ _ _ h => h) (Or.inl ⟨by rfl, ?ya15⟩) hHeld ?ra15
    case ya15 => intro w hSw; have z := OAt.block hSw.op; clear hSw; go_simp; with_reducible rfl
    simp only [Act.put, List.setIfInBounds_toArray, List.set_cons_zero, List.set_cons_succ]
    refine wpAnyH_take (i := 16) (v := ?va16) (by simp; rfl) (by kernel_rfl) (by kernel_rfl) (by kernel_rfl) (fun _ _ _ h => h) (Or.inl ⟨by rfl, ?ya16⟩) hHeld ?ra16
    case ya16 => intro w hSw; clear hSw; go_simp; with_reducible rfl
    simp only [Act.put, List.setIfInBounds_toArray, List.set_cons_zero, List.set_cons_succ]
    refine wpAnyH_take (i := 17) (v := ?va17) (by simp; rfl) (by kernel_rfl) (by kernel_rfl) (by kernel_rfl) (fun _ _ _ h => h) (Or.inl ⟨by rfl, ?ya17⟩) hHeld ?ra17
    case ya17 => intro w hSw; clear hSw; go_simp; with_reducible rfl
    simp only [Act.put, List.setIfInBounds_toArray, List.set_cons_zero, List.set_cons_succ]
    refine wpAnyH_take (i := 18) (v := ?va18) (by simp; rfl) (by kernel_rfl) (by kernel_rfl) (by kernel_rfl) (fun _ _ _ h => h) (Or.inl ⟨by rfl, ?ya18⟩) hHeld ?ra18
    case ya18 => intro w hSw; clear hSw; go_simp; with_reducible rfl
    simp only [Act.put, List.setIfInBounds_toArray, List.set_cons_zero, List.set_cons_succ]
    refine wpAnyH_ready (rs := [9]) (by kernel_rfl) (by simp) ?_
    refine AllReadyH.cons (by simp; rfl) (fun Kc hKc => ?_) AllReadyH.nil
    go_simp
    refine (write64 HDd.out.dsk (1 + q) (some ⟨w1.heap.size, 0, none⟩) 64 ys HYd.out (by omega)).mono ?_
    rintro e we ⟨rfl, de, ke⟩
    have HDe : Hid (Dk we (up R wd.heap.size we.heap.size 1) B g p r n s d (wrU n ws (1 + q) ys) d ws m ∧ Below B wd we) := HDd.out.setD ke de HLe.out
    have HSe : Hid (See we g p r s vt vw w.heap.size (ocells 4 b v (.slice pa la ca) keep o false) (w.heap.size + 1) s) := HSd.out.turn ke HF.out (by decide) (by decide)
    have HYe : Hid (BIn we (some ⟨w1.heap.size, 0, none⟩) 64 ys) := HYd.out.kept ke (fun a ea => by cases ea; show ¬ R _ = 1; rw [HRY.out]; decide)
    have HLf : Hid (B ≤ we.heap.size) := Nat.le_trans HLe.out ke.size
    have HFe : Hid (Off (up R wd.heap.size we.heap.size 1) g w.heap.size (w.heap.size + 1)) := HSd.out.off HF.out
    clear de ke HDd HSd HF hHeld HLe HYd
    generalize up R wd.heap.size we.heap.size 1 = Re at *
    refine hKc.out _ _ HSe.out (fun hHeld => ?_)
    clear hKc Kc
    refine wpAnyH_ready (rs := [19]) (by kernel_rfl) (by simp) ?_
    refine AllReadyH.cons (by simp; rfl) (fun Kc hKc => ?_) AllReadyH.nil
    go_simp
    refine (rwrite64 HDe.out.1.ref (1 + q) (some ⟨w1.heap.size, 0, none⟩) 64 ys HYe.out (by omega)).mono ?_
    rintro e wf ⟨rfl, df, kf⟩
    have HDf : Hid (Dk wf (up Re we.heap.size wf.heap.size 2) B g p r n s d (wrU n ws (1 + q) ys) d (wrU n ws (1 + q) ys) m ∧ Below B we wf) := HDe.out.1.setR kf df HLf.out
    have HSf : Hid (See wf g p r s vt vw w.heap.size (ocells 4 b v (.slice pa la ca) keep o false) (w.heap.size + 1) s) := HSe.out.turn kf HFe.out (by decide) (by decide)
    have HLg : Hid (B ≤ wf.heap.size) := Nat.le_trans HLf.out kf.size
    have HBf : Hid (Below B w wf) := ((HBd.out.mono HBB.out).trans HDe.out.2).trans HDf.out.2
    clear df kf HDe HSe HLf HYe HFe hHeld
    refine hKc.out _ _ HSf.out (fun hHeld => ?_)
    clear hKc Kc
    refine wpAnyH_take (i := 20) (v := ?va19) (by simp; rfl) (by kernel_rfl) (by kernel_rfl) (by kernel_rfl) (fun _ _ _ h => h) (Or.inl ⟨by rfl, ?ya19⟩) hHeld ?ra19
    case ya19 => intro w hSw; clear hSw; go_simp; with_reducible rfl
    simp only [Act.put, List.setIfInBounds_toArray, List.set_cons_zero, List.set_cons_succ]
    refine wpAnyH_take (i := 21) (v := ?va20) (by simp; rfl) (by kernel_rfl) (by kernel_rfl) (by kernel_rfl) (fun _ _ _ h => h) (Or.inl ⟨by rfl, ?ya20⟩) hHeld ?ra20
    case ya20 => intro w hSw; clear hSw; go_simp; with_reducible rfl
    simp only [Act.put, List.setIfInBounds_toArray, List.set_cons_zero, List.set_cons_succ]
    refine wpAnyH_done (by kernel_rfl) (NoPanic.normal ?_) _
    go_wp2_with fail
    go_ret
    exact ⟨by simp, ⟨_, d, _, m, HDf.out.1, Nat.le_trans (wrU_length _ _ _ _) (by omega), by omega, HLg.out⟩, HBf.out⟩
  · have L1 : Hid (_) := OAt.load39 O1 hv
    have S1 : Hid (_) := LAt.store (ds := ccells o) C1 size23 rfl (ccells_all o)
    obtain ⟨w2, hw2⟩ : ∃ x, x = w1.setRow (w.heap.size + 1) (ccells o).toArray := ⟨_, rfl⟩
    have b2 : Below w.heap.size w w2 := by rw [hw2]; exact below_setRow b1 (Nat.le_succ _) _
    have C2 : CAt w2 (w.heap.size + 1) o := by rw [hw2]; exact LAt.stored C1 _
    have O2 : OAt w2 w.heap.size 4 b v (.slice pa la ca) keep o true := by rw [hw2]; exact LAt.other O1 _ (by omega)
    have K2 : KAt w2 g p r s vt vw := by rw [hw2]; exact LAt.other K1 _ (by have hz := hD.hi (w.heap.size + 1) (Nat.le_succ _); have hg := hD.rg; intro c; rw [c, hz] at hg; cases hg)
    rw [← hw2] at S1
    have HD : Hid (Dk w2 R B g p r n s d ws d ws m) := hD.later b2
    have HS : Hid (See w2 g p r s vt vw w.heap.size (ocells 4 b v (.slice pa la ca) keep o true) (w.heap.size + 1) o) := ⟨K2, O2, C2⟩
    have HB : Hid (Below w.heap.size w w2) := b2
    have kd := OAt.kind O2
    have HY : Hid (BIn w2 pa la xs) := HRAW.out.later b2
    have hmk := run_make (P := Tryd.prog) w2 24 5 i0 _ Tryd.underlying24 hi hz0 .i64 .i64 64 64 (by omega) (Int.le_refl _) (by rw [hz2]; omega) (by omega)
    rw [hz1, show Int.toNat 64 * 1 = 64 from rfl, show Int.toNat 64 = 64 from rfl] at hmk
    simp only [Value.cells] at hmk
    rw [show madeCells #[Value.int .u8 0] 64 = (List.replicate 64 (Value.int .u8 0)).toArray from made_rep 1 _ (by omega) 64] at hmk
    obtain ⟨w5, hw5⟩ : ∃ x, x = w2.alloc (.cells (List.replicate 64 (Value.int .u8 0)).toArray 5) := ⟨_, rfl⟩
    have hb5 : Below w2.heap.size w2 w5 := by rw [hw5]; exact below_alloc _ _
    have HG : Hid (w5.heap[w2.heap.size]? = some (.cells (List.replicate 64 (Value.int .u8 0)).toArray 5 (0, 0))) := by rw [hw5]; exact LAt.new 5 w2 _
    rw [← hw5] at hmk
    have HB5 : Hid (Below w2.heap.size w2 w5) := hb5
    have HY5 : Hid (BIn w5 pa la xs) := HY.out.later hb5
    have braw := OAt.raw (HS.out.later hb5).op HV.out.1
    have HN : Hid ((U8 (xs.take 64)).length = Nat.min la 64) := by show _ = min la 64; rw [U8_length, List.length_take, HY5.out.len, Nat.min_comm]
    have HFi : Hid (0 + (U8 (xs.take 64)).length ≤ (List.replicate 64 (Value.int .u8 0)).length) := by show _ ≤ _; rw [U8_length, List.length_take, List.length_replicate]; omega
    have HP : Hid (0 < (U8 (xs.take 64)).length → some (⟨w2.heap.size, 0, none⟩ : Addr) = some ⟨w2.heap.size, 0, none⟩ ∧ ∃ ad, pa = some ad ∧ ∀ j v, (U8 (xs.take 64))[j]? = some v → w5.cell? (ad.add j) = some v) := by
      intro h0
      have h0' : 0 < la := by rw [U8_length, List.length_take, HY5.out.len] at h0; omega
      obtain ⟨b', o', e', hc⟩ := HY5.out.cells h0'
      refine ⟨rfl, ⟨b', o', none⟩, e', fun j u hu => ?_⟩
      have h2 := HY5.out
      rw [e'] at h2
      refine h2.news j u ?_
      rw [← hu]
      have hj : j < (U8 (xs.take 64)).length := (List.getElem?_eq_some_iff.1 hu).1
      rw [U8_length, List.length_take] at hj
      simp only [U8, List.getElem?_map, List.getElem?_take]
      rw [if_pos (by omega)]
    obtain ⟨zl, hzl⟩ : ∃ zl, zl = List.replicate 64 (Value.int .u8 0) := ⟨_, rfl⟩
    obtain ⟨nl, hnl⟩ : ∃ nl, nl = U8 (xs.take 64) := ⟨_, rfl⟩
    rw [← hzl] at HG HFi
    rw [← hnl] at HN HP HFi
    have HO : Hid (∀ v ∈ nl, v.oneCell' = true) := by rw [hnl]; exact ones_u8 _
    have HZN : Hid (zl = List.replicate 64 (Value.int .u8 0) ∧ nl = U8 (xs.take 64)) := ⟨hzl, hnl⟩
    clear hw5 hb5 hzl hnl
    clear hD b0 b1 b2 O1 C1 K1 O2 C2 K2 hw2 hv hvb hB
    go_enter Tryd.func30, Tryd.ntmps30
    go_wp2_with (first | ((with_reducible refine at_ops ?_); (first | (refine wpList_load_is (by rfl) 39 rfl rfl L0.out ?_) | (refine wpList_alloc_is (by rfl) 39 rfl A0.out ?_) | (refine wpList_store_is (by rfl) 39 rfl rfl rfl S0.out ?_) | (refine wpList_load_is (by rfl) 39 rfl rfl L1.out ?_) | (refine wpList_store_is (by rfl) 39 rfl rfl rfl S1.out ?_)); simp only [Act.put, List.setIfInBounds_toArray, List.set_cons_zero, List.set_cons_succ]) | (refine wpList_copy_splice rfl (.tmp 141) (.tmp 143) 24 24 rfl 5 Tryd.underlying24 size5 (some ⟨w2.heap.size, 0, none⟩) pa 64 64 la ca rfl rfl w2.heap.size 0 zl 5 HG.out nl HN.out HP.out HFi.out HO.out w2.heap.size w2 HB5.out (Nat.le_refl _) ?_))
    clear c41 kd L0 A0 S0 L1 S1 ew sz0
    intro w6 hg6 hb6
    have hg6 := hg6.out
    rw [HZN.out.1, HZN.out.2, splice_pad _ 64 (by rw [List.length_take]; omega)] at hg6
    obtain ⟨ys, hys⟩ : ∃ ys, ys = xs.take 64 ++ List.replicate (64 - (xs.take 64).length) 0 := ⟨_, rfl⟩
    rw [← hys] at hg6
    have HYL : Hid (ys.length = 64 ∧ Bytes ys) := by
      rw [hys]
      refine ⟨by rw [List.length_append, List.length_replicate, List.length_take]; omega, (HY.out.byte.take 64).append (zs_bytes _)⟩
    have HS6 : Hid (See w6 g p r s vt vw w.heap.size (ocells 4 b v (.slice pa la ca) keep o true) (w.heap.size + 1) o) := HS.out.later hb6
    have HD6 : Hid (Dk w6 R B g p r n s d ws d ws m) := HD.out.later hb6
    have HB6 : Hid (Below w.heap.size w w6) := below_then HB.out hb6
    have HY6 : Hid (BIn w6 (some ⟨w2.heap.size, 0, none⟩) 64 ys) := bin_of_row hg6 HYL.out.1 HYL.out.2
    have HRY : Hid (R w2.heap.size = 0) := HD.out.hi _ (Nat.le_refl _)
    clear hg6 hb6 hys HG HB5 HY5 braw HN HFi HP HY HS HD HB hmk HO HZN
    obtain ⟨q, -, hq, hq1, hq2, -⟩ := place b 4096 (by omega)
    have wq1 : IntKind.i64.wrap q = q := by rw [IntKind.wrap_i64]; omega
    have wq2 : IntKind.i64.wrap (1 + q) = 1 + q := by rw [IntKind.wrap_i64]; omega
    have hq' : Int.tmod b 4096 = q := hq
    clear hq hq1 hq2
    go_wp2_with fail
    refine wp_region_noPanic ?_
    refine wp_region_held_drew (S := (fun w' => See w' g p r s vt vw w.heap.size (ocells 4 b v (.slice pa la ca) keep o true) (w.heap.size + 1) o)) (by kernel_rfl) (HS6.out.later (below_drawn 1)) (fun hHeld => ?_)
    have HDd : Hid (Dk w6.drew R B g p r n s d ws d ws m) := HD6.out.later (below_drawn 1)
    have HSd : Hid (See w6.drew g p r s vt vw w.heap.size (ocells 4 b v (.slice pa la ca) keep o true) (w.heap.size + 1) o) := HS6.out.later (below_drawn 1)
    have HBd : Hid (Below w.heap.size w w6.drew) := below_then HB6.out (below_drawn 1)
    have HLe : Hid (B ≤ w6.drew.heap.size) := Nat.le_trans HBB.out HBd.out.size
    clear HD6 HS6 HB6
    have HYd : Hid (BIn w6.drew (some ⟨w2.heap.size, 0, none⟩) 64 ys) := HY6.out.later (below_drawn 1)
    clear HY6
    generalize w6.drew = wd at *
    refine wpAnyH_take (i := 0) (v := ?va21) (by simp; rfl) (by kernel_rfl) (by kernel_rfl) (by kernel_rfl) (fun _ _ _ h => h) (Or.inl ⟨by rfl, ?ya21⟩) hHeld ?ra21
    case ya21 => intro w hSw; clear hSw; go_simp; with_reducible rfl
    simp only [Act.put, List.setIfInBounds_toArray, List.set_cons_zero, List.set_cons_succ]
    refine wpAnyH_take (i := 1) (v := ?va22) (by simp; rfl) (by kernel_rfl) (by kernel_rfl) (by kernel_rfl) (fun _ _ _ h => h) (Or.inl ⟨by rfl, ?ya22⟩) hHeld ?ra22
    case ya22 => intro w hSw; clear hSw; go_simp; with_reducible rfl
    simp only [Act.put, List.setIfInBounds_toArray, List.set_cons_zero, List.set_cons_succ]
    refine wpAnyH_take (i := 2) (v := ?va23) (by simp; rfl) (by kernel_rfl) (by kernel_rfl) (by kernel_rfl) (fun _ _ _ h => h) (Or.inl ⟨by rfl, ?ya23⟩) hHeld ?ra23
    case ya23 => intro w hSw; clear hSw; go_simp; with_reducible rfl
    simp only [Act.put, List.setIfInBounds_toArray, List.set_cons_zero, List.set_cons_succ]
    refine wpAnyH_take (i := 3) (v := ?va24) (by simp; rfl) (by kernel_rfl) (by kernel_rfl) (by kernel_rfl) (fun _ _ _ h => h) (Or.inl ⟨by rfl, ?ya24⟩) hHeld ?ra24
    case ya24 => intro w hSw; have z := KAt.c0 hSw.desk; clear hSw; go_simp; with_reducible rfl
    simp only [Act.put, List.setIfInBounds_toArray, List.set_cons_zero, List.set_cons_succ]
    refine wpAnyH_take (i := 4) (v := ?va25) (by simp; rfl) (by kernel_rfl) (by kernel_rfl) (by kernel_rfl) (fun _ _ _ h => h) (Or.inl ⟨by rfl, ?ya25⟩) hHeld ?ra25
    case ya25 => intro w hSw; clear hSw; go_simp; with_reducible rfl
    simp only [Act.put, List.setIfInBounds_toArray, List.set_cons_zero, List.set_cons_succ]
    refine wpAnyH_take (i := 5) (v := ?va26) (by simp; rfl) (by kernel_rfl) (by kernel_rfl) (by kernel_rfl) (fun _ _ _ h => h) (Or.inl ⟨by rfl, ?ya26⟩) hHeld ?ra26
    case ya26 => intro w hSw; have z := OAt.block hSw.op; clear hSw; go_simp; with_reducible rfl
    simp only [Act.put, List.setIfInBounds_toArray, List.set_cons_zero, List.set_cons_succ]
    refine wpAnyH_take (i := 6) (v := ?va27) (by simp; rfl) (by kernel_rfl) (by kernel_rfl) (by kernel_rfl) (fun _ _ _ h => h) (Or.inl ⟨by rfl, ?ya27⟩) hHeld ?ra27
    case ya27 => intro w hSw; clear hSw; go_simp; with_reducible rfl
    simp only [Act.put, List.setIfInBounds_toArray, List.set_cons_zero, List.set_cons_succ]
    refine wpAnyH_take (i := 7) (v := ?va28) (by simp; rfl) (by kernel_rfl) (by kernel_rfl) (by kernel_rfl) (fun _ _ _ h => h) (Or.inl ⟨by rfl, ?ya28⟩) hHeld ?ra28
    case ya28 => intro w hSw; clear hSw; go_simp; with_reducible rfl
    simp only [Act.put, List.setIfInBounds_toArray, List.set_cons_zero, List.set_cons_succ]
    refine wpAnyH_take (i := 8) (v := ?va29) (by simp; rfl) (by kernel_rfl) (by kernel_rfl) (by kernel_rfl) (fun _ _ _ h => h) (Or.inl ⟨by rfl, ?ya29⟩) hHeld ?ra29
    case ya29 => intro w hSw; clear hSw; go_simp; with_reducible rfl
    simp only [Act.put, List.setIfInBounds_toArray, List.set_cons_zero, List.set_cons_succ]
    refine wpAnyH_take (i := 10) (v := ?va30) (by simp; rfl) (by kernel_rfl) (by kernel_rfl) (by kernel_rfl) (fun _ _ _ h => h) (Or.inl ⟨by rfl, ?ya30⟩) hHeld ?ra30
    case ya30 => intro w hSw; clear hSw; go_simp; with_reducible rfl
    simp only [Act.put, List.setIfInBounds_toArray, List.set_cons_zero, List.set_cons_succ]
    refine wpAnyH_take (i := 11) (v := ?va31) (by simp; rfl) (by kernel_rfl) (by kernel_rfl) (by kernel_rfl) (fun _ _ _ h => h) (Or.inl ⟨by rfl, ?ya31⟩) hHeld ?ra31
    case ya31 => intro w hSw; clear hSw; go_simp; with_reducible rfl
    simp only [Act.put, List.setIfInBounds_toArray, List.set_cons_zero, List.set_cons_succ]
    refine wpAnyH_take (i := 12) (v := ?va32) (by simp; rfl) (by kernel_rfl) (by kernel_rfl) (by kernel_rfl) (fun _ _ _ h => h) (Or.inl ⟨by rfl, ?ya32⟩) hHeld ?ra32
    case ya32 => intro w hSw; clear hSw; go_simp; with_reducible rfl
    simp only [Act.put, List.setIfInBounds_toArray, List.set_cons_zero, List.set_cons_succ]
    refine wpAnyH_take (i := 13) (v := ?va33) (by simp; rfl) (by kernel_rfl) (by kernel_rfl) (by kernel_rfl) (fun _ _ _ h => h) (Or.inl ⟨by rfl, ?ya33⟩) hHeld ?ra33
    case ya33 => intro w hSw; have z := KAt.c1 hSw.desk; clear hSw; go_simp; with_reducible rfl
    simp only [Act.put, List.setIfInBounds_toArray, List.set_cons_zero, List.set_cons_succ]
    refine wpAnyH_take (i := 14) (v := ?va34) (by simp; rfl) (by kernel_rfl) (by kernel_rfl) (by kernel_rfl) (fun _ _ _ h => h) (Or.inl ⟨by rfl, ?ya34⟩) hHeld ?ra34
    case ya34 => intro w hSw; clear hSw; go_simp; with_reducible rfl
    simp only [Act.put, List.setIfInBounds_toArray, List.set_cons_zero, List.set_cons_succ]
    refine wpAnyH_take (i := 15) (v := ?va35) (by simp; rfl) (by kernel_rfl) (by kernel_rfl) (by kernel_rfl) (fun _ _ _ h => h) (Or.inl ⟨by rfl, ?ya35⟩) hHeld ?ra35
    case ya35 => intro w hSw; have z := OAt.block hSw.op; clear hSw; go_simp; with_reducible rfl
    simp only [Act.put, List.setIfInBounds_toArray, List.set_cons_zero, List.set_cons_succ]
    refine wpAnyH_take (i := 16) (v := ?va36) (by simp; rfl) (by kernel_rfl) (by kernel_rfl) (by kernel_rfl) (fun _ _ _ h => h) (Or.inl ⟨by rfl, ?ya36⟩) hHeld ?ra36
    case ya36 => intro w hSw; clear hSw; go_simp; with_reducible rfl
    simp only [Act.put, List.setIfInBounds_toArray, List.set_cons_zero, List.set_cons_succ]
    refine wpAnyH_take (i := 17) (v := ?va37) (by simp; rfl) (by kernel_rfl) (by kernel_rfl) (by kernel_rfl) (fun _ _ _ h => h) (Or.inl ⟨by rfl, ?ya37⟩) hHeld ?ra37
    case ya37 => intro w hSw; clear hSw; go_simp; with_reducible rfl
    simp only [Act.put, List.setIfInBounds_toArray, List.set_cons_zero, List.set_cons_succ]
    refine wpAnyH_take (i := 18) (v := ?va38) (by simp; rfl) (by kernel_rfl) (by kernel_rfl) (by kernel_rfl) (fun _ _ _ h => h) (Or.inl ⟨by rfl, ?ya38⟩) hHeld ?ra38
    case ya38 => intro w hSw; clear hSw; go_simp; with_reducible rfl
    simp only [Act.put, List.setIfInBounds_toArray, List.set_cons_zero, List.set_cons_succ]
    refine wpAnyH_ready (rs := [9]) (by kernel_rfl) (by simp) ?_
    refine AllReadyH.cons (by simp; rfl) (fun Kc hKc => ?_) AllReadyH.nil
    go_simp
    refine (write64 HDd.out.dsk (1 + q) (some ⟨w2.heap.size, 0, none⟩) 64 ys HYd.out (by omega)).mono ?_
    rintro e we ⟨rfl, de, ke⟩
    have HDe : Hid (Dk we (up R wd.heap.size we.heap.size 1) B g p r n s d (wrU n ws (1 + q) ys) d ws m ∧ Below B wd we) := HDd.out.setD ke de HLe.out
    have HSe : Hid (See we g p r s vt vw w.heap.size (ocells 4 b v (.slice pa la ca) keep o true) (w.heap.size + 1) o) := HSd.out.turn ke HF.out (by decide) (by decide)
    have HYe : Hid (BIn we (some ⟨w2.heap.size, 0, none⟩) 64 ys) := HYd.out.kept ke (fun a ea => by cases ea; show ¬ R _ = 1; rw [HRY.out]; decide)
    have HLf : Hid (B ≤ we.heap.size) := Nat.le_trans HLe.out ke.size
    have HFe : Hid (Off (up R wd.heap.size we.heap.size 1) g w.heap.size (w.heap.size + 1)) := HSd.out.off HF.out
    clear de ke HDd HSd HF hHeld HLe HYd
    generalize up R wd.heap.size we.heap.size 1 = Re at *
    refine hKc.out _ _ HSe.out (fun hHeld => ?_)
    clear hKc Kc
    refine wpAnyH_ready (rs := [19]) (by kernel_rfl) (by simp) ?_
    refine AllReadyH.cons (by simp; rfl) (fun Kc hKc => ?_) AllReadyH.nil
    go_simp
    refine (rwrite64 HDe.out.1.ref (1 + q) (some ⟨w2.heap.size, 0, none⟩) 64 ys HYe.out (by omega)).mono ?_
    rintro e wf ⟨rfl, df, kf⟩
    have HDf : Hid (Dk wf (up Re we.heap.size wf.heap.size 2) B g p r n s d (wrU n ws (1 + q) ys) d (wrU n ws (1 + q) ys) m ∧ Below B we wf) := HDe.out.1.setR kf df HLf.out
    have HSf : Hid (See wf g p r s vt vw w.heap.size (ocells 4 b v (.slice pa la ca) keep o true) (w.heap.size + 1) o) := HSe.out.turn kf HFe.out (by decide) (by decide)
    have HLg : Hid (B ≤ wf.heap.size) := Nat.le_trans HLf.out kf.size
    have HBf : Hid (Below B w wf) := ((HBd.out.mono HBB.out).trans HDe.out.2).trans HDf.out.2
    clear df kf HDe HSe HLf HYe HFe hHeld
    refine hKc.out _ _ HSf.out (fun hHeld => ?_)
    clear hKc Kc
    refine wpAnyH_take (i := 20) (v := ?va39) (by simp; rfl) (by kernel_rfl) (by kernel_rfl) (by kernel_rfl) (fun _ _ _ h => h) (Or.inl ⟨by rfl, ?ya39⟩) hHeld ?ra39
    case ya39 => intro w hSw; clear hSw; go_simp; with_reducible rfl
    simp only [Act.put, List.setIfInBounds_toArray, List.set_cons_zero, List.set_cons_succ]
    refine wpAnyH_take (i := 21) (v := ?va40) (by simp; rfl) (by kernel_rfl) (by kernel_rfl) (by kernel_rfl) (fun _ _ _ h => h) (Or.inl ⟨by rfl, ?ya40⟩) hHeld ?ra40
    case ya40 => intro w hSw; clear hSw; go_simp; with_reducible rfl
    simp only [Act.put, List.setIfInBounds_toArray, List.set_cons_zero, List.set_cons_succ]
    refine wpAnyH_done (by kernel_rfl) (NoPanic.normal ?_) _
    go_wp2_with fail
    go_ret
    exact ⟨by simp, ⟨_, d, _, m, HDf.out.1, Nat.le_trans (wrU_length _ _ _ _) (by omega), by omega, HLg.out⟩, HBf.out⟩
end Go.Proofs.YtpenddnmmfpdjaaDoor
