import Derived.Test.YtdadpepfpiimgaaGreatDoorZ24
set_option maxHeartbeats 20000000
set_option maxRecDepth 100000
namespace Go.Proofs.YtdadpepfpiimgaaGreatDoor.Q
open Go.RowKit
section
variable {w0 w w' : World} {X : List Kd} {i j M p : Nat} {c : Sup}
set_option maxHeartbeats 40000000 in
set_option maxRecDepth 100000 in
theorem redoRuns_no (ht : Tab w) (c : Sup) (hc : ¬ MayC c) (ta : Option Addr) (tn tc : Nat) (half : Int) (ka : Option Addr) (kn kc : Nat) (ba : Option Addr) (bn bc : Nat) : Calls Tryz.prog 4 #[.agg (ccells c).toArray, .slice ta tn tc, .int .i64 half, .slice ka kn kc, .slice ba bn bc] w fun e w' => e = .returned (.bool true) ∧ Below w.heap.size w w' := by
  have h1 := (Fz.start w).newa (ccells c) 23
  obtain ⟨B, hB⟩ : ∃ B, w.heap.size = B := ⟨_, rfl⟩
  rw [hB] at h1
  have H1 : Hid (Fz w (w.alloc (.cells (ccells c).toArray 23)) [kb B 23 (ccells c)]) := h1
  clear h1
  go_enter Tryz.func4, Tryz.ntmps4
  go_wp2_with fail
  refine (fixed_is (H1.out.tab ht)).mono ?_
  rintro e w2 ⟨rfl, hb⟩
  have H2 : Hid (Fz w w2 [kb B 23 (ccells c)]) := H1.out.later hb
  have HC : Hid (_) := cfl H2.out (i := 0) rfl
  clear hb H1
  go_wp2_with ((with_reducible refine at_ops ?_); (refine wpList_load_is (by rfl) 23 rfl rfl HC.out ?_); simp only [Act.put, List.setIfInBounds_toArray, List.set_cons_zero, List.set_cons_succ])
  refine (hnew_bad c hc w2).mono ?_
  rintro e w3 ⟨rfl, hb⟩
  have HZ : Hid (Below w.heap.size w w3) := (H2.out.later hb).below
  clear hb H2 HC
  go_wp2
  go_ret
  exact ⟨rfl, HZ.out⟩
set_option maxHeartbeats 40000000 in
set_option maxRecDepth 100000 in
theorem redoRuns_yes (ht : Tab w) (c : Sup) (hc : MayC c) {ta : Option Addr} {tn : Nat} (tc : Nat) {ts : List TxV} (hts : TsIn w ta tn ts) (htn : tn ≤ 140737488355328) (half : Int) {ka : Option Addr} {kn : Nat} (kc : Nat) {kss : List KV} (hks : KIn w ka kn kss) (hkn : kn ≤ 140737488355328) {ba : Option Addr} {bn : Nat} (bc : Nat) {bs : List Int} (hbs : JIn w ba bn bs) (hbn : bn ≤ 140737488355328) : Calls Tryz.prog 4 #[.agg (ccells c).toArray, .slice ta tn tc, .int .i64 half, .slice ka kn kc, .slice ba bn bc] w fun e w' => e = .returned (.bool true) ∧ Below w.heap.size w w' := by
  have hbl := hc.1
  have hlc := hc.2.1
  have h1 := (Fz.start w).newa (ccells c) 23
  obtain ⟨B, hB⟩ : ∃ B, w.heap.size = B := ⟨_, rfl⟩
  rw [hB] at h1
  have H1 : Hid (Fz w (w.alloc (.cells (ccells c).toArray 23)) [kb B 23 (ccells c)]) := h1
  have HTS : Hid (TsIn w ta tn ts) := hts
  have HKS : Hid (KIn w ka kn kss) := hks
  have HBS : Hid (JIn w ba bn bs) := hbs
  clear h1 hts hks hbs
  go_enter Tryz.func4, Tryz.ntmps4
  go_wp2_with fail
  clear hB
  refine (fixed_is (H1.out.tab ht)).mono ?_
  rintro e w2 ⟨rfl, hb⟩
  have H2 : Hid (Fz w w2 [kb B 23 (ccells c)]) := H1.out.later hb
  have HC : Hid (_) := cfl H2.out (i := 0) rfl
  clear hb H1
  go_wp2_with ((with_reducible refine at_ops ?_); (refine wpList_load_is (by rfl) 23 rfl rfl HC.out ?_); simp only [Act.put, List.setIfInBounds_toArray, List.set_cons_zero, List.set_cons_succ])
  refine (hnew_good c hc w2 (H2.out.tab ht)).mono ?_
  rintro e w3 ⟨p, rfl, hd, hb⟩
  have H3 : Hid (Fz w w3 [kd p (cntS c) ⟨newS c, []⟩, kb B 23 (ccells c)]) := H2.out.newd (D := ⟨newS c, []⟩) hb hd
  have HC3 : Hid (_) := cfl H3.out (i := 1) rfl
  clear hb hd H2 HC
  go_wp2_with ((with_reducible refine at_ops ?_); (refine wpList_load_is (by rfl) 23 rfl rfl HC3.out ?_); simp only [Act.put, List.setIfInBounds_toArray, List.set_cons_zero, List.set_cons_succ])
  refine (l_open (i := 0) H3.out rfl hc (cntS_is hc)).mono ?_
  rintro e w4 ⟨L, rfl, h4⟩
  have h5 := h4.newa (mcl 0 0 (.slice none 0 0) (.slice none 0 0)) 62
  obtain ⟨M, hM⟩ : ∃ B, w4.heap.size = B := ⟨_, rfl⟩
  rw [hM] at h5
  have HBM : Hid (_) := build_model w4
  have H5 : Hid (Fz w (w4.alloc (.cells (mcl 0 0 (.slice none 0 0) (.slice none 0 0)).toArray 62)) (kb M 62 (mcl 0 0 (.slice none 0 0) (.slice none 0 0)) :: kw L p ⟨newS c, []⟩ (opnG c 0 1) :: [kb B 23 (ccells c)])) := h5
  have HC5 : Hid (_) := cfl H5.out (i := 2) rfl
  clear h4 h5 H3 HC3
  go_wp2_with ((with_reducible refine at_ops ?_); (first | (refine wpList_build_is (vs := []) (by rfl) 62 rfl (by rfl) HBM.out ?_) | (refine wpList_load_is (by rfl) 23 rfl rfl HC5.out ?_)); simp only [Act.put, List.setIfInBounds_toArray, List.set_cons_zero, List.set_cons_succ])
  clear hM
  refine (writes_at ht hc tc HTS.out htn half H5.out).mono ?_
  rintro e w6 ⟨rfl, g, D, al, s, sf, vc, vm, hnt, h6⟩
  have h6u := Fz.unlog (i := 3) h6 rfl
  have hsz : g.sz = cntS c := by have := hnt.wt.gc; unfold Lg.sz cntS; rw [this]
  rw [hsz] at h6u
  have H6 : Hid (Fz w w6 (ki vc (s.txs.map (·.p)) :: km vm (mpsS c s.txs) :: kb M 62 (mcl al.length sf vc vm) :: kd p (cntS c) D :: [kb B 23 (ccells c)])) := h6u
  have HNT : Hid (Nt c g D al s sf) := hnt
  have HTL : Hid (s.txs.length ≤ 1000) := by
    have a := foldS_len al 0 _ s hnt.wt.fold
    have b := hnt.wt.len
    have a : s.txs.length ≤ 0 + al.length := a
    show _ ≤ _
    omega
  clear h6 h6u hsz hnt H5 HC5 HBM
  by_cases hk0 : 0 < kn
  · have k1 : (kn : Int) > 0 := by omega
    obtain ⟨kb1, ko1, k1', rfl, kc1, kj1, kl1⟩ := HKS.out.at H6.out.below hk0
    obtain ⟨K, HJ⟩ : ∃ K, Hid (JIn w k1'.a k1'.n K ∧ k1'.n ≤ 140737488355328) := ⟨k1'.xs, kj1, kl1⟩
    rw [Nat.add_zero] at kc1
    clear kj1 kl1
    go_wp2_with fail
    clear kc1
    have hLM := (H6.out.atb (i := 2) rfl).1
    have hwt := HNT.out.wt
    refine (stands_at hLM hwt.sl (by have := hwt.len; omega) (HJ.out.1.later H6.out.below) HJ.out.2).mono ?_
    rintro e w7 ⟨n, rfl, hstd, hb7⟩
    have hcr := hwt.crash hstd
    have hah := hwt.ahead (n : Int)
    have H7 : Hid (Fz w w7 (ki vc (s.txs.map (·.p)) :: km vm (mpsS c s.txs) :: kb M 62 (mcl al.length sf vc vm) :: kd p (cntS c) D :: [kb B 23 (ccells c)])) := H6.out.later hb7
    have hws := HNT.out.ws
    have htl : s.txs.length ≤ 1000 := HTL.out
    clear hb7 hLM H6 hwt hstd
    go_wp2_with fail
    refine (finds_at (i := 2) (j := 0) H7.out rfl rfl htl (n : Int)).mono ?_
    rintro e w' ⟨rfl, hw'⟩
    rw [hw']
    clear hw' w'
    obtain ⟨tx, htx⟩ : ∃ tx, aheadT s.txs (n : Int) = tx := ⟨_, rfl⟩
    rw [htx] at hah hcr
    rw [htx]
    have hfl : tx.length ≤ s.txs.length := by rw [← htx]; exact List.length_filter_le _ _
    have hmp : (mpsS c s.txs)[tx.length]? = some (vlsI c (flat tx)) := by rw [mpsS_at c s.txs hfl, ← hah]
    obtain ⟨mq, mcp, mb, mc, rfl, hmc, hpin⟩ := Fz.pinned (i := 1) H7.out rfl hmp
    rw [mpsS_len] at H7 hpin
    have m3 := mc3 (H7.out.atb (i := 2) rfl).1
    have H8 : Hid (Fz w w7 [kp mb (vlsI c (flat tx)), kd p (cntS c) D, kb B 23 (ccells c)]) := Fz.pk3 hpin
    have HTX : Hid (∀ i ∈ flat tx, i.v.length = 32) := fun i hi => HNT.out.wf i (List.mem_append.2 (.inl (flat_ahead (n := (n : Int)) (by rw [htx]; exact hi))))
    have hf1 : (tx.length : Int) < ((s.txs.length + 1 : Nat) : Int) := by omega
    have hf0 : (0 : Int) ≤ (tx.length : Int) := by omega
    clear hpin H7 hmp htx hah
    go_wp2_with fail
    clear m3 hmc
    refine (p_crash (j := 1) (K := K) H8.out rfl (by omega) (HJ.out.1.later H8.out.below) HJ.out.2).mono ?_
    rintro e w9 ⟨rfl, h9⟩
    obtain ⟨dd, hdd⟩ : ∃ d, (D.crs K).d = d := ⟨_, rfl⟩
    have h9' : Fz w w9 [kp mb (vlsI c (flat tx)), kd p (cntS c) ⟨(D.crs K).d, []⟩, kb B 23 (ccells c)] := h9
    obtain ⟨LL, hLL⟩ : ∃ LL, (fun i => sec (D.crs K).d (1 + c.bl.toNat + i)) = LL := ⟨_, rfl⟩
    obtain ⟨fin, hfin⟩ : ∃ fin, endT tx 0 = fin := ⟨_, rfl⟩
    rw [hLL, hfin] at hcr
    rw [hdd] at h9' hcr
    have H9 : Hid (Fz w w9 [kp mb (vlsI c (flat tx)), kd p (cntS c) ⟨dd, []⟩, kb B 23 (ccells c)]) := h9'
    have HLG : Hid (Lgs c LL tx fin) := hcr.1
    have HRV0 : Hid (Rv c LL tx fin 1 dd) := hcr.2
    clear h9 h9' hcr hLL hfin hdd H8 HNT HTL HJ htl hfl hws
    go_wp2_with fail
    go_loopw [22] (fun iv wr => ∃ (r : Nat) (d : List Int), iv = .int .i64 r ∧ r ≤ bn ∧ r ≤ 6 ∧ Hid (Rv c LL tx fin ((r : Int) + 1) d) ∧ Hid (Fz w wr [kp mb (vlsI c (flat tx)), kd p (cntS c) ⟨d, []⟩, kb B 23 (ccells c)])) (fun iv _ => bn - (intOf iv).toNat)
    case atStart => exact ⟨0, dd, rfl, Nat.zero_le _, by omega, HRV0, H9⟩
    case round =>
      obtain ⟨r, d, rfl, hr1, hr2, HRV, HF⟩ := hrel
      clear H9 HRV0
      by_cases hlt : r < bn ∧ r < 6
      · have r1 : (r : Int) < (bn : Int) := by omega
        have r2 : (r : Int) < 6 := by omega
        have r0 : (0 : Int) ≤ (r : Int) := by omega
        have HC5 : Hid (_) := cfl HF.out (i := 2) rfl
        go_wp2_with ((with_reducible refine at_ops ?_); (refine wpList_load_is (by rfl) 23 rfl rfl HC5.out ?_); simp only [Act.put, List.setIfInBounds_toArray, List.set_cons_zero, List.set_cons_succ])
        refine (new_ok (j := 1) c hc HF.out rfl (cntS_is hc)).mono ?_
        rintro e w5 ⟨P, rfl, h5⟩
        have H5 : Hid (Fz w w5 [kr P (some p) (Q.r0 c), kp mb (vlsI c (flat tx)), kd p (cntS c) ⟨d, []⟩, kb B 23 (ccells c)]) := h5
        obtain ⟨xb, xo, rfl, hxc⟩ := HBS.out.cells (by omega)
        obtain ⟨x, hxx⟩ : ∃ x, bs.getD r 0 = x := ⟨_, rfl⟩
        have cx : w5.cell? ⟨xb, xo + r, none⟩ = some (.int .i64 x) := by
          have := hxc r hlt.1
          rw [hxx] at this
          rw [H5.out.below.cell (p := ⟨xb, xo + r, none⟩) (World.block_lt_of_cell? w _ this)]; exact this
        have y1 : -9 < x.tmod 9 ∧ x.tmod 9 < 9 := ⟨Int.lt_tmod_of_pos x (by omega), Int.tmod_lt_of_pos x (by omega)⟩
        obtain ⟨kk, hkk⟩ : ∃ kk : Nat, (x.tmod 9 + 9).tmod 9 = (kk : Int) := ⟨((x.tmod 9 + 9).tmod 9).toNat, by have := tmod_fix x 9 (by omega); have := Int.emod_nonneg x (show (9 : Int) ≠ 0 by omega); omega⟩
        have hk9 : kk < 9 := by have := tmod_fix x 9 (by omega); have := Int.emod_lt_of_pos x (show (0 : Int) < 9 by omega); omega
        have y2 : IntKind.i64.wrap (x.tmod 9) = x.tmod 9 := by rw [IntKind.wrap_i64]; omega
        have y3 : IntKind.i64.wrap (x.tmod 9 + 9) = x.tmod 9 + 9 := by rw [IntKind.wrap_i64]; omega
        have y4 : IntKind.i64.wrap (kk : Int) = (kk : Int) := by rw [IntKind.wrap_i64]; omega
        clear h5 HC5 HF hxc hxx
        go_wp2_with fail
        refine (goes_at (i := 0) (j := 2) ht H5.out rfl rfl (by decide) (start_ok hc (cntS_is hc)) kk (show (0 : Nat) + kk ≤ 100000 by omega) (by omega)).mono ?_
        rintro e w6 ⟨v, rfl, h6⟩
        have hbr := HRV.out.broken HLG.out (by omega) (by omega) kk
        have hgw := goS_ws (cntS c) kk (Q.r0 c) ⟨d, []⟩
        have hgw2 : (goS (cntS c) kk (Q.r0 c) ⟨d, []⟩).D.ws.length ≤ 100000 := by have h0 : (⟨d, []⟩ : Dd).ws.length = 0 := rfl; omega
        rw [(hbr []).1]
        obtain ⟨gg, hgg⟩ : ∃ gg, goS (cntS c) kk (Q.r0 c) ⟨d, []⟩ = gg := ⟨_, rfl⟩
        rw [hgg] at h6 hbr hgw2
        have HBR : Hid (∀ K, (gg.D.crs K).ws = [] ∧ Rv c LL tx fin ((r : Int) + 1 + 1) (gg.D.crs K).d) := fun K => (hbr K).2
        have H6 : Hid (Fz w w6 [ki v gg.ks, kr P (some p) gg.x, kp mb (vlsI c (flat tx)), kd p (cntS c) gg.D, kb B 23 (ccells c)]) := h6
        have y5 : IntKind.i64.wrap ((r : Int) + 1) = (r : Int) + 1 := by rw [IntKind.wrap_i64]; omega
        clear h6 H5 hbr hgw hgg cx y1 y2 y3 y4 hkk HRV
        by_cases hkr : r + 1 < kn
        · have k1 : (r : Int) + 1 < (kn : Int) := by omega
          have k0 : (0 : Int) ≤ (r : Int) + 1 := by omega
          obtain ⟨kb2, ko2, k2, ek, kc2, kj2, kl2⟩ := HKS.out.at H6.out.below hkr
          cases ek
          obtain ⟨K2, HJ⟩ : ∃ K2, Hid (JIn w k2.a k2.n K2 ∧ k2.n ≤ 140737488355328) := ⟨k2.xs, kj2, kl2⟩
          have kt : ((r : Int) + 1).toNat = r + 1 := by omega
          clear kj2 kl2
          go_wp2_with fail
          refine (p_crash (j := 3) (K := K2) H6.out rfl hgw2 (HJ.out.1.later H6.out.below) HJ.out.2).mono ?_
          rintro e w7 ⟨rfl, h7⟩
          have h7' : Fz w w7 [ki v gg.ks, kr P (some p) gg.x, kp mb (vlsI c (flat tx)), kd p (cntS c) ⟨(gg.D.crs K2).d, []⟩, kb B 23 (ccells c)] := h7
          have H7 : Hid (Fz w w7 [kp mb (vlsI c (flat tx)), kd p (cntS c) ⟨(gg.D.crs K2).d, []⟩, kb B 23 (ccells c)]) := h7'.pop.pop
          have HRV2 : Hid (Rv c LL tx fin (((r + 1 : Nat) : Int) + 1) (gg.D.crs K2).d) := by have := (HBR.out K2).2; rw [show (((r + 1 : Nat) : Int) + 1) = (r : Int) + 1 + 1 by omega]; exact this
          clear h7 h7' H6 HBR HJ
          go_wp2_with fail
          go_roundw
          case rel => exact ⟨r + 1, _, by congr 1, by omega, by omega, HRV2, H7⟩
          case measure => simp [intOf]; omega
        · have k1 : ¬ (r : Int) + 1 < (kn : Int) := by omega
          obtain ⟨K2, HJ⟩ : ∃ K2, Hid (JIn w none 0 K2 ∧ (0 : Nat) ≤ 140737488355328) := ⟨[], JIn.none0 w, Nat.zero_le _⟩
          go_wp2_with fail
          refine (p_crash (j := 3) (K := K2) H6.out rfl hgw2 (HJ.out.1.later H6.out.below) HJ.out.2).mono ?_
          rintro e w7 ⟨rfl, h7⟩
          have h7' : Fz w w7 [ki v gg.ks, kr P (some p) gg.x, kp mb (vlsI c (flat tx)), kd p (cntS c) ⟨(gg.D.crs K2).d, []⟩, kb B 23 (ccells c)] := h7
          have H7 : Hid (Fz w w7 [kp mb (vlsI c (flat tx)), kd p (cntS c) ⟨(gg.D.crs K2).d, []⟩, kb B 23 (ccells c)]) := h7'.pop.pop
          have HRV2 : Hid (Rv c LL tx fin (((r + 1 : Nat) : Int) + 1) (gg.D.crs K2).d) := by have := (HBR.out K2).2; rw [show (((r + 1 : Nat) : Int) + 1) = (r : Int) + 1 + 1 by omega]; exact this
          clear h7 h7' H6 HBR HJ
          go_wp2_with fail
          go_roundw
          case rel => exact ⟨r + 1, _, by congr 1, by omega, by omega, HRV2, H7⟩
          case measure => simp [intOf]; omega
      · have hg1 : ¬ ((r : Int) < (bn : Int)) ∨ ((r : Int) < (bn : Int) ∧ ¬ (r : Int) < 6) := by omega
        clear hlt
        have hN : (r : Int) + 1 ≤ 100 := by omega
        rcases hg1 with hg1 | ⟨hg0, hg1⟩
        all_goals
          have HC5 : Hid (_) := cfl HF.out (i := 2) rfl
          go_wp2_with ((with_reducible refine at_ops ?_); (refine wpList_load_is (by rfl) 23 rfl rfl HC5.out ?_); simp only [Act.put, List.setIfInBounds_toArray, List.set_cons_zero, List.set_cons_succ])
          refine (new_ok (j := 1) c hc HF.out rfl (cntS_is hc)).mono ?_
          rintro e w5 ⟨P, rfl, h5⟩
          have H5 : Hid (Fz w w5 [kr P (some p) (r0 c), kp mb (vlsI c (flat tx)), kd p (cntS c) ⟨d, []⟩, kb B 23 (ccells c)]) := h5
          obtain ⟨mm, t, l, e9, hmm, hgo, ht0, hl1, hlg, hhm⟩ := HRV.out.ends HLG.out (by omega)
          clear h5 HF HC5
          go_wp2_with fail
          refine (goes_at (i := 0) (j := 2) ht H5.out rfl rfl (by decide) (start_ok hc (cntS_is hc)) 200 (show (0 : Nat) + 200 ≤ 100000 by decide) (by decide)).mono ?_
          rintro e w6 ⟨v, rfl, h6⟩
          have hgo' : goS (cntS c) 200 (r0 c) ⟨d, []⟩ = ⟨19 :: (List.replicate mm 15 ++ [12, 16, 20]), true, ⟨c, 6, t, l, []⟩, ⟨e9, []⟩⟩ := hgo
          have hkn := kns_of mm
          rw [hgo'] at h6
          rw [hgo']
          obtain ⟨ks, hks⟩ : ∃ ks, (19 :: (List.replicate mm 15 ++ [12, 16, 20]) : List Int) = ks := ⟨_, rfl⟩
          rw [hks] at h6 hkn
          obtain ⟨qb, qc, rfl⟩ := Fz.someint (i := 0) h6 rfl (by show 0 < ks.length; rw [hkn.len]; omega)
          rw [hkn.len] at h6
          obtain ⟨len, hlen⟩ : ∃ len, mm + 4 = len := ⟨_, rfl⟩
          have hln : ks.length = len := by rw [hkn.len, hlen]
          rw [hlen] at h6
          rw [hln]
          have H6 : Hid (Fz w w6 [ki (.slice (some ⟨qb, 0, none⟩) len qc) ks, kr P (some p) ⟨c, 6, t, l, []⟩, kp mb (vlsI c (flat tx)), kd p (cntS c) ⟨e9, []⟩, kb B 23 (ccells c)]) := h6
          have HKN : Hid (Kns ks mm) := hkn
          have HLN : Hid (ks.length = len) := hln
          have HIS : Hid (alS c (cntS c) [] e9 = (vlsI c (flat tx), 0)) := alS_want hc hhm HTX.out
          have HPS : Hid (∀ k, k < c.lc.toNat → (R.decS (sec e9 (1 + c.bl.toNat + k))).2 = 0 → (R.decS (sec e9 (1 + c.bl.toNat + k))).1.pos < t + c.lc) := fun k hk he => by
            rw [hlg k hk] at he ⊢
            have := HLG.out.low k hk he
            omega
          clear h6 hgo hgo' hks hkn hln H5 hlg hhm HRV HLG
          go_wp2_with fail
          refine (result_at (i := 1) H6.out rfl).mono ?_
          rintro e w7 ⟨rfl, h7⟩
          have hres : resS ⟨c, 6, t, l, []⟩ = (t + c.lc, l + 1, true) := by unfold resS; exact if_pos rfl
          rw [hres]
          have H7 : Hid (Fz w w7 [ki (.slice (some ⟨qb, 0, none⟩) len qc) ks, kr P (some p) ⟨c, 6, t, l, []⟩, kp mb (vlsI c (flat tx)), kd p (cntS c) ⟨e9, []⟩, kb B 23 (ccells c)]) := h7
          have hl2 : ¬ (l + 1 < 2) := by omega
          clear h7 H6 hres
          dsimp only
          go_wp2_with fail
          refine (state_at (i := 1) H7.out rfl).mono ?_
          rintro e w' ⟨rfl, hw'⟩
          rw [hw']
          clear hw' w'
          have q0 : w7.cell? ⟨qb, 0, none⟩ = some (.int .i64 19) := H7.out.intcell (i := 0) rfl HLN.out HKN.out.fst
          have q3 : w7.cell? ⟨qb, mm + 3, none⟩ = some (.int .i64 20) := H7.out.intcell (i := 0) rfl HLN.out HKN.out.lst
          have hl1' : ((len : Nat) : Int) - 1 = ((mm + 3 : Nat) : Int) := by omega
          have b1 := CAt.c1 (cfc H7.out (i := 4) rfl)
          have hh1 : ¬ ((len : Int) < 4) := by omega
          have hh2 : ¬ ((len : Int) > 3 + c.lc) := by omega
          have hh3 : (0 : Int) < (len : Int) := by omega
          have hh4 : (len : Int) - 1 < (len : Int) := by omega
          have hh5 : (0 : Int) ≤ (len : Int) - 1 := by omega
          have hw3 : IntKind.i64.wrap (3 + c.lc) = 3 + c.lc := by rw [IntKind.wrap_i64]; omega
          have hw4 : IntKind.i64.wrap ((len : Int) - 1) = (len : Int) - 1 := by rw [IntKind.wrap_i64]; omega
          have hw5 : ((len : Int) - 1).toNat = mm + 3 := by omega
          dsimp only
          go_wp2_with fail
          clear hh1 hh2 hh4 hh5 hw3 hw4 hw5 q0 q3 b1
          go_loopw [37, 38] (fun cv iv wr => ∃ r : Nat, r ≤ len ∧ iv = .int .i64 r ∧ cv = .int .i64 (crd (ks.take r) : Nat) ∧ wr = w7) (fun _ iv _ => len - (intOf iv).toNat)
          case atStart => exact ⟨0, Nat.zero_le _, rfl, rfl, rfl⟩
          case round =>
            obtain ⟨r, hr, rfl, rfl, hwr⟩ := hrel
            rw [hwr]
            clear hwr
            have hcl : crd (ks.take r) ≤ r := by unfold crd; exact Nat.le_trans (List.length_filter_le _ _) (by rw [List.length_take]; omega)
            by_cases hlt : r < len
            · have r1 : (r : Int) < (len : Int) := by omega
              have r0 : (0 : Int) ≤ (r : Int) := by omega
              obtain ⟨y, hy⟩ : ∃ y, ks[r]? = some y := ⟨_, List.getElem?_eq_getElem (by rw [HLN.out]; exact hlt)⟩
              have cr : w7.cell? ⟨qb, r, none⟩ = some (.int .i64 y) := H7.out.intcell (i := 0) rfl HLN.out hy
              have HS : Hid (crd (ks.take (r + 1)) = crd (ks.take r) + (if y = 15 then 1 else 0)) := by show _ = _; rw [take_snoc hy, crd_snoc]
              by_cases hy15 : y = 15
              · have hyb : (y == 15) = true := by simp [hy15]
                have HS2 : Hid (crd (ks.take (r + 1)) = crd (ks.take r) + 1) := by show _ = _; rw [HS.out, if_pos hy15]
                have k1 : IntKind.i64.wrap ((crd (ks.take r) : Int) + 1) = (crd (ks.take r) : Int) + 1 := by rw [IntKind.wrap_i64]; omega
                clear HS hy15
                go_wp2_with fail
                go_roundw
                case rel => exact ⟨r + 1, by omega, by congr 1, by rw [HS2.out]; rfl, by trivial⟩
                case measure => simp [intOf]; omega
              · have hyb : (y == 15) = false := by simp [hy15]
                have HS2 : Hid (crd (ks.take (r + 1)) = crd (ks.take r)) := by show _ = _; rw [HS.out, if_neg hy15]; rfl
                clear HS hy15
                go_wp2_with fail
                go_roundw
                case rel => exact ⟨r + 1, by omega, by congr 1, by rw [HS2.out], by trivial⟩
                case measure => simp [intOf]; omega
            · have r1 : ¬ (r : Int) < (len : Int) := by omega
              have hcm : crd (ks.take r) = mm := by rw [List.take_of_length_le (by rw [HLN.out]; omega)]; exact HKN.out.cnt
              rw [hcm]
              have hwm : IntKind.i64.wrap (4 + (mm : Int)) = 4 + (mm : Int) := by rw [IntKind.wrap_i64]; omega
              have hqe : ((len : Int) == 4 + (mm : Int)) = true := by simp; omega
              have HC7 : Hid (_) := cfl H7.out (i := 4) rfl
              clear hcl hcm
              go_wp2_with ((with_reducible refine at_ops ?_); (refine wpList_load_is (by rfl) 23 rfl rfl HC7.out ?_); simp only [Act.put, List.setIfInBounds_toArray, List.set_cons_zero, List.set_cons_succ])
              have hrg := H7.out.atp (i := 2) rfl
              refine (is_at (j := 3) ht hc H7.out rfl hrg.1 hrg.2 (vlsI_len _ _) (vlsI_each HTX.out) HIS.out HPS.out).mono ?_
              rintro e w9 ⟨rfl, h9⟩
              have HZ : Hid (Below w.heap.size w w9) := h9.below
              clear h9 H7
              go_wp2
              go_ret
              exact ⟨rfl, HZ.out⟩
  · have k1 : ¬ (kn : Int) > 0 := by omega
    clear hk0
    obtain ⟨K, HJ⟩ : ∃ K, Hid (JIn w none 0 K ∧ (0 : Nat) ≤ 140737488355328) := ⟨[], JIn.none0 w, Nat.zero_le _⟩
    go_wp2_with fail
    have hLM := (H6.out.atb (i := 2) rfl).1
    have hwt := HNT.out.wt
    refine (stands_at hLM hwt.sl (by have := hwt.len; omega) (HJ.out.1.later H6.out.below) HJ.out.2).mono ?_
    rintro e w7 ⟨n, rfl, hstd, hb7⟩
    have hcr := hwt.crash hstd
    have hah := hwt.ahead (n : Int)
    have H7 : Hid (Fz w w7 (ki vc (s.txs.map (·.p)) :: km vm (mpsS c s.txs) :: kb M 62 (mcl al.length sf vc vm) :: kd p (cntS c) D :: [kb B 23 (ccells c)])) := H6.out.later hb7
    have hws := HNT.out.ws
    have htl : s.txs.length ≤ 1000 := HTL.out
    clear hb7 hLM H6 hwt hstd
    go_wp2_with fail
    refine (finds_at (i := 2) (j := 0) H7.out rfl rfl htl (n : Int)).mono ?_
    rintro e w' ⟨rfl, hw'⟩
    rw [hw']
    clear hw' w'
    obtain ⟨tx, htx⟩ : ∃ tx, aheadT s.txs (n : Int) = tx := ⟨_, rfl⟩
    rw [htx] at hah hcr
    rw [htx]
    have hfl : tx.length ≤ s.txs.length := by rw [← htx]; exact List.length_filter_le _ _
    have hmp : (mpsS c s.txs)[tx.length]? = some (vlsI c (flat tx)) := by rw [mpsS_at c s.txs hfl, ← hah]
    obtain ⟨mq, mcp, mb, mc, rfl, hmc, hpin⟩ := Fz.pinned (i := 1) H7.out rfl hmp
    rw [mpsS_len] at H7 hpin
    have m3 := mc3 (H7.out.atb (i := 2) rfl).1
    have H8 : Hid (Fz w w7 [kp mb (vlsI c (flat tx)), kd p (cntS c) D, kb B 23 (ccells c)]) := Fz.pk3 hpin
    have HTX : Hid (∀ i ∈ flat tx, i.v.length = 32) := fun i hi => HNT.out.wf i (List.mem_append.2 (.inl (flat_ahead (n := (n : Int)) (by rw [htx]; exact hi))))
    have hf1 : (tx.length : Int) < ((s.txs.length + 1 : Nat) : Int) := by omega
    have hf0 : (0 : Int) ≤ (tx.length : Int) := by omega
    clear hpin H7 hmp htx hah
    go_wp2_with fail
    clear m3 hmc
    refine (p_crash (j := 1) (K := K) H8.out rfl (by omega) (HJ.out.1.later H8.out.below) HJ.out.2).mono ?_
    rintro e w9 ⟨rfl, h9⟩
    obtain ⟨dd, hdd⟩ : ∃ d, (D.crs K).d = d := ⟨_, rfl⟩
    have h9' : Fz w w9 [kp mb (vlsI c (flat tx)), kd p (cntS c) ⟨(D.crs K).d, []⟩, kb B 23 (ccells c)] := h9
    obtain ⟨LL, hLL⟩ : ∃ LL, (fun i => sec (D.crs K).d (1 + c.bl.toNat + i)) = LL := ⟨_, rfl⟩
    obtain ⟨fin, hfin⟩ : ∃ fin, endT tx 0 = fin := ⟨_, rfl⟩
    rw [hLL, hfin] at hcr
    rw [hdd] at h9' hcr
    have H9 : Hid (Fz w w9 [kp mb (vlsI c (flat tx)), kd p (cntS c) ⟨dd, []⟩, kb B 23 (ccells c)]) := h9'
    have HLG : Hid (Lgs c LL tx fin) := hcr.1
    have HRV0 : Hid (Rv c LL tx fin 1 dd) := hcr.2
    clear h9 h9' hcr hLL hfin hdd H8 HNT HTL HJ htl hfl hws
    go_wp2_with fail
    go_loopw [22] (fun iv wr => ∃ (r : Nat) (d : List Int), iv = .int .i64 r ∧ r ≤ bn ∧ r ≤ 6 ∧ Hid (Rv c LL tx fin ((r : Int) + 1) d) ∧ Hid (Fz w wr [kp mb (vlsI c (flat tx)), kd p (cntS c) ⟨d, []⟩, kb B 23 (ccells c)])) (fun iv _ => bn - (intOf iv).toNat)
    case atStart => exact ⟨0, dd, rfl, Nat.zero_le _, by omega, HRV0, H9⟩
    case round =>
      obtain ⟨r, d, rfl, hr1, hr2, HRV, HF⟩ := hrel
      clear H9 HRV0
      by_cases hlt : r < bn ∧ r < 6
      · have r1 : (r : Int) < (bn : Int) := by omega
        have r2 : (r : Int) < 6 := by omega
        have r0 : (0 : Int) ≤ (r : Int) := by omega
        have HC5 : Hid (_) := cfl HF.out (i := 2) rfl
        go_wp2_with ((with_reducible refine at_ops ?_); (refine wpList_load_is (by rfl) 23 rfl rfl HC5.out ?_); simp only [Act.put, List.setIfInBounds_toArray, List.set_cons_zero, List.set_cons_succ])
        refine (new_ok (j := 1) c hc HF.out rfl (cntS_is hc)).mono ?_
        rintro e w5 ⟨P, rfl, h5⟩
        have H5 : Hid (Fz w w5 [kr P (some p) (Q.r0 c), kp mb (vlsI c (flat tx)), kd p (cntS c) ⟨d, []⟩, kb B 23 (ccells c)]) := h5
        obtain ⟨xb, xo, rfl, hxc⟩ := HBS.out.cells (by omega)
        obtain ⟨x, hxx⟩ : ∃ x, bs.getD r 0 = x := ⟨_, rfl⟩
        have cx : w5.cell? ⟨xb, xo + r, none⟩ = some (.int .i64 x) := by
          have := hxc r hlt.1
          rw [hxx] at this
          rw [H5.out.below.cell (p := ⟨xb, xo + r, none⟩) (World.block_lt_of_cell? w _ this)]; exact this
        have y1 : -9 < x.tmod 9 ∧ x.tmod 9 < 9 := ⟨Int.lt_tmod_of_pos x (by omega), Int.tmod_lt_of_pos x (by omega)⟩
        obtain ⟨kk, hkk⟩ : ∃ kk : Nat, (x.tmod 9 + 9).tmod 9 = (kk : Int) := ⟨((x.tmod 9 + 9).tmod 9).toNat, by have := tmod_fix x 9 (by omega); have := Int.emod_nonneg x (show (9 : Int) ≠ 0 by omega); omega⟩
        have hk9 : kk < 9 := by have := tmod_fix x 9 (by omega); have := Int.emod_lt_of_pos x (show (0 : Int) < 9 by omega); omega
        have y2 : IntKind.i64.wrap (x.tmod 9) = x.tmod 9 := by rw [IntKind.wrap_i64]; omega
        have y3 : IntKind.i64.wrap (x.tmod 9 + 9) = x.tmod 9 + 9 := by rw [IntKind.wrap_i64]; omega
        have y4 : IntKind.i64.wrap (kk : Int) = (kk : Int) := by rw [IntKind.wrap_i64]; omega
        clear h5 HC5 HF hxc hxx
        go_wp2_with fail
        refine (goes_at (i := 0) (j := 2) ht H5.out rfl rfl (by decide) (start_ok hc (cntS_is hc)) kk (show (0 : Nat) + kk ≤ 100000 by omega) (by omega)).mono ?_
        rintro e w6 ⟨v, rfl, h6⟩
        have hbr := HRV.out.broken HLG.out (by omega) (by omega) kk
        have hgw := goS_ws (cntS c) kk (Q.r0 c) ⟨d, []⟩
        have hgw2 : (goS (cntS c) kk (Q.r0 c) ⟨d, []⟩).D.ws.length ≤ 100000 := by have h0 : (⟨d, []⟩ : Dd).ws.length = 0 := rfl; omega
        rw [(hbr []).1]
        obtain ⟨gg, hgg⟩ : ∃ gg, goS (cntS c) kk (Q.r0 c) ⟨d, []⟩ = gg := ⟨_, rfl⟩
        rw [hgg] at h6 hbr hgw2
        have HBR : Hid (∀ K, (gg.D.crs K).ws = [] ∧ Rv c LL tx fin ((r : Int) + 1 + 1) (gg.D.crs K).d) := fun K => (hbr K).2
        have H6 : Hid (Fz w w6 [ki v gg.ks, kr P (some p) gg.x, kp mb (vlsI c (flat tx)), kd p (cntS c) gg.D, kb B 23 (ccells c)]) := h6
        have y5 : IntKind.i64.wrap ((r : Int) + 1) = (r : Int) + 1 := by rw [IntKind.wrap_i64]; omega
        clear h6 H5 hbr hgw hgg cx y1 y2 y3 y4 hkk HRV
        by_cases hkr : r + 1 < kn
        · have k1 : (r : Int) + 1 < (kn : Int) := by omega
          have k0 : (0 : Int) ≤ (r : Int) + 1 := by omega
          obtain ⟨kb2, ko2, k2, ek, kc2, kj2, kl2⟩ := HKS.out.at H6.out.below hkr
          cases ek
          obtain ⟨K2, HJ⟩ : ∃ K2, Hid (JIn w k2.a k2.n K2 ∧ k2.n ≤ 140737488355328) := ⟨k2.xs, kj2, kl2⟩
          have kt : ((r : Int) + 1).toNat = r + 1 := by omega
          clear kj2 kl2
          go_wp2_with fail
          refine (p_crash (j := 3) (K := K2) H6.out rfl hgw2 (HJ.out.1.later H6.out.below) HJ.out.2).mono ?_
          rintro e w7 ⟨rfl, h7⟩
          have h7' : Fz w w7 [ki v gg.ks, kr P (some p) gg.x, kp mb (vlsI c (flat tx)), kd p (cntS c) ⟨(gg.D.crs K2).d, []⟩, kb B 23 (ccells c)] := h7
          have H7 : Hid (Fz w w7 [kp mb (vlsI c (flat tx)), kd p (cntS c) ⟨(gg.D.crs K2).d, []⟩, kb B 23 (ccells c)]) := h7'.pop.pop
          have HRV2 : Hid (Rv c LL tx fin (((r + 1 : Nat) : Int) + 1) (gg.D.crs K2).d) := by have := (HBR.out K2).2; rw [show (((r + 1 : Nat) : Int) + 1) = (r : Int) + 1 + 1 by omega]; exact this
          clear h7 h7' H6 HBR HJ
          go_wp2_with fail
          go_roundw
          case rel => exact ⟨r + 1, _, by congr 1, by omega, by omega, HRV2, H7⟩
          case measure => simp [intOf]; omega
        · have k1 : ¬ (r : Int) + 1 < (kn : Int) := by omega
          obtain ⟨K2, HJ⟩ : ∃ K2, Hid (JIn w none 0 K2 ∧ (0 : Nat) ≤ 140737488355328) := ⟨[], JIn.none0 w, Nat.zero_le _⟩
          go_wp2_with fail
          refine (p_crash (j := 3) (K := K2) H6.out rfl hgw2 (HJ.out.1.later H6.out.below) HJ.out.2).mono ?_
          rintro e w7 ⟨rfl, h7⟩
          have h7' : Fz w w7 [ki v gg.ks, kr P (some p) gg.x, kp mb (vlsI c (flat tx)), kd p (cntS c) ⟨(gg.D.crs K2).d, []⟩, kb B 23 (ccells c)] := h7
          have H7 : Hid (Fz w w7 [kp mb (vlsI c (flat tx)), kd p (cntS c) ⟨(gg.D.crs K2).d, []⟩, kb B 23 (ccells c)]) := h7'.pop.pop
          have HRV2 : Hid (Rv c LL tx fin (((r + 1 : Nat) : Int) + 1) (gg.D.crs K2).d) := by have := (HBR.out K2).2; rw [show (((r + 1 : Nat) : Int) + 1) = (r : Int) + 1 + 1 by omega]; exact this
          clear h7 h7' H6 HBR HJ
          go_wp2_with fail
          go_roundw
          case rel => exact ⟨r + 1, _, by congr 1, by omega, by omega, HRV2, H7⟩
          case measure => simp [intOf]; omega
      · have hg1 : ¬ ((r : Int) < (bn : Int)) ∨ ((r : Int) < (bn : Int) ∧ ¬ (r : Int) < 6) := by omega
        clear hlt
        have hN : (r : Int) + 1 ≤ 100 := by omega
        rcases hg1 with hg1 | ⟨hg0, hg1⟩
        all_goals
          have HC5 : Hid (_) := cfl HF.out (i := 2) rfl
          go_wp2_with ((with_reducible refine at_ops ?_); (refine wpList_load_is (by rfl) 23 rfl rfl HC5.out ?_); simp only [Act.put, List.setIfInBounds_toArray, List.set_cons_zero, List.set_cons_succ])
          refine (new_ok (j := 1) c hc HF.out rfl (cntS_is hc)).mono ?_
          rintro e w5 ⟨P, rfl, h5⟩
          have H5 : Hid (Fz w w5 [kr P (some p) (r0 c), kp mb (vlsI c (flat tx)), kd p (cntS c) ⟨d, []⟩, kb B 23 (ccells c)]) := h5
          obtain ⟨mm, t, l, e9, hmm, hgo, ht0, hl1, hlg, hhm⟩ := HRV.out.ends HLG.out (by omega)
          clear h5 HF HC5
          go_wp2_with fail
          refine (goes_at (i := 0) (j := 2) ht H5.out rfl rfl (by decide) (start_ok hc (cntS_is hc)) 200 (show (0 : Nat) + 200 ≤ 100000 by decide) (by decide)).mono ?_
          rintro e w6 ⟨v, rfl, h6⟩
          have hgo' : goS (cntS c) 200 (r0 c) ⟨d, []⟩ = ⟨19 :: (List.replicate mm 15 ++ [12, 16, 20]), true, ⟨c, 6, t, l, []⟩, ⟨e9, []⟩⟩ := hgo
          have hkn := kns_of mm
          rw [hgo'] at h6
          rw [hgo']
          obtain ⟨ks, hks⟩ : ∃ ks, (19 :: (List.replicate mm 15 ++ [12, 16, 20]) : List Int) = ks := ⟨_, rfl⟩
          rw [hks] at h6 hkn
          obtain ⟨qb, qc, rfl⟩ := Fz.someint (i := 0) h6 rfl (by show 0 < ks.length; rw [hkn.len]; omega)
          rw [hkn.len] at h6
          obtain ⟨len, hlen⟩ : ∃ len, mm + 4 = len := ⟨_, rfl⟩
          have hln : ks.length = len := by rw [hkn.len, hlen]
          rw [hlen] at h6
          rw [hln]
          have H6 : Hid (Fz w w6 [ki (.slice (some ⟨qb, 0, none⟩) len qc) ks, kr P (some p) ⟨c, 6, t, l, []⟩, kp mb (vlsI c (flat tx)), kd p (cntS c) ⟨e9, []⟩, kb B 23 (ccells c)]) := h6
          have HKN : Hid (Kns ks mm) := hkn
          have HLN : Hid (ks.length = len) := hln
          have HIS : Hid (alS c (cntS c) [] e9 = (vlsI c (flat tx), 0)) := alS_want hc hhm HTX.out
          have HPS : Hid (∀ k, k < c.lc.toNat → (R.decS (sec e9 (1 + c.bl.toNat + k))).2 = 0 → (R.decS (sec e9 (1 + c.bl.toNat + k))).1.pos < t + c.lc) := fun k hk he => by
            rw [hlg k hk] at he ⊢
            have := HLG.out.low k hk he
            omega
          clear h6 hgo hgo' hks hkn hln H5 hlg hhm HRV HLG
          go_wp2_with fail
          refine (result_at (i := 1) H6.out rfl).mono ?_
          rintro e w7 ⟨rfl, h7⟩
          have hres : resS ⟨c, 6, t, l, []⟩ = (t + c.lc, l + 1, true) := by unfold resS; exact if_pos rfl
          rw [hres]
          have H7 : Hid (Fz w w7 [ki (.slice (some ⟨qb, 0, none⟩) len qc) ks, kr P (some p) ⟨c, 6, t, l, []⟩, kp mb (vlsI c (flat tx)), kd p (cntS c) ⟨e9, []⟩, kb B 23 (ccells c)]) := h7
          have hl2 : ¬ (l + 1 < 2) := by omega
          clear h7 H6 hres
          dsimp only
          go_wp2_with fail
          refine (state_at (i := 1) H7.out rfl).mono ?_
          rintro e w' ⟨rfl, hw'⟩
          rw [hw']
          clear hw' w'
          have q0 : w7.cell? ⟨qb, 0, none⟩ = some (.int .i64 19) := H7.out.intcell (i := 0) rfl HLN.out HKN.out.fst
          have q3 : w7.cell? ⟨qb, mm + 3, none⟩ = some (.int .i64 20) := H7.out.intcell (i := 0) rfl HLN.out HKN.out.lst
          have hl1' : ((len : Nat) : Int) - 1 = ((mm + 3 : Nat) : Int) := by omega
          have b1 := CAt.c1 (cfc H7.out (i := 4) rfl)
          have hh1 : ¬ ((len : Int) < 4) := by omega
          have hh2 : ¬ ((len : Int) > 3 + c.lc) := by omega
          have hh3 : (0 : Int) < (len : Int) := by omega
          have hh4 : (len : Int) - 1 < (len : Int) := by omega
          have hh5 : (0 : Int) ≤ (len : Int) - 1 := by omega
          have hw3 : IntKind.i64.wrap (3 + c.lc) = 3 + c.lc := by rw [IntKind.wrap_i64]; omega
          have hw4 : IntKind.i64.wrap ((len : Int) - 1) = (len : Int) - 1 := by rw [IntKind.wrap_i64]; omega
          have hw5 : ((len : Int) - 1).toNat = mm + 3 := by omega
          dsimp only
          go_wp2_with fail
          clear hh1 hh2 hh4 hh5 hw3 hw4 hw5 q0 q3 b1
          go_loopw [37, 38] (fun cv iv wr => ∃ r : Nat, r ≤ len ∧ iv = .int .i64 r ∧ cv = .int .i64 (crd (ks.take r) : Nat) ∧ wr = w7) (fun _ iv _ => len - (intOf iv).toNat)
          case atStart => exact ⟨0, Nat.zero_le _, rfl, rfl, rfl⟩
          case round =>
            obtain ⟨r, hr, rfl, rfl, hwr⟩ := hrel
            rw [hwr]
            clear hwr
            have hcl : crd (ks.take r) ≤ r := by unfold crd; exact Nat.le_trans (List.length_filter_le _ _) (by rw [List.length_take]; omega)
            by_cases hlt : r < len
            · have r1 : (r : Int) < (len : Int) := by omega
              have r0 : (0 : Int) ≤ (r : Int) := by omega
              obtain ⟨y, hy⟩ : ∃ y, ks[r]? = some y := ⟨_, List.getElem?_eq_getElem (by rw [HLN.out]; exact hlt)⟩
              have cr : w7.cell? ⟨qb, r, none⟩ = some (.int .i64 y) := H7.out.intcell (i := 0) rfl HLN.out hy
              have HS : Hid (crd (ks.take (r + 1)) = crd (ks.take r) + (if y = 15 then 1 else 0)) := by show _ = _; rw [take_snoc hy, crd_snoc]
              by_cases hy15 : y = 15
              · have hyb : (y == 15) = true := by simp [hy15]
                have HS2 : Hid (crd (ks.take (r + 1)) = crd (ks.take r) + 1) := by show _ = _; rw [HS.out, if_pos hy15]
                have k1 : IntKind.i64.wrap ((crd (ks.take r) : Int) + 1) = (crd (ks.take r) : Int) + 1 := by rw [IntKind.wrap_i64]; omega
                clear HS hy15
                go_wp2_with fail
                go_roundw
                case rel => exact ⟨r + 1, by omega, by congr 1, by rw [HS2.out]; rfl, by trivial⟩
                case measure => simp [intOf]; omega
              · have hyb : (y == 15) = false := by simp [hy15]
                have HS2 : Hid (crd (ks.take (r + 1)) = crd (ks.take r)) := by show _ = _; rw [HS.out, if_neg hy15]; rfl
                clear HS hy15
                go_wp2_with fail
                go_roundw
                case rel => exact ⟨r + 1, by omega, by congr 1, by rw [HS2.out], by trivial⟩
                case measure => simp [intOf]; omega
            · have r1 : ¬ (r : Int) < (len : Int) := by omega
              have hcm : crd (ks.take r) = mm := by rw [List.take_of_length_le (by rw [HLN.out]; omega)]; exact HKN.out.cnt
              rw [hcm]
              have hwm : IntKind.i64.wrap (4 + (mm : Int)) = 4 + (mm : Int) := by rw [IntKind.wrap_i64]; omega
              have hqe : ((len : Int) == 4 + (mm : Int)) = true := by simp; omega
              have HC7 : Hid (_) := cfl H7.out (i := 4) rfl
              clear hcl hcm
              go_wp2_with ((with_reducible refine at_ops ?_); (refine wpList_load_is (by rfl) 23 rfl rfl HC7.out ?_); simp only [Act.put, List.setIfInBounds_toArray, List.set_cons_zero, List.set_cons_succ])
              have hrg := H7.out.atp (i := 2) rfl
              refine (is_at (j := 3) ht hc H7.out rfl hrg.1 hrg.2 (vlsI_len _ _) (vlsI_each HTX.out) HIS.out HPS.out).mono ?_
              rintro e w9 ⟨rfl, h9⟩
              have HZ : Hid (Below w.heap.size w w9) := h9.below
              clear h9 H7
              go_wp2
              go_ret
              exact ⟨rfl, HZ.out⟩
end
end Go.Proofs.YtdadpepfpiimgaaGreatDoor.Q
namespace Go.Proofs.YtdadpepfpiimgaaGreatDoor.Q
open Go.RowKit
open Go.ChangeShapes Go.WideShapes Go.ChangeAt Go.Deep
theorem bytes3 : Tryz.prog.bytesOf 3 = 8 := by kernel_rfl
theorem cellsIs : Tryz.prog.cellsOf 40 = 1 := by kernel_rfl
theorem bytesIs : Tryz.prog.bytesOf 40 = 24 := by kernel_rfl
theorem cellsTx : Tryz.prog.cellsOf 127 = 3 := by kernel_rfl
theorem bytesTx : Tryz.prog.bytesOf 127 = 32 := by kernel_rfl
theorem cells5' : Tryz.prog.cellsOf 5 = 1 := by kernel_rfl
theorem cells4' : Tryz.prog.cellsOf 4 = 1 := by kernel_rfl
theorem JIn.i {w : World} {p : Option Addr} {n : Nat} {xs : List Int} (h : JIn w p n xs) : IIn w .i64 p n xs := by
  refine ⟨h.len, fun h0 => ?_⟩
  obtain ⟨b, o, e, hc⟩ := h.cells h0
  refine ⟨b, o, e, fun i hi => ?_⟩
  have hx : xs.getD i 0 = xs[i] := by simp [List.getD, hi]
  rw [hc i (by rw [← h.len]; exact hi), hx]
theorem openedI {H : Type} {enc : TypeId × Value → H} {W : World} {a : Option Addr} {len cap : Nat} {d : DataW H} {p : List MemPlace} (h : DataW.Trod enc Tryz.prog W 0 (fun _ => true) true 40 (.slice a len cap) d p) (hw : ∀ k ∈ d.weights Tryz.prog 40, k ≤ reachBytes) :
    ∃ ss, JIn W a len ss ∧ len ≤ 140737488355328 := by
  obtain ⟨fuel, hf⟩ := h
  rcases open_ints Tryz.underlying40 Tryz.underlying3 (by kernel_rfl) hf with ⟨hcs, _⟩ | ⟨x, l, c, zs, hcs, _, hl, hm, hz, hx, hcell, hwz⟩
  · simp [Value.cells] at hcs
    obtain ⟨rfl, rfl, rfl⟩ := hcs
    exact ⟨[], ⟨rfl, fun h => absurd h (Nat.lt_irrefl 0)⟩, Nat.zero_le _⟩
  · simp [Value.cells] at hcs
    obtain ⟨rfl, rfl, rfl⟩ := hcs
    have hz' : zs.length = cap := by simpa using hz
    simp only [Prod.mk.injEq] at hx
    have w5 : cap * 8 ≤ reachBytes := by
      have := hw (zs.length * Tryz.prog.bytesOf 3) (by rw [hx.1]; simp [DataW.weights, Tryz.underlying40, lits]; left; congr 1; omega)
      rw [bytes3, hz'] at this
      exact this
    simp only [reachBytes] at w5
    refine ⟨zs.take len, ⟨by rw [List.length_take]; omega, fun h0 => ?_⟩, by omega⟩
    obtain ⟨b, o, s⟩ := x
    obtain rfl : s = none := by simpa [Addr.add] using World.cell?_spot (hcell 0 (by omega))
    refine ⟨b, o, rfl, fun i hi => ?_⟩
    have hil : i < len := hi
    have hiz : i < zs.length := by omega
    have := hcell i (by omega)
    rw [add_plain] at this
    rw [this]
    simp [List.getD, hiz, hil]
theorem openedKs {H : Type} {enc : TypeId × Value → H} {W : World} {a : Option Addr} {len cap : Nat} {d : DataW H} {p : List MemPlace} (h : DataW.Trod enc Tryz.prog W 0 (fun _ => true) true 54 (.slice a len cap) d p) (hw : ∀ k ∈ d.weights Tryz.prog 54, k ≤ reachBytes) :
    ∃ l, KIn W a len l ∧ len ≤ 140737488355328 := by
  obtain ⟨fuel, hf⟩ := h
  rcases open_slice Tryz.underlying54 hf with ⟨hcs, _⟩ | ⟨x, l, c, m, n, D, Pl, hcs, _, hl, hm, hmm, hx, hcell⟩
  · simp [Value.cells] at hcs
    obtain ⟨rfl, rfl, rfl⟩ := hcs
    exact ⟨[], ⟨rfl, fun h => absurd h (Nat.lt_irrefl 0), fun t h => (by cases h)⟩, Nat.zero_le _⟩
  · simp [Value.cells] at hcs
    obtain ⟨rfl, rfl, rfl⟩ := hcs
    rw [cellsIs] at hcell
    simp only [Prod.mk.injEq] at hx
    have hlm : len ≤ m := by rw [hmm]; simpa using hl
    have each : ∀ i, i < len → ∃ t : KV, W.cell? (x.add (i * 1)) = some (.slice t.a t.n t.c) ∧ JIn W t.a t.n t.xs ∧ t.n ≤ 140737488355328 := by
      intro i hi
      obtain ⟨cs', h1, h2⟩ := hcell i (by omega)
      have hs := World.cells?_some h1
      have hcl : cs'.length = 1 := hs.2.1
      match cs', hcl with
      | [v], _ =>
        obtain ⟨q, len', c', e1⟩ := slice_of Tryz.underlying40 h2
        subst e1
        obtain ⟨ss, hj, hn⟩ := openedI (d := D i) (p := Pl i) ⟨_, h2⟩ (fun k hk => hw k (by
          rw [hx.1]
          simp only [DataW.weights, Tryz.underlying54, List.mem_cons, List.mem_append]
          exact .inr (.inl (weightsAll_mem (List.mem_map.2 ⟨i, List.mem_range.2 hi, rfl⟩) k hk))))
        have := hs.2.2 0 (by omega)
        exact ⟨⟨q, len', c', ss⟩, this, hj, hn⟩
    have hlb : len ≤ 140737488355328 := by
      rw [hx.1] at hw
      simp only [DataW.weights, Tryz.underlying54] at hw
      have h1 := hw _ List.mem_cons_self
      rw [bytesIs] at h1
      simp only [List.length_map, List.length_range, reachBytes] at h1
      omega
    refine ⟨(List.range len).map fun i => if h : i < len then (each i h).choose else ⟨none, 0, 0, []⟩, ⟨by simp, fun h0 => ?_, fun t ht => ?_⟩, hlb⟩
    · obtain ⟨b, o, s⟩ := x
      have hc0 := (each 0 h0).choose_spec.1
      obtain rfl : s = none := by simpa [Addr.add] using World.cell?_spot hc0
      refine ⟨b, o, rfl, World.block_lt_of_cell? W _ hc0, fun k t ht => ?_⟩
      have hk' : k < len := by have := (List.getElem?_eq_some_iff.1 ht).1; simpa using this
      rw [List.getElem?_map, List.getElem?_range hk'] at ht
      simp only [Option.map_some, hk', dif_pos, Option.some.injEq] at ht
      subst ht
      have h2 := (each k hk').choose_spec.1
      have e1 : (⟨b, o, none⟩ : Addr).add (k * 1) = ⟨b, o + k, none⟩ := by rw [add_plain, Nat.mul_one]
      exact e1 ▸ h2
    · obtain ⟨i, hi, rfl⟩ := List.mem_map.1 ht
      have hi' := List.mem_range.1 hi
      simp only [hi', dif_pos]
      exact (each i hi').choose_spec.2
theorem one_tx {H : Type} {enc : TypeId × Value → H} {W : World} {cs : List Value} {n : Nat} {y : DataW H × List MemPlace} (hd : DataW.trod enc Tryz.prog W 0 (fun _ => true) true n 127 cs = some y) (hw : ∀ k ∈ y.1.weights Tryz.prog 127, k ≤ reachBytes) : ∃ t : TxV, cs = t.cells ∧ IIn W .i64 t.a t.n t.xs ∧ t.n ≤ 140737488355328 ∧ (0 ≤ t.f ∧ t.f < 256) := by
  obtain ⟨xs, k, _, hy, hl, hxl, hf⟩ := DataW.trod_struct Tryz.underlying127 hd
  rw [cellsTx] at hl
  have hxl3 : xs.length = 3 := hxl
  match xs, hxl3 with
  | [y0, y1, y2], _ =>
    have g0 : DataW.trod enc Tryz.prog W 0 (fun _ => true) true k 40 ((cs.drop 0).take (Tryz.prog.cellsOf 40)) = some y0 := hf 0 _ rfl
    have g1 : DataW.trod enc Tryz.prog W 0 (fun _ => true) true k 5 ((cs.drop 1).take (Tryz.prog.cellsOf 5)) = some y1 := hf 1 _ rfl
    have g2 : DataW.trod enc Tryz.prog W 0 (fun _ => true) true k 4 ((cs.drop 2).take (Tryz.prog.cellsOf 4)) = some y2 := hf 2 _ rfl
    rw [cellsIs, one_cell cs 0 (by omega)] at g0
    rw [cells5'] at g1
    rw [cells4'] at g2
    obtain ⟨q, len, c, e0⟩ := slice_of Tryz.underlying40 g0
    rw [e0] at g0
    obtain ⟨f, e1, _, w1⟩ := DataW.trod_int Tryz.underlying5 g1
    obtain ⟨m, e2, _⟩ := DataW.trod_bool Tryz.underlying4 g2
    simp only [List.map_cons, List.map_nil] at hy
    obtain ⟨bs, hb, hl64⟩ := openedI (d := y0.1) (p := y0.2) ⟨k, g0⟩ (fun j hj => hw j (by
      rw [hy]
      simp only [DataW.weights, Tryz.underlying127]
      exact DataW.weights_mem_each (j := 0) (t := 40) rfl rfl _ hj))
    have b1 := bounds_u8 w1
    refine ⟨⟨q, len, c, f, m, bs⟩, ?_, Q.JIn.i hb, hl64, by show 0 ≤ f; omega, by show f < 256; omega⟩
    show cs = [.slice q len c, .int .u8 f, .bool m]
    have a1 := drop_one _ _ _ e1
    have a2 := drop_one _ _ _ e2
    apply List.ext_getElem?
    intro i
    match i with
    | 0 => rw [List.getElem?_eq_getElem (by omega), e0]; rfl
    | 1 => exact a1
    | 2 => exact a2
    | j + 3 => rw [List.getElem?_eq_none (by omega)]; rfl
theorem openedTxs {H : Type} {enc : TypeId × Value → H} {W : World} {a : Option Addr} {len cap : Nat} {d : DataW H} {p : List MemPlace} (h : DataW.Trod enc Tryz.prog W 0 (fun _ => true) true 53 (.slice a len cap) d p) (hw : ∀ k ∈ d.weights Tryz.prog 53, k ≤ reachBytes) :
    ∃ l, TsIn W a len l ∧ len ≤ 140737488355328 := by
  obtain ⟨fuel, hf⟩ := h
  rcases open_slice Tryz.underlying53 hf with ⟨hcs, _⟩ | ⟨x, l, c, m, n, D, Pl, hcs, _, hl, hm, hmm, hx, hcell⟩
  · simp [Value.cells] at hcs
    obtain ⟨rfl, rfl, rfl⟩ := hcs
    exact ⟨[], ⟨rfl, fun h => absurd h (Nat.lt_irrefl 0), fun t h => (by cases h)⟩, Nat.zero_le _⟩
  · simp [Value.cells] at hcs
    obtain ⟨rfl, rfl, rfl⟩ := hcs
    rw [cellsTx] at hcell
    simp only [Prod.mk.injEq] at hx
    have hlm : len ≤ m := by rw [hmm]; simpa using hl
    have each : ∀ i, i < len → ∃ t : TxV, (∀ (j : Nat) v, t.cells[j]? = some v → W.cell? ((x.add (i * 3)).add j) = some v) ∧ IIn W .i64 t.a t.n t.xs ∧ t.n ≤ 140737488355328 ∧ (0 ≤ t.f ∧ t.f < 256) := by
      intro i hi
      obtain ⟨cs', h1, h2⟩ := hcell i (by omega)
      obtain ⟨t, rfl, ht⟩ := one_tx h2 (fun k hk => hw k (by
        rw [hx.1]
        simp only [DataW.weights, Tryz.underlying53, List.mem_cons, List.mem_append]
        exact .inr (.inl (weightsAll_mem (List.mem_map.2 ⟨i, List.mem_range.2 hi, rfl⟩) k hk))))
      refine ⟨t, fun j v hv => ?_, ht⟩
      have hs := World.cells?_some h1
      have hj : j < 3 := (List.getElem?_eq_some_iff.1 hv).1
      rw [hs.2.2 j hj]; exact hv
    have hlb : len ≤ 140737488355328 := by
      rw [hx.1] at hw
      simp only [DataW.weights, Tryz.underlying53] at hw
      have h1 := hw _ List.mem_cons_self
      rw [bytesTx] at h1
      simp only [List.length_map, List.length_range, reachBytes] at h1
      omega
    refine ⟨(List.range len).map fun i => if h : i < len then (each i h).choose else ⟨none, 0, 0, 0, false, []⟩, ⟨by simp, fun h0 => ?_, fun t ht => ?_⟩, hlb⟩
    · obtain ⟨b, o, s⟩ := x
      have hc0 := (each 0 h0).choose_spec.1 0 _ rfl
      obtain rfl : s = none := by simpa [Addr.add] using World.cell?_spot hc0
      have e1 : ∀ i j, ((⟨b, o, none⟩ : Addr).add (i * 3)).add j = ⟨b, o + i * 3 + j, none⟩ := fun i j => by rw [add_plain]; exact add_plain _ _ _
      refine ⟨b, o, rfl, World.block_lt_of_cell? W _ hc0, fun k t ht => ?_⟩
      have hk' : k < len := by have := (List.getElem?_eq_some_iff.1 ht).1; simpa using this
      rw [List.getElem?_map, List.getElem?_range hk'] at ht
      simp only [Option.map_some, hk', dif_pos, Option.some.injEq] at ht
      subst ht
      intro j v hv
      have := (each k hk').choose_spec.1 j v hv
      rw [e1] at this
      exact this
    · obtain ⟨i, hi, rfl⟩ := List.mem_map.1 ht
      have hi' := List.mem_range.1 hi
      simp only [hi', dif_pos]
      exact (each i hi').choose_spec.2
theorem redoRuns_any {w : World} (ht : Tab w) (c : Sup) {ta : Option Addr} {tn : Nat} (tc : Nat) {ts : List TxV} (hts : TsIn w ta tn ts) (htn : tn ≤ 140737488355328) (half : Int) {ka : Option Addr} {kn : Nat} (kc : Nat) {kss : List KV} (hks : KIn w ka kn kss) (hkn : kn ≤ 140737488355328) {ba : Option Addr} {bn : Nat} (bc : Nat) {bs : List Int} (hbs : JIn w ba bn bs) (hbn : bn ≤ 140737488355328) : Calls Tryz.prog 4 #[.agg (ccells c).toArray, .slice ta tn tc, .int .i64 half, .slice ka kn kc, .slice ba bn bc] w fun e w' => e = .returned (.bool true) ∧ Below w.heap.size w w' := by
  by_cases hc : MayC c
  · exact redoRuns_yes ht c hc tc hts htn half kc hks hkn bc hbs hbn
  · exact redoRuns_no ht c hc ta tn tc half ka kn kc ba bn bc
end Go.Proofs.YtdadpepfpiimgaaGreatDoor.Q
