/-
  WalKeeps walked.
-/
import Derived.Test.YtmcpjokbkkfgfaaDoorIc
namespace Go.Proofs.YtmcpjokbkkfgfaaDoor
open Go.RowKit


theorem size_tx : (Tryd.prog.info? 61).map (·.size) = some 3 := by kernel_rfl
def v93 (a b c : Int) : List Int := a :: b :: c :: R.zs 29
theorem v93_len (a b c : Int) : (v93 a b c).length = 32 := by simp [v93, R.zs_len]
theorem v93_bytes {a b c : Int} (ha : 0 ≤ a ∧ a < 256) (hb : 0 ≤ b ∧ b < 256) (hc : 0 ≤ c ∧ c < 256) : Bytes (v93 a b c) := fun y hy => by
  simp only [v93, List.mem_cons] at hy
  rcases hy with rfl | rfl | rfl | hy
  · exact ha
  · exact hb
  · exact hc
  · exact R.zs_bytes 29 y hy
theorem build_v3 (w : World) (a b c : Int) : (Instr.build 35 #[(0, .int .u8 a), (1, .int .u8 b), (2, .int .u8 c)]).run Tryd.prog w = .ok (.agg (U8 (v93 a b c)).toArray) w := run_build w 35 _ _ (by kernel_rfl)
theorem store_newV (w : World) (v : List Int) (hv : v.length = 32) : (Instr.storeAt 35 (.pointer (some ⟨w.heap.size, 0, none⟩)) (.agg (U8 v).toArray)).run Tryd.prog (w.alloc (.cells (U8 (R.zs 32)).toArray 35)) = .ok () (w.alloc (.cells (U8 v).toArray 35)) :=
  run_store_new w 35 _ _ (by simp [hv, R.zs_len]) (by rw [R.size24]; simp [hv]) (u8_ones v)
theorem opn_tail {s : Sup} {n t : Int} (h : opnS s n t 3 = 0) : MayC s ∧ n = 1 + s.bl + s.lc := ⟨(opnS_zero h).1, (opnS_zero h).2.1⟩
theorem Inv.start {w0 W : World} {B L p : Nat} {s : Sup} {tl : Int} {d : List Int} {v11 : Value} (h : LB W B L p d [] (opnG s tl 3)) (hr : W.ownsRow B 31 1 v11 1 (U64 [tl])) (hb : Below B w0 W) : Inv w0 W B L p s tl 0 (.slice none 0 0) v11 d [] (opnG s tl 3) [] [tl] :=
  ⟨h, Holds.start _ _ _ _ _, rfl, rfl, fun r hr => (by cases hr), Nat.le_refl _, Nat.le_refl _, World.ownsRow_nil _ _ _ _, hr, ⟨Nat.le_refl _, Nat.le_refl _⟩, fun c hc => (by rcases List.mem_singleton.1 hc with rfl; exact ⟨Int.le_refl _, Int.le_refl _⟩), hb⟩
set_option maxHeartbeats 40000000 in
set_option maxRecDepth 100000 in
theorem walKeeps_any (s : Sup) (t : Int) (ht0 : 0 ≤ t) (ht1 : t ≤ 18446744073709551615) (a : Option Addr) (n c : Nat) (ts : List TxV) (w : World) (hT : TsIn w a n ts) (hn : n ≤ 140737488355328) (ht : Tab w) :
    Calls Tryd.prog 4 #[.agg (ccells s).toArray, .int .u64 t, .slice a n c] w fun e w' => e = .returned (.bool true) ∧ Below w.heap.size w w' := by
  obtain ⟨i0, hi, hz0, hz1, hz2⟩ := info_parts infoR
  obtain ⟨j0, hj, hy0, hy1, hy2⟩ := info_parts info27
  have HT : Hid (Tab w) := ht
  have HS : Hid (TsIn w a n ts) := hT
  obtain ⟨w0, hw0⟩ : ∃ x, x = w.alloc (.cells (ccells s).toArray 29) := ⟨_, rfl⟩
  have ew := hw0.symm
  have B0 : Hid (Below w.heap.size w w0) := by rw [hw0]; exact below_alloc w _
  have C0 : Hid (CAt w0 w.heap.size s) := by rw [hw0]; exact LAt.new 29 w _
  clear hw0 ht hT
  go_enter Tryd.func4, Tryd.ntmps4
  go_wp2_with fail
  clear ew
  refine (fixed_any w0 (HT.out.later B0.out)).mono ?_
  rintro e w1 ⟨rfl, b1⟩
  have B1 : Hid (Below w.heap.size w w1) := below_then B0.out b1
  have C1 : Hid (CAt w1 w.heap.size s) := LAt.later C0.out b1
  have L1 : Hid (_) := CAt.load23 C1.out
  have c0 := CAt.c0 C1.out
  have c1 := CAt.c1 C1.out
  obtain ⟨m, hm⟩ : ∃ m, m = RowKit.wrap64 (RowKit.wrap64 (1 + s.bl) + s.lc) := ⟨_, rfl⟩
  have HMM : Hid (RowKit.wrap64 (RowKit.wrap64 (1 + s.bl) + s.lc) = m) := hm.symm
  obtain ⟨tl, htl⟩ : ∃ x, x = t % 1099511627776 := ⟨_, rfl⟩
  have hmt : t % 1099511627776 = tl := htl.symm
  have htl0 : 0 ≤ tl ∧ tl < 1099511627776 := by omega
  clear htl b1 B0 C0 hm
  go_wp2_with ((with_reducible refine at_ops ?_); (refine wpList_load_is (by rfl) 29 rfl rfl L1.out ?_); simp only [Act.put, List.setIfInBounds_toArray, List.set_cons_zero, List.set_cons_succ])
  rw [HMM.out]
  by_cases hbad : m < 1 ∨ 4096 < m
  · refine (opened_none s m tl 3 hbad w1).mono ?_
    rintro e w2 ⟨rfl, b2⟩
    have B2 : Hid (Below w.heap.size w w2) := below_then B1.out b2
    clear b2
    go_wp2_with fail
    go_ret
    exact ⟨rfl, B2.out⟩
  · obtain ⟨mn, rfl⟩ : ∃ k : Nat, m = (k : Int) := ⟨m.toNat, by omega⟩
    by_cases hop : opnS s mn tl 3 = 0
    · refine (opened_ok s mn tl 3 (by omega) (by omega) (by omega) (by decide) hop w1).mono ?_
      rintro e w2 ⟨L, p, rfl, l2, b2⟩
      have B2 : Hid (Below w.heap.size w w2) := below_then B1.out b2
      obtain ⟨hmay, hmn⟩ := opn_tail hop
      have HM : Hid (MayC s) := hmay
      have x1 := hmay.1; have x2 := hmay.2.1; have x3 := hmay.2.2.1
      have hsz1 : w1.heap.size ≤ w2.heap.size := b2.size
      have HI : Hid (Inv w1 (w2.alloc (.cells #[.int .u64 tl] 31)) w1.heap.size L p s tl 0 (.slice none 0 0) (.slice (some ⟨w2.heap.size, 0, none⟩) 1 1) (List.replicate (64 * mn) 0) [] (opnG s tl 3) [] [tl]) :=
        Inv.start (LD.later l2 (below_alloc w2 _)) (full_of_row hsz1 rfl (by decide) (heap_alloc_new w2 (.cells #[.int .u64 tl] 31))) (b2.alloc hsz1 _)
      clear l2 b2 hmn hop hmay L1 c0 c1 HMM hbad
      generalize (List.replicate (64 * mn) (0 : Int)) = d0 at *
      go_wp2
      generalize w2.alloc (.cells #[.int .u64 tl] 31) = wS at *
      have HW1 : Hid (w.heap.size ≤ w1.heap.size) := B1.out.size
      clear B2 hsz1
      go_loopw [10, 11, 12] (fun v10 v11 x wr => ∃ (i : Nat) (d : List Int) (ws : List Wr) (g : Lg) (all : List R.Rec) (cs : List Int), i ≤ n ∧ i ≤ 60 ∧ x = .int .i64 i ∧ Hid (Inv w1 wr w1.heap.size L p s tl i v10 v11 d ws g all cs)) (fun _ _ x _ => 60 - (intOf x).toNat)
      case atStart => exact ⟨0, _, _, _, _, _, Nat.zero_le _, Nat.zero_le _, rfl, HI⟩
      case round =>
        rename_i v10 v11
        clear HI
        obtain ⟨i, d, ws, g, all, cs, hin, hi60, rfl, HI⟩ := hrel
        obtain ⟨q10, cap10, rfl, -, -⟩ := own_slice HI.out.rall
        obtain ⟨q11, cap11, rfl, -, -⟩ := own_slice HI.out.rcs
        by_cases hgo : i < n ∧ i < 60
        · obtain ⟨hg1, hg2⟩ := hgo
          obtain ⟨tb, to, rfl, htb, hrows⟩ := HS.out.rows (by omega)
          obtain ⟨tx, htx⟩ : ∃ x, ts[i]? = some x := ⟨_, List.getElem?_eq_getElem (show i < ts.length by rw [HS.out.len]; exact hg1)⟩
          have HTX : Hid (ts[i]? = some tx) := htx
          have hrow := hrows i tx htx
          have BW : Hid (Below w.heap.size w wr) := B1.out.trans (HI.out.low.mono HW1.out)
          have HTR : Hid (∀ w', Below wr.heap.size wr w' → w'.rangeAt tb (to + i * 3) tx.cells) := fun w' hb => rangeAt_same hrow (((BW.out.trans (hb.mono BW.out.size)).block tb htb))
          have HCF : Hid (CAt wr w.heap.size s) := LAt.below C1.out HI.out.low (LAt.lt C1.out)
          clear htx hrow hrows
          have j1 : (i : Int) < (n : Int) := by omega
          have j2 : (i : Int) < 60 := by omega
          go_wp2_with fail
          refine wp_region_noPanic ?_
          refine wp_region_held_drew (S := fun w' => Below wr.heap.size wr w') (by kernel_rfl) (below_drawn 1) (fun hHeld => ?_)
          have D3 : Hid (Below wr.heap.size wr wr.drew) := hHeld
          generalize wr.drew = wd at *
          refine wpAnyH_take (i := 0) (v := ?va1) (by simp; rfl) (by kernel_rfl) (by kernel_rfl) (by kernel_rfl) (fun _ _ _ h => h) (Or.inl ⟨by rfl, ?ya1⟩) hHeld ?ra1
          case ya1 => intro w hSw; clear hSw; go_simp; with_reducible rfl
          simp only [Act.put, List.setIfInBounds_toArray, List.set_cons_zero, List.set_cons_succ]
          refine wpAnyH_take (i := 1) (v := ?va2) (by simp; rfl) (by kernel_rfl) (by kernel_rfl) (by kernel_rfl) (fun _ _ _ h => h) (Or.inl ⟨by rfl, ?ya2⟩) hHeld ?ra2
          case ya2 => intro w hSw; clear hSw; go_simp; with_reducible rfl
          simp only [Act.put, List.setIfInBounds_toArray, List.set_cons_zero, List.set_cons_succ]
          refine wpAnyH_take (i := 2) (v := ?va3) (by simp; rfl) (by kernel_rfl) (by kernel_rfl) (by kernel_rfl) (fun _ _ _ h => h) (Or.inl ⟨by rfl, ?ya3⟩) hHeld ?ra3
          case ya3 => intro w hSw; clear hSw; go_simp; with_reducible rfl
          simp only [Act.put, List.setIfInBounds_toArray, List.set_cons_zero, List.set_cons_succ]
          refine wpAnyH_take (i := 3) (v := _) (by simp; rfl) (by kernel_rfl) (by kernel_rfl) (by kernel_rfl) (fun _ _ _ h => h) (yieldsIf_load_mid (by rfl) 61 (.tmp 73) rfl tb (to + i * 3) rfl tx.cells _ (fun _ h => HTR.out _ h) Tryd.underlying61 rfl (by rw [size_tx]; rfl)) hHeld ?_
          simp only [Act.put, List.setIfInBounds_toArray, List.set_cons_zero, List.set_cons_succ]
          refine wpAnyH_take (i := 4) (v := _) (by simp; rfl) (by kernel_rfl) (by kernel_rfl) (by kernel_rfl) (fun _ _ _ h => h) (yieldsIf_load_mid (by rfl) 29 (.tmp 3) rfl w.heap.size 0 rfl (ccells s) _ (fun _ h => LAt.range (LAt.later HCF.out h)) Tryd.underlying29 rfl (by rw [size23, ccells_len])) hHeld ?_
          simp only [Act.put, List.setIfInBounds_toArray, List.set_cons_zero, List.set_cons_succ]
          refine wpAnyH_ready (rs := [5]) (by kernel_rfl) (by simp) ?_
          refine AllReadyH.cons (by simp; rfl) (fun Kc hKc => ?_) AllReadyH.nil
          go_simp
          refine (set_any tx.a tx.n tx.c tx.f tx.m tx.xs s HM.out wd ((HS.out.ins tx (List.mem_of_getElem? HTX.out)).1.later (BW.out.trans (D3.out.mono BW.out.size))) (HS.out.ins tx (List.mem_of_getElem? HTX.out)).2.1).mono ?_
          rintro e wE ⟨v13, ys, rfl, row13, rise, hmr, bE⟩
          have RI : Hid (Rise ys s.bl) := rise
          have DE : Hid (Below wr.heap.size wr wE) := below_then D3.out bE
          have IE : Hid (Inv w1 wE w1.heap.size L p s tl i (.slice q10 all.length cap10) (.slice q11 cs.length cap11) d ws g all cs) := HI.out.later DE.out
          obtain ⟨q13, cap13, rfl, -, -⟩ := own_slice row13
          have RY : Hid (wE.ownsRow w1.heap.size 3 1 (.slice q13 ys.length cap13) ys.length (I64 ys)) := own_mono row13 (by have := D3.out.size; have := HI.out.lb.base; omega)
          refine hKc.out _ _ DE.out (fun hHeld => ?_)
          clear hKc Kc row13 rise bE
          refine wpAnyH_take (i := 6) (v := ?va4) (by simp; rfl) (by kernel_rfl) (by kernel_rfl) (by kernel_rfl) (fun _ _ _ h => h) (Or.inl ⟨by rfl, ?ya4⟩) hHeld ?ra4
          case ya4 => intro w hSw; clear hSw; go_simp; with_reducible rfl
          simp only [Act.put, List.setIfInBounds_toArray, List.set_cons_zero, List.set_cons_succ]
          clear hHeld
          refine wpAnyH_done (by kernel_rfl) (NoPanic.normal ?_) _
          have o1 := IE.out.lb.ok.t0; have o2 := IE.out.lb.ok.tm; have o3 := IE.out.lb.ok.mf; have o4 := IE.out.lb.ok.fM; have o5 := IE.out.lb.ok.us
          have o6 := IE.out.hold.len; have o7 := IE.out.hold.le; have o8 := IE.out.nall; have o9 := IE.out.nws; have o10 := IE.out.ncs
          have hgc : g.c = s := IE.out.cfg
          rw [hgc] at o5
          have HCE : Hid (CAt wE w.heap.size s) := LAt.later HCF.out DE.out
          have HTE : Hid (∀ w', Below wE.heap.size wE w' → w'.rangeAt tb (to + i * 3) tx.cells) := fun w' hb => HTR.out w' (below_then DE.out hb)
          clear HI HCF HTR D3 DE BW
          have f1 : IntKind.i64.wrap (g.fin - g.tail + (ys.length : Int)) = g.fin - g.tail + (ys.length : Int) := by rw [IntKind.wrap_i64]; omega
          have f2 : IntKind.i64.wrap (g.fin - g.tail + (ys.length : Int) + 1) = g.fin - g.tail + (ys.length : Int) + 1 := by rw [IntKind.wrap_i64]; omega
          go_wp2_with fail
          refine wp_region_noPanic ?_
          refine wp_region_held_drew (S := fun w' => Below wE.heap.size wE w') (by kernel_rfl) (below_drawn 1) (fun hHeld => ?_)
          have D3 : Hid (Below wE.heap.size wE wE.drew) := hHeld
          generalize wE.drew = wd at *
          refine wpAnyH_take (i := 0) (v := ?va5) (by simp; rfl) (by kernel_rfl) (by kernel_rfl) (by kernel_rfl) (fun _ _ _ h => h) (Or.inl ⟨by rfl, ?ya5⟩) hHeld ?ra5
          case ya5 => intro w hSw; clear hSw; go_simp; with_reducible rfl
          simp only [Act.put, List.setIfInBounds_toArray, List.set_cons_zero, List.set_cons_succ]
          refine wpAnyH_take (i := 2) (v := ?va6) (by simp; rfl) (by kernel_rfl) (by kernel_rfl) (by kernel_rfl) (fun _ _ _ h => h) (Or.inl ⟨by rfl, ?ya6⟩) hHeld ?ra6
          case ya6 => intro w hSw; clear hSw; go_simp; with_reducible rfl
          simp only [Act.put, List.setIfInBounds_toArray, List.set_cons_zero, List.set_cons_succ]
          refine wpAnyH_take (i := 3) (v := ?va7) (by simp; rfl) (by kernel_rfl) (by kernel_rfl) (by kernel_rfl) (fun _ _ _ h => h) (Or.inl ⟨by rfl, ?ya7⟩) hHeld ?ra7
          case ya7 => intro w hSw; clear hSw; go_simp; with_reducible rfl
          simp only [Act.put, List.setIfInBounds_toArray, List.set_cons_zero, List.set_cons_succ]
          refine wpAnyH_take (i := 6) (v := ?va8) (by simp; rfl) (by kernel_rfl) (by kernel_rfl) (by kernel_rfl) (fun _ _ _ h => h) (Or.inl ⟨by rfl, ?ya8⟩) hHeld ?ra8
          case ya8 => intro w hSw; clear hSw; go_simp; with_reducible rfl
          simp only [Act.put, List.setIfInBounds_toArray, List.set_cons_zero, List.set_cons_succ]
          refine wpAnyH_take (i := 7) (v := ?va9) (by simp; rfl) (by kernel_rfl) (by kernel_rfl) (by kernel_rfl) (fun _ _ _ h => h) (Or.inl ⟨by rfl, ?ya9⟩) hHeld ?ra9
          case ya9 => intro w hSw; have z := CAt.c1 (LAt.later HCE.out hSw); clear hSw; go_simp; with_reducible rfl
          simp only [Act.put, List.setIfInBounds_toArray, List.set_cons_zero, List.set_cons_succ]
          refine wpAnyH_ready (rs := [1]) (by kernel_rfl) (by simp) ?_
          refine AllReadyH.cons (by simp; rfl) (fun Kc hKc => ?_) AllReadyH.nil
          go_simp
          refine (lused_at (LAt.later IE.out.lb.log D3.out) IE.out.lb.ok).mono ?_
          rintro e wn ⟨rfl, rfl⟩
          refine hKc.out _ _ D3.out (fun hHeld => ?_)
          clear hKc Kc
          refine wpAnyH_take (i := 4) (v := ?va10) (by simp; rfl) (by kernel_rfl) (by kernel_rfl) (by kernel_rfl) (fun _ _ _ h => h) (Or.inl ⟨by rfl, ?ya10⟩) hHeld ?ra10
          case ya10 => intro w hSw; clear hSw; go_simp; with_reducible rfl
          simp only [Act.put, List.setIfInBounds_toArray, List.set_cons_zero, List.set_cons_succ]
          refine wpAnyH_take (i := 5) (v := ?va11) (by simp; rfl) (by kernel_rfl) (by kernel_rfl) (by kernel_rfl) (fun _ _ _ h => h) (Or.inl ⟨by rfl, ?ya11⟩) hHeld ?ra11
          case ya11 => intro w hSw; clear hSw; go_simp; with_reducible rfl
          simp only [Act.put, List.setIfInBounds_toArray, List.set_cons_zero, List.set_cons_succ]
          refine wpAnyH_take (i := 8) (v := ?va12) (by simp; rfl) (by kernel_rfl) (by kernel_rfl) (by kernel_rfl) (fun _ _ _ h => h) (Or.inl ⟨by rfl, ?ya12⟩) hHeld ?ra12
          case ya12 => intro w hSw; clear hSw; go_simp; with_reducible rfl
          simp only [Act.put, List.setIfInBounds_toArray, List.set_cons_zero, List.set_cons_succ]
          clear hHeld
          refine wpAnyH_done (by kernel_rfl) (NoPanic.normal ?_) _
          have IF : Hid (Inv w1 wd w1.heap.size L p s tl i (.slice q10 all.length cap10) (.slice q11 cs.length cap11) d ws g all cs) := IE.out.later D3.out
          have RF : Hid (wd.ownsRow w1.heap.size 3 1 (.slice q13 ys.length cap13) ys.length (I64 ys)) := own_later RY.out D3.out
          have HCX : Hid (CAt wd w.heap.size s) := LAt.later HCE.out D3.out
          have HTQ : Hid (∀ w', Below wd.heap.size wd w' → w'.rangeAt tb (to + i * 3) tx.cells) := fun w' hb => HTE.out w' (below_then D3.out hb)
          clear IE RY HCE HTE D3
          by_cases hroom : g.fin - g.tail + (ys.length : Int) + 1 ≤ s.lc
          · have hroom' : g.fin - g.tail + (ys.length : Int) < s.lc := by omega
            rw [decide_eq_true hroom]
            have M0 : Hid (Mid9 w1 wd w1.heap.size L p s tl i 0 (.slice q10 all.length cap10) (.slice q11 cs.length cap11) (.slice q13 ys.length cap13) d ws g g all cs ys) := by
              refine ⟨IF.out.lb, IF.out.hold, hgc, rfl, by simp, IF.out.idle, fun y hy => ?_, IF.out.wfs, o8, o9, IF.out.rall, IF.out.rcs, RF.out, IF.out.low⟩
              have h1 : g.last = -1 := by
                rcases IF.out.lb.ok.il with h | h
                · exact h.2
                · have := IF.out.idle; omega
              have h2 := RI.out.lo y (by simpa using hy)
              omega
            have HTX2 : Hid (∀ w', Below w1.heap.size wd w' → w'.rangeAt tb (to + i * 3) tx.cells) := fun w' hb => rangeAt_same (HTQ.out wd (Below.refl _ _)) (hb.block tb (by have := HW1.out; omega))
            have HCY : Hid (∀ w', Below w1.heap.size wd w' → CAt w' w.heap.size s) := fun w' hb => LAt.below HCX.out hb (LAt.lt C1.out)
            have hfb : 0 ≤ tx.f ∧ tx.f < 256 := (HS.out.ins tx (List.mem_of_getElem? HTX.out)).2.2.1
            have RIF : Hid (Rise ys s.bl ∧ (ys.length : Int) ≤ s.mr) := ⟨RI.out, hmr⟩
            have NCS : Hid ((1 ≤ cs.length ∧ cs.length ≤ i + 1) ∧ ∀ c ∈ cs, tl ≤ c ∧ c ≤ g.fin) := ⟨o10, IF.out.csb⟩
            have HOE : Hid (g.c = s ∧ tl + (all.length : Int) = g.fin) := ⟨hgc, o6⟩
            have hfb2 : g.fin ≤ tl + 1100 := by omega
            clear IF RF HTQ HCX f1 f2 o9 hgc o6
            go_wp2
            go_loopw [10, 14] (fun v x w5 => ∃ (k : Nat) (wsk : List Wr) (gk : Lg) (ak : List R.Rec), k ≤ ys.length ∧ x = .int .i64 k ∧ Hid (Below w1.heap.size wd w5) ∧ Hid (Mid9 w1 w5 w1.heap.size L p s tl i k v (.slice q11 cs.length cap11) (.slice q13 ys.length cap13) d wsk gk g ak cs ys)) (fun _ x _ => ys.length - (intOf x).toNat)
            case atStart => exact ⟨0, ws, g, all, Nat.zero_le _, rfl, Below.refl _ _, M0⟩
            case round =>
              rename_i vk
              clear M0
              obtain ⟨k, wsk, gk, ak, hk, rfl, HBk, MK⟩ := hrel
              obtain ⟨qk, capk, rfl, -, -⟩ := own_slice MK.out.rall
              have m1 := MK.out.tail; have m2 := MK.out.fin; have m3 := MK.out.imgs; have m4 := MK.out.hold.len; have m5 := MK.out.nall; have m6 := MK.out.nws; have m7 := MK.out.cfg
              have HME : Hid (gk.tail = g.tail ∧ gk.fin = g.fin + (k : Int) ∧ gk.imgs = (k : Int) ∧ gk.c = s ∧ tl + (ak.length : Int) = gk.fin) := ⟨m1, m2, m3, m7, m4⟩
              have hfin : gk.fin = tl + (ak.length : Int) := by omega
              by_cases hkl : k < ys.length
              · as_aux_lemma =>
                obtain ⟨sg, rfl⟩ : ∃ sg, q13 = some ⟨sg, 0, none⟩ := by
                  rcases MK.out.rys.2 with ⟨e, _⟩ | ⟨sg, cap', cur, e, _⟩
                  · have := (Value.slice.inj e).2.1; omega
                  · exact ⟨sg, (Value.slice.inj e).1⟩
                obtain ⟨y, hy⟩ : ∃ y, ys[k]? = some y := ⟨_, List.getElem?_eq_getElem hkl⟩
                have hyd : y ∈ ys.drop k := List.mem_of_getElem? (i := 0) (by rw [List.getElem?_drop]; simpa using hy)
                have hyl := MK.out.last y hyd
                have hy0 := RIF.out.1.lo y (List.mem_of_getElem? hy)
                have hyb := RIF.out.1.hi y (List.mem_of_getElem? hy)
                have hmr2 := RIF.out.2
                have him : imgS gk y = 0 := by
                  refine imgS_ok (moreS_ok (by omega) (by rw [m7]; omega)) ?_
                  rintro (h | h | h)
                  · omega
                  · rw [m7] at h; omega
                  · rw [m7] at h; omega
                have HLY : Hid (∀ z ∈ ys.drop (k + 1), y < z) := by
                  intro z hz
                  have hd : ys.drop k = y :: ys.drop (k + 1) := by
                    rw [List.drop_eq_getElem_cons hkl]; congr 1
                    have := List.getElem?_eq_getElem hkl
                    rw [hy] at this; exact (Option.some.inj this).symm
                  have hp := RIF.out.1.up.sublist (List.drop_sublist k ys)
                  rw [hd] at hp
                  exact (List.pairwise_cons.1 hp).1 z hz
                have HY : Hid (ys[k]? = some y) := hy
                have HIM : Hid (imgS gk y = 0) := him
                have cf : wr.cell? ⟨tb, to + i * 3 + 1, none⟩ = some (.int .u8 tx.f) := HTX2.out wr HBk.out 1 _ rfl
                have v1 : IntKind.u8.wrap (i : Int) = (i : Int) := by rw [IntKind.wrap_u8]; omega
                have v2 : IntKind.u8.wrap (k : Int) = (k : Int) := by rw [IntKind.wrap_u8]; omega
                have VB : Hid (Bytes (v93 tx.f i k)) := v93_bytes hfb ⟨by omega, by omega⟩ ⟨by omega, by omega⟩
                have U5 : Hid (_) := build_v3 wr tx.f i k
                have A5 : Hid (_) := R.alloc24 wr
                have T5 : Hid (_) := store_newV wr (v93 tx.f i k) (v93_len _ _ _)
                obtain ⟨w6, hw6⟩ : ∃ x, x = wr.alloc (.cells (U8 (v93 tx.f i k)).toArray 35) := ⟨_, rfl⟩
                rw [← hw6] at T5
                have b6 : Below wr.heap.size wr w6 := by rw [hw6]; exact below_alloc wr _
                have VV : Hid (LAt 35 w6 wr.heap.size (U8 (v93 tx.f i k))) := by rw [hw6]; exact LAt.new 35 wr _
                have hB1' := MK.out.lb.base
                have B6 : Hid (Below w1.heap.size wd w6) := HBk.out.trans (b6.mono hB1')
                have M6 : Hid (LB w6 w1.heap.size L p d wsk gk ∧ w6.ownsRow w1.heap.size 41 36 (.slice qk ak.length capk) ak.length (RC ak) ∧ w6.ownsRow w1.heap.size 31 1 (.slice q11 cs.length cap11) cs.length (U64 cs) ∧ w6.ownsRow w1.heap.size 3 1 (.slice (some ⟨sg, 0, none⟩) ys.length cap13) ys.length (I64 ys) ∧ Below w1.heap.size w1 w6) := ⟨LD.later MK.out.lb b6, own_later MK.out.rall b6, own_later MK.out.rcs b6, own_later MK.out.rys b6, MK.out.low.trans (b6.mono hB1')⟩
                have j3 : (k : Int) < (ys.length : Int) := by omega
                clear hw6 b6 hy hyd him hyl m1 m2 m3 m4 m7
                go_wp2_with ((with_reducible refine at_ops ?_); (first | (refine wpList_build_is (vs := [(0, .int .u8 tx.f), (1, .int .u8 (i : Int)), (2, .int .u8 (k : Int))]) (by rfl) 35 rfl (by rfl) U5.out ?_) | (refine wpList_alloc_is (by rfl) 35 rfl A5.out ?_) | (refine wpList_store_is (by rfl) 35 rfl rfl rfl T5.out ?_)); simp only [Act.put, List.setIfInBounds_toArray, List.set_cons_zero, List.set_cons_succ])
                have cS : w6.cell? ⟨sg, k, none⟩ = some (.int .i64 y) := by
                  have := own_range M6.out.2.2.2.1 k (.int .i64 y) (by rw [List.getElem?_map, HY.out]; rfl)
                  rwa [Nat.zero_add] at this
                refine wp_region_noPanic ?_
                refine wp_region_held_drew (S := fun w' => w'.cell? ⟨sg, k, none⟩ = some (.int .i64 y) ∧ LAt 35 w' wr.heap.size (U8 (v93 tx.f i k))) (by kernel_rfl) ⟨cS, VV.out⟩ (fun hHeld => ?_)
                have D6 : Hid (Below w6.heap.size w6 w6.drew) := below_drawn 1
                have VD : Hid (LAt 35 w6.drew wr.heap.size (U8 (v93 tx.f i k))) := VV.out
                generalize w6.drew = w7 at *
                refine wpAnyH_take (i := 0) (v := ?va13) (by simp; rfl) (by kernel_rfl) (by kernel_rfl) (by kernel_rfl) (fun _ _ _ h => h) (Or.inl ⟨by rfl, ?ya13⟩) hHeld ?ra13
                case ya13 => intro w hSw; clear hSw; go_simp; with_reducible rfl
                simp only [Act.put, List.setIfInBounds_toArray, List.set_cons_zero, List.set_cons_succ]
                refine wpAnyH_take (i := 1) (v := ?va14) (by simp; rfl) (by kernel_rfl) (by kernel_rfl) (by kernel_rfl) (fun _ _ _ h => h) (Or.inl ⟨by rfl, ?ya14⟩) hHeld ?ra14
                case ya14 => intro w hSw; clear hSw; go_simp; with_reducible rfl
                simp only [Act.put, List.setIfInBounds_toArray, List.set_cons_zero, List.set_cons_succ]
                refine wpAnyH_take (i := 2) (v := ?va15) (by simp; rfl) (by kernel_rfl) (by kernel_rfl) (by kernel_rfl) (fun _ _ _ h => h) (Or.inl ⟨by rfl, ?ya15⟩) hHeld ?ra15
                case ya15 => intro w hSw; clear hSw; go_simp; with_reducible rfl
                simp only [Act.put, List.setIfInBounds_toArray, List.set_cons_zero, List.set_cons_succ]
                refine wpAnyH_take (i := 3) (v := ?va16) (by simp; rfl) (by kernel_rfl) (by kernel_rfl) (by kernel_rfl) (fun _ _ _ h => h) (Or.inl ⟨by rfl, ?ya16⟩) hHeld ?ra16
                case ya16 => intro w hSw; clear hSw; go_simp; with_reducible rfl
                simp only [Act.put, List.setIfInBounds_toArray, List.set_cons_zero, List.set_cons_succ]
                refine wpAnyH_take (i := 4) (v := ?va17) (by simp; rfl) (by kernel_rfl) (by kernel_rfl) (by kernel_rfl) (fun _ _ _ h => h) (Or.inl ⟨by rfl, ?ya17⟩) hHeld ?ra17
                case ya17 => intro w hSw; have z := hSw.1; clear hSw; go_simp; with_reducible rfl
                simp only [Act.put, List.setIfInBounds_toArray, List.set_cons_zero, List.set_cons_succ]
                refine wpAnyH_take (i := 5) (v := _) (by simp; rfl) (by kernel_rfl) (by kernel_rfl) (by kernel_rfl) (fun _ _ _ h => h) (yieldsIf_load_mid (by rfl) 35 (.tmp 15) rfl wr.heap.size 0 rfl (U8 (v93 tx.f i k)) _ (fun _ h => LAt.range h.2) Tryd.underlying35 rfl (by rw [R.size24, U8_length, v93_len])) hHeld ?_
                simp only [Act.put, List.setIfInBounds_toArray, List.set_cons_zero, List.set_cons_succ]
                refine wpAnyH_ready (rs := [6]) (by kernel_rfl) (by simp) ?_
                refine AllReadyH.cons (by simp; rfl) (fun Kc hKc => ?_) AllReadyH.nil
                go_simp
                refine (image_B (LD.later M6.out.1 D6.out) (by omega) (HT.out.later (B1.out.trans ((M6.out.2.2.2.2.trans (D6.out.mono M6.out.1.base)).mono HW1.out))) y (v93 tx.f i k) (v93_len _ _ _) VB.out HIM.out).mono ?_
                rintro e w8 ⟨rfl, l8, t8⟩
                rw [hfin]
                have L8 : Hid (LB w8 w1.heap.size L p d (wsk ++ [⟨(secN gk gk.fin).toNat, R.encS (imgR gk y (v93 tx.f i k))⟩]) (imgG gk y) ∧ Holds (imgG gk y) (wsk ++ [⟨(secN gk gk.fin).toNat, R.encS (imgR gk y (v93 tx.f i k))⟩]) d tl (ak ++ [imgR gk y (v93 tx.f i k)])) := ⟨l8, MK.out.hold.img MK.out.lb.ok HIM.out (v93_len _ _ _) VB.out⟩
                have K8 : Hid (KT w1.heap.size w6 w8) := (KT.of_below D6.out M6.out.1.base).trans t8
                have RA8 : Hid (w8.ownsRow w1.heap.size 41 36 (.slice qk ak.length capk) ak.length (RC ak)) := row_kt M6.out.2.1 K8.out (by decide)
                have RC8 : Hid (w8.ownsRow w1.heap.size 31 1 (.slice q11 cs.length cap11) cs.length (U64 cs)) := row_kt M6.out.2.2.1 K8.out (by decide)
                have RY8 : Hid (w8.ownsRow w1.heap.size 3 1 (.slice (some ⟨sg, 0, none⟩) ys.length cap13) ys.length (I64 ys)) := row_kt M6.out.2.2.2.1 K8.out (by decide)
                have B8 : Hid (Below w1.heap.size wd w8 ∧ Below w1.heap.size w1 w8) := ⟨B6.out.trans K8.out.low, M6.out.2.2.2.2.trans K8.out.low⟩
                have FS8 : Hid (w8.cell? ⟨sg, k, none⟩ = some (.int .i64 y) ∧ LAt 35 w8 wr.heap.size (U8 (v93 tx.f i k))) := by
                  refine ⟨?_, K8.out.other _ _ _ _ (by decide) VV.out⟩
                  have := own_range RY8.out k (.int .i64 y) (by rw [List.getElem?_map, HY.out]; rfl)
                  rwa [Nat.zero_add] at this
                refine hKc.out _ _ FS8.out (fun hHeld => ?_)
                clear hKc Kc l8 t8 K8
                refine wpAnyH_take (i := 7) (v := ?va18) (by simp; rfl) (by kernel_rfl) (by kernel_rfl) (by kernel_rfl) (fun _ _ _ h => h) (Or.inl ⟨by rfl, ?ya18⟩) hHeld ?ra18
                case ya18 => intro w hSw; clear hSw; go_simp; with_reducible rfl
                simp only [Act.put, List.setIfInBounds_toArray, List.set_cons_zero, List.set_cons_succ]
                refine wpAnyH_take (i := 8) (v := ?va19) (by simp; rfl) (by kernel_rfl) (by kernel_rfl) (by kernel_rfl) (fun _ _ _ h => h) (Or.inl ⟨by rfl, ?ya19⟩) hHeld ?ra19
                case ya19 => intro w hSw; clear hSw; go_simp; with_reducible rfl
                simp only [Act.put, List.setIfInBounds_toArray, List.set_cons_zero, List.set_cons_succ]
                refine wpAnyH_take (i := 9) (v := ?va20) (by simp; rfl) (by kernel_rfl) (by kernel_rfl) (by kernel_rfl) (fun _ _ _ h => h) (Or.inl ⟨by rfl, ?ya20⟩) hHeld ?ra20
                case ya20 => intro w hSw; clear hSw; go_simp; with_reducible rfl
                simp only [Act.put, List.setIfInBounds_toArray, List.set_cons_zero, List.set_cons_succ]
                refine wpAnyH_take (i := 10) (v := ?va21) (by simp; rfl) (by kernel_rfl) (by kernel_rfl) (by kernel_rfl) (fun _ _ _ h => h) (Or.inl ⟨by rfl, ?ya21⟩) hHeld ?ra21
                case ya21 => intro w hSw; clear hSw; go_simp; with_reducible rfl
                simp only [Act.put, List.setIfInBounds_toArray, List.set_cons_zero, List.set_cons_succ]
                refine wpAnyH_take (i := 11) (v := ?va22) (by simp; rfl) (by kernel_rfl) (by kernel_rfl) (by kernel_rfl) (fun _ _ _ h => h) (Or.inl ⟨by rfl, ?ya22⟩) hHeld ?ra22
                case ya22 => intro w hSw; clear hSw; go_simp; with_reducible rfl
                simp only [Act.put, List.setIfInBounds_toArray, List.set_cons_zero, List.set_cons_succ]
                clear hHeld cS
                refine wpAnyH_done (by kernel_rfl) (NoPanic.normal ?_) _
                have q1 : IntKind.u64.wrap (ak.length : Int) = (ak.length : Int) := G.wrap_u (by omega) (by omega)
                have q2 : IntKind.u64.wrap (tl + (ak.length : Int)) = tl + (ak.length : Int) := G.wrap_u (by omega) (by omega)
                clear U5 A5 T5 VV VD D6 M6 cf v1 v2
                as_aux_lemma =>
                go_wp2_with fail
                refine wp_region_noPanic ?_
                refine wp_region_held_drew (S := fun w' => w'.cell? ⟨sg, k, none⟩ = some (.int .i64 y) ∧ LAt 35 w' wr.heap.size (U8 (v93 tx.f i k))) (by kernel_rfl) FS8.out (fun hHeld => ?_)
                have D8 : Hid (Below w8.heap.size w8 w8.drew) := below_drawn 1
                have BBR : Hid (∀ w, (Instr.build 41 #[(0, .int .i64 1), (1, .int .u64 (tl + (ak.length : Int))), (2, .int .i64 y), (3, .agg (U8 (v93 tx.f i k)).toArray)]).run Tryd.prog w = .ok (.agg (R.rcells ⟨1, tl + (ak.length : Int), y, v93 tx.f i k, 0⟩).toArray) w) := fun w => build_rec4 w _ y _ (v93_len _ _ _)
                generalize w8.drew = w9 at *
                refine wpAnyH_take (i := 0) (v := ?va23) (by simp; rfl) (by kernel_rfl) (by kernel_rfl) (by kernel_rfl) (fun _ _ _ h => h) (Or.inl ⟨by rfl, ?ya23⟩) hHeld ?ra23
                case ya23 => intro w hSw; clear hSw; go_simp; with_reducible rfl
                simp only [Act.put, List.setIfInBounds_toArray, List.set_cons_zero, List.set_cons_succ]
                refine wpAnyH_take (i := 1) (v := ?va24) (by simp; rfl) (by kernel_rfl) (by kernel_rfl) (by kernel_rfl) (fun _ _ _ h => h) (Or.inl ⟨by rfl, ?ya24⟩) hHeld ?ra24
                case ya24 => intro w hSw; clear hSw; go_simp; with_reducible rfl
                simp only [Act.put, List.setIfInBounds_toArray, List.set_cons_zero, List.set_cons_succ]
                refine wpAnyH_take (i := 2) (v := ?va25) (by simp; rfl) (by kernel_rfl) (by kernel_rfl) (by kernel_rfl) (fun _ _ _ h => h) (Or.inl ⟨by rfl, ?ya25⟩) hHeld ?ra25
                case ya25 => intro w hSw; clear hSw; go_simp; with_reducible rfl
                simp only [Act.put, List.setIfInBounds_toArray, List.set_cons_zero, List.set_cons_succ]
                refine wpAnyH_take (i := 3) (v := ?va26) (by simp; rfl) (by kernel_rfl) (by kernel_rfl) (by kernel_rfl) (fun _ _ _ h => h) (Or.inl ⟨by rfl, ?ya26⟩) hHeld ?ra26
                case ya26 => intro w hSw; clear hSw; go_simp; with_reducible rfl
                simp only [Act.put, List.setIfInBounds_toArray, List.set_cons_zero, List.set_cons_succ]
                refine wpAnyH_take (i := 4) (v := ?va27) (by simp; rfl) (by kernel_rfl) (by kernel_rfl) (by kernel_rfl) (fun _ _ _ h => h) (Or.inl ⟨by rfl, ?ya27⟩) hHeld ?ra27
                case ya27 => intro w hSw; clear hSw; go_simp; with_reducible rfl
                simp only [Act.put, List.setIfInBounds_toArray, List.set_cons_zero, List.set_cons_succ]
                refine wpAnyH_take (i := 5) (v := ?va28) (by simp; rfl) (by kernel_rfl) (by kernel_rfl) (by kernel_rfl) (fun _ _ _ h => h) (Or.inl ⟨by rfl, ?ya28⟩) hHeld ?ra28
                case ya28 => intro w hSw; have z := hSw.1; clear hSw; go_simp; with_reducible rfl
                simp only [Act.put, List.setIfInBounds_toArray, List.set_cons_zero, List.set_cons_succ]
                refine wpAnyH_take (i := 6) (v := _) (by simp; rfl) (by kernel_rfl) (by kernel_rfl) (by kernel_rfl) (fun _ _ _ h => h) (yieldsIf_load_mid (by rfl) 35 (.tmp 15) rfl wr.heap.size 0 rfl (U8 (v93 tx.f i k)) _ (fun _ h => LAt.range h.2) Tryd.underlying35 rfl (by rw [R.size24, U8_length, v93_len])) hHeld ?_
                simp only [Act.put, List.setIfInBounds_toArray, List.set_cons_zero, List.set_cons_succ]
                refine wpAnyH_take (i := 7) (v := _) (by simp; rfl) (by kernel_rfl) (by kernel_rfl) (by kernel_rfl) (fun _ _ _ h => h) (R.yields_build_is (by rfl) 41 rfl (by rfl) BBR.out) hHeld ?_
                simp only [Act.put, List.setIfInBounds_toArray, List.set_cons_zero, List.set_cons_succ]
                refine wpAnyH_ready (rs := [8]) (by kernel_rfl) (by simp) ?_
                refine AllReadyH.cons (by simp; rfl) (fun Kc hKc => ?_) AllReadyH.nil
                rw [if_pos (by rfl)]
                refine wp_slice_is 57 rfl rfl (build_prec w9 ⟨1, tl + (ak.length : Int), y, v93 tx.f i k, 0⟩ (v93_len _ _ _)) ?_
                have bN := below_alloc w9 (.cells (R.rcells ⟨1, tl + (ak.length : Int), y, v93 tx.f i k, 0⟩).toArray 41)
                have D9 : Hid (Below w8.heap.size w8 (w9.alloc (.cells (R.rcells ⟨1, tl + (ak.length : Int), y, v93 tx.f i k, 0⟩).toArray 41))) := below_then D8.out bN
                have FS9 : Hid ((w9.alloc (.cells (R.rcells ⟨1, tl + (ak.length : Int), y, v93 tx.f i k, 0⟩).toArray 41)).cell? ⟨sg, k, none⟩ = some (.int .i64 y) ∧ LAt 35 (w9.alloc (.cells (R.rcells ⟨1, tl + (ak.length : Int), y, v93 tx.f i k, 0⟩).toArray 41)) wr.heap.size (U8 (v93 tx.f i k))) := ⟨by
                  have := own_range (own_later RY8.out D9.out) k (.int .i64 y) (by rw [List.getElem?_map, HY.out]; rfl)
                  rwa [Nat.zero_add] at this, LAt.later FS8.out.2 D9.out⟩
                clear bN
                refine hKc.out _ _ FS9.out (fun hHeld => ?_)
                clear hKc Kc
                simp only [Act.put, List.setIfInBounds_toArray, List.set_cons_zero, List.set_cons_succ]
                refine wpAnyH_ready (rs := [9]) (by kernel_rfl) (by simp) ?_
                refine AllReadyH.cons (by simp; rfl) (fun Kc hKc => ?_) AllReadyH.nil
                have h65 : (100000 : Nat) ≤ maxLen := by decide
                refine step_append_own rfl (.tmp 123) (.tmp 131) 57 rfl w1.heap.size 41 i0 _ 36 64 Tryd.underlying57 hi hz0 hz1 hz2 rfl (by omega) _ ak.length (RC ak) rfl (own_later RA8.out D9.out) ⟨w9.heap.size, 0, none⟩ 1 1 (R.rcells ⟨1, tl + (ak.length : Int), y, v93 tx.f i k, 0⟩) rfl (R.rcells_len _ (v93_len _ _ _)) (cells_new _ _ _) (R.rcells_ones _) (by omega) (by omega) (by have := L8.out.1.base; have := D9.out.size; omega) ?_
                intro v' wT hown hgrow
                obtain ⟨ga, capa, rfl⟩ := ownsRow_succ hown
                have hcr : (⟨1, tl + (ak.length : Int), y, v93 tx.f i k, 0⟩ : R.Rec) = imgR gk y (v93 tx.f i k) := by unfold imgR; rw [hfin]
                have hbase8 := L8.out.1.base
                have hs9 := D9.out.size
                have BGT : Below w1.heap.size w8 wT := (D9.out.mono hbase8).grown hgrow (by omega) (fun k hk => ((own_later RA8.out D9.out).lt k hk).1)
                have RYT : wT.ownsRow w1.heap.size 3 1 (.slice (some ⟨sg, 0, none⟩) ys.length cap13) ys.length (I64 ys) := row_row (own_later RY8.out D9.out) (own_later RA8.out D9.out) (by decide) hgrow
                have MT : Hid (Mid9 w1 wT w1.heap.size L p s tl i (k + 1) (.slice (some ⟨ga, 0, none⟩) (ak.length + 1) capa) (.slice q11 cs.length cap11) (.slice (some ⟨sg, 0, none⟩) ys.length cap13) d (wsk ++ [⟨(secN gk gk.fin).toNat, R.encS (imgR gk y (v93 tx.f i k))⟩]) (imgG gk y) g (ak ++ [imgR gk y (v93 tx.f i k)]) cs ys) := by
                  refine ⟨LB.grown (LD.later L8.out.1 D9.out) (own_later RA8.out D9.out) (by decide) hgrow, L8.out.2, HME.out.2.2.2.1, HME.out.1, ?_, ?_, HLY.out, RC_one _ _ (v93_len _ _ _) MK.out.wfs, by simp; omega, by simp; omega, ?_, row_row (own_later RC8.out D9.out) (own_later RA8.out D9.out) (by decide) hgrow, RYT, B8.out.2.trans BGT⟩
                  · have := HME.out.2.1; show gk.fin + 1 = _; omega
                  · have := HME.out.2.2.1; show gk.imgs + 1 = _; omega
                  · rw [RC_snoc, List.length_append, ← hcr]; exact hown
                have BT : Hid (Below w1.heap.size wd wT) := B8.out.1.trans BGT
                have FST : wT.cell? ⟨sg, k, none⟩ = some (.int .i64 y) ∧ LAt 35 wT wr.heap.size (U8 (v93 tx.f i k)) := by
                  refine ⟨?_, ?_⟩
                  · have := own_range RYT k (.int .i64 y) (by rw [List.getElem?_map, HY.out]; rfl)
                    rwa [Nat.zero_add] at this
                  · have hl := LAt.later FS8.out.2 D9.out
                    refine (hgrow.block _ (LAt.lt hl) fun e0 => ?_).trans hl
                    obtain ⟨sz, cur, hc, _⟩ := own_ownBlk (own_later RA8.out D9.out) e0.symm
                    have hl' := hl.symm.trans hc
                    simp only [Option.some.injEq, Obj.cells.injEq] at hl'
                    exact absurd hl'.2.1 (by decide)
                refine hKc.out _ _ FST (fun hHeld => ?_)
                clear hKc Kc hown hgrow BGT RYT FST hcr
                simp only [Act.put, List.setIfInBounds_toArray, List.set_cons_zero, List.set_cons_succ]
                refine wpAnyH_take (i := 10) (v := ?va29) (by simp; rfl) (by kernel_rfl) (by kernel_rfl) (by kernel_rfl) (fun _ _ _ h => h) (Or.inl ⟨by rfl, ?ya29⟩) hHeld ?ra29
                case ya29 => intro w hSw; clear hSw; go_simp; with_reducible rfl
                simp only [Act.put, List.setIfInBounds_toArray, List.set_cons_zero, List.set_cons_succ]
                clear hHeld
                refine wpAnyH_done (by kernel_rfl) (NoPanic.normal ?_) _
                go_wp2
                go_roundw
                case rel => exact ⟨k + 1, _, _, _, by omega, by go_num, BT, MT⟩
                case measure => simp [intOf]; omega
              · as_aux_lemma =>
                obtain rfl : k = ys.length := by omega
                have hmz : moreS gk = 0 := moreS_ok (by omega) (by rw [m7]; omega)
                have HMZ : Hid (moreS gk = 0) := hmz
                clear m1 m2 m3 m4 m7 hmz
                have q1 : IntKind.u64.wrap (ak.length : Int) = (ak.length : Int) := G.wrap_u (by omega) (by omega)
                have q2 : IntKind.u64.wrap (tl + (ak.length : Int)) = tl + (ak.length : Int) := G.wrap_u (by omega) (by omega)
                have q3 : IntKind.u64.wrap (tl + (ak.length : Int) + 1) = tl + (ak.length : Int) + 1 := G.wrap_u (by omega) (by omega)
                go_wp2_with fail
                refine (commit_B MK.out.lb (by omega) (HT.out.later (B1.out.trans (MK.out.low.mono HW1.out))) HMZ.out).mono ?_
                rintro e w6 ⟨rfl, l6, t6⟩
                rw [hfin]
                have hB1' := MK.out.lb.base
                have L6 : Hid (LB w6 w1.heap.size L p d (wsk ++ [⟨(secN gk gk.fin).toNat, R.encS (comR gk)⟩]) (comG gk) ∧ Holds (comG gk) (wsk ++ [⟨(secN gk gk.fin).toNat, R.encS (comR gk)⟩]) d tl (ak ++ [comR gk])) := ⟨l6, MK.out.hold.com MK.out.lb.ok HMZ.out⟩
                have K6 : Hid (KT w1.heap.size wr w6) := t6
                have RA6 : Hid (w6.ownsRow w1.heap.size 41 36 (.slice qk ak.length capk) ak.length (RC ak)) := row_kt MK.out.rall t6 (by decide)
                have RC6 : Hid (w6.ownsRow w1.heap.size 31 1 (.slice q11 cs.length cap11) cs.length (U64 cs)) := row_kt MK.out.rcs t6 (by decide)
                have hcr : (⟨2, tl + (ak.length : Int), 0, R.zs 32, (ys.length : Int)⟩ : R.Rec) = comR gk := by unfold comR; rw [hfin, HME.out.2.2.1]
                have U6 : Hid ((Instr.build 41 #[(0, .int .i64 2), (1, .int .u64 (tl + (ak.length : Int))), (4, .int .i64 (ys.length : Int))]).run Tryd.prog w6 = .ok (.agg (R.rcells (comR gk)).toArray) w6) := by
                  have := build_rec3 w6 (tl + (ak.length : Int)) (ys.length : Int)
                  rwa [hcr] at this
                have S6 : Hid (_) := build_prec w6 (comR gk) (R.zs_len 32)
                clear l6 t6 hcr
                have h65 : (100000 : Nat) ≤ maxLen := by decide
                have hs6 := K6.out.low.size
                go_wp2_with (first | (at_builtin; refine wpList_append_lies _ rfl (.tmp 149) (.tmp 154) 57 rfl w1.heap.size 41 i0 _ 36 64 Tryd.underlying57 hi hz0 hz1 hz2 rfl (by omega) _ ak.length (RC ak) rfl (RA6.out.alloc _) ⟨_, 0, none⟩ 1 1 (R.rcells (comR gk)) rfl (R.rcells_len _ (R.zs_len 32)) (cells_new _ _ _) (R.rcells_ones _) (by omega) (by omega) (by omega) (by simp; omega) _ rfl ?_) | ((with_reducible refine at_ops ?_); (first | (refine wpList_build_is (vs := [(0, .int .i64 2), (1, .int .u64 (tl + (ak.length : Int))), (4, .int .i64 (ys.length : Int))]) (by rfl) 41 rfl (by rfl) U6.out ?_) | (refine wpList_slice_is (u := .agg (R.rcells (comR gk)).toArray) (by rfl) 57 rfl rfl S6.out ?_)); simp only [Act.put, List.setIfInBounds_toArray, List.set_cons_zero, List.set_cons_succ]))
                intro ga capa w7 hown hgrow _ _
                have RA7 : Hid (w7.ownsRow w1.heap.size 41 36 (.slice (some ⟨ga, 0, none⟩) (ak.length + 1) capa) (ak.length + 1) (RC (ak ++ [comR gk]))) := by rw [RC_snoc]; exact hown
                have RC7 : Hid (w7.ownsRow w1.heap.size 31 1 (.slice q11 cs.length cap11) cs.length (U64 cs)) := row_row (RC6.out.alloc _) (RA6.out.alloc _) (by decide) hgrow
                have L7 : Hid (LB w7 w1.heap.size L p d (wsk ++ [⟨(secN gk gk.fin).toNat, R.encS (comR gk)⟩]) (comG gk)) := LB.grown (LD.later L6.out.1 (below_alloc w6 _)) (RA6.out.alloc _) (by decide) hgrow
                have B7 : Hid (Below w1.heap.size wr w7) := K6.out.low.trans (((Below.refl _ w6).alloc (by omega) _).grown hgrow (by simp; omega) (fun k hk => (RA6.out.lt k hk).1))
                clear hown hgrow RA6 RC6 U6 S6
                have hs7 := B7.out.size
                go_wp2_with (at_builtin; refine wpList_append_lies _ rfl (.tmp 156) (.tmp 159) 58 rfl w1.heap.size 31 j0 _ 1 8 Tryd.underlying58 hj hy0 hy1 hy2 rfl (by omega) _ cs.length (U64 cs) rfl (RC7.out.alloc _) ⟨_, 0, none⟩ 1 1 [.int .u64 (tl + (ak.length : Int) + 1)] rfl rfl (cell_one_new _ _ _) (by simp [Value.oneCell']) (by omega) (by omega) (by omega) (by simp; omega) _ rfl ?_)
                intro gc capc w8 hown hgrow _ _
                have RC8 : Hid (w8.ownsRow w1.heap.size 31 1 (.slice (some ⟨gc, 0, none⟩) (cs.length + 1) capc) (cs.length + 1) (U64 (cs ++ [tl + (ak.length : Int) + 1]))) := by
                  have e : U64 (cs ++ [tl + (ak.length : Int) + 1]) = U64 cs ++ [Value.int .u64 (tl + (ak.length : Int) + 1)] := by simp [U64]
                  rw [e]; exact hown
                have RA8 : Hid (w8.ownsRow w1.heap.size 41 36 (.slice (some ⟨ga, 0, none⟩) (ak.length + 1) capa) (ak.length + 1) (RC (ak ++ [comR gk]))) := row_row (RA7.out.alloc _) (RC7.out.alloc _) (by decide) hgrow
                have L8 : Hid (LB w8 w1.heap.size L p d (wsk ++ [⟨(secN gk gk.fin).toNat, R.encS (comR gk)⟩]) (comG gk)) := LB.grown (LD.later L7.out (below_alloc w7 _)) (RC7.out.alloc _) (by decide) hgrow
                have B8 : Hid (Below w1.heap.size wr w8) := B7.out.trans (((Below.refl _ w7).alloc (by omega) _).grown hgrow (by simp; omega) (fun k hk => (RC7.out.lt k hk).1))
                have IX : Hid (Inv w1 w8 w1.heap.size L p s tl (i + 1) (.slice (some ⟨ga, 0, none⟩) (ak.length + 1) capa) (.slice (some ⟨gc, 0, none⟩) (cs.length + 1) capc) d (wsk ++ [⟨(secN gk gk.fin).toNat, R.encS (comR gk)⟩]) (comG gk) (ak ++ [comR gk]) (cs ++ [tl + (ak.length : Int) + 1])) := by
                  have m2 := HME.out.2.1
                  refine ⟨L8.out, L6.out.2, HME.out.2.2.2.1, rfl, RC_one _ _ (R.zs_len 32) MK.out.wfs, by simp; omega, by simp; omega, by rw [List.length_append]; exact RA8.out, by rw [List.length_append]; exact RC8.out, by have := NCS.out.1; simp; omega, ?_, MK.out.low.trans B8.out⟩
                  intro c hc
                  have hgf : (comG gk).fin = gk.fin + 1 := rfl
                  rw [hgf]
                  rcases List.mem_append.1 hc with hc | hc
                  · have := NCS.out.2 c hc; omega
                  · rcases List.mem_singleton.1 hc with rfl; omega
                have HTX3 : Hid (∀ w', Below w1.heap.size w8 w' → w'.rangeAt tb (to + i * 3) tx.cells) := fun w' hb => HTX2.out w' ((HBk.out.trans B8.out).trans hb)
                have HCX : Hid (CAt w8 w.heap.size s) := HCY.out w8 (HBk.out.trans B8.out)
                clear hown hgrow RC8 RA8 L8 B8 RA7 RC7 L7 B7 L6 K6 HTX2 HCY MK HBk
                have HTX2 : Hid (_) := HTX3.out
                clear HTX3 q1 q2 q3 hfin m5 m6 o1 o2 o3 o4 o5 o7 o8 o10 h65 hs6 hs7 hB1'
                generalize hgn : comG gk = gn at IX
                generalize hwn : (wsk ++ [⟨(secN gk gk.fin).toNat, R.encS (comR gk)⟩]) = wn at IX
                generalize han : ak ++ [comR gk] = an at IX
                generalize hcn : cs ++ [tl + (ak.length : Int) + 1] = cn at IX
                have hNA' : an.length = ak.length + 1 := by rw [← han]; simp
                have hNC' : cn.length = cs.length + 1 := by rw [← hcn]; simp
                clear hgn hwn han hcn
                generalize w8 = wX at *
                generalize (some (⟨ga, 0, none⟩ : Addr)) = q10 at IX ⊢
                generalize (some (⟨gc, 0, none⟩ : Addr)) = q11 at IX ⊢
                generalize capa = cap10 at IX ⊢
                generalize capc = cap11 at IX ⊢
                generalize hNA : ak.length + 1 = NA at IX ⊢ hNA'
                generalize hNC0 : cs.length + 1 = NC at IX ⊢ hNC'
                have hNC : cn.length = NC := hNC'
                as_aux_lemma =>
                go_wp2_with fail
                have o1 := IX.out.lb.ok.t0; have o2 := IX.out.lb.ok.tm; have o3 := IX.out.lb.ok.mf; have o4 := IX.out.lb.ok.fM; have o5 := IX.out.lb.ok.us
                have o6 := IX.out.hold.len; have o7 := IX.out.hold.le; have o8 := IX.out.nall; have o10 := IX.out.ncs
                have hgc : gn.c = s := IX.out.cfg
                rw [hgc] at o5
                have p1 : decide (s.lc < gn.fin - gn.tail) = false := by simp; omega
                refine wp_region_noPanic ?_
                refine wp_region_held_drew (S := fun w' => Below wX.heap.size wX w') (by kernel_rfl) (below_drawn 1) (fun hHeld => ?_)
                have DX : Hid (Below wX.heap.size wX wX.drew) := hHeld
                generalize wX.drew = wdX at *
                refine wpAnyH_take (i := 0) (v := ?va30) (by simp; rfl) (by kernel_rfl) (by kernel_rfl) (by kernel_rfl) (fun _ _ _ h => h) (Or.inl ⟨by rfl, ?ya30⟩) hHeld ?ra30
                case ya30 => intro w hSw; clear hSw; go_simp; with_reducible rfl
                simp only [Act.put, List.setIfInBounds_toArray, List.set_cons_zero, List.set_cons_succ]
                refine wpAnyH_take (i := 2) (v := ?va31) (by simp; rfl) (by kernel_rfl) (by kernel_rfl) (by kernel_rfl) (fun _ _ _ h => h) (Or.inl ⟨by rfl, ?ya31⟩) hHeld ?ra31
                case ya31 => intro w hSw; clear hSw; go_simp; with_reducible rfl
                simp only [Act.put, List.setIfInBounds_toArray, List.set_cons_zero, List.set_cons_succ]
                refine wpAnyH_take (i := 3) (v := ?va32) (by simp; rfl) (by kernel_rfl) (by kernel_rfl) (by kernel_rfl) (fun _ _ _ h => h) (Or.inl ⟨by rfl, ?ya32⟩) hHeld ?ra32
                case ya32 => intro w hSw; have z := CAt.c1 (LAt.later HCX.out hSw); clear hSw; go_simp; with_reducible rfl
                simp only [Act.put, List.setIfInBounds_toArray, List.set_cons_zero, List.set_cons_succ]
                refine wpAnyH_ready (rs := [1]) (by kernel_rfl) (by simp) ?_
                refine AllReadyH.cons (by simp; rfl) (fun Kc hKc => ?_) AllReadyH.nil
                go_simp
                refine (lused_at (LAt.later IX.out.lb.log DX.out) IX.out.lb.ok).mono ?_
                rintro e wn ⟨rfl, rfl⟩
                refine hKc.out _ _ DX.out (fun hHeld => ?_)
                clear hKc Kc
                refine wpAnyH_take (i := 4) (v := ?va33) (by simp; rfl) (by kernel_rfl) (by kernel_rfl) (by kernel_rfl) (fun _ _ _ h => h) (Or.inl ⟨by rfl, ?ya33⟩) hHeld ?ra33
                case ya33 => intro w hSw; clear hSw; go_simp; with_reducible rfl
                simp only [Act.put, List.setIfInBounds_toArray, List.set_cons_zero, List.set_cons_succ]
                refine wpAnyH_take (i := 5) (v := ?va34) (by simp; rfl) (by kernel_rfl) (by kernel_rfl) (by kernel_rfl) (fun _ _ _ h => h) (Or.inl ⟨by rfl, ?ya34⟩) hHeld ?ra34
                case ya34 => intro w hSw; clear hSw; go_simp; with_reducible rfl
                simp only [Act.put, List.setIfInBounds_toArray, List.set_cons_zero, List.set_cons_succ]
                refine wpAnyH_take (i := 6) (v := ?va35) (by simp; rfl) (by kernel_rfl) (by kernel_rfl) (by kernel_rfl) (fun _ _ _ h => h) (Or.inl ⟨by rfl, ?ya35⟩) hHeld ?ra35
                case ya35 => intro w hSw; clear hSw; go_simp; with_reducible rfl
                simp only [Act.put, List.setIfInBounds_toArray, List.set_cons_zero, List.set_cons_succ]
                refine wpAnyH_take (i := 7) (v := ?va36) (by simp; rfl) (by kernel_rfl) (by kernel_rfl) (by kernel_rfl) (fun _ _ _ h => h) (Or.inl ⟨by rfl, ?ya36⟩) hHeld ?ra36
                case ya36 => intro w hSw; clear hSw; go_simp; with_reducible rfl
                simp only [Act.put, List.setIfInBounds_toArray, List.set_cons_zero, List.set_cons_succ]
                refine wpAnyH_take (i := 8) (v := ?va37) (by simp; rfl) (by kernel_rfl) (by kernel_rfl) (by kernel_rfl) (fun _ _ _ h => h) (Or.inl ⟨by rfl, ?ya37⟩) hHeld ?ra37
                case ya37 => intro w hSw; clear hSw; go_simp; with_reducible rfl
                simp only [Act.put, List.setIfInBounds_toArray, List.set_cons_zero, List.set_cons_succ]
                refine wpAnyH_ready (rs := [9]) (by kernel_rfl) (by simp) ?_
                refine AllReadyH.cons (by simp; rfl) (fun Kc hKc => ?_) AllReadyH.nil
                go_simp
                refine (stands_any (IX.out.later DX.out).lb (HT.out.later (B1.out.trans ((IX.out.later DX.out).low.mono HW1.out))) IX.out.hold (by omega) IX.out.wfs (by have := IX.out.nall; omega) (IX.out.later DX.out).rall).mono ?_
                rintro e wY ⟨rfl, bY⟩
                have DY : Hid (Below wX.heap.size wX wY) := below_then DX.out bY
                refine hKc.out _ _ DY.out (fun hHeld => ?_)
                clear hKc Kc bY
                refine wpAnyH_take (i := 10) (v := ?va38) (by simp; rfl) (by kernel_rfl) (by kernel_rfl) (by kernel_rfl) (fun _ _ _ h => h) (Or.inl ⟨by rfl, ?ya38⟩) hHeld ?ra38
                case ya38 => intro w hSw; clear hSw; go_simp; with_reducible rfl
                simp only [Act.put, List.setIfInBounds_toArray, List.set_cons_zero, List.set_cons_succ]
                refine wpAnyH_take (i := 11) (v := ?va39) (by simp; rfl) (by kernel_rfl) (by kernel_rfl) (by kernel_rfl) (fun _ _ _ h => h) (Or.inl ⟨by rfl, ?ya39⟩) hHeld ?ra39
                case ya39 => intro w hSw; clear hSw; go_simp; with_reducible rfl
                simp only [Act.put, List.setIfInBounds_toArray, List.set_cons_zero, List.set_cons_succ]
                clear hHeld
                refine wpAnyH_done (by kernel_rfl) (NoPanic.normal ?_) _
                have IY : Hid (Inv w1 wY w1.heap.size L p s tl (i + 1) (.slice q10 NA cap10) (.slice q11 NC cap11) d wn gn an cn) := IX.out.later DY.out
                have HTY : Hid (∀ w', Below w1.heap.size wY w' → w'.rangeAt tb (to + i * 3) tx.cells) := fun w' hb => HTX2.out w' ((DY.out.mono IX.out.lb.base).trans hb)
                have cm : wY.cell? ⟨tb, to + i * 3 + 2, none⟩ = some (.int .i64 tx.m) := HTY.out wY (Below.refl _ _) 2 _ rfl
                clear IX DX DY HCX HTX2 p1
                obtain ⟨bk, hbk⟩ : ∃ x, x = tx.m % 4 := ⟨_, rfl⟩
                have hb4 : 0 ≤ bk ∧ bk < 4 := by omega
                have hr1 : -4 < tx.m.tmod 4 ∧ tx.m.tmod 4 < 4 := ⟨Int.lt_tmod_of_pos _ (by decide), Int.tmod_lt_of_pos _ (by decide)⟩
                have hr2 : (tx.m.tmod 4 + 4).tmod 4 = bk := by rw [hbk]; exact G.tmod_fix tx.m 4 (by decide)
                have k1 : IntKind.i64.wrap (tx.m.tmod 4) = tx.m.tmod 4 := by rw [IntKind.wrap_i64]; omega
                have k2 : IntKind.i64.wrap (tx.m.tmod 4 + 4) = tx.m.tmod 4 + 4 := by rw [IntKind.wrap_i64]; omega
                have k3 : IntKind.i64.wrap bk = bk := by rw [IntKind.wrap_i64]; omega
                clear hbk
                by_cases hbb : bk < 3 ∧ bk < (NC : Int)
                · obtain ⟨hb1, hb2⟩ := hbb
                  obtain ⟨cg, rfl⟩ : ∃ cg, q11 = some ⟨cg, 0, none⟩ := by
                    rcases IY.out.rcs.2 with ⟨e, _⟩ | ⟨cg, cap', cur, e, _⟩
                    · have := (Value.slice.inj e).2.1; omega
                    · exact ⟨cg, (Value.slice.inj e).1⟩
                  obtain ⟨tg, htg⟩ : ∃ tg, cn[((NC : Int) - 1 - bk).toNat]? = some tg := ⟨_, List.getElem?_eq_getElem (show ((NC : Int) - 1 - bk).toNat < cn.length by omega)⟩
                  have ct : wY.cell? ⟨cg, ((NC : Int) - 1 - bk).toNat, none⟩ = some (.int .u64 tg) := by
                    have rr := IY.out.rcs
                    rw [hNC] at rr
                    have := own_range rr ((NC : Int) - 1 - bk).toNat (.int .u64 tg) (by rw [U64, List.getElem?_map, htg]; rfl)
                    rwa [Nat.zero_add] at this
                  have htb2 := IY.out.csb tg (List.mem_of_getElem? htg)
                  have x1' : IntKind.i64.wrap ((NC : Int) - 1) = (NC : Int) - 1 := by rw [IntKind.wrap_i64]; have := IY.out.ncs; omega
                  have x2' : IntKind.i64.wrap ((NC : Int) - 1 - bk) = (NC : Int) - 1 - bk := by rw [IntKind.wrap_i64]; have := IY.out.ncs; omega
                  have x3' : bk ≤ (NC : Int) - 1 := by omega
                  have x4' : (NC : Int) - 1 - bk < (NC : Int) := by omega
                  clear htg
                  go_wp2_with fail
                  refine (ltail_at IY.out.lb.log).mono ?_
                  rintro e wz ⟨rfl, rfl⟩
                  clear ct x1' x2' x3' x4' cm
                  by_cases hout : tg < gn.tail
                  · go_wp2_with fail
                    refine (mark_no IY.out.lb.log tg (.inl hout)).mono ?_
                    rintro e wz ⟨rfl, rfl⟩
                    go_wp2
                    go_roundw
                    case rel => exact ⟨i + 1, d, wn, gn, an, cn, by omega, by omega, by go_num, IY⟩
                    case measure => simp [intOf]; omega
                  · have hno : ¬ Out gn tg := by intro h; rcases h with h | h <;> omega
                    go_wp2_with fail
                    refine (mark_B IY.out.lb (by have := IY.out.nws; omega) (HT.out.later (B1.out.trans (IY.out.low.mono HW1.out))) tg hno).mono ?_
                    rintro e wM ⟨rfl, lM, tM⟩
                    have LM : Hid (_) := lM
                    have KM : Hid (KT w1.heap.size wY wM) := tM
                    clear lM tM
                    go_wp2_with fail
                    refine (free_B LM.out (by have := IY.out.nws; simp; omega)).mono ?_
                    rintro e wN ⟨rfl, lN, tN⟩
                    have IN : Hid (Inv w1 wN w1.heap.size L p s tl (i + 1) (.slice q10 NA cap10) (.slice (some ⟨cg, 0, none⟩) NC cap11) (settle (fun _ => true) (wn ++ [⟨0, encS (supL gn tg)⟩]) d) [] (frG (mkG gn tg)) an cn) := by
                      have hk := KM.out.trans tN
                      have hm := IY.out.hold.mark IY.out.lb.ok tg (encS (supL gn tg))
                      have hl := LB.len LM.out
                      exact ⟨lN, ((hm.flush LM.out.ok hl.1 hl.2).free LM.out.ok), IY.out.cfg, IY.out.idle, IY.out.wfs, IY.out.nall, Nat.zero_le _, row_kt IY.out.rall hk (by decide), row_kt IY.out.rcs hk (by decide), IY.out.ncs, IY.out.csb, IY.out.low.trans hk.low⟩
                    have e1' : (mkG gn tg).mark - (mkG gn tg).tail = tg - gn.tail := rfl
                    have e2' : (frG (mkG gn tg)).tail = tg := rfl
                    rw [e1']
                    clear lN tN LM KM IY
                    generalize (settle (fun _ => true) (wn ++ [⟨0, encS (supL gn tg)⟩]) d) = dN at *
                    have y1 : IntKind.u64.wrap (tg - gn.tail) = tg - gn.tail := G.wrap_u (by omega) (by omega)
                    go_wp2_with fail
                    refine (ltail_at IN.out.lb.log).mono ?_
                    rintro e wz ⟨rfl, rfl⟩
                    rw [e2']
                    go_wp2_with fail
                    refine (waiting_any IN.out.lb.dsk (by simp)).mono ?_
                    rintro e wO ⟨gw, vw, rfl, tw, bO⟩
                    have IOo : Hid (_) := IN.out.later bO
                    clear tw bO IN
                    go_wp2_with fail
                    refine (stands_any IOo.out.lb (HT.out.later (B1.out.trans (IOo.out.low.mono HW1.out))) IOo.out.hold (by omega) IOo.out.wfs (by have := IOo.out.nall; omega) IOo.out.rall).mono ?_
                    rintro e wP ⟨rfl, bP⟩
                    have IP : Hid (_) := IOo.out.later bP
                    clear IOo bP
                    go_wp2
                    go_roundw
                    case rel => exact ⟨i + 1, _, _, _, _, _, by omega, by omega, by go_num, IP⟩
                    case measure => simp [intOf]; omega
                · by_cases hb1 : bk < 3
                  · have hb2 : ¬ bk < (NC : Int) := fun h => hbb ⟨hb1, h⟩
                    clear hbb
                    go_wp2
                    go_roundw
                    case rel => exact ⟨i + 1, d, wn, gn, an, cn, by omega, by omega, by go_num, IY⟩
                    case measure => simp [intOf]; omega
                  · clear hbb
                    go_wp2
                    go_roundw
                    case rel => exact ⟨i + 1, d, wn, gn, an, cn, by omega, by omega, by go_num, IY⟩
                    case measure => simp [intOf]; omega
          · have hroomd : decide (g.fin - g.tail + (ys.length : Int) + 1 ≤ s.lc) = false := by simp; omega
            generalize wd = wX at *
            have IX : Hid (Inv w1 wX w1.heap.size L p s tl (i + 1) (.slice q10 all.length cap10) (.slice q11 cs.length cap11) d ws g all cs) := IF.out.mono (by omega)
            have HTX2 : Hid (∀ w', Below w1.heap.size wX w' → w'.rangeAt tb (to + i * 3) tx.cells) := fun w' hb => rangeAt_same (HTQ.out wX (Below.refl _ _)) (hb.block tb (by have := HW1.out; omega))
            clear IF RF HTQ f1 f2 o1 o2 o3 o4 o5 o6 o7 o8 o9 o10 hgc
            go_wp2_with fail
            clear hroom hroomd
            generalize hNA : all.length = NA at IX ⊢
            generalize hNC : cs.length = NC at IX ⊢
            as_aux_lemma =>
            have o1 := IX.out.lb.ok.t0; have o2 := IX.out.lb.ok.tm; have o3 := IX.out.lb.ok.mf; have o4 := IX.out.lb.ok.fM; have o5 := IX.out.lb.ok.us
            have o6 := IX.out.hold.len; have o7 := IX.out.hold.le; have o8 := IX.out.nall; have o10 := IX.out.ncs
            have hgc : g.c = s := IX.out.cfg
            rw [hgc] at o5
            have p1 : decide (s.lc < g.fin - g.tail) = false := by simp; omega
            refine wp_region_noPanic ?_
            refine wp_region_held_drew (S := fun w' => Below wX.heap.size wX w') (by kernel_rfl) (below_drawn 1) (fun hHeld => ?_)
            have DX : Hid (Below wX.heap.size wX wX.drew) := hHeld
            generalize wX.drew = wdX at *
            refine wpAnyH_take (i := 0) (v := ?va40) (by simp; rfl) (by kernel_rfl) (by kernel_rfl) (by kernel_rfl) (fun _ _ _ h => h) (Or.inl ⟨by rfl, ?ya40⟩) hHeld ?ra40
            case ya40 => intro w hSw; clear hSw; go_simp; with_reducible rfl
            simp only [Act.put, List.setIfInBounds_toArray, List.set_cons_zero, List.set_cons_succ]
            refine wpAnyH_take (i := 2) (v := ?va41) (by simp; rfl) (by kernel_rfl) (by kernel_rfl) (by kernel_rfl) (fun _ _ _ h => h) (Or.inl ⟨by rfl, ?ya41⟩) hHeld ?ra41
            case ya41 => intro w hSw; clear hSw; go_simp; with_reducible rfl
            simp only [Act.put, List.setIfInBounds_toArray, List.set_cons_zero, List.set_cons_succ]
            refine wpAnyH_take (i := 3) (v := ?va42) (by simp; rfl) (by kernel_rfl) (by kernel_rfl) (by kernel_rfl) (fun _ _ _ h => h) (Or.inl ⟨by rfl, ?ya42⟩) hHeld ?ra42
            case ya42 => intro w hSw; have z := CAt.c1 (LAt.later HCX.out hSw); clear hSw; go_simp; with_reducible rfl
            simp only [Act.put, List.setIfInBounds_toArray, List.set_cons_zero, List.set_cons_succ]
            refine wpAnyH_ready (rs := [1]) (by kernel_rfl) (by simp) ?_
            refine AllReadyH.cons (by simp; rfl) (fun Kc hKc => ?_) AllReadyH.nil
            go_simp
            refine (lused_at (LAt.later IX.out.lb.log DX.out) IX.out.lb.ok).mono ?_
            rintro e wn ⟨rfl, rfl⟩
            refine hKc.out _ _ DX.out (fun hHeld => ?_)
            clear hKc Kc
            refine wpAnyH_take (i := 4) (v := ?va43) (by simp; rfl) (by kernel_rfl) (by kernel_rfl) (by kernel_rfl) (fun _ _ _ h => h) (Or.inl ⟨by rfl, ?ya43⟩) hHeld ?ra43
            case ya43 => intro w hSw; clear hSw; go_simp; with_reducible rfl
            simp only [Act.put, List.setIfInBounds_toArray, List.set_cons_zero, List.set_cons_succ]
            refine wpAnyH_take (i := 5) (v := ?va44) (by simp; rfl) (by kernel_rfl) (by kernel_rfl) (by kernel_rfl) (fun _ _ _ h => h) (Or.inl ⟨by rfl, ?ya44⟩) hHeld ?ra44
            case ya44 => intro w hSw; clear hSw; go_simp; with_reducible rfl
            simp only [Act.put, List.setIfInBounds_toArray, List.set_cons_zero, List.set_cons_succ]
            refine wpAnyH_take (i := 6) (v := ?va45) (by simp; rfl) (by kernel_rfl) (by kernel_rfl) (by kernel_rfl) (fun _ _ _ h => h) (Or.inl ⟨by rfl, ?ya45⟩) hHeld ?ra45
            case ya45 => intro w hSw; clear hSw; go_simp; with_reducible rfl
            simp only [Act.put, List.setIfInBounds_toArray, List.set_cons_zero, List.set_cons_succ]
            refine wpAnyH_take (i := 7) (v := ?va46) (by simp; rfl) (by kernel_rfl) (by kernel_rfl) (by kernel_rfl) (fun _ _ _ h => h) (Or.inl ⟨by rfl, ?ya46⟩) hHeld ?ra46
            case ya46 => intro w hSw; clear hSw; go_simp; with_reducible rfl
            simp only [Act.put, List.setIfInBounds_toArray, List.set_cons_zero, List.set_cons_succ]
            refine wpAnyH_take (i := 8) (v := ?va47) (by simp; rfl) (by kernel_rfl) (by kernel_rfl) (by kernel_rfl) (fun _ _ _ h => h) (Or.inl ⟨by rfl, ?ya47⟩) hHeld ?ra47
            case ya47 => intro w hSw; clear hSw; go_simp; with_reducible rfl
            simp only [Act.put, List.setIfInBounds_toArray, List.set_cons_zero, List.set_cons_succ]
            refine wpAnyH_ready (rs := [9]) (by kernel_rfl) (by simp) ?_
            refine AllReadyH.cons (by simp; rfl) (fun Kc hKc => ?_) AllReadyH.nil
            go_simp
            refine (stands_any (IX.out.later DX.out).lb (HT.out.later (B1.out.trans ((IX.out.later DX.out).low.mono HW1.out))) IX.out.hold (by omega) IX.out.wfs (by have := IX.out.nall; omega) (IX.out.later DX.out).rall).mono ?_
            rintro e wY ⟨rfl, bY⟩
            have DY : Hid (Below wX.heap.size wX wY) := below_then DX.out bY
            refine hKc.out _ _ DY.out (fun hHeld => ?_)
            clear hKc Kc bY
            refine wpAnyH_take (i := 10) (v := ?va48) (by simp; rfl) (by kernel_rfl) (by kernel_rfl) (by kernel_rfl) (fun _ _ _ h => h) (Or.inl ⟨by rfl, ?ya48⟩) hHeld ?ra48
            case ya48 => intro w hSw; clear hSw; go_simp; with_reducible rfl
            simp only [Act.put, List.setIfInBounds_toArray, List.set_cons_zero, List.set_cons_succ]
            refine wpAnyH_take (i := 11) (v := ?va49) (by simp; rfl) (by kernel_rfl) (by kernel_rfl) (by kernel_rfl) (fun _ _ _ h => h) (Or.inl ⟨by rfl, ?ya49⟩) hHeld ?ra49
            case ya49 => intro w hSw; clear hSw; go_simp; with_reducible rfl
            simp only [Act.put, List.setIfInBounds_toArray, List.set_cons_zero, List.set_cons_succ]
            clear hHeld
            refine wpAnyH_done (by kernel_rfl) (NoPanic.normal ?_) _
            have IY : Hid (Inv w1 wY w1.heap.size L p s tl (i + 1) (.slice q10 NA cap10) (.slice q11 NC cap11) d ws g all cs) := IX.out.later DY.out
            have HTY : Hid (∀ w', Below w1.heap.size wY w' → w'.rangeAt tb (to + i * 3) tx.cells) := fun w' hb => HTX2.out w' ((DY.out.mono IX.out.lb.base).trans hb)
            have cm : wY.cell? ⟨tb, to + i * 3 + 2, none⟩ = some (.int .i64 tx.m) := HTY.out wY (Below.refl _ _) 2 _ rfl
            clear IX DX DY HCX HTX2 p1
            obtain ⟨bk, hbk⟩ : ∃ x, x = tx.m % 4 := ⟨_, rfl⟩
            have hb4 : 0 ≤ bk ∧ bk < 4 := by omega
            have hr1 : -4 < tx.m.tmod 4 ∧ tx.m.tmod 4 < 4 := ⟨Int.lt_tmod_of_pos _ (by decide), Int.tmod_lt_of_pos _ (by decide)⟩
            have hr2 : (tx.m.tmod 4 + 4).tmod 4 = bk := by rw [hbk]; exact G.tmod_fix tx.m 4 (by decide)
            have k1 : IntKind.i64.wrap (tx.m.tmod 4) = tx.m.tmod 4 := by rw [IntKind.wrap_i64]; omega
            have k2 : IntKind.i64.wrap (tx.m.tmod 4 + 4) = tx.m.tmod 4 + 4 := by rw [IntKind.wrap_i64]; omega
            have k3 : IntKind.i64.wrap bk = bk := by rw [IntKind.wrap_i64]; omega
            clear hbk
            by_cases hbb : bk < 3 ∧ bk < (NC : Int)
            · obtain ⟨hb1, hb2⟩ := hbb
              obtain ⟨cg, rfl⟩ : ∃ cg, q11 = some ⟨cg, 0, none⟩ := by
                rcases IY.out.rcs.2 with ⟨e, _⟩ | ⟨cg, cap', cur, e, _⟩
                · have := (Value.slice.inj e).2.1; omega
                · exact ⟨cg, (Value.slice.inj e).1⟩
              obtain ⟨tg, htg⟩ : ∃ tg, cs[((NC : Int) - 1 - bk).toNat]? = some tg := ⟨_, List.getElem?_eq_getElem (show ((NC : Int) - 1 - bk).toNat < cs.length by omega)⟩
              have ct : wY.cell? ⟨cg, ((NC : Int) - 1 - bk).toNat, none⟩ = some (.int .u64 tg) := by
                have rr := IY.out.rcs
                rw [hNC] at rr
                have := own_range rr ((NC : Int) - 1 - bk).toNat (.int .u64 tg) (by rw [U64, List.getElem?_map, htg]; rfl)
                rwa [Nat.zero_add] at this
              have htb2 := IY.out.csb tg (List.mem_of_getElem? htg)
              have x1' : IntKind.i64.wrap ((NC : Int) - 1) = (NC : Int) - 1 := by rw [IntKind.wrap_i64]; have := IY.out.ncs; omega
              have x2' : IntKind.i64.wrap ((NC : Int) - 1 - bk) = (NC : Int) - 1 - bk := by rw [IntKind.wrap_i64]; have := IY.out.ncs; omega
              have x3' : bk ≤ (NC : Int) - 1 := by omega
              have x4' : (NC : Int) - 1 - bk < (NC : Int) := by omega
              clear htg
              go_wp2_with fail
              refine (ltail_at IY.out.lb.log).mono ?_
              rintro e wz ⟨rfl, rfl⟩
              clear ct x1' x2' x3' x4' cm
              by_cases hout : tg < g.tail
              · go_wp2_with fail
                refine (mark_no IY.out.lb.log tg (.inl hout)).mono ?_
                rintro e wz ⟨rfl, rfl⟩
                go_wp2
                go_roundw
                case rel => exact ⟨i + 1, d, ws, g, all, cs, by omega, by omega, by go_num, IY⟩
                case measure => simp [intOf]; omega
              · have hno : ¬ Out g tg := by intro h; rcases h with h | h <;> omega
                go_wp2_with fail
                refine (mark_B IY.out.lb (by have := IY.out.nws; omega) (HT.out.later (B1.out.trans (IY.out.low.mono HW1.out))) tg hno).mono ?_
                rintro e wM ⟨rfl, lM, tM⟩
                have LM : Hid (_) := lM
                have KM : Hid (KT w1.heap.size wY wM) := tM
                clear lM tM
                go_wp2_with fail
                refine (free_B LM.out (by have := IY.out.nws; simp; omega)).mono ?_
                rintro e wN ⟨rfl, lN, tN⟩
                have IN : Hid (Inv w1 wN w1.heap.size L p s tl (i + 1) (.slice q10 NA cap10) (.slice (some ⟨cg, 0, none⟩) NC cap11) (settle (fun _ => true) (ws ++ [⟨0, encS (supL g tg)⟩]) d) [] (frG (mkG g tg)) all cs) := by
                  have hk := KM.out.trans tN
                  have hm := IY.out.hold.mark IY.out.lb.ok tg (encS (supL g tg))
                  have hl := LB.len LM.out
                  exact ⟨lN, ((hm.flush LM.out.ok hl.1 hl.2).free LM.out.ok), IY.out.cfg, IY.out.idle, IY.out.wfs, IY.out.nall, Nat.zero_le _, row_kt IY.out.rall hk (by decide), row_kt IY.out.rcs hk (by decide), IY.out.ncs, IY.out.csb, IY.out.low.trans hk.low⟩
                have e1' : (mkG g tg).mark - (mkG g tg).tail = tg - g.tail := rfl
                have e2' : (frG (mkG g tg)).tail = tg := rfl
                rw [e1']
                clear lN tN LM KM IY
                generalize (settle (fun _ => true) (ws ++ [⟨0, encS (supL g tg)⟩]) d) = dN at *
                have y1 : IntKind.u64.wrap (tg - g.tail) = tg - g.tail := G.wrap_u (by omega) (by omega)
                go_wp2_with fail
                refine (ltail_at IN.out.lb.log).mono ?_
                rintro e wz ⟨rfl, rfl⟩
                rw [e2']
                go_wp2_with fail
                refine (waiting_any IN.out.lb.dsk (by simp)).mono ?_
                rintro e wO ⟨gw, vw, rfl, tw, bO⟩
                have IOo : Hid (_) := IN.out.later bO
                clear tw bO IN
                go_wp2_with fail
                refine (stands_any IOo.out.lb (HT.out.later (B1.out.trans (IOo.out.low.mono HW1.out))) IOo.out.hold (by omega) IOo.out.wfs (by have := IOo.out.nall; omega) IOo.out.rall).mono ?_
                rintro e wP ⟨rfl, bP⟩
                have IP : Hid (_) := IOo.out.later bP
                clear IOo bP
                go_wp2
                go_roundw
                case rel => exact ⟨i + 1, _, _, _, _, _, by omega, by omega, by go_num, IP⟩
                case measure => simp [intOf]; omega
            · by_cases hb1 : bk < 3
              · have hb2 : ¬ bk < (NC : Int) := fun h => hbb ⟨hb1, h⟩
                clear hbb
                go_wp2
                go_roundw
                case rel => exact ⟨i + 1, d, ws, g, all, cs, by omega, by omega, by go_num, IY⟩
                case measure => simp [intOf]; omega
              · clear hbb
                go_wp2
                go_roundw
                case rel => exact ⟨i + 1, d, ws, g, all, cs, by omega, by omega, by go_num, IY⟩
                case measure => simp [intOf]; omega
        · have e6 := HI.out.hold.len
          have e7 := HI.out.nall
          have BW : Hid (Below w.heap.size w wr) := B1.out.trans (HI.out.low.mono HW1.out)
          have y1 : IntKind.u64.wrap (all.length : Int) = (all.length : Int) := G.wrap_u (by omega) (by omega)
          have y2 : IntKind.u64.wrap (tl + (all.length : Int)) = tl + (all.length : Int) := G.wrap_u (by omega) (by omega)
          have y3 : g.fin = tl + (all.length : Int) := by omega
          by_cases hg1 : (i : Int) < (n : Int)
          · have hg2 : ¬ (i : Int) < 60 := fun h => hgo ⟨by omega, by omega⟩
            clear hgo
            go_wp2_with fail
            refine (lend_at HI.out.lb.log).mono ?_
            rintro e wz ⟨rfl, rfl⟩
            rw [y3]
            clear y3
            go_wp2_with fail
            go_ret
            exact ⟨rfl, BW.out⟩
          · clear hgo
            go_wp2_with fail
            refine (lend_at HI.out.lb.log).mono ?_
            rintro e wz ⟨rfl, rfl⟩
            rw [y3]
            clear y3
            go_wp2_with fail
            go_ret
            exact ⟨rfl, BW.out⟩
    · refine (opened_no s mn tl 3 (by omega) (by omega) (by omega) (by decide) hop w1).mono ?_
      rintro e w2 ⟨p, rfl, b2⟩
      have B2 : Hid (Below w.heap.size w w2) := below_then B1.out b2
      generalize opnS s mn tl 3 = q at *
      have hq : (q != 0) = true := by simp [hop]
      clear b2
      go_wp2_with fail
      go_ret
      exact ⟨rfl, B2.out⟩
end Go.Proofs.YtmcpjokbkkfgfaaDoor
