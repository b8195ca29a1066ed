/-
  Layer 10: ScanRest.
-/
import Derived.Test.YtefnkjajjidfaaaDoorMt
namespace Go.Proofs.YtefnkjajjidfaaaDoor
open Go.RowKit


theorem wrap_three {b k : Nat} (hb : b ≤ 6) (hk : k ≤ 13) : IntKind.i64.wrap (IntKind.i64.wrap (1 + (b : Int)) + (k : Int)) = 1 + (b : Int) + (k : Int) := by
  rw [IntKind.wrap_i64, IntKind.wrap_i64]; omega
theorem Sty.found2 {c : Sup} {g : Lg} {ws : List Wr} {al : List R.Rec} {s : Sc} (h : Sty c g ws al s) {rd : Nat → List Int} (hr0 : rd 0 = newest ws (newS c) 0) (hr : ∀ q : Nat, q ≤ al.length → q < c.lc.toNat → rd (1 + c.bl + q).toNat = newest ws (newS c) (1 + c.bl + q).toNat) (hb : ∀ i, Bytes (rd i)) :
    rdL c (cntS c) rd = (⟨0, 1, s.fin, s.txs⟩, 0) ∧ Sc.Ok c.mr 0 c.lc.toNat s := by
  have hm := h.mc
  obtain ⟨e1, e2⟩ := h.fin_is
  have hlc := hm.2.1
  have hbl := hm.1
  obtain ⟨s', f1, f2, -, -⟩ := h.run (rd := rd) (k := al.length) (Nat.le_refl _) (fun q hq => hr q (by omega) (by omega)) (fun hk => by
    have hq : ((al.length : Int) % c.lc) = al.length := lg_eq (by omega) (by omega)
    refine st_blank ?_
    rw [hq, hr _ (Nat.le_refl _) hk]
    have := h.blank al.length (by omega) (by omega)
    unfold secN at this
    rw [h.gc, hq] at this
    exact this)
  rw [List.take_length, h.fold] at f1
  obtain rfl : s = s' := by cases f1; rfl
  refine ⟨rdL_new hm (hr0.trans h.sup) f2, ?_⟩
  have hmr : 0 ≤ c.mr := by have := hm.2.2.1; omega
  have r := Sc.Ok.run (st := stS c rd) (mr := c.mr) (t := 0) hmr (Int.le_refl 0) (fun p => stS_wf hb) c.lc.toNat 0 ⟨[], 0, []⟩ (Sc.Ok.start hmr 0) (by have := hm.2.1; omega)
  rw [show ((0 : Int) + ((0 : Nat) : Int)) = 0 from rfl, f2, Nat.zero_add] at r
  exact r
/-- the superblock and the positions up to f (the next one too) stand as they stood -/
def Ag2 (bl f : Nat) (ws : List Wr) (c : Sup) (ws' : List Wr) : Prop := newest ws' (newS c) 0 = newest ws (newS c) 0 ∧ ∀ i : Nat, i ≤ f → newest ws' (newS c) (1 + (bl : Int) + i).toNat = newest ws (newS c) (1 + (bl : Int) + i).toNat
theorem Ag2.refl (bl f : Nat) (ws : List Wr) (c : Sup) : Ag2 bl f ws c ws := ⟨rfl, fun _ _ => rfl⟩
theorem Ag2.put {bl f : Nat} {ws ws' : List Wr} {c : Sup} (h : Ag2 bl f ws c ws') {x : Int} {b : List Int} (h0 : 1 ≤ x) (h1 : x ≤ bl ∨ 1 + (bl : Int) + f < x) : Ag2 bl f ws c (ws' ++ [⟨x.toNat, b⟩]) :=
  ⟨by rw [newest_snoc, if_neg (by omega)]; exact h.1, fun i hi => by rw [newest_snoc, if_neg (by omega)]; exact h.2 i hi⟩
set_option maxHeartbeats 4000000 in
set_option maxRecDepth 100000 in
theorem scanRest_any (s0 : Sup) (ps : Option Addr) (n cs : Nat) (sets : List Int) (sd : Int) (op : Bool) (pl : Option Addr) (m cl : Nat) (a : Option Addr) (len cap : Nat) (junk : List Int) (w : World) (ht : Tab w) (hS : UIn w ps n sets) (hn : n ≤ 140737488355328) (hJ : BIn w a len junk) (hlc0 : len ≤ cap) :
    Calls Tryd.prog 5 #[.agg (stc s0 ps n cs sd op pl m cl).toArray, .slice a len cap] w fun e w' => e = .returned (.bool true) ∧ Below w.heap.size w w' := by
  have HT : Hid (Tab w) := ht
  have HU : Hid (UIn w ps n sets) := hS
  have HJ : Hid (BIn w a len junk) := hJ
  obtain ⟨m1, hmin1, hm1, hm1l⟩ : ∃ m1 : Nat, min (len : Int) 60 = m1 ∧ m1 ≤ 60 ∧ m1 ≤ len := ⟨min len 60, by omega, by omega, by omega⟩
  obtain ⟨m2, hmin2, hm2, hm2l⟩ : ∃ m2 : Nat, min (len : Int) 64 = m2 ∧ m2 ≤ 64 ∧ m2 ≤ len := ⟨min len 64, by omega, by omega, by omega⟩
  have J1 : Hid (BIn w a m1 (junk.take m1)) := hJ.take m1 hm1l
  have J2 : Hid (BIn w a m2 (junk.take m2)) := hJ.take m2 hm2l
  have hmc1 : m1 ≤ cap := by omega
  have hmc2 : m2 ≤ cap := by omega
  obtain ⟨wa, hwa⟩ : ∃ y, y = w.alloc (.cells (stc s0 ps n cs sd op pl m cl).toArray 43) := ⟨_, rfl⟩
  have ewa := hwa.symm
  have B0 : Hid (Below w.heap.size w wa) := by rw [hwa]; exact below_alloc w _
  have S0 : Hid (LAt 43 wa w.heap.size (stc s0 ps n cs sd op pl m cl)) := by rw [hwa]; exact LAt.new 43 w _
  clear hwa ht hS hJ HJ
  go_enter Tryd.func5, Tryd.ntmps5
  go_wp2_with fail
  refine (awake_any wa (HT.out.later B0.out)).mono ?_
  rintro e w1 ⟨rfl, b1⟩
  have B1 : Hid (Below w.heap.size w w1) := below_then B0.out b1
  have S1 : Hid (LAt 43 w1 w.heap.size (stc s0 ps n cs sd op pl m cl)) := LAt.later S0.out b1
  have L1 : Hid (_) := LAt.loadSt S1.out
  clear b1 B0 S0 ewa
  go_wp2_with ((with_reducible refine at_ops ?_); (refine wpList_load_is (by rfl) 43 rfl rfl L1.out ?_); simp only [Act.put, List.setIfInBounds_toArray, List.set_cons_zero, List.set_cons_succ])
  refine (told_any s0 ps n cs sets sd op pl m cl w1 (HT.out.later B1.out) (HU.out.later B1.out) hn).mono ?_
  rintro e w2 ⟨p, L, q, d, vs, B, g, ws, al, s, rfl, lb, st, wl, xo, hB, b2⟩
  have hfin := st.fin_is
  generalize hN : s.txs.length = N at *
  have A2 : Hid (_) := allocR w2
  have T2 : Hid (_) := store_newR w2 0 1 s.fin (v := .slice q N d) rfl
  obtain ⟨w3, hw3⟩ : ∃ y, y = w2.alloc (.cells (gcells 0 1 s.fin (.slice q N d)).toArray 48) := ⟨_, rfl⟩
  rw [← hw3] at T2
  have b3 : Below w2.heap.size w2 w3 := by rw [hw3]; exact below_alloc w2 _
  have W3 : LAt 48 w3 w2.heap.size (gcells 0 1 s.fin (.slice q N d)) := by rw [hw3]; exact LAt.new 48 w2 _
  have b13 : Below w1.heap.size w1 w3 := below_then b2 b3
  have B3 : Below w.heap.size w w3 := below_then B1.out b13
  have S3 : Hid (LAt 43 w3 w.heap.size (stc s0 ps n cs sd op pl m cl)) := LAt.later S1.out b13
  have L4 : Hid (_) := stc_range S3.out
  have X3 : XOwn 28 w3 w1.heap.size (.slice q N d) s.txs vs := xo.later b3
  have G3 : LB w3 B L p (newS (cfgS s0)) ws g := lb.later b3
  have HY : Hid (Sty (cfgS s0) g ws al s) := st
  have hsz : g.sz = cntS (cfgS s0) := by unfold Lg.sz cntS; rw [st.gc]
  have hwB : w.heap.size ≤ B := Nat.le_trans B1.out.size hB
  clear hw3 b3 b13 b2 lb st xo L1 S1 B1 hB S3
  go_wp2_with ((with_reducible refine at_ops ?_); (first | (refine wpList_alloc_is (by rfl) 48 rfl A2.out ?_) | (refine wpList_store_is (by rfl) 48 rfl rfl rfl T2.out ?_) | (refine wpList_load_is (by rfl) 39 rfl rfl L4.out ?_)); simp only [Act.put, List.setIfInBounds_toArray, List.set_cons_zero, List.set_cons_succ])
  refine (config10_any s0 w3).mono ?_
  rintro e w6 ⟨rfl, b6⟩
  have A6 : Hid (_) := alloc23 w6
  have T6 : Hid (_) := store_new23 w6 (cfgS s0)
  obtain ⟨w7, hw7⟩ : ∃ y, y = w6.alloc (.cells (ccells (cfgS s0)).toArray 39) := ⟨_, rfl⟩
  rw [← hw7] at T6
  have b7 : Below w6.heap.size w6 w7 := by rw [hw7]; exact below_alloc w6 _
  have C7 : CAt w7 w6.heap.size (cfgS s0) := by rw [hw7]; exact LAt.new 39 w6 _
  have b37 : Below w3.heap.size w3 w7 := below_then b6 b7
  have R7 : Hid (RS w w7 w1.heap.size w2.heap.size w6.heap.size B L p (cfgS s0) g ws s.fin q N d s.txs vs) := ⟨G3.later b37, LAt.later W3 b37, C7, X3.later b37, below_then B3 b37, hwB⟩
  clear hw7 b6 b7 L4 A2 T2 C7 b37 G3 W3 X3 B3 hwB
  obtain ⟨bl, hbl⟩ : ∃ bl : Nat, (cfgS s0).bl = bl := ⟨(cfgS s0).bl.toNat, by have := (cfgS_may s0).1; omega⟩
  obtain ⟨lc, hlc⟩ : ∃ lc : Nat, (cfgS s0).lc = lc := ⟨(cfgS s0).lc.toNat, by have := (cfgS_may s0).2.1; omega⟩
  have hbl6 : bl ≤ 6 := by have := (cfgS_small s0).2; omega
  have hlc13 : lc ≤ 13 := by have := (cfgS_small s0).1; omega
  obtain ⟨f, hf⟩ : ∃ f : Nat, al.length = f := ⟨_, rfl⟩
  rw [hf] at hfin wl
  obtain ⟨hgf, hfl⟩ := hfin
  have hflc : f ≤ lc := by omega
  have hwl : ws.length ≤ 13 := by omega
  clear hfl
  go_wp2_with ((with_reducible refine at_ops ?_); (first | (refine wpList_alloc_is (by rfl) 39 rfl A6.out ?_) | (refine wpList_store_is (by rfl) 39 rfl rfl rfl T6.out ?_)); simp only [Act.put, List.setIfInBounds_toArray, List.set_cons_zero, List.set_cons_succ])
  go_loopw [10] (fun i wr => ∃ b : Nat, b ≤ bl ∧ i = .int .i64 b ∧ Hid (∃ ws', RS w wr w1.heap.size w2.heap.size w6.heap.size B L p (cfgS s0) g ws' s.fin q N d s.txs vs ∧ ws'.length ≤ f + b ∧ Ag2 bl f ws (cfgS s0) ws')) (fun i _ => bl - (intOf i).toNat)
  case atStart => exact ⟨0, Nat.zero_le _, rfl, ws, R7.out, by omega, Ag2.refl _ _ _ _⟩
  case round =>
    obtain ⟨b, hb, rfl, HI⟩ := hrel
    obtain ⟨ws', hr, hlw, hag⟩ := HI.out
    clear HI R7
    have c0 : wr.cell? ⟨w6.heap.size, 0, none⟩ = some (.int .i64 (bl : Int)) := by rw [← hbl]; exact CAt.c0 hr.cf
    have HR : Hid (RS w wr w1.heap.size w2.heap.size w6.heap.size B L p (cfgS s0) g ws' s.fin q N d s.txs vs ∧ ws'.length ≤ f + b ∧ Ag2 bl f ws (cfgS s0) ws') := ⟨hr, hlw, hag⟩
    clear hr hlw hag
    by_cases hlt : b < bl
    · obtain ⟨q1, c1, wx, hrun, hin, hbx⟩ := app_b (w := wr) (c := cap) (b : Int) (by omega) (J1.out.later HR.out.1.low) (by omega)
      have AP : Hid (_) := hrun
      have I1 : Hid (BIn wx q1 (1 + m1) _) := hin
      have R1 : Hid (RS w wx w1.heap.size w2.heap.size w6.heap.size B L p (cfgS s0) g ws' s.fin q N d s.txs vs) := HR.out.1.later hbx
      clear hrun hin hbx
      go_wp2_with ((with_reducible refine at_ops ?_); (refine wpList_append_is (u1 := .slice (some ⟨wr.heap.size, 0, none⟩) 1 1) (u2 := .slice a m1 cap) (by rfl) rfl rfl rfl rfl AP.out ?_); simp only [Act.put, List.setIfInBounds_toArray, List.set_cons_zero, List.set_cons_succ])
      refine (full_any q1 (1 + m1) c1 _ wx (by omega) I1.out).mono ?_
      rintro e wy ⟨q2, c2, rfl, hin2, b2⟩
      have R2 : Hid (RS w wy w1.heap.size w2.heap.size w6.heap.size B L p (cfgS s0) g ws' s.fin q N d s.txs vs) := R1.out.later b2
      have I2 : Hid (BIn wy q2 64 _) := hin2
      clear hin2 b2 R1 I1 AP
      go_wp2_with fail
      refine (write_B R2.out.lb (1 + (b : Int)) (by omega) (by rw [hsz]; unfold cntS; omega) q2 c2 _ I2.out (by have := HR.out.2.1; omega)).mono ?_
      rintro e wz ⟨rfl, lb3, kt3⟩
      have R3 : Hid (∃ ws3, RS w wz w1.heap.size w2.heap.size w6.heap.size B L p (cfgS s0) g ws3 s.fin q N d s.txs vs ∧ ws3.length ≤ f + (b + 1) ∧ Ag2 bl f ws (cfgS s0) ws3) := ⟨_, R2.out.kt kt3 lb3, by rw [List.length_append]; have := HR.out.2.1; simp; omega, HR.out.2.2.put (by omega) (by omega)⟩
      clear lb3 kt3 R2 I2 HR c0
      go_wp2_with (go_at_call 15; refine (num_any _ _).mono ?_; rintro e wn ⟨rfl, rfl⟩)
      go_roundw
      case rel => exact ⟨b + 1, by omega, by go_num, R3.out⟩
      case measure => simp [intOf]; omega
    · go_wp2_with fail
      refine (lend_at HR.out.1.lb.log).mono ?_
      rintro e wn ⟨rfl, rfl⟩
      rw [hgf]
      have hcv : IntKind.i64.wrap (f : Int) = f := wrap_nat f (by omega)
      have R4 : Hid (∃ ws4, RS w wr w1.heap.size w2.heap.size w6.heap.size B L p (cfgS s0) g ws4 s.fin q N d s.txs vs ∧ ws4.length ≤ f + bl + (f + 1) ∧ Ag2 bl f ws (cfgS s0) ws4) := ⟨ws', HR.out.1, by have := HR.out.2.1; omega, HR.out.2.2⟩
      clear HR c0
      obtain ⟨wo, hwo⟩ : ∃ wo, wo = wr := ⟨_, rfl⟩
      subst hwo
      go_wp2_with fail
      go_loopw [12] (fun i wr => ∃ k : Nat, f + 1 ≤ k ∧ (k ≤ lc ∨ k = f + 1) ∧ i = .int .i64 k ∧ Hid (∃ ws', RS w wr w1.heap.size w2.heap.size w6.heap.size B L p (cfgS s0) g ws' s.fin q N d s.txs vs ∧ ws'.length ≤ f + bl + k ∧ Ag2 bl f ws (cfgS s0) ws')) (fun i _ => lc - (intOf i).toNat)
      case atStart => exact ⟨f + 1, Nat.le_refl _, .inr rfl, by go_num, R4.out⟩
      case round =>
        obtain ⟨k, hk1, hk2, rfl, HI⟩ := hrel
        obtain ⟨ws', hr, hlw, hag⟩ := HI.out
        clear HI R4
        have c1 : wr.cell? ⟨w6.heap.size, 1, none⟩ = some (.int .i64 (lc : Int)) := by rw [← hlc]; exact CAt.c1 hr.cf
        have HR : Hid (RS w wr w1.heap.size w2.heap.size w6.heap.size B L p (cfgS s0) g ws' s.fin q N d s.txs vs ∧ ws'.length ≤ f + bl + k ∧ Ag2 bl f ws (cfgS s0) ws') := ⟨hr, hlw, hag⟩
        clear hr hlw hag
        by_cases hlt : k < lc
        · go_wp2_with fail
          clear c1
          refine wp_region_noPanic ?_
          refine wp_region_held_drew (S := fun w' => CAt w' w6.heap.size (cfgS s0)) (by kernel_rfl) (LAt.later HR.out.1.cf (below_drawn 1)) (fun hHeld => ?_)
          have D1 : Hid (Below wr.heap.size wr wr.drew) := below_drawn 1
          generalize wr.drew = wd at *
          refine wpAnyH_take (i := 0) (v := ?va1) (by simp; rfl) (by kernel_rfl) (by kernel_rfl) (by kernel_rfl) (fun _ _ _ h => h) (Or.inl ⟨by rfl, ?ya1⟩) hHeld ?ra1
          case ya1 => intro w hSw; clear hSw; go_simp; with_reducible rfl
          simp only [Act.put, List.setIfInBounds_toArray, List.set_cons_zero, List.set_cons_succ]
          refine wpAnyH_take (i := 1) (v := ?va2) (by simp; rfl) (by kernel_rfl) (by kernel_rfl) (by kernel_rfl) (fun _ _ _ h => h) (Or.inl ⟨by rfl, ?ya2⟩) hHeld ?ra2
          case ya2 => intro w hSw; clear hSw; go_simp; with_reducible rfl
          simp only [Act.put, List.setIfInBounds_toArray, List.set_cons_zero, List.set_cons_succ]
          refine wpAnyH_take (i := 2) (v := ?va3) (by simp; rfl) (by kernel_rfl) (by kernel_rfl) (by kernel_rfl) (fun _ _ _ h => h) (Or.inl ⟨by rfl, ?ya3⟩) hHeld ?ra3
          case ya3 => intro w hSw; have z := CAt.c0 hSw; rw [hbl] at z; clear hSw; go_simp; with_reducible rfl
          simp only [Act.put, List.setIfInBounds_toArray, List.set_cons_zero, List.set_cons_succ]
          refine wpAnyH_take (i := 3) (v := ?va4) (by simp; rfl) (by kernel_rfl) (by kernel_rfl) (by kernel_rfl) (fun _ _ _ h => h) (Or.inl ⟨by rfl, ?ya4⟩) hHeld ?ra4
          case ya4 => intro w hSw; clear hSw; go_simp; with_reducible rfl
          simp only [Act.put, List.setIfInBounds_toArray, List.set_cons_zero, List.set_cons_succ]
          refine wpAnyH_take (i := 4) (v := ?va5) (by simp; rfl) (by kernel_rfl) (by kernel_rfl) (by kernel_rfl) (fun _ _ _ h => h) (Or.inl ⟨by rfl, ?ya5⟩) hHeld ?ra5
          case ya5 => intro w hSw; clear hSw; go_simp; with_reducible rfl
          simp only [Act.put, List.setIfInBounds_toArray, List.set_cons_zero, List.set_cons_succ]
          refine wpAnyH_take (i := 5) (v := ?va6) (by simp; rfl) (by kernel_rfl) (by kernel_rfl) (by kernel_rfl) (fun _ _ _ h => h) (Or.inl ⟨by rfl, ?ya6⟩) hHeld ?ra6
          case ya6 => intro w hSw; clear hSw; go_simp; with_reducible rfl
          simp only [Act.put, List.setIfInBounds_toArray, List.set_cons_zero, List.set_cons_succ]
          refine wpAnyH_take (i := 6) (v := ?va7) (by simp; rfl) (by kernel_rfl) (by kernel_rfl) (by kernel_rfl) (fun _ _ _ h => h) (Or.inl ⟨by rfl, ?ya7⟩) hHeld ?ra7
          case ya7 => intro w hSw; clear hSw; go_simp; with_reducible rfl
          simp only [Act.put, List.setIfInBounds_toArray, List.set_cons_zero, List.set_cons_succ]
          refine wpAnyH_take (i := 7) (v := ?va8) (by simp; rfl) (by kernel_rfl) (by kernel_rfl) (by kernel_rfl) (fun _ _ _ h => h) (Or.inl ⟨by rfl, ?ya8⟩) hHeld ?ra8
          case ya8 => intro w hSw; clear hSw; go_simp; with_reducible rfl
          simp only [Act.put, List.setIfInBounds_toArray, List.set_cons_zero, List.set_cons_succ]
          refine wpAnyH_take (i := 8) (v := ?va9) (by simp; rfl) (by kernel_rfl) (by kernel_rfl) (by kernel_rfl) (fun _ _ _ h => h) (Or.inl ⟨by rfl, ?ya9⟩) hHeld ?ra9
          case ya9 => intro w hSw; clear hSw; go_simp; with_reducible rfl
          simp only [Act.put, List.setIfInBounds_toArray, List.set_cons_zero, List.set_cons_succ]
          refine wpAnyH_take (i := 9) (v := ?va10) (by simp; rfl) (by kernel_rfl) (by kernel_rfl) (by kernel_rfl) (fun _ _ _ h => h) (Or.inl ⟨by rfl, ?ya10⟩) hHeld ?ra10
          case ya10 => intro w hSw; clear hSw; go_simp; with_reducible rfl
          simp only [Act.put, List.setIfInBounds_toArray, List.set_cons_zero, List.set_cons_succ]
          refine wpAnyH_take (i := 10) (v := ?va11) (by simp; rfl) (by kernel_rfl) (by kernel_rfl) (by kernel_rfl) (fun _ _ _ h => h) (Or.inl ⟨by rfl, ?ya11⟩) hHeld ?ra11
          case ya11 => intro w hSw; clear hSw; go_simp; with_reducible rfl
          simp only [Act.put, List.setIfInBounds_toArray, List.set_cons_zero, List.set_cons_succ]
          refine wpAnyH_ready (rs := [11]) (by kernel_rfl) (by simp) ?_
          refine AllReadyH.cons (by simp; rfl) (fun Kc hKc => ?_) AllReadyH.nil
          go_simp
          refine (full_any a m2 cap _ wd hm2 (J2.out.later (below_then HR.out.1.low D1.out))).mono ?_
          rintro e wf ⟨q2, c2, rfl, hin2, b2⟩
          have R2 : Hid (RS w wf w1.heap.size w2.heap.size w6.heap.size B L p (cfgS s0) g ws' s.fin q N d s.txs vs) := (HR.out.1.later D1.out).later b2
          have I2 : Hid (BIn wf q2 64 _) := hin2
          refine hKc.out _ _ R2.out.cf (fun hHeld => ?_)
          clear hKc Kc hin2 b2 D1
          refine wpAnyH_ready (rs := [12]) (by kernel_rfl) (by simp) ?_
          refine AllReadyH.cons (by simp; rfl) (fun Kc hKc => ?_) AllReadyH.nil
          go_simp
          rw [wrap_three hbl6 (show k ≤ 13 by omega)]
          refine (write_B R2.out.lb (1 + (bl : Int) + (k : Int)) (by omega) (by rw [hsz]; unfold cntS; omega) q2 c2 _ I2.out (by have := HR.out.2.1; omega)).mono ?_
          rintro e wg ⟨rfl, lb3, kt3⟩
          have R3 : Hid (∃ ws3, RS w wg w1.heap.size w2.heap.size w6.heap.size B L p (cfgS s0) g ws3 s.fin q N d s.txs vs ∧ ws3.length ≤ f + bl + (k + 1) ∧ Ag2 bl f ws (cfgS s0) ws3) := ⟨_, R2.out.kt kt3 lb3, by rw [List.length_append]; have := HR.out.2.1; simp; omega, HR.out.2.2.put (by omega) (by omega)⟩
          refine hKc.out _ _ (R2.out.kt kt3 lb3).cf (fun hHeld => ?_)
          clear hKc Kc lb3 kt3 R2 I2
          refine wpAnyH_ready (rs := [13]) (by kernel_rfl) (by simp) ?_
          refine AllReadyH.cons (by simp; rfl) (fun Kc hKc => ?_) AllReadyH.nil
          go_simp
          refine (num_any _ _).mono ?_
          rintro e wn ⟨rfl, rfl⟩
          refine hKc.out _ _ hHeld (fun hHeld => ?_)
          clear hKc Kc
          refine wpAnyH_take (i := 14) (v := ?va12) (by simp; rfl) (by kernel_rfl) (by kernel_rfl) (by kernel_rfl) (fun _ _ _ h => h) (Or.inl ⟨by rfl, ?ya12⟩) hHeld ?ra12
          case ya12 => intro w hSw; clear hSw; go_simp; with_reducible rfl
          simp only [Act.put, List.setIfInBounds_toArray, List.set_cons_zero, List.set_cons_succ]
          clear hHeld
          refine wpAnyH_done (by kernel_rfl) (NoPanic.normal ?_) _
          clear HR
          go_wp2_with fail
          go_roundw
          case rel => exact ⟨k + 1, by omega, .inl (by omega), by go_num, R3.out⟩
          case measure => simp [intOf]; omega
        · have G7 : Hid (Dsk wr (fun k => B ≤ k ∧ k ≠ L) p (cntS (cfgS s0)) (newS (cfgS s0)) ws') := by rw [← hsz]; exact HR.out.1.lb.dsk
          have Y7 : Hid (rdL (cfgS s0) (cntS (cfgS s0)) (newest ws' (newS (cfgS s0))) = (⟨0, 1, s.fin, s.txs⟩, 0) ∧ Sc.Ok (cfgS s0).mr 0 (cfgS s0).lc.toNat s) := HY.out.found2 HR.out.2.2.1 (fun i h1 h2 => by rw [hbl]; exact HR.out.2.2.2 i (by omega)) (newest_bytes G7.out)
          have L7 : Hid (_) := CAt.load23 HR.out.1.cf
          go_wp2_with ((with_reducible refine at_ops ?_); (refine wpList_load_is (by rfl) 39 rfl rfl L7.out ?_); simp only [Act.put, List.setIfInBounds_toArray, List.set_cons_zero, List.set_cons_succ])
          refine (read_any10 G7.out (HT.out.later HR.out.1.low) (cfgS s0)).mono ?_
          rintro e w8 ⟨q8, c8, vs8, rfl, x8, -, b8⟩
          rw [Y7.out.1] at x8 ⊢
          have X8' : XIn w8 q8 N s.txs := by
            obtain ⟨a1, a2, a3, a4, -, -⟩ := XOwn.in x8
            rw [show (((⟨0, 1, s.fin, s.txs⟩ : LogS), (0 : Int)).1.txs).length = N from hN] at a3 a4
            cases a3
            exact a4
          have A8 : Hid (_) := allocLg w8
          have T8 : Hid (_) := storeLg w8 0 1 s.fin (v := .slice q8 N c8) rfl
          obtain ⟨w9, hw9⟩ : ∃ y, y = w8.alloc (.cells (gcells 0 1 s.fin (.slice q8 N c8)).toArray 66) := ⟨_, rfl⟩
          rw [← hw9] at T8
          have b9 : Below w8.heap.size w8 w9 := by rw [hw9]; exact below_alloc w8 _
          have M9 : Hid (LAt 66 w9 w8.heap.size (gcells 0 1 s.fin (.slice q8 N c8))) := by rw [hw9]; exact LAt.new 66 w8 _
          have R9 : Hid (RS w w9 w1.heap.size w2.heap.size w6.heap.size B L p (cfgS s0) g ws' s.fin q N d s.txs vs) := HR.out.1.later (below_then b8 b9)
          have X8 : Hid (XIn w9 q8 N s.txs) := X8'.later b9
          have hok := Y7.out.2
          have hN64 : N ≤ 64 := by have := hok.tl; have := (cfgS_may s0).2.1; omega
          have hwf := hok.tw
          have hms : ∀ x ∈ s.txs, x.ims.length ≤ 100000 := fun x hx => by have := hok.cm x hx; have := (cfgS_may s0).2.2.1; omega
          clear hw9 b8 b9 L7 x8 X8' hok Y7 G7 HR
          rw [show ((⟨0, 1, s.fin, s.txs⟩ : LogS), (0 : Int)).1.txs.length = N from hN]
          go_wp2_with ((with_reducible refine at_ops ?_); (first | (refine wpList_alloc_is (by rfl) 66 rfl A8.out ?_) | (refine wpList_store_is (by rfl) 66 rfl rfl rfl T8.out ?_)); simp only [Act.put, List.setIfInBounds_toArray, List.set_cons_zero, List.set_cons_succ])
          clear A8 T8
          refine wp_region_noPanic ?_
          refine wp_region_held_drew (S := fun w' => Below w9.heap.size w9 w') (by kernel_rfl) (below_drawn 1) (fun hHeld => ?_)
          have D2 : Hid (Below w9.heap.size w9 w9.drew) := hHeld
          generalize w9.drew = wd at *
          refine wpAnyH_take (i := 0) (v := ?va13) (by simp; rfl) (by kernel_rfl) (by kernel_rfl) (by kernel_rfl) (fun _ _ _ h => h) (Or.inl ⟨by rfl, ?ya13⟩) hHeld ?ra13
          case ya13 => intro w hSw; clear hSw; go_simp; with_reducible rfl
          simp only [Act.put, List.setIfInBounds_toArray, List.set_cons_zero, List.set_cons_succ]
          refine wpAnyH_ready (rs := [1]) (by kernel_rfl) (by simp) ?_
          refine AllReadyH.cons (by simp; rfl) (fun Kc hKc => ?_) AllReadyH.nil
          go_simp
          refine (num_any _ _).mono ?_
          rintro e wn ⟨rfl, rfl⟩
          refine hKc.out _ _ D2.out (fun hHeld => ?_)
          clear hKc Kc
          refine wpAnyH_take (i := 2) (v := ?va14) (by simp; rfl) (by kernel_rfl) (by kernel_rfl) (by kernel_rfl) (fun _ _ _ h => h) (Or.inl ⟨by rfl, ?ya14⟩) hHeld ?ra14
          case ya14 => intro w hSw; clear hSw; go_simp; with_reducible rfl
          simp only [Act.put, List.setIfInBounds_toArray, List.set_cons_zero, List.set_cons_succ]
          refine wpAnyH_take (i := 3) (v := ?va15) (by simp; rfl) (by kernel_rfl) (by kernel_rfl) (by kernel_rfl) (fun _ _ _ h => h) (Or.inl ⟨by rfl, ?ya15⟩) hHeld ?ra15
          case ya15 => intro w hSw; clear hSw; go_simp; with_reducible rfl
          simp only [Act.put, List.setIfInBounds_toArray, List.set_cons_zero, List.set_cons_succ]
          refine wpAnyH_take (i := 4) (v := _) (by simp; rfl) (by kernel_rfl) (by kernel_rfl) (by kernel_rfl) (fun _ _ _ h => h) (yieldsIf_load_mid (by rfl) 66 (.tmp 13) rfl w8.heap.size 0 rfl (gcells 0 1 s.fin (.slice q8 N c8)) _ (fun _ h => LAt.range (LAt.later M9.out h)) Tryd.underlying66 rfl sizeLg) hHeld ?_
          simp only [Act.put, List.setIfInBounds_toArray, List.set_cons_zero, List.set_cons_succ]
          refine wpAnyH_take (i := 6) (v := _) (by simp; rfl) (by kernel_rfl) (by kernel_rfl) (by kernel_rfl) (fun _ _ _ h => h) (yieldsIf_load_mid (by rfl) 48 (.tmp 7) rfl w2.heap.size 0 rfl (gcells 0 1 s.fin (.slice q N d)) _ (fun _ h => LAt.range (LAt.later R9.out.wt h)) Tryd.underlying48 rfl sizeR) hHeld ?_
          simp only [Act.put, List.setIfInBounds_toArray, List.set_cons_zero, List.set_cons_succ]
          refine wpAnyH_ready (rs := [5]) (by kernel_rfl) (by simp) ?_
          refine AllReadyH.cons (by simp; rfl) (fun Kc hKc => ?_) AllReadyH.nil
          go_simp
          refine (plain_any 0 1 s.fin q8 N c8 s.txs _ (X8.out.later D2.out) hwf (by omega) hms).mono ?_
          rintro e wp ⟨qp, dp, vp, rfl, xp, bp⟩
          have D3 : Hid (Below w9.heap.size w9 wp) := below_then D2.out bp
          have XP : Hid (XIn wp qp N s.txs) := by
            obtain ⟨a1, a2, a3, a4, -, -⟩ := XOwn.in xp
            rw [hN] at a3 a4
            cases a3
            exact a4
          refine hKc.out _ _ D3.out (fun hHeld => ?_)
          clear hKc Kc xp bp
          refine wpAnyH_ready (rs := [7]) (by kernel_rfl) (by simp) ?_
          refine AllReadyH.cons (by simp; rfl) (fun Kc hKc => ?_) AllReadyH.nil
          go_simp
          refine (same_eq 0 1 s.fin qp q N dp d s.txs wp XP.out ((R9.out.xin hN).later D3.out) (by omega) hms).mono ?_
          rintro e wq ⟨rfl, bq⟩
          have D4 : Hid (Below w9.heap.size w9 wq) := below_then D3.out bq
          refine hKc.out _ _ D4.out (fun hHeld => ?_)
          clear hKc Kc bq
          refine wpAnyH_take (i := 8) (v := ?va16) (by simp; rfl) (by kernel_rfl) (by kernel_rfl) (by kernel_rfl) (fun _ _ _ h => h) (Or.inl ⟨by rfl, ?ya16⟩) hHeld ?ra16
          case ya16 => intro w hSw; clear hSw; go_simp; with_reducible rfl
          simp only [Act.put, List.setIfInBounds_toArray, List.set_cons_zero, List.set_cons_succ]
          refine wpAnyH_take (i := 9) (v := ?va17) (by simp; rfl) (by kernel_rfl) (by kernel_rfl) (by kernel_rfl) (fun _ _ _ h => h) (Or.inl ⟨by rfl, ?ya17⟩) hHeld ?ra17
          case ya17 => intro w hSw; clear hSw; go_simp; with_reducible rfl
          simp only [Act.put, List.setIfInBounds_toArray, List.set_cons_zero, List.set_cons_succ]
          clear hHeld
          refine wpAnyH_done (by kernel_rfl) (NoPanic.normal ?_) _
          have FF : Hid (Below w.heap.size w wq) := below_then R9.out.low D4.out
          clear D2 D3 D4
          go_wp2_with fail
          go_ret
          exact ⟨rfl, FF.out⟩
end Go.Proofs.YtefnkjajjidfaaaDoor
