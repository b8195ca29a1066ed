/-
  Layer 14: LockAlone, the walk.
-/
import Derived.Test.YtkffmglcllhbmaaKn
namespace Go.Proofs.Ytkffmglcllhbmaa
open Go.RowKit

theorem info_bool : (Try.prog.info? 4).map (fun i => (i.zero, i.size, i.bytes)) = some (some (.bool false), 1, 1) := by kernel_rfl
theorem pick_k (x : Int) (K : Nat) (hK : 0 < K) (h10 : K ≤ 10) : ∃ k : Nat, k < K ∧ wrap64 ((x.tdiv 2).tmod K + K) = (x.tdiv 2).tmod K + K ∧ ((x.tdiv 2).tmod K + K).tmod K = (k : Int) := by
  have h1 := Int.tmod_lt_of_pos (x.tdiv 2) (show (0 : Int) < K by omega)
  have h2 := Int.lt_tmod_of_pos (x.tdiv 2) (show (0 : Int) < K by omega)
  have h3 : 0 ≤ ((x.tdiv 2).tmod K + K).tmod K := Int.tmod_nonneg _ (by omega)
  have h4 := Int.tmod_lt_of_pos ((x.tdiv 2).tmod K + K) (show (0 : Int) < K by omega)
  exact ⟨(((x.tdiv 2).tmod K + K).tmod K).toNat, by omega, by unfold wrap64; omega, by omega⟩
set_option maxHeartbeats 2000000 in
set_option maxRecDepth 100000 in
theorem lockAlone_any (w : World) (n0 : Int) {p : Option Addr} {m c : Nat} {xs : List Int} (hU : UIn w p m xs) (hx : ∀ x ∈ xs, U64 x) (hm : m ≤ 17592186044416) {pa : Option Addr} {ma ca : Nat} {zs : List Int} (hA : B.IIn w pa ma zs) (hr : ∀ x ∈ zs, -9223372036854775808 ≤ x ∧ x ≤ 9223372036854775807) (hma : ma ≤ 17592186044416) : Calls Try.prog 4 #[.int .i64 n0, .slice p m c, .slice pa ma ca] w fun e w' => e = .returned (.bool true) ∧ Below w.heap.size w w' := by
  have HU : Hid (UIn w p m xs ∧ ∀ x ∈ xs, U64 x) := ⟨hU, hx⟩
  have HA : Hid (B.IIn w pa ma zs ∧ ∀ x ∈ zs, -9223372036854775808 ≤ x ∧ x ≤ 9223372036854775807) := ⟨hA, hr⟩
  clear hU hx hA hr
  go_enter Try.func4, Try.ntmps4
  go_wp2_with fail
  refine (blocksOf_any n0 w).mono ?_
  rintro e w' ⟨N, rfl, hN, rfl⟩
  go_wp2_with fail
  refine (crowd_any w N hN.1 hN.2 HU.out.1 HU.out.2 hm).mono ?_
  rintro e w1 ⟨Q, pw, cw, W, rfl, h1, h2, hW⟩
  have H1 : Hid (Own w w1 Q 10 (crowdA N W) (fun _ => False) ∧ Wt w w1 (.slice pw W.length cw) W) := ⟨h1, h2⟩
  clear h1 h2
  go_wp2_with fail
  refine (awake_any w1).mono ?_
  rintro e w2 ⟨rfl, hb2⟩
  have H2 : Hid (Own w w2 Q 10 (crowdA N W) (fun _ => False) ∧ Wt w w2 (.slice pw W.length cw) W) := ⟨H1.out.1.later hb2, H1.out.2.later hb2⟩
  clear H1 hb2
  have hmk := run_make_row' (P := Try.prog) 37 3 (.int .i64 0) 8 Try.underlying37 B.info3 rfl .i64 .i64 W.length (by omega) (by omega) w2
  have hmk2 := run_make_row' (P := Try.prog) 44 4 (.bool false) 1 Try.underlying44 info_bool rfl .i64 .i64 W.length (by omega) (by omega) (w2.alloc (.cells (madeCells #[.int .i64 0] W.length) 3))
  rw [frow_made] at hmk hmk2
  rw [frow_made] at hmk2
  have HS0 : Hid (St w ((w2.alloc (.cells (frow (fun _ => .int .i64 0) W.length).toArray 3)).alloc (.cells (frow (fun _ => .bool false) W.length).toArray 4)) Q 10 N (.slice pw W.length cw) W w2.heap.size (w2.heap.size + 1) (fun _ => 0) (fun _ => false)) := by
    have b1 := below_alloc w2 (.cells (frow (fun _ => .int .i64 0) W.length).toArray 3)
    have b2 := below_alloc (w2.alloc (.cells (frow (fun _ => .int .i64 0) W.length).toArray 3)) (.cells (frow (fun _ => .bool false) W.length).toArray 4)
    have hs := H2.out.1.below.size
    refine ⟨((H2.out.1.add (Y := (· = w2.heap.size)) b1 (fun b e => ⟨by omega, by rw [e]; simp⟩)).later b2).less (fun b e => .inr e), (H2.out.2.later b1).later b2, ?_, ?_, fun x hx b hb => ((H2.out.2.frm x hx).1.lt hb).1, hs, by omega⟩
    · exact (b2.block _ (by simp)).trans (heap_alloc_new w2 _)
    · have := heap_alloc_new (w2.alloc (.cells (frow (fun _ => .int .i64 0) W.length).toArray 3)) (.cells (frow (fun _ => .bool false) W.length).toArray 4)
      rw [World.size_alloc] at this
      exact this
  obtain ⟨o1, ho1⟩ : ∃ o, Obj.cells (frow (fun _ => .int .i64 0) W.length).toArray 3 = o := ⟨_, rfl⟩
  obtain ⟨o2, ho2⟩ : ∃ o, Obj.cells (frow (fun _ => .bool false) W.length).toArray 4 = o := ⟨_, rfl⟩
  rw [ho1, ho2] at HS0
  rw [ho1] at hmk
  rw [ho1, ho2] at hmk2
  have HSL : Hid (∀ i, i < W.length → (SW W i).length ≤ 64) := fun i hi => H2.out.1.ok.slen (mem_entF.2 (⟨i, hi, rfl, rfl⟩ : ∃ j, j < W.length ∧ (fun _ => false) j = false ∧ (⟨(i : Int) + 1, SW W i, 0⟩ : En) = ⟨(j : Int) + 1, SW W j, (fun _ => 0) j⟩))
  clear ho1 ho2 H2
  go_wp2
  clear hmk hmk2
  go_loopw [12] (fun i wr => ∃ (x : Nat) (d : Nat → Nat) (g : Nat → Bool), x ≤ ma ∧ x ≤ 80 ∧ i = .int .i64 x ∧ Hid (St w wr Q (10 + x) N (.slice pw W.length cw) W w2.heap.size (w2.heap.size + 1) d g)) (fun i _ => 80 - (intOf i).toNat)
  case atStart => exact ⟨0, _, _, Nat.zero_le _, Nat.zero_le _, rfl, HS0.out⟩
  case round =>
    obtain ⟨x, d, g, hxm, hx80, rfl, HS⟩ := hrel
    clear HS0
    by_cases hlt : x < ma ∧ x < 80 ∧ 0 < W.length
    · obtain ⟨hx1, hx2, hx3⟩ := hlt
      have j1 : (x : Int) < (ma : Int) := by omega
      have j2 : (x : Int) < 80 := by omega
      have j3 : (0 : Int) < (W.length : Int) := by omega
      obtain ⟨ba, oa, rfl, hcs⟩ := HA.out.1.cells (by omega)
      have ca1 : wr.cell? ⟨ba, oa + x, none⟩ = some (.int .i64 (zs.getD x 0)) := (HS.out.own.below.cell (p := ⟨ba, oa + x, none⟩) (World.block_lt_of_cell? w _ (hcs x hx1))).trans (hcs x hx1)
      obtain ⟨k, hk, ek1, ek2⟩ := pick_k (zs.getD x 0) W.length hx3 hW
      have hyr := HA.out.2 (zs.getD x 0) (by rw [List.getD, List.getElem?_eq_getElem (by have := HA.out.1.len; omega)]; exact List.getElem_mem _)
      have ey : wrap64 ((zs.getD x 0).tdiv 2) = (zs.getD x 0).tdiv 2 := by
        have : (zs.getD x 0).tdiv 2 * 2 + (zs.getD x 0).tmod 2 = zs.getD x 0 := Int.tdiv_mul_add_tmod _ _
        have h1 := Int.tmod_lt_of_pos (zs.getD x 0) (show (0 : Int) < 2 by omega)
        have h2 := Int.lt_tmod_of_pos (zs.getD x 0) (show (0 : Int) < 2 by omega)
        unfold wrap64; omega
      clear hyr
      clear hcs
      generalize zs.getD x 0 = y at *
      have hkl : (k : Int) < (W.length : Int) := by omega
      have HKU : Hid (U64 ((k : Int) + 1)) := u64_small (by omega) (by omega)
      have hn : 10 + x ≤ 10000 := by omega
      have HCG : Hid (∀ w', Below wr.heap.size wr w' → Fr w' W.length (SW W) d g pw (some ⟨w2.heap.size, 0, none⟩) (some ⟨w2.heap.size + 1, 0, none⟩)) := fun w' hb => (HS.out.later hb).fr
      cases hodd : (y.tmod 2 != 0) with
      | true =>
        have HIN : Hid (isIn (entF W.length (SW W) d g) ((k : Int) + 1) = !g k) := by
          show _ = _
          rw [isIn_entF, decide_eq_true hk]; rfl
        have HDS : Hid (drpS ⟨N, W.length, entF W.length (SW W) d g⟩ ((k : Int) + 1) = ⟨N, W.length, entF W.length (SW W) d (upd g k true)⟩) := by
          show Lk.mk _ _ _ = _
          rw [entF_drp W.length (SW W) d g (upd g k true) k (upd_same _ _ _) (fun i hi => upd_other _ _ hi)]
        go_wp2_with fail
        cases hg : g k with
        | true =>
          rw [hg] at HIN
          refine (o_drop HS.out.own hn HKU.out (x := 0) (E := 110) (by show ((ent (entF W.length (SW W) d g) ((k : Int) + 1)).d : Int) = 0; rw [(out_nx HIN.out).2.2.2.1]; rfl) (if_pos HIN.out) HDS.out).mono ?_
          rintro e w3 ⟨rfl, o3, k3⟩
          have H3 : Hid (Own w w3 Q (10 + x) ⟨N, W.length, entF W.length (SW W) d (upd g k true)⟩ (· = w2.heap.size) ∧ Ks wr w3) := ⟨o3, k3⟩
          obtain ⟨cG, cD, fG, fD⟩ := HS.out.cells k3 hk
          rw [hg] at cG
          have HC : Hid (∀ w', Below w3.heap.size w3 w' → w'.cell? ⟨w2.heap.size + 1, k, none⟩ = some (.bool true) ∧ w'.cell? ⟨w2.heap.size, k, none⟩ = some (.int .i64 (d k)) ∧ True ∧ True) := fun w' hb => ⟨(hb.cell (p := ⟨w2.heap.size + 1, k, none⟩) (World.block_lt_of_cell? w3 _ cG)).trans cG, (hb.cell (p := ⟨w2.heap.size, k, none⟩) (World.block_lt_of_cell? w3 _ cD)).trans cD, trivial, trivial⟩
          have HFG : Hid (∀ w', Below w3.heap.size w3 w' → w'.frozen? ⟨w2.heap.size + 1, k, none⟩ = false) := fun w' hb => fG w' hb
          clear o3 k3 cG cD fG fD HIN HDS
          go_wp2_with fail
          refine wp_region_noPanic ?_
          refine wp_region_held_drew (S := fun w' => Below w3.heap.size w3 w') (by kernel_rfl) (below_drawn 1) (fun hHeld => ?_)
          have HBd : Hid (Below w3.heap.size w3 w3.drew) := hHeld
          generalize w3.drew = wd at *
          refine wpAnyH_take (i := 0) (v := ?va1) (by simp; rfl) (by kernel_rfl) (by kernel_rfl) (by kernel_rfl) (fun _ _ _ h => h) (Or.inl ⟨by rfl, ?ya1⟩) hHeld ?ra1
          case ya1 => intro w hSw; clear hSw; go_simp; with_reducible rfl
          simp only [Act.put, List.setIfInBounds_toArray, List.set_cons_zero, List.set_cons_succ]
          refine wpAnyH_take (i := 1) (v := ?va2) (by simp; rfl) (by kernel_rfl) (by kernel_rfl) (by kernel_rfl) (fun _ _ _ h => h) (Or.inl ⟨by rfl, ?ya2⟩) hHeld ?ra2
          case ya2 => intro w hSw; clear hSw; go_simp; with_reducible rfl
          simp only [Act.put, List.setIfInBounds_toArray, List.set_cons_zero, List.set_cons_succ]
          refine wpAnyH_take (i := 2) (v := ?va3) (by simp; rfl) (by kernel_rfl) (by kernel_rfl) (by kernel_rfl) (fun _ _ _ h => h) (Or.inl ⟨by rfl, ?ya3⟩) hHeld ?ra3
          case ya3 => intro w hSw; clear hSw; go_simp; with_reducible rfl
          simp only [Act.put, List.setIfInBounds_toArray, List.set_cons_zero, List.set_cons_succ]
          refine wpAnyH_take (i := 3) (v := ?va4) (by simp; rfl) (by kernel_rfl) (by kernel_rfl) (by kernel_rfl) (fun _ _ _ h => h) (Or.inl ⟨by rfl, ?ya4⟩) hHeld ?ra4
          case ya4 => intro w hSw; have z := HC.out w hSw |>.1; clear hSw; go_simp; with_reducible rfl
          simp only [Act.put, List.setIfInBounds_toArray, List.set_cons_zero, List.set_cons_succ]
          refine wpAnyH_take (i := 4) (v := ?va5) (by simp; rfl) (by kernel_rfl) (by kernel_rfl) (by kernel_rfl) (fun _ _ _ h => h) (Or.inl ⟨by rfl, ?ya5⟩) hHeld ?ra5
          case ya5 => intro w hSw; clear hSw; go_simp; with_reducible rfl
          simp only [Act.put, List.setIfInBounds_toArray, List.set_cons_zero, List.set_cons_succ]
          refine wpAnyH_ready (rs := [5]) (by kernel_rfl) (by simp) ?_
          refine AllReadyH.cons (by simp; rfl) (fun Kc hKc => ?_) AllReadyH.nil
          go_simp
          refine (num_is _ _).mono ?_
          rintro e w9 ⟨rfl, rfl⟩
          refine hKc.out _ _ hHeld (fun hHeld => ?_)
          clear hKc Kc
          refine wpAnyH_take (i := 6) (v := ?va6) (by simp; rfl) (by kernel_rfl) (by kernel_rfl) (by kernel_rfl) (fun _ _ _ h => h) (Or.inl ⟨by rfl, ?ya6⟩) hHeld ?ra6
          case ya6 => intro w hSw; clear hSw; go_simp; with_reducible rfl
          simp only [Act.put, List.setIfInBounds_toArray, List.set_cons_zero, List.set_cons_succ]
          refine wpAnyH_take (i := 7) (v := ?va7) (by simp; rfl) (by kernel_rfl) (by kernel_rfl) (by kernel_rfl) (fun _ _ _ h => h) (Or.inl ⟨by rfl, ?ya7⟩) hHeld ?ra7
          case ya7 => intro w hSw; clear hSw; go_simp; with_reducible rfl
          simp only [Act.put, List.setIfInBounds_toArray, List.set_cons_zero, List.set_cons_succ]
          refine wpAnyH_take (i := 8) (v := ?va8) (by simp; rfl) (by kernel_rfl) (by kernel_rfl) (by kernel_rfl) (fun _ _ _ h => h) (Or.inl ⟨by rfl, ?ya8⟩) hHeld ?ra8
          case ya8 => intro w hSw; clear hSw; go_simp; with_reducible rfl
          simp only [Act.put, List.setIfInBounds_toArray, List.set_cons_zero, List.set_cons_succ]
          refine wpAnyH_take (i := 9) (v := ?va9) (by simp; rfl) (by kernel_rfl) (by kernel_rfl) (by kernel_rfl) (fun _ _ _ h => h) (Or.inl ⟨by rfl, ?ya9⟩) hHeld ?ra9
          case ya9 => intro w hSw; clear hSw; go_simp; with_reducible rfl
          simp only [Act.put, List.setIfInBounds_toArray, List.set_cons_zero, List.set_cons_succ]
          refine wpAnyH_take (i := 10) (v := ?va10) (by simp; rfl) (by kernel_rfl) (by kernel_rfl) (by kernel_rfl) (fun _ _ _ h => h) (Or.inl ⟨by rfl, ?ya10⟩) hHeld ?ra10
          case ya10 => intro w hSw; clear hSw; go_simp; with_reducible rfl
          simp only [Act.put, List.setIfInBounds_toArray, List.set_cons_zero, List.set_cons_succ]
          refine wpAnyH_take (i := 11) (v := ?va11) (by simp; rfl) (by kernel_rfl) (by kernel_rfl) (by kernel_rfl) (fun _ _ _ h => h) (Or.inl ⟨by rfl, ?ya11⟩) hHeld ?ra11
          case ya11 => intro w hSw; clear hSw; go_simp; with_reducible rfl
          simp only [Act.put, List.setIfInBounds_toArray, List.set_cons_zero, List.set_cons_succ]
          refine wpAnyH_take (i := 12) (v := ?va12) (by simp; rfl) (by kernel_rfl) (by kernel_rfl) (by kernel_rfl) (fun _ _ _ h => h) (Or.inl ⟨by rfl, ?ya12⟩) hHeld ?ra12
          case ya12 => intro w hSw; have z := HC.out w hSw |>.1; clear hSw; go_simp; with_reducible rfl
          simp only [Act.put, List.setIfInBounds_toArray, List.set_cons_zero, List.set_cons_succ]
          refine wpAnyH_take (i := 13) (v := ?va13) (by simp; rfl) (by kernel_rfl) (by kernel_rfl) (by kernel_rfl) (fun _ _ _ h => h) (Or.inl ⟨by rfl, ?ya13⟩) hHeld ?ra13
          case ya13 => intro w hSw; clear hSw; go_simp; with_reducible rfl
          simp only [Act.put, List.setIfInBounds_toArray, List.set_cons_zero, List.set_cons_succ]
          refine wpAnyH_take (i := 14) (v := ?va14) (by simp; rfl) (by kernel_rfl) (by kernel_rfl) (by kernel_rfl) (fun _ _ _ h => h) (Or.inl ⟨by rfl, ?ya14⟩) hHeld ?ra14
          case ya14 => intro w hSw; clear hSw; go_simp; with_reducible rfl
          simp only [Act.put, List.setIfInBounds_toArray, List.set_cons_zero, List.set_cons_succ]
          refine wpAnyH_take (i := 15) (v := undef) (by simp; rfl) (by kernel_rfl) (by kernel_rfl) (by kernel_rfl) (fun _ _ _ h => h) (Or.inr ⟨by rfl, rfl⟩) hHeld ?_
          simp only [Act.put, List.setIfInBounds_toArray, List.set_cons_zero, List.set_cons_succ]
          refine wpAnyH_take (i := 16) (v := undef) (by simp; rfl) (by kernel_rfl) (by kernel_rfl) (by kernel_rfl) (fun _ _ _ h => h) (Or.inr ⟨by rfl, rfl⟩) hHeld ?_
          simp only [Act.put, List.setIfInBounds_toArray, List.set_cons_zero, List.set_cons_succ]
          refine wpAnyH_take (i := 17) (v := undef) (by simp; rfl) (by kernel_rfl) (by kernel_rfl) (by kernel_rfl) (fun _ _ _ h => h) (Or.inr ⟨by rfl, rfl⟩) hHeld ?_
          simp only [Act.put, List.setIfInBounds_toArray, List.set_cons_zero, List.set_cons_succ]
          refine wpAnyH_take (i := 18) (v := undef) (by simp; rfl) (by kernel_rfl) (by kernel_rfl) (by kernel_rfl) (fun _ _ _ h => h) (Or.inr ⟨by rfl, rfl⟩) hHeld ?_
          simp only [Act.put, List.setIfInBounds_toArray, List.set_cons_zero, List.set_cons_succ]
          refine wpAnyH_take (i := 19) (v := undef) (by simp; rfl) (by kernel_rfl) (by kernel_rfl) (by kernel_rfl) (fun _ _ _ h => h) (Or.inr ⟨by rfl, rfl⟩) hHeld ?_
          simp only [Act.put, List.setIfInBounds_toArray, List.set_cons_zero, List.set_cons_succ]
          refine wpAnyH_take (i := 20) (v := undef) (by simp; rfl) (by kernel_rfl) (by kernel_rfl) (by kernel_rfl) (fun _ _ _ h => h) (Or.inr ⟨by rfl, rfl⟩) hHeld ?_
          simp only [Act.put, List.setIfInBounds_toArray, List.set_cons_zero, List.set_cons_succ]
          refine wpAnyH_take (i := 21) (v := undef) (by simp; rfl) (by kernel_rfl) (by kernel_rfl) (by kernel_rfl) (fun _ _ _ h => h) (Or.inr ⟨by rfl, rfl⟩) hHeld ?_
          simp only [Act.put, List.setIfInBounds_toArray, List.set_cons_zero, List.set_cons_succ]
          refine wpAnyH_take (i := 22) (v := undef) (by simp; rfl) (by kernel_rfl) (by kernel_rfl) (by kernel_rfl) (fun _ _ _ h => h) (Or.inr ⟨by rfl, rfl⟩) hHeld ?_
          simp only [Act.put, List.setIfInBounds_toArray, List.set_cons_zero, List.set_cons_succ]
          refine wpAnyH_take (i := 23) (v := undef) (by simp; rfl) (by kernel_rfl) (by kernel_rfl) (by kernel_rfl) (fun _ _ _ h => h) (Or.inr ⟨by rfl, rfl⟩) hHeld ?_
          simp only [Act.put, List.setIfInBounds_toArray, List.set_cons_zero, List.set_cons_succ]
          refine wpAnyH_take (i := 24) (v := undef) (by simp; rfl) (by kernel_rfl) (by kernel_rfl) (by kernel_rfl) (fun _ _ _ h => h) (Or.inr ⟨by rfl, rfl⟩) hHeld ?_
          simp only [Act.put, List.setIfInBounds_toArray, List.set_cons_zero, List.set_cons_succ]
          refine wpAnyH_take (i := 25) (v := undef) (by simp; rfl) (by kernel_rfl) (by kernel_rfl) (by kernel_rfl) (fun _ _ _ h => h) (Or.inr ⟨by rfl, rfl⟩) hHeld ?_
          simp only [Act.put, List.setIfInBounds_toArray, List.set_cons_zero, List.set_cons_succ]
          refine wpAnyH_take (i := 26) (v := ?va15) (by simp; rfl) (by kernel_rfl) (by kernel_rfl) (by kernel_rfl) (fun _ _ _ h => h) (Or.inl ⟨by rfl, ?ya15⟩) hHeld ?ra15
          case ya15 => intro w hSw; clear hSw; go_simp; with_reducible rfl
          simp only [Act.put, List.setIfInBounds_toArray, List.set_cons_zero, List.set_cons_succ]
          refine wpAnyH_take (i := 27) (v := ?va16) (by simp; rfl) (by kernel_rfl) (by kernel_rfl) (by kernel_rfl) (fun _ _ _ h => h) (Or.inl ⟨by rfl, ?ya16⟩) hHeld ?ra16
          case ya16 => intro w hSw; clear hSw; go_simp; with_reducible rfl
          simp only [Act.put, List.setIfInBounds_toArray, List.set_cons_zero, List.set_cons_succ]
          refine wpAnyH_done (by kernel_rfl) (NoPanic.normal ?_) _
          have cG := (HC.out _ hHeld).1
          have fG := HFG.out _ hHeld
          have HS4 : Hid (St w (wd.setCell ⟨w2.heap.size + 1, k, none⟩ (.bool true)) Q (10 + x) N (.slice pw W.length cw) W w2.heap.size (w2.heap.size + 1) d (upd g k true)) := HS.out.gone (H3.out.2.trans (Ks.of_below hHeld)) (H3.out.1.later hHeld) rfl
          clear HC HFG hHeld H3 HCG HS
          go_wp2_with fail
          refine (fair_try HS4.out.own (by omega) hW HSL.out HS4.out.fr).mono ?_
          rintro e w5 ⟨rfl, hb5⟩
          have H5 : Hid (St w w5 Q (10 + (x + 1)) N (.slice pw W.length cw) W w2.heap.size (w2.heap.size + 1) d (upd g k true)) := (HS4.out.later hb5).mono (by omega)
          clear HS4 hb5
          go_wp2
          go_roundw
          case rel => exact ⟨x + 1, d, upd g k true, by omega, by omega, by go_num, H5.out⟩
          case measure => simp [intOf]; omega
        | false =>
          rw [hg] at HIN
          refine (o_drop HS.out.own hn HKU.out (x := d k) (E := 0) (by show ((ent (entF W.length (SW W) d g) ((k : Int) + 1)).d : Int) = d k; rw [ent_entF HS.out.own.ok.rise hk hg]) (if_neg (by rw [show isIn (Lk.L ⟨N, W.length, entF W.length (SW W) d g⟩) ((k : Int) + 1) = true from HIN.out]; simp)) HDS.out).mono ?_
          rintro e w3 ⟨rfl, o3, k3⟩
          have H3 : Hid (Own w w3 Q (10 + x) ⟨N, W.length, entF W.length (SW W) d (upd g k true)⟩ (· = w2.heap.size) ∧ Ks wr w3) := ⟨o3, k3⟩
          obtain ⟨cG, cD, fG, fD⟩ := HS.out.cells k3 hk
          rw [hg] at cG
          have HC : Hid (∀ w', Below w3.heap.size w3 w' → w'.cell? ⟨w2.heap.size + 1, k, none⟩ = some (.bool false) ∧ w'.cell? ⟨w2.heap.size, k, none⟩ = some (.int .i64 (d k)) ∧ True ∧ True) := fun w' hb => ⟨(hb.cell (p := ⟨w2.heap.size + 1, k, none⟩) (World.block_lt_of_cell? w3 _ cG)).trans cG, (hb.cell (p := ⟨w2.heap.size, k, none⟩) (World.block_lt_of_cell? w3 _ cD)).trans cD, trivial, trivial⟩
          have HFG : Hid (∀ w', Below w3.heap.size w3 w' → w'.frozen? ⟨w2.heap.size + 1, k, none⟩ = false) := fun w' hb => fG w' hb
          have hdd : ((d k : Int) != (d k : Int)) = false := by simp
          clear o3 k3 cG cD fG fD HIN HDS
          go_wp2_with fail
          refine wp_region_noPanic ?_
          refine wp_region_held_drew (S := fun w' => Below w3.heap.size w3 w') (by kernel_rfl) (below_drawn 1) (fun hHeld => ?_)
          have HBd : Hid (Below w3.heap.size w3 w3.drew) := hHeld
          generalize w3.drew = wd at *
          refine wpAnyH_take (i := 0) (v := ?va17) (by simp; rfl) (by kernel_rfl) (by kernel_rfl) (by kernel_rfl) (fun _ _ _ h => h) (Or.inl ⟨by rfl, ?ya17⟩) hHeld ?ra17
          case ya17 => intro w hSw; clear hSw; go_simp; with_reducible rfl
          simp only [Act.put, List.setIfInBounds_toArray, List.set_cons_zero, List.set_cons_succ]
          refine wpAnyH_take (i := 1) (v := ?va18) (by simp; rfl) (by kernel_rfl) (by kernel_rfl) (by kernel_rfl) (fun _ _ _ h => h) (Or.inl ⟨by rfl, ?ya18⟩) hHeld ?ra18
          case ya18 => intro w hSw; clear hSw; go_simp; with_reducible rfl
          simp only [Act.put, List.setIfInBounds_toArray, List.set_cons_zero, List.set_cons_succ]
          refine wpAnyH_take (i := 2) (v := ?va19) (by simp; rfl) (by kernel_rfl) (by kernel_rfl) (by kernel_rfl) (fun _ _ _ h => h) (Or.inl ⟨by rfl, ?ya19⟩) hHeld ?ra19
          case ya19 => intro w hSw; clear hSw; go_simp; with_reducible rfl
          simp only [Act.put, List.setIfInBounds_toArray, List.set_cons_zero, List.set_cons_succ]
          refine wpAnyH_take (i := 3) (v := ?va20) (by simp; rfl) (by kernel_rfl) (by kernel_rfl) (by kernel_rfl) (fun _ _ _ h => h) (Or.inl ⟨by rfl, ?ya20⟩) hHeld ?ra20
          case ya20 => intro w hSw; have z := HC.out w hSw |>.1; clear hSw; go_simp; with_reducible rfl
          simp only [Act.put, List.setIfInBounds_toArray, List.set_cons_zero, List.set_cons_succ]
          refine wpAnyH_take (i := 4) (v := ?va21) (by simp; rfl) (by kernel_rfl) (by kernel_rfl) (by kernel_rfl) (fun _ _ _ h => h) (Or.inl ⟨by rfl, ?ya21⟩) hHeld ?ra21
          case ya21 => intro w hSw; clear hSw; go_simp; with_reducible rfl
          simp only [Act.put, List.setIfInBounds_toArray, List.set_cons_zero, List.set_cons_succ]
          refine wpAnyH_ready (rs := [5]) (by kernel_rfl) (by simp) ?_
          refine AllReadyH.cons (by simp; rfl) (fun Kc hKc => ?_) AllReadyH.nil
          go_simp
          refine (num_is _ _).mono ?_
          rintro e w9 ⟨rfl, rfl⟩
          refine hKc.out _ _ hHeld (fun hHeld => ?_)
          clear hKc Kc
          refine wpAnyH_take (i := 6) (v := ?va22) (by simp; rfl) (by kernel_rfl) (by kernel_rfl) (by kernel_rfl) (fun _ _ _ h => h) (Or.inl ⟨by rfl, ?ya22⟩) hHeld ?ra22
          case ya22 => intro w hSw; clear hSw; go_simp; with_reducible rfl
          simp only [Act.put, List.setIfInBounds_toArray, List.set_cons_zero, List.set_cons_succ]
          refine wpAnyH_take (i := 7) (v := ?va23) (by simp; rfl) (by kernel_rfl) (by kernel_rfl) (by kernel_rfl) (fun _ _ _ h => h) (Or.inl ⟨by rfl, ?ya23⟩) hHeld ?ra23
          case ya23 => intro w hSw; clear hSw; go_simp; with_reducible rfl
          simp only [Act.put, List.setIfInBounds_toArray, List.set_cons_zero, List.set_cons_succ]
          refine wpAnyH_take (i := 8) (v := ?va24) (by simp; rfl) (by kernel_rfl) (by kernel_rfl) (by kernel_rfl) (fun _ _ _ h => h) (Or.inl ⟨by rfl, ?ya24⟩) hHeld ?ra24
          case ya24 => intro w hSw; clear hSw; go_simp; with_reducible rfl
          simp only [Act.put, List.setIfInBounds_toArray, List.set_cons_zero, List.set_cons_succ]
          refine wpAnyH_take (i := 9) (v := ?va25) (by simp; rfl) (by kernel_rfl) (by kernel_rfl) (by kernel_rfl) (fun _ _ _ h => h) (Or.inl ⟨by rfl, ?ya25⟩) hHeld ?ra25
          case ya25 => intro w hSw; clear hSw; go_simp; with_reducible rfl
          simp only [Act.put, List.setIfInBounds_toArray, List.set_cons_zero, List.set_cons_succ]
          refine wpAnyH_take (i := 10) (v := ?va26) (by simp; rfl) (by kernel_rfl) (by kernel_rfl) (by kernel_rfl) (fun _ _ _ h => h) (Or.inl ⟨by rfl, ?ya26⟩) hHeld ?ra26
          case ya26 => intro w hSw; clear hSw; go_simp; with_reducible rfl
          simp only [Act.put, List.setIfInBounds_toArray, List.set_cons_zero, List.set_cons_succ]
          refine wpAnyH_take (i := 11) (v := ?va27) (by simp; rfl) (by kernel_rfl) (by kernel_rfl) (by kernel_rfl) (fun _ _ _ h => h) (Or.inl ⟨by rfl, ?ya27⟩) hHeld ?ra27
          case ya27 => intro w hSw; clear hSw; go_simp; with_reducible rfl
          simp only [Act.put, List.setIfInBounds_toArray, List.set_cons_zero, List.set_cons_succ]
          refine wpAnyH_take (i := 12) (v := ?va28) (by simp; rfl) (by kernel_rfl) (by kernel_rfl) (by kernel_rfl) (fun _ _ _ h => h) (Or.inl ⟨by rfl, ?ya28⟩) hHeld ?ra28
          case ya28 => intro w hSw; have z := HC.out w hSw |>.1; clear hSw; go_simp; with_reducible rfl
          simp only [Act.put, List.setIfInBounds_toArray, List.set_cons_zero, List.set_cons_succ]
          refine wpAnyH_take (i := 13) (v := ?va29) (by simp; rfl) (by kernel_rfl) (by kernel_rfl) (by kernel_rfl) (fun _ _ _ h => h) (Or.inl ⟨by rfl, ?ya29⟩) hHeld ?ra29
          case ya29 => intro w hSw; clear hSw; go_simp; with_reducible rfl
          simp only [Act.put, List.setIfInBounds_toArray, List.set_cons_zero, List.set_cons_succ]
          refine wpAnyH_take (i := 14) (v := ?va30) (by simp; rfl) (by kernel_rfl) (by kernel_rfl) (by kernel_rfl) (fun _ _ _ h => h) (Or.inl ⟨by rfl, ?ya30⟩) hHeld ?ra30
          case ya30 => intro w hSw; clear hSw; go_simp; with_reducible rfl
          simp only [Act.put, List.setIfInBounds_toArray, List.set_cons_zero, List.set_cons_succ]
          refine wpAnyH_take (i := 15) (v := ?va31) (by simp; rfl) (by kernel_rfl) (by kernel_rfl) (by kernel_rfl) (fun _ _ _ h => h) (Or.inl ⟨by rfl, ?ya31⟩) hHeld ?ra31
          case ya31 => intro w hSw; clear hSw; go_simp; with_reducible rfl
          simp only [Act.put, List.setIfInBounds_toArray, List.set_cons_zero, List.set_cons_succ]
          refine wpAnyH_ready (rs := [16]) (by kernel_rfl) (by simp) ?_
          refine AllReadyH.cons (by simp; rfl) (fun Kc hKc => ?_) AllReadyH.nil
          go_simp
          refine (num_is _ _).mono ?_
          rintro e w9 ⟨rfl, rfl⟩
          refine hKc.out _ _ hHeld (fun hHeld => ?_)
          clear hKc Kc
          refine wpAnyH_take (i := 17) (v := ?va32) (by simp; rfl) (by kernel_rfl) (by kernel_rfl) (by kernel_rfl) (fun _ _ _ h => h) (Or.inl ⟨by rfl, ?ya32⟩) hHeld ?ra32
          case ya32 => intro w hSw; clear hSw; go_simp; with_reducible rfl
          simp only [Act.put, List.setIfInBounds_toArray, List.set_cons_zero, List.set_cons_succ]
          refine wpAnyH_take (i := 18) (v := ?va33) (by simp; rfl) (by kernel_rfl) (by kernel_rfl) (by kernel_rfl) (fun _ _ _ h => h) (Or.inl ⟨by rfl, ?ya33⟩) hHeld ?ra33
          case ya33 => intro w hSw; clear hSw; go_simp; with_reducible rfl
          simp only [Act.put, List.setIfInBounds_toArray, List.set_cons_zero, List.set_cons_succ]
          refine wpAnyH_take (i := 19) (v := ?va34) (by simp; rfl) (by kernel_rfl) (by kernel_rfl) (by kernel_rfl) (fun _ _ _ h => h) (Or.inl ⟨by rfl, ?ya34⟩) hHeld ?ra34
          case ya34 => intro w hSw; clear hSw; go_simp; with_reducible rfl
          simp only [Act.put, List.setIfInBounds_toArray, List.set_cons_zero, List.set_cons_succ]
          refine wpAnyH_take (i := 20) (v := ?va35) (by simp; rfl) (by kernel_rfl) (by kernel_rfl) (by kernel_rfl) (fun _ _ _ h => h) (Or.inl ⟨by rfl, ?ya35⟩) hHeld ?ra35
          case ya35 => intro w hSw; clear hSw; go_simp; with_reducible rfl
          simp only [Act.put, List.setIfInBounds_toArray, List.set_cons_zero, List.set_cons_succ]
          refine wpAnyH_take (i := 21) (v := ?va36) (by simp; rfl) (by kernel_rfl) (by kernel_rfl) (by kernel_rfl) (fun _ _ _ h => h) (Or.inl ⟨by rfl, ?ya36⟩) hHeld ?ra36
          case ya36 => intro w hSw; clear hSw; go_simp; with_reducible rfl
          simp only [Act.put, List.setIfInBounds_toArray, List.set_cons_zero, List.set_cons_succ]
          refine wpAnyH_take (i := 22) (v := ?va37) (by simp; rfl) (by kernel_rfl) (by kernel_rfl) (by kernel_rfl) (fun _ _ _ h => h) (Or.inl ⟨by rfl, ?ya37⟩) hHeld ?ra37
          case ya37 => intro w hSw; clear hSw; go_simp; with_reducible rfl
          simp only [Act.put, List.setIfInBounds_toArray, List.set_cons_zero, List.set_cons_succ]
          refine wpAnyH_take (i := 23) (v := ?va38) (by simp; rfl) (by kernel_rfl) (by kernel_rfl) (by kernel_rfl) (fun _ _ _ h => h) (Or.inl ⟨by rfl, ?ya38⟩) hHeld ?ra38
          case ya38 => intro w hSw; have z := (HC.out w hSw).2.1; clear hSw; go_simp; with_reducible rfl
          simp only [Act.put, List.setIfInBounds_toArray, List.set_cons_zero, List.set_cons_succ]
          refine wpAnyH_take (i := 24) (v := ?va39) (by simp; rfl) (by kernel_rfl) (by kernel_rfl) (by kernel_rfl) (fun _ _ _ h => h) (Or.inl ⟨by rfl, ?ya39⟩) hHeld ?ra39
          case ya39 => intro w hSw; clear hSw; go_simp; with_reducible rfl
          simp only [Act.put, List.setIfInBounds_toArray, List.set_cons_zero, List.set_cons_succ]
          refine wpAnyH_take (i := 25) (v := ?va40) (by simp; rfl) (by kernel_rfl) (by kernel_rfl) (by kernel_rfl) (fun _ _ _ h => h) (Or.inl ⟨by rfl, ?ya40⟩) hHeld ?ra40
          case ya40 => intro w hSw; clear hSw; go_simp; with_reducible rfl
          simp only [Act.put, List.setIfInBounds_toArray, List.set_cons_zero, List.set_cons_succ]
          refine wpAnyH_take (i := 26) (v := ?va41) (by simp; rfl) (by kernel_rfl) (by kernel_rfl) (by kernel_rfl) (fun _ _ _ h => h) (Or.inl ⟨by rfl, ?ya41⟩) hHeld ?ra41
          case ya41 => intro w hSw; clear hSw; go_simp; with_reducible rfl
          simp only [Act.put, List.setIfInBounds_toArray, List.set_cons_zero, List.set_cons_succ]
          refine wpAnyH_take (i := 27) (v := ?va42) (by simp; rfl) (by kernel_rfl) (by kernel_rfl) (by kernel_rfl) (fun _ _ _ h => h) (Or.inl ⟨by rfl, ?ya42⟩) hHeld ?ra42
          case ya42 => intro w hSw; clear hSw; go_simp; with_reducible rfl
          simp only [Act.put, List.setIfInBounds_toArray, List.set_cons_zero, List.set_cons_succ]
          refine wpAnyH_done (by kernel_rfl) (NoPanic.normal ?_) _
          have cG := (HC.out _ hHeld).1
          have fG := HFG.out _ hHeld
          have HS4 : Hid (St w (wd.setCell ⟨w2.heap.size + 1, k, none⟩ (.bool true)) Q (10 + x) N (.slice pw W.length cw) W w2.heap.size (w2.heap.size + 1) d (upd g k true)) := HS.out.gone (H3.out.2.trans (Ks.of_below hHeld)) (H3.out.1.later hHeld) rfl
          clear HC HFG hHeld H3 HCG HS
          go_wp2_with fail
          refine (fair_try HS4.out.own (by omega) hW HSL.out HS4.out.fr).mono ?_
          rintro e w5 ⟨rfl, hb5⟩
          have H5 : Hid (St w w5 Q (10 + (x + 1)) N (.slice pw W.length cw) W w2.heap.size (w2.heap.size + 1) d (upd g k true)) := (HS4.out.later hb5).mono (by omega)
          clear HS4 hb5
          go_wp2
          go_roundw
          case rel => exact ⟨x + 1, d, upd g k true, by omega, by omega, by go_num, H5.out⟩
          case measure => simp [intOf]; omega
      | false =>
        go_wp2_with fail
        by_cases h0 : takE (entF W.length (SW W) d g) ((k : Int) + 1) = 0
        · obtain ⟨t1, t2, t3⟩ := takE_zero.1 h0
          have hg : g k = false := by
            rw [isIn_entF] at t1
            cases hg : g k with
            | false => rfl
            | true => rw [hg] at t1; simp at t1
          have he := ent_entF HS.out.own.ok.rise hk hg
          have hdl : d k < (SW W k).length := by
            rw [show ent (entF W.length (SW W) d g) ((k : Int) + 1) = ⟨(k : Int) + 1, SW W k, d k⟩ from he] at t2
            simpa [En.nxB] using t2
          have HNX : Hid (takN (entF W.length (SW W) d g) ((k : Int) + 1) = (SW W k).getD (d k) 0) := by
            show _ = _
            unfold takN
            rw [if_pos h0, show ent (entF W.length (SW W) d g) ((k : Int) + 1) = ⟨(k : Int) + 1, SW W k, d k⟩ from he]
            simp [En.nx, hdl]
          have HTS : Hid (takS ⟨N, W.length, entF W.length (SW W) d g⟩ ((k : Int) + 1) = ⟨N, W.length, entF W.length (SW W) (upd d k (d k + 1)) g⟩) := by
            show Lk.mk _ _ _ = _
            unfold takL
            rw [show takE (Lk.L ⟨N, W.length, entF W.length (SW W) d g⟩) ((k : Int) + 1) = 0 from h0, if_pos rfl]
            show Lk.mk N W.length ((entF W.length (SW W) d g).map (bmp ((k : Int) + 1))) = _
            rw [entF_bmp W.length (SW W) d (upd d k (d k + 1)) g k (upd_same _ _ _) (fun i hi => upd_other _ _ hi)]
          have hd64 := HSL.out k hk
          clear t1 t2 t3 he
          refine (o_take HS.out.own (by omega) HKU.out (x := (SW W k).getD (d k) 0) (E := 0) HNX.out h0 HTS.out).mono ?_
          rintro e w3 ⟨rfl, o3, k3⟩
          have H3 : Hid (Own w w3 Q (10 + x + 1) ⟨N, W.length, entF W.length (SW W) (upd d k (d k + 1)) g⟩ (· = w2.heap.size) ∧ Ks wr w3) := ⟨o3, k3⟩
          obtain ⟨cG, cD, fG, fD⟩ := HS.out.cells k3 hk
          rw [hg] at cG
          obtain ⟨bw, ow, ps, cs, rfl, cW, hI, _, _⟩ := (HS.out.wt.ks k3).rd k hk
          obtain ⟨bs, os, rfl, hcs⟩ := hI.cells (by omega)
          have cS := hcs (d k) hdl
          have HC : Hid (∀ w', Below w3.heap.size w3 w' → w'.cell? ⟨w2.heap.size + 1, k, none⟩ = some (.bool false) ∧ w'.cell? ⟨w2.heap.size, k, none⟩ = some (.int .i64 (d k)) ∧ w'.cell? ⟨bw, ow + k, none⟩ = some (.slice (some ⟨bs, os, none⟩) (SW W k).length cs) ∧ w'.cell? ⟨bs, os + d k, none⟩ = some (.int .i64 ((SW W k).getD (d k) 0))) := fun w' hb => ⟨(hb.cell (p := ⟨w2.heap.size + 1, k, none⟩) (World.block_lt_of_cell? w3 _ cG)).trans cG, (hb.cell (p := ⟨w2.heap.size, k, none⟩) (World.block_lt_of_cell? w3 _ cD)).trans cD, (hb.cell (p := ⟨bw, ow + k, none⟩) (World.block_lt_of_cell? w3 _ cW)).trans cW, (hb.cell (p := ⟨bs, os + d k, none⟩) (World.block_lt_of_cell? w3 _ cS)).trans cS⟩
          have HFD : Hid (∀ w', Below w3.heap.size w3 w' → w'.frozen? ⟨w2.heap.size, k, none⟩ = false) := fun w' hb => fD w' hb
          have j4 : (d k : Int) < ((SW W k).length : Int) := by omega
          have j5 : ¬ ((SW W k).length : Int) ≤ (d k : Int) := by omega
          have j7 : ¬ (SW W k).length ≤ d k := by omega
          have hdd : ((SW W k).getD (d k) 0 != (SW W k).getD (d k) 0) = false := by simp
          have j6 : wrap64 ((d k : Int) + 1) = (d k : Int) + 1 := by unfold wrap64; omega
          clear o3 k3 cG cD fG fD hcs hI cW cS HNX HTS
          go_wp2_with (go_at_call 13; refine (num_is _ _).mono ?_; rintro e w' ⟨rfl, rfl⟩)
          refine wp_region_noPanic ?_
          refine wp_region_held_drew (S := fun w' => Below w3.heap.size w3 w') (by kernel_rfl) (below_drawn 1) (fun hHeld => ?_)
          have HBd : Hid (Below w3.heap.size w3 w3.drew) := hHeld
          generalize w3.drew = wd at *
          refine wpAnyH_take (i := 0) (v := ?va43) (by simp; rfl) (by kernel_rfl) (by kernel_rfl) (by kernel_rfl) (fun _ _ _ h => h) (Or.inl ⟨by rfl, ?ya43⟩) hHeld ?ra43
          case ya43 => intro w hSw; clear hSw; go_simp; with_reducible rfl
          simp only [Act.put, List.setIfInBounds_toArray, List.set_cons_zero, List.set_cons_succ]
          refine wpAnyH_take (i := 1) (v := ?va44) (by simp; rfl) (by kernel_rfl) (by kernel_rfl) (by kernel_rfl) (fun _ _ _ h => h) (Or.inl ⟨by rfl, ?ya44⟩) hHeld ?ra44
          case ya44 => intro w hSw; clear hSw; go_simp; with_reducible rfl
          simp only [Act.put, List.setIfInBounds_toArray, List.set_cons_zero, List.set_cons_succ]
          refine wpAnyH_take (i := 2) (v := ?va45) (by simp; rfl) (by kernel_rfl) (by kernel_rfl) (by kernel_rfl) (fun _ _ _ h => h) (Or.inl ⟨by rfl, ?ya45⟩) hHeld ?ra45
          case ya45 => intro w hSw; clear hSw; go_simp; with_reducible rfl
          simp only [Act.put, List.setIfInBounds_toArray, List.set_cons_zero, List.set_cons_succ]
          refine wpAnyH_take (i := 3) (v := ?va46) (by simp; rfl) (by kernel_rfl) (by kernel_rfl) (by kernel_rfl) (fun _ _ _ h => h) (Or.inl ⟨by rfl, ?ya46⟩) hHeld ?ra46
          case ya46 => intro w hSw; have z := HC.out w hSw |>.1; clear hSw; go_simp; with_reducible rfl
          simp only [Act.put, List.setIfInBounds_toArray, List.set_cons_zero, List.set_cons_succ]
          refine wpAnyH_take (i := 4) (v := ?va47) (by simp; rfl) (by kernel_rfl) (by kernel_rfl) (by kernel_rfl) (fun _ _ _ h => h) (Or.inl ⟨by rfl, ?ya47⟩) hHeld ?ra47
          case ya47 => intro w hSw; clear hSw; go_simp; with_reducible rfl
          simp only [Act.put, List.setIfInBounds_toArray, List.set_cons_zero, List.set_cons_succ]
          refine wpAnyH_take (i := 5) (v := ?va48) (by simp; rfl) (by kernel_rfl) (by kernel_rfl) (by kernel_rfl) (fun _ _ _ h => h) (Or.inl ⟨by rfl, ?ya48⟩) hHeld ?ra48
          case ya48 => intro w hSw; clear hSw; go_simp; with_reducible rfl
          simp only [Act.put, List.setIfInBounds_toArray, List.set_cons_zero, List.set_cons_succ]
          refine wpAnyH_take (i := 6) (v := ?va49) (by simp; rfl) (by kernel_rfl) (by kernel_rfl) (by kernel_rfl) (fun _ _ _ h => h) (Or.inl ⟨by rfl, ?ya49⟩) hHeld ?ra49
          case ya49 => intro w hSw; clear hSw; go_simp; with_reducible rfl
          simp only [Act.put, List.setIfInBounds_toArray, List.set_cons_zero, List.set_cons_succ]
          refine wpAnyH_take (i := 7) (v := ?va50) (by simp; rfl) (by kernel_rfl) (by kernel_rfl) (by kernel_rfl) (fun _ _ _ h => h) (Or.inl ⟨by rfl, ?ya50⟩) hHeld ?ra50
          case ya50 => intro w hSw; clear hSw; go_simp; with_reducible rfl
          simp only [Act.put, List.setIfInBounds_toArray, List.set_cons_zero, List.set_cons_succ]
          refine wpAnyH_take (i := 8) (v := ?va51) (by simp; rfl) (by kernel_rfl) (by kernel_rfl) (by kernel_rfl) (fun _ _ _ h => h) (Or.inl ⟨by rfl, ?ya51⟩) hHeld ?ra51
          case ya51 => intro w hSw; have z := (HC.out w hSw).2.1; clear hSw; go_simp; with_reducible rfl
          simp only [Act.put, List.setIfInBounds_toArray, List.set_cons_zero, List.set_cons_succ]
          refine wpAnyH_take (i := 9) (v := ?va52) (by simp; rfl) (by kernel_rfl) (by kernel_rfl) (by kernel_rfl) (fun _ _ _ h => h) (Or.inl ⟨by rfl, ?ya52⟩) hHeld ?ra52
          case ya52 => intro w hSw; clear hSw; go_simp; with_reducible rfl
          simp only [Act.put, List.setIfInBounds_toArray, List.set_cons_zero, List.set_cons_succ]
          refine wpAnyH_take (i := 10) (v := ?va53) (by simp; rfl) (by kernel_rfl) (by kernel_rfl) (by kernel_rfl) (fun _ _ _ h => h) (Or.inl ⟨by rfl, ?ya53⟩) hHeld ?ra53
          case ya53 => intro w hSw; clear hSw; go_simp; with_reducible rfl
          simp only [Act.put, List.setIfInBounds_toArray, List.set_cons_zero, List.set_cons_succ]
          refine wpAnyH_take (i := 11) (v := ?va54) (by simp; rfl) (by kernel_rfl) (by kernel_rfl) (by kernel_rfl) (fun _ _ _ h => h) (Or.inl ⟨by rfl, ?ya54⟩) hHeld ?ra54
          case ya54 => intro w hSw; clear hSw; go_simp; with_reducible rfl
          simp only [Act.put, List.setIfInBounds_toArray, List.set_cons_zero, List.set_cons_succ]
          refine wpAnyH_take (i := 12) (v := ?va55) (by simp; rfl) (by kernel_rfl) (by kernel_rfl) (by kernel_rfl) (fun _ _ _ h => h) (Or.inl ⟨by rfl, ?ya55⟩) hHeld ?ra55
          case ya55 => intro w hSw; have z := (HC.out w hSw).2.2.1; clear hSw; go_simp; with_reducible rfl
          simp only [Act.put, List.setIfInBounds_toArray, List.set_cons_zero, List.set_cons_succ]
          refine wpAnyH_take (i := 13) (v := ?va56) (by simp; rfl) (by kernel_rfl) (by kernel_rfl) (by kernel_rfl) (fun _ _ _ h => h) (Or.inl ⟨by rfl, ?ya56⟩) hHeld ?ra56
          case ya56 => intro w hSw; clear hSw; go_simp; with_reducible rfl
          simp only [Act.put, List.setIfInBounds_toArray, List.set_cons_zero, List.set_cons_succ]
          refine wpAnyH_take (i := 14) (v := ?va57) (by simp; rfl) (by kernel_rfl) (by kernel_rfl) (by kernel_rfl) (fun _ _ _ h => h) (Or.inl ⟨by rfl, ?ya57⟩) hHeld ?ra57
          case ya57 => intro w hSw; clear hSw; go_simp; with_reducible rfl
          simp only [Act.put, List.setIfInBounds_toArray, List.set_cons_zero, List.set_cons_succ]
          refine wpAnyH_take (i := 15) (v := ?va58) (by simp; rfl) (by kernel_rfl) (by kernel_rfl) (by kernel_rfl) (fun _ _ _ h => h) (Or.inl ⟨by rfl, ?ya58⟩) hHeld ?ra58
          case ya58 => intro w hSw; clear hSw; go_simp; with_reducible rfl
          simp only [Act.put, List.setIfInBounds_toArray, List.set_cons_zero, List.set_cons_succ]
          refine wpAnyH_take (i := 16) (v := ?va59) (by simp; rfl) (by kernel_rfl) (by kernel_rfl) (by kernel_rfl) (fun _ _ _ h => h) (Or.inl ⟨by rfl, ?ya59⟩) hHeld ?ra59
          case ya59 => intro w hSw; clear hSw; go_simp; with_reducible rfl
          simp only [Act.put, List.setIfInBounds_toArray, List.set_cons_zero, List.set_cons_succ]
          refine wpAnyH_take (i := 17) (v := ?va60) (by simp; rfl) (by kernel_rfl) (by kernel_rfl) (by kernel_rfl) (fun _ _ _ h => h) (Or.inl ⟨by rfl, ?ya60⟩) hHeld ?ra60
          case ya60 => intro w hSw; clear hSw; go_simp; with_reducible rfl
          simp only [Act.put, List.setIfInBounds_toArray, List.set_cons_zero, List.set_cons_succ]
          refine wpAnyH_take (i := 18) (v := ?va61) (by simp; rfl) (by kernel_rfl) (by kernel_rfl) (by kernel_rfl) (fun _ _ _ h => h) (Or.inl ⟨by rfl, ?ya61⟩) hHeld ?ra61
          case ya61 => intro w hSw; clear hSw; go_simp; with_reducible rfl
          simp only [Act.put, List.setIfInBounds_toArray, List.set_cons_zero, List.set_cons_succ]
          refine wpAnyH_take (i := 19) (v := ?va62) (by simp; rfl) (by kernel_rfl) (by kernel_rfl) (by kernel_rfl) (fun _ _ _ h => h) (Or.inl ⟨by rfl, ?ya62⟩) hHeld ?ra62
          case ya62 => intro w hSw; clear hSw; go_simp; with_reducible rfl
          simp only [Act.put, List.setIfInBounds_toArray, List.set_cons_zero, List.set_cons_succ]
          refine wpAnyH_take (i := 20) (v := ?va63) (by simp; rfl) (by kernel_rfl) (by kernel_rfl) (by kernel_rfl) (fun _ _ _ h => h) (Or.inl ⟨by rfl, ?ya63⟩) hHeld ?ra63
          case ya63 => intro w hSw; clear hSw; go_simp; with_reducible rfl
          simp only [Act.put, List.setIfInBounds_toArray, List.set_cons_zero, List.set_cons_succ]
          refine wpAnyH_take (i := 21) (v := ?va64) (by simp; rfl) (by kernel_rfl) (by kernel_rfl) (by kernel_rfl) (fun _ _ _ h => h) (Or.inl ⟨by rfl, ?ya64⟩) hHeld ?ra64
          case ya64 => intro w hSw; have z := (HC.out w hSw).2.2.1; clear hSw; go_simp; with_reducible rfl
          simp only [Act.put, List.setIfInBounds_toArray, List.set_cons_zero, List.set_cons_succ]
          refine wpAnyH_take (i := 22) (v := ?va65) (by simp; rfl) (by kernel_rfl) (by kernel_rfl) (by kernel_rfl) (fun _ _ _ h => h) (Or.inl ⟨by rfl, ?ya65⟩) hHeld ?ra65
          case ya65 => intro w hSw; clear hSw; go_simp; with_reducible rfl
          simp only [Act.put, List.setIfInBounds_toArray, List.set_cons_zero, List.set_cons_succ]
          refine wpAnyH_take (i := 23) (v := ?va66) (by simp; rfl) (by kernel_rfl) (by kernel_rfl) (by kernel_rfl) (fun _ _ _ h => h) (Or.inl ⟨by rfl, ?ya66⟩) hHeld ?ra66
          case ya66 => intro w hSw; clear hSw; go_simp; with_reducible rfl
          simp only [Act.put, List.setIfInBounds_toArray, List.set_cons_zero, List.set_cons_succ]
          refine wpAnyH_take (i := 24) (v := ?va67) (by simp; rfl) (by kernel_rfl) (by kernel_rfl) (by kernel_rfl) (fun _ _ _ h => h) (Or.inl ⟨by rfl, ?ya67⟩) hHeld ?ra67
          case ya67 => intro w hSw; clear hSw; go_simp; with_reducible rfl
          simp only [Act.put, List.setIfInBounds_toArray, List.set_cons_zero, List.set_cons_succ]
          refine wpAnyH_take (i := 25) (v := ?va68) (by simp; rfl) (by kernel_rfl) (by kernel_rfl) (by kernel_rfl) (fun _ _ _ h => h) (Or.inl ⟨by rfl, ?ya68⟩) hHeld ?ra68
          case ya68 => intro w hSw; have z := (HC.out w hSw).2.1; clear hSw; go_simp; with_reducible rfl
          simp only [Act.put, List.setIfInBounds_toArray, List.set_cons_zero, List.set_cons_succ]
          refine wpAnyH_take (i := 26) (v := ?va69) (by simp; rfl) (by kernel_rfl) (by kernel_rfl) (by kernel_rfl) (fun _ _ _ h => h) (Or.inl ⟨by rfl, ?ya69⟩) hHeld ?ra69
          case ya69 => intro w hSw; clear hSw; go_simp; with_reducible rfl
          simp only [Act.put, List.setIfInBounds_toArray, List.set_cons_zero, List.set_cons_succ]
          refine wpAnyH_take (i := 27) (v := ?va70) (by simp; rfl) (by kernel_rfl) (by kernel_rfl) (by kernel_rfl) (fun _ _ _ h => h) (Or.inl ⟨by rfl, ?ya70⟩) hHeld ?ra70
          case ya70 => intro w hSw; have z := (HC.out w hSw).2.2.2; clear hSw; go_simp; with_reducible rfl
          simp only [Act.put, List.setIfInBounds_toArray, List.set_cons_zero, List.set_cons_succ]
          refine wpAnyH_take (i := 28) (v := ?va71) (by simp; rfl) (by kernel_rfl) (by kernel_rfl) (by kernel_rfl) (fun _ _ _ h => h) (Or.inl ⟨by rfl, ?ya71⟩) hHeld ?ra71
          case ya71 => intro w hSw; clear hSw; go_simp; with_reducible rfl
          simp only [Act.put, List.setIfInBounds_toArray, List.set_cons_zero, List.set_cons_succ]
          refine wpAnyH_take (i := 29) (v := ?va72) (by simp; rfl) (by kernel_rfl) (by kernel_rfl) (by kernel_rfl) (fun _ _ _ h => h) (Or.inl ⟨by rfl, ?ya72⟩) hHeld ?ra72
          case ya72 => intro w hSw; clear hSw; go_simp; with_reducible rfl
          simp only [Act.put, List.setIfInBounds_toArray, List.set_cons_zero, List.set_cons_succ]
          refine wpAnyH_done (by kernel_rfl) (NoPanic.normal ?_) _
          have cD := (HC.out _ hHeld).2.1
          have fD := HFD.out _ hHeld
          have HS4 : Hid (St w (wd.setCell ⟨w2.heap.size, k, none⟩ (.int .i64 ((d k : Int) + 1))) Q (10 + x + 1) N (.slice (some ⟨bw, ow, none⟩) W.length cw) W w2.heap.size (w2.heap.size + 1) (upd d k (d k + 1)) g) := HS.out.did (H3.out.2.trans (Ks.of_below hHeld)) (H3.out.1.later hHeld) rfl
          clear HC HFD hHeld H3 HCG HS
          go_wp2_with fail
          refine (fair_try HS4.out.own (by omega) hW HSL.out HS4.out.fr).mono ?_
          rintro e w5 ⟨rfl, hb5⟩
          have H5 : Hid (St w w5 Q (10 + (x + 1)) N (.slice (some ⟨bw, ow, none⟩) W.length cw) W w2.heap.size (w2.heap.size + 1) (upd d k (d k + 1)) g) := HS4.out.later hb5
          clear HS4 hb5
          go_wp2
          go_roundw
          case rel => exact ⟨x + 1, upd d k (d k + 1), g, by omega, by omega, by go_num, H5.out⟩
          case measure => simp [intOf]; omega
        · have hEb : (takE (entF W.length (SW W) d g) ((k : Int) + 1) == 0) = false := by simpa using h0
          refine (o_take HS.out.own (by omega) HKU.out (E := takE (entF W.length (SW W) d g) ((k : Int) + 1)) rfl rfl (a' := ⟨N, W.length, entF W.length (SW W) d g⟩) (by show Lk.mk _ _ _ = _; unfold takL; rw [if_neg h0])).mono ?_
          rintro e w3 ⟨rfl, o3, k3⟩
          have H3 : Hid (St w w3 Q (10 + x + 1) N (.slice pw W.length cw) W w2.heap.size (w2.heap.size + 1) d g) := HS.out.same k3 o3 rfl
          clear o3 k3 h0
          go_wp2_with (go_at_call 13; refine (num_is _ _).mono ?_; rintro e w' ⟨rfl, rfl⟩)
          refine (fair_try H3.out.own (by omega) hW HSL.out H3.out.fr).mono ?_
          rintro e w5 ⟨rfl, hb5⟩
          have H5 : Hid (St w w5 Q (10 + (x + 1)) N (.slice pw W.length cw) W w2.heap.size (w2.heap.size + 1) d g) := H3.out.later hb5
          clear H3 hb5
          go_wp2
          go_roundw
          case rel => exact ⟨x + 1, d, g, by omega, by omega, by go_num, H5.out⟩
          case measure => simp [intOf]; omega
    · by_cases e1 : x < ma
      · have j1 : (x : Int) < (ma : Int) := by omega
        by_cases e2 : x < 80
        · have j2 : (x : Int) < 80 := by omega
          have j3 : ¬ (0 : Int) < (W.length : Int) := by omega
          go_wp2
          go_ret
          exact ⟨rfl, HS.out.own.below⟩
        · have j2 : ¬ (x : Int) < 80 := by omega
          go_wp2
          go_ret
          exact ⟨rfl, HS.out.own.below⟩
      · have j1 : ¬ (x : Int) < (ma : Int) := by omega
        go_wp2
        go_ret
        exact ⟨rfl, HS.out.own.below⟩
end Go.Proofs.Ytkffmglcllhbmaa
