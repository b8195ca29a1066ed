/-
  SuperEncodes walked.
-/
import Derived.Test.YtcfofoddfhbkcaaDoorTa
namespace Go.Proofs.YtcfofoddfhbkcaaDoor
open Go.RowKit

set_option maxHeartbeats 8000000 in
set_option maxRecDepth 100000 in
theorem superEncodes_any (s : Sup) (hw : s.Wf) (w : World) (ht : Tab w) :
    Calls Tryd.prog 6 #[.agg (scells s).toArray] w fun e w' => e = .returned (.bool true) ∧ Below w.heap.size w w' := by
  have HT : Hid (Tab w) := ht
  have HW : Hid (s.Wf) := hw
  have R0 : Hid (SAt 26 (w.alloc (.cells (scells s).toArray 26)) w.heap.size s) := LAt.new 26 w _
  have B0 : Hid (Below w.heap.size w (w.alloc (.cells (scells s).toArray 26))) := below_alloc w _
  clear ht hw
  go_enter Tryd.func6, Tryd.ntmps6
  go_wp2_with fail
  generalize w.alloc (.cells (scells s).toArray 26) = w0 at *
  refine (awake_any w0 (HT.out.later B0.out)).mono ?_
  rintro e w1 ⟨rfl, b1⟩
  have R1 : Hid (SAt 26 w1 w.heap.size s) := LAt.later R0.out b1
  have B1 : Hid (Below w.heap.size w w1) := below_then B0.out b1
  have L1 : Hid (_) := SAt.load26 R1.out
  clear b1 R0 B0
  go_wp2_with ((with_reducible refine at_ops ?_); (first | (refine wpList_load_is (by rfl) 26 rfl rfl L1.out ?_)); simp only [Act.put, List.setIfInBounds_toArray, List.set_cons_zero, List.set_cons_succ])
  refine (refEncode_any s HW.out w1).mono ?_
  rintro e w2 ⟨p2, n2, c2, rfl, hn2, m2⟩
  have R2 : Hid (SAt 26 w2 w.heap.size s) := LAt.later R1.out m2.below
  have B2 : Hid (Below w.heap.size w w2) := below_then B1.out m2.below
  have E2 : Hid (BIn w2 p2 n2 (encT s)) := m2.read
  have L2 : Hid (_) := SAt.load26 R2.out
  clear m2 hn2 R1 B1 L1
  go_wp2_with ((with_reducible refine at_ops ?_); (first | (refine wpList_load_is (by rfl) 26 rfl rfl L2.out ?_)); simp only [Act.put, List.setIfInBounds_toArray, List.set_cons_zero, List.set_cons_succ])
  refine (back_any s w2).mono ?_
  rintro e w3 ⟨rfl, b3⟩
  have R3 : Hid (SAt 26 w3 w.heap.size s) := LAt.later R2.out b3
  have B3 : Hid (Below w.heap.size w w3) := below_then B2.out b3
  have E3 : Hid (BIn w3 p2 n2 (encT s)) := E2.out.later b3
  clear b3 R2 B2 E2 L2
  go_wp2_with fail
  refine (encode_any s HW.out w3 (HT.out.later B3.out)).mono ?_
  rintro e w4 ⟨p4, n4, c4, rfl, hn4, m4⟩
  have R4 : Hid (SAt 26 w4 w.heap.size s) := LAt.later R3.out m4.below
  have B4 : Hid (Below w.heap.size w w4) := below_then B3.out m4.below
  have E4 : Hid (BIn w4 p2 n2 (encT s)) := E3.out.later m4.below
  have F4 : Hid (BIn w4 p4 n4 (encT s)) := m4.read
  clear m4 hn4 R3 B3 E3
  obtain ⟨q, hq⟩ : ∃ q, q = chk s := ⟨_, rfl⟩
  have HQ : Hid (q = chk s) := hq
  have hqi : i64 q := by rw [hq]; exact chk_i64 s
  rw [← hq]
  obtain ⟨q', hq'⟩ : ∃ q, q = cfg s := ⟨_, rfl⟩
  have HQ' : Hid (q' = cfg s) := hq'
  have hqi' : i64 q' := by rw [hq']; exact cfg_i64 s
  have HI : Hid (i64 q ∧ i64 q') := ⟨hqi, hqi'⟩
  clear hq hq' hqi hqi'
  go_wp2_with fail
  refine wp_region_noPanic ?_
  refine wp_region_held_drew (S := fun w' => Below w4.heap.size w4 w') (by kernel_rfl) (below_drawn 1) (fun hHeld => ?_)
  have D4 : Hid (Below w4.heap.size w4 w4.drew) := hHeld
  generalize w4.drew = wd at *
  refine wpAnyH_take (i := 0) (v := ?va1) (by simp; rfl) (by kernel_rfl) (by kernel_rfl) (by kernel_rfl) (fun _ _ _ h => h) (Or.inl ⟨by rfl, ?ya1⟩) hHeld ?ra1
  case ya1 => intro w hSw; clear hSw; go_simp; with_reducible rfl
  simp only [Act.put, List.setIfInBounds_toArray, List.set_cons_zero, List.set_cons_succ]
  refine wpAnyH_take (i := 2) (v := ?va2) (by simp; rfl) (by kernel_rfl) (by kernel_rfl) (by kernel_rfl) (fun _ _ _ h => h) (Or.inl ⟨by rfl, ?ya2⟩) hHeld ?ra2
  case ya2 => intro w hSw; clear hSw; go_simp; with_reducible rfl
  simp only [Act.put, List.setIfInBounds_toArray, List.set_cons_zero, List.set_cons_succ]
  refine wpAnyH_ready (rs := [1]) (by kernel_rfl) (by simp) ?_
  refine AllReadyH.cons (by simp; rfl) (fun Kc hKc => ?_) AllReadyH.nil
  go_simp
  refine (num_any q HI.out.1 wd).mono ?_
  rintro e wz ⟨rfl, rfl⟩
  refine hKc.out _ _ D4.out (fun hHeld => ?_)
  clear hKc Kc
  refine wpAnyH_take (i := 3) (v := ?va3) (by simp; rfl) (by kernel_rfl) (by kernel_rfl) (by kernel_rfl) (fun _ _ _ h => h) (Or.inl ⟨by rfl, ?ya3⟩) hHeld ?ra3
  case ya3 => intro w hSw; clear hSw; go_simp; with_reducible rfl
  simp only [Act.put, List.setIfInBounds_toArray, List.set_cons_zero, List.set_cons_succ]
  refine wpAnyH_take (i := 4) (v := ?va4) (by simp; rfl) (by kernel_rfl) (by kernel_rfl) (by kernel_rfl) (fun _ _ _ h => h) (Or.inl ⟨by rfl, ?ya4⟩) hHeld ?ra4
  case ya4 => intro w hSw; clear hSw; go_simp; with_reducible rfl
  simp only [Act.put, List.setIfInBounds_toArray, List.set_cons_zero, List.set_cons_succ]
  refine wpAnyH_take (i := 5) (v := ?va5) (by simp; rfl) (by kernel_rfl) (by kernel_rfl) (by kernel_rfl) (fun _ _ _ h => h) (Or.inl ⟨by rfl, ?ya5⟩) hHeld ?ra5
  case ya5 => intro w hSw; clear hSw; go_simp; with_reducible rfl
  simp only [Act.put, List.setIfInBounds_toArray, List.set_cons_zero, List.set_cons_succ]
  refine wpAnyH_take (i := 6) (v := ?va6) (by simp; rfl) (by kernel_rfl) (by kernel_rfl) (by kernel_rfl) (fun _ _ _ h => h) (Or.inl ⟨by rfl, ?ya6⟩) hHeld ?ra6
  case ya6 => intro w hSw; have z1 := (F4.out.later hSw).str c4; clear hSw; go_simp; with_reducible rfl
  simp only [Act.put, List.setIfInBounds_toArray, List.set_cons_zero, List.set_cons_succ]
  refine wpAnyH_take (i := 7) (v := ?va7) (by simp; rfl) (by kernel_rfl) (by kernel_rfl) (by kernel_rfl) (fun _ _ _ h => h) (Or.inl ⟨by rfl, ?ya7⟩) hHeld ?ra7
  case ya7 => intro w hSw; clear hSw; go_simp; with_reducible rfl
  simp only [Act.put, List.setIfInBounds_toArray, List.set_cons_zero, List.set_cons_succ]
  refine wpAnyH_take (i := 8) (v := ?va8) (by simp; rfl) (by kernel_rfl) (by kernel_rfl) (by kernel_rfl) (fun _ _ _ h => h) (Or.inl ⟨by rfl, ?ya8⟩) hHeld ?ra8
  case ya8 => intro w hSw; have z1 := (E4.out.later hSw).str c2; clear hSw; go_simp; with_reducible rfl
  simp only [Act.put, List.setIfInBounds_toArray, List.set_cons_zero, List.set_cons_succ]
  refine wpAnyH_take (i := 9) (v := ?va9) (by simp; rfl) (by kernel_rfl) (by kernel_rfl) (by kernel_rfl) (fun _ _ _ h => h) (Or.inl ⟨by rfl, ?ya9⟩) hHeld ?ra9
  case ya9 => intro w hSw; clear hSw; go_simp; with_reducible rfl
  simp only [Act.put, List.setIfInBounds_toArray, List.set_cons_zero, List.set_cons_succ]
  refine wpAnyH_take (i := 10) (v := ?va10) (by simp; rfl) (by kernel_rfl) (by kernel_rfl) (by kernel_rfl) (fun _ _ _ h => h) (Or.inl ⟨by rfl, ?ya10⟩) hHeld ?ra10
  case ya10 => intro w hSw; clear hSw; go_simp; with_reducible rfl
  simp only [Act.put, List.setIfInBounds_toArray, List.set_cons_zero, List.set_cons_succ]
  refine wpAnyH_take (i := 11) (v := ?va11) (by simp; rfl) (by kernel_rfl) (by kernel_rfl) (by kernel_rfl) (fun _ _ _ h => h) (Or.inl ⟨by rfl, ?ya11⟩) hHeld ?ra11
  case ya11 => intro w hSw; clear hSw; go_simp; with_reducible rfl
  simp only [Act.put, List.setIfInBounds_toArray, List.set_cons_zero, List.set_cons_succ]
  refine wpAnyH_take (i := 12) (v := _) (by simp; rfl) (by kernel_rfl) (by kernel_rfl) (by kernel_rfl) (fun _ _ _ h => h) (yieldsIf_load_mid (by rfl) 26 (.tmp 1) rfl w.heap.size 0 rfl (scells s) _ (fun _ h => LAt.range (LAt.later R4.out h)) Tryd.underlying26 rfl (by rw [size26, scells_len])) hHeld ?_
  simp only [Act.put, List.setIfInBounds_toArray, List.set_cons_zero, List.set_cons_succ]
  refine wpAnyH_take (i := 16) (v := ?va12) (by simp; rfl) (by kernel_rfl) (by kernel_rfl) (by kernel_rfl) (fun _ _ _ h => h) (Or.inl ⟨by rfl, ?ya12⟩) hHeld ?ra12
  case ya12 => intro w hSw; clear hSw; go_simp; with_reducible rfl
  simp only [Act.put, List.setIfInBounds_toArray, List.set_cons_zero, List.set_cons_succ]
  refine wpAnyH_ready (rs := [13]) (by kernel_rfl) (by simp) ?_
  refine AllReadyH.cons (by simp; rfl) (fun Kc hKc => ?_) AllReadyH.nil
  go_simp
  refine (back_any s wd).mono ?_
  rintro e wn13 ⟨rfl, bn⟩
  have Dn13 : Hid (Below w4.heap.size w4 wn13) := below_then D4.out bn
  clear bn
  refine hKc.out _ _ Dn13.out (fun hHeld => ?_)
  clear hKc Kc
  refine wpAnyH_ready (rs := [14]) (by kernel_rfl) (by simp) ?_
  refine AllReadyH.cons (by simp; rfl) (fun Kc hKc => ?_) AllReadyH.nil
  go_simp
  refine (check_any s wn13).mono ?_
  rintro e wn14 ⟨rfl, bn⟩
  have Dn14 : Hid (Below w4.heap.size w4 wn14) := below_then Dn13.out bn
  clear bn
  rw [← HQ.out]
  refine hKc.out _ _ Dn14.out (fun hHeld => ?_)
  clear hKc Kc
  refine wpAnyH_ready (rs := [15]) (by kernel_rfl) (by simp) ?_
  refine AllReadyH.cons (by simp; rfl) (fun Kc hKc => ?_) AllReadyH.nil
  go_simp
  refine (num_any q HI.out.1 wn14).mono ?_
  rintro e wz ⟨rfl, rfl⟩
  refine hKc.out _ _ Dn14.out (fun hHeld => ?_)
  clear hKc Kc
  refine wpAnyH_take (i := 17) (v := ?va15) (by simp; rfl) (by kernel_rfl) (by kernel_rfl) (by kernel_rfl) (fun _ _ _ h => h) (Or.inl ⟨by rfl, ?ya15⟩) hHeld ?ra15
  case ya15 => intro w hSw; clear hSw; go_simp; with_reducible rfl
  simp only [Act.put, List.setIfInBounds_toArray, List.set_cons_zero, List.set_cons_succ]
  refine wpAnyH_take (i := 18) (v := ?va16) (by simp; rfl) (by kernel_rfl) (by kernel_rfl) (by kernel_rfl) (fun _ _ _ h => h) (Or.inl ⟨by rfl, ?ya16⟩) hHeld ?ra16
  case ya16 => intro w hSw; clear hSw; go_simp; with_reducible rfl
  simp only [Act.put, List.setIfInBounds_toArray, List.set_cons_zero, List.set_cons_succ]
  refine wpAnyH_take (i := 19) (v := ?va17) (by simp; rfl) (by kernel_rfl) (by kernel_rfl) (by kernel_rfl) (fun _ _ _ h => h) (Or.inl ⟨by rfl, ?ya17⟩) hHeld ?ra17
  case ya17 => intro w hSw; clear hSw; go_simp; with_reducible rfl
  simp only [Act.put, List.setIfInBounds_toArray, List.set_cons_zero, List.set_cons_succ]
  refine wpAnyH_take (i := 20) (v := ?va18) (by simp; rfl) (by kernel_rfl) (by kernel_rfl) (by kernel_rfl) (fun _ _ _ h => h) (Or.inl ⟨by rfl, ?ya18⟩) hHeld ?ra18
  case ya18 => intro w hSw; clear hSw; go_simp; with_reducible rfl
  simp only [Act.put, List.setIfInBounds_toArray, List.set_cons_zero, List.set_cons_succ]
  refine wpAnyH_take (i := 21) (v := _) (by simp; rfl) (by kernel_rfl) (by kernel_rfl) (by kernel_rfl) (fun _ _ _ h => h) (yieldsIf_load_mid (by rfl) 23 (.tmp 40) rfl w.heap.size 0 rfl (ccells s) _ (fun _ h => SAt.range5 (LAt.later R4.out h)) Tryd.underlying23 rfl (by rw [size23, ccells_len])) hHeld ?_
  simp only [Act.put, List.setIfInBounds_toArray, List.set_cons_zero, List.set_cons_succ]
  refine wpAnyH_take (i := 24) (v := ?va19) (by simp; rfl) (by kernel_rfl) (by kernel_rfl) (by kernel_rfl) (fun _ _ _ h => h) (Or.inl ⟨by rfl, ?ya19⟩) hHeld ?ra19
  case ya19 => intro w hSw; clear hSw; go_simp; with_reducible rfl
  simp only [Act.put, List.setIfInBounds_toArray, List.set_cons_zero, List.set_cons_succ]
  refine wpAnyH_take (i := 25) (v := _) (by simp; rfl) (by kernel_rfl) (by kernel_rfl) (by kernel_rfl) (fun _ _ _ h => h) (yieldsIf_load_mid (by rfl) 23 (.tmp 44) rfl w.heap.size 0 rfl (ccells s) _ (fun _ h => SAt.range5 (LAt.later R4.out h)) Tryd.underlying23 rfl (by rw [size23, ccells_len])) hHeld ?_
  simp only [Act.put, List.setIfInBounds_toArray, List.set_cons_zero, List.set_cons_succ]
  refine wpAnyH_ready (rs := [22]) (by kernel_rfl) (by simp) ?_
  refine AllReadyH.cons (by simp; rfl) (fun Kc hKc => ?_) AllReadyH.nil
  go_simp
  refine (config_any s wn14).mono ?_
  rintro e wn20 ⟨rfl, bn⟩
  have Dn20 : Hid (Below w4.heap.size w4 wn20) := below_then Dn14.out bn
  clear bn
  rw [← HQ'.out]
  refine hKc.out _ _ Dn20.out (fun hHeld => ?_)
  clear hKc Kc
  refine wpAnyH_ready (rs := [23]) (by kernel_rfl) (by simp) ?_
  refine AllReadyH.cons (by simp; rfl) (fun Kc hKc => ?_) AllReadyH.nil
  go_simp
  refine (num_any q' HI.out.2 wn20).mono ?_
  rintro e wz ⟨rfl, rfl⟩
  refine hKc.out _ _ Dn20.out (fun hHeld => ?_)
  clear hKc Kc
  refine wpAnyH_ready (rs := [26]) (by kernel_rfl) (by simp) ?_
  refine AllReadyH.cons (by simp; rfl) (fun Kc hKc => ?_) AllReadyH.nil
  go_simp
  refine (refConfig_any s wn20).mono ?_
  rintro e wn21 ⟨rfl, bn⟩
  have Dn21 : Hid (Below w4.heap.size w4 wn21) := below_then Dn20.out bn
  clear bn
  rw [← HQ'.out]
  refine hKc.out _ _ Dn21.out (fun hHeld => ?_)
  clear hKc Kc
  refine wpAnyH_take (i := 27) (v := ?va22) (by simp; rfl) (by kernel_rfl) (by kernel_rfl) (by kernel_rfl) (fun _ _ _ h => h) (Or.inl ⟨by rfl, ?ya22⟩) hHeld ?ra22
  case ya22 => intro w hSw; clear hSw; go_simp; with_reducible rfl
  simp only [Act.put, List.setIfInBounds_toArray, List.set_cons_zero, List.set_cons_succ]
  refine wpAnyH_take (i := 28) (v := ?va23) (by simp; rfl) (by kernel_rfl) (by kernel_rfl) (by kernel_rfl) (fun _ _ _ h => h) (Or.inl ⟨by rfl, ?ya23⟩) hHeld ?ra23
  case ya23 => intro w hSw; clear hSw; go_simp; with_reducible rfl
  simp only [Act.put, List.setIfInBounds_toArray, List.set_cons_zero, List.set_cons_succ]
  refine wpAnyH_take (i := 29) (v := ?va24) (by simp; rfl) (by kernel_rfl) (by kernel_rfl) (by kernel_rfl) (fun _ _ _ h => h) (Or.inl ⟨by rfl, ?ya24⟩) hHeld ?ra24
  case ya24 => intro w hSw; clear hSw; go_simp; with_reducible rfl
  simp only [Act.put, List.setIfInBounds_toArray, List.set_cons_zero, List.set_cons_succ]
  refine wpAnyH_done (by kernel_rfl) (NoPanic.normal ?_) _
  clear hHeld
  go_wp2_with fail
  go_ret
  exact ⟨by simp, below_then B4.out Dn21.out⟩
end Go.Proofs.YtcfofoddfhbkcaaDoor
