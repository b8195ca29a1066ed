/-
  Layer 16: Images, Form, Len, Copy, New; a nil buffer.
-/
import Derived.Test.YthgkdpniaednaaaPe
namespace Go.Proofs.Ythgkdpniaednaaa
open Go.RowKit

open B (I64)
section
variable {w w' : World} {Q cf : Nat} {pf : Option Addr} {F : List Int} {vi : Value} {L : List Im}
set_option maxHeartbeats 2000000 in
set_option maxRecDepth 100000 in
theorem images_at (h : BAt w Q pf cf F vi L) (hk : Okb F L) : Calls Try.prog 11 #[.pointer (some ⟨Q, 0, none⟩)] w fun e w' => ∃ v', e = .returned v' ∧ IOwn w' w.heap.size v' L ∧ Below w.heap.size w w' := by
  have c1 := h.c1
  have HR : Hid (IOwn w 0 vi L) := h.row
  have HW : Hid (ImsWf L) := hk.wf
  have hf := hk.few
  clear h hk
  go_enter Try.func11, Try.ntmps11
  go_wp2_with (go_at_call 28; refine (cloneM_at HR.out HW.out (by omega)).mono ?_; rintro e w' ⟨v', rfl, ho, hb⟩; have HO : Hid (IOwn w' w.heap.size v' L ∧ Below w.heap.size w w') := ⟨ho, hb⟩; clear ho hb)
  go_ret
  exact ⟨v', rfl, HO.out⟩
set_option maxHeartbeats 2000000 in
set_option maxRecDepth 100000 in
theorem form_at (h : BAt w Q pf cf F vi L) (hk : Okb F L) : Calls Try.prog 14 #[.pointer (some ⟨Q, 0, none⟩)] w fun e w' => ∃ q d, e = .returned (.slice q F.length d) ∧ B.Made w w' q F.length d F := by
  have c0 := h.c0
  have HR : Hid (B.IIn w pf F.length F) := h.form
  have hf := isS_len hk.is
  have hc := h.fcap
  clear h hk
  go_enter Try.func14, Try.ntmps14
  go_wp2_with (go_at_call 24; refine (cloneI_at HR.out (by omega) hc (by omega)).mono ?_; rintro e w' ⟨q, d, rfl, ho⟩; have HO : Hid (B.Made w w' q F.length d F) := ho; clear ho)
  go_ret
  exact ⟨q, d, rfl, HO.out⟩
set_option maxHeartbeats 2000000 in
set_option maxRecDepth 100000 in
theorem len_at (h : BAt w Q pf cf F vi L) : Calls Try.prog 12 #[.pointer (some ⟨Q, 0, none⟩)] w fun e w' => e = .returned (.int .i64 (L.length : Int)) ∧ w' = w := by
  have c1 := h.c1
  obtain ⟨p, c, rfl, _⟩ := O.own_form h.row
  clear h
  go_enter Try.func12, Try.ntmps12
  go_wp2
  go_ret
  exact ⟨rfl, rfl⟩
set_option maxHeartbeats 2000000 in
set_option maxRecDepth 100000 in
theorem len_nil (w : World) : Calls Try.prog 12 #[.pointer none] w fun e w' => e = .returned (.int .i64 0) ∧ w' = w := by
  go_enter Try.func12, Try.ntmps12
  go_wp2
  go_ret
  exact ⟨rfl, rfl⟩
set_option maxHeartbeats 2000000 in
set_option maxRecDepth 100000 in
theorem images_nil (w : World) : Calls Try.prog 11 #[.pointer none] w fun e w' => e = .returned (.slice none 0 0) ∧ w' = w := by
  go_enter Try.func11, Try.ntmps11
  go_wp2
  go_ret
  exact ⟨rfl, rfl⟩
set_option maxHeartbeats 2000000 in
set_option maxRecDepth 100000 in
theorem form_nil (w : World) : Calls Try.prog 14 #[.pointer none] w fun e w' => e = .returned (.slice none 0 0) ∧ w' = w := by
  go_enter Try.func14, Try.ntmps14
  go_wp2
  go_ret
  exact ⟨rfl, rfl⟩
set_option maxHeartbeats 2000000 in
set_option maxRecDepth 100000 in
theorem copy_nil (w : World) : Calls Try.prog 15 #[.pointer none] w fun e w' => e = .returned (.pointer none) ∧ w' = w := by
  go_enter Try.func15, Try.ntmps15
  go_wp2
  go_ret
  exact ⟨rfl, rfl⟩
set_option maxHeartbeats 2000000 in
set_option maxRecDepth 100000 in
theorem read_nil (b : Int) (w : World) : Calls Try.prog 10 #[.pointer none, .int .i64 b] w fun e w' => e = .returned (.tuple #[.agg (U8 (zs 32)).toArray, .bool false, .int .i64 1]) ∧ Below w.heap.size w w' := by
  obtain ⟨w1, hw1⟩ : ∃ w1, w1 = w.alloc (.cells (U8 (zs 32)).toArray 31) := ⟨_, rfl⟩
  have HAL : Hid ((Instr.alloc 31 true (.tuple #[])).run Try.prog w = .ok (.pointer (some ⟨w.heap.size, 0, none⟩)) w1) := by rw [hw1]; exact allocV w
  have B1 : Below w.heap.size w w1 := by rw [hw1]; exact below_alloc w _
  have HV1 : Hid (VAt w1 w.heap.size (zs 32)) := by rw [hw1]; exact LAt.new _ _ _
  have HBV : Hid (∀ w : World, (Instr.build 31 #[]).run Try.prog w = .ok (.agg (U8 (zs 32)).toArray) w) := buildV
  have HST : Hid ((Instr.storeAt 31 (.pointer (some ⟨w.heap.size, 0, none⟩)) (.agg (U8 (zs 32)).toArray)).run Try.prog w1 = .ok () (w1.setRow w.heap.size (U8 (zs 32)).toArray)) := VAt.store HV1.out (zs_len 32) (zs_len 32)
  have HV3 : Hid (VAt (w1.setRow w.heap.size (U8 (zs 32)).toArray) w.heap.size (zs 32)) := LAt.stored HV1.out _
  have HB3 : Hid (Below w.heap.size w (w1.setRow w.heap.size (U8 (zs 32)).toArray)) := below_setRow B1 (Nat.le_refl _) _
  clear hw1 B1
  go_enter Try.func10, Try.ntmps10
  go_wp2_with ((with_reducible refine at_ops ?_); (refine wpList_alloc_is (by rfl) 31 rfl HAL.out ?_); simp only [Act.put, List.setIfInBounds_toArray, List.set_cons_zero, List.set_cons_succ])
  refine (refuses_nil b _).mono ?_
  rintro e w' ⟨rfl, rfl⟩
  clear HV1 HAL
  generalize w'.setRow w.heap.size (U8 (zs 32)).toArray = w3 at *
  go_wp2_with ((with_reducible refine at_ops ?_); (first | ((refine wpList_build_is (vs := []) (by rfl) 31 rfl (by rfl) (HBV.out _) ?_); simp only [Act.put, List.setIfInBounds_toArray, List.set_cons_zero, List.set_cons_succ]) | ((refine wpList_store_is (by rfl) 31 rfl rfl rfl HST.out ?_); simp only [Act.put])))
  (try simp only [Exit.inBlock, Exit.then])
  exact bodyPost_ret (results_val3 Try.results10 _ _ w.heap.size _ _ (by rfl) HV3.out (zs_len 32) Try.underlying31 rfl sizeV) rfl ⟨rfl, HB3.out⟩
/-- a new buffer -/
structure New (w w' : World) (Q : Nat) (pf : Option Addr) (cf : Nat) (F : List Int) (vi : Value) (L : List Im) : Prop where
  at' : BAt w' Q pf cf F vi L
  below : Below w.heap.size w w'
  q : w.heap.size ≤ Q
  row : ∀ g, vi.ownBlock = some g → w.heap.size ≤ g
set_option maxHeartbeats 2000000 in
set_option maxRecDepth 100000 in
theorem new_at {p : Option Addr} {n c : Nat} (h : B.IIn w p n F) (hnc : n ≤ c) (hn : n ≤ 140737488355328) (hi : B.isS F = true) : Calls Try.prog 6 #[.slice p n c] w fun e w' => ∃ Q pf cf, e = .returned (.tuple #[.pointer (some ⟨Q, 0, none⟩), .int .i64 0]) ∧ New w w' Q pf cf F (.slice none 0 0) [] ∧ ∀ a, pf = some a → w.heap.size ≤ a.block := by
  have HI : Hid (B.IIn w p n F) := h
  have HS : Hid (B.isS F = true) := hi
  have hl := isS_len hi
  have hlen := h.len
  clear h hi
  go_enter Try.func6, Try.ntmps6
  go_wp2_with (go_at_call 23; refine (B.is_is _ _ _ _ _ HI.out hnc hn).mono ?_; rintro e w' ⟨rfl, rfl⟩; rw [HS.out])
  refine (cloneI_at HI.out (by omega) hnc (by omega)).mono ?_
  rintro e w1 ⟨q, d, rfl, hM⟩
  have HM : Hid (B.Made w w1 q n d F) := hM
  clear hM
  go_wp2
  go_ret2
  refine ⟨w1.heap.size, q, d, rfl, ⟨?_, below_then HM.out.below (below_alloc w1 _), HM.out.below.size, fun g hg => by cases hg⟩, fun a ha => ?_⟩
  · have hb := below_alloc w1 (.cells #[.slice q n d, .slice none 0 0] 65)
    refine ⟨by rw [hlen]; exact heap_alloc_new w1 _, by rw [hlen]; exact (HM.out.read).later hb, ?_, fun a ha => ?_, World.ownsRow_nil _ _ _ _⟩
    · have := HM.out.own
      obtain ⟨p', c', e, hc, _⟩ := O.own_form this
      cases e; rw [hlen]; exact hc
    · subst ha
      rcases HM.out.own.2 with ⟨e, _⟩ | ⟨g, cap, cur, e, _, hg, _⟩
      · cases e
      · cases e; exact ⟨cur, (hb.block g (Array.getElem?_eq_some_iff.1 hg).1).trans hg⟩
  · subst ha
    rcases HM.out.own.2 with ⟨e, _⟩ | ⟨g, cap, cur, e, h1, hg, _⟩
    · cases e
    · cases e; exact h1
set_option maxHeartbeats 2000000 in
set_option maxRecDepth 100000 in
theorem new_no {p : Option Addr} {n c : Nat} (h : B.IIn w p n F) (hnc : n ≤ c) (hn : n ≤ 140737488355328) (hi : B.isS F = false) : Calls Try.prog 6 #[.slice p n c] w fun e w' => e = .returned (.tuple #[.pointer none, .int .i64 53]) ∧ w' = w := by
  have HI : Hid (B.IIn w p n F) := h
  have HS : Hid (B.isS F = false) := hi
  clear h hi
  go_enter Try.func6, Try.ntmps6
  go_wp2_with (go_at_call 23; refine (B.is_is _ _ _ _ _ HI.out hnc hn).mono ?_; rintro e w' ⟨rfl, rfl⟩; rw [HS.out])
  go_ret2
  exact ⟨rfl, rfl⟩
set_option maxHeartbeats 2000000 in
set_option maxRecDepth 100000 in
theorem copy_at (h : BAt w Q pf cf F vi L) (hk : Okb F L) : Calls Try.prog 15 #[.pointer (some ⟨Q, 0, none⟩)] w fun e w' => ∃ Q' vi', e = .returned (.pointer (some ⟨Q', 0, none⟩)) ∧ New w w' Q' pf cf F vi' L := by
  have hD : Below w.heap.size w w.drew := below_drawn 1
  have hBD : BAt w.drew Q pf cf F vi L := h.later hD
  have HA : Hid (BAt w.drew Q pf cf F vi L) := hBD
  have HR : Hid (IOwn w.drew 0 vi L) := hBD.row
  have HW : Hid (ImsWf L) := hk.wf
  have HD : Hid (Below w.heap.size w w.drew) := hD
  have HSZ : Hid (w.drew.heap.size = w.heap.size) := rfl
  have hf := hk.few
  have HC : Hid (∀ W, Below w.drew.heap.size w.drew W → W.cell? ⟨Q, 0, none⟩ = some (.slice pf F.length cf) ∧ W.cell? ⟨Q, 1, none⟩ = some vi) := fun W hW => ⟨(hBD.later hW).c0, (hBD.later hW).c1⟩
  clear h hk hD hBD
  go_enter Try.func15, Try.ntmps15
  go_wp2_with fail
  refine wp_region_noPanic ?_
  refine wp_region_held_drew (S := fun W => Below w.drew.heap.size w.drew W) (by kernel_rfl) (Below.refl _ _) (fun hHeld => ?_)
  generalize w.drew = wD at *
  refine wpAnyH_take (i := 0) (v := ?va1) (by simp; rfl) (by kernel_rfl) (by kernel_rfl) (by kernel_rfl) (fun _ _ _ h => h) (Or.inl ⟨by rfl, ?ya1⟩) hHeld ?ra1
  case ya1 => intro w hSw; clear hSw; go_simp; with_reducible rfl
  simp only [Act.put, List.setIfInBounds_toArray, List.set_cons_zero, List.set_cons_succ]
  refine wpAnyH_take (i := 1) (v := ?va2) (by simp; rfl) (by kernel_rfl) (by kernel_rfl) (by kernel_rfl) (fun _ _ _ h => h) (Or.inl ⟨by rfl, ?ya2⟩) hHeld ?ra2
  case ya2 => intro w hSw; clear hSw; go_simp; with_reducible rfl
  simp only [Act.put, List.setIfInBounds_toArray, List.set_cons_zero, List.set_cons_succ]
  refine wpAnyH_take (i := 2) (v := ?va3) (by simp; rfl) (by kernel_rfl) (by kernel_rfl) (by kernel_rfl) (fun _ _ _ h => h) (Or.inl ⟨by rfl, ?ya3⟩) hHeld ?ra3
  case ya3 => intro w hSw; clear hSw; go_simp; with_reducible rfl
  simp only [Act.put, List.setIfInBounds_toArray, List.set_cons_zero, List.set_cons_succ]
  refine wpAnyH_take (i := 3) (v := ?va4) (by simp; rfl) (by kernel_rfl) (by kernel_rfl) (by kernel_rfl) (fun _ _ _ h => h) (Or.inl ⟨by rfl, ?ya4⟩) hHeld ?ra4
  case ya4 => intro w hSw; have z := HC.out w hSw; clear hSw; go_simp; with_reducible rfl
  simp only [Act.put, List.setIfInBounds_toArray, List.set_cons_zero, List.set_cons_succ]
  refine wpAnyH_take (i := 4) (v := ?va5) (by simp; rfl) (by kernel_rfl) (by kernel_rfl) (by kernel_rfl) (fun _ _ _ h => h) (Or.inl ⟨by rfl, ?ya5⟩) hHeld ?ra5
  case ya5 => intro w hSw; clear hSw; go_simp; with_reducible rfl
  simp only [Act.put, List.setIfInBounds_toArray, List.set_cons_zero, List.set_cons_succ]
  refine wpAnyH_take (i := 5) (v := ?va6) (by simp; rfl) (by kernel_rfl) (by kernel_rfl) (by kernel_rfl) (fun _ _ _ h => h) (Or.inl ⟨by rfl, ?ya6⟩) hHeld ?ra6
  case ya6 => intro w hSw; clear hSw; go_simp; with_reducible rfl
  simp only [Act.put, List.setIfInBounds_toArray, List.set_cons_zero, List.set_cons_succ]
  refine wpAnyH_take (i := 6) (v := ?va7) (by simp; rfl) (by kernel_rfl) (by kernel_rfl) (by kernel_rfl) (fun _ _ _ h => h) (Or.inl ⟨by rfl, ?ya7⟩) hHeld ?ra7
  case ya7 => intro w hSw; clear hSw; go_simp; with_reducible rfl
  simp only [Act.put, List.setIfInBounds_toArray, List.set_cons_zero, List.set_cons_succ]
  refine wpAnyH_take (i := 7) (v := ?va8) (by simp; rfl) (by kernel_rfl) (by kernel_rfl) (by kernel_rfl) (fun _ _ _ h => h) (Or.inl ⟨by rfl, ?ya8⟩) hHeld ?ra8
  case ya8 => intro w hSw; have z := HC.out w hSw; clear hSw; go_simp; with_reducible rfl
  simp only [Act.put, List.setIfInBounds_toArray, List.set_cons_zero, List.set_cons_succ]
  refine wpAnyH_ready (rs := [8]) (by kernel_rfl) (by simp) ?_
  refine AllReadyH.cons (by simp; rfl) (fun Kc hKc => ?_) AllReadyH.nil
  go_simp
  refine (cloneM_at HR.out HW.out (by omega)).mono ?_
  rintro e w1 ⟨v', rfl, ho, hb⟩
  obtain ⟨p2, c2, rfl, -, -⟩ := O.own_form ho
  have HO : Hid (IOwn w1 wD.heap.size (.slice p2 L.length c2) L ∧ Below wD.heap.size wD w1) := ⟨ho, hb⟩
  refine hKc.out _ _ hb (fun hHeld => ?_)
  clear hKc Kc ho hb
  refine wpAnyH_take (i := 9) (v := ?va9) (by simp; rfl) (by kernel_rfl) (by kernel_rfl) (by kernel_rfl) (fun _ _ _ h => h) (Or.inl ⟨by rfl, ?ya9⟩) hHeld ?ra9
  case ya9 => intro w hSw; clear hSw; go_simp; with_reducible rfl
  simp only [Act.put, List.setIfInBounds_toArray, List.set_cons_zero, List.set_cons_succ]
  refine wpAnyH_ready (rs := [10]) (by kernel_rfl) (by simp) ?_
  refine AllReadyH.cons (by simp; rfl) (fun Kc hKc => ?_) AllReadyH.nil
  go_simp
  have HB2 : Hid (Below wD.heap.size wD (w1.alloc (.cells #[.slice pf F.length cf, .slice p2 L.length c2] 65))) := below_then HO.out.2 (below_alloc w1 _)
  refine hKc.out _ _ HB2.out (fun hHeld => ?_)
  clear hKc Kc
  refine wpAnyH_take (i := 11) (v := ?va10) (by simp; rfl) (by kernel_rfl) (by kernel_rfl) (by kernel_rfl) (fun _ _ _ h => h) (Or.inl ⟨by rfl, ?ya10⟩) hHeld ?ra10
  case ya10 => intro w hSw; clear hSw; go_simp; with_reducible rfl
  simp only [Act.put, List.setIfInBounds_toArray, List.set_cons_zero, List.set_cons_succ]
  refine wpAnyH_done (by kernel_rfl) (NoPanic.normal ?_) _
  go_wp2
  go_ret
  refine ⟨w1.heap.size, .slice p2 L.length c2, rfl, ?_, ?_, ?_, fun g hg => ?_⟩
  · have hb := below_alloc w1 (.cells #[.slice pf F.length cf, .slice p2 L.length c2] 65)
    have a1 := HA.out.later HO.out.2
    refine ⟨heap_alloc_new w1 _, a1.form.later hb, a1.fcap, fun a ha => ?_, O.own_later (B.own_mono HO.out.1 (Nat.zero_le _)) hb⟩
    obtain ⟨cs, hc⟩ := a1.kind a ha
    exact ⟨cs, (hb.block _ (Array.getElem?_eq_some_iff.1 hc).1).trans hc⟩
  · exact HD.out.trans (by rw [← HSZ.out]; exact HB2.out)
  · have := HO.out.2.size; rw [HSZ.out] at this; exact this
  · have := (HO.out.1.lt g hg).1; rw [HSZ.out] at this; exact this
end
end Go.Proofs.Ythgkdpniaednaaa
