/-
  Layer 16: the documents Read, Images, Copy.
-/
import Derived.Test.YthgkdpniaednaaaSa
import Derived.Test.YthgkdpniaednaaaQc
namespace Go.Proofs.Ythgkdpniaednaaa
open Go.RowKit

open B (I64)
def Bw (a b : World) : Prop := Below a.heap.size a b
theorem lst_at {D : List Im} {b : Int} {k : Nat} {x : Im} (hx : D[k]? = some x) (hb : x.b = b) (h : ∀ (j : Nat) y, k < j → D[j]? = some y → y.b ≠ b) : lst D b = some x.v := by
  obtain ⟨hk, ex⟩ := List.getElem?_eq_some_iff.1 hx
  have e : D = D.take k ++ [x] ++ D.drop (k + 1) := by
    rw [List.append_assoc, List.singleton_append, ← ex, ← List.drop_eq_getElem_cons hk, List.take_append_drop]
  unfold lst gt
  rw [e, List.reverse_append, List.reverse_append, List.reverse_singleton, List.singleton_append, List.find?_append]
  have hn : (D.drop (k + 1)).reverse.find? (fun x => decide (x.b = b)) = none := List.find?_eq_none.2 fun y hy => by
    obtain ⟨j, hj, e2⟩ := List.getElem_of_mem (List.mem_reverse.1 hy)
    rw [List.length_drop] at hj
    rw [List.getElem_drop] at e2
    have := h (k + 1 + j) y (by omega) (by rw [List.getElem?_eq_getElem (by omega), e2])
    simpa using this
  rw [hn, List.find?_cons_of_pos (by simp [hb])]
  rfl
theorem lst_not {D : List Im} {b : Int} (h : ∀ (j : Nat) y, D[j]? = some y → y.b ≠ b) : lst D b = none := by
  unfold lst gt
  rw [List.find?_eq_none.2 fun y hy => by
    obtain ⟨j, hj, e2⟩ := List.getElem_of_mem (List.mem_reverse.1 hy)
    have := h j y (by rw [List.getElem?_eq_getElem hj, e2])
    simpa using this]
  rfl
section
variable {w w' : World} {R cs : Nat} {ps : Option Addr} {F : List Int} {vw : Value} {D : List Im}
set_option maxHeartbeats 2000000 in
set_option maxRecDepth 100000 in
theorem rread_at (h : RAt w R ps cs F vw D) (hi : B.isS F = true) (hw : ImsWf D) (hn : D.length ≤ 9000) (b : Int) : Calls Try.prog 33 #[.pointer (some ⟨R, 0, none⟩), .int .i64 b] w fun e w' => e = .returned (.tuple #[.agg (U8 (rdV F (ims F D) b)).toArray, .bool (rdB F (ims F D) b), .int .i64 (refS F b)]) ∧ Below w.heap.size w w' := by
  have hF := (isS_len hi).2
  have HRV : Hid (rdV F (ims F D) b = if B.hasS F b = true then (lst D b).getD (zs 32) else zs 32) := rdV_ims hi b
  have HRB : Hid (rdB F (ims F D) b = (B.hasS F b && (lst D b).isSome)) := rdB_ims hi b
  obtain ⟨w1, hw1⟩ : ∃ w1, w1 = w.alloc (.cells (U8 (zs 32)).toArray 31) := ⟨_, rfl⟩
  have HAL : Hid ((Instr.alloc 31 true (.tuple #[])).run Try.prog w = .ok (.pointer (some ⟨w.heap.size, 0, none⟩)) w1) := by rw [hw1]; exact allocV w
  have B1 : Below w.heap.size w w1 := by rw [hw1]; exact below_alloc w _
  have HV1 : Hid (VAt w1 w.heap.size (zs 32)) := by rw [hw1]; exact LAt.new _ _ _
  have HA1 : Hid (RAt w1 R ps cs F vw D) := h.later B1
  have HB1 : Hid (Below w.heap.size w w1) := B1
  have HDW : Hid (ImsWf D) := hw
  have HBV : Hid (∀ w : World, (Instr.build 31 #[]).run Try.prog w = .ok (.agg (U8 (zs 32)).toArray) w) := buildV
  have c0 := HA1.out.c0
  have HST0 : Hid ((Instr.storeAt 31 (.pointer (some ⟨w.heap.size, 0, none⟩)) (.agg (U8 (zs 32)).toArray)).run Try.prog w1 = .ok () (w1.setRow w.heap.size (U8 (zs 32)).toArray)) := VAt.store HV1.out (zs_len 32) (zs_len 32)
  have HV30 : Hid (VAt (w1.setRow w.heap.size (U8 (zs 32)).toArray) w.heap.size (zs 32)) := LAt.stored HV1.out _
  have HB30 : Hid (Below w.heap.size w (w1.setRow w.heap.size (U8 (zs 32)).toArray)) := below_setRow HB1.out (Nat.le_refl _) _
  obtain ⟨w30, hw30⟩ : ∃ w30, w30 = w1.setRow w.heap.size (U8 (zs 32)).toArray := ⟨_, rfl⟩
  rw [← hw30] at HST0 HV30 HB30
  clear B1 h hw1 hw hi hw30
  go_enter Try.func33, Try.ntmps33
  by_cases hb : b ∈ F
  · have HR : Hid (refS F b = 0) := refS_in hb
    have HH : Hid (B.hasS F b = true) := B.hasS_iff.2 hb
    clear hb
    obtain ⟨pw, cw, rfl, hM, hcw⟩ := HA1.out.min HDW.out
    have HM : Hid (MIn w1 pw D.length D) := hM
    have c1 := HA1.out.c1
    clear hM
    go_wp2_with (first | ((with_reducible refine at_ops ?_); (refine wpList_alloc_is (by rfl) 31 rfl HAL.out ?_); simp only [Act.put, List.setIfInBounds_toArray, List.set_cons_zero, List.set_cons_succ]) | (go_at_call 8; refine (B.rhas_is _ _ _ _ _ _ HA1.out.form (by omega)).mono ?_; rintro e w' ⟨rfl, hw'⟩; rw [← hw', HH.out]; clear hw' w'))
    clear c0 HAL
    go_loopw [7] (fun v W => ∃ i : Int, v = .int .i64 i ∧ -1 ≤ i ∧ i < (D.length : Int) ∧ Hid (∀ (k : Nat) x, i < (k : Int) → D[k]? = some x → x.b ≠ b) ∧ Hid (W = w1)) (fun v _ => (intOf v + 1).toNat)
    case atStart => exact ⟨(D.length : Int) - 1, by go_num, by omega, by omega, (fun k x hk hx => by have := (List.getElem?_eq_some_iff.1 hx).1; omega : ∀ (k : Nat) x, (D.length : Int) - 1 < (k : Int) → D[k]? = some x → x.b ≠ b), rfl⟩
    case round =>
      obtain ⟨i, rfl, h1, h2, HN, HW⟩ := hrel
      obtain rfl := HW.out
      clear HW
      by_cases hp : 0 ≤ i
      · obtain ⟨k, rfl⟩ : ∃ k : Nat, i = (k : Int) := ⟨i.toNat, by omega⟩
        obtain ⟨x, hx⟩ : ∃ x, D[k]? = some x := ⟨_, List.getElem?_eq_getElem (by omega)⟩
        obtain ⟨g, o0, rfl, -⟩ := HM.out.cells (by omega)
        have hxb := HM.out.c0 hx
        have HX : Hid (D[k]? = some x) := hx
        have HXL : Hid (x.v.length = 32) := (HDW.out x (List.mem_of_getElem? hx)).len
        have j0 : (0 : Int) ≤ (k : Int) := by omega
        clear hx
        by_cases hxe : x.b = b
        · have HLV : Hid (lst D b = some x.v) := lst_at HX.out hxe (fun j y hj hy => HN.out j y (by omega) hy)
          have HLD : Hid ((Instr.loadAt 31 (.pointer (some ⟨g, o0 + k * 33 + 1, none⟩))).run Try.prog wr = .ok (.agg (U8 x.v).toArray) wr) := HM.out.loadv HX.out
          have HST : Hid ((Instr.storeAt 31 (.pointer (some ⟨w.heap.size, 0, none⟩)) (.agg (U8 x.v).toArray)).run Try.prog wr = .ok () (wr.setRow w.heap.size (U8 x.v).toArray)) := VAt.store HV1.out (zs_len 32) HXL.out
          have HV3 : Hid (VAt (wr.setRow w.heap.size (U8 x.v).toArray) w.heap.size x.v) := LAt.stored HV1.out _
          have HB3 : Hid (Below w.heap.size w (wr.setRow w.heap.size (U8 x.v).toArray)) := below_setRow HB1.out (Nat.le_refl _) _
          have hxe2 : (x.b == b) = true := by simp [hxe]
          generalize wr.setRow w.heap.size (U8 x.v).toArray = w3 at *
          clear HN HX HST0 HV30 HB30
          go_wp2_with ((with_reducible refine at_ops ?_); (first | ((refine wpList_load_is (by rfl) 31 rfl rfl HLD.out ?_); simp only [Act.put, List.setIfInBounds_toArray, List.set_cons_zero, List.set_cons_succ]) | ((refine wpList_store_is (by rfl) 31 rfl rfl rfl HST.out ?_); simp only [Act.put])))
          (try simp only [Exit.inBlock, Exit.then])
          exact bodyPost_ret (results_val3 Try.results33 _ _ w.heap.size _ _ (by rfl) HV3.out HXL.out Try.underlying31 rfl sizeV) rfl ⟨by rw [HRV.out, HRB.out, HR.out, HH.out, HLV.out]; rfl, HB3.out⟩
        · have HN2 : Hid (∀ (j : Nat) y, (k : Int) - 1 < (j : Int) → D[j]? = some y → y.b ≠ b) := fun j y hj hy => by
            by_cases e : j = k
            · subst e; have := HX.out; rw [hy] at this; cases this; exact hxe
            · exact HN.out j y (by omega) hy
          have hxe2 : (x.b == b) = false := by simp [hxe]
          clear HN HX
          go_wp2_with fail
          go_roundw
          case rel => exact ⟨(k : Int) - 1, by go_num, by omega, by omega, HN2, (by first | exact trivial | rfl)⟩
          case measure => first | (simp [intOf]; done) | (simp [intOf]; omega)
      · have HLV : Hid (lst D b = none) := lst_not fun j y hy => HN.out j y (by omega) hy
        have HV3 := HV30
        have HB3 := HB30
        have hp2 : ¬ 0 ≤ i := hp
        clear HN
        go_wp2_with ((with_reducible refine at_ops ?_); (first | ((refine wpList_build_is (vs := []) (by rfl) 31 rfl (by rfl) (HBV.out _) ?_); simp only [Act.put, List.setIfInBounds_toArray, List.set_cons_zero, List.set_cons_succ]) | ((refine wpList_store_is (by rfl) 31 rfl rfl rfl HST0.out ?_); simp only [Act.put])))
        (try simp only [Exit.inBlock, Exit.then])
        exact bodyPost_ret (results_val3 Try.results33 _ _ w.heap.size _ _ (by rfl) HV3.out (zs_len 32) Try.underlying31 rfl sizeV) rfl ⟨by rw [HRV.out, HRB.out, HR.out, HH.out, HLV.out]; rfl, HB3.out⟩
  · have HR : Hid (refS F b = 160) := refS_out hb
    have HH : Hid (B.hasS F b = false) := has_out hb
    have HV3 := HV30
    have HB3 := HB30
    clear hb
    go_wp2_with (first | ((with_reducible refine at_ops ?_); (first | ((refine wpList_alloc_is (by rfl) 31 rfl HAL.out ?_); simp only [Act.put, List.setIfInBounds_toArray, List.set_cons_zero, List.set_cons_succ]) | ((refine wpList_build_is (vs := []) (by rfl) 31 rfl (by rfl) (HBV.out _) ?_); simp only [Act.put, List.setIfInBounds_toArray, List.set_cons_zero, List.set_cons_succ]) | ((refine wpList_store_is (by rfl) 31 rfl rfl rfl HST0.out ?_); simp only [Act.put]))) | (go_at_call 8; refine (B.rhas_is _ _ _ _ _ _ HA1.out.form (by omega)).mono ?_; rintro e w' ⟨rfl, hw'⟩; rw [← hw', HH.out]; clear hw' w'))
    (try simp only [Exit.inBlock, Exit.then])
    exact bodyPost_ret (results_val3 Try.results33 _ _ w.heap.size _ _ (by rfl) HV3.out (zs_len 32) Try.underlying31 rfl sizeV) rfl ⟨by rw [HRV.out, HRB.out, HR.out, HH.out]; rfl, HB3.out⟩
theorem ims_step {F : List Int} {D : List Im} {j : Nat} {f : Int} (hf : F[j]? = some f) : ims (F.take (j + 1)) D = ims (F.take j) D ++ ((lst D f).map (fun v => (⟨f, v⟩ : Im))).toList := by
  rw [List.take_add_one, hf]
  unfold ims
  rw [List.filterMap_append]
  cases e : lst D f with
  | none => simp [e]
  | some v => simp [e]
set_option maxHeartbeats 2000000 in
set_option maxRecDepth 100000 in
theorem rimages_at (h : RAt w R ps cs F vw D) (hi : B.isS F = true) (hw : ImsWf D) (hn : D.length ≤ 9000) : Calls Try.prog 35 #[.pointer (some ⟨R, 0, none⟩)] w fun e w' => ∃ v', e = .returned v' ∧ IOwn w' w.heap.size v' (ims F D) ∧ Below w.heap.size w w' := by
  have hF := isS_len hi
  have HA : Hid (RAt w R ps cs F vw D) := h
  have HI : Hid (B.isS F = true) := hi
  have HW : Hid (ImsWf D) := hw
  clear h hi hw
  go_enter Try.func35, Try.ntmps35
  go_wp2_with fail
  go_loopw [3, 4] (fun vo v wr => ∃ (j : Nat), v = .int .i64 (j : Int) ∧ j ≤ F.length ∧ Hid (IOwn wr w.heap.size vo (ims (F.take j) D)) ∧ Hid (Below w.heap.size w wr)) (fun _ v _ => F.length - (intOf v).toNat)
  case atStart => exact ⟨0, rfl, Nat.zero_le _, (World.ownsRow_nil _ _ _ _ : IOwn w w.heap.size (.slice none 0 0) (ims (F.take 0) D)), Below.refl _ _⟩
  case round =>
    obtain ⟨j, rfl, hj, HO, HB⟩ := hrel
    obtain ⟨vo, hvo⟩ : ∃ vo, vo = u3 := ⟨_, rfl⟩
    subst hvo
    have A1 := HA.out.later HB.out
    have c0 := A1.c0
    by_cases hlt : j < F.length
    · obtain ⟨g, o0, rfl, hfc⟩ := A1.form.cells (by omega)
      have hf := hfc j hlt
      obtain ⟨f, hfe⟩ : ∃ f, F[j]? = some f := ⟨_, List.getElem?_eq_getElem hlt⟩
      have hfd : F.getD j 0 = f := by simp [List.getD, hfe]
      rw [hfd] at hf
      have HFE : Hid (F[j]? = some f) := hfe
      have HCF : Hid (∀ W, Below w.heap.size w W → W.cell? ⟨R, 0, none⟩ = some (.slice (some ⟨g, o0, none⟩) F.length cs) ∧ W.cell? ⟨g, o0 + j, none⟩ = some (.int .i64 f)) := fun W hW => by
        have A2 := HA.out.later hW
        obtain ⟨g', o', e, hc'⟩ := A2.form.cells (by omega)
        cases e
        exact ⟨A2.c0, by rw [hc' j hlt, hfd]⟩
      have i1 : (j : Int) < (F.length : Int) := by omega
      have i0 : (0 : Int) ≤ (j : Int) := by omega
      have HIN : Hid (f ∈ F) := List.mem_of_getElem? hfe
      have HA1 : Hid (RAt wr R (some ⟨g, o0, none⟩) cs F vw D) := A1
      clear hfc hfe hfd A1
      go_wp2_with fail
      clear c0 hf
      refine (rread_at HA1.out HI.out HW.out hn f).mono ?_
      rintro e w5 ⟨rfl, b5⟩
      have HH : B.hasS F f = true := B.hasS_iff.2 HIN.out
      cases hL : lst D f with
      | none =>
        have HRV : rdV F (ims F D) f = zs 32 := by rw [rdV_ims HI.out, if_pos HH, hL]; rfl
        have HRB : rdB F (ims F D) f = false := by rw [rdB_ims HI.out, HH, hL]; rfl
        rw [HRV, HRB]
        obtain ⟨u5, z5, hu5, hz5, hv5, hb5⟩ := newV w5 (zs 32) (zs_len 32)
        have L5 : Hid ((Instr.alloc 31 true (.tuple #[])).run Try.prog w5 = .ok (.pointer (some ⟨w5.heap.size, 0, none⟩)) u5) := hu5
        have T5 : Hid ((Instr.storeAt 31 (.pointer (some ⟨w5.heap.size, 0, none⟩)) (.agg (U8 (zs 32)).toArray)).run Try.prog u5 = .ok () z5) := hz5
        have V5 : Hid (VAt z5 w5.heap.size (zs 32)) := hv5
        have Z5 : Hid (Below w5.heap.size w5 z5) := hb5
        clear hu5 hz5 hv5 hb5
        obtain ⟨n5, e5⟩ : ∃ n5, n5 = w5.heap.size := ⟨_, rfl⟩
        rw [← e5] at L5 T5 V5
        clear e5
        have HB6 : Hid (Below w.heap.size w z5) := below_then (below_then HB.out b5) Z5.out
        have HO6 : Hid (IOwn z5 w.heap.size vo (ims (F.take (j + 1)) D)) := by
          have e := ims_step (D := D) HFE.out
          rw [hL] at e
          have e2 : ims (F.take (j + 1)) D = ims (F.take j) D := by rw [e]; simp
          show IOwn _ _ _ _
          rw [e2]
          exact O.own_later (O.own_later HO.out b5) Z5.out
        clear b5 HO HB HH hL HRV HRB
        generalize refS F f = rr
        go_wp2_with (first | ((with_reducible refine at_ops ?_); (first | ((refine wpList_alloc_is (by rfl) 31 rfl L5.out ?_); simp only [Act.put, List.setIfInBounds_toArray, List.set_cons_zero, List.set_cons_succ]) | ((refine wpList_store_is (by rfl) 31 rfl rfl rfl T5.out ?_); simp only [Act.put]))))
        go_roundw
        case rel => exact ⟨j + 1, by go_num, by omega, HO6, HB6⟩
        case measure => simp [intOf]; omega
      | some u =>
        have HRV : rdV F (ims F D) f = u := by rw [rdV_ims HI.out, if_pos HH, hL]; rfl
        have HRB : rdB F (ims F D) f = true := by rw [rdB_ims HI.out, HH, hL]; rfl
        have HFU : Hid (Im.Wf ⟨f, u⟩) := HW.out _ (lst_mem hL)
        have HUL : Hid (u.length = 32) := HFU.out.len
        rw [HRV, HRB]
        obtain ⟨u5, z5, hu5, hz5, hv5, hb5⟩ := newV w5 (u) HUL.out
        have L5 : Hid ((Instr.alloc 31 true (.tuple #[])).run Try.prog w5 = .ok (.pointer (some ⟨w5.heap.size, 0, none⟩)) u5) := hu5
        have T5 : Hid ((Instr.storeAt 31 (.pointer (some ⟨w5.heap.size, 0, none⟩)) (.agg (U8 (u)).toArray)).run Try.prog u5 = .ok () z5) := hz5
        have V5 : Hid (VAt z5 w5.heap.size (u)) := hv5
        have Z5 : Hid (Below w5.heap.size w5 z5) := hb5
        clear hu5 hz5 hv5 hb5
        obtain ⟨n5, e5⟩ : ∃ n5, n5 = w5.heap.size := ⟨_, rfl⟩
        rw [← e5] at L5 T5 V5
        clear e5
        have b6 : Below wr.heap.size wr z5.drew := below_then (below_then b5 Z5.out) (show Below z5.heap.size z5 z5.drew from below_drawn 1)
        have HS6 : Hid (Below w.heap.size w z5.drew ∧ VAt z5.drew n5 u) := ⟨below_then HB.out b6, LAt.later V5.out (show Below z5.heap.size z5 z5.drew from below_drawn 1)⟩
        have HOD : Hid (IOwn z5.drew w.heap.size vo (ims (F.take j) D)) := O.own_later HO.out b6
        have HIW : Hid (ImsWf (ims (F.take j) D)) := ims_wf HW.out
        have HIM : Hid (ims (F.take (j + 1)) D = ims (F.take j) D ++ [⟨f, u⟩]) := by
          have e := ims_step (D := D) HFE.out
          rw [hL] at e
          exact e
        have hil : (ims (F.take j) D).length ≤ 16 := by
          have := (okb_ims (D := D) HI.out HW.out).few
          have h2 : (ims (F.take j) D).length ≤ (F.take j).length := List.length_filterMap_le _ _
          rw [List.length_take] at h2
          omega
        clear b5 b6 HO HB HH hL HRV HRB V5 Z5
        generalize refS F f = rr
        go_wp2_with (first | ((with_reducible refine at_ops ?_); (first | ((refine wpList_alloc_is (by rfl) 31 rfl L5.out ?_); simp only [Act.put, List.setIfInBounds_toArray, List.set_cons_zero, List.set_cons_succ]) | ((refine wpList_store_is (by rfl) 31 rfl rfl rfl T5.out ?_); simp only [Act.put]))))
        clear L5 T5
        refine wp_region_noPanic ?_
        refine wp_region_held_drew (S := fun W => Below w.heap.size w W ∧ VAt W n5 u) (by kernel_rfl) HS6.out (fun hHeld => ?_)
        generalize z5.drew = wD at *
        refine wpAnyH_take (i := 0) (v := ?va1) (by simp; rfl) (by kernel_rfl) (by kernel_rfl) (by kernel_rfl) (fun _ _ _ h => h) (Or.inl ⟨by rfl, ?ya1⟩) hHeld ?ra1
        case ya1 => intro w hSw; clear hSw; go_simp; with_reducible rfl
        simp only [Act.put, List.setIfInBounds_toArray, List.set_cons_zero, List.set_cons_succ]
        refine wpAnyH_take (i := 1) (v := ?va2) (by simp; rfl) (by kernel_rfl) (by kernel_rfl) (by kernel_rfl) (fun _ _ _ h => h) (Or.inl ⟨by rfl, ?ya2⟩) hHeld ?ra2
        case ya2 => intro w hSw; clear hSw; go_simp; with_reducible rfl
        simp only [Act.put, List.setIfInBounds_toArray, List.set_cons_zero, List.set_cons_succ]
        refine wpAnyH_take (i := 2) (v := ?va3) (by simp; rfl) (by kernel_rfl) (by kernel_rfl) (by kernel_rfl) (fun _ _ _ h => h) (Or.inl ⟨by rfl, ?ya3⟩) hHeld ?ra3
        case ya3 => intro w hSw; clear hSw; go_simp; with_reducible rfl
        simp only [Act.put, List.setIfInBounds_toArray, List.set_cons_zero, List.set_cons_succ]
        refine wpAnyH_take (i := 3) (v := ?va4) (by simp; rfl) (by kernel_rfl) (by kernel_rfl) (by kernel_rfl) (fun _ _ _ h => h) (Or.inl ⟨by rfl, ?ya4⟩) hHeld ?ra4
        case ya4 => intro w hSw; clear hSw; go_simp; with_reducible rfl
        simp only [Act.put, List.setIfInBounds_toArray, List.set_cons_zero, List.set_cons_succ]
        refine wpAnyH_take (i := 4) (v := ?va5) (by simp; rfl) (by kernel_rfl) (by kernel_rfl) (by kernel_rfl) (fun _ _ _ h => h) (Or.inl ⟨by rfl, ?ya5⟩) hHeld ?ra5
        case ya5 => intro w hSw; have z := HCF.out w hSw.1; clear hSw; go_simp; with_reducible rfl
        simp only [Act.put, List.setIfInBounds_toArray, List.set_cons_zero, List.set_cons_succ]
        refine wpAnyH_take (i := 5) (v := ?va6) (by simp; rfl) (by kernel_rfl) (by kernel_rfl) (by kernel_rfl) (fun _ _ _ h => h) (Or.inl ⟨by rfl, ?ya6⟩) hHeld ?ra6
        case ya6 => intro w hSw; clear hSw; go_simp; with_reducible rfl
        simp only [Act.put, List.setIfInBounds_toArray, List.set_cons_zero, List.set_cons_succ]
        refine wpAnyH_take (i := 6) (v := ?va7) (by simp; rfl) (by kernel_rfl) (by kernel_rfl) (by kernel_rfl) (fun _ _ _ h => h) (Or.inl ⟨by rfl, ?ya7⟩) hHeld ?ra7
        case ya7 => intro w hSw; clear hSw; go_simp; with_reducible rfl
        simp only [Act.put, List.setIfInBounds_toArray, List.set_cons_zero, List.set_cons_succ]
        refine wpAnyH_take (i := 7) (v := ?va8) (by simp; rfl) (by kernel_rfl) (by kernel_rfl) (by kernel_rfl) (fun _ _ _ h => h) (Or.inl ⟨by rfl, ?ya8⟩) hHeld ?ra8
        case ya8 => intro w hSw; have z := HCF.out w hSw.1; clear hSw; go_simp; with_reducible rfl
        simp only [Act.put, List.setIfInBounds_toArray, List.set_cons_zero, List.set_cons_succ]
        refine wpAnyH_take (i := 8) (v := _) (by simp; rfl) (by kernel_rfl) (by kernel_rfl) (by kernel_rfl) (fun _ _ _ h => h) (yieldsIf_load_mid (by rfl) 31 (.tmp 5) rfl n5 0 rfl (U8 u) _ (fun W hW => LAt.range hW.2) Try.underlying31 rfl (by rw [sizeV, U8_length, HUL.out])) hHeld ?_
        simp only [Act.put, List.setIfInBounds_toArray, List.set_cons_zero, List.set_cons_succ]
        refine wpAnyH_take (i := 9) (v := _) (by simp; rfl) (by kernel_rfl) (by kernel_rfl) (by kernel_rfl) (fun _ _ _ h => h) (yields_build_is (vs := [(0, .int .i64 f), (1, .agg (U8 u).toArray)]) (by rfl) 33 rfl (by rfl) (fun w => buildI w f u HUL.out)) hHeld ?_
        simp only [Act.put, List.setIfInBounds_toArray, List.set_cons_zero, List.set_cons_succ]
        refine wpAnyH_ready (rs := [10]) (by kernel_rfl) (by simp) ?_
        refine AllReadyH.cons (by simp; rfl) (fun Kc hKc => ?_) AllReadyH.nil
        refine step_slice_is (vs := [(0, .agg (icells ⟨f, u⟩).toArray)]) (by rfl) 23 1 rfl rfl (build_im wD ⟨f, u⟩ HUL.out) ?_
        obtain ⟨wB, hwB⟩ : ∃ wB, wB = wD.alloc (.cells (icells ⟨f, u⟩).toArray 33) := ⟨_, rfl⟩
        obtain ⟨nB, hnB⟩ : ∃ nB, nB = wD.heap.size := ⟨_, rfl⟩
        have HbB : Hid (Below wD.heap.size wD wB) := by rw [hwB]; exact below_alloc _ _
        have HLB : Hid (LAt 33 wB nB (icells ⟨f, u⟩)) := by rw [hwB, hnB]; exact LAt.new _ _ _
        have HSB : Hid (Below w.heap.size w wB ∧ VAt wB n5 u) := ⟨below_then hHeld.1 HbB.out, LAt.later hHeld.2 HbB.out⟩
        rw [← hwB, ← hnB]
        refine hKc.out _ _ HSB.out (fun hHeld => ?_)
        clear hKc Kc hwB hnB
        simp only [Act.put, List.setIfInBounds_toArray, List.set_cons_zero, List.set_cons_succ]
        refine wpAnyH_ready (rs := [11]) (by kernel_rfl) (by simp) ?_
        refine AllReadyH.cons (by simp; rfl) (fun Kc hKc => ?_) AllReadyH.nil
        have hMB : MIn wB (some ⟨nB, 0, none⟩) 1 [⟨f, u⟩] := ⟨rfl, fun y hy => by rw [List.mem_singleton.1 hy]; exact HFU.out, fun _ => ⟨nB, 0, rfl, fun j u hj => by rw [Nat.zero_add, LAt.cell HLB.out]; simpa [IC] using hj⟩⟩
        obtain ⟨q', c', wA, hap, ho, hg, hat⟩ := app_ims (c := 1) (O.own_later HOD.out HbB.out) HIW.out hMB (by omega) (Nat.le_trans HSB.out.1.size (Nat.le_refl _))
        have HOA : Hid (IOwn wA w.heap.size (.slice q' (ims (F.take j) D ++ [(⟨f, u⟩ : Im)]).length c') (ims (F.take j) D ++ [⟨f, u⟩])) := ho
        have HAP : Hid ((Builtin.append_ #[23, 23] 23 #[vo, .slice (some ⟨nB, 0, none⟩) 1 1]).run Try.prog wB = .ok (.slice q' (ims (F.take j) D ++ [(⟨f, u⟩ : Im)]).length c') wA) := hap
        have HBA : Hid (Below w.heap.size w wA) := (O.kept_grown hg).into HSB.out.1 (fun k hk e => by have := (HOD.out.lt k e).1; omega) (Nat.le_refl _)
        have HSA : Hid (Below w.heap.size w wA ∧ VAt wA n5 u) := ⟨HBA.out, (hg.block _ (LAt.lt HSB.out.2) (fun e => O.own_not (O.own_later HOD.out HbB.out) HSB.out.2 (by decide) e.symm)).trans HSB.out.2⟩
        clear hap ho hg hat hMB
        obtain ⟨mm, hmm⟩ : ∃ mm, mm = (ims (F.take j) D ++ [(⟨f, u⟩ : Im)]).length := ⟨_, rfl⟩
        rw [← hmm] at HOA HAP
        clear hmm
        refine step_append_is (by rfl) rfl rfl rfl rfl HAP.out ?_
        refine hKc.out _ _ HSA.out (fun hHeld => ?_)
        clear hKc Kc HAP
        simp only [Act.put, List.setIfInBounds_toArray, List.set_cons_zero, List.set_cons_succ]
        refine wpAnyH_take (i := 12) (v := ?va9) (by simp; rfl) (by kernel_rfl) (by kernel_rfl) (by kernel_rfl) (fun _ _ _ h => h) (Or.inl ⟨by rfl, ?ya9⟩) hHeld ?ra9
        case ya9 => intro w hSw; clear hSw; go_simp; with_reducible rfl
        simp only [Act.put, List.setIfInBounds_toArray, List.set_cons_zero, List.set_cons_succ]
        refine wpAnyH_done (by kernel_rfl) (NoPanic.normal ?_) _
        go_wp2_with fail
        go_roundw
        case rel => exact ⟨j + 1, by go_num, by omega, by rw [HIM.out]; exact HOA, HBA⟩
        case measure => simp [intOf]; omega
    · have hnl : ¬ (j : Int) < (F.length : Int) := by omega
      go_wp2_with fail
      go_ret
      exact ⟨vo, rfl, by have := HO.out; rwa [List.take_of_length_le (by omega)] at this, HB.out⟩
theorem rcopied {w wD x : World} {p2 p3 : Option Addr} {c2 c3 : Nat} (hD : Below w.heap.size w wD) (hs : wD.heap.size = w.heap.size) (hI : O.FR wD x 0 3 1 (.slice p2 F.length c2) F.length (I64 F)) (hM : O.FR wD x 0 33 33 (.slice p3 D.length c3) D.length (IC D)) :
    NewR w (x.alloc (.cells #[.slice p2 F.length c2, .slice p3 D.length c3] 72)) x.heap.size p2 c2 F (.slice p3 D.length c3) D := by
  have hb := below_alloc x (.cells #[.slice p2 F.length c2, .slice p3 D.length c3] 72)
  have hx : Below w.heap.size w x := hD.trans (by rw [← hs]; exact hI.below)
  refine ⟨⟨heap_alloc_new x _, ?_, ?_, fun a ha => ?_, O.own_later hM.own hb⟩, hx.trans (hb.mono hx.size), hx.size, fun g hg => by rw [← hs]; exact hM.new g hg, fun a ha => ?_⟩
  · obtain ⟨p', c', e, hI', _⟩ := B.ints_in hI.own
    cases e
    exact hI'.later hb
  · obtain ⟨p', c', e, hc, _⟩ := O.own_form hI.own
    cases e; exact hc
  · subst ha
    rcases hI.own.2 with ⟨e, _⟩ | ⟨g, cap, cur, e, _, hg, _⟩
    · cases e
    · cases e; exact ⟨cur, (hb.block g (Array.getElem?_eq_some_iff.1 hg).1).trans hg⟩
  · subst ha
    rcases hI.own.2 with ⟨e, _⟩ | ⟨g, cap, cur, e, _, hg, _⟩
    · cases e
    · cases e
      have h1 := hI.new g rfl
      have h2 := (Array.getElem?_eq_some_iff.1 hg).1
      exact ⟨by rw [← hs]; exact h1, by show g ≠ _; omega⟩
set_option maxHeartbeats 2000000 in
set_option maxRecDepth 100000 in
theorem rcopy_at (h : RAt w R ps cs F vw D) (hi : B.isS F = true) (hw : ImsWf D) (hn : D.length ≤ 9000) : Calls Try.prog 34 #[.pointer (some ⟨R, 0, none⟩)] w fun e w' => ∃ R' ps' cs' vw', e = .returned (.pointer (some ⟨R', 0, none⟩)) ∧ NewR w w' R' ps' cs' F vw' D := by
  have hF := isS_len hi
  have hD : Below w.heap.size w w.drew := below_drawn 1
  have hA : RAt w.drew R ps cs F vw D := h.later hD
  obtain ⟨pw, cw, rfl, -, hcw⟩ := hA.min hw
  obtain ⟨g, o0, rfl, -⟩ := hA.form.cells (by omega)
  have HFI : Hid (B.IIn w.drew (some ⟨g, o0, none⟩) F.length F) := hA.form
  have HRW : Hid (w.drew.ownsRow 0 33 33 (.slice pw D.length cw) D.length (IC D)) := hA.row
  have HC : Hid (∀ W, Bw w.drew W → W.cell? ⟨R, 0, none⟩ = some (.slice (some ⟨g, o0, none⟩) F.length cs) ∧ W.cell? ⟨R, 1, none⟩ = some (.slice pw D.length cw)) := fun W hW => ⟨(hA.later hW).c0, (hA.later hW).c1⟩
  have HD : Hid (Below w.heap.size w w.drew) := hD
  have HSZ : Hid (w.drew.heap.size = w.heap.size) := rfl
  clear h hD hA hw hi
  go_enter Try.func34, Try.ntmps34
  go_wp2_with fail
  refine wp_region_noPanic ?_
  refine wp_region_held_drew (S := Bw w.drew) (by kernel_rfl) (Below.refl _ _) (fun hHeld => ?_)
  generalize w.drew = wD at *
  refine wpAnyH_take (i := 1) (v := ?va10) (by simp; rfl) (by kernel_rfl) (by kernel_rfl) (by kernel_rfl) (fun _ _ _ h => h) (Or.inl ⟨by rfl, ?ya10⟩) hHeld ?ra10
  case ya10 => intro w hSw; clear hSw; go_simp; with_reducible rfl
  simp only [Act.put, List.setIfInBounds_toArray, List.set_cons_zero, List.set_cons_succ]
  refine wpAnyH_take (i := 2) (v := ?va11) (by simp; rfl) (by kernel_rfl) (by kernel_rfl) (by kernel_rfl) (fun _ _ _ h => h) (Or.inl ⟨by rfl, ?ya11⟩) hHeld ?ra11
  case ya11 => intro w hSw; clear hSw; go_simp; with_reducible rfl
  simp only [Act.put, List.setIfInBounds_toArray, List.set_cons_zero, List.set_cons_succ]
  refine wpAnyH_take (i := 3) (v := ?va12) (by simp; rfl) (by kernel_rfl) (by kernel_rfl) (by kernel_rfl) (fun _ _ _ h => h) (Or.inl ⟨by rfl, ?ya12⟩) hHeld ?ra12
  case ya12 => intro w hSw; clear hSw; go_simp; with_reducible rfl
  simp only [Act.put, List.setIfInBounds_toArray, List.set_cons_zero, List.set_cons_succ]
  refine wpAnyH_take (i := 4) (v := ?va13) (by simp; rfl) (by kernel_rfl) (by kernel_rfl) (by kernel_rfl) (fun _ _ _ h => h) (Or.inl ⟨by rfl, ?ya13⟩) hHeld ?ra13
  case ya13 => intro w hSw; have z := HC.out w hSw; clear hSw; go_simp; with_reducible rfl
  simp only [Act.put, List.setIfInBounds_toArray, List.set_cons_zero, List.set_cons_succ]
  refine wpAnyH_take (i := 7) (v := ?va14) (by simp; rfl) (by kernel_rfl) (by kernel_rfl) (by kernel_rfl) (fun _ _ _ h => h) (Or.inl ⟨by rfl, ?ya14⟩) hHeld ?ra14
  case ya14 => intro w hSw; clear hSw; go_simp; with_reducible rfl
  simp only [Act.put, List.setIfInBounds_toArray, List.set_cons_zero, List.set_cons_succ]
  refine wpAnyH_take (i := 8) (v := ?va15) (by simp; rfl) (by kernel_rfl) (by kernel_rfl) (by kernel_rfl) (fun _ _ _ h => h) (Or.inl ⟨by rfl, ?ya15⟩) hHeld ?ra15
  case ya15 => intro w hSw; clear hSw; go_simp; with_reducible rfl
  simp only [Act.put, List.setIfInBounds_toArray, List.set_cons_zero, List.set_cons_succ]
  refine wpAnyH_take (i := 9) (v := ?va16) (by simp; rfl) (by kernel_rfl) (by kernel_rfl) (by kernel_rfl) (fun _ _ _ h => h) (Or.inl ⟨by rfl, ?ya16⟩) hHeld ?ra16
  case ya16 => intro w hSw; clear hSw; go_simp; with_reducible rfl
  simp only [Act.put, List.setIfInBounds_toArray, List.set_cons_zero, List.set_cons_succ]
  refine wpAnyH_take (i := 10) (v := ?va17) (by simp; rfl) (by kernel_rfl) (by kernel_rfl) (by kernel_rfl) (fun _ _ _ h => h) (Or.inl ⟨by rfl, ?ya17⟩) hHeld ?ra17
  case ya17 => intro w hSw; have z := HC.out w hSw; clear hSw; go_simp; with_reducible rfl
  simp only [Act.put, List.setIfInBounds_toArray, List.set_cons_zero, List.set_cons_succ]
  refine wpAnyH_ready (rs := [0, 6]) (by kernel_rfl) (by simp) ?_
  refine AllReadyH.cons (by simp; rfl) (fun Kc hKc => ?_) (AllReadyH.cons (by simp; rfl) (fun Kc hKc => ?_) AllReadyH.nil)
  · go_simp
    have I1 : Hid (O.FR wD (wD.alloc (.cells #[] 3)) 0 3 1 (.slice (some ⟨wD.heap.size, 0, none⟩) 0 0) 0 []) := O.FR.empty 3 1 hHeld (Nat.zero_le _)
    have J1 : Hid (Bw wD (wD.alloc (.cells #[] 3))) := I1.out.below
    refine hKc.out _ _ J1.out (fun hHeld => ?_)
    clear hKc Kc
    revert I1  J1 hHeld
    generalize wD.alloc (.cells #[] 3) = x1
    generalize wD.heap.size = ni
    intro I1  J1 hHeld
    refine wpAnyH_ready (rs := [5, 6]) (by kernel_rfl) (by simp) ?_
    refine AllReadyH.cons (by simp; rfl) (fun Kc hKc => ?_) (AllReadyH.cons (by simp; rfl) (fun Kc hKc => ?_) AllReadyH.nil)
    · obtain ⟨v2, x2, hap, ho, hk, hv⟩ := O.run_own O.elI I1.out.own 22 ⟨g, o0, none⟩ F.length cs (I64 F) (by rw [List.length_map, Nat.mul_one]) (HFI.out.later hHeld).news (B.ones_i64 F) (by omega) (Nat.zero_le _)
      have I2 : Hid (O.FR wD x2 0 3 1 v2 F.length (I64 F)) := by have h := I1.out.app ho hk hv; rw [Nat.zero_add, List.nil_append] at h; exact h
      obtain ⟨p2, c2, e2⟩ := O.own_shape I2.out.own
      subst e2
      have HAI : Hid ((Builtin.append_ #[22, 22] 22 #[.slice (some ⟨ni, 0, none⟩) 0 0, .slice (some ⟨g, o0, none⟩) F.length cs]).run Try.prog x1 = .ok (.slice p2 F.length c2) x2) := hap
      clear hap ho hk hv I1
      have J2 : Hid (Bw wD x2) := I2.out.below
      refine step_append_is (by rfl) rfl rfl rfl rfl HAI.out ?_
      refine hKc.out _ _ J2.out (fun hHeld => ?_)
      clear hKc Kc HAI
      simp only [Act.put, List.setIfInBounds_toArray, List.set_cons_zero, List.set_cons_succ]
      refine wpAnyH_ready (rs := [6]) (by kernel_rfl) (by simp) ?_
      refine AllReadyH.cons (by simp; rfl) (fun Kc hKc => ?_) AllReadyH.nil
      go_simp
      have M1 : Hid (O.FR wD (x2.alloc (.cells #[] 33)) 0 33 33 (.slice (some ⟨x2.heap.size, 0, none⟩) 0 0) 0 []) := O.FR.empty 33 33 hHeld (Nat.zero_le _)
      have I2 : Hid (O.FR wD (x2.alloc (.cells #[] 33)) 0 3 1 (.slice p2 F.length c2) F.length (I64 F)) := ⟨O.own_later I2.out.own (below_alloc _ _), M1.out.below, I2.out.new⟩
      have J3 : Hid (Bw wD (x2.alloc (.cells #[] 33))) := M1.out.below
      refine hKc.out _ _ J3.out (fun hHeld => ?_)
      clear hKc Kc
      revert M1 I2 J3 hHeld
      generalize x2.alloc (.cells #[] 33) = x3
      generalize x2.heap.size = nm
      intro M1 I2 J3 hHeld
      refine wpAnyH_ready (rs := [11]) (by kernel_rfl) (by simp) ?_
      refine AllReadyH.cons (by simp; rfl) (fun Kc hKc => ?_) AllReadyH.nil
      obtain ⟨v3, x4, hap, ho, hk, hv⟩ := O.run_own_any O.elM M1.out.own 23 (O.own_later HRW.out hHeld) (IC_ones D) (by omega) (Nat.zero_le _)
      have M2 : Hid (O.FR wD x4 0 33 33 v3 D.length (IC D)) := by have h := M1.out.app ho hk hv; rw [Nat.zero_add, List.nil_append] at h; exact h
      obtain ⟨p3, c3, e3⟩ := O.own_shape M2.out.own
      subst e3
      have HAM : Hid ((Builtin.append_ #[23, 23] 23 #[.slice (some ⟨nm, 0, none⟩) 0 0, .slice pw D.length cw]).run Try.prog x3 = .ok (.slice p3 D.length c3) x4) := hap
      have I2 : Hid (O.FR wD x4 0 3 1 (.slice p2 F.length c2) F.length (I64 F)) := ⟨O.own_far I2.out.own hk (fun b hb e => O.own_ne I2.out.own M1.out.own (by decide) hb e), M2.out.below, I2.out.new⟩
      clear hap ho hk hv M1
      have J4 : Hid (Bw wD x4) := M2.out.below
      refine step_append_is (by rfl) rfl rfl rfl rfl HAM.out ?_
      refine hKc.out _ _ J4.out (fun hHeld => ?_)
      clear hKc Kc HAM
      simp only [Act.put, List.setIfInBounds_toArray, List.set_cons_zero, List.set_cons_succ]
      refine wpAnyH_take (i := 12) (v := ?va18) (by simp; rfl) (by kernel_rfl) (by kernel_rfl) (by kernel_rfl) (fun _ _ _ h => h) (Or.inl ⟨by rfl, ?ya18⟩) hHeld ?ra18
      case ya18 => intro w hSw; clear hSw; go_simp; with_reducible rfl
      simp only [Act.put, List.setIfInBounds_toArray, List.set_cons_zero, List.set_cons_succ]
      refine wpAnyH_ready (rs := [13]) (by kernel_rfl) (by simp) ?_
      refine AllReadyH.cons (by simp; rfl) (fun Kc hKc => ?_) AllReadyH.nil
      go_simp
      have JZ : Hid (Bw wD (x4.alloc (.cells #[.slice p2 F.length c2, .slice p3 D.length c3] 72))) := below_then hHeld (below_alloc _ _)
      refine hKc.out _ _ JZ.out (fun hHeld => ?_)
      clear hKc Kc
      refine wpAnyH_take (i := 14) (v := ?va19) (by simp; rfl) (by kernel_rfl) (by kernel_rfl) (by kernel_rfl) (fun _ _ _ h => h) (Or.inl ⟨by rfl, ?ya19⟩) hHeld ?ra19
      case ya19 => intro w hSw; clear hSw; go_simp; with_reducible rfl
      simp only [Act.put, List.setIfInBounds_toArray, List.set_cons_zero, List.set_cons_succ]
      refine wpAnyH_done (by kernel_rfl) (NoPanic.normal ?_) _
      go_wp2
      go_ret
      exact ⟨_, _, _, _, rfl, rcopied HD.out HSZ.out I2.out M2.out⟩
    · go_simp
      have M1 : Hid (O.FR wD (x1.alloc (.cells #[] 33)) 0 33 33 (.slice (some ⟨x1.heap.size, 0, none⟩) 0 0) 0 []) := O.FR.empty 33 33 hHeld (Nat.zero_le _)
      have I1 : Hid (O.FR wD (x1.alloc (.cells #[] 33)) 0 3 1 (.slice (some ⟨ni, 0, none⟩) 0 0) 0 []) := ⟨O.own_later I1.out.own (below_alloc _ _), M1.out.below, I1.out.new⟩
      have J2 : Hid (Bw wD (x1.alloc (.cells #[] 33))) := M1.out.below
      refine hKc.out _ _ J2.out (fun hHeld => ?_)
      clear hKc Kc
      revert M1 I1 J2 hHeld
      generalize x1.alloc (.cells #[] 33) = x2
      generalize x1.heap.size = nm
      intro M1 I1 J2 hHeld
      refine wpAnyH_ready (rs := [5]) (by kernel_rfl) (by simp) ?_
      refine AllReadyH.cons (by simp; rfl) (fun Kc hKc => ?_) AllReadyH.nil
      obtain ⟨v2, x3, hap, ho, hk, hv⟩ := O.run_own O.elI I1.out.own 22 ⟨g, o0, none⟩ F.length cs (I64 F) (by rw [List.length_map, Nat.mul_one]) (HFI.out.later hHeld).news (B.ones_i64 F) (by omega) (Nat.zero_le _)
      have I2 : Hid (O.FR wD x3 0 3 1 v2 F.length (I64 F)) := by have h := I1.out.app ho hk hv; rw [Nat.zero_add, List.nil_append] at h; exact h
      obtain ⟨p2, c2, e2⟩ := O.own_shape I2.out.own
      subst e2
      have HAI : Hid ((Builtin.append_ #[22, 22] 22 #[.slice (some ⟨ni, 0, none⟩) 0 0, .slice (some ⟨g, o0, none⟩) F.length cs]).run Try.prog x2 = .ok (.slice p2 F.length c2) x3) := hap
      have M1 : Hid (O.FR wD x3 0 33 33 (.slice (some ⟨nm, 0, none⟩) 0 0) 0 []) := ⟨O.own_far M1.out.own hk (fun b hb e => O.own_ne M1.out.own I1.out.own (by decide) hb e), I2.out.below, M1.out.new⟩
      clear hap ho hk hv I1
      have J3 : Hid (Bw wD x3) := I2.out.below
      refine step_append_is (by rfl) rfl rfl rfl rfl HAI.out ?_
      refine hKc.out _ _ J3.out (fun hHeld => ?_)
      clear hKc Kc HAI
      simp only [Act.put, List.setIfInBounds_toArray, List.set_cons_zero, List.set_cons_succ]
      refine wpAnyH_ready (rs := [11]) (by kernel_rfl) (by simp) ?_
      refine AllReadyH.cons (by simp; rfl) (fun Kc hKc => ?_) AllReadyH.nil
      obtain ⟨v3, x4, hap, ho, hk, hv⟩ := O.run_own_any O.elM M1.out.own 23 (O.own_later HRW.out hHeld) (IC_ones D) (by omega) (Nat.zero_le _)
      have M2 : Hid (O.FR wD x4 0 33 33 v3 D.length (IC D)) := by have h := M1.out.app ho hk hv; rw [Nat.zero_add, List.nil_append] at h; exact h
      obtain ⟨p3, c3, e3⟩ := O.own_shape M2.out.own
      subst e3
      have HAM : Hid ((Builtin.append_ #[23, 23] 23 #[.slice (some ⟨nm, 0, none⟩) 0 0, .slice pw D.length cw]).run Try.prog x3 = .ok (.slice p3 D.length c3) x4) := hap
      have I2 : Hid (O.FR wD x4 0 3 1 (.slice p2 F.length c2) F.length (I64 F)) := ⟨O.own_far I2.out.own hk (fun b hb e => O.own_ne I2.out.own M1.out.own (by decide) hb e), M2.out.below, I2.out.new⟩
      clear hap ho hk hv M1
      have J4 : Hid (Bw wD x4) := M2.out.below
      refine step_append_is (by rfl) rfl rfl rfl rfl HAM.out ?_
      refine hKc.out _ _ J4.out (fun hHeld => ?_)
      clear hKc Kc HAM
      simp only [Act.put, List.setIfInBounds_toArray, List.set_cons_zero, List.set_cons_succ]
      refine wpAnyH_take (i := 12) (v := ?va20) (by simp; rfl) (by kernel_rfl) (by kernel_rfl) (by kernel_rfl) (fun _ _ _ h => h) (Or.inl ⟨by rfl, ?ya20⟩) hHeld ?ra20
      case ya20 => intro w hSw; clear hSw; go_simp; with_reducible rfl
      simp only [Act.put, List.setIfInBounds_toArray, List.set_cons_zero, List.set_cons_succ]
      refine wpAnyH_ready (rs := [13]) (by kernel_rfl) (by simp) ?_
      refine AllReadyH.cons (by simp; rfl) (fun Kc hKc => ?_) AllReadyH.nil
      go_simp
      have JZ : Hid (Bw wD (x4.alloc (.cells #[.slice p2 F.length c2, .slice p3 D.length c3] 72))) := below_then hHeld (below_alloc _ _)
      refine hKc.out _ _ JZ.out (fun hHeld => ?_)
      clear hKc Kc
      refine wpAnyH_take (i := 14) (v := ?va21) (by simp; rfl) (by kernel_rfl) (by kernel_rfl) (by kernel_rfl) (fun _ _ _ h => h) (Or.inl ⟨by rfl, ?ya21⟩) hHeld ?ra21
      case ya21 => intro w hSw; clear hSw; go_simp; with_reducible rfl
      simp only [Act.put, List.setIfInBounds_toArray, List.set_cons_zero, List.set_cons_succ]
      refine wpAnyH_done (by kernel_rfl) (NoPanic.normal ?_) _
      go_wp2
      go_ret
      exact ⟨_, _, _, _, rfl, rcopied HD.out HSZ.out I2.out M2.out⟩
  · go_simp
    have M1 : Hid (O.FR wD (wD.alloc (.cells #[] 33)) 0 33 33 (.slice (some ⟨wD.heap.size, 0, none⟩) 0 0) 0 []) := O.FR.empty 33 33 hHeld (Nat.zero_le _)
    have J1 : Hid (Bw wD (wD.alloc (.cells #[] 33))) := M1.out.below
    refine hKc.out _ _ J1.out (fun hHeld => ?_)
    clear hKc Kc
    revert M1  J1 hHeld
    generalize wD.alloc (.cells #[] 33) = x1
    generalize wD.heap.size = nm
    intro M1  J1 hHeld
    refine wpAnyH_ready (rs := [0]) (by kernel_rfl) (by simp) ?_
    refine AllReadyH.cons (by simp; rfl) (fun Kc hKc => ?_) AllReadyH.nil
    go_simp
    have I1 : Hid (O.FR wD (x1.alloc (.cells #[] 3)) 0 3 1 (.slice (some ⟨x1.heap.size, 0, none⟩) 0 0) 0 []) := O.FR.empty 3 1 hHeld (Nat.zero_le _)
    have M1 : Hid (O.FR wD (x1.alloc (.cells #[] 3)) 0 33 33 (.slice (some ⟨nm, 0, none⟩) 0 0) 0 []) := ⟨O.own_later M1.out.own (below_alloc _ _), I1.out.below, M1.out.new⟩
    have J2 : Hid (Bw wD (x1.alloc (.cells #[] 3))) := I1.out.below
    refine hKc.out _ _ J2.out (fun hHeld => ?_)
    clear hKc Kc
    revert I1 M1 J2 hHeld
    generalize x1.alloc (.cells #[] 3) = x2
    generalize x1.heap.size = ni
    intro I1 M1 J2 hHeld
    refine wpAnyH_ready (rs := [5]) (by kernel_rfl) (by simp) ?_
    refine AllReadyH.cons (by simp; rfl) (fun Kc hKc => ?_) AllReadyH.nil
    obtain ⟨v2, x3, hap, ho, hk, hv⟩ := O.run_own O.elI I1.out.own 22 ⟨g, o0, none⟩ F.length cs (I64 F) (by rw [List.length_map, Nat.mul_one]) (HFI.out.later hHeld).news (B.ones_i64 F) (by omega) (Nat.zero_le _)
    have I2 : Hid (O.FR wD x3 0 3 1 v2 F.length (I64 F)) := by have h := I1.out.app ho hk hv; rw [Nat.zero_add, List.nil_append] at h; exact h
    obtain ⟨p2, c2, e2⟩ := O.own_shape I2.out.own
    subst e2
    have HAI : Hid ((Builtin.append_ #[22, 22] 22 #[.slice (some ⟨ni, 0, none⟩) 0 0, .slice (some ⟨g, o0, none⟩) F.length cs]).run Try.prog x2 = .ok (.slice p2 F.length c2) x3) := hap
    have M1 : Hid (O.FR wD x3 0 33 33 (.slice (some ⟨nm, 0, none⟩) 0 0) 0 []) := ⟨O.own_far M1.out.own hk (fun b hb e => O.own_ne M1.out.own I1.out.own (by decide) hb e), I2.out.below, M1.out.new⟩
    clear hap ho hk hv I1
    have J3 : Hid (Bw wD x3) := I2.out.below
    refine step_append_is (by rfl) rfl rfl rfl rfl HAI.out ?_
    refine hKc.out _ _ J3.out (fun hHeld => ?_)
    clear hKc Kc HAI
    simp only [Act.put, List.setIfInBounds_toArray, List.set_cons_zero, List.set_cons_succ]
    refine wpAnyH_ready (rs := [11]) (by kernel_rfl) (by simp) ?_
    refine AllReadyH.cons (by simp; rfl) (fun Kc hKc => ?_) AllReadyH.nil
    obtain ⟨v3, x4, hap, ho, hk, hv⟩ := O.run_own_any O.elM M1.out.own 23 (O.own_later HRW.out hHeld) (IC_ones D) (by omega) (Nat.zero_le _)
    have M2 : Hid (O.FR wD x4 0 33 33 v3 D.length (IC D)) := by have h := M1.out.app ho hk hv; rw [Nat.zero_add, List.nil_append] at h; exact h
    obtain ⟨p3, c3, e3⟩ := O.own_shape M2.out.own
    subst e3
    have HAM : Hid ((Builtin.append_ #[23, 23] 23 #[.slice (some ⟨nm, 0, none⟩) 0 0, .slice pw D.length cw]).run Try.prog x3 = .ok (.slice p3 D.length c3) x4) := hap
    have I2 : Hid (O.FR wD x4 0 3 1 (.slice p2 F.length c2) F.length (I64 F)) := ⟨O.own_far I2.out.own hk (fun b hb e => O.own_ne I2.out.own M1.out.own (by decide) hb e), M2.out.below, I2.out.new⟩
    clear hap ho hk hv M1
    have J4 : Hid (Bw wD x4) := M2.out.below
    refine step_append_is (by rfl) rfl rfl rfl rfl HAM.out ?_
    refine hKc.out _ _ J4.out (fun hHeld => ?_)
    clear hKc Kc HAM
    simp only [Act.put, List.setIfInBounds_toArray, List.set_cons_zero, List.set_cons_succ]
    refine wpAnyH_take (i := 12) (v := ?va22) (by simp; rfl) (by kernel_rfl) (by kernel_rfl) (by kernel_rfl) (fun _ _ _ h => h) (Or.inl ⟨by rfl, ?ya22⟩) hHeld ?ra22
    case ya22 => intro w hSw; clear hSw; go_simp; with_reducible rfl
    simp only [Act.put, List.setIfInBounds_toArray, List.set_cons_zero, List.set_cons_succ]
    refine wpAnyH_ready (rs := [13]) (by kernel_rfl) (by simp) ?_
    refine AllReadyH.cons (by simp; rfl) (fun Kc hKc => ?_) AllReadyH.nil
    go_simp
    have JZ : Hid (Bw wD (x4.alloc (.cells #[.slice p2 F.length c2, .slice p3 D.length c3] 72))) := below_then hHeld (below_alloc _ _)
    refine hKc.out _ _ JZ.out (fun hHeld => ?_)
    clear hKc Kc
    refine wpAnyH_take (i := 14) (v := ?va23) (by simp; rfl) (by kernel_rfl) (by kernel_rfl) (by kernel_rfl) (fun _ _ _ h => h) (Or.inl ⟨by rfl, ?ya23⟩) hHeld ?ra23
    case ya23 => intro w hSw; clear hSw; go_simp; with_reducible rfl
    simp only [Act.put, List.setIfInBounds_toArray, List.set_cons_zero, List.set_cons_succ]
    refine wpAnyH_done (by kernel_rfl) (NoPanic.normal ?_) _
    go_wp2
    go_ret
    exact ⟨_, _, _, _, rfl, rcopied HD.out HSZ.out I2.out M2.out⟩
end
end Go.Proofs.Ythgkdpniaednaaa
