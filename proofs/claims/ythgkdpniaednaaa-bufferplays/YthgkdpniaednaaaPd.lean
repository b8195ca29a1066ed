/-
  Layer 16: the functions of a buffer.
-/
import Derived.Test.YthgkdpniaednaaaPc
namespace Go.Proofs.Ythgkdpniaednaaa
open Go.RowKit

open B (I64)
theorem buildV (w : World) : (Instr.build 31 #[]).run Try.prog w = .ok (.agg (U8 (zs 32)).toArray) w := run_build w 31 _ _ (by kernel_rfl)
theorem results_val3 {fn : Func} {p u t : Tmp} {ty : TypeId} (h : fn.results = #[.cell p ty, .tmp u, .tmp t]) (tmps : Array Value) (w : World) (g : Nat) (v : List Int) (d : TypeDesc)
    (hp : tmps.getD p undef = .pointer (some ⟨g, 0, none⟩)) (hg : VAt w g v) (hv : v.length = 32) (hu : Try.prog.underlying ty = some d) (hd : d.isRow = true) (hi : (Try.prog.info? ty).map (·.size) = some 32) :
    (results fn tmps).run Try.prog w = .ok (.tuple #[.agg (U8 v).toArray, tmps.getD u undef, tmps.getD t undef]) w := by
  have hp' : tmps[p]?.getD undef = .pointer (some ⟨g, 0, none⟩) := by simpa using hp
  simp [results, h, hp', asAddr, run_loadVar_mid w g 0 ty _ d (LAt.range hg) hu hd (by rw [hi, U8_length, hv])]
/-- why a block is refused -/
def refS (F : List Int) (b : Int) : Int := if B.hasS F b = true then 0 else 160
theorem refS_in {F : List Int} {b : Int} (h : b ∈ F) : refS F b = 0 := if_pos (B.hasS_iff.2 h)
theorem refS_out {F : List Int} {b : Int} (h : ¬ b ∈ F) : refS F b = 160 := if_neg fun e => h (B.hasS_iff.1 e)
theorem has_out {F : List Int} {b : Int} (h : ¬ b ∈ F) : B.hasS F b = false := by
  cases e : B.hasS F b with
  | false => rfl
  | true => exact absurd (B.hasS_iff.1 e) h
section
variable {w w' : World} {Q cf : Nat} {pf : Option Addr} {F : List Int} {vi : Value} {L : List Im}
set_option maxHeartbeats 2000000 in
set_option maxRecDepth 100000 in
theorem refuses_nil (b : Int) (w : World) : Calls Try.prog 25 #[.pointer none, .int .i64 b] w fun e w' => e = .returned (.int .i64 1) ∧ w' = w := by
  go_enter Try.func25, Try.ntmps25
  go_wp2
  go_ret
  exact ⟨rfl, rfl⟩
set_option maxHeartbeats 2000000 in
set_option maxRecDepth 100000 in
theorem refuses_at (h : BAt w Q pf cf F vi L) (hF : F.length ≤ 16) (b : Int) : Calls Try.prog 25 #[.pointer (some ⟨Q, 0, none⟩), .int .i64 b] w fun e w' => e = .returned (.int .i64 (refS F b)) ∧ w' = w := by
  have c0 := h.c0
  have HI : Hid (B.IIn w pf F.length F) := h.form
  have HR : Hid (∀ k : Bool, (!B.hasS F b) = k → refS F b = if k = true then 160 else 0) := fun k e => by subst e; unfold refS; cases B.hasS F b <;> rfl
  clear h
  go_enter Try.func25, Try.ntmps25
  go_wp2_with (go_at_call 37; refine (B.has_is _ _ _ _ _ _ HI.out (by omega)).mono ?_; rintro e w' ⟨rfl, rfl⟩)
  all_goals go_ret
  all_goals refine ⟨?_, rfl⟩
  · rename_i e; rw [HR.out _ e]; rfl
  · rename_i e; rw [HR.out _ e]; rfl
set_option maxHeartbeats 2000000 in
set_option maxRecDepth 100000 in
theorem find_at (h : BAt w Q pf cf F vi L) (hk : Okb F L) (b : Int) : Calls Try.prog 26 #[.pointer (some ⟨Q, 0, none⟩), .int .i64 b] w fun e w' => e = .returned (.tuple #[.int .i64 (plc L b : Int), .bool (isAt L b)]) ∧ Below w.heap.size w w' := by
  have c1 := h.c1
  obtain ⟨p, c, rfl, hM, hc⟩ := h.min hk.wf
  have HM : Hid (MIn w p L.length L) := hM
  have HU : Hid (UpI L) := hk.up
  have hf := hk.few
  clear h hk hM
  go_enter Try.func26, Try.ntmps26
  go_wp2_with (go_at_call 38; refine (search_at HM.out HU.out (by omega) b).mono ?_; rintro e w' ⟨rfl, hb⟩; have HB : Hid (Below w.heap.size w w') := hb; clear hb)
  go_ret2
  exact ⟨rfl, HB.out⟩
/-- what Read tells -/
def rdV (F : List Int) (L : List Im) (b : Int) : List Int := if B.hasS F b = true then (gt L b).getD (zs 32) else zs 32
def rdB (F : List Int) (L : List Im) (b : Int) : Bool := B.hasS F b && (gt L b).isSome
theorem rdV_len {F : List Int} {L : List Im} (h : ImsWf L) (b : Int) : (rdV F L b).length = 32 := by
  unfold rdV
  split
  · cases e : gt L b with
    | none => exact zs_len 32
    | some v => exact (h _ (gt_mem e)).len
  · exact zs_len 32
theorem MIn.loadv {b o n k : Nat} {x : Im} (h : MIn w (some ⟨b, o, none⟩) n L) (hk : L[k]? = some x) : (Instr.loadAt 31 (.pointer (some ⟨b, o + k * 33 + 1, none⟩))).run Try.prog w = .ok (.agg (U8 x.v).toArray) w :=
  run_loadAt_mid w b (o + k * 33 + 1) 31 (U8 x.v) _ (fun j v hj => by
    rw [show o + k * 33 + 1 + j = o + k * 33 + (j + 1) by omega]
    exact h.at hk (j + 1) v (by simpa [icells] using hj)) Try.underlying31 rfl (by rw [sizeV, U8_length, (h.wf x (List.mem_of_getElem? hk)).len])
set_option maxHeartbeats 2000000 in
set_option maxRecDepth 100000 in
theorem read_at (h : BAt w Q pf cf F vi L) (hk : Okb F L) (b : Int) : Calls Try.prog 10 #[.pointer (some ⟨Q, 0, none⟩), .int .i64 b] w fun e w' => e = .returned (.tuple #[.agg (U8 (rdV F L b)).toArray, .bool (rdB F L b), .int .i64 (refS F b)]) ∧ Below w.heap.size w w' := by
  have hF := (isS_len hk.is).2
  obtain ⟨w1, hw1⟩ : ∃ w1, w1 = w.alloc (.cells (U8 (zs 32)).toArray 31) := ⟨_, rfl⟩
  have HAL : Hid ((Instr.alloc 31 true (.tuple #[])).run Try.prog w = .ok (.pointer (some ⟨w.heap.size, 0, none⟩)) w1) := by rw [hw1]; exact allocV w
  have B1 : Below w.heap.size w w1 := by rw [hw1]; exact below_alloc w _
  have V1 : VAt w1 w.heap.size (zs 32) := by rw [hw1]; exact LAt.new _ _ _
  have A1 : BAt w1 Q pf cf F vi L := h.later B1
  have HB1 : Hid (Below w.heap.size w w1) := B1
  have HV1 : Hid (VAt w1 w.heap.size (zs 32)) := V1
  have HA1 : Hid (BAt w1 Q pf cf F vi L) := A1
  have HK : Hid (Okb F L) := hk
  have HBV : Hid (∀ w : World, (Instr.build 31 #[]).run Try.prog w = .ok (.agg (U8 (zs 32)).toArray) w) := buildV
  clear hw1 B1 V1 A1 h hk
  by_cases hb : b ∈ F
  · have HR : Hid (refS F b = 0) := refS_in hb
    have hH : B.hasS F b = true := B.hasS_iff.2 hb
    clear hb
    cases hat : isAt L b with
    | false =>
      have HRV : Hid (rdV F L b = zs 32 ∧ rdB F L b = false) := by
        have e := gt_no HK.out.up hat
        exact ⟨by unfold rdV; rw [if_pos hH, e]; rfl, by unfold rdB; rw [e]; simp⟩
      have HAT : Hid (isAt L b = false) := hat
      clear hat hH
      go_enter Try.func10, Try.ntmps10
      go_wp2_with ((with_reducible refine at_ops ?_); (refine wpList_alloc_is (by rfl) 31 rfl HAL.out ?_); simp only [Act.put, List.setIfInBounds_toArray, List.set_cons_zero, List.set_cons_succ])
      refine (refuses_at HA1.out hF b).mono ?_
      rintro e w' ⟨rfl, rfl⟩
      rw [HR.out]
      go_wp2_with fail
      refine (find_at HA1.out HK.out b).mono ?_
      rintro e w2 ⟨rfl, bn⟩
      rw [HAT.out]
      have HV2 : Hid (VAt w2 w.heap.size (zs 32)) := LAt.later HV1.out bn
      have HB2 : Hid (Below w.heap.size w w2) := below_then HB1.out bn
      have HST : Hid ((Instr.storeAt 31 (.pointer (some ⟨w.heap.size, 0, none⟩)) (.agg (U8 (zs 32)).toArray)).run Try.prog w2 = .ok () (w2.setRow w.heap.size (U8 (zs 32)).toArray)) := VAt.store HV2.out (zs_len 32) (zs_len 32)
      have HV3 : Hid (VAt (w2.setRow w.heap.size (U8 (zs 32)).toArray) w.heap.size (zs 32)) := LAt.stored HV2.out _
      have HB3 : Hid (Below w.heap.size w (w2.setRow w.heap.size (U8 (zs 32)).toArray)) := below_setRow HB2.out (Nat.le_refl _) _
      clear bn HV2 HB2 HV1 HA1 HB1
      generalize w2.setRow w.heap.size (U8 (zs 32)).toArray = w3 at *
      go_wp2_with ((with_reducible refine at_ops ?_); (first | ((refine wpList_build_is (vs := []) (by rfl) 31 rfl (by rfl) (HBV.out _) ?_); simp only [Act.put, List.setIfInBounds_toArray, List.set_cons_zero, List.set_cons_succ]) | ((refine wpList_store_is (by rfl) 31 rfl rfl rfl HST.out ?_); simp only [Act.put])))
      (try simp only [Exit.inBlock, Exit.then])
      exact bodyPost_ret (results_val3 Try.results10 _ _ w.heap.size _ _ (by rfl) HV3.out (zs_len 32) Try.underlying31 rfl sizeV) rfl ⟨by rw [HRV.out.1, HRV.out.2, HR.out]; rfl, HB3.out⟩
    | true =>
      obtain ⟨x, hx, hxb⟩ := isAt_some hat
      have HRV : Hid (rdV F L b = x.v ∧ rdB F L b = true ∧ x.v.length = 32) := by
        have e := gt_at HK.out.up hat hx
        exact ⟨by unfold rdV; rw [if_pos hH, e]; rfl, by unfold rdB; rw [e, hH]; rfl, (HK.out.wf x (List.mem_of_getElem? hx)).len⟩
      have HAT : Hid (isAt L b = true) := hat
      have HX : Hid (L[plc L b]? = some x) := hx
      have hpl : plc L b < L.length := (List.getElem?_eq_some_iff.1 hx).1
      have hfew := HK.out.few
      clear hat hH hx hxb
      go_enter Try.func10, Try.ntmps10
      go_wp2_with ((with_reducible refine at_ops ?_); (refine wpList_alloc_is (by rfl) 31 rfl HAL.out ?_); simp only [Act.put, List.setIfInBounds_toArray, List.set_cons_zero, List.set_cons_succ])
      refine (refuses_at HA1.out hF b).mono ?_
      rintro e w' ⟨rfl, rfl⟩
      rw [HR.out]
      go_wp2_with fail
      refine (find_at HA1.out HK.out b).mono ?_
      rintro e w2 ⟨rfl, bn⟩
      rw [HAT.out]
      have A2 : BAt w2 Q pf cf F vi L := HA1.out.later bn
      have HV2 : Hid (VAt w2 w.heap.size (zs 32)) := LAt.later HV1.out bn
      have HB2 : Hid (Below w.heap.size w w2) := below_then HB1.out bn
      obtain ⟨p, c, rfl, hM, hc⟩ := A2.min HK.out.wf
      obtain ⟨b1, o1, rfl, -⟩ := hM.cells (by omega)
      have c1 := A2.c1
      have HLD : Hid ((Instr.loadAt 31 (.pointer (some ⟨b1, o1 + plc L b * 33 + 1, none⟩))).run Try.prog w2 = .ok (.agg (U8 x.v).toArray) w2) := hM.loadv HX.out
      have HST : Hid ((Instr.storeAt 31 (.pointer (some ⟨w.heap.size, 0, none⟩)) (.agg (U8 x.v).toArray)).run Try.prog w2 = .ok () (w2.setRow w.heap.size (U8 x.v).toArray)) := VAt.store HV2.out (zs_len 32) HRV.out.2.2
      have HV3 : Hid (VAt (w2.setRow w.heap.size (U8 x.v).toArray) w.heap.size x.v) := LAt.stored HV2.out _
      have HB3 : Hid (Below w.heap.size w (w2.setRow w.heap.size (U8 x.v).toArray)) := below_setRow HB2.out (Nat.le_refl _) _
      clear bn HV2 HB2 HV1 HA1 HB1 A2 hM HX
      generalize w2.setRow w.heap.size (U8 x.v).toArray = w3 at *
      generalize plc L b = k at *
      go_wp2_with ((with_reducible refine at_ops ?_); (first | ((refine wpList_load_is (by rfl) 31 rfl rfl HLD.out ?_); simp only [Act.put, List.setIfInBounds_toArray, List.set_cons_zero, List.set_cons_succ]) | ((refine wpList_store_is (by rfl) 31 rfl rfl rfl HST.out ?_); simp only [Act.put])))
      (try simp only [Exit.inBlock, Exit.then])
      exact bodyPost_ret (results_val3 Try.results10 _ _ w.heap.size _ _ (by rfl) HV3.out HRV.out.2.2 Try.underlying31 rfl sizeV) rfl ⟨by rw [HRV.out.1, HRV.out.2.1, HR.out]; rfl, HB3.out⟩
  · have HR : Hid (refS F b = 160) := refS_out hb
    have HRV : Hid (rdV F L b = zs 32 ∧ rdB F L b = false) := by
      have e := has_out hb
      exact ⟨by unfold rdV; rw [e]; rfl, by unfold rdB; rw [e]; rfl⟩
    have HST : Hid ((Instr.storeAt 31 (.pointer (some ⟨w.heap.size, 0, none⟩)) (.agg (U8 (zs 32)).toArray)).run Try.prog w1 = .ok () (w1.setRow w.heap.size (U8 (zs 32)).toArray)) := VAt.store HV1.out (zs_len 32) (zs_len 32)
    have HV3 : Hid (VAt (w1.setRow w.heap.size (U8 (zs 32)).toArray) w.heap.size (zs 32)) := LAt.stored HV1.out _
    have HB3 : Hid (Below w.heap.size w (w1.setRow w.heap.size (U8 (zs 32)).toArray)) := below_setRow HB1.out (Nat.le_refl _) _
    clear hb
    go_enter Try.func10, Try.ntmps10
    go_wp2_with ((with_reducible refine at_ops ?_); (refine wpList_alloc_is (by rfl) 31 rfl HAL.out ?_); simp only [Act.put, List.setIfInBounds_toArray, List.set_cons_zero, List.set_cons_succ])
    refine (refuses_at HA1.out hF b).mono ?_
    rintro e w' ⟨rfl, rfl⟩
    rw [HR.out]
    clear HV1 HA1 HB1 HAL
    generalize w'.setRow w.heap.size (U8 (zs 32)).toArray = w3 at *
    go_wp2_with ((with_reducible refine at_ops ?_); (first | ((refine wpList_build_is (vs := []) (by rfl) 31 rfl (by rfl) (HBV.out _) ?_); simp only [Act.put, List.setIfInBounds_toArray, List.set_cons_zero, List.set_cons_succ]) | ((refine wpList_store_is (by rfl) 31 rfl rfl rfl HST.out ?_); simp only [Act.put])))
    (try simp only [Exit.inBlock, Exit.then])
    exact bodyPost_ret (results_val3 Try.results10 _ _ w.heap.size _ _ (by rfl) HV3.out (zs_len 32) Try.underlying31 rfl sizeV) rfl ⟨by rw [HRV.out.1, HRV.out.2, HR.out]; rfl, HB3.out⟩
end
end Go.Proofs.Ythgkdpniaednaaa
