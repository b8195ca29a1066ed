/-
  Layer 17: how a cache lies; its functions that only read, New.
-/
import Derived.Test.YthcpnfelnonhnaaDoorPc
namespace Go.Proofs.YthcpnfelnonhnaaDoor
open Go.RowKit

theorem results_ent {fn : Func} {p u : Tmp} {ty : TypeId} (h : fn.results = #[.cell p ty, .tmp u]) (tmps : Array Value) (w : World) (g : Nat) (t : TypeId) (cs : List Value) (d : TypeDesc)
    (hp : tmps.getD p undef = .pointer (some ⟨g, 0, none⟩)) (hg : LAt t w g cs) (hu : Tryd.prog.underlying ty = some d) (hd : d.isRow = true) (hi : (Tryd.prog.info? ty).map (·.size) = some cs.length) :
    (results fn tmps).run Tryd.prog w = .ok (.tuple #[.agg cs.toArray, tmps.getD u undef]) w := results_lat h tmps w g t cs d hp hg hu hd hi
/-- how it lies: its three cells, its row of entries -/
structure CAt (w : World) (Q : Nat) (n : Int) (ve : Value) (L : List En) (nx : Int) : Prop where
  st : w.heap[Q]? = some (.cells #[.int .i64 n, ve, .int .u64 nx] 69 (0, 0))
  row : EOwn 57 w 0 ve L
section
variable {w w' : World} {Q : Nat} {n nx : Int} {ve : Value} {L : List En}
theorem CAt.lt (h : CAt w Q n ve L nx) : Q < w.heap.size := (Array.getElem?_eq_some_iff.1 h.st).1
theorem CAt.c0 (h : CAt w Q n ve L nx) : w.cell? ⟨Q, 0, none⟩ = some (.int .i64 n) := by rw [cell_of_row _ Q 0 _ 69 (0, 0) h.st]; rfl
theorem CAt.c1 (h : CAt w Q n ve L nx) : w.cell? ⟨Q, 1, none⟩ = some ve := by rw [cell_of_row _ Q 1 _ 69 (0, 0) h.st]; rfl
theorem CAt.c2 (h : CAt w Q n ve L nx) : w.cell? ⟨Q, 2, none⟩ = some (.int .u64 nx) := by rw [cell_of_row _ Q 2 _ 69 (0, 0) h.st]; rfl
theorem CAt.free (h : CAt w Q n ve L nx) (o : Nat) : w.frozen? ⟨Q, o, none⟩ = false := by simp [World.frozen?, h.st]
theorem CAt.later (h : CAt w Q n ve L nx) (hb : Below w.heap.size w w') : CAt w' Q n ve L nx := ⟨(hb.block Q h.lt).trans h.st, O.own_later h.row hb⟩
theorem CAt.far {S : Nat → Prop} (h : CAt w Q n ve L nx) (hk : Kept S w w') (hQ : ¬ S Q) (hi : ∀ g, ve.ownBlock = some g → ¬ S g) : CAt w' Q n ve L nx := ⟨(hk.block Q h.lt hQ).trans h.st, O.own_far h.row hk hi⟩
theorem CAt.ne (h : CAt w Q n ve L nx) : ve.ownBlock ≠ some Q := O.own_not h.row h.st (by decide)
theorem CAt.ein (h : CAt w Q n ve L nx) (hw : EnsWf L) : ∃ p c, ve = .slice p L.length c ∧ EIn w p L.length L ∧ L.length ≤ c := by
  obtain ⟨p, c, e, hm, hc, _⟩ := EOwn.in h.row hw
  exact ⟨p, c, e, hm, hc⟩
set_option maxHeartbeats 2000000 in
set_option maxRecDepth 100000 in
theorem new_at {n : Int} (h1 : 1 ≤ n) (h2 : n ≤ 64) (w : World) : Calls Tryd.prog 5 #[.int .i64 n] w fun e w' => e = .returned (.tuple #[.pointer (some ⟨w.heap.size, 0, none⟩), .int .i64 0]) ∧ CAt w' w.heap.size n (.slice none 0 0) [] 0 ∧ Below w.heap.size w w' := by
  go_enter Tryd.func5, Tryd.ntmps5
  go_wp2
  go_ret2
  exact ⟨rfl, ⟨heap_alloc_new w _, World.ownsRow_nil _ _ _ _⟩, below_alloc w _⟩
set_option maxHeartbeats 2000000 in
set_option maxRecDepth 100000 in
theorem new_no {n : Int} (h : n < 1 ∨ 64 < n) (w : World) : Calls Tryd.prog 5 #[.int .i64 n] w fun e w' => e = .returned (.tuple #[.pointer none, .int .i64 2]) ∧ w' = w := by
  go_enter Tryd.func5, Tryd.ntmps5
  by_cases h1 : n < 1
  · go_wp2
    go_ret2
    exact ⟨rfl, rfl⟩
  · have h2 : 64 < n := by omega
    go_wp2
    go_ret2
    exact ⟨rfl, rfl⟩
set_option maxHeartbeats 2000000 in
set_option maxRecDepth 100000 in
theorem find_at (h : CAt w Q n ve L nx) (hk : Okc n L nx) (b : Int) : Calls Tryd.prog 33 #[.pointer (some ⟨Q, 0, none⟩), .int .i64 b] w fun e w' => e = .returned (.tuple #[.int .i64 (ple L b : Int), .bool (isE L b)]) ∧ Below w.heap.size w w' := by
  have c1 := h.c1
  obtain ⟨p, c, rfl, hM, hc⟩ := h.ein hk.wf
  have HM : Hid (EIn w p L.length L) := hM
  have HU : Hid (UpE L) := hk.up
  have hf := hk.few
  clear h hk hM
  go_enter Tryd.func33, Tryd.ntmps33
  go_wp2_with (go_at_call 39; refine (search_at HM.out HU.out (by omega) b).mono ?_; rintro e w' ⟨rfl, hb⟩; have HB : Hid (Below w.heap.size w w') := hb; clear hb)
  go_ret2
  exact ⟨rfl, HB.out⟩
set_option maxHeartbeats 2000000 in
set_option maxRecDepth 100000 in
theorem find_nil (b : Int) (w : World) : Calls Tryd.prog 33 #[.pointer none, .int .i64 b] w fun e w' => e = .returned (.tuple #[.int .i64 0, .bool false]) ∧ w' = w := by
  go_enter Tryd.func33, Tryd.ntmps33
  go_wp2
  go_ret2
  exact ⟨rfl, rfl⟩
set_option maxHeartbeats 2000000 in
set_option maxRecDepth 100000 in
theorem len_at (h : CAt w Q n ve L nx) : Calls Tryd.prog 17 #[.pointer (some ⟨Q, 0, none⟩)] w fun e w' => e = .returned (.int .i64 (L.length : Int)) ∧ w' = w := by
  have c1 := h.c1
  obtain ⟨p, c, rfl, _⟩ := O.own_form h.row
  clear h
  go_enter Tryd.func17, Tryd.ntmps17
  go_wp2
  go_ret
  exact ⟨rfl, rfl⟩
set_option maxHeartbeats 2000000 in
set_option maxRecDepth 100000 in
theorem len_nil (w : World) : Calls Tryd.prog 17 #[.pointer none] w fun e w' => e = .returned (.int .i64 0) ∧ w' = w := by
  go_enter Tryd.func17, Tryd.ntmps17
  go_wp2
  go_ret
  exact ⟨rfl, rfl⟩
/-- what Last tells -/
def lasV (nx : Int) : Int := if nx = 0 then 0 else nx - 1
def lasB (nx : Int) : Bool := decide (nx ≠ 0)
set_option maxHeartbeats 2000000 in
set_option maxRecDepth 100000 in
theorem last_at (h : CAt w Q n ve L nx) (h0 : 0 ≤ nx) (h1 : nx ≤ 4611686018427387905) : Calls Tryd.prog 15 #[.pointer (some ⟨Q, 0, none⟩)] w fun e w' => e = .returned (.tuple #[.int .u64 (lasV nx), .bool (lasB nx)]) ∧ w' = w := by
  have c2 := h.c2
  clear h
  go_enter Tryd.func15, Tryd.ntmps15
  by_cases hz : nx = 0
  · have HZ : Hid (lasV nx = 0 ∧ lasB nx = false) := ⟨if_pos hz, by simp [lasB, hz]⟩
    subst hz
    go_wp2
    go_ret2
    exact ⟨by rw [HZ.out.1, HZ.out.2]; rfl, rfl⟩
  · have HZ : Hid (lasV nx = nx - 1 ∧ lasB nx = true) := ⟨if_neg hz, by simp [lasB, hz]⟩
    have hz2 : (nx == 0) = false := by rw [beq_eq_false_iff_ne]; exact hz
    have hw : IntKind.u64.wrap (nx - 1) = nx - 1 := by rw [IntKind.wrap_u64]; omega
    clear hz
    go_wp2
    go_ret2
    exact ⟨by rw [HZ.out.1, HZ.out.2]; rfl, rfl⟩
set_option maxHeartbeats 2000000 in
set_option maxRecDepth 100000 in
theorem last_nil (w : World) : Calls Tryd.prog 15 #[.pointer none] w fun e w' => e = .returned (.tuple #[.int .u64 0, .bool false]) ∧ w' = w := by
  go_enter Tryd.func15, Tryd.ntmps15
  go_wp2
  go_ret2
  exact ⟨rfl, rfl⟩
/-- what Get tells -/
def getV (L : List En) (b : Int) : En := (gtE L b).getD en0
def getB (L : List En) (b : Int) : Bool := (gtE L b).isSome
theorem getV_len {L : List En} (h : EnsWf L) (b : Int) : (getV L b).v.length = 32 := by
  unfold getV
  cases e : gtE L b with
  | none => exact zs_len 32
  | some x => exact (h _ (gt_some e).1).len
theorem lay0E (w : World) (g : Nat) (i : En) (hi : i.v.length = 32) (h : LAt 57 w g (ecells en0)) : (Instr.storeAt 57 (.pointer (some ⟨g, 0, none⟩)) (.agg (ecells i).toArray)).run Tryd.prog w = .ok () (w.setRow g (ecells i).toArray) :=
  LAt.store (ds := ecells i) h (by rw [etC.size, ecells_len hi]) (by rw [ecells_len hi, ecells_len (zs_len 32)]) (ecells_all i)
set_option maxHeartbeats 2000000 in
set_option maxRecDepth 100000 in
theorem get_at (h : CAt w Q n ve L nx) (hk : Okc n L nx) (b : Int) : Calls Tryd.prog 13 #[.pointer (some ⟨Q, 0, none⟩), .int .i64 b] w fun e w' => e = .returned (.tuple #[.agg (ecells (getV L b)).toArray, .bool (getB L b)]) ∧ Below w.heap.size w w' := by
  obtain ⟨w1, hw1⟩ : ∃ w1, w1 = w.alloc (.cells (ecells en0).toArray 57) := ⟨_, rfl⟩
  have HAL : Hid ((Instr.alloc 57 true (.tuple #[])).run Tryd.prog w = .ok (.pointer (some ⟨w.heap.size, 0, none⟩)) w1) := by rw [hw1]; exact allocE etC w
  have B1 : Below w.heap.size w w1 := by rw [hw1]; exact below_alloc w _
  have HV1 : Hid (LAt 57 w1 w.heap.size (ecells en0)) := by rw [hw1]; exact LAt.new _ _ _
  have HA1 : Hid (CAt w1 Q n ve L nx) := h.later B1
  have HB1 : Hid (Below w.heap.size w w1) := B1
  have HK : Hid (Okc n L nx) := hk
  clear hw1 B1 h hk
  cases hat : isE L b with
  | false =>
    have HRV : Hid (getV L b = en0 ∧ getB L b = false) := by
      have e := gt_no HK.out.up hat
      exact ⟨by unfold getV; rw [e]; rfl, by unfold getB; rw [e]; rfl⟩
    have HAT : Hid (isE L b = false) := hat
    clear hat
    go_enter Tryd.func13, Tryd.ntmps13
    go_wp2_with ((with_reducible refine at_ops ?_); (refine wpList_alloc_is (by rfl) 57 rfl HAL.out ?_); simp only [Act.put, List.setIfInBounds_toArray, List.set_cons_zero, List.set_cons_succ])
    refine (find_at HA1.out HK.out b).mono ?_
    rintro e w2 ⟨rfl, bn⟩
    rw [HAT.out]
    have HV2 : Hid (LAt 57 w2 w.heap.size (ecells en0)) := LAt.later HV1.out bn
    have HB2 : Hid (Below w.heap.size w w2) := below_then HB1.out bn
    have HBV : Hid ((Instr.build 57 #[]).run Tryd.prog w2 = .ok (.agg (ecells en0).toArray) w2) := buildE0 etC w2
    have HST : Hid ((Instr.storeAt 57 (.pointer (some ⟨w.heap.size, 0, none⟩)) (.agg (ecells en0).toArray)).run Tryd.prog w2 = .ok () (w2.setRow w.heap.size (ecells en0).toArray)) := lay0E w2 _ en0 (zs_len 32) HV2.out
    have HV3 : Hid (LAt 57 (w2.setRow w.heap.size (ecells en0).toArray) w.heap.size (ecells en0)) := LAt.stored HV2.out _
    have HB3 : Hid (Below w.heap.size w (w2.setRow w.heap.size (ecells en0).toArray)) := below_setRow HB2.out (Nat.le_refl _) _
    clear bn HV2 HB2 HV1 HA1 HB1
    generalize w2.setRow w.heap.size (ecells en0).toArray = w3 at *
    go_wp2_with ((with_reducible refine at_ops ?_); (first | ((refine wpList_build_is (vs := []) (by rfl) 57 rfl (by rfl) HBV.out ?_); simp only [Act.put, List.setIfInBounds_toArray, List.set_cons_zero, List.set_cons_succ]) | ((refine wpList_store_is (by rfl) 57 rfl rfl rfl HST.out ?_); simp only [Act.put])))
    (try simp only [Exit.inBlock, Exit.then])
    exact bodyPost_ret (results_ent Tryd.results13 _ _ w.heap.size 57 _ _ (by rfl) HV3.out etC.un (isRowS _) (by rw [etC.size, ecells_len (zs_len 32)])) rfl ⟨by rw [HRV.out.1, HRV.out.2]; rfl, HB3.out⟩
  | true =>
    obtain ⟨x, hx, hxb⟩ := isE_some hat
    have HRV : Hid (getV L b = x ∧ getB L b = true ∧ x.v.length = 32) := by
      have e := gt_at HK.out.up hat hx
      exact ⟨by unfold getV; rw [e]; rfl, by unfold getB; rw [e]; rfl, (HK.out.wf x (List.mem_of_getElem? hx)).len⟩
    have HAT : Hid (isE L b = true) := hat
    have HX : Hid (L[ple L b]? = some x) := hx
    have hpl : ple L b < L.length := (List.getElem?_eq_some_iff.1 hx).1
    have hfew := HK.out.few
    clear hat hx hxb
    go_enter Tryd.func13, Tryd.ntmps13
    go_wp2_with ((with_reducible refine at_ops ?_); (refine wpList_alloc_is (by rfl) 57 rfl HAL.out ?_); simp only [Act.put, List.setIfInBounds_toArray, List.set_cons_zero, List.set_cons_succ])
    refine (find_at HA1.out HK.out b).mono ?_
    rintro e w2 ⟨rfl, bn⟩
    rw [HAT.out]
    have A2 : CAt w2 Q n ve L nx := HA1.out.later bn
    have HV2 : Hid (LAt 57 w2 w.heap.size (ecells en0)) := LAt.later HV1.out bn
    have HB2 : Hid (Below w.heap.size w w2) := below_then HB1.out bn
    obtain ⟨p, c, rfl, hM, hc⟩ := A2.ein HK.out.wf
    obtain ⟨b1, o1, rfl, -⟩ := hM.cells (by omega)
    have c1 := A2.c1
    have HLD : Hid ((Instr.loadAt 57 (.pointer (some ⟨b1, o1 + ple L b * 34, none⟩))).run Tryd.prog w2 = .ok (.agg (ecells x).toArray) w2) := EIn.load etC hM HX.out
    have HST : Hid ((Instr.storeAt 57 (.pointer (some ⟨w.heap.size, 0, none⟩)) (.agg (ecells x).toArray)).run Tryd.prog w2 = .ok () (w2.setRow w.heap.size (ecells x).toArray)) := lay0E w2 _ x HRV.out.2.2 HV2.out
    have HV3 : Hid (LAt 57 (w2.setRow w.heap.size (ecells x).toArray) w.heap.size (ecells x)) := LAt.stored HV2.out _
    have HB3 : Hid (Below w.heap.size w (w2.setRow w.heap.size (ecells x).toArray)) := below_setRow HB2.out (Nat.le_refl _) _
    clear bn HV2 HB2 HV1 HA1 HB1 A2 hM HX
    generalize w2.setRow w.heap.size (ecells x).toArray = w3 at *
    generalize ple L b = k at *
    go_wp2_with ((with_reducible refine at_ops ?_); (first | ((refine wpList_load_is (by rfl) 57 rfl rfl HLD.out ?_); simp only [Act.put, List.setIfInBounds_toArray, List.set_cons_zero, List.set_cons_succ]) | ((refine wpList_store_is (by rfl) 57 rfl rfl rfl HST.out ?_); simp only [Act.put])))
    (try simp only [Exit.inBlock, Exit.then])
    exact bodyPost_ret (results_ent Tryd.results13 _ _ w.heap.size 57 _ _ (by rfl) HV3.out etC.un (isRowS _) (by rw [etC.size, ecells_len HRV.out.2.2])) rfl ⟨by rw [HRV.out.1, HRV.out.2.1]; rfl, HB3.out⟩
set_option maxHeartbeats 2000000 in
set_option maxRecDepth 100000 in
theorem get_nil (b : Int) (w : World) : Calls Tryd.prog 13 #[.pointer none, .int .i64 b] w fun e w' => e = .returned (.tuple #[.agg (ecells en0).toArray, .bool false]) ∧ Below w.heap.size w w' := by
  obtain ⟨w1, hw1⟩ : ∃ w1, w1 = w.alloc (.cells (ecells en0).toArray 57) := ⟨_, rfl⟩
  have HAL : Hid ((Instr.alloc 57 true (.tuple #[])).run Tryd.prog w = .ok (.pointer (some ⟨w.heap.size, 0, none⟩)) w1) := by rw [hw1]; exact allocE etC w
  have B1 : Below w.heap.size w w1 := by rw [hw1]; exact below_alloc w _
  have HV1 : Hid (LAt 57 w1 w.heap.size (ecells en0)) := by rw [hw1]; exact LAt.new _ _ _
  have HBV : Hid ((Instr.build 57 #[]).run Tryd.prog w1 = .ok (.agg (ecells en0).toArray) w1) := buildE0 etC w1
  have HST : Hid ((Instr.storeAt 57 (.pointer (some ⟨w.heap.size, 0, none⟩)) (.agg (ecells en0).toArray)).run Tryd.prog w1 = .ok () (w1.setRow w.heap.size (ecells en0).toArray)) := lay0E w1 _ en0 (zs_len 32) HV1.out
  have HV3 : Hid (LAt 57 (w1.setRow w.heap.size (ecells en0).toArray) w.heap.size (ecells en0)) := LAt.stored HV1.out _
  have HB3 : Hid (Below w.heap.size w (w1.setRow w.heap.size (ecells en0).toArray)) := below_setRow B1 (Nat.le_refl _) _
  clear hw1 B1 HV1
  go_enter Tryd.func13, Tryd.ntmps13
  go_wp2_with ((with_reducible refine at_ops ?_); (refine wpList_alloc_is (by rfl) 57 rfl HAL.out ?_); simp only [Act.put, List.setIfInBounds_toArray, List.set_cons_zero, List.set_cons_succ])
  refine (find_nil b _).mono ?_
  rintro e w' ⟨rfl, rfl⟩
  generalize w'.setRow w.heap.size (ecells en0).toArray = w3 at *
  go_wp2_with ((with_reducible refine at_ops ?_); (first | ((refine wpList_build_is (vs := []) (by rfl) 57 rfl (by rfl) HBV.out ?_); simp only [Act.put, List.setIfInBounds_toArray, List.set_cons_zero, List.set_cons_succ]) | ((refine wpList_store_is (by rfl) 57 rfl rfl rfl HST.out ?_); simp only [Act.put])))
  (try simp only [Exit.inBlock, Exit.then])
  exact bodyPost_ret (results_ent Tryd.results13 _ _ w.heap.size 57 _ _ (by rfl) HV3.out etC.un (isRowS _) (by rw [etC.size, ecells_len (zs_len 32)])) rfl ⟨rfl, HB3.out⟩
end
end Go.Proofs.YthcpnfelnonhnaaDoor
