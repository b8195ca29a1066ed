/-
  Layer 16: awake.
-/
import Derived.Test.YthgkdpniaednaaaQa
namespace Go.Proofs.Ythgkdpniaednaaa
open Go.RowKit

open B (I64)
section
variable {P : Program} {ops : Array Oper} {S : World → Prop} {o : Oper} {a : Act}
theorem yields_build_is (hgd : Region.wanted o (yielded ops a.tmps) = true) (ty : TypeId) {ps : Array (Nat × Operand)} (ho : o.op = .build ty ps) {vs : List (Nat × Value)} {v : Value} (hx : ps.toList.map (fun (i, x) => (i, a.eval x)) = vs) (hrun : ∀ w, (Instr.build ty vs.toArray).run P w = .ok v w) : YieldsIf P ops S o v a :=
  .inl ⟨hgd, fun w _ => by unfold execOp; simp only [ho]; rw [show ps.map (fun (i, x) => (i, a.eval x)) = vs.toArray by rw [← hx, ← Array.toList_map]]; simp only [Sem.run_bind, hrun, Result.andThen_ok, Sem.run_pure]⟩
theorem step_slice_is {w w' : World} {K : Act → World → Prop} {Q : Exit → Act → World → Prop} {E : Prop} (hw : Region.wanted o (yielded ops a.tmps) = true) (ty n : Nat) {ps : Array (Nat × Operand)} (ho : o.op = .buildSlice ty n ps) {vs : List (Nat × Value)} {v : Value} (hx : ps.toList.map (fun (i, x) => (i, a.eval x)) = vs) (hrun : (Instr.buildSlice ty n vs.toArray).run P w = .ok v w') (hK : K (a.put o.dst v) w') :
    if Region.wanted o (yielded ops a.tmps) = true then Oper.wp P o a w K Q else E := by
  rw [if_pos hw]
  have hr : (execOp a.eval o).run P w = .ok (.value v) w' := by unfold execOp; simp only [ho]; rw [show ps.map (fun (i, x) => (i, a.eval x)) = vs.toArray by rw [← hx, ← Array.toList_map]]; simp only [Sem.run_bind, hrun, Result.andThen_ok, Sem.run_pure]
  unfold Oper.wp
  rw [hr]
  exact hK
end
/-- two images as a slice -/
theorem build_im2 (w : World) (i j : Im) (hi' : i.v.length = 32) (hj' : j.v.length = 32) : (Instr.buildSlice 23 2 #[(0, .agg (icells i).toArray), (1, .agg (icells j).toArray)]).run Try.prog w = .ok (.slice (some ⟨w.heap.size, 0, none⟩) 2 2) (w.alloc (.cells (IC [i, j]).toArray 33)) := by
  obtain ⟨i0, hi, hz0, hz1, hz2⟩ := info_parts infoI
  refine run_buildSlice w 23 33 2 _ _ i0 _ Try.underlying23 hi hz0 (by rw [hz1]; decide) (by rw [hz1]; decide) ?_
  rw [hz1]
  have hl : (icells i).length = 33 := icells_len hi'
  have hm : (icells j).length = 33 := icells_len hj'
  have hA : ∀ A : Array Value, A.size = 66 → Instr.fill (fun i => some (i * 33, 33)) A [(0, .agg (icells i).toArray), (1, .agg (icells j).toArray)] = some (IC [i, j]).toArray := by
    intro A hA
    have hAl : A.toList.length = 66 := by rw [← hA]; exact Array.length_toList
    have a0 := part_fill 0 (icells i) A.toList (by omega)
    have a0' : (icells i).toArray.zipIdx.foldl (fun cs x => match x with | (c, j) => cs.setIfInBounds (0 + j) c) A = ((A.toList.take 0 ++ icells i ++ A.toList.drop (0 + (icells i).length))).toArray := a0
    have a1 := part_fill 33 (icells j) (A.toList.take 0 ++ icells i ++ A.toList.drop (0 + (icells i).length)) (by simp only [List.length_append, List.length_take, List.length_drop]; omega)
    have a1' : (icells j).toArray.zipIdx.foldl (fun cs x => match x with | (c, j) => cs.setIfInBounds (33 + j) c) (A.toList.take 0 ++ icells i ++ A.toList.drop (0 + (icells i).length)).toArray = _ := a1
    simp only [Instr.fill, Value.cells, List.size_toArray, Nat.zero_mul, Nat.one_mul]
    rw [if_neg (by simp [hl, hA]), a0', if_neg (by simp [hm, hl, hA]), a1']
    congr 2
    have e0 : A.toList.take 0 ++ icells i = icells i := by simp
    rw [e0, List.take_append_of_le_length (by omega), List.take_of_length_le (by omega), List.drop_append, List.drop_of_length_le (by omega), List.nil_append, List.drop_of_length_le (by simp only [List.length_drop]; omega), List.append_nil]
    simp [IC]
  exact hA _ (by simp)
/-- a value of one byte -/
def val1 (k : Int) : List Int := k :: zs 31
theorem val1_len (k : Int) : (val1 k).length = 32 := rfl
theorem val1_wf {k b : Int} (h0 : 0 ≤ k) (h1 : k < 256) (hb : i64 b) : Im.Wf ⟨b, val1 k⟩ := ⟨hb, rfl, fun x hx => by
  rcases List.mem_cons.1 hx with rfl | hx
  · exact ⟨h0, h1⟩
  · exact zs_bytes 31 x hx⟩
theorem buildV1 (w : World) : (Instr.build 31 #[(0, .int .u8 1)]).run Try.prog w = .ok (.agg (U8 (val1 1)).toArray) w := run_build w 31 _ _ (by kernel_rfl)
theorem buildV2 (w : World) : (Instr.build 31 #[(0, .int .u8 2)]).run Try.prog w = .ok (.agg (U8 (val1 2)).toArray) w := run_build w 31 _ _ (by kernel_rfl)
theorem buildV3 (w : World) : (Instr.build 31 #[(0, .int .u8 3)]).run Try.prog w = .ok (.agg (U8 (val1 3)).toArray) w := run_build w 31 _ _ (by kernel_rfl)
section
variable {w w' : World} {Q cf : Nat} {pf : Option Addr} {F : List Int} {vi vi' : Value} {L L' : List Im}
/-- what a write leaves alone: blocks of other kinds -/
theorem Wrt.lat (hw : Wrt w w' Q pf cf F vi vi' L') (h : BAt w Q pf cf F vi L) {t : TypeId} {g : Nat} {cs : List Value} (hg : LAt t w g cs) (h1 : t ≠ 65) (h2 : t ≠ 33) : LAt t w' g cs :=
  (hw.kept.block g (LAt.lt hg) (fun e => by
    rcases e with e | e
    · have := h.st
      rw [← e, show w.heap[g]? = _ from hg] at this
      simp only [Option.some.injEq, Obj.cells.injEq] at this
      exact h1 this.2.1
    · exact O.own_not h.row hg h2 e)).trans hg
theorem wr_a (v : List Int) : wrS [1, 4] [] 2 v = [] := rfl
theorem wr_b (v : List Int) : wrS [1, 4] [] 4 v = [⟨4, v⟩] := rfl
theorem wr_c (u v : List Int) : wrS [1, 4] [⟨4, u⟩] 1 v = [⟨1, v⟩, ⟨4, u⟩] := rfl
theorem wr_d (u v y : List Int) : wrS [1, 4] [⟨1, v⟩, ⟨4, u⟩] 4 y = [⟨1, v⟩, ⟨4, y⟩] := rfl
theorem rd_d (v y : List Int) : rdV [1, 4] [⟨1, v⟩, ⟨4, y⟩] 4 = y ∧ rdB [1, 4] [⟨1, v⟩, ⟨4, y⟩] 4 = true := ⟨rfl, rfl⟩
theorem is14 : B.isS [1, 4] = true := by decide
theorem i64s {b : Int} (h : -100 ≤ b) (h2 : b ≤ 100) : i64 b := by unfold i64; omega
end
set_option maxHeartbeats 2000000 in
set_option maxRecDepth 100000 in
theorem awake_is (w : World) : Calls Try.prog 7 #[] w fun e w' => e = .returned (.bool true) ∧ Below w.heap.size w w' := by
  obtain ⟨w1, hw1⟩ : ∃ w1, w1 = w.alloc (.cells #[.int .i64 1, .int .i64 4] 3) := ⟨_, rfl⟩
  have hw1' := hw1.symm
  have HI1 : Hid (B.IIn w1 (some ⟨w.heap.size, 0, none⟩) 2 [1, 4]) := by rw [hw1]; exact B.lit_in w [1, 4] 2 rfl
  have HB1 : Hid (Below w.heap.size w w1) := by rw [hw1]; exact below_alloc w _
  clear hw1
  go_enter Try.func7, Try.ntmps7
  go_wp2_with fail
  refine (new_at HI1.out (by omega) (by omega) is14).mono ?_
  rintro e w2 ⟨Q, pf, cf, rfl, hN, -⟩
  have A2 : Hid (BAt w2 Q pf cf [1, 4] (.slice none 0 0) []) := hN.at'
  have K2 : Hid (Below w.heap.size w w2) := below_then HB1.out hN.below
  have GQ : Hid (w.heap.size ≤ Q) := Nat.le_trans HB1.out.size hN.q
  clear hN HI1 HB1 hw1'
  obtain ⟨a1, h1⟩ : ∃ a1, a1 = w2.alloc (.cells (U8 (zs 32)).toArray 31) := ⟨_, rfl⟩
  obtain ⟨a2, h2⟩ : ∃ a2, a2 = a1.alloc (.cells (U8 (zs 32)).toArray 31) := ⟨_, rfl⟩
  obtain ⟨a3, h3⟩ : ∃ a3, a3 = a2.alloc (.cells (U8 (zs 32)).toArray 31) := ⟨_, rfl⟩
  have L1 : Hid ((Instr.alloc 31 true (.tuple #[])).run Try.prog w2 = .ok (.pointer (some ⟨w2.heap.size, 0, none⟩)) a1) := by rw [h1]; exact allocV w2
  have L2 : Hid ((Instr.alloc 31 true (.tuple #[])).run Try.prog a1 = .ok (.pointer (some ⟨a1.heap.size, 0, none⟩)) a2) := by rw [h2]; exact allocV a1
  have L3 : Hid ((Instr.alloc 31 true (.tuple #[])).run Try.prog a2 = .ok (.pointer (some ⟨a2.heap.size, 0, none⟩)) a3) := by rw [h3]; exact allocV a2
  have b1 : Below w2.heap.size w2 a1 := by rw [h1]; exact below_alloc w2 _
  have b2 : Below a1.heap.size a1 a2 := by rw [h2]; exact below_alloc a1 _
  have b3 : Below a2.heap.size a2 a3 := by rw [h3]; exact below_alloc a2 _
  have v1 : VAt a3 w2.heap.size (zs 32) := LAt.later (LAt.later (by rw [h1]; exact LAt.new _ _ _) b2) b3
  have v2 : VAt a3 a1.heap.size (zs 32) := LAt.later (by rw [h2]; exact LAt.new _ _ _) b3
  have v3 : VAt a3 a2.heap.size (zs 32) := by rw [h3]; exact LAt.new _ _ _
  have s1 : a1.heap.size = w2.heap.size + 1 := by rw [h1]; simp
  have s2 : a2.heap.size = a1.heap.size + 1 := by rw [h2]; simp
  have HQ2 := A2.out.lt
  have A3 : BAt a3 Q pf cf [1, 4] (.slice none 0 0) [] := ((A2.out.later b1).later b2).later b3
  have K3 : Below w.heap.size w a3 := below_then (below_then (below_then K2.out b1) b2) b3
  clear h1 h2 h3 b1 b2 b3
  obtain ⟨n0, e0⟩ : ∃ n0, n0 = w2.heap.size := ⟨_, rfl⟩
  obtain ⟨n1, e1⟩ : ∃ n1, n1 = a1.heap.size := ⟨_, rfl⟩
  obtain ⟨n2, e2⟩ : ∃ n2, n2 = a2.heap.size := ⟨_, rfl⟩
  have k2s := K2.out.size
  rw [← e0] at L1 v1 s1 HQ2 k2s
  rw [← e1] at L2 v2 s1 s2
  rw [← e2] at L3 v3 s2
  have T1 : Hid ((Instr.storeAt 31 (.pointer (some ⟨n0, 0, none⟩)) (.agg (U8 (val1 1)).toArray)).run Try.prog a3 = .ok () (a3.setRow n0 (U8 (val1 1)).toArray)) := VAt.store v1 (zs_len 32) rfl
  have u2 : VAt (a3.setRow n0 (U8 (val1 1)).toArray) n1 (zs 32) := LAt.other v2 _ (by omega)
  have u3 : VAt (a3.setRow n0 (U8 (val1 1)).toArray) n2 (zs 32) := LAt.other v3 _ (by omega)
  have u1 : VAt (a3.setRow n0 (U8 (val1 1)).toArray) n0 (val1 1) := LAt.stored v1 _
  have kk : ∀ (W : World) (n : Nat) (cs : Array Value), n0 ≤ n → BAt W Q pf cf [1, 4] (.slice none 0 0) [] → (∀ a, pf = some a → a.block < n0) → Below w.heap.size w W → BAt (W.setRow n cs) Q pf cf [1, 4] (.slice none 0 0) [] ∧ Below w.heap.size w (W.setRow n cs) := fun W n cs hn hA hp hb =>
    ⟨hA.far (Kept.setRow W n cs) (fun e => by omega) (fun g hg => by cases hg) (fun a ha e => by have := hp a ha; omega), below_setRow hb (by omega) _⟩
  have hpf : ∀ a, pf = some a → a.block < n0 := fun a ha => by
    obtain ⟨cs, hc⟩ := A2.out.kind a ha
    rw [e0]; exact (Array.getElem?_eq_some_iff.1 hc).1
  obtain ⟨A4, K4⟩ := kk _ n0 (U8 (val1 1)).toArray (Nat.le_refl _) A3 hpf K3
  generalize a3.setRow n0 (U8 (val1 1)).toArray = a4 at *
  have T2 : Hid ((Instr.storeAt 31 (.pointer (some ⟨n1, 0, none⟩)) (.agg (U8 (val1 2)).toArray)).run Try.prog a4 = .ok () (a4.setRow n1 (U8 (val1 2)).toArray)) := VAt.store u2 (zs_len 32) rfl
  have x3 : VAt (a4.setRow n1 (U8 (val1 2)).toArray) n2 (zs 32) := LAt.other u3 _ (by omega)
  have x1 : VAt (a4.setRow n1 (U8 (val1 2)).toArray) n0 (val1 1) := LAt.other u1 _ (by omega)
  have x2 : VAt (a4.setRow n1 (U8 (val1 2)).toArray) n1 (val1 2) := LAt.stored u2 _
  obtain ⟨A5, K5⟩ := kk _ n1 (U8 (val1 2)).toArray (by omega) A4 hpf K4
  generalize a4.setRow n1 (U8 (val1 2)).toArray = a5 at *
  have T3 : Hid ((Instr.storeAt 31 (.pointer (some ⟨n2, 0, none⟩)) (.agg (U8 (val1 3)).toArray)).run Try.prog a5 = .ok () (a5.setRow n2 (U8 (val1 3)).toArray)) := VAt.store x3 (zs_len 32) rfl
  have z1 : VAt (a5.setRow n2 (U8 (val1 3)).toArray) n0 (val1 1) := LAt.other x1 _ (by omega)
  have z2 : VAt (a5.setRow n2 (U8 (val1 3)).toArray) n1 (val1 2) := LAt.other x2 _ (by omega)
  have z3 : VAt (a5.setRow n2 (U8 (val1 3)).toArray) n2 (val1 3) := LAt.stored x3 _
  obtain ⟨A6, K6⟩ := kk _ n2 (U8 (val1 3)).toArray (by omega) A5 hpf K5
  generalize a5.setRow n2 (U8 (val1 3)).toArray = w4 at *
  have A0 : Hid (BAt w4.drew Q pf cf [1, 4] (.slice none 0 0) []) := A6.later (show Below w4.heap.size w4 w4.drew from below_drawn 1)
  have K0 : Hid (Below w.heap.size w w4.drew) := below_then K6 (show Below w4.heap.size w4 w4.drew from below_drawn 1)
  have S0 : Hid (VAt w4.drew n0 (val1 1) ∧ VAt w4.drew n1 (val1 2) ∧ VAt w4.drew n2 (val1 3)) := ⟨z1, z2, z3⟩
  have O0 : Hid (Okb [1, 4] []) := Okb.new is14
  have GV0 : Hid (∀ g, (Value.slice none 0 0).ownBlock = some g → w.heap.size ≤ g) := fun g hg => by cases hg
  have V1 : Hid (∀ w : World, (Instr.build 31 #[(0, .int .u8 1)]).run Try.prog w = .ok (.agg (U8 (val1 1)).toArray) w) := buildV1
  have V2 : Hid (∀ w : World, (Instr.build 31 #[(0, .int .u8 2)]).run Try.prog w = .ok (.agg (U8 (val1 2)).toArray) w) := buildV2
  have V3 : Hid (∀ w : World, (Instr.build 31 #[(0, .int .u8 3)]).run Try.prog w = .ok (.agg (U8 (val1 3)).toArray) w) := buildV3
  clear v1 v2 v3 u1 u2 u3 x1 x2 x3 z1 z2 z3 s1 s2 HQ2 k2s A3 K3 A4 K4 A5 K5 A6 K6 kk hpf e0 e1 e2 K2
  go_wp2_with (first | (go_at_call 12; refine (len_at A2.out).mono ?_; rintro e w' ⟨rfl, rfl⟩) | ((with_reducible refine at_ops ?_); (first | ((refine wpList_build_is (vs := [(0, .int .u8 1)]) (by rfl) 31 rfl (by rfl) (V1.out _) ?_); simp only [Act.put, List.setIfInBounds_toArray, List.set_cons_zero, List.set_cons_succ]) | ((refine wpList_build_is (vs := [(0, .int .u8 2)]) (by rfl) 31 rfl (by rfl) (V2.out _) ?_); simp only [Act.put, List.setIfInBounds_toArray, List.set_cons_zero, List.set_cons_succ]) | ((refine wpList_build_is (vs := [(0, .int .u8 3)]) (by rfl) 31 rfl (by rfl) (V3.out _) ?_); simp only [Act.put, List.setIfInBounds_toArray, List.set_cons_zero, List.set_cons_succ]) | ((refine wpList_alloc_is (by rfl) 31 rfl L1.out ?_); simp only [Act.put, List.setIfInBounds_toArray, List.set_cons_zero, List.set_cons_succ]) | ((refine wpList_alloc_is (by rfl) 31 rfl L2.out ?_); simp only [Act.put, List.setIfInBounds_toArray, List.set_cons_zero, List.set_cons_succ]) | ((refine wpList_alloc_is (by rfl) 31 rfl L3.out ?_); simp only [Act.put, List.setIfInBounds_toArray, List.set_cons_zero, List.set_cons_succ]) | ((refine wpList_store_is (by rfl) 31 rfl rfl rfl T1.out ?_); simp only [Act.put]) | ((refine wpList_store_is (by rfl) 31 rfl rfl rfl T2.out ?_); simp only [Act.put]) | ((refine wpList_store_is (by rfl) 31 rfl rfl rfl T3.out ?_); simp only [Act.put]))))
  clear L1 L2 L3 T1 T2 T3 V1 V2 V3
  refine wp_region_noPanic ?_
  refine wp_region_held_drew (S := fun W => VAt W n0 (val1 1) ∧ VAt W n1 (val1 2) ∧ VAt W n2 (val1 3)) (by kernel_rfl) S0.out (fun hHeld => ?_)
  generalize w4.drew = wX at *
  refine wpAnyH_take (i := 0) (v := ?va34) (by simp; rfl) (by kernel_rfl) (by kernel_rfl) (by kernel_rfl) (fun _ _ _ h => h) (Or.inl ⟨by rfl, ?ya34⟩) hHeld ?ra34
  case ya34 => intro w hSw; clear hSw; go_simp; with_reducible rfl
  simp only [Act.put, List.setIfInBounds_toArray, List.set_cons_zero, List.set_cons_succ]
  refine wpAnyH_take (i := 1) (v := _) (by simp; rfl) (by kernel_rfl) (by kernel_rfl) (by kernel_rfl) (fun _ _ _ h => h) (yieldsIf_load_mid (by rfl) 31 (.tmp 3) rfl n0 0 rfl (U8 (val1 1)) _ (fun W hW => LAt.range hW.1) Try.underlying31 rfl (by rw [sizeV]; rfl)) hHeld ?_
  simp only [Act.put, List.setIfInBounds_toArray, List.set_cons_zero, List.set_cons_succ]
  refine wpAnyH_take (i := 3) (v := ?va35) (by simp; rfl) (by kernel_rfl) (by kernel_rfl) (by kernel_rfl) (fun _ _ _ h => h) (Or.inl ⟨by rfl, ?ya35⟩) hHeld ?ra35
  case ya35 => intro w hSw; clear hSw; go_simp; with_reducible rfl
  simp only [Act.put, List.setIfInBounds_toArray, List.set_cons_zero, List.set_cons_succ]
  refine wpAnyH_take (i := 4) (v := _) (by simp; rfl) (by kernel_rfl) (by kernel_rfl) (by kernel_rfl) (fun _ _ _ h => h) (yieldsIf_load_mid (by rfl) 31 (.tmp 3) rfl n0 0 rfl (U8 (val1 1)) _ (fun W hW => LAt.range hW.1) Try.underlying31 rfl (by rw [sizeV]; rfl)) hHeld ?_
  simp only [Act.put, List.setIfInBounds_toArray, List.set_cons_zero, List.set_cons_succ]
  refine wpAnyH_take (i := 6) (v := ?va36) (by simp; rfl) (by kernel_rfl) (by kernel_rfl) (by kernel_rfl) (fun _ _ _ h => h) (Or.inl ⟨by rfl, ?ya36⟩) hHeld ?ra36
  case ya36 => intro w hSw; clear hSw; go_simp; with_reducible rfl
  simp only [Act.put, List.setIfInBounds_toArray, List.set_cons_zero, List.set_cons_succ]
  refine wpAnyH_take (i := 7) (v := _) (by simp; rfl) (by kernel_rfl) (by kernel_rfl) (by kernel_rfl) (fun _ _ _ h => h) (yieldsIf_load_mid (by rfl) 31 (.tmp 4) rfl n1 0 rfl (U8 (val1 2)) _ (fun W hW => LAt.range hW.2.1) Try.underlying31 rfl (by rw [sizeV]; rfl)) hHeld ?_
  simp only [Act.put, List.setIfInBounds_toArray, List.set_cons_zero, List.set_cons_succ]
  refine wpAnyH_take (i := 9) (v := ?va37) (by simp; rfl) (by kernel_rfl) (by kernel_rfl) (by kernel_rfl) (fun _ _ _ h => h) (Or.inl ⟨by rfl, ?ya37⟩) hHeld ?ra37
  case ya37 => intro w hSw; clear hSw; go_simp; with_reducible rfl
  simp only [Act.put, List.setIfInBounds_toArray, List.set_cons_zero, List.set_cons_succ]
  refine wpAnyH_take (i := 10) (v := _) (by simp; rfl) (by kernel_rfl) (by kernel_rfl) (by kernel_rfl) (fun _ _ _ h => h) (yieldsIf_load_mid (by rfl) 31 (.tmp 5) rfl n2 0 rfl (U8 (val1 3)) _ (fun W hW => LAt.range hW.2.2) Try.underlying31 rfl (by rw [sizeV]; rfl)) hHeld ?_
  simp only [Act.put, List.setIfInBounds_toArray, List.set_cons_zero, List.set_cons_succ]
  refine wpAnyH_ready (rs := [2]) (by kernel_rfl) (by simp) ?_
  refine AllReadyH.cons (by simp; rfl) (fun Kc hKc => ?_) AllReadyH.nil
  go_simp
  refine (write_at A0.out O0.out (b := 2) (v := val1 1) (val1_wf (by decide) (by decide) (i64s (by decide) (by decide)))).mono ?_
  rintro e x1 ⟨rfl, y1, hW⟩
  have A1 : Hid (BAt x1 Q pf cf [1, 4] y1 []) := by have := hW.at'; rw [wr_a _] at this; exact this
  have O1 : Hid (Okb [1, 4] []) := by have := O0.out.wrote (b := 2) (v := val1 1) (val1_wf (by decide) (by decide) (i64s (by decide) (by decide))); rw [wr_a _] at this; exact this
  have S1 : Hid (VAt x1 n0 (val1 1) ∧ VAt x1 n1 (val1 2) ∧ VAt x1 n2 (val1 3)) := ⟨hW.lat A0.out hHeld.1 (by decide) (by decide), hW.lat A0.out hHeld.2.1 (by decide) (by decide), hW.lat A0.out hHeld.2.2 (by decide) (by decide)⟩
  have K1 : Hid (Below w.heap.size w x1) := hW.kept.into K0.out (fun b hb e => by
    rcases e with e | e
    · have := GQ.out; omega
    · have := GV0.out b e; omega) (Nat.le_refl _)
  have GV1 : Hid (∀ g, y1.ownBlock = some g → w.heap.size ≤ g) := fun g hg => by
    rcases hW.new g hg with e | e
    · exact GV0.out g e
    · have := K0.out.size; omega
  rw [show refS [1, 4] 2 = 160 from rfl]
  refine hKc.out _ _ S1.out (fun hHeld => ?_)
  clear hKc Kc hW A0 O0 K0 GV0
  refine wpAnyH_ready (rs := [5]) (by kernel_rfl) (by simp) ?_
  refine AllReadyH.cons (by simp; rfl) (fun Kc hKc => ?_) AllReadyH.nil
  go_simp
  refine (write_at A1.out O1.out (b := 4) (v := val1 1) (val1_wf (by decide) (by decide) (i64s (by decide) (by decide)))).mono ?_
  rintro e x2 ⟨rfl, y2, hW⟩
  have A2 : Hid (BAt x2 Q pf cf [1, 4] y2 [⟨4, val1 1⟩]) := by have := hW.at'; rw [wr_b _] at this; exact this
  have O2 : Hid (Okb [1, 4] [⟨4, val1 1⟩]) := by have := O1.out.wrote (b := 4) (v := val1 1) (val1_wf (by decide) (by decide) (i64s (by decide) (by decide))); rw [wr_b _] at this; exact this
  have S2 : Hid (VAt x2 n0 (val1 1) ∧ VAt x2 n1 (val1 2) ∧ VAt x2 n2 (val1 3)) := ⟨hW.lat A1.out hHeld.1 (by decide) (by decide), hW.lat A1.out hHeld.2.1 (by decide) (by decide), hW.lat A1.out hHeld.2.2 (by decide) (by decide)⟩
  have K2 : Hid (Below w.heap.size w x2) := hW.kept.into K1.out (fun b hb e => by
    rcases e with e | e
    · have := GQ.out; omega
    · have := GV1.out b e; omega) (Nat.le_refl _)
  have GV2 : Hid (∀ g, y2.ownBlock = some g → w.heap.size ≤ g) := fun g hg => by
    rcases hW.new g hg with e | e
    · exact GV1.out g e
    · have := K1.out.size; omega
  rw [show refS [1, 4] 4 = 0 from rfl]
  refine hKc.out _ _ S2.out (fun hHeld => ?_)
  clear hKc Kc hW A1 O1 K1 GV1
  refine wpAnyH_ready (rs := [8]) (by kernel_rfl) (by simp) ?_
  refine AllReadyH.cons (by simp; rfl) (fun Kc hKc => ?_) AllReadyH.nil
  go_simp
  refine (write_at A2.out O2.out (b := 1) (v := val1 2) (val1_wf (by decide) (by decide) (i64s (by decide) (by decide)))).mono ?_
  rintro e x3 ⟨rfl, y3, hW⟩
  have A3 : Hid (BAt x3 Q pf cf [1, 4] y3 [⟨1, val1 2⟩, ⟨4, val1 1⟩]) := by have := hW.at'; rw [wr_c _ _] at this; exact this
  have O3 : Hid (Okb [1, 4] [⟨1, val1 2⟩, ⟨4, val1 1⟩]) := by have := O2.out.wrote (b := 1) (v := val1 2) (val1_wf (by decide) (by decide) (i64s (by decide) (by decide))); rw [wr_c _ _] at this; exact this
  have S3 : Hid (VAt x3 n0 (val1 1) ∧ VAt x3 n1 (val1 2) ∧ VAt x3 n2 (val1 3)) := ⟨hW.lat A2.out hHeld.1 (by decide) (by decide), hW.lat A2.out hHeld.2.1 (by decide) (by decide), hW.lat A2.out hHeld.2.2 (by decide) (by decide)⟩
  have K3 : Hid (Below w.heap.size w x3) := hW.kept.into K2.out (fun b hb e => by
    rcases e with e | e
    · have := GQ.out; omega
    · have := GV2.out b e; omega) (Nat.le_refl _)
  have GV3 : Hid (∀ g, y3.ownBlock = some g → w.heap.size ≤ g) := fun g hg => by
    rcases hW.new g hg with e | e
    · exact GV2.out g e
    · have := K2.out.size; omega
  rw [show refS [1, 4] 1 = 0 from rfl]
  refine hKc.out _ _ S3.out (fun hHeld => ?_)
  clear hKc Kc hW A2 O2 K2 GV2
  refine wpAnyH_ready (rs := [11]) (by kernel_rfl) (by simp) ?_
  refine AllReadyH.cons (by simp; rfl) (fun Kc hKc => ?_) AllReadyH.nil
  go_simp
  refine (write_at A3.out O3.out (b := 4) (v := val1 3) (val1_wf (by decide) (by decide) (i64s (by decide) (by decide)))).mono ?_
  rintro e x4 ⟨rfl, y4, hW⟩
  have A4 : Hid (BAt x4 Q pf cf [1, 4] y4 [⟨1, val1 2⟩, ⟨4, val1 3⟩]) := by have := hW.at'; rw [wr_d _ _ _] at this; exact this
  have O4 : Hid (Okb [1, 4] [⟨1, val1 2⟩, ⟨4, val1 3⟩]) := by have := O3.out.wrote (b := 4) (v := val1 3) (val1_wf (by decide) (by decide) (i64s (by decide) (by decide))); rw [wr_d _ _ _] at this; exact this
  have S4 : Hid (VAt x4 n0 (val1 1) ∧ VAt x4 n1 (val1 2) ∧ VAt x4 n2 (val1 3)) := ⟨hW.lat A3.out hHeld.1 (by decide) (by decide), hW.lat A3.out hHeld.2.1 (by decide) (by decide), hW.lat A3.out hHeld.2.2 (by decide) (by decide)⟩
  have K4 : Hid (Below w.heap.size w x4) := hW.kept.into K3.out (fun b hb e => by
    rcases e with e | e
    · have := GQ.out; omega
    · have := GV3.out b e; omega) (Nat.le_refl _)
  have GV4 : Hid (∀ g, y4.ownBlock = some g → w.heap.size ≤ g) := fun g hg => by
    rcases hW.new g hg with e | e
    · exact GV3.out g e
    · have := K3.out.size; omega
  rw [show refS [1, 4] 4 = 0 from rfl]
  refine hKc.out _ _ S4.out (fun hHeld => ?_)
  clear hKc Kc hW A3 O3 K3 GV3
  refine wpAnyH_take (i := 12) (v := ?va38) (by simp; rfl) (by kernel_rfl) (by kernel_rfl) (by kernel_rfl) (fun _ _ _ h => h) (Or.inl ⟨by rfl, ?ya38⟩) hHeld ?ra38
  case ya38 => intro w hSw; clear hSw; go_simp; with_reducible rfl
  simp only [Act.put, List.setIfInBounds_toArray, List.set_cons_zero, List.set_cons_succ]
  refine wpAnyH_take (i := 13) (v := ?va39) (by simp; rfl) (by kernel_rfl) (by kernel_rfl) (by kernel_rfl) (fun _ _ _ h => h) (Or.inl ⟨by rfl, ?ya39⟩) hHeld ?ra39
  case ya39 => intro w hSw; clear hSw; go_simp; with_reducible rfl
  simp only [Act.put, List.setIfInBounds_toArray, List.set_cons_zero, List.set_cons_succ]
  refine wpAnyH_take (i := 14) (v := ?va40) (by simp; rfl) (by kernel_rfl) (by kernel_rfl) (by kernel_rfl) (fun _ _ _ h => h) (Or.inl ⟨by rfl, ?ya40⟩) hHeld ?ra40
  case ya40 => intro w hSw; clear hSw; go_simp; with_reducible rfl
  simp only [Act.put, List.setIfInBounds_toArray, List.set_cons_zero, List.set_cons_succ]
  refine wpAnyH_take (i := 15) (v := ?va41) (by simp; rfl) (by kernel_rfl) (by kernel_rfl) (by kernel_rfl) (fun _ _ _ h => h) (Or.inl ⟨by rfl, ?ya41⟩) hHeld ?ra41
  case ya41 => intro w hSw; clear hSw; go_simp; with_reducible rfl
  simp only [Act.put, List.setIfInBounds_toArray, List.set_cons_zero, List.set_cons_succ]
  refine wpAnyH_done (by kernel_rfl) (NoPanic.normal ?_) _
  clear S0 S1 S2 S3 A2 GV4 hHeld
  go_wp2_with fail
  refine (read_at A4.out O4.out 4).mono ?_
  rintro e x5 ⟨rfl, bn⟩
  rw [(rd_d _ _).1, (rd_d _ _).2, show refS [1, 4] 4 = 0 from rfl]
  obtain ⟨x6, h6⟩ : ∃ x6, x6 = x5.alloc (.cells (U8 (zs 32)).toArray 31) := ⟨_, rfl⟩
  have L6 : Hid ((Instr.alloc 31 true (.tuple #[])).run Try.prog x5 = .ok (.pointer (some ⟨x5.heap.size, 0, none⟩)) x6) := by rw [h6]; exact allocV x5
  have b6 : Below x5.heap.size x5 x6 := by rw [h6]; exact below_alloc x5 _
  have v6 : VAt x6 x5.heap.size (zs 32) := by rw [h6]; exact LAt.new _ _ _
  have T6 : Hid ((Instr.storeAt 31 (.pointer (some ⟨x5.heap.size, 0, none⟩)) (.agg (U8 (val1 3)).toArray)).run Try.prog x6 = .ok () (x6.setRow x5.heap.size (U8 (val1 3)).toArray)) := VAt.store v6 (zs_len 32) rfl
  have v7 : VAt (x6.setRow x5.heap.size (U8 (val1 3)).toArray) x5.heap.size (val1 3) := LAt.stored v6 _
  have b7 : Below x5.heap.size x5 (x6.setRow x5.heap.size (U8 (val1 3)).toArray) := below_setRow b6 (Nat.le_refl _) _
  have b8 : Below x4.heap.size x4 (x6.setRow x5.heap.size (U8 (val1 3)).toArray) := below_then bn b7
  obtain ⟨n3, e3⟩ : ∃ n3, n3 = x5.heap.size := ⟨_, rfl⟩
  rw [← e3] at L6 T6 v7 b8
  clear h6 b6 v6 b7 bn e3
  generalize x6.setRow n3 (U8 (val1 3)).toArray = x7 at *
  have bD : Below x4.heap.size x4 x7.drew := below_then b8 (show Below x7.heap.size x7 x7.drew from below_drawn 1)
  have A5 : Hid (BAt x7.drew Q pf cf [1, 4] y4 [⟨1, val1 2⟩, ⟨4, val1 3⟩]) := A4.out.later bD
  have O5 : Hid (Okb [1, 4] [⟨1, val1 2⟩, ⟨4, val1 3⟩]) := O4.out
  have K5 : Hid (Below w.heap.size w x7.drew) := below_then K4.out bD
  have S5 : Hid (VAt x7.drew n0 (val1 1) ∧ VAt x7.drew n1 (val1 2) ∧ VAt x7.drew n2 (val1 3) ∧ VAt x7.drew n3 (val1 3)) := ⟨LAt.later S4.out.1 bD, LAt.later S4.out.2.1 bD, LAt.later S4.out.2.2 bD, v7⟩
  have QE : Hid (∀ w, (binOp .eql 31 (.agg (U8 (val1 3)).toArray) (.agg (U8 (val1 3)).toArray)).run Try.prog w = .ok (.bool true) w) := fun w => by rw [eqlV w _ _ rfl rfl, decide_eq_true rfl]
  clear A4 O4 K4 S4 b8 bD v7
  go_wp2_with ((with_reducible refine at_ops ?_); (first | ((refine wpList_alloc_is (by rfl) 31 rfl L6.out ?_); simp only [Act.put, List.setIfInBounds_toArray, List.set_cons_zero, List.set_cons_succ]) | ((refine wpList_store_is (by rfl) 31 rfl rfl rfl T6.out ?_); simp only [Act.put])))
  clear L6 T6
  refine wp_region_noPanic ?_
  refine wp_region_held_drew (S := fun W => Below x7.drew.heap.size x7.drew W) (by kernel_rfl) (Below.refl _ _) (fun hHeld => ?_)
  generalize x7.drew = wD at *
  refine wpAnyH_take (i := 0) (v := ?va1) (by simp; rfl) (by kernel_rfl) (by kernel_rfl) (by kernel_rfl) (fun _ _ _ h => h) (Or.inl ⟨by rfl, ?ya1⟩) hHeld ?ra1
  case ya1 => intro w hSw; clear hSw; go_simp; with_reducible rfl
  simp only [Act.put, List.setIfInBounds_toArray, List.set_cons_zero, List.set_cons_succ]
  refine wpAnyH_take (i := 1) (v := ?va2) (by simp; rfl) (by kernel_rfl) (by kernel_rfl) (by kernel_rfl) (fun _ _ _ h => h) (Or.inl ⟨by rfl, ?ya2⟩) hHeld ?ra2
  case ya2 => intro w hSw; clear hSw; go_simp; with_reducible rfl
  simp only [Act.put, List.setIfInBounds_toArray, List.set_cons_zero, List.set_cons_succ]
  refine wpAnyH_take (i := 2) (v := ?va3) (by simp; rfl) (by kernel_rfl) (by kernel_rfl) (by kernel_rfl) (fun _ _ _ h => h) (Or.inl ⟨by rfl, ?ya3⟩) hHeld ?ra3
  case ya3 => intro w hSw; clear hSw; go_simp; with_reducible rfl
  simp only [Act.put, List.setIfInBounds_toArray, List.set_cons_zero, List.set_cons_succ]
  refine wpAnyH_take (i := 3) (v := ?va4) (by simp; rfl) (by kernel_rfl) (by kernel_rfl) (by kernel_rfl) (fun _ _ _ h => h) (Or.inl ⟨by rfl, ?ya4⟩) hHeld ?ra4
  case ya4 => intro w hSw; clear hSw; go_simp; with_reducible rfl
  simp only [Act.put, List.setIfInBounds_toArray, List.set_cons_zero, List.set_cons_succ]
  refine wpAnyH_take (i := 4) (v := ?va5) (by simp; rfl) (by kernel_rfl) (by kernel_rfl) (by kernel_rfl) (fun _ _ _ h => h) (Or.inl ⟨by rfl, ?ya5⟩) hHeld ?ra5
  case ya5 => intro w hSw; clear hSw; go_simp; with_reducible rfl
  simp only [Act.put, List.setIfInBounds_toArray, List.set_cons_zero, List.set_cons_succ]
  refine wpAnyH_take (i := 5) (v := ?va6) (by simp; rfl) (by kernel_rfl) (by kernel_rfl) (by kernel_rfl) (fun _ _ _ h => h) (Or.inl ⟨by rfl, ?ya6⟩) hHeld ?ra6
  case ya6 => intro w hSw; clear hSw; go_simp; with_reducible rfl
  simp only [Act.put, List.setIfInBounds_toArray, List.set_cons_zero, List.set_cons_succ]
  refine wpAnyH_take (i := 6) (v := ?va7) (by simp; rfl) (by kernel_rfl) (by kernel_rfl) (by kernel_rfl) (fun _ _ _ h => h) (Or.inl ⟨by rfl, ?ya7⟩) hHeld ?ra7
  case ya7 => intro w hSw; clear hSw; go_simp; with_reducible rfl
  simp only [Act.put, List.setIfInBounds_toArray, List.set_cons_zero, List.set_cons_succ]
  refine wpAnyH_take (i := 7) (v := ?va8) (by simp; rfl) (by kernel_rfl) (by kernel_rfl) (by kernel_rfl) (fun _ _ _ h => h) (Or.inl ⟨by rfl, ?ya8⟩) hHeld ?ra8
  case ya8 => intro w hSw; clear hSw; go_simp; with_reducible rfl
  simp only [Act.put, List.setIfInBounds_toArray, List.set_cons_zero, List.set_cons_succ]
  refine wpAnyH_take (i := 8) (v := ?va9) (by simp; rfl) (by kernel_rfl) (by kernel_rfl) (by kernel_rfl) (fun _ _ _ h => h) (Or.inl ⟨by rfl, ?ya9⟩) hHeld ?ra9
  case ya9 => intro w hSw; clear hSw; go_simp; with_reducible rfl
  simp only [Act.put, List.setIfInBounds_toArray, List.set_cons_zero, List.set_cons_succ]
  refine wpAnyH_take (i := 9) (v := ?va10) (by simp; rfl) (by kernel_rfl) (by kernel_rfl) (by kernel_rfl) (fun _ _ _ h => h) (Or.inl ⟨by rfl, ?ya10⟩) hHeld ?ra10
  case ya10 => intro w hSw; clear hSw; go_simp; with_reducible rfl
  simp only [Act.put, List.setIfInBounds_toArray, List.set_cons_zero, List.set_cons_succ]
  refine wpAnyH_take (i := 10) (v := ?va11) (by simp; rfl) (by kernel_rfl) (by kernel_rfl) (by kernel_rfl) (fun _ _ _ h => h) (Or.inl ⟨by rfl, ?ya11⟩) hHeld ?ra11
  case ya11 => intro w hSw; clear hSw; go_simp; with_reducible rfl
  simp only [Act.put, List.setIfInBounds_toArray, List.set_cons_zero, List.set_cons_succ]
  refine wpAnyH_take (i := 11) (v := ?va12) (by simp; rfl) (by kernel_rfl) (by kernel_rfl) (by kernel_rfl) (fun _ _ _ h => h) (Or.inl ⟨by rfl, ?ya12⟩) hHeld ?ra12
  case ya12 => intro w hSw; clear hSw; go_simp; with_reducible rfl
  simp only [Act.put, List.setIfInBounds_toArray, List.set_cons_zero, List.set_cons_succ]
  refine wpAnyH_take (i := 12) (v := ?va13) (by simp; rfl) (by kernel_rfl) (by kernel_rfl) (by kernel_rfl) (fun _ _ _ h => h) (Or.inl ⟨by rfl, ?ya13⟩) hHeld ?ra13
  case ya13 => intro w hSw; clear hSw; go_simp; with_reducible rfl
  simp only [Act.put, List.setIfInBounds_toArray, List.set_cons_zero, List.set_cons_succ]
  refine wpAnyH_take (i := 13) (v := ?va14) (by simp; rfl) (by kernel_rfl) (by kernel_rfl) (by kernel_rfl) (fun _ _ _ h => h) (Or.inl ⟨by rfl, ?ya14⟩) hHeld ?ra14
  case ya14 => intro w hSw; clear hSw; go_simp; with_reducible rfl
  simp only [Act.put, List.setIfInBounds_toArray, List.set_cons_zero, List.set_cons_succ]
  refine wpAnyH_take (i := 14) (v := ?va15) (by simp; rfl) (by kernel_rfl) (by kernel_rfl) (by kernel_rfl) (fun _ _ _ h => h) (Or.inl ⟨by rfl, ?ya15⟩) hHeld ?ra15
  case ya15 => intro w hSw; clear hSw; go_simp; with_reducible rfl
  simp only [Act.put, List.setIfInBounds_toArray, List.set_cons_zero, List.set_cons_succ]
  refine wpAnyH_take (i := 15) (v := _) (by simp; rfl) (by kernel_rfl) (by kernel_rfl) (by kernel_rfl) (fun _ _ _ h => h) (yieldsIf_load_mid (by rfl) 31 (.tmp 10) rfl n3 0 rfl (U8 (val1 3)) _ (fun W hW => LAt.range (LAt.later S5.out.2.2.2 hW)) Try.underlying31 rfl (by rw [sizeV]; rfl)) hHeld ?_
  simp only [Act.put, List.setIfInBounds_toArray, List.set_cons_zero, List.set_cons_succ]
  refine wpAnyH_take (i := 16) (v := _) (by simp; rfl) (by kernel_rfl) (by kernel_rfl) (by kernel_rfl) (fun _ _ _ h => h) (yieldsIf_load_mid (by rfl) 31 (.tmp 5) rfl n2 0 rfl (U8 (val1 3)) _ (fun W hW => LAt.range (LAt.later S5.out.2.2.1 hW)) Try.underlying31 rfl (by rw [sizeV]; rfl)) hHeld ?_
  simp only [Act.put, List.setIfInBounds_toArray, List.set_cons_zero, List.set_cons_succ]
  refine wpAnyH_take (i := 17) (v := _) (by simp; rfl) (by kernel_rfl) (by kernel_rfl) (by kernel_rfl) (fun _ _ _ h => h) (yields_eql_is (by rfl) 31 rfl rfl rfl eqgV QE.out) hHeld ?_
  simp only [Act.put, List.setIfInBounds_toArray, List.set_cons_zero, List.set_cons_succ]
  refine wpAnyH_take (i := 18) (v := ?va16) (by simp; rfl) (by kernel_rfl) (by kernel_rfl) (by kernel_rfl) (fun _ _ _ h => h) (Or.inl ⟨by rfl, ?ya16⟩) hHeld ?ra16
  case ya16 => intro w hSw; clear hSw; go_simp; with_reducible rfl
  simp only [Act.put, List.setIfInBounds_toArray, List.set_cons_zero, List.set_cons_succ]
  refine wpAnyH_take (i := 19) (v := ?va17) (by simp; rfl) (by kernel_rfl) (by kernel_rfl) (by kernel_rfl) (fun _ _ _ h => h) (Or.inl ⟨by rfl, ?ya17⟩) hHeld ?ra17
  case ya17 => intro w hSw; clear hSw; go_simp; with_reducible rfl
  simp only [Act.put, List.setIfInBounds_toArray, List.set_cons_zero, List.set_cons_succ]
  refine wpAnyH_take (i := 20) (v := ?va18) (by simp; rfl) (by kernel_rfl) (by kernel_rfl) (by kernel_rfl) (fun _ _ _ h => h) (Or.inl ⟨by rfl, ?ya18⟩) hHeld ?ra18
  case ya18 => intro w hSw; clear hSw; go_simp; with_reducible rfl
  simp only [Act.put, List.setIfInBounds_toArray, List.set_cons_zero, List.set_cons_succ]
  refine wpAnyH_take (i := 21) (v := ?va19) (by simp; rfl) (by kernel_rfl) (by kernel_rfl) (by kernel_rfl) (fun _ _ _ h => h) (Or.inl ⟨by rfl, ?ya19⟩) hHeld ?ra19
  case ya19 => intro w hSw; clear hSw; go_simp; with_reducible rfl
  simp only [Act.put, List.setIfInBounds_toArray, List.set_cons_zero, List.set_cons_succ]
  refine wpAnyH_take (i := 22) (v := ?va20) (by simp; rfl) (by kernel_rfl) (by kernel_rfl) (by kernel_rfl) (fun _ _ _ h => h) (Or.inl ⟨by rfl, ?ya20⟩) hHeld ?ra20
  case ya20 => intro w hSw; clear hSw; go_simp; with_reducible rfl
  simp only [Act.put, List.setIfInBounds_toArray, List.set_cons_zero, List.set_cons_succ]
  refine wpAnyH_take (i := 23) (v := ?va21) (by simp; rfl) (by kernel_rfl) (by kernel_rfl) (by kernel_rfl) (fun _ _ _ h => h) (Or.inl ⟨by rfl, ?ya21⟩) hHeld ?ra21
  case ya21 => intro w hSw; clear hSw; go_simp; with_reducible rfl
  simp only [Act.put, List.setIfInBounds_toArray, List.set_cons_zero, List.set_cons_succ]
  refine wpAnyH_take (i := 24) (v := ?va22) (by simp; rfl) (by kernel_rfl) (by kernel_rfl) (by kernel_rfl) (fun _ _ _ h => h) (Or.inl ⟨by rfl, ?ya22⟩) hHeld ?ra22
  case ya22 => intro w hSw; clear hSw; go_simp; with_reducible rfl
  simp only [Act.put, List.setIfInBounds_toArray, List.set_cons_zero, List.set_cons_succ]
  refine wpAnyH_take (i := 25) (v := ?va23) (by simp; rfl) (by kernel_rfl) (by kernel_rfl) (by kernel_rfl) (fun _ _ _ h => h) (Or.inl ⟨by rfl, ?ya23⟩) hHeld ?ra23
  case ya23 => intro w hSw; clear hSw; go_simp; with_reducible rfl
  simp only [Act.put, List.setIfInBounds_toArray, List.set_cons_zero, List.set_cons_succ]
  refine wpAnyH_take (i := 26) (v := ?va24) (by simp; rfl) (by kernel_rfl) (by kernel_rfl) (by kernel_rfl) (fun _ _ _ h => h) (Or.inl ⟨by rfl, ?ya24⟩) hHeld ?ra24
  case ya24 => intro w hSw; clear hSw; go_simp; with_reducible rfl
  simp only [Act.put, List.setIfInBounds_toArray, List.set_cons_zero, List.set_cons_succ]
  refine wpAnyH_take (i := 27) (v := ?va25) (by simp; rfl) (by kernel_rfl) (by kernel_rfl) (by kernel_rfl) (fun _ _ _ h => h) (Or.inl ⟨by rfl, ?ya25⟩) hHeld ?ra25
  case ya25 => intro w hSw; clear hSw; go_simp; with_reducible rfl
  simp only [Act.put, List.setIfInBounds_toArray, List.set_cons_zero, List.set_cons_succ]
  refine wpAnyH_ready (rs := [28]) (by kernel_rfl) (by simp) ?_
  refine AllReadyH.cons (by simp; rfl) (fun Kc hKc => ?_) AllReadyH.nil
  go_simp
  refine (len_at (A5.out.later hHeld)).mono ?_
  rintro e wL ⟨rfl, hwL⟩
  rw [hwL]
  refine hKc.out _ _ hHeld (fun hHeld => ?_)
  clear hKc Kc hwL wL
  refine wpAnyH_take (i := 29) (v := ?va26) (by simp; rfl) (by kernel_rfl) (by kernel_rfl) (by kernel_rfl) (fun _ _ _ h => h) (Or.inl ⟨by rfl, ?ya26⟩) hHeld ?ra26
  case ya26 => intro w hSw; clear hSw; go_simp; with_reducible rfl
  simp only [Act.put, List.setIfInBounds_toArray, List.set_cons_zero, List.set_cons_succ]
  refine wpAnyH_take (i := 30) (v := ?va27) (by simp; rfl) (by kernel_rfl) (by kernel_rfl) (by kernel_rfl) (fun _ _ _ h => h) (Or.inl ⟨by rfl, ?ya27⟩) hHeld ?ra27
  case ya27 => intro w hSw; clear hSw; go_simp; with_reducible rfl
  simp only [Act.put, List.setIfInBounds_toArray, List.set_cons_zero, List.set_cons_succ]
  refine wpAnyH_take (i := 31) (v := ?va28) (by simp; rfl) (by kernel_rfl) (by kernel_rfl) (by kernel_rfl) (fun _ _ _ h => h) (Or.inl ⟨by rfl, ?ya28⟩) hHeld ?ra28
  case ya28 => intro w hSw; clear hSw; go_simp; with_reducible rfl
  simp only [Act.put, List.setIfInBounds_toArray, List.set_cons_zero, List.set_cons_succ]
  refine wpAnyH_take (i := 32) (v := ?va29) (by simp; rfl) (by kernel_rfl) (by kernel_rfl) (by kernel_rfl) (fun _ _ _ h => h) (Or.inl ⟨by rfl, ?ya29⟩) hHeld ?ra29
  case ya29 => intro w hSw; clear hSw; go_simp; with_reducible rfl
  simp only [Act.put, List.setIfInBounds_toArray, List.set_cons_zero, List.set_cons_succ]
  refine wpAnyH_take (i := 34) (v := _) (by simp; rfl) (by kernel_rfl) (by kernel_rfl) (by kernel_rfl) (fun _ _ _ h => h) (yieldsIf_load_mid (by rfl) 31 (.tmp 4) rfl n1 0 rfl (U8 (val1 2)) _ (fun W hW => LAt.range (LAt.later S5.out.2.1 hW)) Try.underlying31 rfl (by rw [sizeV]; rfl)) hHeld ?_
  simp only [Act.put, List.setIfInBounds_toArray, List.set_cons_zero, List.set_cons_succ]
  refine wpAnyH_take (i := 35) (v := _) (by simp; rfl) (by kernel_rfl) (by kernel_rfl) (by kernel_rfl) (fun _ _ _ h => h) (yields_build_is (vs := [(0, .int .i64 1), (1, .agg (U8 (val1 2)).toArray)]) (by rfl) 33 rfl (by rfl) (fun w => buildI w 1 (val1 2) rfl)) hHeld ?_
  simp only [Act.put, List.setIfInBounds_toArray, List.set_cons_zero, List.set_cons_succ]
  refine wpAnyH_take (i := 36) (v := _) (by simp; rfl) (by kernel_rfl) (by kernel_rfl) (by kernel_rfl) (fun _ _ _ h => h) (yieldsIf_load_mid (by rfl) 31 (.tmp 5) rfl n2 0 rfl (U8 (val1 3)) _ (fun W hW => LAt.range (LAt.later S5.out.2.2.1 hW)) Try.underlying31 rfl (by rw [sizeV]; rfl)) hHeld ?_
  simp only [Act.put, List.setIfInBounds_toArray, List.set_cons_zero, List.set_cons_succ]
  refine wpAnyH_take (i := 37) (v := _) (by simp; rfl) (by kernel_rfl) (by kernel_rfl) (by kernel_rfl) (fun _ _ _ h => h) (yields_build_is (vs := [(0, .int .i64 4), (1, .agg (U8 (val1 3)).toArray)]) (by rfl) 33 rfl (by rfl) (fun w => buildI w 4 (val1 3) rfl)) hHeld ?_
  simp only [Act.put, List.setIfInBounds_toArray, List.set_cons_zero, List.set_cons_succ]
  refine wpAnyH_ready (rs := [33, 38]) (by kernel_rfl) (by simp) ?_
  refine AllReadyH.cons (by simp; rfl) (fun Kc hKc => ?_) (AllReadyH.cons (by simp; rfl) (fun Kc hKc => ?_) AllReadyH.nil)
  · go_simp
    refine (images_at (A5.out.later hHeld) O5.out).mono ?_
    rintro e wI ⟨vI, rfl, hO, hb⟩
    obtain ⟨pI, cI, rfl, hM, -, -⟩ := IOwn.in hO O5.out.wf
    have HMI : Hid (MIn wI pI 2 [⟨1, val1 2⟩, ⟨4, val1 3⟩]) := hM
    have HS5 : Hid (Below wD.heap.size wD wI) := below_then hHeld hb
    refine hKc.out _ _ HS5.out (fun hHeld => ?_)
    clear hKc Kc hO hM hb
    refine wpAnyH_ready (rs := [38]) (by kernel_rfl) (by simp) ?_
    refine AllReadyH.cons (by simp; rfl) (fun Kc hKc => ?_) AllReadyH.nil
    refine step_slice_is (vs := [(0, .agg (icells ⟨1, val1 2⟩).toArray), (1, .agg (icells ⟨4, val1 3⟩).toArray)]) (by rfl) 23 2 rfl rfl (build_im2 wI ⟨1, val1 2⟩ ⟨4, val1 3⟩ rfl rfl) ?_
    obtain ⟨wB, hwB⟩ : ∃ wB, wB = wI.alloc (.cells (IC [⟨1, val1 2⟩, ⟨4, val1 3⟩]).toArray 33) := ⟨_, rfl⟩
    obtain ⟨nB, hnB⟩ : ∃ nB, nB = wI.heap.size := ⟨_, rfl⟩
    have bB : Below wI.heap.size wI wB := by rw [hwB]; exact below_alloc _ _
    have HMB : Hid (MIn wB (some ⟨nB, 0, none⟩) 2 [⟨1, val1 2⟩, ⟨4, val1 3⟩]) := ⟨rfl, O5.out.wf, fun _ => ⟨nB, 0, rfl, by rw [hwB, hnB]; exact LAt.range (LAt.new 33 wI _)⟩⟩
    have HS6 : Hid (Below wD.heap.size wD wB) := below_then hHeld bB
    have HMI : Hid (MIn wB pI 2 [⟨1, val1 2⟩, ⟨4, val1 3⟩]) := HMI.out.later bB
    rw [← hwB, ← hnB]
    refine hKc.out _ _ HS6.out (fun hHeld => ?_)
    clear hKc Kc hwB bB hnB
    simp only [Act.put, List.setIfInBounds_toArray, List.set_cons_zero, List.set_cons_succ]
    refine wpAnyH_ready (rs := [39]) (by kernel_rfl) (by simp) ?_
    refine AllReadyH.cons (by simp; rfl) (fun Kc hKc => ?_) AllReadyH.nil
    go_simp
    refine (sameM_eq pI (some ⟨nB, 0, none⟩) 2 cI 2 _ wB HMI.out HMB.out (by omega)).mono ?_
    rintro e wS ⟨rfl, hb⟩
    have HS7 : Hid (Below wD.heap.size wD wS) := below_then hHeld hb
    refine hKc.out _ _ HS7.out (fun hHeld => ?_)
    clear hKc Kc hb
    refine wpAnyH_take (i := 40) (v := ?va30) (by simp; rfl) (by kernel_rfl) (by kernel_rfl) (by kernel_rfl) (fun _ _ _ h => h) (Or.inl ⟨by rfl, ?ya30⟩) hHeld ?ra30
    case ya30 => intro w hSw; clear hSw; go_simp; with_reducible rfl
    simp only [Act.put, List.setIfInBounds_toArray, List.set_cons_zero, List.set_cons_succ]
    refine wpAnyH_take (i := 41) (v := ?va31) (by simp; rfl) (by kernel_rfl) (by kernel_rfl) (by kernel_rfl) (fun _ _ _ h => h) (Or.inl ⟨by rfl, ?ya31⟩) hHeld ?ra31
    case ya31 => intro w hSw; clear hSw; go_simp; with_reducible rfl
    simp only [Act.put, List.setIfInBounds_toArray, List.set_cons_zero]
    refine wpAnyH_done (by kernel_rfl) (NoPanic.normal ?_) _
    go_wp2
    go_ret
    exact ⟨rfl, below_then K5.out HS7.out⟩
  · refine step_slice_is (vs := [(0, .agg (icells ⟨1, val1 2⟩).toArray), (1, .agg (icells ⟨4, val1 3⟩).toArray)]) (by rfl) 23 2 rfl rfl (build_im2 wD ⟨1, val1 2⟩ ⟨4, val1 3⟩ rfl rfl) ?_
    obtain ⟨wB, hwB⟩ : ∃ wB, wB = wD.alloc (.cells (IC [⟨1, val1 2⟩, ⟨4, val1 3⟩]).toArray 33) := ⟨_, rfl⟩
    obtain ⟨nB, hnB⟩ : ∃ nB, nB = wD.heap.size := ⟨_, rfl⟩
    have bB : Below wD.heap.size wD wB := by rw [hwB]; exact below_alloc _ _
    have HMB : Hid (MIn wB (some ⟨nB, 0, none⟩) 2 [⟨1, val1 2⟩, ⟨4, val1 3⟩]) := ⟨rfl, O5.out.wf, fun _ => ⟨nB, 0, rfl, by rw [hwB, hnB]; exact LAt.range (LAt.new 33 wD _)⟩⟩
    have HS6 : Hid (Below wD.heap.size wD wB) := below_then hHeld bB
    rw [← hwB, ← hnB]
    refine hKc.out _ _ HS6.out (fun hHeld => ?_)
    clear hKc Kc hwB bB hnB
    simp only [Act.put, List.setIfInBounds_toArray, List.set_cons_zero, List.set_cons_succ]
    refine wpAnyH_ready (rs := [33]) (by kernel_rfl) (by simp) ?_
    refine AllReadyH.cons (by simp; rfl) (fun Kc hKc => ?_) AllReadyH.nil
    go_simp
    refine (images_at (A5.out.later hHeld) O5.out).mono ?_
    rintro e wI ⟨vI, rfl, hO, hb⟩
    obtain ⟨pI, cI, rfl, hM, -, -⟩ := IOwn.in hO O5.out.wf
    have HMI : Hid (MIn wI pI 2 [⟨1, val1 2⟩, ⟨4, val1 3⟩]) := hM
    have HS5 : Hid (Below wD.heap.size wD wI) := below_then hHeld hb
    have HMB : Hid (MIn wI (some ⟨nB, 0, none⟩) 2 [⟨1, val1 2⟩, ⟨4, val1 3⟩]) := HMB.out.later hb
    refine hKc.out _ _ HS5.out (fun hHeld => ?_)
    clear hKc Kc hO hM hb
    refine wpAnyH_ready (rs := [39]) (by kernel_rfl) (by simp) ?_
    refine AllReadyH.cons (by simp; rfl) (fun Kc hKc => ?_) AllReadyH.nil
    go_simp
    refine (sameM_eq pI (some ⟨nB, 0, none⟩) 2 cI 2 _ wI HMI.out HMB.out (by omega)).mono ?_
    rintro e wS ⟨rfl, hb⟩
    have HS7 : Hid (Below wD.heap.size wD wS) := below_then hHeld hb
    refine hKc.out _ _ HS7.out (fun hHeld => ?_)
    clear hKc Kc hb
    refine wpAnyH_take (i := 40) (v := ?va32) (by simp; rfl) (by kernel_rfl) (by kernel_rfl) (by kernel_rfl) (fun _ _ _ h => h) (Or.inl ⟨by rfl, ?ya32⟩) hHeld ?ra32
    case ya32 => intro w hSw; clear hSw; go_simp; with_reducible rfl
    simp only [Act.put, List.setIfInBounds_toArray, List.set_cons_zero, List.set_cons_succ]
    refine wpAnyH_take (i := 41) (v := ?va33) (by simp; rfl) (by kernel_rfl) (by kernel_rfl) (by kernel_rfl) (fun _ _ _ h => h) (Or.inl ⟨by rfl, ?ya33⟩) hHeld ?ra33
    case ya33 => intro w hSw; clear hSw; go_simp; with_reducible rfl
    simp only [Act.put, List.setIfInBounds_toArray, List.set_cons_zero]
    refine wpAnyH_done (by kernel_rfl) (NoPanic.normal ?_) _
    go_wp2
    go_ret
    exact ⟨rfl, below_then K5.out HS7.out⟩
end Go.Proofs.Ythgkdpniaednaaa
