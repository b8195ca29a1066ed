import Derived.Test.YtdadpepfpiimgaaGreatDoorY06
import Derived.Lib.AppendZerosOnto
set_option maxHeartbeats 20000000
set_option maxRecDepth 100000
namespace Go.Proofs.YtdadpepfpiimgaaGreatDoor.R
open Go.RowKit
set_option maxHeartbeats 400000 in
set_option maxRecDepth 100000 in
theorem equal_any (p q : Option Addr) (n c m d : Nat) (xs ys : List Int) (w : World) (hx : BIn w p n xs) (hy : BIn w q m ys) :
    Calls Tryz.prog 94 #[.slice p n c, .slice q m d] w fun e w' => e = .returned (.bool (decide (xs = ys))) ∧ w = w' := by
  have q1 := hx.str c
  have q2 := hy.str d
  have HE : Hid (_) := str_eq xs ys hx.byte hy.byte
  clear hx hy
  go_enter Tryz.func94, Tryz.ntmps94
  go_wp2
  go_ret
  refine ⟨?_, rfl⟩
  rw [← HE.out]
  rfl
section
variable {P : Program} {o : Oper} {a : Act} {w w' : World} {K : Act → World → Prop} {Q : Exit → Act → World → Prop}
theorem wp_alloc_is (ty : TypeId) (ho : o.op = .alloc ty) {v : Value} (hrun : (Instr.alloc ty true (.tuple #[])).run P w = .ok v w') (h : K (a.put o.dst v) w') : o.wp P a w K Q := by
  have e : (execOp a.eval o).run P w = .ok (.value v) w' := by unfold execOp; simp only [ho, Sem.run_bind, hrun, Result.andThen_ok, Sem.run_pure]
  unfold Oper.wp; rw [e]; exact h
theorem wp_store_is (ty : TypeId) {x y : Operand} (ho : o.op = .store ty x y) {p v : Value} (hx : a.eval x = p) (hy : a.eval y = v) (hrun : (Instr.storeAt ty p v).run P w = .ok () w') (h : K (a.put o.dst undef) w') : o.wp P a w K Q := by
  have e : (execOp a.eval o).run P w = .ok .skip w' := by unfold execOp; simp only [ho, hx, hy, Sem.run_bind, hrun, Result.andThen_ok, Sem.run_pure]
  unfold Oper.wp; rw [e]; exact h
theorem yields_build_is {ops : Array Oper} {S : World → Prop} (hw : Region.wanted o (yielded ops a.tmps) = true) (ty : TypeId) {ps : Array (Nat × Operand)} (ho : o.op = .build ty ps) {vs : List (Nat × Value)} {v : Value} (hx : ps.toList.map (fun (i, x) => (i, a.eval x)) = vs) (hrun : ∀ w, (Instr.build ty vs.toArray).run P w = .ok v w) : YieldsIf P ops S o v a :=
  .inl ⟨hw, fun w _ => by unfold execOp; simp only [ho]; rw [show ps.map (fun (i, x) => (i, a.eval x)) = vs.toArray by rw [← hx, ← Array.toList_map]]; simp only [Sem.run_bind, hrun w, Result.andThen_ok, Sem.run_pure]⟩
end
theorem RAt.setb {t : TypeId} {w : World} {g : Nat} {r : Rec} (h : RAt t w g r) (k : Int) : RAt t (w.setCell ⟨g, 2, none⟩ (.int .i64 k)) g ⟨r.kind, r.pos, k, r.val, r.images⟩ := by
  have := heap_setCell_same w g 2 _ t (.int .i64 k) h
  unfold RAt
  rw [this]
  simp [rcells]
theorem RAt.seti {t : TypeId} {w : World} {g : Nat} {r : Rec} (h : RAt t w g r) (hv : r.val.length = 32) (k : Int) : RAt t (w.setCell ⟨g, 35, none⟩ (.int .i64 k)) g ⟨r.kind, r.pos, r.block, r.val, k⟩ := by
  have := heap_setCell_same w g 35 _ t (.int .i64 k) h
  unfold RAt
  rw [this]
  have e : (rcells r).set 35 (.int .i64 k) = rcells ⟨r.kind, r.pos, r.block, r.val, k⟩ := by
    simp only [rcells, List.set_cons_succ]
    rw [List.set_append_right _ _ (by rw [U8_length, hv]; omega), U8_length, hv]
    rfl
  rw [List.setIfInBounds_toArray, e]
theorem splice_rec (r : Rec) (hv : r.val.length = 32) (v : List Int) (h : v.length = 32) : splice (rcells r) 3 (U8 v) = rcells ⟨r.kind, r.pos, r.block, v, r.images⟩ := by
  unfold splice
  rw [U8_length, h]
  simp only [rcells, List.take_succ_cons, List.take_zero, List.cons_append, List.nil_append, List.drop_succ_cons]
  rw [List.drop_append, U8_length, hv, List.drop_of_length_le (by rw [U8_length, hv]; omega)]
  rfl
theorem nums5 (xs : List Int) : nums xs [1, 1, 2, 8, 4] = [worth (xs.take 1), worth ((xs.drop 1).take 1), worth ((xs.drop 2).take 2), worth ((xs.drop 4).take 8), worth ((xs.drop 12).take 4)] := by
  simp [nums, List.drop_drop]
theorem worth_one (xs : List Int) (h : 1 < xs.length) : worth ((xs.drop 1).take 1) = xs.getD 1 0 := by
  match xs, h with
  | [_], h => simp at h
  | a :: b :: r, _ => simp [worth]
theorem parts_bd (xs : List Int) (hb : Bytes xs) (hl : xs.length = 64) : (0 ≤ xs.getD 1 0 ∧ xs.getD 1 0 < 256) ∧ (0 ≤ worth ((xs.drop 4).take 8) ∧ worth ((xs.drop 4).take 8) ≤ 18446744073709551615) ∧ (0 ≤ worth ((xs.drop 12).take 4) ∧ worth ((xs.drop 12).take 4) < 4294967296) := by
  have h1 : 0 ≤ xs.getD 1 0 ∧ xs.getD 1 0 < 256 := by
    rw [show xs.getD 1 0 = xs[1]'(by omega) by simp [List.getD, List.getElem?_eq_getElem (show 1 < xs.length by omega)]]
    exact hb.at 1 (by omega)
  have h2 := worth_bd ((xs.drop 4).take 8) ((hb.drop 4).take 8)
  have h3 := worth_bd ((xs.drop 12).take 4) ((hb.drop 12).take 4)
  rw [show ((xs.drop 4).take 8).length = 8 by simp; omega, show (256 : Int) ^ 8 = 18446744073709551616 by decide] at h2
  rw [show ((xs.drop 12).take 4).length = 4 by simp; omega, show (256 : Int) ^ 4 = 4294967296 by decide] at h3
  exact ⟨h1, ⟨h2.1, by omega⟩, h3⟩
set_option maxHeartbeats 4000000 in
set_option maxRecDepth 100000 in
theorem read_any (p : Option Addr) (c : Nat) (xs : List Int) (w : World) (hx : BIn w p 64 xs) (hc : 64 ≤ c) :
    Calls Tryz.prog 92 #[.slice p 64 c] w fun e w' => e = .returned (.agg (rcells (readS xs)).toArray) ∧ Below w.heap.size w w' := by
  obtain ⟨b, o, rfl, -⟩ := hx.cells (by omega)
  have HX : Hid (BIn w (some ⟨b, o, none⟩) 64 xs) := hx
  have A1 : Hid (_) := alloc31 w
  have R1 : Hid (RAt 139 (w.alloc (.cells (rcells rec0).toArray 139)) w.heap.size rec0) := RAt.new 139 w rec0
  have B1 : Hid (Below w.heap.size w (w.alloc (.cells (rcells rec0).toArray 139))) := below_alloc w _
  clear hx
  go_enter Tryz.func92, Tryz.ntmps92
  go_wp2_with (refine wpList_alloc_is (by rfl) 139 rfl A1.out ?_)
  have HSZ : Hid ((w.alloc (.cells (rcells rec0).toArray 139)).heap.size = w.heap.size + 1) := by show _ = _; simp
  generalize w.alloc (.cells (rcells rec0).toArray 139) = W1 at *
  clear A1
  rw [← HSZ.out]
  have HZ : Hid (ZIn (W1.alloc (.cells #[.int .i64 1, .int .i64 1, .int .i64 2, .int .i64 8, .int .i64 4] 3)) W1.heap.size 0 5 [1, 1, 2, 8, 4]) := by
    refine ⟨rfl, fun i h => ?_, fun i h => ?_⟩
    · match i, h with
      | 0, _ => exact ⟨by simp, by simp⟩
      | 1, _ => exact ⟨by simp, by simp⟩
      | 2, _ => exact ⟨by simp, by simp⟩
      | 3, _ => exact ⟨by simp, by simp⟩
      | 4, _ => exact ⟨by simp, by simp⟩
    · rw [Nat.zero_add, cell_of_row _ W1.heap.size i _ 3 (0, 0) (heap_alloc_new W1 _)]
      match i, h with
      | 0, _ => simp
      | 1, _ => simp
      | 2, _ => simp
      | 3, _ => simp
      | 4, _ => simp
  have HX2 : Hid (BIn (W1.alloc (.cells #[.int .i64 1, .int .i64 1, .int .i64 2, .int .i64 8, .int .i64 4] 3)) (some ⟨b, o, none⟩) 64 xs) := (HX.out.later B1.out).later (below_alloc W1 _)
  go_wp2_with fail
  refine (fields_pos b o 64 c W1.heap.size 0 5 5 xs [1, 1, 2, 8, 4] _ HX2.out HZ.out hc (by omega) (by omega) (by decide) (by omega)).mono ?_
  rintro e w2 ⟨v1, v2, rfl, ho1, ho2, hb2⟩
  have HB2 : Hid (Below W1.heap.size W1 w2) := below_of_alloc hb2
  obtain ⟨p1, c1, rfl, hi1, -⟩ := own_in64 ho1
  obtain ⟨p2, c2, rfl, hi2, -, -, -⟩ := own_in (n := 48) (xs := xs.drop 16) ho2 (HX.out.byte.drop 16)
  rw [nums5, worth_one xs (by rw [HX.out.len]; omega)] at hi1
  obtain ⟨g1, o1, rfl, hcs⟩ := hi1.cells (by omega)
  have n1 := hcs 1 (by simp)
  have n3 := hcs 3 (by simp)
  have n4 := hcs 4 (by simp)
  simp only [List.getElem_cons_succ, List.getElem_cons_zero] at n1 n3 n4
  have HR2 : Hid (RAt 139 w2 w.heap.size rec0) := R1.out.later HB2.out
  have HI2 : Hid (BIn w2 p2 32 ((xs.drop 16).take 32)) := hi2.take 32 (by omega)
  have HRS : Hid (readS xs = ⟨xs.getD 1 0, worth ((xs.drop 4).take 8), if xs.getD 1 0 = 1 then worth ((xs.drop 12).take 4) else 0, (xs.drop 16).take 32, if xs.getD 1 0 = 1 then 0 else worth ((xs.drop 12).take 4)⟩) := rfl
  have HBD := parts_bd xs HX.out.byte HX.out.len
  have HVL : Hid (((xs.drop 16).take 32).length = 32) := by show _ = _; simp [HX.out.len]
  have HB0 : Hid (Below w.heap.size w w2) := below_then B1.out HB2.out
  have hlt : g1 < w2.heap.size := World.block_lt_of_cell? w2 _ n1
  clear ho1 ho2 hb2 hi1 hi2 hcs HZ HX2 HB2 R1 B1
  obtain ⟨V, hV⟩ : ∃ V, V = (xs.drop 16).take 32 := ⟨_, rfl⟩
  rw [← hV] at HVL HI2 HRS
  clear hV
  generalize xs.getD 1 0 = k at *
  generalize worth ((xs.drop 4).take 8) = u at *
  generalize worth ((xs.drop 12).take 4) = m at *
  obtain ⟨⟨k0, k1⟩, ⟨u0, u1⟩, m0, m1⟩ := HBD
  have BK : Hid (_) := fun w => build31 w #[(0, .int .i64 k), (1, .int .u64 u)] ⟨k, u, 0, zs 32, 0⟩ ((fill_k rec0 rec0_len k _).trans (fill_p ⟨k, 0, 0, zs 32, 0⟩ (zs_len 32) u []))
  go_wp2_with fail
  have kw : IntKind.i64.wrap k = k := by rw [IntKind.wrap_i64]; omega
  refine wp_region_noPanic ?_
  refine wp_region_held_drew (S := fun w' => w'.cell? ⟨g1, o1 + 1, none⟩ = some (.int .u64 k) ∧ w'.cell? ⟨g1, o1 + 3, none⟩ = some (.int .u64 u)) (by kernel_rfl) ⟨n1, n3⟩ (fun hHeld => ?_)
  refine wpAnyH_take (i := 0) (v := ?v0) (by simp; rfl) (by kernel_rfl) (by kernel_rfl) (by kernel_rfl) (fun _ _ _ h => h) (Or.inl ⟨by rfl, ?y0⟩) hHeld ?r0
  case y0 => intro w hSw; obtain ⟨z1, z3⟩ := hSw; go_simp; with_reducible rfl
  simp only [Act.put, List.setIfInBounds_toArray, List.set_cons_zero, List.set_cons_succ]
  refine wpAnyH_take (i := 1) (v := ?v1) (by simp; rfl) (by kernel_rfl) (by kernel_rfl) (by kernel_rfl) (fun _ _ _ h => h) (Or.inl ⟨by rfl, ?y1⟩) hHeld ?r1
  case y1 => intro w hSw; obtain ⟨z1, z3⟩ := hSw; go_simp; with_reducible rfl
  simp only [Act.put, List.setIfInBounds_toArray, List.set_cons_zero, List.set_cons_succ]
  refine wpAnyH_take (i := 2) (v := ?v2) (by simp; rfl) (by kernel_rfl) (by kernel_rfl) (by kernel_rfl) (fun _ _ _ h => h) (Or.inl ⟨by rfl, ?y2⟩) hHeld ?r2
  case y2 => intro w hSw; obtain ⟨z1, z3⟩ := hSw; go_simp; with_reducible rfl
  simp only [Act.put, List.setIfInBounds_toArray, List.set_cons_zero, List.set_cons_succ]
  refine wpAnyH_take (i := 3) (v := ?v3) (by simp; rfl) (by kernel_rfl) (by kernel_rfl) (by kernel_rfl) (fun _ _ _ h => h) (Or.inl ⟨by rfl, ?y3⟩) hHeld ?r3
  case y3 => intro w hSw; obtain ⟨z1, z3⟩ := hSw; go_simp; with_reducible rfl
  simp only [Act.put, List.setIfInBounds_toArray, List.set_cons_zero, List.set_cons_succ]
  refine wpAnyH_take (i := 4) (v := ?v4) (by simp; rfl) (by kernel_rfl) (by kernel_rfl) (by kernel_rfl) (fun _ _ _ h => h) (Or.inl ⟨by rfl, ?y4⟩) hHeld ?r4
  case y4 => intro w hSw; obtain ⟨z1, z3⟩ := hSw; go_simp; with_reducible rfl
  simp only [Act.put, List.setIfInBounds_toArray, List.set_cons_zero, List.set_cons_succ]
  refine wpAnyH_take (i := 5) (v := ?v5) (by simp; rfl) (by kernel_rfl) (by kernel_rfl) (by kernel_rfl) (fun _ _ _ h => h) (Or.inl ⟨by rfl, ?y5⟩) hHeld ?r5
  case y5 => intro w hSw; obtain ⟨z1, z3⟩ := hSw; go_simp; with_reducible rfl
  simp only [Act.put, List.setIfInBounds_toArray, List.set_cons_zero, List.set_cons_succ]
  refine wpAnyH_take (i := 6) (v := ?v6) (by simp; rfl) (by kernel_rfl) (by kernel_rfl) (by kernel_rfl) (fun _ _ _ h => h) (Or.inl ⟨by rfl, ?y6⟩) hHeld ?r6
  case y6 => intro w hSw; obtain ⟨z1, z3⟩ := hSw; go_simp; with_reducible rfl
  simp only [Act.put, List.setIfInBounds_toArray, List.set_cons_zero, List.set_cons_succ]
  refine wpAnyH_take (i := 7) (v := _) (by simp; rfl) (by kernel_rfl) (by kernel_rfl) (by kernel_rfl) (fun _ _ _ h => h) (yields_build_is (vs := [(0, .int .i64 k), (1, .int .u64 u)]) (by rfl) 139 rfl (by rfl) BK.out) hHeld ?_
  simp only [Act.put, List.setIfInBounds_toArray, List.set_cons_zero, List.set_cons_succ]
  refine wpAnyH_ready (rs := [8]) (by kernel_rfl) (by simp) ?_
  refine AllReadyH.cons (by simp; rfl) (fun Kc hKc => ?_) AllReadyH.nil
  rw [if_pos (by rfl)]
  refine wp_alloc_is 139 rfl (alloc31 w2.drew) ?_
  have ba : Below w2.heap.size w2 (w2.drew.alloc (.cells (rcells rec0).toArray 139)) := below_undrew (below_alloc w2.drew _)
  refine hKc.out _ _ ⟨(ba.cell (p := ⟨g1, o1 + 1, none⟩) hlt).trans n1, (ba.cell (p := ⟨g1, o1 + 3, none⟩) hlt).trans n3⟩ (fun hHeld => ?_)
  clear hKc Kc ba
  simp only [Act.put, List.setIfInBounds_toArray, List.set_cons_zero, List.set_cons_succ]
  refine wpAnyH_ready (rs := [9]) (by kernel_rfl) (by simp) ?_
  refine AllReadyH.cons (by simp; rfl) (fun Kc hKc => ?_) AllReadyH.nil
  rw [if_pos (by rfl)]
  refine wp_store_is 139 rfl rfl rfl (store_new size31 w2.drew ⟨k, u, 0, zs 32, 0⟩ (zs_len 32)) ?_
  have ba : Below w2.heap.size w2 (w2.drew.alloc (.cells (rcells ⟨k, u, 0, zs 32, 0⟩).toArray 139)) := below_undrew (below_alloc w2.drew _)
  refine hKc.out _ _ ⟨(ba.cell (p := ⟨g1, o1 + 1, none⟩) hlt).trans n1, (ba.cell (p := ⟨g1, o1 + 3, none⟩) hlt).trans n3⟩ (fun hHeld => ?_)
  clear hKc Kc hHeld
  refine wpAnyH_done (by kernel_rfl) (NoPanic.normal ?_) _
  simp only [Act.put]
  have HR3 : Hid (RAt 139 (w2.drew.alloc (.cells (rcells ⟨k, u, 0, zs 32, 0⟩).toArray 139)) w2.heap.size ⟨k, u, 0, zs 32, 0⟩) := RAt.new 139 w2.drew _
  have HB3 : Hid (Below w2.heap.size w2 (w2.drew.alloc (.cells (rcells ⟨k, u, 0, zs 32, 0⟩).toArray 139))) := ba
  have hs2 : (w2.drew).heap.size = w2.heap.size := rfl
  simp only [hs2]
  clear ba hs2
  generalize w2.drew.alloc (.cells (rcells ⟨k, u, 0, zs 32, 0⟩).toArray 139) = w3 at *
  have HN : Hid ((U8 V).length = Nat.min 48 32) := by show _ = _; rw [U8_length, HVL.out]; rfl
  have HP : Hid (0 < (U8 V).length → some (⟨w2.heap.size, 3, none⟩ : Addr) = some ⟨w2.heap.size, 3, none⟩ ∧ ∃ ad, p2 = some ad ∧ ∀ j v, (U8 V)[j]? = some v → w3.cell? (ad.add j) = some v) := by
    intro _
    have h48 := HI2.out.later HB3.out
    obtain ⟨b', o', e, -⟩ := h48.cells (by omega)
    refine ⟨rfl, ⟨b', o', none⟩, e, ?_⟩
    rw [e] at h48
    exact h48.news
  have HF : Hid (3 + (U8 V).length ≤ (rcells ⟨k, u, 0, zs 32, 0⟩).length) := by show _ ≤ _; rw [U8_length, HVL.out, rcells_len _ (zs_len 32)]; omega
  have HSP : Hid (splice (rcells ⟨k, u, 0, zs 32, 0⟩) 3 (U8 V) = rcells ⟨k, u, 0, V, 0⟩) := splice_rec _ (zs_len 32) _ HVL.out
  go_wp2_with (refine wpList_copy_splice rfl (.tmp 23) (.tmp 24) 27 27 rfl 5 Tryz.underlying27 size5 (some ⟨w2.heap.size, 3, none⟩) p2 32 32 48 c2 rfl rfl w2.heap.size 3 (rcells ⟨k, u, 0, zs 32, 0⟩) 139 HR3.out (U8 V) HN.out HP.out HF.out (ones_u8 _) w2.heap.size w2 HB3.out (Nat.le_refl _) ?_)
  intro w4 hg4 hb4
  have HR4 : Hid (RAt 139 w4 w2.heap.size ⟨k, u, 0, V, 0⟩) := by
    have := hg4.out
    rw [HSP.out] at this
    exact this
  have HB4 : Hid (Below w2.heap.size w2 w4) := hb4
  have n4' := (hb4.cell (p := ⟨g1, o1 + 4, none⟩) hlt).trans n4
  have c0 := HR4.out.c0
  have c2' := HR4.out.c2
  have c35 := HR4.out.c35 HVL.out
  have f2 := frozen_of_row w4 w2.heap.size 2 _ 139 HR4.out
  have f35 := frozen_of_row w4 w2.heap.size 35 _ 139 HR4.out
  have HRB : Hid (RAt 139 w4 w.heap.size rec0) := HR2.out.later hb4
  have HNE : Hid (w.heap.size ≠ w2.heap.size) := by have := HR2.out.lt; show _ ≠ _; omega
  clear hg4 hb4 HN HP HF HSP HR3 HB3 n1 n3 n4 HI2 HX BK kw HR2
  have mw : IntKind.i64.wrap m = m := by rw [IntKind.wrap_i64]; omega
  by_cases hk : k = 1
  · subst hk
    have HR5 : Hid (RAt 139 (w4.setCell ⟨w2.heap.size, 2, none⟩ (.int .i64 m)) w2.heap.size ⟨1, u, m, V, 0⟩) := HR4.out.setb m
    have HRB5 : Hid (RAt 139 (w4.setCell ⟨w2.heap.size, 2, none⟩ (.int .i64 m)) w.heap.size rec0) := (heap_setCell_other w4 ⟨w2.heap.size, 2, none⟩ w.heap.size _ HNE.out).trans HRB.out
    have HB5 : Hid (Below w.heap.size w (w4.setCell ⟨w2.heap.size, 2, none⟩ (.int .i64 m))) := (below_then HB0.out HB4.out).setCell (by have := HB0.out.size; exact this) _
    have HE : Hid (readS xs = ⟨1, u, m, V, 0⟩) := by show _ = _; rw [HRS.out, if_pos rfl, if_pos rfl]
    have L6 : Hid (_) := HR5.out.load31 HVL.out
    have ST : Hid (_) := HRB5.out.store (s := ⟨1, u, m, V, 0⟩) size31 rec0_len HVL.out
    have HF : Hid (RAt 139 ((w4.setCell ⟨w2.heap.size, 2, none⟩ (.int .i64 m)).setRow w.heap.size (rcells ⟨1, u, m, V, 0⟩).toArray) w.heap.size ⟨1, u, m, V, 0⟩ ∧ Below w.heap.size w ((w4.setCell ⟨w2.heap.size, 2, none⟩ (.int .i64 m)).setRow w.heap.size (rcells ⟨1, u, m, V, 0⟩).toArray)) := ⟨HRB5.out.stored _, below_setRow HB5.out (Nat.le_refl _) _⟩
    go_wp2_with (first | (refine wpList_load_is (by rfl) 139 rfl rfl L6.out ?_) | (refine wpList_store_is (by rfl) 139 rfl rfl rfl ST.out ?_))
    rw [HE.out]
    exact bodyPost_ret (results_cell1 Tryz.results92 _ _ w.heap.size 139 _ _ (by rfl) HF.out.1 HVL.out Tryz.underlying139 rfl size31) rfl ⟨rfl, HF.out.2⟩
  · have HR5 : Hid (RAt 139 (w4.setCell ⟨w2.heap.size, 35, none⟩ (.int .i64 m)) w2.heap.size ⟨k, u, 0, V, m⟩) := HR4.out.seti HVL.out m
    have HRB5 : Hid (RAt 139 (w4.setCell ⟨w2.heap.size, 35, none⟩ (.int .i64 m)) w.heap.size rec0) := (heap_setCell_other w4 ⟨w2.heap.size, 35, none⟩ w.heap.size _ HNE.out).trans HRB.out
    have HB5 : Hid (Below w.heap.size w (w4.setCell ⟨w2.heap.size, 35, none⟩ (.int .i64 m))) := (below_then HB0.out HB4.out).setCell (by have := HB0.out.size; exact this) _
    have HE : Hid (readS xs = ⟨k, u, 0, V, m⟩) := by show _ = _; rw [HRS.out, if_neg hk, if_neg hk]
    have L6 : Hid (_) := HR5.out.load31 HVL.out
    have ST : Hid (_) := HRB5.out.store (s := ⟨k, u, 0, V, m⟩) size31 rec0_len HVL.out
    have HF : Hid (RAt 139 ((w4.setCell ⟨w2.heap.size, 35, none⟩ (.int .i64 m)).setRow w.heap.size (rcells ⟨k, u, 0, V, m⟩).toArray) w.heap.size ⟨k, u, 0, V, m⟩ ∧ Below w.heap.size w ((w4.setCell ⟨w2.heap.size, 35, none⟩ (.int .i64 m)).setRow w.heap.size (rcells ⟨k, u, 0, V, m⟩).toArray)) := ⟨HRB5.out.stored _, below_setRow HB5.out (Nat.le_refl _) _⟩
    go_wp2_with (first | (refine wpList_load_is (by rfl) 139 rfl rfl L6.out ?_) | (refine wpList_store_is (by rfl) 139 rfl rfl rfl ST.out ?_))
    rw [HE.out]
    exact bodyPost_ret (results_cell1 Tryz.results92 _ _ w.heap.size 139 _ _ (by rfl) HF.out.1 HVL.out Tryz.underlying139 rfl size31) rfl ⟨rfl, HF.out.2⟩
theorem fill_none : Instr.fill (pl.toArray[·]?) (rcells rec0).toArray (#[] : Array (Nat × Value)).toList = some (rcells rec0).toArray := rfl
set_option maxHeartbeats 1000000 in
set_option maxRecDepth 100000 in
theorem decode_len (p : Option Addr) (n c : Nat) (w : World) (hn : n ≠ 64) :
    Calls Tryz.prog 54 #[.slice p n c] w fun e w' => e = .returned (.tuple #[.agg (rcells rec0).toArray, .int .i64 2]) ∧ Below w.heap.size w w' := by
  have A1 : Hid (_) := alloc31 w
  have R1 : Hid (RAt 139 (w.alloc (.cells (rcells rec0).toArray 139)) w.heap.size rec0) := RAt.new 139 w rec0
  have B1 : Hid (_) := build31 (w.alloc (.cells (rcells rec0).toArray 139)) #[] rec0 fill_none
  have S1 : Hid (_) := store_new size31 w rec0 rec0_len
  have hn' : (((n : Nat) : Int) != 64) = true := by simp; omega
  go_enter Tryz.func54, Tryz.ntmps54
  go_wp2_with (first | (refine wpList_alloc_is (by rfl) 139 rfl A1.out ?_) | (refine wpList_build_is (vs := []) (by rfl) 139 rfl (by rfl) B1.out ?_) | (refine wpList_store_is (by rfl) 139 rfl rfl rfl S1.out ?_))
  exact bodyPost_ret (results_rec Tryz.results54 _ _ w.heap.size 139 _ _ (by rfl) R1.out rec0_len Tryz.underlying139 rfl size31) rfl ⟨rfl, below_alloc w _⟩
set_option maxHeartbeats 2000000 in
set_option maxRecDepth 100000 in
theorem decode_64 (p : Option Addr) (c : Nat) (xs : List Int) (w : World) (hx : BIn w p 64 xs) (hc : 64 ≤ c) (ht : Half w) :
    Calls Tryz.prog 54 #[.slice p 64 c] w fun e w' => e = .returned (.tuple #[.agg (rcells (decS xs).1).toArray, .int .i64 (decS xs).2]) ∧ Below w.heap.size w w' := by
  have A1 : Hid (_) := alloc31 w
  have R1 : Hid (RAt 139 (w.alloc (.cells (rcells rec0).toArray 139)) w.heap.size rec0) := RAt.new 139 w rec0
  have HX : Hid (BIn (w.alloc (.cells (rcells rec0).toArray 139)) p 64 xs) := hx.later (below_alloc w _)
  have HT : Hid (Half w) := ht
  have HW : Hid ((readS xs).Wf) := readS_wf xs hx.byte hx.len
  have HL : Hid (xs.length = 64) := hx.len
  clear hx ht
  go_enter Tryz.func54, Tryz.ntmps54
  go_wp2_with (refine wpList_alloc_is (by rfl) 139 rfl A1.out ?_)
  refine (read_any p c xs _ HX.out hc).mono ?_
  rintro e w1 ⟨rfl, b1⟩
  have R2 : Hid (RAt 139 w1 w.heap.size rec0) := R1.out.later b1
  have B2 : Hid (Below w.heap.size w w1) := below_of_alloc b1
  have X2 : Hid (BIn w1 p 64 xs) := HX.out.later b1
  clear b1 R1 HX A1
  obtain ⟨r, hr⟩ : ∃ r, r = readS xs := ⟨_, rfl⟩
  have HRR : Hid (r = readS xs) := hr
  rw [← hr] at HW ⊢
  clear hr
  have A2 : Hid (_) := alloc31 w1
  have S2 : Hid (_) := store_new size31 w1 r HW.out.len
  have R3 : Hid (RAt 139 (w1.alloc (.cells (rcells r).toArray 139)) w1.heap.size r) := RAt.new 139 w1 r
  have L3 : Hid (_) := R3.out.load31 HW.out.len
  go_wp2_with (first | (refine wpList_alloc_is (by rfl) 139 rfl A2.out ?_) | (refine wpList_store_is (by rfl) 139 rfl rfl rfl S2.out ?_) | (refine wpList_load_is (by rfl) 139 rfl rfl L3.out ?_))
  have B3 : Below w1.heap.size w1 (w1.alloc (.cells (rcells r).toArray 139)) := below_alloc w1 _
  refine (encode_any r HW.out _ (HT.out.later (below_then B2.out B3))).mono ?_
  rintro e w2 ⟨p2, n2, c2, rfl, hn2, -, m2⟩
  have B4 := below_then B3 m2.below
  have R4 : Hid (RAt 139 w2 w1.heap.size r) := R3.out.later m2.below
  have R5 : Hid (RAt 139 w2 w.heap.size rec0) := R2.out.later B4
  have HB : Hid (Below w.heap.size w w2) := below_then B2.out B4
  have X4 : Hid (BIn w2 p 64 xs) := X2.out.later B4
  have E4 : Hid (BIn w2 p2 n2 (encT r)) := m2.read
  have HNE : Hid (w.heap.size ≠ w1.heap.size) := by have := R2.out.lt; show _ ≠ _; omega
  clear m2 B3 B4 R3 L3 S2 A2 R2 B2 X2 hn2
  have L4 : Hid (_) := R4.out.load31 HW.out.len
  have ST : Hid (_) := R5.out.store (s := r) size31 rec0_len HW.out.len
  have SZ : Hid (_) := R5.out.store (s := rec0) size31 rec0_len rec0_len
  have BZ : Hid (_) := build31 w2 #[] rec0 fill_none
  have F1 : Hid (RAt 139 (w2.setRow w.heap.size (rcells r).toArray) w.heap.size r ∧ Below w.heap.size w (w2.setRow w.heap.size (rcells r).toArray)) := ⟨R5.out.stored _, below_setRow HB.out (Nat.le_refl _) _⟩
  have F0 : Hid (RAt 139 (w2.setRow w.heap.size (rcells rec0).toArray) w.heap.size rec0 ∧ Below w.heap.size w (w2.setRow w.heap.size (rcells rec0).toArray)) := ⟨R5.out.stored _, below_setRow HB.out (Nat.le_refl _) _⟩
  by_cases hm : may r = true
  · rw [chk_yes r hm]
    by_cases he : encS r = xs
    · have hq : decide (encT r = xs) = true := by rw [encT_yes r hm, he]; simp
      have HD : Hid (decS xs = (r, 0)) := by
        show _ = _
        rw [decS_ok xs HL.out (by unfold goodB; rw [← HRR.out, hm, he]; simp), HRR.out]
      clear he hm
      go_wp2_with fail
      refine (equal_any p2 p n2 c2 64 c (encT r) xs w2 E4.out X4.out).mono ?_
      rintro e w3 ⟨rfl, rfl⟩
      go_wp2_with (first | (refine wpList_store_is (by rfl) 139 rfl rfl rfl ST.out ?_) | (refine wpList_load_is (by rfl) 139 rfl rfl L4.out ?_))
      rw [HD.out]
      exact bodyPost_ret (results_rec Tryz.results54 _ _ w.heap.size 139 _ _ (by rfl) F1.out.1 HW.out.len Tryz.underlying139 rfl size31) rfl ⟨rfl, F1.out.2⟩
    · have hq : decide (encT r = xs) = false := by rw [encT_yes r hm]; simp [he]
      have HD : Hid (decS xs = (rec0, 60)) := decS_bad xs HL.out (by unfold goodB; rw [← HRR.out, hm]; simp [he])
      clear he hm
      go_wp2_with fail
      refine (equal_any p2 p n2 c2 64 c (encT r) xs w2 E4.out X4.out).mono ?_
      rintro e w3 ⟨rfl, rfl⟩
      go_wp2_with (first | (refine wpList_store_is (by rfl) 139 rfl rfl rfl SZ.out ?_) | (refine wpList_build_is (vs := []) (by rfl) 139 rfl (by rfl) BZ.out ?_))
      rw [HD.out]
      exact bodyPost_ret (results_rec Tryz.results54 _ _ w.heap.size 139 _ _ (by rfl) F0.out.1 rec0_len Tryz.underlying139 rfl size31) rfl ⟨rfl, F0.out.2⟩
  · rw [chk_no r hm]
    have HD : Hid (decS xs = (rec0, 60)) := decS_bad xs HL.out (by unfold goodB; rw [← HRR.out]; simp [hm])
    clear hm
    go_wp2_with (first | (refine wpList_store_is (by rfl) 139 rfl rfl rfl SZ.out ?_) | (refine wpList_build_is (vs := []) (by rfl) 139 rfl (by rfl) BZ.out ?_))
    rw [HD.out]
    exact bodyPost_ret (results_rec Tryz.results54 _ _ w.heap.size 139 _ _ (by rfl) F0.out.1 rec0_len Tryz.underlying139 rfl size31) rfl ⟨rfl, F0.out.2⟩
theorem decode_any (p : Option Addr) (n c : Nat) (xs : List Int) (w : World) (hx : BIn w p n xs) (hc : n ≤ c) (ht : Half w) :
    Calls Tryz.prog 54 #[.slice p n c] w fun e w' => e = .returned (.tuple #[.agg (rcells (decS xs).1).toArray, .int .i64 (decS xs).2]) ∧ Below w.heap.size w w' := by
  by_cases h : n = 64
  · subst h
    exact decode_64 p c xs w hx hc ht
  · rw [decS_len xs (by rw [hx.len]; exact h)]
    exact decode_len p n c w h
end Go.Proofs.YtdadpepfpiimgaaGreatDoor.R
namespace Go.Proofs.YtdadpepfpiimgaaGreatDoor
open Go.RowKit
theorem write_at {w : World} {S : Nat → Prop} {p n : Nat} {d : List Int} {ws : List Wr} (h : Dsk w S p n d ws) (i : Int) (h0 : 0 ≤ i) (h1 : i < n) (a : Option Addr) (c : Nat) (b : List Int) (hb : BIn w a 64 b) (hk : ws.length ≤ 100000) : Calls Tryz.prog 64 #[.pointer (some ⟨p, 0, none⟩), .int .i64 i, .slice a 64 c] w fun e w' => e = .returned (.int .i64 0) ∧ Dsk w' (More S w) p n d (ws ++ [⟨i.toNat, b⟩]) ∧ Kept S w w' := by
  have e0 : ((i.toNat : Nat) : Int) = i := by omega
  have := write_good h i.toNat (by omega) a c b hb hk
  rw [e0] at this
  exact this
end Go.Proofs.YtdadpepfpiimgaaGreatDoor
namespace Go.Proofs.YtdadpepfpiimgaaGreatDoor
open Go.RowKit
theorem zeros_one (z : Value) (k : Nat) : Builtin.zeroCells #[z] k = (List.replicate k z).toArray := by
  have h := toList_madeCells_one z k
  have e : Builtin.zeroCells #[z] k = madeCells #[z] k := by simp [Builtin.zeroCells, madeCells]
  rw [e, ← h]
section
variable {P : Program} (w : World)
theorem run_append_zeros_own (base : Nat) (t tn ty e : TypeId) (i : TypeInfo) (z : Value) (bytes : Nat) (kq kn : IntKind) (ht : P.underlying t = some (.slice e)) (htn : P.underlying tn = some (.int kn)) (hi : P.info? e = some i) (hz : i.zero = some z)
    (hsize : i.size = 1) (hby : i.bytes = bytes) (hzc : z.cells = #[z]) (hone : z.oneCell' = true) (g n cap : Nat) (xs : List Value) (hown : w.ownsRow base e 1 (.slice (some ⟨g, 0, none⟩) n cap) n xs) (k : Nat) (hk : 0 < k)
    (h63 : n + k ≤ maxLen) (hbytes : (n + k) * bytes ≤ 140737488355328) (hbase : base ≤ w.heap.size) :
    ∃ v' w', (Builtin.append_ #[t, tn] ty #[.slice (some ⟨g, 0, none⟩) n cap, .int kq k]).run P w = .ok v' w' ∧ w'.ownsRow base e 1 v' (n + k) (xs ++ List.replicate k z) ∧ w.grownBy w' (some g) := by
  have hsmall : n + k ≤ 9223372036854775807 := by simp only [maxLen] at h63; omega
  have hlen : (xs ++ List.replicate k z).length = (n + k) * 1 := by rw [List.length_append, hown.1, List.length_replicate]; omega
  have hkb : k * i.bytes ≤ 140737488355328 := by
    rw [hby]
    exact Nat.le_trans (Nat.mul_le_mul_right _ (by omega)) hbytes
  rcases hown.2 with ⟨h, _⟩ | ⟨g', cap', cur, h, hbg, hg, hnc, hcm, hcs, htake⟩
  · simp at h
  · simp only [Value.slice.injEq, Option.some.injEq, Addr.mk.injEq, and_true, true_and] at h
    obtain ⟨rfl, rfl⟩ := h
    by_cases hroom : n + k ≤ cap
    · have hst := run_storeCells_at P g n e (List.replicate k z) 0 cur w hg (by simp; omega) (by intro v hv; rw [List.eq_of_mem_replicate hv]; exact hone)
      simp only [Nat.add_zero] at hst
      have hw : IntKind.i64.wrap (k : Int) = k := by rw [IntKind.wrap_i64]; omega
      have hneg : ¬ ((k : Int) < 0) := by omega
      have h48i : ¬ (281474976710656 < (k : Int) * (i.bytes : Int)) := by
        rw [← Int.natCast_mul]
        omega
      have hk0 : k ≠ 0 := by omega
      have hr : (Builtin.append_ #[t, tn] ty #[.slice (some ⟨g, 0, none⟩) n cap, .int kq k]).run P w = .ok (.slice (some ⟨g, 0, none⟩) (n + k) cap) (w.setRow g (cur.toList.take n ++ List.replicate k z ++ cur.toList.drop (n + (List.replicate k z).length)).toArray) := by
        simp [Builtin.append_, run_underlying ht, run_underlying htn, sizeOf, typeInfo, zeroValue, hi, hz, hsize, asInt, asIntOf, hw, hneg, h48i, hroom, hk0, hzc, zeros_one, Addr.add_lit, hst]
      refine ⟨_, _, hr, ⟨hlen, .inr ⟨g, cap, _, rfl, hbg, setRow_heap w g cur _ e _ hg, hroom, hcm, ?_, ?_⟩⟩, ⟨rfl, rfl, rfl, by simp, fun k _ hk => setRow_other w g k _ (fun e => hk (by simp [e]))⟩⟩
      · simp only [List.size_toArray, List.length_append, List.length_take, List.length_drop, Array.length_toList, List.length_replicate]
        omega
      · rw [Nat.mul_one] at htake
        rw [htake, ← hlen]
        exact List.take_left
    · have holds : ∀ j u, xs[j]? = some u → w.drew.cell? ((⟨g, 0, none⟩ : Addr).add j) = some u := hown.cells (g := g) rfl
      have hf := run_firstCells_some (P := P) w.drew i.size n ⟨g, 0, none⟩ n cap xs (by rw [hsize]; exact hown.1) holds
      have hr := Lib.run_append_grow_zeros (P := P) w t tn ty e i z kq kn ht htn hi hz (some ⟨g, 0, none⟩) n cap xs hf k hk (by omega) (by omega) (by omega) (by omega) (growslice_fits (by omega) (by rw [hby]; exact hbytes))
      have hge := grownCap_ge w (n + k) cap e
      have hcm2 : grownCap w (n + k) cap e ≤ maxLen := grownCap_le_maxLen w (n + k) cap e h63
      refine ⟨_, _, hr, ⟨hlen, .inr ⟨w.heap.size, _, _, rfl, hbase, heap_alloc_new w.drew _, hge, hcm2, ?_, ?_⟩⟩, ⟨rfl, rfl, rfl, by simp, fun k hk _ => heap_alloc_old w.drew _ hk⟩⟩
      · have := hown.1
        simp only [Array.size_append, List.size_toArray, size_zeroCells, hzc]
        simp
        omega
      · simp only [Array.toList_append, hzc, zeros_one, List.append_assoc]
        rw [← List.append_assoc, ← hlen]
        exact List.take_left
theorem wpList_append_zeros_own {ops : Array Oper} {rest : List Oper} {o : Oper} {a : Act} {Q : Exit → Act → World → Prop} (hgd : o.guard = none) (s x : Operand) (t tn : TypeId)
    (ho : o.op = .call { callee := .builtin .append, args := #[s, x], argTypes := #[t, tn] }) (base : Nat) (e : TypeId) (i : TypeInfo) (z : Value) (bytes : Nat) (kq kn : IntKind) (ht : P.underlying t = some (.slice e)) (htn : P.underlying tn = some (.int kn)) (hi : P.info? e = some i) (hz : i.zero = some z)
    (hsize : i.size = 1) (hby : i.bytes = bytes) (hzc : z.cells = #[z]) (hone : z.oneCell' = true) (g n cap : Nat) (xs : List Value) (hs : a.eval s = .slice (some ⟨g, 0, none⟩) n cap) (hown : w.ownsRow base e 1 (.slice (some ⟨g, 0, none⟩) n cap) n xs) (k : Nat) (hx : a.eval x = .int kq k) (hk : 0 < k)
    (h63 : n + k ≤ maxLen) (hbytes : (n + k) * bytes ≤ 140737488355328) (hbase : base ≤ w.heap.size)
    (h : ∀ v' w', w'.ownsRow base e 1 v' (n + k) (xs ++ List.replicate k z) → w.grownBy w' (some g) → wpList P ops Q rest (a.put o.dst v') w') : wpList P ops Q (o :: rest) a w := by
  refine wpList_plain hgd fun K hK => ?_
  obtain ⟨v', w', hr, h1, h2⟩ := run_append_zeros_own (P := P) w base t tn o.type e i z bytes kq kn ht htn hi hz hsize hby hzc hone g n cap xs hown k hk h63 hbytes hbase
  unfold Oper.wp
  simp [execOp, ho, resolve, invoke, builtin, hs, hx, hr, Result.andThen]
  exact hK _ _ (h v' w' h1 h2)
end
theorem div_step (n : Int) (j : Nat) : n / 256 ^ j / 256 = n / 256 ^ (j + 1) := by
  rw [Int.pow_succ, Int.ediv_ediv_of_nonneg (Int.le_of_lt (pow_pos j))]
theorem div_bd (n : Int) (j : Nat) (h0 : 0 ≤ n) : 0 ≤ n / 256 ^ j ∧ n / 256 ^ j ≤ n :=
  ⟨Int.ediv_nonneg h0 (Int.le_of_lt (pow_pos j)), Int.ediv_le_self _ h0⟩
end Go.Proofs.YtdadpepfpiimgaaGreatDoor
namespace Go.Proofs.YtdadpepfpiimgaaGreatDoor
open Go.RowKit
theorem own_shape {w : World} {base : Nat} {v : Value} {n : Nat} {xs : List Value} (h : w.ownsRow base 5 1 v n xs) (h0 : 0 < n) : ∃ g cap, v = .slice (some ⟨g, 0, none⟩) n cap ∧ n ≤ cap := by
  rcases h.2 with ⟨_, h2⟩ | ⟨g, cap, cur, h2, _, _, h3, _⟩
  · omega
  · exact ⟨g, cap, h2, h3⟩
theorem own_bin {w : World} {base g cap n : Nat} {xs : List Int} (h : w.ownsRow base 5 1 (.slice (some ⟨g, 0, none⟩) n cap) n (U8 xs)) (hb : Bytes xs) : BIn w (some ⟨g, 0, none⟩) n xs := by
  obtain ⟨p, c, e, hr, _⟩ := own_in h hb
  simp only [Value.slice.injEq] at e
  rw [e.1]
  exact hr
end Go.Proofs.YtdadpepfpiimgaaGreatDoor
namespace Go.Proofs.YtdadpepfpiimgaaGreatDoor
open Go.RowKit
section
variable {P : Program} {o : Oper} {a : Act} {w w' : World} {K : Act → World → Prop} {Q : Exit → Act → World → Prop}
theorem yields_build_is {ops : Array Oper} {S : World → Prop} (hw : Region.wanted o (yielded ops a.tmps) = true) (ty : TypeId) {ps : Array (Nat × Operand)} (ho : o.op = .build ty ps) {vs : List (Nat × Value)} {v : Value} (hx : ps.toList.map (fun (i, x) => (i, a.eval x)) = vs) (hrun : ∀ w, (Instr.build ty vs.toArray).run P w = .ok v w) : YieldsIf P ops S o v a :=
  .inl ⟨hw, fun w _ => by unfold execOp; simp only [ho]; rw [show ps.map (fun (i, x) => (i, a.eval x)) = vs.toArray by rw [← hx, ← Array.toList_map]]; simp only [Sem.run_bind, hrun w, Result.andThen_ok, Sem.run_pure]⟩
end
end Go.Proofs.YtdadpepfpiimgaaGreatDoor
