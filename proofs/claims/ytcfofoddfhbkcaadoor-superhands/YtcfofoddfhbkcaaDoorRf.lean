/-
  Layer 7, the document's own functions, fourth part: Encode, Decode.
-/
import Derived.Test.YtcfofoddfhbkcaaDoorRe
import Derived.Test.YtcfofoddfhbkcaaDoorLd
namespace Go.Proofs.YtcfofoddfhbkcaaDoor
open Go.RowKit

section
variable {P : Program} {o : Oper} {a : Act} {w w' : World} {K : Act → World → Prop} {Q : Exit → Act → World → Prop}
theorem wp_alloc_is (ty : TypeId) (ho : o.op = .alloc ty) {v : Value} (hrun : (Instr.alloc ty true (.tuple #[])).run P w = .ok v w') (h : K (a.put o.dst v) w') : o.wp P a w K Q := by
  have e : (execOp a.eval o).run P w = .ok (.value v) w' := by unfold execOp; simp only [ho, Sem.run_bind, hrun, Result.andThen_ok, Sem.run_pure]
  unfold Oper.wp; rw [e]; exact h
theorem wp_store_is (ty : TypeId) {x y : Operand} (ho : o.op = .store ty x y) {p v : Value} (hx : a.eval x = p) (hy : a.eval y = v) (hrun : (Instr.storeAt ty p v).run P w = .ok () w') (h : K (a.put o.dst undef) w') : o.wp P a w K Q := by
  have e : (execOp a.eval o).run P w = .ok .skip w' := by unfold execOp; simp only [ho, hx, hy, Sem.run_bind, hrun, Result.andThen_ok, Sem.run_pure]
  unfold Oper.wp; rw [e]; exact h
theorem yields_build_is {ops : Array Oper} {S : World → Prop} (hw : Region.wanted o (yielded ops a.tmps) = true) (ty : TypeId) {ps : Array (Nat × Operand)} (ho : o.op = .build ty ps) {vs : List (Nat × Value)} {v : Value} (hx : ps.toList.map (fun (i, x) => (i, a.eval x)) = vs) (hrun : ∀ w, (Instr.build ty vs.toArray).run P w = .ok v w) : YieldsIf P ops S o v a :=
  .inl ⟨hw, fun w _ => by unfold execOp; simp only [ho]; rw [show ps.map (fun (i, x) => (i, a.eval x)) = vs.toArray by rw [← hx, ← Array.toList_map]]; simp only [Sem.run_bind, hrun w, Result.andThen_ok, Sem.run_pure]⟩
end

theorem BIn.cell {w : World} {b o n : Nat} {xs : List Int} (h : BIn w (some ⟨b, o, none⟩) n xs) (i : Nat) (hi : i < n) : w.cell? ⟨b, o + i, none⟩ = some (.int .u8 (xs.getD i 0)) := by
  have := h.at i hi
  rwa [Go.WideShapes.add_plain] at this
theorem yields_neq_is {P : Program} {ops : Array Oper} {S : World → Prop} {o : Oper} {a : Act} (hw : Region.wanted o (yielded ops a.tmps) = true) (ty : TypeId) {x y : Operand} {t2 : TypeId} (ho : o.op = .binOp .neq ty x y t2) {xs ys : Array Value} {v : Value} (hx : a.eval x = .agg xs) (hy : a.eval y = .agg ys) (hg : P.eqGuardType P.depth ty = false) (hrun : ∀ w, (binOp .neq ty (.agg xs) (.agg ys)).run P w = .ok v w) : YieldsIf P ops S o v a :=
  .inl ⟨hw, fun w _ => by unfold execOp; simp only [ho, hx, hy, Sem.run_bind, run_eqGuard_agg w .neq ty x y xs ys hg, hrun w, Result.andThen_ok, Sem.run_pure]⟩
theorem yields_eql_is {P : Program} {ops : Array Oper} {S : World → Prop} {o : Oper} {a : Act} (hw : Region.wanted o (yielded ops a.tmps) = true) (ty : TypeId) {x y : Operand} {t2 : TypeId} (ho : o.op = .binOp .eql ty x y t2) {xs ys : Array Value} {v : Value} (hx : a.eval x = .agg xs) (hy : a.eval y = .agg ys) (hg : P.eqGuardType P.depth ty = false) (hrun : ∀ w, (binOp .eql ty (.agg xs) (.agg ys)).run P w = .ok v w) : YieldsIf P ops S o v a :=
  .inl ⟨hw, fun w _ => by unfold execOp; simp only [ho, hx, hy, Sem.run_bind, run_eqGuard_agg w .eql ty x y xs ys hg, hrun w, Result.andThen_ok, Sem.run_pure]⟩
set_option maxHeartbeats 1000000 in
theorem refEncode_any (s : Sup) (hw : s.Wf) (w : World) :
    Calls Tryd.prog 14 #[.agg (scells s).toArray] w fun e w' => ∃ p n c, e = .returned (.tuple #[.slice p n c, .int .i64 (chk s)]) ∧ n = (encT s).length ∧ Made w w' p n c (encT s) := by
  have R0 : Hid (SAt 26 (w.alloc (.cells (scells s).toArray 26)) w.heap.size s) := LAt.new 26 w _
  have B0 : Hid (Below w.heap.size w (w.alloc (.cells (scells s).toArray 26))) := below_alloc w _
  have L1 : Hid (_) := SAt.load26 R0.out
  have HW : Hid (s.Wf) := hw
  clear hw
  go_enter Tryd.func14, Tryd.ntmps14
  go_wp2_with ((with_reducible refine at_ops ?_); (refine wpList_load_is (by rfl) 26 rfl rfl L1.out ?_); simp only [Act.put, List.setIfInBounds_toArray, List.set_cons_zero, List.set_cons_succ])
  refine (refCheck_any s _).mono ?_
  rintro e w1 ⟨rfl, b1⟩
  have R1 : Hid (SAt 26 w1 w.heap.size s) := LAt.later R0.out b1
  have B1 : Hid (Below w.heap.size w w1) := below_then B0.out b1
  have L2 : Hid (_) := SAt.load26 R1.out
  clear b1 R0 B0 L1
  by_cases hm : May s
  · rw [chk_yes s hm]
    have HE : Hid (encT s = encS s) := encT_yes s hm
    have HC : Hid (chk s = 0) := chk_yes s hm
    clear hm
    go_wp2_with ((with_reducible refine at_ops ?_); (refine wpList_load_is (by rfl) 26 rfl rfl L2.out ?_); simp only [Act.put, List.setIfInBounds_toArray, List.set_cons_zero, List.set_cons_succ])
    refine (laid_any s HW.out w1).mono ?_
    rintro e w2 ⟨g, c, rfl, m⟩
    have HM : Hid (Made w1 w2 (some ⟨g, 0, none⟩) 64 c (encS s)) := m
    clear m
    go_wp2_with fail
    go_ret2
    rw [HE.out, HC.out]
    exact ⟨_, 64, c, rfl, (encS_len s).symm, own_mono HM.out.own B1.out.size, HM.out.read, HM.out.le, HM.out.nil, below_then B1.out HM.out.below⟩
  · have hc : chk s ≠ 0 := fun h => hm ((chk_zero s).1 h)
    have HE : Hid (encT s = []) := encT_no s hm
    obtain ⟨q, hq⟩ : ∃ q, q = chk s := ⟨_, rfl⟩
    have HQ : Hid (q = chk s) := hq
    rw [← hq] at hc ⊢
    clear hq hm
    go_wp2_with fail
    go_ret2
    rw [← HQ.out, HE.out]
    exact ⟨none, 0, 0, rfl, rfl, World.ownsRow_nil _ _ _ _, BIn.empty, Nat.le_refl _, fun _ => rfl, B1.out⟩

set_option maxHeartbeats 1000000 in
theorem refDecode_len (p : Option Addr) (n c : Nat) (w : World) (hn : n ≠ 64) :
    Calls Tryd.prog 19 #[.slice p n c] w fun e w' => e = .returned (.tuple #[.agg (scells sup0).toArray, .int .i64 2]) ∧ Below w.heap.size w w' := by
  have A1 : Hid (_) := alloc26 w
  have R1 : Hid (SAt 26 (w.alloc (.cells (scells sup0).toArray 26)) w.heap.size sup0) := LAt.new 26 w _
  have S1 : Hid (_) := store_new26 w sup0
  have hn' : (((n : Nat) : Int) != 64) = true := by simp; omega
  go_enter Tryd.func19, Tryd.ntmps19
  go_wp2_with ((with_reducible refine at_ops ?_); (first | (refine wpList_alloc_is (by rfl) 26 rfl A1.out ?_) | (refine wpList_build_is (vs := []) (by rfl) 26 rfl (by rfl) (build26 _ #[] sup0 fill_none) ?_) | (refine wpList_store_is (by rfl) 26 rfl rfl rfl S1.out ?_)); simp only [Act.put, List.setIfInBounds_toArray, List.set_cons_zero, List.set_cons_succ])
  exact bodyPost_ret (results_sup Tryd.results19 _ _ w.heap.size 26 _ _ (by rfl) R1.out Tryd.underlying26 rfl size26) rfl ⟨rfl, below_alloc w _⟩

set_option maxHeartbeats 8000000 in
set_option maxRecDepth 100000 in
theorem refDecode_64 (b o c : Nat) (xs : List Int) (w : World) (hx : BIn w (some ⟨b, o, none⟩) 64 xs) (hc : 64 ≤ c) :
    Calls Tryd.prog 19 #[.slice (some ⟨b, o, none⟩) 64 c] w fun e w' => e = .returned (.tuple #[.agg (scells (decS xs).1).toArray, .int .i64 (decS xs).2]) ∧ Below w.heap.size w w' := by
  have A1 : Hid (_) := alloc26 w
  obtain ⟨w1, hw1⟩ : ∃ x, x = w.alloc (.cells (scells sup0).toArray 26) := ⟨_, rfl⟩
  have R1 : Hid (SAt 26 w1 w.heap.size sup0) := by rw [hw1]; exact LAt.new 26 w _
  have B1 : Hid (Below w.heap.size w w1) := by rw [hw1]; exact below_alloc w _
  have X1 : Hid (BIn w1 (some ⟨b, o, none⟩) 64 xs) := hx.later B1.out
  have HW : Hid ((readS xs).Wf) := readS_wf xs hx.byte
  have HL : Hid (xs.length = 64) := hx.len
  have HY : Hid (Bytes xs) := hx.byte
  rw [← hw1] at A1
  have r1 := rd_one xs hx.byte 1 (by omega)
  have r2 := rd_one xs hx.byte 2 (by omega)
  have r3 := rd_one xs hx.byte 3 (by omega)
  have r4 := rd_one xs hx.byte 4 (by omega)
  have r5 := rd_one xs hx.byte 5 (by omega)
  obtain ⟨r, hr⟩ : ∃ r, r = readS xs := ⟨_, rfl⟩
  have HRR : Hid (r = readS xs) := hr
  have HE1 : Hid (xs.getD 8 0 = r.bl) := by rw [hr]; exact (rd_get xs 8 (by rw [hx.len]; omega)).symm
  have HE2 : Hid (xs.getD 9 0 = r.lc) := by rw [hr]; exact (rd_get xs 9 (by rw [hx.len]; omega)).symm
  have HE3 : Hid (xs.getD 10 0 = r.mr) := by rw [hr]; exact (rd_get xs 10 (by rw [hx.len]; omega)).symm
  have HE4 : Hid (xs.getD 11 0 = r.hi) := by rw [hr]; exact (rd_get xs 11 (by rw [hx.len]; omega)).symm
  have HE5 : Hid (xs.getD 12 0 = r.cl) := by rw [hr]; exact (rd_get xs 12 (by rw [hx.len]; omega)).symm
  have HE6 : Hid (worth ((xs.drop 16).take 8) = r.tail) := by rw [hr]; rfl
  have HE7 : Hid (worth ((xs.drop 24).take 8) = r.life) := by rw [hr]; rfl
  rw [show rd xs 1 = r.bl by rw [hr]; rfl] at r1
  rw [show rd xs 2 = r.lc by rw [hr]; rfl] at r2
  rw [show rd xs 3 = r.mr by rw [hr]; rfl] at r3
  rw [show rd xs 4 = r.hi by rw [hr]; rfl] at r4
  rw [show rd xs 5 = r.cl by rw [hr]; rfl] at r5
  rw [← hr] at HW
  have q1 : IntKind.i64.wrap r.bl = r.bl := by rw [IntKind.wrap_i64]; omega
  have q2 : IntKind.i64.wrap r.lc = r.lc := by rw [IntKind.wrap_i64]; omega
  have q3 : IntKind.i64.wrap r.mr = r.mr := by rw [IntKind.wrap_i64]; omega
  have q4 : IntKind.i64.wrap r.hi = r.hi := by rw [IntKind.wrap_i64]; omega
  have q5 : IntKind.i64.wrap r.cl = r.cl := by rw [IntKind.wrap_i64]; omega
  have EI1 : Hid (∀ w', BIn w' (some ⟨b, o, none⟩) 64 xs → Calls Tryd.prog 34 #[.slice (some ⟨b, o + 16, none⟩) 8 (c - 16)] w' fun e w'' => e = .returned (.int .u64 r.tail) ∧ w' = w'') := fun w' h => by
    rw [← HE6.out]; exact eight_any b (o + 16) (c - 16) _ w' ((h.drop 16 (by omega)).take 8 (by omega))
  have EI2 : Hid (∀ w', BIn w' (some ⟨b, o, none⟩) 64 xs → Calls Tryd.prog 34 #[.slice (some ⟨b, o + 24, none⟩) 8 (c - 24)] w' fun e w'' => e = .returned (.int .u64 r.life) ∧ w' = w'') := fun w' h => by
    rw [← HE7.out]; exact eight_any b (o + 24) (c - 24) _ w' ((h.drop 24 (by omega)).take 8 (by omega))
  have n1 : ¬ c = 16 := by omega
  have n2 : ¬ c = 24 := by omega
  have n3 : (24 : Int) ≤ c := by omega
  have n4 : (32 : Int) ≤ c := by omega
  clear hw1 hx hr r1 r2 r3 r4 r5
  go_enter Tryd.func19, Tryd.ntmps19
  go_wp2_with ((with_reducible refine at_ops ?_); (refine wpList_alloc_is (by rfl) 26 rfl A1.out ?_); simp only [Act.put, List.setIfInBounds_toArray, List.set_cons_zero, List.set_cons_succ])
  clear A1
  refine Code.wp_mono (Q := fun e a W => ∃ (g4 : Nat), e = .normal ∧ Hid (SAt 26 W g4 r ∧ Below w1.heap.size w1 W) ∧ a = { tmps := #[.slice (some ⟨b, o, none⟩) 64 c, undef, .pointer (some ⟨w.heap.size, 0, none⟩), .int .i64 0, .pointer (some ⟨g4, 0, none⟩), undef, undef, .slice (some ⟨b, o, none⟩) 64 c, .int .i64 64, .bool false, undef, .slice (some ⟨b, o, none⟩) 64 c, .pointer (some ⟨b, o + 8, none⟩), .int .u8 r.bl, .int .i64 r.bl, .slice (some ⟨b, o, none⟩) 64 c, .pointer (some ⟨b, o + 9, none⟩), .int .u8 r.lc, .int .i64 r.lc, .slice (some ⟨b, o, none⟩) 64 c, .pointer (some ⟨b, o + 10, none⟩), .int .u8 r.mr, .int .i64 r.mr, .slice (some ⟨b, o, none⟩) 64 c, .pointer (some ⟨b, o + 11, none⟩), .int .u8 r.hi, .int .i64 r.hi, .slice (some ⟨b, o, none⟩) 64 c, .pointer (some ⟨b, o + 12, none⟩), .int .u8 r.cl, .int .i64 r.cl, .agg (ccells r).toArray, .slice (some ⟨b, o, none⟩) 64 c, .slice (some ⟨b, o + 16, none⟩) 8 (c - 16), .int .u64 r.tail, .slice (some ⟨b, o, none⟩) 64 c, .slice (some ⟨b, o + 24, none⟩) 8 (c - 24), .int .u64 r.life, .agg (scells r).toArray, undef, undef, undef, undef, undef, undef, undef, undef, undef, undef, undef, undef, undef, undef, undef, undef], defers := [] }) ?rest ?reg
  case reg =>
    refine wp_region_noPanic ?_
    refine wp_region_held_drew (S := fun w' => BIn w' (some ⟨b, o, none⟩) 64 xs) (by kernel_rfl) X1.out.drew (fun hHeld => ?_)
    refine wpAnyH_take (i := 0) (v := ?v0) (by simp; rfl) (by kernel_rfl) (by kernel_rfl) (by kernel_rfl) (fun _ _ _ h => h) (Or.inl ⟨by rfl, ?y0⟩) hHeld ?r0
    case y0 => intro w hSw; clear hSw; go_simp; with_reducible rfl
    simp only [Act.put, List.setIfInBounds_toArray, List.set_cons_zero, List.set_cons_succ]
    refine wpAnyH_take (i := 1) (v := ?v1) (by simp; rfl) (by kernel_rfl) (by kernel_rfl) (by kernel_rfl) (fun _ _ _ h => h) (Or.inl ⟨by rfl, ?y1⟩) hHeld ?r1
    case y1 => intro w hSw; clear hSw; go_simp; with_reducible rfl
    simp only [Act.put, List.setIfInBounds_toArray, List.set_cons_zero, List.set_cons_succ]
    refine wpAnyH_take (i := 2) (v := ?v2) (by simp; rfl) (by kernel_rfl) (by kernel_rfl) (by kernel_rfl) (fun _ _ _ h => h) (Or.inl ⟨by rfl, ?y2⟩) hHeld ?r2
    case y2 => intro w hSw; have z := hSw.cell 8 (by omega); rw [HE1.out] at z; clear hSw; go_simp; with_reducible rfl
    simp only [Act.put, List.setIfInBounds_toArray, List.set_cons_zero, List.set_cons_succ]
    refine wpAnyH_take (i := 3) (v := ?v3) (by simp; rfl) (by kernel_rfl) (by kernel_rfl) (by kernel_rfl) (fun _ _ _ h => h) (Or.inl ⟨by rfl, ?y3⟩) hHeld ?r3
    case y3 => intro w hSw; clear hSw; go_simp; with_reducible rfl
    simp only [Act.put, List.setIfInBounds_toArray, List.set_cons_zero, List.set_cons_succ]
    refine wpAnyH_take (i := 4) (v := ?v4) (by simp; rfl) (by kernel_rfl) (by kernel_rfl) (by kernel_rfl) (fun _ _ _ h => h) (Or.inl ⟨by rfl, ?y4⟩) hHeld ?r4
    case y4 => intro w hSw; clear hSw; go_simp; with_reducible rfl
    simp only [Act.put, List.setIfInBounds_toArray, List.set_cons_zero, List.set_cons_succ]
    refine wpAnyH_take (i := 5) (v := ?v5) (by simp; rfl) (by kernel_rfl) (by kernel_rfl) (by kernel_rfl) (fun _ _ _ h => h) (Or.inl ⟨by rfl, ?y5⟩) hHeld ?r5
    case y5 => intro w hSw; clear hSw; go_simp; with_reducible rfl
    simp only [Act.put, List.setIfInBounds_toArray, List.set_cons_zero, List.set_cons_succ]
    refine wpAnyH_take (i := 6) (v := ?v6) (by simp; rfl) (by kernel_rfl) (by kernel_rfl) (by kernel_rfl) (fun _ _ _ h => h) (Or.inl ⟨by rfl, ?y6⟩) hHeld ?r6
    case y6 => intro w hSw; have z := hSw.cell 9 (by omega); rw [HE2.out] at z; clear hSw; go_simp; with_reducible rfl
    simp only [Act.put, List.setIfInBounds_toArray, List.set_cons_zero, List.set_cons_succ]
    refine wpAnyH_take (i := 7) (v := ?v7) (by simp; rfl) (by kernel_rfl) (by kernel_rfl) (by kernel_rfl) (fun _ _ _ h => h) (Or.inl ⟨by rfl, ?y7⟩) hHeld ?r7
    case y7 => intro w hSw; clear hSw; go_simp; with_reducible rfl
    simp only [Act.put, List.setIfInBounds_toArray, List.set_cons_zero, List.set_cons_succ]
    refine wpAnyH_take (i := 8) (v := ?v8) (by simp; rfl) (by kernel_rfl) (by kernel_rfl) (by kernel_rfl) (fun _ _ _ h => h) (Or.inl ⟨by rfl, ?y8⟩) hHeld ?r8
    case y8 => intro w hSw; clear hSw; go_simp; with_reducible rfl
    simp only [Act.put, List.setIfInBounds_toArray, List.set_cons_zero, List.set_cons_succ]
    refine wpAnyH_take (i := 9) (v := ?v9) (by simp; rfl) (by kernel_rfl) (by kernel_rfl) (by kernel_rfl) (fun _ _ _ h => h) (Or.inl ⟨by rfl, ?y9⟩) hHeld ?r9
    case y9 => intro w hSw; clear hSw; go_simp; with_reducible rfl
    simp only [Act.put, List.setIfInBounds_toArray, List.set_cons_zero, List.set_cons_succ]
    refine wpAnyH_take (i := 10) (v := ?v10) (by simp; rfl) (by kernel_rfl) (by kernel_rfl) (by kernel_rfl) (fun _ _ _ h => h) (Or.inl ⟨by rfl, ?y10⟩) hHeld ?r10
    case y10 => intro w hSw; have z := hSw.cell 10 (by omega); rw [HE3.out] at z; clear hSw; go_simp; with_reducible rfl
    simp only [Act.put, List.setIfInBounds_toArray, List.set_cons_zero, List.set_cons_succ]
    refine wpAnyH_take (i := 11) (v := ?v11) (by simp; rfl) (by kernel_rfl) (by kernel_rfl) (by kernel_rfl) (fun _ _ _ h => h) (Or.inl ⟨by rfl, ?y11⟩) hHeld ?r11
    case y11 => intro w hSw; clear hSw; go_simp; with_reducible rfl
    simp only [Act.put, List.setIfInBounds_toArray, List.set_cons_zero, List.set_cons_succ]
    refine wpAnyH_take (i := 12) (v := ?v12) (by simp; rfl) (by kernel_rfl) (by kernel_rfl) (by kernel_rfl) (fun _ _ _ h => h) (Or.inl ⟨by rfl, ?y12⟩) hHeld ?r12
    case y12 => intro w hSw; clear hSw; go_simp; with_reducible rfl
    simp only [Act.put, List.setIfInBounds_toArray, List.set_cons_zero, List.set_cons_succ]
    refine wpAnyH_take (i := 13) (v := ?v13) (by simp; rfl) (by kernel_rfl) (by kernel_rfl) (by kernel_rfl) (fun _ _ _ h => h) (Or.inl ⟨by rfl, ?y13⟩) hHeld ?r13
    case y13 => intro w hSw; clear hSw; go_simp; with_reducible rfl
    simp only [Act.put, List.setIfInBounds_toArray, List.set_cons_zero, List.set_cons_succ]
    refine wpAnyH_take (i := 14) (v := ?v14) (by simp; rfl) (by kernel_rfl) (by kernel_rfl) (by kernel_rfl) (fun _ _ _ h => h) (Or.inl ⟨by rfl, ?y14⟩) hHeld ?r14
    case y14 => intro w hSw; have z := hSw.cell 11 (by omega); rw [HE4.out] at z; clear hSw; go_simp; with_reducible rfl
    simp only [Act.put, List.setIfInBounds_toArray, List.set_cons_zero, List.set_cons_succ]
    refine wpAnyH_take (i := 15) (v := ?v15) (by simp; rfl) (by kernel_rfl) (by kernel_rfl) (by kernel_rfl) (fun _ _ _ h => h) (Or.inl ⟨by rfl, ?y15⟩) hHeld ?r15
    case y15 => intro w hSw; clear hSw; go_simp; with_reducible rfl
    simp only [Act.put, List.setIfInBounds_toArray, List.set_cons_zero, List.set_cons_succ]
    refine wpAnyH_take (i := 16) (v := ?v16) (by simp; rfl) (by kernel_rfl) (by kernel_rfl) (by kernel_rfl) (fun _ _ _ h => h) (Or.inl ⟨by rfl, ?y16⟩) hHeld ?r16
    case y16 => intro w hSw; clear hSw; go_simp; with_reducible rfl
    simp only [Act.put, List.setIfInBounds_toArray, List.set_cons_zero, List.set_cons_succ]
    refine wpAnyH_take (i := 17) (v := ?v17) (by simp; rfl) (by kernel_rfl) (by kernel_rfl) (by kernel_rfl) (fun _ _ _ h => h) (Or.inl ⟨by rfl, ?y17⟩) hHeld ?r17
    case y17 => intro w hSw; clear hSw; go_simp; with_reducible rfl
    simp only [Act.put, List.setIfInBounds_toArray, List.set_cons_zero, List.set_cons_succ]
    refine wpAnyH_take (i := 18) (v := ?v18) (by simp; rfl) (by kernel_rfl) (by kernel_rfl) (by kernel_rfl) (fun _ _ _ h => h) (Or.inl ⟨by rfl, ?y18⟩) hHeld ?r18
    case y18 => intro w hSw; have z := hSw.cell 12 (by omega); rw [HE5.out] at z; clear hSw; go_simp; with_reducible rfl
    simp only [Act.put, List.setIfInBounds_toArray, List.set_cons_zero, List.set_cons_succ]
    refine wpAnyH_take (i := 19) (v := ?v19) (by simp; rfl) (by kernel_rfl) (by kernel_rfl) (by kernel_rfl) (fun _ _ _ h => h) (Or.inl ⟨by rfl, ?y19⟩) hHeld ?r19
    case y19 => intro w hSw; clear hSw; go_simp; with_reducible rfl
    simp only [Act.put, List.setIfInBounds_toArray, List.set_cons_zero, List.set_cons_succ]
    refine wpAnyH_take (i := 20) (v := _) (by simp; rfl) (by kernel_rfl) (by kernel_rfl) (by kernel_rfl) (fun _ _ _ h => h) (yields_build_is (vs := [(0, .int .i64 r.bl), (1, .int .i64 r.lc), (2, .int .i64 r.mr), (3, .int .i64 r.hi), (4, .int .i64 r.cl)]) (by rfl) 23 rfl (by rfl) (fun w => build23 w _ r (fill_cfgs r))) hHeld ?_
    simp only [Act.put, List.setIfInBounds_toArray, List.set_cons_zero, List.set_cons_succ]
    refine wpAnyH_take (i := 21) (v := ?v21) (by simp; rfl) (by kernel_rfl) (by kernel_rfl) (by kernel_rfl) (fun _ _ _ h => h) (Or.inl ⟨by rfl, ?y21⟩) hHeld ?r21
    case y21 => intro w hSw; clear hSw; go_simp; with_reducible rfl
    simp only [Act.put, List.setIfInBounds_toArray, List.set_cons_zero, List.set_cons_succ]
    refine wpAnyH_take (i := 22) (v := ?v22) (by simp; rfl) (by kernel_rfl) (by kernel_rfl) (by kernel_rfl) (fun _ _ _ h => h) (Or.inl ⟨by rfl, ?y22⟩) hHeld ?r22
    case y22 => intro w hSw; clear hSw; go_simp; with_reducible rfl
    simp only [Act.put, List.setIfInBounds_toArray, List.set_cons_zero, List.set_cons_succ]
    refine wpAnyH_take (i := 24) (v := ?v24) (by simp; rfl) (by kernel_rfl) (by kernel_rfl) (by kernel_rfl) (fun _ _ _ h => h) (Or.inl ⟨by rfl, ?y24⟩) hHeld ?r24
    case y24 => intro w hSw; clear hSw; go_simp; with_reducible rfl
    simp only [Act.put, List.setIfInBounds_toArray, List.set_cons_zero, List.set_cons_succ]
    refine wpAnyH_take (i := 25) (v := ?v25) (by simp; rfl) (by kernel_rfl) (by kernel_rfl) (by kernel_rfl) (fun _ _ _ h => h) (Or.inl ⟨by rfl, ?y25⟩) hHeld ?r25
    case y25 => intro w hSw; clear hSw; go_simp; with_reducible rfl
    simp only [Act.put, List.setIfInBounds_toArray, List.set_cons_zero, List.set_cons_succ]
    have B1d : Hid (Below w1.heap.size w1 w1.drew) := ⟨rfl, rfl, rfl, Nat.le_refl _, fun _ _ => rfl⟩
    have S1d : Hid (BIn w1.drew (some ⟨b, o, none⟩) 64 xs) := hHeld
    generalize w1.drew = wd at *
    have SAL : Hid (BIn (wd.alloc (.cells (scells sup0).toArray 26)) (some ⟨b, o, none⟩) 64 xs) := S1d.out.later (below_alloc wd _)
    have SST : Hid (BIn (wd.alloc (.cells (scells r).toArray 26)) (some ⟨b, o, none⟩) 64 xs) := S1d.out.later (below_alloc wd _)
    refine wpAnyH_ready (rs := [23, 28]) (by kernel_rfl) (by simp) ?_
    refine AllReadyH.cons (by simp; rfl) (fun Kc hKc => ?_) (AllReadyH.cons (by simp; rfl) (fun Kc hKc => ?_) AllReadyH.nil)
    · go_simp
      refine (EI1.out _ S1d.out).mono ?_
      rintro e w' ⟨rfl, rfl⟩
      refine hKc.out _ _ S1d.out (fun hHeld => ?_)
      clear hKc Kc
      refine wpAnyH_ready (rs := [26, 28]) (by kernel_rfl) (by simp) ?_
      refine AllReadyH.cons (by simp; rfl) (fun Kc hKc => ?_) (AllReadyH.cons (by simp; rfl) (fun Kc hKc => ?_) AllReadyH.nil)
      · go_simp
        refine (EI2.out _ S1d.out).mono ?_
        rintro e w' ⟨rfl, rfl⟩
        refine hKc.out _ _ S1d.out (fun hHeld => ?_)
        clear hKc Kc
        refine wpAnyH_take (i := 27) (v := _) (by simp; rfl) (by kernel_rfl) (by kernel_rfl) (by kernel_rfl) (fun _ _ _ h => h) (yields_build_is (vs := [(0, .agg (ccells r).toArray), (1, .int .u64 r.tail), (2, .int .u64 r.life)]) (by rfl) 26 rfl (by rfl) (fun w => build26 w _ r (fill_all r))) hHeld ?_
        simp only [Act.put, List.setIfInBounds_toArray, List.set_cons_zero, List.set_cons_succ]
        refine wpAnyH_ready (rs := [28]) (by kernel_rfl) (by simp) ?_
        refine AllReadyH.cons (by simp; rfl) (fun Kc hKc => ?_) AllReadyH.nil
        rw [if_pos (by rfl)]
        refine wp_alloc_is 26 rfl (alloc26 wd) ?_
        simp only [Act.put, List.setIfInBounds_toArray, List.set_cons_zero, List.set_cons_succ]
        refine hKc.out _ _ SAL.out (fun hHeld => ?_)
        clear hKc Kc
        refine wpAnyH_ready (rs := [29]) (by kernel_rfl) (by simp) ?_
        refine AllReadyH.cons (by simp; rfl) (fun Kc hKc => ?_) AllReadyH.nil
        rw [if_pos (by rfl)]
        refine wp_store_is 26 rfl rfl rfl (store_new26 wd r) ?_
        simp only [Act.put]
        refine hKc.out _ _ SST.out (fun hHeld => ?_)
        clear hKc Kc
        refine wpAnyH_done (by kernel_rfl) (NoPanic.normal ?_) _
        exact ⟨wd.heap.size, rfl, ⟨LAt.new 26 wd _, below_then B1d.out (below_alloc wd _)⟩, rfl⟩
      · rw [if_pos (by rfl)]
        refine wp_alloc_is 26 rfl (alloc26 wd) ?_
        simp only [Act.put, List.setIfInBounds_toArray, List.set_cons_zero, List.set_cons_succ]
        refine hKc.out _ _ SAL.out (fun hHeld => ?_)
        clear hKc Kc
        refine wpAnyH_ready (rs := [26]) (by kernel_rfl) (by simp) ?_
        refine AllReadyH.cons (by simp; rfl) (fun Kc hKc => ?_) AllReadyH.nil
        go_simp
        refine (EI2.out _ SAL.out).mono ?_
        rintro e w' ⟨rfl, rfl⟩
        refine hKc.out _ _ SAL.out (fun hHeld => ?_)
        clear hKc Kc
        refine wpAnyH_take (i := 27) (v := _) (by simp; rfl) (by kernel_rfl) (by kernel_rfl) (by kernel_rfl) (fun _ _ _ h => h) (yields_build_is (vs := [(0, .agg (ccells r).toArray), (1, .int .u64 r.tail), (2, .int .u64 r.life)]) (by rfl) 26 rfl (by rfl) (fun w => build26 w _ r (fill_all r))) hHeld ?_
        simp only [Act.put, List.setIfInBounds_toArray, List.set_cons_zero, List.set_cons_succ]
        refine wpAnyH_ready (rs := [29]) (by kernel_rfl) (by simp) ?_
        refine AllReadyH.cons (by simp; rfl) (fun Kc hKc => ?_) AllReadyH.nil
        rw [if_pos (by rfl)]
        refine wp_store_is 26 rfl rfl rfl (store_new26 wd r) ?_
        simp only [Act.put]
        refine hKc.out _ _ SST.out (fun hHeld => ?_)
        clear hKc Kc
        refine wpAnyH_done (by kernel_rfl) (NoPanic.normal ?_) _
        exact ⟨wd.heap.size, rfl, ⟨LAt.new 26 wd _, below_then B1d.out (below_alloc wd _)⟩, rfl⟩
    · rw [if_pos (by rfl)]
      refine wp_alloc_is 26 rfl (alloc26 wd) ?_
      simp only [Act.put, List.setIfInBounds_toArray, List.set_cons_zero, List.set_cons_succ]
      refine hKc.out _ _ SAL.out (fun hHeld => ?_)
      clear hKc Kc
      refine wpAnyH_ready (rs := [23]) (by kernel_rfl) (by simp) ?_
      refine AllReadyH.cons (by simp; rfl) (fun Kc hKc => ?_) AllReadyH.nil
      go_simp
      refine (EI1.out _ SAL.out).mono ?_
      rintro e w' ⟨rfl, rfl⟩
      refine hKc.out _ _ SAL.out (fun hHeld => ?_)
      clear hKc Kc
      refine wpAnyH_ready (rs := [26]) (by kernel_rfl) (by simp) ?_
      refine AllReadyH.cons (by simp; rfl) (fun Kc hKc => ?_) AllReadyH.nil
      go_simp
      refine (EI2.out _ SAL.out).mono ?_
      rintro e w' ⟨rfl, rfl⟩
      refine hKc.out _ _ SAL.out (fun hHeld => ?_)
      clear hKc Kc
      refine wpAnyH_take (i := 27) (v := _) (by simp; rfl) (by kernel_rfl) (by kernel_rfl) (by kernel_rfl) (fun _ _ _ h => h) (yields_build_is (vs := [(0, .agg (ccells r).toArray), (1, .int .u64 r.tail), (2, .int .u64 r.life)]) (by rfl) 26 rfl (by rfl) (fun w => build26 w _ r (fill_all r))) hHeld ?_
      simp only [Act.put, List.setIfInBounds_toArray, List.set_cons_zero, List.set_cons_succ]
      refine wpAnyH_ready (rs := [29]) (by kernel_rfl) (by simp) ?_
      refine AllReadyH.cons (by simp; rfl) (fun Kc hKc => ?_) AllReadyH.nil
      rw [if_pos (by rfl)]
      refine wp_store_is 26 rfl rfl rfl (store_new26 wd r) ?_
      simp only [Act.put]
      refine hKc.out _ _ SST.out (fun hHeld => ?_)
      clear hKc Kc
      refine wpAnyH_done (by kernel_rfl) (NoPanic.normal ?_) _
      exact ⟨wd.heap.size, rfl, ⟨LAt.new 26 wd _, below_then B1d.out (below_alloc wd _)⟩, rfl⟩
  case rest =>
    rintro e a w2 ⟨g4, rfl, HF, rfl⟩
    have R2 : Hid (SAt 26 w2 g4 r) := HF.out.1
    have B2 : Hid (Below w.heap.size w w2) := below_then B1.out HF.out.2
    have Z2 : Hid (SAt 26 w2 w.heap.size sup0) := LAt.later R1.out HF.out.2
    have X2 : Hid (BIn w2 (some ⟨b, o, none⟩) 64 xs) := X1.out.later HF.out.2
    have L2 : Hid (_) := SAt.load26 R2.out
    clear HF EI1 EI2 HE1 HE2 HE3 HE4 HE5 HE6 HE7 q1 q2 q3 q4 q5 n1 n2 n3 n4 X1 R1 B1
    go_wp2_with ((with_reducible refine at_ops ?_); (refine wpList_load_is (by rfl) 26 rfl rfl L2.out ?_); simp only [Act.put, List.setIfInBounds_toArray, List.set_cons_zero, List.set_cons_succ])
    refine (refEncode_any r HW.out w2).mono ?_
    rintro e w3 ⟨p3, n3, c3, rfl, hn3, m3⟩
    have R3 : Hid (SAt 26 w3 g4 r) := LAt.later R2.out m3.below
    have Z3 : Hid (SAt 26 w3 w.heap.size sup0) := LAt.later Z2.out m3.below
    have B3 : Hid (Below w.heap.size w w3) := below_then B2.out m3.below
    have X3 : Hid (BIn w3 (some ⟨b, o, none⟩) 64 xs) := X2.out.later m3.below
    have E3 : Hid (BIn w3 p3 n3 (encT r)) := m3.read
    have L3 : Hid (_) := SAt.load26 R3.out
    have ST : Hid (_) := LAt.store (ds := scells r) Z3.out size26 rfl (scells_all r)
    have SZ : Hid (_) := LAt.store (ds := scells sup0) Z3.out size26 rfl (scells_all sup0)
    have F1 : Hid (SAt 26 (w3.setRow w.heap.size (scells r).toArray) w.heap.size r ∧ Below w.heap.size w (w3.setRow w.heap.size (scells r).toArray)) := ⟨LAt.stored Z3.out _, below_setRow B3.out (Nat.le_refl _) _⟩
    have F0 : Hid (SAt 26 (w3.setRow w.heap.size (scells sup0).toArray) w.heap.size sup0 ∧ Below w.heap.size w (w3.setRow w.heap.size (scells sup0).toArray)) := ⟨LAt.stored Z3.out _, below_setRow B3.out (Nat.le_refl _) _⟩
    have HSE : Hid (_) := str_eq (encT r) xs E3.out.byte X3.out.byte
    have z1 := E3.out.str c3
    have z2 := X3.out.str c
    clear m3 hn3 R2 B2 Z2 X2 L2
    by_cases hm : May r
    · rw [chk_yes r hm]
      by_cases he : encS r = xs
      · have hq : ((strOfNums (encT r)).toList == (strOfNums xs).toList) = true := by rw [HSE.out, encT_yes r hm, he]; simp
        have HD : Hid (decS xs = (r, 0)) := by
          show _ = _
          rw [decS_ok xs HL.out (by unfold Good; rw [← HRR.out]; exact ⟨hm, he⟩), HRR.out]
        have hq2 : ((strOfNums (encT r)).toList != (strOfNums xs).toList) = false := by rw [bne, hq]; rfl
        clear he hm
        go_wp2_with ((with_reducible refine at_ops ?_); (first | (refine wpList_store_is (by rfl) 26 rfl rfl rfl ST.out ?_) | (refine wpList_load_is (by rfl) 26 rfl rfl L3.out ?_)); simp only [Act.put, List.setIfInBounds_toArray, List.set_cons_zero, List.set_cons_succ])
        rw [HD.out]
        exact bodyPost_ret (results_sup Tryd.results19 _ _ w.heap.size 26 _ _ (by rfl) F1.out.1 Tryd.underlying26 rfl size26) rfl ⟨rfl, F1.out.2⟩
      · have hq : ((strOfNums (encT r)).toList == (strOfNums xs).toList) = false := by rw [HSE.out, encT_yes r hm]; simp [he]
        have HD : Hid (decS xs = (sup0, 70)) := decS_bad xs HL.out (by unfold Good; rw [← HRR.out]; exact fun h => he h.2)
        have hq2 : ((strOfNums (encT r)).toList != (strOfNums xs).toList) = true := by rw [bne, hq]; rfl
        clear he hm
        go_wp2_with ((with_reducible refine at_ops ?_); (first | (refine wpList_store_is (by rfl) 26 rfl rfl rfl SZ.out ?_) | (refine wpList_build_is (vs := []) (by rfl) 26 rfl (by rfl) (build26 _ #[] sup0 fill_none) ?_)); simp only [Act.put, List.setIfInBounds_toArray, List.set_cons_zero, List.set_cons_succ])
        rw [HD.out]
        exact bodyPost_ret (results_sup Tryd.results19 _ _ w.heap.size 26 _ _ (by rfl) F0.out.1 Tryd.underlying26 rfl size26) rfl ⟨rfl, F0.out.2⟩
    · have hc0 : chk r ≠ 0 := fun h => hm ((chk_zero r).1 h)
      generalize chk r = q at *
      have HD : Hid (decS xs = (sup0, 70)) := decS_bad xs HL.out (by unfold Good; rw [← HRR.out]; exact fun h => hm h.1)
      clear hm
      go_wp2_with ((with_reducible refine at_ops ?_); (first | (refine wpList_store_is (by rfl) 26 rfl rfl rfl SZ.out ?_) | (refine wpList_build_is (vs := []) (by rfl) 26 rfl (by rfl) (build26 _ #[] sup0 fill_none) ?_)); simp only [Act.put, List.setIfInBounds_toArray, List.set_cons_zero, List.set_cons_succ])
      rw [HD.out]
      exact bodyPost_ret (results_sup Tryd.results19 _ _ w.heap.size 26 _ _ (by rfl) F0.out.1 Tryd.underlying26 rfl size26) rfl ⟨rfl, F0.out.2⟩

/-- the document's Decode, of whatever bytes: its answers -/
theorem refDecode_any (p : Option Addr) (n c : Nat) (xs : List Int) (w : World) (hx : BIn w p n xs) (hc : n ≤ c) :
    Calls Tryd.prog 19 #[.slice p n c] w fun e w' => e = .returned (.tuple #[.agg (scells (decS xs).1).toArray, .int .i64 (decS xs).2]) ∧ Below w.heap.size w w' := by
  by_cases h : n = 64
  · subst h
    obtain ⟨b, o, rfl, -⟩ := hx.cells (by omega)
    exact refDecode_64 b o c xs w hx hc
  · rw [decS_len xs (by rw [hx.len]; exact h)]
    exact refDecode_len p n c w h
end Go.Proofs.YtcfofoddfhbkcaaDoor
