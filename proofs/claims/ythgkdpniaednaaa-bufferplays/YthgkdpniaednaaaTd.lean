/-
  Layer 16: a step: no call, Told, Read.
-/
import Derived.Test.YthgkdpniaednaaaTc
import Derived.Test.YthgkdpniaednaaaQc
namespace Go.Proofs.Ythgkdpniaednaaa
open Go.RowKit

open B (I64)
namespace W
/-- a step as it lies -/
def ocells (kd wh b : Int) (v : List Int) : List Value := .int .i64 kd :: .int .i64 wh :: .int .i64 b :: U8 v
def sl2 (x : Int) : Nat := ((x.tmod 2 + 2) % 2).toNat
theorem sl2_is (x : Int) : (x.tmod 2 + 2) % 2 = ((sl2 x : Nat) : Int) := by unfold sl2; omega
theorem sl2_lt (x : Int) : sl2 x < 2 := by unfold sl2; omega
theorem tmod2 (x : Int) : -2 < x.tmod 2 ∧ x.tmod 2 < 2 := ⟨by have := Int.lt_tmod_of_pos x (show (0 : Int) < 2 by decide); omega, Int.tmod_lt_of_pos x (by decide)⟩
/-- a new variable that holds the value -/
theorem wpList_box_is {P : Program} {ops : Array Oper} {rest : List Oper} {o : Oper} {a : Act} {w w1 : World} {Q : Exit → Act → World → Prop} (hg : o.guard = none) (t : TypeId) {x : Operand} (ho : o.op = .box t x) (cells : Array Value) (hx : (a.eval x).cells = cells) (hw : w.alloc (.cells cells t) = w1)
    (h : wpList P ops Q rest (a.put o.dst (.pointer (some ⟨w.heap.size, 0, none⟩))) w1) : wpList P ops Q (o :: rest) a w := by
  subst hx hw
  refine wpList_plain hg fun K hK => ?_
  unfold Oper.wp execOp
  simp only [ho, Sem.run_bind, Instr.box, newVar, newRow, run_newObj_alloc, Sem.run_pure, Result.andThen_ok]
  exact hK _ _ h
theorem lat_kept {w w' : World} {S : Nat → Prop} {t : TypeId} {B : Nat} {xs : List Value} (h : LAt t w B xs) (hk : Kept S w w') (hf : ∀ b, b = B → ¬ S b) : LAt t w' B xs := (hk.block B (LAt.lt h) (hf B rfl)).trans h
def Th.lat (t : TypeId) (B : Nat) (xs : List Value) : Th := ⟨fun w _ => LAt t w B xs, fun b => b = B, undef, fun _ _ _ h hb => by rw [hb]; exact LAt.lt h, fun _ _ _ _ _ h hk hf _ _ => lat_kept h hk hf⟩
theorem PS.lat {w0 w : World} {P k B : Nat} {cs : Array Value} {T : Nat → Th} {G : Nat → Prop} {t : TypeId} {xs : List Value} (h : PS w0 w P cs T G) (hk : k < 15) (e : T k = .lat t B xs) : LAt t w B xs := by
  have := h.fam.at' k hk
  rw [e] at this
  exact this
theorem Sh.loose {T : Nat → Th} {F : Nat → List Int} {D : Nat → List Im} {fl : Bool} {N a k : Nat} {u : Th} (h : Sh T F D fl N a) (hk : 7 ≤ k) : Sh (put T k u) F D fl N a := by
  have e : ∀ i, i < 7 → put T k u i = T i := fun i hi => put_other _ _ (by omega)
  refine ⟨fun i hi => ?_, fun i hi => ?_, h.is, h.wf, ?_, ?_⟩
  · rw [e i (by omega)]; exact h.buf i hi
  · rw [e (i + 2) (by omega)]; exact h.ref i hi
  · rw [e 4 (by omega), e 5 (by omega)]; exact h.im
  · rw [e 6 (by omega)]; exact h.fo
theorem pcs_loose {T : Nat → Th} {k : Nat} {u : Th} (hk : 7 ≤ k) : pcs (put T k u) = pcs T := by
  have e : ∀ i, i < 7 → put T k u i = T i := fun i hi => put_other _ _ (by omega)
  simp only [pcs, e 0 (by omega), e 1 (by omega), e 2 (by omega), e 3 (by omega), e 4 (by omega), e 5 (by omega), e 6 (by omega)]
theorem St.mono {w0 w : World} {P N N' a a' : Nat} {F : Nat → List Int} {D : Nat → List Im} {fl : Bool} (h : St w0 w P F D fl N a) (h1 : N ≤ N') (h2 : a ≤ a') : St w0 w P F D fl N' a' := by
  obtain ⟨T, G, h, hs⟩ := h
  refine ⟨T, G, h, hs.buf, hs.ref, hs.is, fun j hj => ⟨(hs.wf j hj).1, by have := (hs.wf j hj).2; omega⟩, ?_, ?_⟩
  · obtain ⟨v4, us4, v5, us5, ls, e1, e2, e3, e4⟩ := hs.im
    exact ⟨v4, us4, v5, us5, ls, e1, e2, by omega, e4⟩
  · obtain ⟨v6, us6, fs, e1, e2, e3⟩ := hs.fo
    exact ⟨v6, us6, fs, e1, by omega, e3⟩
section
variable {w0 w : World} {P N a : Nat} {F : Nat → List Int} {D : Nat → List Im} {fl : Bool}
set_option maxHeartbeats 2000000 in
set_option maxRecDepth 100000 in
theorem plays_none (h : St w0 w P F D fl N a) (_hN : N ≤ 8000) (_ha : a ≤ 8000) (kd wh b : Int) (v : List Int) (_hv : Im.Wf ⟨b, v⟩) (h1 : kd ≠ 1) (h2 : kd ≠ 2) (h3 : kd ≠ 3) (h4 : kd ≠ 4) : Calls Try.prog 19 #[.pointer (some ⟨P, 0, none⟩), .agg (ocells kd wh b v).toArray] w fun e w' => e = .returned (.bool true) ∧ ∃ F' D', St w0 w' P F' D' fl (N + 1) (a + 2) := by
  have b1 : (kd == 1) = false := by rw [beq_eq_false_iff_ne]; exact h1
  have b2 : (kd == 2) = false := by rw [beq_eq_false_iff_ne]; exact h2
  have b3 : (kd == 3) = false := by rw [beq_eq_false_iff_ne]; exact h3
  have b4 : (kd == 4) = false := by rw [beq_eq_false_iff_ne]; exact h4
  clear h1 h2 h3 h4
  obtain ⟨w1, hw1⟩ : ∃ w1, w1 = w.alloc (.cells (ocells kd wh b v).toArray 58) := ⟨_, rfl⟩
  have B1 : Below w.heap.size w w1 := by rw [hw1]; exact below_alloc w _
  have HO1 : Hid (LAt 58 w1 w.heap.size (ocells kd wh b v)) := by rw [hw1]; exact LAt.new _ _ _
  have hw1' := hw1.symm
  have t2 := tmod2 wh
  have s2 := sl2_is wh
  have l2 := sl2_lt wh
  have k0 : w1.cell? ⟨w.heap.size, 0, none⟩ = some (.int .i64 kd) := by rw [LAt.cell HO1.out]; rfl
  have k1 : w1.cell? ⟨w.heap.size, 1, none⟩ = some (.int .i64 wh) := by rw [LAt.cell HO1.out]; rfl
  obtain ⟨T, G, Q, pf, cf, vi, R, ps, cs, vw, hp, hs, eb, er, -, -, hC⟩ := h.two l2
  have HEB : Hid (T (sl2 wh) = .buf Q pf cf (F (sl2 wh)) vi (ims (F (sl2 wh)) (D (sl2 wh)))) := eb
  have HER : Hid (T (sl2 wh + 2) = .ref R ps cs (F (sl2 wh)) vw (D (sl2 wh))) := er
  have HSH : Hid (Sh T F D fl N a) := hs
  have HPB : Hid (PS w0 w1 P (pcs T) (put T 14 (.lat 58 w.heap.size (ocells kd wh b v))) G) := hp.fresh B1 14 HO1.out (fun b hb => by rw [show b = w.heap.size from hb]; exact Nat.le_refl _)
  have HC : Hid (∀ W, Below w1.heap.size w1 W → W.cell? ⟨P, sl2 wh, none⟩ = some (.pointer (some ⟨Q, 0, none⟩)) ∧ W.cell? ⟨P, 2 + sl2 wh, none⟩ = some (.pointer (some ⟨R, 0, none⟩))) := fun W hW => hC W (below_then B1 hW)
  clear hw1 h B1 hp hs eb er hC
  go_enter Try.func19, Try.ntmps19
  go_wp2_with ((with_reducible refine at_ops ?_); (refine wpList_box_is (by rfl) 58 rfl _ rfl hw1' ?_); simp only [Act.put, List.setIfInBounds_toArray, List.set_cons_zero, List.set_cons_succ])
  rw [s2]
  clear hw1' k1 s2 t2
  generalize sl2 wh = j at *
  generalize w.heap.size = bo at *
  have j0 : (0 : Int) ≤ (j : Int) := by omega
  have j1 : (j : Int) < 2 := by omega
  refine wp_region_noPanic ?_
  refine wp_region_held_drew (S := fun W => Below w1.heap.size w1 W) (by kernel_rfl) (below_drawn 1) (fun hHeld => ?_)
  have HBD : Hid (Below w1.heap.size w1 w1.drew) := hHeld
  have k0 : w1.drew.cell? ⟨bo, 0, none⟩ = some (.int .i64 kd) := by rw [LAt.cell (LAt.later HO1.out HBD.out)]; rfl
  have k2 : w1.drew.cell? ⟨bo, 2, none⟩ = some (.int .i64 b) := by rw [LAt.cell (LAt.later HO1.out HBD.out)]; rfl
  have HPD : Hid (PS w0 w1.drew P (pcs T) (put T 14 (.lat 58 bo (ocells kd wh b v))) G) := HPB.out.later HBD.out
  have HSD : Hid (St w0 w1.drew P F D fl N a) := ⟨_, G, by rw [pcs_loose (T := T) (k := 14) (by decide)]; exact HPD.out, HSH.out.loose (by decide)⟩
  clear HPB
  generalize w1.drew = wD at *
  refine wpAnyH_take (i := 0) (v := ?va1) (by simp; rfl) (by kernel_rfl) (by kernel_rfl) (by kernel_rfl) (fun _ _ _ h => h) (Or.inl ⟨by rfl, ?ya1⟩) hHeld ?ra1
  case ya1 => intro w hSw; clear hSw; go_simp; with_reducible rfl
  simp only [Act.put, List.setIfInBounds_toArray, List.set_cons_zero, List.set_cons_succ]
  refine wpAnyH_take (i := 1) (v := ?va2) (by simp; rfl) (by kernel_rfl) (by kernel_rfl) (by kernel_rfl) (fun _ _ _ h => h) (Or.inl ⟨by rfl, ?ya2⟩) hHeld ?ra2
  case ya2 => intro w hSw; clear hSw; go_simp; with_reducible rfl
  simp only [Act.put, List.setIfInBounds_toArray, List.set_cons_zero, List.set_cons_succ]
  refine wpAnyH_take (i := 2) (v := ?va3) (by simp; rfl) (by kernel_rfl) (by kernel_rfl) (by kernel_rfl) (fun _ _ _ h => h) (Or.inl ⟨by rfl, ?ya3⟩) hHeld ?ra3
  case ya3 => intro w hSw; clear hSw; go_simp; with_reducible rfl
  simp only [Act.put, List.setIfInBounds_toArray, List.set_cons_zero, List.set_cons_succ]
  refine wpAnyH_take (i := 3) (v := ?va4) (by simp; rfl) (by kernel_rfl) (by kernel_rfl) (by kernel_rfl) (fun _ _ _ h => h) (Or.inl ⟨by rfl, ?ya4⟩) hHeld ?ra4
  case ya4 => intro w hSw; clear hSw; go_simp; with_reducible rfl
  simp only [Act.put, List.setIfInBounds_toArray, List.set_cons_zero, List.set_cons_succ]
  refine wpAnyH_take (i := 4) (v := ?va5) (by simp; rfl) (by kernel_rfl) (by kernel_rfl) (by kernel_rfl) (fun _ _ _ h => h) (Or.inl ⟨by rfl, ?ya5⟩) hHeld ?ra5
  case ya5 => intro w hSw; clear hSw; go_simp; with_reducible rfl
  simp only [Act.put, List.setIfInBounds_toArray, List.set_cons_zero, List.set_cons_succ]
  refine wpAnyH_take (i := 5) (v := ?va6) (by simp; rfl) (by kernel_rfl) (by kernel_rfl) (by kernel_rfl) (fun _ _ _ h => h) (Or.inl ⟨by rfl, ?ya6⟩) hHeld ?ra6
  case ya6 => intro w hSw; obtain ⟨z0, z2⟩ := HC.out w hSw; clear hSw; go_simp; with_reducible rfl
  simp only [Act.put, List.setIfInBounds_toArray, List.set_cons_zero, List.set_cons_succ]
  refine wpAnyH_take (i := 6) (v := ?va7) (by simp; rfl) (by kernel_rfl) (by kernel_rfl) (by kernel_rfl) (fun _ _ _ h => h) (Or.inl ⟨by rfl, ?ya7⟩) hHeld ?ra7
  case ya7 => intro w hSw; clear hSw; go_simp; with_reducible rfl
  simp only [Act.put, List.setIfInBounds_toArray, List.set_cons_zero, List.set_cons_succ]
  refine wpAnyH_take (i := 7) (v := ?va8) (by simp; rfl) (by kernel_rfl) (by kernel_rfl) (by kernel_rfl) (fun _ _ _ h => h) (Or.inl ⟨by rfl, ?ya8⟩) hHeld ?ra8
  case ya8 => intro w hSw; clear hSw; go_simp; with_reducible rfl
  simp only [Act.put, List.setIfInBounds_toArray, List.set_cons_zero, List.set_cons_succ]
  refine wpAnyH_take (i := 8) (v := ?va9) (by simp; rfl) (by kernel_rfl) (by kernel_rfl) (by kernel_rfl) (fun _ _ _ h => h) (Or.inl ⟨by rfl, ?ya9⟩) hHeld ?ra9
  case ya9 => intro w hSw; clear hSw; go_simp; with_reducible rfl
  simp only [Act.put, List.setIfInBounds_toArray, List.set_cons_zero, List.set_cons_succ]
  refine wpAnyH_take (i := 9) (v := ?va10) (by simp; rfl) (by kernel_rfl) (by kernel_rfl) (by kernel_rfl) (fun _ _ _ h => h) (Or.inl ⟨by rfl, ?ya10⟩) hHeld ?ra10
  case ya10 => intro w hSw; clear hSw; go_simp; with_reducible rfl
  simp only [Act.put, List.setIfInBounds_toArray, List.set_cons_zero, List.set_cons_succ]
  refine wpAnyH_take (i := 10) (v := ?va11) (by simp; rfl) (by kernel_rfl) (by kernel_rfl) (by kernel_rfl) (fun _ _ _ h => h) (Or.inl ⟨by rfl, ?ya11⟩) hHeld ?ra11
  case ya11 => intro w hSw; clear hSw; go_simp; with_reducible rfl
  simp only [Act.put, List.setIfInBounds_toArray, List.set_cons_zero, List.set_cons_succ]
  refine wpAnyH_take (i := 11) (v := ?va12) (by simp; rfl) (by kernel_rfl) (by kernel_rfl) (by kernel_rfl) (fun _ _ _ h => h) (Or.inl ⟨by rfl, ?ya12⟩) hHeld ?ra12
  case ya12 => intro w hSw; obtain ⟨z0, z2⟩ := HC.out w hSw; clear hSw; go_simp; with_reducible rfl
  simp only [Act.put, List.setIfInBounds_toArray, List.set_cons_zero, List.set_cons_succ]
  refine wpAnyH_take (i := 12) (v := ?va13) (by simp; rfl) (by kernel_rfl) (by kernel_rfl) (by kernel_rfl) (fun _ _ _ h => h) (Or.inl ⟨by rfl, ?ya13⟩) hHeld ?ra13
  case ya13 => intro w hSw; clear hSw; go_simp; with_reducible rfl
  simp only [Act.put, List.setIfInBounds_toArray, List.set_cons_zero, List.set_cons_succ]
  refine wpAnyH_take (i := 13) (v := ?va14) (by simp; rfl) (by kernel_rfl) (by kernel_rfl) (by kernel_rfl) (fun _ _ _ h => h) (Or.inl ⟨by rfl, ?ya14⟩) hHeld ?ra14
  case ya14 => intro w hSw; clear hSw; go_simp; with_reducible rfl
  simp only [Act.put, List.setIfInBounds_toArray, List.set_cons_zero, List.set_cons_succ]
  refine wpAnyH_done (by kernel_rfl) (NoPanic.normal ?_) _
  clear hHeld
  go_wp2_with fail
  go_ret
  exact ⟨rfl, F, D, HSD.out.mono (by omega) (by omega)⟩
set_option maxHeartbeats 2000000 in
set_option maxRecDepth 100000 in
theorem plays_told (h : St w0 w P F D fl N a) (hN : N ≤ 8000) (ha : a ≤ 8000) (wh b : Int) (v : List Int) (_hv : Im.Wf ⟨b, v⟩) : Calls Try.prog 19 #[.pointer (some ⟨P, 0, none⟩), .agg (ocells 3 wh b v).toArray] w fun e w' => e = .returned (.bool true) ∧ ∃ F' D', St w0 w' P F' D' fl (N + 1) (a + 2) := by
  obtain ⟨w1, hw1⟩ : ∃ w1, w1 = w.alloc (.cells (ocells 3 wh b v).toArray 58) := ⟨_, rfl⟩
  have B1 : Below w.heap.size w w1 := by rw [hw1]; exact below_alloc w _
  have HO1 : Hid (LAt 58 w1 w.heap.size (ocells 3 wh b v)) := by rw [hw1]; exact LAt.new _ _ _
  have hw1' := hw1.symm
  have t2 := tmod2 wh
  have s2 := sl2_is wh
  have l2 := sl2_lt wh
  have k0 : w1.cell? ⟨w.heap.size, 0, none⟩ = some (.int .i64 3) := by rw [LAt.cell HO1.out]; rfl
  have k1 : w1.cell? ⟨w.heap.size, 1, none⟩ = some (.int .i64 wh) := by rw [LAt.cell HO1.out]; rfl
  obtain ⟨T, G, Q, pf, cf, vi, R, ps, cs, vw, hp, hs, eb, er, -, -, hC⟩ := h.two l2
  have HEB : Hid (T (sl2 wh) = .buf Q pf cf (F (sl2 wh)) vi (ims (F (sl2 wh)) (D (sl2 wh)))) := eb
  have HER : Hid (T (sl2 wh + 2) = .ref R ps cs (F (sl2 wh)) vw (D (sl2 wh))) := er
  have HSH : Hid (Sh T F D fl N a) := hs
  have HPB : Hid (PS w0 w1 P (pcs T) (put T 14 (.lat 58 w.heap.size (ocells 3 wh b v))) G) := hp.fresh B1 14 HO1.out (fun b hb => by rw [show b = w.heap.size from hb]; exact Nat.le_refl _)
  have HC : Hid (∀ W, Below w1.heap.size w1 W → W.cell? ⟨P, sl2 wh, none⟩ = some (.pointer (some ⟨Q, 0, none⟩)) ∧ W.cell? ⟨P, 2 + sl2 wh, none⟩ = some (.pointer (some ⟨R, 0, none⟩))) := fun W hW => hC W (below_then B1 hW)
  clear hw1 h B1 hp hs eb er hC
  go_enter Try.func19, Try.ntmps19
  go_wp2_with ((with_reducible refine at_ops ?_); (refine wpList_box_is (by rfl) 58 rfl _ rfl hw1' ?_); simp only [Act.put, List.setIfInBounds_toArray, List.set_cons_zero, List.set_cons_succ])
  rw [s2]
  clear hw1' k1 s2 t2
  generalize sl2 wh = j at *
  generalize w.heap.size = bo at *
  have j0 : (0 : Int) ≤ (j : Int) := by omega
  have j1 : (j : Int) < 2 := by omega
  refine wp_region_noPanic ?_
  refine wp_region_held_drew (S := fun W => Below w1.heap.size w1 W) (by kernel_rfl) (below_drawn 1) (fun hHeld => ?_)
  have HBD : Hid (Below w1.heap.size w1 w1.drew) := hHeld
  have k0 : w1.drew.cell? ⟨bo, 0, none⟩ = some (.int .i64 3) := by rw [LAt.cell (LAt.later HO1.out HBD.out)]; rfl
  have k2 : w1.drew.cell? ⟨bo, 2, none⟩ = some (.int .i64 b) := by rw [LAt.cell (LAt.later HO1.out HBD.out)]; rfl
  have HPD : Hid (PS w0 w1.drew P (pcs T) (put T 14 (.lat 58 bo (ocells 3 wh b v))) G) := HPB.out.later HBD.out
  have HSD : Hid (St w0 w1.drew P F D fl N a) := ⟨_, G, by rw [pcs_loose (T := T) (k := 14) (by decide)]; exact HPD.out, HSH.out.loose (by decide)⟩
  clear HPB
  generalize w1.drew = wD at *
  refine wpAnyH_take (i := 0) (v := ?va1) (by simp; rfl) (by kernel_rfl) (by kernel_rfl) (by kernel_rfl) (fun _ _ _ h => h) (Or.inl ⟨by rfl, ?ya1⟩) hHeld ?ra1
  case ya1 => intro w hSw; clear hSw; go_simp; with_reducible rfl
  simp only [Act.put, List.setIfInBounds_toArray, List.set_cons_zero, List.set_cons_succ]
  refine wpAnyH_take (i := 1) (v := ?va2) (by simp; rfl) (by kernel_rfl) (by kernel_rfl) (by kernel_rfl) (fun _ _ _ h => h) (Or.inl ⟨by rfl, ?ya2⟩) hHeld ?ra2
  case ya2 => intro w hSw; clear hSw; go_simp; with_reducible rfl
  simp only [Act.put, List.setIfInBounds_toArray, List.set_cons_zero, List.set_cons_succ]
  refine wpAnyH_take (i := 2) (v := ?va3) (by simp; rfl) (by kernel_rfl) (by kernel_rfl) (by kernel_rfl) (fun _ _ _ h => h) (Or.inl ⟨by rfl, ?ya3⟩) hHeld ?ra3
  case ya3 => intro w hSw; clear hSw; go_simp; with_reducible rfl
  simp only [Act.put, List.setIfInBounds_toArray, List.set_cons_zero, List.set_cons_succ]
  refine wpAnyH_take (i := 3) (v := ?va4) (by simp; rfl) (by kernel_rfl) (by kernel_rfl) (by kernel_rfl) (fun _ _ _ h => h) (Or.inl ⟨by rfl, ?ya4⟩) hHeld ?ra4
  case ya4 => intro w hSw; clear hSw; go_simp; with_reducible rfl
  simp only [Act.put, List.setIfInBounds_toArray, List.set_cons_zero, List.set_cons_succ]
  refine wpAnyH_take (i := 4) (v := ?va5) (by simp; rfl) (by kernel_rfl) (by kernel_rfl) (by kernel_rfl) (fun _ _ _ h => h) (Or.inl ⟨by rfl, ?ya5⟩) hHeld ?ra5
  case ya5 => intro w hSw; clear hSw; go_simp; with_reducible rfl
  simp only [Act.put, List.setIfInBounds_toArray, List.set_cons_zero, List.set_cons_succ]
  refine wpAnyH_take (i := 5) (v := ?va6) (by simp; rfl) (by kernel_rfl) (by kernel_rfl) (by kernel_rfl) (fun _ _ _ h => h) (Or.inl ⟨by rfl, ?ya6⟩) hHeld ?ra6
  case ya6 => intro w hSw; obtain ⟨z0, z2⟩ := HC.out w hSw; clear hSw; go_simp; with_reducible rfl
  simp only [Act.put, List.setIfInBounds_toArray, List.set_cons_zero, List.set_cons_succ]
  refine wpAnyH_take (i := 6) (v := ?va7) (by simp; rfl) (by kernel_rfl) (by kernel_rfl) (by kernel_rfl) (fun _ _ _ h => h) (Or.inl ⟨by rfl, ?ya7⟩) hHeld ?ra7
  case ya7 => intro w hSw; clear hSw; go_simp; with_reducible rfl
  simp only [Act.put, List.setIfInBounds_toArray, List.set_cons_zero, List.set_cons_succ]
  refine wpAnyH_take (i := 7) (v := ?va8) (by simp; rfl) (by kernel_rfl) (by kernel_rfl) (by kernel_rfl) (fun _ _ _ h => h) (Or.inl ⟨by rfl, ?ya8⟩) hHeld ?ra8
  case ya8 => intro w hSw; clear hSw; go_simp; with_reducible rfl
  simp only [Act.put, List.setIfInBounds_toArray, List.set_cons_zero, List.set_cons_succ]
  refine wpAnyH_take (i := 8) (v := ?va9) (by simp; rfl) (by kernel_rfl) (by kernel_rfl) (by kernel_rfl) (fun _ _ _ h => h) (Or.inl ⟨by rfl, ?ya9⟩) hHeld ?ra9
  case ya9 => intro w hSw; clear hSw; go_simp; with_reducible rfl
  simp only [Act.put, List.setIfInBounds_toArray, List.set_cons_zero, List.set_cons_succ]
  refine wpAnyH_take (i := 9) (v := ?va10) (by simp; rfl) (by kernel_rfl) (by kernel_rfl) (by kernel_rfl) (fun _ _ _ h => h) (Or.inl ⟨by rfl, ?ya10⟩) hHeld ?ra10
  case ya10 => intro w hSw; clear hSw; go_simp; with_reducible rfl
  simp only [Act.put, List.setIfInBounds_toArray, List.set_cons_zero, List.set_cons_succ]
  refine wpAnyH_take (i := 10) (v := ?va11) (by simp; rfl) (by kernel_rfl) (by kernel_rfl) (by kernel_rfl) (fun _ _ _ h => h) (Or.inl ⟨by rfl, ?ya11⟩) hHeld ?ra11
  case ya11 => intro w hSw; clear hSw; go_simp; with_reducible rfl
  simp only [Act.put, List.setIfInBounds_toArray, List.set_cons_zero, List.set_cons_succ]
  refine wpAnyH_take (i := 11) (v := ?va12) (by simp; rfl) (by kernel_rfl) (by kernel_rfl) (by kernel_rfl) (fun _ _ _ h => h) (Or.inl ⟨by rfl, ?ya12⟩) hHeld ?ra12
  case ya12 => intro w hSw; obtain ⟨z0, z2⟩ := HC.out w hSw; clear hSw; go_simp; with_reducible rfl
  simp only [Act.put, List.setIfInBounds_toArray, List.set_cons_zero, List.set_cons_succ]
  refine wpAnyH_take (i := 12) (v := ?va13) (by simp; rfl) (by kernel_rfl) (by kernel_rfl) (by kernel_rfl) (fun _ _ _ h => h) (Or.inl ⟨by rfl, ?ya13⟩) hHeld ?ra13
  case ya13 => intro w hSw; clear hSw; go_simp; with_reducible rfl
  simp only [Act.put, List.setIfInBounds_toArray, List.set_cons_zero, List.set_cons_succ]
  refine wpAnyH_take (i := 13) (v := ?va14) (by simp; rfl) (by kernel_rfl) (by kernel_rfl) (by kernel_rfl) (fun _ _ _ h => h) (Or.inl ⟨by rfl, ?ya14⟩) hHeld ?ra14
  case ya14 => intro w hSw; clear hSw; go_simp; with_reducible rfl
  simp only [Act.put, List.setIfInBounds_toArray, List.set_cons_zero, List.set_cons_succ]
  refine wpAnyH_done (by kernel_rfl) (NoPanic.normal ?_) _
  clear hHeld
  go_wp2_with fail
  refine (told_at HSD.out l2 (by omega) (by omega)).mono ?_
  rintro e w4 ⟨rfl, h4⟩
  have H4 : Hid (St w0 w4 P F D fl N (a + 2)) := h4
  clear h4
  go_wp2_with fail
  go_ret
  exact ⟨rfl, F, D, H4.out.mono (by omega) (by omega)⟩
set_option maxHeartbeats 2000000 in
set_option maxRecDepth 100000 in
theorem plays_read (h : St w0 w P F D fl N a) (hN : N ≤ 8000) (_ha : a ≤ 8000) (wh b : Int) (v : List Int) (_hv : Im.Wf ⟨b, v⟩) : Calls Try.prog 19 #[.pointer (some ⟨P, 0, none⟩), .agg (ocells 2 wh b v).toArray] w fun e w' => e = .returned (.bool true) ∧ ∃ F' D', St w0 w' P F' D' fl (N + 1) (a + 2) := by
  obtain ⟨w1, hw1⟩ : ∃ w1, w1 = w.alloc (.cells (ocells 2 wh b v).toArray 58) := ⟨_, rfl⟩
  have B1 : Below w.heap.size w w1 := by rw [hw1]; exact below_alloc w _
  have HO1 : Hid (LAt 58 w1 w.heap.size (ocells 2 wh b v)) := by rw [hw1]; exact LAt.new _ _ _
  have hw1' := hw1.symm
  have t2 := tmod2 wh
  have s2 := sl2_is wh
  have l2 := sl2_lt wh
  have k0 : w1.cell? ⟨w.heap.size, 0, none⟩ = some (.int .i64 2) := by rw [LAt.cell HO1.out]; rfl
  have k1 : w1.cell? ⟨w.heap.size, 1, none⟩ = some (.int .i64 wh) := by rw [LAt.cell HO1.out]; rfl
  obtain ⟨T, G, Q, pf, cf, vi, R, ps, cs, vw, hp, hs, eb, er, -, -, hC⟩ := h.two l2
  have HEB : Hid (T (sl2 wh) = .buf Q pf cf (F (sl2 wh)) vi (ims (F (sl2 wh)) (D (sl2 wh)))) := eb
  have HER : Hid (T (sl2 wh + 2) = .ref R ps cs (F (sl2 wh)) vw (D (sl2 wh))) := er
  have HSH : Hid (Sh T F D fl N a) := hs
  have HPB : Hid (PS w0 w1 P (pcs T) (put T 14 (.lat 58 w.heap.size (ocells 2 wh b v))) G) := hp.fresh B1 14 HO1.out (fun b hb => by rw [show b = w.heap.size from hb]; exact Nat.le_refl _)
  have HC : Hid (∀ W, Below w1.heap.size w1 W → W.cell? ⟨P, sl2 wh, none⟩ = some (.pointer (some ⟨Q, 0, none⟩)) ∧ W.cell? ⟨P, 2 + sl2 wh, none⟩ = some (.pointer (some ⟨R, 0, none⟩))) := fun W hW => hC W (below_then B1 hW)
  clear hw1 h B1 hp hs eb er hC
  go_enter Try.func19, Try.ntmps19
  go_wp2_with ((with_reducible refine at_ops ?_); (refine wpList_box_is (by rfl) 58 rfl _ rfl hw1' ?_); simp only [Act.put, List.setIfInBounds_toArray, List.set_cons_zero, List.set_cons_succ])
  rw [s2]
  clear hw1' k1 s2 t2
  generalize sl2 wh = j at *
  generalize w.heap.size = bo at *
  have j0 : (0 : Int) ≤ (j : Int) := by omega
  have j1 : (j : Int) < 2 := by omega
  refine wp_region_noPanic ?_
  refine wp_region_held_drew (S := fun W => Below w1.heap.size w1 W) (by kernel_rfl) (below_drawn 1) (fun hHeld => ?_)
  have HBD : Hid (Below w1.heap.size w1 w1.drew) := hHeld
  have k0 : w1.drew.cell? ⟨bo, 0, none⟩ = some (.int .i64 2) := by rw [LAt.cell (LAt.later HO1.out HBD.out)]; rfl
  have k2 : w1.drew.cell? ⟨bo, 2, none⟩ = some (.int .i64 b) := by rw [LAt.cell (LAt.later HO1.out HBD.out)]; rfl
  have HPD : Hid (PS w0 w1.drew P (pcs T) (put T 14 (.lat 58 bo (ocells 2 wh b v))) G) := HPB.out.later HBD.out
  have HSD : Hid (St w0 w1.drew P F D fl N a) := ⟨_, G, by rw [pcs_loose (T := T) (k := 14) (by decide)]; exact HPD.out, HSH.out.loose (by decide)⟩
  clear HPB
  generalize w1.drew = wD at *
  refine wpAnyH_take (i := 0) (v := ?va1) (by simp; rfl) (by kernel_rfl) (by kernel_rfl) (by kernel_rfl) (fun _ _ _ h => h) (Or.inl ⟨by rfl, ?ya1⟩) hHeld ?ra1
  case ya1 => intro w hSw; clear hSw; go_simp; with_reducible rfl
  simp only [Act.put, List.setIfInBounds_toArray, List.set_cons_zero, List.set_cons_succ]
  refine wpAnyH_take (i := 1) (v := ?va2) (by simp; rfl) (by kernel_rfl) (by kernel_rfl) (by kernel_rfl) (fun _ _ _ h => h) (Or.inl ⟨by rfl, ?ya2⟩) hHeld ?ra2
  case ya2 => intro w hSw; clear hSw; go_simp; with_reducible rfl
  simp only [Act.put, List.setIfInBounds_toArray, List.set_cons_zero, List.set_cons_succ]
  refine wpAnyH_take (i := 2) (v := ?va3) (by simp; rfl) (by kernel_rfl) (by kernel_rfl) (by kernel_rfl) (fun _ _ _ h => h) (Or.inl ⟨by rfl, ?ya3⟩) hHeld ?ra3
  case ya3 => intro w hSw; clear hSw; go_simp; with_reducible rfl
  simp only [Act.put, List.setIfInBounds_toArray, List.set_cons_zero, List.set_cons_succ]
  refine wpAnyH_take (i := 3) (v := ?va4) (by simp; rfl) (by kernel_rfl) (by kernel_rfl) (by kernel_rfl) (fun _ _ _ h => h) (Or.inl ⟨by rfl, ?ya4⟩) hHeld ?ra4
  case ya4 => intro w hSw; clear hSw; go_simp; with_reducible rfl
  simp only [Act.put, List.setIfInBounds_toArray, List.set_cons_zero, List.set_cons_succ]
  refine wpAnyH_take (i := 4) (v := ?va5) (by simp; rfl) (by kernel_rfl) (by kernel_rfl) (by kernel_rfl) (fun _ _ _ h => h) (Or.inl ⟨by rfl, ?ya5⟩) hHeld ?ra5
  case ya5 => intro w hSw; clear hSw; go_simp; with_reducible rfl
  simp only [Act.put, List.setIfInBounds_toArray, List.set_cons_zero, List.set_cons_succ]
  refine wpAnyH_take (i := 5) (v := ?va6) (by simp; rfl) (by kernel_rfl) (by kernel_rfl) (by kernel_rfl) (fun _ _ _ h => h) (Or.inl ⟨by rfl, ?ya6⟩) hHeld ?ra6
  case ya6 => intro w hSw; obtain ⟨z0, z2⟩ := HC.out w hSw; clear hSw; go_simp; with_reducible rfl
  simp only [Act.put, List.setIfInBounds_toArray, List.set_cons_zero, List.set_cons_succ]
  refine wpAnyH_take (i := 6) (v := ?va7) (by simp; rfl) (by kernel_rfl) (by kernel_rfl) (by kernel_rfl) (fun _ _ _ h => h) (Or.inl ⟨by rfl, ?ya7⟩) hHeld ?ra7
  case ya7 => intro w hSw; clear hSw; go_simp; with_reducible rfl
  simp only [Act.put, List.setIfInBounds_toArray, List.set_cons_zero, List.set_cons_succ]
  refine wpAnyH_take (i := 7) (v := ?va8) (by simp; rfl) (by kernel_rfl) (by kernel_rfl) (by kernel_rfl) (fun _ _ _ h => h) (Or.inl ⟨by rfl, ?ya8⟩) hHeld ?ra8
  case ya8 => intro w hSw; clear hSw; go_simp; with_reducible rfl
  simp only [Act.put, List.setIfInBounds_toArray, List.set_cons_zero, List.set_cons_succ]
  refine wpAnyH_take (i := 8) (v := ?va9) (by simp; rfl) (by kernel_rfl) (by kernel_rfl) (by kernel_rfl) (fun _ _ _ h => h) (Or.inl ⟨by rfl, ?ya9⟩) hHeld ?ra9
  case ya9 => intro w hSw; clear hSw; go_simp; with_reducible rfl
  simp only [Act.put, List.setIfInBounds_toArray, List.set_cons_zero, List.set_cons_succ]
  refine wpAnyH_take (i := 9) (v := ?va10) (by simp; rfl) (by kernel_rfl) (by kernel_rfl) (by kernel_rfl) (fun _ _ _ h => h) (Or.inl ⟨by rfl, ?ya10⟩) hHeld ?ra10
  case ya10 => intro w hSw; clear hSw; go_simp; with_reducible rfl
  simp only [Act.put, List.setIfInBounds_toArray, List.set_cons_zero, List.set_cons_succ]
  refine wpAnyH_take (i := 10) (v := ?va11) (by simp; rfl) (by kernel_rfl) (by kernel_rfl) (by kernel_rfl) (fun _ _ _ h => h) (Or.inl ⟨by rfl, ?ya11⟩) hHeld ?ra11
  case ya11 => intro w hSw; clear hSw; go_simp; with_reducible rfl
  simp only [Act.put, List.setIfInBounds_toArray, List.set_cons_zero, List.set_cons_succ]
  refine wpAnyH_take (i := 11) (v := ?va12) (by simp; rfl) (by kernel_rfl) (by kernel_rfl) (by kernel_rfl) (fun _ _ _ h => h) (Or.inl ⟨by rfl, ?ya12⟩) hHeld ?ra12
  case ya12 => intro w hSw; obtain ⟨z0, z2⟩ := HC.out w hSw; clear hSw; go_simp; with_reducible rfl
  simp only [Act.put, List.setIfInBounds_toArray, List.set_cons_zero, List.set_cons_succ]
  refine wpAnyH_take (i := 12) (v := ?va13) (by simp; rfl) (by kernel_rfl) (by kernel_rfl) (by kernel_rfl) (fun _ _ _ h => h) (Or.inl ⟨by rfl, ?ya13⟩) hHeld ?ra13
  case ya13 => intro w hSw; clear hSw; go_simp; with_reducible rfl
  simp only [Act.put, List.setIfInBounds_toArray, List.set_cons_zero, List.set_cons_succ]
  refine wpAnyH_take (i := 13) (v := ?va14) (by simp; rfl) (by kernel_rfl) (by kernel_rfl) (by kernel_rfl) (fun _ _ _ h => h) (Or.inl ⟨by rfl, ?ya14⟩) hHeld ?ra14
  case ya14 => intro w hSw; clear hSw; go_simp; with_reducible rfl
  simp only [Act.put, List.setIfInBounds_toArray, List.set_cons_zero, List.set_cons_succ]
  refine wpAnyH_done (by kernel_rfl) (NoPanic.normal ?_) _
  clear hHeld
  have HA : Hid (BAt wD Q pf cf (F j) vi (ims (F j) (D j))) := (HPD.out.buf (j := j) (by omega) (by rw [put_other _ _ (by omega)]; exact HEB.out)).1
  have HR : Hid (RAt wD R ps cs (F j) vw (D j)) := (HPD.out.ref (j := j + 2) (by omega) (by rw [put_other _ _ (by omega)]; exact HER.out)).1
  have HK : Hid (Okb (F j) (ims (F j) (D j))) := HSH.out.okb l2
  have HIS : Hid (B.isS (F j) = true) := HSH.out.is j l2
  have HWF : Hid (ImsWf (D j) ∧ (D j).length ≤ 9000) := ⟨(HSH.out.wf j l2).1, by have := (HSH.out.wf j l2).2; omega⟩
  have HLA : Hid (LAt 58 wD bo (ocells 2 wh b v)) := LAt.later HO1.out HBD.out
  clear HEB HER HSH HPD HO1 HBD HC
  generalize hF : F j = Fj at *
  generalize hD : D j = Dj at *
  go_wp2_with fail
  refine (read_at HA.out HK.out b).mono ?_
  rintro e w5 ⟨rfl, b5⟩
  have HVL : Hid ((rdV Fj (ims Fj Dj) b).length = 32) := rdV_len HK.out.wf b
  have HQE : Hid (∀ w, (binOp .eql 31 (.agg (U8 (rdV Fj (ims Fj Dj) b)).toArray) (.agg (U8 (rdV Fj (ims Fj Dj) b)).toArray)).run Try.prog w = .ok (.bool true) w) := fun w => by rw [eqlV w _ _ HVL.out HVL.out, decide_eq_true rfl]
  obtain ⟨u5, z5, hu5, hz5, hv5, hb5⟩ := newV w5 (rdV Fj (ims Fj Dj) b) HVL.out
  have L5 : Hid ((Instr.alloc 31 true (.tuple #[])).run Try.prog w5 = .ok (.pointer (some ⟨w5.heap.size, 0, none⟩)) u5) := hu5
  have T5 : Hid ((Instr.storeAt 31 (.pointer (some ⟨w5.heap.size, 0, none⟩)) (.agg (U8 (rdV Fj (ims Fj Dj) b)).toArray)).run Try.prog u5 = .ok () z5) := hz5
  have V5 : Hid (VAt z5 w5.heap.size (rdV Fj (ims Fj Dj) b)) := hv5
  have Z5 : Hid (Below w5.heap.size w5 z5) := hb5
  clear hu5 hz5 hv5 hb5
  obtain ⟨n5, e5⟩ : ∃ n5, n5 = w5.heap.size := ⟨_, rfl⟩
  rw [← e5] at L5 T5 V5
  clear e5
  have HB5 : Hid (Below wD.heap.size wD z5) := below_then b5 Z5.out
  have k2' : z5.cell? ⟨bo, 2, none⟩ = some (.int .i64 b) := by rw [LAt.cell (LAt.later HLA.out HB5.out)]; rfl
  clear b5 Z5 k0 k2
  go_wp2_with ((with_reducible refine at_ops ?_); (first | ((refine wpList_alloc_is (by rfl) 31 rfl L5.out ?_); simp only [Act.put, List.setIfInBounds_toArray, List.set_cons_zero, List.set_cons_succ]) | ((refine wpList_store_is (by rfl) 31 rfl rfl rfl T5.out ?_); simp only [Act.put])))
  refine (rread_at (HR.out.later HB5.out) HIS.out HWF.out.1 HWF.out.2 b).mono ?_
  rintro e w6 ⟨rfl, b6⟩
  obtain ⟨u6, z6, hu6, hz6, hv6, hb6⟩ := newV w6 (rdV Fj (ims Fj Dj) b) HVL.out
  have L6 : Hid ((Instr.alloc 31 true (.tuple #[])).run Try.prog w6 = .ok (.pointer (some ⟨w6.heap.size, 0, none⟩)) u6) := hu6
  have T6 : Hid ((Instr.storeAt 31 (.pointer (some ⟨w6.heap.size, 0, none⟩)) (.agg (U8 (rdV Fj (ims Fj Dj) b)).toArray)).run Try.prog u6 = .ok () z6) := hz6
  have V6 : Hid (VAt z6 w6.heap.size (rdV Fj (ims Fj Dj) b)) := hv6
  have Z6 : Hid (Below w6.heap.size w6 z6) := hb6
  clear hu6 hz6 hv6 hb6
  obtain ⟨n6, e6⟩ : ∃ n6, n6 = w6.heap.size := ⟨_, rfl⟩
  rw [← e6] at L6 T6 V6
  clear e6
  have HZ : Hid (St w0 z6 P F D fl N a) := HSD.out.later (below_then (below_then HB5.out b6) Z6.out)
  have Wa : Hid ((Instr.loadAt 31 (.pointer (some ⟨n5, 0, none⟩))).run Try.prog z6 = .ok (.agg (U8 (rdV Fj (ims Fj Dj) b)).toArray) z6) := VAt.load (LAt.later (LAt.later V5.out b6) Z6.out) HVL.out
  have Wb : Hid ((Instr.loadAt 31 (.pointer (some ⟨n6, 0, none⟩))).run Try.prog z6 = .ok (.agg (U8 (rdV Fj (ims Fj Dj) b)).toArray) z6) := VAt.load V6.out HVL.out
  clear L5 T5 V5 V6 Z6 b6 k2' HR HA HK HIS HWF HLA HB5 HSD HVL
  generalize rdV Fj (ims Fj Dj) b = rv at *
  generalize rdB Fj (ims Fj Dj) b = rb at *
  generalize refS Fj b = rr at *
  have h1 : (rb == rb) = true := by simp
  have h2 : (rr == rr) = true := by simp
  go_wp2_with (first | ((with_reducible refine at_ops ?_); (first | ((refine wpList_alloc_is (by rfl) 31 rfl L6.out ?_); simp only [Act.put, List.setIfInBounds_toArray, List.set_cons_zero, List.set_cons_succ]) | ((refine wpList_store_is (by rfl) 31 rfl rfl rfl T6.out ?_); simp only [Act.put]))) | ((with_reducible refine at_ops ?_); (first | (refine wpList_load_is (by rfl) 31 rfl rfl Wa.out ?_) | (refine wpList_load_is (by rfl) 31 rfl rfl Wb.out ?_) | (refine wpList_eql_is (by rfl) 31 rfl rfl rfl eqgV (HQE.out _) ?_)); simp only [Act.put, List.setIfInBounds_toArray, List.set_cons_zero, List.set_cons_succ]))
  go_ret
  exact ⟨rfl, F, D, HZ.out.mono (by omega) (by omega)⟩
end
end W
end Go.Proofs.Ythgkdpniaednaaa
