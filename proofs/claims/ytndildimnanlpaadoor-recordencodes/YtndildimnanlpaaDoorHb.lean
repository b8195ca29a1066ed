/-
  RecordBack walked.
-/
import Derived.Test.YtndildimnanlpaaDoorHa
import Derived.BigRegion
namespace Go.Proofs.YtndildimnanlpaaDoor
open Go.RowKit

/-- two records stored into two new variables -/
theorem two_stored {w1 w : World} {g9 g10 : Nat} {r1 r2 x y : Rec} (h9 : RAt 31 w g9 r1) (h10 : RAt 31 w g10 r2) (hne : g9 ≠ g10) (hb : Below w1.heap.size w1 w) (l9 : w1.heap.size ≤ g9) (l10 : w1.heap.size ≤ g10) :
    RAt 31 ((w.setRow g9 (rcells x).toArray).setRow g10 (rcells y).toArray) g9 x ∧ RAt 31 ((w.setRow g9 (rcells x).toArray).setRow g10 (rcells y).toArray) g10 y ∧ Below w1.heap.size w1 ((w.setRow g9 (rcells x).toArray).setRow g10 (rcells y).toArray) :=
  ⟨(h9.stored x).other _ hne, ((h10.other _ (fun e => hne e.symm)).stored y), below_setRow (below_setRow hb l9 _) l10 _⟩

theorem yields_neq_is {P : Program} {ops : Array Oper} {S : World → Prop} {o : Oper} {a : Act} (hw : Region.wanted o (yielded ops a.tmps) = true) (ty : TypeId) {x y : Operand} {t2 : TypeId} (ho : o.op = .binOp .neq ty x y t2) {xs ys : Array Value} {v : Value} (hx : a.eval x = .agg xs) (hy : a.eval y = .agg ys) (hg : P.eqGuardType P.depth ty = false) (hrun : ∀ w, (binOp .neq ty (.agg xs) (.agg ys)).run P w = .ok v w) : YieldsIf P ops S o v a :=
  .inl ⟨hw, fun w _ => by unfold execOp; simp only [ho, hx, hy, Sem.run_bind, run_eqGuard_agg w .neq ty x y xs ys hg, hrun w, Result.andThen_ok, Sem.run_pure]⟩
theorem yields_eql_is {P : Program} {ops : Array Oper} {S : World → Prop} {o : Oper} {a : Act} (hw : Region.wanted o (yielded ops a.tmps) = true) (ty : TypeId) {x y : Operand} {t2 : TypeId} (ho : o.op = .binOp .eql ty x y t2) {xs ys : Array Value} {v : Value} (hx : a.eval x = .agg xs) (hy : a.eval y = .agg ys) (hg : P.eqGuardType P.depth ty = false) (hrun : ∀ w, (binOp .eql ty (.agg xs) (.agg ys)).run P w = .ok v w) : YieldsIf P ops S o v a :=
  .inl ⟨hw, fun w _ => by unfold execOp; simp only [ho, hx, hy, Sem.run_bind, run_eqGuard_agg w .eql ty x y xs ys hg, hrun w, Result.andThen_ok, Sem.run_pure]⟩
theorem RAt.drewN {t : TypeId} {w : World} {g : Nat} {r : Rec} (h : RAt t w g r) (j : Nat) : RAt t (w.drewN j) g r := h
/-- a list that was made lies at the head of a block -/
theorem Made.at {w w' : World} {p : Option Addr} {n c : Nat} {xs : List Int} (h : Made w w' p n c xs) (hn : 0 < n) : ∃ g, p = some ⟨g, 0, none⟩ ∧ w.heap.size ≤ g ∧ g < w'.heap.size := by
  rcases h.own.2 with ⟨e, h0⟩ | ⟨g, cap, cur, e, hb, hg, _⟩
  · omega
  · simp only [Value.slice.injEq] at e
    exact ⟨g, e.1, hb, (Array.getElem?_eq_some_iff.1 hg).1⟩
theorem xor_none (y : Int) (h0 : 0 ≤ y) (h1 : y < 256) : bits .xor .u8 y 0 = y := by
  rw [u8_xor y 0 h0 h1 (by omega) (by omega)]
  simp
  omega
/-- the answer to turned bytes -/
theorem turned_err (Y : List Int) (hb : Bytes Y) (hl : Y.length = 64) (x : Rec) (hx : x.Wf) (hm : may x = true) (t L : Nat) (ht : t < 4294967296) (hc : crc Y = 558161692 ^^^ acc t L 4) (h0 : t = 0 → Y = encS x) :
    (decS Y).2 = if t = 0 then 0 else 60 := by
  by_cases h : t = 0
  · rw [if_pos h, h0 h, decS_encS x hx hm]
  · rw [if_neg h]
    rcases decS_err Y with he | ⟨_, ⟨_, hn⟩ | ⟨he, _⟩⟩
    · have := good_sum Y hb he
      rw [hc] at this
      exact absurd ((acc_four t L ht).1 ((xor_same _ _).1 this)) h
    · exact absurd hl hn
    · exact he

set_option maxHeartbeats 8000000 in
set_option maxRecDepth 100000 in
theorem recordBack_any (r s : Rec) (hr : r.Wf) (hs : s.Wf) (A : Int) (t : Nat) (htn : t < 4294967296) (w : World) (ht : Tab w) :
    Calls Tryd.prog 5 #[.agg (rcells r).toArray, .agg (rcells s).toArray, .int .i64 A, .int .u32 t] w fun e w' => e = .returned (.bool true) ∧ Below w.heap.size w w' := by
  have HR : Hid (r.Wf) := hr
  have HS : Hid (s.Wf) := hs
  have B0 : Hid (Below w.heap.size w ((w.alloc (.cells (rcells r).toArray 37)).alloc (.cells (rcells s).toArray 37))) := below_then (below_alloc w _) (below_alloc _ _)
  have R0 : Hid (RAt 37 ((w.alloc (.cells (rcells r).toArray 37)).alloc (.cells (rcells s).toArray 37)) w.heap.size r) := (RAt.new 37 w r).later (below_alloc _ _)
  have S0 : Hid (RAt 37 ((w.alloc (.cells (rcells r).toArray 37)).alloc (.cells (rcells s).toArray 37)) (w.heap.size + 1) s) := by
    have := RAt.new 37 (w.alloc (.cells (rcells r).toArray 37)) s
    rwa [show (w.alloc (.cells (rcells r).toArray 37)).heap.size = w.heap.size + 1 by simp] at this
  have HT : Hid (Tab w) := ht
  clear hr hs ht
  go_enter Tryd.func5, Tryd.ntmps5
  go_wp2_with fail
  generalize (w.alloc (.cells (rcells r).toArray 37)).alloc (.cells (rcells s).toArray 37) = wb at *
  refine (fixed_any wb (HT.out.later B0.out)).mono ?_
  rintro e w1 ⟨rfl, b1⟩
  have B1 : Hid (Below w.heap.size w w1) := below_then B0.out b1
  have R1 : Hid (RAt 37 w1 w.heap.size r) := R0.out.later b1
  have S1 : Hid (RAt 37 w1 (w.heap.size + 1) s) := S0.out.later b1
  clear b1 B0 R0 S0
  go_wp2_with fail
  refine Code.wp_mono (Q := fun e a W => ∃ (x y : Rec) (g9 g10 : Nat), e = .normal ∧ Hid (x.Wf ∧ may x = true ∧ y.Wf ∧ may y = true ∧ RAt 31 W g9 x ∧ RAt 31 W g10 y ∧ Below w1.heap.size w1 W) ∧ a = { tmps := #[.agg (rcells r).toArray, .agg (rcells s).toArray, .int .i64 A, .int .u32 t, .pointer (some ⟨w.heap.size, 0, none⟩), .pointer (some ⟨w.heap.size + 1, 0, none⟩), undef, undef, .bool false, .pointer (some ⟨g9, 0, none⟩), .pointer (some ⟨g10, 0, none⟩), undef, undef, undef, undef, undef, undef, undef, undef, undef, undef, .bool true, .bool false, .agg (rcells r).toArray, .agg (rcells x).toArray, .agg (rcells s).toArray, .agg (rcells y).toArray, undef, undef, undef, undef, undef, undef, undef, undef, undef, undef, undef, undef, undef, undef, undef, undef, undef, undef, undef, undef, undef, undef, undef, undef, undef, undef, undef, undef, undef, undef, undef, undef, undef, undef, undef, undef, undef, undef, undef, undef, undef, undef, undef, undef, undef, undef, undef, undef, undef, undef, undef, undef, undef, undef, undef, undef, undef, undef, undef, undef, undef, undef, undef, undef, undef, undef, undef, undef, undef, undef, undef, undef, undef, undef, undef, undef, undef, undef, undef, undef, undef, undef, undef, undef, undef, undef, undef, undef, undef, undef, undef, undef, undef, undef], defers := [] }) ?rest ?reg
  case reg =>
    refine wp_region_noPanic ?_
    refine wp_region_held_drew (S := fun w' => RAt 37 w' w.heap.size r ∧ RAt 37 w' (w.heap.size + 1) s) (by kernel_rfl) ⟨R1.out.drew, S1.out.drew⟩ (fun hHeld => ?_)
    refine wpAnyH_take (i := 0) (v := _) (by simp; rfl) (by kernel_rfl) (by kernel_rfl) (by kernel_rfl) (fun _ _ _ h => h) (yieldsIf_load_mid (by rfl) 37 (.tmp 4) rfl w.heap.size 0 rfl (rcells r) _ (fun _ h => RAt.range h.1) Tryd.underlying37 rfl (by rw [size37, rcells_len r HR.out.len])) hHeld ?_
    simp only [Act.put, List.setIfInBounds_toArray, List.set_cons_zero, List.set_cons_succ]
    refine wpAnyH_take (i := 2) (v := _) (by simp; rfl) (by kernel_rfl) (by kernel_rfl) (by kernel_rfl) (fun _ _ _ h => h) (yieldsIf_load_mid (by rfl) 37 (.tmp 5) rfl (w.heap.size + 1) 0 rfl (rcells s) _ (fun _ h => RAt.range h.2) Tryd.underlying37 rfl (by rw [size37, rcells_len s HS.out.len])) hHeld ?_
    simp only [Act.put, List.setIfInBounds_toArray, List.set_cons_zero, List.set_cons_succ]
    have B1d : Hid (Below w1.heap.size w1 w1.drew) := ⟨rfl, rfl, rfl, Nat.le_refl _, fun _ _ => rfl⟩
    have szd : w1.heap.size ≤ w1.drew.heap.size := Nat.le_refl _
    generalize w1.drew = wd at *
    refine wpAnyH_ready (rs := [1, 4, 5]) (by kernel_rfl) (by simp) ?_
    refine AllReadyH.cons (by simp; rfl) (fun Kc hKc => ?_) (AllReadyH.cons (by simp; rfl) (fun Kc hKc => ?_) (AllReadyH.cons (by simp; rfl) (fun Kc hKc => ?_) AllReadyH.nil))
    · go_simp
      refine (right_any r HR.out wd).mono ?_
      rintro e wn1 ⟨x, h1, h2, rfl, bn⟩
      have HXW : Hid (x.Wf ∧ may x = true) := ⟨h1, h2⟩
      have sz1 := bn.size
      have Bn1 : Hid (Below w1.heap.size w1 wn1) := below_then B1d.out bn
      clear h1 h2 bn
      refine hKc.out _ _ ⟨R1.out.below Bn1.out R1.out.lt, S1.out.below Bn1.out S1.out.lt⟩ (fun hHeld => ?_)
      clear hKc Kc
      refine wpAnyH_ready (rs := [3, 4, 5]) (by kernel_rfl) (by simp) ?_
      refine AllReadyH.cons (by simp; rfl) (fun Kc hKc => ?_) (AllReadyH.cons (by simp; rfl) (fun Kc hKc => ?_) (AllReadyH.cons (by simp; rfl) (fun Kc hKc => ?_) AllReadyH.nil))
      · go_simp
        refine (right_any s HS.out wn1).mono ?_
        rintro e wn2 ⟨y, h1, h2, rfl, bn⟩
        have HYW : Hid (y.Wf ∧ may y = true) := ⟨h1, h2⟩
        have sz2 := bn.size
        have Bn2 : Hid (Below w1.heap.size w1 wn2) := below_then Bn1.out bn
        clear h1 h2 bn
        refine hKc.out _ _ ⟨R1.out.below Bn2.out R1.out.lt, S1.out.below Bn2.out S1.out.lt⟩ (fun hHeld => ?_)
        clear hKc Kc
        refine wpAnyH_ready (rs := [4, 5]) (by kernel_rfl) (by simp) ?_
        refine AllReadyH.cons (by simp; rfl) (fun Kc hKc => ?_) (AllReadyH.cons (by simp; rfl) (fun Kc hKc => ?_) AllReadyH.nil)
        · rw [if_pos (by rfl)]
          refine wp_alloc_is 31 rfl (alloc31 wn2) ?_
          simp only [Act.put, List.setIfInBounds_toArray, List.set_cons_zero, List.set_cons_succ]
          have Bn3 : Hid (Below w1.heap.size w1 (wn2.alloc (.cells (rcells rec0).toArray 31))) := below_then Bn2.out (below_alloc wn2 _)
          have sz3 : wn2.heap.size < (wn2.alloc (.cells (rcells rec0).toArray 31)).heap.size := by simp
          have G9n3 : Hid (RAt 31 (wn2.alloc (.cells (rcells rec0).toArray 31)) (wn2.heap.size) rec0) := RAt.new 31 wn2 rec0
          refine hKc.out _ _ ⟨R1.out.below Bn3.out R1.out.lt, S1.out.below Bn3.out S1.out.lt⟩ (fun hHeld => ?_)
          clear hKc Kc
          have bs3 := Bn2.out.size
          generalize wn2.alloc (.cells (rcells rec0).toArray 31) = wn3 at *
          refine wpAnyH_ready (rs := [5]) (by kernel_rfl) (by simp) ?_
          refine AllReadyH.cons (by simp; rfl) (fun Kc hKc => ?_) AllReadyH.nil
          · rw [if_pos (by rfl)]
            refine wp_alloc_is 31 rfl (alloc31 wn3) ?_
            simp only [Act.put, List.setIfInBounds_toArray, List.set_cons_zero, List.set_cons_succ]
            have Bn4 : Hid (Below w1.heap.size w1 (wn3.alloc (.cells (rcells rec0).toArray 31))) := below_then Bn3.out (below_alloc wn3 _)
            have sz4 : wn3.heap.size < (wn3.alloc (.cells (rcells rec0).toArray 31)).heap.size := by simp
            have G9n4 : Hid (RAt 31 (wn3.alloc (.cells (rcells rec0).toArray 31)) (wn2.heap.size) rec0) := G9n3.out.later (below_alloc wn3 _)
            have G10n4 : Hid (RAt 31 (wn3.alloc (.cells (rcells rec0).toArray 31)) (wn3.heap.size) rec0) := RAt.new 31 wn3 rec0
            refine hKc.out _ _ ⟨R1.out.below Bn4.out R1.out.lt, S1.out.below Bn4.out S1.out.lt⟩ (fun hHeld => ?_)
            clear hKc Kc
            have bs4 := Bn3.out.size
            generalize wn3.alloc (.cells (rcells rec0).toArray 31) = wn4 at *
            refine wpAnyH_ready (rs := [6]) (by kernel_rfl) (by simp) ?_
            refine AllReadyH.cons (by simp; rfl) (fun Kc hKc => ?_) AllReadyH.nil
            rw [if_pos (by rfl)]
            refine wp_store_is 31 rfl rfl rfl (RAt.store (s := x) size31 G9n4.out rec0_len HXW.out.1.len) ?_
            simp only [Act.put]
            refine hKc.out _ _ ⟨(R1.out.below Bn4.out R1.out.lt).other _ (by have := R1.out.lt; omega), (S1.out.below Bn4.out S1.out.lt).other _ (by have := S1.out.lt; omega)⟩ (fun hHeld => ?_)
            clear hKc Kc
            refine wpAnyH_ready (rs := [7]) (by kernel_rfl) (by simp) ?_
            refine AllReadyH.cons (by simp; rfl) (fun Kc hKc => ?_) AllReadyH.nil
            rw [if_pos (by rfl)]
            refine wp_store_is 31 rfl rfl rfl (RAt.store (s := y) size31 (G10n4.out.other (k := wn2.heap.size) _ (by omega)) rec0_len HYW.out.1.len) ?_
            simp only [Act.put]
            refine hKc.out _ _ ⟨((R1.out.below Bn4.out R1.out.lt).other _ (by have := R1.out.lt; omega)).other _ (by have := R1.out.lt; omega), ((S1.out.below Bn4.out S1.out.lt).other _ (by have := S1.out.lt; omega)).other _ (by have := S1.out.lt; omega)⟩ (fun hHeld => ?_)
            clear hKc Kc
            refine wpAnyH_done (by kernel_rfl) (NoPanic.normal ?_) _
            obtain ⟨f1, f2, f3⟩ := two_stored (x := x) (y := y) G9n4.out G10n4.out (by omega) Bn4.out (by omega) (by omega)
            exact ⟨x, y, wn2.heap.size, wn3.heap.size, rfl, ⟨HXW.out.1, HXW.out.2, HYW.out.1, HYW.out.2, f1, f2, f3⟩, rfl⟩
        · rw [if_pos (by rfl)]
          refine wp_alloc_is 31 rfl (alloc31 wn2) ?_
          simp only [Act.put, List.setIfInBounds_toArray, List.set_cons_zero, List.set_cons_succ]
          have Bn5 : Hid (Below w1.heap.size w1 (wn2.alloc (.cells (rcells rec0).toArray 31))) := below_then Bn2.out (below_alloc wn2 _)
          have sz5 : wn2.heap.size < (wn2.alloc (.cells (rcells rec0).toArray 31)).heap.size := by simp
          have G10n5 : Hid (RAt 31 (wn2.alloc (.cells (rcells rec0).toArray 31)) (wn2.heap.size) rec0) := RAt.new 31 wn2 rec0
          refine hKc.out _ _ ⟨R1.out.below Bn5.out R1.out.lt, S1.out.below Bn5.out S1.out.lt⟩ (fun hHeld => ?_)
          clear hKc Kc
          have bs5 := Bn2.out.size
          generalize wn2.alloc (.cells (rcells rec0).toArray 31) = wn5 at *
          refine wpAnyH_ready (rs := [4]) (by kernel_rfl) (by simp) ?_
          refine AllReadyH.cons (by simp; rfl) (fun Kc hKc => ?_) AllReadyH.nil
          · rw [if_pos (by rfl)]
            refine wp_alloc_is 31 rfl (alloc31 wn5) ?_
            simp only [Act.put, List.setIfInBounds_toArray, List.set_cons_zero, List.set_cons_succ]
            have Bn6 : Hid (Below w1.heap.size w1 (wn5.alloc (.cells (rcells rec0).toArray 31))) := below_then Bn5.out (below_alloc wn5 _)
            have sz6 : wn5.heap.size < (wn5.alloc (.cells (rcells rec0).toArray 31)).heap.size := by simp
            have G10n6 : Hid (RAt 31 (wn5.alloc (.cells (rcells rec0).toArray 31)) (wn2.heap.size) rec0) := G10n5.out.later (below_alloc wn5 _)
            have G9n6 : Hid (RAt 31 (wn5.alloc (.cells (rcells rec0).toArray 31)) (wn5.heap.size) rec0) := RAt.new 31 wn5 rec0
            refine hKc.out _ _ ⟨R1.out.below Bn6.out R1.out.lt, S1.out.below Bn6.out S1.out.lt⟩ (fun hHeld => ?_)
            clear hKc Kc
            have bs6 := Bn5.out.size
            generalize wn5.alloc (.cells (rcells rec0).toArray 31) = wn6 at *
            refine wpAnyH_ready (rs := [6]) (by kernel_rfl) (by simp) ?_
            refine AllReadyH.cons (by simp; rfl) (fun Kc hKc => ?_) AllReadyH.nil
            rw [if_pos (by rfl)]
            refine wp_store_is 31 rfl rfl rfl (RAt.store (s := x) size31 G9n6.out rec0_len HXW.out.1.len) ?_
            simp only [Act.put]
            refine hKc.out _ _ ⟨(R1.out.below Bn6.out R1.out.lt).other _ (by have := R1.out.lt; omega), (S1.out.below Bn6.out S1.out.lt).other _ (by have := S1.out.lt; omega)⟩ (fun hHeld => ?_)
            clear hKc Kc
            refine wpAnyH_ready (rs := [7]) (by kernel_rfl) (by simp) ?_
            refine AllReadyH.cons (by simp; rfl) (fun Kc hKc => ?_) AllReadyH.nil
            rw [if_pos (by rfl)]
            refine wp_store_is 31 rfl rfl rfl (RAt.store (s := y) size31 (G10n6.out.other (k := wn5.heap.size) _ (by omega)) rec0_len HYW.out.1.len) ?_
            simp only [Act.put]
            refine hKc.out _ _ ⟨((R1.out.below Bn6.out R1.out.lt).other _ (by have := R1.out.lt; omega)).other _ (by have := R1.out.lt; omega), ((S1.out.below Bn6.out S1.out.lt).other _ (by have := S1.out.lt; omega)).other _ (by have := S1.out.lt; omega)⟩ (fun hHeld => ?_)
            clear hKc Kc
            refine wpAnyH_done (by kernel_rfl) (NoPanic.normal ?_) _
            obtain ⟨f1, f2, f3⟩ := two_stored (x := x) (y := y) G9n6.out G10n6.out (by omega) Bn6.out (by omega) (by omega)
            exact ⟨x, y, wn5.heap.size, wn2.heap.size, rfl, ⟨HXW.out.1, HXW.out.2, HYW.out.1, HYW.out.2, f1, f2, f3⟩, rfl⟩
      · rw [if_pos (by rfl)]
        refine wp_alloc_is 31 rfl (alloc31 wn1) ?_
        simp only [Act.put, List.setIfInBounds_toArray, List.set_cons_zero, List.set_cons_succ]
        have Bn7 : Hid (Below w1.heap.size w1 (wn1.alloc (.cells (rcells rec0).toArray 31))) := below_then Bn1.out (below_alloc wn1 _)
        have sz7 : wn1.heap.size < (wn1.alloc (.cells (rcells rec0).toArray 31)).heap.size := by simp
        have G9n7 : Hid (RAt 31 (wn1.alloc (.cells (rcells rec0).toArray 31)) (wn1.heap.size) rec0) := RAt.new 31 wn1 rec0
        refine hKc.out _ _ ⟨R1.out.below Bn7.out R1.out.lt, S1.out.below Bn7.out S1.out.lt⟩ (fun hHeld => ?_)
        clear hKc Kc
        have bs7 := Bn1.out.size
        generalize wn1.alloc (.cells (rcells rec0).toArray 31) = wn7 at *
        refine wpAnyH_ready (rs := [3, 5]) (by kernel_rfl) (by simp) ?_
        refine AllReadyH.cons (by simp; rfl) (fun Kc hKc => ?_) (AllReadyH.cons (by simp; rfl) (fun Kc hKc => ?_) AllReadyH.nil)
        · go_simp
          refine (right_any s HS.out wn7).mono ?_
          rintro e wn8 ⟨y, h1, h2, rfl, bn⟩
          have HYW : Hid (y.Wf ∧ may y = true) := ⟨h1, h2⟩
          have sz8 := bn.size
          have Bn8 : Hid (Below w1.heap.size w1 wn8) := below_then Bn7.out bn
          have G9n8 : Hid (RAt 31 wn8 (wn1.heap.size) rec0) := G9n7.out.later bn
          clear h1 h2 bn
          refine hKc.out _ _ ⟨R1.out.below Bn8.out R1.out.lt, S1.out.below Bn8.out S1.out.lt⟩ (fun hHeld => ?_)
          clear hKc Kc
          refine wpAnyH_ready (rs := [5]) (by kernel_rfl) (by simp) ?_
          refine AllReadyH.cons (by simp; rfl) (fun Kc hKc => ?_) AllReadyH.nil
          · rw [if_pos (by rfl)]
            refine wp_alloc_is 31 rfl (alloc31 wn8) ?_
            simp only [Act.put, List.setIfInBounds_toArray, List.set_cons_zero, List.set_cons_succ]
            have Bn9 : Hid (Below w1.heap.size w1 (wn8.alloc (.cells (rcells rec0).toArray 31))) := below_then Bn8.out (below_alloc wn8 _)
            have sz9 : wn8.heap.size < (wn8.alloc (.cells (rcells rec0).toArray 31)).heap.size := by simp
            have G9n9 : Hid (RAt 31 (wn8.alloc (.cells (rcells rec0).toArray 31)) (wn1.heap.size) rec0) := G9n8.out.later (below_alloc wn8 _)
            have G10n9 : Hid (RAt 31 (wn8.alloc (.cells (rcells rec0).toArray 31)) (wn8.heap.size) rec0) := RAt.new 31 wn8 rec0
            refine hKc.out _ _ ⟨R1.out.below Bn9.out R1.out.lt, S1.out.below Bn9.out S1.out.lt⟩ (fun hHeld => ?_)
            clear hKc Kc
            have bs9 := Bn8.out.size
            generalize wn8.alloc (.cells (rcells rec0).toArray 31) = wn9 at *
            refine wpAnyH_ready (rs := [6]) (by kernel_rfl) (by simp) ?_
            refine AllReadyH.cons (by simp; rfl) (fun Kc hKc => ?_) AllReadyH.nil
            rw [if_pos (by rfl)]
            refine wp_store_is 31 rfl rfl rfl (RAt.store (s := x) size31 G9n9.out rec0_len HXW.out.1.len) ?_
            simp only [Act.put]
            refine hKc.out _ _ ⟨(R1.out.below Bn9.out R1.out.lt).other _ (by have := R1.out.lt; omega), (S1.out.below Bn9.out S1.out.lt).other _ (by have := S1.out.lt; omega)⟩ (fun hHeld => ?_)
            clear hKc Kc
            refine wpAnyH_ready (rs := [7]) (by kernel_rfl) (by simp) ?_
            refine AllReadyH.cons (by simp; rfl) (fun Kc hKc => ?_) AllReadyH.nil
            rw [if_pos (by rfl)]
            refine wp_store_is 31 rfl rfl rfl (RAt.store (s := y) size31 (G10n9.out.other (k := wn1.heap.size) _ (by omega)) rec0_len HYW.out.1.len) ?_
            simp only [Act.put]
            refine hKc.out _ _ ⟨((R1.out.below Bn9.out R1.out.lt).other _ (by have := R1.out.lt; omega)).other _ (by have := R1.out.lt; omega), ((S1.out.below Bn9.out S1.out.lt).other _ (by have := S1.out.lt; omega)).other _ (by have := S1.out.lt; omega)⟩ (fun hHeld => ?_)
            clear hKc Kc
            refine wpAnyH_done (by kernel_rfl) (NoPanic.normal ?_) _
            obtain ⟨f1, f2, f3⟩ := two_stored (x := x) (y := y) G9n9.out G10n9.out (by omega) Bn9.out (by omega) (by omega)
            exact ⟨x, y, wn1.heap.size, wn8.heap.size, rfl, ⟨HXW.out.1, HXW.out.2, HYW.out.1, HYW.out.2, f1, f2, f3⟩, rfl⟩
        · rw [if_pos (by rfl)]
          refine wp_alloc_is 31 rfl (alloc31 wn7) ?_
          simp only [Act.put, List.setIfInBounds_toArray, List.set_cons_zero, List.set_cons_succ]
          have Bn10 : Hid (Below w1.heap.size w1 (wn7.alloc (.cells (rcells rec0).toArray 31))) := below_then Bn7.out (below_alloc wn7 _)
          have sz10 : wn7.heap.size < (wn7.alloc (.cells (rcells rec0).toArray 31)).heap.size := by simp
          have G9n10 : Hid (RAt 31 (wn7.alloc (.cells (rcells rec0).toArray 31)) (wn1.heap.size) rec0) := G9n7.out.later (below_alloc wn7 _)
          have G10n10 : Hid (RAt 31 (wn7.alloc (.cells (rcells rec0).toArray 31)) (wn7.heap.size) rec0) := RAt.new 31 wn7 rec0
          refine hKc.out _ _ ⟨R1.out.below Bn10.out R1.out.lt, S1.out.below Bn10.out S1.out.lt⟩ (fun hHeld => ?_)
          clear hKc Kc
          have bs10 := Bn7.out.size
          generalize wn7.alloc (.cells (rcells rec0).toArray 31) = wn10 at *
          refine wpAnyH_ready (rs := [3]) (by kernel_rfl) (by simp) ?_
          refine AllReadyH.cons (by simp; rfl) (fun Kc hKc => ?_) AllReadyH.nil
          · go_simp
            refine (right_any s HS.out wn10).mono ?_
            rintro e wn11 ⟨y, h1, h2, rfl, bn⟩
            have HYW : Hid (y.Wf ∧ may y = true) := ⟨h1, h2⟩
            have sz11 := bn.size
            have Bn11 : Hid (Below w1.heap.size w1 wn11) := below_then Bn10.out bn
            have G9n11 : Hid (RAt 31 wn11 (wn1.heap.size) rec0) := G9n10.out.later bn
            have G10n11 : Hid (RAt 31 wn11 (wn7.heap.size) rec0) := G10n10.out.later bn
            clear h1 h2 bn
            refine hKc.out _ _ ⟨R1.out.below Bn11.out R1.out.lt, S1.out.below Bn11.out S1.out.lt⟩ (fun hHeld => ?_)
            clear hKc Kc
            refine wpAnyH_ready (rs := [6]) (by kernel_rfl) (by simp) ?_
            refine AllReadyH.cons (by simp; rfl) (fun Kc hKc => ?_) AllReadyH.nil
            rw [if_pos (by rfl)]
            refine wp_store_is 31 rfl rfl rfl (RAt.store (s := x) size31 G9n11.out rec0_len HXW.out.1.len) ?_
            simp only [Act.put]
            refine hKc.out _ _ ⟨(R1.out.below Bn11.out R1.out.lt).other _ (by have := R1.out.lt; omega), (S1.out.below Bn11.out S1.out.lt).other _ (by have := S1.out.lt; omega)⟩ (fun hHeld => ?_)
            clear hKc Kc
            refine wpAnyH_ready (rs := [7]) (by kernel_rfl) (by simp) ?_
            refine AllReadyH.cons (by simp; rfl) (fun Kc hKc => ?_) AllReadyH.nil
            rw [if_pos (by rfl)]
            refine wp_store_is 31 rfl rfl rfl (RAt.store (s := y) size31 (G10n11.out.other (k := wn1.heap.size) _ (by omega)) rec0_len HYW.out.1.len) ?_
            simp only [Act.put]
            refine hKc.out _ _ ⟨((R1.out.below Bn11.out R1.out.lt).other _ (by have := R1.out.lt; omega)).other _ (by have := R1.out.lt; omega), ((S1.out.below Bn11.out S1.out.lt).other _ (by have := S1.out.lt; omega)).other _ (by have := S1.out.lt; omega)⟩ (fun hHeld => ?_)
            clear hKc Kc
            refine wpAnyH_done (by kernel_rfl) (NoPanic.normal ?_) _
            obtain ⟨f1, f2, f3⟩ := two_stored (x := x) (y := y) G9n11.out G10n11.out (by omega) Bn11.out (by omega) (by omega)
            exact ⟨x, y, wn1.heap.size, wn7.heap.size, rfl, ⟨HXW.out.1, HXW.out.2, HYW.out.1, HYW.out.2, f1, f2, f3⟩, rfl⟩
      · rw [if_pos (by rfl)]
        refine wp_alloc_is 31 rfl (alloc31 wn1) ?_
        simp only [Act.put, List.setIfInBounds_toArray, List.set_cons_zero, List.set_cons_succ]
        have Bn12 : Hid (Below w1.heap.size w1 (wn1.alloc (.cells (rcells rec0).toArray 31))) := below_then Bn1.out (below_alloc wn1 _)
        have sz12 : wn1.heap.size < (wn1.alloc (.cells (rcells rec0).toArray 31)).heap.size := by simp
        have G10n12 : Hid (RAt 31 (wn1.alloc (.cells (rcells rec0).toArray 31)) (wn1.heap.size) rec0) := RAt.new 31 wn1 rec0
        refine hKc.out _ _ ⟨R1.out.below Bn12.out R1.out.lt, S1.out.below Bn12.out S1.out.lt⟩ (fun hHeld => ?_)
        clear hKc Kc
        have bs12 := Bn1.out.size
        generalize wn1.alloc (.cells (rcells rec0).toArray 31) = wn12 at *
        refine wpAnyH_ready (rs := [3, 4]) (by kernel_rfl) (by simp) ?_
        refine AllReadyH.cons (by simp; rfl) (fun Kc hKc => ?_) (AllReadyH.cons (by simp; rfl) (fun Kc hKc => ?_) AllReadyH.nil)
        · go_simp
          refine (right_any s HS.out wn12).mono ?_
          rintro e wn13 ⟨y, h1, h2, rfl, bn⟩
          have HYW : Hid (y.Wf ∧ may y = true) := ⟨h1, h2⟩
          have sz13 := bn.size
          have Bn13 : Hid (Below w1.heap.size w1 wn13) := below_then Bn12.out bn
          have G10n13 : Hid (RAt 31 wn13 (wn1.heap.size) rec0) := G10n12.out.later bn
          clear h1 h2 bn
          refine hKc.out _ _ ⟨R1.out.below Bn13.out R1.out.lt, S1.out.below Bn13.out S1.out.lt⟩ (fun hHeld => ?_)
          clear hKc Kc
          refine wpAnyH_ready (rs := [4]) (by kernel_rfl) (by simp) ?_
          refine AllReadyH.cons (by simp; rfl) (fun Kc hKc => ?_) AllReadyH.nil
          · rw [if_pos (by rfl)]
            refine wp_alloc_is 31 rfl (alloc31 wn13) ?_
            simp only [Act.put, List.setIfInBounds_toArray, List.set_cons_zero, List.set_cons_succ]
            have Bn14 : Hid (Below w1.heap.size w1 (wn13.alloc (.cells (rcells rec0).toArray 31))) := below_then Bn13.out (below_alloc wn13 _)
            have sz14 : wn13.heap.size < (wn13.alloc (.cells (rcells rec0).toArray 31)).heap.size := by simp
            have G10n14 : Hid (RAt 31 (wn13.alloc (.cells (rcells rec0).toArray 31)) (wn1.heap.size) rec0) := G10n13.out.later (below_alloc wn13 _)
            have G9n14 : Hid (RAt 31 (wn13.alloc (.cells (rcells rec0).toArray 31)) (wn13.heap.size) rec0) := RAt.new 31 wn13 rec0
            refine hKc.out _ _ ⟨R1.out.below Bn14.out R1.out.lt, S1.out.below Bn14.out S1.out.lt⟩ (fun hHeld => ?_)
            clear hKc Kc
            have bs14 := Bn13.out.size
            generalize wn13.alloc (.cells (rcells rec0).toArray 31) = wn14 at *
            refine wpAnyH_ready (rs := [6]) (by kernel_rfl) (by simp) ?_
            refine AllReadyH.cons (by simp; rfl) (fun Kc hKc => ?_) AllReadyH.nil
            rw [if_pos (by rfl)]
            refine wp_store_is 31 rfl rfl rfl (RAt.store (s := x) size31 G9n14.out rec0_len HXW.out.1.len) ?_
            simp only [Act.put]
            refine hKc.out _ _ ⟨(R1.out.below Bn14.out R1.out.lt).other _ (by have := R1.out.lt; omega), (S1.out.below Bn14.out S1.out.lt).other _ (by have := S1.out.lt; omega)⟩ (fun hHeld => ?_)
            clear hKc Kc
            refine wpAnyH_ready (rs := [7]) (by kernel_rfl) (by simp) ?_
            refine AllReadyH.cons (by simp; rfl) (fun Kc hKc => ?_) AllReadyH.nil
            rw [if_pos (by rfl)]
            refine wp_store_is 31 rfl rfl rfl (RAt.store (s := y) size31 (G10n14.out.other (k := wn13.heap.size) _ (by omega)) rec0_len HYW.out.1.len) ?_
            simp only [Act.put]
            refine hKc.out _ _ ⟨((R1.out.below Bn14.out R1.out.lt).other _ (by have := R1.out.lt; omega)).other _ (by have := R1.out.lt; omega), ((S1.out.below Bn14.out S1.out.lt).other _ (by have := S1.out.lt; omega)).other _ (by have := S1.out.lt; omega)⟩ (fun hHeld => ?_)
            clear hKc Kc
            refine wpAnyH_done (by kernel_rfl) (NoPanic.normal ?_) _
            obtain ⟨f1, f2, f3⟩ := two_stored (x := x) (y := y) G9n14.out G10n14.out (by omega) Bn14.out (by omega) (by omega)
            exact ⟨x, y, wn13.heap.size, wn1.heap.size, rfl, ⟨HXW.out.1, HXW.out.2, HYW.out.1, HYW.out.2, f1, f2, f3⟩, rfl⟩
        · rw [if_pos (by rfl)]
          refine wp_alloc_is 31 rfl (alloc31 wn12) ?_
          simp only [Act.put, List.setIfInBounds_toArray, List.set_cons_zero, List.set_cons_succ]
          have Bn15 : Hid (Below w1.heap.size w1 (wn12.alloc (.cells (rcells rec0).toArray 31))) := below_then Bn12.out (below_alloc wn12 _)
          have sz15 : wn12.heap.size < (wn12.alloc (.cells (rcells rec0).toArray 31)).heap.size := by simp
          have G10n15 : Hid (RAt 31 (wn12.alloc (.cells (rcells rec0).toArray 31)) (wn1.heap.size) rec0) := G10n12.out.later (below_alloc wn12 _)
          have G9n15 : Hid (RAt 31 (wn12.alloc (.cells (rcells rec0).toArray 31)) (wn12.heap.size) rec0) := RAt.new 31 wn12 rec0
          refine hKc.out _ _ ⟨R1.out.below Bn15.out R1.out.lt, S1.out.below Bn15.out S1.out.lt⟩ (fun hHeld => ?_)
          clear hKc Kc
          have bs15 := Bn12.out.size
          generalize wn12.alloc (.cells (rcells rec0).toArray 31) = wn15 at *
          refine wpAnyH_ready (rs := [3]) (by kernel_rfl) (by simp) ?_
          refine AllReadyH.cons (by simp; rfl) (fun Kc hKc => ?_) AllReadyH.nil
          · go_simp
            refine (right_any s HS.out wn15).mono ?_
            rintro e wn16 ⟨y, h1, h2, rfl, bn⟩
            have HYW : Hid (y.Wf ∧ may y = true) := ⟨h1, h2⟩
            have sz16 := bn.size
            have Bn16 : Hid (Below w1.heap.size w1 wn16) := below_then Bn15.out bn
            have G9n16 : Hid (RAt 31 wn16 (wn12.heap.size) rec0) := G9n15.out.later bn
            have G10n16 : Hid (RAt 31 wn16 (wn1.heap.size) rec0) := G10n15.out.later bn
            clear h1 h2 bn
            refine hKc.out _ _ ⟨R1.out.below Bn16.out R1.out.lt, S1.out.below Bn16.out S1.out.lt⟩ (fun hHeld => ?_)
            clear hKc Kc
            refine wpAnyH_ready (rs := [6]) (by kernel_rfl) (by simp) ?_
            refine AllReadyH.cons (by simp; rfl) (fun Kc hKc => ?_) AllReadyH.nil
            rw [if_pos (by rfl)]
            refine wp_store_is 31 rfl rfl rfl (RAt.store (s := x) size31 G9n16.out rec0_len HXW.out.1.len) ?_
            simp only [Act.put]
            refine hKc.out _ _ ⟨(R1.out.below Bn16.out R1.out.lt).other _ (by have := R1.out.lt; omega), (S1.out.below Bn16.out S1.out.lt).other _ (by have := S1.out.lt; omega)⟩ (fun hHeld => ?_)
            clear hKc Kc
            refine wpAnyH_ready (rs := [7]) (by kernel_rfl) (by simp) ?_
            refine AllReadyH.cons (by simp; rfl) (fun Kc hKc => ?_) AllReadyH.nil
            rw [if_pos (by rfl)]
            refine wp_store_is 31 rfl rfl rfl (RAt.store (s := y) size31 (G10n16.out.other (k := wn12.heap.size) _ (by omega)) rec0_len HYW.out.1.len) ?_
            simp only [Act.put]
            refine hKc.out _ _ ⟨((R1.out.below Bn16.out R1.out.lt).other _ (by have := R1.out.lt; omega)).other _ (by have := R1.out.lt; omega), ((S1.out.below Bn16.out S1.out.lt).other _ (by have := S1.out.lt; omega)).other _ (by have := S1.out.lt; omega)⟩ (fun hHeld => ?_)
            clear hKc Kc
            refine wpAnyH_done (by kernel_rfl) (NoPanic.normal ?_) _
            obtain ⟨f1, f2, f3⟩ := two_stored (x := x) (y := y) G9n16.out G10n16.out (by omega) Bn16.out (by omega) (by omega)
            exact ⟨x, y, wn12.heap.size, wn1.heap.size, rfl, ⟨HXW.out.1, HXW.out.2, HYW.out.1, HYW.out.2, f1, f2, f3⟩, rfl⟩
    · rw [if_pos (by rfl)]
      refine wp_alloc_is 31 rfl (alloc31 wd) ?_
      simp only [Act.put, List.setIfInBounds_toArray, List.set_cons_zero, List.set_cons_succ]
      have Bn17 : Hid (Below w1.heap.size w1 (wd.alloc (.cells (rcells rec0).toArray 31))) := below_then B1d.out (below_alloc wd _)
      have sz17 : wd.heap.size < (wd.alloc (.cells (rcells rec0).toArray 31)).heap.size := by simp
      have G9n17 : Hid (RAt 31 (wd.alloc (.cells (rcells rec0).toArray 31)) (wd.heap.size) rec0) := RAt.new 31 wd rec0
      refine hKc.out _ _ ⟨R1.out.below Bn17.out R1.out.lt, S1.out.below Bn17.out S1.out.lt⟩ (fun hHeld => ?_)
      clear hKc Kc
      have bs17 := B1d.out.size
      generalize wd.alloc (.cells (rcells rec0).toArray 31) = wn17 at *
      refine wpAnyH_ready (rs := [1, 5]) (by kernel_rfl) (by simp) ?_
      refine AllReadyH.cons (by simp; rfl) (fun Kc hKc => ?_) (AllReadyH.cons (by simp; rfl) (fun Kc hKc => ?_) AllReadyH.nil)
      · go_simp
        refine (right_any r HR.out wn17).mono ?_
        rintro e wn18 ⟨x, h1, h2, rfl, bn⟩
        have HXW : Hid (x.Wf ∧ may x = true) := ⟨h1, h2⟩
        have sz18 := bn.size
        have Bn18 : Hid (Below w1.heap.size w1 wn18) := below_then Bn17.out bn
        have G9n18 : Hid (RAt 31 wn18 (wd.heap.size) rec0) := G9n17.out.later bn
        clear h1 h2 bn
        refine hKc.out _ _ ⟨R1.out.below Bn18.out R1.out.lt, S1.out.below Bn18.out S1.out.lt⟩ (fun hHeld => ?_)
        clear hKc Kc
        refine wpAnyH_ready (rs := [3, 5]) (by kernel_rfl) (by simp) ?_
        refine AllReadyH.cons (by simp; rfl) (fun Kc hKc => ?_) (AllReadyH.cons (by simp; rfl) (fun Kc hKc => ?_) AllReadyH.nil)
        · go_simp
          refine (right_any s HS.out wn18).mono ?_
          rintro e wn19 ⟨y, h1, h2, rfl, bn⟩
          have HYW : Hid (y.Wf ∧ may y = true) := ⟨h1, h2⟩
          have sz19 := bn.size
          have Bn19 : Hid (Below w1.heap.size w1 wn19) := below_then Bn18.out bn
          have G9n19 : Hid (RAt 31 wn19 (wd.heap.size) rec0) := G9n18.out.later bn
          clear h1 h2 bn
          refine hKc.out _ _ ⟨R1.out.below Bn19.out R1.out.lt, S1.out.below Bn19.out S1.out.lt⟩ (fun hHeld => ?_)
          clear hKc Kc
          refine wpAnyH_ready (rs := [5]) (by kernel_rfl) (by simp) ?_
          refine AllReadyH.cons (by simp; rfl) (fun Kc hKc => ?_) AllReadyH.nil
          · rw [if_pos (by rfl)]
            refine wp_alloc_is 31 rfl (alloc31 wn19) ?_
            simp only [Act.put, List.setIfInBounds_toArray, List.set_cons_zero, List.set_cons_succ]
            have Bn20 : Hid (Below w1.heap.size w1 (wn19.alloc (.cells (rcells rec0).toArray 31))) := below_then Bn19.out (below_alloc wn19 _)
            have sz20 : wn19.heap.size < (wn19.alloc (.cells (rcells rec0).toArray 31)).heap.size := by simp
            have G9n20 : Hid (RAt 31 (wn19.alloc (.cells (rcells rec0).toArray 31)) (wd.heap.size) rec0) := G9n19.out.later (below_alloc wn19 _)
            have G10n20 : Hid (RAt 31 (wn19.alloc (.cells (rcells rec0).toArray 31)) (wn19.heap.size) rec0) := RAt.new 31 wn19 rec0
            refine hKc.out _ _ ⟨R1.out.below Bn20.out R1.out.lt, S1.out.below Bn20.out S1.out.lt⟩ (fun hHeld => ?_)
            clear hKc Kc
            have bs20 := Bn19.out.size
            generalize wn19.alloc (.cells (rcells rec0).toArray 31) = wn20 at *
            refine wpAnyH_ready (rs := [6]) (by kernel_rfl) (by simp) ?_
            refine AllReadyH.cons (by simp; rfl) (fun Kc hKc => ?_) AllReadyH.nil
            rw [if_pos (by rfl)]
            refine wp_store_is 31 rfl rfl rfl (RAt.store (s := x) size31 G9n20.out rec0_len HXW.out.1.len) ?_
            simp only [Act.put]
            refine hKc.out _ _ ⟨(R1.out.below Bn20.out R1.out.lt).other _ (by have := R1.out.lt; omega), (S1.out.below Bn20.out S1.out.lt).other _ (by have := S1.out.lt; omega)⟩ (fun hHeld => ?_)
            clear hKc Kc
            refine wpAnyH_ready (rs := [7]) (by kernel_rfl) (by simp) ?_
            refine AllReadyH.cons (by simp; rfl) (fun Kc hKc => ?_) AllReadyH.nil
            rw [if_pos (by rfl)]
            refine wp_store_is 31 rfl rfl rfl (RAt.store (s := y) size31 (G10n20.out.other (k := wd.heap.size) _ (by omega)) rec0_len HYW.out.1.len) ?_
            simp only [Act.put]
            refine hKc.out _ _ ⟨((R1.out.below Bn20.out R1.out.lt).other _ (by have := R1.out.lt; omega)).other _ (by have := R1.out.lt; omega), ((S1.out.below Bn20.out S1.out.lt).other _ (by have := S1.out.lt; omega)).other _ (by have := S1.out.lt; omega)⟩ (fun hHeld => ?_)
            clear hKc Kc
            refine wpAnyH_done (by kernel_rfl) (NoPanic.normal ?_) _
            obtain ⟨f1, f2, f3⟩ := two_stored (x := x) (y := y) G9n20.out G10n20.out (by omega) Bn20.out (by omega) (by omega)
            exact ⟨x, y, wd.heap.size, wn19.heap.size, rfl, ⟨HXW.out.1, HXW.out.2, HYW.out.1, HYW.out.2, f1, f2, f3⟩, rfl⟩
        · rw [if_pos (by rfl)]
          refine wp_alloc_is 31 rfl (alloc31 wn18) ?_
          simp only [Act.put, List.setIfInBounds_toArray, List.set_cons_zero, List.set_cons_succ]
          have Bn21 : Hid (Below w1.heap.size w1 (wn18.alloc (.cells (rcells rec0).toArray 31))) := below_then Bn18.out (below_alloc wn18 _)
          have sz21 : wn18.heap.size < (wn18.alloc (.cells (rcells rec0).toArray 31)).heap.size := by simp
          have G9n21 : Hid (RAt 31 (wn18.alloc (.cells (rcells rec0).toArray 31)) (wd.heap.size) rec0) := G9n18.out.later (below_alloc wn18 _)
          have G10n21 : Hid (RAt 31 (wn18.alloc (.cells (rcells rec0).toArray 31)) (wn18.heap.size) rec0) := RAt.new 31 wn18 rec0
          refine hKc.out _ _ ⟨R1.out.below Bn21.out R1.out.lt, S1.out.below Bn21.out S1.out.lt⟩ (fun hHeld => ?_)
          clear hKc Kc
          have bs21 := Bn18.out.size
          generalize wn18.alloc (.cells (rcells rec0).toArray 31) = wn21 at *
          refine wpAnyH_ready (rs := [3]) (by kernel_rfl) (by simp) ?_
          refine AllReadyH.cons (by simp; rfl) (fun Kc hKc => ?_) AllReadyH.nil
          · go_simp
            refine (right_any s HS.out wn21).mono ?_
            rintro e wn22 ⟨y, h1, h2, rfl, bn⟩
            have HYW : Hid (y.Wf ∧ may y = true) := ⟨h1, h2⟩
            have sz22 := bn.size
            have Bn22 : Hid (Below w1.heap.size w1 wn22) := below_then Bn21.out bn
            have G9n22 : Hid (RAt 31 wn22 (wd.heap.size) rec0) := G9n21.out.later bn
            have G10n22 : Hid (RAt 31 wn22 (wn18.heap.size) rec0) := G10n21.out.later bn
            clear h1 h2 bn
            refine hKc.out _ _ ⟨R1.out.below Bn22.out R1.out.lt, S1.out.below Bn22.out S1.out.lt⟩ (fun hHeld => ?_)
            clear hKc Kc
            refine wpAnyH_ready (rs := [6]) (by kernel_rfl) (by simp) ?_
            refine AllReadyH.cons (by simp; rfl) (fun Kc hKc => ?_) AllReadyH.nil
            rw [if_pos (by rfl)]
            refine wp_store_is 31 rfl rfl rfl (RAt.store (s := x) size31 G9n22.out rec0_len HXW.out.1.len) ?_
            simp only [Act.put]
            refine hKc.out _ _ ⟨(R1.out.below Bn22.out R1.out.lt).other _ (by have := R1.out.lt; omega), (S1.out.below Bn22.out S1.out.lt).other _ (by have := S1.out.lt; omega)⟩ (fun hHeld => ?_)
            clear hKc Kc
            refine wpAnyH_ready (rs := [7]) (by kernel_rfl) (by simp) ?_
            refine AllReadyH.cons (by simp; rfl) (fun Kc hKc => ?_) AllReadyH.nil
            rw [if_pos (by rfl)]
            refine wp_store_is 31 rfl rfl rfl (RAt.store (s := y) size31 (G10n22.out.other (k := wd.heap.size) _ (by omega)) rec0_len HYW.out.1.len) ?_
            simp only [Act.put]
            refine hKc.out _ _ ⟨((R1.out.below Bn22.out R1.out.lt).other _ (by have := R1.out.lt; omega)).other _ (by have := R1.out.lt; omega), ((S1.out.below Bn22.out S1.out.lt).other _ (by have := S1.out.lt; omega)).other _ (by have := S1.out.lt; omega)⟩ (fun hHeld => ?_)
            clear hKc Kc
            refine wpAnyH_done (by kernel_rfl) (NoPanic.normal ?_) _
            obtain ⟨f1, f2, f3⟩ := two_stored (x := x) (y := y) G9n22.out G10n22.out (by omega) Bn22.out (by omega) (by omega)
            exact ⟨x, y, wd.heap.size, wn18.heap.size, rfl, ⟨HXW.out.1, HXW.out.2, HYW.out.1, HYW.out.2, f1, f2, f3⟩, rfl⟩
      · rw [if_pos (by rfl)]
        refine wp_alloc_is 31 rfl (alloc31 wn17) ?_
        simp only [Act.put, List.setIfInBounds_toArray, List.set_cons_zero, List.set_cons_succ]
        have Bn23 : Hid (Below w1.heap.size w1 (wn17.alloc (.cells (rcells rec0).toArray 31))) := below_then Bn17.out (below_alloc wn17 _)
        have sz23 : wn17.heap.size < (wn17.alloc (.cells (rcells rec0).toArray 31)).heap.size := by simp
        have G9n23 : Hid (RAt 31 (wn17.alloc (.cells (rcells rec0).toArray 31)) (wd.heap.size) rec0) := G9n17.out.later (below_alloc wn17 _)
        have G10n23 : Hid (RAt 31 (wn17.alloc (.cells (rcells rec0).toArray 31)) (wn17.heap.size) rec0) := RAt.new 31 wn17 rec0
        refine hKc.out _ _ ⟨R1.out.below Bn23.out R1.out.lt, S1.out.below Bn23.out S1.out.lt⟩ (fun hHeld => ?_)
        clear hKc Kc
        have bs23 := Bn17.out.size
        generalize wn17.alloc (.cells (rcells rec0).toArray 31) = wn23 at *
        refine wpAnyH_ready (rs := [1]) (by kernel_rfl) (by simp) ?_
        refine AllReadyH.cons (by simp; rfl) (fun Kc hKc => ?_) AllReadyH.nil
        · go_simp
          refine (right_any r HR.out wn23).mono ?_
          rintro e wn24 ⟨x, h1, h2, rfl, bn⟩
          have HXW : Hid (x.Wf ∧ may x = true) := ⟨h1, h2⟩
          have sz24 := bn.size
          have Bn24 : Hid (Below w1.heap.size w1 wn24) := below_then Bn23.out bn
          have G9n24 : Hid (RAt 31 wn24 (wd.heap.size) rec0) := G9n23.out.later bn
          have G10n24 : Hid (RAt 31 wn24 (wn17.heap.size) rec0) := G10n23.out.later bn
          clear h1 h2 bn
          refine hKc.out _ _ ⟨R1.out.below Bn24.out R1.out.lt, S1.out.below Bn24.out S1.out.lt⟩ (fun hHeld => ?_)
          clear hKc Kc
          refine wpAnyH_ready (rs := [3]) (by kernel_rfl) (by simp) ?_
          refine AllReadyH.cons (by simp; rfl) (fun Kc hKc => ?_) AllReadyH.nil
          · go_simp
            refine (right_any s HS.out wn24).mono ?_
            rintro e wn25 ⟨y, h1, h2, rfl, bn⟩
            have HYW : Hid (y.Wf ∧ may y = true) := ⟨h1, h2⟩
            have sz25 := bn.size
            have Bn25 : Hid (Below w1.heap.size w1 wn25) := below_then Bn24.out bn
            have G9n25 : Hid (RAt 31 wn25 (wd.heap.size) rec0) := G9n24.out.later bn
            have G10n25 : Hid (RAt 31 wn25 (wn17.heap.size) rec0) := G10n24.out.later bn
            clear h1 h2 bn
            refine hKc.out _ _ ⟨R1.out.below Bn25.out R1.out.lt, S1.out.below Bn25.out S1.out.lt⟩ (fun hHeld => ?_)
            clear hKc Kc
            refine wpAnyH_ready (rs := [6]) (by kernel_rfl) (by simp) ?_
            refine AllReadyH.cons (by simp; rfl) (fun Kc hKc => ?_) AllReadyH.nil
            rw [if_pos (by rfl)]
            refine wp_store_is 31 rfl rfl rfl (RAt.store (s := x) size31 G9n25.out rec0_len HXW.out.1.len) ?_
            simp only [Act.put]
            refine hKc.out _ _ ⟨(R1.out.below Bn25.out R1.out.lt).other _ (by have := R1.out.lt; omega), (S1.out.below Bn25.out S1.out.lt).other _ (by have := S1.out.lt; omega)⟩ (fun hHeld => ?_)
            clear hKc Kc
            refine wpAnyH_ready (rs := [7]) (by kernel_rfl) (by simp) ?_
            refine AllReadyH.cons (by simp; rfl) (fun Kc hKc => ?_) AllReadyH.nil
            rw [if_pos (by rfl)]
            refine wp_store_is 31 rfl rfl rfl (RAt.store (s := y) size31 (G10n25.out.other (k := wd.heap.size) _ (by omega)) rec0_len HYW.out.1.len) ?_
            simp only [Act.put]
            refine hKc.out _ _ ⟨((R1.out.below Bn25.out R1.out.lt).other _ (by have := R1.out.lt; omega)).other _ (by have := R1.out.lt; omega), ((S1.out.below Bn25.out S1.out.lt).other _ (by have := S1.out.lt; omega)).other _ (by have := S1.out.lt; omega)⟩ (fun hHeld => ?_)
            clear hKc Kc
            refine wpAnyH_done (by kernel_rfl) (NoPanic.normal ?_) _
            obtain ⟨f1, f2, f3⟩ := two_stored (x := x) (y := y) G9n25.out G10n25.out (by omega) Bn25.out (by omega) (by omega)
            exact ⟨x, y, wd.heap.size, wn17.heap.size, rfl, ⟨HXW.out.1, HXW.out.2, HYW.out.1, HYW.out.2, f1, f2, f3⟩, rfl⟩
    · rw [if_pos (by rfl)]
      refine wp_alloc_is 31 rfl (alloc31 wd) ?_
      simp only [Act.put, List.setIfInBounds_toArray, List.set_cons_zero, List.set_cons_succ]
      have Bn26 : Hid (Below w1.heap.size w1 (wd.alloc (.cells (rcells rec0).toArray 31))) := below_then B1d.out (below_alloc wd _)
      have sz26 : wd.heap.size < (wd.alloc (.cells (rcells rec0).toArray 31)).heap.size := by simp
      have G10n26 : Hid (RAt 31 (wd.alloc (.cells (rcells rec0).toArray 31)) (wd.heap.size) rec0) := RAt.new 31 wd rec0
      refine hKc.out _ _ ⟨R1.out.below Bn26.out R1.out.lt, S1.out.below Bn26.out S1.out.lt⟩ (fun hHeld => ?_)
      clear hKc Kc
      have bs26 := B1d.out.size
      generalize wd.alloc (.cells (rcells rec0).toArray 31) = wn26 at *
      refine wpAnyH_ready (rs := [1, 4]) (by kernel_rfl) (by simp) ?_
      refine AllReadyH.cons (by simp; rfl) (fun Kc hKc => ?_) (AllReadyH.cons (by simp; rfl) (fun Kc hKc => ?_) AllReadyH.nil)
      · go_simp
        refine (right_any r HR.out wn26).mono ?_
        rintro e wn27 ⟨x, h1, h2, rfl, bn⟩
        have HXW : Hid (x.Wf ∧ may x = true) := ⟨h1, h2⟩
        have sz27 := bn.size
        have Bn27 : Hid (Below w1.heap.size w1 wn27) := below_then Bn26.out bn
        have G10n27 : Hid (RAt 31 wn27 (wd.heap.size) rec0) := G10n26.out.later bn
        clear h1 h2 bn
        refine hKc.out _ _ ⟨R1.out.below Bn27.out R1.out.lt, S1.out.below Bn27.out S1.out.lt⟩ (fun hHeld => ?_)
        clear hKc Kc
        refine wpAnyH_ready (rs := [3, 4]) (by kernel_rfl) (by simp) ?_
        refine AllReadyH.cons (by simp; rfl) (fun Kc hKc => ?_) (AllReadyH.cons (by simp; rfl) (fun Kc hKc => ?_) AllReadyH.nil)
        · go_simp
          refine (right_any s HS.out wn27).mono ?_
          rintro e wn28 ⟨y, h1, h2, rfl, bn⟩
          have HYW : Hid (y.Wf ∧ may y = true) := ⟨h1, h2⟩
          have sz28 := bn.size
          have Bn28 : Hid (Below w1.heap.size w1 wn28) := below_then Bn27.out bn
          have G10n28 : Hid (RAt 31 wn28 (wd.heap.size) rec0) := G10n27.out.later bn
          clear h1 h2 bn
          refine hKc.out _ _ ⟨R1.out.below Bn28.out R1.out.lt, S1.out.below Bn28.out S1.out.lt⟩ (fun hHeld => ?_)
          clear hKc Kc
          refine wpAnyH_ready (rs := [4]) (by kernel_rfl) (by simp) ?_
          refine AllReadyH.cons (by simp; rfl) (fun Kc hKc => ?_) AllReadyH.nil
          · rw [if_pos (by rfl)]
            refine wp_alloc_is 31 rfl (alloc31 wn28) ?_
            simp only [Act.put, List.setIfInBounds_toArray, List.set_cons_zero, List.set_cons_succ]
            have Bn29 : Hid (Below w1.heap.size w1 (wn28.alloc (.cells (rcells rec0).toArray 31))) := below_then Bn28.out (below_alloc wn28 _)
            have sz29 : wn28.heap.size < (wn28.alloc (.cells (rcells rec0).toArray 31)).heap.size := by simp
            have G10n29 : Hid (RAt 31 (wn28.alloc (.cells (rcells rec0).toArray 31)) (wd.heap.size) rec0) := G10n28.out.later (below_alloc wn28 _)
            have G9n29 : Hid (RAt 31 (wn28.alloc (.cells (rcells rec0).toArray 31)) (wn28.heap.size) rec0) := RAt.new 31 wn28 rec0
            refine hKc.out _ _ ⟨R1.out.below Bn29.out R1.out.lt, S1.out.below Bn29.out S1.out.lt⟩ (fun hHeld => ?_)
            clear hKc Kc
            have bs29 := Bn28.out.size
            generalize wn28.alloc (.cells (rcells rec0).toArray 31) = wn29 at *
            refine wpAnyH_ready (rs := [6]) (by kernel_rfl) (by simp) ?_
            refine AllReadyH.cons (by simp; rfl) (fun Kc hKc => ?_) AllReadyH.nil
            rw [if_pos (by rfl)]
            refine wp_store_is 31 rfl rfl rfl (RAt.store (s := x) size31 G9n29.out rec0_len HXW.out.1.len) ?_
            simp only [Act.put]
            refine hKc.out _ _ ⟨(R1.out.below Bn29.out R1.out.lt).other _ (by have := R1.out.lt; omega), (S1.out.below Bn29.out S1.out.lt).other _ (by have := S1.out.lt; omega)⟩ (fun hHeld => ?_)
            clear hKc Kc
            refine wpAnyH_ready (rs := [7]) (by kernel_rfl) (by simp) ?_
            refine AllReadyH.cons (by simp; rfl) (fun Kc hKc => ?_) AllReadyH.nil
            rw [if_pos (by rfl)]
            refine wp_store_is 31 rfl rfl rfl (RAt.store (s := y) size31 (G10n29.out.other (k := wn28.heap.size) _ (by omega)) rec0_len HYW.out.1.len) ?_
            simp only [Act.put]
            refine hKc.out _ _ ⟨((R1.out.below Bn29.out R1.out.lt).other _ (by have := R1.out.lt; omega)).other _ (by have := R1.out.lt; omega), ((S1.out.below Bn29.out S1.out.lt).other _ (by have := S1.out.lt; omega)).other _ (by have := S1.out.lt; omega)⟩ (fun hHeld => ?_)
            clear hKc Kc
            refine wpAnyH_done (by kernel_rfl) (NoPanic.normal ?_) _
            obtain ⟨f1, f2, f3⟩ := two_stored (x := x) (y := y) G9n29.out G10n29.out (by omega) Bn29.out (by omega) (by omega)
            exact ⟨x, y, wn28.heap.size, wd.heap.size, rfl, ⟨HXW.out.1, HXW.out.2, HYW.out.1, HYW.out.2, f1, f2, f3⟩, rfl⟩
        · rw [if_pos (by rfl)]
          refine wp_alloc_is 31 rfl (alloc31 wn27) ?_
          simp only [Act.put, List.setIfInBounds_toArray, List.set_cons_zero, List.set_cons_succ]
          have Bn30 : Hid (Below w1.heap.size w1 (wn27.alloc (.cells (rcells rec0).toArray 31))) := below_then Bn27.out (below_alloc wn27 _)
          have sz30 : wn27.heap.size < (wn27.alloc (.cells (rcells rec0).toArray 31)).heap.size := by simp
          have G10n30 : Hid (RAt 31 (wn27.alloc (.cells (rcells rec0).toArray 31)) (wd.heap.size) rec0) := G10n27.out.later (below_alloc wn27 _)
          have G9n30 : Hid (RAt 31 (wn27.alloc (.cells (rcells rec0).toArray 31)) (wn27.heap.size) rec0) := RAt.new 31 wn27 rec0
          refine hKc.out _ _ ⟨R1.out.below Bn30.out R1.out.lt, S1.out.below Bn30.out S1.out.lt⟩ (fun hHeld => ?_)
          clear hKc Kc
          have bs30 := Bn27.out.size
          generalize wn27.alloc (.cells (rcells rec0).toArray 31) = wn30 at *
          refine wpAnyH_ready (rs := [3]) (by kernel_rfl) (by simp) ?_
          refine AllReadyH.cons (by simp; rfl) (fun Kc hKc => ?_) AllReadyH.nil
          · go_simp
            refine (right_any s HS.out wn30).mono ?_
            rintro e wn31 ⟨y, h1, h2, rfl, bn⟩
            have HYW : Hid (y.Wf ∧ may y = true) := ⟨h1, h2⟩
            have sz31 := bn.size
            have Bn31 : Hid (Below w1.heap.size w1 wn31) := below_then Bn30.out bn
            have G9n31 : Hid (RAt 31 wn31 (wn27.heap.size) rec0) := G9n30.out.later bn
            have G10n31 : Hid (RAt 31 wn31 (wd.heap.size) rec0) := G10n30.out.later bn
            clear h1 h2 bn
            refine hKc.out _ _ ⟨R1.out.below Bn31.out R1.out.lt, S1.out.below Bn31.out S1.out.lt⟩ (fun hHeld => ?_)
            clear hKc Kc
            refine wpAnyH_ready (rs := [6]) (by kernel_rfl) (by simp) ?_
            refine AllReadyH.cons (by simp; rfl) (fun Kc hKc => ?_) AllReadyH.nil
            rw [if_pos (by rfl)]
            refine wp_store_is 31 rfl rfl rfl (RAt.store (s := x) size31 G9n31.out rec0_len HXW.out.1.len) ?_
            simp only [Act.put]
            refine hKc.out _ _ ⟨(R1.out.below Bn31.out R1.out.lt).other _ (by have := R1.out.lt; omega), (S1.out.below Bn31.out S1.out.lt).other _ (by have := S1.out.lt; omega)⟩ (fun hHeld => ?_)
            clear hKc Kc
            refine wpAnyH_ready (rs := [7]) (by kernel_rfl) (by simp) ?_
            refine AllReadyH.cons (by simp; rfl) (fun Kc hKc => ?_) AllReadyH.nil
            rw [if_pos (by rfl)]
            refine wp_store_is 31 rfl rfl rfl (RAt.store (s := y) size31 (G10n31.out.other (k := wn27.heap.size) _ (by omega)) rec0_len HYW.out.1.len) ?_
            simp only [Act.put]
            refine hKc.out _ _ ⟨((R1.out.below Bn31.out R1.out.lt).other _ (by have := R1.out.lt; omega)).other _ (by have := R1.out.lt; omega), ((S1.out.below Bn31.out S1.out.lt).other _ (by have := S1.out.lt; omega)).other _ (by have := S1.out.lt; omega)⟩ (fun hHeld => ?_)
            clear hKc Kc
            refine wpAnyH_done (by kernel_rfl) (NoPanic.normal ?_) _
            obtain ⟨f1, f2, f3⟩ := two_stored (x := x) (y := y) G9n31.out G10n31.out (by omega) Bn31.out (by omega) (by omega)
            exact ⟨x, y, wn27.heap.size, wd.heap.size, rfl, ⟨HXW.out.1, HXW.out.2, HYW.out.1, HYW.out.2, f1, f2, f3⟩, rfl⟩
      · rw [if_pos (by rfl)]
        refine wp_alloc_is 31 rfl (alloc31 wn26) ?_
        simp only [Act.put, List.setIfInBounds_toArray, List.set_cons_zero, List.set_cons_succ]
        have Bn32 : Hid (Below w1.heap.size w1 (wn26.alloc (.cells (rcells rec0).toArray 31))) := below_then Bn26.out (below_alloc wn26 _)
        have sz32 : wn26.heap.size < (wn26.alloc (.cells (rcells rec0).toArray 31)).heap.size := by simp
        have G10n32 : Hid (RAt 31 (wn26.alloc (.cells (rcells rec0).toArray 31)) (wd.heap.size) rec0) := G10n26.out.later (below_alloc wn26 _)
        have G9n32 : Hid (RAt 31 (wn26.alloc (.cells (rcells rec0).toArray 31)) (wn26.heap.size) rec0) := RAt.new 31 wn26 rec0
        refine hKc.out _ _ ⟨R1.out.below Bn32.out R1.out.lt, S1.out.below Bn32.out S1.out.lt⟩ (fun hHeld => ?_)
        clear hKc Kc
        have bs32 := Bn26.out.size
        generalize wn26.alloc (.cells (rcells rec0).toArray 31) = wn32 at *
        refine wpAnyH_ready (rs := [1]) (by kernel_rfl) (by simp) ?_
        refine AllReadyH.cons (by simp; rfl) (fun Kc hKc => ?_) AllReadyH.nil
        · go_simp
          refine (right_any r HR.out wn32).mono ?_
          rintro e wn33 ⟨x, h1, h2, rfl, bn⟩
          have HXW : Hid (x.Wf ∧ may x = true) := ⟨h1, h2⟩
          have sz33 := bn.size
          have Bn33 : Hid (Below w1.heap.size w1 wn33) := below_then Bn32.out bn
          have G9n33 : Hid (RAt 31 wn33 (wn26.heap.size) rec0) := G9n32.out.later bn
          have G10n33 : Hid (RAt 31 wn33 (wd.heap.size) rec0) := G10n32.out.later bn
          clear h1 h2 bn
          refine hKc.out _ _ ⟨R1.out.below Bn33.out R1.out.lt, S1.out.below Bn33.out S1.out.lt⟩ (fun hHeld => ?_)
          clear hKc Kc
          refine wpAnyH_ready (rs := [3]) (by kernel_rfl) (by simp) ?_
          refine AllReadyH.cons (by simp; rfl) (fun Kc hKc => ?_) AllReadyH.nil
          · go_simp
            refine (right_any s HS.out wn33).mono ?_
            rintro e wn34 ⟨y, h1, h2, rfl, bn⟩
            have HYW : Hid (y.Wf ∧ may y = true) := ⟨h1, h2⟩
            have sz34 := bn.size
            have Bn34 : Hid (Below w1.heap.size w1 wn34) := below_then Bn33.out bn
            have G9n34 : Hid (RAt 31 wn34 (wn26.heap.size) rec0) := G9n33.out.later bn
            have G10n34 : Hid (RAt 31 wn34 (wd.heap.size) rec0) := G10n33.out.later bn
            clear h1 h2 bn
            refine hKc.out _ _ ⟨R1.out.below Bn34.out R1.out.lt, S1.out.below Bn34.out S1.out.lt⟩ (fun hHeld => ?_)
            clear hKc Kc
            refine wpAnyH_ready (rs := [6]) (by kernel_rfl) (by simp) ?_
            refine AllReadyH.cons (by simp; rfl) (fun Kc hKc => ?_) AllReadyH.nil
            rw [if_pos (by rfl)]
            refine wp_store_is 31 rfl rfl rfl (RAt.store (s := x) size31 G9n34.out rec0_len HXW.out.1.len) ?_
            simp only [Act.put]
            refine hKc.out _ _ ⟨(R1.out.below Bn34.out R1.out.lt).other _ (by have := R1.out.lt; omega), (S1.out.below Bn34.out S1.out.lt).other _ (by have := S1.out.lt; omega)⟩ (fun hHeld => ?_)
            clear hKc Kc
            refine wpAnyH_ready (rs := [7]) (by kernel_rfl) (by simp) ?_
            refine AllReadyH.cons (by simp; rfl) (fun Kc hKc => ?_) AllReadyH.nil
            rw [if_pos (by rfl)]
            refine wp_store_is 31 rfl rfl rfl (RAt.store (s := y) size31 (G10n34.out.other (k := wn26.heap.size) _ (by omega)) rec0_len HYW.out.1.len) ?_
            simp only [Act.put]
            refine hKc.out _ _ ⟨((R1.out.below Bn34.out R1.out.lt).other _ (by have := R1.out.lt; omega)).other _ (by have := R1.out.lt; omega), ((S1.out.below Bn34.out S1.out.lt).other _ (by have := S1.out.lt; omega)).other _ (by have := S1.out.lt; omega)⟩ (fun hHeld => ?_)
            clear hKc Kc
            refine wpAnyH_done (by kernel_rfl) (NoPanic.normal ?_) _
            obtain ⟨f1, f2, f3⟩ := two_stored (x := x) (y := y) G9n34.out G10n34.out (by omega) Bn34.out (by omega) (by omega)
            exact ⟨x, y, wn26.heap.size, wd.heap.size, rfl, ⟨HXW.out.1, HXW.out.2, HYW.out.1, HYW.out.2, f1, f2, f3⟩, rfl⟩
  case rest =>
    rintro e a W ⟨x, y, g9, g10, rfl, HF, rfl⟩
    have X0 : Hid (x.Wf ∧ may x = true) := ⟨HF.out.1, HF.out.2.1⟩
    have Y0 : Hid (y.Wf ∧ may y = true) := ⟨HF.out.2.2.1, HF.out.2.2.2.1⟩
    have X9 : Hid (RAt 31 W g9 x) := HF.out.2.2.2.2.1
    have Y10 : Hid (RAt 31 W g10 y) := HF.out.2.2.2.2.2.1
    have BW : Hid (Below w.heap.size w W) := below_then B1.out HF.out.2.2.2.2.2.2
    have L9 : Hid (_) := X9.out.load31 X0.out.1.len
    clear HF R1 S1 B1
    go_wp2_with ((with_reducible refine at_ops ?_); (refine wpList_load_is (by rfl) 31 rfl rfl L9.out ?_); simp only [Act.put, List.setIfInBounds_toArray, List.set_cons_zero, List.set_cons_succ])
    refine (encode_good x X0.out.1 X0.out.2 W (HT.out.later BW.out)).mono ?_
    rintro e w3 ⟨p, c, rfl, m3⟩
    obtain ⟨gb, rfl, hgb, -⟩ := m3.at (by omega)
    have B3 : Hid (Below w.heap.size w w3) := below_then BW.out m3.below
    have O3 : Hid (w3.ownsRow w.heap.size 5 1 (.slice (some ⟨gb, 0, none⟩) 64 c) 64 (U8 (encS x))) := own_mono m3.own BW.out.size
    have E3 : Hid (BIn w3 (some ⟨gb, 0, none⟩) 64 (encS x)) := m3.read
    have X3 : Hid (RAt 31 w3 g9 x) := X9.out.later m3.below
    have Y3 : Hid (RAt 31 w3 g10 y) := Y10.out.later m3.below
    have hc64 := m3.le
    have hwb : w.heap.size ≤ gb := by have := BW.out.size; omega
    have L10 : Hid (_) := Y3.out.load31 Y0.out.1.len
    clear m3 X9 Y10 L9 BW hgb
    go_wp2_with ((with_reducible refine at_ops ?_); (refine wpList_load_is (by rfl) 31 rfl rfl L10.out ?_); simp only [Act.put, List.setIfInBounds_toArray, List.set_cons_zero, List.set_cons_succ])
    refine (encode_good y Y0.out.1 Y0.out.2 w3 (HT.out.later B3.out)).mono ?_
    rintro e w4 ⟨pc, cc, rfl, m4⟩
    have B4 : Hid (Below w.heap.size w w4) := below_then B3.out m4.below
    have O4 : Hid (w4.ownsRow w.heap.size 5 1 (.slice (some ⟨gb, 0, none⟩) 64 c) 64 (U8 (encS x))) := own_later O3.out m4.below
    have E4 : Hid (BIn w4 (some ⟨gb, 0, none⟩) 64 (encS x)) := E3.out.later m4.below
    have C4 : Hid (BIn w4 pc 64 (encS y)) := m4.read
    have X4 : Hid (RAt 31 w4 g9 x) := X3.out.later m4.below
    have Y4 : Hid (RAt 31 w4 g10 y) := Y3.out.later m4.below
    clear m4 O3 E3 X3 Y3 L10 B3
    go_wp2_with fail
    refine (decode_any _ 64 c _ w4 E4.out hc64 (HT.out.later B4.out)).mono ?_
    rintro e w5 ⟨rfl, b5⟩
    rw [decS_encS x X0.out.1 X0.out.2]
    have A5 : Hid (_) := alloc31 w5
    have S5 : Hid (_) := store_new size31 w5 x X0.out.1.len
    obtain ⟨w6, hw6⟩ : ∃ w6, w6 = w5.alloc (.cells (rcells x).toArray 31) := ⟨_, rfl⟩
    have b56 : Below w5.heap.size w5 w6 := by rw [hw6]; exact below_alloc w5 _
    have b46 := below_then b5 b56
    have B6 : Hid (Below w.heap.size w w6) := below_then B4.out b46
    have O6 : Hid (w6.ownsRow w.heap.size 5 1 (.slice (some ⟨gb, 0, none⟩) 64 c) 64 (U8 (encS x))) := own_later O4.out b46
    have ZZ : Hid (RAt 31 w6 w5.heap.size x ∧ RAt 31 w6 g9 x ∧ RAt 31 w6 g10 y ∧ BIn w6 (some ⟨gb, 0, none⟩) 64 (encS x) ∧ BIn w6 pc 64 (encS y)) := ⟨by rw [hw6]; exact RAt.new 31 w5 x, X4.out.later b46, Y4.out.later b46, E4.out.later b46, C4.out.later b46⟩
    rw [← hw6] at S5
    clear b5 b56 b46 O4 E4 C4 X4 Y4 B4 hw6
    have hq : ((strOfNums (encS x)).toList == (strOfNums (encS y)).toList) = recB x y := by
      rw [str_eq _ _ (encS_bytes x X0.out.1 X0.out.2) (encS_bytes y Y0.out.1 Y0.out.2), Bool.eq_iff_iff, decide_eq_true_eq, recB_iff]
      exact ⟨encS_inj x y X0.out.1 Y0.out.1 X0.out.2 Y0.out.2, fun h => by rw [h]⟩
    have HQ : Hid (_) := hq
    have N13 : Hid (∀ w, (binOp .neq 31 (.agg (rcells x).toArray) (.agg (rcells x).toArray)).run Tryd.prog w = .ok (.bool false) w) := fun w => by
      have := neq31 w x x X0.out.1.len X0.out.1.len
      rw [recB_same x] at this
      exact this
    have Q33 : Hid (∀ w, (binOp .eql 31 (.agg (rcells x).toArray) (.agg (rcells y).toArray)).run Tryd.prog w = .ok (.bool (recB x y)) w) := fun w => eql31 w x y X0.out.1.len Y0.out.1.len
    clear hq
    go_wp2_with ((with_reducible refine at_ops ?_); (first | (refine wpList_alloc_is (by rfl) 31 rfl A5.out ?_) | (refine wpList_store_is (by rfl) 31 rfl rfl rfl S5.out ?_)); simp only [Act.put, List.setIfInBounds_toArray, List.set_cons_zero, List.set_cons_succ])
    refine wp_region_noPanic ?_
    refine wp_region_held_drew (S := fun w' => RAt 31 w' w5.heap.size x ∧ RAt 31 w' g9 x ∧ RAt 31 w' g10 y ∧ BIn w' (some ⟨gb, 0, none⟩) 64 (encS x) ∧ BIn w' pc 64 (encS y)) (by kernel_rfl) ⟨ZZ.out.1, ZZ.out.2.1, ZZ.out.2.2.1, ZZ.out.2.2.2.1.drew, ZZ.out.2.2.2.2.drew⟩ (fun hHeld => ?_)
    refine wpAnyH_take (i := 0) (v := ?v0b) (by simp; rfl) (by kernel_rfl) (by kernel_rfl) (by kernel_rfl) (fun _ _ _ h => h) (Or.inl ⟨by rfl, ?y0b⟩) hHeld ?r0b
    case y0b => intro w hSw; clear hSw; go_simp; with_reducible rfl
    simp only [Act.put, List.setIfInBounds_toArray, List.set_cons_zero, List.set_cons_succ]
    refine wpAnyH_take (i := 1) (v := ?v1b) (by simp; rfl) (by kernel_rfl) (by kernel_rfl) (by kernel_rfl) (fun _ _ _ h => h) (Or.inl ⟨by rfl, ?y1b⟩) hHeld ?r1b
    case y1b => intro w hSw; clear hSw; go_simp; with_reducible rfl
    simp only [Act.put, List.setIfInBounds_toArray, List.set_cons_zero, List.set_cons_succ]
    refine wpAnyH_take (i := 2) (v := ?v2b) (by simp; rfl) (by kernel_rfl) (by kernel_rfl) (by kernel_rfl) (fun _ _ _ h => h) (Or.inl ⟨by rfl, ?y2b⟩) hHeld ?r2b
    case y2b => intro w hSw; clear hSw; go_simp; with_reducible rfl
    simp only [Act.put, List.setIfInBounds_toArray, List.set_cons_zero, List.set_cons_succ]
    refine wpAnyH_take (i := 3) (v := ?v3b) (by simp; rfl) (by kernel_rfl) (by kernel_rfl) (by kernel_rfl) (fun _ _ _ h => h) (Or.inl ⟨by rfl, ?y3b⟩) hHeld ?r3b
    case y3b => intro w hSw; clear hSw; go_simp; with_reducible rfl
    simp only [Act.put, List.setIfInBounds_toArray, List.set_cons_zero, List.set_cons_succ]
    refine wpAnyH_take (i := 4) (v := ?v4b) (by simp; rfl) (by kernel_rfl) (by kernel_rfl) (by kernel_rfl) (fun _ _ _ h => h) (Or.inl ⟨by rfl, ?y4b⟩) hHeld ?r4b
    case y4b => intro w hSw; clear hSw; go_simp; with_reducible rfl
    simp only [Act.put, List.setIfInBounds_toArray, List.set_cons_zero, List.set_cons_succ]
    refine wpAnyH_take (i := 5) (v := ?v5b) (by simp; rfl) (by kernel_rfl) (by kernel_rfl) (by kernel_rfl) (fun _ _ _ h => h) (Or.inl ⟨by rfl, ?y5b⟩) hHeld ?r5b
    case y5b => intro w hSw; clear hSw; go_simp; with_reducible rfl
    simp only [Act.put, List.setIfInBounds_toArray, List.set_cons_zero, List.set_cons_succ]
    refine wpAnyH_take (i := 6) (v := ?v6b) (by simp; rfl) (by kernel_rfl) (by kernel_rfl) (by kernel_rfl) (fun _ _ _ h => h) (Or.inl ⟨by rfl, ?y6b⟩) hHeld ?r6b
    case y6b => intro w hSw; clear hSw; go_simp; with_reducible rfl
    simp only [Act.put, List.setIfInBounds_toArray, List.set_cons_zero, List.set_cons_succ]
    refine wpAnyH_take (i := 7) (v := ?v7b) (by simp; rfl) (by kernel_rfl) (by kernel_rfl) (by kernel_rfl) (fun _ _ _ h => h) (Or.inl ⟨by rfl, ?y7b⟩) hHeld ?r7b
    case y7b => intro w hSw; clear hSw; go_simp; with_reducible rfl
    simp only [Act.put, List.setIfInBounds_toArray, List.set_cons_zero, List.set_cons_succ]
    refine wpAnyH_take (i := 8) (v := ?v8b) (by simp; rfl) (by kernel_rfl) (by kernel_rfl) (by kernel_rfl) (fun _ _ _ h => h) (Or.inl ⟨by rfl, ?y8b⟩) hHeld ?r8b
    case y8b => intro w hSw; clear hSw; go_simp; with_reducible rfl
    simp only [Act.put, List.setIfInBounds_toArray, List.set_cons_zero, List.set_cons_succ]
    refine wpAnyH_take (i := 9) (v := ?v9b) (by simp; rfl) (by kernel_rfl) (by kernel_rfl) (by kernel_rfl) (fun _ _ _ h => h) (Or.inl ⟨by rfl, ?y9b⟩) hHeld ?r9b
    case y9b => intro w hSw; clear hSw; go_simp; with_reducible rfl
    simp only [Act.put, List.setIfInBounds_toArray, List.set_cons_zero, List.set_cons_succ]
    refine wpAnyH_take (i := 10) (v := ?v10b) (by simp; rfl) (by kernel_rfl) (by kernel_rfl) (by kernel_rfl) (fun _ _ _ h => h) (Or.inl ⟨by rfl, ?y10b⟩) hHeld ?r10b
    case y10b => intro w hSw; clear hSw; go_simp; with_reducible rfl
    simp only [Act.put, List.setIfInBounds_toArray, List.set_cons_zero, List.set_cons_succ]
    refine wpAnyH_take (i := 11) (v := _) (by simp; rfl) (by kernel_rfl) (by kernel_rfl) (by kernel_rfl) (fun _ _ _ h => h) (yieldsIf_load_mid (by rfl) 31 (.tmp 15) rfl w5.heap.size 0 rfl (rcells x) _ (fun _ h => RAt.range h.1) Tryd.underlying31 rfl (by rw [size31, rcells_len x X0.out.1.len])) hHeld ?_
    simp only [Act.put, List.setIfInBounds_toArray, List.set_cons_zero, List.set_cons_succ]
    refine wpAnyH_take (i := 12) (v := _) (by simp; rfl) (by kernel_rfl) (by kernel_rfl) (by kernel_rfl) (fun _ _ _ h => h) (yieldsIf_load_mid (by rfl) 31 (.tmp 9) rfl g9 0 rfl (rcells x) _ (fun _ h => RAt.range h.2.1) Tryd.underlying31 rfl (by rw [size31, rcells_len x X0.out.1.len])) hHeld ?_
    simp only [Act.put, List.setIfInBounds_toArray, List.set_cons_zero, List.set_cons_succ]
    refine wpAnyH_take (i := 13) (v := _) (by simp; rfl) (by kernel_rfl) (by kernel_rfl) (by kernel_rfl) (fun _ _ _ h => h) (yields_neq_is (by rfl) 31 rfl rfl rfl eqg31 N13.out) hHeld ?_
    simp only [Act.put, List.setIfInBounds_toArray, List.set_cons_zero, List.set_cons_succ]
    refine wpAnyH_take (i := 14) (v := ?v14b) (by simp; rfl) (by kernel_rfl) (by kernel_rfl) (by kernel_rfl) (fun _ _ _ h => h) (Or.inl ⟨by rfl, ?y14b⟩) hHeld ?r14b
    case y14b => intro w hSw; clear hSw; go_simp; with_reducible rfl
    simp only [Act.put, List.setIfInBounds_toArray, List.set_cons_zero, List.set_cons_succ]
    refine wpAnyH_take (i := 15) (v := ?v15b) (by simp; rfl) (by kernel_rfl) (by kernel_rfl) (by kernel_rfl) (fun _ _ _ h => h) (Or.inl ⟨by rfl, ?y15b⟩) hHeld ?r15b
    case y15b => intro w hSw; clear hSw; go_simp; with_reducible rfl
    simp only [Act.put, List.setIfInBounds_toArray, List.set_cons_zero, List.set_cons_succ]
    refine wpAnyH_take (i := 16) (v := ?v16b) (by simp; rfl) (by kernel_rfl) (by kernel_rfl) (by kernel_rfl) (fun _ _ _ h => h) (Or.inl ⟨by rfl, ?y16b⟩) hHeld ?r16b
    case y16b => intro w hSw; clear hSw; go_simp; with_reducible rfl
    simp only [Act.put, List.setIfInBounds_toArray, List.set_cons_zero, List.set_cons_succ]
    refine wpAnyH_take (i := 17) (v := ?v17b) (by simp; rfl) (by kernel_rfl) (by kernel_rfl) (by kernel_rfl) (fun _ _ _ h => h) (Or.inl ⟨by rfl, ?y17b⟩) hHeld ?r17b
    case y17b => intro w hSw; clear hSw; go_simp; with_reducible rfl
    simp only [Act.put, List.setIfInBounds_toArray, List.set_cons_zero, List.set_cons_succ]
    refine wpAnyH_take (i := 18) (v := ?v18b) (by simp; rfl) (by kernel_rfl) (by kernel_rfl) (by kernel_rfl) (fun _ _ _ h => h) (Or.inl ⟨by rfl, ?y18b⟩) hHeld ?r18b
    case y18b => intro w hSw; clear hSw; go_simp; with_reducible rfl
    simp only [Act.put, List.setIfInBounds_toArray, List.set_cons_zero, List.set_cons_succ]
    refine wpAnyH_take (i := 19) (v := ?v19b) (by simp; rfl) (by kernel_rfl) (by kernel_rfl) (by kernel_rfl) (fun _ _ _ h => h) (Or.inl ⟨by rfl, ?y19b⟩) hHeld ?r19b
    case y19b => intro w hSw; clear hSw; go_simp; with_reducible rfl
    simp only [Act.put, List.setIfInBounds_toArray, List.set_cons_zero, List.set_cons_succ]
    refine wpAnyH_take (i := 20) (v := ?v20b) (by simp; rfl) (by kernel_rfl) (by kernel_rfl) (by kernel_rfl) (fun _ _ _ h => h) (Or.inl ⟨by rfl, ?y20b⟩) hHeld ?r20b
    case y20b => intro w hSw; clear hSw; go_simp; with_reducible rfl
    simp only [Act.put, List.setIfInBounds_toArray, List.set_cons_zero, List.set_cons_succ]
    refine wpAnyH_take (i := 21) (v := ?v21b) (by simp; rfl) (by kernel_rfl) (by kernel_rfl) (by kernel_rfl) (fun _ _ _ h => h) (Or.inl ⟨by rfl, ?y21b⟩) hHeld ?r21b
    case y21b => intro w hSw; clear hSw; go_simp; with_reducible rfl
    simp only [Act.put, List.setIfInBounds_toArray, List.set_cons_zero, List.set_cons_succ]
    refine wpAnyH_take (i := 22) (v := ?v22b) (by simp; rfl) (by kernel_rfl) (by kernel_rfl) (by kernel_rfl) (fun _ _ _ h => h) (Or.inl ⟨by rfl, ?y22b⟩) hHeld ?r22b
    case y22b => intro w hSw; clear hSw; go_simp; with_reducible rfl
    simp only [Act.put, List.setIfInBounds_toArray, List.set_cons_zero, List.set_cons_succ]
    refine wpAnyH_take (i := 23) (v := ?v23b) (by simp; rfl) (by kernel_rfl) (by kernel_rfl) (by kernel_rfl) (fun _ _ _ h => h) (Or.inl ⟨by rfl, ?y23b⟩) hHeld ?r23b
    case y23b => intro w hSw; clear hSw; go_simp; with_reducible rfl
    simp only [Act.put, List.setIfInBounds_toArray, List.set_cons_zero, List.set_cons_succ]
    refine wpAnyH_take (i := 24) (v := ?v24b) (by simp; rfl) (by kernel_rfl) (by kernel_rfl) (by kernel_rfl) (fun _ _ _ h => h) (Or.inl ⟨by rfl, ?y24b⟩) hHeld ?r24b
    case y24b => intro w hSw; clear hSw; go_simp; with_reducible rfl
    simp only [Act.put, List.setIfInBounds_toArray, List.set_cons_zero, List.set_cons_succ]
    refine wpAnyH_take (i := 25) (v := ?v25b) (by simp; rfl) (by kernel_rfl) (by kernel_rfl) (by kernel_rfl) (fun _ _ _ h => h) (Or.inl ⟨by rfl, ?y25b⟩) hHeld ?r25b
    case y25b => intro w hSw; clear hSw; go_simp; with_reducible rfl
    simp only [Act.put, List.setIfInBounds_toArray, List.set_cons_zero, List.set_cons_succ]
    refine wpAnyH_take (i := 26) (v := ?v26b) (by simp; rfl) (by kernel_rfl) (by kernel_rfl) (by kernel_rfl) (fun _ _ _ h => h) (Or.inl ⟨by rfl, ?y26b⟩) hHeld ?r26b
    case y26b => intro w hSw; clear hSw; go_simp; with_reducible rfl
    simp only [Act.put, List.setIfInBounds_toArray, List.set_cons_zero, List.set_cons_succ]
    refine wpAnyH_take (i := 27) (v := ?v27b) (by simp; rfl) (by kernel_rfl) (by kernel_rfl) (by kernel_rfl) (fun _ _ _ h => h) (Or.inl ⟨by rfl, ?y27b⟩) hHeld ?r27b
    case y27b => intro w hSw; obtain ⟨-, -, -, z, -⟩ := hSw; have z1 := z.str c; clear z; go_simp; with_reducible rfl
    simp only [Act.put, List.setIfInBounds_toArray, List.set_cons_zero, List.set_cons_succ]
    refine wpAnyH_take (i := 28) (v := ?v28b) (by simp; rfl) (by kernel_rfl) (by kernel_rfl) (by kernel_rfl) (fun _ _ _ h => h) (Or.inl ⟨by rfl, ?y28b⟩) hHeld ?r28b
    case y28b => intro w hSw; clear hSw; go_simp; with_reducible rfl
    simp only [Act.put, List.setIfInBounds_toArray, List.set_cons_zero, List.set_cons_succ]
    refine wpAnyH_take (i := 29) (v := ?v29b) (by simp; rfl) (by kernel_rfl) (by kernel_rfl) (by kernel_rfl) (fun _ _ _ h => h) (Or.inl ⟨by rfl, ?y29b⟩) hHeld ?r29b
    case y29b => intro w hSw; obtain ⟨-, -, -, -, z⟩ := hSw; have z1 := z.str cc; clear z; go_simp; with_reducible rfl
    simp only [Act.put, List.setIfInBounds_toArray, List.set_cons_zero, List.set_cons_succ]
    refine wpAnyH_take (i := 30) (v := ?v30b) (by simp; rfl) (by kernel_rfl) (by kernel_rfl) (by kernel_rfl) (fun _ _ _ h => h) (Or.inl ⟨by rfl, ?y30b⟩) hHeld ?r30b
    case y30b => intro w hSw; clear hSw; have z := HQ.out; go_simp; with_reducible rfl
    simp only [Act.put, List.setIfInBounds_toArray, List.set_cons_zero, List.set_cons_succ]
    refine wpAnyH_take (i := 31) (v := _) (by simp; rfl) (by kernel_rfl) (by kernel_rfl) (by kernel_rfl) (fun _ _ _ h => h) (yieldsIf_load_mid (by rfl) 31 (.tmp 9) rfl g9 0 rfl (rcells x) _ (fun _ h => RAt.range h.2.1) Tryd.underlying31 rfl (by rw [size31, rcells_len x X0.out.1.len])) hHeld ?_
    simp only [Act.put, List.setIfInBounds_toArray, List.set_cons_zero, List.set_cons_succ]
    refine wpAnyH_take (i := 32) (v := _) (by simp; rfl) (by kernel_rfl) (by kernel_rfl) (by kernel_rfl) (fun _ _ _ h => h) (yieldsIf_load_mid (by rfl) 31 (.tmp 10) rfl g10 0 rfl (rcells y) _ (fun _ h => RAt.range h.2.2.1) Tryd.underlying31 rfl (by rw [size31, rcells_len y Y0.out.1.len])) hHeld ?_
    simp only [Act.put, List.setIfInBounds_toArray, List.set_cons_zero, List.set_cons_succ]
    refine wpAnyH_take (i := 33) (v := _) (by simp; rfl) (by kernel_rfl) (by kernel_rfl) (by kernel_rfl) (fun _ _ _ h => h) (yields_eql_is (by rfl) 31 rfl rfl rfl eqg31 Q33.out) hHeld ?_
    simp only [Act.put, List.setIfInBounds_toArray, List.set_cons_zero, List.set_cons_succ]
    refine wpAnyH_take (i := 34) (v := ?v34b) (by simp; rfl) (by kernel_rfl) (by kernel_rfl) (by kernel_rfl) (fun _ _ _ h => h) (Or.inl ⟨by rfl, ?y34b⟩) hHeld ?r34b
    case y34b => intro w hSw; clear hSw; go_simp; with_reducible rfl
    simp only [Act.put, List.setIfInBounds_toArray, List.set_cons_zero, List.set_cons_succ]
    refine wpAnyH_take (i := 35) (v := ?v35b) (by simp; rfl) (by kernel_rfl) (by kernel_rfl) (by kernel_rfl) (fun _ _ _ h => h) (Or.inl ⟨by rfl, ?y35b⟩) hHeld ?r35b
    case y35b => intro w hSw; clear hSw; go_simp; with_reducible rfl
    simp only [Act.put, List.setIfInBounds_toArray, List.set_cons_zero, List.set_cons_succ]
    refine wpAnyH_done (by kernel_rfl) (NoPanic.normal ?_) _
    clear hHeld N13 Q33 HQ ZZ A5 S5
    have O7 : Hid (w6.drew.ownsRow w.heap.size 5 1 (.slice (some ⟨gb, 0, none⟩) 64 c) 64 (U8 (encS x))) := O6.out.drew
    have B7 : Hid (Below w.heap.size w w6.drew) := B6.out.drew
    clear O6 B6
    generalize w6.drew = w7 at *
    obtain ⟨q, i, hi1, hi2, hi3, hi4, hi5, hi6⟩ := place A 61 (by omega)
    have hi1' : A.tmod 61 = q := hi1
    have hi4' : (q + 61).tmod 61 = (i : Int) := hi4
    have hi2' : -61 < q := hi2
    have hi3' : q < 61 := hi3
    clear hi1 hi2 hi3 hi4 hi5
    go_wp2_with fail
    clear hi1' hi4' hi2' hi3'
    have EB : Hid (Bytes (encS x) ∧ (encS x).length = 64 ∧ crc (encS x) = 558161692) := ⟨encS_bytes x X0.out.1 X0.out.2, encS_len x X0.out.1.len, encS_sum x X0.out.1 X0.out.2⟩
    go_loopw [18] (fun k wr => ∃ (j : Nat) (Y : List Int), j ≤ 4 ∧ k = .int .i64 j ∧ Hid (Bytes Y ∧ Y.length = 64 ∧ crc Y = 558161692 ^^^ acc t (64 - i) j ∧ wr.ownsRow w.heap.size 5 1 (.slice (some ⟨gb, 0, none⟩) 64 c) 64 (U8 Y) ∧ Below w.heap.size w wr ∧ (t = 0 → Y = encS x))) (fun k _ => 4 - (intOf k).toNat)
    case atStart => exact ⟨0, encS x, by omega, rfl, EB.out.1, EB.out.2.1, by rw [acc_zero, Nat.xor_zero]; exact EB.out.2.2, O7.out, B7.out, fun _ => rfl⟩
    case round =>
      obtain ⟨j, Y, hj, rfl, HR⟩ := hrel
      clear EB O7 B7
      obtain ⟨w8, hw8⟩ : ∃ w8, w8 = wr := ⟨_, rfl⟩
      subst hw8
      by_cases hlt : j < 4
      · have hiY : i + j < Y.length := by rw [HR.out.2.1]; omega
        have hx : (t : Int) / 2 ^ (8 * j) % 256 = ((t / 2 ^ (8 * j) % 256 : Nat) : Int) := by simp
        have TT : Hid (_) := turn_text Y HR.out.1 (i + j) hiY ((t : Int) / 2 ^ (8 * j) % 256) (by omega) (by omega)
        have hcY : w8.cell? ⟨gb, i + j, none⟩ = some (.int .u8 Y[i + j]) := by
          rw [HR.out.2.2.2.1.cellAt (i + j) (by omega)]
          simp [U8, List.getElem?_eq_getElem hiY]
        have hfz := HR.out.2.2.2.1.frozenAt (i + j)
        have hst := HR.out.2.2.2.1.stored (i + j) (.int .u8 (bits .xor .u8 Y[i + j] ((t : Int) / 2 ^ (8 * j) % 256)))
        have hset : (U8 Y).set (i + j) (.int .u8 (bits .xor .u8 Y[i + j] ((t : Int) / 2 ^ (8 * j) % 256))) = U8 (Y.set (i + j) (bits .xor .u8 Y[i + j] ((t : Int) / 2 ^ (8 * j) % 256))) := by simp [U8, List.map_set]
        rw [hset] at hst
        obtain ⟨Z, hZ⟩ : ∃ Z, Z = Y.set (i + j) (bits .xor .u8 Y[i + j] ((t : Int) / 2 ^ (8 * j) % 256)) := ⟨_, rfl⟩
        have HZ : Hid (Bytes Z ∧ Z.length = 64 ∧ crc Z = 558161692 ^^^ acc t (64 - i) (j + 1) ∧ (w8.setCell ⟨gb, i + j, none⟩ (.int .u8 (bits .xor .u8 Y[i + j] ((t : Int) / 2 ^ (8 * j) % 256)))).drew.ownsRow w.heap.size 5 1 (.slice (some ⟨gb, 0, none⟩) 64 c) 64 (U8 Z) ∧ Below w.heap.size w (w8.setCell ⟨gb, i + j, none⟩ (.int .u8 (bits .xor .u8 Y[i + j] ((t : Int) / 2 ^ (8 * j) % 256)))).drew ∧ (t = 0 → Z = encS x)) := by
          rw [hZ]
          refine ⟨TT.out.1, by rw [List.length_set]; exact HR.out.2.1, ?_, hst.1.drew, (HR.out.2.2.2.2.1.setCell hwb _).drew, fun h0 => ?_⟩
          · rw [TT.out.2, HR.out.2.2.1, acc_step _ _ _ (by omega), Nat.xor_assoc, hx, Int.toNat_natCast, HR.out.2.1]
            rw [show 64 - 1 - (i + j) = 64 - i - 1 - j by omega]
          · have hz : (t : Int) / 2 ^ (8 * j) % 256 = 0 := by rw [hx, h0]; simp
            have hy := HR.out.1.at (i + j) hiY
            rw [hz, xor_none _ hy.1 hy.2, List.set_getElem_self]
            exact HR.out.2.2.2.2.2 h0
        clear hst hset hZ TT HR hx
        generalize Y[i + j] = z at *
        have i1 : (i : Int) + (j : Int) < 64 := by omega
        have i0 : (0 : Int) ≤ (i : Int) + (j : Int) := by omega
        go_wp2_with fail
        go_region
        generalize (w8.setCell ⟨gb, i + j, none⟩ (.int .u8 (bits .xor .u8 z ((t : Int) / 2 ^ (8 * j) % 256)))).drew = w9 at *
        clear hcY hfz
        go_wp2_with fail
        go_roundw
        case rel => exact ⟨j + 1, Z, by omega, by go_num, HZ.out⟩
        case measure => simp [intOf]; omega
      · have hj4 : j = 4 := by omega
        obtain ⟨p8, c8, e8, R8, -, -, -⟩ := own_in HR.out.2.2.2.1 HR.out.1
        simp only [Value.slice.injEq, true_and] at e8
        obtain ⟨rfl, rfl⟩ := e8
        have R8' : Hid (_) := R8
        have HE : Hid ((decS Y).2 = if t = 0 then 0 else 60) := turned_err Y HR.out.1 HR.out.2.1 x X0.out.1 X0.out.2 t (64 - i) htn (by have := HR.out.2.2.1; rwa [hj4] at this) HR.out.2.2.2.2.2
        have HDW : Hid ((decS Y).1.val.length = 32) := (decS_wf Y HR.out.1).len
        have B8 : Hid (Below w.heap.size w w8) := HR.out.2.2.2.2.1
        clear R8 HR hj4
        go_wp2_with fail
        refine (decode_any _ 64 c Y w8 R8'.out hc64 (HT.out.later B8.out)).mono ?_
        rintro e w9 ⟨rfl, b9⟩
        rw [HE.out]
        have A9 : Hid (_) := alloc31 w9
        have S9 : Hid (_) := store_new size31 w9 (decS Y).1 HDW.out
        have B9 : Hid (Below w.heap.size w (w9.alloc (.cells (rcells (decS Y).1).toArray 31))) := below_then (below_then B8.out b9) (below_alloc w9 _)
        clear b9 HE HDW R8' B8
        generalize (decS Y).1 = rY at *
        by_cases h0 : t = 0
        · subst h0
          rw [if_pos rfl]
          go_wp2_with ((with_reducible refine at_ops ?_); (first | (refine wpList_alloc_is (by rfl) 31 rfl A9.out ?_) | (refine wpList_store_is (by rfl) 31 rfl rfl rfl S9.out ?_)); simp only [Act.put, List.setIfInBounds_toArray, List.set_cons_zero, List.set_cons_succ])
          go_ret
          exact ⟨by simp, B9.out⟩
        · rw [if_neg h0]
          have hz : ((t : Int) == 0) = false := by simp; omega
          go_wp2_with ((with_reducible refine at_ops ?_); (first | (refine wpList_alloc_is (by rfl) 31 rfl A9.out ?_) | (refine wpList_store_is (by rfl) 31 rfl rfl rfl S9.out ?_)); simp only [Act.put, List.setIfInBounds_toArray, List.set_cons_zero, List.set_cons_succ])
          go_ret
          exact ⟨by simp, B9.out⟩
end Go.Proofs.YtndildimnanlpaaDoor
