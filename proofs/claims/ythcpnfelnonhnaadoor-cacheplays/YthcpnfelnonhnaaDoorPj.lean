/-
  Layer 17: Entries.
-/
import Derived.Test.YthcpnfelnonhnaaDoorPi
namespace Go.Proofs.YthcpnfelnonhnaaDoor
open Go.RowKit

open Go.Shelf
attribute [local go_sem] Oper.semAt_some
theorem cells_newE (w : World) (cs : List Value) (ty : TypeId) : ∀ j u, cs[j]? = some u → (w.alloc (.cells cs.toArray ty)).cell? ((⟨w.heap.size, 0, none⟩ : Addr).add j) = some u := fun j u hu => by
  rw [Addr.add_mid, Nat.zero_add, cell_of_row _ w.heap.size j _ ty (0, 0) (heap_alloc_new w _)]
  simpa using hu
section
variable {F : Fence} {n : Nat} {P : Program} {ops : Array Oper} {rest : List Oper} {o : Oper} {a : Act} {w w' : World} {Q : Exit → Act → World → Prop}
theorem in_slice (hgd : Region.wanted o (yielded ops a.tmps) = true) (ty : TypeId) {x : Operand} (ho : o.op = .buildSlice ty 1 #[(0, x)]) {u v : Value} (hx : a.eval x = u) (hrun : (Instr.buildSlice ty 1 #[(0, u)]).run P w = .ok v w') (h : wpListIn F n P ops Q rest (a.put o.dst v) w') : wpListIn F n P ops Q (o :: rest) a w :=
  in_val hgd (by simp [Oper.about, ho]) (by rw [ho]; intro c e; cases e) (by
    have e : (#[(0, x)] : Array (Nat × Operand)).map (fun (i, y) => (i, a.eval y)) = #[(0, u)] := by simp [hx]
    unfold execOp; simp only [ho]; rw [e]; simp only [Sem.run_bind, hrun, Result.andThen_ok, Sem.run_pure]) h
theorem in_append (hgd : Region.wanted o (yielded ops a.tmps) = true) {s x : Operand} {t ty : TypeId} (ho : o.op = .call { callee := .builtin .append, args := #[s, x], argTypes := #[t, t] }) (hty : o.type = ty) {u1 u2 v : Value} (hs : a.eval s = u1) (hx : a.eval x = u2) (hrun : (Builtin.append_ #[t, t] ty #[u1, u2]).run P w = .ok v w') (h : wpListIn F n P ops Q rest (a.put o.dst v) w') : wpListIn F n P ops Q (o :: rest) a w := by
  subst hty
  refine in_val hgd ?_ (by rw [ho]; intro c e; cases e) (v := v) (w' := w') ?_ h
  · simp [Oper.about, ho, resolve, Target.leads, Sem.run_pure]
  · simp [execOp, ho, resolve, invoke, builtin, hs, hx, hrun, Result.andThen]
end
theorem make_en (w : World) (m : Nat) (hm : m ≤ 10000) : ∃ cur : Array Value, (Instr.makeSlice 60 (.int .i64 0) (.int .i64 (m : Int))).run Tryd.prog w = .ok (.slice (some ⟨w.heap.size, 0, none⟩) 0 m) (w.alloc (.cells cur 57)) ∧ cur.size = m * 34 := by
  obtain ⟨i0, hi, h0, h1, h2⟩ := info_parts etC.inf
  have hmm : (i0.bytes : Int) * (m : Int) ≤ 281474976710656 := by rw [h2]; omega
  have := run_make (P := Tryd.prog) w 60 57 i0 _ etC.ut hi h0 .i64 .i64 0 (m : Int) (by omega) (by omega) hmm (by omega)
  rw [Int.toNat_natCast, h1] at this
  exact ⟨_, this, by simp [madeCells]⟩
/-- one more is appended to the list in its box -/
theorem got_step {V : World} {n₀ B k cap : Nat} {q : Option Addr} {l : List En} {x : En} (hb : Boxed V B 60 (.slice q k cap)) (hr : V.ownsRow n₀ 57 34 (.slice q k cap) k (EC l)) (hx : x.Wf) (hn₀ : n₀ ≤ V.heap.size) (hB : n₀ ≤ B) (hk : k ≤ 9000) :
    ∃ g' cap' V4, (Builtin.append_ #[60, 60] 60 #[.slice q k cap, .slice (some ⟨V.heap.size, 0, none⟩) 1 1]).run Tryd.prog (V.alloc (.cells (ecells x).toArray 57)) = .ok (.slice (some ⟨g', 0, none⟩) (k + 1) cap') V4 ∧ Boxed V4 B 60 (.slice q k cap) ∧
      (Boxed (V4.setCell ⟨B, 0, none⟩ (.slice (some ⟨g', 0, none⟩) (k + 1) cap')) B 60 (.slice (some ⟨g', 0, none⟩) (k + 1) cap') ∧ (V4.setCell ⟨B, 0, none⟩ (.slice (some ⟨g', 0, none⟩) (k + 1) cap')).ownsRow n₀ 57 34 (.slice (some ⟨g', 0, none⟩) (k + 1) cap') (k + 1) (EC (l ++ [x])) ∧
        KeepsOthers V (V4.setCell ⟨B, 0, none⟩ (.slice (some ⟨g', 0, none⟩) (k + 1) cap')) ∧ Below n₀ V (V4.setCell ⟨B, 0, none⟩ (.slice (some ⟨g', 0, none⟩) (k + 1) cap')) ∧
        ∀ j t u, t ≠ 57 → j ≠ B → Boxed V j t u → Boxed (V4.setCell ⟨B, 0, none⟩ (.slice (some ⟨g', 0, none⟩) (k + 1) cap')) j t u) := by
  obtain ⟨i0, hi, hz0, hz1, hz2⟩ := info_parts etC.inf
  have h65 : (10000 : Nat) ≤ maxLen := by decide
  obtain ⟨v', V4, hrun, hown', hgrow, -⟩ := run_append_own (P := Tryd.prog) (V.alloc (.cells (ecells x).toArray 57)) n₀ 60 60 57 i0 _ 34 48 etC.ut hi hz0 hz1 hz2 rfl (by decide) (.slice q k cap) k (EC l) (hr.alloc _) ⟨V.heap.size, 0, none⟩ 1 1 (ecells x) (by rw [ecells_len hx.len]) (cells_newE V (ecells x) 57) (ecells_ones x) (by omega) (by omega) (by simp; omega)
  have hsh := O.own_some hown' (by omega)
  obtain ⟨g', cap', rfl, -, -, -⟩ := hsh
  obtain ⟨hv1, hv2, hr2, hk2, hb2⟩ := hb.appended (by decide) hr hn₀ hB hown' hgrow
  rw [← EC_snoc] at hr2
  exact ⟨g', cap', V4, hrun, hv1, hv2, hr2, hk2, hb2, fun j t u ht hj hbj => ((hbj.alloc _).kept hgrow (hbj.not_row ht hr)).other hj _⟩
/-- the element of a round in its slot -/
theorem put1 (t : Array Value) (k : Nat) (v : Value) : (#[k].zip #[v]).foldl (fun t (p, v) => t.setIfInBounds p v) t = t.setIfInBounds k v := by simp
/-- what the rounds have made of the list -/
def Got (n₀ B K : Nat) (pre : List WE) (W : World) : Prop := ∃ v, Boxed W B 60 v ∧ W.ownsRow n₀ 57 34 v pre.length (EC (ens pre)) ∧ pre.length ≤ K
theorem own_got (n₀ B K C : Nat) : OwnFrom C (Got n₀ B K) :=
  Own.from (holdsRow_own (β := List WE) n₀ B 60 57 34 (fun pre => pre.length) (fun pre => EC (ens pre)) (fun pre _ => pre.length ≤ K)) C
theorem ownsRow_putObj {W : World} {base n D : Nat} {e : TypeId} {size : Nat} {v : Value} {xs : List Value} {o : Obj} (h : W.ownsRow base e size v n xs) (o' : Obj) (hK : W.heap[D]? = some o) (ho : o.isCells = false) : (W.putObj D o').ownsRow base e size v n xs := O.own_keeps h fun g hg => by
  refine World.putObj_heap_other ?_
  rintro rfl
  obtain ⟨cur, hc⟩ := O.own_typ h hg
  rw [hK] at hc; cases hc; cases ho
section
variable {w : World} {p : Option Addr} {L : List En}
theorem len_any (hS : Stands w p L) : Calls Tryd.prog 17 #[.pointer p] w fun e w' => e = .returned (.int .i64 (L.length : Int)) ∧ w' = w := by
  rcases hS with ⟨rfl, rfl⟩ | ⟨Q, n, ve, nx, rfl, h, -, -⟩
  · exact len_nil w
  · exact len_at h
set_option maxHeartbeats 4000000 in
set_option maxRecDepth 100000 in
theorem entries_any (hS : Stands w p L) : Calls Tryd.prog 14 #[.pointer p] w fun e w' => ∃ v, e = .returned v ∧ EOwn 57 w' w.heap.size v L ∧ Below w.heap.size w w' := by
  have h64 := hS.few
  have HS : Hid (Stands w p L) := hS
  obtain ⟨cur, hmk, hcs⟩ := make_en w L.length (by omega)
  have h65 : (10000 : Nat) ≤ maxLen := by decide
  obtain ⟨w1, hw1⟩ : ∃ w1, w1 = w.alloc (.cells cur 57) := ⟨_, rfl⟩
  rw [← hw1] at hmk
  have B1 : Below w.heap.size w w1 := by rw [hw1]; exact below_alloc w _
  have s1 : w1.heap.size = w.heap.size + 1 := by rw [hw1]; simp
  have r1 : w1.ownsRow w.heap.size 57 34 (.slice (some ⟨w.heap.size, 0, none⟩) 0 L.length) 0 [] := by rw [hw1]; exact World.ownsRow_made w cur L.length (Nat.le_refl _) (by omega) hcs
  obtain ⟨w2, hw2⟩ : ∃ w2, w2 = w1.alloc (.cells #[.slice (some ⟨w.heap.size, 0, none⟩) 0 L.length] 60) := ⟨_, rfl⟩
  have hmk2 : w1.alloc (.cells #[.slice (some ⟨w.heap.size, 0, none⟩) 0 L.length] 60) = w2 := hw2.symm
  have B2 : Below w1.heap.size w1 w2 := by rw [hw2]; exact below_alloc w1 _
  have b2 : Boxed w2 (w.heap.size + 1) 60 (.slice (some ⟨w.heap.size, 0, none⟩) 0 L.length) := by rw [← s1, hw2]; exact Boxed.new w1 _ _
  have s2 : w2.heap.size = w.heap.size + 2 := by rw [hw2]; simp [s1]
  obtain ⟨w3, hw3⟩ : ∃ w3, w3 = w2.alloc (.cells #[.pointer p] 24) := ⟨_, rfl⟩
  have B3 : Below w2.heap.size w2 w3 := by rw [hw3]; exact below_alloc w2 _
  have b3 : Boxed w3 (w.heap.size + 2) 24 (.pointer p) := by rw [← s2, hw3]; exact Boxed.new w2 _ _
  have s3 : w3.heap.size = w.heap.size + 3 := by rw [hw3]; simp [s2]
  have HBX : Hid (Boxed w3 (w.heap.size + 1) 60 (.slice (some ⟨w.heap.size, 0, none⟩) 0 L.length)) := (B3.block _ b2.lt).trans b2
  have HBP : Hid (Boxed w3 (w.heap.size + 2) 24 (.pointer p)) := b3
  have HRW : Hid (w3.ownsRow w.heap.size 57 34 (.slice (some ⟨w.heap.size, 0, none⟩) 0 L.length) 0 []) := O.own_later (O.own_later r1 B2) B3
  have HB : Hid (Below w.heap.size w w3) := below_then B1 (below_then B2 B3)
  have HSZ : Hid (w3.heap.size = w.heap.size + 3) := s3
  have HALL : Hid (Calls Tryd.prog 28 #[.pointer p] w2 fun e w' => e = .returned (seqV (w.heap.size + 2)) ∧ w' = w3) := by
    have := all_is p w2
    rw [s2, ← hw3] at this
    exact this
  have HAL : Hid ((Instr.alloc 60 true (.tuple #[])).run Tryd.prog w1 = .ok (.pointer (some ⟨w.heap.size + 1, 0, none⟩)) (w1.alloc (.cells #[.slice none 0 0] 60))) := by rw [← s1]; rfl
  have HST : Hid ((Instr.storeAt 60 (.pointer (some ⟨w.heap.size + 1, 0, none⟩)) (.slice (some ⟨w.heap.size, 0, none⟩) 0 L.length)).run Tryd.prog (w1.alloc (.cells #[.slice none 0 0] 60)) = .ok () w2) := by
    have b : Boxed (w1.alloc (.cells #[.slice none 0 0] 60)) (w.heap.size + 1) 60 (.slice none 0 0) := by rw [← s1]; exact Boxed.new w1 _ _
    have c1 := b.cell
    have f1 := b.frozen
    have e2 : (w1.alloc (.cells #[.slice none 0 0] 60)).setCell ⟨w.heap.size + 1, 0, none⟩ (.slice (some ⟨w.heap.size, 0, none⟩) 0 L.length) = w2 := by
      rw [setCell_eq_setRow _ (w.heap.size + 1) 0 _ 60 (0, 0) _ b, hw2, ← s1]
      exact setRow_alloc w1 _ _ _
    show _ = _
    rw [← e2]
    go_simp
  clear hw1 hw2 hw3 B1 B2 B3 b2 b3 s1 s2 s3 r1 hS hcs hmk2
  refine (callsIn_wide (n := 9)).1 ?_
  refine callsIn_of_wp_marks Tryd.func14 rfl trivial ?_ rfl
  simp only [Tryd.ntmps14, List.size_toArray, List.length_cons, List.length_nil, Nat.reduceAdd, Nat.reduceSub, Array.replicate_succ, Array.replicate_zero, List.push_toArray, List.append_toArray, List.nil_append, List.cons_append]
  gi_wp2_with fail
  refine ⟨trivial, (callsIn_wide.2 (len_any HS.out)).mono ?_⟩
  rintro e w' ⟨rfl, rfl⟩
  gi_wp2_with ((with_reducible refine in_ops ?_); (first | ((refine in_alloc (by rfl) 60 rfl HAL.out ?_); simp only [Act.put, List.setIfInBounds_toArray, List.set_cons_zero, List.set_cons_succ]) | ((refine in_store (by rfl) 60 rfl rfl rfl HST.out ?_); simp only [Act.put])))
  refine ⟨trivial, (callsIn_wide.2 HALL.out).mono ?_⟩
  rintro e w4 ⟨rfl, rfl⟩
  clear hmk HAL HST HALL
  gi_wp2
  refine range_in (F := Fence.wide) (n := 9) (P := Tryd.prog) rfl (by decide) (gf := 36) (lb := #[.pointer (some ⟨w'.heap.size + 2, 0, none⟩)]) rfl trivial (enters_of Tryd.func36 (by kernel_rfl) rfl)
    (all1_seq Fence.wide (9 - 1) trivial rfl (by decide) (w'.heap.size + 2) w'.heap.size p L w4 w' HB.out.size HB.out rfl HBP.out HS.out) belowK_t (fun W l o o' hl h hc => (Below.refl _ W).grown (grownBy_putObj' W l o') (by have := HSZ.out; have := (Array.getElem?_eq_some_iff.1 h).1; omega) (fun k e => by cases e; have := HSZ.out; omega)) (Below.refl _ _) (fun _ => rfl)
    (fun pre W => Got w'.heap.size (w'.heap.size + 1) 64 pre W ∧ Below w'.heap.size w' W) (fun _ _ _ => False) ?hI (fun _ _ _ _ _ h => h.elim) ⟨⟨_, HBX.out, HRW.out, Nat.zero_le _⟩, HB.out⟩
    (fun x a' W => ∃ Bx, LAt 57 W Bx (ecells x.1) ∧ a' = { tmps := #[.pointer p, undef, .slice none 0 0, .pointer (some ⟨w'.heap.size + 1, 0, none⟩), .pointer (some ⟨Bx, 0, none⟩), .pointer p, .int .i64 L.length, .slice (some ⟨w'.heap.size, 0, none⟩) 0 L.length, .pointer p, seqV (w'.heap.size + 2), .agg (ecells x.1).toArray, undef, undef, undef, undef, undef], defers := [] })
    ?hAx ?assign ?body ?done ?stop
  case hI => exact OwnFrom.and (own_got _ _ _ _) (ownFrom_below (Nat.le_refl _) HB.out.size)
  case hAx =>
    rintro x a' _ V V' row ⟨Bx, h1, h2⟩ hg hr
    exact ⟨Bx, (grownBy_keeps_cells hg (fun r e => (hr r e).2) h1 rfl).trans h1, h2⟩
  case assign =>
    rintro l1 pre x V K ⟨⟨v, h1, h2, h2'⟩, h6⟩ hK
    have A4 : Hid ((Instr.alloc 57 true (.tuple #[])).run Tryd.prog V = .ok (.pointer (some ⟨V.heap.size, 0, none⟩)) (V.alloc (.cells (ecells en0).toArray 57))) := allocE etC V
    have T4 : Hid ((Instr.storeAt 57 (.pointer (some ⟨V.heap.size, 0, none⟩)) (.agg (ecells x.1).toArray)).run Tryd.prog (V.alloc (.cells (ecells en0).toArray 57)) = .ok () (V.alloc (.cells (ecells x.1).toArray 57))) := store_newE etC V x.1 x.2.len
    have hb := below_alloc V (.cells (ecells x.1).toArray 57)
    have Y := hK _ _ (keeps_of_below hb w4.heap.size) (hb.mono h6.size) ⟨⟨v, h1.alloc _, h2.alloc _, h2'⟩, h6.trans (hb.mono h6.size)⟩ ⟨V.heap.size, LAt.new 57 V (ecells x.1), rfl⟩
    have HY : Hid (K _ _) := Y
    clear hK h1 h2 h6 hb Y
    rw [put1]
    simp only [List.setIfInBounds_toArray, List.set_cons_zero, List.set_cons_succ]
    gi_wp2_with ((with_reducible refine in_ops ?_); (first | ((refine in_alloc (by rfl) 57 rfl A4.out ?_); simp only [Act.put, List.setIfInBounds_toArray, List.set_cons_zero, List.set_cons_succ]) | ((refine in_store (by rfl) 57 rfl rfl rfl T4.out ?_); simp only [Act.put])))
    exact HY.out
  case body =>
    rintro l1 pre x a' V ⟨⟨v, h1, h2, h2'⟩, h6⟩ ⟨Bx, hx, rfl⟩ hlt
    obtain ⟨q, cap, rfl⟩ := O.own_shape h2
    have c4 := h1.cell
    have HLd : Hid ((Instr.loadAt 57 (.pointer (some ⟨Bx, 0, none⟩))).run Tryd.prog V = .ok (.agg (ecells x.1).toArray) V) := LAt.loadE etC hx x.2.len
    have HBS : Hid ((Instr.buildSlice 60 1 #[(0, .agg (ecells x.1).toArray)]).run Tryd.prog V = .ok (.slice (some ⟨V.heap.size, 0, none⟩) 1 1) (V.alloc (.cells (ecells x.1).toArray 57))) := build_en etC V x.1 x.2.len
    obtain ⟨g', cap', V4, hrun, hv1, hv2⟩ := got_step h1 h2 x.2 h6.size (by omega) (by omega)
    have HRUN : Hid ((Builtin.append_ #[60, 60] 60 #[.slice q pre.length cap, .slice (some ⟨V.heap.size, 0, none⟩) 1 1]).run Tryd.prog (V.alloc (.cells (ecells x.1).toArray 57)) = .ok (.slice (some ⟨g', 0, none⟩) (pre.length + 1) cap') V4) := hrun
    have k1 := hv1.cell
    have k2 := hv1.frozen
    have HFIN : Hid (KeepsFrom w4.heap.size V (V4.setCell ⟨w'.heap.size + 1, 0, none⟩ (.slice (some ⟨g', 0, none⟩) (pre.length + 1) cap')) ∧ Below w'.heap.size V (V4.setCell ⟨w'.heap.size + 1, 0, none⟩ (.slice (some ⟨g', 0, none⟩) (pre.length + 1) cap')) ∧ (Got w'.heap.size (w'.heap.size + 1) 64 (pre ++ [x]) (V4.setCell ⟨w'.heap.size + 1, 0, none⟩ (.slice (some ⟨g', 0, none⟩) (pre.length + 1) cap')) ∧ Below w'.heap.size w' (V4.setCell ⟨w'.heap.size + 1, 0, none⟩ (.slice (some ⟨g', 0, none⟩) (pre.length + 1) cap')))) := by
      refine ⟨hv2.2.2.1.from _, hv2.2.2.2.1, ⟨_, hv2.1, ?_, ?_⟩, h6.trans hv2.2.2.2.1⟩
      · rw [ens_snoc, show (pre ++ [x]).length = pre.length + 1 by simp]; exact hv2.2.1
      · simp; omega
    clear hrun hv1 hv2 h1 h2 h6 hx
    gi_wp2_with ((with_reducible refine in_ops ?_); (first | (refine in_load (by rfl) 57 rfl rfl HLd.out ?_) | (refine in_slice (u := .agg (ecells x.1).toArray) (by rfl) 60 rfl rfl HBS.out ?_) | (refine in_append (u1 := .slice q pre.length cap) (u2 := .slice (some ⟨V.heap.size, 0, none⟩) 1 1) (by rfl) rfl rfl rfl rfl HRUN.out ?_)); simp only [Act.put, List.setIfInBounds_toArray, List.set_cons_zero, List.set_cons_succ])
    exact HFIN.out
  case done =>
    rintro D ys W hD hSt ⟨⟨v, h1, h2, h2'⟩, h6⟩ hK
    obtain ⟨q, cap, rfl⟩ := O.own_shape h2
    have hb := h1.cell
    have HZ : Hid (EOwn 57 (W.putObj D (.deferred none)) w'.heap.size (.slice q ys.length cap) L ∧ Below w'.heap.size w' (W.putObj D (.deferred none))) := by
      have e1 : ens ys = L := hSt
      have e2 : ys.length = L.length := by rw [← e1, List.length_map]
      refine ⟨?_, h6.trans (belowK_b (w := w') (Nat.le_refl _) _ D _ _ (by have := HSZ.out; omega) hK rfl rfl)⟩
      have := ownsRow_putObj h2 (.deferred none) hK rfl
      show World.ownsRow _ _ _ _ _ _ _
      rw [e1, e2] at this
      rw [e2]
      exact this
    clear h1 h2 h6 hSt
    gi_wp2
    refine ⟨by simp, .inl ⟨_, _, rfl, run_takeDeferred hK, ?_⟩⟩
    exact ⟨_, by simp [results, Tryd.results14, go_sem], _, rfl, HZ.out⟩
  case stop =>
    rintro D c pre W hD hpre h hK
    exact h.elim
end
end Go.Proofs.YthcpnfelnonhnaaDoor
