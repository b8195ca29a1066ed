/-
  Layer 17: the laws' own given.
-/
import Derived.Test.YthcpnfelnonhnaaDoorQa
namespace Go.Proofs.YthcpnfelnonhnaaDoor
open Go.RowKit

open Go.Shelf
attribute [local go_sem] Oper.semAt_some
/-- how the loop is left: enough has come -/
def Enough (w : World) (B : Nat) (k : Int) (c : Code) (pre' : List WE) (W : World) : Prop := c = .exit 0 ∧ ∃ (pre : List WE) (x : WE), (pre' = pre ++ [x] ∧ k ≤ pre.length ∧ pre.length ≤ k.toNat) ∧ Got w.heap.size B 64 pre W ∧ Below w.heap.size w W
theorem pre_take {pre : List WE} {x : WE} {L : List En} {k : Int} (h : ens (pre ++ [x]) <+: L) (h1 : k ≤ pre.length) (h2 : pre.length ≤ k.toNat) : ens pre = L.take k.toNat := by
  have e : pre.length = k.toNat := by omega
  rw [ens_snoc] at h
  obtain ⟨t, ht⟩ := h
  have e2 : (ens pre).length = pre.length := List.length_map _
  rw [← ht, List.append_assoc, ← e, ← e2, List.take_left]
theorem box_new1 (w : World) (t : TypeId) (v : Value) (n : Nat) (h : w.heap.size = n) : Boxed (w.alloc (.cells #[v] t)) n t v := by rw [← h]; exact Boxed.new w t v
section
variable {w : World} {p : Option Addr} {L : List En}
set_option maxHeartbeats 4000000 in
set_option maxRecDepth 100000 in
theorem given_any (hS : Stands w p L) (k : Int) : Calls Tryd.prog 16 #[.pointer p, .int .i64 k] w fun e w' => ∃ v, e = .returned (.tuple #[v, .bool true]) ∧ EOwn 75 w' w.heap.size v (L.take k.toNat) ∧ Below w.heap.size w w' := by
  have h64 := hS.few
  have HS : Hid (Stands w p L) := hS
  obtain ⟨w1, hw1⟩ : ∃ w1, w1 = w.alloc (.cells #[.int .i64 k] 3) := ⟨_, rfl⟩
  have B1 : Below w.heap.size w w1 := by rw [hw1]; exact below_alloc w _
  have b1 : Boxed w1 w.heap.size 3 (.int .i64 k) := by rw [hw1]; exact Boxed.new w _ _
  have s1 : w1.heap.size = w.heap.size + 1 := by rw [hw1]; simp
  obtain ⟨w2, hw2⟩ : ∃ w2, w2 = w1.alloc (.cells #[.pointer p] 24) := ⟨_, rfl⟩
  have B2 : Below w1.heap.size w1 w2 := by rw [hw2]; exact below_alloc w1 _
  have b2 : Boxed w2 (w.heap.size + 1) 24 (.pointer p) := by rw [hw2]; exact box_new1 w1 _ _ _ s1
  have s2 : w2.heap.size = w.heap.size + 2 := by rw [hw2]; simp [s1]
  obtain ⟨w3, hw3⟩ : ∃ w3, w3 = w2.alloc (.cells #[.slice none 0 0] 60) := ⟨_, rfl⟩
  have B3 : Below w2.heap.size w2 w3 := by rw [hw3]; exact below_alloc w2 _
  have b3 : Boxed w3 (w.heap.size + 2) 60 (.slice none 0 0) := by rw [hw3]; exact box_new1 w2 _ _ _ s2
  have s3 : w3.heap.size = w.heap.size + 3 := by rw [hw3]; simp [s2]
  have HBK : Hid (Boxed w3 w.heap.size 3 (.int .i64 k)) := (B3.block _ (by omega)).trans ((B2.block _ b1.lt).trans b1)
  have HBP : Hid (Boxed w3 (w.heap.size + 1) 24 (.pointer p)) := (B3.block _ b2.lt).trans b2
  have HBX : Hid (Boxed w3 (w.heap.size + 2) 60 (.slice none 0 0)) := b3
  have HB : Hid (Below w.heap.size w w3) := below_then B1 (below_then B2 B3)
  have HSZ : Hid (w3.heap.size = w.heap.size + 3) := s3
  have HALL : Hid (Calls Tryd.prog 28 #[.pointer p] w1 fun e w' => e = .returned (seqV (w.heap.size + 1)) ∧ w' = w2) := by
    have := all_is p w1
    rw [s1, ← hw2] at this
    exact this
  have HAL : Hid ((Instr.alloc 60 true (.tuple #[])).run Tryd.prog w2 = .ok (.pointer (some ⟨w.heap.size + 2, 0, none⟩)) w3) := by rw [hw3, ← s2]; rfl
  have hbx : w.alloc (.cells #[.int .i64 k] 3) = w1 := hw1.symm
  have hnil := seq_nil (w.heap.size + 1)
  clear hw1 hw2 hw3 B1 B2 B3 b1 b2 b3 s1 s2 s3 hS
  refine (callsIn_wide (n := 9)).1 ?_
  refine callsIn_of_wp_marks Tryd.func16 rfl trivial ?_ rfl
  simp only [Tryd.ntmps16, List.size_toArray, List.length_cons, List.length_nil, Nat.reduceAdd, Nat.reduceSub, Array.replicate_succ, Array.replicate_zero, List.push_toArray, List.append_toArray, List.nil_append, List.cons_append]
  gi_wp2_with fail
  refine ⟨trivial, (callsIn_wide.2 HALL.out).mono ?_⟩
  rintro e w' ⟨rfl, rfl⟩
  gi_wp2_with ((with_reducible refine in_ops ?_); (refine in_alloc (by rfl) 60 rfl HAL.out ?_); simp only [Act.put, List.setIfInBounds_toArray, List.set_cons_zero, List.set_cons_succ])
  clear HAL HALL hbx hnil
  refine range_in (F := Fence.wide) (n := 9) (P := Tryd.prog) rfl (by decide) (gf := 36) (lb := #[.pointer (some ⟨w.heap.size + 1, 0, none⟩)]) rfl trivial (enters_of Tryd.func36 (by kernel_rfl) rfl)
    (all1_seq Fence.wide (9 - 1) trivial rfl (by decide) (w.heap.size + 1) w.heap.size p L w3 w HB.out.size HB.out rfl HBP.out HS.out) belowK_t (fun W l o o' hl h hc => (Below.refl _ W).grown (grownBy_putObj' W l o') (by have := HSZ.out; have := (Array.getElem?_eq_some_iff.1 h).1; omega) (fun k e => by cases e; have := HSZ.out; omega)) (Below.refl _ _) (fun _ => rfl)
    (fun pre W => Got w.heap.size (w.heap.size + 2) 64 pre W ∧ (pre.length ≤ k.toNat ∧ (Boxed W w.heap.size 3 (.int .i64 k) ∧ Below w.heap.size w W))) (Enough w (w.heap.size + 2) k) ?hI ?hIx ⟨⟨_, HBX.out, World.ownsRow_nil _ _ _ _, Nat.zero_le _⟩, Nat.zero_le _, HBK.out, HB.out⟩
    (fun x a' W => ∃ Bx, LAt 57 W Bx (ecells x.1) ∧ a' = { tmps := #[.pointer p, .int .i64 k, undef, .pointer (some ⟨w.heap.size, 0, none⟩), .slice none 0 0, .bool false, seqV (w.heap.size + 1), .pointer (some ⟨w.heap.size + 2, 0, none⟩), .pointer (some ⟨Bx, 0, none⟩), .pointer p, seqV (w.heap.size + 1), seqV (w.heap.size + 1), .bool false, seqV (w.heap.size + 1), .agg (ecells x.1).toArray, undef, undef, undef, undef, undef, undef, undef, undef, undef, undef], defers := [] })
    ?hAx ?assign ?body ?done ?stop
  case hI => exact OwnFrom.and (own_got _ _ _ _) (OwnFrom.and (ownFrom_pure _ _) (OwnFrom.and (own_box _ _ _ _) (ownFrom_below (Nat.le_refl _) HB.out.size)))
  case hIx =>
    rintro c s V V' row ⟨hc, pre, x, h1, h2, h3⟩ hg hr
    exact ⟨hc, pre, x, h1, own_got _ _ _ _ pre V V' row h2 hg hr, ownFrom_below (β := Unit) (Nat.le_refl _) HB.out.size () V V' row h3 hg hr⟩
  case hAx =>
    rintro x a' _ V V' row ⟨Bx, h1, h2⟩ hg hr
    exact ⟨Bx, (grownBy_keeps_cells hg (fun r e => (hr r e).2) h1 rfl).trans h1, h2⟩
  case assign =>
    rintro l1 pre x V K ⟨⟨v, h1, h2, h2'⟩, h3, h4, h6⟩ hK
    have A4 : Hid ((Instr.alloc 57 true (.tuple #[])).run Tryd.prog V = .ok (.pointer (some ⟨V.heap.size, 0, none⟩)) (V.alloc (.cells (ecells en0).toArray 57))) := allocE etC V
    have T4 : Hid ((Instr.storeAt 57 (.pointer (some ⟨V.heap.size, 0, none⟩)) (.agg (ecells x.1).toArray)).run Tryd.prog (V.alloc (.cells (ecells en0).toArray 57)) = .ok () (V.alloc (.cells (ecells x.1).toArray 57))) := store_newE etC V x.1 x.2.len
    have hb := below_alloc V (.cells (ecells x.1).toArray 57)
    have Y := hK _ _ (keeps_of_below hb w3.heap.size) (hb.mono h6.size) ⟨⟨v, h1.alloc _, h2.alloc _, h2'⟩, h3, h4.alloc _, h6.trans (hb.mono h6.size)⟩ ⟨V.heap.size, LAt.new 57 V (ecells x.1), rfl⟩
    have HY : Hid (K _ _) := Y
    clear hK h1 h2 h4 h6 hb Y
    rw [put1]
    simp only [List.setIfInBounds_toArray, List.set_cons_zero, List.set_cons_succ]
    gi_wp2_with ((with_reducible refine in_ops ?_); (first | ((refine in_alloc (by rfl) 57 rfl A4.out ?_); simp only [Act.put, List.setIfInBounds_toArray, List.set_cons_zero, List.set_cons_succ]) | ((refine in_store (by rfl) 57 rfl rfl rfl T4.out ?_); simp only [Act.put])))
    exact HY.out
  case body =>
    rintro l1 pre x a' V ⟨⟨v, h1, h2, h2'⟩, h3, h4, h6⟩ ⟨Bx, hx, rfl⟩ hlt
    obtain ⟨q, cap, rfl⟩ := O.own_shape h2
    have c4 := h1.cell
    have c0 := h4.cell
    by_cases hk : k ≤ pre.length
    · have HE : Hid (Enough w (w.heap.size + 2) k (.exit 0) (pre ++ [x]) V) := ⟨rfl, pre, x, ⟨rfl, hk, h3⟩, ⟨_, h1, h2, h2'⟩, h6⟩
      clear h1 h2 h4 h6 hx
      gi_wp2
      exact ⟨KeepsFrom.refl _ _, HE.out⟩
    · have HLd : Hid ((Instr.loadAt 57 (.pointer (some ⟨Bx, 0, none⟩))).run Tryd.prog V = .ok (.agg (ecells x.1).toArray) V) := LAt.loadE etC hx x.2.len
      have HBS : Hid ((Instr.buildSlice 60 1 #[(0, .agg (ecells x.1).toArray)]).run Tryd.prog V = .ok (.slice (some ⟨V.heap.size, 0, none⟩) 1 1) (V.alloc (.cells (ecells x.1).toArray 57))) := build_en etC V x.1 x.2.len
      obtain ⟨g', cap', V4, hrun, hv1, hv2⟩ := got_step h1 h2 x.2 h6.size (by omega) (by omega)
      have HRUN : Hid ((Builtin.append_ #[60, 60] 60 #[.slice q pre.length cap, .slice (some ⟨V.heap.size, 0, none⟩) 1 1]).run Tryd.prog (V.alloc (.cells (ecells x.1).toArray 57)) = .ok (.slice (some ⟨g', 0, none⟩) (pre.length + 1) cap') V4) := hrun
      have k1 := hv1.cell
      have k2 := hv1.frozen
      have HFIN : Hid (KeepsFrom w3.heap.size V (V4.setCell ⟨w.heap.size + 2, 0, none⟩ (.slice (some ⟨g', 0, none⟩) (pre.length + 1) cap')) ∧ Below w.heap.size V (V4.setCell ⟨w.heap.size + 2, 0, none⟩ (.slice (some ⟨g', 0, none⟩) (pre.length + 1) cap')) ∧ (Got w.heap.size (w.heap.size + 2) 64 (pre ++ [x]) (V4.setCell ⟨w.heap.size + 2, 0, none⟩ (.slice (some ⟨g', 0, none⟩) (pre.length + 1) cap')) ∧ ((pre ++ [x]).length ≤ k.toNat ∧ (Boxed (V4.setCell ⟨w.heap.size + 2, 0, none⟩ (.slice (some ⟨g', 0, none⟩) (pre.length + 1) cap')) w.heap.size 3 (.int .i64 k) ∧ Below w.heap.size w (V4.setCell ⟨w.heap.size + 2, 0, none⟩ (.slice (some ⟨g', 0, none⟩) (pre.length + 1) cap')))))) := by
        refine ⟨hv2.2.2.1.from _, hv2.2.2.2.1, ⟨_, hv2.1, ?_, ?_⟩, ?_, hv2.2.2.2.2 _ _ _ (by decide) (by omega) h4, h6.trans hv2.2.2.2.1⟩
        · rw [ens_snoc, show (pre ++ [x]).length = pre.length + 1 by simp]; exact hv2.2.1
        · simp; omega
        · simp; omega
      clear hrun hv1 hv2 h1 h2 h4 h6 hx
      gi_wp2_with ((with_reducible refine in_ops ?_); (first | (refine in_load (by rfl) 57 rfl rfl HLd.out ?_) | (refine in_slice (u := .agg (ecells x.1).toArray) (by rfl) 60 rfl rfl HBS.out ?_) | (refine in_append (u1 := .slice q pre.length cap) (u2 := .slice (some ⟨V.heap.size, 0, none⟩) 1 1) (by rfl) rfl rfl rfl rfl HRUN.out ?_)); simp only [Act.put, List.setIfInBounds_toArray, List.set_cons_zero, List.set_cons_succ])
      exact HFIN.out
  case done =>
    rintro D ys W hD hSt ⟨⟨v, h1, h2, h2'⟩, h3, h4, h6⟩ hK
    obtain ⟨q, cap, rfl⟩ := O.own_shape h2
    have hb := h1.cell
    have e1 : ens ys = L := hSt
    have HR : Hid (EOwn 57 W w.heap.size (.slice q ys.length cap) (L.take k.toNat)) := by
      have e2 : L.take k.toNat = ens ys := by rw [← e1]; exact List.take_of_length_le (by rw [List.length_map]; exact h3)
      show World.ownsRow _ _ _ _ _ _ _
      rw [e2, List.length_map]
      exact h2
    have HEL : Hid (ys.length = (L.take k.toNat).length) := by show _ = _; rw [← e1, List.length_take, List.length_map]; omega
    have HWF : Hid (EnsWf (L.take k.toNat)) := fun x hx => HS.out.wf x (List.mem_of_mem_take hx)
    have hR2 := HR.out
    rw [HEL.out] at hR2
    obtain ⟨p9, c9, e9, hE, -, -⟩ := EOwn.in hR2 HWF.out
    cases e9
    clear hR2
    have HE : Hid (EIn W q (L.take k.toNat).length (L.take k.toNat)) := hE
    have hl : (L.take k.toNat).length ≤ 64 := by rw [List.length_take]; omega
    have HBW : Hid (Below w.heap.size w W) := h6
    rw [HEL.out] at hb
    have HDW : Hid (D < W.heap.size) := (Array.getElem?_eq_some_iff.1 hK).1
    clear h1 h2 h4 h6 hSt hE e1
    generalize (L.take k.toNat).length = m at *
    gi_wp2_with fail
    refine ⟨trivial, (callsIn_wide.2 (plain_at HE.out (by omega))).mono ?_⟩
    rintro e V ⟨v, rfl, ho, hbb⟩
    obtain ⟨p2, m2, c2, rfl⟩ : ∃ p2 m2 c2, v = .slice p2 m2 c2 := by obtain ⟨p2, c2, e2, -, -⟩ := O.own_form ho; exact ⟨p2, _, c2, e2⟩
    have hK2 : V.heap[D]? = some (.deferred (some [])) := (hbb.block D HDW.out).trans hK
    have HZ : Hid (EOwn 75 (V.putObj D (.deferred none)) w.heap.size (.slice p2 m2 c2) (L.take k.toNat) ∧ Below w.heap.size w (V.putObj D (.deferred none))) :=
      ⟨ownsRow_putObj (own_mono ho HBW.out.size) (.deferred none) hK2 rfl, (below_then HBW.out hbb).trans (belowK_b (w := w) (Nat.le_refl _) _ D _ _ (by have := HSZ.out; omega) hK2 rfl rfl)⟩
    clear ho hbb
    gi_wp2
    refine ⟨by simp, .inl ⟨_, _, rfl, run_takeDeferred hK2, ?_⟩⟩
    exact ⟨_, by simp [results, Tryd.results16, go_sem], _, rfl, HZ.out⟩
  case stop =>
    rintro D c pre W hD hpre ⟨rfl, pre', x, ⟨rfl, hk1, hk2⟩, ⟨v, h1, h2, h2'⟩, h6⟩ hK
    obtain ⟨q, cap, rfl⟩ := O.own_shape h2
    have hb := h1.cell
    have e1 : ens pre' = L.take k.toNat := pre_take hpre hk1 hk2
    have HR : Hid (EOwn 57 W w.heap.size (.slice q pre'.length cap) (L.take k.toNat)) := by
      show World.ownsRow _ _ _ _ _ _ _
      rw [← e1, List.length_map]
      exact h2
    have HEL : Hid (pre'.length = (L.take k.toNat).length) := by show _ = _; rw [← e1, List.length_map]
    have HWF : Hid (EnsWf (L.take k.toNat)) := fun x hx => HS.out.wf x (List.mem_of_mem_take hx)
    have hR2 := HR.out
    rw [HEL.out] at hR2
    obtain ⟨p9, c9, e9, hE, -, -⟩ := EOwn.in hR2 HWF.out
    cases e9
    clear hR2
    have HE : Hid (EIn W q (L.take k.toNat).length (L.take k.toNat)) := hE
    have hl : (L.take k.toNat).length ≤ 64 := by rw [List.length_take]; omega
    have HBW : Hid (Below w.heap.size w W) := h6
    rw [HEL.out] at hb
    have HDW : Hid (D < W.heap.size) := (Array.getElem?_eq_some_iff.1 hK).1
    clear h1 h2 h6 hE e1 hpre hk1 hk2
    generalize (L.take k.toNat).length = m at *
    gi_wp2_with fail
    refine ⟨trivial, (callsIn_wide.2 (plain_at HE.out (by omega))).mono ?_⟩
    rintro e V ⟨v, rfl, ho, hbb⟩
    obtain ⟨p2, m2, c2, rfl⟩ : ∃ p2 m2 c2, v = .slice p2 m2 c2 := by obtain ⟨p2, c2, e2, -, -⟩ := O.own_form ho; exact ⟨p2, _, c2, e2⟩
    have hK2 : V.heap[D]? = some (.deferred (some [])) := (hbb.block D HDW.out).trans hK
    have HZ : Hid (EOwn 75 (V.putObj D (.deferred none)) w.heap.size (.slice p2 m2 c2) (L.take k.toNat) ∧ Below w.heap.size w (V.putObj D (.deferred none))) :=
      ⟨ownsRow_putObj (own_mono ho HBW.out.size) (.deferred none) hK2 rfl, (below_then HBW.out hbb).trans (belowK_b (w := w) (Nat.le_refl _) _ D _ _ (by have := HSZ.out; omega) hK2 rfl rfl)⟩
    clear ho hbb
    gi_wp2
    refine ⟨by simp, .inl ⟨_, _, rfl, run_takeDeferred hK2, ?_⟩⟩
    exact ⟨_, by simp [results, Tryd.results16, go_sem], _, rfl, HZ.out⟩
end
end Go.Proofs.YthcpnfelnonhnaaDoor
