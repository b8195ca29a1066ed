/-
  Layer 17: the laws' own images, sameImages, roomy.
-/
import Derived.Test.YthcpnfelnonhnaaDoorRc
namespace Go.Proofs.YthcpnfelnonhnaaDoor
open Go.RowKit

/-- the marks -/
abbrev mkI : Im := ⟨-7, zs 32⟩
abbrev mkE : En := ⟨-7, zs 32, 0⟩
theorem mkI_wf : mkI.Wf := ⟨⟨by decide, by decide⟩, zs_len 32, zs_bytes 32⟩
theorem mkE_wf : mkE.Wf := ⟨⟨by decide, by decide⟩, zs_len 32, zs_bytes 32, by decide, by decide⟩
/-- the law's own variable holds its mark -/
def Tab (w : World) : Prop := 0 < w.heap.size ∧ w.rangeAt 0 0 (ecells mkE)
theorem Tab.later {w w' : World} (h : Tab w) (hb : Below w.heap.size w w') : Tab w' := ⟨Nat.lt_of_lt_of_le h.1 hb.size, range_block h.2 (hb.block 0 h.1)⟩
theorem Tab.load {w : World} (h : Tab w) : (Instr.loadAt 57 (.pointer (some ⟨0, 0, none⟩))).run Tryd.prog w = .ok (.agg (ecells mkE).toArray) w := run_loadAt_mid w 0 0 57 (ecells mkE) _ h.2 etC.un (isRowS _) (by rw [etC.size, ecells_len (zs_len 32)])
theorem app_bigI {W : World} {B : Nat} {v : Value} {l0 l : List Im} {q : Option Addr} {m c : Nat} (h0 : IOwn W B v l0) (hw0 : ImsWf l0) (h : MIn W q m l) (hm : (l0.length + m) * 40 ≤ 140737488355328) (hB : B ≤ W.heap.size) : ∃ q' c' W', (Builtin.append_ #[45, 45] 45 #[v, .slice q m c]).run Tryd.prog W = .ok (.slice q' (l0 ++ l).length c') W' ∧ IOwn W' B (.slice q' (l0 ++ l).length c') (l0 ++ l) ∧ W.grownBy W' v.ownBlock ∧ ((Value.slice q' (l0 ++ l).length c').ownBlock = v.ownBlock ∨ (Value.slice q' (l0 ++ l).length c').ownBlock = some W.heap.size) := by
  obtain ⟨i0, hi0, hz0, hz1, hz2⟩ := info_parts infoI
  have h65 : (140737488355328 : Nat) ≤ maxLen := by decide
  have hwf : ImsWf (l0 ++ l) := fun x hx => (List.mem_append.1 hx).elim (hw0 x) (h.wf x)
  have go : ∀ (ad : Addr), q = some ad → ∃ q' c' W', (Builtin.append_ #[45, 45] 45 #[v, .slice q m c]).run Tryd.prog W = .ok (.slice q' (l0 ++ l).length c') W' ∧ IOwn W' B (.slice q' (l0 ++ l).length c') (l0 ++ l) ∧ W.grownBy W' v.ownBlock ∧ ((Value.slice q' (l0 ++ l).length c').ownBlock = v.ownBlock ∨ (Value.slice q' (l0 ++ l).length c').ownBlock = some W.heap.size) := by
    rintro ad rfl
    obtain ⟨v', W', hrun, hown', hgrow, -, hat⟩ := run_append_own_at (P := Tryd.prog) W B 45 45 55 i0 _ 33 40 Tryd.underlying45 hi0 hz0 hz1 hz2 rfl (by decide) v l0.length (IC l0) h0 ad m c (IC l) (by rw [IC_len h.wf, h.len]) (fun j u hu => by
      by_cases hp : 0 < m
      · obtain ⟨b', o', e, hr⟩ := h.cells hp
        cases e
        rw [Addr.add_mid]
        exact hr j u hu
      · have : l = [] := List.length_eq_zero_iff.1 (by rw [h.len]; omega)
        rw [this] at hu; simp [IC] at hu) (IC_ones l) (by omega) (by omega) hB
    have hown2 : IOwn W' B v' (l0 ++ l) := by
      rw [IOwn, List.length_append, h.len, IC_append]; exact hown'
    obtain ⟨q', c', rfl, -, -, -⟩ := IOwn.in hown2 hwf
    exact ⟨q', c', W', hrun, hown2, hgrow, hat⟩
  by_cases hp : 0 < m
  · obtain ⟨b, o, e, -⟩ := h.cells hp
    exact go _ e
  · have m0 : m = 0 := by omega
    have e0 : l = [] := List.length_eq_zero_iff.1 (by rw [h.len, m0])
    cases q with
    | none =>
      subst m0; subst e0
      have hr : (Builtin.append_ #[45, 45] 45 #[v, .slice none 0 c]).run Tryd.prog W = .ok v W := by
        rcases h0.2 with ⟨rfl, _⟩ | ⟨g, cap, cur, rfl, _, _, hnc, _⟩
        · simp [Builtin.append_, run_underlying Tryd.underlying45, sizeOf, typeInfo, hi0, Builtin.lenOf, Builtin.firstCells]
        · simp [Builtin.append_, run_underlying Tryd.underlying45, sizeOf, typeInfo, hi0, Builtin.lenOf, Builtin.firstCells, hnc, storeCells]
      obtain ⟨q', c', rfl, -, -, -⟩ := IOwn.in h0 hw0
      rw [List.append_nil]
      exact ⟨q', c', W, hr, h0, ⟨rfl, rfl, rfl, Nat.le_refl _, fun _ _ _ => rfl⟩, .inl rfl⟩
    | some ad => exact go ad rfl
section
variable {w : World}
set_option maxHeartbeats 2000000 in
set_option maxRecDepth 100000 in
theorem images_at {p : Option Addr} {m c : Nat} {l : List Im} (hM : MIn w p m l) (hm : m * 40 ≤ 140737488351232) : Calls Tryd.prog 19 #[.slice p m c] w fun e w' => ∃ g c', e = .returned (.slice (some ⟨g, 0, none⟩) m c') ∧ m + 1 ≤ c' ∧ IOwn w' w.heap.size (.slice (some ⟨g, 0, none⟩) (m + 1) c') (l ++ [mkI]) ∧ Below w.heap.size w w' := by
  have hL := hM.len
  obtain ⟨w1, hw1⟩ : ∃ w1, w1 = w.alloc (.cells #[] 55) := ⟨_, rfl⟩
  have b1 : Below w.heap.size w w1 := by rw [hw1]; exact below_alloc _ _
  have o1 : IOwn w1 w.heap.size (.slice (some ⟨w.heap.size, 0, none⟩) 0 0) [] := by rw [hw1]; exact O.own_empty w (Nat.le_refl _)
  obtain ⟨q2, c2, w2, hap, ho2, hg2, hat2⟩ := app_bigI (c := c) o1 ImsWf.nil (hM.later b1) (by simp; omega) b1.size
  rw [List.nil_append, hL] at hap ho2 hat2
  have HAP1 : Hid ((Builtin.append_ #[45, 45] 45 #[.slice (some ⟨w.heap.size, 0, none⟩) 0 0, .slice p m c]).run Tryd.prog (w.alloc (.cells #[] 55)) = .ok (.slice q2 m c2) w2) := by rw [← hw1]; exact hap
  have b2 : Below w.heap.size w w2 := (O.kept_grown hg2).into b1 (fun b hb e => by have := (o1.lt b e).1; omega) (Nat.le_refl _)
  obtain ⟨w3, hw3⟩ : ∃ w3, w3 = w2.alloc (.cells (icells mkI).toArray 55) := ⟨_, rfl⟩
  have b3 : Below w2.heap.size w2 w3 := by rw [hw3]; exact below_alloc _ _
  have HBI : Hid ((Instr.build 55 #[(0, .int .i64 (-7))]).run Tryd.prog w2 = .ok (.agg (icells mkI).toArray) w2) := buildIb w2 (-7)
  have HBS : Hid ((Instr.buildSlice 45 1 #[(0, .agg (icells mkI).toArray)]).run Tryd.prog w2 = .ok (.slice (some ⟨w2.heap.size, 0, none⟩) 1 1) w3) := by rw [hw3]; exact build_im w2 mkI (zs_len 32)
  have l3 : LAt 55 w3 w2.heap.size (icells mkI) := by rw [hw3]; exact LAt.new _ _ _
  have o3 : IOwn w3 w.heap.size (.slice q2 m c2) l := O.own_later ho2 b3
  obtain ⟨q4, c4, w4, hap4, ho4, hg4, hat4⟩ := app_bigI (c := 1) o3 hM.wf (one_min l3 mkI_wf) (by rw [hL]; omega) (below_then b2 b3).size
  have e4 : (l ++ [mkI]).length = m + 1 := by rw [List.length_append, hL, List.length_singleton]
  rw [e4] at hap4 ho4 hat4
  have HAP2 : Hid ((Builtin.append_ #[45, 45] 45 #[.slice q2 m c2, .slice (some ⟨w2.heap.size, 0, none⟩) 1 1]).run Tryd.prog w3 = .ok (.slice q4 (m + 1) c4) w4) := hap4
  have b4 : Below w.heap.size w w4 := (O.kept_grown hg4).into (below_then b2 b3) (fun b hb e => by have := (o3.lt b e).1; omega) (Nat.le_refl _)
  obtain ⟨g, rfl, hc4⟩ : ∃ g, q4 = some ⟨g, 0, none⟩ ∧ m + 1 ≤ c4 := by
    obtain ⟨p9, c9, e9, h9, h10⟩ := O.own_form ho4
    simp only [Value.slice.injEq] at e9
    obtain ⟨e9a, -, e9c⟩ := e9
    subst e9a; subst e9c
    obtain ⟨g, hg⟩ := h10 (by omega)
    exact ⟨g, hg, by rw [e4] at h9; exact h9⟩
  have HF : Hid (IOwn w4 w.heap.size (.slice (some ⟨g, 0, none⟩) (m + 1) c4) (l ++ [mkI]) ∧ Below w.heap.size w w4) := ⟨ho4, b4⟩
  clear hw1 b1 o1 hap ho2 hg2 hat2 b2 hw3 b3 l3 o3 hap4 ho4 hg4 hat4 e4 b4 hM
  go_enter Tryd.func19, Tryd.ntmps19
  go_wp2_with ((with_reducible refine at_ops ?_); (first | (refine wpList_append_is (u1 := .slice (some ⟨w.heap.size, 0, none⟩) 0 0) (u2 := .slice p m c) (by rfl) rfl rfl rfl rfl HAP1.out ?_) | (refine wpList_build_is (vs := [(0, .int .i64 (-7))]) (by rfl) 55 rfl (by rfl) HBI.out ?_) | (refine wpList_slice_is (u := .agg (icells mkI).toArray) (by rfl) 45 rfl rfl HBS.out ?_) | (refine wpList_append_is (u1 := .slice q2 m c2) (u2 := .slice (some ⟨w2.heap.size, 0, none⟩) 1 1) (by rfl) rfl rfl rfl rfl HAP2.out ?_)); simp only [Act.put, List.setIfInBounds_toArray, List.set_cons_zero, List.set_cons_succ])
  go_ret
  exact ⟨g, c4, rfl, hc4, HF.out⟩
set_option maxHeartbeats 2000000 in
set_option maxRecDepth 100000 in
theorem sameImages_at {p : Option Addr} {g m c c' : Nat} {l : List Im} (hX : MIn w (some ⟨g, 0, none⟩) (m + 1) (l ++ [mkI])) (hc : m + 1 ≤ c') (hM : MIn w p m l) (hm : m ≤ 140737488355328) : Calls Tryd.prog 21 #[.slice (some ⟨g, 0, none⟩) m c', .slice p m c] w fun e w' => e = .returned (.bool true) ∧ Below w.heap.size w w' := by
  have hL := hM.len
  have HX : Hid (MIn w (some ⟨g, 0, none⟩) (m + 1) (l ++ [mkI])) := hX
  have HM : Hid (MIn w p m l) := hM
  have z := hX.c0 (k := m) (i := mkI) (by rw [List.getElem?_append_right (by omega), hL]; simp)
  have z7 : w.cell? ⟨g, m * 33, none⟩ = some (.int .i64 (-7)) := by rw [Nat.zero_add] at z; exact z
  have hbm : (((m : Nat) : Int) != ((m : Nat) : Int)) = false := by simp
  clear hX hM z
  go_enter Tryd.func21, Tryd.ntmps21
  go_wp2_with fail
  go_loopw [6] (fun v W => ∃ j : Nat, v = .int .i64 (j : Int) ∧ j ≤ m ∧ Hid (Below w.heap.size w W)) (fun v _ => m - (intOf v).toNat)
  case atStart => exact ⟨0, rfl, by omega, Below.refl _ _⟩
  case round =>
    obtain ⟨j, rfl, hj, HB⟩ := hrel
    by_cases hlt : j < m
    · obtain ⟨x, hx⟩ : ∃ x, l[j]? = some x := ⟨_, List.getElem?_eq_getElem (by rw [hL]; omega)⟩
      obtain ⟨b2, o2, rfl, -⟩ := HM.out.cells (by omega)
      have hx1 : (l ++ [mkI])[j]? = some x := by rw [List.getElem?_append_left (by rw [hL]; omega)]; exact hx
      have L1 : Hid (∀ W, Below wr.heap.size wr W → (Instr.loadAt 55 (.pointer (some ⟨g, j * 33, none⟩))).run Tryd.prog W = .ok (.agg (icells x).toArray) W) := fun W hW => by have := MIn.load (HX.out.later (below_then HB.out hW)) hx1; rw [Nat.zero_add] at this; exact this
      have L2 : Hid (∀ W, Below wr.heap.size wr W → (Instr.loadAt 55 (.pointer (some ⟨b2, o2 + j * 33, none⟩))).run Tryd.prog W = .ok (.agg (icells x).toArray) W) := fun W hW => MIn.load (HM.out.later (below_then HB.out hW)) hx
      have hxl := (HM.out.wf x (List.mem_of_getElem? hx)).len
      have LN : Hid (∀ W, (binOp .neq 55 (.agg (icells x).toArray) (.agg (icells x).toArray)).run Tryd.prog W = .ok (.bool false) W) := fun W => by rw [neqI W x x hxl hxl, (imB_iff x x).2 rfl]; rfl
      have i1 : (j : Int) < (m : Int) := by omega
      have HD : Hid (Below wr.heap.size wr wr.drew) := below_drawn 1
      have HBD : Hid (Below w.heap.size w wr.drew) := below_then HB.out HD.out
      clear hx hx1 hxl
      go_wp2_with fail
      refine wp_region_noPanic ?_
      refine wp_region_held_drew (S := fun W => Below wr.heap.size wr W) (by kernel_rfl) HD.out (fun hHeld => ?_)
      generalize wr.drew = wD at *
      refine wpAnyH_take (i := 0) (v := ?va17) (by simp; rfl) (by kernel_rfl) (by kernel_rfl) (by kernel_rfl) (fun _ _ _ h => h) (Or.inl ⟨by rfl, ?ya17⟩) hHeld ?ra17
      case ya17 => intro w hSw; clear hSw; go_simp; with_reducible rfl
      simp only [Act.put, List.setIfInBounds_toArray, List.set_cons_zero, List.set_cons_succ]
      refine wpAnyH_take (i := 1) (v := ?va18) (by simp; rfl) (by kernel_rfl) (by kernel_rfl) (by kernel_rfl) (fun _ _ _ h => h) (Or.inl ⟨by rfl, ?ya18⟩) hHeld ?ra18
      case ya18 => intro w hSw; clear hSw; go_simp; with_reducible rfl
      simp only [Act.put, List.setIfInBounds_toArray, List.set_cons_zero, List.set_cons_succ]
      refine wpAnyH_take (i := 2) (v := ?va19) (by simp; rfl) (by kernel_rfl) (by kernel_rfl) (by kernel_rfl) (fun _ _ _ h => h) (Or.inl ⟨by rfl, ?ya19⟩) hHeld ?ra19
      case ya19 => intro w hSw; clear hSw; go_simp; with_reducible rfl
      simp only [Act.put, List.setIfInBounds_toArray, List.set_cons_zero, List.set_cons_succ]
      refine wpAnyH_take (i := 3) (v := _) (by simp; rfl) (by kernel_rfl) (by kernel_rfl) (by kernel_rfl) (fun _ _ _ h => h) (yields_load_is (x := .tmp 31) (p := .pointer (some ⟨g, j * 33, none⟩)) (v := .agg (icells x).toArray) (by rfl) 55 rfl rfl (fun W hW => L1.out W hW)) hHeld ?_
      simp only [Act.put, List.setIfInBounds_toArray, List.set_cons_zero, List.set_cons_succ]
      refine wpAnyH_take (i := 4) (v := ?va20) (by simp; rfl) (by kernel_rfl) (by kernel_rfl) (by kernel_rfl) (fun _ _ _ h => h) (Or.inl ⟨by rfl, ?ya20⟩) hHeld ?ra20
      case ya20 => intro w hSw; clear hSw; go_simp; with_reducible rfl
      simp only [Act.put, List.setIfInBounds_toArray, List.set_cons_zero, List.set_cons_succ]
      refine wpAnyH_take (i := 5) (v := ?va21) (by simp; rfl) (by kernel_rfl) (by kernel_rfl) (by kernel_rfl) (fun _ _ _ h => h) (Or.inl ⟨by rfl, ?ya21⟩) hHeld ?ra21
      case ya21 => intro w hSw; clear hSw; go_simp; with_reducible rfl
      simp only [Act.put, List.setIfInBounds_toArray, List.set_cons_zero, List.set_cons_succ]
      refine wpAnyH_take (i := 6) (v := ?va22) (by simp; rfl) (by kernel_rfl) (by kernel_rfl) (by kernel_rfl) (fun _ _ _ h => h) (Or.inl ⟨by rfl, ?ya22⟩) hHeld ?ra22
      case ya22 => intro w hSw; clear hSw; go_simp; with_reducible rfl
      simp only [Act.put, List.setIfInBounds_toArray, List.set_cons_zero, List.set_cons_succ]
      refine wpAnyH_take (i := 7) (v := _) (by simp; rfl) (by kernel_rfl) (by kernel_rfl) (by kernel_rfl) (fun _ _ _ h => h) (yields_load_is (x := .tmp 35) (p := .pointer (some ⟨b2, o2 + j * 33, none⟩)) (v := .agg (icells x).toArray) (by rfl) 55 rfl rfl (fun W hW => L2.out W hW)) hHeld ?_
      simp only [Act.put, List.setIfInBounds_toArray, List.set_cons_zero, List.set_cons_succ]
      refine wpAnyH_take (i := 8) (v := _) (by simp; rfl) (by kernel_rfl) (by kernel_rfl) (by kernel_rfl) (fun _ _ _ h => h) (yields_neq_is (by rfl) 55 rfl rfl rfl eqgI LN.out) hHeld ?_
      simp only [Act.put, List.setIfInBounds_toArray, List.set_cons_zero, List.set_cons_succ]
      clear hHeld
      refine wpAnyH_done (by kernel_rfl) (NoPanic.normal ?_) _
      go_wp2
      go_roundw
      case rel => exact ⟨j + 1, by congr 1, by omega, HBD⟩
      case measure => simp [intOf]; omega
    · go_wp2
      go_ret
      exact ⟨rfl, HB.out⟩
set_option maxHeartbeats 2000000 in
set_option maxRecDepth 100000 in
theorem roomy_at {p : Option Addr} {m c : Nat} {l : List En} (hM : EIn w p m l) (hm : m * 48 ≤ 140737488351232) (hT : Tab w) : Calls Tryd.prog 23 #[.slice p m c] w fun e w' => ∃ g c', e = .returned (.slice (some ⟨g, 0, none⟩) m c') ∧ m + 1 ≤ c' ∧ EOwn 57 w' w.heap.size (.slice (some ⟨g, 0, none⟩) (m + 1) c') (l ++ [mkE]) ∧ Below w.heap.size w w' := by
  have HTB : Hid (Tab w) := hT
  have HM : Hid (EIn w p m l) := hM
  have HL : Hid (l.length = m) := hM.len
  clear hM hT
  go_enter Tryd.func23, Tryd.ntmps23
  go_wp2_with fail
  go_loopw [3, 4] (fun v v2 W => ∃ (k : Nat) (p2 : Option Addr) (c2 : Nat), v = .slice p2 k c2 ∧ v2 = .int .i64 (k : Int) ∧ k ≤ m ∧ Hid (EOwn 57 W w.heap.size (.slice p2 k c2) (l.take k)) ∧ Hid (Below w.heap.size w W)) (fun _ v _ => m - (intOf v).toNat)
  case atStart => exact ⟨0, none, 0, rfl, rfl, by omega, (World.ownsRow_nil _ _ _ _ : EOwn 57 w w.heap.size (.slice none 0 0) (l.take 0)), Below.refl _ _⟩
  case round =>
    obtain ⟨k, p2, c2, rfl, rfl, hk, HO, HB⟩ := hrel
    by_cases hlt : k < m
    · obtain ⟨x, hx, hxw⟩ := HM.out.len_lt hlt
      obtain ⟨b1, o1, rfl, -⟩ := HM.out.cells (by omega)
      have hbl := HM.out.block_lt (by omega)
      have hD : Below wr.heap.size wr wr.drew := below_drawn 1
      have hBD : Below w.heap.size w wr.drew := below_then HB.out hD
      have HX : Hid (l[k]? = some x) := hx
      have HXW : Hid x.Wf := hxw
      have HTK : Hid (l.take (k + 1) = l.take k ++ [x]) := take_snocE hx
      have HTL : Hid ((l.take k).length = k) := by show _ = _; rw [List.length_take, HL.out]; omega
      have S1 : EIn wr.drew (some ⟨b1, o1, none⟩) m l := HM.out.later hBD
      obtain ⟨wB, hwB⟩ : ∃ wB, wB = wr.drew.alloc (.cells (ecells x).toArray 57) := ⟨_, rfl⟩
      have bB : Below wr.drew.heap.size wr.drew wB := by rw [hwB]; exact below_alloc _ _
      obtain ⟨nB, hnB⟩ : ∃ nB, nB = wr.drew.heap.size := ⟨_, rfl⟩
      have HBS : Hid ((Instr.buildSlice 60 1 #[(0, .agg (ecells x).toArray)]).run Tryd.prog wr.drew = .ok (.slice (some ⟨nB, 0, none⟩) 1 1) wB) := by rw [hwB, hnB]; exact build_en etC wr.drew x hxw.len
      have lB : LAt 57 wB nB (ecells x) := by rw [hwB, hnB]; exact LAt.new _ _ _
      have oB : EOwn 57 wB w.heap.size (.slice p2 k c2) (l.take k) := O.own_later (O.own_later HO.out hD) bB
      have hBB : Below w.heap.size w wB := below_then hBD bB
      obtain ⟨q', c', wA, hap, ho, hg, hat⟩ := app_big etC (c := 1) oB (fun y hy => HM.out.wf y (List.mem_of_mem_take hy)) (one_ein lB hxw) (by omega) (by rw [HTL.out]; omega) hBB.size
      rw [HTL.out] at hap ho hat
      have HAP : Hid ((Builtin.append_ #[60, 60] 60 #[.slice p2 k c2, .slice (some ⟨nB, 0, none⟩) 1 1]).run Tryd.prog wB = .ok (.slice q' (k + 1) c') wA) := hap
      have hbA : Below w.heap.size w wA := (O.kept_grown hg).into hBB (fun b hb e => by have := (oB.lt b e).1; omega) (Nat.le_refl _)
      have HS1 : Hid (EIn wr.drew (some ⟨b1, o1, none⟩) m l) := S1
      have HS2 : Hid (EIn wB (some ⟨b1, o1, none⟩) m l) := HM.out.later hBB
      have HS3 : Hid (EIn wA (some ⟨b1, o1, none⟩) m l) := HM.out.later hbA
      have HFO : Hid (EOwn 57 wA w.heap.size (.slice q' (k + 1) c') (l.take (k + 1))) := by show EOwn _ _ _ _ _; rw [HTK.out]; exact ho
      have HFB : Hid (Below w.heap.size w wA) := hbA
      have i1 : (k : Int) < (m : Int) := by omega
      have i0 : (0 : Int) ≤ (k : Int) := by omega
      clear hap ho hg hat hbA oB lB bB hwB hnB S1 hBB hBD hD hx hxw HO HB HTK HTL hbl
      go_wp2_with fail
      refine wp_region_noPanic ?_
      refine wp_region_held_drew (S := fun W => EIn W (some ⟨b1, o1, none⟩) m l) (by kernel_rfl) HS1.out (fun hHeld => ?_)
      generalize wr.drew = wD at *
      refine wpAnyH_take (i := 0) (v := ?va1) (by simp; rfl) (by kernel_rfl) (by kernel_rfl) (by kernel_rfl) (fun _ _ _ h => h) (Or.inl ⟨by rfl, ?ya1⟩) hHeld ?ra1
      case ya1 => intro w hSw; clear hSw; go_simp; with_reducible rfl
      simp only [Act.put, List.setIfInBounds_toArray, List.set_cons_zero, List.set_cons_succ]
      refine wpAnyH_take (i := 1) (v := ?va2) (by simp; rfl) (by kernel_rfl) (by kernel_rfl) (by kernel_rfl) (fun _ _ _ h => h) (Or.inl ⟨by rfl, ?ya2⟩) hHeld ?ra2
      case ya2 => intro w hSw; clear hSw; go_simp; with_reducible rfl
      simp only [Act.put, List.setIfInBounds_toArray, List.set_cons_zero, List.set_cons_succ]
      refine wpAnyH_take (i := 2) (v := ?va3) (by simp; rfl) (by kernel_rfl) (by kernel_rfl) (by kernel_rfl) (fun _ _ _ h => h) (Or.inl ⟨by rfl, ?ya3⟩) hHeld ?ra3
      case ya3 => intro w hSw; clear hSw; go_simp; with_reducible rfl
      simp only [Act.put, List.setIfInBounds_toArray, List.set_cons_zero, List.set_cons_succ]
      refine wpAnyH_take (i := 3) (v := ?va4) (by simp; rfl) (by kernel_rfl) (by kernel_rfl) (by kernel_rfl) (fun _ _ _ h => h) (Or.inl ⟨by rfl, ?ya4⟩) hHeld ?ra4
      case ya4 => intro w hSw; clear hSw; go_simp; with_reducible rfl
      simp only [Act.put, List.setIfInBounds_toArray, List.set_cons_zero, List.set_cons_succ]
      refine wpAnyH_take (i := 4) (v := ?va5) (by simp; rfl) (by kernel_rfl) (by kernel_rfl) (by kernel_rfl) (fun _ _ _ h => h) (Or.inl ⟨by rfl, ?ya5⟩) hHeld ?ra5
      case ya5 => intro w hSw; clear hSw; go_simp; with_reducible rfl
      simp only [Act.put, List.setIfInBounds_toArray, List.set_cons_zero, List.set_cons_succ]
      refine wpAnyH_take (i := 5) (v := ?va6) (by simp; rfl) (by kernel_rfl) (by kernel_rfl) (by kernel_rfl) (fun _ _ _ h => h) (Or.inl ⟨by rfl, ?ya6⟩) hHeld ?ra6
      case ya6 => intro w hSw; have z := EIn.c0 hSw HX.out; clear hSw; go_simp; with_reducible rfl
      simp only [Act.put, List.setIfInBounds_toArray, List.set_cons_zero, List.set_cons_succ]
      refine wpAnyH_take (i := 6) (v := ?va7) (by simp; rfl) (by kernel_rfl) (by kernel_rfl) (by kernel_rfl) (fun _ _ _ h => h) (Or.inl ⟨by rfl, ?ya7⟩) hHeld ?ra7
      case ya7 => intro w hSw; clear hSw; go_simp; with_reducible rfl
      simp only [Act.put, List.setIfInBounds_toArray, List.set_cons_zero, List.set_cons_succ]
      refine wpAnyH_take (i := 7) (v := ?va8) (by simp; rfl) (by kernel_rfl) (by kernel_rfl) (by kernel_rfl) (fun _ _ _ h => h) (Or.inl ⟨by rfl, ?ya8⟩) hHeld ?ra8
      case ya8 => intro w hSw; clear hSw; go_simp; with_reducible rfl
      simp only [Act.put, List.setIfInBounds_toArray, List.set_cons_zero, List.set_cons_succ]
      refine wpAnyH_take (i := 8) (v := ?va9) (by simp; rfl) (by kernel_rfl) (by kernel_rfl) (by kernel_rfl) (fun _ _ _ h => h) (Or.inl ⟨by rfl, ?ya9⟩) hHeld ?ra9
      case ya9 => intro w hSw; clear hSw; go_simp; with_reducible rfl
      simp only [Act.put, List.setIfInBounds_toArray, List.set_cons_zero, List.set_cons_succ]
      refine wpAnyH_take (i := 9) (v := ?va10) (by simp; rfl) (by kernel_rfl) (by kernel_rfl) (by kernel_rfl) (fun _ _ _ h => h) (Or.inl ⟨by rfl, ?ya10⟩) hHeld ?ra10
      case ya10 => intro w hSw; clear hSw; go_simp; with_reducible rfl
      simp only [Act.put, List.setIfInBounds_toArray, List.set_cons_zero, List.set_cons_succ]
      refine wpAnyH_take (i := 10) (v := _) (by simp; rfl) (by kernel_rfl) (by kernel_rfl) (by kernel_rfl) (fun _ _ _ h => h) (yields_load_is (x := .tmp 20) (p := .pointer (some ⟨b1, o1 + k * 34 + 1, none⟩)) (v := .agg (U8 x.v).toArray) (by rfl) 52 rfl rfl (fun W hW => EIn.loadv hW HX.out)) hHeld ?_
      simp only [Act.put, List.setIfInBounds_toArray, List.set_cons_zero, List.set_cons_succ]
      refine wpAnyH_take (i := 11) (v := ?va11) (by simp; rfl) (by kernel_rfl) (by kernel_rfl) (by kernel_rfl) (fun _ _ _ h => h) (Or.inl ⟨by rfl, ?ya11⟩) hHeld ?ra11
      case ya11 => intro w hSw; clear hSw; go_simp; with_reducible rfl
      simp only [Act.put, List.setIfInBounds_toArray, List.set_cons_zero, List.set_cons_succ]
      refine wpAnyH_take (i := 12) (v := ?va12) (by simp; rfl) (by kernel_rfl) (by kernel_rfl) (by kernel_rfl) (fun _ _ _ h => h) (Or.inl ⟨by rfl, ?ya12⟩) hHeld ?ra12
      case ya12 => intro w hSw; clear hSw; go_simp; with_reducible rfl
      simp only [Act.put, List.setIfInBounds_toArray, List.set_cons_zero, List.set_cons_succ]
      refine wpAnyH_take (i := 13) (v := ?va13) (by simp; rfl) (by kernel_rfl) (by kernel_rfl) (by kernel_rfl) (fun _ _ _ h => h) (Or.inl ⟨by rfl, ?ya13⟩) hHeld ?ra13
      case ya13 => intro w hSw; clear hSw; go_simp; with_reducible rfl
      simp only [Act.put, List.setIfInBounds_toArray, List.set_cons_zero, List.set_cons_succ]
      refine wpAnyH_take (i := 14) (v := ?va14) (by simp; rfl) (by kernel_rfl) (by kernel_rfl) (by kernel_rfl) (fun _ _ _ h => h) (Or.inl ⟨by rfl, ?ya14⟩) hHeld ?ra14
      case ya14 => intro w hSw; clear hSw; go_simp; with_reducible rfl
      simp only [Act.put, List.setIfInBounds_toArray, List.set_cons_zero, List.set_cons_succ]
      refine wpAnyH_take (i := 15) (v := ?va15) (by simp; rfl) (by kernel_rfl) (by kernel_rfl) (by kernel_rfl) (fun _ _ _ h => h) (Or.inl ⟨by rfl, ?ya15⟩) hHeld ?ra15
      case ya15 => intro w hSw; have z := EIn.cp hSw HX.out; clear hSw; go_simp; with_reducible rfl
      simp only [Act.put, List.setIfInBounds_toArray, List.set_cons_zero, List.set_cons_succ]
      refine wpAnyH_take (i := 16) (v := _) (by simp; rfl) (by kernel_rfl) (by kernel_rfl) (by kernel_rfl) (fun _ _ _ h => h) (yields_build_is (vs := [(0, .int .i64 x.b), (1, .agg (U8 x.v).toArray), (2, .int .u64 x.p)]) (by rfl) 57 rfl (by rfl) (fun w => buildE etC w x.b x.v x.p HXW.out.len)) hHeld ?_
      simp only [Act.put, List.setIfInBounds_toArray, List.set_cons_zero, List.set_cons_succ]
      refine wpAnyH_ready (rs := [17]) (by kernel_rfl) (by simp) ?_
      refine AllReadyH.cons (by simp; rfl) (fun Kc hKc => ?_) AllReadyH.nil
      refine step_slice1_is (by rfl) 60 rfl rfl HBS.out ?_
      refine hKc.out _ _ HS2.out (fun hHeld => ?_)
      clear hKc Kc
      simp only [Act.put, List.setIfInBounds_toArray, List.set_cons_zero, List.set_cons_succ]
      refine wpAnyH_ready (rs := [18]) (by kernel_rfl) (by simp) ?_
      refine AllReadyH.cons (by simp; rfl) (fun Kc hKc => ?_) AllReadyH.nil
      refine step_append_is (u1 := .slice p2 k c2) (u2 := .slice (some ⟨nB, 0, none⟩) 1 1) (by rfl) rfl rfl rfl rfl HAP.out ?_
      refine hKc.out _ _ HS3.out (fun hHeld => ?_)
      clear hKc Kc
      simp only [Act.put, List.setIfInBounds_toArray, List.set_cons_zero, List.set_cons_succ]
      refine wpAnyH_take (i := 19) (v := ?va16) (by simp; rfl) (by kernel_rfl) (by kernel_rfl) (by kernel_rfl) (fun _ _ _ h => h) (Or.inl ⟨by rfl, ?ya16⟩) hHeld ?ra16
      case ya16 => intro w hSw; clear hSw; go_simp; with_reducible rfl
      simp only [Act.put, List.setIfInBounds_toArray, List.set_cons_zero, List.set_cons_succ]
      refine wpAnyH_done (by kernel_rfl) (NoPanic.normal ?_) _
      clear hHeld
      go_wp2
      go_roundw
      case rel => exact ⟨k + 1, q', c', rfl, by congr 1, by omega, HFO, HFB⟩
      case measure => simp [intOf]; omega
    · have HFO : Hid (EOwn 57 wr w.heap.size (.slice p2 k c2) l) := by
        have := HO.out
        rw [List.take_of_length_le (by rw [HL.out]; omega)] at this
        exact this
      have ekm : k = m := by omega
      subst ekm
      have hT2 := HTB.out.later HB.out
      have HLM : Hid ((Instr.loadAt 57 (.pointer (some ⟨0, 0, none⟩))).run Tryd.prog wr = .ok (.agg (ecells mkE).toArray) wr) := hT2.load
      obtain ⟨wB, hwB⟩ : ∃ wB, wB = wr.alloc (.cells (ecells mkE).toArray 57) := ⟨_, rfl⟩
      have bB : Below wr.heap.size wr wB := by rw [hwB]; exact below_alloc _ _
      have HBS : Hid ((Instr.buildSlice 60 1 #[(0, .agg (ecells mkE).toArray)]).run Tryd.prog wr = .ok (.slice (some ⟨wr.heap.size, 0, none⟩) 1 1) wB) := by rw [hwB]; exact build_en etC wr mkE (zs_len 32)
      have lB : LAt 57 wB wr.heap.size (ecells mkE) := by rw [hwB]; exact LAt.new _ _ _
      have oB : EOwn 57 wB w.heap.size (.slice p2 k c2) l := O.own_later HFO.out bB
      have hBB : Below w.heap.size w wB := below_then HB.out bB
      obtain ⟨q4, c4, w4, hap4, ho4, hg4, hat4⟩ := app_big etC (c := 1) oB HM.out.wf (one_ein lB mkE_wf) (by omega) (by rw [HL.out]; omega) hBB.size
      rw [HL.out] at hap4 ho4 hat4
      have HAP : Hid ((Builtin.append_ #[60, 60] 60 #[.slice p2 k c2, .slice (some ⟨wr.heap.size, 0, none⟩) 1 1]).run Tryd.prog wB = .ok (.slice q4 (k + 1) c4) w4) := hap4
      have b4 : Below w.heap.size w w4 := (O.kept_grown hg4).into hBB (fun b hb e => by have := (oB.lt b e).1; omega) (Nat.le_refl _)
      obtain ⟨g, rfl, hc4⟩ : ∃ g, q4 = some ⟨g, 0, none⟩ ∧ k + 1 ≤ c4 := by
        obtain ⟨p9, c9, e9, h9, h10⟩ := O.own_form ho4
        simp only [Value.slice.injEq] at e9
        obtain ⟨e9a, -, e9c⟩ := e9
        subst e9a; subst e9c
        rw [List.length_append, HL.out, List.length_singleton] at h9
        obtain ⟨g, hg⟩ := h10 (by rw [List.length_append, HL.out, List.length_singleton]; omega)
        exact ⟨g, hg, h9⟩
      have HF : Hid (EOwn 57 w4 w.heap.size (.slice (some ⟨g, 0, none⟩) (k + 1) c4) (l ++ [mkE]) ∧ Below w.heap.size w w4) := ⟨ho4, b4⟩
      clear HO hT2 hwB bB lB oB hBB hap4 ho4 hg4 hat4 b4
      go_wp2_with ((with_reducible refine at_ops ?_); (first | (refine wpList_load_is (by rfl) 57 rfl rfl HLM.out ?_) | (refine wpList_slice_is (u := .agg (ecells mkE).toArray) (by rfl) 60 rfl rfl HBS.out ?_) | (refine wpList_append_is (u1 := .slice p2 k c2) (u2 := .slice (some ⟨wr.heap.size, 0, none⟩) 1 1) (by rfl) rfl rfl rfl rfl HAP.out ?_)); simp only [Act.put, List.setIfInBounds_toArray, List.set_cons_zero, List.set_cons_succ])
      go_ret
      exact ⟨g, c4, rfl, hc4, HF.out⟩
end
end Go.Proofs.YthcpnfelnonhnaaDoor
