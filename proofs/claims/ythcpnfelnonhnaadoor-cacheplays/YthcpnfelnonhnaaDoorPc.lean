/-
  Layer 17: slices.Delete of one entry.
-/
import Derived.Test.YthcpnfelnonhnaaDoorPb
import Derived.Lib.SliceRun
namespace Go.Proofs.YthcpnfelnonhnaaDoor
open Go.RowKit

open Go.Shelf
section
variable {P : Program}
theorem step_append_runE {ops : Array Oper} {o : Oper} {a : Act} {w : World} {K : Act → World → Prop} {Q : Exit → Act → World → Prop} {E : Prop}
    (hg : o.guard = none) (d x : Operand) (dT sT : TypeId) (hop : o.op = Op.call { callee := Callee.builtin Builtin.append, args := #[d, x], argTypes := #[dT, sT] })
    (v u : Value) (hd : a.eval d = v) (hx : a.eval x = u) {v' : Value} {w' : World} (hr : (Builtin.append_ #[dT, sT] o.type #[v, u]).run P w = .ok v' w') (hK : K (a.put o.dst v') w') :
    if Region.wanted o (yielded ops a.tmps) = true then Oper.wp P o a w K Q else E := by
  have hw : Region.wanted o (yielded ops a.tmps) = true := by simp [Region.wanted, hg]
  rw [if_pos hw]
  unfold Oper.wp
  simp [execOp, hop, resolve, invoke, builtin, hd, hx, hr, Result.andThen]
  exact hK
end
theorem zeroE_ones (k : Nat) : ∀ u ∈ (Builtin.zeroCells (ecells en0).toArray k).toList, u.oneCell' = true := by
  intro u hu
  simp only [Builtin.zeroCells, Array.toList_map, List.mem_map] at hu
  obtain ⟨j, -, rfl⟩ := hu
  have hj : j % (ecells en0).toArray.size < (ecells en0).toArray.size := Nat.mod_lt _ (by simp [ecells])
  rw [getElem!_pos (ecells en0).toArray _ hj]
  exact ecells_ones en0 _ (by rw [List.getElem_toArray]; exact List.getElem_mem _)
theorem run_clearE {W : World} {g o n c : Nat} {cur : Array Value} (ty : TypeId) (hg : W.heap[g]? = some (.cells cur 57 (0, 0))) (hn : 0 < n) (hf : o + n * 34 ≤ cur.size) :
    (Builtin.clear_ #[60] ty #[.slice (some ⟨g, o, none⟩) n c]).run Tryd.prog W = .ok (.tuple #[]) (W.setRow g (cur.toList.take o ++ (Builtin.zeroCells (ecells en0).toArray n).toList ++ cur.toList.drop (o + n * 34)).toArray) := by
  have hl : (Builtin.zeroCells (ecells en0).toArray n).toList.length = n * 34 := by rw [Array.length_toList]; exact zeros_len n
  have hst := run_storeCells_at Tryd.prog g o 57 (Builtin.zeroCells (ecells en0).toArray n).toList 0 cur W hg (by rw [hl]; omega) (zeroE_ones n)
  rw [hl, Nat.add_zero] at hst
  obtain ⟨m, rfl⟩ : ∃ m, n = m + 1 := ⟨n - 1, by omega⟩
  simp [Builtin.clear_, run_underlying etC.ut, zv 57 _ etC.zero, Value.cells, hst]
theorem cut_eq {α : Type} {C A D Z : List α} {a d m : Nat} (hA : C.take a = A) (hal : a ≤ C.length) (hd : D.length = d) :
    ((C.take a ++ D ++ C.drop m).take (a + d) ++ Z) = A ++ D ++ Z := by
  have hal : (C.take a).length = a := by rw [List.length_take]; omega
  rw [List.take_append_of_le_length (by simp; omega), List.take_of_length_le (by simp; omega), hA]
theorem EC_cut (L : List En) (i : Nat) : EC (L.take i ++ L.drop (i + 1)) = EC (L.take i) ++ EC (L.drop (i + 1)) := EC_append _ _
theorem wf_cut {L : List En} (h : EnsWf L) (i : Nat) : EnsWf (L.take i ++ L.drop (i + 1)) := (wf_take h i).append (wf_drop h (i + 1))
theorem cut_len {L : List En} {i n : Nat} (hl : L.length = n) (hi : i < n) : (L.take i ++ L.drop (i + 1)).length = n - 1 := by simp; omega
set_option maxHeartbeats 2000000 in
set_option maxRecDepth 100000 in
theorem delete_at {w : World} {B g c i n : Nat} {L : List En} (h : EOwn 57 w B (.slice (some ⟨g, 0, none⟩) n c) L) (hw : EnsWf L) (hl : L.length = n) (hi : i < n) (hn : n ≤ 10000) :
    Calls Tryd.prog 34 #[.slice (some ⟨g, 0, none⟩) n c, .int .i64 (i : Int), .int .i64 ((i : Int) + 1)] w fun e w' => e = .returned (.slice (some ⟨g, 0, none⟩) (n - 1) c) ∧ EOwn 57 w' B (.slice (some ⟨g, 0, none⟩) (n - 1) c) (L.take i ++ L.drop (i + 1)) ∧ Kept (· = g) w w' := by
  obtain ⟨i0, hi0, hz0, hz1, hz2⟩ := info_parts etC.inf
  obtain ⟨cur, hg, hcs, htk, hB, hcm, hnc⟩ : ∃ cur, w.heap[g]? = some (.cells cur 57 (0, 0)) ∧ cur.size = c * 34 ∧ cur.toList.take (n * 34) = EC L ∧ B ≤ g ∧ c ≤ maxLen ∧ n ≤ c := by
    rcases h.2 with ⟨e, _⟩ | ⟨g', cap, cur, e, h0, hg, h1, h2, h3, h4⟩
    · cases e
    · cases e; exact ⟨cur, hg, h3, by rw [hl] at h4; exact h4, h0, h2, by rw [hl] at h1; exact h1⟩
  have hlen : cur.toList.length = c * 34 := by rw [← hcs]; exact Array.length_toList
  have HDl : (EC (L.drop (i + 1))).length = (n - (i + 1)) * 34 := by rw [EC_len (wf_drop hw (i + 1)), List.length_drop, hl]
  have HAl : cur.toList.take (i * 34) = EC (L.take i) := by
    have e2 : EC L = EC (L.take i) ++ EC (L.drop i) := by rw [← EC_append, List.take_append_drop]
    have el : (EC (L.take i)).length = i * 34 := by rw [EC_len (wf_take hw i), List.length_take]; omega
    rw [show cur.toList.take (i * 34) = (cur.toList.take (n * 34)).take (i * 34) by rw [List.take_take, Nat.min_eq_left (Nat.mul_le_mul_right _ (by omega))], htk, e2, ← el, List.take_left]
  have hcell : ∀ j v, (EC L)[j]? = some v → w.cell? ⟨g, j, none⟩ = some v := fun j v hj => by
    have := h.cells (g := g) rfl j v hj
    rw [Go.WideShapes.add_plain] at this
    rwa [Nat.zero_add] at this
  obtain ⟨Ad, hA, hsrc⟩ : ∃ Ad : Addr, (if c = i + 1 then some (⟨g, 0, none⟩ : Addr) else some ⟨g, (i + 1) * 34, none⟩) = some Ad ∧ ∀ j v, (EC (L.drop (i + 1)))[j]? = some v → w.cell? (Ad.add j) = some v := by
    by_cases hc : c = i + 1
    · refine ⟨⟨g, 0, none⟩, by simp [hc], fun j v hj => ?_⟩
      have e0 : (EC (L.drop (i + 1))) = [] := List.length_eq_zero_iff.1 (by rw [HDl]; omega)
      rw [e0] at hj; simp at hj
    · refine ⟨⟨g, (i + 1) * 34, none⟩, by simp [hc], fun j v hj => ?_⟩
      rw [Go.WideShapes.add_plain]
      have e2 : EC L = EC (L.take (i + 1)) ++ EC (L.drop (i + 1)) := by rw [← EC_append, List.take_append_drop]
      have el : (EC (L.take (i + 1))).length = (i + 1) * 34 := by rw [EC_len (wf_take hw (i + 1)), List.length_take]; omega
      exact hcell _ v (by rw [e2, List.getElem?_append_right (by omega), el, Nat.add_sub_cancel_left]; exact hj)
  obtain ⟨C1, hC1⟩ : ∃ C1 : Array Value, C1 = (cur.toList.take (i * 34) ++ EC (L.drop (i + 1)) ++ cur.toList.drop (i * 34 + (EC (L.drop (i + 1))).length)).toArray := ⟨_, rfl⟩
  have hC1s : C1.size = c * 34 := by
    rw [hC1]; simp only [List.size_toArray, List.length_append, List.length_take, List.length_drop, hlen, HDl]
    have := Nat.mul_le_mul_right 34 hnc
    omega
  have HAP : Hid ((Builtin.append_ #[60, 60] 60 #[.slice (some ⟨g, 0, none⟩) i c, .slice (some Ad) (n - (i + 1)) (c - (i + 1))]).run Tryd.prog w.drew = .ok (.slice (some ⟨g, 0, none⟩) (i + (n - (i + 1))) c) (w.drew.setRow g C1)) := by
    have := run_append_room (P := Tryd.prog) w.drew 60 60 57 i0 etC.ut hi0 g i c cur hg Ad (n - (i + 1)) (c - (i + 1)) (EC (L.drop (i + 1))) (by rw [hz1]; exact HDl) hsrc (EC_ones _) (by omega) (by
      rw [hz1, HDl, hcs]
      have := Nat.mul_le_mul_right 34 hnc
      omega)
    rw [hz1] at this
    rw [hC1]
    exact this
  have hw1 : (w.drew.setRow g C1).heap[g]? = some (.cells C1 57 (0, 0)) := setRow_heap w.drew g cur _ 57 (0, 0) hg
  have hik : i + (n - (i + 1)) = n - 1 := by omega
  have HCL : Hid (∀ ty, (Builtin.clear_ #[60] ty #[.slice (some ⟨g, (n - 1) * 34, none⟩) (n - (n - 1)) (c - (n - 1))]).run Tryd.prog (w.drew.setRow g C1) = .ok (.tuple #[]) ((w.drew.setRow g C1).setRow g (C1.toList.take ((n - 1) * 34) ++ ((Builtin.zeroCells (ecells en0).toArray (n - (n - 1))).toList ++ C1.toList.drop ((n - 1) * 34 + (n - (n - 1)) * 34))).toArray)) := fun ty => by
    rw [← List.append_assoc]
    exact run_clearE ty hw1 (by omega) (by rw [hC1s]; omega)
  obtain ⟨C2, hC2⟩ : ∃ C2 : Array Value, C2 = (C1.toList.take ((n - 1) * 34) ++ ((Builtin.zeroCells (ecells en0).toArray (n - (n - 1))).toList ++ C1.toList.drop ((n - 1) * 34 + (n - (n - 1)) * 34))).toArray := ⟨_, rfl⟩
  rw [← hC2] at HCL
  have HFin : Hid (∀ W : World, W.heap[g]? = some (.cells C2 57 (0, 0)) → EOwn 57 W B (.slice (some ⟨g, 0, none⟩) (n - 1) c) (L.take i ++ L.drop (i + 1))) := fun W hW => by
    have e := cut_len hl hi
    have e3 := EC_len (wf_cut hw i)
    rw [e] at e3
    have hC2s : C2.size = c * 34 := by
      rw [hC2]
      have z := zeros_len (n - (n - 1))
      simp only [List.size_toArray, List.length_append, List.length_take, List.length_drop, Array.length_toList, z, hC1s]
      omega
    refine ⟨by rw [EC_len (wf_cut hw i)], .inr ⟨g, c, _, by rw [e], hB, hW, by omega, hcm, hC2s, ?_⟩⟩
    rw [e, hC2, hC1]
    show List.take ((n - 1) * 34) (List.take ((n - 1) * 34) (cur.toList.take (i * 34) ++ EC (L.drop (i + 1)) ++ cur.toList.drop (i * 34 + (EC (L.drop (i + 1))).length)) ++ _) = _
    rw [show (n - 1) * 34 = i * 34 + (n - (i + 1)) * 34 by omega, cut_eq HAl (by rw [hlen]; omega) HDl, EC_cut, ← HAl]
    have hal : (cur.toList.take (i * 34)).length = i * 34 := by rw [List.length_take, hlen]; omega
    rw [List.take_append_of_le_length (by rw [List.length_append, hal, HDl]; omega), List.take_of_length_le (by rw [List.length_append, hal, HDl]; omega)]
  have HG : Hid ((w.drew.setRow g C1).heap[g]? = some (.cells C1 57 (0, 0))) := hw1
  have HK : Hid (Kept (· = g) w (w.drew.setRow g C1)) := (Kept.of_below _ (below_drawn 1)).trans (Kept.setRow _ g C1) (fun _ _ e => e)
  clear hsrc hC1 hC1s hC2 hw1 HAl HDl hlen htk hcs h hw hcell hg hi0 hz0 hz1 hz2 hl
  have hz : ¬ ((i : Int) = (i : Int) + 1) := by omega
  have hb0 : (0 : Int) ≤ (i : Int) + 1 := by omega
  have hic : i ≤ c := by omega
  have hb1 : (i : Int) + 1 ≤ (n : Int) := by omega
  have mixed : Tryd.prog.follows Departure.mixedOrders = true := by kernel_rfl
  go_enter Tryd.func34, Tryd.ntmps34
  go_wp2_with fail
  go_region_law_o (refine step_append_runE rfl (.tmp 22) (.tmp 25) 60 60 rfl (.slice (some ⟨g, 0, none⟩) i c) (.slice (some Ad) (n - (i + 1)) (c - (i + 1))) (by simp [Act.eval, Act.put]) (by simp [Act.eval, Act.put]) HAP.out ?_)
  have HGd : Hid (∀ ty, (Builtin.clear_ #[60] ty #[.slice (some ⟨g, (n - 1) * 34, none⟩) (n - (n - 1)) (c - (n - 1))]).run Tryd.prog (w.drew.setRow g C1) = .ok (.tuple #[]) ((w.drew.setRow g C1).setRow g C2)) := HCL.out
  clear HCL HAP hA hik hz hb0 hb1 mixed hic
  generalize w.drew.setRow g C1 = w1 at *
  have hcl := HGd.out
  have s1 : n - 1 ≤ n := by omega
  have s2 : n ≤ c := hnc
  have s3 : ¬ (c = n - 1) := by omega
  clear HGd
  go_wp2
  go_ret
  have K2 := HK.out.trans (Kept.setRow w1 g C2) (fun _ _ e => e)
  exact ⟨rfl, HFin.out _ (setRow_heap w1 g C1 _ 57 (0, 0) HG.out), K2⟩
end Go.Proofs.YthcpnfelnonhnaaDoor
