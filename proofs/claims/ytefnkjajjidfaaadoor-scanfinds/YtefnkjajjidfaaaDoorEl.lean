/-
  The document's SameImages, Same: where they are the same.
-/
import Derived.Test.YtefnkjajjidfaaaDoorEj
import Derived.Test.YtefnkjajjidfaaaDoorWa
import Derived.BigQuiet
import Derived.Deep.RegionHeld3
namespace Go.Proofs.YtefnkjajjidfaaaDoor
open Go.RowKit

set_option maxHeartbeats 1000000 in
set_option maxRecDepth 100000 in
theorem sameImages_eq (p q : Option Addr) (n c d : Nat) (l : List Im) (w : World) (h : MIn w p n l) (k : MIn w q n l) (hbig : n ≤ 140737488355328) :
    Calls Tryd.prog 10 #[.slice p n c, .slice q n d] w fun e w' => e = .returned (.bool true) ∧ Below w.heap.size w w' := by
  have HP : Hid (MIn w p n l) := h
  have HQ : Hid (MIn w q n l) := k
  have e1 : (((n : Nat) : Int) != (n : Int)) = false := by simp
  clear h k
  go_enter Tryd.func10, Tryd.ntmps10
  go_wp2_with fail
  clear e1
  go_loopw [5] (fun i wr => ∃ j : Nat, j ≤ n ∧ i = .int .i64 j ∧ Hid (Below w.heap.size w wr)) (fun i _ => n - (intOf i).toNat)
  case atStart => exact ⟨0, Nat.zero_le _, rfl, Below.refl _ _⟩
  case round =>
    obtain ⟨j, hj, rfl, Br⟩ := hrel
    by_cases hlt : j < n
    · have h0 : 0 < n := by omega
      obtain ⟨x, hx⟩ : ∃ x, l[j]? = some x := ⟨_, List.getElem?_eq_getElem (by rw [HP.out.len]; exact hlt)⟩
      obtain ⟨b1, o1, rfl, -⟩ := HP.out.cells h0
      obtain ⟨b2, o2, rfl, -⟩ := HQ.out.cells h0
      have R1 : Hid (w.rangeAt b1 (o1 + j * 33) (icells x)) := HP.out.at hx
      have R2 : Hid (w.rangeAt b2 (o2 + j * 33) (icells x)) := HQ.out.at hx
      have L1 : Hid (x.v.length = 32) := (HP.out.wf x (List.mem_of_getElem? hx)).len
      have M1 : Hid (b1 < w.heap.size) := range_lt R1.out (by rw [icells_len L1.out]; omega)
      have M2 : Hid (b2 < w.heap.size) := range_lt R2.out (by rw [icells_len L1.out]; omega)
      have QE : Hid (∀ w, (binOp .neq 32 (.agg (icells x).toArray) (.agg (icells x).toArray)).run Tryd.prog w = .ok (.bool false) w) := fun w => by rw [neqI w _ _ L1.out L1.out, (imB_iff x x).2 rfl]; rfl
      have i1 : (j : Int) < (n : Int) := by omega
      have i0 : (0 : Int) ≤ (j : Int) := by omega
      clear hx
      obtain ⟨wv, hwv⟩ : ∃ wv, wv = wr := ⟨_, rfl⟩
      subst hwv
      go_wp2_with fail
      refine wp_region_noPanic ?_
      refine wp_region_held_drew (S := fun w' => Below wv.heap.size wv w') (by kernel_rfl) (below_drawn 1) (fun hHeld => ?_)
      have DD : Hid (Below wv.heap.size wv wv.drew) := hHeld
      generalize wv.drew = wd at *
      refine wpAnyH_take (i := 0) (v := ?va1) (by simp; rfl) (by kernel_rfl) (by kernel_rfl) (by kernel_rfl) (fun _ _ _ h => h) (Or.inl ⟨by rfl, ?ya1⟩) hHeld ?ra1
      case ya1 => intro w hSw; clear hSw; go_simp; with_reducible rfl
      simp only [Act.put, List.setIfInBounds_toArray, List.set_cons_zero, List.set_cons_succ]
      refine wpAnyH_take (i := 1) (v := ?va2) (by simp; rfl) (by kernel_rfl) (by kernel_rfl) (by kernel_rfl) (fun _ _ _ h => h) (Or.inl ⟨by rfl, ?ya2⟩) hHeld ?ra2
      case ya2 => intro w hSw; clear hSw; go_simp; with_reducible rfl
      simp only [Act.put, List.setIfInBounds_toArray, List.set_cons_zero, List.set_cons_succ]
      refine wpAnyH_take (i := 2) (v := ?va3) (by simp; rfl) (by kernel_rfl) (by kernel_rfl) (by kernel_rfl) (fun _ _ _ h => h) (Or.inl ⟨by rfl, ?ya3⟩) hHeld ?ra3
      case ya3 => intro w hSw; clear hSw; go_simp; with_reducible rfl
      simp only [Act.put, List.setIfInBounds_toArray, List.set_cons_zero, List.set_cons_succ]
      refine wpAnyH_take (i := 3) (v := _) (by simp; rfl) (by kernel_rfl) (by kernel_rfl) (by kernel_rfl) (fun _ _ _ h => h) (yieldsIf_load_mid (by rfl) 32 (.tmp 19) rfl b1 (o1 + j * 33) rfl (icells x) _ (fun _ h => rangeAt_same R1.out ((Br.out.trans (h.mono Br.out.size)).block b1 M1.out)) Tryd.underlying32 rfl (by rw [sizeI, icells_len L1.out])) hHeld ?_
      simp only [Act.put, List.setIfInBounds_toArray, List.set_cons_zero, List.set_cons_succ]
      refine wpAnyH_take (i := 4) (v := ?va4) (by simp; rfl) (by kernel_rfl) (by kernel_rfl) (by kernel_rfl) (fun _ _ _ h => h) (Or.inl ⟨by rfl, ?ya4⟩) hHeld ?ra4
      case ya4 => intro w hSw; clear hSw; go_simp; with_reducible rfl
      simp only [Act.put, List.setIfInBounds_toArray, List.set_cons_zero, List.set_cons_succ]
      refine wpAnyH_take (i := 5) (v := ?va5) (by simp; rfl) (by kernel_rfl) (by kernel_rfl) (by kernel_rfl) (fun _ _ _ h => h) (Or.inl ⟨by rfl, ?ya5⟩) hHeld ?ra5
      case ya5 => intro w hSw; clear hSw; go_simp; with_reducible rfl
      simp only [Act.put, List.setIfInBounds_toArray, List.set_cons_zero, List.set_cons_succ]
      refine wpAnyH_take (i := 6) (v := ?va6) (by simp; rfl) (by kernel_rfl) (by kernel_rfl) (by kernel_rfl) (fun _ _ _ h => h) (Or.inl ⟨by rfl, ?ya6⟩) hHeld ?ra6
      case ya6 => intro w hSw; clear hSw; go_simp; with_reducible rfl
      simp only [Act.put, List.setIfInBounds_toArray, List.set_cons_zero, List.set_cons_succ]
      refine wpAnyH_take (i := 7) (v := _) (by simp; rfl) (by kernel_rfl) (by kernel_rfl) (by kernel_rfl) (fun _ _ _ h => h) (yieldsIf_load_mid (by rfl) 32 (.tmp 23) rfl b2 (o2 + j * 33) rfl (icells x) _ (fun _ h => rangeAt_same R2.out ((Br.out.trans (h.mono Br.out.size)).block b2 M2.out)) Tryd.underlying32 rfl (by rw [sizeI, icells_len L1.out])) hHeld ?_
      simp only [Act.put, List.setIfInBounds_toArray, List.set_cons_zero, List.set_cons_succ]
      refine wpAnyH_take (i := 8) (v := _) (by simp; rfl) (by kernel_rfl) (by kernel_rfl) (by kernel_rfl) (fun _ _ _ h => h) (yields_neq_is (by rfl) 32 rfl rfl rfl eqgI QE.out) hHeld ?_
      simp only [Act.put, List.setIfInBounds_toArray, List.set_cons_zero, List.set_cons_succ]
      clear hHeld
      refine wpAnyH_done (by kernel_rfl) (NoPanic.normal ?_) _
      have B3 : Hid (Below w.heap.size w wd) := below_then Br.out DD.out
      clear Br QE R1 R2 L1 DD
      go_wp2_with fail
      go_roundw
      case rel => exact ⟨j + 1, by omega, by go_num, B3.out⟩
      case measure => simp [intOf]; omega
    · have hnl : ¬ (j : Int) < (n : Int) := by omega
      go_wp2_with fail
      go_ret
      exact ⟨rfl, Br.out⟩
set_option maxHeartbeats 2000000 in
set_option maxRecDepth 100000 in
theorem same_eq (t0 l0 f0 : Int) (p q : Option Addr) (n c d : Nat) (txs : List TX) (w : World) (h : XIn w p n txs) (k : XIn w q n txs) (hn : n ≤ 100000) (hm : ∀ x ∈ txs, x.ims.length ≤ 100000) :
    Calls Tryd.prog 21 #[.agg (gcells t0 l0 f0 (.slice p n c)).toArray, .agg (gcells t0 l0 f0 (.slice q n d)).toArray] w fun e w' => e = .returned (.bool true) ∧ Below w.heap.size w w' := by
  have e1 : (((n : Nat) : Int) != (n : Int)) = false := by simp
  have e2 : (t0 != t0) = false := by simp
  have e3 : (l0 != l0) = false := by simp
  have e4 : (f0 != f0) = false := by simp
  obtain ⟨wa, hwa⟩ : ∃ y, y = w.alloc (.cells (gcells t0 l0 f0 (.slice p n c)).toArray 48) := ⟨_, rfl⟩
  obtain ⟨wb, hwb⟩ : ∃ y, y = wa.alloc (.cells (gcells t0 l0 f0 (.slice q n d)).toArray 48) := ⟨_, rfl⟩
  have ewa := hwa.symm
  have ewb := hwb.symm
  have sa : wa.heap.size = w.heap.size + 1 := by rw [hwa]; simp
  have bw : Below w.heap.size w wa := by rw [hwa]; exact below_alloc w _
  have bab : Below wa.heap.size wa wb := by rw [hwb]; exact below_alloc wa _
  have LA : Hid (LAt 48 wb w.heap.size (gcells t0 l0 f0 (.slice p n c))) := by
    refine LAt.later ?_ bab
    rw [hwa]; exact LAt.new 48 w _
  have LB : Hid (LAt 48 wb (w.heap.size + 1) (gcells t0 l0 f0 (.slice q n d))) := by rw [hwb, ← sa]; exact LAt.new 48 wa _
  have B0 : Hid (Below w.heap.size w wb) := below_then bw bab
  have XP : Hid (XIn wb p n txs) := h.later B0.out
  have XQ : Hid (XIn wb q n txs) := k.later B0.out
  have HM : Hid (∀ x ∈ txs, x.ims.length ≤ 100000) := hm
  have a0 : wb.cell? ⟨w.heap.size, 0, none⟩ = some (.int .u64 t0) := LAt.cell LA.out 0
  have a1 : wb.cell? ⟨w.heap.size, 1, none⟩ = some (.int .u64 l0) := LAt.cell LA.out 1
  have a2 : wb.cell? ⟨w.heap.size, 2, none⟩ = some (.int .u64 f0) := LAt.cell LA.out 2
  have a3 : wb.cell? ⟨w.heap.size, 3, none⟩ = some (.slice p n c) := LAt.cell LA.out 3
  have c0 : wb.cell? ⟨w.heap.size + 1, 0, none⟩ = some (.int .u64 t0) := LAt.cell LB.out 0
  have c1' : wb.cell? ⟨w.heap.size + 1, 1, none⟩ = some (.int .u64 l0) := LAt.cell LB.out 1
  have c2' : wb.cell? ⟨w.heap.size + 1, 2, none⟩ = some (.int .u64 f0) := LAt.cell LB.out 2
  have c3' : wb.cell? ⟨w.heap.size + 1, 3, none⟩ = some (.slice q n d) := LAt.cell LB.out 3
  clear hwa hwb bw bab h k hm
  go_enter Tryd.func21, Tryd.ntmps21
  go_wp2_with fail
  clear e1 e2 e3 e4 a0 a1 a2 a3 c0 c1' c2' c3' ewa ewb
  go_loopw [5] (fun i wr => ∃ j : Nat, j ≤ n ∧ i = .int .i64 j ∧ Hid (Below wb.heap.size wb wr)) (fun i _ => n - (intOf i).toNat)
  case atStart => exact ⟨0, Nat.zero_le _, rfl, Below.refl _ _⟩
  case round =>
    obtain ⟨j, hj, rfl, Br⟩ := hrel
    have ka : wr.cell? ⟨w.heap.size, 3, none⟩ = some (.slice p n c) := LAt.cell (LAt.later LA.out Br.out) 3
    by_cases hlt : j < n
    · obtain ⟨t, ht⟩ : ∃ t, txs[j]? = some t := ⟨_, List.getElem?_eq_getElem (by rw [XP.out.len]; exact hlt)⟩
      obtain ⟨b1, o1, rfl, hc1⟩ := (XP.out.later Br.out).cells (by omega)
      obtain ⟨b2, o2, rfl, hc2⟩ := (XQ.out.later Br.out).cells (by omega)
      obtain ⟨q1, c1, x1, x2, x3, -, -⟩ := hc1 j t ht
      obtain ⟨q2, c2, y1, y2, y3, -, -⟩ := hc2 j t ht
      have X1 : Hid (MIn wr q1 t.ims.length t.ims) := x3
      have X2 : Hid (MIn wr q2 t.ims.length t.ims) := y3
      have hml : t.ims.length ≤ 100000 := HM.out t (List.mem_of_getElem? ht)
      have e5 : (t.p != t.p) = false := by simp
      obtain ⟨wv, hwv⟩ : ∃ wv, wv = wr := ⟨_, rfl⟩
      subst hwv
      have HA : Hid (∀ W, Below wv.heap.size wv W → W.cell? ⟨w.heap.size, 3, none⟩ = some (.slice (some ⟨b1, o1, none⟩) n c) ∧ W.cell? ⟨w.heap.size + 1, 3, none⟩ = some (.slice (some ⟨b2, o2, none⟩) n d) ∧ W.cell? ⟨b1, o1 + j * 2, none⟩ = some (.int .u64 t.p) ∧ W.cell? ⟨b2, o2 + j * 2, none⟩ = some (.int .u64 t.p) ∧ W.cell? ⟨b1, o1 + j * 2 + 1, none⟩ = some (.slice q1 t.ims.length c1) ∧ W.cell? ⟨b2, o2 + j * 2 + 1, none⟩ = some (.slice q2 t.ims.length c2)) := by
        intro W hW
        have m1 := World.block_lt_of_cell? wv _ x1
        have m2 := World.block_lt_of_cell? wv _ y1
        refine ⟨LAt.cell (LAt.later (LAt.later LA.out Br.out) hW) 3, LAt.cell (LAt.later (LAt.later LB.out Br.out) hW) 3, (World.cell?_of_block (hW.block _ m1)).trans x1, (World.cell?_of_block (hW.block _ m2)).trans y1, (World.cell?_of_block (a := ⟨b1, o1 + j * 2 + 1, none⟩) (hW.block b1 m1)).trans x2, (World.cell?_of_block (a := ⟨b2, o2 + j * 2 + 1, none⟩) (hW.block b2 m2)).trans y2⟩
      have i1 : (j : Int) < (n : Int) := by omega
      have i0 : (0 : Int) ≤ (j : Int) := by omega
      clear hc1 hc2 x1 x2 x3 y1 y2 y3
      go_wp2_with fail
      clear ka
      refine wp_region_noPanic ?_
      refine wp_region_held_drew (S := fun w' => Below wv.heap.size wv w') (by kernel_rfl) (below_drawn 1) (fun hHeld => ?_)
      have D1 : Hid (Below wv.heap.size wv wv.drew) := hHeld
      generalize wv.drew = wd at *
      refine wpAnyH_take (i := 0) (v := ?va7) (by simp; rfl) (by kernel_rfl) (by kernel_rfl) (by kernel_rfl) (fun _ _ _ h => h) (Or.inl ⟨by rfl, ?ya7⟩) hHeld ?ra7
      case ya7 => intro w hSw; clear hSw; go_simp; with_reducible rfl
      simp only [Act.put, List.setIfInBounds_toArray, List.set_cons_zero, List.set_cons_succ]
      refine wpAnyH_take (i := 1) (v := ?va8) (by simp; rfl) (by kernel_rfl) (by kernel_rfl) (by kernel_rfl) (fun _ _ _ h => h) (Or.inl ⟨by rfl, ?ya8⟩) hHeld ?ra8
      case ya8 => intro w hSw; have z := (HA.out _ hSw).1; clear hSw; go_simp; with_reducible rfl
      simp only [Act.put, List.setIfInBounds_toArray, List.set_cons_zero, List.set_cons_succ]
      refine wpAnyH_take (i := 2) (v := ?va9) (by simp; rfl) (by kernel_rfl) (by kernel_rfl) (by kernel_rfl) (fun _ _ _ h => h) (Or.inl ⟨by rfl, ?ya9⟩) hHeld ?ra9
      case ya9 => intro w hSw; clear hSw; go_simp; with_reducible rfl
      simp only [Act.put, List.setIfInBounds_toArray, List.set_cons_zero, List.set_cons_succ]
      refine wpAnyH_take (i := 3) (v := ?va10) (by simp; rfl) (by kernel_rfl) (by kernel_rfl) (by kernel_rfl) (fun _ _ _ h => h) (Or.inl ⟨by rfl, ?ya10⟩) hHeld ?ra10
      case ya10 => intro w hSw; clear hSw; go_simp; with_reducible rfl
      simp only [Act.put, List.setIfInBounds_toArray, List.set_cons_zero, List.set_cons_succ]
      refine wpAnyH_take (i := 4) (v := ?va11) (by simp; rfl) (by kernel_rfl) (by kernel_rfl) (by kernel_rfl) (fun _ _ _ h => h) (Or.inl ⟨by rfl, ?ya11⟩) hHeld ?ra11
      case ya11 => intro w hSw; clear hSw; go_simp; with_reducible rfl
      simp only [Act.put, List.setIfInBounds_toArray, List.set_cons_zero, List.set_cons_succ]
      refine wpAnyH_take (i := 5) (v := ?va12) (by simp; rfl) (by kernel_rfl) (by kernel_rfl) (by kernel_rfl) (fun _ _ _ h => h) (Or.inl ⟨by rfl, ?ya12⟩) hHeld ?ra12
      case ya12 => intro w hSw; have z := (HA.out _ hSw).2.2.1; clear hSw; go_simp; with_reducible rfl
      simp only [Act.put, List.setIfInBounds_toArray, List.set_cons_zero, List.set_cons_succ]
      refine wpAnyH_take (i := 6) (v := ?va13) (by simp; rfl) (by kernel_rfl) (by kernel_rfl) (by kernel_rfl) (fun _ _ _ h => h) (Or.inl ⟨by rfl, ?ya13⟩) hHeld ?ra13
      case ya13 => intro w hSw; clear hSw; go_simp; with_reducible rfl
      simp only [Act.put, List.setIfInBounds_toArray, List.set_cons_zero, List.set_cons_succ]
      refine wpAnyH_take (i := 7) (v := ?va14) (by simp; rfl) (by kernel_rfl) (by kernel_rfl) (by kernel_rfl) (fun _ _ _ h => h) (Or.inl ⟨by rfl, ?ya14⟩) hHeld ?ra14
      case ya14 => intro w hSw; have z := (HA.out _ hSw).2.1; clear hSw; go_simp; with_reducible rfl
      simp only [Act.put, List.setIfInBounds_toArray, List.set_cons_zero, List.set_cons_succ]
      refine wpAnyH_take (i := 8) (v := ?va15) (by simp; rfl) (by kernel_rfl) (by kernel_rfl) (by kernel_rfl) (fun _ _ _ h => h) (Or.inl ⟨by rfl, ?ya15⟩) hHeld ?ra15
      case ya15 => intro w hSw; clear hSw; go_simp; with_reducible rfl
      simp only [Act.put, List.setIfInBounds_toArray, List.set_cons_zero, List.set_cons_succ]
      refine wpAnyH_take (i := 9) (v := ?va16) (by simp; rfl) (by kernel_rfl) (by kernel_rfl) (by kernel_rfl) (fun _ _ _ h => h) (Or.inl ⟨by rfl, ?ya16⟩) hHeld ?ra16
      case ya16 => intro w hSw; clear hSw; go_simp; with_reducible rfl
      simp only [Act.put, List.setIfInBounds_toArray, List.set_cons_zero, List.set_cons_succ]
      refine wpAnyH_take (i := 10) (v := ?va17) (by simp; rfl) (by kernel_rfl) (by kernel_rfl) (by kernel_rfl) (fun _ _ _ h => h) (Or.inl ⟨by rfl, ?ya17⟩) hHeld ?ra17
      case ya17 => intro w hSw; clear hSw; go_simp; with_reducible rfl
      simp only [Act.put, List.setIfInBounds_toArray, List.set_cons_zero, List.set_cons_succ]
      refine wpAnyH_take (i := 11) (v := ?va18) (by simp; rfl) (by kernel_rfl) (by kernel_rfl) (by kernel_rfl) (fun _ _ _ h => h) (Or.inl ⟨by rfl, ?ya18⟩) hHeld ?ra18
      case ya18 => intro w hSw; have z := (HA.out _ hSw).2.2.2.1; clear hSw; go_simp; with_reducible rfl
      simp only [Act.put, List.setIfInBounds_toArray, List.set_cons_zero, List.set_cons_succ]
      refine wpAnyH_take (i := 12) (v := ?va19) (by simp; rfl) (by kernel_rfl) (by kernel_rfl) (by kernel_rfl) (fun _ _ _ h => h) (Or.inl ⟨by rfl, ?ya19⟩) hHeld ?ra19
      case ya19 => intro w hSw; clear hSw; go_simp; with_reducible rfl
      simp only [Act.put, List.setIfInBounds_toArray, List.set_cons_zero, List.set_cons_succ]
      refine wpAnyH_take (i := 13) (v := ?va20) (by simp; rfl) (by kernel_rfl) (by kernel_rfl) (by kernel_rfl) (fun _ _ _ h => h) (Or.inl ⟨by rfl, ?ya20⟩) hHeld ?ra20
      case ya20 => intro w hSw; clear hSw; go_simp; with_reducible rfl
      simp only [Act.put, List.setIfInBounds_toArray, List.set_cons_zero, List.set_cons_succ]
      refine wpAnyH_take (i := 14) (v := ?va21) (by simp; rfl) (by kernel_rfl) (by kernel_rfl) (by kernel_rfl) (fun _ _ _ h => h) (Or.inl ⟨by rfl, ?ya21⟩) hHeld ?ra21
      case ya21 => intro w hSw; clear hSw; go_simp; with_reducible rfl
      simp only [Act.put, List.setIfInBounds_toArray, List.set_cons_zero, List.set_cons_succ]
      refine wpAnyH_take (i := 15) (v := ?va22) (by simp; rfl) (by kernel_rfl) (by kernel_rfl) (by kernel_rfl) (fun _ _ _ h => h) (Or.inl ⟨by rfl, ?ya22⟩) hHeld ?ra22
      case ya22 => intro w hSw; have z := (HA.out _ hSw).1; clear hSw; go_simp; with_reducible rfl
      simp only [Act.put, List.setIfInBounds_toArray, List.set_cons_zero, List.set_cons_succ]
      refine wpAnyH_take (i := 16) (v := ?va23) (by simp; rfl) (by kernel_rfl) (by kernel_rfl) (by kernel_rfl) (fun _ _ _ h => h) (Or.inl ⟨by rfl, ?ya23⟩) hHeld ?ra23
      case ya23 => intro w hSw; clear hSw; go_simp; with_reducible rfl
      simp only [Act.put, List.setIfInBounds_toArray, List.set_cons_zero, List.set_cons_succ]
      refine wpAnyH_take (i := 17) (v := ?va24) (by simp; rfl) (by kernel_rfl) (by kernel_rfl) (by kernel_rfl) (fun _ _ _ h => h) (Or.inl ⟨by rfl, ?ya24⟩) hHeld ?ra24
      case ya24 => intro w hSw; clear hSw; go_simp; with_reducible rfl
      simp only [Act.put, List.setIfInBounds_toArray, List.set_cons_zero, List.set_cons_succ]
      refine wpAnyH_take (i := 18) (v := ?va25) (by simp; rfl) (by kernel_rfl) (by kernel_rfl) (by kernel_rfl) (fun _ _ _ h => h) (Or.inl ⟨by rfl, ?ya25⟩) hHeld ?ra25
      case ya25 => intro w hSw; clear hSw; go_simp; with_reducible rfl
      simp only [Act.put, List.setIfInBounds_toArray, List.set_cons_zero, List.set_cons_succ]
      refine wpAnyH_take (i := 19) (v := ?va26) (by simp; rfl) (by kernel_rfl) (by kernel_rfl) (by kernel_rfl) (fun _ _ _ h => h) (Or.inl ⟨by rfl, ?ya26⟩) hHeld ?ra26
      case ya26 => intro w hSw; have z := (HA.out _ hSw).2.2.2.2.1; clear hSw; go_simp; with_reducible rfl
      simp only [Act.put, List.setIfInBounds_toArray, List.set_cons_zero, List.set_cons_succ]
      refine wpAnyH_take (i := 20) (v := ?va27) (by simp; rfl) (by kernel_rfl) (by kernel_rfl) (by kernel_rfl) (fun _ _ _ h => h) (Or.inl ⟨by rfl, ?ya27⟩) hHeld ?ra27
      case ya27 => intro w hSw; clear hSw; go_simp; with_reducible rfl
      simp only [Act.put, List.setIfInBounds_toArray, List.set_cons_zero, List.set_cons_succ]
      refine wpAnyH_take (i := 21) (v := ?va28) (by simp; rfl) (by kernel_rfl) (by kernel_rfl) (by kernel_rfl) (fun _ _ _ h => h) (Or.inl ⟨by rfl, ?ya28⟩) hHeld ?ra28
      case ya28 => intro w hSw; have z := (HA.out _ hSw).2.1; clear hSw; go_simp; with_reducible rfl
      simp only [Act.put, List.setIfInBounds_toArray, List.set_cons_zero, List.set_cons_succ]
      refine wpAnyH_take (i := 22) (v := ?va29) (by simp; rfl) (by kernel_rfl) (by kernel_rfl) (by kernel_rfl) (fun _ _ _ h => h) (Or.inl ⟨by rfl, ?ya29⟩) hHeld ?ra29
      case ya29 => intro w hSw; clear hSw; go_simp; with_reducible rfl
      simp only [Act.put, List.setIfInBounds_toArray, List.set_cons_zero, List.set_cons_succ]
      refine wpAnyH_take (i := 23) (v := ?va30) (by simp; rfl) (by kernel_rfl) (by kernel_rfl) (by kernel_rfl) (fun _ _ _ h => h) (Or.inl ⟨by rfl, ?ya30⟩) hHeld ?ra30
      case ya30 => intro w hSw; clear hSw; go_simp; with_reducible rfl
      simp only [Act.put, List.setIfInBounds_toArray, List.set_cons_zero, List.set_cons_succ]
      refine wpAnyH_take (i := 24) (v := ?va31) (by simp; rfl) (by kernel_rfl) (by kernel_rfl) (by kernel_rfl) (fun _ _ _ h => h) (Or.inl ⟨by rfl, ?ya31⟩) hHeld ?ra31
      case ya31 => intro w hSw; clear hSw; go_simp; with_reducible rfl
      simp only [Act.put, List.setIfInBounds_toArray, List.set_cons_zero, List.set_cons_succ]
      refine wpAnyH_take (i := 25) (v := ?va32) (by simp; rfl) (by kernel_rfl) (by kernel_rfl) (by kernel_rfl) (fun _ _ _ h => h) (Or.inl ⟨by rfl, ?ya32⟩) hHeld ?ra32
      case ya32 => intro w hSw; have z := (HA.out _ hSw).2.2.2.2.2; clear hSw; go_simp; with_reducible rfl
      simp only [Act.put, List.setIfInBounds_toArray, List.set_cons_zero, List.set_cons_succ]
      refine wpAnyH_ready (rs := [26]) (by kernel_rfl) (by simp) ?_
      refine AllReadyH.cons (by simp; rfl) (fun Kc hKc => ?_) AllReadyH.nil
      go_simp
      refine (sameImages_eq q1 q2 t.ims.length c1 c2 t.ims _ (X1.out.later D1.out) (X2.out.later D1.out) (by omega)).mono ?_
      rintro e wn ⟨rfl, bn⟩
      have D2 : Hid (Below wv.heap.size wv wn) := below_then D1.out bn
      refine hKc.out _ _ D2.out (fun hHeld => ?_)
      clear hKc Kc bn
      refine wpAnyH_take (i := 27) (v := ?va33) (by simp; rfl) (by kernel_rfl) (by kernel_rfl) (by kernel_rfl) (fun _ _ _ h => h) (Or.inl ⟨by rfl, ?ya33⟩) hHeld ?ra33
      case ya33 => intro w hSw; clear hSw; go_simp; with_reducible rfl
      simp only [Act.put, List.setIfInBounds_toArray, List.set_cons_zero, List.set_cons_succ]
      refine wpAnyH_take (i := 28) (v := ?va34) (by simp; rfl) (by kernel_rfl) (by kernel_rfl) (by kernel_rfl) (fun _ _ _ h => h) (Or.inl ⟨by rfl, ?ya34⟩) hHeld ?ra34
      case ya34 => intro w hSw; clear hSw; go_simp; with_reducible rfl
      simp only [Act.put, List.setIfInBounds_toArray, List.set_cons_zero, List.set_cons_succ]
      clear hHeld
      refine wpAnyH_done (by kernel_rfl) (NoPanic.normal ?_) _
      have B3 : Hid (Below wb.heap.size wb wn) := below_then Br.out D2.out
      clear Br HA X1 X2 D1 D2
      go_wp2_with fail
      go_roundw
      case rel => exact ⟨j + 1, by omega, by go_num, B3.out⟩
      case measure => simp [intOf]; omega
    · have hnl : ¬ (j : Int) < (n : Int) := by omega
      go_wp2_with fail
      go_ret
      exact ⟨rfl, below_then B0.out Br.out⟩
end Go.Proofs.YtefnkjajjidfaaaDoor
