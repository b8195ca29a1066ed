/-
  The document's SameImages, Same: where they are the same. Layer 10, the laws' own: small, num, awake. The laws' own: plain. The laws' own: plain, walked. The laws' own: config; a story's state. The laws' own: what told has in memory.
-/
import Derived.Test.YtefnkjajjidfaaaDoorM1
import Derived.Test.YtefnkjajjidfaaaDoorM2
import Derived.BigQuiet
import Derived.Deep.RegionHeld3
import Derived.Test.YtefnkjajjidfaaaDoorSy
import Derived.Laws.OwnMore
import Derived.Test.YtefnkjajjidfaaaDoorHa
import Derived.Test.YtefnkjajjidfaaaDoorHm
namespace Go.Proofs.YtefnkjajjidfaaaDoor
open Go.RowKit

set_option maxHeartbeats 1000000 in
set_option maxRecDepth 100000 in
theorem sameImages_eq (p q : Option Addr) (n c d : Nat) (l : List Im) (w : World) (h : MIn w p n l) (k : MIn w q n l) (hbig : n ≤ 140737488355328) :
    Calls Tryd.prog 10 #[.slice p n c, .slice q n d] w fun e w' => e = .returned (.bool true) ∧ Below w.heap.size w w' := by
  have HP : Hid (MIn w p n l) := h
  have HQ : Hid (MIn w q n l) := k
  have e1 : (((n : Nat) : Int) != (n : Int)) = false := by simp
  clear h k
  go_enter Tryd.func10, Tryd.ntmps10
  go_wp2_with fail
  clear e1
  go_loopw [5] (fun i wr => ∃ j : Nat, j ≤ n ∧ i = .int .i64 j ∧ Hid (Below w.heap.size w wr)) (fun i _ => n - (intOf i).toNat)
  case atStart => exact ⟨0, Nat.zero_le _, rfl, Below.refl _ _⟩
  case round =>
    obtain ⟨j, hj, rfl, Br⟩ := hrel
    by_cases hlt : j < n
    · have h0 : 0 < n := by omega
      obtain ⟨x, hx⟩ : ∃ x, l[j]? = some x := ⟨_, List.getElem?_eq_getElem (by rw [HP.out.len]; exact hlt)⟩
      obtain ⟨b1, o1, rfl, -⟩ := HP.out.cells h0
      obtain ⟨b2, o2, rfl, -⟩ := HQ.out.cells h0
      have R1 : Hid (w.rangeAt b1 (o1 + j * 33) (icells x)) := HP.out.at hx
      have R2 : Hid (w.rangeAt b2 (o2 + j * 33) (icells x)) := HQ.out.at hx
      have L1 : Hid (x.v.length = 32) := (HP.out.wf x (List.mem_of_getElem? hx)).len
      have M1 : Hid (b1 < w.heap.size) := range_lt R1.out (by rw [icells_len L1.out]; omega)
      have M2 : Hid (b2 < w.heap.size) := range_lt R2.out (by rw [icells_len L1.out]; omega)
      have QE : Hid (∀ w, (binOp .neq 32 (.agg (icells x).toArray) (.agg (icells x).toArray)).run Tryd.prog w = .ok (.bool false) w) := fun w => by rw [neqI w _ _ L1.out L1.out, (imB_iff x x).2 rfl]; rfl
      have i1 : (j : Int) < (n : Int) := by omega
      have i0 : (0 : Int) ≤ (j : Int) := by omega
      clear hx
      obtain ⟨wv, hwv⟩ : ∃ wv, wv = wr := ⟨_, rfl⟩
      subst hwv
      go_wp2_with fail
      refine wp_region_noPanic ?_
      refine wp_region_held_drew (S := fun w' => Below wv.heap.size wv w') (by kernel_rfl) (below_drawn 1) (fun hHeld => ?_)
      have DD : Hid (Below wv.heap.size wv wv.drew) := hHeld
      generalize wv.drew = wd at *
      refine wpAnyH_take (i := 0) (v := ?va1) (by simp; rfl) (by kernel_rfl) (by kernel_rfl) (by kernel_rfl) (fun _ _ _ h => h) (Or.inl ⟨by rfl, ?ya1⟩) hHeld ?ra1
      case ya1 => intro w hSw; clear hSw; go_simp; with_reducible rfl
      simp only [Act.put, List.setIfInBounds_toArray, List.set_cons_zero, List.set_cons_succ]
      refine wpAnyH_take (i := 1) (v := ?va2) (by simp; rfl) (by kernel_rfl) (by kernel_rfl) (by kernel_rfl) (fun _ _ _ h => h) (Or.inl ⟨by rfl, ?ya2⟩) hHeld ?ra2
      case ya2 => intro w hSw; clear hSw; go_simp; with_reducible rfl
      simp only [Act.put, List.setIfInBounds_toArray, List.set_cons_zero, List.set_cons_succ]
      refine wpAnyH_take (i := 2) (v := ?va3) (by simp; rfl) (by kernel_rfl) (by kernel_rfl) (by kernel_rfl) (fun _ _ _ h => h) (Or.inl ⟨by rfl, ?ya3⟩) hHeld ?ra3
      case ya3 => intro w hSw; clear hSw; go_simp; with_reducible rfl
      simp only [Act.put, List.setIfInBounds_toArray, List.set_cons_zero, List.set_cons_succ]
      refine wpAnyH_take (i := 3) (v := _) (by simp; rfl) (by kernel_rfl) (by kernel_rfl) (by kernel_rfl) (fun _ _ _ h => h) (yieldsIf_load_mid (by rfl) 32 (.tmp 19) rfl b1 (o1 + j * 33) rfl (icells x) _ (fun _ h => rangeAt_same R1.out ((Br.out.trans (h.mono Br.out.size)).block b1 M1.out)) Tryd.underlying32 rfl (by rw [sizeI, icells_len L1.out])) hHeld ?_
      simp only [Act.put, List.setIfInBounds_toArray, List.set_cons_zero, List.set_cons_succ]
      refine wpAnyH_take (i := 4) (v := ?va4) (by simp; rfl) (by kernel_rfl) (by kernel_rfl) (by kernel_rfl) (fun _ _ _ h => h) (Or.inl ⟨by rfl, ?ya4⟩) hHeld ?ra4
      case ya4 => intro w hSw; clear hSw; go_simp; with_reducible rfl
      simp only [Act.put, List.setIfInBounds_toArray, List.set_cons_zero, List.set_cons_succ]
      refine wpAnyH_take (i := 5) (v := ?va5) (by simp; rfl) (by kernel_rfl) (by kernel_rfl) (by kernel_rfl) (fun _ _ _ h => h) (Or.inl ⟨by rfl, ?ya5⟩) hHeld ?ra5
      case ya5 => intro w hSw; clear hSw; go_simp; with_reducible rfl
      simp only [Act.put, List.setIfInBounds_toArray, List.set_cons_zero, List.set_cons_succ]
      refine wpAnyH_take (i := 6) (v := ?va6) (by simp; rfl) (by kernel_rfl) (by kernel_rfl) (by kernel_rfl) (fun _ _ _ h => h) (Or.inl ⟨by rfl, ?ya6⟩) hHeld ?ra6
      case ya6 => intro w hSw; clear hSw; go_simp; with_reducible rfl
      simp only [Act.put, List.setIfInBounds_toArray, List.set_cons_zero, List.set_cons_succ]
      refine wpAnyH_take (i := 7) (v := _) (by simp; rfl) (by kernel_rfl) (by kernel_rfl) (by kernel_rfl) (fun _ _ _ h => h) (yieldsIf_load_mid (by rfl) 32 (.tmp 23) rfl b2 (o2 + j * 33) rfl (icells x) _ (fun _ h => rangeAt_same R2.out ((Br.out.trans (h.mono Br.out.size)).block b2 M2.out)) Tryd.underlying32 rfl (by rw [sizeI, icells_len L1.out])) hHeld ?_
      simp only [Act.put, List.setIfInBounds_toArray, List.set_cons_zero, List.set_cons_succ]
      refine wpAnyH_take (i := 8) (v := _) (by simp; rfl) (by kernel_rfl) (by kernel_rfl) (by kernel_rfl) (fun _ _ _ h => h) (yields_neq_is (by rfl) 32 rfl rfl rfl eqgI QE.out) hHeld ?_
      simp only [Act.put, List.setIfInBounds_toArray, List.set_cons_zero, List.set_cons_succ]
      clear hHeld
      refine wpAnyH_done (by kernel_rfl) (NoPanic.normal ?_) _
      have B3 : Hid (Below w.heap.size w wd) := below_then Br.out DD.out
      clear Br QE R1 R2 L1 DD
      go_wp2_with fail
      go_roundw
      case rel => exact ⟨j + 1, by omega, by go_num, B3.out⟩
      case measure => simp [intOf]; omega
    · have hnl : ¬ (j : Int) < (n : Int) := by omega
      go_wp2_with fail
      go_ret
      exact ⟨rfl, Br.out⟩
set_option maxHeartbeats 2000000 in
set_option maxRecDepth 100000 in
theorem same_eq (t0 l0 f0 : Int) (p q : Option Addr) (n c d : Nat) (txs : List TX) (w : World) (h : XIn w p n txs) (k : XIn w q n txs) (hn : n ≤ 100000) (hm : ∀ x ∈ txs, x.ims.length ≤ 100000) :
    Calls Tryd.prog 21 #[.agg (gcells t0 l0 f0 (.slice p n c)).toArray, .agg (gcells t0 l0 f0 (.slice q n d)).toArray] w fun e w' => e = .returned (.bool true) ∧ Below w.heap.size w w' := by
  have e1 : (((n : Nat) : Int) != (n : Int)) = false := by simp
  have e2 : (t0 != t0) = false := by simp
  have e3 : (l0 != l0) = false := by simp
  have e4 : (f0 != f0) = false := by simp
  obtain ⟨wa, hwa⟩ : ∃ y, y = w.alloc (.cells (gcells t0 l0 f0 (.slice p n c)).toArray 48) := ⟨_, rfl⟩
  obtain ⟨wb, hwb⟩ : ∃ y, y = wa.alloc (.cells (gcells t0 l0 f0 (.slice q n d)).toArray 48) := ⟨_, rfl⟩
  have ewa := hwa.symm
  have ewb := hwb.symm
  have sa : wa.heap.size = w.heap.size + 1 := by rw [hwa]; simp
  have bw : Below w.heap.size w wa := by rw [hwa]; exact below_alloc w _
  have bab : Below wa.heap.size wa wb := by rw [hwb]; exact below_alloc wa _
  have LA : Hid (LAt 48 wb w.heap.size (gcells t0 l0 f0 (.slice p n c))) := by
    refine LAt.later ?_ bab
    rw [hwa]; exact LAt.new 48 w _
  have LB : Hid (LAt 48 wb (w.heap.size + 1) (gcells t0 l0 f0 (.slice q n d))) := by rw [hwb, ← sa]; exact LAt.new 48 wa _
  have B0 : Hid (Below w.heap.size w wb) := below_then bw bab
  have XP : Hid (XIn wb p n txs) := h.later B0.out
  have XQ : Hid (XIn wb q n txs) := k.later B0.out
  have HM : Hid (∀ x ∈ txs, x.ims.length ≤ 100000) := hm
  have a0 : wb.cell? ⟨w.heap.size, 0, none⟩ = some (.int .u64 t0) := LAt.cell LA.out 0
  have a1 : wb.cell? ⟨w.heap.size, 1, none⟩ = some (.int .u64 l0) := LAt.cell LA.out 1
  have a2 : wb.cell? ⟨w.heap.size, 2, none⟩ = some (.int .u64 f0) := LAt.cell LA.out 2
  have a3 : wb.cell? ⟨w.heap.size, 3, none⟩ = some (.slice p n c) := LAt.cell LA.out 3
  have c0 : wb.cell? ⟨w.heap.size + 1, 0, none⟩ = some (.int .u64 t0) := LAt.cell LB.out 0
  have c1' : wb.cell? ⟨w.heap.size + 1, 1, none⟩ = some (.int .u64 l0) := LAt.cell LB.out 1
  have c2' : wb.cell? ⟨w.heap.size + 1, 2, none⟩ = some (.int .u64 f0) := LAt.cell LB.out 2
  have c3' : wb.cell? ⟨w.heap.size + 1, 3, none⟩ = some (.slice q n d) := LAt.cell LB.out 3
  clear hwa hwb bw bab h k hm
  go_enter Tryd.func21, Tryd.ntmps21
  go_wp2_with fail
  clear e1 e2 e3 e4 a0 a1 a2 a3 c0 c1' c2' c3' ewa ewb
  go_loopw [5] (fun i wr => ∃ j : Nat, j ≤ n ∧ i = .int .i64 j ∧ Hid (Below wb.heap.size wb wr)) (fun i _ => n - (intOf i).toNat)
  case atStart => exact ⟨0, Nat.zero_le _, rfl, Below.refl _ _⟩
  case round =>
    obtain ⟨j, hj, rfl, Br⟩ := hrel
    have ka : wr.cell? ⟨w.heap.size, 3, none⟩ = some (.slice p n c) := LAt.cell (LAt.later LA.out Br.out) 3
    by_cases hlt : j < n
    · obtain ⟨t, ht⟩ : ∃ t, txs[j]? = some t := ⟨_, List.getElem?_eq_getElem (by rw [XP.out.len]; exact hlt)⟩
      obtain ⟨b1, o1, rfl, hc1⟩ := (XP.out.later Br.out).cells (by omega)
      obtain ⟨b2, o2, rfl, hc2⟩ := (XQ.out.later Br.out).cells (by omega)
      obtain ⟨q1, c1, x1, x2, x3, -, -⟩ := hc1 j t ht
      obtain ⟨q2, c2, y1, y2, y3, -, -⟩ := hc2 j t ht
      have X1 : Hid (MIn wr q1 t.ims.length t.ims) := x3
      have X2 : Hid (MIn wr q2 t.ims.length t.ims) := y3
      have hml : t.ims.length ≤ 100000 := HM.out t (List.mem_of_getElem? ht)
      have e5 : (t.p != t.p) = false := by simp
      obtain ⟨wv, hwv⟩ : ∃ wv, wv = wr := ⟨_, rfl⟩
      subst hwv
      have HA : Hid (∀ W, Below wv.heap.size wv W → W.cell? ⟨w.heap.size, 3, none⟩ = some (.slice (some ⟨b1, o1, none⟩) n c) ∧ W.cell? ⟨w.heap.size + 1, 3, none⟩ = some (.slice (some ⟨b2, o2, none⟩) n d) ∧ W.cell? ⟨b1, o1 + j * 2, none⟩ = some (.int .u64 t.p) ∧ W.cell? ⟨b2, o2 + j * 2, none⟩ = some (.int .u64 t.p) ∧ W.cell? ⟨b1, o1 + j * 2 + 1, none⟩ = some (.slice q1 t.ims.length c1) ∧ W.cell? ⟨b2, o2 + j * 2 + 1, none⟩ = some (.slice q2 t.ims.length c2)) := by
        intro W hW
        have m1 := World.block_lt_of_cell? wv _ x1
        have m2 := World.block_lt_of_cell? wv _ y1
        refine ⟨LAt.cell (LAt.later (LAt.later LA.out Br.out) hW) 3, LAt.cell (LAt.later (LAt.later LB.out Br.out) hW) 3, (World.cell?_of_block (hW.block _ m1)).trans x1, (World.cell?_of_block (hW.block _ m2)).trans y1, (World.cell?_of_block (a := ⟨b1, o1 + j * 2 + 1, none⟩) (hW.block b1 m1)).trans x2, (World.cell?_of_block (a := ⟨b2, o2 + j * 2 + 1, none⟩) (hW.block b2 m2)).trans y2⟩
      have i1 : (j : Int) < (n : Int) := by omega
      have i0 : (0 : Int) ≤ (j : Int) := by omega
      clear hc1 hc2 x1 x2 x3 y1 y2 y3
      go_wp2_with fail
      clear ka
      refine wp_region_noPanic ?_
      refine wp_region_held_drew (S := fun w' => Below wv.heap.size wv w') (by kernel_rfl) (below_drawn 1) (fun hHeld => ?_)
      have D1 : Hid (Below wv.heap.size wv wv.drew) := hHeld
      generalize wv.drew = wd at *
      refine wpAnyH_take (i := 0) (v := ?va7) (by simp; rfl) (by kernel_rfl) (by kernel_rfl) (by kernel_rfl) (fun _ _ _ h => h) (Or.inl ⟨by rfl, ?ya7⟩) hHeld ?ra7
      case ya7 => intro w hSw; clear hSw; go_simp; with_reducible rfl
      simp only [Act.put, List.setIfInBounds_toArray, List.set_cons_zero, List.set_cons_succ]
      refine wpAnyH_take (i := 1) (v := ?va8) (by simp; rfl) (by kernel_rfl) (by kernel_rfl) (by kernel_rfl) (fun _ _ _ h => h) (Or.inl ⟨by rfl, ?ya8⟩) hHeld ?ra8
      case ya8 => intro w hSw; have z := (HA.out _ hSw).1; clear hSw; go_simp; with_reducible rfl
      simp only [Act.put, List.setIfInBounds_toArray, List.set_cons_zero, List.set_cons_succ]
      refine wpAnyH_take (i := 2) (v := ?va9) (by simp; rfl) (by kernel_rfl) (by kernel_rfl) (by kernel_rfl) (fun _ _ _ h => h) (Or.inl ⟨by rfl, ?ya9⟩) hHeld ?ra9
      case ya9 => intro w hSw; clear hSw; go_simp; with_reducible rfl
      simp only [Act.put, List.setIfInBounds_toArray, List.set_cons_zero, List.set_cons_succ]
      refine wpAnyH_take (i := 3) (v := ?va10) (by simp; rfl) (by kernel_rfl) (by kernel_rfl) (by kernel_rfl) (fun _ _ _ h => h) (Or.inl ⟨by rfl, ?ya10⟩) hHeld ?ra10
      case ya10 => intro w hSw; clear hSw; go_simp; with_reducible rfl
      simp only [Act.put, List.setIfInBounds_toArray, List.set_cons_zero, List.set_cons_succ]
      refine wpAnyH_take (i := 4) (v := ?va11) (by simp; rfl) (by kernel_rfl) (by kernel_rfl) (by kernel_rfl) (fun _ _ _ h => h) (Or.inl ⟨by rfl, ?ya11⟩) hHeld ?ra11
      case ya11 => intro w hSw; clear hSw; go_simp; with_reducible rfl
      simp only [Act.put, List.setIfInBounds_toArray, List.set_cons_zero, List.set_cons_succ]
      refine wpAnyH_take (i := 5) (v := ?va12) (by simp; rfl) (by kernel_rfl) (by kernel_rfl) (by kernel_rfl) (fun _ _ _ h => h) (Or.inl ⟨by rfl, ?ya12⟩) hHeld ?ra12
      case ya12 => intro w hSw; have z := (HA.out _ hSw).2.2.1; clear hSw; go_simp; with_reducible rfl
      simp only [Act.put, List.setIfInBounds_toArray, List.set_cons_zero, List.set_cons_succ]
      refine wpAnyH_take (i := 6) (v := ?va13) (by simp; rfl) (by kernel_rfl) (by kernel_rfl) (by kernel_rfl) (fun _ _ _ h => h) (Or.inl ⟨by rfl, ?ya13⟩) hHeld ?ra13
      case ya13 => intro w hSw; clear hSw; go_simp; with_reducible rfl
      simp only [Act.put, List.setIfInBounds_toArray, List.set_cons_zero, List.set_cons_succ]
      refine wpAnyH_take (i := 7) (v := ?va14) (by simp; rfl) (by kernel_rfl) (by kernel_rfl) (by kernel_rfl) (fun _ _ _ h => h) (Or.inl ⟨by rfl, ?ya14⟩) hHeld ?ra14
      case ya14 => intro w hSw; have z := (HA.out _ hSw).2.1; clear hSw; go_simp; with_reducible rfl
      simp only [Act.put, List.setIfInBounds_toArray, List.set_cons_zero, List.set_cons_succ]
      refine wpAnyH_take (i := 8) (v := ?va15) (by simp; rfl) (by kernel_rfl) (by kernel_rfl) (by kernel_rfl) (fun _ _ _ h => h) (Or.inl ⟨by rfl, ?ya15⟩) hHeld ?ra15
      case ya15 => intro w hSw; clear hSw; go_simp; with_reducible rfl
      simp only [Act.put, List.setIfInBounds_toArray, List.set_cons_zero, List.set_cons_succ]
      refine wpAnyH_take (i := 9) (v := ?va16) (by simp; rfl) (by kernel_rfl) (by kernel_rfl) (by kernel_rfl) (fun _ _ _ h => h) (Or.inl ⟨by rfl, ?ya16⟩) hHeld ?ra16
      case ya16 => intro w hSw; clear hSw; go_simp; with_reducible rfl
      simp only [Act.put, List.setIfInBounds_toArray, List.set_cons_zero, List.set_cons_succ]
      refine wpAnyH_take (i := 10) (v := ?va17) (by simp; rfl) (by kernel_rfl) (by kernel_rfl) (by kernel_rfl) (fun _ _ _ h => h) (Or.inl ⟨by rfl, ?ya17⟩) hHeld ?ra17
      case ya17 => intro w hSw; clear hSw; go_simp; with_reducible rfl
      simp only [Act.put, List.setIfInBounds_toArray, List.set_cons_zero, List.set_cons_succ]
      refine wpAnyH_take (i := 11) (v := ?va18) (by simp; rfl) (by kernel_rfl) (by kernel_rfl) (by kernel_rfl) (fun _ _ _ h => h) (Or.inl ⟨by rfl, ?ya18⟩) hHeld ?ra18
      case ya18 => intro w hSw; have z := (HA.out _ hSw).2.2.2.1; clear hSw; go_simp; with_reducible rfl
      simp only [Act.put, List.setIfInBounds_toArray, List.set_cons_zero, List.set_cons_succ]
      refine wpAnyH_take (i := 12) (v := ?va19) (by simp; rfl) (by kernel_rfl) (by kernel_rfl) (by kernel_rfl) (fun _ _ _ h => h) (Or.inl ⟨by rfl, ?ya19⟩) hHeld ?ra19
      case ya19 => intro w hSw; clear hSw; go_simp; with_reducible rfl
      simp only [Act.put, List.setIfInBounds_toArray, List.set_cons_zero, List.set_cons_succ]
      refine wpAnyH_take (i := 13) (v := ?va20) (by simp; rfl) (by kernel_rfl) (by kernel_rfl) (by kernel_rfl) (fun _ _ _ h => h) (Or.inl ⟨by rfl, ?ya20⟩) hHeld ?ra20
      case ya20 => intro w hSw; clear hSw; go_simp; with_reducible rfl
      simp only [Act.put, List.setIfInBounds_toArray, List.set_cons_zero, List.set_cons_succ]
      refine wpAnyH_take (i := 14) (v := ?va21) (by simp; rfl) (by kernel_rfl) (by kernel_rfl) (by kernel_rfl) (fun _ _ _ h => h) (Or.inl ⟨by rfl, ?ya21⟩) hHeld ?ra21
      case ya21 => intro w hSw; clear hSw; go_simp; with_reducible rfl
      simp only [Act.put, List.setIfInBounds_toArray, List.set_cons_zero, List.set_cons_succ]
      refine wpAnyH_take (i := 15) (v := ?va22) (by simp; rfl) (by kernel_rfl) (by kernel_rfl) (by kernel_rfl) (fun _ _ _ h => h) (Or.inl ⟨by rfl, ?ya22⟩) hHeld ?ra22
      case ya22 => intro w hSw; have z := (HA.out _ hSw).1; clear hSw; go_simp; with_reducible rfl
      simp only [Act.put, List.setIfInBounds_toArray, List.set_cons_zero, List.set_cons_succ]
      refine wpAnyH_take (i := 16) (v := ?va23) (by simp; rfl) (by kernel_rfl) (by kernel_rfl) (by kernel_rfl) (fun _ _ _ h => h) (Or.inl ⟨by rfl, ?ya23⟩) hHeld ?ra23
      case ya23 => intro w hSw; clear hSw; go_simp; with_reducible rfl
      simp only [Act.put, List.setIfInBounds_toArray, List.set_cons_zero, List.set_cons_succ]
      refine wpAnyH_take (i := 17) (v := ?va24) (by simp; rfl) (by kernel_rfl) (by kernel_rfl) (by kernel_rfl) (fun _ _ _ h => h) (Or.inl ⟨by rfl, ?ya24⟩) hHeld ?ra24
      case ya24 => intro w hSw; clear hSw; go_simp; with_reducible rfl
      simp only [Act.put, List.setIfInBounds_toArray, List.set_cons_zero, List.set_cons_succ]
      refine wpAnyH_take (i := 18) (v := ?va25) (by simp; rfl) (by kernel_rfl) (by kernel_rfl) (by kernel_rfl) (fun _ _ _ h => h) (Or.inl ⟨by rfl, ?ya25⟩) hHeld ?ra25
      case ya25 => intro w hSw; clear hSw; go_simp; with_reducible rfl
      simp only [Act.put, List.setIfInBounds_toArray, List.set_cons_zero, List.set_cons_succ]
      refine wpAnyH_take (i := 19) (v := ?va26) (by simp; rfl) (by kernel_rfl) (by kernel_rfl) (by kernel_rfl) (fun _ _ _ h => h) (Or.inl ⟨by rfl, ?ya26⟩) hHeld ?ra26
      case ya26 => intro w hSw; have z := (HA.out _ hSw).2.2.2.2.1; clear hSw; go_simp; with_reducible rfl
      simp only [Act.put, List.setIfInBounds_toArray, List.set_cons_zero, List.set_cons_succ]
      refine wpAnyH_take (i := 20) (v := ?va27) (by simp; rfl) (by kernel_rfl) (by kernel_rfl) (by kernel_rfl) (fun _ _ _ h => h) (Or.inl ⟨by rfl, ?ya27⟩) hHeld ?ra27
      case ya27 => intro w hSw; clear hSw; go_simp; with_reducible rfl
      simp only [Act.put, List.setIfInBounds_toArray, List.set_cons_zero, List.set_cons_succ]
      refine wpAnyH_take (i := 21) (v := ?va28) (by simp; rfl) (by kernel_rfl) (by kernel_rfl) (by kernel_rfl) (fun _ _ _ h => h) (Or.inl ⟨by rfl, ?ya28⟩) hHeld ?ra28
      case ya28 => intro w hSw; have z := (HA.out _ hSw).2.1; clear hSw; go_simp; with_reducible rfl
      simp only [Act.put, List.setIfInBounds_toArray, List.set_cons_zero, List.set_cons_succ]
      refine wpAnyH_take (i := 22) (v := ?va29) (by simp; rfl) (by kernel_rfl) (by kernel_rfl) (by kernel_rfl) (fun _ _ _ h => h) (Or.inl ⟨by rfl, ?ya29⟩) hHeld ?ra29
      case ya29 => intro w hSw; clear hSw; go_simp; with_reducible rfl
      simp only [Act.put, List.setIfInBounds_toArray, List.set_cons_zero, List.set_cons_succ]
      refine wpAnyH_take (i := 23) (v := ?va30) (by simp; rfl) (by kernel_rfl) (by kernel_rfl) (by kernel_rfl) (fun _ _ _ h => h) (Or.inl ⟨by rfl, ?ya30⟩) hHeld ?ra30
      case ya30 => intro w hSw; clear hSw; go_simp; with_reducible rfl
      simp only [Act.put, List.setIfInBounds_toArray, List.set_cons_zero, List.set_cons_succ]
      refine wpAnyH_take (i := 24) (v := ?va31) (by simp; rfl) (by kernel_rfl) (by kernel_rfl) (by kernel_rfl) (fun _ _ _ h => h) (Or.inl ⟨by rfl, ?ya31⟩) hHeld ?ra31
      case ya31 => intro w hSw; clear hSw; go_simp; with_reducible rfl
      simp only [Act.put, List.setIfInBounds_toArray, List.set_cons_zero, List.set_cons_succ]
      refine wpAnyH_take (i := 25) (v := ?va32) (by simp; rfl) (by kernel_rfl) (by kernel_rfl) (by kernel_rfl) (fun _ _ _ h => h) (Or.inl ⟨by rfl, ?ya32⟩) hHeld ?ra32
      case ya32 => intro w hSw; have z := (HA.out _ hSw).2.2.2.2.2; clear hSw; go_simp; with_reducible rfl
      simp only [Act.put, List.setIfInBounds_toArray, List.set_cons_zero, List.set_cons_succ]
      refine wpAnyH_ready (rs := [26]) (by kernel_rfl) (by simp) ?_
      refine AllReadyH.cons (by simp; rfl) (fun Kc hKc => ?_) AllReadyH.nil
      go_simp
      refine (sameImages_eq q1 q2 t.ims.length c1 c2 t.ims _ (X1.out.later D1.out) (X2.out.later D1.out) (by omega)).mono ?_
      rintro e wn ⟨rfl, bn⟩
      have D2 : Hid (Below wv.heap.size wv wn) := below_then D1.out bn
      refine hKc.out _ _ D2.out (fun hHeld => ?_)
      clear hKc Kc bn
      refine wpAnyH_take (i := 27) (v := ?va33) (by simp; rfl) (by kernel_rfl) (by kernel_rfl) (by kernel_rfl) (fun _ _ _ h => h) (Or.inl ⟨by rfl, ?ya33⟩) hHeld ?ra33
      case ya33 => intro w hSw; clear hSw; go_simp; with_reducible rfl
      simp only [Act.put, List.setIfInBounds_toArray, List.set_cons_zero, List.set_cons_succ]
      refine wpAnyH_take (i := 28) (v := ?va34) (by simp; rfl) (by kernel_rfl) (by kernel_rfl) (by kernel_rfl) (fun _ _ _ h => h) (Or.inl ⟨by rfl, ?ya34⟩) hHeld ?ra34
      case ya34 => intro w hSw; clear hSw; go_simp; with_reducible rfl
      simp only [Act.put, List.setIfInBounds_toArray, List.set_cons_zero, List.set_cons_succ]
      clear hHeld
      refine wpAnyH_done (by kernel_rfl) (NoPanic.normal ?_) _
      have B3 : Hid (Below wb.heap.size wb wn) := below_then Br.out D2.out
      clear Br HA X1 X2 D1 D2
      go_wp2_with fail
      go_roundw
      case rel => exact ⟨j + 1, by omega, by go_num, B3.out⟩
      case measure => simp [intOf]; omega
    · have hnl : ¬ (j : Int) < (n : Int) := by omega
      go_wp2_with fail
      go_ret
      exact ⟨rfl, below_then B0.out Br.out⟩
end Go.Proofs.YtefnkjajjidfaaaDoor
namespace Go.Proofs.YtefnkjajjidfaaaDoor
open Go.RowKit


section
variable {P : Program} {ops : Array Oper} {rest : List Oper} {o : Oper} {a : Act} {w w' : World} {Q : Exit → Act → World → Prop}
theorem wpList_slice2_is (hgd : Region.wanted o (yielded ops a.tmps) = true) (ty : TypeId) {x y : Operand} (ho : o.op = .buildSlice ty 2 #[(0, x), (1, y)]) {u u2 v : Value} (hx : a.eval x = u) (hy : a.eval y = u2) (hrun : (Instr.buildSlice ty 2 #[(0, u), (1, u2)]).run P w = .ok v w') (h : wpList P ops Q rest (a.put o.dst v) w') : wpList P ops Q (o :: rest) a w :=
  wpList_val hgd (by
    have e : (#[(0, x), (1, y)] : Array (Nat × Operand)).map (fun (i, z) => (i, a.eval z)) = #[(0, u), (1, u2)] := by simp [hx, hy]
    unfold execOp; simp only [ho]; rw [e]; simp only [Sem.run_bind, hrun, Result.andThen_ok, Sem.run_pure]) h
end
theorem read_any10 {w : World} {S : Nat → Prop} {p n : Nat} {d : List Int} {ws : List Wr} (h : Dsk w S p n d ws) (ht : Tab w) (c : Sup) :
    Calls Tryd.prog 20 #[.pointer (some ⟨p, 0, none⟩), .agg (ccells c).toArray] w fun e w' => ∃ q cp vs, e = .returned (.tuple #[.agg (gcells (rdL c n (newest ws d)).1.tail (rdL c n (newest ws d)).1.life (rdL c n (newest ws d)).1.fin (.slice q (rdL c n (newest ws d)).1.txs.length cp)).toArray, .int .i64 (rdL c n (newest ws d)).2]) ∧ XOwn 33 w' w.heap.size (.slice q (rdL c n (newest ws d)).1.txs.length cp) (rdL c n (newest ws d)).1.txs vs ∧ Rise vs w'.heap.size ∧ Below w.heap.size w w' := by
  by_cases hz : (supOf c n (newest ws d)).2 = 0
  · rw [rdL_ok hz]
    refine (read_ok10 h ht c hz).mono ?_
    rintro e w' ⟨v, vs, rfl, hx, hr, hb⟩
    obtain ⟨q, cp, rfl, -⟩ := XOwn.in hx
    exact ⟨q, cp, vs, rfl, hx, hr, hb⟩
  · rw [rdL_no hz]
    refine (read_err10 h ht c hz).mono ?_
    rintro e w' ⟨rfl, hb⟩
    exact ⟨none, 0, [], rfl, XOwn.nil _ _ _, Rise.nil _, hb⟩
/-- a superblock that stands -/
theorem supOf_new {c : Sup} (h : MayC c) {rd : Nat → List Int} (h0 : rd 0 = encS (sup1 c)) : supOf c (cntS c) rd = (sup1 c, 0) := by
  have e : decS (rd 0) = (sup1 c, 0) := by rw [h0]; exact decS_encS _ (sup1_wf h) (sup1_may h)
  rw [supOf_ok h (cntS_is h) (by rw [e]) (by rw [e]; exact ⟨rfl, rfl, rfl, rfl, rfl⟩), e]
theorem rdL_new {c : Sup} (h : MayC c) {rd : Nat → List Int} (h0 : rd 0 = encS (sup1 c)) {s : Sc} (hs : scRun (stS c rd) c.mr c.lc.toNat 0 ⟨[], 0, []⟩ = s) : rdL c (cntS c) rd = (⟨0, 1, s.fin, s.txs⟩, 0) := by
  have e := supOf_new h h0
  rw [rdL_ok (by rw [e]), e]
  show (scanS c rd (sup1 c), (0 : Int)) = _
  unfold scanS
  show ((⟨0, 1, (scRun (stS c rd) c.mr c.lc.toNat 0 ⟨[], 0, []⟩).fin, (scRun (stS c rd) c.mr c.lc.toNat 0 ⟨[], 0, []⟩).txs⟩ : LogS), (0 : Int)) = _
  rw [hs]
theorem st_blank {c : Sup} {rd : Nat → List Int} {p : Int} (h : rd (1 + c.bl + p % c.lc).toNat = zs 64) : (stS c rd p).2 = false := by
  rw [stS_no fun k => zs64_no (by rw [← h]; exact k.1)]
theorem rdL_empty {c : Sup} (h : MayC c) : rdL c (cntS c) (newest [] (newS c)) = (⟨0, 1, 0, []⟩, 0) := by
  have st := Sty.start h
  refine rdL_new h st.sup (s := ⟨[], 0, []⟩) (scRun_off ?_)
  refine st_blank ?_
  have hl := h.2.1
  have := st.blank 0 (Int.le_refl 0) (by omega)
  exact this
def sm10 : Sup := ⟨3, 4, 2, 4, 1, 0, 0⟩
theorem sm10_may : MayC sm10 := by decide
set_option maxHeartbeats 1000000 in
set_option maxRecDepth 100000 in
theorem small_any (w : World) : Calls Tryd.prog 28 #[] w fun e w' => e = .returned (.agg (ccells sm10).toArray) ∧ Below w.heap.size w w' := by
  have A1 : Hid (_) := alloc23 w
  have U1 : Hid (_) := build23 (w.alloc (.cells (ccells sup0).toArray 39)) #[(0, .int .i64 3), (1, .int .i64 4), (2, .int .i64 2), (3, .int .i64 4), (4, .int .i64 1)] sm10 (fill_cfgs sm10)
  have S1 : Hid (_) := store_new23 w sm10
  go_enter Tryd.func28, Tryd.ntmps28
  go_wp2_with ((with_reducible refine at_ops ?_); (first | (refine wpList_alloc_is (by rfl) 39 rfl A1.out ?_) | (refine wpList_build_is (vs := [(0, .int .i64 3), (1, .int .i64 4), (2, .int .i64 2), (3, .int .i64 4), (4, .int .i64 1)]) (by rfl) 39 rfl (by rfl) U1.out ?_) | (refine wpList_store_is (by rfl) 39 rfl rfl rfl S1.out ?_)); simp only [Act.put, List.setIfInBounds_toArray, List.set_cons_zero, List.set_cons_succ])
  exact bodyPost_ret (results_cell1 Tryd.results28 _ _ w.heap.size 39 _ _ (by rfl) (LAt.new 39 w _) Tryd.underlying39 rfl size23) rfl ⟨rfl, below_alloc w _⟩
theorem num_any (x : Int) (w : World) : Calls Tryd.prog 15 #[.int .i64 x] w fun e w' => e = .returned (.int .i64 x) ∧ w = w' := by
  go_enter Tryd.func15, Tryd.ntmps15
  go_wp2
  go_ret
  exact ⟨rfl, rfl⟩
def v1 : List Int := 1 :: zs 31
def v3 : List Int := 3 :: zs 31
def tl10 : List TX := [⟨0, [⟨0, v1⟩, ⟨2, zs 32⟩]⟩, ⟨0, [⟨0, v3⟩]⟩]
theorem v1_wf : Im.Wf ⟨0, v1⟩ := ⟨by decide, rfl, Bytes.cons (by omega) (zs_bytes 31)⟩
theorem v3_wf : Im.Wf ⟨0, v3⟩ := ⟨by decide, rfl, Bytes.cons (by omega) (zs_bytes 31)⟩
theorem v2_wf : Im.Wf ⟨2, zs 32⟩ := ⟨by decide, rfl, zs_bytes 32⟩
theorem tl10_wf : TxsWf tl10 := by
  intro t ht
  simp only [tl10, List.mem_cons, List.not_mem_nil, or_false] at ht
  rcases ht with rfl | rfl
  · refine ⟨by decide, fun i hi => ?_⟩
    simp only [List.mem_cons, List.not_mem_nil, or_false] at hi
    rcases hi with rfl | rfl
    · exact v1_wf
    · exact v2_wf
  · refine ⟨by decide, fun i hi => ?_⟩
    simp only [List.mem_cons, List.not_mem_nil, or_false] at hi
    rw [hi]; exact v3_wf
theorem tl10_new : nwS (flat tl10) = [⟨0, v3⟩, ⟨2, zs 32⟩] := by rfl
set_option maxHeartbeats 4000000 in
set_option maxRecDepth 100000 in
theorem awake_any (w : World) (ht : Tab w) : Calls Tryd.prog 7 #[] w fun e w' => e = .returned (.bool true) ∧ Below w.heap.size w w' := by
  have HT : Hid (Tab w) := ht
  clear ht
  go_enter Tryd.func7, Tryd.ntmps7
  go_wp2_with fail
  refine (small_any _).mono ?_
  rintro e w1 ⟨rfl, b1⟩
  go_wp2_with fail
  refine (hnew_good sm10 sm10_may w1 (HT.out.later b1)).mono ?_
  rintro e w2 ⟨p, rfl, d2, b2⟩
  have B2 : Hid (Below w.heap.size w w2) := below_then b1 b2
  have D2 : Hid (Dsk w2 (fun k => w1.heap.size ≤ k) p (cntS sm10) (newS sm10) []) := d2
  clear d2 b1 b2
  go_wp2_with (go_at_call 15; refine (num_any _ _).mono ?_; rintro e wn ⟨rfl, rfl⟩)
  refine (small_any _).mono ?_
  rintro e w3 ⟨rfl, b3⟩
  have B3 : Hid (Below w.heap.size w w3) := below_then B2.out b3
  have D3 : Hid (Dsk w3 (fun k => w1.heap.size ≤ k) p (cntS sm10) (newS sm10) []) := D2.out.later b3
  clear D2 b3
  go_wp2_with fail
  refine (read_any10 D3.out (HT.out.later B3.out) sm10).mono ?_
  rintro e w4 ⟨q4, cp4, vs4, rfl, -, -, b4⟩
  rw [rdL_empty sm10_may]
  have B4 : Hid (Below w.heap.size w w4) := below_then B3.out b4
  have D4 : Hid (Dsk w4 (fun k => w1.heap.size ≤ k) p (cntS sm10) (newS sm10) []) := D3.out.later b4
  have A4 : Hid (_) := allocLg w4
  have T4 : Hid (_) := storeLg w4 0 1 0 (v := .slice q4 0 cp4) rfl
  obtain ⟨w5, hw5⟩ : ∃ y, y = w4.alloc (.cells (gcells 0 1 0 (.slice q4 0 cp4)).toArray 66) := ⟨_, rfl⟩
  rw [← hw5] at T4
  have b5 : Below w4.heap.size w4 w5 := by rw [hw5]; exact below_alloc w4 _
  have B5 : Hid (Below w.heap.size w w5) := below_then B4.out b5
  have D5 : Hid (Dsk w5 (fun k => w1.heap.size ≤ k) p (cntS sm10) (newS sm10) []) := D4.out.later b5
  have L5 : Hid (LAt 66 w5 w4.heap.size (gcells 0 1 0 (.slice q4 0 cp4))) := by rw [hw5]; exact LAt.new 66 w4 _
  clear hw5 b5 b4 D3 D4 B3 B2
  go_wp2_with ((with_reducible refine at_ops ?_); (first | (refine wpList_alloc_is (by rfl) 66 rfl A4.out ?_) | (refine wpList_store_is (by rfl) 66 rfl rfl rfl T4.out ?_) | (refine wpList_store_is (by rfl) 66 rfl rfl rfl T4.out ?_)); simp only [Act.put, List.setIfInBounds_toArray, List.set_cons_zero, List.set_cons_succ])
  refine (small_any _).mono ?_
  rintro e w6 ⟨rfl, b6⟩
  go_wp2_with fail
  refine (read_nil10 sm10 w6).mono ?_
  rintro e w7 ⟨rfl, b7⟩
  have b57 := below_then b6 b7
  have B7 : Hid (Below w.heap.size w w7) := below_then B5.out b57
  have D7 : Hid (Dsk w7 (fun k => w1.heap.size ≤ k) p (cntS sm10) (newS sm10) []) := D5.out.later b57
  have L7 : Hid (LAt 66 w7 w4.heap.size (gcells 0 1 0 (.slice q4 0 cp4))) := LAt.later L5.out b57
  clear b6 b7 b57 D5 L5 B5 A4 T4
  have A7 : Hid (_) := allocLg w7
  have T7 : Hid (_) := storeLg w7 0 0 0 (v := .slice none 0 0) rfl
  obtain ⟨w8, hw8⟩ : ∃ y, y = w7.alloc (.cells (gcells 0 0 0 (.slice none 0 0)).toArray 66) := ⟨_, rfl⟩
  rw [← hw8] at T7 A7
  have b8 : Below w7.heap.size w7 w8 := by rw [hw8]; exact below_alloc w7 _
  clear hw8
  go_wp2_with ((with_reducible refine at_ops ?_); (first | (refine wpList_alloc_is (by rfl) 66 rfl A7.out ?_) | (refine wpList_store_is (by rfl) 66 rfl rfl rfl T7.out ?_) | (refine wpList_alloc_is (by rfl) 66 rfl A7.out ?_)); simp only [Act.put, List.setIfInBounds_toArray, List.set_cons_zero, List.set_cons_succ])
  refine (small_any _).mono ?_
  rintro e w9 ⟨rfl, b9⟩
  have A9 : Hid (_) := alloc23 w9
  have T9 : Hid (_) := store_new23 w9 sm10
  obtain ⟨w10, hw10⟩ : ∃ y, y = w9.alloc (.cells (ccells sm10).toArray 39) := ⟨_, rfl⟩
  rw [← hw10] at T9
  have b10 : Below w9.heap.size w9 w10 := by rw [hw10]; exact below_alloc w9 _
  have C10 : CAt w10 w9.heap.size sm10 := by rw [hw10]; exact LAt.new 39 w9 _
  have c101 : w10.cell? ⟨w9.heap.size, 1, none⟩ = some (.int .i64 4) := CAt.c1 C10
  have f101 := LAt.free C10 1
  have C11 : CAt (w10.setCell ⟨w9.heap.size, 1, none⟩ (.int .i64 5)) w9.heap.size ⟨3, 5, 2, 4, 1, 0, 0⟩ := LAt.set C10 1 (.int .i64 5)
  have L11 : Hid (_) := CAt.load23 C11
  have b7_10 : Below w7.heap.size w7 w10 := below_then b8 (below_then b9 b10)
  have b7_11 : Below w7.heap.size w7 (w10.setCell ⟨w9.heap.size, 1, none⟩ (.int .i64 5)) := b7_10.setCell (p := ⟨w9.heap.size, 1, none⟩) (by have := b8.size; have := b9.size; show w7.heap.size ≤ w9.heap.size; omega) _
  obtain ⟨w11, hw11⟩ : ∃ y, w10.setCell ⟨w9.heap.size, 1, none⟩ (.int .i64 5) = y := ⟨_, rfl⟩
  rw [hw11] at L11 b7_11
  have B11 : Hid (Below w.heap.size w w11) := below_then B7.out b7_11
  have D11 : Hid (Dsk w11 (fun k => w1.heap.size ≤ k) p (cntS sm10) (newS sm10) []) := D7.out.later b7_11
  have M11 : Hid (LAt 66 w11 w4.heap.size (gcells 0 1 0 (.slice q4 0 cp4))) := LAt.later L7.out b7_11
  clear b8 b9 hw10 b10 C10 C11 b7_10 b7_11 D7 L7 B7 A7 T7
  go_wp2_with ((with_reducible refine at_ops ?_); (first | (refine wpList_alloc_is (by rfl) 39 rfl A9.out ?_) | (refine wpList_store_is (by rfl) 39 rfl rfl rfl T9.out ?_) | (refine wpList_load_is (by rfl) 39 rfl rfl L11.out ?_)); simp only [Act.put, List.setIfInBounds_toArray, List.set_cons_zero, List.set_cons_succ])
  refine (read_any10 D11.out (HT.out.later B11.out) ⟨3, 5, 2, 4, 1, 0, 0⟩).mono ?_
  rintro e w12 ⟨q12, cp12, vs12, rfl, -, -, b12⟩
  rw [show rdL ⟨3, 5, 2, 4, 1, 0, 0⟩ (cntS sm10) (newest [] (newS sm10)) = (log0, 40) from by rw [rdL_no (by rw [supOf_len _ (by decide) (by decide)]; decide), supOf_len _ (by decide) (by decide)]]
  have B12 : Hid (Below w.heap.size w w12) := below_then B11.out b12
  have L12 : Hid (LAt 66 w12 w4.heap.size (gcells 0 1 0 (.slice q4 0 cp4))) := LAt.later M11.out b12
  clear b12 M11 B11 D11 L11 A9 T9 c101 f101 hw11
  have A12 : Hid (_) := allocLg w12
  have T12 : Hid (_) := storeLg w12 0 0 0 (v := .slice q12 0 cp12) rfl
  obtain ⟨w13, hw13⟩ : ∃ y, y = w12.alloc (.cells (gcells 0 0 0 (.slice q12 0 cp12)).toArray 66) := ⟨_, rfl⟩
  rw [← hw13] at T12
  have b13 : Below w12.heap.size w12 w13 := by rw [hw13]; exact below_alloc w12 _
  have V1 : Hid (_) := buildV1 w13 1
  have I1 : Hid (_) := buildI w13 0 v1 rfl
  have I2 : Hid (_) := buildIb w13 2
  have S2 : Hid (_) := build_im2 w13 ⟨0, v1⟩ ⟨2, zs 32⟩ rfl (zs_len 32)
  obtain ⟨w14, hw14⟩ : ∃ y, y = w13.alloc (.cells (IC [⟨0, v1⟩, ⟨2, zs 32⟩]).toArray 32) := ⟨_, rfl⟩
  rw [← hw14] at S2
  have b14 : Below w13.heap.size w13 w14 := by rw [hw14]; exact below_alloc w13 _
  have r14 : LAt 32 w14 w13.heap.size (IC [⟨0, v1⟩, ⟨2, zs 32⟩]) := by rw [hw14]; exact LAt.new 32 w13 _
  have X1 : Hid (_) := buildT1 w14 (some ⟨w13.heap.size, 0, none⟩) 2 2
  have V3 : Hid (_) := buildV1 w14 3
  have I3 : Hid (_) := buildI w14 0 v3 rfl
  have S3 : Hid (_) := build_im w14 ⟨0, v3⟩ rfl
  obtain ⟨w15, hw15⟩ : ∃ y, y = w14.alloc (.cells (icells ⟨0, v3⟩).toArray 32) := ⟨_, rfl⟩
  rw [← hw15] at S3
  have b15 : Below w14.heap.size w14 w15 := by rw [hw15]; exact below_alloc w14 _
  have r15 : LAt 32 w15 w14.heap.size (icells ⟨0, v3⟩) := by rw [hw15]; exact LAt.new 32 w14 _
  have X2 : Hid (_) := buildT1 w15 (some ⟨w14.heap.size, 0, none⟩) 1 1
  have S4 : Hid (_) := build_tx2 w15 (some ⟨w13.heap.size, 0, none⟩) (some ⟨w14.heap.size, 0, none⟩) 2 2 1 1
  obtain ⟨w16, hw16⟩ : ∃ y, y = w15.alloc (.cells #[.int .u64 0, .slice (some ⟨w13.heap.size, 0, none⟩) 2 2, .int .u64 0, .slice (some ⟨w14.heap.size, 0, none⟩) 1 1] 33) := ⟨_, rfl⟩
  rw [← hw16] at S4
  have b16 : Below w15.heap.size w15 w16 := by rw [hw16]; exact below_alloc w15 _
  have r16 : LAt 33 w16 w15.heap.size [.int .u64 0, .slice (some ⟨w13.heap.size, 0, none⟩) 2 2, .int .u64 0, .slice (some ⟨w14.heap.size, 0, none⟩) 1 1] := by rw [hw16]; exact LAt.new 33 w15 _
  have X16 : Hid (XIn w16 (some ⟨w15.heap.size, 0, none⟩) 2 tl10) := by
    refine ⟨rfl, fun _ => ⟨_, _, rfl, fun k t hk => ?_⟩⟩
    have hk2 : k < 2 := (List.getElem?_eq_some_iff.1 hk).1
    have : k = 0 ∨ k = 1 := by omega
    rcases this with rfl | rfl
    · cases hk
      refine ⟨_, 2, LAt.cell r16 0, LAt.cell r16 1, ⟨rfl, (tl10_wf _ (List.mem_cons.2 (.inl rfl))).ims, fun _ => ⟨_, _, rfl, LAt.range (LAt.later (LAt.later r14 b15) b16)⟩⟩, Nat.le_refl _, by decide⟩
    · cases hk
      refine ⟨_, 1, LAt.cell r16 2, LAt.cell r16 3, ⟨rfl, (tl10_wf _ (List.mem_cons.2 (.inr (List.mem_cons.2 (.inl rfl))))).ims, fun _ => ⟨_, _, rfl, ?_⟩⟩, Nat.le_refl _, by decide⟩
      have := LAt.range (LAt.later r15 b16)
      show w16.rangeAt _ 0 (IC [⟨0, v3⟩])
      rw [show IC [(⟨0, v3⟩ : Im)] = icells ⟨0, v3⟩ from by simp [IC]]
      exact this
  have b12_16 : Below w12.heap.size w12 w16 := below_then b13 (below_then b14 (below_then b15 b16))
  have B16 : Hid (Below w.heap.size w w16) := below_then B12.out b12_16
  have L16 : Hid (LAt 66 w16 w4.heap.size (gcells 0 1 0 (.slice q4 0 cp4))) := LAt.later L12.out b12_16
  clear hw13 hw14 hw15 hw16 b13 b14 b15 b16 r14 r15 r16 b12_16 B12 L12
  go_wp2_with ((with_reducible refine at_ops ?_); (first | (refine wpList_alloc_is (by rfl) 66 rfl A12.out ?_) | (refine wpList_store_is (by rfl) 66 rfl rfl rfl T12.out ?_) | (refine wpList_build_is (vs := [(0, .int .u8 1)]) (by rfl) 30 rfl (by rfl) V1.out ?_) | (refine wpList_build_is (vs := [(0, .int .i64 0), (1, .agg (U8 v1).toArray)]) (by rfl) 32 rfl (by rfl) I1.out ?_) | (refine wpList_build_is (vs := [(0, .int .i64 2)]) (by rfl) 32 rfl (by rfl) I2.out ?_) | (refine wpList_slice2_is (u := .agg (icells ⟨0, v1⟩).toArray) (u2 := .agg (icells ⟨2, zs 32⟩).toArray) (by rfl) 26 rfl rfl rfl S2.out ?_) | (refine wpList_build_is (vs := [(1, .slice (some ⟨w13.heap.size, 0, none⟩) 2 2)]) (by rfl) 33 rfl (by rfl) X1.out ?_) | (refine wpList_build_is (vs := [(0, .int .u8 3)]) (by rfl) 30 rfl (by rfl) V3.out ?_) | (refine wpList_build_is (vs := [(0, .int .i64 0), (1, .agg (U8 v3).toArray)]) (by rfl) 32 rfl (by rfl) I3.out ?_) | (refine wpList_slice_is (u := .agg (icells ⟨0, v3⟩).toArray) (by rfl) 26 rfl rfl S3.out ?_) | (refine wpList_build_is (vs := [(1, .slice (some ⟨w14.heap.size, 0, none⟩) 1 1)]) (by rfl) 33 rfl (by rfl) X2.out ?_) | (refine wpList_slice2_is (u := .agg #[.int .u64 0, .slice (some ⟨w13.heap.size, 0, none⟩) 2 2]) (u2 := .agg #[.int .u64 0, .slice (some ⟨w14.heap.size, 0, none⟩) 1 1]) (by rfl) 24 rfl rfl rfl S4.out ?_)); simp only [Act.put, List.setIfInBounds_toArray, List.set_cons_zero, List.set_cons_succ])
  refine (newest_any (some ⟨w15.heap.size, 0, none⟩) 2 2 tl10 w16 X16.out tl10_wf (by omega) (by decide)).mono ?_
  rintro e w17 ⟨v17, rfl, o17, b17⟩
  rw [tl10_new] at o17
  obtain ⟨q17, cp17, rfl, m17, -, -⟩ := IOwn.in o17 (by
    intro i hi
    simp only [List.mem_cons, List.not_mem_nil, or_false] at hi
    rcases hi with rfl | rfl
    · exact v3_wf
    · exact v2_wf)
  obtain ⟨g17, f17, rfl, -⟩ := m17.cells (show 0 < 2 by omega)
  have B17 : Hid (Below w.heap.size w w17) := below_then B16.out b17
  have L17 := LAt.later L16.out b17
  have k0 : w17.cell? ⟨w4.heap.size, 0, none⟩ = some (.int .u64 0) := LAt.cell L17 0
  have k1 : w17.cell? ⟨w4.heap.size, 1, none⟩ = some (.int .u64 1) := LAt.cell L17 1
  have k2 : w17.cell? ⟨w4.heap.size, 2, none⟩ = some (.int .u64 0) := LAt.cell L17 2
  have k3 : w17.cell? ⟨w4.heap.size, 3, none⟩ = some (.slice q4 0 cp4) := LAt.cell L17 3
  have LI : Hid (_) := m17.load (k := 0) (i := ⟨0, v3⟩) rfl
  have ci : w17.cell? ⟨g17, f17 + 1 * 33, none⟩ = some (.int .i64 2) := m17.c0 (k := 1) (i := ⟨2, zs 32⟩) rfl
  have V17 : Hid (_) := buildV1 w17 3
  have I17 : Hid (_) := buildI w17 0 v3 rfl
  have E17 : Hid (_) := eqlI w17 ⟨0, v3⟩ ⟨0, v3⟩ rfl rfl
  rw [(imB_iff ⟨0, v3⟩ ⟨0, v3⟩).2 rfl] at E17
  rw [Nat.zero_mul, Nat.add_zero] at LI
  clear o17 b17 L17 m17 B16 L16 X16 V1 I1 I2 S2 X1 V3 I3 S3 X2 S4 A12 T12
  go_wp2_with (first | (go_at_call 15; refine (num_any _ _).mono ?_; rintro e wn ⟨rfl, rfl⟩) | ((with_reducible refine at_ops ?_); (first | (refine wpList_load_is (by rfl) 32 rfl rfl LI.out ?_) | (refine wpList_build_is (vs := [(0, .int .u8 3)]) (by rfl) 30 rfl (by rfl) V17.out ?_) | (refine wpList_build_is (vs := [(0, .int .i64 0), (1, .agg (U8 v3).toArray)]) (by rfl) 32 rfl (by rfl) I17.out ?_) | (refine wpList_eql_is (by rfl) 32 rfl rfl rfl eqgI E17.out ?_)); simp only [Act.put, List.setIfInBounds_toArray, List.set_cons_zero, List.set_cons_succ]))
  go_ret
  exact ⟨rfl, B17.out⟩
end Go.Proofs.YtefnkjajjidfaaaDoor
namespace Go.Proofs.YtefnkjajjidfaaaDoor
open Go.RowKit


section
variable {P : Program} {ops : Array Oper} {o : Oper} {a : Act} {w w' : World} {Q : Exit → Act → World → Prop} {K : Act → World → Prop}
theorem sq_val (hgd : Region.wanted o (yielded ops a.tmps) = true) {v : Value} (hrun : (execOp a.eval o).run P w = .ok (.value v) w') (h : K (a.put o.dst v) w') : if Region.wanted o (yielded ops a.tmps) = true then Oper.wp P o a w K Q else K (a.put o.dst undef) w := by
  rw [if_pos hgd]
  unfold Oper.wp
  rw [hrun]
  exact h
theorem sq_build (hgd : Region.wanted o (yielded ops a.tmps) = true) (ty : TypeId) {ps : Array (Nat × Operand)} (ho : o.op = .build ty ps) {vs : List (Nat × Value)} {v : Value} (hx : ps.toList.map (fun (i, x) => (i, a.eval x)) = vs) (hrun : (Instr.build ty vs.toArray).run P w = .ok v w) (h : K (a.put o.dst v) w) : if Region.wanted o (yielded ops a.tmps) = true then Oper.wp P o a w K Q else K (a.put o.dst undef) w :=
  sq_val hgd (by unfold execOp; simp only [ho]; rw [show ps.map (fun (i, x) => (i, a.eval x)) = vs.toArray by rw [← hx, ← Array.toList_map]]; simp only [Sem.run_bind, hrun, Result.andThen_ok, Sem.run_pure]) h
theorem sq_slice (hgd : Region.wanted o (yielded ops a.tmps) = true) (ty : TypeId) {x : Operand} (ho : o.op = .buildSlice ty 1 #[(0, x)]) {u v : Value} (hx : a.eval x = u) (hrun : (Instr.buildSlice ty 1 #[(0, u)]).run P w = .ok v w') (h : K (a.put o.dst v) w') : if Region.wanted o (yielded ops a.tmps) = true then Oper.wp P o a w K Q else K (a.put o.dst undef) w :=
  sq_val hgd (by
    have e : (#[(0, x)] : Array (Nat × Operand)).map (fun (i, y) => (i, a.eval y)) = #[(0, u)] := by simp [hx]
    unfold execOp; simp only [ho]; rw [e]; simp only [Sem.run_bind, hrun, Result.andThen_ok, Sem.run_pure]) h
theorem sq_slice0 (hgd : Region.wanted o (yielded ops a.tmps) = true) (ty : TypeId) (ho : o.op = .buildSlice ty 0 #[]) {v : Value} (hrun : (Instr.buildSlice ty 0 #[]).run P w = .ok v w') (h : K (a.put o.dst v) w') : if Region.wanted o (yielded ops a.tmps) = true then Oper.wp P o a w K Q else K (a.put o.dst undef) w :=
  sq_val hgd (by
    have e : (#[] : Array (Nat × Operand)).map (fun (i, y) => (i, a.eval y)) = #[] := by simp
    unfold execOp; simp only [ho]; rw [e]; simp only [Sem.run_bind, hrun, Result.andThen_ok, Sem.run_pure]) h
theorem sq_append (hgd : Region.wanted o (yielded ops a.tmps) = true) {s x : Operand} {t ty : TypeId} (ho : o.op = .call { callee := .builtin .append, args := #[s, x], argTypes := #[t, t] }) (hty : o.type = ty) {u1 u2 v : Value} (hs : a.eval s = u1) (hx : a.eval x = u2) (hrun : (Builtin.append_ #[t, t] ty #[u1, u2]).run P w = .ok v w') (h : K (a.put o.dst v) w') : if Region.wanted o (yielded ops a.tmps) = true then Oper.wp P o a w K Q else K (a.put o.dst undef) w :=
  sq_val hgd (by subst hty; simp [execOp, ho, resolve, invoke, builtin, hs, hx, hrun, Result.andThen]) h
end
theorem build_im0 (w : World) : (Instr.buildSlice 26 0 #[]).run Tryd.prog w = .ok (.slice (some ⟨w.heap.size, 0, none⟩) 0 0) (w.alloc (.cells #[] 32)) := by
  obtain ⟨i0, hi, hz0, hz1, hz2⟩ := info_parts infoI
  simp [Instr.buildSlice, run_underlying Tryd.underlying26, sizeOf, typeInfo, hi, Instr.fill, newRow]
  rw [show (Array.range 0) = #[] from rfl, Array.map_empty]
/-- images copied: 'append([]api.Image{}, l...)' -/
theorem app_copy {w : World} {q : Option Addr} {m c : Nat} {l : List Im} (h : MIn w q m l) (hm : m ≤ 3000000) : ∃ q' c' w', (Builtin.append_ #[26, 26] 26 #[.slice (some ⟨w.heap.size, 0, none⟩) 0 0, .slice q m c]).run Tryd.prog (w.alloc (.cells #[] 32)) = .ok (.slice q' l.length c') w' ∧ IOwn w' w.heap.size (.slice q' l.length c') l ∧ Below w.heap.size w w' := by
  obtain ⟨i0, hi0, hz0, hz1, hz2⟩ := info_parts infoI
  have hb := below_alloc w (.cells #[] 32)
  have own0 : (w.alloc (.cells #[] 32)).ownsRow w.heap.size 32 33 (.slice (some ⟨w.heap.size, 0, none⟩) 0 0) 0 [] := World.ownsRow_made w #[] 0 (Nat.le_refl _) (Nat.zero_le _) rfl
  have h65 : (4000000 : Nat) ≤ maxLen := by decide
  have go : ∀ (ad : Addr), q = some ad → ∃ q' c' w', (Builtin.append_ #[26, 26] 26 #[.slice (some ⟨w.heap.size, 0, none⟩) 0 0, .slice q m c]).run Tryd.prog (w.alloc (.cells #[] 32)) = .ok (.slice q' l.length c') w' ∧ IOwn w' w.heap.size (.slice q' l.length c') l ∧ Below w.heap.size w w' := by
    rintro ad rfl
    obtain ⟨v', w', hrun, hown', hgrow, -⟩ := run_append_own (P := Tryd.prog) (w.alloc (.cells #[] 32)) w.heap.size 26 26 32 i0 _ 33 40 Tryd.underlying26 hi0 hz0 hz1 hz2 rfl (by decide) _ 0 [] own0 ad m c (IC l) (by rw [IC_len h.wf, h.len]) (fun j u hu => by
      by_cases h0 : 0 < m
      · obtain ⟨b', o', e, hr⟩ := (h.later hb).cells h0
        cases e
        rw [Addr.add_mid]
        exact hr j u hu
      · have : l = [] := List.length_eq_zero_iff.1 (by rw [h.len]; omega)
        rw [this] at hu; simp [IC] at hu) (IC_ones l) (by omega) (by omega) (by simp)
    rw [Nat.zero_add, List.nil_append] at hown'
    rw [← h.len] at hown'
    obtain ⟨q', c', rfl, -, -, -⟩ := IOwn.in hown' h.wf
    refine ⟨q', c', w', hrun, hown', ?_⟩
    exact ((Below.refl _ w).alloc (Nat.le_refl _) _).grown hgrow (by simp) fun j ej => by simp only [Value.ownBlock, Option.some.injEq] at ej; omega
  by_cases h0 : 0 < m
  · obtain ⟨b, o, e, -⟩ := h.cells h0
    exact go _ e
  · have m0 : m = 0 := by omega
    have l0 : l = [] := List.length_eq_zero_iff.1 (by rw [h.len, m0])
    cases q with
    | none =>
      refine ⟨some ⟨w.heap.size, 0, none⟩, 0, w.alloc (.cells #[] 32), ?_, ?_, hb⟩
      · subst m0; subst l0
        simp [Builtin.append_, run_underlying Tryd.underlying26, sizeOf, typeInfo, hi0, Builtin.lenOf, Builtin.firstCells, storeCells]
      · subst l0; exact own0
    | some ad => exact go ad rfl

theorem sizeR : (Tryd.prog.info? 48).map (·.size) = some 4 := by kernel_rfl
theorem zeroR : (Tryd.prog.info? 48).bind (·.zero) = some (.agg (gcells 0 0 0 (.slice none 0 0)).toArray) := by kernel_rfl
theorem placesR : placesOf Tryd.prog 48 = some plLg := by kernel_rfl
theorem buildR3 (w : World) (t l f : Int) : (Instr.build 48 #[(0, .int .u64 t), (1, .int .u64 l), (2, .int .u64 f)]).run Tryd.prog w = .ok (.agg (gcells t l f (.slice none 0 0)).toArray) w :=
  run_build w 48 _ _ ((built_of 48 _ _ _ placesR zeroR).trans rfl)
theorem buildR1 (w : World) (l : Int) : (Instr.build 48 #[(1, .int .u64 l)]).run Tryd.prog w = .ok (.agg (gcells 0 l 0 (.slice none 0 0)).toArray) w :=
  run_build w 48 _ _ ((built_of 48 _ _ _ placesR zeroR).trans rfl)
theorem allocR (w : World) : (Instr.alloc 48 true (.tuple #[])).run Tryd.prog w = .ok (.pointer (some ⟨w.heap.size, 0, none⟩)) (w.alloc (.cells (gcells 0 0 0 (.slice none 0 0)).toArray 48)) := by
  simp only [Instr.alloc, Sem.run_bind, zv 48 _ zeroR, Result.andThen_ok]
  simp [newVar, newRow, Value.cells]
theorem store_newR (w : World) (t l f : Int) {v : Value} (hv : v.oneCell' = true) : (Instr.storeAt 48 (.pointer (some ⟨w.heap.size, 0, none⟩)) (.agg (gcells t l f v).toArray)).run Tryd.prog (w.alloc (.cells (gcells 0 0 0 (.slice none 0 0)).toArray 48)) = .ok () (w.alloc (.cells (gcells t l f v).toArray 48)) := by
  rw [(LAt.new 48 w (gcells 0 0 0 (.slice none 0 0))).store (ds := gcells t l f v) sizeR rfl (all_oneCell_toArray (gcells_ones hv t l f)), setRow_alloc]
theorem LAt.loadR {w : World} {g : Nat} {t l f : Int} {v : Value} (h : LAt 48 w g (gcells t l f v)) : (Instr.loadAt 48 (.pointer (some ⟨g, 0, none⟩))).run Tryd.prog w = .ok (.agg (gcells t l f v).toArray) w :=
  run_loadAt_mid w g 0 48 (gcells t l f v) _ (LAt.range h) Tryd.underlying48 rfl sizeR
theorem infoX : (Tryd.prog.info? 28).map (fun i => (i.zero, i.size, i.bytes)) = some (some (.agg #[.int .u64 0, .slice none 0 0]), 2, 32) := by kernel_rfl
theorem zeroX : (Tryd.prog.info? 28).bind (·.zero) = some (.agg #[.int .u64 0, .slice none 0 0]) := by kernel_rfl
theorem placesX : placesOf Tryd.prog 28 = some plT := by kernel_rfl
theorem buildX (w : World) (p : Int) (q : Option Addr) (n m : Nat) : (Instr.build 28 #[(0, .int .u64 p), (1, .slice q n m)]).run Tryd.prog w = .ok (.agg #[.int .u64 p, .slice q n m]) w :=
  run_build w 28 _ _ ((built_of 28 _ _ _ placesX zeroX).trans rfl)
theorem build_rtx (w : World) (p : Int) (q : Option Addr) (n m : Nat) : (Instr.buildSlice 22 1 #[(0, .agg #[.int .u64 p, .slice q n m])]).run Tryd.prog w = .ok (.slice (some ⟨w.heap.size, 0, none⟩) 1 1) (w.alloc (.cells #[.int .u64 p, .slice q n m] 28)) := by
  obtain ⟨i0, hi, hz0, hz1, hz2⟩ := info_parts infoX
  refine run_buildSlice w 22 28 1 _ _ i0 _ Tryd.underlying22 hi hz0 (by rw [hz1]; decide) (by rw [hz1]; decide) ?_
  rw [hz1]
  have hA : ∀ A : Array Value, A.size = 2 → Instr.fill (fun i => some (i * 2, 2)) A [(0, .agg #[.int .u64 p, .slice q n m])] = some #[.int .u64 p, .slice q n m] := by
    intro A hA
    have a0 := part_fill 0 [.int .u64 p, .slice q n m] A.toList (by simp; omega)
    simp only [Instr.fill, Value.cells, List.size_toArray, Nat.zero_mul]
    rw [if_neg (by simp [hA])]
    have a0' : (#[Value.int .u64 p, .slice q n m]).zipIdx.foldl (fun cs x => match x with | (c, j) => cs.setIfInBounds (0 + j) c) A = ((A.toList.take 0 ++ [Value.int .u64 p, Value.slice q n m] ++ A.toList.drop (0 + 2))).toArray := a0
    rw [a0', List.drop_eq_nil_of_le (by simp [hA])]
    simp
  exact hA _ (by simp)
/-- a transaction more onto a row of the document's -/
theorem XOwn.app {V : World} {B Bo : Nat} {t l f : Int} {v : Value} {txs : List TX} {vs : List Value} (h : XOwn 28 V B v txs vs) (hlg : LAt 48 V Bo (gcells t l f v)) (hB : B ≤ V.heap.size) (hl : txs.length ≤ 3000000) {p : Int} {q : Option Addr} {k m : Nat} {ims : List Im} (hp : u64 p) (hw : ImsWf ims) (him : IOwn V B (.slice q k m) ims) :
    ∃ q' c' V4, (Builtin.append_ #[22, 22] 22 #[v, .slice (some ⟨V.heap.size, 0, none⟩) 1 1]).run Tryd.prog (V.alloc (.cells #[.int .u64 p, .slice q k m] 28)) = .ok (.slice q' (txs.length + 1) c') V4 ∧ LAt 48 V4 Bo (gcells t l f v) ∧ (∀ {g ty cs}, ty ≠ 28 → LAt ty V g cs → LAt ty V4 g cs) ∧ XOwn 28 (V4.setCell ⟨Bo, 3, none⟩ (.slice q' (txs.length + 1) c')) B (.slice q' (txs.length + 1) c') (txs ++ [⟨p, ims⟩]) (vs ++ [.slice q k m]) ∧ Below B V V4 ∧ (V.alloc (.cells #[.int .u64 p, .slice q k m] 28)).grownBy V4 v.ownBlock := by
  obtain ⟨i0, hi0, hz0, hz1, hz2⟩ := info_parts infoX
  have h65 : (4000000 : Nat) ≤ maxLen := by decide
  obtain ⟨v', V4, hrun, hown', hgrow, -⟩ := run_append_own (P := Tryd.prog) (V.alloc (.cells #[.int .u64 p, .slice q k m] 28)) B 22 22 28 i0 _ 2 32 Tryd.underlying22 hi0 hz0 hz1 hz2 rfl (by decide) v txs.length _ (h.row.alloc _) ⟨V.heap.size, 0, none⟩ 1 1 [.int .u64 p, .slice q k m] rfl (fun j u hu => by
    rw [Addr.add_mid, Nat.zero_add]; exact (LAt.cell (LAt.new 28 V [.int .u64 p, .slice q k m]) j).trans hu) (fun u hu => by
    simp only [List.mem_cons, List.not_mem_nil, or_false] at hu
    rcases hu with rfl | rfl <;> rfl) (by omega) (by omega) (by simp; omega)
  obtain ⟨g', c', rfl⟩ := ownsRow_succ hown'
  have hlg4 : LAt 48 V4 Bo (gcells t l f v) := lat_grown hlg (by decide) h.row hgrow
  have x4 : ∀ (j : Nat) (y : TX) (u : Value), txs[j]? = some y → vs[j]? = some u → IOwn V4 B u y.ims := fun j y u a b =>
    ((h.each j y u a b).alloc _).kept hgrow (own_ne (h.each j y u a b) h.row (by decide))
  have rowo : ∀ {C ty sz n u xs}, ty ≠ 48 → V4.ownsRow C ty sz u n xs → (V4.setCell ⟨Bo, 3, none⟩ (.slice (some ⟨g', 0, none⟩) (txs.length + 1) c')).ownsRow C ty sz u n xs := by
    intro C ty sz n u xs h1 hr
    refine ⟨hr.1, ?_⟩
    rcases hr.2 with hr | ⟨g, cap, cur, e1, e2, e3, e4⟩
    · exact .inl hr
    · have n1 : g ≠ Bo := fun e => by subst e; have := e3.symm.trans hlg4; simp only [Option.some.injEq, Obj.cells.injEq] at this; exact h1 this.2.1
      exact .inr ⟨g, cap, cur, e1, e2, (heap_setCell_other _ ⟨Bo, 3, none⟩ g _ n1).trans e3, e4⟩
  refine ⟨_, c', V4, hrun, hlg4, fun hne hb => lat_grown hb hne h.row hgrow, ?_, ?_, hgrow⟩
  · refine ⟨by rw [List.length_append, List.length_append, h.len]; rfl, ?_, fun j y u a b => ?_, h.wf.snoc ⟨hp, hw⟩⟩
    · rw [List.map_append, List.zip_append (by rw [List.length_map, h.len]), List.length_append]
      show World.ownsRow _ _ _ _ _ _ (TC ((txs.map (·.p)).zip vs ++ [(p, .slice q k m)]))
      rw [TC_snoc]
      exact rowo (by decide) hown'
    · by_cases cj : j < txs.length
      · rw [List.getElem?_append_left cj] at a
        rw [List.getElem?_append_left (by rw [h.len]; exact cj)] at b
        exact rowo (by decide) (x4 j y u a b)
      · have hj : j = txs.length := by
          have := (List.getElem?_eq_some_iff.1 a).1
          simp only [List.length_append, List.length_singleton] at this
          omega
        subst hj
        rw [List.getElem?_append_right (Nat.le_refl _), Nat.sub_self] at a
        rw [← h.len, List.getElem?_append_right (Nat.le_refl _), Nat.sub_self] at b
        cases a; cases b
        exact rowo (by decide) ((him.alloc _).kept hgrow (own_ne him h.row (by decide)))
  · exact ((Below.refl B V).alloc hB _).grown hgrow (by simp; omega) fun j ej => (h.row.lt j ej).1
theorem results_lat1 {fn : Func} {p : Tmp} {ty : TypeId} (h : fn.results = #[.cell p ty]) (tmps : Array Value) (w : World) (g : Nat) (t : TypeId) (cs : List Value) (d : TypeDesc)
    (hp : tmps.getD p undef = .pointer (some ⟨g, 0, none⟩)) (hg : LAt t w g cs) (hu : Tryd.prog.underlying ty = some d) (hd : d.isRow = true) (hi : (Tryd.prog.info? ty).map (·.size) = some cs.length) :
    (results fn tmps).run Tryd.prog w = .ok (.agg cs.toArray) w := results_cell1 h tmps w g t cs d hp hg hu hd hi
end Go.Proofs.YtefnkjajjidfaaaDoor
namespace Go.Proofs.YtefnkjajjidfaaaDoor
open Go.RowKit

set_option maxHeartbeats 4000000 in
set_option maxRecDepth 100000 in
theorem plain_any (t l f : Int) (p : Option Addr) (n c : Nat) (txs : List TX) (w : World) (h : XIn w p n txs) (hwf : TxsWf txs) (hn : n ≤ 100000) (hm : ∀ x ∈ txs, x.ims.length ≤ 100000) :
    Calls Tryd.prog 22 #[.agg (gcells t l f (.slice p n c)).toArray] w fun e w' => ∃ q d vs, e = .returned (.agg (gcells t l f (.slice q n d)).toArray) ∧ XOwn 28 w' w.heap.size (.slice q n d) txs vs ∧ Below w.heap.size w w' := by
  obtain ⟨wa, hwa⟩ : ∃ y, y = w.alloc (.cells (gcells t l f (.slice p n c)).toArray 66) := ⟨_, rfl⟩
  obtain ⟨wb, hwb⟩ : ∃ y, y = wa.alloc (.cells (gcells 0 0 0 (.slice none 0 0)).toArray 48) := ⟨_, rfl⟩
  obtain ⟨wc, hwc⟩ : ∃ y, y = wb.alloc (.cells (gcells t l f (.slice none 0 0)).toArray 48) := ⟨_, rfl⟩
  have ewa := hwa.symm
  have sa : wa.heap.size = w.heap.size + 1 := by rw [hwa]; simp
  have sb : wb.heap.size = w.heap.size + 1 + 1 := by rw [hwb, ← sa]; simp
  have A1 : Hid (_) := allocR wa
  rw [← hwb, sa] at A1
  have U1 : Hid (_) := buildR3 wb t l f
  have A2 : Hid (_) := allocR wb
  have T2 : Hid (_) := store_newR wb t l f (v := .slice none 0 0) rfl
  rw [← hwc, sb] at T2
  rw [sb] at A2
  have bwa : Below w.heap.size w wa := by rw [hwa]; exact below_alloc w _
  have bab : Below wa.heap.size wa wb := by rw [hwb]; exact below_alloc wa _
  have bbc : Below wb.heap.size wb wc := by rw [hwc]; exact below_alloc wb _
  have LA : LAt 66 wb w.heap.size (gcells t l f (.slice p n c)) := by
    refine LAt.later ?_ bab
    rw [hwa]; exact LAt.new 66 w _
  have LAc := LAt.later LA bbc
  have LZ : Hid (LAt 48 wc (w.heap.size + 1) (gcells 0 0 0 (.slice none 0 0))) := by
    refine LAt.later ?_ bbc
    rw [hwb, ← sa]; exact LAt.new 48 wa _
  have LO : Hid (LAt 48 wc (w.heap.size + 1 + 1) (gcells t l f (.slice none 0 0))) := by rw [hwc, ← sb]; exact LAt.new 48 wb _
  have B0 : Hid (Below w.heap.size w wc) := below_then (below_then bwa bab) bbc
  have a0 : wb.cell? ⟨w.heap.size, 0, none⟩ = some (.int .u64 t) := LAt.cell LA 0
  have a1 : wb.cell? ⟨w.heap.size, 1, none⟩ = some (.int .u64 l) := LAt.cell LA 1
  have a2 : wb.cell? ⟨w.heap.size, 2, none⟩ = some (.int .u64 f) := LAt.cell LA 2
  have a3 : wc.cell? ⟨w.heap.size, 3, none⟩ = some (.slice p n c) := LAt.cell LAc 3
  have HX : Hid (XIn w p n txs) := h
  have HW : Hid (TxsWf txs) := hwf
  have HM : Hid (∀ x ∈ txs, x.ims.length ≤ 100000) := hm
  have hlen := h.len
  clear hwa hwb hwc bwa bab bbc LA LAc h hwf hm
  go_enter Tryd.func22, Tryd.ntmps22
  go_wp2_with ((with_reducible refine at_ops ?_); (first | (refine wpList_alloc_is (by rfl) 48 rfl A1.out ?_) | (refine wpList_build_is (vs := [(0, .int .u64 t), (1, .int .u64 l), (2, .int .u64 f)]) (by rfl) 48 rfl (by rfl) U1.out ?_) | (refine wpList_alloc_is (by rfl) 48 rfl A2.out ?_) | (refine wpList_store_is (by rfl) 48 rfl rfl rfl T2.out ?_)); simp only [Act.put, List.setIfInBounds_toArray, List.set_cons_zero, List.set_cons_succ])
  clear A1 U1 A2 T2 a0 a1 a2 a3 ewa
  go_loopw [16] (fun i wr => ∃ k : Nat, k ≤ n ∧ i = .int .i64 k ∧ Hid (∃ v vs, LAt 48 wr (w.heap.size + 1 + 1) (gcells t l f v) ∧ LAt 48 wr (w.heap.size + 1) (gcells 0 0 0 (.slice none 0 0)) ∧ XOwn 28 wr w.heap.size v (txs.take k) vs ∧ Below w.heap.size w wr)) (fun i _ => n - (intOf i).toNat)
  case atStart => exact ⟨0, Nat.zero_le _, rfl, _, [], LO.out, LZ.out, XOwn.nil _ _ _, B0.out⟩
  case round =>
    obtain ⟨k, hk, rfl, HI⟩ := hrel
    clear LO LZ B0
    obtain ⟨v, vs, i1, i2, i3, i4⟩ := HI.out
    clear HI
    by_cases hlt : k < n
    · obtain ⟨x, hxk⟩ : ∃ x, txs[k]? = some x := ⟨_, List.getElem?_eq_getElem (by omega)⟩
      obtain ⟨b, o, rfl, hcell⟩ := (HX.out.later i4).cells (by omega)
      obtain ⟨q2, c2, e0, e1, mi, -, -⟩ := hcell k x hxk
      have hxm := HM.out x (List.mem_of_getElem? hxk)
      have hxw := HW.out x (List.mem_of_getElem? hxk)
      have L17 : Hid (_) := load_tx e0 e1
      have A5 : Hid (_) := allocT wr
      have T5 : Hid (_) := store_newT wr x.p q2 x.ims.length c2
      obtain ⟨w5, hw5⟩ : ∃ y, y = wr.alloc (.cells #[.int .u64 x.p, .slice q2 x.ims.length c2] 33) := ⟨_, rfl⟩
      have l5 : LAt 33 w5 wr.heap.size [.int .u64 x.p, .slice q2 x.ims.length c2] := by rw [hw5]; exact LAt.new 33 wr _
      rw [← hw5] at T5
      have b5 : Below wr.heap.size wr w5 := by rw [hw5]; exact below_alloc wr _
      obtain ⟨B5, hB5⟩ : ∃ B5, B5 = wr.heap.size := ⟨_, rfl⟩
      rw [← hB5] at l5 T5 A5
      have hB5n : w.heap.size + 1 + 1 < B5 := by rw [hB5]; exact i1.lt
      have M5 : Hid (MIn w5 q2 x.ims.length x.ims ∧ LAt 33 w5 B5 [.int .u64 x.p, .slice q2 x.ims.length c2] ∧ LAt 48 w5 (w.heap.size + 1 + 1) (gcells t l f v) ∧ LAt 48 w5 (w.heap.size + 1) (gcells 0 0 0 (.slice none 0 0)) ∧ XOwn 28 w5 w.heap.size v (txs.take k) vs ∧ Below w.heap.size w w5) := ⟨mi.later b5, l5, LAt.later i1 b5, LAt.later i2 b5, i3.later b5, below_then i4 b5⟩
      have HT : Hid (txs.take (k + 1) = txs.take k ++ [x]) := by show _ = _; rw [List.take_add_one, hxk]; rfl
      have hlk : (txs.take k).length = k := by rw [List.length_take]; omega
      clear hcell e0 e1 mi hw5 l5 b5 i1 i2 i3 i4 hB5
      go_wp2_with ((with_reducible refine at_ops ?_); (first | (refine wpList_load_is (by rfl) 33 rfl rfl L17.out ?_) | (refine wpList_alloc_is (by rfl) 33 rfl A5.out ?_) | (refine wpList_store_is (by rfl) 33 rfl rfl rfl T5.out ?_)); simp only [Act.put, List.setIfInBounds_toArray, List.set_cons_zero, List.set_cons_succ])
      clear L17 A5 T5
      have DD : Below w5.heap.size w5 w5.drew := below_drawn 1
      refine wp_region_noPanic ?_
      refine wp_region_last 12 (fun W => W.cell? ⟨w.heap.size + 1 + 1, 3, none⟩ = some v ∧ W.cell? ⟨B5, 0, none⟩ = some (.int .u64 x.p) ∧ W.cell? ⟨B5, 1, none⟩ = some (.slice q2 x.ims.length c2)) (by kernel_rfl) ?_
      have MD : Hid (_) := (⟨M5.out.1.later DD, LAt.later M5.out.2.1 DD, LAt.later M5.out.2.2.1 DD, LAt.later M5.out.2.2.2.1 DD, M5.out.2.2.2.2.1.later DD, below_then M5.out.2.2.2.2.2 DD⟩ : MIn w5.drew q2 x.ims.length x.ims ∧ LAt 33 w5.drew B5 [.int .u64 x.p, .slice q2 x.ims.length c2] ∧ LAt 48 w5.drew (w.heap.size + 1 + 1) (gcells t l f v) ∧ LAt 48 w5.drew (w.heap.size + 1) (gcells 0 0 0 (.slice none 0 0)) ∧ XOwn 28 w5.drew w.heap.size v (txs.take k) vs ∧ Below w.heap.size w w5.drew)
      clear M5 DD
      generalize w5.drew = wd at *
      have HS : Hid (∀ W, Below wd.heap.size wd W → W.cell? ⟨w.heap.size + 1 + 1, 3, none⟩ = some v ∧ W.cell? ⟨B5, 0, none⟩ = some (.int .u64 x.p) ∧ W.cell? ⟨B5, 1, none⟩ = some (.slice q2 x.ims.length c2)) := fun W hW =>
        ⟨LAt.cell (LAt.later MD.out.2.2.1 hW) 3, LAt.cell (LAt.later MD.out.2.1 hW) 0, LAt.cell (LAt.later MD.out.2.1 hW) 1⟩
      have hHeld := HS.out wd (Below.refl _ _)
      obtain ⟨q3, c3, x2, hrun1, own2, bx2⟩ := app_copy (c := c2) MD.out.1 (by omega)
      have AP1 : Hid (_) := hrun1
      have BX2 : Hid (Below wd.heap.size wd x2) := bx2
      have hds := MD.out.2.2.2.2.2.size
      obtain ⟨q4, c4, V4, hrun2, lg4, oth4, xo4, bl4, -⟩ := XOwn.app (MD.out.2.2.2.2.1.later bx2) (LAt.later MD.out.2.2.1 bx2) (by have := bx2.size; omega) (by omega) hxw.p hxw.ims (own_at own2 (fun g hg => Nat.le_trans hds (own2.lt g hg).1) rfl)
      rw [hlk] at hrun2 xo4
      have AP2 : Hid (_) := hrun2
      have HS4 : Hid (V4.cell? ⟨w.heap.size + 1 + 1, 3, none⟩ = some v ∧ V4.cell? ⟨B5, 0, none⟩ = some (.int .u64 x.p) ∧ V4.cell? ⟨B5, 1, none⟩ = some (.slice q2 x.ims.length c2)) :=
        ⟨LAt.cell lg4 3, LAt.cell (oth4 (by decide) (LAt.later MD.out.2.1 bx2)) 0, LAt.cell (oth4 (by decide) (LAt.later MD.out.2.1 bx2)) 1⟩
      have zc4 : Hid (V4.cell? ⟨w.heap.size + 1 + 1, 3, none⟩ = some v ∧ V4.frozen? ⟨w.heap.size + 1 + 1, 3, none⟩ = false) := ⟨LAt.cell lg4 3, LAt.free lg4 3⟩
      have F5 : Hid (∃ v vs, LAt 48 (V4.setCell ⟨w.heap.size + 1 + 1, 3, none⟩ (.slice q4 (k + 1) c4)) (w.heap.size + 1 + 1) (gcells t l f v) ∧ LAt 48 (V4.setCell ⟨w.heap.size + 1 + 1, 3, none⟩ (.slice q4 (k + 1) c4)) (w.heap.size + 1) (gcells 0 0 0 (.slice none 0 0)) ∧ XOwn 28 (V4.setCell ⟨w.heap.size + 1 + 1, 3, none⟩ (.slice q4 (k + 1) c4)) w.heap.size v (txs.take (k + 1)) vs ∧ Below w.heap.size w (V4.setCell ⟨w.heap.size + 1 + 1, 3, none⟩ (.slice q4 (k + 1) c4))) := by
        refine ⟨.slice q4 (k + 1) c4, vs ++ [.slice q3 x.ims.length c3], LAt.set lg4 3 _, LAt.setO (oth4 (by decide) (LAt.later MD.out.2.2.2.1 bx2)) 3 _ (by omega), ?_, ?_⟩
        · rw [HT.out]; exact xo4
        · exact ((below_then MD.out.2.2.2.2.2 bx2).trans bl4).setCell (p := ⟨w.heap.size + 1 + 1, 3, none⟩) (by show w.heap.size ≤ w.heap.size + 1 + 1; omega) _
      have hv1 : ∃ qv cv, v = .slice qv k cv := by obtain ⟨qv, cv, e, -⟩ := XOwn.in MD.out.2.2.2.2.1; rw [hlk] at e; exact ⟨qv, cv, e⟩
      obtain ⟨qv, cv, rfl⟩ := hv1
      clear hrun1 own2 bx2 hrun2 lg4 oth4 xo4 bl4 MD
      refine wpAnyL_take (i := 0) (v := ?v0) (by simp; rfl) (by kernel_rfl) (by kernel_rfl) (by kernel_rfl) (by kernel_rfl) (fun _ _ _ h => h) (Or.inl ⟨by rfl, ?y0⟩) hHeld ?r0
      case y0 => intro w hSw; clear hSw; go_simp; with_reducible rfl
      simp only [Act.put, List.setIfInBounds_toArray, List.set_cons_zero, List.set_cons_succ]
      refine wpAnyL_take (i := 1) (v := ?v1) (by simp; rfl) (by kernel_rfl) (by kernel_rfl) (by kernel_rfl) (by kernel_rfl) (fun _ _ _ h => h) (Or.inl ⟨by rfl, ?y1⟩) hHeld ?r1
      case y1 => intro w hSw; obtain ⟨z1, z2, z3⟩ := hSw; go_simp; with_reducible rfl
      simp only [Act.put, List.setIfInBounds_toArray, List.set_cons_zero, List.set_cons_succ]
      refine wpAnyL_take (i := 2) (v := ?v2) (by simp; rfl) (by kernel_rfl) (by kernel_rfl) (by kernel_rfl) (by kernel_rfl) (fun _ _ _ h => h) (Or.inl ⟨by rfl, ?y2⟩) hHeld ?r2
      case y2 => intro w hSw; clear hSw; go_simp; with_reducible rfl
      simp only [Act.put, List.setIfInBounds_toArray, List.set_cons_zero, List.set_cons_succ]
      refine wpAnyL_take (i := 3) (v := ?v3) (by simp; rfl) (by kernel_rfl) (by kernel_rfl) (by kernel_rfl) (by kernel_rfl) (fun _ _ _ h => h) (Or.inl ⟨by rfl, ?y3⟩) hHeld ?r3
      case y3 => intro w hSw; obtain ⟨z1, z2, z3⟩ := hSw; go_simp; with_reducible rfl
      simp only [Act.put, List.setIfInBounds_toArray, List.set_cons_zero, List.set_cons_succ]
      refine wpAnyL_take (i := 5) (v := ?v5) (by simp; rfl) (by kernel_rfl) (by kernel_rfl) (by kernel_rfl) (by kernel_rfl) (fun _ _ _ h => h) (Or.inl ⟨by rfl, ?y5⟩) hHeld ?r5
      case y5 => intro w hSw; clear hSw; go_simp; with_reducible rfl
      simp only [Act.put, List.setIfInBounds_toArray, List.set_cons_zero, List.set_cons_succ]
      refine wpAnyL_take (i := 6) (v := ?v6) (by simp; rfl) (by kernel_rfl) (by kernel_rfl) (by kernel_rfl) (by kernel_rfl) (fun _ _ _ h => h) (Or.inl ⟨by rfl, ?y6⟩) hHeld ?r6
      case y6 => intro w hSw; obtain ⟨z1, z2, z3⟩ := hSw; go_simp; with_reducible rfl
      simp only [Act.put, List.setIfInBounds_toArray, List.set_cons_zero, List.set_cons_succ]
      refine wpAnyL_ready (rs := [4]) (by kernel_rfl) (by simp) ?_
      refine AllReadyL.cons (by simp; rfl) (fun Kc hKc => ?_) AllReadyL.nil
      refine sq_slice0 (by rfl) 26 rfl (build_im0 wd) ?_
      refine hKc.out _ _ (fun _ => HS.out _ (below_alloc wd _)) ?_
      clear hKc Kc
      simp only [Act.put, List.setIfInBounds_toArray, List.set_cons_zero, List.set_cons_succ]
      refine wpAnyL_ready (rs := [7]) (by kernel_rfl) (by simp) ?_
      refine AllReadyL.cons (by simp; rfl) (fun Kc hKc => ?_) AllReadyL.nil
      refine sq_append (u1 := .slice (some ⟨wd.heap.size, 0, none⟩) 0 0) (u2 := .slice q2 x.ims.length c2) (by rfl) rfl rfl rfl rfl AP1.out ?_
      refine hKc.out _ _ (fun _ => HS.out _ BX2.out) ?_
      clear hKc Kc
      simp only [Act.put, List.setIfInBounds_toArray, List.set_cons_zero, List.set_cons_succ]
      refine wpAnyL_ready (rs := [8]) (by kernel_rfl) (by simp) ?_
      refine AllReadyL.cons (by simp; rfl) (fun Kc hKc => ?_) AllReadyL.nil
      refine sq_build (vs := [(0, .int .u64 x.p), (1, .slice q3 x.ims.length c3)]) (by rfl) 28 rfl (by rfl) (buildX x2 x.p q3 x.ims.length c3) ?_
      refine hKc.out _ _ (fun _ => HS.out _ BX2.out) ?_
      clear hKc Kc
      simp only [Act.put, List.setIfInBounds_toArray, List.set_cons_zero, List.set_cons_succ]
      refine wpAnyL_ready (rs := [9]) (by kernel_rfl) (by simp) ?_
      refine AllReadyL.cons (by simp; rfl) (fun Kc hKc => ?_) AllReadyL.nil
      refine sq_slice (u := .agg #[.int .u64 x.p, .slice q3 x.ims.length c3]) (by rfl) 22 rfl rfl (build_rtx x2 x.p q3 x.ims.length c3) ?_
      refine hKc.out _ _ (fun _ => HS.out _ (below_then BX2.out (below_alloc x2 _))) ?_
      clear hKc Kc
      simp only [Act.put, List.setIfInBounds_toArray, List.set_cons_zero, List.set_cons_succ]
      refine wpAnyL_ready (rs := [10]) (by kernel_rfl) (by simp) ?_
      refine AllReadyL.cons (by simp; rfl) (fun Kc hKc => ?_) AllReadyL.nil
      refine sq_append (u1 := .slice qv k cv) (u2 := .slice (some ⟨x2.heap.size, 0, none⟩) 1 1) (by rfl) rfl rfl rfl rfl AP2.out ?_
      refine hKc.out _ _ (fun _ => HS4.out) ?_
      clear hKc Kc
      simp only [Act.put, List.setIfInBounds_toArray, List.set_cons_zero, List.set_cons_succ]
      refine wpAnyL_ready (rs := [11]) (by kernel_rfl) (by simp) ?_
      refine AllReadyL.cons (by simp; rfl) (fun Kc hKc => ?_) AllReadyL.nil
      go_simp
      refine hKc.out _ _ (fun _ => HS4.out) ?_
      clear hKc Kc
      refine wpAnyL_ready (rs := [12]) (by kernel_rfl) (by simp) ?_
      refine AllReadyL.cons (by simp; rfl) (fun Kc hKc => ?_) AllReadyL.nil
      have zc := zc4.out.1
      have zf := zc4.out.2
      go_simp
      refine hKc.out _ _ (fun h => absurd rfl h) ?_
      clear hKc Kc zc zf
      refine wpAnyL_done (by kernel_rfl) (NoPanic.normal ?_) _
      clear hHeld HS HS4 AP1 AP2 BX2 zc4
      go_wp2_with fail
      go_roundw
      case rel => exact ⟨k + 1, by omega, by go_num, F5.out⟩
      case measure => simp [intOf]; omega
    · obtain rfl : n = k := by omega
      rw [← hlen, List.take_length] at i3
      obtain ⟨qv, cv, rfl, -⟩ := XOwn.in i3
      have LL : Hid (_) := LAt.loadR i1
      have TL : Hid (_) := LAt.store (ds := gcells t l f (.slice qv txs.length cv)) i2 sizeR rfl (all_oneCell_toArray (gcells_ones rfl t l f))
      have F6 : Hid (LAt 48 (wr.setRow (w.heap.size + 1) (gcells t l f (.slice qv txs.length cv)).toArray) (w.heap.size + 1) (gcells t l f (.slice qv txs.length cv))) := LAt.stored i2 _
      have G6 : Hid (XOwn 28 (wr.setRow (w.heap.size + 1) (gcells t l f (.slice qv txs.length cv)).toArray) w.heap.size (.slice qv txs.length cv) txs vs ∧ Below w.heap.size w (wr.setRow (w.heap.size + 1) (gcells t l f (.slice qv txs.length cv)).toArray)) := by
        refine ⟨i3.kept (grownBy_setRow wr _ _) (.inr (lat_not_row i2 (by decide) i3.row)) fun u hu => ?_, below_setRow i4 (Nat.le_succ _) _⟩
        obtain ⟨j, hj, rfl⟩ := List.getElem_of_mem hu
        have hj' : j < txs.length := by rw [← i3.len]; exact hj
        exact .inr (lat_not_row i2 (by decide) (i3.each j txs[j] vs[j] (List.getElem?_eq_getElem hj') (List.getElem?_eq_getElem hj)))
      clear i1 i2 i3 i4
      go_wp2_with ((with_reducible refine at_ops ?_); (first | (refine wpList_load_is (by rfl) 48 rfl rfl LL.out ?_) | (refine wpList_store_is (by rfl) 48 rfl rfl rfl TL.out ?_)); simp only [Act.put, List.setIfInBounds_toArray, List.set_cons_zero, List.set_cons_succ])
      refine bodyPost_ret (results_lat1 Tryd.results22 _ _ (w.heap.size + 1) 48 _ _ (by rfl) F6.out Tryd.underlying48 rfl sizeR) rfl ?_
      rw [hlen] at G6 ⊢
      exact ⟨qv, cv, vs, rfl, G6.out.1, G6.out.2⟩
end Go.Proofs.YtefnkjajjidfaaaDoor
namespace Go.Proofs.YtefnkjajjidfaaaDoor
open Go.RowKit


/-- a small configuration -/
def top10 (b l : Int) : Int := if l - 1 < b then l - 1 else b
def cfgS (s : Sup) : Sup := ⟨restS s.bl 6, 1 + restS s.lc 12, restS s.mr (top10 (restS s.bl 6) (1 + restS s.lc 12)), restS s.hi (1 + restS s.lc 12), restS s.cl 8, 0, 0⟩
theorem cfgS_bd (s : Sup) : (1 ≤ restS s.bl 6 ∧ restS s.bl 6 ≤ 6) ∧ (1 ≤ restS s.lc 12 ∧ restS s.lc 12 ≤ 12) ∧ 1 ≤ top10 (restS s.bl 6) (1 + restS s.lc 12) ∧ top10 (restS s.bl 6) (1 + restS s.lc 12) ≤ restS s.bl 6 ∧ top10 (restS s.bl 6) (1 + restS s.lc 12) ≤ restS s.lc 12 := by
  have h1 := restS_bd s.bl 6 (by omega)
  have h2 := restS_bd s.lc 12 (by omega)
  refine ⟨h1, h2, ?_⟩
  unfold top10; split <;> omega
theorem cfgS_may (s : Sup) : MayC (cfgS s) := by
  obtain ⟨h1, h2, h3, h4, h5⟩ := cfgS_bd s
  have h6 := restS_bd s.mr _ h3
  have h7 := restS_bd s.hi (1 + restS s.lc 12) (by omega)
  have h8 := restS_bd s.cl 8 (by omega)
  unfold cfgS
  refine ⟨⟨?_, ?_⟩, ⟨?_, ?_⟩, ⟨?_, ?_, ?_, ?_⟩, ⟨?_, ?_⟩, ⟨?_, ?_⟩⟩ <;> dsimp only <;> omega
theorem cfgS_small (s : Sup) : (cfgS s).lc ≤ 13 ∧ (cfgS s).bl ≤ 6 := by
  obtain ⟨h1, h2, -⟩ := cfgS_bd s
  exact ⟨by show 1 + restS s.lc 12 ≤ 13; omega, h1.2⟩
set_option maxHeartbeats 1000000 in
set_option maxRecDepth 100000 in
theorem cin_any (n m : Int) (hm : 1 ≤ m) (hm2 : m ≤ 64) (w : World) : Calls Tryd.prog 35 #[.int .i64 n, .int .i64 m] w fun e w' => e = .returned (.int .i64 (restS n m)) ∧ w = w' := by
  have h1 := Int.tmod_lt_of_pos n (show 0 < m by omega)
  have h2 := Int.lt_tmod_of_pos n (show 0 < m by omega)
  have hb := restS_bd n m hm
  have hm0 : ¬ m = 0 := by omega
  have hm1 : m ≠ -1 := by omega
  unfold restS at hb ⊢
  obtain ⟨r, hr⟩ : ∃ r, n.tmod m = r := ⟨_, rfl⟩
  rw [hr] at h1 h2 hb ⊢
  obtain ⟨y, hy⟩ : ∃ y, (r + m).tmod m = y := ⟨_, rfl⟩
  rw [hy] at hb ⊢
  go_enter Tryd.func35, Tryd.ntmps35
  go_wp2
  go_ret
  exact ⟨rfl, rfl⟩
set_option maxHeartbeats 2000000 in
set_option maxRecDepth 100000 in
theorem config10_any (s : Sup) (w : World) : Calls Tryd.prog 12 #[.agg (ccells s).toArray] w fun e w' => e = .returned (.agg (ccells (cfgS s)).toArray) ∧ Below w.heap.size w w' := by
  obtain ⟨⟨b1, b2⟩, ⟨l1, l2⟩, t1, t2, t3⟩ := cfgS_bd s
  have hi1 := restS_bd s.hi (1 + restS s.lc 12) (by omega)
  have ht : (if 1 + restS s.lc 12 - 1 < restS s.bl 6 then 1 + restS s.lc 12 - 1 else restS s.bl 6) = top10 (restS s.bl 6) (1 + restS s.lc 12) := rfl
  obtain ⟨wa, hwa⟩ : ∃ y, y = w.alloc (.cells (ccells s).toArray 39) := ⟨_, rfl⟩
  obtain ⟨w0, hw0⟩ : ∃ y, y = wa.alloc (.cells (ccells sup0).toArray 39) := ⟨_, rfl⟩
  have ewa := hwa.symm
  have sa : wa.heap.size = w.heap.size + 1 := by rw [hwa]; simp
  have A1 : Hid (_) := alloc23 wa
  rw [← hw0, sa] at A1
  have B0 : Below w.heap.size w w0 := by rw [hw0]; exact below_then (by rw [hwa]; exact below_alloc w _) (below_alloc wa _)
  have C0 : CAt w0 w.heap.size s := by
    rw [hw0]
    refine LAt.later ?_ (below_alloc wa _)
    rw [hwa]; exact LAt.new 39 w _
  have Z0 : CAt w0 (w.heap.size + 1) sup0 := by rw [hw0, ← sa]; exact LAt.new 39 wa _
  obtain ⟨bl, hbl⟩ : ∃ x, x = restS s.bl 6 := ⟨_, rfl⟩
  obtain ⟨lr, hlr⟩ : ∃ x, x = restS s.lc 12 := ⟨_, rfl⟩
  obtain ⟨mr, hmr⟩ : ∃ x, x = restS s.mr (top10 bl (1 + lr)) := ⟨_, rfl⟩
  obtain ⟨hi, hhi⟩ : ∃ x, x = restS s.hi (1 + lr) := ⟨_, rfl⟩
  obtain ⟨cl, hcl⟩ : ∃ x, x = restS s.cl 8 := ⟨_, rfl⟩
  obtain ⟨tp, htp⟩ : ∃ x, x = top10 bl (1 + lr) := ⟨_, rfl⟩
  have HC : Hid (cfgS s = ⟨bl, 1 + lr, mr, hi, cl, 0, 0⟩) := by show _ = _; unfold cfgS; rw [hmr, hhi, hcl, hbl, hlr]
  rw [← hbl, ← hlr] at ht
  rw [← hbl] at b1 b2 t1 t2 t3
  rw [← hlr] at l1 l2 t1 t2 t3 hi1
  rw [← htp] at ht t1 t2 t3 hmr
  have D1 : CAt (w0.setCell ⟨w.heap.size, 0, none⟩ (.int .i64 bl)) w.heap.size ⟨bl, s.lc, s.mr, s.hi, s.cl, 0, 0⟩ := LAt.set C0 0 _
  have Z1 : CAt (w0.setCell ⟨w.heap.size, 0, none⟩ (.int .i64 bl)) (w.heap.size + 1) sup0 := LAt.setO Z0 0 _ (by omega)
  have B1 : Below w.heap.size w (w0.setCell ⟨w.heap.size, 0, none⟩ (.int .i64 bl)) := B0.setCell (p := ⟨w.heap.size, 0, none⟩) (Nat.le_refl _) _
  obtain ⟨w1, e1⟩ : ∃ y, w0.setCell ⟨w.heap.size, 0, none⟩ (.int .i64 bl) = y := ⟨_, rfl⟩
  rw [e1] at D1 Z1 B1
  have D2 : CAt (w1.setCell ⟨w.heap.size, 1, none⟩ (.int .i64 (1 + lr))) w.heap.size ⟨bl, 1 + lr, s.mr, s.hi, s.cl, 0, 0⟩ := LAt.set D1 1 _
  have Z2 : CAt (w1.setCell ⟨w.heap.size, 1, none⟩ (.int .i64 (1 + lr))) (w.heap.size + 1) sup0 := LAt.setO Z1 1 _ (by omega)
  have B2 : Below w.heap.size w (w1.setCell ⟨w.heap.size, 1, none⟩ (.int .i64 (1 + lr))) := B1.setCell (p := ⟨w.heap.size, 1, none⟩) (Nat.le_refl _) _
  obtain ⟨w2, e2⟩ : ∃ y, w1.setCell ⟨w.heap.size, 1, none⟩ (.int .i64 (1 + lr)) = y := ⟨_, rfl⟩
  rw [e2] at D2 Z2 B2
  have D3 : CAt (w2.setCell ⟨w.heap.size, 2, none⟩ (.int .i64 mr)) w.heap.size ⟨bl, 1 + lr, mr, s.hi, s.cl, 0, 0⟩ := LAt.set D2 2 _
  have Z3 : CAt (w2.setCell ⟨w.heap.size, 2, none⟩ (.int .i64 mr)) (w.heap.size + 1) sup0 := LAt.setO Z2 2 _ (by omega)
  have B3 : Below w.heap.size w (w2.setCell ⟨w.heap.size, 2, none⟩ (.int .i64 mr)) := B2.setCell (p := ⟨w.heap.size, 2, none⟩) (Nat.le_refl _) _
  obtain ⟨w3, e3⟩ : ∃ y, w2.setCell ⟨w.heap.size, 2, none⟩ (.int .i64 mr) = y := ⟨_, rfl⟩
  rw [e3] at D3 Z3 B3
  have D4 : CAt (w3.setCell ⟨w.heap.size, 3, none⟩ (.int .i64 hi)) w.heap.size ⟨bl, 1 + lr, mr, hi, s.cl, 0, 0⟩ := LAt.set D3 3 _
  have Z4 : CAt (w3.setCell ⟨w.heap.size, 3, none⟩ (.int .i64 hi)) (w.heap.size + 1) sup0 := LAt.setO Z3 3 _ (by omega)
  have B4 : Below w.heap.size w (w3.setCell ⟨w.heap.size, 3, none⟩ (.int .i64 hi)) := B3.setCell (p := ⟨w.heap.size, 3, none⟩) (Nat.le_refl _) _
  obtain ⟨w4, e4⟩ : ∃ y, w3.setCell ⟨w.heap.size, 3, none⟩ (.int .i64 hi) = y := ⟨_, rfl⟩
  rw [e4] at D4 Z4 B4
  have D5 : CAt (w4.setCell ⟨w.heap.size, 4, none⟩ (.int .i64 cl)) w.heap.size ⟨bl, 1 + lr, mr, hi, cl, 0, 0⟩ := LAt.set D4 4 _
  have Z5 : CAt (w4.setCell ⟨w.heap.size, 4, none⟩ (.int .i64 cl)) (w.heap.size + 1) sup0 := LAt.setO Z4 4 _ (by omega)
  have B5 : Below w.heap.size w (w4.setCell ⟨w.heap.size, 4, none⟩ (.int .i64 cl)) := B4.setCell (p := ⟨w.heap.size, 4, none⟩) (Nat.le_refl _) _
  obtain ⟨w5, e5⟩ : ∃ y, w4.setCell ⟨w.heap.size, 4, none⟩ (.int .i64 cl) = y := ⟨_, rfl⟩
  rw [e5] at D5 Z5 B5
  have L5 : Hid (_) := CAt.load23 D5
  have T5 : Hid (_) := LAt.store (ds := ccells ⟨bl, 1 + lr, mr, hi, cl, 0, 0⟩) Z5 size23 rfl (ccells_all _)
  have F5 : Hid (LAt 39 (w5.setRow (w.heap.size + 1) (ccells ⟨bl, 1 + lr, mr, hi, cl, 0, 0⟩).toArray) (w.heap.size + 1) (ccells ⟨bl, 1 + lr, mr, hi, cl, 0, 0⟩)) := LAt.stored Z5 _
  have G5 : Hid (Below w.heap.size w (w5.setRow (w.heap.size + 1) (ccells ⟨bl, 1 + lr, mr, hi, cl, 0, 0⟩).toArray)) := below_setRow B5 (Nat.le_succ _) _
  have x00 := CAt.c0 C0
  have y00 := LAt.free C0 0
  have x11 := CAt.c1 D1
  have y11 := LAt.free D1 1
  have x20 := CAt.c0 D2
  have x21 := CAt.c1 D2
  have x22 := CAt.c2 D2
  have y22 := LAt.free D2 2
  have x31 := CAt.c1 D3
  have x33 := CAt.c3 D3
  have y33 := LAt.free D3 3
  have x44 := CAt.c4 D4
  have y44 := LAt.free D4 4
  dsimp only at x00 x11 x20 x21 x22 x31 x33 x44
  have HTp : Hid (min bl (1 + lr - 1) = tp) := by
    show _ = _
    rw [← ht, Int.min_def]; split <;> split <;> omega
  clear ht
  have HE : Hid (restS s.bl 6 = bl ∧ restS s.lc 12 = lr ∧ restS s.mr tp = mr ∧ restS s.hi (1 + lr) = hi ∧ restS s.cl 8 = cl) := ⟨hbl.symm, hlr.symm, hmr.symm, hhi.symm, hcl.symm⟩
  have w1k : IntKind.i64.wrap (1 + lr) = 1 + lr := by rw [IntKind.wrap_i64]; omega
  have w2k : IntKind.i64.wrap (1 + lr - 1) = 1 + lr - 1 := by rw [IntKind.wrap_i64]; omega
  rw [HC.out]
  clear hwa hw0 B0 C0 Z0 D1 Z1 B1 D2 Z2 B2 D3 Z3 B3 D4 Z4 B4 D5 Z5 B5 hbl hlr hmr hhi hcl htp HC
  go_enter Tryd.func12, Tryd.ntmps12
  go_wp2_with ((with_reducible refine at_ops ?_); (refine wpList_alloc_is (by rfl) 39 rfl A1.out ?_); simp only [Act.put, List.setIfInBounds_toArray, List.set_cons_zero, List.set_cons_succ])
  refine (cin_any s.bl 6 (by omega) (by omega) _).mono ?_
  rintro e wn ⟨rfl, rfl⟩
  rw [HE.out.1]
  go_wp2_with fail
  refine (cin_any s.lc 12 (by omega) (by omega) _).mono ?_
  rintro e wn ⟨rfl, rfl⟩
  rw [HE.out.2.1]
  go_wp2_with fail
  rw [HTp.out]
  refine (cin_any s.mr tp (by omega) (by omega) _).mono ?_
  rintro e wn ⟨rfl, rfl⟩
  rw [HE.out.2.2.1]
  go_wp2_with fail
  refine (cin_any s.hi (1 + lr) (by omega) (by omega) _).mono ?_
  rintro e wn ⟨rfl, rfl⟩
  rw [HE.out.2.2.2.1]
  go_wp2_with fail
  refine (cin_any s.cl 8 (by omega) (by omega) _).mono ?_
  rintro e wn ⟨rfl, rfl⟩
  rw [HE.out.2.2.2.2]
  go_wp2_with ((with_reducible refine at_ops ?_); (first | (refine wpList_load_is (by rfl) 39 rfl rfl L5.out ?_) | (refine wpList_store_is (by rfl) 39 rfl rfl rfl T5.out ?_)); simp only [Act.put, List.setIfInBounds_toArray, List.set_cons_zero, List.set_cons_succ])
  exact bodyPost_ret (results_cell1 Tryd.results12 _ _ (w.heap.size + 1) 39 _ _ (by rfl) F5.out Tryd.underlying39 rfl size23) rfl ⟨rfl, G5.out⟩
end Go.Proofs.YtefnkjajjidfaaaDoor
namespace Go.Proofs.YtefnkjajjidfaaaDoor
open Go.RowKit


theorem LB.side {V V' : World} {B L p : Nat} {d : List Int} {ws : List Wr} {g : Lg} (h : LB V B L p d ws g) {T : Nat → Prop} (hk : Kept T V V') (hT : ∀ k, T k → k < V.heap.size → ∃ cs t f, ¬ Ours t ∧ V.heap[k]? = some (.cells cs t f)) : LB V' B L p d ws g :=
  (h.typed.kept (hk.mono (T := fun k => T k ∧ k < V.heap.size) fun k hl hT => ⟨hT, hl⟩) (fun k s t => by
    obtain ⟨cs, t', f, ho, hc⟩ := s.2
    obtain ⟨cs2, t2, f2, ho2, hc2⟩ := hT k t.1 t.2
    rw [hc] at hc2
    cases hc2
    exact ho2 ho)).mono fun k _ s => s.1
theorem own_kt {B : Nat} {V V' : World} (hk : KT B V V') {C : Nat} {e : TypeId} {sz : Nat} {v : Value} {n : Nat} {xs : List Value} (he : ¬ Ours e) (h : V.ownsRow C e sz v n xs) : V'.ownsRow C e sz v n xs := by
  refine ⟨h.1, ?_⟩
  rcases h.2 with h | ⟨g, cap, cur, h1, h2, h3, h4⟩
  · exact .inl h
  · exact .inr ⟨g, cap, cur, h1, h2, hk.other g _ _ _ he h3, h4⟩
theorem lat_kt {B : Nat} {V V' : World} (hk : KT B V V') {t : TypeId} {g : Nat} {cs : List Value} (he : ¬ Ours t) (h : LAt t V g cs) : LAt t V' g cs := hk.other g _ _ _ he h
theorem kt_size {B : Nat} {V V' : World} (hk : KT B V V') : V.heap.size ≤ V'.heap.size := hk.low.size
/-- a story's cells -/
def stc (c : Sup) (ps : Option Addr) (n cs : Nat) (sd : Int) (op : Bool) (pl : Option Addr) (m cl : Nat) : List Value := ccells c ++ [.slice ps n cs, .int .u8 sd, .bool op, .slice pl m cl]
structure TS (w W : World) (Bs Br Bc Bw B L p : Nat) (stl : List Value) (c : Sup) (g : Lg) (ws : List Wr) (all : List R.Rec) (s : Sc) (v : Value) (vs : List Value) : Prop where
  st : LAt 43 W Bs stl
  rs : LAt 48 W Br (gcells 0 0 0 (.slice none 0 0))
  cf : CAt W Bc c
  wt : LAt 48 W Bw (gcells 0 1 s.fin v)
  tx : XOwn 28 W w.heap.size v s.txs vs
  lb : LB W B L p (newS c) ws g
  sty : Sty c g ws all s
  wl : ws.length = all.length
  low : Below w.heap.size w W
  b0 : w.heap.size ≤ B
  r0 : w.heap.size ≤ Br
  w0 : w.heap.size ≤ Bw
  ne : Br ≠ Bw
theorem foldS_len {mr : Int} : ∀ (l : List R.Rec) (p : Int) (s s' : Sc), foldS mr l p s = some s' → s'.txs.length ≤ s.txs.length + l.length
  | [], _, s, s', h => by obtain rfl : s = s' := Option.some.inj h; simp
  | r :: l, p, s, s', h => by
    have h' : (scStep mr s p r).bind (fun s1 => foldS mr l (p + 1) s1) = some s' := h
    cases e : scStep mr s p r with
    | none => rw [e] at h'; cases h'
    | some s1 =>
      rw [e] at h'
      have ih := foldS_len l (p + 1) s1 s' h'
      have h1 : s1.txs.length ≤ s.txs.length + 1 := by
        by_cases c1 : r.kind = 1 ∧ Folls s.come r.block mr
        · rw [scStep_img c1] at e; cases e; exact Nat.le_succ _
        · by_cases c2 : r.kind = 2 ∧ r.images = s.come.length
          · rw [scStep_com c2] at e; cases e; simp
          · rw [scStep_no c1 c2] at e; cases e
      simp only [List.length_cons]; omega
section
variable {w V : World} {Bs Br Bc Bw B L p : Nat} {stl : List Value} {c : Sup} {g : Lg} {ws : List Wr} {all : List R.Rec} {s : Sc} {v : Value} {vs : List Value}
theorem TS.later (h : TS w V Bs Br Bc Bw B L p stl c g ws all s v vs) {V' : World} (hb : Below V.heap.size V V') : TS w V' Bs Br Bc Bw B L p stl c g ws all s v vs :=
  ⟨LAt.later h.st hb, LAt.later h.rs hb, LAt.later h.cf hb, LAt.later h.wt hb, h.tx.later hb, LD.later h.lb hb, h.sty, h.wl, below_then h.low hb, h.b0, h.r0, h.w0, h.ne⟩
theorem TS.fin_le (h : TS w V Bs Br Bc Bw B L p stl c g ws all s v vs) : ws.length ≤ 64 := by
  have := h.sty.fin_is; have := h.sty.mc.2.1; have := h.wl; omega
theorem TS.txs_le (h : TS w V Bs Br Bc Bw B L p stl c g ws all s v vs) : s.txs.length ≤ 64 := by
  have h1 := foldS_len all 0 ⟨[], 0, []⟩ s h.sty.fold
  have hl := h.fin_le; have := h.wl
  simp only [List.length_nil] at h1
  omega
theorem TS.xown_kt (h : TS w V Bs Br Bc Bw B L p stl c g ws all s v vs) {V' : World} (hk : KT B V V') : XOwn 28 V' w.heap.size v s.txs vs :=
  ⟨h.tx.len, own_kt hk (by decide) h.tx.row, fun k t u a b => own_kt hk (by decide) (h.tx.each k t u a b), h.tx.wf⟩
/-- an image is written -/
theorem TS.img (h : TS w V Bs Br Bc Bw B L p stl c g ws all s v vs) {b : Int} (h0 : imgS g b = 0) {x : List Int} (hv : x.length = 32) (hvb : Bytes x) {V' : World} (hl : LB V' B L p (newS c) (ws ++ [⟨(secN g g.fin).toNat, R.encS (imgR g b x)⟩]) (imgG g b)) (hk : KT B V V') :
    TS w V' Bs Br Bc Bw B L p stl c (imgG g b) (ws ++ [⟨(secN g g.fin).toNat, R.encS (imgR g b x)⟩]) (all ++ [imgR g b x]) ⟨s.txs, s.fin, s.come ++ [⟨b, x⟩]⟩ v vs :=
  ⟨lat_kt hk (by decide) h.st, lat_kt hk (by decide) h.rs, lat_kt hk (by decide) h.cf, lat_kt hk (by decide) h.wt, h.xown_kt hk, hl, h.sty.img h0 hv hvb, by rw [List.length_append, List.length_append, h.wl]; rfl, h.low.trans (hk.low.mono h.b0), h.b0, h.r0, h.w0, h.ne⟩
/-- a commit is written, and wanted -/
theorem TS.com (h : TS w V Bs Br Bc Bw B L p stl c g ws all s v vs) (h0 : moreS g = 0) {V' : World} (hl : LB V' B L p (newS c) (ws ++ [⟨(secN g g.fin).toNat, R.encS (comR g)⟩]) (comG g)) (hk : KT B V V') {q : Option Addr} {k m : Nat} (hcw : ImsWf s.come) (him : IOwn V' w.heap.size (.slice q k m) s.come) :
    ∃ q' c' V4, (Builtin.append_ #[22, 22] 22 #[v, .slice (some ⟨V'.heap.size, 0, none⟩) 1 1]).run Tryd.prog (V'.alloc (.cells #[.int .u64 g.fin, .slice q k m] 28)) = .ok (.slice q' (s.txs.length + 1) c') V4 ∧ LAt 48 V4 Bw (gcells 0 1 s.fin v) ∧
      TS w ((V4.setCell ⟨Bw, 3, none⟩ (.slice q' (s.txs.length + 1) c')).setCell ⟨Bw, 2, none⟩ (.int .u64 (g.fin + 1))) Bs Br Bc Bw B L p stl c (comG g) (ws ++ [⟨(secN g g.fin).toNat, R.encS (comR g)⟩]) (all ++ [comR g]) ⟨s.txs ++ [⟨g.fin, s.come⟩], g.fin + 1, []⟩ (.slice q' (s.txs.length + 1) c') (vs ++ [.slice q k m]) := by
  have hsz := kt_size hk
  have hlow := h.low.size
  have hf := h.sty.ok.fM
  have hf0 : 0 ≤ g.fin := by have := h.sty.ok.t0; have := h.sty.ok.tm; have := h.sty.ok.mf; omega
  obtain ⟨q', c', V4, hrun, lg4, oth4, xo4, bl4, gr4⟩ := XOwn.app (h.xown_kt hk) (lat_kt hk (by decide) h.wt) (by omega) (by have := h.txs_le; omega) (p := g.fin) ⟨hf0, by omega⟩ hcw him
  have hbw : w.heap.size ≤ Bw := h.w0
  have k1 : Kept (fun k => k = Bw ∨ v.ownBlock = some k) V' ((V4.setCell ⟨Bw, 3, none⟩ (.slice q' (s.txs.length + 1) c')).setCell ⟨Bw, 2, none⟩ (.int .u64 (g.fin + 1))) :=
    ((((Kept.refl _ V').alloc _).grown gr4 fun k hk' _ => .inr hk').setCell (p := ⟨Bw, 3, none⟩) (fun _ => .inl rfl) _).setCell (p := ⟨Bw, 2, none⟩) (fun _ => .inl rfl) _
  refine ⟨q', c', V4, hrun, lg4, ?_, ?_, ?_, ?_, ?_, ?_, h.sty.com h0, by rw [List.length_append, List.length_append, h.wl]; rfl, ?_, h.b0, h.r0, h.w0, h.ne⟩
  · have a := oth4 (by decide) (lat_kt hk (by decide) h.st)
    have ne : Bs ≠ Bw := fun e => by have := h.st; rw [e] at this; have := this.symm.trans h.wt; simp only [Option.some.injEq, Obj.cells.injEq] at this; exact absurd this.2.1 (by decide)
    exact LAt.setO (LAt.setO a 3 _ ne) 2 _ ne
  · have a := oth4 (by decide) (lat_kt hk (by decide) h.rs)
    exact LAt.setO (LAt.setO a 3 _ h.ne) 2 _ h.ne
  · have a := oth4 (by decide) (lat_kt hk (by decide) h.cf)
    have ne : Bc ≠ Bw := fun e => by have := h.cf; rw [e] at this; have := this.symm.trans h.wt; simp only [Option.some.injEq, Obj.cells.injEq] at this; exact absurd this.2.1 (by decide)
    exact LAt.setO (LAt.setO a 3 _ ne) 2 _ ne
  · exact LAt.set (LAt.set lg4 3 _) 2 _
  · have lg5 : LAt 48 (V4.setCell ⟨Bw, 3, none⟩ (.slice q' (s.txs.length + 1) c')) Bw (gcells 0 1 s.fin (.slice q' (s.txs.length + 1) c')) := LAt.set lg4 3 _
    refine xo4.kept (row := some Bw) ⟨rfl, rfl, rfl, by simp, fun k _ hk => heap_setCell_other _ ⟨Bw, 2, none⟩ k _ (fun e => hk (by rw [e]))⟩ (.inr (lat_not_row lg5 (by decide) xo4.row)) fun u hu => ?_
    obtain ⟨j, hj, rfl⟩ := List.getElem_of_mem hu
    have hj' : j < (s.txs ++ [(⟨g.fin, s.come⟩ : TX)]).length := by rw [← xo4.len]; exact hj
    exact .inr (lat_not_row lg5 (by decide) (xo4.each j _ _ (List.getElem?_eq_getElem hj') (List.getElem?_eq_getElem hj)))
  · refine hl.side k1 fun k hk' _ => ?_
    rcases hk' with rfl | hk'
    · exact ⟨_, _, _, by decide, lat_kt hk (by decide) h.wt⟩
    · rcases (h.xown_kt hk).row.2 with ⟨e, _⟩ | ⟨g', cap', cur', e, _, e3, _⟩
      · rw [e] at hk'; cases hk'
      · rw [e] at hk'
        simp only [Value.ownBlock, Option.some.injEq] at hk'
        subst hk'
        exact ⟨_, _, _, by decide, e3⟩
  · exact (((h.low.trans (hk.low.mono h.b0)).trans bl4).setCell (p := ⟨Bw, 3, none⟩) hbw _).setCell (p := ⟨Bw, 2, none⟩) hbw _
end
end Go.Proofs.YtefnkjajjidfaaaDoor
