/-
  Layer 16: the document's Same.
-/
import Derived.Test.YthgkdpniaednaaaPf
namespace Go.Proofs.Ythgkdpniaednaaa
open Go.RowKit

open B (I64)
set_option maxHeartbeats 2000000 in
set_option maxRecDepth 100000 in
theorem sameM_eq (p q : Option Addr) (n c d : Nat) (l : List Im) (w : World) (h : MIn w p n l) (k : MIn w q n l) (hbig : n ≤ 140737488355328) :
    Calls Try.prog 13 #[.slice p n c, .slice q n d] w fun e w' => e = .returned (.bool true) ∧ Below w.heap.size w w' := by
  have HP : Hid (MIn w p n l) := h
  have HQ : Hid (MIn w q n l) := k
  have e1 : (((n : Nat) : Int) != (n : Int)) = false := by simp
  clear h k
  go_enter Try.func13, Try.ntmps13
  go_wp2_with fail
  clear e1
  go_loopw [5] (fun i wr => ∃ j : Nat, j ≤ n ∧ i = .int .i64 j ∧ Hid (Below w.heap.size w wr)) (fun i _ => n - (intOf i).toNat)
  case atStart => exact ⟨0, Nat.zero_le _, rfl, Below.refl _ _⟩
  case round =>
    obtain ⟨j, hj, rfl, Br⟩ := hrel
    by_cases hlt : j < n
    · have h0 : 0 < n := by omega
      obtain ⟨x, hx⟩ : ∃ x, l[j]? = some x := ⟨_, List.getElem?_eq_getElem (by rw [HP.out.len]; exact hlt)⟩
      obtain ⟨b1, o1, rfl, -⟩ := HP.out.cells h0
      obtain ⟨b2, o2, rfl, -⟩ := HQ.out.cells h0
      have R1 : Hid (w.rangeAt b1 (o1 + j * 33) (icells x)) := HP.out.at hx
      have R2 : Hid (w.rangeAt b2 (o2 + j * 33) (icells x)) := HQ.out.at hx
      have L1 : Hid (x.v.length = 32) := (HP.out.wf x (List.mem_of_getElem? hx)).len
      have M1 : Hid (b1 < w.heap.size) := range_lt R1.out (by rw [icells_len L1.out]; omega)
      have M2 : Hid (b2 < w.heap.size) := range_lt R2.out (by rw [icells_len L1.out]; omega)
      have QE : Hid (∀ w, (binOp .neq 33 (.agg (icells x).toArray) (.agg (icells x).toArray)).run Try.prog w = .ok (.bool false) w) := fun w => by rw [neqI w _ _ L1.out L1.out, (imB_iff x x).2 rfl]; rfl
      have i1 : (j : Int) < (n : Int) := by omega
      have i0 : (0 : Int) ≤ (j : Int) := by omega
      clear hx
      obtain ⟨wv, hwv⟩ : ∃ wv, wv = wr := ⟨_, rfl⟩
      subst hwv
      go_wp2_with fail
      refine wp_region_noPanic ?_
      refine wp_region_held_drew (S := fun w' => Below wv.heap.size wv w') (by kernel_rfl) (below_drawn 1) (fun hHeld => ?_)
      have DD : Hid (Below wv.heap.size wv wv.drew) := hHeld
      generalize wv.drew = wd at *
      refine wpAnyH_take (i := 0) (v := ?va1) (by simp; rfl) (by kernel_rfl) (by kernel_rfl) (by kernel_rfl) (fun _ _ _ h => h) (Or.inl ⟨by rfl, ?ya1⟩) hHeld ?ra1
      case ya1 => intro w hSw; clear hSw; go_simp; with_reducible rfl
      simp only [Act.put, List.setIfInBounds_toArray, List.set_cons_zero, List.set_cons_succ]
      refine wpAnyH_take (i := 1) (v := ?va2) (by simp; rfl) (by kernel_rfl) (by kernel_rfl) (by kernel_rfl) (fun _ _ _ h => h) (Or.inl ⟨by rfl, ?ya2⟩) hHeld ?ra2
      case ya2 => intro w hSw; clear hSw; go_simp; with_reducible rfl
      simp only [Act.put, List.setIfInBounds_toArray, List.set_cons_zero, List.set_cons_succ]
      refine wpAnyH_take (i := 2) (v := ?va3) (by simp; rfl) (by kernel_rfl) (by kernel_rfl) (by kernel_rfl) (fun _ _ _ h => h) (Or.inl ⟨by rfl, ?ya3⟩) hHeld ?ra3
      case ya3 => intro w hSw; clear hSw; go_simp; with_reducible rfl
      simp only [Act.put, List.setIfInBounds_toArray, List.set_cons_zero, List.set_cons_succ]
      refine wpAnyH_take (i := 3) (v := _) (by simp; rfl) (by kernel_rfl) (by kernel_rfl) (by kernel_rfl) (fun _ _ _ h => h) (yieldsIf_load_mid (by rfl) 33 (.tmp 19) rfl b1 (o1 + j * 33) rfl (icells x) _ (fun _ h => rangeAt_same R1.out ((Br.out.trans (h.mono Br.out.size)).block b1 M1.out)) Try.underlying33 rfl (by rw [sizeI, icells_len L1.out])) hHeld ?_
      simp only [Act.put, List.setIfInBounds_toArray, List.set_cons_zero, List.set_cons_succ]
      refine wpAnyH_take (i := 4) (v := ?va4) (by simp; rfl) (by kernel_rfl) (by kernel_rfl) (by kernel_rfl) (fun _ _ _ h => h) (Or.inl ⟨by rfl, ?ya4⟩) hHeld ?ra4
      case ya4 => intro w hSw; clear hSw; go_simp; with_reducible rfl
      simp only [Act.put, List.setIfInBounds_toArray, List.set_cons_zero, List.set_cons_succ]
      refine wpAnyH_take (i := 5) (v := ?va5) (by simp; rfl) (by kernel_rfl) (by kernel_rfl) (by kernel_rfl) (fun _ _ _ h => h) (Or.inl ⟨by rfl, ?ya5⟩) hHeld ?ra5
      case ya5 => intro w hSw; clear hSw; go_simp; with_reducible rfl
      simp only [Act.put, List.setIfInBounds_toArray, List.set_cons_zero, List.set_cons_succ]
      refine wpAnyH_take (i := 6) (v := ?va6) (by simp; rfl) (by kernel_rfl) (by kernel_rfl) (by kernel_rfl) (fun _ _ _ h => h) (Or.inl ⟨by rfl, ?ya6⟩) hHeld ?ra6
      case ya6 => intro w hSw; clear hSw; go_simp; with_reducible rfl
      simp only [Act.put, List.setIfInBounds_toArray, List.set_cons_zero, List.set_cons_succ]
      refine wpAnyH_take (i := 7) (v := _) (by simp; rfl) (by kernel_rfl) (by kernel_rfl) (by kernel_rfl) (fun _ _ _ h => h) (yieldsIf_load_mid (by rfl) 33 (.tmp 23) rfl b2 (o2 + j * 33) rfl (icells x) _ (fun _ h => rangeAt_same R2.out ((Br.out.trans (h.mono Br.out.size)).block b2 M2.out)) Try.underlying33 rfl (by rw [sizeI, icells_len L1.out])) hHeld ?_
      simp only [Act.put, List.setIfInBounds_toArray, List.set_cons_zero, List.set_cons_succ]
      refine wpAnyH_take (i := 8) (v := _) (by simp; rfl) (by kernel_rfl) (by kernel_rfl) (by kernel_rfl) (fun _ _ _ h => h) (yields_neq_is (by rfl) 33 rfl rfl rfl eqgI QE.out) hHeld ?_
      simp only [Act.put, List.setIfInBounds_toArray, List.set_cons_zero, List.set_cons_succ]
      clear hHeld
      refine wpAnyH_done (by kernel_rfl) (NoPanic.normal ?_) _
      have B3 : Hid (Below w.heap.size w wd) := below_then Br.out DD.out
      clear Br QE R1 R2 L1 DD
      go_wp2_with fail
      go_roundw
      case rel => exact ⟨j + 1, by omega, by go_num, B3.out⟩
      case measure => simp [intOf]; omega
    · have hnl : ¬ (j : Int) < (n : Int) := by omega
      go_wp2_with fail
      go_ret
      exact ⟨rfl, Br.out⟩
end Go.Proofs.Ythgkdpniaednaaa
