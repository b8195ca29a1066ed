/-
  Layer 17: the documents Drop and Copy.
-/
import Derived.Test.YthcpnfelnonhnaaDoorRb
namespace Go.Proofs.YthcpnfelnonhnaaDoor
open Go.RowKit

section
variable {w w' : World} {R : Nat} {n p : Int} {v : Value} {L : List En} {s : Bool}
set_option maxHeartbeats 2000000 in
set_option maxRecDepth 100000 in
theorem rdrop_at (h : RAt w R n v L s p) (hw : EnsWf L) (hl : L.length ≤ 64) {q : Option Addr} {m c : Nat} {l : List En} (hM : EIn w q m l) (hm : m ≤ 140737488355328) (hsep : ∀ a, q = some a → 0 < m → ¬ (a.block = R ∨ v.ownBlock = some a.block)) : Calls Tryd.prog 24 #[.pointer (some ⟨R, 0, none⟩), .slice q m c] w fun e w' => e = .returned (.int .i64 (drpsN L l : Int)) ∧ ∃ v', RWrt w w' R n v v' (drps L l) s p := by
  have HA : Hid (RAt w R n v L s p) := h
  have HWF : Hid (EnsWf L) := hw
  have HL64 : Hid (L.length ≤ 64) := hl
  have HM : Hid (EIn w q m l) := hM
  have HL : Hid (l.length = m) := hM.len
  have HSP : Hid (∀ a, q = some a → 0 < m → ¬ (a.block = R ∨ v.ownBlock = some a.block)) := hsep
  clear h hw hM hsep hl
  go_enter Tryd.func24, Tryd.ntmps24
  go_wp2_with fail
  go_loopw [5, 6] (fun u u2 W => ∃ (k t : Nat) (vD : Value), u = .int .i64 (t : Int) ∧ u2 = .int .i64 (k : Int) ∧ k ≤ m ∧ t ≤ 64 ∧ Hid (t = drpsN L (l.take k)) ∧ Hid (RWrt w W R n v vD (drps L (l.take k)) s p)) (fun _ u _ => m - (intOf u).toNat)
  case atStart => exact ⟨0, 0, v, rfl, rfl, by omega, by omega, (rfl : 0 = drpsN L (l.take 0)), (RWrt.refl HA.out : RWrt w w R n v v (drps L (l.take 0)) s p)⟩
  case round =>
    obtain ⟨k, t, vD, rfl, rfl, hk, ht, HT, HW⟩ := hrel
    by_cases hlt : k < m
    · obtain ⟨e, he, hew⟩ := HM.out.len_lt hlt
      obtain ⟨be, oe, e1, -⟩ := HM.out.cells (by omega)
      have hMr : EIn wr q m l := HM.out.far HW.out.kept HSP.out
      subst e1
      have HX : Hid (l[k]? = some e ∧ e.Wf) := ⟨he, hew⟩
      have HTK : Hid (l.take (k + 1) = l.take k ++ [e]) := take_snocE he
      obtain ⟨D, hD⟩ : ∃ D, D = drps L (l.take k) := ⟨_, rfl⟩
      have HD : Hid (D = drps L (l.take k)) := hD
      have hD64 : D.length ≤ 64 := by have := drps_len L (l.take k); have := HL64.out; rw [hD]; omega
      have HDW : Hid (EnsWf D) := by rw [hD]; exact fun x hx => HWF.out x (drps_mem.1 hx).1
      obtain ⟨w4, hw4⟩ : ∃ w4, w4 = wr := ⟨_, rfl⟩
      have HW4 : Hid (RWrt w w4 R n v vD D s p) := by rw [hD, hw4]; exact HW.out
      have HEl : Hid (EIn w4 (some ⟨be, oe, none⟩) m l) := by rw [hw4]; exact hMr
      rw [← hw4]
      have HA4 : Hid (RAt w4 R n vD D s p) := HW4.out.at'
      obtain ⟨qD, cD, rfl, hE, hcD⟩ := HA4.out.ein HDW.out
      have HE : Hid (EIn w4 qD D.length D) := hE
      have ik : (k : Int) < (m : Int) := by omega
      clear hw4 hE hcD hD hMr he hew HW wr
      go_wp2_with fail
      go_loopw [7, 8] (fun v v2 W => ∃ (j m2 : Nat) (p2 : Option Addr) (c2 : Nat), v = .slice p2 m2 c2 ∧ v2 = .int .i64 (j : Int) ∧ j ≤ D.length ∧ Hid (Ga w4 W (.slice p2 m2 c2) m2 (([] : List En) ++ (D.take j).filter (fun z : En => !isD e z)))) (fun _ v _ => D.length - (intOf v).toNat)
      case atStart => exact ⟨0, 0, none, 0, rfl, rfl, by omega, (Ga.nil w4 : Ga w4 w4 (.slice none 0 0) 0 (([] : List En) ++ (D.take 0).filter (fun z : En => !isD e z)))⟩
      case round =>
        obtain ⟨j, m2, p2, c2, rfl, rfl, hj, HG⟩ := hrel
        by_cases hjl : j < D.length
        · obtain ⟨y, hy, hyw⟩ := HE.out.len_lt hjl
          obtain ⟨b2, o2, rfl, -⟩ := HE.out.cells (by omega)
          have HGt : Hid (∀ t, Ga w4 (wr.drewN t) (.slice p2 m2 c2) m2 (([] : List En) ++ (D.take j).filter (fun z : En => !isD e z))) := fun t => HG.out.later (below_drawn _)
          have y1 := (HA4.out.later HG.out.below).c1
          have t1 : ∀ t, (wr.drewN t).cell? ⟨R, 1, none⟩ = some (.slice (some ⟨b2, o2, none⟩) D.length cD) := fun t => y1
          have t2 : ∀ t, (wr.drewN t).cell? ⟨b2, o2 + j * 34, none⟩ = some (.int .i64 y.b) := fun t => (HE.out.later HG.out.below).c0 hy
          have t3 : ∀ t, (wr.drewN t).cell? ⟨be, oe + k * 34, none⟩ = some (.int .i64 e.b) := fun t => (HEl.out.later (HGt.out t).below).c0 HX.out.1
          have t4 : ∀ t, (wr.drewN t).cell? ⟨be, oe + k * 34 + 33, none⟩ = some (.int .u64 e.p) := fun t => (HEl.out.later (HGt.out t).below).cp HX.out.1
          have t5 : ∀ t, (wr.drewN t).cell? ⟨b2, o2 + j * 34 + 33, none⟩ = some (.int .u64 y.p) := fun t => (HE.out.later (HGt.out t).below).cp hy
          have HLt : Hid (∀ t, (Instr.loadAt 75 (.pointer (some ⟨b2, o2 + j * 34, none⟩))).run Tryd.prog (wr.drewN t) = .ok (.agg (ecells y).toArray) (wr.drewN t)) := fun t => EIn.load etR (HE.out.later (HGt.out t).below) hy
          have i1 : (j : Int) < (D.length : Int) := by omega
          have hm64 : m2 ≤ 200 := by
            have := HG.out.len
            rw [List.length_append] at this
            have h2 := List.length_filter_le (fun z : En => !isD e z) (D.take j)
            rw [List.length_take] at h2
            have h3 : (([] : List En)).length ≤ 100 := by simp
            omega
          have HY : Hid (D[j]? = some y ∧ y.Wf) := ⟨hy, hyw⟩
          clear hy hyw HG
          by_cases hb : y.b = e.b
          · have hb2 : (y.b != e.b) = false := by simp [hb]
            by_cases hp : y.p = e.p
            · have hp2 : (y.p != e.p) = false := by simp [hp]
              have HP : (fun z : En => !isD e z) y = false := by simp [isD, hb, hp]
              clear hb hp
              go_wp2_with fail
              go_quiet (fail)
              have HG2 : Hid (Ga w4 (wr.drewN nq) (.slice p2 m2 c2) m2 (([] : List En) ++ (D.take (j + 1)).filter (fun z : En => !isD e z))) := by show Ga _ _ _ _ _; rw [filter_no HY.out.1 HP]; exact HGt.out nq
              clear HGt HLt t1 t2 HP
              generalize wr.drewN nq = wq at *
              go_wp2_with fail
              go_roundw
              case rel => exact ⟨j + 1, m2, p2, c2, rfl, by congr 1, by omega, HG2⟩
              case measure => simp [intOf]; omega
            · have hp2 : (y.p != e.p) = true := by rw [bne_iff_ne]; exact hp
              have HP : (fun z : En => !isD e z) y = true := by simp [isD, hp]
              clear hb hp
              go_wp2_with fail
              go_quiet (fail)
              have HGq := HGt.out nq
              have HLq : Hid ((Instr.loadAt 75 (.pointer (some ⟨b2, o2 + j * 34, none⟩))).run Tryd.prog (wr.drewN nq) = .ok (.agg (ecells y).toArray) (wr.drewN nq)) := HLt.out nq
              have t1q := t1 nq
              obtain ⟨q', c', W', hap, hg⟩ := HGq.app HY.out.2 (by omega)
              have HBS : Hid ((Instr.buildSlice 46 1 #[(0, .agg (ecells y).toArray)]).run Tryd.prog (wr.drewN nq) = .ok (.slice (some ⟨(wr.drewN nq).heap.size, 0, none⟩) 1 1) ((wr.drewN nq).alloc (.cells (ecells y).toArray 75))) := build_en etR _ y HY.out.2.len
              have HAP : Hid ((Builtin.append_ #[46, 46] 46 #[.slice p2 m2 c2, .slice (some ⟨(wr.drewN nq).heap.size, 0, none⟩) 1 1]).run Tryd.prog ((wr.drewN nq).alloc (.cells (ecells y).toArray 75)) = .ok (.slice q' (m2 + 1) c') W') := hap
              have HG2 : Hid (Ga w4 W' (.slice q' (m2 + 1) c') (m2 + 1) (([] : List En) ++ (D.take (j + 1)).filter (fun z : En => !isD e z))) := by show Ga _ _ _ _ _; rw [filter_yes HY.out.1 HP, ← List.append_assoc]; exact hg
              clear hap hg HGq HGt HLt t1 t2 HP
              generalize wr.drewN nq = wq at *
              go_wp2_with ((with_reducible refine at_ops ?_); (first | (refine wpList_load_is (by rfl) 75 rfl rfl HLq.out ?_) | (refine wpList_slice_is (u := .agg (ecells y).toArray) (by rfl) 46 rfl rfl HBS.out ?_) | (refine wpList_append_is (u1 := .slice p2 m2 c2) (u2 := .slice (some ⟨wq.heap.size, 0, none⟩) 1 1) (by rfl) rfl rfl rfl rfl HAP.out ?_)); simp only [Act.put, List.setIfInBounds_toArray, List.set_cons_zero, List.set_cons_succ])
              go_roundw
              case rel => exact ⟨j + 1, m2 + 1, q', c', rfl, by congr 1, by omega, HG2⟩
              case measure => simp [intOf]; omega
          · have hb2 : (y.b != e.b) = true := by rw [bne_iff_ne]; exact hb
            have HP : (fun z : En => !isD e z) y = true := by simp [isD, hb]
            clear hb
            go_wp2_with fail
            go_quiet (fail)
            have HGq := HGt.out nq
            have HLq : Hid ((Instr.loadAt 75 (.pointer (some ⟨b2, o2 + j * 34, none⟩))).run Tryd.prog (wr.drewN nq) = .ok (.agg (ecells y).toArray) (wr.drewN nq)) := HLt.out nq
            have t1q := t1 nq
            obtain ⟨q', c', W', hap, hg⟩ := HGq.app HY.out.2 (by omega)
            have HBS : Hid ((Instr.buildSlice 46 1 #[(0, .agg (ecells y).toArray)]).run Tryd.prog (wr.drewN nq) = .ok (.slice (some ⟨(wr.drewN nq).heap.size, 0, none⟩) 1 1) ((wr.drewN nq).alloc (.cells (ecells y).toArray 75))) := build_en etR _ y HY.out.2.len
            have HAP : Hid ((Builtin.append_ #[46, 46] 46 #[.slice p2 m2 c2, .slice (some ⟨(wr.drewN nq).heap.size, 0, none⟩) 1 1]).run Tryd.prog ((wr.drewN nq).alloc (.cells (ecells y).toArray 75)) = .ok (.slice q' (m2 + 1) c') W') := hap
            have HG2 : Hid (Ga w4 W' (.slice q' (m2 + 1) c') (m2 + 1) (([] : List En) ++ (D.take (j + 1)).filter (fun z : En => !isD e z))) := by show Ga _ _ _ _ _; rw [filter_yes HY.out.1 HP, ← List.append_assoc]; exact hg
            clear hap hg HGq HGt HLt t1 t2 HP
            generalize wr.drewN nq = wq at *
            go_wp2_with ((with_reducible refine at_ops ?_); (first | (refine wpList_load_is (by rfl) 75 rfl rfl HLq.out ?_) | (refine wpList_slice_is (u := .agg (ecells y).toArray) (by rfl) 46 rfl rfl HBS.out ?_) | (refine wpList_append_is (u1 := .slice p2 m2 c2) (u2 := .slice (some ⟨wq.heap.size, 0, none⟩) 1 1) (by rfl) rfl rfl rfl rfl HAP.out ?_)); simp only [Act.put, List.setIfInBounds_toArray, List.set_cons_zero, List.set_cons_succ])
            go_roundw
            case rel => exact ⟨j + 1, m2 + 1, q', c', rfl, by congr 1, by omega, HG2⟩
            case measure => simp [intOf]; omega
        · have HG2 : Hid (Ga w4 wr (.slice p2 m2 c2) m2 (([] : List En) ++ D.filter (fun z : En => !isD e z))) := by
            have := HG.out
            rw [List.take_of_length_le (by omega)] at this
            exact this
          have y1 := (HA4.out.later HG.out.below).c1
          clear HG
          have HN : Hid (RWrt w4 (wr.setCell ⟨R, 1, none⟩ (.slice p2 m2 c2)) R n (.slice qD D.length cD) (.slice p2 m2 c2) (drpE D e) s p) := RWrt.row HA4.out HG2.out.below HG2.out.own
          have HF : Hid (wr.frozen? ⟨R, 1, none⟩ = false) := (HA4.out.later HG2.out.below).free 1
          have f1 := HF.out
          have HW5 : Hid (RWrt w (wr.setCell ⟨R, 1, none⟩ (.slice p2 m2 c2)) R n v (.slice p2 m2 c2) (drps L (l.take (k + 1))) s p) := by
            show RWrt _ _ _ _ _ _ _ _ _
            rw [HTK.out, drps_snoc, ← HD.out]; exact HW4.out.trans HN.out
          have hm2 : m2 + drpN D e = D.length := by have := drp_len D e; have h2 := HG2.out.len; rw [List.nil_append] at h2; rw [h2]; exact this
          have HT5 : Hid (t + drpN D e = drpsN L (l.take (k + 1))) := by show _ = _; rw [HTK.out, drpsN_snoc, ← HD.out, HT.out]
          have ht5 : t + drpN D e ≤ 64 := by rw [HT5.out]; exact Nat.le_trans (drpsN_le _ _) HL64.out
          have hsum : ((t + drpN D e : Nat) : Int) = (t : Int) + (D.length : Int) - (m2 : Int) := by omega
          clear HN HG2 HF
          go_wp2_with fail
          go_roundw
          case rel => exact ⟨k + 1, t + drpN D e, _, by rw [hsum], by congr 1, by omega, ht5, HT5, HW5⟩
          case measure => simp [intOf]; omega


    · have HW2 : Hid (RWrt w wr R n v vD (drps L l) s p) := by
        have := HW.out
        rw [List.take_of_length_le (by rw [HL.out]; omega)] at this
        exact this
      have HT2 : Hid (t = drpsN L l) := by
        have := HT.out
        rw [List.take_of_length_le (by rw [HL.out]; omega)] at this
        exact this
      clear HW HT
      go_wp2
      go_ret
      exact ⟨by rw [HT2.out]; rfl, vD, HW2.out⟩
/-- a new one -/
structure NewR (w w' : World) (R : Nat) (n : Int) (v : Value) (L : List En) (s : Bool) (p : Int) : Prop where
  at' : RAt w' R n v L s p
  below : Below w.heap.size w w'
  q : w.heap.size ≤ R
  row : ∀ g, v.ownBlock = some g → w.heap.size ≤ g
set_option maxHeartbeats 2000000 in
set_option maxRecDepth 100000 in
theorem rcopy_at (h : RAt w R n v L s p) (hl : L.length ≤ 64) : Calls Tryd.prog 8 #[.pointer (some ⟨R, 0, none⟩)] w fun e w' => ∃ R' v', e = .returned (.pointer (some ⟨R', 0, none⟩)) ∧ NewR w w' R' n v' L s p := by
  have hD : Below w.heap.size w w.drew := below_drawn 1
  have hA : RAt w.drew R n v L s p := h.later hD
  have HA : Hid (RAt w.drew R n v L s p) := hA
  have HD : Hid (Below w.heap.size w w.drew) := hD
  have HC : Hid (∀ W, Below w.drew.heap.size w.drew W → W.cell? ⟨R, 0, none⟩ = some (.int .i64 n) ∧ W.cell? ⟨R, 1, none⟩ = some v ∧ W.cell? ⟨R, 2, none⟩ = some (.bool s) ∧ W.cell? ⟨R, 3, none⟩ = some (.int .u64 p)) := fun W hW => ⟨(hA.later hW).c0, (hA.later hW).c1, (hA.later hW).c2, (hA.later hW).c3⟩
  obtain ⟨p1, m1, c1, rfl⟩ : ∃ p1 m1 c1, v = .slice p1 m1 c1 := by obtain ⟨p2, c2, e2, -, -⟩ := O.own_form hA.row; exact ⟨p2, _, c2, e2⟩
  clear h hA hD
  go_enter Tryd.func8, Tryd.ntmps8
  go_wp2_with fail
  refine wp_region_noPanic ?_
  refine wp_region_held_drew (S := fun W => Below w.drew.heap.size w.drew W) (by kernel_rfl) (Below.refl _ _) (fun hHeld => ?_)
  generalize w.drew = wD at *
  refine wpAnyH_take (i := 0) (v := ?va1) (by simp; rfl) (by kernel_rfl) (by kernel_rfl) (by kernel_rfl) (fun _ _ _ h => h) (Or.inl ⟨by rfl, ?ya1⟩) hHeld ?ra1
  case ya1 => intro w hSw; clear hSw; go_simp; with_reducible rfl
  simp only [Act.put, List.setIfInBounds_toArray, List.set_cons_zero, List.set_cons_succ]
  refine wpAnyH_take (i := 1) (v := ?va2) (by simp; rfl) (by kernel_rfl) (by kernel_rfl) (by kernel_rfl) (fun _ _ _ h => h) (Or.inl ⟨by rfl, ?ya2⟩) hHeld ?ra2
  case ya2 => intro w hSw; clear hSw; go_simp; with_reducible rfl
  simp only [Act.put, List.setIfInBounds_toArray, List.set_cons_zero, List.set_cons_succ]
  refine wpAnyH_take (i := 2) (v := ?va3) (by simp; rfl) (by kernel_rfl) (by kernel_rfl) (by kernel_rfl) (fun _ _ _ h => h) (Or.inl ⟨by rfl, ?ya3⟩) hHeld ?ra3
  case ya3 => intro w hSw; clear hSw; go_simp; with_reducible rfl
  simp only [Act.put, List.setIfInBounds_toArray, List.set_cons_zero, List.set_cons_succ]
  refine wpAnyH_take (i := 3) (v := ?va4) (by simp; rfl) (by kernel_rfl) (by kernel_rfl) (by kernel_rfl) (fun _ _ _ h => h) (Or.inl ⟨by rfl, ?ya4⟩) hHeld ?ra4
  case ya4 => intro w hSw; obtain ⟨z0, z1, z2, z3⟩ := HC.out w hSw; clear hSw; go_simp; with_reducible rfl
  simp only [Act.put, List.setIfInBounds_toArray, List.set_cons_zero, List.set_cons_succ]
  refine wpAnyH_take (i := 5) (v := ?va5) (by simp; rfl) (by kernel_rfl) (by kernel_rfl) (by kernel_rfl) (fun _ _ _ h => h) (Or.inl ⟨by rfl, ?ya5⟩) hHeld ?ra5
  case ya5 => intro w hSw; clear hSw; go_simp; with_reducible rfl
  simp only [Act.put, List.setIfInBounds_toArray, List.set_cons_zero, List.set_cons_succ]
  refine wpAnyH_take (i := 6) (v := ?va6) (by simp; rfl) (by kernel_rfl) (by kernel_rfl) (by kernel_rfl) (fun _ _ _ h => h) (Or.inl ⟨by rfl, ?ya6⟩) hHeld ?ra6
  case ya6 => intro w hSw; clear hSw; go_simp; with_reducible rfl
  simp only [Act.put, List.setIfInBounds_toArray, List.set_cons_zero, List.set_cons_succ]
  refine wpAnyH_take (i := 7) (v := ?va7) (by simp; rfl) (by kernel_rfl) (by kernel_rfl) (by kernel_rfl) (fun _ _ _ h => h) (Or.inl ⟨by rfl, ?ya7⟩) hHeld ?ra7
  case ya7 => intro w hSw; clear hSw; go_simp; with_reducible rfl
  simp only [Act.put, List.setIfInBounds_toArray, List.set_cons_zero, List.set_cons_succ]
  refine wpAnyH_take (i := 8) (v := ?va8) (by simp; rfl) (by kernel_rfl) (by kernel_rfl) (by kernel_rfl) (fun _ _ _ h => h) (Or.inl ⟨by rfl, ?ya8⟩) hHeld ?ra8
  case ya8 => intro w hSw; obtain ⟨z0, z1, z2, z3⟩ := HC.out w hSw; clear hSw; go_simp; with_reducible rfl
  simp only [Act.put, List.setIfInBounds_toArray, List.set_cons_zero, List.set_cons_succ]
  refine wpAnyH_take (i := 10) (v := ?va9) (by simp; rfl) (by kernel_rfl) (by kernel_rfl) (by kernel_rfl) (fun _ _ _ h => h) (Or.inl ⟨by rfl, ?ya9⟩) hHeld ?ra9
  case ya9 => intro w hSw; clear hSw; go_simp; with_reducible rfl
  simp only [Act.put, List.setIfInBounds_toArray, List.set_cons_zero, List.set_cons_succ]
  refine wpAnyH_take (i := 11) (v := ?va10) (by simp; rfl) (by kernel_rfl) (by kernel_rfl) (by kernel_rfl) (fun _ _ _ h => h) (Or.inl ⟨by rfl, ?ya10⟩) hHeld ?ra10
  case ya10 => intro w hSw; clear hSw; go_simp; with_reducible rfl
  simp only [Act.put, List.setIfInBounds_toArray, List.set_cons_zero, List.set_cons_succ]
  refine wpAnyH_take (i := 12) (v := ?va11) (by simp; rfl) (by kernel_rfl) (by kernel_rfl) (by kernel_rfl) (fun _ _ _ h => h) (Or.inl ⟨by rfl, ?ya11⟩) hHeld ?ra11
  case ya11 => intro w hSw; clear hSw; go_simp; with_reducible rfl
  simp only [Act.put, List.setIfInBounds_toArray, List.set_cons_zero, List.set_cons_succ]
  refine wpAnyH_take (i := 13) (v := ?va12) (by simp; rfl) (by kernel_rfl) (by kernel_rfl) (by kernel_rfl) (fun _ _ _ h => h) (Or.inl ⟨by rfl, ?ya12⟩) hHeld ?ra12
  case ya12 => intro w hSw; obtain ⟨z0, z1, z2, z3⟩ := HC.out w hSw; clear hSw; go_simp; with_reducible rfl
  simp only [Act.put, List.setIfInBounds_toArray, List.set_cons_zero, List.set_cons_succ]
  refine wpAnyH_take (i := 14) (v := ?va13) (by simp; rfl) (by kernel_rfl) (by kernel_rfl) (by kernel_rfl) (fun _ _ _ h => h) (Or.inl ⟨by rfl, ?ya13⟩) hHeld ?ra13
  case ya13 => intro w hSw; clear hSw; go_simp; with_reducible rfl
  simp only [Act.put, List.setIfInBounds_toArray, List.set_cons_zero, List.set_cons_succ]
  refine wpAnyH_take (i := 15) (v := ?va14) (by simp; rfl) (by kernel_rfl) (by kernel_rfl) (by kernel_rfl) (fun _ _ _ h => h) (Or.inl ⟨by rfl, ?ya14⟩) hHeld ?ra14
  case ya14 => intro w hSw; clear hSw; go_simp; with_reducible rfl
  simp only [Act.put, List.setIfInBounds_toArray, List.set_cons_zero, List.set_cons_succ]
  refine wpAnyH_take (i := 16) (v := ?va15) (by simp; rfl) (by kernel_rfl) (by kernel_rfl) (by kernel_rfl) (fun _ _ _ h => h) (Or.inl ⟨by rfl, ?ya15⟩) hHeld ?ra15
  case ya15 => intro w hSw; clear hSw; go_simp; with_reducible rfl
  simp only [Act.put, List.setIfInBounds_toArray, List.set_cons_zero, List.set_cons_succ]
  refine wpAnyH_take (i := 17) (v := ?va16) (by simp; rfl) (by kernel_rfl) (by kernel_rfl) (by kernel_rfl) (fun _ _ _ h => h) (Or.inl ⟨by rfl, ?ya16⟩) hHeld ?ra16
  case ya16 => intro w hSw; obtain ⟨z0, z1, z2, z3⟩ := HC.out w hSw; clear hSw; go_simp; with_reducible rfl
  simp only [Act.put, List.setIfInBounds_toArray, List.set_cons_zero, List.set_cons_succ]
  refine wpAnyH_ready (rs := [4]) (by kernel_rfl) (by simp) ?_
  refine AllReadyH.cons (by simp; rfl) (fun Kc hKc => ?_) AllReadyH.nil
  go_simp
  obtain ⟨wE, hwE⟩ : ∃ wE, wE = wD.alloc (.cells #[] 75) := ⟨_, rfl⟩
  obtain ⟨gE, hgE⟩ : ∃ gE, gE = wD.heap.size := ⟨_, rfl⟩
  have oE : wE.ownsRow wD.heap.size 75 34 (.slice (some ⟨gE, 0, none⟩) 0 0) 0 [] := by rw [hwE, hgE]; exact O.own_empty wD (Nat.le_refl _)
  have bE : Below wD.heap.size wD wE := by rw [hwE]; exact below_alloc _ _
  obtain ⟨v', wA, hap, ho, hK, hat⟩ := O.run_own_any O.elR oE 46 (HA.out.later bE).row (EC_ones L) (by omega) bE.size
  obtain ⟨p2, m2, c2, rfl⟩ : ∃ p2 m2 c2, v' = .slice p2 m2 c2 := by obtain ⟨p2, c2, e2, -, -⟩ := O.own_form ho; exact ⟨p2, _, c2, e2⟩
  have HAP : Hid ((Builtin.append_ #[46, 46] 46 #[.slice (some ⟨gE, 0, none⟩) 0 0, .slice p1 m1 c1]).run Tryd.prog wE = .ok (.slice p2 m2 c2) wA) := hap
  have bA : Below wD.heap.size wD wA := hK.into bE (fun b hb e => by have := (oE.lt b e).1; omega) (Nat.le_refl _)
  have HO : Hid (EOwn 75 wA wD.heap.size (.slice p2 m2 c2) L ∧ Below wD.heap.size wD wA) := ⟨by have := ho; rw [Nat.zero_add, List.nil_append] at this; exact this, bA⟩
  have HbE : Hid (Below wD.heap.size wD wE) := bE
  rw [← hwE, ← hgE]
  refine hKc.out _ _ HbE.out (fun hHeld => ?_)
  clear hKc Kc hwE hgE oE bE hap ho hK hat bA
  refine wpAnyH_ready (rs := [9]) (by kernel_rfl) (by simp) ?_
  refine AllReadyH.cons (by simp; rfl) (fun Kc hKc => ?_) AllReadyH.nil
  refine step_append_is (u1 := .slice (some ⟨gE, 0, none⟩) 0 0) (u2 := .slice p1 m1 c1) (by rfl) rfl rfl rfl rfl HAP.out ?_
  refine hKc.out _ _ HO.out.2 (fun hHeld => ?_)
  clear hKc Kc
  simp only [Act.put, List.setIfInBounds_toArray, List.set_cons_zero, List.set_cons_succ]
  refine wpAnyH_take (i := 18) (v := ?va17) (by simp; rfl) (by kernel_rfl) (by kernel_rfl) (by kernel_rfl) (fun _ _ _ h => h) (Or.inl ⟨by rfl, ?ya17⟩) hHeld ?ra17
  case ya17 => intro w hSw; clear hSw; go_simp; with_reducible rfl
  simp only [Act.put, List.setIfInBounds_toArray, List.set_cons_zero, List.set_cons_succ]
  refine wpAnyH_ready (rs := [19]) (by kernel_rfl) (by simp) ?_
  refine AllReadyH.cons (by simp; rfl) (fun Kc hKc => ?_) AllReadyH.nil
  go_simp
  have HB2 : Hid (Below wD.heap.size wD (wA.alloc (.cells #[.int .i64 n, .slice p2 m2 c2, .bool s, .int .u64 p] 71))) := below_then HO.out.2 (below_alloc wA _)
  refine hKc.out _ _ HB2.out (fun hHeld => ?_)
  clear hKc Kc
  refine wpAnyH_take (i := 20) (v := ?va18) (by simp; rfl) (by kernel_rfl) (by kernel_rfl) (by kernel_rfl) (fun _ _ _ h => h) (Or.inl ⟨by rfl, ?ya18⟩) hHeld ?ra18
  case ya18 => intro w hSw; clear hSw; go_simp; with_reducible rfl
  simp only [Act.put, List.setIfInBounds_toArray, List.set_cons_zero, List.set_cons_succ]
  refine wpAnyH_done (by kernel_rfl) (NoPanic.normal ?_) _
  go_wp2
  go_ret
  have hs := HD.out.size
  refine ⟨wA.heap.size, .slice p2 m2 c2, rfl, ⟨⟨heap_alloc_new wA _, O.own_later (own_mono HO.out.1 (Nat.zero_le _)) (below_alloc wA _)⟩, HD.out.trans (HB2.out.mono hs), Nat.le_trans hs HO.out.2.size, fun g hg => Nat.le_trans hs (HO.out.1.lt g hg).1⟩⟩
end
end Go.Proofs.YthcpnfelnonhnaaDoor
