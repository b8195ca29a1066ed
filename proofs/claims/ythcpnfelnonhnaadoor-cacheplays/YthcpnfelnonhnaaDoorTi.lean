/-
  Layer 17: a step: Copy.
-/
import Derived.Test.YthcpnfelnonhnaaDoorTh
import Derived.Test.YthcpnfelnonhnaaDoorZb
namespace Go.Proofs.YthcpnfelnonhnaaDoor
open Go.RowKit

namespace W
theorem St.copied {w0 w : World} {P a j o Q1 R1 : Nat} {n : Int} {L : Nat → List En} {s : Nat → Bool} {p g : Nat → Int} {T T' : Nat → Th} {G : Nat → Prop} {v1 vr1 : Value} (h : PS w0 w P (pcs T' (put g o (g o + 1))) T' G) (hs : Sh T n L s p g a) (hj : j < 2) (ho : o < 2) (hjo : o ≠ j)
    (e1 : T' o = .cac Q1 n v1 (L j) (nxR (s j) (p j))) (er1 : T' (o + 2) = .ref R1 n vr1 (L j) (s j) (p j)) (hk : ∀ i, i < 9 → i ≠ o → i ≠ o + 2 → T' i = T i) : St w0 w P n (a + 1) := by
  obtain ⟨v4, us4, v5, us5, ls, e4, e5, hl⟩ := hs.ls
  obtain ⟨Q', v, v6, v7, v8, bs, os, rs, hc, e6, e7, e8, h1, h2, h3, h4⟩ := hs.cs
  refine ⟨T', G, put L o (L j), put s o (s j), put p o (p j), put g o (g o + 1), h, ⟨fun i hi => ?_, fun i hi => ?_, fun i hi => ?_, ⟨v4, us4, v5, us5, ls, by rw [hk 4 (by decide) (by omega) (by omega)]; exact e4, by rw [hk 5 (by decide) (by omega) (by omega)]; exact e5, by omega, hl.2⟩, ⟨put Q' o Q1, put v o v1, v6, v7, v8, bs, os, rs, fun i hi => ?_, by rw [hk 6 (by decide) (by omega) (by omega)]; exact e6, by rw [hk 7 (by decide) (by omega) (by omega)]; exact e7, by rw [hk 8 (by decide) (by omega) (by omega)]; exact e8, h1, h2, by omega, fun k hk' => ?_⟩⟩⟩
  · by_cases e : i = o
    · subst e; simp only [put_same]; exact hs.ok j hj
    · simp only [put_other _ _ e]; exact hs.ok i hi
  · have := hs.gen i hi
    by_cases e : i = o
    · subst e; simp only [put_same]; omega
    · simp only [put_other _ _ e]; omega
  · by_cases e : i = o
    · subst e; simp only [put_same]; exact ⟨R1, vr1, er1⟩
    · simp only [put_other _ _ e]; rw [hk (i + 2) (by omega) (by omega) (by omega)]; exact hs.ref i hi
  · by_cases e : i = o
    · subst e; simp only [put_same]; exact e1
    · simp only [put_other _ _ e]; rw [hk i (by omega) e (by omega)]; exact hc i hi
  · obtain ⟨jj, hjj, k1, r, k2, k3, k4, k5⟩ := h4 k hk'
    refine ⟨jj, hjj, k1, r, k2, ?_, k4, fun e9 => ?_⟩
    · by_cases e : jj = o
      · subst e; rw [put_same]; omega
      · rw [put_other _ _ e]; exact k3
    · by_cases e : jj = o
      · subst e; rw [put_same] at e9; omega
      · rw [put_other _ _ e] at e9; rw [put_other _ _ e]; exact k5 e9
section
variable {w0 w : World} {P a : Nat} {n : Int}
set_option maxHeartbeats 2000000 in
set_option maxRecDepth 100000 in
theorem plays_copy (h : St w0 w P n a) (_hT : Tab w0) (ha : a ≤ 8000) (wh bk : Int) {ps : Int} (_hps : 0 ≤ ps ∧ ps < 18446744073709551616) {pi pl : Option Addr} {mi ci ml cl : Nat} {l : List Im} {E : List En} (_hI : MIn w0 pi mi l) (_hmi : mi * 40 ≤ 140737488351232) (_hE : EIn w0 pl ml E) (_hml : ml * 48 ≤ 140737488351232) :
    Calls Tryd.prog 9 #[.pointer (some ⟨P, 0, none⟩), .agg #[.int .i64 6, .int .i64 wh, .int .i64 bk, .int .u64 ps, .slice pi mi ci, .slice pl ml cl]] w fun e w' => e = .returned (.bool true) ∧ St w0 w' P n (a + 1) := by
  obtain ⟨w1, hw1⟩ : ∃ w1, w.alloc (.cells #[.int .i64 6, .int .i64 wh, .int .i64 bk, .int .u64 ps, .slice pi mi ci, .slice pl ml cl] 48) = w1 := ⟨_, rfl⟩
  obtain ⟨bo, hbo⟩ : ∃ bo, w.heap.size = bo := ⟨_, rfl⟩
  have B1 : Below w.heap.size w w1 := by rw [← hw1]; exact below_alloc w _
  have HO1 : Hid (w1.heap[bo]? = some (.cells #[.int .i64 6, .int .i64 wh, .int .i64 bk, .int .u64 ps, .slice pi mi ci, .slice pl ml cl] 48 (0, 0))) := by rw [← hw1, ← hbo]; exact heap_alloc_new w _
  have t2 := tmod2 wh
  have s2 := sl2_is wh
  have l2 := sl2_lt wh
  obtain ⟨T, G, L, s, p, g, hP, hs⟩ := h
  obtain ⟨R, vr, er⟩ := hs.ref (sl2 wh) l2
  obtain ⟨Q, v, v6, v7, v8, bs, os, rs, hc, e6, e7, e8, hos, hrs, hbs, hks⟩ := hs.cs
  have ec := hc (sl2 wh) l2
  have HEC : Hid (T (sl2 wh) = .cac (Q (sl2 wh)) n (v (sl2 wh)) (L (sl2 wh)) (nxR (s (sl2 wh)) (p (sl2 wh)))) := ec
  have HER : Hid (T (sl2 wh + 2) = .ref R n vr (L (sl2 wh)) (s (sl2 wh)) (p (sl2 wh))) := er
  have HSH : Hid (Sh T n L s p g a) := hs
  have HP1 : Hid (PS w0 w1 P (pcs T g) T G) := hP.later B1
  have HOB : Hid (w0.heap.size ≤ bo ∧ ¬ G bo ∧ bo ≠ P ∧ ∀ i, i < 15 → i ≠ 14 → ¬ (T i).foot bo) := ⟨by rw [← hbo]; exact hP.below.size, fun hg => by have := hP.fam.glt bo hg; omega, fun e => by have := hP.plt; omega, fun i hi _ hf => by have := Th.lt (hP.fam.at' i hi) hf; omega⟩
  have HO : Hid (∀ W : World, W.heap[bo]? = some (.cells #[.int .i64 6, .int .i64 wh, .int .i64 bk, .int .u64 ps, .slice pi mi ci, .slice pl ml cl] 48 (0, 0)) → W.cell? ⟨bo, 0, none⟩ = some (.int .i64 6) ∧ W.cell? ⟨bo, 2, none⟩ = some (.int .i64 bk) ∧ W.cell? ⟨bo, 3, none⟩ = some (.int .u64 ps) ∧ W.cell? ⟨bo, 4, none⟩ = some (.slice pi mi ci) ∧ W.cell? ⟨bo, 5, none⟩ = some (.slice pl ml cl)) := fun W hW => ⟨by rw [cell_of_row _ bo 0 _ 48 (0, 0) hW]; rfl, by rw [cell_of_row _ bo 2 _ 48 (0, 0) hW]; rfl, by rw [cell_of_row _ bo 3 _ 48 (0, 0) hW]; rfl, by rw [cell_of_row _ bo 4 _ 48 (0, 0) hW]; rfl, by rw [cell_of_row _ bo 5 _ 48 (0, 0) hW]; rfl⟩
  have k1 : w1.cell? ⟨bo, 1, none⟩ = some (.int .i64 wh) := by rw [cell_of_row _ bo 1 _ 48 (0, 0) HO1.out]; rfl
  have c1 : ∀ t, (w1.drewN t).cell? ⟨P, sl2 wh, none⟩ = some (.pointer (some ⟨Q (sl2 wh), 0, none⟩)) := fun t => by
    have := HP1.out.c (j := sl2 wh) (by omega)
    rw [ec] at this
    exact this
  have c2 : ∀ t, (w1.drewN t).cell? ⟨P, 2 + sl2 wh, none⟩ = some (.pointer (some ⟨R, 0, none⟩)) := fun t => by
    have := HP1.out.c (j := sl2 wh + 2) (by omega)
    rw [er, Nat.add_comm] at this
    exact this
  have HPt : Hid (∀ t, PS w0 (w1.drewN t) P (pcs T g) T G) := fun t => HP1.out.later (below_drawn _)
  have HOt : Hid (∀ t, (w1.drewN t).heap[bo]? = some (.cells #[.int .i64 6, .int .i64 wh, .int .i64 bk, .int .u64 ps, .slice pi mi ci, .slice pl ml cl] 48 (0, 0))) := fun t => HO1.out
  clear hP hs B1 er ec hc hks hos hrs hbs
  go_enter Tryd.func9, Tryd.ntmps9
  have j0 : (0 : Int) ≤ ((sl2 wh : Nat) : Int) := by omega
  have j1 : ((sl2 wh : Nat) : Int) < 2 := by omega
  go_wp2_with fail
  rw [s2]
  clear k1 s2 t2
  generalize sl2 wh = j at *
  go_quiet (fail)
  have HPD : Hid (PS w0 (w1.drewN nq) P (pcs T g) T G) := HPt.out nq
  have HOD : Hid ((w1.drewN nq).heap[bo]? = some (.cells #[.int .i64 6, .int .i64 wh, .int .i64 bk, .int .u64 ps, .slice pi mi ci, .slice pl ml cl] 48 (0, 0))) := HOt.out nq
  clear c1 c2 HPt HOt HP1 HO1 hw1 hbo
  generalize w1.drewN nq = wD at *
  have o0 := (HO.out wD HOD.out).1
  have o2 := (HO.out wD HOD.out).2.1
  have HST : Hid (St w0 wD P n a) := ⟨T, G, L, s, p, g, HPD.out, HSH.out⟩
  obtain ⟨hok, hpp, hsp⟩ := HSH.out.ok j l2
  have HOK : Hid (Okc n (L j) (nxR (s j) (p j))) := hok
  have hj : j < 2 := l2
  obtain ⟨o, ho⟩ : ∃ o : Nat, (1 : Int) - (j : Int) = (o : Int) := ⟨1 - j, by omega⟩
  have ho2 : o < 2 := by omega
  have hoj : o ≠ j := by omega
  have hwr : IntKind.i64.wrap (o : Int) = (o : Int) := by rw [IntKind.wrap_i64]; omega
  have og0 : (0 : Int) ≤ (o : Int) := by omega
  have og1 : (o : Int) < 2 := by omega
  have hg := HSH.out.gen o ho2
  have hgw : IntKind.i64.wrap (g o + 1) = g o + 1 := by rw [IntKind.wrap_i64]; omega
  have HPDd : Hid (PS w0 wD.drew P (pcs T g) T G) := HPD.out.later (show Below wD.heap.size wD wD.drew from below_drawn 1)
  clear hok hpp hsp o2 HPD HST HOD
  go_wp2_with fail
  clear o0
  refine wp_region_noPanic ?_
  refine wp_region_stores (fun j => j == 13 || j == 17) (fun W => W.heap[P]? = some (.cells (pcs T g) 42 (0, 0))) (by kernel_rfl) ?_
  have HPD : Hid (PS w0 wD.drew P (pcs T g) T G) := HPDd
  clear HPDd
  have hHeld := HPD.out.pr
  generalize wD.drew = xA at *
  refine wpAnyM_take0 (i := 0) (v := ?va1) (by simp; rfl) (by kernel_rfl) (by kernel_rfl) (by kernel_rfl) (fun _ _ _ h => h) (Or.inl ⟨by rfl, ?ya1⟩) ?ra1
  case ya1 => intro w hSw; clear hSw; go_simp; with_reducible rfl
  simp only [Act.put, List.setIfInBounds_toArray, List.set_cons_zero, List.set_cons_succ]
  refine wpAnyM_take0 (i := 1) (v := ?va2) (by simp; rfl) (by kernel_rfl) (by kernel_rfl) (by kernel_rfl) (fun _ _ _ h => h) (Or.inl ⟨by rfl, ?ya2⟩) ?ra2
  case ya2 => intro w hSw; clear hSw; go_simp; with_reducible rfl
  simp only [Act.put, List.setIfInBounds_toArray, List.set_cons_zero, List.set_cons_succ]
  refine wpAnyM_take0 (i := 2) (v := ?va3) (by simp; rfl) (by kernel_rfl) (by kernel_rfl) (by kernel_rfl) (fun _ _ _ h => h) (Or.inl ⟨by rfl, ?ya3⟩) ?ra3
  case ya3 => intro w hSw; clear hSw; go_simp; with_reducible rfl
  simp only [Act.put, List.setIfInBounds_toArray, List.set_cons_zero, List.set_cons_succ]
  refine wpAnyM_take0 (i := 3) (v := ?va4) (by simp; rfl) (by kernel_rfl) (by kernel_rfl) (by kernel_rfl) (fun _ _ _ h => h) (Or.inl ⟨by rfl, ?ya4⟩) ?ra4
  case ya4 => intro w hSw; clear hSw; go_simp; with_reducible rfl
  simp only [Act.put, List.setIfInBounds_toArray, List.set_cons_zero, List.set_cons_succ]
  refine wpAnyM_take0 (i := 4) (v := ?va5) (by simp; rfl) (by kernel_rfl) (by kernel_rfl) (by kernel_rfl) (fun _ _ _ h => h) (Or.inl ⟨by rfl, ?ya5⟩) ?ra5
  case ya5 => intro w hSw; clear hSw; go_simp; with_reducible rfl
  simp only [Act.put, List.setIfInBounds_toArray, List.set_cons_zero, List.set_cons_succ]
  refine wpAnyM_take0 (i := 5) (v := ?va6) (by simp; rfl) (by kernel_rfl) (by kernel_rfl) (by kernel_rfl) (fun _ _ _ h => h) (Or.inl ⟨by rfl, ?ya6⟩) ?ra6
  case ya6 => intro w hSw; clear hSw; go_simp; with_reducible rfl
  simp only [Act.put, List.setIfInBounds_toArray, List.set_cons_zero, List.set_cons_succ]
  refine wpAnyM_take0 (i := 6) (v := ?va7) (by simp; rfl) (by kernel_rfl) (by kernel_rfl) (by kernel_rfl) (fun _ _ _ h => h) (Or.inl ⟨by rfl, ?ya7⟩) ?ra7
  case ya7 => intro w hSw; clear hSw; go_simp; with_reducible rfl
  simp only [Act.put, List.setIfInBounds_toArray, List.set_cons_zero, List.set_cons_succ]
  refine wpAnyM_take0 (i := 8) (v := ?va8) (by simp; rfl) (by kernel_rfl) (by kernel_rfl) (by kernel_rfl) (fun _ _ _ h => h) (Or.inl ⟨by rfl, ?ya8⟩) ?ra8
  case ya8 => intro w hSw; clear hSw; go_simp; with_reducible rfl
  simp only [Act.put, List.setIfInBounds_toArray, List.set_cons_zero, List.set_cons_succ]
  refine wpAnyM_take0 (i := 10) (v := ?va9) (by simp; rfl) (by kernel_rfl) (by kernel_rfl) (by kernel_rfl) (fun _ _ _ h => h) (Or.inl ⟨by rfl, ?ya9⟩) ?ra9
  case ya9 => intro w hSw; clear hSw; go_simp; with_reducible rfl
  simp only [Act.put, List.setIfInBounds_toArray, List.set_cons_zero, List.set_cons_succ]
  refine wpAnyM_take0 (i := 11) (v := ?va10) (by simp; rfl) (by kernel_rfl) (by kernel_rfl) (by kernel_rfl) (fun _ _ _ h => h) (Or.inl ⟨by rfl, ?ya10⟩) ?ra10
  case ya10 => intro w hSw; clear hSw; go_simp; with_reducible rfl
  simp only [Act.put, List.setIfInBounds_toArray, List.set_cons_zero, List.set_cons_succ]
  refine wpAnyM_take0 (i := 14) (v := ?va11) (by simp; rfl) (by kernel_rfl) (by kernel_rfl) (by kernel_rfl) (fun _ _ _ h => h) (Or.inl ⟨by rfl, ?ya11⟩) ?ra11
  case ya11 => intro w hSw; clear hSw; go_simp; with_reducible rfl
  simp only [Act.put, List.setIfInBounds_toArray, List.set_cons_zero, List.set_cons_succ]
  refine wpAnyM_take0 (i := 15) (v := ?va12) (by simp; rfl) (by kernel_rfl) (by kernel_rfl) (by kernel_rfl) (fun _ _ _ h => h) (Or.inl ⟨by rfl, ?ya12⟩) ?ra12
  case ya12 => intro w hSw; clear hSw; go_simp; with_reducible rfl
  simp only [Act.put, List.setIfInBounds_toArray, List.set_cons_zero, List.set_cons_succ]
  refine wpAnyM_ready (rs := [7]) (by kernel_rfl) (by simp) ?_
  refine AllReadyM.cons (by simp; rfl) (fun Kc hKc => ?_) AllReadyM.nil
  go_simp
  refine (copy_at (HPD.out.cac (j := j) (by omega) HEC.out) HOK.out).mono ?_
  rintro e x1 ⟨Q1, v1, rfl, hN⟩
  have HQ1 : Hid (PS w0 x1 P (pcs T g) (put T 9 (.cac Q1 n v1 (L j) (nxR (s j) (p j)))) G) := HPD.out.fresh hN.below 9 hN.at' (fun b hb => hb.elim (fun e => e ▸ hN.q) (fun e => hN.row b e))
  refine hKc.out _ _ (fun _ _ => HQ1.out.pr) ?_
  clear hKc Kc hN
  refine wpAnyM_ready (rs := [9]) (by kernel_rfl) (by simp) ?_
  refine AllReadyM.cons (by simp; rfl) (fun Kc hKc => ?_) AllReadyM.nil
  go_simp
  refine (rcopy_at (HQ1.out.ref (j := j + 2) (by omega) (by rw [put_other _ _ (by omega)]; exact HER.out)) HOK.out.few).mono ?_
  rintro e x2 ⟨R1, vr1, rfl, hN⟩
  have HQ2 : Hid (PS w0 x2 P (pcs T g) (put (put T 9 (.cac Q1 n v1 (L j) (nxR (s j) (p j)))) 10 (.ref R1 n vr1 (L j) (s j) (p j))) G) := HQ1.out.fresh hN.below 10 hN.at' (fun b hb => hb.elim (fun e => e ▸ hN.q) (fun e => hN.row b e))
  refine hKc.out _ _ (fun _ _ => HQ2.out.pr) ?_
  clear hKc Kc hN HQ1
  refine wpAnyM_take0 (i := 12) (v := ?va13) (by simp; rfl) (by kernel_rfl) (by kernel_rfl) (by kernel_rfl) (fun _ _ _ h => h) (Or.inl ⟨by rfl, ?ya13⟩) ?ra13
  case ya13 => intro w hSw; clear hSw; go_simp; with_reducible rfl
  simp only [Act.put, List.setIfInBounds_toArray, List.set_cons_zero, List.set_cons_succ]
  refine wpAnyM_ready (rs := [13]) (by kernel_rfl) (by simp) ?_
  refine AllReadyM.cons (by simp; rfl) (fun Kc hKc => ?_) AllReadyM.nil
  have hcv : x2.cell? ⟨P, o, none⟩ = some (T o).val := HQ2.out.cell (pcs_get (by omega))
  have hfv := HQ2.out.free o
  go_simp
  have HQ3 : Hid (PS w0 (x2.setCell ⟨P, o, none⟩ (.pointer (some ⟨Q1, 0, none⟩))) P ((pcs T g).setIfInBounds o (.pointer (some ⟨Q1, 0, none⟩))) (put (put T 9 (.cac Q1 n v1 (L j) (nxR (s j) (p j)))) 10 (.ref R1 n vr1 (L j) (s j) (p j))) G) := HQ2.out.store o _
  refine hKc.out _ _ (fun h => absurd h (by decide)) ?_
  clear hKc Kc hcv hfv HQ2
  generalize x2.setCell ⟨P, o, none⟩ (.pointer (some ⟨Q1, 0, none⟩)) = x3 at *

  refine wpAnyM_take0 (i := 16) (v := ?va14) (by simp; rfl) (by kernel_rfl) (by kernel_rfl) (by kernel_rfl) (fun _ _ _ h => h) (Or.inl ⟨by rfl, ?ya14⟩) ?ra14
  case ya14 => intro w hSw; clear hSw; go_simp; with_reducible rfl
  simp only [Act.put, List.setIfInBounds_toArray, List.set_cons_zero, List.set_cons_succ]
  refine wpAnyM_ready (rs := [17]) (by kernel_rfl) (by simp) ?_
  refine AllReadyM.cons (by simp; rfl) (fun Kc hKc => ?_) AllReadyM.nil
  have hcv : x3.cell? ⟨P, 2 + o, none⟩ = some (T (2 + o)).val := HQ3.out.cell (by rw [Array.getElem?_setIfInBounds_ne (by omega)]; exact pcs_get (by omega))
  have hfv := HQ3.out.free (2 + o)
  go_simp
  have HQ4 : Hid (PS w0 (x3.setCell ⟨P, 2 + o, none⟩ (.pointer (some ⟨R1, 0, none⟩))) P (((pcs T g).setIfInBounds o (.pointer (some ⟨Q1, 0, none⟩))).setIfInBounds (2 + o) (.pointer (some ⟨R1, 0, none⟩))) (put (put T 9 (.cac Q1 n v1 (L j) (nxR (s j) (p j)))) 10 (.ref R1 n vr1 (L j) (s j) (p j))) G) := HQ3.out.store (2 + o) _
  refine hKc.out _ _ (fun h => absurd h (by decide)) ?_
  clear hKc Kc hcv hfv HQ3
  generalize x3.setCell ⟨P, 2 + o, none⟩ (.pointer (some ⟨R1, 0, none⟩)) = x4 at *

  refine wpAnyM_done (by kernel_rfl) (NoPanic.normal ?_) _
  have hm1 := HQ4.out.move (i := o) (k := 9) (by omega) (by omega) (t := .cac Q1 n v1 (L j) (nxR (s j) (p j))) (G' := G) (S := fun _ => False) (by have := HQ4.out.fam.at' 9 (by decide); rw [put_other _ _ (by decide), put_same] at this; exact this) (Kept.refl _ _) (fun _ h => h.elim) (fun b hb => .inr (.inr ⟨by decide, by rw [put_other _ _ (by decide), put_same]; exact hb⟩)) (fun _ h => h) (fun _ h => .inl h)
  have hm2 := hm1.move (i := o + 2) (k := 10) (by omega) (by omega) (t := .ref R1 n vr1 (L j) (s j) (p j)) (G' := G) (S := fun _ => False) (by have := hm1.fam.at' 10 (by decide); rw [put_other _ _ (by omega), put_other _ _ (by omega), put_same] at this; exact this) (Kept.refl _ _) (fun _ h => h.elim) (fun b hb => .inr (.inr ⟨by decide, by rw [put_other _ _ (by omega), put_other _ _ (by omega), put_same]; exact hb⟩)) (fun _ h => h) (fun _ h => .inl h)
  obtain ⟨T4, hT4⟩ : ∃ T4, T4 = put (put (put (put (put (put T 9 (.cac Q1 n v1 (L j) (nxR (s j) (p j)))) 10 (.ref R1 n vr1 (L j) (s j) (p j))) o (.cac Q1 n v1 (L j) (nxR (s j) (p j)))) 9 .no) (o + 2) (.ref R1 n vr1 (L j) (s j) (p j))) 10 .no := ⟨_, rfl⟩
  rw [← hT4] at hm2
  have HE1 : Hid (T4 o = .cac Q1 n v1 (L j) (nxR (s j) (p j))) := by show _ = _; rw [hT4, put_other _ _ (by omega), put_other _ _ (by omega), put_other _ _ (by omega), put_same]
  have HE2 : Hid (T4 (o + 2) = .ref R1 n vr1 (L j) (s j) (p j)) := by show _ = _; rw [hT4, put_other _ _ (by omega), put_same]
  have HK4 : Hid (∀ i, i < 9 → i ≠ o → i ≠ o + 2 → T4 i = T i) := fun i h1 h2 h3 => by rw [hT4, put_other _ _ (by omega), put_other _ _ h3, put_other _ _ (by omega), put_other _ _ h2, put_other _ _ (by omega), put_other _ _ (by omega)]
  have hpc : ((pcs T g).setIfInBounds o (.pointer (some ⟨Q1, 0, none⟩))).setIfInBounds (2 + o) (.pointer (some ⟨R1, 0, none⟩)) = pcs T4 g := by
    have k := HK4.out
    have k1 := HE1.out
    have k2 := HE2.out
    rcases (show o = 0 ∨ o = 1 by omega) with rfl | rfl
    · simp only [pcs, k 1 (by decide) (by decide) (by decide), k 3 (by decide) (by decide) (by decide), k 4 (by decide) (by decide) (by decide), k 5 (by decide) (by decide) (by decide), k 6 (by decide) (by decide) (by decide), k 7 (by decide) (by decide) (by decide), k 8 (by decide) (by decide) (by decide), k1, show T4 2 = _ from k2]
      rfl
    · simp only [pcs, k 0 (by decide) (by decide) (by decide), k 2 (by decide) (by decide) (by decide), k 4 (by decide) (by decide) (by decide), k 5 (by decide) (by decide) (by decide), k 6 (by decide) (by decide) (by decide), k 7 (by decide) (by decide) (by decide), k 8 (by decide) (by decide) (by decide), k1, show T4 3 = _ from k2]
      rfl
  rw [hpc] at hm2
  have HQ5 : Hid (PS w0 x4.drew P (pcs T4 g) T4 G) := hm2.later (show Below x4.heap.size x4 x4.drew from below_drawn 1)
  have hgc : (pcs T4 g)[8 + o]? = some (.int .i64 (g o)) := by rcases (show o = 0 ∨ o = 1 by omega) with rfl | rfl <;> rfl
  have HGC : Hid ((pcs T4 g)[8 + o]? = some (.int .i64 (g o))) := hgc
  clear hm1 hm2 hT4 hpc HQ4 hgc HPD hHeld
  go_wp2_with fail
  refine wp_region_noPanic ?_
  refine wp_region_stores (fun j => j == 11) (fun W => W.cell? ⟨P, 8 + o, none⟩ = some (.int .i64 (g o))) (by kernel_rfl) ?_
  have hHeld : x4.drew.cell? ⟨P, 8 + o, none⟩ = some (.int .i64 (g o)) := HQ5.out.cell HGC.out
  generalize x4.drew = xD at *
  refine wpAnyM_take0 (i := 0) (v := ?va15) (by simp; rfl) (by kernel_rfl) (by kernel_rfl) (by kernel_rfl) (fun _ _ _ h => h) (Or.inl ⟨by rfl, ?ya15⟩) ?ra15
  case ya15 => intro w hSw; clear hSw; go_simp; with_reducible rfl
  simp only [Act.put, List.setIfInBounds_toArray, List.set_cons_zero, List.set_cons_succ]
  refine wpAnyM_take0 (i := 1) (v := ?va16) (by simp; rfl) (by kernel_rfl) (by kernel_rfl) (by kernel_rfl) (fun _ _ _ h => h) (Or.inl ⟨by rfl, ?ya16⟩) ?ra16
  case ya16 => intro w hSw; clear hSw; go_simp; with_reducible rfl
  simp only [Act.put, List.setIfInBounds_toArray, List.set_cons_zero, List.set_cons_succ]
  refine wpAnyM_take0 (i := 2) (v := ?va17) (by simp; rfl) (by kernel_rfl) (by kernel_rfl) (by kernel_rfl) (fun _ _ _ h => h) (Or.inl ⟨by rfl, ?ya17⟩) ?ra17
  case ya17 => intro w hSw; clear hSw; go_simp; with_reducible rfl
  simp only [Act.put, List.setIfInBounds_toArray, List.set_cons_zero, List.set_cons_succ]
  refine wpAnyM_take0 (i := 3) (v := ?va18) (by simp; rfl) (by kernel_rfl) (by kernel_rfl) (by kernel_rfl) (fun _ _ _ h => h) (Or.inl ⟨by rfl, ?ya18⟩) ?ra18
  case ya18 => intro w hSw; clear hSw; go_simp; with_reducible rfl
  simp only [Act.put, List.setIfInBounds_toArray, List.set_cons_zero, List.set_cons_succ]
  refine wpAnyM_take0 (i := 4) (v := ?va19) (by simp; rfl) (by kernel_rfl) (by kernel_rfl) (by kernel_rfl) (fun _ _ _ h => h) (Or.inl ⟨by rfl, ?ya19⟩) ?ra19
  case ya19 => intro w hSw; clear hSw; go_simp; with_reducible rfl
  simp only [Act.put, List.setIfInBounds_toArray, List.set_cons_zero, List.set_cons_succ]
  refine wpAnyM_take0 (i := 5) (v := ?va20) (by simp; rfl) (by kernel_rfl) (by kernel_rfl) (by kernel_rfl) (fun _ _ _ h => h) (Or.inl ⟨by rfl, ?ya20⟩) ?ra20
  case ya20 => intro w hSw; clear hSw; go_simp; with_reducible rfl
  simp only [Act.put, List.setIfInBounds_toArray, List.set_cons_zero, List.set_cons_succ]
  refine wpAnyM_take (i := 6) (v := ?va21) (by simp; rfl) (by kernel_rfl) (by kernel_rfl) (by kernel_rfl) (by kernel_rfl) (fun _ _ _ h => h) (Or.inl ⟨by rfl, ?ya21⟩) hHeld ?ra21
  case ya21 => intro w hSw; have z := hSw; clear hSw; go_simp; with_reducible rfl
  simp only [Act.put, List.setIfInBounds_toArray, List.set_cons_zero, List.set_cons_succ]
  refine wpAnyM_take0 (i := 7) (v := ?va22) (by simp; rfl) (by kernel_rfl) (by kernel_rfl) (by kernel_rfl) (fun _ _ _ h => h) (Or.inl ⟨by rfl, ?ya22⟩) ?ra22
  case ya22 => intro w hSw; clear hSw; go_simp; with_reducible rfl
  simp only [Act.put, List.setIfInBounds_toArray, List.set_cons_zero, List.set_cons_succ]
  refine wpAnyM_take0 (i := 8) (v := ?va23) (by simp; rfl) (by kernel_rfl) (by kernel_rfl) (by kernel_rfl) (fun _ _ _ h => h) (Or.inl ⟨by rfl, ?ya23⟩) ?ra23
  case ya23 => intro w hSw; clear hSw; go_simp; with_reducible rfl
  simp only [Act.put, List.setIfInBounds_toArray, List.set_cons_zero, List.set_cons_succ]
  refine wpAnyM_take0 (i := 9) (v := ?va24) (by simp; rfl) (by kernel_rfl) (by kernel_rfl) (by kernel_rfl) (fun _ _ _ h => h) (Or.inl ⟨by rfl, ?ya24⟩) ?ra24
  case ya24 => intro w hSw; clear hSw; go_simp; with_reducible rfl
  simp only [Act.put, List.setIfInBounds_toArray, List.set_cons_zero, List.set_cons_succ]
  refine wpAnyM_take0 (i := 10) (v := ?va25) (by simp; rfl) (by kernel_rfl) (by kernel_rfl) (by kernel_rfl) (fun _ _ _ h => h) (Or.inl ⟨by rfl, ?ya25⟩) ?ra25
  case ya25 => intro w hSw; clear hSw; go_simp; with_reducible rfl
  simp only [Act.put, List.setIfInBounds_toArray, List.set_cons_zero, List.set_cons_succ]
  refine wpAnyM_ready (rs := [11]) (by kernel_rfl) (by simp) ?_
  refine AllReadyM.cons (by simp; rfl) (fun Kc hKc => ?_) AllReadyM.nil
  have hcv : xD.cell? ⟨P, 8 + o, none⟩ = some (.int .i64 (g o)) := hHeld
  have hfv := HQ5.out.free (8 + o)
  go_simp
  have HQ6 : Hid (PS w0 (xD.setCell ⟨P, 8 + o, none⟩ (.int .i64 (g o + 1))) P ((pcs T4 g).setIfInBounds (8 + o) (.int .i64 (g o + 1))) T4 G) := HQ5.out.store (8 + o) _
  refine hKc.out _ _ (fun h => absurd h (by decide)) ?_
  clear hKc Kc hcv hfv HQ5
  generalize xD.setCell ⟨P, 8 + o, none⟩ (.int .i64 (g o + 1)) = x6 at *

  refine wpAnyM_done (by kernel_rfl) (NoPanic.normal ?_) _
  have hpc : (pcs T4 g).setIfInBounds (8 + o) (.int .i64 (g o + 1)) = pcs T4 (put g o (g o + 1)) := by
    rcases (show o = 0 ∨ o = 1 by omega) with rfl | rfl <;> rfl
  have hQ6 := HQ6.out
  rw [hpc] at hQ6
  have HFIN : Hid (St w0 x6 P n (a + 1)) := St.copied hQ6 HSH.out hj ho2 hoj HE1.out HE2.out HK4.out
  have c1 : x6.cell? ⟨P, o, none⟩ = some (.pointer (some ⟨Q1, 0, none⟩)) := by rw [hQ6.c (j := o) (by omega), HE1.out]; rfl
  clear hpc hQ6 HQ6
  go_wp2
  go_ret
  exact ⟨rfl, HFIN.out⟩
end
end W
end Go.Proofs.YthcpnfelnonhnaaDoor
