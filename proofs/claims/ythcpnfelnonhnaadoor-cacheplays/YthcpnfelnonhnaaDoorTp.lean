/-
  Layer 17: apart, the walk.
-/
import Derived.Test.YthcpnfelnonhnaaDoorTo
namespace Go.Proofs.YthcpnfelnonhnaaDoor
open Go.RowKit

namespace W
section
variable {w0 w : World} {P a : Nat} {n : Int}
set_option maxRecDepth 100000 in
set_option maxHeartbeats 4000000 in
theorem apart_any (h : St w0 w P n a) (ha : a ≤ 8000) : Calls Tryd.prog 11 #[.pointer (some ⟨P, 0, none⟩)] w fun e w' => e = .returned (.bool true) ∧ Below w0.heap.size w0 w' := by
  obtain ⟨T, G, L, s, p, g, hP, hs⟩ := h
  obtain ⟨v4, us4, v5, us5, ls, e4, e5, hls⟩ := hs.ls
  have l4 := hP.ls (j := 4) (by decide) e4
  have l5 := hP.ls (j := 5) (by decide) e5
  obtain ⟨p4, c4, hv4, -, hg4⟩ := O.own_form l4.row
  obtain ⟨p5, c5, hv5, -, hg5⟩ := O.own_form l5.row
  subst hv4; subst hv5
  have HLS : Hid (∀ l ∈ ls, l.length ≤ 64 ∧ EnsWf l) := hls.2
  have HP : Hid (PS w0 w P (pcs T g) T G) := hP
  have hlen := l4.len
  have hlen5 := l5.len
  have hja : ls.length ≤ 8000 := by have := hls.1; omega
  clear l4 l5 hP hs hls
  go_enter Tryd.func11, Tryd.ntmps11
  go_wp2_with fail
  go_loopw [3] (fun u W => ∃ i : Nat, u = .int .i64 (i : Int) ∧ i ≤ us4.length ∧ Hid (PS w0 W P (pcs T g) T G)) (fun u _ => us4.length - (intOf u).toNat)
  case atStart => exact ⟨0, rfl, by omega, HP⟩
  case round =>
    obtain ⟨i, rfl, hi, HPi⟩ := hrel
    clear HP
    have z4 : wr.cell? ⟨P, 4, none⟩ = some (.slice p4 us4.length c4) := by rw [HPi.out.c (j := 4) (by decide), e4]; rfl
    by_cases hlt : i < us4.length
    · obtain ⟨g4, rfl⟩ := hg4 (by omega)
      obtain ⟨g5, rfl⟩ := hg5 (by omega)
      obtain ⟨u, hu⟩ : ∃ u, us4[i]? = some u := ⟨_, List.getElem?_eq_getElem hlt⟩
      obtain ⟨u5, hu5⟩ : ∃ u5, us5[i]? = some u5 := ⟨_, List.getElem?_eq_getElem (by omega)⟩
      obtain ⟨l, hl⟩ : ∃ l, ls[i]? = some l := ⟨_, List.getElem?_eq_getElem (by omega)⟩
      have HWF : Hid (EnsWf l) := (HLS.out l (List.mem_of_getElem? hl)).2
      have hl64 := (HLS.out l (List.mem_of_getElem? hl)).1
      have HPd : Hid (PS w0 wr.drew P (pcs T g) T G) := HPi.out.later (show Below wr.heap.size wr wr.drew from below_drawn 1)
      have q4 := HPd.out.ls (j := 4) (by decide) e4
      have q5 := HPd.out.ls (j := 5) (by decide) e5
      obtain ⟨pu, cu, hue, hE4, -, -⟩ := EOwn.in (q4.each rfl i u l hu hl) HWF.out
      obtain ⟨pu5, cu5, hue5, hE5, -, -⟩ := EOwn.in (q5.each rfl i u5 l hu5 hl) HWF.out
      subst hue; subst hue5
      have HI4 : Hid (EIn wr.drew pu l.length l) := hE4
      have HI5 : Hid (EIn wr.drew pu5 l.length l) := hE5
      have HC : Hid (∀ W, Below wr.drew.heap.size wr.drew W → W.cell? ⟨P, 4, none⟩ = some (.slice (some ⟨g4, 0, none⟩) us4.length c4) ∧ W.cell? ⟨P, 5, none⟩ = some (.slice (some ⟨g5, 0, none⟩) us5.length c5) ∧ W.cell? ⟨g4, i, none⟩ = some (.slice pu l.length cu) ∧ W.cell? ⟨g5, i, none⟩ = some (.slice pu5 l.length cu5)) := fun W hW => by
        have hpw := HPd.out.later hW
        refine ⟨by rw [hpw.c (j := 4) (by decide), e4]; rfl, by rw [hpw.c (j := 5) (by decide), e5]; rfl, ?_, ?_⟩
        · have := (hpw.ls (j := 4) (by decide) e4).row.cells (g := g4) rfl i _ hu
          rw [Addr.add_mid, Nat.zero_add] at this; exact this
        · have := (hpw.ls (j := 5) (by decide) e5).row.cells (g := g5) rfl i _ hu5
          rw [Addr.add_mid, Nat.zero_add] at this; exact this
      have i1 : (i : Int) < (us4.length : Int) := by omega
      have i5 : (i : Int) < (us5.length : Int) := by omega
      clear q4 q5 hE4 hE5 HPi hu hu5 hl
      go_wp2_with fail
      refine wp_region_noPanic ?_
      refine wp_region_held_drew (S := fun W => Below wr.drew.heap.size wr.drew W) (by kernel_rfl) (Below.refl _ _) (fun hHeld => ?_)
      generalize wr.drew = wD at *
      refine wpAnyH_take (i := 0) (v := ?va1) (by simp; rfl) (by kernel_rfl) (by kernel_rfl) (by kernel_rfl) (fun _ _ _ h => h) (Or.inl ⟨by rfl, ?ya1⟩) hHeld ?ra1
      case ya1 => intro w hSw; clear hSw; go_simp; with_reducible rfl
      simp only [Act.put, List.setIfInBounds_toArray, List.set_cons_zero, List.set_cons_succ]
      refine wpAnyH_take (i := 1) (v := ?va2) (by simp; rfl) (by kernel_rfl) (by kernel_rfl) (by kernel_rfl) (fun _ _ _ h => h) (Or.inl ⟨by rfl, ?ya2⟩) hHeld ?ra2
      case ya2 => intro w hSw; clear hSw; go_simp; with_reducible rfl
      simp only [Act.put, List.setIfInBounds_toArray, List.set_cons_zero, List.set_cons_succ]
      refine wpAnyH_take (i := 2) (v := ?va3) (by simp; rfl) (by kernel_rfl) (by kernel_rfl) (by kernel_rfl) (fun _ _ _ h => h) (Or.inl ⟨by rfl, ?ya3⟩) hHeld ?ra3
      case ya3 => intro w hSw; clear hSw; go_simp; with_reducible rfl
      simp only [Act.put, List.setIfInBounds_toArray, List.set_cons_zero, List.set_cons_succ]
      refine wpAnyH_take (i := 3) (v := ?va4) (by simp; rfl) (by kernel_rfl) (by kernel_rfl) (by kernel_rfl) (fun _ _ _ h => h) (Or.inl ⟨by rfl, ?ya4⟩) hHeld ?ra4
      case ya4 => intro w hSw; obtain ⟨z4, z5, y4, y5⟩ := HC.out w hSw; clear hSw; go_simp; with_reducible rfl
      simp only [Act.put, List.setIfInBounds_toArray, List.set_cons_zero, List.set_cons_succ]
      refine wpAnyH_take (i := 4) (v := ?va5) (by simp; rfl) (by kernel_rfl) (by kernel_rfl) (by kernel_rfl) (fun _ _ _ h => h) (Or.inl ⟨by rfl, ?ya5⟩) hHeld ?ra5
      case ya5 => intro w hSw; clear hSw; go_simp; with_reducible rfl
      simp only [Act.put, List.setIfInBounds_toArray, List.set_cons_zero, List.set_cons_succ]
      refine wpAnyH_take (i := 5) (v := ?va6) (by simp; rfl) (by kernel_rfl) (by kernel_rfl) (by kernel_rfl) (fun _ _ _ h => h) (Or.inl ⟨by rfl, ?ya6⟩) hHeld ?ra6
      case ya6 => intro w hSw; clear hSw; go_simp; with_reducible rfl
      simp only [Act.put, List.setIfInBounds_toArray, List.set_cons_zero, List.set_cons_succ]
      refine wpAnyH_take (i := 6) (v := ?va7) (by simp; rfl) (by kernel_rfl) (by kernel_rfl) (by kernel_rfl) (fun _ _ _ h => h) (Or.inl ⟨by rfl, ?ya7⟩) hHeld ?ra7
      case ya7 => intro w hSw; obtain ⟨z4, z5, y4, y5⟩ := HC.out w hSw; clear hSw; go_simp; with_reducible rfl
      simp only [Act.put, List.setIfInBounds_toArray, List.set_cons_zero, List.set_cons_succ]
      refine wpAnyH_take (i := 8) (v := ?va8) (by simp; rfl) (by kernel_rfl) (by kernel_rfl) (by kernel_rfl) (fun _ _ _ h => h) (Or.inl ⟨by rfl, ?ya8⟩) hHeld ?ra8
      case ya8 => intro w hSw; clear hSw; go_simp; with_reducible rfl
      simp only [Act.put, List.setIfInBounds_toArray, List.set_cons_zero, List.set_cons_succ]
      refine wpAnyH_take (i := 9) (v := ?va9) (by simp; rfl) (by kernel_rfl) (by kernel_rfl) (by kernel_rfl) (fun _ _ _ h => h) (Or.inl ⟨by rfl, ?ya9⟩) hHeld ?ra9
      case ya9 => intro w hSw; clear hSw; go_simp; with_reducible rfl
      simp only [Act.put, List.setIfInBounds_toArray, List.set_cons_zero, List.set_cons_succ]
      refine wpAnyH_take (i := 10) (v := ?va10) (by simp; rfl) (by kernel_rfl) (by kernel_rfl) (by kernel_rfl) (fun _ _ _ h => h) (Or.inl ⟨by rfl, ?ya10⟩) hHeld ?ra10
      case ya10 => intro w hSw; clear hSw; go_simp; with_reducible rfl
      simp only [Act.put, List.setIfInBounds_toArray, List.set_cons_zero, List.set_cons_succ]
      refine wpAnyH_take (i := 11) (v := ?va11) (by simp; rfl) (by kernel_rfl) (by kernel_rfl) (by kernel_rfl) (fun _ _ _ h => h) (Or.inl ⟨by rfl, ?ya11⟩) hHeld ?ra11
      case ya11 => intro w hSw; obtain ⟨z4, z5, y4, y5⟩ := HC.out w hSw; clear hSw; go_simp; with_reducible rfl
      simp only [Act.put, List.setIfInBounds_toArray, List.set_cons_zero, List.set_cons_succ]
      refine wpAnyH_take (i := 12) (v := ?va12) (by simp; rfl) (by kernel_rfl) (by kernel_rfl) (by kernel_rfl) (fun _ _ _ h => h) (Or.inl ⟨by rfl, ?ya12⟩) hHeld ?ra12
      case ya12 => intro w hSw; clear hSw; go_simp; with_reducible rfl
      simp only [Act.put, List.setIfInBounds_toArray, List.set_cons_zero, List.set_cons_succ]
      refine wpAnyH_take (i := 13) (v := ?va13) (by simp; rfl) (by kernel_rfl) (by kernel_rfl) (by kernel_rfl) (fun _ _ _ h => h) (Or.inl ⟨by rfl, ?ya13⟩) hHeld ?ra13
      case ya13 => intro w hSw; clear hSw; go_simp; with_reducible rfl
      simp only [Act.put, List.setIfInBounds_toArray, List.set_cons_zero, List.set_cons_succ]
      refine wpAnyH_take (i := 14) (v := ?va14) (by simp; rfl) (by kernel_rfl) (by kernel_rfl) (by kernel_rfl) (fun _ _ _ h => h) (Or.inl ⟨by rfl, ?ya14⟩) hHeld ?ra14
      case ya14 => intro w hSw; obtain ⟨z4, z5, y4, y5⟩ := HC.out w hSw; clear hSw; go_simp; with_reducible rfl
      simp only [Act.put, List.setIfInBounds_toArray, List.set_cons_zero, List.set_cons_succ]
      refine wpAnyH_ready (rs := [7]) (by kernel_rfl) (by simp) ?_
      refine AllReadyH.cons (by simp; rfl) (fun Kc hKc => ?_) AllReadyH.nil
      go_simp
      refine (plain_at (HI4.out.later hHeld) (by omega)).mono ?_
      rintro e y1 ⟨u1, rfl, ho, hb⟩
      obtain ⟨pp1, cc1, eu1, hE, -, -⟩ := EOwn.in ho HWF.out
      subst eu1
      have HBy1 : Hid (Below wD.heap.size wD y1) := below_then hHeld hb
      have HEy1 : Hid (EIn y1 pp1 l.length l) := hE
      refine hKc.out _ _ HBy1.out (fun hHeld => ?_)
      clear hKc Kc ho hb hE
      refine wpAnyH_ready (rs := [15]) (by kernel_rfl) (by simp) ?_
      refine AllReadyH.cons (by simp; rfl) (fun Kc hKc => ?_) AllReadyH.nil
      go_simp
      refine (same_at HEy1.out (HI5.out.later hHeld) (by omega)).mono ?_
      rintro e y2 ⟨rfl, hb⟩
      rw [ensB_yes rfl]
      have HBz : Hid (Below wD.heap.size wD y2) := below_then hHeld hb
      refine hKc.out _ _ HBz.out (fun hHeld => ?_)
      clear hKc Kc hb
      refine wpAnyH_take (i := 16) (v := ?va15) (by simp; rfl) (by kernel_rfl) (by kernel_rfl) (by kernel_rfl) (fun _ _ _ h => h) (Or.inl ⟨by rfl, ?ya15⟩) hHeld ?ra15
      case ya15 => intro w hSw; clear hSw; go_simp; with_reducible rfl
      simp only [Act.put, List.setIfInBounds_toArray, List.set_cons_zero, List.set_cons_succ]
      clear hHeld
      refine wpAnyH_done (by kernel_rfl) (NoPanic.normal ?_) _
      have HPn : Hid (PS w0 y2 P (pcs T g) T G) := HPd.out.later HBz.out
      clear z4
      go_wp2_with fail
      go_roundw
      case rel => exact ⟨i + 1, by congr 1, by omega, HPn⟩
      case measure => simp [intOf]; omega
    · have HM0 : Hid (Mkd ls ls 0 0) := Mkd.start fun l hl => (HLS.out l hl).2
      have HQ0 : Hid (PS w0 wr P (pcs T g) (put T 4 (.lc (.slice p4 us4.length c4) us4 ls)) G) := by rw [put_idem _ _ e4]; exact HPi.out
      clear HPi
      go_wp2_with fail
      clear z4 hlt hi
      go_loopw [4] (fun u W => ∃ (i : Nat) (ls' : List (List En)), u = .int .i64 (i : Int) ∧ i ≤ us4.length ∧ Hid (PS w0 W P (pcs T g) (put T 4 (.lc (.slice p4 us4.length c4) us4 ls')) G) ∧ Hid (Mkd ls ls' i 0)) (fun u _ => us4.length - (intOf u).toNat)
      case atStart => exact ⟨0, ls, rfl, by omega, HQ0, HM0⟩
      case round =>
        obtain ⟨i, ls1, rfl, hi, HPi, HMi⟩ := hrel
        clear HQ0 HM0
        have z4 : wr.cell? ⟨P, 4, none⟩ = some (.slice p4 us4.length c4) := by rw [HPi.out.cell (j := 4) (pcs_get (by decide)), e4]; rfl
        by_cases hlt : i < us4.length
        · obtain ⟨g4, rfl⟩ := hg4 (by omega)
          obtain ⟨u, hu⟩ : ∃ u, us4[i]? = some u := ⟨_, List.getElem?_eq_getElem hlt⟩
          obtain ⟨l, hl⟩ : ∃ l, ls[i]? = some l := ⟨_, List.getElem?_eq_getElem (by omega)⟩
          have HU : Hid (us4[i]? = some u ∧ ls[i]? = some l) := ⟨hu, hl⟩
          have hl64 := (HLS.out l (List.mem_of_getElem? hl)).1
          have i1 : (i : Int) < (us4.length : Int) := by omega
          have HUS : Hid (∃ pu cu, u = .slice pu l.length cu) := by
            obtain ⟨l', k1, k2, k3, -⟩ := HMi.out.each i l hl
            have hr := (HPi.out.ls (j := 4) (by decide) (put_same _ _ _)).each rfl i u l' hu k1
            obtain ⟨p', c', e', -, -⟩ := O.own_form hr
            exact ⟨p', c', by rw [← k2]; exact e'⟩
          obtain ⟨pu, cu, rfl⟩ := HUS.out
          clear hu hl HUS
          go_wp2_with fail
          clear z4
          go_loopw [5] (fun u W => ∃ (k : Nat) (ls' : List (List En)), u = .int .i64 (k : Int) ∧ k ≤ l.length ∧ Hid (PS w0 W P (pcs T g) (put T 4 (.lc (.slice (some ⟨g4, 0, none⟩) us4.length c4) us4 ls')) G) ∧ Hid (Mkd ls ls' i k)) (fun u _ => l.length - (intOf u).toNat)
          case atStart => exact ⟨0, ls1, rfl, by omega, HPi, HMi⟩
          case round =>
            obtain ⟨k, ls2, rfl, hk, HPk, HMk⟩ := hrel
            clear HPi HMi
            have z4 : wr.cell? ⟨P, 4, none⟩ = some (.slice (some ⟨g4, 0, none⟩) us4.length c4) := by rw [HPk.out.cell (j := 4) (pcs_get (by decide)), e4]; rfl
            have y4 : wr.cell? ⟨g4, i, none⟩ = some (.slice pu l.length cu) := by
              have := (HPk.out.ls (j := 4) (by decide) (put_same _ _ _)).row.cells (g := g4) rfl i _ HU.out.1
              rw [Addr.add_mid, Nat.zero_add] at this; exact this
            by_cases hlk : k < l.length
            · obtain ⟨l', k1, k2, k3, -⟩ := HMk.out.each i l HU.out.2
              obtain ⟨gb, cb, W', eu, hst, hPw⟩ := HPk.out.mark (put_same _ _ _) HU.out.1 k1 k3 (k := k) (by omega) (x := mkA i) (mkA_wf (by omega))
              rw [put_put] at hPw
              simp only [Value.slice.injEq] at eu
              obtain ⟨rfl, -, rfl⟩ := eu
              have HPw : Hid (PS w0 W' P (pcs T g) (put T 4 (.lc (.slice (some ⟨g4, 0, none⟩) us4.length c4) us4 (ls2.set i (l'.set k (mkA i))))) G) := hPw
              have HMw : Hid (Mkd ls (ls2.set i (l'.set k (mkA i))) i (k + 1)) := HMk.out.set HU.out.2 k1 hlk (by omega)
              have HST : Hid ((Instr.storeAt 57 (.pointer (some ⟨gb, k * 34, none⟩)) (.agg (ecells (mkA i)).toArray)).run Tryd.prog wr = .ok () W') := hst
              have HBU : Hid ((Instr.build 57 #[(0, .int .i64 (-100 - (i : Int)))]).run Tryd.prog wr = .ok (.agg (ecells (mkA i)).toArray) wr) := buildEb etC wr _
              have j1 : (k : Int) < (l.length : Int) := by omega
              clear hst hPw k1 k2 k3 HPk HMk
              go_wp2_with ((with_reducible refine at_ops ?_); (first | ((refine wpList_build_is (vs := [(0, .int .i64 (-100 - (i : Int)))]) (by rfl) 57 rfl (by rfl) HBU.out ?_); simp only [Act.put, List.setIfInBounds_toArray, List.set_cons_zero, List.set_cons_succ]) | ((refine wpList_store_is (by rfl) 57 rfl rfl rfl HST.out ?_); simp only [Act.put])))
              go_roundw
              case rel => exact ⟨k + 1, _, by congr 1, by omega, HPw, HMw⟩
              case measure => simp [intOf]; omega
            · have HMn : Hid (Mkd ls ls2 (i + 1) 0) := HMk.out.next HU.out.2 (by omega)
              go_wp2_with fail
              go_roundw
              case rel => exact ⟨i + 1, ls2, by congr 1, by omega, HPk, HMn⟩
              case measure => simp [intOf]; omega
        · obtain ⟨W0, hW0⟩ : ∃ W0, W0 = wr := ⟨_, rfl⟩
          rw [← hW0] at HPi z4 ⊢
          clear hW0
          have q4 := HPi.out.ls (j := 4) (by decide) (put_same _ _ _)
          have HLG : Hid (Lg W0 W0 us4 [] (fun j => (ls.getD j []).length)) := by
            refine ⟨fun j u hu => ?_, fun j x hx => by simp at hx, Kept.refl _ _, fun j y g hy => by simp at hy⟩
            have hjl := (List.getElem?_eq_some_iff.1 hu).1
            obtain ⟨l, hl⟩ : ∃ l, ls[j]? = some l := ⟨_, List.getElem?_eq_getElem (by omega)⟩
            obtain ⟨l', k1, k2, k3, k4, -⟩ := HMi.out.each j l hl
            have hr := q4.each rfl j u l' hu k1
            have e := k4 (by omega)
            rw [show (ls.getD j []) = l by simp [List.getD, hl]]
            rw [e] at hr
            exact hr
          have HSEP : Hid (us4.Pairwise fun u u' => ∀ g, u.ownBlock = some g → u'.ownBlock ≠ some g) := q4.sep
          have HLT : Hid (∀ u ∈ us4, ∀ g, u.ownBlock = some g → g < W0.heap.size) := q4.ltu
          have HCL : Hid (∀ W, Kept (fun k => ∃ u ∈ us4, u.ownBlock = some k) W0 W → W.cell? ⟨P, 4, none⟩ = some (.slice p4 us4.length c4) ∧ W.ownsRow 0 60 1 (.slice p4 us4.length c4) us4.length us4) := fun W hK => by
            have hpp : W.heap[P]? = W0.heap[P]? := hK.block P HPi.out.plt (fun ⟨u, hu, hg⟩ => HPi.out.pf 4 (by decide) (by rw [put_same]; exact .inr ⟨u, hu, hg⟩))
            refine ⟨?_, O.own_far q4.row hK (fun b hb ⟨u, hu, hg⟩ => ?_)⟩
            · have := (World.cell?_of_block (w := W0) (w' := W) (a := ⟨P, 4, none⟩) hpp).trans z4
              exact this
            · obtain ⟨j, hj⟩ := List.getElem?_of_mem hu
              exact O.own_ne q4.row (HLG.out.a j u hj) (by decide) hb hg
          have HBW : Hid (∀ W, Kept (fun k => ∃ u ∈ us4, u.ownBlock = some k) W0 W → Below w0.heap.size w0 W) := fun W hK => hK.into HPi.out.below (fun b hb ⟨u, hu, hg⟩ => by
            have := HPi.out.fam.lo 4 (by decide) b (by rw [put_same]; exact .inr ⟨u, hu, hg⟩)
            omega) (Nat.le_refl _)
          obtain ⟨ns, hns⟩ : ∃ ns : Nat → Nat, ns = fun j => (ls.getD j []).length := ⟨_, rfl⟩
          rw [← hns] at HLG
          have HNS : Hid (∀ j, ns j ≤ 64) := fun j => by
            rw [hns]
            rcases hl : ls[j]? with _ | l
            · simp [List.getD, hl]
            · simp only [List.getD, hl]; exact (HLS.out l (List.mem_of_getElem? hl)).1
          have HV0 : Hid (W0.ownsRow W0.heap.size 60 1 (.slice none 0 0) 0 []) := World.ownsRow_nil _ _ _ _
          clear q4 hns HPi HMi HLS hg5
          go_wp2_with fail
          clear z4 hlt hi
          go_loopw [6, 7] (fun v u W => ∃ (i : Nat) (vs : List Value), u = .int .i64 (i : Int) ∧ i ≤ us4.length ∧ Hid (vs.length = i) ∧ Hid (Lg W0 W us4 vs ns) ∧ Hid (W.ownsRow W0.heap.size 60 1 v vs.length vs)) (fun _ u _ => us4.length - (intOf u).toNat)
          case atStart => exact ⟨0, [], rfl, by omega, rfl, HLG, HV0⟩
          case round =>
            obtain ⟨i, vs, rfl, hi, HVL, HL, HV⟩ := hrel
            clear HLG HV0
            have z4 := (HCL.out wr HL.out.kp).1
            by_cases hlt : i < us4.length
            · obtain ⟨g4, rfl⟩ := hg4 (by omega)
              obtain ⟨u, hu⟩ : ∃ u, us4[i]? = some u := ⟨_, List.getElem?_eq_getElem hlt⟩
              have y4 : wr.cell? ⟨g4, i, none⟩ = some u := by
                have := (HCL.out wr HL.out.kp).2.cells (g := g4) rfl i _ hu
                rw [Addr.add_mid, Nat.zero_add] at this; exact this
              have HCU : Hid (Cu W0 wr us4 vs ns i 0 u) := HL.out.start HSEP.out HLT.out HVL.out hu
              obtain ⟨pu, cu, hue, -, -⟩ := O.own_form HCU.out.row
              rw [List.length_replicate, Nat.add_zero] at hue
              subst hue
              have i1 : (i : Int) < (us4.length : Int) := by omega
              clear hu HL
              go_wp2_with fail
              clear z4 y4
              go_loopw [8, 9] (fun x k W => ∃ b : Nat, k = .int .i64 (b : Int) ∧ b ≤ 16 ∧ Hid (Cu W0 W us4 vs ns i b x) ∧ Hid (W.ownsRow W0.heap.size 60 1 u6 vs.length vs)) (fun _ k _ => 16 - (intOf k).toNat)
              case atStart => exact ⟨0, rfl, by omega, HCU, HV⟩
              case round =>
                obtain ⟨b, rfl, hb, HC, HW⟩ := hrel
                clear HCU HV
                by_cases hb16 : b < 16
                · obtain ⟨g, cap, w1, hap, hcu, hoth⟩ := HC.out.app (by omega) (by have := HNS.out i; omega)
                  have HAP : Hid ((Builtin.append_ #[60, 60] 60 #[u8, .slice (some ⟨wr.heap.size, 0, none⟩) 1 1]).run Tryd.prog (wr.alloc (.cells (ecells (mkA i)).toArray 57)) = .ok (.slice (some ⟨g, 0, none⟩) (ns i + b + 1) cap) w1) := hap
                  have HBU : Hid ((Instr.build 57 #[(0, .int .i64 (-100 - (i : Int)))]).run Tryd.prog wr = .ok (.agg (ecells (mkA i)).toArray) wr) := buildEb etC wr _
                  have HBS : Hid ((Instr.buildSlice 60 1 #[(0, .agg (ecells (mkA i)).toArray)]).run Tryd.prog wr = .ok (.slice (some ⟨wr.heap.size, 0, none⟩) 1 1) (wr.alloc (.cells (ecells (mkA i)).toArray 57))) := build_en etC wr _ (zs_len 32)
                  have HCn : Hid (Cu W0 w1 us4 vs ns i (b + 1) (.slice (some ⟨g, 0, none⟩) (ns i + b + 1) cap)) := hcu
                  have HWn : Hid (w1.ownsRow W0.heap.size 60 1 u6 vs.length vs) := hoth _ _ _ _ _ _ (by decide) HW.out
                  have b1 : (b : Int) < 16 := by omega
                  clear hap hcu hoth HC HW
                  go_wp2_with ((with_reducible refine at_ops ?_); (first | ((refine wpList_build_is (vs := [(0, .int .i64 (-100 - (i : Int)))]) (by rfl) 57 rfl (by rfl) HBU.out ?_); simp only [Act.put, List.setIfInBounds_toArray, List.set_cons_zero, List.set_cons_succ]) | ((refine wpList_slice_is (u := .agg (ecells (mkA i)).toArray) (by rfl) 60 rfl rfl HBS.out ?_); simp only [Act.put, List.setIfInBounds_toArray, List.set_cons_zero, List.set_cons_succ]) | ((refine wpList_append_is (by rfl) rfl rfl rfl rfl HAP.out ?_); simp only [Act.put, List.setIfInBounds_toArray, List.set_cons_zero, List.set_cons_succ])))
                  go_roundw
                  case rel => exact ⟨b + 1, by congr 1, by omega, HCn, HWn⟩
                  case measure => simp [intOf]; omega
                · obtain rfl : b = 16 := by omega
                  have hD := HC.out.done HVL.out
                  obtain ⟨px, cx, hx, -, -⟩ := O.own_form HC.out.row
                  rw [List.length_replicate] at hx
                  subst hx
                  have hb1 := below_alloc wr (.cells #[.slice px (ns i + 16) cx] 60)
                  have hW1 := O.own_later HW.out hb1
                  obtain ⟨v', w2, hap, hr2, hk2, -⟩ := O.run_own elC hW1 36 ⟨wr.heap.size, 0, none⟩ 1 1 [.slice px (ns i + 16) cx] rfl (O.One.made wr 60 _).news (O.one_one rfl) (by rw [HVL.out]; omega) (by have := HC.out.lg.kp.size; have := hb1.size; omega)
                  obtain ⟨p', c', hv', -, -⟩ := O.own_form hr2
                  subst hv'
                  have HAP : Hid ((Builtin.append_ #[36, 36] 36 #[u6, .slice (some ⟨wr.heap.size, 0, none⟩) 1 1]).run Tryd.prog (wr.alloc (.cells #[.slice px (ns i + 16) cx] 60)) = .ok (.slice p' (vs.length + 1) c') w2) := hap
                  have HLn : Hid (Lg W0 w2 us4 (vs ++ [Value.slice px (ns i + 16) cx]) ns) := (hD.later hb1).far (by decide) hW1 hk2
                  have HVn : Hid (w2.ownsRow W0.heap.size 60 1 (.slice p' (vs.length + 1) c') (vs ++ [Value.slice px (ns i + 16) cx]).length (vs ++ [Value.slice px (ns i + 16) cx])) := by rw [List.length_append]; exact hr2
                  have HVLn : Hid ((vs ++ [Value.slice px (ns i + 16) cx]).length = i + 1) := by show _ = _; rw [List.length_append, HVL.out]; rfl
                  clear hD hb1 hW1 hap hr2 hk2 HC HW
                  generalize vs ++ [Value.slice px (ns i + 16) cx] = vs' at *
                  generalize vs.length + 1 = m' at *
                  go_wp2_with ((with_reducible refine at_ops ?_); (refine wpList_append_is (u1 := u6) (u2 := .slice (some ⟨wr.heap.size, 0, none⟩) 1 1) (by rfl) rfl rfl rfl rfl HAP.out ?_); simp only [Act.put, List.setIfInBounds_toArray, List.set_cons_zero, List.set_cons_succ])
                  go_roundw
                  case rel => exact ⟨i + 1, vs', by congr 1, by omega, HVLn, HLn, HVn⟩
                  case measure => simp [intOf]; omega
            · obtain ⟨pV, cV, hV, -, hgV⟩ := O.own_form HV.out
              have hvl : vs.length = us4.length := by rw [HVL.out]; omega
              rw [hvl] at hV hgV
              subst hV
              go_wp2_with fail
              clear hlt hi
              go_loop [10] (fun u => ∃ j : Nat, u = .int .i64 (j : Int) ∧ j ≤ us4.length) (fun u => us4.length - (intOf u).toNat)
              case atStart => exact ⟨0, rfl, by omega⟩
              case round =>
                obtain ⟨j, rfl, hj⟩ := hrel
                by_cases hlt : j < us4.length
                · obtain ⟨g4, rfl⟩ := hg4 (by omega)
                  obtain ⟨gV, rfl⟩ := hgV (by omega)
                  obtain ⟨u, hu⟩ : ∃ u, us4[j]? = some u := ⟨_, List.getElem?_eq_getElem hlt⟩
                  obtain ⟨x, hx⟩ : ∃ x, vs[j]? = some x := ⟨_, List.getElem?_eq_getElem (by omega)⟩
                  have y4 : wr.cell? ⟨g4, j, none⟩ = some u := by
                    have := (HCL.out wr HL.out.kp).2.cells (g := g4) rfl j _ hu
                    rw [Addr.add_mid, Nat.zero_add] at this; exact this
                  have yV : wr.cell? ⟨gV, j, none⟩ = some x := by
                    have := HV.out.cells (g := gV) rfl j _ hx
                    rw [Addr.add_mid, Nat.zero_add] at this; exact this
                  have wfA : ∀ k, EnsWf (rp k j) := fun k e he => by rw [List.eq_of_mem_replicate he]; exact mkA_wf (by omega)
                  obtain ⟨pu, cu, hue, hEu, -, -⟩ := EOwn.in (HL.out.a j u hu) (wfA _)
                  obtain ⟨px, cx, hxe, hEx, -, -⟩ := EOwn.in (HL.out.b j x hx) (wfA _)
                  rw [List.length_replicate] at hue hEu hxe hEx
                  subst hue; subst hxe
                  have HEu : Hid (EIn wr pu (ns j) (rp (ns j) j)) := hEu
                  have HEx : Hid (EIn wr px (ns j + 16) (rp (ns j + 16) j)) := hEx
                  have n64 := HNS.out j
                  have j1 : (j : Int) < (us4.length : Int) := by omega
                  clear hu hx hEu hEx wfA
                  generalize ns j = nj at *
                  go_wp2_with fail
                  go_loop [11] (fun u => ∃ k : Nat, u = .int .i64 (k : Int) ∧ k ≤ nj + 16) (fun u => nj + 16 - (intOf u).toNat)
                  case atStart => exact ⟨0, rfl, by omega⟩
                  case round =>
                    obtain ⟨k, rfl, hk⟩ := hrel
                    by_cases hlk : k < nj + 16
                    · obtain ⟨bx, ox, ex, -⟩ := HEx.out.cells (by omega)
                      subst ex
                      have cx0 := HEx.out.c0 (k := k) (i := mkA j) (by simp [rp, hlk])
                      by_cases hlu : k < nj
                      · obtain ⟨bu, ou, eu, -⟩ := HEu.out.cells (by omega)
                        subst eu
                        have cu0 := HEu.out.c0 (k := k) (i := mkA j) (by simp [rp, hlu])
                        go_wp2_with fail
                        go_round
                        case rel => exact ⟨k + 1, by congr 1, by omega⟩
                        case measure => simp [intOf]; omega
                      · go_wp2_with fail
                        go_round
                        case rel => exact ⟨k + 1, by congr 1, by omega⟩
                        case measure => simp [intOf]; omega
                    · go_wp2_with fail
                      go_round
                      case rel => exact ⟨j + 1, by congr 1, by omega⟩
                      case measure => simp [intOf]; omega
                · go_wp2
                  go_ret
                  exact ⟨rfl, HBW.out wr HL.out.kp⟩
end
end W
end Go.Proofs.YthcpnfelnonhnaaDoor
