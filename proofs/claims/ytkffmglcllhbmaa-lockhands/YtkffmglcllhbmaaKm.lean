/-
  Layer 14: fair, its first loop.
-/
import Derived.Test.YtkffmglcllhbmaaKl
namespace Go.Proofs.Ytkffmglcllhbmaa
open Go.RowKit

/-- what fair reads: the sets, how much is done, who is gone -/
structure Fr (w : World) (K : Nat) (S : Nat → List Int) (d : Nat → Nat) (g : Nat → Bool) (pw pd pg : Option Addr) : Prop where
  wnt : ∀ i, i < K → ∃ b o p c, pw = some ⟨b, o, none⟩ ∧ w.cell? ⟨b, o + i, none⟩ = some (.slice p (S i).length c) ∧ B.IIn w p (S i).length (S i) ∧ (S i).length ≤ c ∧ (p = none → c = 0)
  don : ∀ i, i < K → ∃ b o, pd = some ⟨b, o, none⟩ ∧ w.cell? ⟨b, o + i, none⟩ = some (.int .i64 (d i))
  gon : ∀ i, i < K → ∃ b o, pg = some ⟨b, o, none⟩ ∧ w.cell? ⟨b, o + i, none⟩ = some (.bool (g i))
theorem Fr.later {w w' : World} {K : Nat} {S : Nat → List Int} {d : Nat → Nat} {g : Nat → Bool} {pw pd pg : Option Addr} (h : Fr w K S d g pw pd pg) (hb : Below w.heap.size w w') : Fr w' K S d g pw pd pg := by
  refine ⟨fun i hi => ?_, fun i hi => ?_, fun i hi => ?_⟩
  · obtain ⟨b, o, p, c, h1, h2, h3, h4⟩ := h.wnt i hi
    exact ⟨b, o, p, c, h1, (hb.cell (p := ⟨b, o + i, none⟩) (World.block_lt_of_cell? w _ h2)).trans h2, h3.later hb, h4⟩
  · obtain ⟨b, o, h1, h2⟩ := h.don i hi
    exact ⟨b, o, h1, (hb.cell (p := ⟨b, o + i, none⟩) (World.block_lt_of_cell? w _ h2)).trans h2⟩
  · obtain ⟨b, o, h1, h2⟩ := h.gon i hi
    exact ⟨b, o, h1, (hb.cell (p := ⟨b, o + i, none⟩) (World.block_lt_of_cell? w _ h2)).trans h2⟩
section
variable {w0 w : World} {Q n N K : Nat} {last : Int} {S : Nat → List Int} {d : Nat → Nat} {g : Nat → Bool} {X : Nat → Prop}
theorem o_heldF (h : Own w0 w Q n ⟨N, last, entF K S d g⟩ X) {k : Nat} (hk : k < K ∧ K ≤ 10) (hg : g k = false) : Calls Try.prog 15 #[qp Q, .int .u64 ((k : Int) + 1)] w fun e w' => ∃ q c, e = .returned (.slice q (d k) c) ∧ B.Made w w' q (d k) c ((S k).take (d k)) ∧ Own w0 w' Q n ⟨N, last, entF K S d g⟩ X := by
  have he := ent_entF h.ok.rise hk.1 hg
  have := o_held h (t := (k : Int) + 1) (u64_small (by omega) (by omega))
  rw [show ent (Lk.L ⟨N, last, entF K S d g⟩) ((k : Int) + 1) = ⟨(k : Int) + 1, S k, d k⟩ from he] at this
  exact this
set_option maxHeartbeats 2000000 in
set_option maxRecDepth 100000 in
theorem fair_try (h : Own w0 w Q n ⟨N, last, entF K S d g⟩ X) (hn : n ≤ 10000) (hK : K ≤ 10) (hS : ∀ i, i < K → (S i).length ≤ 64) {pw pd pg : Option Addr} {cw cd cg : Nat} (hF : Fr w K S d g pw pd pg) : Calls Try.prog 21 #[qp Q, .int .i64 N, .slice pw K cw, .slice pd K cd, .slice pg K cg] w fun e w' => e = .returned (.bool true) ∧ Below w.heap.size w w' := by
  have hb64 := h.ok.b64
  obtain ⟨i0, hi, hz0, hz1, hz2⟩ := info_parts info26
  have hml : 1000 ≤ maxLen := by decide
  have HO : Hid (Own w0 w Q n ⟨N, last, entF K S d g⟩ X) := h
  have HF : Hid (Fr w K S d g pw pd pg) := hF
  have HD : Hid (∀ i, i < K → g i = false → d i ≤ (S i).length ∧ (S i).length ≤ 64) := fun i hi hg => by
    have hm := mem_entF.2 (⟨i, hi, hg, rfl⟩ : ∃ j, j < K ∧ g j = false ∧ (⟨(i : Int) + 1, S i, d i⟩ : En) = ⟨(j : Int) + 1, S j, d j⟩)
    exact ⟨h.ok.don _ hm, h.ok.slen hm⟩
  clear h hF
  go_enter Try.func21, Try.ntmps21
  go_wp2
  go_loopw [11, 24] (fun l i wr => ∃ (k : Nat) (lb : Bool), k ≤ K ∧ i = .int .i64 k ∧ l = .bool lb ∧ Hid (lb = true → ∀ i, i < k → g i = true) ∧ Hid (Below w.heap.size w wr)) (fun _ i _ => K - (intOf i).toNat)
  case atStart => exact ⟨0, true, Nat.zero_le _, rfl, rfl, fun _ i hi => absurd hi (Nat.not_lt_zero _), Below.refl _ _⟩
  case round =>
    obtain ⟨k, lb, hk2, rfl, rfl, HL, HB⟩ := hrel
    by_cases hlt : k < K
    · have i1 : (k : Int) < (K : Int) := by omega
      obtain ⟨bg, og, rfl, cg1⟩ := (HF.out.later HB.out).gon k hlt
      cases hg : g k with
      | true =>
        rw [hg] at cg1
        have HL2 : Hid (lb = true → ∀ i, i < k + 1 → g i = true) := fun e i hi => by
          by_cases e2 : i = k
          · subst e2; exact hg
          · exact HL.out e i (by omega)
        clear HL
        go_wp2
        go_roundw
        case rel => exact ⟨k + 1, lb, by omega, by go_num, rfl, HL2.out, HB.out⟩
        case measure => simp [intOf]; omega
      | false =>
        rw [hg] at cg1
        have hk : k < K ∧ K ≤ 10 := ⟨hlt, hK⟩
        obtain ⟨hdk, hsk⟩ := HD.out k hlt hg
        obtain ⟨bw, ow, pk, ck, rfl, cw1, hI, hsc, _⟩ := (HF.out.later HB.out).wnt k hlt
        obtain ⟨bd, od, rfl, cd1⟩ := (HF.out.later HB.out).don k hlt
        have HC : Hid (∀ w', Below wr.heap.size wr w' → w'.cell? ⟨bw, ow + k, none⟩ = some (.slice pk (S k).length ck) ∧ w'.cell? ⟨bd, od + k, none⟩ = some (.int .i64 (d k))) := fun w' hb => ⟨(hb.cell (p := ⟨bw, ow + k, none⟩) (World.block_lt_of_cell? wr _ cw1)).trans cw1, (hb.cell (p := ⟨bd, od + k, none⟩) (World.block_lt_of_cell? wr _ cd1)).trans cd1⟩
        have HI : Hid (∀ w', Below wr.heap.size wr w' → B.IIn w' pk (S k).length (S k)) := fun w' hb => hI.later hb
        have i2 : (d k : Int) ≤ (ck : Int) := by omega
        clear cw1 cd1 hI
        cases lb with
        | false =>
          clear HL
          go_wp2_with fail
          refine wp_region_noPanic ?_
          refine wp_region_held_drew (S := fun w' => Below wr.heap.size wr w') (by kernel_rfl) (below_drawn 1) (fun hHeld => ?_)
          generalize wr.drew = wd at *
          refine wpAnyH_take (i := 0) (v := ?va1) (by simp; rfl) (by kernel_rfl) (by kernel_rfl) (by kernel_rfl) (fun _ _ _ h => h) (Or.inl ⟨by rfl, ?ya1⟩) hHeld ?ra1
          case ya1 => intro w hSw; clear hSw; go_simp; with_reducible rfl
          simp only [Act.put, List.setIfInBounds_toArray, List.set_cons_zero, List.set_cons_succ]
          refine wpAnyH_take (i := 1) (v := ?va2) (by simp; rfl) (by kernel_rfl) (by kernel_rfl) (by kernel_rfl) (fun _ _ _ h => h) (Or.inl ⟨by rfl, ?ya2⟩) hHeld ?ra2
          case ya2 => intro w hSw; clear hSw; go_simp; with_reducible rfl
          simp only [Act.put, List.setIfInBounds_toArray, List.set_cons_zero, List.set_cons_succ]
          refine wpAnyH_take (i := 3) (v := ?va3) (by simp; rfl) (by kernel_rfl) (by kernel_rfl) (by kernel_rfl) (fun _ _ _ h => h) (Or.inl ⟨by rfl, ?ya3⟩) hHeld ?ra3
          case ya3 => intro w hSw; clear hSw; go_simp; with_reducible rfl
          simp only [Act.put, List.setIfInBounds_toArray, List.set_cons_zero, List.set_cons_succ]
          refine wpAnyH_take (i := 4) (v := ?va4) (by simp; rfl) (by kernel_rfl) (by kernel_rfl) (by kernel_rfl) (fun _ _ _ h => h) (Or.inl ⟨by rfl, ?ya4⟩) hHeld ?ra4
          case ya4 => intro w hSw; clear hSw; go_simp; with_reducible rfl
          simp only [Act.put, List.setIfInBounds_toArray, List.set_cons_zero, List.set_cons_succ]
          refine wpAnyH_take (i := 5) (v := ?va5) (by simp; rfl) (by kernel_rfl) (by kernel_rfl) (by kernel_rfl) (fun _ _ _ h => h) (Or.inl ⟨by rfl, ?ya5⟩) hHeld ?ra5
          case ya5 => intro w hSw; clear hSw; go_simp; with_reducible rfl
          simp only [Act.put, List.setIfInBounds_toArray, List.set_cons_zero, List.set_cons_succ]
          refine wpAnyH_take (i := 6) (v := ?va6) (by simp; rfl) (by kernel_rfl) (by kernel_rfl) (by kernel_rfl) (fun _ _ _ h => h) (Or.inl ⟨by rfl, ?ya6⟩) hHeld ?ra6
          case ya6 => intro w hSw; have z := (HC.out w hSw).1; clear hSw; go_simp; with_reducible rfl
          simp only [Act.put, List.setIfInBounds_toArray, List.set_cons_zero, List.set_cons_succ]
          refine wpAnyH_take (i := 7) (v := ?va7) (by simp; rfl) (by kernel_rfl) (by kernel_rfl) (by kernel_rfl) (fun _ _ _ h => h) (Or.inl ⟨by rfl, ?ya7⟩) hHeld ?ra7
          case ya7 => intro w hSw; clear hSw; go_simp; with_reducible rfl
          simp only [Act.put, List.setIfInBounds_toArray, List.set_cons_zero, List.set_cons_succ]
          refine wpAnyH_take (i := 8) (v := ?va8) (by simp; rfl) (by kernel_rfl) (by kernel_rfl) (by kernel_rfl) (fun _ _ _ h => h) (Or.inl ⟨by rfl, ?ya8⟩) hHeld ?ra8
          case ya8 => intro w hSw; clear hSw; go_simp; with_reducible rfl
          simp only [Act.put, List.setIfInBounds_toArray, List.set_cons_zero, List.set_cons_succ]
          refine wpAnyH_take (i := 9) (v := ?va9) (by simp; rfl) (by kernel_rfl) (by kernel_rfl) (by kernel_rfl) (fun _ _ _ h => h) (Or.inl ⟨by rfl, ?ya9⟩) hHeld ?ra9
          case ya9 => intro w hSw; clear hSw; go_simp; with_reducible rfl
          simp only [Act.put, List.setIfInBounds_toArray, List.set_cons_zero, List.set_cons_succ]
          refine wpAnyH_take (i := 10) (v := ?va10) (by simp; rfl) (by kernel_rfl) (by kernel_rfl) (by kernel_rfl) (fun _ _ _ h => h) (Or.inl ⟨by rfl, ?ya10⟩) hHeld ?ra10
          case ya10 => intro w hSw; have z := (HC.out w hSw).2; clear hSw; go_simp; with_reducible rfl
          simp only [Act.put, List.setIfInBounds_toArray, List.set_cons_zero, List.set_cons_succ]
          refine wpAnyH_take (i := 11) (v := ?va11) (by simp; rfl) (by kernel_rfl) (by kernel_rfl) (by kernel_rfl) (fun _ _ _ h => h) (Or.inl ⟨by rfl, ?ya11⟩) hHeld ?ra11
          case ya11 => intro w hSw; clear hSw; go_simp; with_reducible rfl
          simp only [Act.put, List.setIfInBounds_toArray, List.set_cons_zero, List.set_cons_succ]
          refine wpAnyH_ready (rs := [2]) (by kernel_rfl) (by simp) ?_
          refine AllReadyH.cons (by simp; rfl) (fun Kc hKc => ?_) AllReadyH.nil
          go_simp
          refine (o_heldF (HO.out.later (below_then HB.out hHeld)) hk hg).mono ?_
          rintro e w5 ⟨q, c5, rfl, hm, h5⟩
          have H5 : Hid (B.Made wd w5 q (d k) c5 ((S k).take (d k)) ∧ Own w0 w5 Q n ⟨N, last, entF K S d g⟩ X) := ⟨hm, h5⟩
          have HB5 : Hid (Below wr.heap.size wr w5) := below_then hHeld hm.below
          clear hm h5
          refine hKc.out _ _ HB5.out (fun hHeld => ?_)
          clear hKc Kc
          refine wpAnyH_ready (rs := [12]) (by kernel_rfl) (by simp) ?_
          refine AllReadyH.cons (by simp; rfl) (fun Kc hKc => ?_) AllReadyH.nil
          go_simp
          refine (sameI_is q pk (d k) c5 (d k) ck ((S k).take (d k)) ((S k).take (d k)) w5 H5.out.1.read (IIn.take (HI.out w5 HB5.out) (d k) (by omega)) (by omega)).mono ?_
          rintro e w6 ⟨rfl, m6, hm6⟩
          have HB6 : Hid (Below wr.heap.size wr w6) := by rw [hm6]; exact below_then HB5.out (below_drawn m6)
          clear hm6
          refine hKc.out _ _ HB6.out (fun hHeld => ?_)
          clear hKc Kc
          simp only [decide_true]
          refine wpAnyH_take (i := 13) (v := ?va12) (by simp; rfl) (by kernel_rfl) (by kernel_rfl) (by kernel_rfl) (fun _ _ _ h => h) (Or.inl ⟨by rfl, ?ya12⟩) hHeld ?ra12
          case ya12 => intro w hSw; clear hSw; go_simp; with_reducible rfl
          simp only [Act.put, List.setIfInBounds_toArray, List.set_cons_zero, List.set_cons_succ]
          refine wpAnyH_take (i := 14) (v := ?va13) (by simp; rfl) (by kernel_rfl) (by kernel_rfl) (by kernel_rfl) (fun _ _ _ h => h) (Or.inl ⟨by rfl, ?ya13⟩) hHeld ?ra13
          case ya13 => intro w hSw; clear hSw; go_simp; with_reducible rfl
          simp only [Act.put, List.setIfInBounds_toArray, List.set_cons_zero, List.set_cons_succ]
          refine wpAnyH_take (i := 15) (v := ?va14) (by simp; rfl) (by kernel_rfl) (by kernel_rfl) (by kernel_rfl) (fun _ _ _ h => h) (Or.inl ⟨by rfl, ?ya14⟩) hHeld ?ra14
          case ya14 => intro w hSw; clear hSw; go_simp; with_reducible rfl
          simp only [Act.put, List.setIfInBounds_toArray, List.set_cons_zero, List.set_cons_succ]
          refine wpAnyH_take (i := 16) (v := ?va15) (by simp; rfl) (by kernel_rfl) (by kernel_rfl) (by kernel_rfl) (fun _ _ _ h => h) (Or.inl ⟨by rfl, ?ya15⟩) hHeld ?ra15
          case ya15 => intro w hSw; clear hSw; go_simp; with_reducible rfl
          simp only [Act.put, List.setIfInBounds_toArray, List.set_cons_zero, List.set_cons_succ]
          refine wpAnyH_take (i := 17) (v := undef) (by simp; rfl) (by kernel_rfl) (by kernel_rfl) (by kernel_rfl) (fun _ _ _ h => h) (Or.inr ⟨by rfl, rfl⟩) hHeld ?_
          simp only [Act.put, List.setIfInBounds_toArray, List.set_cons_zero, List.set_cons_succ]
          refine wpAnyH_take (i := 18) (v := undef) (by simp; rfl) (by kernel_rfl) (by kernel_rfl) (by kernel_rfl) (fun _ _ _ h => h) (Or.inr ⟨by rfl, rfl⟩) hHeld ?_
          simp only [Act.put, List.setIfInBounds_toArray, List.set_cons_zero, List.set_cons_succ]
          refine wpAnyH_take (i := 19) (v := undef) (by simp; rfl) (by kernel_rfl) (by kernel_rfl) (by kernel_rfl) (fun _ _ _ h => h) (Or.inr ⟨by rfl, rfl⟩) hHeld ?_
          simp only [Act.put, List.setIfInBounds_toArray, List.set_cons_zero, List.set_cons_succ]
          refine wpAnyH_take (i := 20) (v := undef) (by simp; rfl) (by kernel_rfl) (by kernel_rfl) (by kernel_rfl) (fun _ _ _ h => h) (Or.inr ⟨by rfl, rfl⟩) hHeld ?_
          simp only [Act.put, List.setIfInBounds_toArray, List.set_cons_zero, List.set_cons_succ]
          refine wpAnyH_take (i := 21) (v := undef) (by simp; rfl) (by kernel_rfl) (by kernel_rfl) (by kernel_rfl) (fun _ _ _ h => h) (Or.inr ⟨by rfl, rfl⟩) hHeld ?_
          simp only [Act.put, List.setIfInBounds_toArray, List.set_cons_zero, List.set_cons_succ]
          refine wpAnyH_take (i := 22) (v := undef) (by simp; rfl) (by kernel_rfl) (by kernel_rfl) (by kernel_rfl) (fun _ _ _ h => h) (Or.inr ⟨by rfl, rfl⟩) hHeld ?_
          simp only [Act.put, List.setIfInBounds_toArray, List.set_cons_zero, List.set_cons_succ]
          refine wpAnyH_take (i := 23) (v := undef) (by simp; rfl) (by kernel_rfl) (by kernel_rfl) (by kernel_rfl) (fun _ _ _ h => h) (Or.inr ⟨by rfl, rfl⟩) hHeld ?_
          simp only [Act.put, List.setIfInBounds_toArray, List.set_cons_zero, List.set_cons_succ]
          refine wpAnyH_take (i := 24) (v := undef) (by simp; rfl) (by kernel_rfl) (by kernel_rfl) (by kernel_rfl) (fun _ _ _ h => h) (Or.inr ⟨by rfl, rfl⟩) hHeld ?_
          simp only [Act.put, List.setIfInBounds_toArray, List.set_cons_zero, List.set_cons_succ]
          refine wpAnyH_take (i := 25) (v := undef) (by simp; rfl) (by kernel_rfl) (by kernel_rfl) (by kernel_rfl) (fun _ _ _ h => h) (Or.inr ⟨by rfl, rfl⟩) hHeld ?_
          simp only [Act.put, List.setIfInBounds_toArray, List.set_cons_zero, List.set_cons_succ]
          refine wpAnyH_take (i := 26) (v := undef) (by simp; rfl) (by kernel_rfl) (by kernel_rfl) (by kernel_rfl) (fun _ _ _ h => h) (Or.inr ⟨by rfl, rfl⟩) hHeld ?_
          simp only [Act.put, List.setIfInBounds_toArray, List.set_cons_zero, List.set_cons_succ]
          refine wpAnyH_take (i := 27) (v := ?va16) (by simp; rfl) (by kernel_rfl) (by kernel_rfl) (by kernel_rfl) (fun _ _ _ h => h) (Or.inl ⟨by rfl, ?ya16⟩) hHeld ?ra16
          case ya16 => intro w hSw; clear hSw; go_simp; with_reducible rfl
          simp only [Act.put, List.setIfInBounds_toArray, List.set_cons_zero, List.set_cons_succ]
          refine wpAnyH_take (i := 28) (v := ?va17) (by simp; rfl) (by kernel_rfl) (by kernel_rfl) (by kernel_rfl) (fun _ _ _ h => h) (Or.inl ⟨by rfl, ?ya17⟩) hHeld ?ra17
          case ya17 => intro w hSw; clear hSw; go_simp; with_reducible rfl
          simp only [Act.put, List.setIfInBounds_toArray, List.set_cons_zero, List.set_cons_succ]
          refine wpAnyH_take (i := 29) (v := undef) (by simp; rfl) (by kernel_rfl) (by kernel_rfl) (by kernel_rfl) (fun _ _ _ h => h) (Or.inr ⟨by rfl, rfl⟩) hHeld ?_
          simp only [Act.put, List.setIfInBounds_toArray, List.set_cons_zero, List.set_cons_succ]
          refine wpAnyH_take (i := 30) (v := undef) (by simp; rfl) (by kernel_rfl) (by kernel_rfl) (by kernel_rfl) (fun _ _ _ h => h) (Or.inr ⟨by rfl, rfl⟩) hHeld ?_
          simp only [Act.put, List.setIfInBounds_toArray, List.set_cons_zero, List.set_cons_succ]
          refine wpAnyH_take (i := 31) (v := undef) (by simp; rfl) (by kernel_rfl) (by kernel_rfl) (by kernel_rfl) (fun _ _ _ h => h) (Or.inr ⟨by rfl, rfl⟩) hHeld ?_
          simp only [Act.put, List.setIfInBounds_toArray, List.set_cons_zero, List.set_cons_succ]
          refine wpAnyH_take (i := 32) (v := undef) (by simp; rfl) (by kernel_rfl) (by kernel_rfl) (by kernel_rfl) (fun _ _ _ h => h) (Or.inr ⟨by rfl, rfl⟩) hHeld ?_
          simp only [Act.put, List.setIfInBounds_toArray, List.set_cons_zero, List.set_cons_succ]
          refine wpAnyH_take (i := 33) (v := ?va18) (by simp; rfl) (by kernel_rfl) (by kernel_rfl) (by kernel_rfl) (fun _ _ _ h => h) (Or.inl ⟨by rfl, ?ya18⟩) hHeld ?ra18
          case ya18 => intro w hSw; clear hSw; go_simp; with_reducible rfl
          simp only [Act.put, List.setIfInBounds_toArray, List.set_cons_zero, List.set_cons_succ]
          refine wpAnyH_take (i := 34) (v := ?va19) (by simp; rfl) (by kernel_rfl) (by kernel_rfl) (by kernel_rfl) (fun _ _ _ h => h) (Or.inl ⟨by rfl, ?ya19⟩) hHeld ?ra19
          case ya19 => intro w hSw; clear hSw; go_simp; with_reducible rfl
          simp only [Act.put, List.setIfInBounds_toArray, List.set_cons_zero, List.set_cons_succ]
          have HBZ : Hid (Below w.heap.size w w6) := below_then HB.out hHeld
          clear hHeld
          refine wpAnyH_done (by kernel_rfl) (NoPanic.normal ?_) _
          clear HC HI H5 HB5 HB6
          go_wp2
          go_roundw
          case rel => exact ⟨k + 1, false, by omega, by go_num, rfl, fun e => (by cases e), HBZ.out⟩
          case measure => simp [intOf]; omega
        | true =>
          by_cases hdl : d k < (S k).length
          · have HRD : Hid (rdyS (entF K S d g) ((k : Int) + 1) = true) := least_rdy HO.out.ok hlt hg (HL.out rfl) hdl
            have i3 : (d k : Int) < ((S k).length : Int) := by omega
            clear HL
            go_wp2_with fail
            refine wp_region_noPanic ?_
            refine wp_region_held_drew (S := fun w' => Below wr.heap.size wr w') (by kernel_rfl) (below_drawn 1) (fun hHeld => ?_)
            generalize wr.drew = wd at *
            refine wpAnyH_take (i := 0) (v := ?va20) (by simp; rfl) (by kernel_rfl) (by kernel_rfl) (by kernel_rfl) (fun _ _ _ h => h) (Or.inl ⟨by rfl, ?ya20⟩) hHeld ?ra20
            case ya20 => intro w hSw; clear hSw; go_simp; with_reducible rfl
            simp only [Act.put, List.setIfInBounds_toArray, List.set_cons_zero, List.set_cons_succ]
            refine wpAnyH_take (i := 1) (v := ?va21) (by simp; rfl) (by kernel_rfl) (by kernel_rfl) (by kernel_rfl) (fun _ _ _ h => h) (Or.inl ⟨by rfl, ?ya21⟩) hHeld ?ra21
            case ya21 => intro w hSw; clear hSw; go_simp; with_reducible rfl
            simp only [Act.put, List.setIfInBounds_toArray, List.set_cons_zero, List.set_cons_succ]
            refine wpAnyH_take (i := 3) (v := ?va22) (by simp; rfl) (by kernel_rfl) (by kernel_rfl) (by kernel_rfl) (fun _ _ _ h => h) (Or.inl ⟨by rfl, ?ya22⟩) hHeld ?ra22
            case ya22 => intro w hSw; clear hSw; go_simp; with_reducible rfl
            simp only [Act.put, List.setIfInBounds_toArray, List.set_cons_zero, List.set_cons_succ]
            refine wpAnyH_take (i := 4) (v := ?va23) (by simp; rfl) (by kernel_rfl) (by kernel_rfl) (by kernel_rfl) (fun _ _ _ h => h) (Or.inl ⟨by rfl, ?ya23⟩) hHeld ?ra23
            case ya23 => intro w hSw; clear hSw; go_simp; with_reducible rfl
            simp only [Act.put, List.setIfInBounds_toArray, List.set_cons_zero, List.set_cons_succ]
            refine wpAnyH_take (i := 5) (v := ?va24) (by simp; rfl) (by kernel_rfl) (by kernel_rfl) (by kernel_rfl) (fun _ _ _ h => h) (Or.inl ⟨by rfl, ?ya24⟩) hHeld ?ra24
            case ya24 => intro w hSw; clear hSw; go_simp; with_reducible rfl
            simp only [Act.put, List.setIfInBounds_toArray, List.set_cons_zero, List.set_cons_succ]
            refine wpAnyH_take (i := 6) (v := ?va25) (by simp; rfl) (by kernel_rfl) (by kernel_rfl) (by kernel_rfl) (fun _ _ _ h => h) (Or.inl ⟨by rfl, ?ya25⟩) hHeld ?ra25
            case ya25 => intro w hSw; have z := (HC.out w hSw).1; clear hSw; go_simp; with_reducible rfl
            simp only [Act.put, List.setIfInBounds_toArray, List.set_cons_zero, List.set_cons_succ]
            refine wpAnyH_take (i := 7) (v := ?va26) (by simp; rfl) (by kernel_rfl) (by kernel_rfl) (by kernel_rfl) (fun _ _ _ h => h) (Or.inl ⟨by rfl, ?ya26⟩) hHeld ?ra26
            case ya26 => intro w hSw; clear hSw; go_simp; with_reducible rfl
            simp only [Act.put, List.setIfInBounds_toArray, List.set_cons_zero, List.set_cons_succ]
            refine wpAnyH_take (i := 8) (v := ?va27) (by simp; rfl) (by kernel_rfl) (by kernel_rfl) (by kernel_rfl) (fun _ _ _ h => h) (Or.inl ⟨by rfl, ?ya27⟩) hHeld ?ra27
            case ya27 => intro w hSw; clear hSw; go_simp; with_reducible rfl
            simp only [Act.put, List.setIfInBounds_toArray, List.set_cons_zero, List.set_cons_succ]
            refine wpAnyH_take (i := 9) (v := ?va28) (by simp; rfl) (by kernel_rfl) (by kernel_rfl) (by kernel_rfl) (fun _ _ _ h => h) (Or.inl ⟨by rfl, ?ya28⟩) hHeld ?ra28
            case ya28 => intro w hSw; clear hSw; go_simp; with_reducible rfl
            simp only [Act.put, List.setIfInBounds_toArray, List.set_cons_zero, List.set_cons_succ]
            refine wpAnyH_take (i := 10) (v := ?va29) (by simp; rfl) (by kernel_rfl) (by kernel_rfl) (by kernel_rfl) (fun _ _ _ h => h) (Or.inl ⟨by rfl, ?ya29⟩) hHeld ?ra29
            case ya29 => intro w hSw; have z := (HC.out w hSw).2; clear hSw; go_simp; with_reducible rfl
            simp only [Act.put, List.setIfInBounds_toArray, List.set_cons_zero, List.set_cons_succ]
            refine wpAnyH_take (i := 11) (v := ?va30) (by simp; rfl) (by kernel_rfl) (by kernel_rfl) (by kernel_rfl) (fun _ _ _ h => h) (Or.inl ⟨by rfl, ?ya30⟩) hHeld ?ra30
            case ya30 => intro w hSw; clear hSw; go_simp; with_reducible rfl
            simp only [Act.put, List.setIfInBounds_toArray, List.set_cons_zero, List.set_cons_succ]
            refine wpAnyH_ready (rs := [2]) (by kernel_rfl) (by simp) ?_
            refine AllReadyH.cons (by simp; rfl) (fun Kc hKc => ?_) AllReadyH.nil
            go_simp
            refine (o_heldF (HO.out.later (below_then HB.out hHeld)) hk hg).mono ?_
            rintro e w5 ⟨q, c5, rfl, hm, h5⟩
            have H5 : Hid (B.Made wd w5 q (d k) c5 ((S k).take (d k)) ∧ Own w0 w5 Q n ⟨N, last, entF K S d g⟩ X) := ⟨hm, h5⟩
            have HB5 : Hid (Below wr.heap.size wr w5) := below_then hHeld hm.below
            clear hm h5
            refine hKc.out _ _ HB5.out (fun hHeld => ?_)
            clear hKc Kc
            refine wpAnyH_ready (rs := [12]) (by kernel_rfl) (by simp) ?_
            refine AllReadyH.cons (by simp; rfl) (fun Kc hKc => ?_) AllReadyH.nil
            go_simp
            refine (sameI_is q pk (d k) c5 (d k) ck ((S k).take (d k)) ((S k).take (d k)) w5 H5.out.1.read (IIn.take (HI.out w5 HB5.out) (d k) (by omega)) (by omega)).mono ?_
            rintro e w6 ⟨rfl, m6, hm6⟩
            have HB6 : Hid (Below wr.heap.size wr w6) := by rw [hm6]; exact below_then HB5.out (below_drawn m6)
            clear hm6
            refine hKc.out _ _ HB6.out (fun hHeld => ?_)
            clear hKc Kc
            simp only [decide_true]
            refine wpAnyH_take (i := 13) (v := ?va31) (by simp; rfl) (by kernel_rfl) (by kernel_rfl) (by kernel_rfl) (fun _ _ _ h => h) (Or.inl ⟨by rfl, ?ya31⟩) hHeld ?ra31
            case ya31 => intro w hSw; clear hSw; go_simp; with_reducible rfl
            simp only [Act.put, List.setIfInBounds_toArray, List.set_cons_zero, List.set_cons_succ]
            refine wpAnyH_take (i := 14) (v := ?va32) (by simp; rfl) (by kernel_rfl) (by kernel_rfl) (by kernel_rfl) (fun _ _ _ h => h) (Or.inl ⟨by rfl, ?ya32⟩) hHeld ?ra32
            case ya32 => intro w hSw; clear hSw; go_simp; with_reducible rfl
            simp only [Act.put, List.setIfInBounds_toArray, List.set_cons_zero, List.set_cons_succ]
            refine wpAnyH_take (i := 15) (v := ?va33) (by simp; rfl) (by kernel_rfl) (by kernel_rfl) (by kernel_rfl) (fun _ _ _ h => h) (Or.inl ⟨by rfl, ?ya33⟩) hHeld ?ra33
            case ya33 => intro w hSw; clear hSw; go_simp; with_reducible rfl
            simp only [Act.put, List.setIfInBounds_toArray, List.set_cons_zero, List.set_cons_succ]
            refine wpAnyH_take (i := 16) (v := ?va34) (by simp; rfl) (by kernel_rfl) (by kernel_rfl) (by kernel_rfl) (fun _ _ _ h => h) (Or.inl ⟨by rfl, ?ya34⟩) hHeld ?ra34
            case ya34 => intro w hSw; clear hSw; go_simp; with_reducible rfl
            simp only [Act.put, List.setIfInBounds_toArray, List.set_cons_zero, List.set_cons_succ]
            refine wpAnyH_take (i := 17) (v := ?va35) (by simp; rfl) (by kernel_rfl) (by kernel_rfl) (by kernel_rfl) (fun _ _ _ h => h) (Or.inl ⟨by rfl, ?ya35⟩) hHeld ?ra35
            case ya35 => intro w hSw; clear hSw; go_simp; with_reducible rfl
            simp only [Act.put, List.setIfInBounds_toArray, List.set_cons_zero, List.set_cons_succ]
            refine wpAnyH_take (i := 18) (v := ?va36) (by simp; rfl) (by kernel_rfl) (by kernel_rfl) (by kernel_rfl) (fun _ _ _ h => h) (Or.inl ⟨by rfl, ?ya36⟩) hHeld ?ra36
            case ya36 => intro w hSw; clear hSw; go_simp; with_reducible rfl
            simp only [Act.put, List.setIfInBounds_toArray, List.set_cons_zero, List.set_cons_succ]
            refine wpAnyH_take (i := 19) (v := ?va37) (by simp; rfl) (by kernel_rfl) (by kernel_rfl) (by kernel_rfl) (fun _ _ _ h => h) (Or.inl ⟨by rfl, ?ya37⟩) hHeld ?ra37
            case ya37 => intro w hSw; clear hSw; go_simp; with_reducible rfl
            simp only [Act.put, List.setIfInBounds_toArray, List.set_cons_zero, List.set_cons_succ]
            refine wpAnyH_take (i := 20) (v := ?va38) (by simp; rfl) (by kernel_rfl) (by kernel_rfl) (by kernel_rfl) (fun _ _ _ h => h) (Or.inl ⟨by rfl, ?ya38⟩) hHeld ?ra38
            case ya38 => intro w hSw; have z := (HC.out w hSw).2; clear hSw; go_simp; with_reducible rfl
            simp only [Act.put, List.setIfInBounds_toArray, List.set_cons_zero, List.set_cons_succ]
            refine wpAnyH_take (i := 21) (v := ?va39) (by simp; rfl) (by kernel_rfl) (by kernel_rfl) (by kernel_rfl) (fun _ _ _ h => h) (Or.inl ⟨by rfl, ?ya39⟩) hHeld ?ra39
            case ya39 => intro w hSw; clear hSw; go_simp; with_reducible rfl
            simp only [Act.put, List.setIfInBounds_toArray, List.set_cons_zero, List.set_cons_succ]
            refine wpAnyH_take (i := 22) (v := ?va40) (by simp; rfl) (by kernel_rfl) (by kernel_rfl) (by kernel_rfl) (fun _ _ _ h => h) (Or.inl ⟨by rfl, ?ya40⟩) hHeld ?ra40
            case ya40 => intro w hSw; clear hSw; go_simp; with_reducible rfl
            simp only [Act.put, List.setIfInBounds_toArray, List.set_cons_zero, List.set_cons_succ]
            refine wpAnyH_take (i := 23) (v := ?va41) (by simp; rfl) (by kernel_rfl) (by kernel_rfl) (by kernel_rfl) (fun _ _ _ h => h) (Or.inl ⟨by rfl, ?ya41⟩) hHeld ?ra41
            case ya41 => intro w hSw; clear hSw; go_simp; with_reducible rfl
            simp only [Act.put, List.setIfInBounds_toArray, List.set_cons_zero, List.set_cons_succ]
            refine wpAnyH_take (i := 24) (v := ?va42) (by simp; rfl) (by kernel_rfl) (by kernel_rfl) (by kernel_rfl) (fun _ _ _ h => h) (Or.inl ⟨by rfl, ?ya42⟩) hHeld ?ra42
            case ya42 => intro w hSw; have z := (HC.out w hSw).1; clear hSw; go_simp; with_reducible rfl
            simp only [Act.put, List.setIfInBounds_toArray, List.set_cons_zero, List.set_cons_succ]
            refine wpAnyH_take (i := 25) (v := ?va43) (by simp; rfl) (by kernel_rfl) (by kernel_rfl) (by kernel_rfl) (fun _ _ _ h => h) (Or.inl ⟨by rfl, ?ya43⟩) hHeld ?ra43
            case ya43 => intro w hSw; clear hSw; go_simp; with_reducible rfl
            simp only [Act.put, List.setIfInBounds_toArray, List.set_cons_zero, List.set_cons_succ]
            refine wpAnyH_take (i := 26) (v := ?va44) (by simp; rfl) (by kernel_rfl) (by kernel_rfl) (by kernel_rfl) (fun _ _ _ h => h) (Or.inl ⟨by rfl, ?ya44⟩) hHeld ?ra44
            case ya44 => intro w hSw; clear hSw; go_simp; with_reducible rfl
            simp only [Act.put, List.setIfInBounds_toArray, List.set_cons_zero, List.set_cons_succ]
            refine wpAnyH_take (i := 27) (v := ?va45) (by simp; rfl) (by kernel_rfl) (by kernel_rfl) (by kernel_rfl) (fun _ _ _ h => h) (Or.inl ⟨by rfl, ?ya45⟩) hHeld ?ra45
            case ya45 => intro w hSw; clear hSw; go_simp; with_reducible rfl
            simp only [Act.put, List.setIfInBounds_toArray, List.set_cons_zero, List.set_cons_succ]
            refine wpAnyH_take (i := 28) (v := ?va46) (by simp; rfl) (by kernel_rfl) (by kernel_rfl) (by kernel_rfl) (fun _ _ _ h => h) (Or.inl ⟨by rfl, ?ya46⟩) hHeld ?ra46
            case ya46 => intro w hSw; clear hSw; go_simp; with_reducible rfl
            simp only [Act.put, List.setIfInBounds_toArray, List.set_cons_zero, List.set_cons_succ]
            refine wpAnyH_take (i := 29) (v := ?va47) (by simp; rfl) (by kernel_rfl) (by kernel_rfl) (by kernel_rfl) (fun _ _ _ h => h) (Or.inl ⟨by rfl, ?ya47⟩) hHeld ?ra47
            case ya47 => intro w hSw; clear hSw; go_simp; with_reducible rfl
            simp only [Act.put, List.setIfInBounds_toArray, List.set_cons_zero, List.set_cons_succ]
            refine wpAnyH_take (i := 30) (v := ?va48) (by simp; rfl) (by kernel_rfl) (by kernel_rfl) (by kernel_rfl) (fun _ _ _ h => h) (Or.inl ⟨by rfl, ?ya48⟩) hHeld ?ra48
            case ya48 => intro w hSw; clear hSw; go_simp; with_reducible rfl
            simp only [Act.put, List.setIfInBounds_toArray, List.set_cons_zero, List.set_cons_succ]
            refine wpAnyH_ready (rs := [31]) (by kernel_rfl) (by simp) ?_
            refine AllReadyH.cons (by simp; rfl) (fun Kc hKc => ?_) AllReadyH.nil
            go_simp
            refine (o_ready (HO.out.later (below_then HB.out HB6.out)) hn (u64_small (by omega) (by omega)) (y := true) HRD.out).mono ?_
            rintro e w7 ⟨rfl, -, hb7⟩
            have HB7 : Hid (Below wr.heap.size wr w7) := below_then HB6.out hb7
            clear hb7
            refine hKc.out _ _ HB7.out (fun hHeld => ?_)
            clear hKc Kc
            refine wpAnyH_take (i := 32) (v := ?va49) (by simp; rfl) (by kernel_rfl) (by kernel_rfl) (by kernel_rfl) (fun _ _ _ h => h) (Or.inl ⟨by rfl, ?ya49⟩) hHeld ?ra49
            case ya49 => intro w hSw; clear hSw; go_simp; with_reducible rfl
            simp only [Act.put, List.setIfInBounds_toArray, List.set_cons_zero, List.set_cons_succ]
            refine wpAnyH_take (i := 33) (v := ?va50) (by simp; rfl) (by kernel_rfl) (by kernel_rfl) (by kernel_rfl) (fun _ _ _ h => h) (Or.inl ⟨by rfl, ?ya50⟩) hHeld ?ra50
            case ya50 => intro w hSw; clear hSw; go_simp; with_reducible rfl
            simp only [Act.put, List.setIfInBounds_toArray, List.set_cons_zero, List.set_cons_succ]
            refine wpAnyH_take (i := 34) (v := ?va51) (by simp; rfl) (by kernel_rfl) (by kernel_rfl) (by kernel_rfl) (fun _ _ _ h => h) (Or.inl ⟨by rfl, ?ya51⟩) hHeld ?ra51
            case ya51 => intro w hSw; clear hSw; go_simp; with_reducible rfl
            simp only [Act.put, List.setIfInBounds_toArray, List.set_cons_zero, List.set_cons_succ]
            have HBZ : Hid (Below w.heap.size w w7) := below_then HB.out hHeld
            clear hHeld
            refine wpAnyH_done (by kernel_rfl) (NoPanic.normal ?_) _
            clear HC HI H5 HB5 HB6 HB7
            go_wp2
            go_roundw
            case rel => exact ⟨k + 1, false, by omega, by go_num, rfl, fun e => (by cases e), HBZ.out⟩
            case measure => simp [intOf]; omega
          · have i3 : ¬ (d k : Int) < ((S k).length : Int) := by omega
            clear HL
            go_wp2_with fail
            refine wp_region_noPanic ?_
            refine wp_region_held_drew (S := fun w' => Below wr.heap.size wr w') (by kernel_rfl) (below_drawn 1) (fun hHeld => ?_)
            generalize wr.drew = wd at *
            refine wpAnyH_take (i := 0) (v := ?va52) (by simp; rfl) (by kernel_rfl) (by kernel_rfl) (by kernel_rfl) (fun _ _ _ h => h) (Or.inl ⟨by rfl, ?ya52⟩) hHeld ?ra52
            case ya52 => intro w hSw; clear hSw; go_simp; with_reducible rfl
            simp only [Act.put, List.setIfInBounds_toArray, List.set_cons_zero, List.set_cons_succ]
            refine wpAnyH_take (i := 1) (v := ?va53) (by simp; rfl) (by kernel_rfl) (by kernel_rfl) (by kernel_rfl) (fun _ _ _ h => h) (Or.inl ⟨by rfl, ?ya53⟩) hHeld ?ra53
            case ya53 => intro w hSw; clear hSw; go_simp; with_reducible rfl
            simp only [Act.put, List.setIfInBounds_toArray, List.set_cons_zero, List.set_cons_succ]
            refine wpAnyH_take (i := 3) (v := ?va54) (by simp; rfl) (by kernel_rfl) (by kernel_rfl) (by kernel_rfl) (fun _ _ _ h => h) (Or.inl ⟨by rfl, ?ya54⟩) hHeld ?ra54
            case ya54 => intro w hSw; clear hSw; go_simp; with_reducible rfl
            simp only [Act.put, List.setIfInBounds_toArray, List.set_cons_zero, List.set_cons_succ]
            refine wpAnyH_take (i := 4) (v := ?va55) (by simp; rfl) (by kernel_rfl) (by kernel_rfl) (by kernel_rfl) (fun _ _ _ h => h) (Or.inl ⟨by rfl, ?ya55⟩) hHeld ?ra55
            case ya55 => intro w hSw; clear hSw; go_simp; with_reducible rfl
            simp only [Act.put, List.setIfInBounds_toArray, List.set_cons_zero, List.set_cons_succ]
            refine wpAnyH_take (i := 5) (v := ?va56) (by simp; rfl) (by kernel_rfl) (by kernel_rfl) (by kernel_rfl) (fun _ _ _ h => h) (Or.inl ⟨by rfl, ?ya56⟩) hHeld ?ra56
            case ya56 => intro w hSw; clear hSw; go_simp; with_reducible rfl
            simp only [Act.put, List.setIfInBounds_toArray, List.set_cons_zero, List.set_cons_succ]
            refine wpAnyH_take (i := 6) (v := ?va57) (by simp; rfl) (by kernel_rfl) (by kernel_rfl) (by kernel_rfl) (fun _ _ _ h => h) (Or.inl ⟨by rfl, ?ya57⟩) hHeld ?ra57
            case ya57 => intro w hSw; have z := (HC.out w hSw).1; clear hSw; go_simp; with_reducible rfl
            simp only [Act.put, List.setIfInBounds_toArray, List.set_cons_zero, List.set_cons_succ]
            refine wpAnyH_take (i := 7) (v := ?va58) (by simp; rfl) (by kernel_rfl) (by kernel_rfl) (by kernel_rfl) (fun _ _ _ h => h) (Or.inl ⟨by rfl, ?ya58⟩) hHeld ?ra58
            case ya58 => intro w hSw; clear hSw; go_simp; with_reducible rfl
            simp only [Act.put, List.setIfInBounds_toArray, List.set_cons_zero, List.set_cons_succ]
            refine wpAnyH_take (i := 8) (v := ?va59) (by simp; rfl) (by kernel_rfl) (by kernel_rfl) (by kernel_rfl) (fun _ _ _ h => h) (Or.inl ⟨by rfl, ?ya59⟩) hHeld ?ra59
            case ya59 => intro w hSw; clear hSw; go_simp; with_reducible rfl
            simp only [Act.put, List.setIfInBounds_toArray, List.set_cons_zero, List.set_cons_succ]
            refine wpAnyH_take (i := 9) (v := ?va60) (by simp; rfl) (by kernel_rfl) (by kernel_rfl) (by kernel_rfl) (fun _ _ _ h => h) (Or.inl ⟨by rfl, ?ya60⟩) hHeld ?ra60
            case ya60 => intro w hSw; clear hSw; go_simp; with_reducible rfl
            simp only [Act.put, List.setIfInBounds_toArray, List.set_cons_zero, List.set_cons_succ]
            refine wpAnyH_take (i := 10) (v := ?va61) (by simp; rfl) (by kernel_rfl) (by kernel_rfl) (by kernel_rfl) (fun _ _ _ h => h) (Or.inl ⟨by rfl, ?ya61⟩) hHeld ?ra61
            case ya61 => intro w hSw; have z := (HC.out w hSw).2; clear hSw; go_simp; with_reducible rfl
            simp only [Act.put, List.setIfInBounds_toArray, List.set_cons_zero, List.set_cons_succ]
            refine wpAnyH_take (i := 11) (v := ?va62) (by simp; rfl) (by kernel_rfl) (by kernel_rfl) (by kernel_rfl) (fun _ _ _ h => h) (Or.inl ⟨by rfl, ?ya62⟩) hHeld ?ra62
            case ya62 => intro w hSw; clear hSw; go_simp; with_reducible rfl
            simp only [Act.put, List.setIfInBounds_toArray, List.set_cons_zero, List.set_cons_succ]
            refine wpAnyH_ready (rs := [2]) (by kernel_rfl) (by simp) ?_
            refine AllReadyH.cons (by simp; rfl) (fun Kc hKc => ?_) AllReadyH.nil
            go_simp
            refine (o_heldF (HO.out.later (below_then HB.out hHeld)) hk hg).mono ?_
            rintro e w5 ⟨q, c5, rfl, hm, h5⟩
            have H5 : Hid (B.Made wd w5 q (d k) c5 ((S k).take (d k)) ∧ Own w0 w5 Q n ⟨N, last, entF K S d g⟩ X) := ⟨hm, h5⟩
            have HB5 : Hid (Below wr.heap.size wr w5) := below_then hHeld hm.below
            clear hm h5
            refine hKc.out _ _ HB5.out (fun hHeld => ?_)
            clear hKc Kc
            refine wpAnyH_ready (rs := [12]) (by kernel_rfl) (by simp) ?_
            refine AllReadyH.cons (by simp; rfl) (fun Kc hKc => ?_) AllReadyH.nil
            go_simp
            refine (sameI_is q pk (d k) c5 (d k) ck ((S k).take (d k)) ((S k).take (d k)) w5 H5.out.1.read (IIn.take (HI.out w5 HB5.out) (d k) (by omega)) (by omega)).mono ?_
            rintro e w6 ⟨rfl, m6, hm6⟩
            have HB6 : Hid (Below wr.heap.size wr w6) := by rw [hm6]; exact below_then HB5.out (below_drawn m6)
            clear hm6
            refine hKc.out _ _ HB6.out (fun hHeld => ?_)
            clear hKc Kc
            simp only [decide_true]
            refine wpAnyH_take (i := 13) (v := ?va63) (by simp; rfl) (by kernel_rfl) (by kernel_rfl) (by kernel_rfl) (fun _ _ _ h => h) (Or.inl ⟨by rfl, ?ya63⟩) hHeld ?ra63
            case ya63 => intro w hSw; clear hSw; go_simp; with_reducible rfl
            simp only [Act.put, List.setIfInBounds_toArray, List.set_cons_zero, List.set_cons_succ]
            refine wpAnyH_take (i := 14) (v := ?va64) (by simp; rfl) (by kernel_rfl) (by kernel_rfl) (by kernel_rfl) (fun _ _ _ h => h) (Or.inl ⟨by rfl, ?ya64⟩) hHeld ?ra64
            case ya64 => intro w hSw; clear hSw; go_simp; with_reducible rfl
            simp only [Act.put, List.setIfInBounds_toArray, List.set_cons_zero, List.set_cons_succ]
            refine wpAnyH_take (i := 15) (v := ?va65) (by simp; rfl) (by kernel_rfl) (by kernel_rfl) (by kernel_rfl) (fun _ _ _ h => h) (Or.inl ⟨by rfl, ?ya65⟩) hHeld ?ra65
            case ya65 => intro w hSw; clear hSw; go_simp; with_reducible rfl
            simp only [Act.put, List.setIfInBounds_toArray, List.set_cons_zero, List.set_cons_succ]
            refine wpAnyH_take (i := 16) (v := ?va66) (by simp; rfl) (by kernel_rfl) (by kernel_rfl) (by kernel_rfl) (fun _ _ _ h => h) (Or.inl ⟨by rfl, ?ya66⟩) hHeld ?ra66
            case ya66 => intro w hSw; clear hSw; go_simp; with_reducible rfl
            simp only [Act.put, List.setIfInBounds_toArray, List.set_cons_zero, List.set_cons_succ]
            refine wpAnyH_take (i := 17) (v := ?va67) (by simp; rfl) (by kernel_rfl) (by kernel_rfl) (by kernel_rfl) (fun _ _ _ h => h) (Or.inl ⟨by rfl, ?ya67⟩) hHeld ?ra67
            case ya67 => intro w hSw; clear hSw; go_simp; with_reducible rfl
            simp only [Act.put, List.setIfInBounds_toArray, List.set_cons_zero, List.set_cons_succ]
            refine wpAnyH_take (i := 18) (v := ?va68) (by simp; rfl) (by kernel_rfl) (by kernel_rfl) (by kernel_rfl) (fun _ _ _ h => h) (Or.inl ⟨by rfl, ?ya68⟩) hHeld ?ra68
            case ya68 => intro w hSw; clear hSw; go_simp; with_reducible rfl
            simp only [Act.put, List.setIfInBounds_toArray, List.set_cons_zero, List.set_cons_succ]
            refine wpAnyH_take (i := 19) (v := ?va69) (by simp; rfl) (by kernel_rfl) (by kernel_rfl) (by kernel_rfl) (fun _ _ _ h => h) (Or.inl ⟨by rfl, ?ya69⟩) hHeld ?ra69
            case ya69 => intro w hSw; clear hSw; go_simp; with_reducible rfl
            simp only [Act.put, List.setIfInBounds_toArray, List.set_cons_zero, List.set_cons_succ]
            refine wpAnyH_take (i := 20) (v := ?va70) (by simp; rfl) (by kernel_rfl) (by kernel_rfl) (by kernel_rfl) (fun _ _ _ h => h) (Or.inl ⟨by rfl, ?ya70⟩) hHeld ?ra70
            case ya70 => intro w hSw; have z := (HC.out w hSw).2; clear hSw; go_simp; with_reducible rfl
            simp only [Act.put, List.setIfInBounds_toArray, List.set_cons_zero, List.set_cons_succ]
            refine wpAnyH_take (i := 21) (v := ?va71) (by simp; rfl) (by kernel_rfl) (by kernel_rfl) (by kernel_rfl) (fun _ _ _ h => h) (Or.inl ⟨by rfl, ?ya71⟩) hHeld ?ra71
            case ya71 => intro w hSw; clear hSw; go_simp; with_reducible rfl
            simp only [Act.put, List.setIfInBounds_toArray, List.set_cons_zero, List.set_cons_succ]
            refine wpAnyH_take (i := 22) (v := ?va72) (by simp; rfl) (by kernel_rfl) (by kernel_rfl) (by kernel_rfl) (fun _ _ _ h => h) (Or.inl ⟨by rfl, ?ya72⟩) hHeld ?ra72
            case ya72 => intro w hSw; clear hSw; go_simp; with_reducible rfl
            simp only [Act.put, List.setIfInBounds_toArray, List.set_cons_zero, List.set_cons_succ]
            refine wpAnyH_take (i := 23) (v := ?va73) (by simp; rfl) (by kernel_rfl) (by kernel_rfl) (by kernel_rfl) (fun _ _ _ h => h) (Or.inl ⟨by rfl, ?ya73⟩) hHeld ?ra73
            case ya73 => intro w hSw; clear hSw; go_simp; with_reducible rfl
            simp only [Act.put, List.setIfInBounds_toArray, List.set_cons_zero, List.set_cons_succ]
            refine wpAnyH_take (i := 24) (v := ?va74) (by simp; rfl) (by kernel_rfl) (by kernel_rfl) (by kernel_rfl) (fun _ _ _ h => h) (Or.inl ⟨by rfl, ?ya74⟩) hHeld ?ra74
            case ya74 => intro w hSw; have z := (HC.out w hSw).1; clear hSw; go_simp; with_reducible rfl
            simp only [Act.put, List.setIfInBounds_toArray, List.set_cons_zero, List.set_cons_succ]
            refine wpAnyH_take (i := 25) (v := ?va75) (by simp; rfl) (by kernel_rfl) (by kernel_rfl) (by kernel_rfl) (fun _ _ _ h => h) (Or.inl ⟨by rfl, ?ya75⟩) hHeld ?ra75
            case ya75 => intro w hSw; clear hSw; go_simp; with_reducible rfl
            simp only [Act.put, List.setIfInBounds_toArray, List.set_cons_zero, List.set_cons_succ]
            refine wpAnyH_take (i := 26) (v := ?va76) (by simp; rfl) (by kernel_rfl) (by kernel_rfl) (by kernel_rfl) (fun _ _ _ h => h) (Or.inl ⟨by rfl, ?ya76⟩) hHeld ?ra76
            case ya76 => intro w hSw; clear hSw; go_simp; with_reducible rfl
            simp only [Act.put, List.setIfInBounds_toArray, List.set_cons_zero, List.set_cons_succ]
            refine wpAnyH_take (i := 27) (v := ?va77) (by simp; rfl) (by kernel_rfl) (by kernel_rfl) (by kernel_rfl) (fun _ _ _ h => h) (Or.inl ⟨by rfl, ?ya77⟩) hHeld ?ra77
            case ya77 => intro w hSw; clear hSw; go_simp; with_reducible rfl
            simp only [Act.put, List.setIfInBounds_toArray, List.set_cons_zero, List.set_cons_succ]
            refine wpAnyH_take (i := 28) (v := ?va78) (by simp; rfl) (by kernel_rfl) (by kernel_rfl) (by kernel_rfl) (fun _ _ _ h => h) (Or.inl ⟨by rfl, ?ya78⟩) hHeld ?ra78
            case ya78 => intro w hSw; clear hSw; go_simp; with_reducible rfl
            simp only [Act.put, List.setIfInBounds_toArray, List.set_cons_zero, List.set_cons_succ]
            refine wpAnyH_take (i := 29) (v := undef) (by simp; rfl) (by kernel_rfl) (by kernel_rfl) (by kernel_rfl) (fun _ _ _ h => h) (Or.inr ⟨by rfl, rfl⟩) hHeld ?_
            simp only [Act.put, List.setIfInBounds_toArray, List.set_cons_zero, List.set_cons_succ]
            refine wpAnyH_take (i := 30) (v := undef) (by simp; rfl) (by kernel_rfl) (by kernel_rfl) (by kernel_rfl) (fun _ _ _ h => h) (Or.inr ⟨by rfl, rfl⟩) hHeld ?_
            simp only [Act.put, List.setIfInBounds_toArray, List.set_cons_zero, List.set_cons_succ]
            refine wpAnyH_take (i := 31) (v := undef) (by simp; rfl) (by kernel_rfl) (by kernel_rfl) (by kernel_rfl) (fun _ _ _ h => h) (Or.inr ⟨by rfl, rfl⟩) hHeld ?_
            simp only [Act.put, List.setIfInBounds_toArray, List.set_cons_zero, List.set_cons_succ]
            refine wpAnyH_take (i := 32) (v := undef) (by simp; rfl) (by kernel_rfl) (by kernel_rfl) (by kernel_rfl) (fun _ _ _ h => h) (Or.inr ⟨by rfl, rfl⟩) hHeld ?_
            simp only [Act.put, List.setIfInBounds_toArray, List.set_cons_zero, List.set_cons_succ]
            refine wpAnyH_take (i := 33) (v := ?va79) (by simp; rfl) (by kernel_rfl) (by kernel_rfl) (by kernel_rfl) (fun _ _ _ h => h) (Or.inl ⟨by rfl, ?ya79⟩) hHeld ?ra79
            case ya79 => intro w hSw; clear hSw; go_simp; with_reducible rfl
            simp only [Act.put, List.setIfInBounds_toArray, List.set_cons_zero, List.set_cons_succ]
            refine wpAnyH_take (i := 34) (v := ?va80) (by simp; rfl) (by kernel_rfl) (by kernel_rfl) (by kernel_rfl) (fun _ _ _ h => h) (Or.inl ⟨by rfl, ?ya80⟩) hHeld ?ra80
            case ya80 => intro w hSw; clear hSw; go_simp; with_reducible rfl
            simp only [Act.put, List.setIfInBounds_toArray, List.set_cons_zero, List.set_cons_succ]
            have HBZ : Hid (Below w.heap.size w w6) := below_then HB.out hHeld
            clear hHeld
            refine wpAnyH_done (by kernel_rfl) (NoPanic.normal ?_) _
            clear HC HI H5 HB5 HB6
            go_wp2
            go_roundw
            case rel => exact ⟨k + 1, false, by omega, by go_num, rfl, fun e => (by cases e), HBZ.out⟩
            case measure => simp [intOf]; omega
    · obtain rfl : k = K := by omega
      go_wp2
      go_loopw [14] (fun i wr => ∃ b : Nat, b ≤ N ∧ i = .int .i64 b ∧ Hid (Below w.heap.size w wr)) (fun i _ => N - (intOf i).toNat)
      case atStart => exact ⟨0, Nat.zero_le _, rfl, HB.out⟩
      case round =>
        obtain ⟨b, hbN, rfl, HB2⟩ := hrel
        clear HB HL
        by_cases hb : b < N
        · obtain ⟨wA, hwA⟩ : ∃ x, x = wr := ⟨_, rfl⟩
          subst hwA
          have i2 : (b : Int) < (N : Int) := by omega
          go_wp2_with fail
          refine (o_queue (HO.out.later HB2.out) hn b (l := standK S g b k) (standK_all _ _ _ _ _)).mono ?_
          rintro e w1 ⟨v, rfl, hm, h1⟩
          obtain ⟨pq, cq, rfl, hUq, hqc, hq0⟩ := hm.read
          have H1 : Hid (UIn w1 pq (standK S g b k).length (standK S g b k) ∧ Below w.heap.size w w1) := ⟨hUq, below_then HB2.out hm.below⟩
          have HQL : Hid ((standK S g b k).length ≤ 10) := by
            show _ ≤ _
            have h1 := List.length_filter_le (fun i => !g i && hsS (S i) b) (List.range k)
            simp only [standK, List.length_map, List.length_range] at h1 ⊢
            omega
          clear hm h1 hUq HB2
          go_wp2_with fail
          go_loopw [16, 17, 80] (fun v h i wr => ∃ j : Nat, j ≤ k ∧ i = .int .i64 j ∧ h = .int .u64 (holdK S d g b j) ∧ (∃ p c, v = .slice p (standK S g b j).length c) ∧ Hid (wr.ownsRow w1.heap.size 30 1 v (standK S g b j).length (V64 (standK S g b j)) ∧ Below w1.heap.size w1 wr)) (fun _ _ i _ => k - (intOf i).toNat)
          case atStart => exact ⟨0, Nat.zero_le _, rfl, rfl, ⟨none, 0, rfl⟩, World.ownsRow_nil _ _ _ _, Below.refl _ _⟩
          case round =>
            obtain ⟨j, hj2, rfl, rfl, ⟨ps, cs, rfl⟩, HW⟩ := hrel
            by_cases hj : j < k
            · have j1 : (j : Int) < (k : Int) := by omega
              have hsl := hS j hj
              obtain ⟨bw, ow, pk, ck, rfl, cw1, hI, hsc, _⟩ := ((HF.out.later H1.out.2).later HW.out.2).wnt j hj
              clear hI
              go_wp2_with fail
              clear cw1
              obtain ⟨wB, hwB⟩ : ∃ x, x = wr := ⟨_, rfl⟩
              subst hwB
              have HW0 : Hid (wB.ownsRow w1.heap.size 30 1 (.slice ps (standI S g b j 0).length cs) (standI S g b j 0).length (V64 (standI S g b j 0)) ∧ Below w1.heap.size w1 wB) := by rw [standI_zero]; exact HW
              have e0 := standI_zero S g b j
              have e1 := holdI_zero S d g b j
              rw [← e0, ← e1]
              clear e0 e1 HW
              go_loopw [16, 17, 88] (fun v h i wr => ∃ x : Nat, x ≤ (S j).length ∧ i = .int .i64 x ∧ h = .int .u64 (holdI S d g b j x) ∧ (∃ p c, v = .slice p (standI S g b j x).length c) ∧ Hid (wr.ownsRow w1.heap.size 30 1 v (standI S g b j x).length (V64 (standI S g b j x)) ∧ Below w1.heap.size w1 wr)) (fun _ _ i _ => (S j).length - (intOf i).toNat)
              case atStart => exact ⟨0, Nat.zero_le _, rfl, rfl, ⟨ps, cs, rfl⟩, HW0.out⟩
              case round =>
                obtain ⟨x, hx2, rfl, rfl, ⟨pi, ci, rfl⟩, HX⟩ := hrel
                clear HW0
                by_cases hx : x < (S j).length
                · have x1 : (x : Int) < ((S j).length : Int) := by omega
                  have hbB := below_then H1.out.2 HX.out.2
                  obtain ⟨bg, og, rfl, cg1⟩ := (HF.out.later hbB).gon j hj
                  obtain ⟨bd, od, rfl, cd1⟩ := (HF.out.later hbB).don j hj
                  obtain ⟨bw', ow', pk', ck', ew, cw1, hI, hsc', _⟩ := (HF.out.later hbB).wnt j hj
                  simp only [Option.some.injEq, Addr.mk.injEq, and_true] at ew
                  obtain ⟨rfl, rfl⟩ := ew
                  obtain ⟨bs, os, rfl, hcs⟩ := hI.cells (by omega)
                  have cs1 := hcs x hx
                  clear hI hcs hbB
                  cases hg : g j with
                  | true =>
                    rw [hg] at cg1
                    have HST : Hid (standI S g b j (x + 1) = standI S g b j x ∧ holdI S d g b j (x + 1) = holdI S d g b j x) := step_other hx (.inl hg)
                    clear cs1 cw1 cd1
                    go_wp2
                    go_roundw
                    case rel =>
                      refine ⟨x + 1, by omega, by go_num, by rw [HST.out.2], ⟨pi, ci, by rw [HST.out.1]⟩, ?_⟩
                      show Hid _
                      rw [HST.out.1]; exact HX
                    case measure => simp [intOf]; omega
                  | false =>
                    rw [hg] at cg1
                    have hup : (S j).Pairwise (· < ·) := HO.out.ok.up _ (mem_entF.2 (⟨j, hj, hg, rfl⟩ : ∃ i, i < k ∧ g i = false ∧ (⟨(j : Int) + 1, S j, d j⟩ : En) = ⟨(i : Int) + 1, S i, d i⟩))
                    cases hc : ((S j).getD x 0 == (b : Int)) with
                    | false =>
                      have HST : Hid (standI S g b j (x + 1) = standI S g b j x ∧ holdI S d g b j (x + 1) = holdI S d g b j x) := step_other hx (.inr (by simpa using hc))
                      clear cd1 hup
                      generalize (S j).getD x 0 = y at *
                      go_wp2
                      go_roundw
                      case rel =>
                        refine ⟨x + 1, by omega, by go_num, by rw [HST.out.2], ⟨pi, ci, by rw [HST.out.1]⟩, ?_⟩
                        show Hid _
                        rw [HST.out.1]; exact HX
                      case measure => simp [intOf]; omega
                    | true =>
                      have hy : (S j).getD x 0 = (b : Int) := by simpa using hc
                      obtain ⟨t1, t2, t3⟩ := step_here (d := d) hup hx hg hy
                      have HT1 : Hid (standI S g b j (x + 1) = standI S g b j x ++ [(j : Int) + 1]) := t1
                      have HIL : Hid ((standI S g b j x).length ≤ 11) := by
                        show _ ≤ _
                        have h1 := List.length_filter_le (fun i => !g i && hsS (S i) b) (List.range j)
                        have h2 : (if (!g j && hsS ((S j).take x) b) = true then [(j : Int) + 1] else []).length ≤ 1 := by split <;> simp
                        simp only [standI, standK, List.length_append, List.length_map, List.length_range] at h1 ⊢
                        omega
                      have hil := HIL.out
                      have HOA : Hid ((wr.alloc (.cells #[.int .u64 ((j : Int) + 1)] 30)).ownsRow w1.heap.size 30 1 (.slice pi (standI S g b j x).length ci) (V64 (standI S g b j x)).length (V64 (standI S g b j x))) := by rw [show (V64 (standI S g b j x)).length = (standI S g b j x).length by simp]; exact B.own_later HX.out.1 (below_alloc _ _)
                      have HSB : Hid (Below w1.heap.size w1 (wr.alloc (.cells #[.int .u64 ((j : Int) + 1)] 30))) := below_then HX.out.2 (below_alloc _ _)
                      have hdl : wr.cell? ⟨bd, od + j, none⟩ = some (.int .i64 (d j)) := cd1
                      have HDK : Hid (∀ w', Below w1.heap.size w1 w' → w'.cell? ⟨bd, od + j, none⟩ = some (.int .i64 (d j))) := fun w' hb => by
                        obtain ⟨bd', od', e, c⟩ := ((HF.out.later H1.out.2).later hb).don j hj
                        simp only [Option.some.injEq, Addr.mk.injEq, and_true] at e
                        obtain ⟨rfl, rfl⟩ := e
                        exact c
                      clear hup t1 cd1 hdl
                      by_cases hd : x < d j
                      · have x2 : (x : Int) < (d j : Int) := by omega
                        have hz : (holdI S d g b j x != 0) = false := by rw [(t2 hd).1, hold_free ⟨N, last, HO.out.ok⟩ hj hg (mem_take hx hd hy)]; rfl
                        have HH : Hid (holdI S d g b j (x + 1) = (j : Int) + 1) := (t2 hd).2
                        clear t2 t3
                        rw [hy] at cs1
                        clear hy hc
                        go_wp2_with (at_builtin; refine wpList_app rfl (.tmp 107) (.tmp 111) 22 rfl 30 i0 (.int .u64 0) 8 Try.underlying22 hi hz0 hz1 hz2 rfl w1 HSB.out (.slice pi (standI S g b j x).length ci) (V64 (standI S g b j x)) rfl HOA.out (some ⟨wr.heap.size, 0, none⟩) 1 1 [.int .u64 ((j : Int) + 1)] rfl (fun e => by cases e) (by decide) rfl (one_news _ _) (one_u64 _) (by rw [List.length_map]; omega) (by rw [List.length_map]; omega) ?_; intro p5 c5 w5 o5 b5 _; have H5 : Hid (w5.ownsRow w1.heap.size 30 1 (.slice p5 (standI S g b j (x + 1)).length c5) (standI S g b j (x + 1)).length (V64 (standI S g b j (x + 1))) ∧ Below w1.heap.size w1 w5) := ⟨(by rw [HT1.out]; simpa [V64] using o5), b5⟩; have cd5 := HDK.out w5 b5; have HLN : Hid ((V64 (standI S g b j x) ++ [Value.int .u64 ((j : Int) + 1)]).length = (standI S g b j (x + 1)).length) := (by show _ = _; rw [HT1.out]; simp); rw [HLN.out]; clear o5 b5)
                        go_roundw
                        case rel => exact ⟨x + 1, by omega, by go_num, by rw [HH.out], ⟨p5, c5, rfl⟩, H5.out⟩
                        case measure => simp [intOf]; omega
                      · have x2 : ¬ (x : Int) < (d j : Int) := by omega
                        have HH : Hid (holdI S d g b j (x + 1) = holdI S d g b j x) := t3 hd
                        clear t2 t3
                        rw [hy] at cs1
                        clear hy hc
                        go_wp2_with (at_builtin; refine wpList_app rfl (.tmp 107) (.tmp 111) 22 rfl 30 i0 (.int .u64 0) 8 Try.underlying22 hi hz0 hz1 hz2 rfl w1 HSB.out (.slice pi (standI S g b j x).length ci) (V64 (standI S g b j x)) rfl HOA.out (some ⟨wr.heap.size, 0, none⟩) 1 1 [.int .u64 ((j : Int) + 1)] rfl (fun e => by cases e) (by decide) rfl (one_news _ _) (one_u64 _) (by rw [List.length_map]; omega) (by rw [List.length_map]; omega) ?_; intro p5 c5 w5 o5 b5 _; have H5 : Hid (w5.ownsRow w1.heap.size 30 1 (.slice p5 (standI S g b j (x + 1)).length c5) (standI S g b j (x + 1)).length (V64 (standI S g b j (x + 1))) ∧ Below w1.heap.size w1 w5) := ⟨(by rw [HT1.out]; simpa [V64] using o5), b5⟩; have cd5 := HDK.out w5 b5; have HLN : Hid ((V64 (standI S g b j x) ++ [Value.int .u64 ((j : Int) + 1)]).length = (standI S g b j (x + 1)).length) := (by show _ = _; rw [HT1.out]; simp); rw [HLN.out]; clear o5 b5)
                        go_roundw
                        case rel => exact ⟨x + 1, by omega, by go_num, by rw [HH.out], ⟨p5, c5, rfl⟩, H5.out⟩
                        case measure => simp [intOf]; omega
                · obtain rfl : x = (S j).length := by omega
                  have HE : Hid (standI S g b j (S j).length = standK S g b (j + 1) ∧ holdI S d g b j (S j).length = holdK S d g b (j + 1)) := by
                    refine ⟨standI_all S g b j, ?_⟩
                    cases hg : g j with
                    | false => exact holdI_all S d g b j (HD.out j hj hg).1
                    | true => simp [holdI, holdK, hg]
                  go_wp2
                  go_roundw
                  case rel =>
                    refine ⟨j + 1, by omega, by go_num, by rw [HE.out.2], ⟨pi, ci, by rw [HE.out.1]⟩, ?_⟩
                    show Hid _
                    rw [← HE.out.1]; exact HX
                  case measure => simp [intOf]; omega
            · obtain rfl : j = k := by omega
              obtain ⟨f1, f2, f3⟩ := hold_end HO.out.ok b
              have HE3 : Hid (hldB (entF j S d g) b = true → hdv (standK S g b j) = holdK S d g b j ∧ 0 < (standK S g b j).length) := fun e => by
                have e3 := f3 e
                rw [standK_all] at e3
                refine ⟨e3, ?_⟩
                cases hq : standK S g b j with
                | nil =>
                  rw [hq] at e3
                  rw [f2, ← e3] at e
                  simp [hdv] at e
                | cons y r => simp
              have H3 : Hid (wr.ownsRow w1.heap.size 30 1 (.slice ps (standK S g b j).length cs) (standK S g b j).length (V64 (standK S g b j)) ∧ Below w1.heap.size w1 wr) := HW.out
              have HEN : Hid (hldN (entF j S d g) b = holdK S d g b j) := f1
              have HEB : Hid (hldB (entF j S d g) b = (holdK S d g b j != 0)) := f2
              clear HW f1 f2 f3
              go_wp2_with fail
              refine (o_holder (HO.out.later (below_then H1.out.2 H3.out.2)) hn b).mono ?_
              rintro e w2 ⟨rfl, -, hb2⟩
              have HB2 : Hid (Below w1.heap.size w1 w2) := below_then H3.out.2 hb2
              have HU2 : Hid (UIn w2 ps (standK S g b j).length (standK S g b j)) := by
                obtain ⟨p', c', e', hU, _, _⟩ := (Row.own (B.own_later H3.out.1 hb2)).1.form
                simp only [Value.slice.injEq, true_and] at e'
                obtain ⟨rfl, rfl⟩ := e'
                exact hU
              have HN : Hid (hldN (Lk.L ⟨N, last, entF j S d g⟩) b = holdK S d g b j) := HEN.out
              rw [HN.out]
              have HB' : Hid (hldB (Lk.L ⟨N, last, entF j S d g⟩) b = (holdK S d g b j != 0)) := HEB.out
              rw [HB'.out]
              clear hb2 H3 HN HB' HEN
              have hql := HQL.out
              go_wp2_with fail
              refine (sameT_is pq ps _ cq _ cs (standK S g b j) (standK S g b j) w2 (H1.out.1.later HB2.out) HU2.out (by omega)).mono ?_
              rintro e w3 ⟨rfl, m3, hm3⟩
              have HB3 : Hid (Below w1.heap.size w1 w3) := by rw [hm3]; exact below_then HB2.out (below_drawn m3)
              simp only [decide_true]
              clear hm3 HU2
              cases hz : (holdK S d g b j != 0) with
              | false =>
                have hzz : (holdK S d g b j != holdK S d g b j) = false := by simp
                go_wp2
                go_roundw
                case rel => exact ⟨b + 1, by omega, by go_num, below_then H1.out.2 HB3.out⟩
                case measure => simp [intOf]; omega
              | true =>
                have e4 := HE3.out (by rw [HEB.out, hz])
                obtain ⟨bq, oq, rfl, hcq⟩ := H1.out.1.cells e4.2
                have c0 : w3.cell? ⟨bq, oq, none⟩ = some (.int .u64 (holdK S d g b j)) := by
                  have h1 := hcq 0 e4.2
                  have h2 : (standK S g b j).getD 0 0 = holdK S d g b j := by rw [← e4.1]; cases standK S g b j <;> rfl
                  rw [h2] at h1
                  exact (HB3.out.cell (p := ⟨bq, oq, none⟩) (World.block_lt_of_cell? w1 _ h1)).trans h1
                have q0 : (0 : Int) < ((standK S g b j).length : Int) := by have := e4.2; omega
                have hzz : (holdK S d g b j != holdK S d g b j) = false := by simp
                clear hcq e4
                go_wp2
                go_roundw
                case rel => exact ⟨b + 1, by omega, by go_num, below_then H1.out.2 HB3.out⟩
                case measure => simp [intOf]; omega
        · have i2 : ¬ (b : Int) < (N : Int) := by omega
          go_wp2
          go_ret
          exact ⟨rfl, HB2.out⟩
end
end Go.Proofs.Ytkffmglcllhbmaa
