/-
  Layer 16: told.
-/
import Derived.Test.YthgkdpniaednaaaTb
import Derived.Test.YthgkdpniaednaaaQa
namespace Go.Proofs.Ythgkdpniaednaaa
open Go.RowKit

open B (I64)
namespace W
theorem eqT {T T' : Nat → Th} {k j : Nat} {u v : Th} (h : T' = put T k u) (e : T j = v) (hne : j ≠ k) : T' j = v := by rw [h, put_other _ _ hne]; exact e
theorem eqT2 {T T' : Nat → Th} {k i j : Nat} {u u' v : Th} (h : T' = put (put T i u) k u') (e : T j = v) (hne : j ≠ i) (hnk : j ≠ k) : T' j = v := by rw [h, put_other _ _ hnk, put_other _ _ hne]; exact e
theorem told_end {w0 x : World} {P N a : Nat} {F : Nat → List Int} {D : Nat → List Im} {fl : Bool} {T T' : Nat → Th} {G : Nat → Prop} {v4 v5 v6 u4 u5 u6 : Value} {us4 us5 us6 : List Value} {ls : List (List Im)} {l : List Im} {fs : List (List Int)} {f : List Int} (h : PS w0 x P #[(T 0).val, (T 1).val, (T 2).val, (T 3).val, v4, v5, v6] T' G) (hs : Sh T F D fl N a) (e0 : T' 0 = T 0) (e1 : T' 1 = T 1) (e2 : T' 2 = T 2) (e3 : T' 3 = T 3)
    (e4 : T' 4 = .il fl v4 (us4 ++ [u4]) (ls ++ [l])) (e5 : T' 5 = .il fl v5 (us5 ++ [u5]) (ls ++ [l])) (e6 : T' 6 = .fo fl v6 (us6 ++ [u6]) (fs ++ [f])) (hl : ls.length ≤ a ∧ ∀ l ∈ ls, l.length ≤ 16 ∧ ImsWf l) (hf : fs.length ≤ a ∧ ∀ f ∈ fs, f.length ≤ 16) (hl2 : l.length ≤ 16 ∧ ImsWf l) (hf2 : f.length ≤ 16) : St w0 x P F D fl N (a + 1) := by
  refine ⟨T', G, ?_, hs.told (fun j hj => ?_) hl hf hl2 hf2 e4 e5 e6⟩
  · have : pcs T' = #[(T 0).val, (T 1).val, (T 2).val, (T 3).val, v4, v5, v6] := by simp only [pcs, e0, e1, e2, e3, e4, e5, e6]; rfl
    rw [this]
    exact h
  · rcases (show j = 0 ∨ j = 1 ∨ j = 2 ∨ j = 3 by omega) with rfl | rfl | rfl | rfl <;> assumption
section
variable {w0 w : World} {P N a j : Nat} {F : Nat → List Int} {D : Nat → List Im} {fl : Bool}
set_option maxHeartbeats 2000000 in
set_option maxRecDepth 100000 in
theorem told_at (h : St w0 w P F D fl N a) (hj : j < 2) (hN : N ≤ 9000) (ha : a ≤ 9000) : Calls Try.prog 20 #[.pointer (some ⟨P, 0, none⟩), .int .i64 (j : Int)] w fun e w' => e = .returned (.bool true) ∧ St w0 w' P F D fl N (a + 2) := by
  have HS : Hid (St w0 w P F D fl N (a + 0)) := h
  have hj0 : (0 : Int) ≤ (j : Int) := by omega
  have hj1 : (j : Int) < 2 := by omega
  clear h
  go_enter Try.func20, Try.ntmps20
  go_wp2_with fail
  go_loopw [5] (fun v wr => ∃ (i : Nat), v = .int .i64 (i : Int) ∧ i ≤ 2 ∧ Hid (St w0 wr P F D fl N (a + i))) (fun v _ => 2 - (intOf v).toNat)
  case atStart => exact ⟨0, rfl, by omega, HS⟩
  case round =>
    obtain ⟨i, rfl, hi, HI⟩ := hrel
    clear HS
    by_cases hlt : i < 2
    · have hb0 : Below wr.heap.size wr wr.drew := below_drawn 1
      obtain ⟨T, G, Q, pf, cf, vi, R, ps, cs, vw, hp, hs, eb, er, hA, hR, hC⟩ := (HI.out.later hb0).two hj
      have HP : Hid (PS w0 wr.drew P (pcs T) T G) := hp
      have HSH : Hid (Sh T F D fl N (a + i)) := hs
      have HK : Hid (Okb (F j) (ims (F j) (D j))) := hs.okb hj
      have HIS : Hid (B.isS (F j) = true) := hs.is j hj
      have HWF : Hid (ImsWf (D j) ∧ (D j).length ≤ 9000) := ⟨(hs.wf j hj).1, by have := (hs.wf j hj).2; omega⟩
      have HA : Hid (BAt wr.drew Q pf cf (F j) vi (ims (F j) (D j))) := hA
      have HR : Hid (RAt wr.drew R ps cs (F j) vw (D j)) := hR
      have HC : Hid (∀ W, Bw wr.drew W → W.cell? ⟨P, j, none⟩ = some (.pointer (some ⟨Q, 0, none⟩)) ∧ W.cell? ⟨P, 2 + j, none⟩ = some (.pointer (some ⟨R, 0, none⟩))) := hC
      have i2 : (i : Int) < 2 := by omega
      clear hp hs hA hR hC eb er hb0 HI
      go_wp2_with fail
      refine wp_region_noPanic ?_
      refine wp_region_held_drew (S := Bw wr.drew) (by kernel_rfl) (Below.refl _ _) (fun hHeld => ?_)
      generalize wr.drew = wD at *
      generalize hFj : F j = Fj at *
      generalize hDj : D j = Dj at *
      generalize hL : ims Fj Dj = L at *
      refine wpAnyH_take (i := 0) (v := ?va1) (by simp; rfl) (by kernel_rfl) (by kernel_rfl) (by kernel_rfl) (fun _ _ _ h => h) (Or.inl ⟨by rfl, ?ya1⟩) hHeld ?ra1
      case ya1 => intro w hSw; clear hSw; go_simp; with_reducible rfl
      simp only [Act.put, List.setIfInBounds_toArray, List.set_cons_zero, List.set_cons_succ]
      refine wpAnyH_take (i := 1) (v := ?va2) (by simp; rfl) (by kernel_rfl) (by kernel_rfl) (by kernel_rfl) (fun _ _ _ h => h) (Or.inl ⟨by rfl, ?ya2⟩) hHeld ?ra2
      case ya2 => intro w hSw; clear hSw; go_simp; with_reducible rfl
      simp only [Act.put, List.setIfInBounds_toArray, List.set_cons_zero, List.set_cons_succ]
      refine wpAnyH_take (i := 2) (v := ?va3) (by simp; rfl) (by kernel_rfl) (by kernel_rfl) (by kernel_rfl) (fun _ _ _ h => h) (Or.inl ⟨by rfl, ?ya3⟩) hHeld ?ra3
      case ya3 => intro w hSw; clear hSw; go_simp; with_reducible rfl
      simp only [Act.put, List.setIfInBounds_toArray, List.set_cons_zero, List.set_cons_succ]
      refine wpAnyH_take (i := 3) (v := ?va4) (by simp; rfl) (by kernel_rfl) (by kernel_rfl) (by kernel_rfl) (fun _ _ _ h => h) (Or.inl ⟨by rfl, ?ya4⟩) hHeld ?ra4
      case ya4 => intro w hSw; clear hSw; go_simp; with_reducible rfl
      simp only [Act.put, List.setIfInBounds_toArray, List.set_cons_zero, List.set_cons_succ]
      refine wpAnyH_take (i := 4) (v := ?va5) (by simp; rfl) (by kernel_rfl) (by kernel_rfl) (by kernel_rfl) (fun _ _ _ h => h) (Or.inl ⟨by rfl, ?ya5⟩) hHeld ?ra5
      case ya5 => intro w hSw; clear hSw; go_simp; with_reducible rfl
      simp only [Act.put, List.setIfInBounds_toArray, List.set_cons_zero, List.set_cons_succ]
      refine wpAnyH_take (i := 5) (v := ?va6) (by simp; rfl) (by kernel_rfl) (by kernel_rfl) (by kernel_rfl) (fun _ _ _ h => h) (Or.inl ⟨by rfl, ?ya6⟩) hHeld ?ra6
      case ya6 => intro w hSw; obtain ⟨z0, z2⟩ := HC.out w hSw; clear hSw; go_simp; with_reducible rfl
      simp only [Act.put, List.setIfInBounds_toArray, List.set_cons_zero, List.set_cons_succ]
      refine wpAnyH_take (i := 7) (v := ?va7) (by simp; rfl) (by kernel_rfl) (by kernel_rfl) (by kernel_rfl) (fun _ _ _ h => h) (Or.inl ⟨by rfl, ?ya7⟩) hHeld ?ra7
      case ya7 => intro w hSw; clear hSw; go_simp; with_reducible rfl
      simp only [Act.put, List.setIfInBounds_toArray, List.set_cons_zero, List.set_cons_succ]
      refine wpAnyH_take (i := 8) (v := ?va8) (by simp; rfl) (by kernel_rfl) (by kernel_rfl) (by kernel_rfl) (fun _ _ _ h => h) (Or.inl ⟨by rfl, ?ya8⟩) hHeld ?ra8
      case ya8 => intro w hSw; clear hSw; go_simp; with_reducible rfl
      simp only [Act.put, List.setIfInBounds_toArray, List.set_cons_zero, List.set_cons_succ]
      refine wpAnyH_take (i := 9) (v := ?va9) (by simp; rfl) (by kernel_rfl) (by kernel_rfl) (by kernel_rfl) (fun _ _ _ h => h) (Or.inl ⟨by rfl, ?ya9⟩) hHeld ?ra9
      case ya9 => intro w hSw; clear hSw; go_simp; with_reducible rfl
      simp only [Act.put, List.setIfInBounds_toArray, List.set_cons_zero, List.set_cons_succ]
      refine wpAnyH_take (i := 10) (v := ?va10) (by simp; rfl) (by kernel_rfl) (by kernel_rfl) (by kernel_rfl) (fun _ _ _ h => h) (Or.inl ⟨by rfl, ?ya10⟩) hHeld ?ra10
      case ya10 => intro w hSw; clear hSw; go_simp; with_reducible rfl
      simp only [Act.put, List.setIfInBounds_toArray, List.set_cons_zero, List.set_cons_succ]
      refine wpAnyH_take (i := 11) (v := ?va11) (by simp; rfl) (by kernel_rfl) (by kernel_rfl) (by kernel_rfl) (fun _ _ _ h => h) (Or.inl ⟨by rfl, ?ya11⟩) hHeld ?ra11
      case ya11 => intro w hSw; clear hSw; go_simp; with_reducible rfl
      simp only [Act.put, List.setIfInBounds_toArray, List.set_cons_zero, List.set_cons_succ]
      refine wpAnyH_take (i := 12) (v := ?va12) (by simp; rfl) (by kernel_rfl) (by kernel_rfl) (by kernel_rfl) (fun _ _ _ h => h) (Or.inl ⟨by rfl, ?ya12⟩) hHeld ?ra12
      case ya12 => intro w hSw; obtain ⟨z0, z2⟩ := HC.out w hSw; clear hSw; go_simp; with_reducible rfl
      simp only [Act.put, List.setIfInBounds_toArray, List.set_cons_zero, List.set_cons_succ]
      refine wpAnyH_ready (rs := [6]) (by kernel_rfl) (by simp) ?_
      refine AllReadyH.cons (by simp; rfl) (fun Kc hKc => ?_) AllReadyH.nil
      go_simp
      refine (images_at HA.out HK.out).mono ?_
      rintro e w1 ⟨v1, rfl, ho, hb⟩
      obtain ⟨p1, c1, rfl, -, -⟩ := O.own_form ho
      have HB1 : Hid (Bw wD w1) := hb
      have HP1 : Hid (PS w0 w1 P (pcs T) (put T 8 (.em (.slice p1 L.length c1) L)) G) := HP.out.fresh hb 8 (B.own_mono ho (Nat.zero_le _)) (fun b hb => (ho.lt b hb).1)
      have HM1 : Hid (IOwn w1 wD.heap.size (.slice p1 L.length c1) L) := ho
      refine hKc.out _ _ hb (fun hHeld => ?_)
      clear hKc Kc ho hb

      refine wpAnyH_ready (rs := [13]) (by kernel_rfl) (by simp) ?_
      refine AllReadyH.cons (by simp; rfl) (fun Kc hKc => ?_) AllReadyH.nil
      go_simp
      refine (form_at (HA.out.later hHeld) HK.out).mono ?_
      rintro e w2 ⟨q2, d2, rfl, hm⟩
      have HB2 : Hid (Bw wD w2) := below_then hHeld hm.below
      have HB12 : Hid (Below w1.heap.size w1 w2) := hm.below
      have HP2 : Hid (PS w0 w2 P (pcs T) (put (put T 8 (.em (.slice p1 L.length c1) L)) 10 (.ei (.slice q2 Fj.length d2) Fj)) G) := HP1.out.fresh hm.below 10 (B.own_mono hm.own (Nat.zero_le _)) (fun b hb => (hm.own.lt b hb).1)
      have HF2 : Hid (B.IIn w2 q2 Fj.length Fj) := hm.read
      refine hKc.out _ _ HB2.out (fun hHeld => ?_)
      clear hKc Kc hm HP1

      refine wpAnyH_take (i := 14) (v := ?va13) (by simp; rfl) (by kernel_rfl) (by kernel_rfl) (by kernel_rfl) (fun _ _ _ h => h) (Or.inl ⟨by rfl, ?ya13⟩) hHeld ?ra13
      case ya13 => intro w hSw; clear hSw; go_simp; with_reducible rfl
      simp only [Act.put, List.setIfInBounds_toArray, List.set_cons_zero, List.set_cons_succ]
      refine wpAnyH_take (i := 15) (v := ?va14) (by simp; rfl) (by kernel_rfl) (by kernel_rfl) (by kernel_rfl) (fun _ _ _ h => h) (Or.inl ⟨by rfl, ?ya14⟩) hHeld ?ra14
      case ya14 => intro w hSw; clear hSw; go_simp; with_reducible rfl
      simp only [Act.put, List.setIfInBounds_toArray, List.set_cons_zero, List.set_cons_succ]
      refine wpAnyH_done (by kernel_rfl) (NoPanic.normal ?_) _
      have z2 := (HC.out w2 HB2.out).2
      go_wp2_with fail
      refine (rimages_at (HR.out.later HB2.out) HIS.out HWF.out.1 HWF.out.2).mono ?_
      rintro e w3 ⟨v3, rfl, ho, hb⟩
      rw [hL] at ho
      obtain ⟨p3, c3, rfl, -, -⟩ := O.own_form ho
      have HB3 : Hid (Bw wD w3) := below_then HB2.out hb
      have HP3 : Hid (PS w0 w3 P (pcs T) (put (put (put T 8 (.em (.slice p1 L.length c1) L)) 10 (.ei (.slice q2 Fj.length d2) Fj)) 9 (.em (.slice p3 L.length c3) L)) G) := HP2.out.fresh hb 9 (B.own_mono ho (Nat.zero_le _)) (fun b hb => (ho.lt b hb).1)
      have HMA : Hid (MIn w3 p1 L.length L) := by
        obtain ⟨p', c', e, hm, _⟩ := IOwn.in (O.own_later HM1.out (below_then HB12.out hb)) HK.out.wf
        cases e; exact hm
      have HMB : Hid (MIn w3 p3 L.length L) := by
        obtain ⟨p', c', e, hm, _⟩ := IOwn.in ho HK.out.wf
        cases e; exact hm
      have HF3 : Hid (B.IIn w3 q2 Fj.length Fj) := HF2.out.later hb
      have hfew := HK.out.few
      have hfl := isS_len HIS.out
      clear ho hb HP2 HM1 HF2 z2 HB12
      go_wp2_with fail
      refine (sameM_eq _ _ _ _ _ L _ HMA.out HMB.out (by omega)).mono ?_
      rintro e w4 ⟨rfl, b4⟩
      have HB4 : Hid (Bw wD w4) := below_then HB3.out b4
      have z4 := (HC.out w4 HB4.out).2
      have HR4 : Hid (RAt w4 R ps cs Fj vw Dj) := HR.out.later HB4.out
      have y4 := HR4.out.c0
      have HB34 : Hid (Below w3.heap.size w3 w4) := b4
      clear b4
      go_wp2_with fail
      refine (B.same_is _ _ _ _ _ _ _ _ _ (HF3.out.later HB34.out) HR4.out.form (by omega)).mono ?_
      rintro e w5 ⟨rfl, b5⟩
      have HB5 : Hid (Bw wD w5) := below_then HB4.out b5
      have z5 := (HC.out w5 HB5.out).1
      have HB35 : Hid (Below w3.heap.size w3 w5) := below_then HB34.out b5
      rw [show decide (Fj = Fj) = true by simp]
      have hne : ((L.length : Int) != (L.length : Int)) = false := by simp
      clear b5 z4 y4
      go_wp2_with (go_at_call 12; refine (len_at (HA.out.later HB5.out)).mono ?_; rintro e w' ⟨rfl, rfl⟩)
      obtain ⟨T8, hT8⟩ : ∃ T8, T8 = put (put (put T 8 (.em (.slice p1 L.length c1) L)) 10 (.ei (.slice q2 Fj.length d2) Fj)) 9 (.em (.slice p3 L.length c3) L) := ⟨_, rfl⟩
      rw [← hT8] at HP3
      obtain ⟨v4, us4, v5, us5, ls, f4, f5, hl, hl2⟩ := HSH.out.im
      obtain ⟨v6, us6, fs, f6, hf, hf2⟩ := HSH.out.fo
      have hp8 : PS w0 w'.drew P (pcs T) T8 G := (HP3.out.later HB35.out).later (show Below w'.heap.size w' w'.drew from below_drawn 1)
      have e0 : T8 0 = T 0 := by rw [hT8]; rfl
      have e1 : T8 1 = T 1 := by rw [hT8]; rfl
      have e2 : T8 2 = T 2 := by rw [hT8]; rfl
      have e3 : T8 3 = T 3 := by rw [hT8]; rfl
      have e4 : T8 4 = .il fl v4 us4 ls := by rw [hT8]; exact f4
      have e5 : T8 5 = .il fl v5 us5 ls := by rw [hT8]; exact f5
      have e6 : T8 6 = .fo fl v6 us6 fs := by rw [hT8]; exact f6
      have e8 : T8 8 = .em (.slice p1 L.length c1) L := by rw [hT8]; rfl
      have e9 : T8 9 = .em (.slice p3 L.length c3) L := by rw [hT8]; rfl
      have e10 : T8 10 = .ei (.slice q2 Fj.length d2) Fj := by rw [hT8]; rfl
      have l4 := hp8.ls (by decide) e4
      have l5 := hp8.ls (by decide) e5
      have l6 := hp8.ls (by decide) e6
      obtain ⟨p4, c4, rfl, -, -⟩ := O.own_form l4.row
      obtain ⟨p5, c5, rfl, -, -⟩ := O.own_form l5.row
      obtain ⟨p6, c6, rfl, -, -⟩ := O.own_form l6.row
      have hn4 : us4.length ≤ a + 2 := by have := l4.len; omega
      have hn5 : us5.length ≤ a + 2 := by have := l5.len; omega
      have hn6 : us6.length ≤ a + 2 := by have := l6.len; omega
      have HLL : Hid ((ls.length ≤ a + i ∧ ∀ l ∈ ls, l.length ≤ 16 ∧ ImsWf l) ∧ (fs.length ≤ a + i ∧ ∀ f ∈ fs, f.length ≤ 16)) := ⟨⟨hl, hl2⟩, hf, hf2⟩
      have HFW : Hid (L.length ≤ 16 ∧ ImsWf L) := ⟨hfew, HK.out.wf⟩
      have hpc : pcs T = #[(T 0).val, (T 1).val, (T 2).val, (T 3).val, (.slice p4 us4.length c4), (.slice p5 us5.length c5), (.slice p6 us6.length c6)] := by simp only [pcs, f4, f5, f6]; rfl
      rw [hpc] at hp8
      have HQ0 : Hid (PS w0 w'.drew P #[(T 0).val, (T 1).val, (T 2).val, (T 3).val, (.slice p4 us4.length c4), (.slice p5 us5.length c5), (.slice p6 us6.length c6)] T8 G) := hp8
      clear hT8 f4 f5 f6 l4 l5 l6 hl hl2 hf hf2 hpc hp8 HP3 HB35 z5 HB5 HR4 HB34 HF3 HMA HMB HB1 HB2 HB3 HB4 HA HR HC HP hHeld HK HIS HWF
      refine wp_region_noPanic ?_
      refine wp_region_stores (fun j => j == 26 || j == 29 || j == 32) (fun W => W.heap[P]? = some (.cells #[(T 0).val, (T 1).val, (T 2).val, (T 3).val, (.slice p4 us4.length c4), (.slice p5 us5.length c5), (.slice p6 us6.length c6)] 51 (0, 0))) (by kernel_rfl) ?_
      have HCS : Hid (∀ W : World, W.heap[P]? = some (.cells #[(T 0).val, (T 1).val, (T 2).val, (T 3).val, (.slice p4 us4.length c4), (.slice p5 us5.length c5), (.slice p6 us6.length c6)] 51 (0, 0)) → W.cell? ⟨P, 4, none⟩ = some (.slice p4 us4.length c4) ∧ W.cell? ⟨P, 5, none⟩ = some (.slice p5 us5.length c5) ∧ W.cell? ⟨P, 6, none⟩ = some (.slice p6 us6.length c6)) := fun W hW => ⟨by rw [cell_of_row _ P 4 _ 51 (0, 0) hW]; rfl, by rw [cell_of_row _ P 5 _ 51 (0, 0) hW]; rfl, by rw [cell_of_row _ P 6 _ 51 (0, 0) hW]; rfl⟩
      have hHeld := HQ0.out.pr
      generalize w'.drew = xD at *
      refine wpAnyM_take0 (i := 0) (v := ?va15) (by simp; rfl) (by kernel_rfl) (by kernel_rfl) (by kernel_rfl) (fun _ _ _ h => h) (Or.inl ⟨by rfl, ?ya15⟩) ?ra15
      case ya15 => intro w hSw; clear hSw; go_simp; with_reducible rfl
      simp only [Act.put, List.setIfInBounds_toArray, List.set_cons_zero, List.set_cons_succ]
      refine wpAnyM_take0 (i := 1) (v := ?va16) (by simp; rfl) (by kernel_rfl) (by kernel_rfl) (by kernel_rfl) (fun _ _ _ h => h) (Or.inl ⟨by rfl, ?ya16⟩) ?ra16
      case ya16 => intro w hSw; clear hSw; go_simp; with_reducible rfl
      simp only [Act.put, List.setIfInBounds_toArray, List.set_cons_zero, List.set_cons_succ]
      refine wpAnyM_take0 (i := 2) (v := ?va17) (by simp; rfl) (by kernel_rfl) (by kernel_rfl) (by kernel_rfl) (fun _ _ _ h => h) (Or.inl ⟨by rfl, ?ya17⟩) ?ra17
      case ya17 => intro w hSw; clear hSw; go_simp; with_reducible rfl
      simp only [Act.put, List.setIfInBounds_toArray, List.set_cons_zero, List.set_cons_succ]
      refine wpAnyM_take0 (i := 3) (v := ?va18) (by simp; rfl) (by kernel_rfl) (by kernel_rfl) (by kernel_rfl) (fun _ _ _ h => h) (Or.inl ⟨by rfl, ?ya18⟩) ?ra18
      case ya18 => intro w hSw; clear hSw; go_simp; with_reducible rfl
      simp only [Act.put, List.setIfInBounds_toArray, List.set_cons_zero, List.set_cons_succ]
      refine wpAnyM_take0 (i := 4) (v := ?va19) (by simp; rfl) (by kernel_rfl) (by kernel_rfl) (by kernel_rfl) (fun _ _ _ h => h) (Or.inl ⟨by rfl, ?ya19⟩) ?ra19
      case ya19 => intro w hSw; clear hSw; go_simp; with_reducible rfl
      simp only [Act.put, List.setIfInBounds_toArray, List.set_cons_zero, List.set_cons_succ]
      refine wpAnyM_take0 (i := 5) (v := ?va20) (by simp; rfl) (by kernel_rfl) (by kernel_rfl) (by kernel_rfl) (fun _ _ _ h => h) (Or.inl ⟨by rfl, ?ya20⟩) ?ra20
      case ya20 => intro w hSw; clear hSw; go_simp; with_reducible rfl
      simp only [Act.put, List.setIfInBounds_toArray, List.set_cons_zero, List.set_cons_succ]
      refine wpAnyM_take (i := 6) (v := ?va21) (by simp; rfl) (by kernel_rfl) (by kernel_rfl) (by kernel_rfl) (by kernel_rfl) (fun _ _ _ h => h) (Or.inl ⟨by rfl, ?ya21⟩) hHeld ?ra21
      case ya21 => intro w hSw; obtain ⟨z2, z3, z4⟩ := HCS.out w hSw; clear hSw; go_simp; with_reducible rfl
      simp only [Act.put, List.setIfInBounds_toArray, List.set_cons_zero, List.set_cons_succ]
      refine wpAnyM_take0 (i := 7) (v := ?va22) (by simp; rfl) (by kernel_rfl) (by kernel_rfl) (by kernel_rfl) (fun _ _ _ h => h) (Or.inl ⟨by rfl, ?ya22⟩) ?ra22
      case ya22 => intro w hSw; clear hSw; go_simp; with_reducible rfl
      simp only [Act.put, List.setIfInBounds_toArray, List.set_cons_zero, List.set_cons_succ]
      refine wpAnyM_take0 (i := 10) (v := ?va23) (by simp; rfl) (by kernel_rfl) (by kernel_rfl) (by kernel_rfl) (fun _ _ _ h => h) (Or.inl ⟨by rfl, ?ya23⟩) ?ra23
      case ya23 => intro w hSw; clear hSw; go_simp; with_reducible rfl
      simp only [Act.put, List.setIfInBounds_toArray, List.set_cons_zero, List.set_cons_succ]
      refine wpAnyM_take0 (i := 11) (v := ?va24) (by simp; rfl) (by kernel_rfl) (by kernel_rfl) (by kernel_rfl) (fun _ _ _ h => h) (Or.inl ⟨by rfl, ?ya24⟩) ?ra24
      case ya24 => intro w hSw; clear hSw; go_simp; with_reducible rfl
      simp only [Act.put, List.setIfInBounds_toArray, List.set_cons_zero, List.set_cons_succ]
      refine wpAnyM_take0 (i := 12) (v := ?va25) (by simp; rfl) (by kernel_rfl) (by kernel_rfl) (by kernel_rfl) (fun _ _ _ h => h) (Or.inl ⟨by rfl, ?ya25⟩) ?ra25
      case ya25 => intro w hSw; clear hSw; go_simp; with_reducible rfl
      simp only [Act.put, List.setIfInBounds_toArray, List.set_cons_zero, List.set_cons_succ]
      refine wpAnyM_take (i := 13) (v := ?va26) (by simp; rfl) (by kernel_rfl) (by kernel_rfl) (by kernel_rfl) (by kernel_rfl) (fun _ _ _ h => h) (Or.inl ⟨by rfl, ?ya26⟩) hHeld ?ra26
      case ya26 => intro w hSw; obtain ⟨z2, z3, z4⟩ := HCS.out w hSw; clear hSw; go_simp; with_reducible rfl
      simp only [Act.put, List.setIfInBounds_toArray, List.set_cons_zero, List.set_cons_succ]
      refine wpAnyM_take0 (i := 14) (v := ?va27) (by simp; rfl) (by kernel_rfl) (by kernel_rfl) (by kernel_rfl) (fun _ _ _ h => h) (Or.inl ⟨by rfl, ?ya27⟩) ?ra27
      case ya27 => intro w hSw; clear hSw; go_simp; with_reducible rfl
      simp only [Act.put, List.setIfInBounds_toArray, List.set_cons_zero, List.set_cons_succ]
      refine wpAnyM_take0 (i := 17) (v := ?va28) (by simp; rfl) (by kernel_rfl) (by kernel_rfl) (by kernel_rfl) (fun _ _ _ h => h) (Or.inl ⟨by rfl, ?ya28⟩) ?ra28
      case ya28 => intro w hSw; clear hSw; go_simp; with_reducible rfl
      simp only [Act.put, List.setIfInBounds_toArray, List.set_cons_zero, List.set_cons_succ]
      refine wpAnyM_take0 (i := 18) (v := ?va29) (by simp; rfl) (by kernel_rfl) (by kernel_rfl) (by kernel_rfl) (fun _ _ _ h => h) (Or.inl ⟨by rfl, ?ya29⟩) ?ra29
      case ya29 => intro w hSw; clear hSw; go_simp; with_reducible rfl
      simp only [Act.put, List.setIfInBounds_toArray, List.set_cons_zero, List.set_cons_succ]
      refine wpAnyM_take0 (i := 19) (v := ?va30) (by simp; rfl) (by kernel_rfl) (by kernel_rfl) (by kernel_rfl) (fun _ _ _ h => h) (Or.inl ⟨by rfl, ?ya30⟩) ?ra30
      case ya30 => intro w hSw; clear hSw; go_simp; with_reducible rfl
      simp only [Act.put, List.setIfInBounds_toArray, List.set_cons_zero, List.set_cons_succ]
      refine wpAnyM_take (i := 20) (v := ?va31) (by simp; rfl) (by kernel_rfl) (by kernel_rfl) (by kernel_rfl) (by kernel_rfl) (fun _ _ _ h => h) (Or.inl ⟨by rfl, ?ya31⟩) hHeld ?ra31
      case ya31 => intro w hSw; obtain ⟨z2, z3, z4⟩ := HCS.out w hSw; clear hSw; go_simp; with_reducible rfl
      simp only [Act.put, List.setIfInBounds_toArray, List.set_cons_zero, List.set_cons_succ]
      refine wpAnyM_take0 (i := 21) (v := ?va32) (by simp; rfl) (by kernel_rfl) (by kernel_rfl) (by kernel_rfl) (fun _ _ _ h => h) (Or.inl ⟨by rfl, ?ya32⟩) ?ra32
      case ya32 => intro w hSw; clear hSw; go_simp; with_reducible rfl
      simp only [Act.put, List.setIfInBounds_toArray, List.set_cons_zero, List.set_cons_succ]
      refine wpAnyM_ready (rs := [8, 15, 22]) (by kernel_rfl) (by simp) ?_
      refine AllReadyM.cons (by simp; rfl) (fun Kc hKc => ?_) (AllReadyM.cons (by simp; rfl) (fun Kc hKc => ?_) (AllReadyM.cons (by simp; rfl) (fun Kc hKc => ?_) AllReadyM.nil))
      · go_simp
        have HQ1 : Hid (PS w0 (xD.alloc (.cells #[(.slice p1 L.length c1)] 23)) P #[(T 0).val, (T 1).val, (T 2).val, (T 3).val, (.slice p4 us4.length c4), (.slice p5 us5.length c5), (.slice p6 us6.length c6)] (put T8 11 (.one 23 xD.heap.size (.slice p1 L.length c1))) G) := HQ0.out.fresh (below_alloc _ _) 11 (heap_alloc_new xD _) (fun b hb => by rw [show b = xD.heap.size from hb]; exact Nat.le_refl _)
        refine hKc.out _ _ (fun _ _ => HQ1.out.pr) ?_
        clear hKc Kc HQ0
        obtain ⟨T1, hT1⟩ : ∃ T1, T1 = put T8 11 (.one 23 xD.heap.size (.slice p1 L.length c1)) := ⟨_, rfl⟩
        rw [← hT1] at HQ1
        revert HQ1 hT1
        generalize xD.alloc (.cells #[(.slice p1 L.length c1)] 23) = x1
        generalize xD.heap.size = y4
        intro HQ1 hT1
        have e0 := eqT hT1 e0 (by decide)
        have e1 := eqT hT1 e1 (by decide)
        have e2 := eqT hT1 e2 (by decide)
        have e3 := eqT hT1 e3 (by decide)
        have e4 := eqT hT1 e4 (by decide)
        have e5 := eqT hT1 e5 (by decide)
        have e6 := eqT hT1 e6 (by decide)
        have e8 := eqT hT1 e8 (by decide)
        have e9 := eqT hT1 e9 (by decide)
        have e10 := eqT hT1 e10 (by decide)
        have eo4 : T1 11 = .one 23 y4 (.slice p1 L.length c1) := by rw [hT1]; exact put_same _ _ _
        clear hT1
        refine wpAnyM_ready (rs := [9, 15, 22]) (by kernel_rfl) (by simp) ?_
        refine AllReadyM.cons (by simp; rfl) (fun Kc hKc => ?_) (AllReadyM.cons (by simp; rfl) (fun Kc hKc => ?_) (AllReadyM.cons (by simp; rfl) (fun Kc hKc => ?_) AllReadyM.nil))
        · obtain ⟨v', x2, hap, ⟨g4, h4, rfl⟩, hP⟩ := HQ1.out.app (i := 4) (k := 8) (o := 11) O.elMM (by decide) (by decide) (by decide) (by decide) e4 e8 eo4 (by omega) rfl (by decide)
          have HAP : Hid ((Builtin.append_ #[48, 48] 48 #[(.slice p4 us4.length c4), .slice (some ⟨y4, 0, none⟩) 1 1]).run Try.prog x1 = .ok (.slice g4 (us4.length + 1) h4) x2) := hap
          clear hap
          generalize us4.length + 1 = m4 at *
          refine step_append_is (by rfl) rfl rfl rfl rfl HAP.out ?_
          refine hKc.out _ _ (fun _ _ => hP.pr) ?_
          clear hKc Kc HAP
          obtain ⟨T2, hT2⟩ : ∃ T2, T2 = put (put T1 4 (.il fl (.slice g4 m4 h4) (us4 ++ [(.slice p1 L.length c1)]) (ls ++ [L]))) 8 .no := ⟨_, rfl⟩
          have HQ2 : Hid (PS w0 x2 P #[(T 0).val, (T 1).val, (T 2).val, (T 3).val, (.slice p4 us4.length c4), (.slice p5 us5.length c5), (.slice p6 us6.length c6)] T2 G) := by rw [hT2]; exact hP
          clear hP
          have e0 := eqT2 hT2 e0 (by decide) (by decide)
          have e1 := eqT2 hT2 e1 (by decide) (by decide)
          have e2 := eqT2 hT2 e2 (by decide) (by decide)
          have e3 := eqT2 hT2 e3 (by decide) (by decide)
          have e5 := eqT2 hT2 e5 (by decide) (by decide)
          have e6 := eqT2 hT2 e6 (by decide) (by decide)
          have e9 := eqT2 hT2 e9 (by decide) (by decide)
          have e10 := eqT2 hT2 e10 (by decide) (by decide)
          have e4 : T2 4 = .il fl (.slice g4 m4 h4) (us4 ++ [(.slice p1 L.length c1)]) (ls ++ [L]) := by rw [hT2, put_other _ _ (by decide)]; exact put_same _ _ _
          clear hT2 HQ1
          simp only [Act.put, List.setIfInBounds_toArray, List.set_cons_zero, List.set_cons_succ]
          refine wpAnyM_ready (rs := [15, 22]) (by kernel_rfl) (by simp) ?_
          refine AllReadyM.cons (by simp; rfl) (fun Kc hKc => ?_) (AllReadyM.cons (by simp; rfl) (fun Kc hKc => ?_) AllReadyM.nil)
          · go_simp
            have HQ3 : Hid (PS w0 (x2.alloc (.cells #[(.slice p3 L.length c3)] 23)) P #[(T 0).val, (T 1).val, (T 2).val, (T 3).val, (.slice p4 us4.length c4), (.slice p5 us5.length c5), (.slice p6 us6.length c6)] (put T2 12 (.one 23 x2.heap.size (.slice p3 L.length c3))) G) := HQ2.out.fresh (below_alloc _ _) 12 (heap_alloc_new x2 _) (fun b hb => by rw [show b = x2.heap.size from hb]; exact Nat.le_refl _)
            refine hKc.out _ _ (fun _ _ => HQ3.out.pr) ?_
            clear hKc Kc HQ2
            obtain ⟨T3, hT3⟩ : ∃ T3, T3 = put T2 12 (.one 23 x2.heap.size (.slice p3 L.length c3)) := ⟨_, rfl⟩
            rw [← hT3] at HQ3
            revert HQ3 hT3
            generalize x2.alloc (.cells #[(.slice p3 L.length c3)] 23) = x3
            generalize x2.heap.size = y5
            intro HQ3 hT3
            have e0 := eqT hT3 e0 (by decide)
            have e1 := eqT hT3 e1 (by decide)
            have e2 := eqT hT3 e2 (by decide)
            have e3 := eqT hT3 e3 (by decide)
            have e5 := eqT hT3 e5 (by decide)
            have e6 := eqT hT3 e6 (by decide)
            have e9 := eqT hT3 e9 (by decide)
            have e10 := eqT hT3 e10 (by decide)
            have e4 := eqT hT3 e4 (by decide)
            have eo5 : T3 12 = .one 23 y5 (.slice p3 L.length c3) := by rw [hT3]; exact put_same _ _ _
            clear hT3
            refine wpAnyM_ready (rs := [16, 22]) (by kernel_rfl) (by simp) ?_
            refine AllReadyM.cons (by simp; rfl) (fun Kc hKc => ?_) (AllReadyM.cons (by simp; rfl) (fun Kc hKc => ?_) AllReadyM.nil)
            · obtain ⟨v', x4, hap, ⟨g5, h5, rfl⟩, hP⟩ := HQ3.out.app (i := 5) (k := 9) (o := 12) O.elMM (by decide) (by decide) (by decide) (by decide) e5 e9 eo5 (by omega) rfl (by decide)
              have HAP : Hid ((Builtin.append_ #[48, 48] 48 #[(.slice p5 us5.length c5), .slice (some ⟨y5, 0, none⟩) 1 1]).run Try.prog x3 = .ok (.slice g5 (us5.length + 1) h5) x4) := hap
              clear hap
              generalize us5.length + 1 = m5 at *
              refine step_append_is (by rfl) rfl rfl rfl rfl HAP.out ?_
              refine hKc.out _ _ (fun _ _ => hP.pr) ?_
              clear hKc Kc HAP
              obtain ⟨T4, hT4⟩ : ∃ T4, T4 = put (put T3 5 (.il fl (.slice g5 m5 h5) (us5 ++ [(.slice p3 L.length c3)]) (ls ++ [L]))) 9 .no := ⟨_, rfl⟩
              have HQ4 : Hid (PS w0 x4 P #[(T 0).val, (T 1).val, (T 2).val, (T 3).val, (.slice p4 us4.length c4), (.slice p5 us5.length c5), (.slice p6 us6.length c6)] T4 G) := by rw [hT4]; exact hP
              clear hP
              have e0 := eqT2 hT4 e0 (by decide) (by decide)
              have e1 := eqT2 hT4 e1 (by decide) (by decide)
              have e2 := eqT2 hT4 e2 (by decide) (by decide)
              have e3 := eqT2 hT4 e3 (by decide) (by decide)
              have e6 := eqT2 hT4 e6 (by decide) (by decide)
              have e10 := eqT2 hT4 e10 (by decide) (by decide)
              have e4 := eqT2 hT4 e4 (by decide) (by decide)
              have e5 : T4 5 = .il fl (.slice g5 m5 h5) (us5 ++ [(.slice p3 L.length c3)]) (ls ++ [L]) := by rw [hT4, put_other _ _ (by decide)]; exact put_same _ _ _
              clear hT4 HQ3
              simp only [Act.put, List.setIfInBounds_toArray, List.set_cons_zero, List.set_cons_succ]
              refine wpAnyM_ready (rs := [22]) (by kernel_rfl) (by simp) ?_
              refine AllReadyM.cons (by simp; rfl) (fun Kc hKc => ?_) AllReadyM.nil
              go_simp
              have HQ5 : Hid (PS w0 (x4.alloc (.cells #[(.slice q2 Fj.length d2)] 22)) P #[(T 0).val, (T 1).val, (T 2).val, (T 3).val, (.slice p4 us4.length c4), (.slice p5 us5.length c5), (.slice p6 us6.length c6)] (put T4 13 (.one 22 x4.heap.size (.slice q2 Fj.length d2))) G) := HQ4.out.fresh (below_alloc _ _) 13 (heap_alloc_new x4 _) (fun b hb => by rw [show b = x4.heap.size from hb]; exact Nat.le_refl _)
              refine hKc.out _ _ (fun _ _ => HQ5.out.pr) ?_
              clear hKc Kc HQ4
              obtain ⟨T5, hT5⟩ : ∃ T5, T5 = put T4 13 (.one 22 x4.heap.size (.slice q2 Fj.length d2)) := ⟨_, rfl⟩
              rw [← hT5] at HQ5
              revert HQ5 hT5
              generalize x4.alloc (.cells #[(.slice q2 Fj.length d2)] 22) = x5
              generalize x4.heap.size = y6
              intro HQ5 hT5
              have e0 := eqT hT5 e0 (by decide)
              have e1 := eqT hT5 e1 (by decide)
              have e2 := eqT hT5 e2 (by decide)
              have e3 := eqT hT5 e3 (by decide)
              have e6 := eqT hT5 e6 (by decide)
              have e10 := eqT hT5 e10 (by decide)
              have e4 := eqT hT5 e4 (by decide)
              have e5 := eqT hT5 e5 (by decide)
              have eo6 : T5 13 = .one 22 y6 (.slice q2 Fj.length d2) := by rw [hT5]; exact put_same _ _ _
              clear hT5
              refine wpAnyM_ready (rs := [23]) (by kernel_rfl) (by simp) ?_
              refine AllReadyM.cons (by simp; rfl) (fun Kc hKc => ?_) AllReadyM.nil
              obtain ⟨v', x6, hap, ⟨g6, h6, rfl⟩, hP⟩ := HQ5.out.app (i := 6) (k := 10) (o := 13) O.elS (by decide) (by decide) (by decide) (by decide) e6 e10 eo6 (by omega) rfl (by decide)
              have HAP : Hid ((Builtin.append_ #[49, 49] 49 #[(.slice p6 us6.length c6), .slice (some ⟨y6, 0, none⟩) 1 1]).run Try.prog x5 = .ok (.slice g6 (us6.length + 1) h6) x6) := hap
              clear hap
              generalize us6.length + 1 = m6 at *
              refine step_append_is (by rfl) rfl rfl rfl rfl HAP.out ?_
              refine hKc.out _ _ (fun _ _ => hP.pr) ?_
              clear hKc Kc HAP
              obtain ⟨T6, hT6⟩ : ∃ T6, T6 = put (put T5 6 (.fo fl (.slice g6 m6 h6) (us6 ++ [(.slice q2 Fj.length d2)]) (fs ++ [Fj]))) 10 .no := ⟨_, rfl⟩
              have HQ6 : Hid (PS w0 x6 P #[(T 0).val, (T 1).val, (T 2).val, (T 3).val, (.slice p4 us4.length c4), (.slice p5 us5.length c5), (.slice p6 us6.length c6)] T6 G) := by rw [hT6]; exact hP
              clear hP
              have e0 := eqT2 hT6 e0 (by decide) (by decide)
              have e1 := eqT2 hT6 e1 (by decide) (by decide)
              have e2 := eqT2 hT6 e2 (by decide) (by decide)
              have e3 := eqT2 hT6 e3 (by decide) (by decide)
              have e4 := eqT2 hT6 e4 (by decide) (by decide)
              have e5 := eqT2 hT6 e5 (by decide) (by decide)
              have e6 : T6 6 = .fo fl (.slice g6 m6 h6) (us6 ++ [(.slice q2 Fj.length d2)]) (fs ++ [Fj]) := by rw [hT6, put_other _ _ (by decide)]; exact put_same _ _ _
              clear hT6 HQ5
              simp only [Act.put, List.setIfInBounds_toArray, List.set_cons_zero, List.set_cons_succ]
              refine wpAnyM_take0 (i := 24) (v := ?va33) (by simp; rfl) (by kernel_rfl) (by kernel_rfl) (by kernel_rfl) (fun _ _ _ h => h) (Or.inl ⟨by rfl, ?ya33⟩) ?ra33
              case ya33 => intro w hSw; clear hSw; go_simp; with_reducible rfl
              simp only [Act.put, List.setIfInBounds_toArray, List.set_cons_zero, List.set_cons_succ]
              refine wpAnyM_take0 (i := 25) (v := ?va34) (by simp; rfl) (by kernel_rfl) (by kernel_rfl) (by kernel_rfl) (fun _ _ _ h => h) (Or.inl ⟨by rfl, ?ya34⟩) ?ra34
              case ya34 => intro w hSw; clear hSw; go_simp; with_reducible rfl
              simp only [Act.put, List.setIfInBounds_toArray, List.set_cons_zero, List.set_cons_succ]
              refine wpAnyM_ready (rs := [26]) (by kernel_rfl) (by simp) ?_
              refine AllReadyM.cons (by simp; rfl) (fun Kc hKc => ?_) AllReadyM.nil
              have hcv : x6.cell? ⟨P, 4, none⟩ = some (.slice p4 us4.length c4) := HQ6.out.cell (j := 4) rfl
              have hfv := HQ6.out.free 4
              go_simp
              have HQ7 : Hid (PS w0 (x6.setCell ⟨P, 4, none⟩ (.slice g4 m4 h4)) P #[(T 0).val, (T 1).val, (T 2).val, (T 3).val, (.slice g4 m4 h4), (.slice p5 us5.length c5), (.slice p6 us6.length c6)] T6 G) := HQ6.out.store 4 (.slice g4 m4 h4)
              refine hKc.out _ _ (fun h => absurd h (by decide)) ?_
              clear hKc Kc hcv hfv HQ6
              generalize x6.setCell ⟨P, 4, none⟩ (.slice g4 m4 h4) = x7 at *

              refine wpAnyM_take0 (i := 27) (v := ?va35) (by simp; rfl) (by kernel_rfl) (by kernel_rfl) (by kernel_rfl) (fun _ _ _ h => h) (Or.inl ⟨by rfl, ?ya35⟩) ?ra35
              case ya35 => intro w hSw; clear hSw; go_simp; with_reducible rfl
              simp only [Act.put, List.setIfInBounds_toArray, List.set_cons_zero, List.set_cons_succ]
              refine wpAnyM_take0 (i := 28) (v := ?va36) (by simp; rfl) (by kernel_rfl) (by kernel_rfl) (by kernel_rfl) (fun _ _ _ h => h) (Or.inl ⟨by rfl, ?ya36⟩) ?ra36
              case ya36 => intro w hSw; clear hSw; go_simp; with_reducible rfl
              simp only [Act.put, List.setIfInBounds_toArray, List.set_cons_zero, List.set_cons_succ]
              refine wpAnyM_ready (rs := [29]) (by kernel_rfl) (by simp) ?_
              refine AllReadyM.cons (by simp; rfl) (fun Kc hKc => ?_) AllReadyM.nil
              have hcv : x7.cell? ⟨P, 5, none⟩ = some (.slice p5 us5.length c5) := HQ7.out.cell (j := 5) rfl
              have hfv := HQ7.out.free 5
              go_simp
              have HQ8 : Hid (PS w0 (x7.setCell ⟨P, 5, none⟩ (.slice g5 m5 h5)) P #[(T 0).val, (T 1).val, (T 2).val, (T 3).val, (.slice g4 m4 h4), (.slice g5 m5 h5), (.slice p6 us6.length c6)] T6 G) := HQ7.out.store 5 (.slice g5 m5 h5)
              refine hKc.out _ _ (fun h => absurd h (by decide)) ?_
              clear hKc Kc hcv hfv HQ7
              generalize x7.setCell ⟨P, 5, none⟩ (.slice g5 m5 h5) = x8 at *

              refine wpAnyM_take0 (i := 30) (v := ?va37) (by simp; rfl) (by kernel_rfl) (by kernel_rfl) (by kernel_rfl) (fun _ _ _ h => h) (Or.inl ⟨by rfl, ?ya37⟩) ?ra37
              case ya37 => intro w hSw; clear hSw; go_simp; with_reducible rfl
              simp only [Act.put, List.setIfInBounds_toArray, List.set_cons_zero, List.set_cons_succ]
              refine wpAnyM_take0 (i := 31) (v := ?va38) (by simp; rfl) (by kernel_rfl) (by kernel_rfl) (by kernel_rfl) (fun _ _ _ h => h) (Or.inl ⟨by rfl, ?ya38⟩) ?ra38
              case ya38 => intro w hSw; clear hSw; go_simp; with_reducible rfl
              simp only [Act.put, List.setIfInBounds_toArray, List.set_cons_zero, List.set_cons_succ]
              refine wpAnyM_ready (rs := [32]) (by kernel_rfl) (by simp) ?_
              refine AllReadyM.cons (by simp; rfl) (fun Kc hKc => ?_) AllReadyM.nil
              have hcv : x8.cell? ⟨P, 6, none⟩ = some (.slice p6 us6.length c6) := HQ8.out.cell (j := 6) rfl
              have hfv := HQ8.out.free 6
              go_simp
              have HQ9 : Hid (PS w0 (x8.setCell ⟨P, 6, none⟩ (.slice g6 m6 h6)) P #[(T 0).val, (T 1).val, (T 2).val, (T 3).val, (.slice g4 m4 h4), (.slice g5 m5 h5), (.slice g6 m6 h6)] T6 G) := HQ8.out.store 6 (.slice g6 m6 h6)
              refine hKc.out _ _ (fun h => absurd h (by decide)) ?_
              clear hKc Kc hcv hfv HQ8
              generalize x8.setCell ⟨P, 6, none⟩ (.slice g6 m6 h6) = x9 at *

              refine wpAnyM_done (by kernel_rfl) (NoPanic.normal ?_) _
              have HZ : Hid (St w0 x9 P F D fl N (a + i + 1)) := told_end HQ9.out HSH.out e0 e1 e2 e3 e4 e5 e6 HLL.out.1 HLL.out.2 HFW.out hfl.2
              clear HQ9
              go_wp2_with fail
              go_roundw
              case rel => exact ⟨i + 1, by go_num, by omega, HZ⟩
              case measure => simp [intOf]; omega
            · go_simp
              have HQ4 : Hid (PS w0 (x3.alloc (.cells #[(.slice q2 Fj.length d2)] 22)) P #[(T 0).val, (T 1).val, (T 2).val, (T 3).val, (.slice p4 us4.length c4), (.slice p5 us5.length c5), (.slice p6 us6.length c6)] (put T3 13 (.one 22 x3.heap.size (.slice q2 Fj.length d2))) G) := HQ3.out.fresh (below_alloc _ _) 13 (heap_alloc_new x3 _) (fun b hb => by rw [show b = x3.heap.size from hb]; exact Nat.le_refl _)
              refine hKc.out _ _ (fun _ _ => HQ4.out.pr) ?_
              clear hKc Kc HQ3
              obtain ⟨T4, hT4⟩ : ∃ T4, T4 = put T3 13 (.one 22 x3.heap.size (.slice q2 Fj.length d2)) := ⟨_, rfl⟩
              rw [← hT4] at HQ4
              revert HQ4 hT4
              generalize x3.alloc (.cells #[(.slice q2 Fj.length d2)] 22) = x4
              generalize x3.heap.size = y6
              intro HQ4 hT4
              have e0 := eqT hT4 e0 (by decide)
              have e1 := eqT hT4 e1 (by decide)
              have e2 := eqT hT4 e2 (by decide)
              have e3 := eqT hT4 e3 (by decide)
              have e5 := eqT hT4 e5 (by decide)
              have e6 := eqT hT4 e6 (by decide)
              have e9 := eqT hT4 e9 (by decide)
              have e10 := eqT hT4 e10 (by decide)
              have e4 := eqT hT4 e4 (by decide)
              have eo5 := eqT hT4 eo5 (by decide)
              have eo6 : T4 13 = .one 22 y6 (.slice q2 Fj.length d2) := by rw [hT4]; exact put_same _ _ _
              clear hT4
              refine wpAnyM_ready (rs := [16]) (by kernel_rfl) (by simp) ?_
              refine AllReadyM.cons (by simp; rfl) (fun Kc hKc => ?_) AllReadyM.nil
              obtain ⟨v', x5, hap, ⟨g5, h5, rfl⟩, hP⟩ := HQ4.out.app (i := 5) (k := 9) (o := 12) O.elMM (by decide) (by decide) (by decide) (by decide) e5 e9 eo5 (by omega) rfl (by decide)
              have HAP : Hid ((Builtin.append_ #[48, 48] 48 #[(.slice p5 us5.length c5), .slice (some ⟨y5, 0, none⟩) 1 1]).run Try.prog x4 = .ok (.slice g5 (us5.length + 1) h5) x5) := hap
              clear hap
              generalize us5.length + 1 = m5 at *
              refine step_append_is (by rfl) rfl rfl rfl rfl HAP.out ?_
              refine hKc.out _ _ (fun _ _ => hP.pr) ?_
              clear hKc Kc HAP
              obtain ⟨T5, hT5⟩ : ∃ T5, T5 = put (put T4 5 (.il fl (.slice g5 m5 h5) (us5 ++ [(.slice p3 L.length c3)]) (ls ++ [L]))) 9 .no := ⟨_, rfl⟩
              have HQ5 : Hid (PS w0 x5 P #[(T 0).val, (T 1).val, (T 2).val, (T 3).val, (.slice p4 us4.length c4), (.slice p5 us5.length c5), (.slice p6 us6.length c6)] T5 G) := by rw [hT5]; exact hP
              clear hP
              have e0 := eqT2 hT5 e0 (by decide) (by decide)
              have e1 := eqT2 hT5 e1 (by decide) (by decide)
              have e2 := eqT2 hT5 e2 (by decide) (by decide)
              have e3 := eqT2 hT5 e3 (by decide) (by decide)
              have e6 := eqT2 hT5 e6 (by decide) (by decide)
              have e10 := eqT2 hT5 e10 (by decide) (by decide)
              have e4 := eqT2 hT5 e4 (by decide) (by decide)
              have eo6 := eqT2 hT5 eo6 (by decide) (by decide)
              have e5 : T5 5 = .il fl (.slice g5 m5 h5) (us5 ++ [(.slice p3 L.length c3)]) (ls ++ [L]) := by rw [hT5, put_other _ _ (by decide)]; exact put_same _ _ _
              clear hT5 HQ4
              simp only [Act.put, List.setIfInBounds_toArray, List.set_cons_zero, List.set_cons_succ]
              refine wpAnyM_ready (rs := [23]) (by kernel_rfl) (by simp) ?_
              refine AllReadyM.cons (by simp; rfl) (fun Kc hKc => ?_) AllReadyM.nil
              obtain ⟨v', x6, hap, ⟨g6, h6, rfl⟩, hP⟩ := HQ5.out.app (i := 6) (k := 10) (o := 13) O.elS (by decide) (by decide) (by decide) (by decide) e6 e10 eo6 (by omega) rfl (by decide)
              have HAP : Hid ((Builtin.append_ #[49, 49] 49 #[(.slice p6 us6.length c6), .slice (some ⟨y6, 0, none⟩) 1 1]).run Try.prog x5 = .ok (.slice g6 (us6.length + 1) h6) x6) := hap
              clear hap
              generalize us6.length + 1 = m6 at *
              refine step_append_is (by rfl) rfl rfl rfl rfl HAP.out ?_
              refine hKc.out _ _ (fun _ _ => hP.pr) ?_
              clear hKc Kc HAP
              obtain ⟨T6, hT6⟩ : ∃ T6, T6 = put (put T5 6 (.fo fl (.slice g6 m6 h6) (us6 ++ [(.slice q2 Fj.length d2)]) (fs ++ [Fj]))) 10 .no := ⟨_, rfl⟩
              have HQ6 : Hid (PS w0 x6 P #[(T 0).val, (T 1).val, (T 2).val, (T 3).val, (.slice p4 us4.length c4), (.slice p5 us5.length c5), (.slice p6 us6.length c6)] T6 G) := by rw [hT6]; exact hP
              clear hP
              have e0 := eqT2 hT6 e0 (by decide) (by decide)
              have e1 := eqT2 hT6 e1 (by decide) (by decide)
              have e2 := eqT2 hT6 e2 (by decide) (by decide)
              have e3 := eqT2 hT6 e3 (by decide) (by decide)
              have e4 := eqT2 hT6 e4 (by decide) (by decide)
              have e5 := eqT2 hT6 e5 (by decide) (by decide)
              have e6 : T6 6 = .fo fl (.slice g6 m6 h6) (us6 ++ [(.slice q2 Fj.length d2)]) (fs ++ [Fj]) := by rw [hT6, put_other _ _ (by decide)]; exact put_same _ _ _
              clear hT6 HQ5
              simp only [Act.put, List.setIfInBounds_toArray, List.set_cons_zero, List.set_cons_succ]
              refine wpAnyM_take0 (i := 24) (v := ?va39) (by simp; rfl) (by kernel_rfl) (by kernel_rfl) (by kernel_rfl) (fun _ _ _ h => h) (Or.inl ⟨by rfl, ?ya39⟩) ?ra39
              case ya39 => intro w hSw; clear hSw; go_simp; with_reducible rfl
              simp only [Act.put, List.setIfInBounds_toArray, List.set_cons_zero, List.set_cons_succ]
              refine wpAnyM_take0 (i := 25) (v := ?va40) (by simp; rfl) (by kernel_rfl) (by kernel_rfl) (by kernel_rfl) (fun _ _ _ h => h) (Or.inl ⟨by rfl, ?ya40⟩) ?ra40
              case ya40 => intro w hSw; clear hSw; go_simp; with_reducible rfl
              simp only [Act.put, List.setIfInBounds_toArray, List.set_cons_zero, List.set_cons_succ]
              refine wpAnyM_ready (rs := [26]) (by kernel_rfl) (by simp) ?_
              refine AllReadyM.cons (by simp; rfl) (fun Kc hKc => ?_) AllReadyM.nil
              have hcv : x6.cell? ⟨P, 4, none⟩ = some (.slice p4 us4.length c4) := HQ6.out.cell (j := 4) rfl
              have hfv := HQ6.out.free 4
              go_simp
              have HQ7 : Hid (PS w0 (x6.setCell ⟨P, 4, none⟩ (.slice g4 m4 h4)) P #[(T 0).val, (T 1).val, (T 2).val, (T 3).val, (.slice g4 m4 h4), (.slice p5 us5.length c5), (.slice p6 us6.length c6)] T6 G) := HQ6.out.store 4 (.slice g4 m4 h4)
              refine hKc.out _ _ (fun h => absurd h (by decide)) ?_
              clear hKc Kc hcv hfv HQ6
              generalize x6.setCell ⟨P, 4, none⟩ (.slice g4 m4 h4) = x7 at *

              refine wpAnyM_take0 (i := 27) (v := ?va41) (by simp; rfl) (by kernel_rfl) (by kernel_rfl) (by kernel_rfl) (fun _ _ _ h => h) (Or.inl ⟨by rfl, ?ya41⟩) ?ra41
              case ya41 => intro w hSw; clear hSw; go_simp; with_reducible rfl
              simp only [Act.put, List.setIfInBounds_toArray, List.set_cons_zero, List.set_cons_succ]
              refine wpAnyM_take0 (i := 28) (v := ?va42) (by simp; rfl) (by kernel_rfl) (by kernel_rfl) (by kernel_rfl) (fun _ _ _ h => h) (Or.inl ⟨by rfl, ?ya42⟩) ?ra42
              case ya42 => intro w hSw; clear hSw; go_simp; with_reducible rfl
              simp only [Act.put, List.setIfInBounds_toArray, List.set_cons_zero, List.set_cons_succ]
              refine wpAnyM_ready (rs := [29]) (by kernel_rfl) (by simp) ?_
              refine AllReadyM.cons (by simp; rfl) (fun Kc hKc => ?_) AllReadyM.nil
              have hcv : x7.cell? ⟨P, 5, none⟩ = some (.slice p5 us5.length c5) := HQ7.out.cell (j := 5) rfl
              have hfv := HQ7.out.free 5
              go_simp
              have HQ8 : Hid (PS w0 (x7.setCell ⟨P, 5, none⟩ (.slice g5 m5 h5)) P #[(T 0).val, (T 1).val, (T 2).val, (T 3).val, (.slice g4 m4 h4), (.slice g5 m5 h5), (.slice p6 us6.length c6)] T6 G) := HQ7.out.store 5 (.slice g5 m5 h5)
              refine hKc.out _ _ (fun h => absurd h (by decide)) ?_
              clear hKc Kc hcv hfv HQ7
              generalize x7.setCell ⟨P, 5, none⟩ (.slice g5 m5 h5) = x8 at *

              refine wpAnyM_take0 (i := 30) (v := ?va43) (by simp; rfl) (by kernel_rfl) (by kernel_rfl) (by kernel_rfl) (fun _ _ _ h => h) (Or.inl ⟨by rfl, ?ya43⟩) ?ra43
              case ya43 => intro w hSw; clear hSw; go_simp; with_reducible rfl
              simp only [Act.put, List.setIfInBounds_toArray, List.set_cons_zero, List.set_cons_succ]
              refine wpAnyM_take0 (i := 31) (v := ?va44) (by simp; rfl) (by kernel_rfl) (by kernel_rfl) (by kernel_rfl) (fun _ _ _ h => h) (Or.inl ⟨by rfl, ?ya44⟩) ?ra44
              case ya44 => intro w hSw; clear hSw; go_simp; with_reducible rfl
              simp only [Act.put, List.setIfInBounds_toArray, List.set_cons_zero, List.set_cons_succ]
              refine wpAnyM_ready (rs := [32]) (by kernel_rfl) (by simp) ?_
              refine AllReadyM.cons (by simp; rfl) (fun Kc hKc => ?_) AllReadyM.nil
              have hcv : x8.cell? ⟨P, 6, none⟩ = some (.slice p6 us6.length c6) := HQ8.out.cell (j := 6) rfl
              have hfv := HQ8.out.free 6
              go_simp
              have HQ9 : Hid (PS w0 (x8.setCell ⟨P, 6, none⟩ (.slice g6 m6 h6)) P #[(T 0).val, (T 1).val, (T 2).val, (T 3).val, (.slice g4 m4 h4), (.slice g5 m5 h5), (.slice g6 m6 h6)] T6 G) := HQ8.out.store 6 (.slice g6 m6 h6)
              refine hKc.out _ _ (fun h => absurd h (by decide)) ?_
              clear hKc Kc hcv hfv HQ8
              generalize x8.setCell ⟨P, 6, none⟩ (.slice g6 m6 h6) = x9 at *

              refine wpAnyM_done (by kernel_rfl) (NoPanic.normal ?_) _
              have HZ : Hid (St w0 x9 P F D fl N (a + i + 1)) := told_end HQ9.out HSH.out e0 e1 e2 e3 e4 e5 e6 HLL.out.1 HLL.out.2 HFW.out hfl.2
              clear HQ9
              go_wp2_with fail
              go_roundw
              case rel => exact ⟨i + 1, by go_num, by omega, HZ⟩
              case measure => simp [intOf]; omega
          · go_simp
            have HQ3 : Hid (PS w0 (x2.alloc (.cells #[(.slice q2 Fj.length d2)] 22)) P #[(T 0).val, (T 1).val, (T 2).val, (T 3).val, (.slice p4 us4.length c4), (.slice p5 us5.length c5), (.slice p6 us6.length c6)] (put T2 13 (.one 22 x2.heap.size (.slice q2 Fj.length d2))) G) := HQ2.out.fresh (below_alloc _ _) 13 (heap_alloc_new x2 _) (fun b hb => by rw [show b = x2.heap.size from hb]; exact Nat.le_refl _)
            refine hKc.out _ _ (fun _ _ => HQ3.out.pr) ?_
            clear hKc Kc HQ2
            obtain ⟨T3, hT3⟩ : ∃ T3, T3 = put T2 13 (.one 22 x2.heap.size (.slice q2 Fj.length d2)) := ⟨_, rfl⟩
            rw [← hT3] at HQ3
            revert HQ3 hT3
            generalize x2.alloc (.cells #[(.slice q2 Fj.length d2)] 22) = x3
            generalize x2.heap.size = y6
            intro HQ3 hT3
            have e0 := eqT hT3 e0 (by decide)
            have e1 := eqT hT3 e1 (by decide)
            have e2 := eqT hT3 e2 (by decide)
            have e3 := eqT hT3 e3 (by decide)
            have e5 := eqT hT3 e5 (by decide)
            have e6 := eqT hT3 e6 (by decide)
            have e9 := eqT hT3 e9 (by decide)
            have e10 := eqT hT3 e10 (by decide)
            have e4 := eqT hT3 e4 (by decide)
            have eo6 : T3 13 = .one 22 y6 (.slice q2 Fj.length d2) := by rw [hT3]; exact put_same _ _ _
            clear hT3
            refine wpAnyM_ready (rs := [15]) (by kernel_rfl) (by simp) ?_
            refine AllReadyM.cons (by simp; rfl) (fun Kc hKc => ?_) AllReadyM.nil
            go_simp
            have HQ4 : Hid (PS w0 (x3.alloc (.cells #[(.slice p3 L.length c3)] 23)) P #[(T 0).val, (T 1).val, (T 2).val, (T 3).val, (.slice p4 us4.length c4), (.slice p5 us5.length c5), (.slice p6 us6.length c6)] (put T3 12 (.one 23 x3.heap.size (.slice p3 L.length c3))) G) := HQ3.out.fresh (below_alloc _ _) 12 (heap_alloc_new x3 _) (fun b hb => by rw [show b = x3.heap.size from hb]; exact Nat.le_refl _)
            refine hKc.out _ _ (fun _ _ => HQ4.out.pr) ?_
            clear hKc Kc HQ3
            obtain ⟨T4, hT4⟩ : ∃ T4, T4 = put T3 12 (.one 23 x3.heap.size (.slice p3 L.length c3)) := ⟨_, rfl⟩
            rw [← hT4] at HQ4
            revert HQ4 hT4
            generalize x3.alloc (.cells #[(.slice p3 L.length c3)] 23) = x4
            generalize x3.heap.size = y5
            intro HQ4 hT4
            have e0 := eqT hT4 e0 (by decide)
            have e1 := eqT hT4 e1 (by decide)
            have e2 := eqT hT4 e2 (by decide)
            have e3 := eqT hT4 e3 (by decide)
            have e5 := eqT hT4 e5 (by decide)
            have e6 := eqT hT4 e6 (by decide)
            have e9 := eqT hT4 e9 (by decide)
            have e10 := eqT hT4 e10 (by decide)
            have e4 := eqT hT4 e4 (by decide)
            have eo6 := eqT hT4 eo6 (by decide)
            have eo5 : T4 12 = .one 23 y5 (.slice p3 L.length c3) := by rw [hT4]; exact put_same _ _ _
            clear hT4
            refine wpAnyM_ready (rs := [16]) (by kernel_rfl) (by simp) ?_
            refine AllReadyM.cons (by simp; rfl) (fun Kc hKc => ?_) AllReadyM.nil
            obtain ⟨v', x5, hap, ⟨g5, h5, rfl⟩, hP⟩ := HQ4.out.app (i := 5) (k := 9) (o := 12) O.elMM (by decide) (by decide) (by decide) (by decide) e5 e9 eo5 (by omega) rfl (by decide)
            have HAP : Hid ((Builtin.append_ #[48, 48] 48 #[(.slice p5 us5.length c5), .slice (some ⟨y5, 0, none⟩) 1 1]).run Try.prog x4 = .ok (.slice g5 (us5.length + 1) h5) x5) := hap
            clear hap
            generalize us5.length + 1 = m5 at *
            refine step_append_is (by rfl) rfl rfl rfl rfl HAP.out ?_
            refine hKc.out _ _ (fun _ _ => hP.pr) ?_
            clear hKc Kc HAP
            obtain ⟨T5, hT5⟩ : ∃ T5, T5 = put (put T4 5 (.il fl (.slice g5 m5 h5) (us5 ++ [(.slice p3 L.length c3)]) (ls ++ [L]))) 9 .no := ⟨_, rfl⟩
            have HQ5 : Hid (PS w0 x5 P #[(T 0).val, (T 1).val, (T 2).val, (T 3).val, (.slice p4 us4.length c4), (.slice p5 us5.length c5), (.slice p6 us6.length c6)] T5 G) := by rw [hT5]; exact hP
            clear hP
            have e0 := eqT2 hT5 e0 (by decide) (by decide)
            have e1 := eqT2 hT5 e1 (by decide) (by decide)
            have e2 := eqT2 hT5 e2 (by decide) (by decide)
            have e3 := eqT2 hT5 e3 (by decide) (by decide)
            have e6 := eqT2 hT5 e6 (by decide) (by decide)
            have e10 := eqT2 hT5 e10 (by decide) (by decide)
            have e4 := eqT2 hT5 e4 (by decide) (by decide)
            have eo6 := eqT2 hT5 eo6 (by decide) (by decide)
            have e5 : T5 5 = .il fl (.slice g5 m5 h5) (us5 ++ [(.slice p3 L.length c3)]) (ls ++ [L]) := by rw [hT5, put_other _ _ (by decide)]; exact put_same _ _ _
            clear hT5 HQ4
            simp only [Act.put, List.setIfInBounds_toArray, List.set_cons_zero, List.set_cons_succ]
            refine wpAnyM_ready (rs := [23]) (by kernel_rfl) (by simp) ?_
            refine AllReadyM.cons (by simp; rfl) (fun Kc hKc => ?_) AllReadyM.nil
            obtain ⟨v', x6, hap, ⟨g6, h6, rfl⟩, hP⟩ := HQ5.out.app (i := 6) (k := 10) (o := 13) O.elS (by decide) (by decide) (by decide) (by decide) e6 e10 eo6 (by omega) rfl (by decide)
            have HAP : Hid ((Builtin.append_ #[49, 49] 49 #[(.slice p6 us6.length c6), .slice (some ⟨y6, 0, none⟩) 1 1]).run Try.prog x5 = .ok (.slice g6 (us6.length + 1) h6) x6) := hap
            clear hap
            generalize us6.length + 1 = m6 at *
            refine step_append_is (by rfl) rfl rfl rfl rfl HAP.out ?_
            refine hKc.out _ _ (fun _ _ => hP.pr) ?_
            clear hKc Kc HAP
            obtain ⟨T6, hT6⟩ : ∃ T6, T6 = put (put T5 6 (.fo fl (.slice g6 m6 h6) (us6 ++ [(.slice q2 Fj.length d2)]) (fs ++ [Fj]))) 10 .no := ⟨_, rfl⟩
            have HQ6 : Hid (PS w0 x6 P #[(T 0).val, (T 1).val, (T 2).val, (T 3).val, (.slice p4 us4.length c4), (.slice p5 us5.length c5), (.slice p6 us6.length c6)] T6 G) := by rw [hT6]; exact hP
            clear hP
            have e0 := eqT2 hT6 e0 (by decide) (by decide)
            have e1 := eqT2 hT6 e1 (by decide) (by decide)
            have e2 := eqT2 hT6 e2 (by decide) (by decide)
            have e3 := eqT2 hT6 e3 (by decide) (by decide)
            have e4 := eqT2 hT6 e4 (by decide) (by decide)
            have e5 := eqT2 hT6 e5 (by decide) (by decide)
            have e6 : T6 6 = .fo fl (.slice g6 m6 h6) (us6 ++ [(.slice q2 Fj.length d2)]) (fs ++ [Fj]) := by rw [hT6, put_other _ _ (by decide)]; exact put_same _ _ _
            clear hT6 HQ5
            simp only [Act.put, List.setIfInBounds_toArray, List.set_cons_zero, List.set_cons_succ]
            refine wpAnyM_take0 (i := 24) (v := ?va45) (by simp; rfl) (by kernel_rfl) (by kernel_rfl) (by kernel_rfl) (fun _ _ _ h => h) (Or.inl ⟨by rfl, ?ya45⟩) ?ra45
            case ya45 => intro w hSw; clear hSw; go_simp; with_reducible rfl
            simp only [Act.put, List.setIfInBounds_toArray, List.set_cons_zero, List.set_cons_succ]
            refine wpAnyM_take0 (i := 25) (v := ?va46) (by simp; rfl) (by kernel_rfl) (by kernel_rfl) (by kernel_rfl) (fun _ _ _ h => h) (Or.inl ⟨by rfl, ?ya46⟩) ?ra46
            case ya46 => intro w hSw; clear hSw; go_simp; with_reducible rfl
            simp only [Act.put, List.setIfInBounds_toArray, List.set_cons_zero, List.set_cons_succ]
            refine wpAnyM_ready (rs := [26]) (by kernel_rfl) (by simp) ?_
            refine AllReadyM.cons (by simp; rfl) (fun Kc hKc => ?_) AllReadyM.nil
            have hcv : x6.cell? ⟨P, 4, none⟩ = some (.slice p4 us4.length c4) := HQ6.out.cell (j := 4) rfl
            have hfv := HQ6.out.free 4
            go_simp
            have HQ7 : Hid (PS w0 (x6.setCell ⟨P, 4, none⟩ (.slice g4 m4 h4)) P #[(T 0).val, (T 1).val, (T 2).val, (T 3).val, (.slice g4 m4 h4), (.slice p5 us5.length c5), (.slice p6 us6.length c6)] T6 G) := HQ6.out.store 4 (.slice g4 m4 h4)
            refine hKc.out _ _ (fun h => absurd h (by decide)) ?_
            clear hKc Kc hcv hfv HQ6
            generalize x6.setCell ⟨P, 4, none⟩ (.slice g4 m4 h4) = x7 at *

            refine wpAnyM_take0 (i := 27) (v := ?va47) (by simp; rfl) (by kernel_rfl) (by kernel_rfl) (by kernel_rfl) (fun _ _ _ h => h) (Or.inl ⟨by rfl, ?ya47⟩) ?ra47
            case ya47 => intro w hSw; clear hSw; go_simp; with_reducible rfl
            simp only [Act.put, List.setIfInBounds_toArray, List.set_cons_zero, List.set_cons_succ]
            refine wpAnyM_take0 (i := 28) (v := ?va48) (by simp; rfl) (by kernel_rfl) (by kernel_rfl) (by kernel_rfl) (fun _ _ _ h => h) (Or.inl ⟨by rfl, ?ya48⟩) ?ra48
            case ya48 => intro w hSw; clear hSw; go_simp; with_reducible rfl
            simp only [Act.put, List.setIfInBounds_toArray, List.set_cons_zero, List.set_cons_succ]
            refine wpAnyM_ready (rs := [29]) (by kernel_rfl) (by simp) ?_
            refine AllReadyM.cons (by simp; rfl) (fun Kc hKc => ?_) AllReadyM.nil
            have hcv : x7.cell? ⟨P, 5, none⟩ = some (.slice p5 us5.length c5) := HQ7.out.cell (j := 5) rfl
            have hfv := HQ7.out.free 5
            go_simp
            have HQ8 : Hid (PS w0 (x7.setCell ⟨P, 5, none⟩ (.slice g5 m5 h5)) P #[(T 0).val, (T 1).val, (T 2).val, (T 3).val, (.slice g4 m4 h4), (.slice g5 m5 h5), (.slice p6 us6.length c6)] T6 G) := HQ7.out.store 5 (.slice g5 m5 h5)
            refine hKc.out _ _ (fun h => absurd h (by decide)) ?_
            clear hKc Kc hcv hfv HQ7
            generalize x7.setCell ⟨P, 5, none⟩ (.slice g5 m5 h5) = x8 at *

            refine wpAnyM_take0 (i := 30) (v := ?va49) (by simp; rfl) (by kernel_rfl) (by kernel_rfl) (by kernel_rfl) (fun _ _ _ h => h) (Or.inl ⟨by rfl, ?ya49⟩) ?ra49
            case ya49 => intro w hSw; clear hSw; go_simp; with_reducible rfl
            simp only [Act.put, List.setIfInBounds_toArray, List.set_cons_zero, List.set_cons_succ]
            refine wpAnyM_take0 (i := 31) (v := ?va50) (by simp; rfl) (by kernel_rfl) (by kernel_rfl) (by kernel_rfl) (fun _ _ _ h => h) (Or.inl ⟨by rfl, ?ya50⟩) ?ra50
            case ya50 => intro w hSw; clear hSw; go_simp; with_reducible rfl
            simp only [Act.put, List.setIfInBounds_toArray, List.set_cons_zero, List.set_cons_succ]
            refine wpAnyM_ready (rs := [32]) (by kernel_rfl) (by simp) ?_
            refine AllReadyM.cons (by simp; rfl) (fun Kc hKc => ?_) AllReadyM.nil
            have hcv : x8.cell? ⟨P, 6, none⟩ = some (.slice p6 us6.length c6) := HQ8.out.cell (j := 6) rfl
            have hfv := HQ8.out.free 6
            go_simp
            have HQ9 : Hid (PS w0 (x8.setCell ⟨P, 6, none⟩ (.slice g6 m6 h6)) P #[(T 0).val, (T 1).val, (T 2).val, (T 3).val, (.slice g4 m4 h4), (.slice g5 m5 h5), (.slice g6 m6 h6)] T6 G) := HQ8.out.store 6 (.slice g6 m6 h6)
            refine hKc.out _ _ (fun h => absurd h (by decide)) ?_
            clear hKc Kc hcv hfv HQ8
            generalize x8.setCell ⟨P, 6, none⟩ (.slice g6 m6 h6) = x9 at *

            refine wpAnyM_done (by kernel_rfl) (NoPanic.normal ?_) _
            have HZ : Hid (St w0 x9 P F D fl N (a + i + 1)) := told_end HQ9.out HSH.out e0 e1 e2 e3 e4 e5 e6 HLL.out.1 HLL.out.2 HFW.out hfl.2
            clear HQ9
            go_wp2_with fail
            go_roundw
            case rel => exact ⟨i + 1, by go_num, by omega, HZ⟩
            case measure => simp [intOf]; omega
        · go_simp
          have HQ2 : Hid (PS w0 (x1.alloc (.cells #[(.slice p3 L.length c3)] 23)) P #[(T 0).val, (T 1).val, (T 2).val, (T 3).val, (.slice p4 us4.length c4), (.slice p5 us5.length c5), (.slice p6 us6.length c6)] (put T1 12 (.one 23 x1.heap.size (.slice p3 L.length c3))) G) := HQ1.out.fresh (below_alloc _ _) 12 (heap_alloc_new x1 _) (fun b hb => by rw [show b = x1.heap.size from hb]; exact Nat.le_refl _)
          refine hKc.out _ _ (fun _ _ => HQ2.out.pr) ?_
          clear hKc Kc HQ1
          obtain ⟨T2, hT2⟩ : ∃ T2, T2 = put T1 12 (.one 23 x1.heap.size (.slice p3 L.length c3)) := ⟨_, rfl⟩
          rw [← hT2] at HQ2
          revert HQ2 hT2
          generalize x1.alloc (.cells #[(.slice p3 L.length c3)] 23) = x2
          generalize x1.heap.size = y5
          intro HQ2 hT2
          have e0 := eqT hT2 e0 (by decide)
          have e1 := eqT hT2 e1 (by decide)
          have e2 := eqT hT2 e2 (by decide)
          have e3 := eqT hT2 e3 (by decide)
          have e4 := eqT hT2 e4 (by decide)
          have e5 := eqT hT2 e5 (by decide)
          have e6 := eqT hT2 e6 (by decide)
          have e8 := eqT hT2 e8 (by decide)
          have e9 := eqT hT2 e9 (by decide)
          have e10 := eqT hT2 e10 (by decide)
          have eo4 := eqT hT2 eo4 (by decide)
          have eo5 : T2 12 = .one 23 y5 (.slice p3 L.length c3) := by rw [hT2]; exact put_same _ _ _
          clear hT2
          refine wpAnyM_ready (rs := [9, 22]) (by kernel_rfl) (by simp) ?_
          refine AllReadyM.cons (by simp; rfl) (fun Kc hKc => ?_) (AllReadyM.cons (by simp; rfl) (fun Kc hKc => ?_) AllReadyM.nil)
          · obtain ⟨v', x3, hap, ⟨g4, h4, rfl⟩, hP⟩ := HQ2.out.app (i := 4) (k := 8) (o := 11) O.elMM (by decide) (by decide) (by decide) (by decide) e4 e8 eo4 (by omega) rfl (by decide)
            have HAP : Hid ((Builtin.append_ #[48, 48] 48 #[(.slice p4 us4.length c4), .slice (some ⟨y4, 0, none⟩) 1 1]).run Try.prog x2 = .ok (.slice g4 (us4.length + 1) h4) x3) := hap
            clear hap
            generalize us4.length + 1 = m4 at *
            refine step_append_is (by rfl) rfl rfl rfl rfl HAP.out ?_
            refine hKc.out _ _ (fun _ _ => hP.pr) ?_
            clear hKc Kc HAP
            obtain ⟨T3, hT3⟩ : ∃ T3, T3 = put (put T2 4 (.il fl (.slice g4 m4 h4) (us4 ++ [(.slice p1 L.length c1)]) (ls ++ [L]))) 8 .no := ⟨_, rfl⟩
            have HQ3 : Hid (PS w0 x3 P #[(T 0).val, (T 1).val, (T 2).val, (T 3).val, (.slice p4 us4.length c4), (.slice p5 us5.length c5), (.slice p6 us6.length c6)] T3 G) := by rw [hT3]; exact hP
            clear hP
            have e0 := eqT2 hT3 e0 (by decide) (by decide)
            have e1 := eqT2 hT3 e1 (by decide) (by decide)
            have e2 := eqT2 hT3 e2 (by decide) (by decide)
            have e3 := eqT2 hT3 e3 (by decide) (by decide)
            have e5 := eqT2 hT3 e5 (by decide) (by decide)
            have e6 := eqT2 hT3 e6 (by decide) (by decide)
            have e9 := eqT2 hT3 e9 (by decide) (by decide)
            have e10 := eqT2 hT3 e10 (by decide) (by decide)
            have eo5 := eqT2 hT3 eo5 (by decide) (by decide)
            have e4 : T3 4 = .il fl (.slice g4 m4 h4) (us4 ++ [(.slice p1 L.length c1)]) (ls ++ [L]) := by rw [hT3, put_other _ _ (by decide)]; exact put_same _ _ _
            clear hT3 HQ2
            simp only [Act.put, List.setIfInBounds_toArray, List.set_cons_zero, List.set_cons_succ]
            refine wpAnyM_ready (rs := [16, 22]) (by kernel_rfl) (by simp) ?_
            refine AllReadyM.cons (by simp; rfl) (fun Kc hKc => ?_) (AllReadyM.cons (by simp; rfl) (fun Kc hKc => ?_) AllReadyM.nil)
            · obtain ⟨v', x4, hap, ⟨g5, h5, rfl⟩, hP⟩ := HQ3.out.app (i := 5) (k := 9) (o := 12) O.elMM (by decide) (by decide) (by decide) (by decide) e5 e9 eo5 (by omega) rfl (by decide)
              have HAP : Hid ((Builtin.append_ #[48, 48] 48 #[(.slice p5 us5.length c5), .slice (some ⟨y5, 0, none⟩) 1 1]).run Try.prog x3 = .ok (.slice g5 (us5.length + 1) h5) x4) := hap
              clear hap
              generalize us5.length + 1 = m5 at *
              refine step_append_is (by rfl) rfl rfl rfl rfl HAP.out ?_
              refine hKc.out _ _ (fun _ _ => hP.pr) ?_
              clear hKc Kc HAP
              obtain ⟨T4, hT4⟩ : ∃ T4, T4 = put (put T3 5 (.il fl (.slice g5 m5 h5) (us5 ++ [(.slice p3 L.length c3)]) (ls ++ [L]))) 9 .no := ⟨_, rfl⟩
              have HQ4 : Hid (PS w0 x4 P #[(T 0).val, (T 1).val, (T 2).val, (T 3).val, (.slice p4 us4.length c4), (.slice p5 us5.length c5), (.slice p6 us6.length c6)] T4 G) := by rw [hT4]; exact hP
              clear hP
              have e0 := eqT2 hT4 e0 (by decide) (by decide)
              have e1 := eqT2 hT4 e1 (by decide) (by decide)
              have e2 := eqT2 hT4 e2 (by decide) (by decide)
              have e3 := eqT2 hT4 e3 (by decide) (by decide)
              have e6 := eqT2 hT4 e6 (by decide) (by decide)
              have e10 := eqT2 hT4 e10 (by decide) (by decide)
              have e4 := eqT2 hT4 e4 (by decide) (by decide)
              have e5 : T4 5 = .il fl (.slice g5 m5 h5) (us5 ++ [(.slice p3 L.length c3)]) (ls ++ [L]) := by rw [hT4, put_other _ _ (by decide)]; exact put_same _ _ _
              clear hT4 HQ3
              simp only [Act.put, List.setIfInBounds_toArray, List.set_cons_zero, List.set_cons_succ]
              refine wpAnyM_ready (rs := [22]) (by kernel_rfl) (by simp) ?_
              refine AllReadyM.cons (by simp; rfl) (fun Kc hKc => ?_) AllReadyM.nil
              go_simp
              have HQ5 : Hid (PS w0 (x4.alloc (.cells #[(.slice q2 Fj.length d2)] 22)) P #[(T 0).val, (T 1).val, (T 2).val, (T 3).val, (.slice p4 us4.length c4), (.slice p5 us5.length c5), (.slice p6 us6.length c6)] (put T4 13 (.one 22 x4.heap.size (.slice q2 Fj.length d2))) G) := HQ4.out.fresh (below_alloc _ _) 13 (heap_alloc_new x4 _) (fun b hb => by rw [show b = x4.heap.size from hb]; exact Nat.le_refl _)
              refine hKc.out _ _ (fun _ _ => HQ5.out.pr) ?_
              clear hKc Kc HQ4
              obtain ⟨T5, hT5⟩ : ∃ T5, T5 = put T4 13 (.one 22 x4.heap.size (.slice q2 Fj.length d2)) := ⟨_, rfl⟩
              rw [← hT5] at HQ5
              revert HQ5 hT5
              generalize x4.alloc (.cells #[(.slice q2 Fj.length d2)] 22) = x5
              generalize x4.heap.size = y6
              intro HQ5 hT5
              have e0 := eqT hT5 e0 (by decide)
              have e1 := eqT hT5 e1 (by decide)
              have e2 := eqT hT5 e2 (by decide)
              have e3 := eqT hT5 e3 (by decide)
              have e6 := eqT hT5 e6 (by decide)
              have e10 := eqT hT5 e10 (by decide)
              have e4 := eqT hT5 e4 (by decide)
              have e5 := eqT hT5 e5 (by decide)
              have eo6 : T5 13 = .one 22 y6 (.slice q2 Fj.length d2) := by rw [hT5]; exact put_same _ _ _
              clear hT5
              refine wpAnyM_ready (rs := [23]) (by kernel_rfl) (by simp) ?_
              refine AllReadyM.cons (by simp; rfl) (fun Kc hKc => ?_) AllReadyM.nil
              obtain ⟨v', x6, hap, ⟨g6, h6, rfl⟩, hP⟩ := HQ5.out.app (i := 6) (k := 10) (o := 13) O.elS (by decide) (by decide) (by decide) (by decide) e6 e10 eo6 (by omega) rfl (by decide)
              have HAP : Hid ((Builtin.append_ #[49, 49] 49 #[(.slice p6 us6.length c6), .slice (some ⟨y6, 0, none⟩) 1 1]).run Try.prog x5 = .ok (.slice g6 (us6.length + 1) h6) x6) := hap
              clear hap
              generalize us6.length + 1 = m6 at *
              refine step_append_is (by rfl) rfl rfl rfl rfl HAP.out ?_
              refine hKc.out _ _ (fun _ _ => hP.pr) ?_
              clear hKc Kc HAP
              obtain ⟨T6, hT6⟩ : ∃ T6, T6 = put (put T5 6 (.fo fl (.slice g6 m6 h6) (us6 ++ [(.slice q2 Fj.length d2)]) (fs ++ [Fj]))) 10 .no := ⟨_, rfl⟩
              have HQ6 : Hid (PS w0 x6 P #[(T 0).val, (T 1).val, (T 2).val, (T 3).val, (.slice p4 us4.length c4), (.slice p5 us5.length c5), (.slice p6 us6.length c6)] T6 G) := by rw [hT6]; exact hP
              clear hP
              have e0 := eqT2 hT6 e0 (by decide) (by decide)
              have e1 := eqT2 hT6 e1 (by decide) (by decide)
              have e2 := eqT2 hT6 e2 (by decide) (by decide)
              have e3 := eqT2 hT6 e3 (by decide) (by decide)
              have e4 := eqT2 hT6 e4 (by decide) (by decide)
              have e5 := eqT2 hT6 e5 (by decide) (by decide)
              have e6 : T6 6 = .fo fl (.slice g6 m6 h6) (us6 ++ [(.slice q2 Fj.length d2)]) (fs ++ [Fj]) := by rw [hT6, put_other _ _ (by decide)]; exact put_same _ _ _
              clear hT6 HQ5
              simp only [Act.put, List.setIfInBounds_toArray, List.set_cons_zero, List.set_cons_succ]
              refine wpAnyM_take0 (i := 24) (v := ?va51) (by simp; rfl) (by kernel_rfl) (by kernel_rfl) (by kernel_rfl) (fun _ _ _ h => h) (Or.inl ⟨by rfl, ?ya51⟩) ?ra51
              case ya51 => intro w hSw; clear hSw; go_simp; with_reducible rfl
              simp only [Act.put, List.setIfInBounds_toArray, List.set_cons_zero, List.set_cons_succ]
              refine wpAnyM_take0 (i := 25) (v := ?va52) (by simp; rfl) (by kernel_rfl) (by kernel_rfl) (by kernel_rfl) (fun _ _ _ h => h) (Or.inl ⟨by rfl, ?ya52⟩) ?ra52
              case ya52 => intro w hSw; clear hSw; go_simp; with_reducible rfl
              simp only [Act.put, List.setIfInBounds_toArray, List.set_cons_zero, List.set_cons_succ]
              refine wpAnyM_ready (rs := [26]) (by kernel_rfl) (by simp) ?_
              refine AllReadyM.cons (by simp; rfl) (fun Kc hKc => ?_) AllReadyM.nil
              have hcv : x6.cell? ⟨P, 4, none⟩ = some (.slice p4 us4.length c4) := HQ6.out.cell (j := 4) rfl
              have hfv := HQ6.out.free 4
              go_simp
              have HQ7 : Hid (PS w0 (x6.setCell ⟨P, 4, none⟩ (.slice g4 m4 h4)) P #[(T 0).val, (T 1).val, (T 2).val, (T 3).val, (.slice g4 m4 h4), (.slice p5 us5.length c5), (.slice p6 us6.length c6)] T6 G) := HQ6.out.store 4 (.slice g4 m4 h4)
              refine hKc.out _ _ (fun h => absurd h (by decide)) ?_
              clear hKc Kc hcv hfv HQ6
              generalize x6.setCell ⟨P, 4, none⟩ (.slice g4 m4 h4) = x7 at *

              refine wpAnyM_take0 (i := 27) (v := ?va53) (by simp; rfl) (by kernel_rfl) (by kernel_rfl) (by kernel_rfl) (fun _ _ _ h => h) (Or.inl ⟨by rfl, ?ya53⟩) ?ra53
              case ya53 => intro w hSw; clear hSw; go_simp; with_reducible rfl
              simp only [Act.put, List.setIfInBounds_toArray, List.set_cons_zero, List.set_cons_succ]
              refine wpAnyM_take0 (i := 28) (v := ?va54) (by simp; rfl) (by kernel_rfl) (by kernel_rfl) (by kernel_rfl) (fun _ _ _ h => h) (Or.inl ⟨by rfl, ?ya54⟩) ?ra54
              case ya54 => intro w hSw; clear hSw; go_simp; with_reducible rfl
              simp only [Act.put, List.setIfInBounds_toArray, List.set_cons_zero, List.set_cons_succ]
              refine wpAnyM_ready (rs := [29]) (by kernel_rfl) (by simp) ?_
              refine AllReadyM.cons (by simp; rfl) (fun Kc hKc => ?_) AllReadyM.nil
              have hcv : x7.cell? ⟨P, 5, none⟩ = some (.slice p5 us5.length c5) := HQ7.out.cell (j := 5) rfl
              have hfv := HQ7.out.free 5
              go_simp
              have HQ8 : Hid (PS w0 (x7.setCell ⟨P, 5, none⟩ (.slice g5 m5 h5)) P #[(T 0).val, (T 1).val, (T 2).val, (T 3).val, (.slice g4 m4 h4), (.slice g5 m5 h5), (.slice p6 us6.length c6)] T6 G) := HQ7.out.store 5 (.slice g5 m5 h5)
              refine hKc.out _ _ (fun h => absurd h (by decide)) ?_
              clear hKc Kc hcv hfv HQ7
              generalize x7.setCell ⟨P, 5, none⟩ (.slice g5 m5 h5) = x8 at *

              refine wpAnyM_take0 (i := 30) (v := ?va55) (by simp; rfl) (by kernel_rfl) (by kernel_rfl) (by kernel_rfl) (fun _ _ _ h => h) (Or.inl ⟨by rfl, ?ya55⟩) ?ra55
              case ya55 => intro w hSw; clear hSw; go_simp; with_reducible rfl
              simp only [Act.put, List.setIfInBounds_toArray, List.set_cons_zero, List.set_cons_succ]
              refine wpAnyM_take0 (i := 31) (v := ?va56) (by simp; rfl) (by kernel_rfl) (by kernel_rfl) (by kernel_rfl) (fun _ _ _ h => h) (Or.inl ⟨by rfl, ?ya56⟩) ?ra56
              case ya56 => intro w hSw; clear hSw; go_simp; with_reducible rfl
              simp only [Act.put, List.setIfInBounds_toArray, List.set_cons_zero, List.set_cons_succ]
              refine wpAnyM_ready (rs := [32]) (by kernel_rfl) (by simp) ?_
              refine AllReadyM.cons (by simp; rfl) (fun Kc hKc => ?_) AllReadyM.nil
              have hcv : x8.cell? ⟨P, 6, none⟩ = some (.slice p6 us6.length c6) := HQ8.out.cell (j := 6) rfl
              have hfv := HQ8.out.free 6
              go_simp
              have HQ9 : Hid (PS w0 (x8.setCell ⟨P, 6, none⟩ (.slice g6 m6 h6)) P #[(T 0).val, (T 1).val, (T 2).val, (T 3).val, (.slice g4 m4 h4), (.slice g5 m5 h5), (.slice g6 m6 h6)] T6 G) := HQ8.out.store 6 (.slice g6 m6 h6)
              refine hKc.out _ _ (fun h => absurd h (by decide)) ?_
              clear hKc Kc hcv hfv HQ8
              generalize x8.setCell ⟨P, 6, none⟩ (.slice g6 m6 h6) = x9 at *

              refine wpAnyM_done (by kernel_rfl) (NoPanic.normal ?_) _
              have HZ : Hid (St w0 x9 P F D fl N (a + i + 1)) := told_end HQ9.out HSH.out e0 e1 e2 e3 e4 e5 e6 HLL.out.1 HLL.out.2 HFW.out hfl.2
              clear HQ9
              go_wp2_with fail
              go_roundw
              case rel => exact ⟨i + 1, by go_num, by omega, HZ⟩
              case measure => simp [intOf]; omega
            · go_simp
              have HQ4 : Hid (PS w0 (x3.alloc (.cells #[(.slice q2 Fj.length d2)] 22)) P #[(T 0).val, (T 1).val, (T 2).val, (T 3).val, (.slice p4 us4.length c4), (.slice p5 us5.length c5), (.slice p6 us6.length c6)] (put T3 13 (.one 22 x3.heap.size (.slice q2 Fj.length d2))) G) := HQ3.out.fresh (below_alloc _ _) 13 (heap_alloc_new x3 _) (fun b hb => by rw [show b = x3.heap.size from hb]; exact Nat.le_refl _)
              refine hKc.out _ _ (fun _ _ => HQ4.out.pr) ?_
              clear hKc Kc HQ3
              obtain ⟨T4, hT4⟩ : ∃ T4, T4 = put T3 13 (.one 22 x3.heap.size (.slice q2 Fj.length d2)) := ⟨_, rfl⟩
              rw [← hT4] at HQ4
              revert HQ4 hT4
              generalize x3.alloc (.cells #[(.slice q2 Fj.length d2)] 22) = x4
              generalize x3.heap.size = y6
              intro HQ4 hT4
              have e0 := eqT hT4 e0 (by decide)
              have e1 := eqT hT4 e1 (by decide)
              have e2 := eqT hT4 e2 (by decide)
              have e3 := eqT hT4 e3 (by decide)
              have e5 := eqT hT4 e5 (by decide)
              have e6 := eqT hT4 e6 (by decide)
              have e9 := eqT hT4 e9 (by decide)
              have e10 := eqT hT4 e10 (by decide)
              have eo5 := eqT hT4 eo5 (by decide)
              have e4 := eqT hT4 e4 (by decide)
              have eo6 : T4 13 = .one 22 y6 (.slice q2 Fj.length d2) := by rw [hT4]; exact put_same _ _ _
              clear hT4
              refine wpAnyM_ready (rs := [16]) (by kernel_rfl) (by simp) ?_
              refine AllReadyM.cons (by simp; rfl) (fun Kc hKc => ?_) AllReadyM.nil
              obtain ⟨v', x5, hap, ⟨g5, h5, rfl⟩, hP⟩ := HQ4.out.app (i := 5) (k := 9) (o := 12) O.elMM (by decide) (by decide) (by decide) (by decide) e5 e9 eo5 (by omega) rfl (by decide)
              have HAP : Hid ((Builtin.append_ #[48, 48] 48 #[(.slice p5 us5.length c5), .slice (some ⟨y5, 0, none⟩) 1 1]).run Try.prog x4 = .ok (.slice g5 (us5.length + 1) h5) x5) := hap
              clear hap
              generalize us5.length + 1 = m5 at *
              refine step_append_is (by rfl) rfl rfl rfl rfl HAP.out ?_
              refine hKc.out _ _ (fun _ _ => hP.pr) ?_
              clear hKc Kc HAP
              obtain ⟨T5, hT5⟩ : ∃ T5, T5 = put (put T4 5 (.il fl (.slice g5 m5 h5) (us5 ++ [(.slice p3 L.length c3)]) (ls ++ [L]))) 9 .no := ⟨_, rfl⟩
              have HQ5 : Hid (PS w0 x5 P #[(T 0).val, (T 1).val, (T 2).val, (T 3).val, (.slice p4 us4.length c4), (.slice p5 us5.length c5), (.slice p6 us6.length c6)] T5 G) := by rw [hT5]; exact hP
              clear hP
              have e0 := eqT2 hT5 e0 (by decide) (by decide)
              have e1 := eqT2 hT5 e1 (by decide) (by decide)
              have e2 := eqT2 hT5 e2 (by decide) (by decide)
              have e3 := eqT2 hT5 e3 (by decide) (by decide)
              have e6 := eqT2 hT5 e6 (by decide) (by decide)
              have e10 := eqT2 hT5 e10 (by decide) (by decide)
              have e4 := eqT2 hT5 e4 (by decide) (by decide)
              have eo6 := eqT2 hT5 eo6 (by decide) (by decide)
              have e5 : T5 5 = .il fl (.slice g5 m5 h5) (us5 ++ [(.slice p3 L.length c3)]) (ls ++ [L]) := by rw [hT5, put_other _ _ (by decide)]; exact put_same _ _ _
              clear hT5 HQ4
              simp only [Act.put, List.setIfInBounds_toArray, List.set_cons_zero, List.set_cons_succ]
              refine wpAnyM_ready (rs := [23]) (by kernel_rfl) (by simp) ?_
              refine AllReadyM.cons (by simp; rfl) (fun Kc hKc => ?_) AllReadyM.nil
              obtain ⟨v', x6, hap, ⟨g6, h6, rfl⟩, hP⟩ := HQ5.out.app (i := 6) (k := 10) (o := 13) O.elS (by decide) (by decide) (by decide) (by decide) e6 e10 eo6 (by omega) rfl (by decide)
              have HAP : Hid ((Builtin.append_ #[49, 49] 49 #[(.slice p6 us6.length c6), .slice (some ⟨y6, 0, none⟩) 1 1]).run Try.prog x5 = .ok (.slice g6 (us6.length + 1) h6) x6) := hap
              clear hap
              generalize us6.length + 1 = m6 at *
              refine step_append_is (by rfl) rfl rfl rfl rfl HAP.out ?_
              refine hKc.out _ _ (fun _ _ => hP.pr) ?_
              clear hKc Kc HAP
              obtain ⟨T6, hT6⟩ : ∃ T6, T6 = put (put T5 6 (.fo fl (.slice g6 m6 h6) (us6 ++ [(.slice q2 Fj.length d2)]) (fs ++ [Fj]))) 10 .no := ⟨_, rfl⟩
              have HQ6 : Hid (PS w0 x6 P #[(T 0).val, (T 1).val, (T 2).val, (T 3).val, (.slice p4 us4.length c4), (.slice p5 us5.length c5), (.slice p6 us6.length c6)] T6 G) := by rw [hT6]; exact hP
              clear hP
              have e0 := eqT2 hT6 e0 (by decide) (by decide)
              have e1 := eqT2 hT6 e1 (by decide) (by decide)
              have e2 := eqT2 hT6 e2 (by decide) (by decide)
              have e3 := eqT2 hT6 e3 (by decide) (by decide)
              have e4 := eqT2 hT6 e4 (by decide) (by decide)
              have e5 := eqT2 hT6 e5 (by decide) (by decide)
              have e6 : T6 6 = .fo fl (.slice g6 m6 h6) (us6 ++ [(.slice q2 Fj.length d2)]) (fs ++ [Fj]) := by rw [hT6, put_other _ _ (by decide)]; exact put_same _ _ _
              clear hT6 HQ5
              simp only [Act.put, List.setIfInBounds_toArray, List.set_cons_zero, List.set_cons_succ]
              refine wpAnyM_take0 (i := 24) (v := ?va57) (by simp; rfl) (by kernel_rfl) (by kernel_rfl) (by kernel_rfl) (fun _ _ _ h => h) (Or.inl ⟨by rfl, ?ya57⟩) ?ra57
              case ya57 => intro w hSw; clear hSw; go_simp; with_reducible rfl
              simp only [Act.put, List.setIfInBounds_toArray, List.set_cons_zero, List.set_cons_succ]
              refine wpAnyM_take0 (i := 25) (v := ?va58) (by simp; rfl) (by kernel_rfl) (by kernel_rfl) (by kernel_rfl) (fun _ _ _ h => h) (Or.inl ⟨by rfl, ?ya58⟩) ?ra58
              case ya58 => intro w hSw; clear hSw; go_simp; with_reducible rfl
              simp only [Act.put, List.setIfInBounds_toArray, List.set_cons_zero, List.set_cons_succ]
              refine wpAnyM_ready (rs := [26]) (by kernel_rfl) (by simp) ?_
              refine AllReadyM.cons (by simp; rfl) (fun Kc hKc => ?_) AllReadyM.nil
              have hcv : x6.cell? ⟨P, 4, none⟩ = some (.slice p4 us4.length c4) := HQ6.out.cell (j := 4) rfl
              have hfv := HQ6.out.free 4
              go_simp
              have HQ7 : Hid (PS w0 (x6.setCell ⟨P, 4, none⟩ (.slice g4 m4 h4)) P #[(T 0).val, (T 1).val, (T 2).val, (T 3).val, (.slice g4 m4 h4), (.slice p5 us5.length c5), (.slice p6 us6.length c6)] T6 G) := HQ6.out.store 4 (.slice g4 m4 h4)
              refine hKc.out _ _ (fun h => absurd h (by decide)) ?_
              clear hKc Kc hcv hfv HQ6
              generalize x6.setCell ⟨P, 4, none⟩ (.slice g4 m4 h4) = x7 at *

              refine wpAnyM_take0 (i := 27) (v := ?va59) (by simp; rfl) (by kernel_rfl) (by kernel_rfl) (by kernel_rfl) (fun _ _ _ h => h) (Or.inl ⟨by rfl, ?ya59⟩) ?ra59
              case ya59 => intro w hSw; clear hSw; go_simp; with_reducible rfl
              simp only [Act.put, List.setIfInBounds_toArray, List.set_cons_zero, List.set_cons_succ]
              refine wpAnyM_take0 (i := 28) (v := ?va60) (by simp; rfl) (by kernel_rfl) (by kernel_rfl) (by kernel_rfl) (fun _ _ _ h => h) (Or.inl ⟨by rfl, ?ya60⟩) ?ra60
              case ya60 => intro w hSw; clear hSw; go_simp; with_reducible rfl
              simp only [Act.put, List.setIfInBounds_toArray, List.set_cons_zero, List.set_cons_succ]
              refine wpAnyM_ready (rs := [29]) (by kernel_rfl) (by simp) ?_
              refine AllReadyM.cons (by simp; rfl) (fun Kc hKc => ?_) AllReadyM.nil
              have hcv : x7.cell? ⟨P, 5, none⟩ = some (.slice p5 us5.length c5) := HQ7.out.cell (j := 5) rfl
              have hfv := HQ7.out.free 5
              go_simp
              have HQ8 : Hid (PS w0 (x7.setCell ⟨P, 5, none⟩ (.slice g5 m5 h5)) P #[(T 0).val, (T 1).val, (T 2).val, (T 3).val, (.slice g4 m4 h4), (.slice g5 m5 h5), (.slice p6 us6.length c6)] T6 G) := HQ7.out.store 5 (.slice g5 m5 h5)
              refine hKc.out _ _ (fun h => absurd h (by decide)) ?_
              clear hKc Kc hcv hfv HQ7
              generalize x7.setCell ⟨P, 5, none⟩ (.slice g5 m5 h5) = x8 at *

              refine wpAnyM_take0 (i := 30) (v := ?va61) (by simp; rfl) (by kernel_rfl) (by kernel_rfl) (by kernel_rfl) (fun _ _ _ h => h) (Or.inl ⟨by rfl, ?ya61⟩) ?ra61
              case ya61 => intro w hSw; clear hSw; go_simp; with_reducible rfl
              simp only [Act.put, List.setIfInBounds_toArray, List.set_cons_zero, List.set_cons_succ]
              refine wpAnyM_take0 (i := 31) (v := ?va62) (by simp; rfl) (by kernel_rfl) (by kernel_rfl) (by kernel_rfl) (fun _ _ _ h => h) (Or.inl ⟨by rfl, ?ya62⟩) ?ra62
              case ya62 => intro w hSw; clear hSw; go_simp; with_reducible rfl
              simp only [Act.put, List.setIfInBounds_toArray, List.set_cons_zero, List.set_cons_succ]
              refine wpAnyM_ready (rs := [32]) (by kernel_rfl) (by simp) ?_
              refine AllReadyM.cons (by simp; rfl) (fun Kc hKc => ?_) AllReadyM.nil
              have hcv : x8.cell? ⟨P, 6, none⟩ = some (.slice p6 us6.length c6) := HQ8.out.cell (j := 6) rfl
              have hfv := HQ8.out.free 6
              go_simp
              have HQ9 : Hid (PS w0 (x8.setCell ⟨P, 6, none⟩ (.slice g6 m6 h6)) P #[(T 0).val, (T 1).val, (T 2).val, (T 3).val, (.slice g4 m4 h4), (.slice g5 m5 h5), (.slice g6 m6 h6)] T6 G) := HQ8.out.store 6 (.slice g6 m6 h6)
              refine hKc.out _ _ (fun h => absurd h (by decide)) ?_
              clear hKc Kc hcv hfv HQ8
              generalize x8.setCell ⟨P, 6, none⟩ (.slice g6 m6 h6) = x9 at *

              refine wpAnyM_done (by kernel_rfl) (NoPanic.normal ?_) _
              have HZ : Hid (St w0 x9 P F D fl N (a + i + 1)) := told_end HQ9.out HSH.out e0 e1 e2 e3 e4 e5 e6 HLL.out.1 HLL.out.2 HFW.out hfl.2
              clear HQ9
              go_wp2_with fail
              go_roundw
              case rel => exact ⟨i + 1, by go_num, by omega, HZ⟩
              case measure => simp [intOf]; omega
          · go_simp
            have HQ3 : Hid (PS w0 (x2.alloc (.cells #[(.slice q2 Fj.length d2)] 22)) P #[(T 0).val, (T 1).val, (T 2).val, (T 3).val, (.slice p4 us4.length c4), (.slice p5 us5.length c5), (.slice p6 us6.length c6)] (put T2 13 (.one 22 x2.heap.size (.slice q2 Fj.length d2))) G) := HQ2.out.fresh (below_alloc _ _) 13 (heap_alloc_new x2 _) (fun b hb => by rw [show b = x2.heap.size from hb]; exact Nat.le_refl _)
            refine hKc.out _ _ (fun _ _ => HQ3.out.pr) ?_
            clear hKc Kc HQ2
            obtain ⟨T3, hT3⟩ : ∃ T3, T3 = put T2 13 (.one 22 x2.heap.size (.slice q2 Fj.length d2)) := ⟨_, rfl⟩
            rw [← hT3] at HQ3
            revert HQ3 hT3
            generalize x2.alloc (.cells #[(.slice q2 Fj.length d2)] 22) = x3
            generalize x2.heap.size = y6
            intro HQ3 hT3
            have e0 := eqT hT3 e0 (by decide)
            have e1 := eqT hT3 e1 (by decide)
            have e2 := eqT hT3 e2 (by decide)
            have e3 := eqT hT3 e3 (by decide)
            have e4 := eqT hT3 e4 (by decide)
            have e5 := eqT hT3 e5 (by decide)
            have e6 := eqT hT3 e6 (by decide)
            have e8 := eqT hT3 e8 (by decide)
            have e9 := eqT hT3 e9 (by decide)
            have e10 := eqT hT3 e10 (by decide)
            have eo4 := eqT hT3 eo4 (by decide)
            have eo5 := eqT hT3 eo5 (by decide)
            have eo6 : T3 13 = .one 22 y6 (.slice q2 Fj.length d2) := by rw [hT3]; exact put_same _ _ _
            clear hT3
            refine wpAnyM_ready (rs := [9]) (by kernel_rfl) (by simp) ?_
            refine AllReadyM.cons (by simp; rfl) (fun Kc hKc => ?_) AllReadyM.nil
            obtain ⟨v', x4, hap, ⟨g4, h4, rfl⟩, hP⟩ := HQ3.out.app (i := 4) (k := 8) (o := 11) O.elMM (by decide) (by decide) (by decide) (by decide) e4 e8 eo4 (by omega) rfl (by decide)
            have HAP : Hid ((Builtin.append_ #[48, 48] 48 #[(.slice p4 us4.length c4), .slice (some ⟨y4, 0, none⟩) 1 1]).run Try.prog x3 = .ok (.slice g4 (us4.length + 1) h4) x4) := hap
            clear hap
            generalize us4.length + 1 = m4 at *
            refine step_append_is (by rfl) rfl rfl rfl rfl HAP.out ?_
            refine hKc.out _ _ (fun _ _ => hP.pr) ?_
            clear hKc Kc HAP
            obtain ⟨T4, hT4⟩ : ∃ T4, T4 = put (put T3 4 (.il fl (.slice g4 m4 h4) (us4 ++ [(.slice p1 L.length c1)]) (ls ++ [L]))) 8 .no := ⟨_, rfl⟩
            have HQ4 : Hid (PS w0 x4 P #[(T 0).val, (T 1).val, (T 2).val, (T 3).val, (.slice p4 us4.length c4), (.slice p5 us5.length c5), (.slice p6 us6.length c6)] T4 G) := by rw [hT4]; exact hP
            clear hP
            have e0 := eqT2 hT4 e0 (by decide) (by decide)
            have e1 := eqT2 hT4 e1 (by decide) (by decide)
            have e2 := eqT2 hT4 e2 (by decide) (by decide)
            have e3 := eqT2 hT4 e3 (by decide) (by decide)
            have e5 := eqT2 hT4 e5 (by decide) (by decide)
            have e6 := eqT2 hT4 e6 (by decide) (by decide)
            have e9 := eqT2 hT4 e9 (by decide) (by decide)
            have e10 := eqT2 hT4 e10 (by decide) (by decide)
            have eo5 := eqT2 hT4 eo5 (by decide) (by decide)
            have eo6 := eqT2 hT4 eo6 (by decide) (by decide)
            have e4 : T4 4 = .il fl (.slice g4 m4 h4) (us4 ++ [(.slice p1 L.length c1)]) (ls ++ [L]) := by rw [hT4, put_other _ _ (by decide)]; exact put_same _ _ _
            clear hT4 HQ3
            simp only [Act.put, List.setIfInBounds_toArray, List.set_cons_zero, List.set_cons_succ]
            refine wpAnyM_ready (rs := [16]) (by kernel_rfl) (by simp) ?_
            refine AllReadyM.cons (by simp; rfl) (fun Kc hKc => ?_) AllReadyM.nil
            obtain ⟨v', x5, hap, ⟨g5, h5, rfl⟩, hP⟩ := HQ4.out.app (i := 5) (k := 9) (o := 12) O.elMM (by decide) (by decide) (by decide) (by decide) e5 e9 eo5 (by omega) rfl (by decide)
            have HAP : Hid ((Builtin.append_ #[48, 48] 48 #[(.slice p5 us5.length c5), .slice (some ⟨y5, 0, none⟩) 1 1]).run Try.prog x4 = .ok (.slice g5 (us5.length + 1) h5) x5) := hap
            clear hap
            generalize us5.length + 1 = m5 at *
            refine step_append_is (by rfl) rfl rfl rfl rfl HAP.out ?_
            refine hKc.out _ _ (fun _ _ => hP.pr) ?_
            clear hKc Kc HAP
            obtain ⟨T5, hT5⟩ : ∃ T5, T5 = put (put T4 5 (.il fl (.slice g5 m5 h5) (us5 ++ [(.slice p3 L.length c3)]) (ls ++ [L]))) 9 .no := ⟨_, rfl⟩
            have HQ5 : Hid (PS w0 x5 P #[(T 0).val, (T 1).val, (T 2).val, (T 3).val, (.slice p4 us4.length c4), (.slice p5 us5.length c5), (.slice p6 us6.length c6)] T5 G) := by rw [hT5]; exact hP
            clear hP
            have e0 := eqT2 hT5 e0 (by decide) (by decide)
            have e1 := eqT2 hT5 e1 (by decide) (by decide)
            have e2 := eqT2 hT5 e2 (by decide) (by decide)
            have e3 := eqT2 hT5 e3 (by decide) (by decide)
            have e6 := eqT2 hT5 e6 (by decide) (by decide)
            have e10 := eqT2 hT5 e10 (by decide) (by decide)
            have eo6 := eqT2 hT5 eo6 (by decide) (by decide)
            have e4 := eqT2 hT5 e4 (by decide) (by decide)
            have e5 : T5 5 = .il fl (.slice g5 m5 h5) (us5 ++ [(.slice p3 L.length c3)]) (ls ++ [L]) := by rw [hT5, put_other _ _ (by decide)]; exact put_same _ _ _
            clear hT5 HQ4
            simp only [Act.put, List.setIfInBounds_toArray, List.set_cons_zero, List.set_cons_succ]
            refine wpAnyM_ready (rs := [23]) (by kernel_rfl) (by simp) ?_
            refine AllReadyM.cons (by simp; rfl) (fun Kc hKc => ?_) AllReadyM.nil
            obtain ⟨v', x6, hap, ⟨g6, h6, rfl⟩, hP⟩ := HQ5.out.app (i := 6) (k := 10) (o := 13) O.elS (by decide) (by decide) (by decide) (by decide) e6 e10 eo6 (by omega) rfl (by decide)
            have HAP : Hid ((Builtin.append_ #[49, 49] 49 #[(.slice p6 us6.length c6), .slice (some ⟨y6, 0, none⟩) 1 1]).run Try.prog x5 = .ok (.slice g6 (us6.length + 1) h6) x6) := hap
            clear hap
            generalize us6.length + 1 = m6 at *
            refine step_append_is (by rfl) rfl rfl rfl rfl HAP.out ?_
            refine hKc.out _ _ (fun _ _ => hP.pr) ?_
            clear hKc Kc HAP
            obtain ⟨T6, hT6⟩ : ∃ T6, T6 = put (put T5 6 (.fo fl (.slice g6 m6 h6) (us6 ++ [(.slice q2 Fj.length d2)]) (fs ++ [Fj]))) 10 .no := ⟨_, rfl⟩
            have HQ6 : Hid (PS w0 x6 P #[(T 0).val, (T 1).val, (T 2).val, (T 3).val, (.slice p4 us4.length c4), (.slice p5 us5.length c5), (.slice p6 us6.length c6)] T6 G) := by rw [hT6]; exact hP
            clear hP
            have e0 := eqT2 hT6 e0 (by decide) (by decide)
            have e1 := eqT2 hT6 e1 (by decide) (by decide)
            have e2 := eqT2 hT6 e2 (by decide) (by decide)
            have e3 := eqT2 hT6 e3 (by decide) (by decide)
            have e4 := eqT2 hT6 e4 (by decide) (by decide)
            have e5 := eqT2 hT6 e5 (by decide) (by decide)
            have e6 : T6 6 = .fo fl (.slice g6 m6 h6) (us6 ++ [(.slice q2 Fj.length d2)]) (fs ++ [Fj]) := by rw [hT6, put_other _ _ (by decide)]; exact put_same _ _ _
            clear hT6 HQ5
            simp only [Act.put, List.setIfInBounds_toArray, List.set_cons_zero, List.set_cons_succ]
            refine wpAnyM_take0 (i := 24) (v := ?va63) (by simp; rfl) (by kernel_rfl) (by kernel_rfl) (by kernel_rfl) (fun _ _ _ h => h) (Or.inl ⟨by rfl, ?ya63⟩) ?ra63
            case ya63 => intro w hSw; clear hSw; go_simp; with_reducible rfl
            simp only [Act.put, List.setIfInBounds_toArray, List.set_cons_zero, List.set_cons_succ]
            refine wpAnyM_take0 (i := 25) (v := ?va64) (by simp; rfl) (by kernel_rfl) (by kernel_rfl) (by kernel_rfl) (fun _ _ _ h => h) (Or.inl ⟨by rfl, ?ya64⟩) ?ra64
            case ya64 => intro w hSw; clear hSw; go_simp; with_reducible rfl
            simp only [Act.put, List.setIfInBounds_toArray, List.set_cons_zero, List.set_cons_succ]
            refine wpAnyM_ready (rs := [26]) (by kernel_rfl) (by simp) ?_
            refine AllReadyM.cons (by simp; rfl) (fun Kc hKc => ?_) AllReadyM.nil
            have hcv : x6.cell? ⟨P, 4, none⟩ = some (.slice p4 us4.length c4) := HQ6.out.cell (j := 4) rfl
            have hfv := HQ6.out.free 4
            go_simp
            have HQ7 : Hid (PS w0 (x6.setCell ⟨P, 4, none⟩ (.slice g4 m4 h4)) P #[(T 0).val, (T 1).val, (T 2).val, (T 3).val, (.slice g4 m4 h4), (.slice p5 us5.length c5), (.slice p6 us6.length c6)] T6 G) := HQ6.out.store 4 (.slice g4 m4 h4)
            refine hKc.out _ _ (fun h => absurd h (by decide)) ?_
            clear hKc Kc hcv hfv HQ6
            generalize x6.setCell ⟨P, 4, none⟩ (.slice g4 m4 h4) = x7 at *

            refine wpAnyM_take0 (i := 27) (v := ?va65) (by simp; rfl) (by kernel_rfl) (by kernel_rfl) (by kernel_rfl) (fun _ _ _ h => h) (Or.inl ⟨by rfl, ?ya65⟩) ?ra65
            case ya65 => intro w hSw; clear hSw; go_simp; with_reducible rfl
            simp only [Act.put, List.setIfInBounds_toArray, List.set_cons_zero, List.set_cons_succ]
            refine wpAnyM_take0 (i := 28) (v := ?va66) (by simp; rfl) (by kernel_rfl) (by kernel_rfl) (by kernel_rfl) (fun _ _ _ h => h) (Or.inl ⟨by rfl, ?ya66⟩) ?ra66
            case ya66 => intro w hSw; clear hSw; go_simp; with_reducible rfl
            simp only [Act.put, List.setIfInBounds_toArray, List.set_cons_zero, List.set_cons_succ]
            refine wpAnyM_ready (rs := [29]) (by kernel_rfl) (by simp) ?_
            refine AllReadyM.cons (by simp; rfl) (fun Kc hKc => ?_) AllReadyM.nil
            have hcv : x7.cell? ⟨P, 5, none⟩ = some (.slice p5 us5.length c5) := HQ7.out.cell (j := 5) rfl
            have hfv := HQ7.out.free 5
            go_simp
            have HQ8 : Hid (PS w0 (x7.setCell ⟨P, 5, none⟩ (.slice g5 m5 h5)) P #[(T 0).val, (T 1).val, (T 2).val, (T 3).val, (.slice g4 m4 h4), (.slice g5 m5 h5), (.slice p6 us6.length c6)] T6 G) := HQ7.out.store 5 (.slice g5 m5 h5)
            refine hKc.out _ _ (fun h => absurd h (by decide)) ?_
            clear hKc Kc hcv hfv HQ7
            generalize x7.setCell ⟨P, 5, none⟩ (.slice g5 m5 h5) = x8 at *

            refine wpAnyM_take0 (i := 30) (v := ?va67) (by simp; rfl) (by kernel_rfl) (by kernel_rfl) (by kernel_rfl) (fun _ _ _ h => h) (Or.inl ⟨by rfl, ?ya67⟩) ?ra67
            case ya67 => intro w hSw; clear hSw; go_simp; with_reducible rfl
            simp only [Act.put, List.setIfInBounds_toArray, List.set_cons_zero, List.set_cons_succ]
            refine wpAnyM_take0 (i := 31) (v := ?va68) (by simp; rfl) (by kernel_rfl) (by kernel_rfl) (by kernel_rfl) (fun _ _ _ h => h) (Or.inl ⟨by rfl, ?ya68⟩) ?ra68
            case ya68 => intro w hSw; clear hSw; go_simp; with_reducible rfl
            simp only [Act.put, List.setIfInBounds_toArray, List.set_cons_zero, List.set_cons_succ]
            refine wpAnyM_ready (rs := [32]) (by kernel_rfl) (by simp) ?_
            refine AllReadyM.cons (by simp; rfl) (fun Kc hKc => ?_) AllReadyM.nil
            have hcv : x8.cell? ⟨P, 6, none⟩ = some (.slice p6 us6.length c6) := HQ8.out.cell (j := 6) rfl
            have hfv := HQ8.out.free 6
            go_simp
            have HQ9 : Hid (PS w0 (x8.setCell ⟨P, 6, none⟩ (.slice g6 m6 h6)) P #[(T 0).val, (T 1).val, (T 2).val, (T 3).val, (.slice g4 m4 h4), (.slice g5 m5 h5), (.slice g6 m6 h6)] T6 G) := HQ8.out.store 6 (.slice g6 m6 h6)
            refine hKc.out _ _ (fun h => absurd h (by decide)) ?_
            clear hKc Kc hcv hfv HQ8
            generalize x8.setCell ⟨P, 6, none⟩ (.slice g6 m6 h6) = x9 at *

            refine wpAnyM_done (by kernel_rfl) (NoPanic.normal ?_) _
            have HZ : Hid (St w0 x9 P F D fl N (a + i + 1)) := told_end HQ9.out HSH.out e0 e1 e2 e3 e4 e5 e6 HLL.out.1 HLL.out.2 HFW.out hfl.2
            clear HQ9
            go_wp2_with fail
            go_roundw
            case rel => exact ⟨i + 1, by go_num, by omega, HZ⟩
            case measure => simp [intOf]; omega
        · go_simp
          have HQ2 : Hid (PS w0 (x1.alloc (.cells #[(.slice q2 Fj.length d2)] 22)) P #[(T 0).val, (T 1).val, (T 2).val, (T 3).val, (.slice p4 us4.length c4), (.slice p5 us5.length c5), (.slice p6 us6.length c6)] (put T1 13 (.one 22 x1.heap.size (.slice q2 Fj.length d2))) G) := HQ1.out.fresh (below_alloc _ _) 13 (heap_alloc_new x1 _) (fun b hb => by rw [show b = x1.heap.size from hb]; exact Nat.le_refl _)
          refine hKc.out _ _ (fun _ _ => HQ2.out.pr) ?_
          clear hKc Kc HQ1
          obtain ⟨T2, hT2⟩ : ∃ T2, T2 = put T1 13 (.one 22 x1.heap.size (.slice q2 Fj.length d2)) := ⟨_, rfl⟩
          rw [← hT2] at HQ2
          revert HQ2 hT2
          generalize x1.alloc (.cells #[(.slice q2 Fj.length d2)] 22) = x2
          generalize x1.heap.size = y6
          intro HQ2 hT2
          have e0 := eqT hT2 e0 (by decide)
          have e1 := eqT hT2 e1 (by decide)
          have e2 := eqT hT2 e2 (by decide)
          have e3 := eqT hT2 e3 (by decide)
          have e4 := eqT hT2 e4 (by decide)
          have e5 := eqT hT2 e5 (by decide)
          have e6 := eqT hT2 e6 (by decide)
          have e8 := eqT hT2 e8 (by decide)
          have e9 := eqT hT2 e9 (by decide)
          have e10 := eqT hT2 e10 (by decide)
          have eo4 := eqT hT2 eo4 (by decide)
          have eo6 : T2 13 = .one 22 y6 (.slice q2 Fj.length d2) := by rw [hT2]; exact put_same _ _ _
          clear hT2
          refine wpAnyM_ready (rs := [9, 15]) (by kernel_rfl) (by simp) ?_
          refine AllReadyM.cons (by simp; rfl) (fun Kc hKc => ?_) (AllReadyM.cons (by simp; rfl) (fun Kc hKc => ?_) AllReadyM.nil)
          · obtain ⟨v', x3, hap, ⟨g4, h4, rfl⟩, hP⟩ := HQ2.out.app (i := 4) (k := 8) (o := 11) O.elMM (by decide) (by decide) (by decide) (by decide) e4 e8 eo4 (by omega) rfl (by decide)
            have HAP : Hid ((Builtin.append_ #[48, 48] 48 #[(.slice p4 us4.length c4), .slice (some ⟨y4, 0, none⟩) 1 1]).run Try.prog x2 = .ok (.slice g4 (us4.length + 1) h4) x3) := hap
            clear hap
            generalize us4.length + 1 = m4 at *
            refine step_append_is (by rfl) rfl rfl rfl rfl HAP.out ?_
            refine hKc.out _ _ (fun _ _ => hP.pr) ?_
            clear hKc Kc HAP
            obtain ⟨T3, hT3⟩ : ∃ T3, T3 = put (put T2 4 (.il fl (.slice g4 m4 h4) (us4 ++ [(.slice p1 L.length c1)]) (ls ++ [L]))) 8 .no := ⟨_, rfl⟩
            have HQ3 : Hid (PS w0 x3 P #[(T 0).val, (T 1).val, (T 2).val, (T 3).val, (.slice p4 us4.length c4), (.slice p5 us5.length c5), (.slice p6 us6.length c6)] T3 G) := by rw [hT3]; exact hP
            clear hP
            have e0 := eqT2 hT3 e0 (by decide) (by decide)
            have e1 := eqT2 hT3 e1 (by decide) (by decide)
            have e2 := eqT2 hT3 e2 (by decide) (by decide)
            have e3 := eqT2 hT3 e3 (by decide) (by decide)
            have e5 := eqT2 hT3 e5 (by decide) (by decide)
            have e6 := eqT2 hT3 e6 (by decide) (by decide)
            have e9 := eqT2 hT3 e9 (by decide) (by decide)
            have e10 := eqT2 hT3 e10 (by decide) (by decide)
            have eo6 := eqT2 hT3 eo6 (by decide) (by decide)
            have e4 : T3 4 = .il fl (.slice g4 m4 h4) (us4 ++ [(.slice p1 L.length c1)]) (ls ++ [L]) := by rw [hT3, put_other _ _ (by decide)]; exact put_same _ _ _
            clear hT3 HQ2
            simp only [Act.put, List.setIfInBounds_toArray, List.set_cons_zero, List.set_cons_succ]
            refine wpAnyM_ready (rs := [15]) (by kernel_rfl) (by simp) ?_
            refine AllReadyM.cons (by simp; rfl) (fun Kc hKc => ?_) AllReadyM.nil
            go_simp
            have HQ4 : Hid (PS w0 (x3.alloc (.cells #[(.slice p3 L.length c3)] 23)) P #[(T 0).val, (T 1).val, (T 2).val, (T 3).val, (.slice p4 us4.length c4), (.slice p5 us5.length c5), (.slice p6 us6.length c6)] (put T3 12 (.one 23 x3.heap.size (.slice p3 L.length c3))) G) := HQ3.out.fresh (below_alloc _ _) 12 (heap_alloc_new x3 _) (fun b hb => by rw [show b = x3.heap.size from hb]; exact Nat.le_refl _)
            refine hKc.out _ _ (fun _ _ => HQ4.out.pr) ?_
            clear hKc Kc HQ3
            obtain ⟨T4, hT4⟩ : ∃ T4, T4 = put T3 12 (.one 23 x3.heap.size (.slice p3 L.length c3)) := ⟨_, rfl⟩
            rw [← hT4] at HQ4
            revert HQ4 hT4
            generalize x3.alloc (.cells #[(.slice p3 L.length c3)] 23) = x4
            generalize x3.heap.size = y5
            intro HQ4 hT4
            have e0 := eqT hT4 e0 (by decide)
            have e1 := eqT hT4 e1 (by decide)
            have e2 := eqT hT4 e2 (by decide)
            have e3 := eqT hT4 e3 (by decide)
            have e5 := eqT hT4 e5 (by decide)
            have e6 := eqT hT4 e6 (by decide)
            have e9 := eqT hT4 e9 (by decide)
            have e10 := eqT hT4 e10 (by decide)
            have eo6 := eqT hT4 eo6 (by decide)
            have e4 := eqT hT4 e4 (by decide)
            have eo5 : T4 12 = .one 23 y5 (.slice p3 L.length c3) := by rw [hT4]; exact put_same _ _ _
            clear hT4
            refine wpAnyM_ready (rs := [16]) (by kernel_rfl) (by simp) ?_
            refine AllReadyM.cons (by simp; rfl) (fun Kc hKc => ?_) AllReadyM.nil
            obtain ⟨v', x5, hap, ⟨g5, h5, rfl⟩, hP⟩ := HQ4.out.app (i := 5) (k := 9) (o := 12) O.elMM (by decide) (by decide) (by decide) (by decide) e5 e9 eo5 (by omega) rfl (by decide)
            have HAP : Hid ((Builtin.append_ #[48, 48] 48 #[(.slice p5 us5.length c5), .slice (some ⟨y5, 0, none⟩) 1 1]).run Try.prog x4 = .ok (.slice g5 (us5.length + 1) h5) x5) := hap
            clear hap
            generalize us5.length + 1 = m5 at *
            refine step_append_is (by rfl) rfl rfl rfl rfl HAP.out ?_
            refine hKc.out _ _ (fun _ _ => hP.pr) ?_
            clear hKc Kc HAP
            obtain ⟨T5, hT5⟩ : ∃ T5, T5 = put (put T4 5 (.il fl (.slice g5 m5 h5) (us5 ++ [(.slice p3 L.length c3)]) (ls ++ [L]))) 9 .no := ⟨_, rfl⟩
            have HQ5 : Hid (PS w0 x5 P #[(T 0).val, (T 1).val, (T 2).val, (T 3).val, (.slice p4 us4.length c4), (.slice p5 us5.length c5), (.slice p6 us6.length c6)] T5 G) := by rw [hT5]; exact hP
            clear hP
            have e0 := eqT2 hT5 e0 (by decide) (by decide)
            have e1 := eqT2 hT5 e1 (by decide) (by decide)
            have e2 := eqT2 hT5 e2 (by decide) (by decide)
            have e3 := eqT2 hT5 e3 (by decide) (by decide)
            have e6 := eqT2 hT5 e6 (by decide) (by decide)
            have e10 := eqT2 hT5 e10 (by decide) (by decide)
            have eo6 := eqT2 hT5 eo6 (by decide) (by decide)
            have e4 := eqT2 hT5 e4 (by decide) (by decide)
            have e5 : T5 5 = .il fl (.slice g5 m5 h5) (us5 ++ [(.slice p3 L.length c3)]) (ls ++ [L]) := by rw [hT5, put_other _ _ (by decide)]; exact put_same _ _ _
            clear hT5 HQ4
            simp only [Act.put, List.setIfInBounds_toArray, List.set_cons_zero, List.set_cons_succ]
            refine wpAnyM_ready (rs := [23]) (by kernel_rfl) (by simp) ?_
            refine AllReadyM.cons (by simp; rfl) (fun Kc hKc => ?_) AllReadyM.nil
            obtain ⟨v', x6, hap, ⟨g6, h6, rfl⟩, hP⟩ := HQ5.out.app (i := 6) (k := 10) (o := 13) O.elS (by decide) (by decide) (by decide) (by decide) e6 e10 eo6 (by omega) rfl (by decide)
            have HAP : Hid ((Builtin.append_ #[49, 49] 49 #[(.slice p6 us6.length c6), .slice (some ⟨y6, 0, none⟩) 1 1]).run Try.prog x5 = .ok (.slice g6 (us6.length + 1) h6) x6) := hap
            clear hap
            generalize us6.length + 1 = m6 at *
            refine step_append_is (by rfl) rfl rfl rfl rfl HAP.out ?_
            refine hKc.out _ _ (fun _ _ => hP.pr) ?_
            clear hKc Kc HAP
            obtain ⟨T6, hT6⟩ : ∃ T6, T6 = put (put T5 6 (.fo fl (.slice g6 m6 h6) (us6 ++ [(.slice q2 Fj.length d2)]) (fs ++ [Fj]))) 10 .no := ⟨_, rfl⟩
            have HQ6 : Hid (PS w0 x6 P #[(T 0).val, (T 1).val, (T 2).val, (T 3).val, (.slice p4 us4.length c4), (.slice p5 us5.length c5), (.slice p6 us6.length c6)] T6 G) := by rw [hT6]; exact hP
            clear hP
            have e0 := eqT2 hT6 e0 (by decide) (by decide)
            have e1 := eqT2 hT6 e1 (by decide) (by decide)
            have e2 := eqT2 hT6 e2 (by decide) (by decide)
            have e3 := eqT2 hT6 e3 (by decide) (by decide)
            have e4 := eqT2 hT6 e4 (by decide) (by decide)
            have e5 := eqT2 hT6 e5 (by decide) (by decide)
            have e6 : T6 6 = .fo fl (.slice g6 m6 h6) (us6 ++ [(.slice q2 Fj.length d2)]) (fs ++ [Fj]) := by rw [hT6, put_other _ _ (by decide)]; exact put_same _ _ _
            clear hT6 HQ5
            simp only [Act.put, List.setIfInBounds_toArray, List.set_cons_zero, List.set_cons_succ]
            refine wpAnyM_take0 (i := 24) (v := ?va69) (by simp; rfl) (by kernel_rfl) (by kernel_rfl) (by kernel_rfl) (fun _ _ _ h => h) (Or.inl ⟨by rfl, ?ya69⟩) ?ra69
            case ya69 => intro w hSw; clear hSw; go_simp; with_reducible rfl
            simp only [Act.put, List.setIfInBounds_toArray, List.set_cons_zero, List.set_cons_succ]
            refine wpAnyM_take0 (i := 25) (v := ?va70) (by simp; rfl) (by kernel_rfl) (by kernel_rfl) (by kernel_rfl) (fun _ _ _ h => h) (Or.inl ⟨by rfl, ?ya70⟩) ?ra70
            case ya70 => intro w hSw; clear hSw; go_simp; with_reducible rfl
            simp only [Act.put, List.setIfInBounds_toArray, List.set_cons_zero, List.set_cons_succ]
            refine wpAnyM_ready (rs := [26]) (by kernel_rfl) (by simp) ?_
            refine AllReadyM.cons (by simp; rfl) (fun Kc hKc => ?_) AllReadyM.nil
            have hcv : x6.cell? ⟨P, 4, none⟩ = some (.slice p4 us4.length c4) := HQ6.out.cell (j := 4) rfl
            have hfv := HQ6.out.free 4
            go_simp
            have HQ7 : Hid (PS w0 (x6.setCell ⟨P, 4, none⟩ (.slice g4 m4 h4)) P #[(T 0).val, (T 1).val, (T 2).val, (T 3).val, (.slice g4 m4 h4), (.slice p5 us5.length c5), (.slice p6 us6.length c6)] T6 G) := HQ6.out.store 4 (.slice g4 m4 h4)
            refine hKc.out _ _ (fun h => absurd h (by decide)) ?_
            clear hKc Kc hcv hfv HQ6
            generalize x6.setCell ⟨P, 4, none⟩ (.slice g4 m4 h4) = x7 at *

            refine wpAnyM_take0 (i := 27) (v := ?va71) (by simp; rfl) (by kernel_rfl) (by kernel_rfl) (by kernel_rfl) (fun _ _ _ h => h) (Or.inl ⟨by rfl, ?ya71⟩) ?ra71
            case ya71 => intro w hSw; clear hSw; go_simp; with_reducible rfl
            simp only [Act.put, List.setIfInBounds_toArray, List.set_cons_zero, List.set_cons_succ]
            refine wpAnyM_take0 (i := 28) (v := ?va72) (by simp; rfl) (by kernel_rfl) (by kernel_rfl) (by kernel_rfl) (fun _ _ _ h => h) (Or.inl ⟨by rfl, ?ya72⟩) ?ra72
            case ya72 => intro w hSw; clear hSw; go_simp; with_reducible rfl
            simp only [Act.put, List.setIfInBounds_toArray, List.set_cons_zero, List.set_cons_succ]
            refine wpAnyM_ready (rs := [29]) (by kernel_rfl) (by simp) ?_
            refine AllReadyM.cons (by simp; rfl) (fun Kc hKc => ?_) AllReadyM.nil
            have hcv : x7.cell? ⟨P, 5, none⟩ = some (.slice p5 us5.length c5) := HQ7.out.cell (j := 5) rfl
            have hfv := HQ7.out.free 5
            go_simp
            have HQ8 : Hid (PS w0 (x7.setCell ⟨P, 5, none⟩ (.slice g5 m5 h5)) P #[(T 0).val, (T 1).val, (T 2).val, (T 3).val, (.slice g4 m4 h4), (.slice g5 m5 h5), (.slice p6 us6.length c6)] T6 G) := HQ7.out.store 5 (.slice g5 m5 h5)
            refine hKc.out _ _ (fun h => absurd h (by decide)) ?_
            clear hKc Kc hcv hfv HQ7
            generalize x7.setCell ⟨P, 5, none⟩ (.slice g5 m5 h5) = x8 at *

            refine wpAnyM_take0 (i := 30) (v := ?va73) (by simp; rfl) (by kernel_rfl) (by kernel_rfl) (by kernel_rfl) (fun _ _ _ h => h) (Or.inl ⟨by rfl, ?ya73⟩) ?ra73
            case ya73 => intro w hSw; clear hSw; go_simp; with_reducible rfl
            simp only [Act.put, List.setIfInBounds_toArray, List.set_cons_zero, List.set_cons_succ]
            refine wpAnyM_take0 (i := 31) (v := ?va74) (by simp; rfl) (by kernel_rfl) (by kernel_rfl) (by kernel_rfl) (fun _ _ _ h => h) (Or.inl ⟨by rfl, ?ya74⟩) ?ra74
            case ya74 => intro w hSw; clear hSw; go_simp; with_reducible rfl
            simp only [Act.put, List.setIfInBounds_toArray, List.set_cons_zero, List.set_cons_succ]
            refine wpAnyM_ready (rs := [32]) (by kernel_rfl) (by simp) ?_
            refine AllReadyM.cons (by simp; rfl) (fun Kc hKc => ?_) AllReadyM.nil
            have hcv : x8.cell? ⟨P, 6, none⟩ = some (.slice p6 us6.length c6) := HQ8.out.cell (j := 6) rfl
            have hfv := HQ8.out.free 6
            go_simp
            have HQ9 : Hid (PS w0 (x8.setCell ⟨P, 6, none⟩ (.slice g6 m6 h6)) P #[(T 0).val, (T 1).val, (T 2).val, (T 3).val, (.slice g4 m4 h4), (.slice g5 m5 h5), (.slice g6 m6 h6)] T6 G) := HQ8.out.store 6 (.slice g6 m6 h6)
            refine hKc.out _ _ (fun h => absurd h (by decide)) ?_
            clear hKc Kc hcv hfv HQ8
            generalize x8.setCell ⟨P, 6, none⟩ (.slice g6 m6 h6) = x9 at *

            refine wpAnyM_done (by kernel_rfl) (NoPanic.normal ?_) _
            have HZ : Hid (St w0 x9 P F D fl N (a + i + 1)) := told_end HQ9.out HSH.out e0 e1 e2 e3 e4 e5 e6 HLL.out.1 HLL.out.2 HFW.out hfl.2
            clear HQ9
            go_wp2_with fail
            go_roundw
            case rel => exact ⟨i + 1, by go_num, by omega, HZ⟩
            case measure => simp [intOf]; omega
          · go_simp
            have HQ3 : Hid (PS w0 (x2.alloc (.cells #[(.slice p3 L.length c3)] 23)) P #[(T 0).val, (T 1).val, (T 2).val, (T 3).val, (.slice p4 us4.length c4), (.slice p5 us5.length c5), (.slice p6 us6.length c6)] (put T2 12 (.one 23 x2.heap.size (.slice p3 L.length c3))) G) := HQ2.out.fresh (below_alloc _ _) 12 (heap_alloc_new x2 _) (fun b hb => by rw [show b = x2.heap.size from hb]; exact Nat.le_refl _)
            refine hKc.out _ _ (fun _ _ => HQ3.out.pr) ?_
            clear hKc Kc HQ2
            obtain ⟨T3, hT3⟩ : ∃ T3, T3 = put T2 12 (.one 23 x2.heap.size (.slice p3 L.length c3)) := ⟨_, rfl⟩
            rw [← hT3] at HQ3
            revert HQ3 hT3
            generalize x2.alloc (.cells #[(.slice p3 L.length c3)] 23) = x3
            generalize x2.heap.size = y5
            intro HQ3 hT3
            have e0 := eqT hT3 e0 (by decide)
            have e1 := eqT hT3 e1 (by decide)
            have e2 := eqT hT3 e2 (by decide)
            have e3 := eqT hT3 e3 (by decide)
            have e4 := eqT hT3 e4 (by decide)
            have e5 := eqT hT3 e5 (by decide)
            have e6 := eqT hT3 e6 (by decide)
            have e8 := eqT hT3 e8 (by decide)
            have e9 := eqT hT3 e9 (by decide)
            have e10 := eqT hT3 e10 (by decide)
            have eo4 := eqT hT3 eo4 (by decide)
            have eo6 := eqT hT3 eo6 (by decide)
            have eo5 : T3 12 = .one 23 y5 (.slice p3 L.length c3) := by rw [hT3]; exact put_same _ _ _
            clear hT3
            refine wpAnyM_ready (rs := [9]) (by kernel_rfl) (by simp) ?_
            refine AllReadyM.cons (by simp; rfl) (fun Kc hKc => ?_) AllReadyM.nil
            obtain ⟨v', x4, hap, ⟨g4, h4, rfl⟩, hP⟩ := HQ3.out.app (i := 4) (k := 8) (o := 11) O.elMM (by decide) (by decide) (by decide) (by decide) e4 e8 eo4 (by omega) rfl (by decide)
            have HAP : Hid ((Builtin.append_ #[48, 48] 48 #[(.slice p4 us4.length c4), .slice (some ⟨y4, 0, none⟩) 1 1]).run Try.prog x3 = .ok (.slice g4 (us4.length + 1) h4) x4) := hap
            clear hap
            generalize us4.length + 1 = m4 at *
            refine step_append_is (by rfl) rfl rfl rfl rfl HAP.out ?_
            refine hKc.out _ _ (fun _ _ => hP.pr) ?_
            clear hKc Kc HAP
            obtain ⟨T4, hT4⟩ : ∃ T4, T4 = put (put T3 4 (.il fl (.slice g4 m4 h4) (us4 ++ [(.slice p1 L.length c1)]) (ls ++ [L]))) 8 .no := ⟨_, rfl⟩
            have HQ4 : Hid (PS w0 x4 P #[(T 0).val, (T 1).val, (T 2).val, (T 3).val, (.slice p4 us4.length c4), (.slice p5 us5.length c5), (.slice p6 us6.length c6)] T4 G) := by rw [hT4]; exact hP
            clear hP
            have e0 := eqT2 hT4 e0 (by decide) (by decide)
            have e1 := eqT2 hT4 e1 (by decide) (by decide)
            have e2 := eqT2 hT4 e2 (by decide) (by decide)
            have e3 := eqT2 hT4 e3 (by decide) (by decide)
            have e5 := eqT2 hT4 e5 (by decide) (by decide)
            have e6 := eqT2 hT4 e6 (by decide) (by decide)
            have e9 := eqT2 hT4 e9 (by decide) (by decide)
            have e10 := eqT2 hT4 e10 (by decide) (by decide)
            have eo6 := eqT2 hT4 eo6 (by decide) (by decide)
            have eo5 := eqT2 hT4 eo5 (by decide) (by decide)
            have e4 : T4 4 = .il fl (.slice g4 m4 h4) (us4 ++ [(.slice p1 L.length c1)]) (ls ++ [L]) := by rw [hT4, put_other _ _ (by decide)]; exact put_same _ _ _
            clear hT4 HQ3
            simp only [Act.put, List.setIfInBounds_toArray, List.set_cons_zero, List.set_cons_succ]
            refine wpAnyM_ready (rs := [16]) (by kernel_rfl) (by simp) ?_
            refine AllReadyM.cons (by simp; rfl) (fun Kc hKc => ?_) AllReadyM.nil
            obtain ⟨v', x5, hap, ⟨g5, h5, rfl⟩, hP⟩ := HQ4.out.app (i := 5) (k := 9) (o := 12) O.elMM (by decide) (by decide) (by decide) (by decide) e5 e9 eo5 (by omega) rfl (by decide)
            have HAP : Hid ((Builtin.append_ #[48, 48] 48 #[(.slice p5 us5.length c5), .slice (some ⟨y5, 0, none⟩) 1 1]).run Try.prog x4 = .ok (.slice g5 (us5.length + 1) h5) x5) := hap
            clear hap
            generalize us5.length + 1 = m5 at *
            refine step_append_is (by rfl) rfl rfl rfl rfl HAP.out ?_
            refine hKc.out _ _ (fun _ _ => hP.pr) ?_
            clear hKc Kc HAP
            obtain ⟨T5, hT5⟩ : ∃ T5, T5 = put (put T4 5 (.il fl (.slice g5 m5 h5) (us5 ++ [(.slice p3 L.length c3)]) (ls ++ [L]))) 9 .no := ⟨_, rfl⟩
            have HQ5 : Hid (PS w0 x5 P #[(T 0).val, (T 1).val, (T 2).val, (T 3).val, (.slice p4 us4.length c4), (.slice p5 us5.length c5), (.slice p6 us6.length c6)] T5 G) := by rw [hT5]; exact hP
            clear hP
            have e0 := eqT2 hT5 e0 (by decide) (by decide)
            have e1 := eqT2 hT5 e1 (by decide) (by decide)
            have e2 := eqT2 hT5 e2 (by decide) (by decide)
            have e3 := eqT2 hT5 e3 (by decide) (by decide)
            have e6 := eqT2 hT5 e6 (by decide) (by decide)
            have e10 := eqT2 hT5 e10 (by decide) (by decide)
            have eo6 := eqT2 hT5 eo6 (by decide) (by decide)
            have e4 := eqT2 hT5 e4 (by decide) (by decide)
            have e5 : T5 5 = .il fl (.slice g5 m5 h5) (us5 ++ [(.slice p3 L.length c3)]) (ls ++ [L]) := by rw [hT5, put_other _ _ (by decide)]; exact put_same _ _ _
            clear hT5 HQ4
            simp only [Act.put, List.setIfInBounds_toArray, List.set_cons_zero, List.set_cons_succ]
            refine wpAnyM_ready (rs := [23]) (by kernel_rfl) (by simp) ?_
            refine AllReadyM.cons (by simp; rfl) (fun Kc hKc => ?_) AllReadyM.nil
            obtain ⟨v', x6, hap, ⟨g6, h6, rfl⟩, hP⟩ := HQ5.out.app (i := 6) (k := 10) (o := 13) O.elS (by decide) (by decide) (by decide) (by decide) e6 e10 eo6 (by omega) rfl (by decide)
            have HAP : Hid ((Builtin.append_ #[49, 49] 49 #[(.slice p6 us6.length c6), .slice (some ⟨y6, 0, none⟩) 1 1]).run Try.prog x5 = .ok (.slice g6 (us6.length + 1) h6) x6) := hap
            clear hap
            generalize us6.length + 1 = m6 at *
            refine step_append_is (by rfl) rfl rfl rfl rfl HAP.out ?_
            refine hKc.out _ _ (fun _ _ => hP.pr) ?_
            clear hKc Kc HAP
            obtain ⟨T6, hT6⟩ : ∃ T6, T6 = put (put T5 6 (.fo fl (.slice g6 m6 h6) (us6 ++ [(.slice q2 Fj.length d2)]) (fs ++ [Fj]))) 10 .no := ⟨_, rfl⟩
            have HQ6 : Hid (PS w0 x6 P #[(T 0).val, (T 1).val, (T 2).val, (T 3).val, (.slice p4 us4.length c4), (.slice p5 us5.length c5), (.slice p6 us6.length c6)] T6 G) := by rw [hT6]; exact hP
            clear hP
            have e0 := eqT2 hT6 e0 (by decide) (by decide)
            have e1 := eqT2 hT6 e1 (by decide) (by decide)
            have e2 := eqT2 hT6 e2 (by decide) (by decide)
            have e3 := eqT2 hT6 e3 (by decide) (by decide)
            have e4 := eqT2 hT6 e4 (by decide) (by decide)
            have e5 := eqT2 hT6 e5 (by decide) (by decide)
            have e6 : T6 6 = .fo fl (.slice g6 m6 h6) (us6 ++ [(.slice q2 Fj.length d2)]) (fs ++ [Fj]) := by rw [hT6, put_other _ _ (by decide)]; exact put_same _ _ _
            clear hT6 HQ5
            simp only [Act.put, List.setIfInBounds_toArray, List.set_cons_zero, List.set_cons_succ]
            refine wpAnyM_take0 (i := 24) (v := ?va75) (by simp; rfl) (by kernel_rfl) (by kernel_rfl) (by kernel_rfl) (fun _ _ _ h => h) (Or.inl ⟨by rfl, ?ya75⟩) ?ra75
            case ya75 => intro w hSw; clear hSw; go_simp; with_reducible rfl
            simp only [Act.put, List.setIfInBounds_toArray, List.set_cons_zero, List.set_cons_succ]
            refine wpAnyM_take0 (i := 25) (v := ?va76) (by simp; rfl) (by kernel_rfl) (by kernel_rfl) (by kernel_rfl) (fun _ _ _ h => h) (Or.inl ⟨by rfl, ?ya76⟩) ?ra76
            case ya76 => intro w hSw; clear hSw; go_simp; with_reducible rfl
            simp only [Act.put, List.setIfInBounds_toArray, List.set_cons_zero, List.set_cons_succ]
            refine wpAnyM_ready (rs := [26]) (by kernel_rfl) (by simp) ?_
            refine AllReadyM.cons (by simp; rfl) (fun Kc hKc => ?_) AllReadyM.nil
            have hcv : x6.cell? ⟨P, 4, none⟩ = some (.slice p4 us4.length c4) := HQ6.out.cell (j := 4) rfl
            have hfv := HQ6.out.free 4
            go_simp
            have HQ7 : Hid (PS w0 (x6.setCell ⟨P, 4, none⟩ (.slice g4 m4 h4)) P #[(T 0).val, (T 1).val, (T 2).val, (T 3).val, (.slice g4 m4 h4), (.slice p5 us5.length c5), (.slice p6 us6.length c6)] T6 G) := HQ6.out.store 4 (.slice g4 m4 h4)
            refine hKc.out _ _ (fun h => absurd h (by decide)) ?_
            clear hKc Kc hcv hfv HQ6
            generalize x6.setCell ⟨P, 4, none⟩ (.slice g4 m4 h4) = x7 at *

            refine wpAnyM_take0 (i := 27) (v := ?va77) (by simp; rfl) (by kernel_rfl) (by kernel_rfl) (by kernel_rfl) (fun _ _ _ h => h) (Or.inl ⟨by rfl, ?ya77⟩) ?ra77
            case ya77 => intro w hSw; clear hSw; go_simp; with_reducible rfl
            simp only [Act.put, List.setIfInBounds_toArray, List.set_cons_zero, List.set_cons_succ]
            refine wpAnyM_take0 (i := 28) (v := ?va78) (by simp; rfl) (by kernel_rfl) (by kernel_rfl) (by kernel_rfl) (fun _ _ _ h => h) (Or.inl ⟨by rfl, ?ya78⟩) ?ra78
            case ya78 => intro w hSw; clear hSw; go_simp; with_reducible rfl
            simp only [Act.put, List.setIfInBounds_toArray, List.set_cons_zero, List.set_cons_succ]
            refine wpAnyM_ready (rs := [29]) (by kernel_rfl) (by simp) ?_
            refine AllReadyM.cons (by simp; rfl) (fun Kc hKc => ?_) AllReadyM.nil
            have hcv : x7.cell? ⟨P, 5, none⟩ = some (.slice p5 us5.length c5) := HQ7.out.cell (j := 5) rfl
            have hfv := HQ7.out.free 5
            go_simp
            have HQ8 : Hid (PS w0 (x7.setCell ⟨P, 5, none⟩ (.slice g5 m5 h5)) P #[(T 0).val, (T 1).val, (T 2).val, (T 3).val, (.slice g4 m4 h4), (.slice g5 m5 h5), (.slice p6 us6.length c6)] T6 G) := HQ7.out.store 5 (.slice g5 m5 h5)
            refine hKc.out _ _ (fun h => absurd h (by decide)) ?_
            clear hKc Kc hcv hfv HQ7
            generalize x7.setCell ⟨P, 5, none⟩ (.slice g5 m5 h5) = x8 at *

            refine wpAnyM_take0 (i := 30) (v := ?va79) (by simp; rfl) (by kernel_rfl) (by kernel_rfl) (by kernel_rfl) (fun _ _ _ h => h) (Or.inl ⟨by rfl, ?ya79⟩) ?ra79
            case ya79 => intro w hSw; clear hSw; go_simp; with_reducible rfl
            simp only [Act.put, List.setIfInBounds_toArray, List.set_cons_zero, List.set_cons_succ]
            refine wpAnyM_take0 (i := 31) (v := ?va80) (by simp; rfl) (by kernel_rfl) (by kernel_rfl) (by kernel_rfl) (fun _ _ _ h => h) (Or.inl ⟨by rfl, ?ya80⟩) ?ra80
            case ya80 => intro w hSw; clear hSw; go_simp; with_reducible rfl
            simp only [Act.put, List.setIfInBounds_toArray, List.set_cons_zero, List.set_cons_succ]
            refine wpAnyM_ready (rs := [32]) (by kernel_rfl) (by simp) ?_
            refine AllReadyM.cons (by simp; rfl) (fun Kc hKc => ?_) AllReadyM.nil
            have hcv : x8.cell? ⟨P, 6, none⟩ = some (.slice p6 us6.length c6) := HQ8.out.cell (j := 6) rfl
            have hfv := HQ8.out.free 6
            go_simp
            have HQ9 : Hid (PS w0 (x8.setCell ⟨P, 6, none⟩ (.slice g6 m6 h6)) P #[(T 0).val, (T 1).val, (T 2).val, (T 3).val, (.slice g4 m4 h4), (.slice g5 m5 h5), (.slice g6 m6 h6)] T6 G) := HQ8.out.store 6 (.slice g6 m6 h6)
            refine hKc.out _ _ (fun h => absurd h (by decide)) ?_
            clear hKc Kc hcv hfv HQ8
            generalize x8.setCell ⟨P, 6, none⟩ (.slice g6 m6 h6) = x9 at *

            refine wpAnyM_done (by kernel_rfl) (NoPanic.normal ?_) _
            have HZ : Hid (St w0 x9 P F D fl N (a + i + 1)) := told_end HQ9.out HSH.out e0 e1 e2 e3 e4 e5 e6 HLL.out.1 HLL.out.2 HFW.out hfl.2
            clear HQ9
            go_wp2_with fail
            go_roundw
            case rel => exact ⟨i + 1, by go_num, by omega, HZ⟩
            case measure => simp [intOf]; omega
      · go_simp
        have HQ1 : Hid (PS w0 (xD.alloc (.cells #[(.slice p3 L.length c3)] 23)) P #[(T 0).val, (T 1).val, (T 2).val, (T 3).val, (.slice p4 us4.length c4), (.slice p5 us5.length c5), (.slice p6 us6.length c6)] (put T8 12 (.one 23 xD.heap.size (.slice p3 L.length c3))) G) := HQ0.out.fresh (below_alloc _ _) 12 (heap_alloc_new xD _) (fun b hb => by rw [show b = xD.heap.size from hb]; exact Nat.le_refl _)
        refine hKc.out _ _ (fun _ _ => HQ1.out.pr) ?_
        clear hKc Kc HQ0
        obtain ⟨T1, hT1⟩ : ∃ T1, T1 = put T8 12 (.one 23 xD.heap.size (.slice p3 L.length c3)) := ⟨_, rfl⟩
        rw [← hT1] at HQ1
        revert HQ1 hT1
        generalize xD.alloc (.cells #[(.slice p3 L.length c3)] 23) = x1
        generalize xD.heap.size = y5
        intro HQ1 hT1
        have e0 := eqT hT1 e0 (by decide)
        have e1 := eqT hT1 e1 (by decide)
        have e2 := eqT hT1 e2 (by decide)
        have e3 := eqT hT1 e3 (by decide)
        have e4 := eqT hT1 e4 (by decide)
        have e5 := eqT hT1 e5 (by decide)
        have e6 := eqT hT1 e6 (by decide)
        have e8 := eqT hT1 e8 (by decide)
        have e9 := eqT hT1 e9 (by decide)
        have e10 := eqT hT1 e10 (by decide)
        have eo5 : T1 12 = .one 23 y5 (.slice p3 L.length c3) := by rw [hT1]; exact put_same _ _ _
        clear hT1
        refine wpAnyM_ready (rs := [8, 22]) (by kernel_rfl) (by simp) ?_
        refine AllReadyM.cons (by simp; rfl) (fun Kc hKc => ?_) (AllReadyM.cons (by simp; rfl) (fun Kc hKc => ?_) AllReadyM.nil)
        · go_simp
          have HQ2 : Hid (PS w0 (x1.alloc (.cells #[(.slice p1 L.length c1)] 23)) P #[(T 0).val, (T 1).val, (T 2).val, (T 3).val, (.slice p4 us4.length c4), (.slice p5 us5.length c5), (.slice p6 us6.length c6)] (put T1 11 (.one 23 x1.heap.size (.slice p1 L.length c1))) G) := HQ1.out.fresh (below_alloc _ _) 11 (heap_alloc_new x1 _) (fun b hb => by rw [show b = x1.heap.size from hb]; exact Nat.le_refl _)
          refine hKc.out _ _ (fun _ _ => HQ2.out.pr) ?_
          clear hKc Kc HQ1
          obtain ⟨T2, hT2⟩ : ∃ T2, T2 = put T1 11 (.one 23 x1.heap.size (.slice p1 L.length c1)) := ⟨_, rfl⟩
          rw [← hT2] at HQ2
          revert HQ2 hT2
          generalize x1.alloc (.cells #[(.slice p1 L.length c1)] 23) = x2
          generalize x1.heap.size = y4
          intro HQ2 hT2
          have e0 := eqT hT2 e0 (by decide)
          have e1 := eqT hT2 e1 (by decide)
          have e2 := eqT hT2 e2 (by decide)
          have e3 := eqT hT2 e3 (by decide)
          have e4 := eqT hT2 e4 (by decide)
          have e5 := eqT hT2 e5 (by decide)
          have e6 := eqT hT2 e6 (by decide)
          have e8 := eqT hT2 e8 (by decide)
          have e9 := eqT hT2 e9 (by decide)
          have e10 := eqT hT2 e10 (by decide)
          have eo5 := eqT hT2 eo5 (by decide)
          have eo4 : T2 11 = .one 23 y4 (.slice p1 L.length c1) := by rw [hT2]; exact put_same _ _ _
          clear hT2
          refine wpAnyM_ready (rs := [9, 22]) (by kernel_rfl) (by simp) ?_
          refine AllReadyM.cons (by simp; rfl) (fun Kc hKc => ?_) (AllReadyM.cons (by simp; rfl) (fun Kc hKc => ?_) AllReadyM.nil)
          · obtain ⟨v', x3, hap, ⟨g4, h4, rfl⟩, hP⟩ := HQ2.out.app (i := 4) (k := 8) (o := 11) O.elMM (by decide) (by decide) (by decide) (by decide) e4 e8 eo4 (by omega) rfl (by decide)
            have HAP : Hid ((Builtin.append_ #[48, 48] 48 #[(.slice p4 us4.length c4), .slice (some ⟨y4, 0, none⟩) 1 1]).run Try.prog x2 = .ok (.slice g4 (us4.length + 1) h4) x3) := hap
            clear hap
            generalize us4.length + 1 = m4 at *
            refine step_append_is (by rfl) rfl rfl rfl rfl HAP.out ?_
            refine hKc.out _ _ (fun _ _ => hP.pr) ?_
            clear hKc Kc HAP
            obtain ⟨T3, hT3⟩ : ∃ T3, T3 = put (put T2 4 (.il fl (.slice g4 m4 h4) (us4 ++ [(.slice p1 L.length c1)]) (ls ++ [L]))) 8 .no := ⟨_, rfl⟩
            have HQ3 : Hid (PS w0 x3 P #[(T 0).val, (T 1).val, (T 2).val, (T 3).val, (.slice p4 us4.length c4), (.slice p5 us5.length c5), (.slice p6 us6.length c6)] T3 G) := by rw [hT3]; exact hP
            clear hP
            have e0 := eqT2 hT3 e0 (by decide) (by decide)
            have e1 := eqT2 hT3 e1 (by decide) (by decide)
            have e2 := eqT2 hT3 e2 (by decide) (by decide)
            have e3 := eqT2 hT3 e3 (by decide) (by decide)
            have e5 := eqT2 hT3 e5 (by decide) (by decide)
            have e6 := eqT2 hT3 e6 (by decide) (by decide)
            have e9 := eqT2 hT3 e9 (by decide) (by decide)
            have e10 := eqT2 hT3 e10 (by decide) (by decide)
            have eo5 := eqT2 hT3 eo5 (by decide) (by decide)
            have e4 : T3 4 = .il fl (.slice g4 m4 h4) (us4 ++ [(.slice p1 L.length c1)]) (ls ++ [L]) := by rw [hT3, put_other _ _ (by decide)]; exact put_same _ _ _
            clear hT3 HQ2
            simp only [Act.put, List.setIfInBounds_toArray, List.set_cons_zero, List.set_cons_succ]
            refine wpAnyM_ready (rs := [16, 22]) (by kernel_rfl) (by simp) ?_
            refine AllReadyM.cons (by simp; rfl) (fun Kc hKc => ?_) (AllReadyM.cons (by simp; rfl) (fun Kc hKc => ?_) AllReadyM.nil)
            · obtain ⟨v', x4, hap, ⟨g5, h5, rfl⟩, hP⟩ := HQ3.out.app (i := 5) (k := 9) (o := 12) O.elMM (by decide) (by decide) (by decide) (by decide) e5 e9 eo5 (by omega) rfl (by decide)
              have HAP : Hid ((Builtin.append_ #[48, 48] 48 #[(.slice p5 us5.length c5), .slice (some ⟨y5, 0, none⟩) 1 1]).run Try.prog x3 = .ok (.slice g5 (us5.length + 1) h5) x4) := hap
              clear hap
              generalize us5.length + 1 = m5 at *
              refine step_append_is (by rfl) rfl rfl rfl rfl HAP.out ?_
              refine hKc.out _ _ (fun _ _ => hP.pr) ?_
              clear hKc Kc HAP
              obtain ⟨T4, hT4⟩ : ∃ T4, T4 = put (put T3 5 (.il fl (.slice g5 m5 h5) (us5 ++ [(.slice p3 L.length c3)]) (ls ++ [L]))) 9 .no := ⟨_, rfl⟩
              have HQ4 : Hid (PS w0 x4 P #[(T 0).val, (T 1).val, (T 2).val, (T 3).val, (.slice p4 us4.length c4), (.slice p5 us5.length c5), (.slice p6 us6.length c6)] T4 G) := by rw [hT4]; exact hP
              clear hP
              have e0 := eqT2 hT4 e0 (by decide) (by decide)
              have e1 := eqT2 hT4 e1 (by decide) (by decide)
              have e2 := eqT2 hT4 e2 (by decide) (by decide)
              have e3 := eqT2 hT4 e3 (by decide) (by decide)
              have e6 := eqT2 hT4 e6 (by decide) (by decide)
              have e10 := eqT2 hT4 e10 (by decide) (by decide)
              have e4 := eqT2 hT4 e4 (by decide) (by decide)
              have e5 : T4 5 = .il fl (.slice g5 m5 h5) (us5 ++ [(.slice p3 L.length c3)]) (ls ++ [L]) := by rw [hT4, put_other _ _ (by decide)]; exact put_same _ _ _
              clear hT4 HQ3
              simp only [Act.put, List.setIfInBounds_toArray, List.set_cons_zero, List.set_cons_succ]
              refine wpAnyM_ready (rs := [22]) (by kernel_rfl) (by simp) ?_
              refine AllReadyM.cons (by simp; rfl) (fun Kc hKc => ?_) AllReadyM.nil
              go_simp
              have HQ5 : Hid (PS w0 (x4.alloc (.cells #[(.slice q2 Fj.length d2)] 22)) P #[(T 0).val, (T 1).val, (T 2).val, (T 3).val, (.slice p4 us4.length c4), (.slice p5 us5.length c5), (.slice p6 us6.length c6)] (put T4 13 (.one 22 x4.heap.size (.slice q2 Fj.length d2))) G) := HQ4.out.fresh (below_alloc _ _) 13 (heap_alloc_new x4 _) (fun b hb => by rw [show b = x4.heap.size from hb]; exact Nat.le_refl _)
              refine hKc.out _ _ (fun _ _ => HQ5.out.pr) ?_
              clear hKc Kc HQ4
              obtain ⟨T5, hT5⟩ : ∃ T5, T5 = put T4 13 (.one 22 x4.heap.size (.slice q2 Fj.length d2)) := ⟨_, rfl⟩
              rw [← hT5] at HQ5
              revert HQ5 hT5
              generalize x4.alloc (.cells #[(.slice q2 Fj.length d2)] 22) = x5
              generalize x4.heap.size = y6
              intro HQ5 hT5
              have e0 := eqT hT5 e0 (by decide)
              have e1 := eqT hT5 e1 (by decide)
              have e2 := eqT hT5 e2 (by decide)
              have e3 := eqT hT5 e3 (by decide)
              have e6 := eqT hT5 e6 (by decide)
              have e10 := eqT hT5 e10 (by decide)
              have e4 := eqT hT5 e4 (by decide)
              have e5 := eqT hT5 e5 (by decide)
              have eo6 : T5 13 = .one 22 y6 (.slice q2 Fj.length d2) := by rw [hT5]; exact put_same _ _ _
              clear hT5
              refine wpAnyM_ready (rs := [23]) (by kernel_rfl) (by simp) ?_
              refine AllReadyM.cons (by simp; rfl) (fun Kc hKc => ?_) AllReadyM.nil
              obtain ⟨v', x6, hap, ⟨g6, h6, rfl⟩, hP⟩ := HQ5.out.app (i := 6) (k := 10) (o := 13) O.elS (by decide) (by decide) (by decide) (by decide) e6 e10 eo6 (by omega) rfl (by decide)
              have HAP : Hid ((Builtin.append_ #[49, 49] 49 #[(.slice p6 us6.length c6), .slice (some ⟨y6, 0, none⟩) 1 1]).run Try.prog x5 = .ok (.slice g6 (us6.length + 1) h6) x6) := hap
              clear hap
              generalize us6.length + 1 = m6 at *
              refine step_append_is (by rfl) rfl rfl rfl rfl HAP.out ?_
              refine hKc.out _ _ (fun _ _ => hP.pr) ?_
              clear hKc Kc HAP
              obtain ⟨T6, hT6⟩ : ∃ T6, T6 = put (put T5 6 (.fo fl (.slice g6 m6 h6) (us6 ++ [(.slice q2 Fj.length d2)]) (fs ++ [Fj]))) 10 .no := ⟨_, rfl⟩
              have HQ6 : Hid (PS w0 x6 P #[(T 0).val, (T 1).val, (T 2).val, (T 3).val, (.slice p4 us4.length c4), (.slice p5 us5.length c5), (.slice p6 us6.length c6)] T6 G) := by rw [hT6]; exact hP
              clear hP
              have e0 := eqT2 hT6 e0 (by decide) (by decide)
              have e1 := eqT2 hT6 e1 (by decide) (by decide)
              have e2 := eqT2 hT6 e2 (by decide) (by decide)
              have e3 := eqT2 hT6 e3 (by decide) (by decide)
              have e4 := eqT2 hT6 e4 (by decide) (by decide)
              have e5 := eqT2 hT6 e5 (by decide) (by decide)
              have e6 : T6 6 = .fo fl (.slice g6 m6 h6) (us6 ++ [(.slice q2 Fj.length d2)]) (fs ++ [Fj]) := by rw [hT6, put_other _ _ (by decide)]; exact put_same _ _ _
              clear hT6 HQ5
              simp only [Act.put, List.setIfInBounds_toArray, List.set_cons_zero, List.set_cons_succ]
              refine wpAnyM_take0 (i := 24) (v := ?va81) (by simp; rfl) (by kernel_rfl) (by kernel_rfl) (by kernel_rfl) (fun _ _ _ h => h) (Or.inl ⟨by rfl, ?ya81⟩) ?ra81
              case ya81 => intro w hSw; clear hSw; go_simp; with_reducible rfl
              simp only [Act.put, List.setIfInBounds_toArray, List.set_cons_zero, List.set_cons_succ]
              refine wpAnyM_take0 (i := 25) (v := ?va82) (by simp; rfl) (by kernel_rfl) (by kernel_rfl) (by kernel_rfl) (fun _ _ _ h => h) (Or.inl ⟨by rfl, ?ya82⟩) ?ra82
              case ya82 => intro w hSw; clear hSw; go_simp; with_reducible rfl
              simp only [Act.put, List.setIfInBounds_toArray, List.set_cons_zero, List.set_cons_succ]
              refine wpAnyM_ready (rs := [26]) (by kernel_rfl) (by simp) ?_
              refine AllReadyM.cons (by simp; rfl) (fun Kc hKc => ?_) AllReadyM.nil
              have hcv : x6.cell? ⟨P, 4, none⟩ = some (.slice p4 us4.length c4) := HQ6.out.cell (j := 4) rfl
              have hfv := HQ6.out.free 4
              go_simp
              have HQ7 : Hid (PS w0 (x6.setCell ⟨P, 4, none⟩ (.slice g4 m4 h4)) P #[(T 0).val, (T 1).val, (T 2).val, (T 3).val, (.slice g4 m4 h4), (.slice p5 us5.length c5), (.slice p6 us6.length c6)] T6 G) := HQ6.out.store 4 (.slice g4 m4 h4)
              refine hKc.out _ _ (fun h => absurd h (by decide)) ?_
              clear hKc Kc hcv hfv HQ6
              generalize x6.setCell ⟨P, 4, none⟩ (.slice g4 m4 h4) = x7 at *

              refine wpAnyM_take0 (i := 27) (v := ?va83) (by simp; rfl) (by kernel_rfl) (by kernel_rfl) (by kernel_rfl) (fun _ _ _ h => h) (Or.inl ⟨by rfl, ?ya83⟩) ?ra83
              case ya83 => intro w hSw; clear hSw; go_simp; with_reducible rfl
              simp only [Act.put, List.setIfInBounds_toArray, List.set_cons_zero, List.set_cons_succ]
              refine wpAnyM_take0 (i := 28) (v := ?va84) (by simp; rfl) (by kernel_rfl) (by kernel_rfl) (by kernel_rfl) (fun _ _ _ h => h) (Or.inl ⟨by rfl, ?ya84⟩) ?ra84
              case ya84 => intro w hSw; clear hSw; go_simp; with_reducible rfl
              simp only [Act.put, List.setIfInBounds_toArray, List.set_cons_zero, List.set_cons_succ]
              refine wpAnyM_ready (rs := [29]) (by kernel_rfl) (by simp) ?_
              refine AllReadyM.cons (by simp; rfl) (fun Kc hKc => ?_) AllReadyM.nil
              have hcv : x7.cell? ⟨P, 5, none⟩ = some (.slice p5 us5.length c5) := HQ7.out.cell (j := 5) rfl
              have hfv := HQ7.out.free 5
              go_simp
              have HQ8 : Hid (PS w0 (x7.setCell ⟨P, 5, none⟩ (.slice g5 m5 h5)) P #[(T 0).val, (T 1).val, (T 2).val, (T 3).val, (.slice g4 m4 h4), (.slice g5 m5 h5), (.slice p6 us6.length c6)] T6 G) := HQ7.out.store 5 (.slice g5 m5 h5)
              refine hKc.out _ _ (fun h => absurd h (by decide)) ?_
              clear hKc Kc hcv hfv HQ7
              generalize x7.setCell ⟨P, 5, none⟩ (.slice g5 m5 h5) = x8 at *

              refine wpAnyM_take0 (i := 30) (v := ?va85) (by simp; rfl) (by kernel_rfl) (by kernel_rfl) (by kernel_rfl) (fun _ _ _ h => h) (Or.inl ⟨by rfl, ?ya85⟩) ?ra85
              case ya85 => intro w hSw; clear hSw; go_simp; with_reducible rfl
              simp only [Act.put, List.setIfInBounds_toArray, List.set_cons_zero, List.set_cons_succ]
              refine wpAnyM_take0 (i := 31) (v := ?va86) (by simp; rfl) (by kernel_rfl) (by kernel_rfl) (by kernel_rfl) (fun _ _ _ h => h) (Or.inl ⟨by rfl, ?ya86⟩) ?ra86
              case ya86 => intro w hSw; clear hSw; go_simp; with_reducible rfl
              simp only [Act.put, List.setIfInBounds_toArray, List.set_cons_zero, List.set_cons_succ]
              refine wpAnyM_ready (rs := [32]) (by kernel_rfl) (by simp) ?_
              refine AllReadyM.cons (by simp; rfl) (fun Kc hKc => ?_) AllReadyM.nil
              have hcv : x8.cell? ⟨P, 6, none⟩ = some (.slice p6 us6.length c6) := HQ8.out.cell (j := 6) rfl
              have hfv := HQ8.out.free 6
              go_simp
              have HQ9 : Hid (PS w0 (x8.setCell ⟨P, 6, none⟩ (.slice g6 m6 h6)) P #[(T 0).val, (T 1).val, (T 2).val, (T 3).val, (.slice g4 m4 h4), (.slice g5 m5 h5), (.slice g6 m6 h6)] T6 G) := HQ8.out.store 6 (.slice g6 m6 h6)
              refine hKc.out _ _ (fun h => absurd h (by decide)) ?_
              clear hKc Kc hcv hfv HQ8
              generalize x8.setCell ⟨P, 6, none⟩ (.slice g6 m6 h6) = x9 at *

              refine wpAnyM_done (by kernel_rfl) (NoPanic.normal ?_) _
              have HZ : Hid (St w0 x9 P F D fl N (a + i + 1)) := told_end HQ9.out HSH.out e0 e1 e2 e3 e4 e5 e6 HLL.out.1 HLL.out.2 HFW.out hfl.2
              clear HQ9
              go_wp2_with fail
              go_roundw
              case rel => exact ⟨i + 1, by go_num, by omega, HZ⟩
              case measure => simp [intOf]; omega
            · go_simp
              have HQ4 : Hid (PS w0 (x3.alloc (.cells #[(.slice q2 Fj.length d2)] 22)) P #[(T 0).val, (T 1).val, (T 2).val, (T 3).val, (.slice p4 us4.length c4), (.slice p5 us5.length c5), (.slice p6 us6.length c6)] (put T3 13 (.one 22 x3.heap.size (.slice q2 Fj.length d2))) G) := HQ3.out.fresh (below_alloc _ _) 13 (heap_alloc_new x3 _) (fun b hb => by rw [show b = x3.heap.size from hb]; exact Nat.le_refl _)
              refine hKc.out _ _ (fun _ _ => HQ4.out.pr) ?_
              clear hKc Kc HQ3
              obtain ⟨T4, hT4⟩ : ∃ T4, T4 = put T3 13 (.one 22 x3.heap.size (.slice q2 Fj.length d2)) := ⟨_, rfl⟩
              rw [← hT4] at HQ4
              revert HQ4 hT4
              generalize x3.alloc (.cells #[(.slice q2 Fj.length d2)] 22) = x4
              generalize x3.heap.size = y6
              intro HQ4 hT4
              have e0 := eqT hT4 e0 (by decide)
              have e1 := eqT hT4 e1 (by decide)
              have e2 := eqT hT4 e2 (by decide)
              have e3 := eqT hT4 e3 (by decide)
              have e5 := eqT hT4 e5 (by decide)
              have e6 := eqT hT4 e6 (by decide)
              have e9 := eqT hT4 e9 (by decide)
              have e10 := eqT hT4 e10 (by decide)
              have eo5 := eqT hT4 eo5 (by decide)
              have e4 := eqT hT4 e4 (by decide)
              have eo6 : T4 13 = .one 22 y6 (.slice q2 Fj.length d2) := by rw [hT4]; exact put_same _ _ _
              clear hT4
              refine wpAnyM_ready (rs := [16]) (by kernel_rfl) (by simp) ?_
              refine AllReadyM.cons (by simp; rfl) (fun Kc hKc => ?_) AllReadyM.nil
              obtain ⟨v', x5, hap, ⟨g5, h5, rfl⟩, hP⟩ := HQ4.out.app (i := 5) (k := 9) (o := 12) O.elMM (by decide) (by decide) (by decide) (by decide) e5 e9 eo5 (by omega) rfl (by decide)
              have HAP : Hid ((Builtin.append_ #[48, 48] 48 #[(.slice p5 us5.length c5), .slice (some ⟨y5, 0, none⟩) 1 1]).run Try.prog x4 = .ok (.slice g5 (us5.length + 1) h5) x5) := hap
              clear hap
              generalize us5.length + 1 = m5 at *
              refine step_append_is (by rfl) rfl rfl rfl rfl HAP.out ?_
              refine hKc.out _ _ (fun _ _ => hP.pr) ?_
              clear hKc Kc HAP
              obtain ⟨T5, hT5⟩ : ∃ T5, T5 = put (put T4 5 (.il fl (.slice g5 m5 h5) (us5 ++ [(.slice p3 L.length c3)]) (ls ++ [L]))) 9 .no := ⟨_, rfl⟩
              have HQ5 : Hid (PS w0 x5 P #[(T 0).val, (T 1).val, (T 2).val, (T 3).val, (.slice p4 us4.length c4), (.slice p5 us5.length c5), (.slice p6 us6.length c6)] T5 G) := by rw [hT5]; exact hP
              clear hP
              have e0 := eqT2 hT5 e0 (by decide) (by decide)
              have e1 := eqT2 hT5 e1 (by decide) (by decide)
              have e2 := eqT2 hT5 e2 (by decide) (by decide)
              have e3 := eqT2 hT5 e3 (by decide) (by decide)
              have e6 := eqT2 hT5 e6 (by decide) (by decide)
              have e10 := eqT2 hT5 e10 (by decide) (by decide)
              have e4 := eqT2 hT5 e4 (by decide) (by decide)
              have eo6 := eqT2 hT5 eo6 (by decide) (by decide)
              have e5 : T5 5 = .il fl (.slice g5 m5 h5) (us5 ++ [(.slice p3 L.length c3)]) (ls ++ [L]) := by rw [hT5, put_other _ _ (by decide)]; exact put_same _ _ _
              clear hT5 HQ4
              simp only [Act.put, List.setIfInBounds_toArray, List.set_cons_zero, List.set_cons_succ]
              refine wpAnyM_ready (rs := [23]) (by kernel_rfl) (by simp) ?_
              refine AllReadyM.cons (by simp; rfl) (fun Kc hKc => ?_) AllReadyM.nil
              obtain ⟨v', x6, hap, ⟨g6, h6, rfl⟩, hP⟩ := HQ5.out.app (i := 6) (k := 10) (o := 13) O.elS (by decide) (by decide) (by decide) (by decide) e6 e10 eo6 (by omega) rfl (by decide)
              have HAP : Hid ((Builtin.append_ #[49, 49] 49 #[(.slice p6 us6.length c6), .slice (some ⟨y6, 0, none⟩) 1 1]).run Try.prog x5 = .ok (.slice g6 (us6.length + 1) h6) x6) := hap
              clear hap
              generalize us6.length + 1 = m6 at *
              refine step_append_is (by rfl) rfl rfl rfl rfl HAP.out ?_
              refine hKc.out _ _ (fun _ _ => hP.pr) ?_
              clear hKc Kc HAP
              obtain ⟨T6, hT6⟩ : ∃ T6, T6 = put (put T5 6 (.fo fl (.slice g6 m6 h6) (us6 ++ [(.slice q2 Fj.length d2)]) (fs ++ [Fj]))) 10 .no := ⟨_, rfl⟩
              have HQ6 : Hid (PS w0 x6 P #[(T 0).val, (T 1).val, (T 2).val, (T 3).val, (.slice p4 us4.length c4), (.slice p5 us5.length c5), (.slice p6 us6.length c6)] T6 G) := by rw [hT6]; exact hP
              clear hP
              have e0 := eqT2 hT6 e0 (by decide) (by decide)
              have e1 := eqT2 hT6 e1 (by decide) (by decide)
              have e2 := eqT2 hT6 e2 (by decide) (by decide)
              have e3 := eqT2 hT6 e3 (by decide) (by decide)
              have e4 := eqT2 hT6 e4 (by decide) (by decide)
              have e5 := eqT2 hT6 e5 (by decide) (by decide)
              have e6 : T6 6 = .fo fl (.slice g6 m6 h6) (us6 ++ [(.slice q2 Fj.length d2)]) (fs ++ [Fj]) := by rw [hT6, put_other _ _ (by decide)]; exact put_same _ _ _
              clear hT6 HQ5
              simp only [Act.put, List.setIfInBounds_toArray, List.set_cons_zero, List.set_cons_succ]
              refine wpAnyM_take0 (i := 24) (v := ?va87) (by simp; rfl) (by kernel_rfl) (by kernel_rfl) (by kernel_rfl) (fun _ _ _ h => h) (Or.inl ⟨by rfl, ?ya87⟩) ?ra87
              case ya87 => intro w hSw; clear hSw; go_simp; with_reducible rfl
              simp only [Act.put, List.setIfInBounds_toArray, List.set_cons_zero, List.set_cons_succ]
              refine wpAnyM_take0 (i := 25) (v := ?va88) (by simp; rfl) (by kernel_rfl) (by kernel_rfl) (by kernel_rfl) (fun _ _ _ h => h) (Or.inl ⟨by rfl, ?ya88⟩) ?ra88
              case ya88 => intro w hSw; clear hSw; go_simp; with_reducible rfl
              simp only [Act.put, List.setIfInBounds_toArray, List.set_cons_zero, List.set_cons_succ]
              refine wpAnyM_ready (rs := [26]) (by kernel_rfl) (by simp) ?_
              refine AllReadyM.cons (by simp; rfl) (fun Kc hKc => ?_) AllReadyM.nil
              have hcv : x6.cell? ⟨P, 4, none⟩ = some (.slice p4 us4.length c4) := HQ6.out.cell (j := 4) rfl
              have hfv := HQ6.out.free 4
              go_simp
              have HQ7 : Hid (PS w0 (x6.setCell ⟨P, 4, none⟩ (.slice g4 m4 h4)) P #[(T 0).val, (T 1).val, (T 2).val, (T 3).val, (.slice g4 m4 h4), (.slice p5 us5.length c5), (.slice p6 us6.length c6)] T6 G) := HQ6.out.store 4 (.slice g4 m4 h4)
              refine hKc.out _ _ (fun h => absurd h (by decide)) ?_
              clear hKc Kc hcv hfv HQ6
              generalize x6.setCell ⟨P, 4, none⟩ (.slice g4 m4 h4) = x7 at *

              refine wpAnyM_take0 (i := 27) (v := ?va89) (by simp; rfl) (by kernel_rfl) (by kernel_rfl) (by kernel_rfl) (fun _ _ _ h => h) (Or.inl ⟨by rfl, ?ya89⟩) ?ra89
              case ya89 => intro w hSw; clear hSw; go_simp; with_reducible rfl
              simp only [Act.put, List.setIfInBounds_toArray, List.set_cons_zero, List.set_cons_succ]
              refine wpAnyM_take0 (i := 28) (v := ?va90) (by simp; rfl) (by kernel_rfl) (by kernel_rfl) (by kernel_rfl) (fun _ _ _ h => h) (Or.inl ⟨by rfl, ?ya90⟩) ?ra90
              case ya90 => intro w hSw; clear hSw; go_simp; with_reducible rfl
              simp only [Act.put, List.setIfInBounds_toArray, List.set_cons_zero, List.set_cons_succ]
              refine wpAnyM_ready (rs := [29]) (by kernel_rfl) (by simp) ?_
              refine AllReadyM.cons (by simp; rfl) (fun Kc hKc => ?_) AllReadyM.nil
              have hcv : x7.cell? ⟨P, 5, none⟩ = some (.slice p5 us5.length c5) := HQ7.out.cell (j := 5) rfl
              have hfv := HQ7.out.free 5
              go_simp
              have HQ8 : Hid (PS w0 (x7.setCell ⟨P, 5, none⟩ (.slice g5 m5 h5)) P #[(T 0).val, (T 1).val, (T 2).val, (T 3).val, (.slice g4 m4 h4), (.slice g5 m5 h5), (.slice p6 us6.length c6)] T6 G) := HQ7.out.store 5 (.slice g5 m5 h5)
              refine hKc.out _ _ (fun h => absurd h (by decide)) ?_
              clear hKc Kc hcv hfv HQ7
              generalize x7.setCell ⟨P, 5, none⟩ (.slice g5 m5 h5) = x8 at *

              refine wpAnyM_take0 (i := 30) (v := ?va91) (by simp; rfl) (by kernel_rfl) (by kernel_rfl) (by kernel_rfl) (fun _ _ _ h => h) (Or.inl ⟨by rfl, ?ya91⟩) ?ra91
              case ya91 => intro w hSw; clear hSw; go_simp; with_reducible rfl
              simp only [Act.put, List.setIfInBounds_toArray, List.set_cons_zero, List.set_cons_succ]
              refine wpAnyM_take0 (i := 31) (v := ?va92) (by simp; rfl) (by kernel_rfl) (by kernel_rfl) (by kernel_rfl) (fun _ _ _ h => h) (Or.inl ⟨by rfl, ?ya92⟩) ?ra92
              case ya92 => intro w hSw; clear hSw; go_simp; with_reducible rfl
              simp only [Act.put, List.setIfInBounds_toArray, List.set_cons_zero, List.set_cons_succ]
              refine wpAnyM_ready (rs := [32]) (by kernel_rfl) (by simp) ?_
              refine AllReadyM.cons (by simp; rfl) (fun Kc hKc => ?_) AllReadyM.nil
              have hcv : x8.cell? ⟨P, 6, none⟩ = some (.slice p6 us6.length c6) := HQ8.out.cell (j := 6) rfl
              have hfv := HQ8.out.free 6
              go_simp
              have HQ9 : Hid (PS w0 (x8.setCell ⟨P, 6, none⟩ (.slice g6 m6 h6)) P #[(T 0).val, (T 1).val, (T 2).val, (T 3).val, (.slice g4 m4 h4), (.slice g5 m5 h5), (.slice g6 m6 h6)] T6 G) := HQ8.out.store 6 (.slice g6 m6 h6)
              refine hKc.out _ _ (fun h => absurd h (by decide)) ?_
              clear hKc Kc hcv hfv HQ8
              generalize x8.setCell ⟨P, 6, none⟩ (.slice g6 m6 h6) = x9 at *

              refine wpAnyM_done (by kernel_rfl) (NoPanic.normal ?_) _
              have HZ : Hid (St w0 x9 P F D fl N (a + i + 1)) := told_end HQ9.out HSH.out e0 e1 e2 e3 e4 e5 e6 HLL.out.1 HLL.out.2 HFW.out hfl.2
              clear HQ9
              go_wp2_with fail
              go_roundw
              case rel => exact ⟨i + 1, by go_num, by omega, HZ⟩
              case measure => simp [intOf]; omega
          · go_simp
            have HQ3 : Hid (PS w0 (x2.alloc (.cells #[(.slice q2 Fj.length d2)] 22)) P #[(T 0).val, (T 1).val, (T 2).val, (T 3).val, (.slice p4 us4.length c4), (.slice p5 us5.length c5), (.slice p6 us6.length c6)] (put T2 13 (.one 22 x2.heap.size (.slice q2 Fj.length d2))) G) := HQ2.out.fresh (below_alloc _ _) 13 (heap_alloc_new x2 _) (fun b hb => by rw [show b = x2.heap.size from hb]; exact Nat.le_refl _)
            refine hKc.out _ _ (fun _ _ => HQ3.out.pr) ?_
            clear hKc Kc HQ2
            obtain ⟨T3, hT3⟩ : ∃ T3, T3 = put T2 13 (.one 22 x2.heap.size (.slice q2 Fj.length d2)) := ⟨_, rfl⟩
            rw [← hT3] at HQ3
            revert HQ3 hT3
            generalize x2.alloc (.cells #[(.slice q2 Fj.length d2)] 22) = x3
            generalize x2.heap.size = y6
            intro HQ3 hT3
            have e0 := eqT hT3 e0 (by decide)
            have e1 := eqT hT3 e1 (by decide)
            have e2 := eqT hT3 e2 (by decide)
            have e3 := eqT hT3 e3 (by decide)
            have e4 := eqT hT3 e4 (by decide)
            have e5 := eqT hT3 e5 (by decide)
            have e6 := eqT hT3 e6 (by decide)
            have e8 := eqT hT3 e8 (by decide)
            have e9 := eqT hT3 e9 (by decide)
            have e10 := eqT hT3 e10 (by decide)
            have eo5 := eqT hT3 eo5 (by decide)
            have eo4 := eqT hT3 eo4 (by decide)
            have eo6 : T3 13 = .one 22 y6 (.slice q2 Fj.length d2) := by rw [hT3]; exact put_same _ _ _
            clear hT3
            refine wpAnyM_ready (rs := [9]) (by kernel_rfl) (by simp) ?_
            refine AllReadyM.cons (by simp; rfl) (fun Kc hKc => ?_) AllReadyM.nil
            obtain ⟨v', x4, hap, ⟨g4, h4, rfl⟩, hP⟩ := HQ3.out.app (i := 4) (k := 8) (o := 11) O.elMM (by decide) (by decide) (by decide) (by decide) e4 e8 eo4 (by omega) rfl (by decide)
            have HAP : Hid ((Builtin.append_ #[48, 48] 48 #[(.slice p4 us4.length c4), .slice (some ⟨y4, 0, none⟩) 1 1]).run Try.prog x3 = .ok (.slice g4 (us4.length + 1) h4) x4) := hap
            clear hap
            generalize us4.length + 1 = m4 at *
            refine step_append_is (by rfl) rfl rfl rfl rfl HAP.out ?_
            refine hKc.out _ _ (fun _ _ => hP.pr) ?_
            clear hKc Kc HAP
            obtain ⟨T4, hT4⟩ : ∃ T4, T4 = put (put T3 4 (.il fl (.slice g4 m4 h4) (us4 ++ [(.slice p1 L.length c1)]) (ls ++ [L]))) 8 .no := ⟨_, rfl⟩
            have HQ4 : Hid (PS w0 x4 P #[(T 0).val, (T 1).val, (T 2).val, (T 3).val, (.slice p4 us4.length c4), (.slice p5 us5.length c5), (.slice p6 us6.length c6)] T4 G) := by rw [hT4]; exact hP
            clear hP
            have e0 := eqT2 hT4 e0 (by decide) (by decide)
            have e1 := eqT2 hT4 e1 (by decide) (by decide)
            have e2 := eqT2 hT4 e2 (by decide) (by decide)
            have e3 := eqT2 hT4 e3 (by decide) (by decide)
            have e5 := eqT2 hT4 e5 (by decide) (by decide)
            have e6 := eqT2 hT4 e6 (by decide) (by decide)
            have e9 := eqT2 hT4 e9 (by decide) (by decide)
            have e10 := eqT2 hT4 e10 (by decide) (by decide)
            have eo5 := eqT2 hT4 eo5 (by decide) (by decide)
            have eo6 := eqT2 hT4 eo6 (by decide) (by decide)
            have e4 : T4 4 = .il fl (.slice g4 m4 h4) (us4 ++ [(.slice p1 L.length c1)]) (ls ++ [L]) := by rw [hT4, put_other _ _ (by decide)]; exact put_same _ _ _
            clear hT4 HQ3
            simp only [Act.put, List.setIfInBounds_toArray, List.set_cons_zero, List.set_cons_succ]
            refine wpAnyM_ready (rs := [16]) (by kernel_rfl) (by simp) ?_
            refine AllReadyM.cons (by simp; rfl) (fun Kc hKc => ?_) AllReadyM.nil
            obtain ⟨v', x5, hap, ⟨g5, h5, rfl⟩, hP⟩ := HQ4.out.app (i := 5) (k := 9) (o := 12) O.elMM (by decide) (by decide) (by decide) (by decide) e5 e9 eo5 (by omega) rfl (by decide)
            have HAP : Hid ((Builtin.append_ #[48, 48] 48 #[(.slice p5 us5.length c5), .slice (some ⟨y5, 0, none⟩) 1 1]).run Try.prog x4 = .ok (.slice g5 (us5.length + 1) h5) x5) := hap
            clear hap
            generalize us5.length + 1 = m5 at *
            refine step_append_is (by rfl) rfl rfl rfl rfl HAP.out ?_
            refine hKc.out _ _ (fun _ _ => hP.pr) ?_
            clear hKc Kc HAP
            obtain ⟨T5, hT5⟩ : ∃ T5, T5 = put (put T4 5 (.il fl (.slice g5 m5 h5) (us5 ++ [(.slice p3 L.length c3)]) (ls ++ [L]))) 9 .no := ⟨_, rfl⟩
            have HQ5 : Hid (PS w0 x5 P #[(T 0).val, (T 1).val, (T 2).val, (T 3).val, (.slice p4 us4.length c4), (.slice p5 us5.length c5), (.slice p6 us6.length c6)] T5 G) := by rw [hT5]; exact hP
            clear hP
            have e0 := eqT2 hT5 e0 (by decide) (by decide)
            have e1 := eqT2 hT5 e1 (by decide) (by decide)
            have e2 := eqT2 hT5 e2 (by decide) (by decide)
            have e3 := eqT2 hT5 e3 (by decide) (by decide)
            have e6 := eqT2 hT5 e6 (by decide) (by decide)
            have e10 := eqT2 hT5 e10 (by decide) (by decide)
            have eo6 := eqT2 hT5 eo6 (by decide) (by decide)
            have e4 := eqT2 hT5 e4 (by decide) (by decide)
            have e5 : T5 5 = .il fl (.slice g5 m5 h5) (us5 ++ [(.slice p3 L.length c3)]) (ls ++ [L]) := by rw [hT5, put_other _ _ (by decide)]; exact put_same _ _ _
            clear hT5 HQ4
            simp only [Act.put, List.setIfInBounds_toArray, List.set_cons_zero, List.set_cons_succ]
            refine wpAnyM_ready (rs := [23]) (by kernel_rfl) (by simp) ?_
            refine AllReadyM.cons (by simp; rfl) (fun Kc hKc => ?_) AllReadyM.nil
            obtain ⟨v', x6, hap, ⟨g6, h6, rfl⟩, hP⟩ := HQ5.out.app (i := 6) (k := 10) (o := 13) O.elS (by decide) (by decide) (by decide) (by decide) e6 e10 eo6 (by omega) rfl (by decide)
            have HAP : Hid ((Builtin.append_ #[49, 49] 49 #[(.slice p6 us6.length c6), .slice (some ⟨y6, 0, none⟩) 1 1]).run Try.prog x5 = .ok (.slice g6 (us6.length + 1) h6) x6) := hap
            clear hap
            generalize us6.length + 1 = m6 at *
            refine step_append_is (by rfl) rfl rfl rfl rfl HAP.out ?_
            refine hKc.out _ _ (fun _ _ => hP.pr) ?_
            clear hKc Kc HAP
            obtain ⟨T6, hT6⟩ : ∃ T6, T6 = put (put T5 6 (.fo fl (.slice g6 m6 h6) (us6 ++ [(.slice q2 Fj.length d2)]) (fs ++ [Fj]))) 10 .no := ⟨_, rfl⟩
            have HQ6 : Hid (PS w0 x6 P #[(T 0).val, (T 1).val, (T 2).val, (T 3).val, (.slice p4 us4.length c4), (.slice p5 us5.length c5), (.slice p6 us6.length c6)] T6 G) := by rw [hT6]; exact hP
            clear hP
            have e0 := eqT2 hT6 e0 (by decide) (by decide)
            have e1 := eqT2 hT6 e1 (by decide) (by decide)
            have e2 := eqT2 hT6 e2 (by decide) (by decide)
            have e3 := eqT2 hT6 e3 (by decide) (by decide)
            have e4 := eqT2 hT6 e4 (by decide) (by decide)
            have e5 := eqT2 hT6 e5 (by decide) (by decide)
            have e6 : T6 6 = .fo fl (.slice g6 m6 h6) (us6 ++ [(.slice q2 Fj.length d2)]) (fs ++ [Fj]) := by rw [hT6, put_other _ _ (by decide)]; exact put_same _ _ _
            clear hT6 HQ5
            simp only [Act.put, List.setIfInBounds_toArray, List.set_cons_zero, List.set_cons_succ]
            refine wpAnyM_take0 (i := 24) (v := ?va93) (by simp; rfl) (by kernel_rfl) (by kernel_rfl) (by kernel_rfl) (fun _ _ _ h => h) (Or.inl ⟨by rfl, ?ya93⟩) ?ra93
            case ya93 => intro w hSw; clear hSw; go_simp; with_reducible rfl
            simp only [Act.put, List.setIfInBounds_toArray, List.set_cons_zero, List.set_cons_succ]
            refine wpAnyM_take0 (i := 25) (v := ?va94) (by simp; rfl) (by kernel_rfl) (by kernel_rfl) (by kernel_rfl) (fun _ _ _ h => h) (Or.inl ⟨by rfl, ?ya94⟩) ?ra94
            case ya94 => intro w hSw; clear hSw; go_simp; with_reducible rfl
            simp only [Act.put, List.setIfInBounds_toArray, List.set_cons_zero, List.set_cons_succ]
            refine wpAnyM_ready (rs := [26]) (by kernel_rfl) (by simp) ?_
            refine AllReadyM.cons (by simp; rfl) (fun Kc hKc => ?_) AllReadyM.nil
            have hcv : x6.cell? ⟨P, 4, none⟩ = some (.slice p4 us4.length c4) := HQ6.out.cell (j := 4) rfl
            have hfv := HQ6.out.free 4
            go_simp
            have HQ7 : Hid (PS w0 (x6.setCell ⟨P, 4, none⟩ (.slice g4 m4 h4)) P #[(T 0).val, (T 1).val, (T 2).val, (T 3).val, (.slice g4 m4 h4), (.slice p5 us5.length c5), (.slice p6 us6.length c6)] T6 G) := HQ6.out.store 4 (.slice g4 m4 h4)
            refine hKc.out _ _ (fun h => absurd h (by decide)) ?_
            clear hKc Kc hcv hfv HQ6
            generalize x6.setCell ⟨P, 4, none⟩ (.slice g4 m4 h4) = x7 at *

            refine wpAnyM_take0 (i := 27) (v := ?va95) (by simp; rfl) (by kernel_rfl) (by kernel_rfl) (by kernel_rfl) (fun _ _ _ h => h) (Or.inl ⟨by rfl, ?ya95⟩) ?ra95
            case ya95 => intro w hSw; clear hSw; go_simp; with_reducible rfl
            simp only [Act.put, List.setIfInBounds_toArray, List.set_cons_zero, List.set_cons_succ]
            refine wpAnyM_take0 (i := 28) (v := ?va96) (by simp; rfl) (by kernel_rfl) (by kernel_rfl) (by kernel_rfl) (fun _ _ _ h => h) (Or.inl ⟨by rfl, ?ya96⟩) ?ra96
            case ya96 => intro w hSw; clear hSw; go_simp; with_reducible rfl
            simp only [Act.put, List.setIfInBounds_toArray, List.set_cons_zero, List.set_cons_succ]
            refine wpAnyM_ready (rs := [29]) (by kernel_rfl) (by simp) ?_
            refine AllReadyM.cons (by simp; rfl) (fun Kc hKc => ?_) AllReadyM.nil
            have hcv : x7.cell? ⟨P, 5, none⟩ = some (.slice p5 us5.length c5) := HQ7.out.cell (j := 5) rfl
            have hfv := HQ7.out.free 5
            go_simp
            have HQ8 : Hid (PS w0 (x7.setCell ⟨P, 5, none⟩ (.slice g5 m5 h5)) P #[(T 0).val, (T 1).val, (T 2).val, (T 3).val, (.slice g4 m4 h4), (.slice g5 m5 h5), (.slice p6 us6.length c6)] T6 G) := HQ7.out.store 5 (.slice g5 m5 h5)
            refine hKc.out _ _ (fun h => absurd h (by decide)) ?_
            clear hKc Kc hcv hfv HQ7
            generalize x7.setCell ⟨P, 5, none⟩ (.slice g5 m5 h5) = x8 at *

            refine wpAnyM_take0 (i := 30) (v := ?va97) (by simp; rfl) (by kernel_rfl) (by kernel_rfl) (by kernel_rfl) (fun _ _ _ h => h) (Or.inl ⟨by rfl, ?ya97⟩) ?ra97
            case ya97 => intro w hSw; clear hSw; go_simp; with_reducible rfl
            simp only [Act.put, List.setIfInBounds_toArray, List.set_cons_zero, List.set_cons_succ]
            refine wpAnyM_take0 (i := 31) (v := ?va98) (by simp; rfl) (by kernel_rfl) (by kernel_rfl) (by kernel_rfl) (fun _ _ _ h => h) (Or.inl ⟨by rfl, ?ya98⟩) ?ra98
            case ya98 => intro w hSw; clear hSw; go_simp; with_reducible rfl
            simp only [Act.put, List.setIfInBounds_toArray, List.set_cons_zero, List.set_cons_succ]
            refine wpAnyM_ready (rs := [32]) (by kernel_rfl) (by simp) ?_
            refine AllReadyM.cons (by simp; rfl) (fun Kc hKc => ?_) AllReadyM.nil
            have hcv : x8.cell? ⟨P, 6, none⟩ = some (.slice p6 us6.length c6) := HQ8.out.cell (j := 6) rfl
            have hfv := HQ8.out.free 6
            go_simp
            have HQ9 : Hid (PS w0 (x8.setCell ⟨P, 6, none⟩ (.slice g6 m6 h6)) P #[(T 0).val, (T 1).val, (T 2).val, (T 3).val, (.slice g4 m4 h4), (.slice g5 m5 h5), (.slice g6 m6 h6)] T6 G) := HQ8.out.store 6 (.slice g6 m6 h6)
            refine hKc.out _ _ (fun h => absurd h (by decide)) ?_
            clear hKc Kc hcv hfv HQ8
            generalize x8.setCell ⟨P, 6, none⟩ (.slice g6 m6 h6) = x9 at *

            refine wpAnyM_done (by kernel_rfl) (NoPanic.normal ?_) _
            have HZ : Hid (St w0 x9 P F D fl N (a + i + 1)) := told_end HQ9.out HSH.out e0 e1 e2 e3 e4 e5 e6 HLL.out.1 HLL.out.2 HFW.out hfl.2
            clear HQ9
            go_wp2_with fail
            go_roundw
            case rel => exact ⟨i + 1, by go_num, by omega, HZ⟩
            case measure => simp [intOf]; omega
        · go_simp
          have HQ2 : Hid (PS w0 (x1.alloc (.cells #[(.slice q2 Fj.length d2)] 22)) P #[(T 0).val, (T 1).val, (T 2).val, (T 3).val, (.slice p4 us4.length c4), (.slice p5 us5.length c5), (.slice p6 us6.length c6)] (put T1 13 (.one 22 x1.heap.size (.slice q2 Fj.length d2))) G) := HQ1.out.fresh (below_alloc _ _) 13 (heap_alloc_new x1 _) (fun b hb => by rw [show b = x1.heap.size from hb]; exact Nat.le_refl _)
          refine hKc.out _ _ (fun _ _ => HQ2.out.pr) ?_
          clear hKc Kc HQ1
          obtain ⟨T2, hT2⟩ : ∃ T2, T2 = put T1 13 (.one 22 x1.heap.size (.slice q2 Fj.length d2)) := ⟨_, rfl⟩
          rw [← hT2] at HQ2
          revert HQ2 hT2
          generalize x1.alloc (.cells #[(.slice q2 Fj.length d2)] 22) = x2
          generalize x1.heap.size = y6
          intro HQ2 hT2
          have e0 := eqT hT2 e0 (by decide)
          have e1 := eqT hT2 e1 (by decide)
          have e2 := eqT hT2 e2 (by decide)
          have e3 := eqT hT2 e3 (by decide)
          have e4 := eqT hT2 e4 (by decide)
          have e5 := eqT hT2 e5 (by decide)
          have e6 := eqT hT2 e6 (by decide)
          have e8 := eqT hT2 e8 (by decide)
          have e9 := eqT hT2 e9 (by decide)
          have e10 := eqT hT2 e10 (by decide)
          have eo5 := eqT hT2 eo5 (by decide)
          have eo6 : T2 13 = .one 22 y6 (.slice q2 Fj.length d2) := by rw [hT2]; exact put_same _ _ _
          clear hT2
          refine wpAnyM_ready (rs := [8]) (by kernel_rfl) (by simp) ?_
          refine AllReadyM.cons (by simp; rfl) (fun Kc hKc => ?_) AllReadyM.nil
          go_simp
          have HQ3 : Hid (PS w0 (x2.alloc (.cells #[(.slice p1 L.length c1)] 23)) P #[(T 0).val, (T 1).val, (T 2).val, (T 3).val, (.slice p4 us4.length c4), (.slice p5 us5.length c5), (.slice p6 us6.length c6)] (put T2 11 (.one 23 x2.heap.size (.slice p1 L.length c1))) G) := HQ2.out.fresh (below_alloc _ _) 11 (heap_alloc_new x2 _) (fun b hb => by rw [show b = x2.heap.size from hb]; exact Nat.le_refl _)
          refine hKc.out _ _ (fun _ _ => HQ3.out.pr) ?_
          clear hKc Kc HQ2
          obtain ⟨T3, hT3⟩ : ∃ T3, T3 = put T2 11 (.one 23 x2.heap.size (.slice p1 L.length c1)) := ⟨_, rfl⟩
          rw [← hT3] at HQ3
          revert HQ3 hT3
          generalize x2.alloc (.cells #[(.slice p1 L.length c1)] 23) = x3
          generalize x2.heap.size = y4
          intro HQ3 hT3
          have e0 := eqT hT3 e0 (by decide)
          have e1 := eqT hT3 e1 (by decide)
          have e2 := eqT hT3 e2 (by decide)
          have e3 := eqT hT3 e3 (by decide)
          have e4 := eqT hT3 e4 (by decide)
          have e5 := eqT hT3 e5 (by decide)
          have e6 := eqT hT3 e6 (by decide)
          have e8 := eqT hT3 e8 (by decide)
          have e9 := eqT hT3 e9 (by decide)
          have e10 := eqT hT3 e10 (by decide)
          have eo5 := eqT hT3 eo5 (by decide)
          have eo6 := eqT hT3 eo6 (by decide)
          have eo4 : T3 11 = .one 23 y4 (.slice p1 L.length c1) := by rw [hT3]; exact put_same _ _ _
          clear hT3
          refine wpAnyM_ready (rs := [9]) (by kernel_rfl) (by simp) ?_
          refine AllReadyM.cons (by simp; rfl) (fun Kc hKc => ?_) AllReadyM.nil
          obtain ⟨v', x4, hap, ⟨g4, h4, rfl⟩, hP⟩ := HQ3.out.app (i := 4) (k := 8) (o := 11) O.elMM (by decide) (by decide) (by decide) (by decide) e4 e8 eo4 (by omega) rfl (by decide)
          have HAP : Hid ((Builtin.append_ #[48, 48] 48 #[(.slice p4 us4.length c4), .slice (some ⟨y4, 0, none⟩) 1 1]).run Try.prog x3 = .ok (.slice g4 (us4.length + 1) h4) x4) := hap
          clear hap
          generalize us4.length + 1 = m4 at *
          refine step_append_is (by rfl) rfl rfl rfl rfl HAP.out ?_
          refine hKc.out _ _ (fun _ _ => hP.pr) ?_
          clear hKc Kc HAP
          obtain ⟨T4, hT4⟩ : ∃ T4, T4 = put (put T3 4 (.il fl (.slice g4 m4 h4) (us4 ++ [(.slice p1 L.length c1)]) (ls ++ [L]))) 8 .no := ⟨_, rfl⟩
          have HQ4 : Hid (PS w0 x4 P #[(T 0).val, (T 1).val, (T 2).val, (T 3).val, (.slice p4 us4.length c4), (.slice p5 us5.length c5), (.slice p6 us6.length c6)] T4 G) := by rw [hT4]; exact hP
          clear hP
          have e0 := eqT2 hT4 e0 (by decide) (by decide)
          have e1 := eqT2 hT4 e1 (by decide) (by decide)
          have e2 := eqT2 hT4 e2 (by decide) (by decide)
          have e3 := eqT2 hT4 e3 (by decide) (by decide)
          have e5 := eqT2 hT4 e5 (by decide) (by decide)
          have e6 := eqT2 hT4 e6 (by decide) (by decide)
          have e9 := eqT2 hT4 e9 (by decide) (by decide)
          have e10 := eqT2 hT4 e10 (by decide) (by decide)
          have eo5 := eqT2 hT4 eo5 (by decide) (by decide)
          have eo6 := eqT2 hT4 eo6 (by decide) (by decide)
          have e4 : T4 4 = .il fl (.slice g4 m4 h4) (us4 ++ [(.slice p1 L.length c1)]) (ls ++ [L]) := by rw [hT4, put_other _ _ (by decide)]; exact put_same _ _ _
          clear hT4 HQ3
          simp only [Act.put, List.setIfInBounds_toArray, List.set_cons_zero, List.set_cons_succ]
          refine wpAnyM_ready (rs := [16]) (by kernel_rfl) (by simp) ?_
          refine AllReadyM.cons (by simp; rfl) (fun Kc hKc => ?_) AllReadyM.nil
          obtain ⟨v', x5, hap, ⟨g5, h5, rfl⟩, hP⟩ := HQ4.out.app (i := 5) (k := 9) (o := 12) O.elMM (by decide) (by decide) (by decide) (by decide) e5 e9 eo5 (by omega) rfl (by decide)
          have HAP : Hid ((Builtin.append_ #[48, 48] 48 #[(.slice p5 us5.length c5), .slice (some ⟨y5, 0, none⟩) 1 1]).run Try.prog x4 = .ok (.slice g5 (us5.length + 1) h5) x5) := hap
          clear hap
          generalize us5.length + 1 = m5 at *
          refine step_append_is (by rfl) rfl rfl rfl rfl HAP.out ?_
          refine hKc.out _ _ (fun _ _ => hP.pr) ?_
          clear hKc Kc HAP
          obtain ⟨T5, hT5⟩ : ∃ T5, T5 = put (put T4 5 (.il fl (.slice g5 m5 h5) (us5 ++ [(.slice p3 L.length c3)]) (ls ++ [L]))) 9 .no := ⟨_, rfl⟩
          have HQ5 : Hid (PS w0 x5 P #[(T 0).val, (T 1).val, (T 2).val, (T 3).val, (.slice p4 us4.length c4), (.slice p5 us5.length c5), (.slice p6 us6.length c6)] T5 G) := by rw [hT5]; exact hP
          clear hP
          have e0 := eqT2 hT5 e0 (by decide) (by decide)
          have e1 := eqT2 hT5 e1 (by decide) (by decide)
          have e2 := eqT2 hT5 e2 (by decide) (by decide)
          have e3 := eqT2 hT5 e3 (by decide) (by decide)
          have e6 := eqT2 hT5 e6 (by decide) (by decide)
          have e10 := eqT2 hT5 e10 (by decide) (by decide)
          have eo6 := eqT2 hT5 eo6 (by decide) (by decide)
          have e4 := eqT2 hT5 e4 (by decide) (by decide)
          have e5 : T5 5 = .il fl (.slice g5 m5 h5) (us5 ++ [(.slice p3 L.length c3)]) (ls ++ [L]) := by rw [hT5, put_other _ _ (by decide)]; exact put_same _ _ _
          clear hT5 HQ4
          simp only [Act.put, List.setIfInBounds_toArray, List.set_cons_zero, List.set_cons_succ]
          refine wpAnyM_ready (rs := [23]) (by kernel_rfl) (by simp) ?_
          refine AllReadyM.cons (by simp; rfl) (fun Kc hKc => ?_) AllReadyM.nil
          obtain ⟨v', x6, hap, ⟨g6, h6, rfl⟩, hP⟩ := HQ5.out.app (i := 6) (k := 10) (o := 13) O.elS (by decide) (by decide) (by decide) (by decide) e6 e10 eo6 (by omega) rfl (by decide)
          have HAP : Hid ((Builtin.append_ #[49, 49] 49 #[(.slice p6 us6.length c6), .slice (some ⟨y6, 0, none⟩) 1 1]).run Try.prog x5 = .ok (.slice g6 (us6.length + 1) h6) x6) := hap
          clear hap
          generalize us6.length + 1 = m6 at *
          refine step_append_is (by rfl) rfl rfl rfl rfl HAP.out ?_
          refine hKc.out _ _ (fun _ _ => hP.pr) ?_
          clear hKc Kc HAP
          obtain ⟨T6, hT6⟩ : ∃ T6, T6 = put (put T5 6 (.fo fl (.slice g6 m6 h6) (us6 ++ [(.slice q2 Fj.length d2)]) (fs ++ [Fj]))) 10 .no := ⟨_, rfl⟩
          have HQ6 : Hid (PS w0 x6 P #[(T 0).val, (T 1).val, (T 2).val, (T 3).val, (.slice p4 us4.length c4), (.slice p5 us5.length c5), (.slice p6 us6.length c6)] T6 G) := by rw [hT6]; exact hP
          clear hP
          have e0 := eqT2 hT6 e0 (by decide) (by decide)
          have e1 := eqT2 hT6 e1 (by decide) (by decide)
          have e2 := eqT2 hT6 e2 (by decide) (by decide)
          have e3 := eqT2 hT6 e3 (by decide) (by decide)
          have e4 := eqT2 hT6 e4 (by decide) (by decide)
          have e5 := eqT2 hT6 e5 (by decide) (by decide)
          have e6 : T6 6 = .fo fl (.slice g6 m6 h6) (us6 ++ [(.slice q2 Fj.length d2)]) (fs ++ [Fj]) := by rw [hT6, put_other _ _ (by decide)]; exact put_same _ _ _
          clear hT6 HQ5
          simp only [Act.put, List.setIfInBounds_toArray, List.set_cons_zero, List.set_cons_succ]
          refine wpAnyM_take0 (i := 24) (v := ?va99) (by simp; rfl) (by kernel_rfl) (by kernel_rfl) (by kernel_rfl) (fun _ _ _ h => h) (Or.inl ⟨by rfl, ?ya99⟩) ?ra99
          case ya99 => intro w hSw; clear hSw; go_simp; with_reducible rfl
          simp only [Act.put, List.setIfInBounds_toArray, List.set_cons_zero, List.set_cons_succ]
          refine wpAnyM_take0 (i := 25) (v := ?va100) (by simp; rfl) (by kernel_rfl) (by kernel_rfl) (by kernel_rfl) (fun _ _ _ h => h) (Or.inl ⟨by rfl, ?ya100⟩) ?ra100
          case ya100 => intro w hSw; clear hSw; go_simp; with_reducible rfl
          simp only [Act.put, List.setIfInBounds_toArray, List.set_cons_zero, List.set_cons_succ]
          refine wpAnyM_ready (rs := [26]) (by kernel_rfl) (by simp) ?_
          refine AllReadyM.cons (by simp; rfl) (fun Kc hKc => ?_) AllReadyM.nil
          have hcv : x6.cell? ⟨P, 4, none⟩ = some (.slice p4 us4.length c4) := HQ6.out.cell (j := 4) rfl
          have hfv := HQ6.out.free 4
          go_simp
          have HQ7 : Hid (PS w0 (x6.setCell ⟨P, 4, none⟩ (.slice g4 m4 h4)) P #[(T 0).val, (T 1).val, (T 2).val, (T 3).val, (.slice g4 m4 h4), (.slice p5 us5.length c5), (.slice p6 us6.length c6)] T6 G) := HQ6.out.store 4 (.slice g4 m4 h4)
          refine hKc.out _ _ (fun h => absurd h (by decide)) ?_
          clear hKc Kc hcv hfv HQ6
          generalize x6.setCell ⟨P, 4, none⟩ (.slice g4 m4 h4) = x7 at *

          refine wpAnyM_take0 (i := 27) (v := ?va101) (by simp; rfl) (by kernel_rfl) (by kernel_rfl) (by kernel_rfl) (fun _ _ _ h => h) (Or.inl ⟨by rfl, ?ya101⟩) ?ra101
          case ya101 => intro w hSw; clear hSw; go_simp; with_reducible rfl
          simp only [Act.put, List.setIfInBounds_toArray, List.set_cons_zero, List.set_cons_succ]
          refine wpAnyM_take0 (i := 28) (v := ?va102) (by simp; rfl) (by kernel_rfl) (by kernel_rfl) (by kernel_rfl) (fun _ _ _ h => h) (Or.inl ⟨by rfl, ?ya102⟩) ?ra102
          case ya102 => intro w hSw; clear hSw; go_simp; with_reducible rfl
          simp only [Act.put, List.setIfInBounds_toArray, List.set_cons_zero, List.set_cons_succ]
          refine wpAnyM_ready (rs := [29]) (by kernel_rfl) (by simp) ?_
          refine AllReadyM.cons (by simp; rfl) (fun Kc hKc => ?_) AllReadyM.nil
          have hcv : x7.cell? ⟨P, 5, none⟩ = some (.slice p5 us5.length c5) := HQ7.out.cell (j := 5) rfl
          have hfv := HQ7.out.free 5
          go_simp
          have HQ8 : Hid (PS w0 (x7.setCell ⟨P, 5, none⟩ (.slice g5 m5 h5)) P #[(T 0).val, (T 1).val, (T 2).val, (T 3).val, (.slice g4 m4 h4), (.slice g5 m5 h5), (.slice p6 us6.length c6)] T6 G) := HQ7.out.store 5 (.slice g5 m5 h5)
          refine hKc.out _ _ (fun h => absurd h (by decide)) ?_
          clear hKc Kc hcv hfv HQ7
          generalize x7.setCell ⟨P, 5, none⟩ (.slice g5 m5 h5) = x8 at *

          refine wpAnyM_take0 (i := 30) (v := ?va103) (by simp; rfl) (by kernel_rfl) (by kernel_rfl) (by kernel_rfl) (fun _ _ _ h => h) (Or.inl ⟨by rfl, ?ya103⟩) ?ra103
          case ya103 => intro w hSw; clear hSw; go_simp; with_reducible rfl
          simp only [Act.put, List.setIfInBounds_toArray, List.set_cons_zero, List.set_cons_succ]
          refine wpAnyM_take0 (i := 31) (v := ?va104) (by simp; rfl) (by kernel_rfl) (by kernel_rfl) (by kernel_rfl) (fun _ _ _ h => h) (Or.inl ⟨by rfl, ?ya104⟩) ?ra104
          case ya104 => intro w hSw; clear hSw; go_simp; with_reducible rfl
          simp only [Act.put, List.setIfInBounds_toArray, List.set_cons_zero, List.set_cons_succ]
          refine wpAnyM_ready (rs := [32]) (by kernel_rfl) (by simp) ?_
          refine AllReadyM.cons (by simp; rfl) (fun Kc hKc => ?_) AllReadyM.nil
          have hcv : x8.cell? ⟨P, 6, none⟩ = some (.slice p6 us6.length c6) := HQ8.out.cell (j := 6) rfl
          have hfv := HQ8.out.free 6
          go_simp
          have HQ9 : Hid (PS w0 (x8.setCell ⟨P, 6, none⟩ (.slice g6 m6 h6)) P #[(T 0).val, (T 1).val, (T 2).val, (T 3).val, (.slice g4 m4 h4), (.slice g5 m5 h5), (.slice g6 m6 h6)] T6 G) := HQ8.out.store 6 (.slice g6 m6 h6)
          refine hKc.out _ _ (fun h => absurd h (by decide)) ?_
          clear hKc Kc hcv hfv HQ8
          generalize x8.setCell ⟨P, 6, none⟩ (.slice g6 m6 h6) = x9 at *

          refine wpAnyM_done (by kernel_rfl) (NoPanic.normal ?_) _
          have HZ : Hid (St w0 x9 P F D fl N (a + i + 1)) := told_end HQ9.out HSH.out e0 e1 e2 e3 e4 e5 e6 HLL.out.1 HLL.out.2 HFW.out hfl.2
          clear HQ9
          go_wp2_with fail
          go_roundw
          case rel => exact ⟨i + 1, by go_num, by omega, HZ⟩
          case measure => simp [intOf]; omega
      · go_simp
        have HQ1 : Hid (PS w0 (xD.alloc (.cells #[(.slice q2 Fj.length d2)] 22)) P #[(T 0).val, (T 1).val, (T 2).val, (T 3).val, (.slice p4 us4.length c4), (.slice p5 us5.length c5), (.slice p6 us6.length c6)] (put T8 13 (.one 22 xD.heap.size (.slice q2 Fj.length d2))) G) := HQ0.out.fresh (below_alloc _ _) 13 (heap_alloc_new xD _) (fun b hb => by rw [show b = xD.heap.size from hb]; exact Nat.le_refl _)
        refine hKc.out _ _ (fun _ _ => HQ1.out.pr) ?_
        clear hKc Kc HQ0
        obtain ⟨T1, hT1⟩ : ∃ T1, T1 = put T8 13 (.one 22 xD.heap.size (.slice q2 Fj.length d2)) := ⟨_, rfl⟩
        rw [← hT1] at HQ1
        revert HQ1 hT1
        generalize xD.alloc (.cells #[(.slice q2 Fj.length d2)] 22) = x1
        generalize xD.heap.size = y6
        intro HQ1 hT1
        have e0 := eqT hT1 e0 (by decide)
        have e1 := eqT hT1 e1 (by decide)
        have e2 := eqT hT1 e2 (by decide)
        have e3 := eqT hT1 e3 (by decide)
        have e4 := eqT hT1 e4 (by decide)
        have e5 := eqT hT1 e5 (by decide)
        have e6 := eqT hT1 e6 (by decide)
        have e8 := eqT hT1 e8 (by decide)
        have e9 := eqT hT1 e9 (by decide)
        have e10 := eqT hT1 e10 (by decide)
        have eo6 : T1 13 = .one 22 y6 (.slice q2 Fj.length d2) := by rw [hT1]; exact put_same _ _ _
        clear hT1
        refine wpAnyM_ready (rs := [8, 15]) (by kernel_rfl) (by simp) ?_
        refine AllReadyM.cons (by simp; rfl) (fun Kc hKc => ?_) (AllReadyM.cons (by simp; rfl) (fun Kc hKc => ?_) AllReadyM.nil)
        · go_simp
          have HQ2 : Hid (PS w0 (x1.alloc (.cells #[(.slice p1 L.length c1)] 23)) P #[(T 0).val, (T 1).val, (T 2).val, (T 3).val, (.slice p4 us4.length c4), (.slice p5 us5.length c5), (.slice p6 us6.length c6)] (put T1 11 (.one 23 x1.heap.size (.slice p1 L.length c1))) G) := HQ1.out.fresh (below_alloc _ _) 11 (heap_alloc_new x1 _) (fun b hb => by rw [show b = x1.heap.size from hb]; exact Nat.le_refl _)
          refine hKc.out _ _ (fun _ _ => HQ2.out.pr) ?_
          clear hKc Kc HQ1
          obtain ⟨T2, hT2⟩ : ∃ T2, T2 = put T1 11 (.one 23 x1.heap.size (.slice p1 L.length c1)) := ⟨_, rfl⟩
          rw [← hT2] at HQ2
          revert HQ2 hT2
          generalize x1.alloc (.cells #[(.slice p1 L.length c1)] 23) = x2
          generalize x1.heap.size = y4
          intro HQ2 hT2
          have e0 := eqT hT2 e0 (by decide)
          have e1 := eqT hT2 e1 (by decide)
          have e2 := eqT hT2 e2 (by decide)
          have e3 := eqT hT2 e3 (by decide)
          have e4 := eqT hT2 e4 (by decide)
          have e5 := eqT hT2 e5 (by decide)
          have e6 := eqT hT2 e6 (by decide)
          have e8 := eqT hT2 e8 (by decide)
          have e9 := eqT hT2 e9 (by decide)
          have e10 := eqT hT2 e10 (by decide)
          have eo6 := eqT hT2 eo6 (by decide)
          have eo4 : T2 11 = .one 23 y4 (.slice p1 L.length c1) := by rw [hT2]; exact put_same _ _ _
          clear hT2
          refine wpAnyM_ready (rs := [9, 15]) (by kernel_rfl) (by simp) ?_
          refine AllReadyM.cons (by simp; rfl) (fun Kc hKc => ?_) (AllReadyM.cons (by simp; rfl) (fun Kc hKc => ?_) AllReadyM.nil)
          · obtain ⟨v', x3, hap, ⟨g4, h4, rfl⟩, hP⟩ := HQ2.out.app (i := 4) (k := 8) (o := 11) O.elMM (by decide) (by decide) (by decide) (by decide) e4 e8 eo4 (by omega) rfl (by decide)
            have HAP : Hid ((Builtin.append_ #[48, 48] 48 #[(.slice p4 us4.length c4), .slice (some ⟨y4, 0, none⟩) 1 1]).run Try.prog x2 = .ok (.slice g4 (us4.length + 1) h4) x3) := hap
            clear hap
            generalize us4.length + 1 = m4 at *
            refine step_append_is (by rfl) rfl rfl rfl rfl HAP.out ?_
            refine hKc.out _ _ (fun _ _ => hP.pr) ?_
            clear hKc Kc HAP
            obtain ⟨T3, hT3⟩ : ∃ T3, T3 = put (put T2 4 (.il fl (.slice g4 m4 h4) (us4 ++ [(.slice p1 L.length c1)]) (ls ++ [L]))) 8 .no := ⟨_, rfl⟩
            have HQ3 : Hid (PS w0 x3 P #[(T 0).val, (T 1).val, (T 2).val, (T 3).val, (.slice p4 us4.length c4), (.slice p5 us5.length c5), (.slice p6 us6.length c6)] T3 G) := by rw [hT3]; exact hP
            clear hP
            have e0 := eqT2 hT3 e0 (by decide) (by decide)
            have e1 := eqT2 hT3 e1 (by decide) (by decide)
            have e2 := eqT2 hT3 e2 (by decide) (by decide)
            have e3 := eqT2 hT3 e3 (by decide) (by decide)
            have e5 := eqT2 hT3 e5 (by decide) (by decide)
            have e6 := eqT2 hT3 e6 (by decide) (by decide)
            have e9 := eqT2 hT3 e9 (by decide) (by decide)
            have e10 := eqT2 hT3 e10 (by decide) (by decide)
            have eo6 := eqT2 hT3 eo6 (by decide) (by decide)
            have e4 : T3 4 = .il fl (.slice g4 m4 h4) (us4 ++ [(.slice p1 L.length c1)]) (ls ++ [L]) := by rw [hT3, put_other _ _ (by decide)]; exact put_same _ _ _
            clear hT3 HQ2
            simp only [Act.put, List.setIfInBounds_toArray, List.set_cons_zero, List.set_cons_succ]
            refine wpAnyM_ready (rs := [15]) (by kernel_rfl) (by simp) ?_
            refine AllReadyM.cons (by simp; rfl) (fun Kc hKc => ?_) AllReadyM.nil
            go_simp
            have HQ4 : Hid (PS w0 (x3.alloc (.cells #[(.slice p3 L.length c3)] 23)) P #[(T 0).val, (T 1).val, (T 2).val, (T 3).val, (.slice p4 us4.length c4), (.slice p5 us5.length c5), (.slice p6 us6.length c6)] (put T3 12 (.one 23 x3.heap.size (.slice p3 L.length c3))) G) := HQ3.out.fresh (below_alloc _ _) 12 (heap_alloc_new x3 _) (fun b hb => by rw [show b = x3.heap.size from hb]; exact Nat.le_refl _)
            refine hKc.out _ _ (fun _ _ => HQ4.out.pr) ?_
            clear hKc Kc HQ3
            obtain ⟨T4, hT4⟩ : ∃ T4, T4 = put T3 12 (.one 23 x3.heap.size (.slice p3 L.length c3)) := ⟨_, rfl⟩
            rw [← hT4] at HQ4
            revert HQ4 hT4
            generalize x3.alloc (.cells #[(.slice p3 L.length c3)] 23) = x4
            generalize x3.heap.size = y5
            intro HQ4 hT4
            have e0 := eqT hT4 e0 (by decide)
            have e1 := eqT hT4 e1 (by decide)
            have e2 := eqT hT4 e2 (by decide)
            have e3 := eqT hT4 e3 (by decide)
            have e5 := eqT hT4 e5 (by decide)
            have e6 := eqT hT4 e6 (by decide)
            have e9 := eqT hT4 e9 (by decide)
            have e10 := eqT hT4 e10 (by decide)
            have eo6 := eqT hT4 eo6 (by decide)
            have e4 := eqT hT4 e4 (by decide)
            have eo5 : T4 12 = .one 23 y5 (.slice p3 L.length c3) := by rw [hT4]; exact put_same _ _ _
            clear hT4
            refine wpAnyM_ready (rs := [16]) (by kernel_rfl) (by simp) ?_
            refine AllReadyM.cons (by simp; rfl) (fun Kc hKc => ?_) AllReadyM.nil
            obtain ⟨v', x5, hap, ⟨g5, h5, rfl⟩, hP⟩ := HQ4.out.app (i := 5) (k := 9) (o := 12) O.elMM (by decide) (by decide) (by decide) (by decide) e5 e9 eo5 (by omega) rfl (by decide)
            have HAP : Hid ((Builtin.append_ #[48, 48] 48 #[(.slice p5 us5.length c5), .slice (some ⟨y5, 0, none⟩) 1 1]).run Try.prog x4 = .ok (.slice g5 (us5.length + 1) h5) x5) := hap
            clear hap
            generalize us5.length + 1 = m5 at *
            refine step_append_is (by rfl) rfl rfl rfl rfl HAP.out ?_
            refine hKc.out _ _ (fun _ _ => hP.pr) ?_
            clear hKc Kc HAP
            obtain ⟨T5, hT5⟩ : ∃ T5, T5 = put (put T4 5 (.il fl (.slice g5 m5 h5) (us5 ++ [(.slice p3 L.length c3)]) (ls ++ [L]))) 9 .no := ⟨_, rfl⟩
            have HQ5 : Hid (PS w0 x5 P #[(T 0).val, (T 1).val, (T 2).val, (T 3).val, (.slice p4 us4.length c4), (.slice p5 us5.length c5), (.slice p6 us6.length c6)] T5 G) := by rw [hT5]; exact hP
            clear hP
            have e0 := eqT2 hT5 e0 (by decide) (by decide)
            have e1 := eqT2 hT5 e1 (by decide) (by decide)
            have e2 := eqT2 hT5 e2 (by decide) (by decide)
            have e3 := eqT2 hT5 e3 (by decide) (by decide)
            have e6 := eqT2 hT5 e6 (by decide) (by decide)
            have e10 := eqT2 hT5 e10 (by decide) (by decide)
            have eo6 := eqT2 hT5 eo6 (by decide) (by decide)
            have e4 := eqT2 hT5 e4 (by decide) (by decide)
            have e5 : T5 5 = .il fl (.slice g5 m5 h5) (us5 ++ [(.slice p3 L.length c3)]) (ls ++ [L]) := by rw [hT5, put_other _ _ (by decide)]; exact put_same _ _ _
            clear hT5 HQ4
            simp only [Act.put, List.setIfInBounds_toArray, List.set_cons_zero, List.set_cons_succ]
            refine wpAnyM_ready (rs := [23]) (by kernel_rfl) (by simp) ?_
            refine AllReadyM.cons (by simp; rfl) (fun Kc hKc => ?_) AllReadyM.nil
            obtain ⟨v', x6, hap, ⟨g6, h6, rfl⟩, hP⟩ := HQ5.out.app (i := 6) (k := 10) (o := 13) O.elS (by decide) (by decide) (by decide) (by decide) e6 e10 eo6 (by omega) rfl (by decide)
            have HAP : Hid ((Builtin.append_ #[49, 49] 49 #[(.slice p6 us6.length c6), .slice (some ⟨y6, 0, none⟩) 1 1]).run Try.prog x5 = .ok (.slice g6 (us6.length + 1) h6) x6) := hap
            clear hap
            generalize us6.length + 1 = m6 at *
            refine step_append_is (by rfl) rfl rfl rfl rfl HAP.out ?_
            refine hKc.out _ _ (fun _ _ => hP.pr) ?_
            clear hKc Kc HAP
            obtain ⟨T6, hT6⟩ : ∃ T6, T6 = put (put T5 6 (.fo fl (.slice g6 m6 h6) (us6 ++ [(.slice q2 Fj.length d2)]) (fs ++ [Fj]))) 10 .no := ⟨_, rfl⟩
            have HQ6 : Hid (PS w0 x6 P #[(T 0).val, (T 1).val, (T 2).val, (T 3).val, (.slice p4 us4.length c4), (.slice p5 us5.length c5), (.slice p6 us6.length c6)] T6 G) := by rw [hT6]; exact hP
            clear hP
            have e0 := eqT2 hT6 e0 (by decide) (by decide)
            have e1 := eqT2 hT6 e1 (by decide) (by decide)
            have e2 := eqT2 hT6 e2 (by decide) (by decide)
            have e3 := eqT2 hT6 e3 (by decide) (by decide)
            have e4 := eqT2 hT6 e4 (by decide) (by decide)
            have e5 := eqT2 hT6 e5 (by decide) (by decide)
            have e6 : T6 6 = .fo fl (.slice g6 m6 h6) (us6 ++ [(.slice q2 Fj.length d2)]) (fs ++ [Fj]) := by rw [hT6, put_other _ _ (by decide)]; exact put_same _ _ _
            clear hT6 HQ5
            simp only [Act.put, List.setIfInBounds_toArray, List.set_cons_zero, List.set_cons_succ]
            refine wpAnyM_take0 (i := 24) (v := ?va105) (by simp; rfl) (by kernel_rfl) (by kernel_rfl) (by kernel_rfl) (fun _ _ _ h => h) (Or.inl ⟨by rfl, ?ya105⟩) ?ra105
            case ya105 => intro w hSw; clear hSw; go_simp; with_reducible rfl
            simp only [Act.put, List.setIfInBounds_toArray, List.set_cons_zero, List.set_cons_succ]
            refine wpAnyM_take0 (i := 25) (v := ?va106) (by simp; rfl) (by kernel_rfl) (by kernel_rfl) (by kernel_rfl) (fun _ _ _ h => h) (Or.inl ⟨by rfl, ?ya106⟩) ?ra106
            case ya106 => intro w hSw; clear hSw; go_simp; with_reducible rfl
            simp only [Act.put, List.setIfInBounds_toArray, List.set_cons_zero, List.set_cons_succ]
            refine wpAnyM_ready (rs := [26]) (by kernel_rfl) (by simp) ?_
            refine AllReadyM.cons (by simp; rfl) (fun Kc hKc => ?_) AllReadyM.nil
            have hcv : x6.cell? ⟨P, 4, none⟩ = some (.slice p4 us4.length c4) := HQ6.out.cell (j := 4) rfl
            have hfv := HQ6.out.free 4
            go_simp
            have HQ7 : Hid (PS w0 (x6.setCell ⟨P, 4, none⟩ (.slice g4 m4 h4)) P #[(T 0).val, (T 1).val, (T 2).val, (T 3).val, (.slice g4 m4 h4), (.slice p5 us5.length c5), (.slice p6 us6.length c6)] T6 G) := HQ6.out.store 4 (.slice g4 m4 h4)
            refine hKc.out _ _ (fun h => absurd h (by decide)) ?_
            clear hKc Kc hcv hfv HQ6
            generalize x6.setCell ⟨P, 4, none⟩ (.slice g4 m4 h4) = x7 at *

            refine wpAnyM_take0 (i := 27) (v := ?va107) (by simp; rfl) (by kernel_rfl) (by kernel_rfl) (by kernel_rfl) (fun _ _ _ h => h) (Or.inl ⟨by rfl, ?ya107⟩) ?ra107
            case ya107 => intro w hSw; clear hSw; go_simp; with_reducible rfl
            simp only [Act.put, List.setIfInBounds_toArray, List.set_cons_zero, List.set_cons_succ]
            refine wpAnyM_take0 (i := 28) (v := ?va108) (by simp; rfl) (by kernel_rfl) (by kernel_rfl) (by kernel_rfl) (fun _ _ _ h => h) (Or.inl ⟨by rfl, ?ya108⟩) ?ra108
            case ya108 => intro w hSw; clear hSw; go_simp; with_reducible rfl
            simp only [Act.put, List.setIfInBounds_toArray, List.set_cons_zero, List.set_cons_succ]
            refine wpAnyM_ready (rs := [29]) (by kernel_rfl) (by simp) ?_
            refine AllReadyM.cons (by simp; rfl) (fun Kc hKc => ?_) AllReadyM.nil
            have hcv : x7.cell? ⟨P, 5, none⟩ = some (.slice p5 us5.length c5) := HQ7.out.cell (j := 5) rfl
            have hfv := HQ7.out.free 5
            go_simp
            have HQ8 : Hid (PS w0 (x7.setCell ⟨P, 5, none⟩ (.slice g5 m5 h5)) P #[(T 0).val, (T 1).val, (T 2).val, (T 3).val, (.slice g4 m4 h4), (.slice g5 m5 h5), (.slice p6 us6.length c6)] T6 G) := HQ7.out.store 5 (.slice g5 m5 h5)
            refine hKc.out _ _ (fun h => absurd h (by decide)) ?_
            clear hKc Kc hcv hfv HQ7
            generalize x7.setCell ⟨P, 5, none⟩ (.slice g5 m5 h5) = x8 at *

            refine wpAnyM_take0 (i := 30) (v := ?va109) (by simp; rfl) (by kernel_rfl) (by kernel_rfl) (by kernel_rfl) (fun _ _ _ h => h) (Or.inl ⟨by rfl, ?ya109⟩) ?ra109
            case ya109 => intro w hSw; clear hSw; go_simp; with_reducible rfl
            simp only [Act.put, List.setIfInBounds_toArray, List.set_cons_zero, List.set_cons_succ]
            refine wpAnyM_take0 (i := 31) (v := ?va110) (by simp; rfl) (by kernel_rfl) (by kernel_rfl) (by kernel_rfl) (fun _ _ _ h => h) (Or.inl ⟨by rfl, ?ya110⟩) ?ra110
            case ya110 => intro w hSw; clear hSw; go_simp; with_reducible rfl
            simp only [Act.put, List.setIfInBounds_toArray, List.set_cons_zero, List.set_cons_succ]
            refine wpAnyM_ready (rs := [32]) (by kernel_rfl) (by simp) ?_
            refine AllReadyM.cons (by simp; rfl) (fun Kc hKc => ?_) AllReadyM.nil
            have hcv : x8.cell? ⟨P, 6, none⟩ = some (.slice p6 us6.length c6) := HQ8.out.cell (j := 6) rfl
            have hfv := HQ8.out.free 6
            go_simp
            have HQ9 : Hid (PS w0 (x8.setCell ⟨P, 6, none⟩ (.slice g6 m6 h6)) P #[(T 0).val, (T 1).val, (T 2).val, (T 3).val, (.slice g4 m4 h4), (.slice g5 m5 h5), (.slice g6 m6 h6)] T6 G) := HQ8.out.store 6 (.slice g6 m6 h6)
            refine hKc.out _ _ (fun h => absurd h (by decide)) ?_
            clear hKc Kc hcv hfv HQ8
            generalize x8.setCell ⟨P, 6, none⟩ (.slice g6 m6 h6) = x9 at *

            refine wpAnyM_done (by kernel_rfl) (NoPanic.normal ?_) _
            have HZ : Hid (St w0 x9 P F D fl N (a + i + 1)) := told_end HQ9.out HSH.out e0 e1 e2 e3 e4 e5 e6 HLL.out.1 HLL.out.2 HFW.out hfl.2
            clear HQ9
            go_wp2_with fail
            go_roundw
            case rel => exact ⟨i + 1, by go_num, by omega, HZ⟩
            case measure => simp [intOf]; omega
          · go_simp
            have HQ3 : Hid (PS w0 (x2.alloc (.cells #[(.slice p3 L.length c3)] 23)) P #[(T 0).val, (T 1).val, (T 2).val, (T 3).val, (.slice p4 us4.length c4), (.slice p5 us5.length c5), (.slice p6 us6.length c6)] (put T2 12 (.one 23 x2.heap.size (.slice p3 L.length c3))) G) := HQ2.out.fresh (below_alloc _ _) 12 (heap_alloc_new x2 _) (fun b hb => by rw [show b = x2.heap.size from hb]; exact Nat.le_refl _)
            refine hKc.out _ _ (fun _ _ => HQ3.out.pr) ?_
            clear hKc Kc HQ2
            obtain ⟨T3, hT3⟩ : ∃ T3, T3 = put T2 12 (.one 23 x2.heap.size (.slice p3 L.length c3)) := ⟨_, rfl⟩
            rw [← hT3] at HQ3
            revert HQ3 hT3
            generalize x2.alloc (.cells #[(.slice p3 L.length c3)] 23) = x3
            generalize x2.heap.size = y5
            intro HQ3 hT3
            have e0 := eqT hT3 e0 (by decide)
            have e1 := eqT hT3 e1 (by decide)
            have e2 := eqT hT3 e2 (by decide)
            have e3 := eqT hT3 e3 (by decide)
            have e4 := eqT hT3 e4 (by decide)
            have e5 := eqT hT3 e5 (by decide)
            have e6 := eqT hT3 e6 (by decide)
            have e8 := eqT hT3 e8 (by decide)
            have e9 := eqT hT3 e9 (by decide)
            have e10 := eqT hT3 e10 (by decide)
            have eo6 := eqT hT3 eo6 (by decide)
            have eo4 := eqT hT3 eo4 (by decide)
            have eo5 : T3 12 = .one 23 y5 (.slice p3 L.length c3) := by rw [hT3]; exact put_same _ _ _
            clear hT3
            refine wpAnyM_ready (rs := [9]) (by kernel_rfl) (by simp) ?_
            refine AllReadyM.cons (by simp; rfl) (fun Kc hKc => ?_) AllReadyM.nil
            obtain ⟨v', x4, hap, ⟨g4, h4, rfl⟩, hP⟩ := HQ3.out.app (i := 4) (k := 8) (o := 11) O.elMM (by decide) (by decide) (by decide) (by decide) e4 e8 eo4 (by omega) rfl (by decide)
            have HAP : Hid ((Builtin.append_ #[48, 48] 48 #[(.slice p4 us4.length c4), .slice (some ⟨y4, 0, none⟩) 1 1]).run Try.prog x3 = .ok (.slice g4 (us4.length + 1) h4) x4) := hap
            clear hap
            generalize us4.length + 1 = m4 at *
            refine step_append_is (by rfl) rfl rfl rfl rfl HAP.out ?_
            refine hKc.out _ _ (fun _ _ => hP.pr) ?_
            clear hKc Kc HAP
            obtain ⟨T4, hT4⟩ : ∃ T4, T4 = put (put T3 4 (.il fl (.slice g4 m4 h4) (us4 ++ [(.slice p1 L.length c1)]) (ls ++ [L]))) 8 .no := ⟨_, rfl⟩
            have HQ4 : Hid (PS w0 x4 P #[(T 0).val, (T 1).val, (T 2).val, (T 3).val, (.slice p4 us4.length c4), (.slice p5 us5.length c5), (.slice p6 us6.length c6)] T4 G) := by rw [hT4]; exact hP
            clear hP
            have e0 := eqT2 hT4 e0 (by decide) (by decide)
            have e1 := eqT2 hT4 e1 (by decide) (by decide)
            have e2 := eqT2 hT4 e2 (by decide) (by decide)
            have e3 := eqT2 hT4 e3 (by decide) (by decide)
            have e5 := eqT2 hT4 e5 (by decide) (by decide)
            have e6 := eqT2 hT4 e6 (by decide) (by decide)
            have e9 := eqT2 hT4 e9 (by decide) (by decide)
            have e10 := eqT2 hT4 e10 (by decide) (by decide)
            have eo6 := eqT2 hT4 eo6 (by decide) (by decide)
            have eo5 := eqT2 hT4 eo5 (by decide) (by decide)
            have e4 : T4 4 = .il fl (.slice g4 m4 h4) (us4 ++ [(.slice p1 L.length c1)]) (ls ++ [L]) := by rw [hT4, put_other _ _ (by decide)]; exact put_same _ _ _
            clear hT4 HQ3
            simp only [Act.put, List.setIfInBounds_toArray, List.set_cons_zero, List.set_cons_succ]
            refine wpAnyM_ready (rs := [16]) (by kernel_rfl) (by simp) ?_
            refine AllReadyM.cons (by simp; rfl) (fun Kc hKc => ?_) AllReadyM.nil
            obtain ⟨v', x5, hap, ⟨g5, h5, rfl⟩, hP⟩ := HQ4.out.app (i := 5) (k := 9) (o := 12) O.elMM (by decide) (by decide) (by decide) (by decide) e5 e9 eo5 (by omega) rfl (by decide)
            have HAP : Hid ((Builtin.append_ #[48, 48] 48 #[(.slice p5 us5.length c5), .slice (some ⟨y5, 0, none⟩) 1 1]).run Try.prog x4 = .ok (.slice g5 (us5.length + 1) h5) x5) := hap
            clear hap
            generalize us5.length + 1 = m5 at *
            refine step_append_is (by rfl) rfl rfl rfl rfl HAP.out ?_
            refine hKc.out _ _ (fun _ _ => hP.pr) ?_
            clear hKc Kc HAP
            obtain ⟨T5, hT5⟩ : ∃ T5, T5 = put (put T4 5 (.il fl (.slice g5 m5 h5) (us5 ++ [(.slice p3 L.length c3)]) (ls ++ [L]))) 9 .no := ⟨_, rfl⟩
            have HQ5 : Hid (PS w0 x5 P #[(T 0).val, (T 1).val, (T 2).val, (T 3).val, (.slice p4 us4.length c4), (.slice p5 us5.length c5), (.slice p6 us6.length c6)] T5 G) := by rw [hT5]; exact hP
            clear hP
            have e0 := eqT2 hT5 e0 (by decide) (by decide)
            have e1 := eqT2 hT5 e1 (by decide) (by decide)
            have e2 := eqT2 hT5 e2 (by decide) (by decide)
            have e3 := eqT2 hT5 e3 (by decide) (by decide)
            have e6 := eqT2 hT5 e6 (by decide) (by decide)
            have e10 := eqT2 hT5 e10 (by decide) (by decide)
            have eo6 := eqT2 hT5 eo6 (by decide) (by decide)
            have e4 := eqT2 hT5 e4 (by decide) (by decide)
            have e5 : T5 5 = .il fl (.slice g5 m5 h5) (us5 ++ [(.slice p3 L.length c3)]) (ls ++ [L]) := by rw [hT5, put_other _ _ (by decide)]; exact put_same _ _ _
            clear hT5 HQ4
            simp only [Act.put, List.setIfInBounds_toArray, List.set_cons_zero, List.set_cons_succ]
            refine wpAnyM_ready (rs := [23]) (by kernel_rfl) (by simp) ?_
            refine AllReadyM.cons (by simp; rfl) (fun Kc hKc => ?_) AllReadyM.nil
            obtain ⟨v', x6, hap, ⟨g6, h6, rfl⟩, hP⟩ := HQ5.out.app (i := 6) (k := 10) (o := 13) O.elS (by decide) (by decide) (by decide) (by decide) e6 e10 eo6 (by omega) rfl (by decide)
            have HAP : Hid ((Builtin.append_ #[49, 49] 49 #[(.slice p6 us6.length c6), .slice (some ⟨y6, 0, none⟩) 1 1]).run Try.prog x5 = .ok (.slice g6 (us6.length + 1) h6) x6) := hap
            clear hap
            generalize us6.length + 1 = m6 at *
            refine step_append_is (by rfl) rfl rfl rfl rfl HAP.out ?_
            refine hKc.out _ _ (fun _ _ => hP.pr) ?_
            clear hKc Kc HAP
            obtain ⟨T6, hT6⟩ : ∃ T6, T6 = put (put T5 6 (.fo fl (.slice g6 m6 h6) (us6 ++ [(.slice q2 Fj.length d2)]) (fs ++ [Fj]))) 10 .no := ⟨_, rfl⟩
            have HQ6 : Hid (PS w0 x6 P #[(T 0).val, (T 1).val, (T 2).val, (T 3).val, (.slice p4 us4.length c4), (.slice p5 us5.length c5), (.slice p6 us6.length c6)] T6 G) := by rw [hT6]; exact hP
            clear hP
            have e0 := eqT2 hT6 e0 (by decide) (by decide)
            have e1 := eqT2 hT6 e1 (by decide) (by decide)
            have e2 := eqT2 hT6 e2 (by decide) (by decide)
            have e3 := eqT2 hT6 e3 (by decide) (by decide)
            have e4 := eqT2 hT6 e4 (by decide) (by decide)
            have e5 := eqT2 hT6 e5 (by decide) (by decide)
            have e6 : T6 6 = .fo fl (.slice g6 m6 h6) (us6 ++ [(.slice q2 Fj.length d2)]) (fs ++ [Fj]) := by rw [hT6, put_other _ _ (by decide)]; exact put_same _ _ _
            clear hT6 HQ5
            simp only [Act.put, List.setIfInBounds_toArray, List.set_cons_zero, List.set_cons_succ]
            refine wpAnyM_take0 (i := 24) (v := ?va111) (by simp; rfl) (by kernel_rfl) (by kernel_rfl) (by kernel_rfl) (fun _ _ _ h => h) (Or.inl ⟨by rfl, ?ya111⟩) ?ra111
            case ya111 => intro w hSw; clear hSw; go_simp; with_reducible rfl
            simp only [Act.put, List.setIfInBounds_toArray, List.set_cons_zero, List.set_cons_succ]
            refine wpAnyM_take0 (i := 25) (v := ?va112) (by simp; rfl) (by kernel_rfl) (by kernel_rfl) (by kernel_rfl) (fun _ _ _ h => h) (Or.inl ⟨by rfl, ?ya112⟩) ?ra112
            case ya112 => intro w hSw; clear hSw; go_simp; with_reducible rfl
            simp only [Act.put, List.setIfInBounds_toArray, List.set_cons_zero, List.set_cons_succ]
            refine wpAnyM_ready (rs := [26]) (by kernel_rfl) (by simp) ?_
            refine AllReadyM.cons (by simp; rfl) (fun Kc hKc => ?_) AllReadyM.nil
            have hcv : x6.cell? ⟨P, 4, none⟩ = some (.slice p4 us4.length c4) := HQ6.out.cell (j := 4) rfl
            have hfv := HQ6.out.free 4
            go_simp
            have HQ7 : Hid (PS w0 (x6.setCell ⟨P, 4, none⟩ (.slice g4 m4 h4)) P #[(T 0).val, (T 1).val, (T 2).val, (T 3).val, (.slice g4 m4 h4), (.slice p5 us5.length c5), (.slice p6 us6.length c6)] T6 G) := HQ6.out.store 4 (.slice g4 m4 h4)
            refine hKc.out _ _ (fun h => absurd h (by decide)) ?_
            clear hKc Kc hcv hfv HQ6
            generalize x6.setCell ⟨P, 4, none⟩ (.slice g4 m4 h4) = x7 at *

            refine wpAnyM_take0 (i := 27) (v := ?va113) (by simp; rfl) (by kernel_rfl) (by kernel_rfl) (by kernel_rfl) (fun _ _ _ h => h) (Or.inl ⟨by rfl, ?ya113⟩) ?ra113
            case ya113 => intro w hSw; clear hSw; go_simp; with_reducible rfl
            simp only [Act.put, List.setIfInBounds_toArray, List.set_cons_zero, List.set_cons_succ]
            refine wpAnyM_take0 (i := 28) (v := ?va114) (by simp; rfl) (by kernel_rfl) (by kernel_rfl) (by kernel_rfl) (fun _ _ _ h => h) (Or.inl ⟨by rfl, ?ya114⟩) ?ra114
            case ya114 => intro w hSw; clear hSw; go_simp; with_reducible rfl
            simp only [Act.put, List.setIfInBounds_toArray, List.set_cons_zero, List.set_cons_succ]
            refine wpAnyM_ready (rs := [29]) (by kernel_rfl) (by simp) ?_
            refine AllReadyM.cons (by simp; rfl) (fun Kc hKc => ?_) AllReadyM.nil
            have hcv : x7.cell? ⟨P, 5, none⟩ = some (.slice p5 us5.length c5) := HQ7.out.cell (j := 5) rfl
            have hfv := HQ7.out.free 5
            go_simp
            have HQ8 : Hid (PS w0 (x7.setCell ⟨P, 5, none⟩ (.slice g5 m5 h5)) P #[(T 0).val, (T 1).val, (T 2).val, (T 3).val, (.slice g4 m4 h4), (.slice g5 m5 h5), (.slice p6 us6.length c6)] T6 G) := HQ7.out.store 5 (.slice g5 m5 h5)
            refine hKc.out _ _ (fun h => absurd h (by decide)) ?_
            clear hKc Kc hcv hfv HQ7
            generalize x7.setCell ⟨P, 5, none⟩ (.slice g5 m5 h5) = x8 at *

            refine wpAnyM_take0 (i := 30) (v := ?va115) (by simp; rfl) (by kernel_rfl) (by kernel_rfl) (by kernel_rfl) (fun _ _ _ h => h) (Or.inl ⟨by rfl, ?ya115⟩) ?ra115
            case ya115 => intro w hSw; clear hSw; go_simp; with_reducible rfl
            simp only [Act.put, List.setIfInBounds_toArray, List.set_cons_zero, List.set_cons_succ]
            refine wpAnyM_take0 (i := 31) (v := ?va116) (by simp; rfl) (by kernel_rfl) (by kernel_rfl) (by kernel_rfl) (fun _ _ _ h => h) (Or.inl ⟨by rfl, ?ya116⟩) ?ra116
            case ya116 => intro w hSw; clear hSw; go_simp; with_reducible rfl
            simp only [Act.put, List.setIfInBounds_toArray, List.set_cons_zero, List.set_cons_succ]
            refine wpAnyM_ready (rs := [32]) (by kernel_rfl) (by simp) ?_
            refine AllReadyM.cons (by simp; rfl) (fun Kc hKc => ?_) AllReadyM.nil
            have hcv : x8.cell? ⟨P, 6, none⟩ = some (.slice p6 us6.length c6) := HQ8.out.cell (j := 6) rfl
            have hfv := HQ8.out.free 6
            go_simp
            have HQ9 : Hid (PS w0 (x8.setCell ⟨P, 6, none⟩ (.slice g6 m6 h6)) P #[(T 0).val, (T 1).val, (T 2).val, (T 3).val, (.slice g4 m4 h4), (.slice g5 m5 h5), (.slice g6 m6 h6)] T6 G) := HQ8.out.store 6 (.slice g6 m6 h6)
            refine hKc.out _ _ (fun h => absurd h (by decide)) ?_
            clear hKc Kc hcv hfv HQ8
            generalize x8.setCell ⟨P, 6, none⟩ (.slice g6 m6 h6) = x9 at *

            refine wpAnyM_done (by kernel_rfl) (NoPanic.normal ?_) _
            have HZ : Hid (St w0 x9 P F D fl N (a + i + 1)) := told_end HQ9.out HSH.out e0 e1 e2 e3 e4 e5 e6 HLL.out.1 HLL.out.2 HFW.out hfl.2
            clear HQ9
            go_wp2_with fail
            go_roundw
            case rel => exact ⟨i + 1, by go_num, by omega, HZ⟩
            case measure => simp [intOf]; omega
        · go_simp
          have HQ2 : Hid (PS w0 (x1.alloc (.cells #[(.slice p3 L.length c3)] 23)) P #[(T 0).val, (T 1).val, (T 2).val, (T 3).val, (.slice p4 us4.length c4), (.slice p5 us5.length c5), (.slice p6 us6.length c6)] (put T1 12 (.one 23 x1.heap.size (.slice p3 L.length c3))) G) := HQ1.out.fresh (below_alloc _ _) 12 (heap_alloc_new x1 _) (fun b hb => by rw [show b = x1.heap.size from hb]; exact Nat.le_refl _)
          refine hKc.out _ _ (fun _ _ => HQ2.out.pr) ?_
          clear hKc Kc HQ1
          obtain ⟨T2, hT2⟩ : ∃ T2, T2 = put T1 12 (.one 23 x1.heap.size (.slice p3 L.length c3)) := ⟨_, rfl⟩
          rw [← hT2] at HQ2
          revert HQ2 hT2
          generalize x1.alloc (.cells #[(.slice p3 L.length c3)] 23) = x2
          generalize x1.heap.size = y5
          intro HQ2 hT2
          have e0 := eqT hT2 e0 (by decide)
          have e1 := eqT hT2 e1 (by decide)
          have e2 := eqT hT2 e2 (by decide)
          have e3 := eqT hT2 e3 (by decide)
          have e4 := eqT hT2 e4 (by decide)
          have e5 := eqT hT2 e5 (by decide)
          have e6 := eqT hT2 e6 (by decide)
          have e8 := eqT hT2 e8 (by decide)
          have e9 := eqT hT2 e9 (by decide)
          have e10 := eqT hT2 e10 (by decide)
          have eo6 := eqT hT2 eo6 (by decide)
          have eo5 : T2 12 = .one 23 y5 (.slice p3 L.length c3) := by rw [hT2]; exact put_same _ _ _
          clear hT2
          refine wpAnyM_ready (rs := [8]) (by kernel_rfl) (by simp) ?_
          refine AllReadyM.cons (by simp; rfl) (fun Kc hKc => ?_) AllReadyM.nil
          go_simp
          have HQ3 : Hid (PS w0 (x2.alloc (.cells #[(.slice p1 L.length c1)] 23)) P #[(T 0).val, (T 1).val, (T 2).val, (T 3).val, (.slice p4 us4.length c4), (.slice p5 us5.length c5), (.slice p6 us6.length c6)] (put T2 11 (.one 23 x2.heap.size (.slice p1 L.length c1))) G) := HQ2.out.fresh (below_alloc _ _) 11 (heap_alloc_new x2 _) (fun b hb => by rw [show b = x2.heap.size from hb]; exact Nat.le_refl _)
          refine hKc.out _ _ (fun _ _ => HQ3.out.pr) ?_
          clear hKc Kc HQ2
          obtain ⟨T3, hT3⟩ : ∃ T3, T3 = put T2 11 (.one 23 x2.heap.size (.slice p1 L.length c1)) := ⟨_, rfl⟩
          rw [← hT3] at HQ3
          revert HQ3 hT3
          generalize x2.alloc (.cells #[(.slice p1 L.length c1)] 23) = x3
          generalize x2.heap.size = y4
          intro HQ3 hT3
          have e0 := eqT hT3 e0 (by decide)
          have e1 := eqT hT3 e1 (by decide)
          have e2 := eqT hT3 e2 (by decide)
          have e3 := eqT hT3 e3 (by decide)
          have e4 := eqT hT3 e4 (by decide)
          have e5 := eqT hT3 e5 (by decide)
          have e6 := eqT hT3 e6 (by decide)
          have e8 := eqT hT3 e8 (by decide)
          have e9 := eqT hT3 e9 (by decide)
          have e10 := eqT hT3 e10 (by decide)
          have eo6 := eqT hT3 eo6 (by decide)
          have eo5 := eqT hT3 eo5 (by decide)
          have eo4 : T3 11 = .one 23 y4 (.slice p1 L.length c1) := by rw [hT3]; exact put_same _ _ _
          clear hT3
          refine wpAnyM_ready (rs := [9]) (by kernel_rfl) (by simp) ?_
          refine AllReadyM.cons (by simp; rfl) (fun Kc hKc => ?_) AllReadyM.nil
          obtain ⟨v', x4, hap, ⟨g4, h4, rfl⟩, hP⟩ := HQ3.out.app (i := 4) (k := 8) (o := 11) O.elMM (by decide) (by decide) (by decide) (by decide) e4 e8 eo4 (by omega) rfl (by decide)
          have HAP : Hid ((Builtin.append_ #[48, 48] 48 #[(.slice p4 us4.length c4), .slice (some ⟨y4, 0, none⟩) 1 1]).run Try.prog x3 = .ok (.slice g4 (us4.length + 1) h4) x4) := hap
          clear hap
          generalize us4.length + 1 = m4 at *
          refine step_append_is (by rfl) rfl rfl rfl rfl HAP.out ?_
          refine hKc.out _ _ (fun _ _ => hP.pr) ?_
          clear hKc Kc HAP
          obtain ⟨T4, hT4⟩ : ∃ T4, T4 = put (put T3 4 (.il fl (.slice g4 m4 h4) (us4 ++ [(.slice p1 L.length c1)]) (ls ++ [L]))) 8 .no := ⟨_, rfl⟩
          have HQ4 : Hid (PS w0 x4 P #[(T 0).val, (T 1).val, (T 2).val, (T 3).val, (.slice p4 us4.length c4), (.slice p5 us5.length c5), (.slice p6 us6.length c6)] T4 G) := by rw [hT4]; exact hP
          clear hP
          have e0 := eqT2 hT4 e0 (by decide) (by decide)
          have e1 := eqT2 hT4 e1 (by decide) (by decide)
          have e2 := eqT2 hT4 e2 (by decide) (by decide)
          have e3 := eqT2 hT4 e3 (by decide) (by decide)
          have e5 := eqT2 hT4 e5 (by decide) (by decide)
          have e6 := eqT2 hT4 e6 (by decide) (by decide)
          have e9 := eqT2 hT4 e9 (by decide) (by decide)
          have e10 := eqT2 hT4 e10 (by decide) (by decide)
          have eo6 := eqT2 hT4 eo6 (by decide) (by decide)
          have eo5 := eqT2 hT4 eo5 (by decide) (by decide)
          have e4 : T4 4 = .il fl (.slice g4 m4 h4) (us4 ++ [(.slice p1 L.length c1)]) (ls ++ [L]) := by rw [hT4, put_other _ _ (by decide)]; exact put_same _ _ _
          clear hT4 HQ3
          simp only [Act.put, List.setIfInBounds_toArray, List.set_cons_zero, List.set_cons_succ]
          refine wpAnyM_ready (rs := [16]) (by kernel_rfl) (by simp) ?_
          refine AllReadyM.cons (by simp; rfl) (fun Kc hKc => ?_) AllReadyM.nil
          obtain ⟨v', x5, hap, ⟨g5, h5, rfl⟩, hP⟩ := HQ4.out.app (i := 5) (k := 9) (o := 12) O.elMM (by decide) (by decide) (by decide) (by decide) e5 e9 eo5 (by omega) rfl (by decide)
          have HAP : Hid ((Builtin.append_ #[48, 48] 48 #[(.slice p5 us5.length c5), .slice (some ⟨y5, 0, none⟩) 1 1]).run Try.prog x4 = .ok (.slice g5 (us5.length + 1) h5) x5) := hap
          clear hap
          generalize us5.length + 1 = m5 at *
          refine step_append_is (by rfl) rfl rfl rfl rfl HAP.out ?_
          refine hKc.out _ _ (fun _ _ => hP.pr) ?_
          clear hKc Kc HAP
          obtain ⟨T5, hT5⟩ : ∃ T5, T5 = put (put T4 5 (.il fl (.slice g5 m5 h5) (us5 ++ [(.slice p3 L.length c3)]) (ls ++ [L]))) 9 .no := ⟨_, rfl⟩
          have HQ5 : Hid (PS w0 x5 P #[(T 0).val, (T 1).val, (T 2).val, (T 3).val, (.slice p4 us4.length c4), (.slice p5 us5.length c5), (.slice p6 us6.length c6)] T5 G) := by rw [hT5]; exact hP
          clear hP
          have e0 := eqT2 hT5 e0 (by decide) (by decide)
          have e1 := eqT2 hT5 e1 (by decide) (by decide)
          have e2 := eqT2 hT5 e2 (by decide) (by decide)
          have e3 := eqT2 hT5 e3 (by decide) (by decide)
          have e6 := eqT2 hT5 e6 (by decide) (by decide)
          have e10 := eqT2 hT5 e10 (by decide) (by decide)
          have eo6 := eqT2 hT5 eo6 (by decide) (by decide)
          have e4 := eqT2 hT5 e4 (by decide) (by decide)
          have e5 : T5 5 = .il fl (.slice g5 m5 h5) (us5 ++ [(.slice p3 L.length c3)]) (ls ++ [L]) := by rw [hT5, put_other _ _ (by decide)]; exact put_same _ _ _
          clear hT5 HQ4
          simp only [Act.put, List.setIfInBounds_toArray, List.set_cons_zero, List.set_cons_succ]
          refine wpAnyM_ready (rs := [23]) (by kernel_rfl) (by simp) ?_
          refine AllReadyM.cons (by simp; rfl) (fun Kc hKc => ?_) AllReadyM.nil
          obtain ⟨v', x6, hap, ⟨g6, h6, rfl⟩, hP⟩ := HQ5.out.app (i := 6) (k := 10) (o := 13) O.elS (by decide) (by decide) (by decide) (by decide) e6 e10 eo6 (by omega) rfl (by decide)
          have HAP : Hid ((Builtin.append_ #[49, 49] 49 #[(.slice p6 us6.length c6), .slice (some ⟨y6, 0, none⟩) 1 1]).run Try.prog x5 = .ok (.slice g6 (us6.length + 1) h6) x6) := hap
          clear hap
          generalize us6.length + 1 = m6 at *
          refine step_append_is (by rfl) rfl rfl rfl rfl HAP.out ?_
          refine hKc.out _ _ (fun _ _ => hP.pr) ?_
          clear hKc Kc HAP
          obtain ⟨T6, hT6⟩ : ∃ T6, T6 = put (put T5 6 (.fo fl (.slice g6 m6 h6) (us6 ++ [(.slice q2 Fj.length d2)]) (fs ++ [Fj]))) 10 .no := ⟨_, rfl⟩
          have HQ6 : Hid (PS w0 x6 P #[(T 0).val, (T 1).val, (T 2).val, (T 3).val, (.slice p4 us4.length c4), (.slice p5 us5.length c5), (.slice p6 us6.length c6)] T6 G) := by rw [hT6]; exact hP
          clear hP
          have e0 := eqT2 hT6 e0 (by decide) (by decide)
          have e1 := eqT2 hT6 e1 (by decide) (by decide)
          have e2 := eqT2 hT6 e2 (by decide) (by decide)
          have e3 := eqT2 hT6 e3 (by decide) (by decide)
          have e4 := eqT2 hT6 e4 (by decide) (by decide)
          have e5 := eqT2 hT6 e5 (by decide) (by decide)
          have e6 : T6 6 = .fo fl (.slice g6 m6 h6) (us6 ++ [(.slice q2 Fj.length d2)]) (fs ++ [Fj]) := by rw [hT6, put_other _ _ (by decide)]; exact put_same _ _ _
          clear hT6 HQ5
          simp only [Act.put, List.setIfInBounds_toArray, List.set_cons_zero, List.set_cons_succ]
          refine wpAnyM_take0 (i := 24) (v := ?va117) (by simp; rfl) (by kernel_rfl) (by kernel_rfl) (by kernel_rfl) (fun _ _ _ h => h) (Or.inl ⟨by rfl, ?ya117⟩) ?ra117
          case ya117 => intro w hSw; clear hSw; go_simp; with_reducible rfl
          simp only [Act.put, List.setIfInBounds_toArray, List.set_cons_zero, List.set_cons_succ]
          refine wpAnyM_take0 (i := 25) (v := ?va118) (by simp; rfl) (by kernel_rfl) (by kernel_rfl) (by kernel_rfl) (fun _ _ _ h => h) (Or.inl ⟨by rfl, ?ya118⟩) ?ra118
          case ya118 => intro w hSw; clear hSw; go_simp; with_reducible rfl
          simp only [Act.put, List.setIfInBounds_toArray, List.set_cons_zero, List.set_cons_succ]
          refine wpAnyM_ready (rs := [26]) (by kernel_rfl) (by simp) ?_
          refine AllReadyM.cons (by simp; rfl) (fun Kc hKc => ?_) AllReadyM.nil
          have hcv : x6.cell? ⟨P, 4, none⟩ = some (.slice p4 us4.length c4) := HQ6.out.cell (j := 4) rfl
          have hfv := HQ6.out.free 4
          go_simp
          have HQ7 : Hid (PS w0 (x6.setCell ⟨P, 4, none⟩ (.slice g4 m4 h4)) P #[(T 0).val, (T 1).val, (T 2).val, (T 3).val, (.slice g4 m4 h4), (.slice p5 us5.length c5), (.slice p6 us6.length c6)] T6 G) := HQ6.out.store 4 (.slice g4 m4 h4)
          refine hKc.out _ _ (fun h => absurd h (by decide)) ?_
          clear hKc Kc hcv hfv HQ6
          generalize x6.setCell ⟨P, 4, none⟩ (.slice g4 m4 h4) = x7 at *

          refine wpAnyM_take0 (i := 27) (v := ?va119) (by simp; rfl) (by kernel_rfl) (by kernel_rfl) (by kernel_rfl) (fun _ _ _ h => h) (Or.inl ⟨by rfl, ?ya119⟩) ?ra119
          case ya119 => intro w hSw; clear hSw; go_simp; with_reducible rfl
          simp only [Act.put, List.setIfInBounds_toArray, List.set_cons_zero, List.set_cons_succ]
          refine wpAnyM_take0 (i := 28) (v := ?va120) (by simp; rfl) (by kernel_rfl) (by kernel_rfl) (by kernel_rfl) (fun _ _ _ h => h) (Or.inl ⟨by rfl, ?ya120⟩) ?ra120
          case ya120 => intro w hSw; clear hSw; go_simp; with_reducible rfl
          simp only [Act.put, List.setIfInBounds_toArray, List.set_cons_zero, List.set_cons_succ]
          refine wpAnyM_ready (rs := [29]) (by kernel_rfl) (by simp) ?_
          refine AllReadyM.cons (by simp; rfl) (fun Kc hKc => ?_) AllReadyM.nil
          have hcv : x7.cell? ⟨P, 5, none⟩ = some (.slice p5 us5.length c5) := HQ7.out.cell (j := 5) rfl
          have hfv := HQ7.out.free 5
          go_simp
          have HQ8 : Hid (PS w0 (x7.setCell ⟨P, 5, none⟩ (.slice g5 m5 h5)) P #[(T 0).val, (T 1).val, (T 2).val, (T 3).val, (.slice g4 m4 h4), (.slice g5 m5 h5), (.slice p6 us6.length c6)] T6 G) := HQ7.out.store 5 (.slice g5 m5 h5)
          refine hKc.out _ _ (fun h => absurd h (by decide)) ?_
          clear hKc Kc hcv hfv HQ7
          generalize x7.setCell ⟨P, 5, none⟩ (.slice g5 m5 h5) = x8 at *

          refine wpAnyM_take0 (i := 30) (v := ?va121) (by simp; rfl) (by kernel_rfl) (by kernel_rfl) (by kernel_rfl) (fun _ _ _ h => h) (Or.inl ⟨by rfl, ?ya121⟩) ?ra121
          case ya121 => intro w hSw; clear hSw; go_simp; with_reducible rfl
          simp only [Act.put, List.setIfInBounds_toArray, List.set_cons_zero, List.set_cons_succ]
          refine wpAnyM_take0 (i := 31) (v := ?va122) (by simp; rfl) (by kernel_rfl) (by kernel_rfl) (by kernel_rfl) (fun _ _ _ h => h) (Or.inl ⟨by rfl, ?ya122⟩) ?ra122
          case ya122 => intro w hSw; clear hSw; go_simp; with_reducible rfl
          simp only [Act.put, List.setIfInBounds_toArray, List.set_cons_zero, List.set_cons_succ]
          refine wpAnyM_ready (rs := [32]) (by kernel_rfl) (by simp) ?_
          refine AllReadyM.cons (by simp; rfl) (fun Kc hKc => ?_) AllReadyM.nil
          have hcv : x8.cell? ⟨P, 6, none⟩ = some (.slice p6 us6.length c6) := HQ8.out.cell (j := 6) rfl
          have hfv := HQ8.out.free 6
          go_simp
          have HQ9 : Hid (PS w0 (x8.setCell ⟨P, 6, none⟩ (.slice g6 m6 h6)) P #[(T 0).val, (T 1).val, (T 2).val, (T 3).val, (.slice g4 m4 h4), (.slice g5 m5 h5), (.slice g6 m6 h6)] T6 G) := HQ8.out.store 6 (.slice g6 m6 h6)
          refine hKc.out _ _ (fun h => absurd h (by decide)) ?_
          clear hKc Kc hcv hfv HQ8
          generalize x8.setCell ⟨P, 6, none⟩ (.slice g6 m6 h6) = x9 at *

          refine wpAnyM_done (by kernel_rfl) (NoPanic.normal ?_) _
          have HZ : Hid (St w0 x9 P F D fl N (a + i + 1)) := told_end HQ9.out HSH.out e0 e1 e2 e3 e4 e5 e6 HLL.out.1 HLL.out.2 HFW.out hfl.2
          clear HQ9
          go_wp2_with fail
          go_roundw
          case rel => exact ⟨i + 1, by go_num, by omega, HZ⟩
          case measure => simp [intOf]; omega

    · obtain rfl : i = 2 := by omega
      go_wp2_with fail
      go_ret
      exact ⟨rfl, HI.out⟩
end
end W
end Go.Proofs.Ythgkdpniaednaaa
