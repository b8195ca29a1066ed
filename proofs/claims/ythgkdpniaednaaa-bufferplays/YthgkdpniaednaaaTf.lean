/-
  Layer 16: a step: Copy.
-/
import Derived.Test.YthgkdpniaednaaaTe
namespace Go.Proofs.Ythgkdpniaednaaa
open Go.RowKit

open B (I64)
namespace W
section
variable {w0 w w' : World} {P : Nat} {cs : Array Value} {T : Nat → Th} {G : Nat → Prop}
/-- a new buffer, laid aside -/
theorem PS.newB {Q cf : Nat} {pf : Option Addr} {f : List Int} {vi : Value} {L : List Im} (h : PS w0 w P cs T G) (hn : New w w' Q pf cf f vi L) (hf : ∀ a, pf = some a → G a.block ∨ w.heap.size ≤ a.block) (k : Nat) :
    ∃ G2, PS w0 w' P cs (put T k (.buf Q pf cf f vi L)) G2 ∧ ∀ g, G g → G2 g := by
  have hb := hn.at'
  have hlt : ∀ a, pf = some a → a.block < w'.heap.size := fun a ha => by obtain ⟨c, hc⟩ := hb.kind a ha; exact (Array.getElem?_eq_some_iff.1 hc).1
  refine ⟨fun g => G g ∨ ∃ a, pf = some a ∧ a.block = g, ?_, fun g hg => .inl hg⟩
  have h2 : PS w0 w' P cs T (fun g => G g ∨ ∃ a, pf = some a ∧ a.block = g) := by
    refine (h.later hn.below).still (fun g hg => .inl hg) (fun g hg => ?_) (fun g hg hng => ?_)
    · rcases hg with hg | ⟨a, ha, rfl⟩
      · exact (h.later hn.below).fam.glt g hg
      · exact hlt a ha
    · rcases hg with hg | ⟨a, ha, rfl⟩
      · exact absurd hg hng
      · have hge : w.heap.size ≤ a.block := (hf a ha).resolve_left hng
        exact ⟨fun e => by have := h.plt; omega, fun j hj hx => by have := Th.lt (h.fam.at' j hj) hx; omega⟩
  refine h2.add ⟨hb, fun a ha => .inr ⟨a, ha, rfl⟩⟩ (fun b hbf => ?_)
  have hge : w.heap.size ≤ b := by
    rcases hbf with rfl | hbf
    · exact hn.q
    · exact hn.row b hbf
  refine ⟨Nat.le_trans h.below.size hge, fun hg => ?_, fun e => by have := h.plt; omega, fun j hj _ hx => by have := Th.lt (h.fam.at' j hj) hx; omega⟩
  rcases hg with hg | ⟨a, ha, rfl⟩
  · have := h.fam.glt b hg; omega
  · rcases hbf with e | e
    · exact (hb.fne ha).1 e
    · exact (hb.fne ha).2 e
theorem PS.newR {Q cf : Nat} {pf : Option Addr} {f : List Int} {vi : Value} {L : List Im} (h : PS w0 w P cs T G) (hn : NewR w w' Q pf cf f vi L) (k : Nat) :
    ∃ G2, PS w0 w' P cs (put T k (.ref Q pf cf f vi L)) G2 ∧ ∀ g, G g → G2 g := by
  have hb := hn.at'
  have hlt : ∀ a, pf = some a → a.block < w'.heap.size := fun a ha => by obtain ⟨c, hc⟩ := hb.kind a ha; exact (Array.getElem?_eq_some_iff.1 hc).1
  refine ⟨fun g => G g ∨ ∃ a, pf = some a ∧ a.block = g, ?_, fun g hg => .inl hg⟩
  have h2 : PS w0 w' P cs T (fun g => G g ∨ ∃ a, pf = some a ∧ a.block = g) := by
    refine (h.later hn.below).still (fun g hg => .inl hg) (fun g hg => ?_) (fun g hg hng => ?_)
    · rcases hg with hg | ⟨a, ha, rfl⟩
      · exact (h.later hn.below).fam.glt g hg
      · exact hlt a ha
    · rcases hg with hg | ⟨a, ha, rfl⟩
      · exact absurd hg hng
      · have hge := (hn.set a ha).1
        exact ⟨fun e => by have := h.plt; omega, fun j hj hx => by have := Th.lt (h.fam.at' j hj) hx; omega⟩
  refine h2.add ⟨hb, fun a ha => .inr ⟨a, ha, rfl⟩⟩ (fun b hbf => ?_)
  have hge : w.heap.size ≤ b := by
    rcases hbf with rfl | hbf
    · exact hn.q
    · exact hn.row b hbf
  refine ⟨Nat.le_trans h.below.size hge, fun hg => ?_, fun e => by have := h.plt; omega, fun j hj _ hx => by have := Th.lt (h.fam.at' j hj) hx; omega⟩
  rcases hg with hg | ⟨a, ha, rfl⟩
  · have := h.fam.glt b hg; omega
  · rcases hbf with e | e
    · exact (hb.fne ha).1 e
    · exact (hb.fne ha).2 e
/-- a thing that was laid aside takes its place -/
theorem PS.place {t : Th} (h : PS w0 w P cs T G) {i k : Nat} (hi : i < 15) (hk : k < 15) (hik : i ≠ k) (e : T k = t) : PS w0 w P cs (put (put T i t) k .no) G :=
  h.move hi hik (S := fun _ => False) (by have := h.fam.at' k hk; rw [e] at this; exact this) (Kept.refl _ _) (fun _ e => e.elim) (fun b hb => .inr (.inr ⟨hk, by rw [e]; exact hb⟩)) (fun _ hg => hg) (fun _ hg => .inl hg)
end
theorem copied {w0 w : World} {P N a jj : Nat} {F : Nat → List Int} {D : Nat → List Im} {fl : Bool} {T TB : Nat → Th} {G : Nat → Prop} {Q cf R cs : Nat} {pf ps : Option Addr} {vi vw : Value} {f : List Int} {d : List Im} (hs : Sh T F D fl N a) (ht : ∀ i, i < 7 → TB i = T i) (hp : PS w0 w P (((pcs T).setIfInBounds jj (.pointer (some ⟨Q, 0, none⟩))).setIfInBounds (jj + 2) (.pointer (some ⟨R, 0, none⟩))) (put (put TB 8 (.buf Q pf cf f vi (ims f d))) 9 (.ref R ps cs f vw d)) G) (hj : jj < 2) (_h0 : True) (hi : B.isS f = true) (hw : ImsWf d) (hl : d.length ≤ N) :
    St w0 w P (put F jj f) (put D jj d) fl (N + 1) (a + 2) := by
  have h1 := (hp.place (i := jj) (k := 8) (t := .buf Q pf cf f vi (ims f d)) (by omega) (by decide) (by omega) (by rw [put_other _ _ (by decide), put_same])).place (i := jj + 2) (k := 9) (t := .ref R ps cs f vw d) (by omega) (by decide) (by omega) (by rw [put_other _ _ (by decide), put_other _ _ (by omega), put_same])
  obtain ⟨T3, hT3⟩ : ∃ T3, T3 = put (put (put (put (put (put TB 8 (.buf Q pf cf f vi (ims f d))) 9 (.ref R ps cs f vw d)) jj (.buf Q pf cf f vi (ims f d))) 8 .no) (jj + 2) (.ref R ps cs f vw d)) 9 .no := ⟨_, rfl⟩
  rw [← hT3] at h1
  have e1 : T3 jj = .buf Q pf cf f vi (ims f d) := by rw [hT3, put_other _ _ (by omega), put_other _ _ (by omega), put_other _ _ (by omega), put_same]
  have e2 : T3 (jj + 2) = .ref R ps cs f vw d := by rw [hT3, put_other _ _ (by omega), put_same]
  have e3 : ∀ i, i < 7 → i ≠ jj → i ≠ jj + 2 → T3 i = T i := fun i hi n1 n2 => by rw [hT3, put_other _ _ (by omega), put_other _ _ n2, put_other _ _ (by omega), put_other _ _ n1, put_other _ _ (by omega), put_other _ _ (by omega)]; exact ht i hi
  refine St.mono (N := N) (a := a) ⟨T3, G, ?_, hs.both hj (Nat.le_refl _) e1 e2 e3 hi hw hl⟩ (by omega) (by omega)
  have hc : pcs T3 = ((pcs T).setIfInBounds jj (.pointer (some ⟨Q, 0, none⟩))).setIfInBounds (jj + 2) (.pointer (some ⟨R, 0, none⟩)) := by
    rcases (show jj = 0 ∨ jj = 1 by omega) with rfl | rfl
    · simp only [pcs, e1, e3 1 (by decide) (by decide) (by decide), show T3 2 = .ref R ps cs f vw d from e2, e3 3 (by decide) (by decide) (by decide), e3 4 (by decide) (by decide) (by decide), e3 5 (by decide) (by decide) (by decide), e3 6 (by decide) (by decide) (by decide)]
      rfl
    · simp only [pcs, e1, e3 0 (by decide) (by decide) (by decide), show T3 3 = .ref R ps cs f vw d from e2, e3 2 (by decide) (by decide) (by decide), e3 4 (by decide) (by decide) (by decide), e3 5 (by decide) (by decide) (by decide), e3 6 (by decide) (by decide) (by decide)]
      rfl
  rw [hc]
  exact h1
section
variable {w0 w : World} {P N a : Nat} {F : Nat → List Int} {D : Nat → List Im} {fl : Bool}
set_option maxHeartbeats 2000000 in
set_option maxRecDepth 100000 in
theorem plays_copy (h : St w0 w P F D fl N a) (hN : N ≤ 8000) (_ha : a ≤ 8000) (wh b : Int) (v : List Int) (_hv : Im.Wf ⟨b, v⟩) : Calls Try.prog 19 #[.pointer (some ⟨P, 0, none⟩), .agg (ocells 4 wh b v).toArray] w fun e w' => e = .returned (.bool true) ∧ ∃ F' D', St w0 w' P F' D' fl (N + 1) (a + 2) := by
  obtain ⟨w1, hw1⟩ : ∃ w1, w1 = w.alloc (.cells (ocells 4 wh b v).toArray 58) := ⟨_, rfl⟩
  have B1 : Below w.heap.size w w1 := by rw [hw1]; exact below_alloc w _
  have HO1 : Hid (LAt 58 w1 w.heap.size (ocells 4 wh b v)) := by rw [hw1]; exact LAt.new _ _ _
  have hw1' := hw1.symm
  have t2 := tmod2 wh
  have s2 := sl2_is wh
  have l2 := sl2_lt wh
  have k0 : w1.cell? ⟨w.heap.size, 0, none⟩ = some (.int .i64 4) := by rw [LAt.cell HO1.out]; rfl
  have k1 : w1.cell? ⟨w.heap.size, 1, none⟩ = some (.int .i64 wh) := by rw [LAt.cell HO1.out]; rfl
  obtain ⟨T, G, Q, pf, cf, vi, R, ps, cs, vw, hp, hs, eb, er, -, -, hC⟩ := h.two l2
  have HEB : Hid (T (sl2 wh) = .buf Q pf cf (F (sl2 wh)) vi (ims (F (sl2 wh)) (D (sl2 wh)))) := eb
  have HER : Hid (T (sl2 wh + 2) = .ref R ps cs (F (sl2 wh)) vw (D (sl2 wh))) := er
  have HSH : Hid (Sh T F D fl N a) := hs
  have HPB : Hid (PS w0 w1 P (pcs T) (put T 14 (.lat 58 w.heap.size (ocells 4 wh b v))) G) := hp.fresh B1 14 HO1.out (fun b hb => by rw [show b = w.heap.size from hb]; exact Nat.le_refl _)
  have HC : Hid (∀ W, Below w1.heap.size w1 W → W.cell? ⟨P, sl2 wh, none⟩ = some (.pointer (some ⟨Q, 0, none⟩)) ∧ W.cell? ⟨P, 2 + sl2 wh, none⟩ = some (.pointer (some ⟨R, 0, none⟩))) := fun W hW => hC W (below_then B1 hW)
  clear hw1 h B1 hp hs eb er hC
  go_enter Try.func19, Try.ntmps19
  go_wp2_with ((with_reducible refine at_ops ?_); (refine wpList_box_is (by rfl) 58 rfl _ rfl hw1' ?_); simp only [Act.put, List.setIfInBounds_toArray, List.set_cons_zero, List.set_cons_succ])
  rw [s2]
  clear hw1' k1 s2 t2
  generalize sl2 wh = j at *
  generalize w.heap.size = bo at *
  have j0 : (0 : Int) ≤ (j : Int) := by omega
  have j1 : (j : Int) < 2 := by omega
  refine wp_region_noPanic ?_
  refine wp_region_held_drew (S := fun W => Below w1.heap.size w1 W) (by kernel_rfl) (below_drawn 1) (fun hHeld => ?_)
  have HBD : Hid (Below w1.heap.size w1 w1.drew) := hHeld
  have k0 : w1.drew.cell? ⟨bo, 0, none⟩ = some (.int .i64 4) := by rw [LAt.cell (LAt.later HO1.out HBD.out)]; rfl
  have k2 : w1.drew.cell? ⟨bo, 2, none⟩ = some (.int .i64 b) := by rw [LAt.cell (LAt.later HO1.out HBD.out)]; rfl
  have HPD : Hid (PS w0 w1.drew P (pcs T) (put T 14 (.lat 58 bo (ocells 4 wh b v))) G) := HPB.out.later HBD.out
  have HSD : Hid (St w0 w1.drew P F D fl N a) := ⟨_, G, by rw [pcs_loose (T := T) (k := 14) (by decide)]; exact HPD.out, HSH.out.loose (by decide)⟩
  clear HPB
  generalize w1.drew = wD at *
  refine wpAnyH_take (i := 0) (v := ?va1) (by simp; rfl) (by kernel_rfl) (by kernel_rfl) (by kernel_rfl) (fun _ _ _ h => h) (Or.inl ⟨by rfl, ?ya1⟩) hHeld ?ra1
  case ya1 => intro w hSw; clear hSw; go_simp; with_reducible rfl
  simp only [Act.put, List.setIfInBounds_toArray, List.set_cons_zero, List.set_cons_succ]
  refine wpAnyH_take (i := 1) (v := ?va2) (by simp; rfl) (by kernel_rfl) (by kernel_rfl) (by kernel_rfl) (fun _ _ _ h => h) (Or.inl ⟨by rfl, ?ya2⟩) hHeld ?ra2
  case ya2 => intro w hSw; clear hSw; go_simp; with_reducible rfl
  simp only [Act.put, List.setIfInBounds_toArray, List.set_cons_zero, List.set_cons_succ]
  refine wpAnyH_take (i := 2) (v := ?va3) (by simp; rfl) (by kernel_rfl) (by kernel_rfl) (by kernel_rfl) (fun _ _ _ h => h) (Or.inl ⟨by rfl, ?ya3⟩) hHeld ?ra3
  case ya3 => intro w hSw; clear hSw; go_simp; with_reducible rfl
  simp only [Act.put, List.setIfInBounds_toArray, List.set_cons_zero, List.set_cons_succ]
  refine wpAnyH_take (i := 3) (v := ?va4) (by simp; rfl) (by kernel_rfl) (by kernel_rfl) (by kernel_rfl) (fun _ _ _ h => h) (Or.inl ⟨by rfl, ?ya4⟩) hHeld ?ra4
  case ya4 => intro w hSw; clear hSw; go_simp; with_reducible rfl
  simp only [Act.put, List.setIfInBounds_toArray, List.set_cons_zero, List.set_cons_succ]
  refine wpAnyH_take (i := 4) (v := ?va5) (by simp; rfl) (by kernel_rfl) (by kernel_rfl) (by kernel_rfl) (fun _ _ _ h => h) (Or.inl ⟨by rfl, ?ya5⟩) hHeld ?ra5
  case ya5 => intro w hSw; clear hSw; go_simp; with_reducible rfl
  simp only [Act.put, List.setIfInBounds_toArray, List.set_cons_zero, List.set_cons_succ]
  refine wpAnyH_take (i := 5) (v := ?va6) (by simp; rfl) (by kernel_rfl) (by kernel_rfl) (by kernel_rfl) (fun _ _ _ h => h) (Or.inl ⟨by rfl, ?ya6⟩) hHeld ?ra6
  case ya6 => intro w hSw; obtain ⟨z0, z2⟩ := HC.out w hSw; clear hSw; go_simp; with_reducible rfl
  simp only [Act.put, List.setIfInBounds_toArray, List.set_cons_zero, List.set_cons_succ]
  refine wpAnyH_take (i := 6) (v := ?va7) (by simp; rfl) (by kernel_rfl) (by kernel_rfl) (by kernel_rfl) (fun _ _ _ h => h) (Or.inl ⟨by rfl, ?ya7⟩) hHeld ?ra7
  case ya7 => intro w hSw; clear hSw; go_simp; with_reducible rfl
  simp only [Act.put, List.setIfInBounds_toArray, List.set_cons_zero, List.set_cons_succ]
  refine wpAnyH_take (i := 7) (v := ?va8) (by simp; rfl) (by kernel_rfl) (by kernel_rfl) (by kernel_rfl) (fun _ _ _ h => h) (Or.inl ⟨by rfl, ?ya8⟩) hHeld ?ra8
  case ya8 => intro w hSw; clear hSw; go_simp; with_reducible rfl
  simp only [Act.put, List.setIfInBounds_toArray, List.set_cons_zero, List.set_cons_succ]
  refine wpAnyH_take (i := 8) (v := ?va9) (by simp; rfl) (by kernel_rfl) (by kernel_rfl) (by kernel_rfl) (fun _ _ _ h => h) (Or.inl ⟨by rfl, ?ya9⟩) hHeld ?ra9
  case ya9 => intro w hSw; clear hSw; go_simp; with_reducible rfl
  simp only [Act.put, List.setIfInBounds_toArray, List.set_cons_zero, List.set_cons_succ]
  refine wpAnyH_take (i := 9) (v := ?va10) (by simp; rfl) (by kernel_rfl) (by kernel_rfl) (by kernel_rfl) (fun _ _ _ h => h) (Or.inl ⟨by rfl, ?ya10⟩) hHeld ?ra10
  case ya10 => intro w hSw; clear hSw; go_simp; with_reducible rfl
  simp only [Act.put, List.setIfInBounds_toArray, List.set_cons_zero, List.set_cons_succ]
  refine wpAnyH_take (i := 10) (v := ?va11) (by simp; rfl) (by kernel_rfl) (by kernel_rfl) (by kernel_rfl) (fun _ _ _ h => h) (Or.inl ⟨by rfl, ?ya11⟩) hHeld ?ra11
  case ya11 => intro w hSw; clear hSw; go_simp; with_reducible rfl
  simp only [Act.put, List.setIfInBounds_toArray, List.set_cons_zero, List.set_cons_succ]
  refine wpAnyH_take (i := 11) (v := ?va12) (by simp; rfl) (by kernel_rfl) (by kernel_rfl) (by kernel_rfl) (fun _ _ _ h => h) (Or.inl ⟨by rfl, ?ya12⟩) hHeld ?ra12
  case ya12 => intro w hSw; obtain ⟨z0, z2⟩ := HC.out w hSw; clear hSw; go_simp; with_reducible rfl
  simp only [Act.put, List.setIfInBounds_toArray, List.set_cons_zero, List.set_cons_succ]
  refine wpAnyH_take (i := 12) (v := ?va13) (by simp; rfl) (by kernel_rfl) (by kernel_rfl) (by kernel_rfl) (fun _ _ _ h => h) (Or.inl ⟨by rfl, ?ya13⟩) hHeld ?ra13
  case ya13 => intro w hSw; clear hSw; go_simp; with_reducible rfl
  simp only [Act.put, List.setIfInBounds_toArray, List.set_cons_zero, List.set_cons_succ]
  refine wpAnyH_take (i := 13) (v := ?va14) (by simp; rfl) (by kernel_rfl) (by kernel_rfl) (by kernel_rfl) (fun _ _ _ h => h) (Or.inl ⟨by rfl, ?ya14⟩) hHeld ?ra14
  case ya14 => intro w hSw; clear hSw; go_simp; with_reducible rfl
  simp only [Act.put, List.setIfInBounds_toArray, List.set_cons_zero, List.set_cons_succ]
  refine wpAnyH_done (by kernel_rfl) (NoPanic.normal ?_) _
  clear hHeld
  clear HSD
  have hbD : Below wD.heap.size wD wD.drew := below_drawn 1
  obtain ⟨TB, hTB⟩ : ∃ TB, TB = put T 14 (.lat 58 bo (ocells 4 wh b v)) := ⟨_, rfl⟩
  rw [← hTB] at HPD
  have hpd := HPD.out.later hbD
  clear HPD
  have HPD : Hid (PS w0 wD.drew P (pcs T) TB G) := hpd
  have hTi : ∀ i, i < 7 → TB i = T i := fun i hi => by rw [hTB, put_other _ _ (by omega)]
  have ebB : Hid (TB j = .buf Q pf cf (F j) vi (ims (F j) (D j))) := by show _ = _; rw [hTi j (by omega)]; exact HEB.out
  have erB : Hid (TB (j + 2) = .ref R ps cs (F j) vw (D j)) := by show _ = _; rw [hTi (j + 2) (by omega)]; exact HER.out
  have HTI : Hid (∀ i, i < 7 → TB i = T i) := hTi
  have HGB : Hid (∀ a, pf = some a → G a.block) := (hpd.buf (by omega) ebB.out).2
  have HA : Hid (BAt wD.drew Q pf cf (F j) vi (ims (F j) (D j))) := (hpd.buf (by omega) ebB.out).1
  have HR : Hid (RAt wD.drew R ps cs (F j) vw (D j)) := (hpd.ref (by omega) erB.out).1
  have HK : Hid (Okb (F j) (ims (F j) (D j))) := HSH.out.okb l2
  have HIS : Hid (B.isS (F j) = true) := HSH.out.is j l2
  have HWF : Hid (ImsWf (D j) ∧ (D j).length ≤ 9000) := ⟨(HSH.out.wf j l2).1, by have := (HSH.out.wf j l2).2; omega⟩
  have HDL : Hid ((D j).length ≤ N) := (HSH.out.wf j l2).2
  clear hpd hTB hTi hbD HO1 HBD HC k2 ebB erB HEB HER
  generalize hF : F j = Fj at *
  generalize hD : D j = Dj at *
  go_wp2_with fail
  clear k0
  refine wp_region_noPanic ?_
  refine wp_region_held_drew (S := fun _ => True) (by kernel_rfl) trivial (fun hHeld => ?_)
  generalize wD.drew = xD at *
  rcases (show j = 0 ∨ j = 1 by omega) with rfl | rfl
  · skip
    refine wpAnyH_take (i := 0) (v := ?va15) (by simp; rfl) (by kernel_rfl) (by kernel_rfl) (by kernel_rfl) (fun _ _ _ h => h) (Or.inl ⟨by rfl, ?ya15⟩) hHeld ?ra15
    case ya15 => intro w hSw; clear hSw; go_simp; with_reducible rfl
    simp only [Act.put, List.setIfInBounds_toArray, List.set_cons_zero, List.set_cons_succ]
    refine wpAnyH_take (i := 1) (v := ?va16) (by simp; rfl) (by kernel_rfl) (by kernel_rfl) (by kernel_rfl) (fun _ _ _ h => h) (Or.inl ⟨by rfl, ?ya16⟩) hHeld ?ra16
    case ya16 => intro w hSw; clear hSw; go_simp; with_reducible rfl
    simp only [Act.put, List.setIfInBounds_toArray, List.set_cons_zero, List.set_cons_succ]
    refine wpAnyH_take (i := 2) (v := .int .i64 1) (by simp; rfl) (by kernel_rfl) (by kernel_rfl) (by kernel_rfl) (fun _ _ _ h => h) (Or.inl ⟨by rfl, ?ya17⟩) hHeld ?ra17
    case ya17 => intro w hSw; clear hSw; go_simp; rfl
    simp only [Act.put, List.setIfInBounds_toArray, List.set_cons_zero, List.set_cons_succ]
    refine wpAnyH_take (i := 3) (v := ?va18) (by simp; rfl) (by kernel_rfl) (by kernel_rfl) (by kernel_rfl) (fun _ _ _ h => h) (Or.inl ⟨by rfl, ?ya18⟩) hHeld ?ra18
    case ya18 => intro w hSw; clear hSw; go_simp; with_reducible rfl
    simp only [Act.put, List.setIfInBounds_toArray, List.set_cons_zero, List.set_cons_succ]
    refine wpAnyH_take (i := 4) (v := ?va19) (by simp; rfl) (by kernel_rfl) (by kernel_rfl) (by kernel_rfl) (fun _ _ _ h => h) (Or.inl ⟨by rfl, ?ya19⟩) hHeld ?ra19
    case ya19 => intro w hSw; clear hSw; go_simp; with_reducible rfl
    simp only [Act.put, List.setIfInBounds_toArray, List.set_cons_zero, List.set_cons_succ]
    refine wpAnyH_take (i := 5) (v := .int .i64 1) (by simp; rfl) (by kernel_rfl) (by kernel_rfl) (by kernel_rfl) (fun _ _ _ h => h) (Or.inl ⟨by rfl, ?ya20⟩) hHeld ?ra20
    case ya20 => intro w hSw; clear hSw; go_simp; rfl
    simp only [Act.put, List.setIfInBounds_toArray, List.set_cons_zero, List.set_cons_succ]
    refine wpAnyH_take (i := 6) (v := ?va21) (by simp; rfl) (by kernel_rfl) (by kernel_rfl) (by kernel_rfl) (fun _ _ _ h => h) (Or.inl ⟨by rfl, ?ya21⟩) hHeld ?ra21
    case ya21 => intro w hSw; clear hSw; go_simp; with_reducible rfl
    simp only [Act.put, List.setIfInBounds_toArray, List.set_cons_zero, List.set_cons_succ]
    refine wpAnyH_take (i := 8) (v := ?va22) (by simp; rfl) (by kernel_rfl) (by kernel_rfl) (by kernel_rfl) (fun _ _ _ h => h) (Or.inl ⟨by rfl, ?ya22⟩) hHeld ?ra22
    case ya22 => intro w hSw; clear hSw; go_simp; with_reducible rfl
    simp only [Act.put, List.setIfInBounds_toArray, List.set_cons_zero, List.set_cons_succ]
    refine wpAnyH_take (i := 10) (v := ?va23) (by simp; rfl) (by kernel_rfl) (by kernel_rfl) (by kernel_rfl) (fun _ _ _ h => h) (Or.inl ⟨by rfl, ?ya23⟩) hHeld ?ra23
    case ya23 => intro w hSw; clear hSw; go_simp; with_reducible rfl
    simp only [Act.put, List.setIfInBounds_toArray, List.set_cons_zero, List.set_cons_succ]
    refine wpAnyH_take (i := 11) (v := ?va24) (by simp; rfl) (by kernel_rfl) (by kernel_rfl) (by kernel_rfl) (fun _ _ _ h => h) (Or.inl ⟨by rfl, ?ya24⟩) hHeld ?ra24
    case ya24 => intro w hSw; clear hSw; go_simp; with_reducible rfl
    simp only [Act.put, List.setIfInBounds_toArray, List.set_cons_zero, List.set_cons_succ]
    refine wpAnyH_take (i := 14) (v := ?va25) (by simp; rfl) (by kernel_rfl) (by kernel_rfl) (by kernel_rfl) (fun _ _ _ h => h) (Or.inl ⟨by rfl, ?ya25⟩) hHeld ?ra25
    case ya25 => intro w hSw; clear hSw; go_simp; with_reducible rfl
    simp only [Act.put, List.setIfInBounds_toArray, List.set_cons_zero, List.set_cons_succ]
    refine wpAnyH_take (i := 15) (v := ?va26) (by simp; rfl) (by kernel_rfl) (by kernel_rfl) (by kernel_rfl) (fun _ _ _ h => h) (Or.inl ⟨by rfl, ?ya26⟩) hHeld ?ra26
    case ya26 => intro w hSw; clear hSw; go_simp; with_reducible rfl
    simp only [Act.put, List.setIfInBounds_toArray, List.set_cons_zero, List.set_cons_succ]
    refine wpAnyH_ready (rs := [7]) (by kernel_rfl) (by simp) ?_
    refine AllReadyH.cons (by simp; rfl) (fun Kc hKc => ?_) AllReadyH.nil
    go_simp
    refine (copy_at HA.out HK.out).mono ?_
    rintro e w4 ⟨Q4, v4, rfl, hN4⟩
    obtain ⟨G4, hp4, -⟩ := HPD.out.newB hN4 (fun a ha => .inl (HGB.out a ha)) 8
    have HP4 : Hid (PS w0 w4 P (pcs T) (put TB 8 (.buf Q4 pf cf Fj v4 (ims Fj Dj))) G4) := hp4
    have HR4 : Hid (RAt w4 R ps cs Fj vw Dj) := HR.out.later hN4.below
    refine hKc.out _ _ trivial (fun hHeld => ?_)
    clear hKc Kc hN4 hp4

    refine wpAnyH_ready (rs := [9]) (by kernel_rfl) (by simp) ?_
    refine AllReadyH.cons (by simp; rfl) (fun Kc hKc => ?_) AllReadyH.nil
    go_simp
    refine (rcopy_at HR4.out HIS.out HWF.out.1 HWF.out.2).mono ?_
    rintro e w5 ⟨R5, p5, c5, v5, rfl, hN5⟩
    obtain ⟨G5, hp5, -⟩ := HP4.out.newR hN5 9
    have HP5 : Hid (PS w0 w5 P (pcs T) (put (put TB 8 (.buf Q4 pf cf Fj v4 (ims Fj Dj))) 9 (.ref R5 p5 c5 Fj v5 Dj)) G5) := hp5
    refine hKc.out _ _ trivial (fun hHeld => ?_)
    clear hKc Kc hN5 hp5 HP4

    refine wpAnyH_take (i := 12) (v := ?va27) (by simp; rfl) (by kernel_rfl) (by kernel_rfl) (by kernel_rfl) (fun _ _ _ h => h) (Or.inl ⟨by rfl, ?ya27⟩) hHeld ?ra27
    case ya27 => intro w hSw; clear hSw; go_simp; with_reducible rfl
    simp only [Act.put, List.setIfInBounds_toArray, List.set_cons_zero, List.set_cons_succ]
    refine wpAnyH_ready (rs := [13]) (by kernel_rfl) (by simp) ?_
    refine AllReadyH.cons (by simp; rfl) (fun Kc hKc => ?_) AllReadyH.nil
    have hcv : w5.cell? ⟨P, 1, none⟩ = some (T 1).val := HP5.out.cell (pcs_get (by decide))
    have hfv := HP5.out.free 1
    go_simp
    have HP6 : Hid (PS w0 (w5.setCell ⟨P, 1, none⟩ (.pointer (some ⟨Q4, 0, none⟩))) P ((pcs T).setIfInBounds 1 (.pointer (some ⟨Q4, 0, none⟩))) (put (put TB 8 (.buf Q4 pf cf Fj v4 (ims Fj Dj))) 9 (.ref R5 p5 c5 Fj v5 Dj)) G5) := HP5.out.store 1 _
    refine hKc.out _ _ trivial (fun hHeld => ?_)
    clear hKc Kc hcv hfv HP5
    generalize w5.setCell ⟨P, 1, none⟩ (.pointer (some ⟨Q4, 0, none⟩)) = w6 at *

    refine wpAnyH_take (i := 16) (v := ?va28) (by simp; rfl) (by kernel_rfl) (by kernel_rfl) (by kernel_rfl) (fun _ _ _ h => h) (Or.inl ⟨by rfl, ?ya28⟩) hHeld ?ra28
    case ya28 => intro w hSw; clear hSw; go_simp; with_reducible rfl
    simp only [Act.put, List.setIfInBounds_toArray, List.set_cons_zero, List.set_cons_succ]
    refine wpAnyH_ready (rs := [17]) (by kernel_rfl) (by simp) ?_
    refine AllReadyH.cons (by simp; rfl) (fun Kc hKc => ?_) AllReadyH.nil
    have hcv : w6.cell? ⟨P, 3, none⟩ = some (T 3).val := HP6.out.cell rfl
    have hfv := HP6.out.free 3
    go_simp
    have HP7 : Hid (PS w0 (w6.setCell ⟨P, 3, none⟩ (.pointer (some ⟨R5, 0, none⟩))) P (((pcs T).setIfInBounds 1 (.pointer (some ⟨Q4, 0, none⟩))).setIfInBounds 3 (.pointer (some ⟨R5, 0, none⟩))) (put (put TB 8 (.buf Q4 pf cf Fj v4 (ims Fj Dj))) 9 (.ref R5 p5 c5 Fj v5 Dj)) G5) := HP6.out.store 3 _
    refine hKc.out _ _ trivial (fun hHeld => ?_)
    clear hKc Kc hcv hfv HP6
    generalize w6.setCell ⟨P, 3, none⟩ (.pointer (some ⟨R5, 0, none⟩)) = w7 at *

    refine wpAnyH_done (by kernel_rfl) (NoPanic.normal ?_) _
    have hc7 : w7.cell? ⟨P, 1, none⟩ = some (.pointer (some ⟨Q4, 0, none⟩)) := HP7.out.cell rfl
    go_wp2_with fail
    go_ret
    exact ⟨rfl, _, _, copied HSH.out HTI.out HP7.out (show 1 < 2 by decide) (by decide) HIS.out HWF.out.1 HDL.out⟩
  · skip
    refine wpAnyH_take (i := 0) (v := ?va29) (by simp; rfl) (by kernel_rfl) (by kernel_rfl) (by kernel_rfl) (fun _ _ _ h => h) (Or.inl ⟨by rfl, ?ya29⟩) hHeld ?ra29
    case ya29 => intro w hSw; clear hSw; go_simp; with_reducible rfl
    simp only [Act.put, List.setIfInBounds_toArray, List.set_cons_zero, List.set_cons_succ]
    refine wpAnyH_take (i := 1) (v := ?va30) (by simp; rfl) (by kernel_rfl) (by kernel_rfl) (by kernel_rfl) (fun _ _ _ h => h) (Or.inl ⟨by rfl, ?ya30⟩) hHeld ?ra30
    case ya30 => intro w hSw; clear hSw; go_simp; with_reducible rfl
    simp only [Act.put, List.setIfInBounds_toArray, List.set_cons_zero, List.set_cons_succ]
    refine wpAnyH_take (i := 2) (v := .int .i64 0) (by simp; rfl) (by kernel_rfl) (by kernel_rfl) (by kernel_rfl) (fun _ _ _ h => h) (Or.inl ⟨by rfl, ?ya31⟩) hHeld ?ra31
    case ya31 => intro w hSw; clear hSw; go_simp; rfl
    simp only [Act.put, List.setIfInBounds_toArray, List.set_cons_zero, List.set_cons_succ]
    refine wpAnyH_take (i := 3) (v := ?va32) (by simp; rfl) (by kernel_rfl) (by kernel_rfl) (by kernel_rfl) (fun _ _ _ h => h) (Or.inl ⟨by rfl, ?ya32⟩) hHeld ?ra32
    case ya32 => intro w hSw; clear hSw; go_simp; with_reducible rfl
    simp only [Act.put, List.setIfInBounds_toArray, List.set_cons_zero, List.set_cons_succ]
    refine wpAnyH_take (i := 4) (v := ?va33) (by simp; rfl) (by kernel_rfl) (by kernel_rfl) (by kernel_rfl) (fun _ _ _ h => h) (Or.inl ⟨by rfl, ?ya33⟩) hHeld ?ra33
    case ya33 => intro w hSw; clear hSw; go_simp; with_reducible rfl
    simp only [Act.put, List.setIfInBounds_toArray, List.set_cons_zero, List.set_cons_succ]
    refine wpAnyH_take (i := 5) (v := .int .i64 0) (by simp; rfl) (by kernel_rfl) (by kernel_rfl) (by kernel_rfl) (fun _ _ _ h => h) (Or.inl ⟨by rfl, ?ya34⟩) hHeld ?ra34
    case ya34 => intro w hSw; clear hSw; go_simp; rfl
    simp only [Act.put, List.setIfInBounds_toArray, List.set_cons_zero, List.set_cons_succ]
    refine wpAnyH_take (i := 6) (v := ?va35) (by simp; rfl) (by kernel_rfl) (by kernel_rfl) (by kernel_rfl) (fun _ _ _ h => h) (Or.inl ⟨by rfl, ?ya35⟩) hHeld ?ra35
    case ya35 => intro w hSw; clear hSw; go_simp; with_reducible rfl
    simp only [Act.put, List.setIfInBounds_toArray, List.set_cons_zero, List.set_cons_succ]
    refine wpAnyH_take (i := 8) (v := ?va36) (by simp; rfl) (by kernel_rfl) (by kernel_rfl) (by kernel_rfl) (fun _ _ _ h => h) (Or.inl ⟨by rfl, ?ya36⟩) hHeld ?ra36
    case ya36 => intro w hSw; clear hSw; go_simp; with_reducible rfl
    simp only [Act.put, List.setIfInBounds_toArray, List.set_cons_zero, List.set_cons_succ]
    refine wpAnyH_take (i := 10) (v := ?va37) (by simp; rfl) (by kernel_rfl) (by kernel_rfl) (by kernel_rfl) (fun _ _ _ h => h) (Or.inl ⟨by rfl, ?ya37⟩) hHeld ?ra37
    case ya37 => intro w hSw; clear hSw; go_simp; with_reducible rfl
    simp only [Act.put, List.setIfInBounds_toArray, List.set_cons_zero, List.set_cons_succ]
    refine wpAnyH_take (i := 11) (v := ?va38) (by simp; rfl) (by kernel_rfl) (by kernel_rfl) (by kernel_rfl) (fun _ _ _ h => h) (Or.inl ⟨by rfl, ?ya38⟩) hHeld ?ra38
    case ya38 => intro w hSw; clear hSw; go_simp; with_reducible rfl
    simp only [Act.put, List.setIfInBounds_toArray, List.set_cons_zero, List.set_cons_succ]
    refine wpAnyH_take (i := 14) (v := ?va39) (by simp; rfl) (by kernel_rfl) (by kernel_rfl) (by kernel_rfl) (fun _ _ _ h => h) (Or.inl ⟨by rfl, ?ya39⟩) hHeld ?ra39
    case ya39 => intro w hSw; clear hSw; go_simp; with_reducible rfl
    simp only [Act.put, List.setIfInBounds_toArray, List.set_cons_zero, List.set_cons_succ]
    refine wpAnyH_take (i := 15) (v := ?va40) (by simp; rfl) (by kernel_rfl) (by kernel_rfl) (by kernel_rfl) (fun _ _ _ h => h) (Or.inl ⟨by rfl, ?ya40⟩) hHeld ?ra40
    case ya40 => intro w hSw; clear hSw; go_simp; with_reducible rfl
    simp only [Act.put, List.setIfInBounds_toArray, List.set_cons_zero, List.set_cons_succ]
    refine wpAnyH_ready (rs := [7]) (by kernel_rfl) (by simp) ?_
    refine AllReadyH.cons (by simp; rfl) (fun Kc hKc => ?_) AllReadyH.nil
    go_simp
    refine (copy_at HA.out HK.out).mono ?_
    rintro e w4 ⟨Q4, v4, rfl, hN4⟩
    obtain ⟨G4, hp4, -⟩ := HPD.out.newB hN4 (fun a ha => .inl (HGB.out a ha)) 8
    have HP4 : Hid (PS w0 w4 P (pcs T) (put TB 8 (.buf Q4 pf cf Fj v4 (ims Fj Dj))) G4) := hp4
    have HR4 : Hid (RAt w4 R ps cs Fj vw Dj) := HR.out.later hN4.below
    refine hKc.out _ _ trivial (fun hHeld => ?_)
    clear hKc Kc hN4 hp4

    refine wpAnyH_ready (rs := [9]) (by kernel_rfl) (by simp) ?_
    refine AllReadyH.cons (by simp; rfl) (fun Kc hKc => ?_) AllReadyH.nil
    go_simp
    refine (rcopy_at HR4.out HIS.out HWF.out.1 HWF.out.2).mono ?_
    rintro e w5 ⟨R5, p5, c5, v5, rfl, hN5⟩
    obtain ⟨G5, hp5, -⟩ := HP4.out.newR hN5 9
    have HP5 : Hid (PS w0 w5 P (pcs T) (put (put TB 8 (.buf Q4 pf cf Fj v4 (ims Fj Dj))) 9 (.ref R5 p5 c5 Fj v5 Dj)) G5) := hp5
    refine hKc.out _ _ trivial (fun hHeld => ?_)
    clear hKc Kc hN5 hp5 HP4

    refine wpAnyH_take (i := 12) (v := ?va41) (by simp; rfl) (by kernel_rfl) (by kernel_rfl) (by kernel_rfl) (fun _ _ _ h => h) (Or.inl ⟨by rfl, ?ya41⟩) hHeld ?ra41
    case ya41 => intro w hSw; clear hSw; go_simp; with_reducible rfl
    simp only [Act.put, List.setIfInBounds_toArray, List.set_cons_zero, List.set_cons_succ]
    refine wpAnyH_ready (rs := [13]) (by kernel_rfl) (by simp) ?_
    refine AllReadyH.cons (by simp; rfl) (fun Kc hKc => ?_) AllReadyH.nil
    have hcv : w5.cell? ⟨P, 0, none⟩ = some (T 0).val := HP5.out.cell (pcs_get (by decide))
    have hfv := HP5.out.free 0
    go_simp
    have HP6 : Hid (PS w0 (w5.setCell ⟨P, 0, none⟩ (.pointer (some ⟨Q4, 0, none⟩))) P ((pcs T).setIfInBounds 0 (.pointer (some ⟨Q4, 0, none⟩))) (put (put TB 8 (.buf Q4 pf cf Fj v4 (ims Fj Dj))) 9 (.ref R5 p5 c5 Fj v5 Dj)) G5) := HP5.out.store 0 _
    refine hKc.out _ _ trivial (fun hHeld => ?_)
    clear hKc Kc hcv hfv HP5
    generalize w5.setCell ⟨P, 0, none⟩ (.pointer (some ⟨Q4, 0, none⟩)) = w6 at *

    refine wpAnyH_take (i := 16) (v := ?va42) (by simp; rfl) (by kernel_rfl) (by kernel_rfl) (by kernel_rfl) (fun _ _ _ h => h) (Or.inl ⟨by rfl, ?ya42⟩) hHeld ?ra42
    case ya42 => intro w hSw; clear hSw; go_simp; with_reducible rfl
    simp only [Act.put, List.setIfInBounds_toArray, List.set_cons_zero, List.set_cons_succ]
    refine wpAnyH_ready (rs := [17]) (by kernel_rfl) (by simp) ?_
    refine AllReadyH.cons (by simp; rfl) (fun Kc hKc => ?_) AllReadyH.nil
    have hcv : w6.cell? ⟨P, 2, none⟩ = some (T 2).val := HP6.out.cell rfl
    have hfv := HP6.out.free 2
    go_simp
    have HP7 : Hid (PS w0 (w6.setCell ⟨P, 2, none⟩ (.pointer (some ⟨R5, 0, none⟩))) P (((pcs T).setIfInBounds 0 (.pointer (some ⟨Q4, 0, none⟩))).setIfInBounds 2 (.pointer (some ⟨R5, 0, none⟩))) (put (put TB 8 (.buf Q4 pf cf Fj v4 (ims Fj Dj))) 9 (.ref R5 p5 c5 Fj v5 Dj)) G5) := HP6.out.store 2 _
    refine hKc.out _ _ trivial (fun hHeld => ?_)
    clear hKc Kc hcv hfv HP6
    generalize w6.setCell ⟨P, 2, none⟩ (.pointer (some ⟨R5, 0, none⟩)) = w7 at *

    refine wpAnyH_done (by kernel_rfl) (NoPanic.normal ?_) _
    have hc7 : w7.cell? ⟨P, 0, none⟩ = some (.pointer (some ⟨Q4, 0, none⟩)) := HP7.out.cell rfl
    go_wp2_with fail
    go_ret
    exact ⟨rfl, _, _, copied HSH.out HTI.out HP7.out (show 0 < 2 by decide) (by decide) HIS.out HWF.out.1 HDL.out⟩

end
end W
end Go.Proofs.Ythgkdpniaednaaa
