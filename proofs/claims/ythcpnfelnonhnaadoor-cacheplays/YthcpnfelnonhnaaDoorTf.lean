/-
  Layer 17: a step: Drop.
-/
import Derived.Test.YthcpnfelnonhnaaDoorTe
namespace Go.Proofs.YthcpnfelnonhnaaDoor
open Go.RowKit

namespace W
/-- a block as it lies -/
def Th.blk (B : Nat) (cs : Array Value) (t : TypeId) : Th := ⟨fun w _ => w.heap[B]? = some (.cells cs t (0, 0)), fun b => b = B, undef, fun _ _ _ h hb => by rw [hb]; exact (Array.getElem?_eq_some_iff.1 h).1, fun _ _ _ _ _ h hk hf _ _ => (hk.block B (Array.getElem?_eq_some_iff.1 h).1 (hf B rfl)).trans h⟩
section
variable {w0 w w' : World} {P : Nat} {cs : Array Value} {T : Nat → Th} {G : Nat → Prop}
theorem PS.wrt {j Q : Nat} {n nx nx' : Int} {v v' : Value} {L L' : List En} (h : PS w0 w P cs T G) (hj : j < 15) (e : T j = .cac Q n v L nx) (hw : Wrt w w' Q n v v' L' nx') : PS w0 w' P cs (put T j (.cac Q n v' L' nx')) G :=
  h.turn hj (t := .cac Q n v' L' nx') (G' := G) (S := fun k => k = Q ∨ v.ownBlock = some k) hw.at' hw.kept (fun b hb => by rw [e]; exact hb) (fun b hb => by
    rw [e]
    rcases hb with hb | hb
    · exact .inl (.inl hb)
    · exact (hw.new b hb).elim (fun h => .inl (.inr h)) .inr) (fun _ hg => hg) (fun _ hg => .inl hg)
theorem PS.rwrt {j R : Nat} {n p p' : Int} {v v' : Value} {L L' : List En} {s s' : Bool} (h : PS w0 w P cs T G) (hj : j < 15) (e : T j = .ref R n v L s p) (hw : RWrt w w' R n v v' L' s' p') : PS w0 w' P cs (put T j (.ref R n v' L' s' p')) G :=
  h.turn hj (t := .ref R n v' L' s' p') (G' := G) (S := fun k => k = R ∨ v.ownBlock = some k) hw.at' hw.kept (fun b hb => by rw [e]; exact hb) (fun b hb => by
    rw [e]
    rcases hb with hb | hb
    · exact .inl (.inl hb)
    · exact (hw.new b hb).elim (fun h => .inl (.inr h)) .inr) (fun _ hg => hg) (fun _ hg => .inl hg)
theorem qp_inj {a b : Nat} (h : qp a = qp b) : a = b := by
  simp only [qp, Value.pointer.injEq, Option.some.injEq, Addr.mk.injEq] at h
  exact h.1
/-- a step has turned one cache on both sides -/
theorem St.turned {P a j Q R : Nat} {n : Int} {L : Nat → List En} {s : Nat → Bool} {p g : Nat → Int} {T T' : Nat → Th} {v0 v1 vr0 vr1 : Value} {L1 : List En} {s1 : Bool} {p1 : Int} (h : PS w0 w P (pcs T g) T' G) (hs : Sh T n L s p g a) (hj : j < 2) (e : T j = .cac Q n v0 (L j) (nxR (s j) (p j))) (er : T (j + 2) = .ref R n vr0 (L j) (s j) (p j))
    (hok : Okc n L1 (nxR s1 p1) ∧ (0 ≤ p1 ∧ p1 ≤ 4611686018427387904) ∧ (s1 = false → p1 = 0)) (e1 : T' j = .cac Q n v1 L1 (nxR s1 p1)) (er1 : T' (j + 2) = .ref R n vr1 L1 s1 p1) (ho : ∀ i, i < 9 → i ≠ j → i ≠ j + 2 → T' i = T i) : St w0 w P n a := by
  obtain ⟨v4, us4, v5, us5, ls, e4, e5, hl⟩ := hs.ls
  obtain ⟨Q', v, v6, v7, v8, bs, os, rs, hc, e6, e7, e8, h1, h2, h3, h4⟩ := hs.cs
  have hQ : Q' j = Q := by
    have := hc j hj
    rw [e] at this
    exact (qp_inj (congrArg Th.val this)).symm
  have hval : ∀ i, i < 9 → (T' i).val = (T i).val := fun i hi => by
    by_cases h1 : i = j
    · subst h1; rw [e, e1]; rfl
    · by_cases h2 : i = j + 2
      · subst h2; rw [er, er1]; rfl
      · rw [ho i hi h1 h2]
  refine ⟨T', G, put L j L1, put s j s1, put p j p1, g, ?_, ⟨fun i hi => ?_, hs.gen, fun i hi => ?_, ⟨v4, us4, v5, us5, ls, by rw [ho 4 (by decide) (by omega) (by omega)]; exact e4, by rw [ho 5 (by decide) (by omega) (by omega)]; exact e5, hl⟩, ⟨Q', put v j v1, v6, v7, v8, bs, os, rs, fun i hi => ?_, by rw [ho 6 (by decide) (by omega) (by omega)]; exact e6, by rw [ho 7 (by decide) (by omega) (by omega)]; exact e7, by rw [ho 8 (by decide) (by omega) (by omega)]; exact e8, h1, h2, h3, h4⟩⟩⟩
  · have : pcs T' g = pcs T g := by simp only [pcs, hval 0 (by decide), hval 1 (by decide), hval 2 (by decide), hval 3 (by decide), hval 4 (by decide), hval 5 (by decide), hval 6 (by decide), hval 7 (by decide), hval 8 (by decide)]
    rw [this]; exact h
  · by_cases hi' : i = j
    · subst hi'; simp only [put_same]; exact hok
    · simp only [put_other _ _ hi']; exact hs.ok i hi
  · by_cases hi' : i = j
    · subst hi'; simp only [put_same]; exact ⟨R, vr1, er1⟩
    · simp only [put_other _ _ hi']; rw [ho (i + 2) (by omega) (by omega) (by omega)]; exact hs.ref i hi
  · by_cases hi' : i = j
    · subst hi'; simp only [put_same]; rw [hQ]; exact e1
    · simp only [put_other _ _ hi']; rw [ho i (by omega) hi' (by omega)]; exact hc i hi
end
section
variable {w0 w : World} {P a : Nat} {n : Int}
set_option maxHeartbeats 2000000 in
set_option maxRecDepth 100000 in
theorem plays_drop (h : St w0 w P n a) (hT : Tab w0) (_ha : a ≤ 8000) (wh bk : Int) {ps : Int} (_hps : 0 ≤ ps ∧ ps < 18446744073709551616) {pi pl : Option Addr} {mi ci ml cl : Nat} {l : List Im} {E : List En} (_hI : MIn w0 pi mi l) (_hmi : mi * 40 ≤ 140737488351232) (hE : EIn w0 pl ml E) (hml : ml * 48 ≤ 140737488351232) :
    Calls Tryd.prog 9 #[.pointer (some ⟨P, 0, none⟩), .agg #[.int .i64 4, .int .i64 wh, .int .i64 bk, .int .u64 ps, .slice pi mi ci, .slice pl ml cl]] w fun e w' => e = .returned (.bool true) ∧ St w0 w' P n (a + 1) := by
  obtain ⟨w1, hw1⟩ : ∃ w1, w.alloc (.cells #[.int .i64 4, .int .i64 wh, .int .i64 bk, .int .u64 ps, .slice pi mi ci, .slice pl ml cl] 48) = w1 := ⟨_, rfl⟩
  obtain ⟨bo, hbo⟩ : ∃ bo, w.heap.size = bo := ⟨_, rfl⟩
  have B1 : Below w.heap.size w w1 := by rw [← hw1]; exact below_alloc w _
  have HO1 : Hid (w1.heap[bo]? = some (.cells #[.int .i64 4, .int .i64 wh, .int .i64 bk, .int .u64 ps, .slice pi mi ci, .slice pl ml cl] 48 (0, 0))) := by rw [← hw1, ← hbo]; exact heap_alloc_new w _
  have t2 := tmod2 wh
  have s2 := sl2_is wh
  have l2 := sl2_lt wh
  obtain ⟨T, G, L, s, p, g, hP, hs⟩ := h
  obtain ⟨R, vr, er⟩ := hs.ref (sl2 wh) l2
  obtain ⟨Q, v, v6, v7, v8, bs, os, rs, hc, e6, e7, e8, hos, hrs, hbs, hks⟩ := hs.cs
  have ec := hc (sl2 wh) l2
  have HEC : Hid (T (sl2 wh) = .cac (Q (sl2 wh)) n (v (sl2 wh)) (L (sl2 wh)) (nxR (s (sl2 wh)) (p (sl2 wh)))) := ec
  have HER : Hid (T (sl2 wh + 2) = .ref R n vr (L (sl2 wh)) (s (sl2 wh)) (p (sl2 wh))) := er
  have HSH : Hid (Sh T n L s p g a) := hs
  have HP1 : Hid (PS w0 w1 P (pcs T g) T G) := hP.later B1
  have HOB : Hid (w0.heap.size ≤ bo ∧ ¬ G bo ∧ bo ≠ P ∧ ∀ i, i < 15 → i ≠ 14 → ¬ (T i).foot bo) := ⟨by rw [← hbo]; exact hP.below.size, fun hg => by have := hP.fam.glt bo hg; omega, fun e => by have := hP.plt; omega, fun i hi _ hf => by have := Th.lt (hP.fam.at' i hi) hf; omega⟩
  have HO : Hid (∀ W : World, W.heap[bo]? = some (.cells #[.int .i64 4, .int .i64 wh, .int .i64 bk, .int .u64 ps, .slice pi mi ci, .slice pl ml cl] 48 (0, 0)) → W.cell? ⟨bo, 0, none⟩ = some (.int .i64 4) ∧ W.cell? ⟨bo, 2, none⟩ = some (.int .i64 bk) ∧ W.cell? ⟨bo, 3, none⟩ = some (.int .u64 ps) ∧ W.cell? ⟨bo, 4, none⟩ = some (.slice pi mi ci) ∧ W.cell? ⟨bo, 5, none⟩ = some (.slice pl ml cl)) := fun W hW => ⟨by rw [cell_of_row _ bo 0 _ 48 (0, 0) hW]; rfl, by rw [cell_of_row _ bo 2 _ 48 (0, 0) hW]; rfl, by rw [cell_of_row _ bo 3 _ 48 (0, 0) hW]; rfl, by rw [cell_of_row _ bo 4 _ 48 (0, 0) hW]; rfl, by rw [cell_of_row _ bo 5 _ 48 (0, 0) hW]; rfl⟩
  have k1 : w1.cell? ⟨bo, 1, none⟩ = some (.int .i64 wh) := by rw [cell_of_row _ bo 1 _ 48 (0, 0) HO1.out]; rfl
  have c1 : ∀ t, (w1.drewN t).cell? ⟨P, sl2 wh, none⟩ = some (.pointer (some ⟨Q (sl2 wh), 0, none⟩)) := fun t => by
    have := HP1.out.c (j := sl2 wh) (by omega)
    rw [ec] at this
    exact this
  have c2 : ∀ t, (w1.drewN t).cell? ⟨P, 2 + sl2 wh, none⟩ = some (.pointer (some ⟨R, 0, none⟩)) := fun t => by
    have := HP1.out.c (j := sl2 wh + 2) (by omega)
    rw [er, Nat.add_comm] at this
    exact this
  have HPt : Hid (∀ t, PS w0 (w1.drewN t) P (pcs T g) T G) := fun t => HP1.out.later (below_drawn _)
  have HOt : Hid (∀ t, (w1.drewN t).heap[bo]? = some (.cells #[.int .i64 4, .int .i64 wh, .int .i64 bk, .int .u64 ps, .slice pi mi ci, .slice pl ml cl] 48 (0, 0))) := fun t => HO1.out
  clear hP hs B1 er ec hc hks hos hrs hbs
  go_enter Tryd.func9, Tryd.ntmps9
  have j0 : (0 : Int) ≤ ((sl2 wh : Nat) : Int) := by omega
  have j1 : ((sl2 wh : Nat) : Int) < 2 := by omega
  go_wp2_with fail
  rw [s2]
  clear k1 s2 t2
  generalize sl2 wh = j at *
  go_quiet (fail)
  have HPD : Hid (PS w0 (w1.drewN nq) P (pcs T g) T G) := HPt.out nq
  have HOD : Hid ((w1.drewN nq).heap[bo]? = some (.cells #[.int .i64 4, .int .i64 wh, .int .i64 bk, .int .u64 ps, .slice pi mi ci, .slice pl ml cl] 48 (0, 0))) := HOt.out nq
  clear c1 c2 HPt HOt HP1 HO1 hw1 hbo
  generalize w1.drewN nq = wD at *
  have o0 := (HO.out wD HOD.out).1
  have o2 := (HO.out wD HOD.out).2.1
  have HST : Hid (St w0 wD P n a) := ⟨T, G, L, s, p, g, HPD.out, HSH.out⟩
  obtain ⟨hok, hpp, hsp⟩ := HSH.out.ok j l2
  have HOK : Hid (Okc n (L j) (nxR (s j) (p j))) := hok
  have HPS : Hid ((0 ≤ p j ∧ p j ≤ 4611686018427387904) ∧ (s j = false → p j = 0)) := ⟨hpp, hsp⟩
  have HLE : Hid (E.length = ml) := hE.len
  have HEW : Hid (EnsWf E) := hE.wf
  have hP0 : PS w0 wD P (pcs T g) (put T 14 (.blk bo #[.int .i64 4, .int .i64 wh, .int .i64 bk, .int .u64 ps, .slice pi mi ci, .slice pl ml cl] 48)) G := HPD.out.add (k := 14) HOD.out (fun b hb => by rw [show b = bo from hb]; exact HOB.out)
  have HP0 : Hid (PS w0 wD P (pcs T g) (put T 14 (.blk bo #[.int .i64 4, .int .i64 wh, .int .i64 bk, .int .u64 ps, .slice pi mi ci, .slice pl ml cl] 48)) G) := hP0
  have HE0 : Hid (EIn wD pl ml E) := hE.later HP0.out.below
  have o5 := (HO.out wD HOD.out).2.2.2.2
  have hj : j < 2 := l2
  clear hok hpp hsp hP0 o2
  go_wp2_with fail
  refine (roomy_at HE0.out hml (hT.later HPD.out.below)).mono ?_
  rintro e w2 ⟨gx, cx, rfl, hcx, hox, b2⟩
  obtain ⟨T2, hT2⟩ : ∃ T2, T2 = put (put T 14 (.blk bo #[.int .i64 4, .int .i64 wh, .int .i64 bk, .int .u64 ps, .slice pi mi ci, .slice pl ml cl] 48)) 9 (.ec (.slice (some ⟨gx, 0, none⟩) (ml + 1) cx) (E ++ [mkE])) := ⟨_, rfl⟩
  have HP2 : Hid (PS w0 w2 P (pcs T g) T2 G) := by rw [hT2]; exact HP0.out.fresh b2 9 (own_mono hox (Nat.zero_le _)) (fun b hb => (hox.lt b hb).1)
  have k2 : ∀ i, i < 9 → T2 i = T i := fun i hi => by rw [hT2, put_other _ _ (by omega), put_other _ _ (by omega)]
  have f9 : T2 9 = .ec (.slice (some ⟨gx, 0, none⟩) (ml + 1) cx) (E ++ [mkE]) := by rw [hT2]; exact put_same _ _ _
  have f14 : T2 14 = .blk bo #[.int .i64 4, .int .i64 wh, .int .i64 bk, .int .u64 ps, .slice pi mi ci, .slice pl ml cl] 48 := by rw [hT2, put_other _ _ (by decide)]; exact put_same _ _ _
  have HXI : Hid (∀ W T' G', PS w0 W P (pcs T g) T' G' → T' 9 = .ec (.slice (some ⟨gx, 0, none⟩) (ml + 1) cx) (E ++ [mkE]) → EIn W (some ⟨gx, 0, none⟩) (ml + 1) (E ++ [mkE])) := fun W T' G' hW h9 => by
    have hr : EOwn 57 W 0 (.slice (some ⟨gx, 0, none⟩) (ml + 1) cx) (E ++ [mkE]) := by have := hW.fam.at' 9 (by decide); rw [h9] at this; exact this
    obtain ⟨p', c', e', hm', -⟩ := EOwn.in hr (HEW.out.snoc mkE_wf)
    rw [List.length_append, HLE.out, List.length_singleton] at e' hm'
    cases e'; exact hm'
  have HXT : Hid ((E ++ [mkE]).take ml = E) := by show _ = _; rw [← HLE.out, List.take_left]
  have HX2 : Hid (EIn w2 (some ⟨gx, 0, none⟩) ml E) := by have := (HXI.out w2 T2 G HP2.out f9).take ml (by omega); rw [HXT.out] at this; exact this
  have ec2 : T2 j = .cac (Q j) n (v j) (L j) (nxR (s j) (p j)) := (k2 j (by omega)).trans HEC.out
  have er2 : T2 (j + 2) = .ref R n vr (L j) (s j) (p j) := (k2 (j + 2) (by omega)).trans HER.out
  have hsep : ∀ a, (some ⟨gx, 0, none⟩ : Option Addr) = some a → 0 < ml → ¬ (a.block = Q j ∨ (v j).ownBlock = some a.block) := fun a ha _ hq => by
    cases ha
    have hf : (T2 j).foot gx := by rw [ec2]; exact hq
    exact HP2.out.fam.apart 9 j (by decide) (by omega) (by omega) gx (by rw [f9]; exact rfl) hf
  have HSEP : Hid (∀ a, (some ⟨gx, 0, none⟩ : Option Addr) = some a → 0 < ml → ¬ (a.block = Q j ∨ (v j).ownBlock = some a.block)) := hsep
  clear hT2 hox b2 hsep o0 o5 HP0
  go_wp2_with fail
  refine (drop_call (HP2.out.cac (j := j) (by omega) ec2) HOK.out HX2.out (by omega) HSEP.out).mono ?_
  rintro e w3 ⟨rfl, v3, hW3⟩
  obtain ⟨T3, hT3⟩ : ∃ T3, T3 = put T2 j (.cac (Q j) n v3 (drps (L j) E) (nxR (s j) (p j))) := ⟨_, rfl⟩
  have HP3 : Hid (PS w0 w3 P (pcs T g) T3 G) := by rw [hT3]; exact HP2.out.wrt (by omega) ec2 hW3
  have k3 : ∀ i, i ≠ j → T3 i = T2 i := fun i hi => by rw [hT3, put_other _ _ hi]
  have c3 : T3 j = .cac (Q j) n v3 (drps (L j) E) (nxR (s j) (p j)) := by rw [hT3]; exact put_same _ _ _
  have er3 : T3 (j + 2) = .ref R n vr (L j) (s j) (p j) := (k3 _ (by omega)).trans er2
  have o3 : w3.heap[bo]? = some (.cells #[.int .i64 4, .int .i64 wh, .int .i64 bk, .int .u64 ps, .slice pi mi ci, .slice pl ml cl] 48 (0, 0)) := by have := HP3.out.fam.at' 14 (by decide); rw [k3 14 (by omega), f14] at this; exact this
  have o5 := (HO.out w3 o3).2.2.2.2
  have HE3 : Hid (EIn w3 pl ml E) := hE.later HP3.out.below
  have HSP3 : Hid (∀ a, pl = some a → 0 < ml → ¬ (a.block = R ∨ vr.ownBlock = some a.block)) := fun a ha h0 hq => by
    subst ha
    obtain ⟨b', o', e', -⟩ := hE.cells h0
    cases e'
    have hb := hE.block_lt h0
    have hf : (T3 (j + 2)).foot b' := by rw [er3]; exact hq
    have := HP3.out.fam.lo (j + 2) (by omega) b' hf
    omega
  clear hT3 hW3 o3 HX2 HSEP HP2
  go_wp2_with fail
  refine (rdrop_at (HP3.out.ref (j := j + 2) (by omega) er3) HOK.out.wf HOK.out.few HE3.out (by omega) HSP3.out).mono ?_
  rintro e w4 ⟨rfl, v4, hW4⟩
  obtain ⟨T4, hT4⟩ : ∃ T4, T4 = put T3 (j + 2) (.ref R n v4 (drps (L j) E) (s j) (p j)) := ⟨_, rfl⟩
  have hP4 : PS w0 w4 P (pcs T g) T4 G := by rw [hT4]; exact HP3.out.rwrt (by omega) er3 hW4
  have hd : Below w4.heap.size w4 w4.drew := below_drawn 1
  have HP4 : Hid (PS w0 w4.drew P (pcs T g) T4 G) := hP4.later hd
  have k4 : ∀ i, i ≠ j + 2 → T4 i = T3 i := fun i hi => by rw [hT4, put_other _ _ hi]
  have er4 : T4 (j + 2) = .ref R n v4 (drps (L j) E) (s j) (p j) := by rw [hT4]; exact put_same _ _ _
  have HFIN : Hid (∀ W, Below w4.drew.heap.size w4.drew W → St w0 W P n a) := fun W hW => St.turned (HP4.out.later hW) HSH.out hj HEC.out HER.out ⟨HOK.out.drops E, HPS.out⟩ ((k4 j (by omega)).trans c3) er4 (fun i hi h1 h2 => (k4 i h2).trans ((k3 i h1).trans (k2 i hi)))
  have HF : Hid (∀ W, Below w4.drew.heap.size w4.drew W → W.cell? ⟨bo, 5, none⟩ = some (.slice pl ml cl)) := fun W hW => by
    have := (HP4.out.later hW).fam.at' 14 (by decide)
    rw [k4 14 (by omega), k3 14 (by omega), f14] at this
    exact (HO.out W this).2.2.2.2
  have hx4 : EIn w4.drew (some ⟨gx, 0, none⟩) (ml + 1) (E ++ [mkE]) := HXI.out _ T4 G HP4.out (by rw [k4 9 (by omega), k3 9 (by omega), f9])
  have HXE : Hid (EIn w4.drew (some ⟨gx, 0, none⟩) ml E) := by have := hx4.take ml (by omega); rw [HXT.out] at this; exact this
  have LX : Hid (∀ W, Below w4.drew.heap.size w4.drew W → (Instr.loadAt 57 (.pointer (some ⟨gx, ml * 34, none⟩))).run Tryd.prog W = .ok (.agg (ecells mkE).toArray) W) := fun W hW => by
    have := EIn.load etC (hx4.later hW) (k := ml) (i := mkE) (by rw [List.getElem?_append_right (by rw [HLE.out]; omega), HLE.out]; simp)
    rw [Nat.zero_add] at this; exact this
  have LM : Hid (∀ W, Below w4.drew.heap.size w4.drew W → (Instr.loadAt 57 (.pointer (some ⟨0, 0, none⟩))).run Tryd.prog W = .ok (.agg (ecells mkE).toArray) W) := fun W hW => (hT.later (HP4.out.later hW).below).load
  have LE : Hid (∀ W, (binOp .eql 57 (.agg (ecells mkE).toArray) (.agg (ecells mkE).toArray)).run Tryd.prog W = .ok (.bool true) W) := fun W => by rw [eqlE etC W _ _ (zs_len 32) (zs_len 32), (enB_iff _ _).2 rfl]
  have HEI : Hid (EIn w4.drew pl ml E) := hE.later HP4.out.below
  have hc1 : ml + 1 ≤ cx := hcx
  have hm1 : ml ≤ 140737488355328 := by omega
  have hrw : IntKind.i64.wrap ((ml : Int) + 1) = (ml : Int) + 1 := by rw [IntKind.wrap_i64]; omega
  have hi0 : (0 : Int) ≤ (ml : Int) + 1 := by omega
  have hi1 : (ml : Int) + 1 ≤ (cx : Int) := by omega
  have htn : ((ml : Int) + 1).toNat = ml + 1 := by omega
  have hi2 : (ml : Int) < (ml : Int) + 1 := by omega
  clear hT4 hW4 hP4 hd hx4 k2 k3 k4 er4 c3 er3 er2 ec2 f9 f14 HP3 HP4 HE3 HSP3 o5 HXI
  generalize drpsN (L j) E = dn at *
  have hbeq : (((dn : Nat) : Int) == ((dn : Nat) : Int)) = true := by simp
  go_wp2_with fail
  refine wp_region_noPanic ?_
  refine wp_region_held_drew (S := fun W => Below w4.drew.heap.size w4.drew W) (by kernel_rfl) (Below.refl _ _) (fun hHeld => ?_)
  generalize w4.drew = wE at *
  refine wpAnyH_take (i := 0) (v := ?va1) (by simp; rfl) (by kernel_rfl) (by kernel_rfl) (by kernel_rfl) (fun _ _ _ h => h) (Or.inl ⟨by rfl, ?ya1⟩) hHeld ?ra1
  case ya1 => intro w hSw; clear hSw; go_simp; with_reducible rfl
  simp only [Act.put, List.setIfInBounds_toArray, List.set_cons_zero, List.set_cons_succ]
  refine wpAnyH_take (i := 1) (v := ?va2) (by simp; rfl) (by kernel_rfl) (by kernel_rfl) (by kernel_rfl) (fun _ _ _ h => h) (Or.inl ⟨by rfl, ?ya2⟩) hHeld ?ra2
  case ya2 => intro w hSw; clear hSw; go_simp; with_reducible rfl
  simp only [Act.put, List.setIfInBounds_toArray, List.set_cons_zero, List.set_cons_succ]
  refine wpAnyH_take (i := 2) (v := ?va3) (by simp; rfl) (by kernel_rfl) (by kernel_rfl) (by kernel_rfl) (fun _ _ _ h => h) (Or.inl ⟨by rfl, ?ya3⟩) hHeld ?ra3
  case ya3 => intro w hSw; clear hSw; go_simp; with_reducible rfl
  simp only [Act.put, List.setIfInBounds_toArray, List.set_cons_zero, List.set_cons_succ]
  refine wpAnyH_take (i := 3) (v := ?va4) (by simp; rfl) (by kernel_rfl) (by kernel_rfl) (by kernel_rfl) (fun _ _ _ h => h) (Or.inl ⟨by rfl, ?ya4⟩) hHeld ?ra4
  case ya4 => intro w hSw; clear hSw; go_simp; with_reducible rfl
  simp only [Act.put, List.setIfInBounds_toArray, List.set_cons_zero, List.set_cons_succ]
  refine wpAnyH_take (i := 4) (v := ?va5) (by simp; rfl) (by kernel_rfl) (by kernel_rfl) (by kernel_rfl) (fun _ _ _ h => h) (Or.inl ⟨by rfl, ?ya5⟩) hHeld ?ra5
  case ya5 => intro w hSw; clear hSw; go_simp; with_reducible rfl
  simp only [Act.put, List.setIfInBounds_toArray, List.set_cons_zero, List.set_cons_succ]
  refine wpAnyH_take (i := 6) (v := ?va6) (by simp; rfl) (by kernel_rfl) (by kernel_rfl) (by kernel_rfl) (fun _ _ _ h => h) (Or.inl ⟨by rfl, ?ya6⟩) hHeld ?ra6
  case ya6 => intro w hSw; clear hSw; go_simp; with_reducible rfl
  simp only [Act.put, List.setIfInBounds_toArray, List.set_cons_zero, List.set_cons_succ]
  refine wpAnyH_take (i := 7) (v := ?va7) (by simp; rfl) (by kernel_rfl) (by kernel_rfl) (by kernel_rfl) (fun _ _ _ h => h) (Or.inl ⟨by rfl, ?ya7⟩) hHeld ?ra7
  case ya7 => intro w hSw; have z := HF.out w hSw; clear hSw; go_simp; with_reducible rfl
  simp only [Act.put, List.setIfInBounds_toArray, List.set_cons_zero, List.set_cons_succ]
  refine wpAnyH_ready (rs := [5]) (by kernel_rfl) (by simp) ?_
  refine AllReadyH.cons (by simp; rfl) (fun Kc hKc => ?_) AllReadyH.nil
  go_simp
  refine (plain_at (HXE.out.later hHeld) hml).mono ?_
  rintro e y1 ⟨u1, rfl, ho, hb⟩
  obtain ⟨pp1, cc1, eu1, hEE, -, -⟩ := EOwn.in ho HEW.out
  subst eu1
  have HBy1 : Hid (Below wE.heap.size wE y1) := below_then hHeld hb
  have HEy1 : Hid (EIn y1 pp1 E.length E) := hEE
  refine hKc.out _ _ HBy1.out (fun hHeld => ?_)
  clear hKc Kc ho hb hEE
  refine wpAnyH_ready (rs := [8]) (by kernel_rfl) (by simp) ?_
  refine AllReadyH.cons (by simp; rfl) (fun Kc hKc => ?_) AllReadyH.nil
  go_simp
  refine (same_at HEy1.out (HEI.out.later hHeld) (by rw [HLE.out]; omega)).mono ?_
  rintro e y2 ⟨rfl, hb⟩
  rw [ensB_yes rfl]
  have HBz : Hid (Below wE.heap.size wE y2) := below_then hHeld hb
  refine hKc.out _ _ HBz.out (fun hHeld => ?_)
  clear hKc Kc hb
  refine wpAnyH_take (i := 9) (v := ?va8) (by simp; rfl) (by kernel_rfl) (by kernel_rfl) (by kernel_rfl) (fun _ _ _ h => h) (Or.inl ⟨by rfl, ?ya8⟩) hHeld ?ra8
  case ya8 => intro w hSw; clear hSw; go_simp; with_reducible rfl
  simp only [Act.put, List.setIfInBounds_toArray, List.set_cons_zero, List.set_cons_succ]
  refine wpAnyH_take (i := 10) (v := ?va9) (by simp; rfl) (by kernel_rfl) (by kernel_rfl) (by kernel_rfl) (fun _ _ _ h => h) (Or.inl ⟨by rfl, ?ya9⟩) hHeld ?ra9
  case ya9 => intro w hSw; clear hSw; go_simp; with_reducible rfl
  simp only [Act.put, List.setIfInBounds_toArray, List.set_cons_zero, List.set_cons_succ]
  refine wpAnyH_take (i := 11) (v := ?va10) (by simp; rfl) (by kernel_rfl) (by kernel_rfl) (by kernel_rfl) (fun _ _ _ h => h) (Or.inl ⟨by rfl, ?ya10⟩) hHeld ?ra10
  case ya10 => intro w hSw; clear hSw; go_simp; with_reducible rfl
  simp only [Act.put, List.setIfInBounds_toArray, List.set_cons_zero, List.set_cons_succ]
  refine wpAnyH_take (i := 12) (v := ?va11) (by simp; rfl) (by kernel_rfl) (by kernel_rfl) (by kernel_rfl) (fun _ _ _ h => h) (Or.inl ⟨by rfl, ?ya11⟩) hHeld ?ra11
  case ya11 => intro w hSw; clear hSw; go_simp; with_reducible rfl
  simp only [Act.put, List.setIfInBounds_toArray, List.set_cons_zero, List.set_cons_succ]
  refine wpAnyH_take (i := 13) (v := ?va12) (by simp; rfl) (by kernel_rfl) (by kernel_rfl) (by kernel_rfl) (fun _ _ _ h => h) (Or.inl ⟨by rfl, ?ya12⟩) hHeld ?ra12
  case ya12 => intro w hSw; have z := HF.out w hSw; clear hSw; go_simp; with_reducible rfl
  simp only [Act.put, List.setIfInBounds_toArray, List.set_cons_zero, List.set_cons_succ]
  refine wpAnyH_take (i := 14) (v := ?va13) (by simp; rfl) (by kernel_rfl) (by kernel_rfl) (by kernel_rfl) (fun _ _ _ h => h) (Or.inl ⟨by rfl, ?ya13⟩) hHeld ?ra13
  case ya13 => intro w hSw; clear hSw; go_simp; with_reducible rfl
  simp only [Act.put, List.setIfInBounds_toArray, List.set_cons_zero, List.set_cons_succ]
  refine wpAnyH_take (i := 15) (v := ?va14) (by simp; rfl) (by kernel_rfl) (by kernel_rfl) (by kernel_rfl) (fun _ _ _ h => h) (Or.inl ⟨by rfl, ?ya14⟩) hHeld ?ra14
  case ya14 => intro w hSw; clear hSw; go_simp; with_reducible rfl
  simp only [Act.put, List.setIfInBounds_toArray, List.set_cons_zero, List.set_cons_succ]
  refine wpAnyH_take (i := 16) (v := ?va15) (by simp; rfl) (by kernel_rfl) (by kernel_rfl) (by kernel_rfl) (fun _ _ _ h => h) (Or.inl ⟨by rfl, ?ya15⟩) hHeld ?ra15
  case ya15 => intro w hSw; clear hSw; go_simp; with_reducible rfl
  simp only [Act.put, List.setIfInBounds_toArray, List.set_cons_zero, List.set_cons_succ]
  refine wpAnyH_take (i := 17) (v := ?va16) (by simp; rfl) (by kernel_rfl) (by kernel_rfl) (by kernel_rfl) (fun _ _ _ h => h) (Or.inl ⟨by rfl, ?ya16⟩) hHeld ?ra16
  case ya16 => intro w hSw; clear hSw; go_simp; with_reducible rfl
  simp only [Act.put, List.setIfInBounds_toArray, List.set_cons_zero, List.set_cons_succ]
  refine wpAnyH_take (i := 18) (v := ?va17) (by simp; rfl) (by kernel_rfl) (by kernel_rfl) (by kernel_rfl) (fun _ _ _ h => h) (Or.inl ⟨by rfl, ?ya17⟩) hHeld ?ra17
  case ya17 => intro w hSw; have z := HF.out w hSw; clear hSw; go_simp; with_reducible rfl
  simp only [Act.put, List.setIfInBounds_toArray, List.set_cons_zero, List.set_cons_succ]
  refine wpAnyH_take (i := 19) (v := ?va18) (by simp; rfl) (by kernel_rfl) (by kernel_rfl) (by kernel_rfl) (fun _ _ _ h => h) (Or.inl ⟨by rfl, ?ya18⟩) hHeld ?ra18
  case ya18 => intro w hSw; clear hSw; go_simp; with_reducible rfl
  simp only [Act.put, List.setIfInBounds_toArray, List.set_cons_zero, List.set_cons_succ]
  refine wpAnyH_take (i := 20) (v := ?va19) (by simp; rfl) (by kernel_rfl) (by kernel_rfl) (by kernel_rfl) (fun _ _ _ h => h) (Or.inl ⟨by rfl, ?ya19⟩) hHeld ?ra19
  case ya19 => intro w hSw; clear hSw; go_simp; with_reducible rfl
  simp only [Act.put, List.setIfInBounds_toArray, List.set_cons_zero, List.set_cons_succ]
  refine wpAnyH_take (i := 21) (v := _) (by simp; rfl) (by kernel_rfl) (by kernel_rfl) (by kernel_rfl) (fun _ _ _ h => h) (yields_load_is (x := .tmp 179) (p := .pointer (some ⟨gx, ml * 34, none⟩)) (v := .agg (ecells mkE).toArray) (by rfl) 57 rfl rfl (fun W hW => LX.out W hW)) hHeld ?_
  simp only [Act.put, List.setIfInBounds_toArray, List.set_cons_zero, List.set_cons_succ]
  refine wpAnyH_take (i := 22) (v := _) (by simp; rfl) (by kernel_rfl) (by kernel_rfl) (by kernel_rfl) (fun _ _ _ h => h) (yields_load_is (x := .global 0) (p := .pointer (some ⟨0, 0, none⟩)) (v := .agg (ecells mkE).toArray) (by rfl) 57 rfl rfl (fun W hW => LM.out W hW)) hHeld ?_
  simp only [Act.put, List.setIfInBounds_toArray, List.set_cons_zero, List.set_cons_succ]
  refine wpAnyH_take (i := 23) (v := _) (by simp; rfl) (by kernel_rfl) (by kernel_rfl) (by kernel_rfl) (fun _ _ _ h => h) (yields_eql_is (xs := (ecells mkE).toArray) (ys := (ecells mkE).toArray) (by rfl) 57 rfl rfl rfl etC.eqg LE.out) hHeld ?_
  simp only [Act.put, List.setIfInBounds_toArray, List.set_cons_zero, List.set_cons_succ]
  refine wpAnyH_take (i := 24) (v := ?va20) (by simp; rfl) (by kernel_rfl) (by kernel_rfl) (by kernel_rfl) (fun _ _ _ h => h) (Or.inl ⟨by rfl, ?ya20⟩) hHeld ?ra20
  case ya20 => intro w hSw; clear hSw; go_simp; with_reducible rfl
  simp only [Act.put, List.setIfInBounds_toArray, List.set_cons_zero, List.set_cons_succ]
  refine wpAnyH_take (i := 25) (v := ?va21) (by simp; rfl) (by kernel_rfl) (by kernel_rfl) (by kernel_rfl) (fun _ _ _ h => h) (Or.inl ⟨by rfl, ?ya21⟩) hHeld ?ra21
  case ya21 => intro w hSw; clear hSw; go_simp; with_reducible rfl
  simp only [Act.put, List.setIfInBounds_toArray, List.set_cons_zero, List.set_cons_succ]
  clear hHeld
  refine wpAnyH_done (by kernel_rfl) (NoPanic.normal ?_) _
  go_wp2
  go_ret
  exact ⟨rfl, (HFIN.out _ HBz.out).mono (by omega)⟩
end
end W
end Go.Proofs.YthcpnfelnonhnaaDoor
