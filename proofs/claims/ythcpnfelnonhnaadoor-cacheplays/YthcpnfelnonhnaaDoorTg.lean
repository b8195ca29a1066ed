/-
  Layer 17: a step: Put.
-/
import Derived.Test.YthcpnfelnonhnaaDoorTf
namespace Go.Proofs.YthcpnfelnonhnaaDoor
open Go.RowKit

namespace W
theorem put_ok {n p ps : Int} {L : List En} {s : Bool} {l : List Im} (h : Okc n L (nxR s p)) (hp : (0 ≤ p ∧ p ≤ 4611686018427387904) ∧ (s = false → p = 0)) (hw : ImsWf l) (hps : 0 ≤ ps ∧ ps < 18446744073709551616) :
    Okc n (putL n L (nxR s p) l ps) (nxR (putS n s p l ps) (putP n s p l ps)) ∧ (0 ≤ putP n s p l ps ∧ putP n s p l ps ≤ 4611686018427387904) ∧ (putS n s p l ps = false → putP n s p l ps = 0) := by
  refine ⟨by rw [nxR_put]; exact h.put hw hps, ?_⟩
  unfold putS putP
  by_cases e : putE n (nxR s p) l ps = 0
  · rw [if_pos e, if_pos e]
    refine ⟨⟨hps.1, ?_⟩, fun h => by cases h⟩
    rcases Int.lt_or_le 4611686018427387904 ps with hlt | hle
    · exfalso
      unfold putE at e
      split at e
      · cases e
      · split at e
        · cases e
        · rw [if_pos (.inr hlt)] at e; cases e
    · exact hle
  · rw [if_neg e, if_neg e]; exact hp
section
variable {w0 w : World} {P a : Nat} {n : Int}
abbrev Th.em (u : Value) (l : List Im) : Th := .el 55 33 (fun l : List Im => l.length) IC u l
set_option maxHeartbeats 2000000 in
set_option maxRecDepth 100000 in
theorem plays_put (h : St w0 w P n a) (_hT : Tab w0) (_ha : a ≤ 8000) (wh bk : Int) {ps : Int} (hps : 0 ≤ ps ∧ ps < 18446744073709551616) {pi pl : Option Addr} {mi ci ml cl : Nat} {l : List Im} {E : List En} (hI : MIn w0 pi mi l) (hmi : mi * 40 ≤ 140737488351232) (_hE : EIn w0 pl ml E) (_hml : ml * 48 ≤ 140737488351232) :
    Calls Tryd.prog 9 #[.pointer (some ⟨P, 0, none⟩), .agg #[.int .i64 1, .int .i64 wh, .int .i64 bk, .int .u64 ps, .slice pi mi ci, .slice pl ml cl]] w fun e w' => e = .returned (.bool true) ∧ St w0 w' P n (a + 1) := by
  obtain ⟨w1, hw1⟩ : ∃ w1, w.alloc (.cells #[.int .i64 1, .int .i64 wh, .int .i64 bk, .int .u64 ps, .slice pi mi ci, .slice pl ml cl] 48) = w1 := ⟨_, rfl⟩
  obtain ⟨bo, hbo⟩ : ∃ bo, w.heap.size = bo := ⟨_, rfl⟩
  have B1 : Below w.heap.size w w1 := by rw [← hw1]; exact below_alloc w _
  have HO1 : Hid (w1.heap[bo]? = some (.cells #[.int .i64 1, .int .i64 wh, .int .i64 bk, .int .u64 ps, .slice pi mi ci, .slice pl ml cl] 48 (0, 0))) := by rw [← hw1, ← hbo]; exact heap_alloc_new w _
  have t2 := tmod2 wh
  have s2 := sl2_is wh
  have l2 := sl2_lt wh
  obtain ⟨T, G, L, s, p, g, hP, hs⟩ := h
  obtain ⟨R, vr, er⟩ := hs.ref (sl2 wh) l2
  obtain ⟨Q, v, v6, v7, v8, bs, os, rs, hc, e6, e7, e8, hos, hrs, hbs, hks⟩ := hs.cs
  have ec := hc (sl2 wh) l2
  have HEC : Hid (T (sl2 wh) = .cac (Q (sl2 wh)) n (v (sl2 wh)) (L (sl2 wh)) (nxR (s (sl2 wh)) (p (sl2 wh)))) := ec
  have HER : Hid (T (sl2 wh + 2) = .ref R n vr (L (sl2 wh)) (s (sl2 wh)) (p (sl2 wh))) := er
  have HSH : Hid (Sh T n L s p g a) := hs
  have HP1 : Hid (PS w0 w1 P (pcs T g) T G) := hP.later B1
  have HOB : Hid (w0.heap.size ≤ bo ∧ ¬ G bo ∧ bo ≠ P ∧ ∀ i, i < 15 → i ≠ 14 → ¬ (T i).foot bo) := ⟨by rw [← hbo]; exact hP.below.size, fun hg => by have := hP.fam.glt bo hg; omega, fun e => by have := hP.plt; omega, fun i hi _ hf => by have := Th.lt (hP.fam.at' i hi) hf; omega⟩
  have HO : Hid (∀ W : World, W.heap[bo]? = some (.cells #[.int .i64 1, .int .i64 wh, .int .i64 bk, .int .u64 ps, .slice pi mi ci, .slice pl ml cl] 48 (0, 0)) → W.cell? ⟨bo, 0, none⟩ = some (.int .i64 1) ∧ W.cell? ⟨bo, 2, none⟩ = some (.int .i64 bk) ∧ W.cell? ⟨bo, 3, none⟩ = some (.int .u64 ps) ∧ W.cell? ⟨bo, 4, none⟩ = some (.slice pi mi ci) ∧ W.cell? ⟨bo, 5, none⟩ = some (.slice pl ml cl)) := fun W hW => ⟨by rw [cell_of_row _ bo 0 _ 48 (0, 0) hW]; rfl, by rw [cell_of_row _ bo 2 _ 48 (0, 0) hW]; rfl, by rw [cell_of_row _ bo 3 _ 48 (0, 0) hW]; rfl, by rw [cell_of_row _ bo 4 _ 48 (0, 0) hW]; rfl, by rw [cell_of_row _ bo 5 _ 48 (0, 0) hW]; rfl⟩
  have k1 : w1.cell? ⟨bo, 1, none⟩ = some (.int .i64 wh) := by rw [cell_of_row _ bo 1 _ 48 (0, 0) HO1.out]; rfl
  have c1 : ∀ t, (w1.drewN t).cell? ⟨P, sl2 wh, none⟩ = some (.pointer (some ⟨Q (sl2 wh), 0, none⟩)) := fun t => by
    have := HP1.out.c (j := sl2 wh) (by omega)
    rw [ec] at this
    exact this
  have c2 : ∀ t, (w1.drewN t).cell? ⟨P, 2 + sl2 wh, none⟩ = some (.pointer (some ⟨R, 0, none⟩)) := fun t => by
    have := HP1.out.c (j := sl2 wh + 2) (by omega)
    rw [er, Nat.add_comm] at this
    exact this
  have HPt : Hid (∀ t, PS w0 (w1.drewN t) P (pcs T g) T G) := fun t => HP1.out.later (below_drawn _)
  have HOt : Hid (∀ t, (w1.drewN t).heap[bo]? = some (.cells #[.int .i64 1, .int .i64 wh, .int .i64 bk, .int .u64 ps, .slice pi mi ci, .slice pl ml cl] 48 (0, 0))) := fun t => HO1.out
  clear hP hs B1 er ec hc hks hos hrs hbs
  go_enter Tryd.func9, Tryd.ntmps9
  have j0 : (0 : Int) ≤ ((sl2 wh : Nat) : Int) := by omega
  have j1 : ((sl2 wh : Nat) : Int) < 2 := by omega
  go_wp2_with fail
  rw [s2]
  clear k1 s2 t2
  generalize sl2 wh = j at *
  go_quiet (fail)
  have HPD : Hid (PS w0 (w1.drewN nq) P (pcs T g) T G) := HPt.out nq
  have HOD : Hid ((w1.drewN nq).heap[bo]? = some (.cells #[.int .i64 1, .int .i64 wh, .int .i64 bk, .int .u64 ps, .slice pi mi ci, .slice pl ml cl] 48 (0, 0))) := HOt.out nq
  clear c1 c2 HPt HOt HP1 HO1 hw1 hbo
  generalize w1.drewN nq = wD at *
  have o0 := (HO.out wD HOD.out).1
  have o2 := (HO.out wD HOD.out).2.1
  have HST : Hid (St w0 wD P n a) := ⟨T, G, L, s, p, g, HPD.out, HSH.out⟩
  obtain ⟨hok, hpp, hsp⟩ := HSH.out.ok j l2
  have HOK : Hid (Okc n (L j) (nxR (s j) (p j))) := hok
  have HPS : Hid ((0 ≤ p j ∧ p j ≤ 4611686018427387904) ∧ (s j = false → p j = 0)) := ⟨hpp, hsp⟩
  have HLI : Hid (l.length = mi) := hI.len
  have HIW : Hid (ImsWf l) := hI.wf
  have HP0 : Hid (PS w0 wD P (pcs T g) (put T 14 (.blk bo #[.int .i64 1, .int .i64 wh, .int .i64 bk, .int .u64 ps, .slice pi mi ci, .slice pl ml cl] 48)) G) := HPD.out.add (k := 14) HOD.out (fun b hb => by rw [show b = bo from hb]; exact HOB.out)
  have HI0 : Hid (MIn wD pi mi l) := hI.later HP0.out.below
  have o4 := (HO.out wD HOD.out).2.2.2.1
  have hj : j < 2 := l2
  clear hok hpp hsp o2
  go_wp2_with fail
  refine (images_at HI0.out hmi).mono ?_
  rintro e w2 ⟨gx, cx, rfl, hcx, hox, b2⟩
  obtain ⟨T2, hT2⟩ : ∃ T2, T2 = put (put T 14 (.blk bo #[.int .i64 1, .int .i64 wh, .int .i64 bk, .int .u64 ps, .slice pi mi ci, .slice pl ml cl] 48)) 9 (.em (.slice (some ⟨gx, 0, none⟩) (mi + 1) cx) (l ++ [mkI])) := ⟨_, rfl⟩
  have HP2 : Hid (PS w0 w2 P (pcs T g) T2 G) := by rw [hT2]; exact HP0.out.fresh b2 9 (own_mono hox (Nat.zero_le _)) (fun b hb => (hox.lt b hb).1)
  have k2 : ∀ i, i < 9 → T2 i = T i := fun i hi => by rw [hT2, put_other _ _ (by omega), put_other _ _ (by omega)]
  have f9 : T2 9 = .em (.slice (some ⟨gx, 0, none⟩) (mi + 1) cx) (l ++ [mkI]) := by rw [hT2]; exact put_same _ _ _
  have f14 : T2 14 = .blk bo #[.int .i64 1, .int .i64 wh, .int .i64 bk, .int .u64 ps, .slice pi mi ci, .slice pl ml cl] 48 := by rw [hT2, put_other _ _ (by decide)]; exact put_same _ _ _
  have HXI : Hid (∀ W T' G', PS w0 W P (pcs T g) T' G' → T' 9 = .em (.slice (some ⟨gx, 0, none⟩) (mi + 1) cx) (l ++ [mkI]) → MIn W (some ⟨gx, 0, none⟩) (mi + 1) (l ++ [mkI])) := fun W T' G' hW h9 => by
    have hr : IOwn W 0 (.slice (some ⟨gx, 0, none⟩) (mi + 1) cx) (l ++ [mkI]) := by have := hW.fam.at' 9 (by decide); rw [h9] at this; exact this
    obtain ⟨p', c', e', hm', -⟩ := IOwn.in hr (HIW.out.snoc mkI_wf)
    rw [List.length_append, HLI.out, List.length_singleton] at e' hm'
    cases e'; exact hm'
  have HXT : Hid ((l ++ [mkI]).take mi = l) := by show _ = _; rw [← HLI.out, List.take_left]
  have HX2 : Hid (MIn w2 (some ⟨gx, 0, none⟩) mi l) := by have := (HXI.out w2 T2 G HP2.out f9).take mi (by omega); rw [HXT.out] at this; exact this
  have ec2 : T2 j = .cac (Q j) n (v j) (L j) (nxR (s j) (p j)) := (k2 j (by omega)).trans HEC.out
  have er2 : T2 (j + 2) = .ref R n vr (L j) (s j) (p j) := (k2 (j + 2) (by omega)).trans HER.out
  have HSEP : Hid (∀ a, (some ⟨gx, 0, none⟩ : Option Addr) = some a → 0 < mi → ¬ (a.block = Q j ∨ (v j).ownBlock = some a.block)) := fun a ha _ hq => by
    cases ha
    have hf : (T2 j).foot gx := by rw [ec2]; exact hq
    exact HP2.out.fam.apart 9 j (by decide) (by omega) (by omega) gx (by rw [f9]; exact rfl) hf
  have o2b : w2.heap[bo]? = some (.cells #[.int .i64 1, .int .i64 wh, .int .i64 bk, .int .u64 ps, .slice pi mi ci, .slice pl ml cl] 48 (0, 0)) := by have := HP2.out.fam.at' 14 (by decide); rw [f14] at this; exact this
  have o3 := (HO.out w2 o2b).2.2.1
  clear hT2 hox b2 o0 o4 HP0 o2b
  go_wp2_with fail
  refine (put_at (HP2.out.cac (j := j) (by omega) ec2) HOK.out HX2.out (by omega) HSEP.out hps).mono ?_
  rintro e w3 ⟨rfl, v3, hW3⟩
  obtain ⟨T3, hT3⟩ : ∃ T3, T3 = put T2 j (.cac (Q j) n v3 (putL n (L j) (nxR (s j) (p j)) l ps) (putX n (nxR (s j) (p j)) l ps)) := ⟨_, rfl⟩
  have HP3 : Hid (PS w0 w3 P (pcs T g) T3 G) := by rw [hT3]; exact HP2.out.wrt (by omega) ec2 hW3
  have k3 : ∀ i, i ≠ j → T3 i = T2 i := fun i hi => by rw [hT3, put_other _ _ hi]
  have c3 : T3 j = .cac (Q j) n v3 (putL n (L j) (nxR (s j) (p j)) l ps) (putX n (nxR (s j) (p j)) l ps) := by rw [hT3]; exact put_same _ _ _
  have er3 : T3 (j + 2) = .ref R n vr (L j) (s j) (p j) := (k3 _ (by omega)).trans er2
  have o3b : w3.heap[bo]? = some (.cells #[.int .i64 1, .int .i64 wh, .int .i64 bk, .int .u64 ps, .slice pi mi ci, .slice pl ml cl] 48 (0, 0)) := by have := HP3.out.fam.at' 14 (by decide); rw [k3 14 (by omega), f14] at this; exact this
  have o3' := (HO.out w3 o3b).2.2.1
  have o4 := (HO.out w3 o3b).2.2.2.1
  have HI3 : Hid (MIn w3 pi mi l) := hI.later HP3.out.below
  have HSP3 : Hid (∀ a, pi = some a → 0 < mi → ¬ (a.block = R ∨ vr.ownBlock = some a.block)) := fun a ha h0 hq => by
    subst ha
    obtain ⟨b', o', e', hr⟩ := hI.cells h0
    cases e'
    have hb : b' < w0.heap.size := range_lt hr (by rw [IC_len hI.wf, hI.len]; omega)
    have hf : (T3 (j + 2)).foot b' := by rw [er3]; exact hq
    have := HP3.out.fam.lo (j + 2) (by omega) b' hf
    omega
  clear hT3 hW3 o3b HX2 HSEP HP2 o3
  go_wp2_with fail
  refine (rput_at (HP3.out.ref (j := j + 2) (by omega) er3) HOK.out HPS.out.1 HI3.out (by omega) HSP3.out hps).mono ?_
  rintro e w4 ⟨rfl, v4, hW4⟩
  obtain ⟨T4, hT4⟩ : ∃ T4, T4 = put T3 (j + 2) (.ref R n v4 (putL n (L j) (nxR (s j) (p j)) l ps) (putS n (s j) (p j) l ps) (putP n (s j) (p j) l ps)) := ⟨_, rfl⟩
  have HP4 : Hid (PS w0 w4 P (pcs T g) T4 G) := by rw [hT4]; exact HP3.out.rwrt (by omega) er3 hW4
  have k4 : ∀ i, i ≠ j + 2 → T4 i = T3 i := fun i hi => by rw [hT4, put_other _ _ hi]
  have er4 : T4 (j + 2) = .ref R n v4 (putL n (L j) (nxR (s j) (p j)) l ps) (putS n (s j) (p j) l ps) (putP n (s j) (p j) l ps) := by rw [hT4]; exact put_same _ _ _
  have HON : Hid (Okc n (putL n (L j) (nxR (s j) (p j)) l ps) (nxR (putS n (s j) (p j) l ps) (putP n (s j) (p j) l ps)) ∧ (0 ≤ putP n (s j) (p j) l ps ∧ putP n (s j) (p j) l ps ≤ 4611686018427387904) ∧ (putS n (s j) (p j) l ps = false → putP n (s j) (p j) l ps = 0)) := put_ok HOK.out HPS.out HIW.out hps
  have HFIN : Hid (∀ W T', PS w0 W P (pcs T g) T' G → (∀ i, i < 9 → T' i = T4 i) → St w0 W P n a) := fun W T' hW hk => St.turned hW HSH.out hj HEC.out HER.out HON.out ((hk j (by omega)).trans ((k4 j (by omega)).trans (by rw [c3, nxR_put]))) ((hk (j + 2) (by omega)).trans er4) (fun i hi h1 h2 => (hk i hi).trans ((k4 i h2).trans ((k3 i h1).trans (k2 i hi))))
  have f94 : T4 9 = .em (.slice (some ⟨gx, 0, none⟩) (mi + 1) cx) (l ++ [mkI]) := by rw [k4 9 (by omega), k3 9 (by omega), f9]
  have HX4 : Hid (MIn w4 (some ⟨gx, 0, none⟩) (mi + 1) (l ++ [mkI])) := HXI.out _ T4 G HP4.out f94
  have HI4 : Hid (MIn w4 pi mi l) := hI.later HP4.out.below
  have o4b : w4.heap[bo]? = some (.cells #[.int .i64 1, .int .i64 wh, .int .i64 bk, .int .u64 ps, .slice pi mi ci, .slice pl ml cl] 48 (0, 0)) := by have := HP4.out.fam.at' 14 (by decide); rw [k4 14 (by omega), k3 14 (by omega), f14] at this; exact this
  have o4' := (HO.out w4 o4b).2.2.2.1
  clear hT4 hW4 k2 k3 k4 er4 c3 er3 er2 ec2 f9 f14 HP3 HI3 HSP3 o3' o4 o4b
  generalize putE n (nxR (s j) (p j)) l ps = pe at *
  have hbeq : (pe == pe) = true := by simp
  have hm1 : mi ≤ 140737488355328 := by omega
  go_wp2_with fail
  refine (sameImages_at HX4.out hcx HI4.out hm1).mono ?_
  rintro e w5 ⟨rfl, b5⟩
  have HP5 : Hid (PS w0 w5 P (pcs T g) (put T4 9 (.em (.slice (some ⟨gx, 0, none⟩) (mi + 1) cx) (l ++ [mkI]))) G) := by rw [put_idem _ _ f94]; exact HP4.out.later b5
  clear b5 HX4 HI4 o4'
  go_wp2_with fail
  go_loopw [12] (fun u W => ∃ (i : Nat) (Z : List Im), u = .int .i64 (i : Int) ∧ i ≤ mi ∧ Hid (PS w0 W P (pcs T g) (put T4 9 (.em (.slice (some ⟨gx, 0, none⟩) (mi + 1) cx) Z)) G) ∧ Hid (Z.length = mi + 1 ∧ ImsWf Z)) (fun u _ => mi - (intOf u).toNat)
  case atStart => exact ⟨0, l ++ [mkI], rfl, by omega, HP5, (⟨by rw [List.length_append, HLI.out, List.length_singleton], HIW.out.snoc mkI_wf⟩ : (l ++ [mkI]).length = mi + 1 ∧ ImsWf (l ++ [mkI]))⟩
  case round =>
    obtain ⟨i, Z, rfl, hi, HPz, HZ⟩ := hrel
    by_cases hlt : i < mi
    · have hrow : IOwn wr 0 (.slice (some ⟨gx, 0, none⟩) (mi + 1) cx) Z := by have := HPz.out.fam.at' 9 (by decide); rw [put_same] at this; exact this
      have hnw : Im.Wf ⟨-9, zs 32⟩ := ⟨⟨by decide, by decide⟩, zs_len 32, zs_bytes 32⟩
      obtain ⟨W', hst, ho, hgr⟩ := IOwn.put hrow HZ.out.2 ⟨-9, zs 32⟩ hnw i (by rw [HZ.out.1]; omega)
      have HBI : Hid ((Instr.build 55 #[(0, .int .i64 (-9))]).run Tryd.prog wr = .ok (.agg (icells ⟨-9, zs 32⟩).toArray) wr) := buildIb wr (-9)
      have HSTR : Hid ((Instr.storeAt 55 (.pointer (some ⟨gx, i * 33, none⟩)) (.agg (icells ⟨-9, zs 32⟩).toArray)).run Tryd.prog wr = .ok () W') := hst
      have HZ2 : Hid ((Z.take i ++ [(⟨-9, zs 32⟩ : Im)] ++ Z.drop (i + 1)).length = mi + 1 ∧ ImsWf (Z.take i ++ [(⟨-9, zs 32⟩ : Im)] ++ Z.drop (i + 1))) := ⟨by have := HZ.out.1; simp; omega, fun x hx => by
        rcases List.mem_append.1 hx with hx | hx
        · rcases List.mem_append.1 hx with hx | hx
          · exact HZ.out.2 x (List.mem_of_mem_take hx)
          · rw [List.mem_singleton.1 hx]; exact hnw
        · exact HZ.out.2 x (List.mem_of_mem_drop hx)⟩
      have HPw : Hid (PS w0 W' P (pcs T g) (put T4 9 (.em (.slice (some ⟨gx, 0, none⟩) (mi + 1) cx) (Z.take i ++ [(⟨-9, zs 32⟩ : Im)] ++ Z.drop (i + 1)))) G) := by
        have := HPz.out.turn (i := 9) (by decide) (t := .em (.slice (some ⟨gx, 0, none⟩) (mi + 1) cx) (Z.take i ++ [(⟨-9, zs 32⟩ : Im)] ++ Z.drop (i + 1))) (G' := G) (S := fun b => (Value.slice (some ⟨gx, 0, none⟩) (mi + 1) cx).ownBlock = some b) ho (O.kept_grown (v := .slice (some ⟨gx, 0, none⟩) (mi + 1) cx) hgr) (fun b hb => by rw [put_same]; exact hb) (fun b hb => .inl (by rw [put_same]; exact hb)) (fun _ hg => hg) (fun _ hg => .inl hg)
        rw [put_put] at this
        exact this
      have i1 : (i : Int) < (mi : Int) := by omega
      clear hst ho hgr hrow HP5 HPz
      go_wp2_with ((with_reducible refine at_ops ?_); (first | ((refine wpList_build_is (vs := [(0, .int .i64 (-9))]) (by rfl) 55 rfl (by rfl) HBI.out ?_); simp only [Act.put, List.setIfInBounds_toArray, List.set_cons_zero, List.set_cons_succ]) | ((refine wpList_store_is (by rfl) 55 rfl rfl rfl HSTR.out ?_); simp only [Act.put])))
      go_roundw
      case rel => exact ⟨i + 1, _, by congr 1, by omega, HPw, HZ2⟩
      case measure => simp [intOf]; omega
    · go_wp2
      go_ret
      exact ⟨rfl, (HFIN.out _ _ HPz.out (fun i hi => put_other _ _ (by omega))).mono (by omega)⟩
end
end W
end Go.Proofs.YthcpnfelnonhnaaDoor
