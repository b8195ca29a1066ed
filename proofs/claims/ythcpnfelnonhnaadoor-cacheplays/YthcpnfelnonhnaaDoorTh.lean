/-
  Layer 17: a step: Drop of what was handed out.
-/
import Derived.Test.YthcpnfelnonhnaaDoorTg
namespace Go.Proofs.YthcpnfelnonhnaaDoor
open Go.RowKit

namespace W
section
variable {w0 w : World} {P a : Nat} {n : Int}
set_option maxHeartbeats 2000000 in
set_option maxRecDepth 100000 in
theorem plays_gone (h : St w0 w P n a) (_hT : Tab w0) (_ha : a ≤ 8000) (wh bk : Int) {ps : Int} (_hps : 0 ≤ ps ∧ ps < 18446744073709551616) {pi pl : Option Addr} {mi ci ml cl : Nat} {l : List Im} {E : List En} (_hI : MIn w0 pi mi l) (_hmi : mi * 40 ≤ 140737488351232) (_hE : EIn w0 pl ml E) (_hml : ml * 48 ≤ 140737488351232) :
    Calls Tryd.prog 9 #[.pointer (some ⟨P, 0, none⟩), .agg #[.int .i64 5, .int .i64 wh, .int .i64 bk, .int .u64 ps, .slice pi mi ci, .slice pl ml cl]] w fun e w' => e = .returned (.bool true) ∧ St w0 w' P n (a + 1) := by
  obtain ⟨w1, hw1⟩ : ∃ w1, w.alloc (.cells #[.int .i64 5, .int .i64 wh, .int .i64 bk, .int .u64 ps, .slice pi mi ci, .slice pl ml cl] 48) = w1 := ⟨_, rfl⟩
  obtain ⟨bo, hbo⟩ : ∃ bo, w.heap.size = bo := ⟨_, rfl⟩
  have B1 : Below w.heap.size w w1 := by rw [← hw1]; exact below_alloc w _
  have HO1 : Hid (w1.heap[bo]? = some (.cells #[.int .i64 5, .int .i64 wh, .int .i64 bk, .int .u64 ps, .slice pi mi ci, .slice pl ml cl] 48 (0, 0))) := by rw [← hw1, ← hbo]; exact heap_alloc_new w _
  have t2 := tmod2 wh
  have s2 := sl2_is wh
  have l2 := sl2_lt wh
  obtain ⟨T, G, L, s, p, g, hP, hs⟩ := h
  obtain ⟨R, vr, er⟩ := hs.ref (sl2 wh) l2
  obtain ⟨Q, v, v6, v7, v8, bs, os, rs, hc, e6, e7, e8, hos, hrs, hbs, hks⟩ := hs.cs
  have ec := hc (sl2 wh) l2
  have HEC : Hid (T (sl2 wh) = .cac (Q (sl2 wh)) n (v (sl2 wh)) (L (sl2 wh)) (nxR (s (sl2 wh)) (p (sl2 wh)))) := ec
  have HER : Hid (T (sl2 wh + 2) = .ref R n vr (L (sl2 wh)) (s (sl2 wh)) (p (sl2 wh))) := er
  have HSH : Hid (Sh T n L s p g a) := hs
  have HP1 : Hid (PS w0 w1 P (pcs T g) T G) := hP.later B1
  have HOB : Hid (w0.heap.size ≤ bo ∧ ¬ G bo ∧ bo ≠ P ∧ ∀ i, i < 15 → i ≠ 14 → ¬ (T i).foot bo) := ⟨by rw [← hbo]; exact hP.below.size, fun hg => by have := hP.fam.glt bo hg; omega, fun e => by have := hP.plt; omega, fun i hi _ hf => by have := Th.lt (hP.fam.at' i hi) hf; omega⟩
  have HO : Hid (∀ W : World, W.heap[bo]? = some (.cells #[.int .i64 5, .int .i64 wh, .int .i64 bk, .int .u64 ps, .slice pi mi ci, .slice pl ml cl] 48 (0, 0)) → W.cell? ⟨bo, 0, none⟩ = some (.int .i64 5) ∧ W.cell? ⟨bo, 2, none⟩ = some (.int .i64 bk) ∧ W.cell? ⟨bo, 3, none⟩ = some (.int .u64 ps) ∧ W.cell? ⟨bo, 4, none⟩ = some (.slice pi mi ci) ∧ W.cell? ⟨bo, 5, none⟩ = some (.slice pl ml cl)) := fun W hW => ⟨by rw [cell_of_row _ bo 0 _ 48 (0, 0) hW]; rfl, by rw [cell_of_row _ bo 2 _ 48 (0, 0) hW]; rfl, by rw [cell_of_row _ bo 3 _ 48 (0, 0) hW]; rfl, by rw [cell_of_row _ bo 4 _ 48 (0, 0) hW]; rfl, by rw [cell_of_row _ bo 5 _ 48 (0, 0) hW]; rfl⟩
  have k1 : w1.cell? ⟨bo, 1, none⟩ = some (.int .i64 wh) := by rw [cell_of_row _ bo 1 _ 48 (0, 0) HO1.out]; rfl
  have c1 : ∀ t, (w1.drewN t).cell? ⟨P, sl2 wh, none⟩ = some (.pointer (some ⟨Q (sl2 wh), 0, none⟩)) := fun t => by
    have := HP1.out.c (j := sl2 wh) (by omega)
    rw [ec] at this
    exact this
  have c2 : ∀ t, (w1.drewN t).cell? ⟨P, 2 + sl2 wh, none⟩ = some (.pointer (some ⟨R, 0, none⟩)) := fun t => by
    have := HP1.out.c (j := sl2 wh + 2) (by omega)
    rw [er, Nat.add_comm] at this
    exact this
  have HPt : Hid (∀ t, PS w0 (w1.drewN t) P (pcs T g) T G) := fun t => HP1.out.later (below_drawn _)
  have HOt : Hid (∀ t, (w1.drewN t).heap[bo]? = some (.cells #[.int .i64 5, .int .i64 wh, .int .i64 bk, .int .u64 ps, .slice pi mi ci, .slice pl ml cl] 48 (0, 0))) := fun t => HO1.out
  clear hP hs B1 er ec hc hks hos hrs hbs
  go_enter Tryd.func9, Tryd.ntmps9
  have j0 : (0 : Int) ≤ ((sl2 wh : Nat) : Int) := by omega
  have j1 : ((sl2 wh : Nat) : Int) < 2 := by omega
  go_wp2_with fail
  rw [s2]
  clear k1 s2 t2
  generalize sl2 wh = j at *
  go_quiet (fail)
  have HPD : Hid (PS w0 (w1.drewN nq) P (pcs T g) T G) := HPt.out nq
  have HOD : Hid ((w1.drewN nq).heap[bo]? = some (.cells #[.int .i64 5, .int .i64 wh, .int .i64 bk, .int .u64 ps, .slice pi mi ci, .slice pl ml cl] 48 (0, 0))) := HOt.out nq
  clear c1 c2 HPt HOt HP1 HO1 hw1 hbo
  generalize w1.drewN nq = wD at *
  have o0 := (HO.out wD HOD.out).1
  have o2 := (HO.out wD HOD.out).2.1
  have HST : Hid (St w0 wD P n a) := ⟨T, G, L, s, p, g, HPD.out, HSH.out⟩
  obtain ⟨hok, hpp, hsp⟩ := HSH.out.ok j l2
  have HOK : Hid (Okc n (L j) (nxR (s j) (p j))) := hok
  have HPS : Hid ((0 ≤ p j ∧ p j ≤ 4611686018427387904) ∧ (s j = false → p j = 0)) := ⟨hpp, hsp⟩
  obtain ⟨v4, us4, v5, us5, ls, e4, e5, hls⟩ := HSH.out.ls
  have l4 := HPD.out.ls (j := 4) (by decide) e4
  have l5 := HPD.out.ls (j := 5) (by decide) e5
  obtain ⟨p4, c4, hv4, -, hg4⟩ := O.own_form l4.row
  obtain ⟨p5, c5, hv5, -, hg5⟩ := O.own_form l5.row
  subst hv4; subst hv5
  have HLS : Hid (∀ l ∈ ls, l.length ≤ 64 ∧ EnsWf l) := hls.2
  have z4 : wD.cell? ⟨P, 4, none⟩ = some (.slice p4 us4.length c4) := by rw [HPD.out.c (j := 4) (by decide), e4]; rfl
  have hlen := l4.len
  have hlen5 := l5.len
  have hja : ls.length ≤ a := hls.1
  have hj : j < 2 := l2
  by_cases h0 : us4.length = 0
  · have hz : ((us4.length : Int) == 0) = true := by simp [h0]
    go_wp2
    go_ret
    exact ⟨rfl, HST.out.mono (by omega)⟩
  · have hz : ((us4.length : Int) == 0) = false := by simp [h0]
    have z4t : ∀ t, (wD.drewN t).cell? ⟨P, 4, none⟩ = some (.slice p4 us4.length c4) := fun _ => z4
    have o2t : ∀ t, (wD.drewN t).cell? ⟨bo, 2, none⟩ = some (.int .i64 bk) := fun _ => o2
    have hm0 : (0 : Int) < (us4.length : Int) := by omega
    have hmb : (us4.length : Int) ≤ 9000 := by omega
    have tm1 := Int.lt_tmod_of_pos bk hm0
    have tm2 := Int.tmod_lt_of_pos bk hm0
    have hne : ((us4.length : Int) = 0) = False := by simp [h0]
    go_wp2_with fail
    go_quiet (fail)
    obtain ⟨ki, hki⟩ : ∃ ki : Nat, (bk.tmod (us4.length : Int) + (us4.length : Int)) % (us4.length : Int) = (ki : Int) := ⟨((bk.tmod (us4.length : Int) + (us4.length : Int)) % (us4.length : Int)).toNat, by have := Int.emod_nonneg (bk.tmod (us4.length : Int) + (us4.length : Int)) (b := (us4.length : Int)) (by omega); omega⟩
    have hkl : ki < us4.length := by have := Int.emod_lt_of_pos (bk.tmod (us4.length : Int) + (us4.length : Int)) hm0; omega
    rw [hki]
    have HP2 : Hid (PS w0 (wD.drewN nq) P (pcs T g) T G) := HPD.out.later (below_drawn _)
    clear z4t o2t o0 o2 z4 tm1 tm2 hki l4 l5
    generalize wD.drewN nq = w2 at *
    obtain ⟨g4, rfl⟩ := hg4 (by omega)
    obtain ⟨g5, rfl⟩ := hg5 (by omega)
    obtain ⟨u, hu⟩ : ∃ u, us4[ki]? = some u := ⟨_, List.getElem?_eq_getElem hkl⟩
    obtain ⟨u5, hu5⟩ : ∃ u5, us5[ki]? = some u5 := ⟨_, List.getElem?_eq_getElem (by omega)⟩
    obtain ⟨E, hE⟩ : ∃ E, ls[ki]? = some E := ⟨_, List.getElem?_eq_getElem (by omega)⟩
    have HEW : Hid (E.length ≤ 64 ∧ EnsWf E) := HLS.out E (List.mem_of_getElem? hE)
    have hE64 := HEW.out.1
    have l4 := HP2.out.ls (j := 4) (by decide) e4
    have hr4 : EOwn 57 w2 0 u E := l4.each rfl ki u E hu hE
    obtain ⟨pu, cu, hue, hEu, -, -⟩ := EOwn.in hr4 HEW.out.2
    subst hue
    have HEu : Hid (EIn w2 pu E.length E) := hEu
    have y4 : w2.cell? ⟨g4, ki, none⟩ = some (.slice pu E.length cu) := by
      have := l4.row.cells (g := g4) rfl ki _ hu
      rw [Addr.add_mid, Nat.zero_add] at this; exact this
    have z4 : w2.cell? ⟨P, 4, none⟩ = some (.slice (some ⟨g4, 0, none⟩) us4.length c4) := by rw [HP2.out.c (j := 4) (by decide), e4]; rfl
    have i1 : (ki : Int) < (us4.length : Int) := by omega
    have HSEP : Hid (∀ a, pu = some a → 0 < E.length → ¬ (a.block = Q j ∨ (v j).ownBlock = some a.block)) := fun a ha h0' hq => by
      subst ha
      obtain ⟨b', o', e', -⟩ := hEu.cells h0'
      cases e'
      have ho' : o' = 0 := by
        rcases hr4.2 with ⟨e9, _⟩ | ⟨g9, cap, cur, e9, _⟩
        · cases e9
        · cases e9; rfl
      subst ho'
      have hf : (T j).foot b' := by rw [HEC.out]; exact hq
      exact HP2.out.fam.apart 4 j (by decide) (by omega) (by omega) b' (by rw [e4]; exact .inr ⟨_, List.mem_of_getElem? hu, rfl⟩) hf
    clear hEu hr4 l4
    go_wp2_with fail
    refine (drop_call (HP2.out.cac (j := j) (by omega) HEC.out) HOK.out HEu.out (by omega) HSEP.out).mono ?_
    rintro e w3 ⟨rfl, v3, hW3⟩
    obtain ⟨T3, hT3⟩ : ∃ T3, T3 = put T j (.cac (Q j) n v3 (drps (L j) E) (nxR (s j) (p j))) := ⟨_, rfl⟩
    have HP3 : Hid (PS w0 w3 P (pcs T g) T3 G) := by rw [hT3]; exact HP2.out.wrt (by omega) HEC.out hW3
    have k3 : ∀ i, i ≠ j → T3 i = T i := fun i hi => by rw [hT3, put_other _ _ hi]
    have c3 : T3 j = .cac (Q j) n v3 (drps (L j) E) (nxR (s j) (p j)) := by rw [hT3]; exact put_same _ _ _
    have er3 : T3 (j + 2) = .ref R n vr (L j) (s j) (p j) := (k3 _ (by omega)).trans HER.out
    have e53 : T3 5 = .ls true 46 75 34 (fun l : List En => l.length) EC (.slice (some ⟨g5, 0, none⟩) us5.length c5) us5 ls := (k3 5 (by omega)).trans e5
    have l5 := HP3.out.ls (j := 5) (by decide) e53
    have hr5 : EOwn 75 w3 0 u5 E := l5.each rfl ki u5 E hu5 hE
    obtain ⟨pu5, cu5, hue5, hEu5, -, -⟩ := EOwn.in hr5 HEW.out.2
    subst hue5
    have HEu5 : Hid (EIn w3 pu5 E.length E) := hEu5
    have y5 : w3.cell? ⟨g5, ki, none⟩ = some (.slice pu5 E.length cu5) := by
      have := l5.row.cells (g := g5) rfl ki _ hu5
      rw [Addr.add_mid, Nat.zero_add] at this; exact this
    have z5 : w3.cell? ⟨P, 5, none⟩ = some (.slice (some ⟨g5, 0, none⟩) us5.length c5) := by rw [HP3.out.cell (j := 5) (pcs_get (by decide)), e5]; rfl
    have i5 : (ki : Int) < (us5.length : Int) := by omega
    have HSEP5 : Hid (∀ a, pu5 = some a → 0 < E.length → ¬ (a.block = R ∨ vr.ownBlock = some a.block)) := fun a ha h0' hq => by
      subst ha
      obtain ⟨b', o', e', -⟩ := hEu5.cells h0'
      cases e'
      have ho' : o' = 0 := by
        rcases hr5.2 with ⟨e9, _⟩ | ⟨g9, cap, cur, e9, _⟩
        · cases e9
        · cases e9; rfl
      subst ho'
      have hf : (T3 (j + 2)).foot b' := by rw [er3]; exact hq
      exact HP3.out.fam.apart 5 (j + 2) (by decide) (by omega) (by omega) b' (by rw [e53]; exact .inr ⟨_, List.mem_of_getElem? hu5, rfl⟩) hf
    clear hT3 hW3 hEu5 hr5 l5 HEu HSEP HP2 y4 z4
    go_wp2_with fail
    refine (rdrop_at (HP3.out.ref (j := j + 2) (by omega) er3) HOK.out.wf HOK.out.few HEu5.out (by omega) HSEP5.out).mono ?_
    rintro e w4 ⟨rfl, v4', hW4⟩
    obtain ⟨T4, hT4⟩ : ∃ T4, T4 = put T3 (j + 2) (.ref R n v4' (drps (L j) E) (s j) (p j)) := ⟨_, rfl⟩
    have HP4 : Hid (PS w0 w4 P (pcs T g) T4 G) := by rw [hT4]; exact HP3.out.rwrt (by omega) er3 hW4
    have k4 : ∀ i, i ≠ j + 2 → T4 i = T3 i := fun i hi => by rw [hT4, put_other _ _ hi]
    have er4 : T4 (j + 2) = .ref R n v4' (drps (L j) E) (s j) (p j) := by rw [hT4]; exact put_same _ _ _
    have HFIN : Hid (St w0 w4 P n a) := St.turned HP4.out HSH.out hj HEC.out HER.out ⟨HOK.out.drops E, HPS.out⟩ ((k4 j (by omega)).trans c3) er4 (fun i hi h1 h2 => (k4 i h2).trans (k3 i h1))
    have hbeq : (((drpsN (L j) E : Nat) : Int) == ((drpsN (L j) E : Nat) : Int)) = true := by simp
    clear hT4 hW4 k3 k4 er4 c3 er3 HP3 HP4 HEu5 HSEP5 y5 z5
    go_wp2
    go_ret
    exact ⟨rfl, HFIN.out.mono (by omega)⟩
end
end W
end Go.Proofs.YthcpnfelnonhnaaDoor
