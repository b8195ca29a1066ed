/-
  Layer 17: keep.
-/
import Derived.Test.YthcpnfelnonhnaaDoorTa
namespace Go.Proofs.YthcpnfelnonhnaaDoor
open Go.RowKit

namespace W
theorem elC : O.ElT 36 60 1 24 := by
  obtain ⟨i0, hi, h0, h1, h2⟩ := info_parts (show (Tryd.prog.info? 60).map (fun i => (i.zero, i.size, i.bytes)) = some (some (.slice none 0 0), 1, 24) by kernel_rfl)
  exact ⟨Tryd.underlying36, ⟨i0, _, hi, h0, h1, h2, rfl⟩, by decide, by decide⟩
theorem elW : O.ElT 37 46 1 24 := by
  obtain ⟨i0, hi, h0, h1, h2⟩ := info_parts (show (Tryd.prog.info? 46).map (fun i => (i.zero, i.size, i.bytes)) = some (some (.slice none 0 0), 1, 24) by kernel_rfl)
  exact ⟨Tryd.underlying37, ⟨i0, _, hi, h0, h1, h2, rfl⟩, by decide, by decide⟩
theorem elQ : O.ElT 38 83 1 8 := by
  obtain ⟨i0, hi, h0, h1, h2⟩ := info_parts (show (Tryd.prog.info? 83).map (fun i => (i.zero, i.size, i.bytes)) = some (some .nilFunc, 1, 8) by kernel_rfl)
  exact ⟨Tryd.underlying38, ⟨i0, _, hi, h0, h1, h2, rfl⟩, by decide, by decide⟩
abbrev Th.lc (v : Value) (us : List Value) (ls : List (List En)) : Th := .ls true 60 57 34 (fun l : List En => l.length) EC v us ls
abbrev Th.lr (v : Value) (us : List Value) (ls : List (List En)) : Th := .ls true 46 75 34 (fun l : List En => l.length) EC v us ls
abbrev Th.ec (u : Value) (l : List En) : Th := .el 57 34 (fun l : List En => l.length) EC u l
abbrev Th.er (u : Value) (l : List En) : Th := .el 75 34 (fun l : List En => l.length) EC u l
theorem eqT {T T' : Nat → Th} {k j : Nat} {u v : Th} (h : T' = put T k u) (e : T j = v) (hne : j ≠ k) : T' j = v := by rw [h, put_other _ _ hne]; exact e
theorem eqT2 {T T' : Nat → Th} {k i j : Nat} {u u' v : Th} (h : T' = put (put T i u) k u') (e : T j = v) (hne : j ≠ i) (hnk : j ≠ k) : T' j = v := by rw [h, put_other _ _ hnk, put_other _ _ hne]; exact e
section
variable {w0 w : World} {P : Nat} {T : Nat → Th} {G : Nat → Prop} {g : Nat → Int}
set_option maxHeartbeats 2000000 in
set_option maxRecDepth 100000 in
theorem keep_at {u v4 v5 : Value} {us4 us5 : List Value} {ls : List (List En)} {l : List En} (h : PS w0 w P (pcs T g) T G) (e9 : T 9 = .ec u l) (e4 : T 4 = .lc v4 us4 ls) (e5 : T 5 = .lr v5 us5 ls) (hl : l.length ≤ 64 ∧ EnsWf l) (hn : ls.length ≤ 9000) :
    Calls Tryd.prog 27 #[.pointer (some ⟨P, 0, none⟩), u] w fun e w' => e = .returned (.tuple #[]) ∧ ∃ T', PS w0 w' P (pcs T' g) T' G ∧ (∀ j, j < 9 ∨ 11 < j → j ≠ 4 → j ≠ 5 → T' j = T j) ∧ ∃ v4' v5' u5, T' 4 = .lc v4' (us4 ++ [u]) (ls ++ [l]) ∧ T' 5 = .lr v5' (us5 ++ [u5]) (ls ++ [l]) := by
  have l4 := h.ls (by decide) e4
  have l5 := h.ls (by decide) e5
  have hu4 : us4.length + 1 ≤ 10000 := by have := l4.len; omega
  have hu5 : us5.length + 1 ≤ 10000 := by have := l5.len; omega
  have hEu : w.ownsRow 0 57 34 u l.length (EC l) := by have := h.fam.at' 9 (by decide); rw [e9] at this; exact this
  obtain ⟨pu, mu, cu, rfl⟩ : ∃ p1 m1 c1, u = .slice p1 m1 c1 := by obtain ⟨p2, c2, e2, -, -⟩ := O.own_form hEu; exact ⟨p2, _, c2, e2⟩
  obtain ⟨p4, m4, c4, rfl⟩ : ∃ p1 m1 c1, v4 = .slice p1 m1 c1 := by obtain ⟨p2, c2, e2, -, -⟩ := O.own_form l4.row; exact ⟨p2, _, c2, e2⟩
  obtain ⟨p5, m5, c5, rfl⟩ : ∃ p1 m1 c1, v5 = .slice p1 m1 c1 := by obtain ⟨p2, c2, e2, -, -⟩ := O.own_form l5.row; exact ⟨p2, _, c2, e2⟩
  have z4 : w.cell? ⟨P, 4, none⟩ = some (.slice p4 m4 c4) := by rw [h.c (j := 4) (by decide), e4]; rfl
  have z5 : w.cell? ⟨P, 5, none⟩ = some (.slice p5 m5 c5) := by rw [h.c (j := 5) (by decide), e5]; rfl
  obtain ⟨w1, hw1⟩ : ∃ w1, w1 = w.alloc (.cells #[.slice pu mu cu] 60) := ⟨_, rfl⟩
  have hP1 : PS w0 w1 P (pcs T g) (put T 11 (.one 60 w.heap.size (.slice pu mu cu))) G := by rw [hw1]; exact h.fresh (below_alloc _ _) 11 (heap_alloc_new w _) (fun b hb => by rw [show b = w.heap.size from hb]; exact Nat.le_refl _)
  obtain ⟨v', w2, hap, ⟨p3, c3, rfl⟩, hP2⟩ := hP1.app (i := 4) (k := 9) (o := 11) elC (by decide) (by decide) (by decide) (by decide) (show _ = Th.lc (.slice p4 m4 c4) us4 ls by rw [put_other _ _ (by decide)]; exact e4) (show _ = Th.ec (.slice pu mu cu) l by rw [put_other _ _ (by decide)]; exact e9) (put_same _ _ _) hu4 rfl (by decide)
  have HAP1 : Hid ((Builtin.append_ #[36, 36] 36 #[.slice p4 m4 c4, .slice (some ⟨w.heap.size, 0, none⟩) 1 1]).run Tryd.prog (w.alloc (.cells #[.slice pu mu cu] 60)) = .ok (.slice p3 (us4.length + 1) c3) w2) := by rw [← hw1]; exact hap
  generalize hm3 : us4.length + 1 = m3 at *
  obtain ⟨T1, hT1⟩ : ∃ T1, T1 = put (put (put T 11 (.one 60 w.heap.size (.slice pu mu cu))) 4 (.lc (.slice p3 m3 c3) (us4 ++ [.slice pu mu cu]) (ls ++ [l]))) 9 .no := ⟨_, rfl⟩
  rw [← hT1] at hP2
  have hP3 := hP2.store 4 (.slice p3 m3 c3)
  have q4 : w2.cell? ⟨P, 4, none⟩ = some (.slice p4 m4 c4) := hP2.cell (j := 4) (by rw [pcs_get (by decide), e4]; rfl)
  have f4 := hP2.free 4
  have HT14 : Hid (T1 4 = .lc (.slice p3 m3 c3) (us4 ++ [.slice pu mu cu]) (ls ++ [l])) := by rw [hT1, put_other _ _ (by decide)]; exact put_same _ _ _
  have HE5 : Hid (T1 5 = .lr (.slice p5 m5 c5) us5 ls) := by rw [hT1, put_other _ _ (by decide), put_other _ _ (by decide), put_other _ _ (by decide)]; exact e5
  have HTJ : Hid (∀ j, j < 9 ∨ 11 < j → j ≠ 4 → T1 j = T j) := fun j h1 h2 => by rw [hT1, put_other _ _ (by omega), put_other _ _ h2, put_other _ _ (by omega)]
  have HDB : Below (w2.setCell ⟨P, 4, none⟩ (.slice p3 m3 c3)).heap.size (w2.setCell ⟨P, 4, none⟩ (.slice p3 m3 c3)) (w2.setCell ⟨P, 4, none⟩ (.slice p3 m3 c3)).drew := below_drawn 1
  obtain ⟨cs4, hcs4⟩ : ∃ cs4, cs4 = (pcs T g).setIfInBounds 4 (.slice p3 m3 c3) := ⟨_, rfl⟩
  have HC4 : Hid (cs4 = (pcs T g).setIfInBounds 4 (.slice p3 m3 c3)) := hcs4
  rw [← hcs4] at hP3
  have HC5 : Hid (cs4[5]? = some (.slice p5 m5 c5)) := by
    have : (pcs T g)[5]? = some (.slice p5 m5 c5) := by rw [pcs_get (by decide), e5]; rfl
    show _ = _
    rw [hcs4]
    simpa using this
  have HP3 : Hid (PS w0 (w2.setCell ⟨P, 4, none⟩ (.slice p3 m3 c3)).drew P cs4 T1 G) := hP3.later HDB
  have HI0 : EIn (w2.setCell ⟨P, 4, none⟩ (.slice p3 m3 c3)).drew pu l.length l ∧ mu = l.length := by
    have l4' := HP3.out.ls (by decide) HT14.out
    have hr := l4'.each rfl us4.length (.slice pu mu cu) l (by simp) (by rw [← l4.len]; simp)
    obtain ⟨p', c', e', hm', -⟩ := EOwn.in hr hl.2
    cases e'
    exact ⟨hm', rfl⟩
  obtain ⟨hI3, rfl⟩ := HI0
  have HI3 : Hid (EIn (w2.setCell ⟨P, 4, none⟩ (.slice p3 m3 c3)).drew pu l.length l) := hI3
  have HL64 : Hid (l.length ≤ 64) := hl.1
  have mixed : Tryd.prog.follows Departure.mixedOrders = true := by kernel_rfl
  clear hw1 hP1 hap hP2 hP3 hT1 l4 l5 hEu hI3 HDB h hcs4 e4 e5 e9 hl hn
  go_enter Tryd.func27, Tryd.ntmps27
  go_wp2_with ((with_reducible refine at_ops ?_); (refine wpList_append_is (u1 := .slice p4 m4 c4) (u2 := .slice (some ⟨w.heap.size, 0, none⟩) 1 1) (by rfl) rfl rfl rfl rfl HAP1.out ?_); simp only [Act.put, List.setIfInBounds_toArray, List.set_cons_zero, List.set_cons_succ])
  refine wp_region_noPanic ?_
  refine wp_region_last 11 (fun W => W.cell? ⟨P, 5, none⟩ = some (.slice p5 m5 c5)) mixed ?_
  generalize (w2.setCell ⟨P, 4, none⟩ (.slice p3 m3 c3)).drew = wD at *
  generalize hlm : l.length = ml at *
  have hHeld := HP3.out.cell (j := 5) HC5.out
  refine wpAnyL_take (i := 0) (v := ?va1) (by simp; rfl) (by kernel_rfl) (by kernel_rfl) (by kernel_rfl) (by kernel_rfl) (fun _ _ _ h => h) (Or.inl ⟨by rfl, ?ya1⟩) hHeld ?ra1
  case ya1 => intro w hSw; clear hSw; go_simp; with_reducible rfl
  simp only [Act.put, List.setIfInBounds_toArray, List.set_cons_zero, List.set_cons_succ]
  refine wpAnyL_take (i := 1) (v := ?va2) (by simp; rfl) (by kernel_rfl) (by kernel_rfl) (by kernel_rfl) (by kernel_rfl) (fun _ _ _ h => h) (Or.inl ⟨by rfl, ?ya2⟩) hHeld ?ra2
  case ya2 => intro w hSw; clear hSw; go_simp; with_reducible rfl
  simp only [Act.put, List.setIfInBounds_toArray, List.set_cons_zero, List.set_cons_succ]
  refine wpAnyL_take (i := 2) (v := ?va3) (by simp; rfl) (by kernel_rfl) (by kernel_rfl) (by kernel_rfl) (by kernel_rfl) (fun _ _ _ h => h) (Or.inl ⟨by rfl, ?ya3⟩) hHeld ?ra3
  case ya3 => intro w hSw; clear hSw; go_simp; with_reducible rfl
  simp only [Act.put, List.setIfInBounds_toArray, List.set_cons_zero, List.set_cons_succ]
  refine wpAnyL_take (i := 3) (v := ?va4) (by simp; rfl) (by kernel_rfl) (by kernel_rfl) (by kernel_rfl) (by kernel_rfl) (fun _ _ _ h => h) (Or.inl ⟨by rfl, ?ya4⟩) hHeld ?ra4
  case ya4 => intro w hSw; clear hSw; go_simp; with_reducible rfl
  simp only [Act.put, List.setIfInBounds_toArray, List.set_cons_zero, List.set_cons_succ]
  refine wpAnyL_take (i := 4) (v := ?va5) (by simp; rfl) (by kernel_rfl) (by kernel_rfl) (by kernel_rfl) (by kernel_rfl) (fun _ _ _ h => h) (Or.inl ⟨by rfl, ?ya5⟩) hHeld ?ra5
  case ya5 => intro w hSw; have z := hSw; clear hSw; go_simp; with_reducible rfl
  simp only [Act.put, List.setIfInBounds_toArray, List.set_cons_zero, List.set_cons_succ]
  refine wpAnyL_take (i := 5) (v := ?va6) (by simp; rfl) (by kernel_rfl) (by kernel_rfl) (by kernel_rfl) (by kernel_rfl) (fun _ _ _ h => h) (Or.inl ⟨by rfl, ?ya6⟩) hHeld ?ra6
  case ya6 => intro w hSw; clear hSw; go_simp; with_reducible rfl
  simp only [Act.put, List.setIfInBounds_toArray, List.set_cons_zero, List.set_cons_succ]
  refine wpAnyL_ready (rs := [6]) (by kernel_rfl) (by simp) ?_
  refine AllReadyL.cons (by simp; rfl) (fun Kc hKc => ?_) AllReadyL.nil
  go_simp
  refine (plain_at HI3.out (by have := HL64.out; omega)).mono ?_
  rintro e w4 ⟨v6, rfl, ho, hb⟩
  obtain ⟨p6, m6, c6, rfl⟩ : ∃ p6 m6 c6, v6 = .slice p6 m6 c6 := by obtain ⟨p6, c6, e6, -, -⟩ := O.own_form ho; exact ⟨p6, _, c6, e6⟩
  have HP4 : Hid (PS w0 w4 P cs4 (put T1 10 (.er (.slice p6 m6 c6) l)) G) := HP3.out.fresh hb 10 (own_mono ho (Nat.zero_le _)) (fun b hb => (ho.lt b hb).1)
  refine hKc.out _ _ (fun _ => (HP4.out.cell (j := 5) HC5.out)) ?_
  clear hHeld
  have hHeld := (HP4.out.cell (j := 5) HC5.out)
  clear hKc Kc ho hb
  refine wpAnyL_ready (rs := [7]) (by kernel_rfl) (by simp) ?_
  refine AllReadyL.cons (by simp; rfl) (fun Kc hKc => ?_) AllReadyL.nil
  go_simp
  have HP5 : Hid (PS w0 (w4.alloc (.cells #[.slice p6 m6 c6] 46)) P cs4 (put (put T1 10 (.er (.slice p6 m6 c6) l)) 11 (.one 46 w4.heap.size (.slice p6 m6 c6))) G) := HP4.out.fresh (below_alloc _ _) 11 (heap_alloc_new w4 _) (fun b hb => by rw [show b = w4.heap.size from hb]; exact Nat.le_refl _)
  refine hKc.out _ _ (fun _ => (HP5.out.cell (j := 5) HC5.out)) ?_
  clear hHeld
  have hHeld := (HP5.out.cell (j := 5) HC5.out)
  clear hKc Kc HP4
  generalize w4.alloc (.cells #[.slice p6 m6 c6] 46) = w5 at *
  generalize w4.heap.size = g5 at *
  refine wpAnyL_ready (rs := [8]) (by kernel_rfl) (by simp) ?_
  refine AllReadyL.cons (by simp; rfl) (fun Kc hKc => ?_) AllReadyL.nil
  obtain ⟨v', w6, hap, ⟨p7, c7, rfl⟩, hP⟩ := HP5.out.app (i := 5) (k := 10) (o := 11) elW (by decide) (by decide) (by decide) (by decide) (show _ = Th.lr (.slice p5 m5 c5) us5 ls by rw [put_other _ _ (by decide), put_other _ _ (by decide)]; exact HE5.out) (by rw [put_other _ _ (by decide)]; exact put_same _ _ _) (put_same _ _ _) hu5 rfl (by decide)
  have HAP : Hid ((Builtin.append_ #[37, 37] 37 #[.slice p5 m5 c5, .slice (some ⟨g5, 0, none⟩) 1 1]).run Tryd.prog w5 = .ok (.slice p7 (us5.length + 1) c7) w6) := hap
  generalize hm7 : us5.length + 1 = m7 at *
  have HP6 : Hid (PS w0 w6 P cs4 (put (put (put (put T1 10 (.er (.slice p6 m6 c6) l)) 11 (.one 46 g5 (.slice p6 m6 c6))) 5 (.lr (.slice p7 m7 c7) (us5 ++ [.slice p6 m6 c6]) (ls ++ [l]))) 10 .no) G) := hP
  have HQ5 : Hid (w6.cell? ⟨P, 5, none⟩ = some (.slice p5 m5 c5)) := HP6.out.cell (j := 5) HC5.out
  have HF5 : Hid (w6.frozen? ⟨P, 5, none⟩ = false) := HP6.out.free 5
  clear hap hP HP5
  refine step_append_is (u1 := .slice p5 m5 c5) (u2 := .slice (some ⟨g5, 0, none⟩) 1 1) (by rfl) rfl rfl rfl rfl HAP.out ?_
  refine hKc.out _ _ (fun _ => HQ5.out) ?_
  clear hHeld
  have hHeld := HQ5.out
  clear hKc Kc
  simp only [Act.put, List.setIfInBounds_toArray, List.set_cons_zero, List.set_cons_succ]
  refine wpAnyL_ready (rs := [9]) (by kernel_rfl) (by simp) ?_
  refine AllReadyL.cons (by simp; rfl) (fun Kc hKc => ?_) AllReadyL.nil
  go_simp
  refine hKc.out _ _ (fun _ => HQ5.out) ?_
  clear hHeld
  have hHeld := HQ5.out
  clear hKc Kc
  refine wpAnyL_take (i := 10) (v := ?va7) (by simp; rfl) (by kernel_rfl) (by kernel_rfl) (by kernel_rfl) (by kernel_rfl) (fun _ _ _ h => h) (Or.inl ⟨by rfl, ?ya7⟩) hHeld ?ra7
  case ya7 => intro w hSw; clear hSw; go_simp; with_reducible rfl
  simp only [Act.put, List.setIfInBounds_toArray, List.set_cons_zero, List.set_cons_succ]
  refine wpAnyL_ready (rs := [11]) (by kernel_rfl) (by simp) ?_
  refine AllReadyL.cons (by simp; rfl) (fun Kc hKc => ?_) AllReadyL.nil
  have q1 := HQ5.out
  have q2 := HF5.out
  go_simp
  refine hKc.out _ _ (fun h => absurd rfl h) ?_
  clear hKc Kc hHeld q1 q2
  refine wpAnyL_done (by kernel_rfl) (NoPanic.normal ?_) _
  go_wp2
  go_end0
  subst hlm
  obtain ⟨T6, hT6⟩ : ∃ T6, T6 = put (put (put (put T1 10 (.er (.slice p6 m6 c6) l)) 11 (.one 46 g5 (.slice p6 m6 c6))) 5 (.lr (.slice p7 m7 c7) (us5 ++ [.slice p6 m6 c6]) (ls ++ [l]))) 10 .no := ⟨_, rfl⟩
  have hz := HP6.out.store 5 (.slice p7 m7 c7)
  rw [← hT6] at hz
  have k0 : ∀ j, j < 9 ∨ 11 < j → j ≠ 4 → j ≠ 5 → T6 j = T j := fun j h1 h2 h3 => by
    rw [hT6, put_other _ _ (by omega), put_other _ _ h3, put_other _ _ (by omega), put_other _ _ (by omega)]
    exact HTJ.out j h1 h2
  have k4 : T6 4 = .lc (.slice p3 m3 c3) (us4 ++ [.slice pu l.length cu]) (ls ++ [l]) := by
    rw [hT6, put_other _ _ (by decide), put_other _ _ (by decide), put_other _ _ (by decide), put_other _ _ (by decide)]
    exact HT14.out
  have k5 : T6 5 = .lr (.slice p7 m7 c7) (us5 ++ [.slice p6 m6 c6]) (ls ++ [l]) := by rw [hT6, put_other _ _ (by decide)]; exact put_same _ _ _
  have he : cs4.setIfInBounds 5 (.slice p7 m7 c7) = pcs T6 g := by
    rw [HC4.out]
    simp only [pcs, k0 0 (by decide) (by decide) (by decide), k0 1 (by decide) (by decide) (by decide), k0 2 (by decide) (by decide) (by decide), k0 3 (by decide) (by decide) (by decide), k0 6 (by decide) (by decide) (by decide), k0 7 (by decide) (by decide) (by decide), k0 8 (by decide) (by decide) (by decide), k4, k5]
    rfl
  rw [he] at hz
  exact ⟨rfl, T6, hz, k0, (.slice p3 m3 c3), (.slice p7 m7 c7), (.slice p6 m6 c6), k4, k5⟩
end
end W
end Go.Proofs.YthcpnfelnonhnaaDoor
