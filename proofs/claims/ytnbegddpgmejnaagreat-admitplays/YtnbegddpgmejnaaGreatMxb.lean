/-
  Layer 13: apart.
-/
import Derived.Test.YtnbegddpgmejnaaGreatM3
import Derived.Test.YtnbegddpgmejnaaGreatWe
namespace Go.Proofs.YtnbegddpgmejnaaGreat
open Go.RowKit

variable {w0 w w' : World} {P : Nat} {q : Nat → Nat} {S D : Nat → Ad} {X : Nat → Th} {N a b j k k2 : Nat}

/-- the same places of two rows of lists -/
theorem two_at {t e : TypeId} {cc : Int → Value} {p p' : Option Addr} {n c c' : Nat} {us us' : List Value} {fs : List (List Int)} {k : Nat} (h : Lists w t e cc (.slice p n c) us fs) (h' : Lists w t e cc (.slice p' n c') us' fs) (hl : us.length = n) (hl' : us'.length = n) (hM : (∀ f ∈ fs, f.length ≤ 1000) ∧ n ≤ 5000) (hk : k < n) : ∃ g g' pa ca pb cb f, p = some ⟨g, 0, none⟩ ∧ p' = some ⟨g', 0, none⟩ ∧ w.cell? ⟨g, k, none⟩ = some (.slice pa f.length ca) ∧ w.cell? ⟨g', k, none⟩ = some (.slice pb f.length cb) ∧ w.ownsRow 0 e 1 (.slice pa f.length ca) f.length (List.map cc f) ∧ w.ownsRow 0 e 1 (.slice pb f.length cb) f.length (List.map cc f) ∧ f.length ≤ 1000 := by
  have hu : us[k]? = some us[k] := List.getElem?_eq_getElem (by omega)
  have hu' : us'[k]? = some us'[k] := List.getElem?_eq_getElem (by omega)
  have hf : fs[k]? = some (fs[k]'(by rw [h.len]; omega)) := List.getElem?_eq_getElem _
  have o1 := h.each k _ _ hu hf
  have o2 := h'.each k _ _ hu' hf
  obtain ⟨pa, ca, e1⟩ := own_shape o1
  obtain ⟨pb, cb, e2⟩ := own_shape o2
  rw [e1] at o1 hu
  rw [e2] at o2 hu'
  obtain ⟨g, ep, hc⟩ := list_at h.row hu
  obtain ⟨g', ep', hc'⟩ := list_at h'.row hu'
  exact ⟨g, g', pa, ca, pb, cb, _, ep, ep', hc, hc', o1, o2, hM.1 _ (List.getElem_mem _)⟩
set_option maxHeartbeats 16000000 in
set_option maxRecDepth 100000 in
theorem apart_at (h : St w0 w P q S D X N a b) (ha : a ≤ 4500) (hb : b ≤ 4500) : Calls Tryz.prog 11 #[qp P] w fun e w' => e = .returned (.bool true) ∧ Below w0.heap.size w0 w' := by
  obtain ⟨T, G, hp, hs⟩ := h
  obtain ⟨v4, us4, v5, us5, fs, t4, t5, hfl, hfb⟩ := hs.fo
  obtain ⟨v6, us6, v7, us7, ls, t6, t7, hll, hlb⟩ := hs.li
  have l4 : IL w v4 us4 fs := by have h1 := hp.fam.at' 4 (by omega); rw [t4] at h1; exact h1
  have l5 : IL w v5 us5 fs := by have h1 := hp.fam.at' 5 (by omega); rw [t5] at h1; exact h1
  have l6 : UL w v6 us6 ls := by have h1 := hp.fam.at' 6 (by omega); rw [t6] at h1; exact h1
  have l7 : UL w v7 us7 ls := by have h1 := hp.fam.at' 7 (by omega); rw [t7] at h1; exact h1
  have lo4 : ∀ b, LFt v4 us4 b → w0.heap.size ≤ b := fun b hb => hp.fam.lo 4 (by omega) b (by rw [t4]; exact hb)
  have lo6 : ∀ b, LFt v6 us6 b → w0.heap.size ≤ b := fun b hb => hp.fam.lo 6 (by omega) b (by rw [t6]; exact hb)
  have d4 := hp.cl (j := 4) (by omega)
  have d5 := hp.cl (j := 5) (by omega)
  have d6 := hp.cl (j := 6) (by omega)
  have d7 := hp.cl (j := 7) (by omega)
  rw [t4] at d4
  rw [t5] at d5
  rw [t6] at d6
  rw [t7] at d7
  obtain ⟨nf, hnf⟩ : ∃ nf, us4.length = nf := ⟨_, rfl⟩
  obtain ⟨nl, hnl⟩ : ∃ nl, us6.length = nl := ⟨_, rfl⟩
  have hnf5 : us5.length = nf := by rw [← l5.len, l4.len]; exact hnf
  have hnl7 : us7.length = nl := by rw [← l7.len, l6.len]; exact hnl
  obtain ⟨p4, k4, e4⟩ := own_shape l4.row
  obtain ⟨p5, k5, e5⟩ := own_shape l5.row
  obtain ⟨p6, k6, e6⟩ := own_shape l6.row
  obtain ⟨p7, k7, e7⟩ := own_shape l7.row
  rw [hnf] at e4
  rw [hnf5] at e5
  rw [hnl] at e6
  rw [hnl7] at e7
  subst e4 e5 e6 e7
  have c4 : w.cell? ⟨P, 4, none⟩ = some (.slice p4 nf k4) := d4
  have c5 : w.cell? ⟨P, 5, none⟩ = some (.slice p5 nf k5) := d5
  have c6 : w.cell? ⟨P, 6, none⟩ = some (.slice p6 nl k6) := d6
  have c7 : w.cell? ⟨P, 7, none⟩ = some (.slice p7 nl k7) := d7
  have HC : Hid (w.cell? ⟨P, 4, none⟩ = some (.slice p4 nf k4) ∧ w.cell? ⟨P, 5, none⟩ = some (.slice p5 nf k5) ∧ w.cell? ⟨P, 6, none⟩ = some (.slice p6 nl k6) ∧ w.cell? ⟨P, 7, none⟩ = some (.slice p7 nl k7)) := ⟨c4, c5, c6, c7⟩
  obtain ⟨CS, hCS⟩ : ∃ CS, CS = pcs T := ⟨_, rfl⟩
  have hpr := hp.pr
  rw [← hCS] at hpr
  have HCS : Hid (CS[4]? = some (.slice p4 nf k4) ∧ CS[6]? = some (.slice p6 nl k6)) := ⟨(cell_of_row _ P 4 _ 41 (0, 0) hpr).symm.trans c4, (cell_of_row _ P 6 _ 41 (0, 0) hpr).symm.trans c6⟩
  have L4 : Hid (IL w (.slice p4 nf k4) us4 fs) := l4
  have L5 : Hid (IL w (.slice p5 nf k5) us5 fs) := l5
  have L6 : Hid (UL w (.slice p6 nl k6) us6 ls) := l6
  have L7 : Hid (UL w (.slice p7 nl k7) us7 ls) := l7
  have n1 : nf ≤ 4500 := by have := l4.len; omega
  have n2 : nl ≤ 4500 := by have := l6.len; omega
  have HLF : Hid (us4.length = nf ∧ us5.length = nf ∧ (∀ f ∈ fs, f.length ≤ 1000) ∧ nf ≤ 5000) := ⟨hnf, hnf5, fun f hf => Nat.le_trans (hfb f hf) (by omega), by omega⟩
  have HLL : Hid (us6.length = nl ∧ us7.length = nl ∧ (∀ f ∈ ls, f.length ≤ 1000) ∧ nl ≤ 5000) := ⟨hnl, hnl7, hlb, by omega⟩
  have HVF : Hid (∀ (k : Nat) u, us4[k]? = some u → ∃ q m cc, u = .slice q m cc ∧ m ≤ 16 ∧ (0 < m → ∃ g, q = some ⟨g, 0, none⟩)) := fun k u hu => l4.val hfb k u hu
  have HVL : Hid (∀ (k : Nat) u, us6[k]? = some u → ∃ q m cc, u = .slice q m cc ∧ m ≤ 1000 ∧ (0 < m → ∃ g, q = some ⟨g, 0, none⟩)) := fun k u hu => l6.val hlb k u hu
  have HST : Hid (Ag w0 w0.heap.size P CS (.slice p4 nf k4) us4 (.slice p6 nl k6) us6 w.heap.size nils [] nils [] (fun (c _ : Nat) => c < 0) (fun (c _ : Nat) => c < 0) (fun (v : Value) (c : Nat) => us4[c]? = some v) (fun (v : Value) (c : Nat) => us6[c]? = some v) w) := ⟨hpr, l4.row, l6.row, hp.below, l4.col lo4 Pf, l6.col lo6 Pt, fun _ _ h => h, fun _ _ h => h, World.ownsRow_nil _ _ _ _, fun m u hu => (by cases hu), World.ownsRow_nil _ _ _ _, fun m u hu => (by cases hu), fun g hg => (l4.row.lt g hg).2, fun g hg => (l6.row.lt g hg).2, Nat.le_refl _, hp.below.size⟩
  clear hp hs t4 t5 t6 t7 hfl hfb hll hlb l4 l5 l6 l7 lo4 lo6 d4 d5 d6 d7 hnf hnl hnf5 hnl7 hCS hpr c4 c5 c6 c7
  go_enter Tryz.func11, Tryz.ntmps11
  go_wp2_with fail
  go_loopw [3] (fun i wr => ∃ k : Nat, k ≤ nf ∧ i = .int .i64 k ∧ Hid (∃ m, wr = w.drewN m)) (fun i _ => nf - (intOf i).toNat)
  case atStart => exact ⟨0, Nat.zero_le _, rfl, ⟨0, rfl⟩⟩
  case round =>
    obtain ⟨k, hk, rfl, HM⟩ := hrel
    have x4 : wr.cell? ⟨P, 4, none⟩ = some (.slice p4 nf k4) := by obtain ⟨m, rfl⟩ := HM.out; exact HC.out.1
    have x5 : wr.cell? ⟨P, 5, none⟩ = some (.slice p5 nf k5) := by obtain ⟨m, rfl⟩ := HM.out; exact HC.out.2.1
    by_cases hlt : k < nf
    · obtain ⟨g, g', pa, ca, pb, cb, f, ep, ep', y1, y2, o1, o2, hfl⟩ := two_at L4.out L5.out HLF.out.1 HLF.out.2.1 HLF.out.2.2 hlt
      subst ep
      subst ep'
      have O1 : Hid (wr.ownsRow 0 3 1 (.slice pa f.length ca) f.length (f.map (Value.int .i64)) ∧ wr.ownsRow 0 3 1 (.slice pb f.length cb) f.length (f.map (Value.int .i64))) := by obtain ⟨m, rfl⟩ := HM.out; exact ⟨o1, o2⟩
      have y1' : wr.cell? ⟨g, k, none⟩ = some (.slice pa f.length ca) := by obtain ⟨m, rfl⟩ := HM.out; exact y1
      have y2' : wr.cell? ⟨g', k, none⟩ = some (.slice pb f.length cb) := by obtain ⟨m, rfl⟩ := HM.out; exact y2
      have v1 : wr.drew.cell? ⟨g, k, none⟩ = some (.slice pa f.length ca) := y1'
      have v2 : wr.drew.cell? ⟨g', k, none⟩ = some (.slice pb f.length cb) := y2'
      have u1 : wr.drew.cell? ⟨P, 4, none⟩ = some (.slice (some ⟨g, 0, none⟩) nf k4) := x4
      have u2 : wr.drew.cell? ⟨P, 5, none⟩ = some (.slice (some ⟨g', 0, none⟩) nf k5) := x5
      have i1 : (k : Int) < (nf : Int) := by omega
      have i0 : (0 : Int) ≤ (k : Int) := by omega
      clear y1 y2 o1 o2
      go_wp2_with fail
      go_quiet ((go_at_call 17; exact Calls.quiet_of (same_form (own_later O1.out.1 (below_drawn _)) (own_later O1.out.2 (below_drawn _)) hfl)))
      go_wp2_with fail
      go_roundw
      case rel => exact ⟨k + 1, by omega, by go_num, drew_more HM.out nq⟩
      case measure => simp [intOf]; omega
    · have hnl : ¬ (k : Int) < (nf : Int) := by omega
      go_wp2_with fail
      clear x4 x5
      go_loopw [4] (fun i wr => ∃ k : Nat, k ≤ nl ∧ i = .int .i64 k ∧ Hid (∃ m, wr = w.drewN m)) (fun i _ => nl - (intOf i).toNat)
      case atStart => exact ⟨0, Nat.zero_le _, rfl, HM.out⟩
      case round =>
        obtain ⟨k, hk, rfl, HM⟩ := hrel
        have x6 : wr.cell? ⟨P, 6, none⟩ = some (.slice p6 nl k6) := by obtain ⟨m, rfl⟩ := HM.out; exact HC.out.2.2.1
        have x7 : wr.cell? ⟨P, 7, none⟩ = some (.slice p7 nl k7) := by obtain ⟨m, rfl⟩ := HM.out; exact HC.out.2.2.2
        by_cases hlt : k < nl
        · obtain ⟨g, g', pa, ca, pb, cb, f, ep, ep', y1, y2, o1, o2, hfl⟩ := two_at L6.out L7.out HLL.out.1 HLL.out.2.1 HLL.out.2.2 hlt
          subst ep
          subst ep'
          have O1 : Hid (wr.ownsRow 0 44 1 (.slice pa f.length ca) f.length (f.map (Value.int .u64)) ∧ wr.ownsRow 0 44 1 (.slice pb f.length cb) f.length (f.map (Value.int .u64))) := by obtain ⟨m, rfl⟩ := HM.out; exact ⟨o1, o2⟩
          have y1' : wr.cell? ⟨g, k, none⟩ = some (.slice pa f.length ca) := by obtain ⟨m, rfl⟩ := HM.out; exact y1
          have y2' : wr.cell? ⟨g', k, none⟩ = some (.slice pb f.length cb) := by obtain ⟨m, rfl⟩ := HM.out; exact y2
          have v1 : wr.drew.cell? ⟨g, k, none⟩ = some (.slice pa f.length ca) := y1'
          have v2 : wr.drew.cell? ⟨g', k, none⟩ = some (.slice pb f.length cb) := y2'
          have u1 : wr.drew.cell? ⟨P, 6, none⟩ = some (.slice (some ⟨g, 0, none⟩) nl k6) := x6
          have u2 : wr.drew.cell? ⟨P, 7, none⟩ = some (.slice (some ⟨g', 0, none⟩) nl k7) := x7
          have i1 : (k : Int) < (nl : Int) := by omega
          have i0 : (0 : Int) ≤ (k : Int) := by omega
          clear y1 y2 o1 o2
          go_wp2_with fail
          go_quiet ((go_at_call 44; exact Calls.quiet_of (same_line (own_later O1.out.1 (below_drawn _)) (own_later O1.out.2 (below_drawn _)) hfl)))
          go_wp2_with fail
          go_roundw
          case rel => exact ⟨k + 1, by omega, by go_num, drew_more HM.out nq⟩
          case measure => simp [intOf]; omega
        · have hnl : ¬ (k : Int) < (nl : Int) := by omega
          obtain ⟨Bl, hBl⟩ : ∃ Bl, Bl = w.heap.size := ⟨_, rfl⟩
          have HP3 : Hid (Ag w0 w0.heap.size P CS (.slice p4 nf k4) us4 (.slice p6 nl k6) us6 Bl nils [] nils [] (fun (c _ : Nat) => c < 0) (fun (c _ : Nat) => c < 0) (fun (v : Value) (c : Nat) => us4[c]? = some v) (fun (v : Value) (c : Nat) => us6[c]? = some v) wr) := by
            obtain ⟨m, rfl⟩ := HM.out
            rw [hBl]
            exact HST.out.later (below_drawn m)
          clear HM
          go_wp2_with fail
          clear x6 x7
          go_loopw [5] (fun i wr => ∃ k : Nat, k ≤ nf ∧ i = .int .i64 k ∧ Hid (Ag w0 w0.heap.size P CS (.slice p4 nf k4) us4 (.slice p6 nl k6) us6 Bl nils [] nils [] (fun c _ => c < k) (fun (c _ : Nat) => c < 0) (fun (v : Value) (c : Nat) => us4[c]? = some v) (fun (v : Value) (c : Nat) => us6[c]? = some v) wr)) (fun i _ => nf - (intOf i).toNat)
          case atStart => exact ⟨0, Nat.zero_le _, rfl, HP3.out⟩
          case round =>
            clear HP3
            obtain ⟨k, hk, rfl, HI⟩ := hrel
            obtain ⟨wo, hwo⟩ : ∃ wo, wo = wr := ⟨_, rfl⟩
            subst hwo
            have z4 : wo.cell? ⟨P, 4, none⟩ = some (.slice p4 nf k4) := (cell_of_row _ P 4 _ 41 (0, 0) HI.out.pr).trans HCS.out.1
            by_cases hlt : k < nf
            · obtain ⟨u, hu⟩ : ∃ u, us4[k]? = some u := ⟨_, List.getElem?_eq_getElem (by rw [HLF.out.1]; exact hlt)⟩
              obtain ⟨qu, m, c2, rfl, hm100, hq⟩ := HVF.out k u hu
              obtain ⟨gl, egl, z1⟩ := list_at (HI.out.l4) hu
              subst egl
              have HU : Hid (us4[k]? = some (.slice qu m c2)) := hu
              have HQ2 : Hid (0 < m → ∃ g, qu = some ⟨g, 0, none⟩) := hq
              have i1 : (k : Int) < (nf : Int) := by omega
              have i0 : (0 : Int) ≤ (k : Int) := by omega
              have HP4 : Hid (Ag w0 w0.heap.size P CS (.slice (some ⟨gl, 0, none⟩) nf k4) us4 (.slice p6 nl k6) us6 Bl nils [] nils [] (fun c x => c < k ∨ (c = k ∧ x < 0)) (fun (c _ : Nat) => c < 0) (fun (v : Value) (c : Nat) => us4[c]? = some v) (fun (v : Value) (c : Nat) => us6[c]? = some v) wo) := HI.out.weakI fun v c _ x _ h => by rcases h with h | ⟨_, h⟩; exact h; omega
              clear hu hq HI
              go_wp2_with fail
              clear z1 z4
              go_loopw [6] (fun i wr => ∃ j : Nat, j ≤ m ∧ i = .int .i64 j ∧ Hid (Ag w0 w0.heap.size P CS (.slice (some ⟨gl, 0, none⟩) nf k4) us4 (.slice p6 nl k6) us6 Bl nils [] nils [] (fun c x => c < k ∨ (c = k ∧ x < j)) (fun (c _ : Nat) => c < 0) (fun (v : Value) (c : Nat) => us4[c]? = some v) (fun (v : Value) (c : Nat) => us6[c]? = some v) wr)) (fun i _ => m - (intOf i).toNat)
              case atStart => exact ⟨0, Nat.zero_le _, rfl, HP4.out⟩
              case round =>
                clear HP4
                obtain ⟨j, hj, rfl, HJ⟩ := hrel
                have z4 : wr.cell? ⟨P, 4, none⟩ = some (.slice (some ⟨gl, 0, none⟩) nf k4) := (cell_of_row _ P 4 _ 41 (0, 0) HJ.out.pr).trans HCS.out.1
                obtain ⟨gl', egl, z1'⟩ := list_at (HJ.out.l4) HU.out
                have z1 : wr.cell? ⟨gl, k, none⟩ = some (.slice qu m c2) := by cases egl; exact z1'
                clear egl z1'
                by_cases hjt : j < m
                · obtain ⟨g, rfl⟩ := HQ2.out (by omega)
                  have hap := HJ.out.markI (D' := fun c x => c < k ∨ (c = k ∧ x < j + 1)) (g := g) (n := m) (c := c2) (i := k) HU.out (fun v hv => by have h2 := HU.out; rw [hv] at h2; exact Option.some.inj h2) j hjt (fun c x h => by omega)
                  obtain ⟨u0, z2, z3, -⟩ := HJ.out.cf.cell1 (c := k) HU.out j hjt
                  have HN : Hid (Ag w0 w0.heap.size P CS (.slice (some ⟨gl, 0, none⟩) nf k4) us4 (.slice p6 nl k6) us6 Bl nils [] nils [] (fun c x => c < k ∨ (c = k ∧ x < j + 1)) (fun (c _ : Nat) => c < 0) (fun (v : Value) (c : Nat) => us4[c]? = some v) (fun (v : Value) (c : Nat) => us6[c]? = some v) (wr.setCell ⟨g, j, none⟩ (.int .i64 (-100 - (k : Int))))) := hap
                  have hwr : IntKind.i64.wrap (-100 - (k : Int)) = -100 - (k : Int) := by rw [IntKind.wrap_i64]; omega
                  have j1 : (j : Int) < (m : Int) := by omega
                  have j0 : (0 : Int) ≤ (j : Int) := by omega
                  clear hap HJ
                  go_wp2_with fail
                  go_roundw
                  case rel => exact ⟨j + 1, by omega, by go_num, HN.out⟩
                  case measure => simp [intOf]; omega
                · have hjn : ¬ (j : Int) < (m : Int) := by omega
                  have HN : Hid (Ag w0 w0.heap.size P CS (.slice (some ⟨gl, 0, none⟩) nf k4) us4 (.slice p6 nl k6) us6 Bl nils [] nils [] (fun c _ => c < k + 1) (fun (c _ : Nat) => c < 0) (fun (v : Value) (c : Nat) => us4[c]? = some v) (fun (v : Value) (c : Nat) => us6[c]? = some v) wr) := HJ.out.weakI fun v c hv x hx h => by
                    rcases Nat.lt_or_ge c k with a | a
                    · exact .inl a
                    · have ec : c = k := by omega
                      subst ec
                      have h2 := HU.out
                      rw [hv] at h2
                      have e2 := Option.some.inj h2
                      rw [e2] at hx
                      have hx' : x < m * 1 := hx
                      exact .inr ⟨rfl, by omega⟩
                  clear HJ
                  go_wp2_with fail
                  go_roundw
                  case rel => exact ⟨k + 1, by omega, by go_num, HN.out⟩
                  case measure => simp [intOf]; omega
            · have hnl : ¬ (k : Int) < (nf : Int) := by omega
              have HP5 : Hid (Ag w0 w0.heap.size P CS (.slice p4 nf k4) us4 (.slice p6 nl k6) us6 Bl nils [] nils [] TT (fun (c _ : Nat) => c < 0) (fun (v : Value) (c : Nat) => us4[c]? = some v) (fun (v : Value) (c : Nat) => us6[c]? = some v) wo) := HI.out.weakI fun v c hv x hx _ => by
                have := (List.getElem?_eq_some_iff.1 hv).1
                have := HLF.out.1
                show c < k
                omega
              clear HI
              go_wp2_with fail
              clear z4
              go_loopw [7] (fun i wr => ∃ k : Nat, k ≤ nl ∧ i = .int .i64 k ∧ Hid (Ag w0 w0.heap.size P CS (.slice p4 nf k4) us4 (.slice p6 nl k6) us6 Bl nils [] nils [] TT (fun c _ => c < k) (fun (v : Value) (c : Nat) => us4[c]? = some v) (fun (v : Value) (c : Nat) => us6[c]? = some v) wr)) (fun i _ => nl - (intOf i).toNat)
              case atStart => exact ⟨0, Nat.zero_le _, rfl, HP5.out⟩
              case round =>
                clear HP5
                obtain ⟨k, hk, rfl, HI⟩ := hrel
                obtain ⟨wo, hwo⟩ : ∃ wo, wo = wr := ⟨_, rfl⟩
                subst hwo
                have z4 : wo.cell? ⟨P, 6, none⟩ = some (.slice p6 nl k6) := (cell_of_row _ P 6 _ 41 (0, 0) HI.out.pr).trans HCS.out.2
                by_cases hlt : k < nl
                · obtain ⟨u, hu⟩ : ∃ u, us6[k]? = some u := ⟨_, List.getElem?_eq_getElem (by rw [HLL.out.1]; exact hlt)⟩
                  obtain ⟨qu, m, c2, rfl, hm100, hq⟩ := HVL.out k u hu
                  obtain ⟨gl, egl, z1⟩ := list_at (HI.out.l6) hu
                  subst egl
                  have HU : Hid (us6[k]? = some (.slice qu m c2)) := hu
                  have HQ2 : Hid (0 < m → ∃ g, qu = some ⟨g, 0, none⟩) := hq
                  have i1 : (k : Int) < (nl : Int) := by omega
                  have i0 : (0 : Int) ≤ (k : Int) := by omega
                  have HP4 : Hid (Ag w0 w0.heap.size P CS (.slice p4 nf k4) us4 (.slice (some ⟨gl, 0, none⟩) nl k6) us6 Bl nils [] nils [] TT (fun c x => c < k ∨ (c = k ∧ x < 0)) (fun (v : Value) (c : Nat) => us4[c]? = some v) (fun (v : Value) (c : Nat) => us6[c]? = some v) wo) := HI.out.weakU fun v c _ x _ h => by rcases h with h | ⟨_, h⟩; exact h; omega
                  clear hu hq HI
                  go_wp2_with fail
                  clear z1 z4
                  go_loopw [8] (fun i wr => ∃ j : Nat, j ≤ m ∧ i = .int .i64 j ∧ Hid (Ag w0 w0.heap.size P CS (.slice p4 nf k4) us4 (.slice (some ⟨gl, 0, none⟩) nl k6) us6 Bl nils [] nils [] TT (fun c x => c < k ∨ (c = k ∧ x < j)) (fun (v : Value) (c : Nat) => us4[c]? = some v) (fun (v : Value) (c : Nat) => us6[c]? = some v) wr)) (fun i _ => m - (intOf i).toNat)
                  case atStart => exact ⟨0, Nat.zero_le _, rfl, HP4.out⟩
                  case round =>
                    clear HP4
                    obtain ⟨j, hj, rfl, HJ⟩ := hrel
                    have z4 : wr.cell? ⟨P, 6, none⟩ = some (.slice (some ⟨gl, 0, none⟩) nl k6) := (cell_of_row _ P 6 _ 41 (0, 0) HJ.out.pr).trans HCS.out.2
                    obtain ⟨gl', egl, z1'⟩ := list_at (HJ.out.l6) HU.out
                    have z1 : wr.cell? ⟨gl, k, none⟩ = some (.slice qu m c2) := by cases egl; exact z1'
                    clear egl z1'
                    by_cases hjt : j < m
                    · obtain ⟨g, rfl⟩ := HQ2.out (by omega)
                      have hap := HJ.out.markU (D' := fun c x => c < k ∨ (c = k ∧ x < j + 1)) (g := g) (n := m) (c := c2) (i := k) HU.out (fun v hv => by have h2 := HU.out; rw [hv] at h2; exact Option.some.inj h2) j hjt (fun c x h => by omega)
                      obtain ⟨u0, z2, z3, -⟩ := HJ.out.ct.cell1 (c := k) HU.out j hjt
                      have HN : Hid (Ag w0 w0.heap.size P CS (.slice p4 nf k4) us4 (.slice (some ⟨gl, 0, none⟩) nl k6) us6 Bl nils [] nils [] TT (fun c x => c < k ∨ (c = k ∧ x < j + 1)) (fun (v : Value) (c : Nat) => us4[c]? = some v) (fun (v : Value) (c : Nat) => us6[c]? = some v) (wr.setCell ⟨g, j, none⟩ (.int .u64 (1000000 + (k : Int))))) := hap
                      have hwr : IntKind.i64.wrap (1000000 + (k : Int)) = 1000000 + (k : Int) := by rw [IntKind.wrap_i64]; omega
                      have hwu : IntKind.u64.wrap (1000000 + (k : Int)) = 1000000 + (k : Int) := by rw [IntKind.wrap_u64]; omega
                      have j1 : (j : Int) < (m : Int) := by omega
                      have j0 : (0 : Int) ≤ (j : Int) := by omega
                      clear hap HJ
                      go_wp2_with fail
                      go_roundw
                      case rel => exact ⟨j + 1, by omega, by go_num, HN.out⟩
                      case measure => simp [intOf]; omega
                    · have hjn : ¬ (j : Int) < (m : Int) := by omega
                      have HN : Hid (Ag w0 w0.heap.size P CS (.slice p4 nf k4) us4 (.slice (some ⟨gl, 0, none⟩) nl k6) us6 Bl nils [] nils [] TT (fun c _ => c < k + 1) (fun (v : Value) (c : Nat) => us4[c]? = some v) (fun (v : Value) (c : Nat) => us6[c]? = some v) wr) := HJ.out.weakU fun v c hv x hx h => by
                        rcases Nat.lt_or_ge c k with a | a
                        · exact .inl a
                        · have ec : c = k := by omega
                          subst ec
                          have h2 := HU.out
                          rw [hv] at h2
                          have e2 := Option.some.inj h2
                          rw [e2] at hx
                          have hx' : x < m * 1 := hx
                          exact .inr ⟨rfl, by omega⟩
                      clear HJ
                      go_wp2_with fail
                      go_roundw
                      case rel => exact ⟨k + 1, by omega, by go_num, HN.out⟩
                      case measure => simp [intOf]; omega
                · have hnl : ¬ (k : Int) < (nl : Int) := by omega
                  have HP7 : Hid (Ag w0 w0.heap.size P CS (.slice p4 nf k4) us4 (.slice p6 nl k6) us6 Bl nils [] nils [] TT TT (fun (v : Value) (c : Nat) => us4[c]? = some v) (fun (v : Value) (c : Nat) => us6[c]? = some v) wo) := HI.out.weakU fun v c hv x hx _ => by
                    have := (List.getElem?_eq_some_iff.1 hv).1
                    have := HLL.out.1
                    show c < k
                    omega
                  clear HI
                  go_wp2_with fail
                  clear z4
                  go_loopw [9, 10] (fun v i wr => ∃ k : Nat, k ≤ nf ∧ i = .int .i64 k ∧ ∃ qv cv, v = .slice qv k cv ∧ Hid (∃ F lo, lo.length = k ∧ Ag w0 w0.heap.size P CS (.slice p4 nf k4) us4 (.slice p6 nl k6) us6 Bl (.slice qv k cv) lo nils [] TT TT F (fun (v : Value) (c : Nat) => us6[c]? = some v) wr)) (fun _ i _ => nf - (intOf i).toNat)
                  case atStart => exact ⟨0, Nat.zero_le _, rfl, none, 0, rfl, _, [], rfl, HP7.out⟩
                  case round =>
                    clear HP7
                    obtain ⟨k, hk, rfl, ql, cl, rfl, HI⟩ := hrel
                    obtain ⟨wo, hwo⟩ : ∃ wo, wo = wr := ⟨_, rfl⟩
                    subst hwo
                    have z4 : wo.cell? ⟨P, 4, none⟩ = some (.slice p4 nf k4) := by
                      obtain ⟨F, lo, -, h1⟩ := HI.out
                      exact (cell_of_row _ P 4 _ 41 (0, 0) h1.pr).trans HCS.out.1
                    by_cases hlt : k < nf
                    · obtain ⟨u, hu⟩ : ∃ u, us4[k]? = some u := ⟨_, List.getElem?_eq_getElem (by rw [HLF.out.1]; exact hlt)⟩
                      obtain ⟨qu, m, c2, rfl, hm100, hq⟩ := HVF.out k u hu
                      obtain ⟨gl, egl, z1⟩ : ∃ gl, p4 = some ⟨gl, 0, none⟩ ∧ wo.cell? ⟨gl, k, none⟩ = some (.slice qu m c2) := by
                        obtain ⟨F, lo, -, h1⟩ := HI.out
                        exact list_at (h1.l4) hu
                      subst egl
                      have HX0 : Hid (∃ F lo, lo.length = k ∧ F (.slice qu (m + 0) c2) k ∧ Ag w0 w0.heap.size P CS (.slice (some ⟨gl, 0, none⟩) nf k4) us4 (.slice p6 nl k6) us6 Bl (.slice ql k cl) lo nils [] TT TT F (fun (v : Value) (c : Nat) => us6[c]? = some v) wo) := by
                        obtain ⟨F, lo, h0, h1⟩ := HI.out
                        exact ⟨F, lo, h0, h1.f0 k _ hu, h1⟩
                      have i1 : (k : Int) < (nf : Int) := by omega
                      have i0 : (0 : Int) ≤ (k : Int) := by omega
                      clear hu hq HI
                      go_wp2_with fail
                      clear z1 z4
                      go_loopw [11, 12] (fun v i wr => ∃ j : Nat, j ≤ 16 ∧ i = .int .i64 j ∧ ∃ qx mx cx, v = .slice qx mx cx ∧ Hid (mx = m + j ∧ ∃ F lo, lo.length = k ∧ F (.slice qx mx cx) k ∧ Ag w0 w0.heap.size P CS (.slice (some ⟨gl, 0, none⟩) nf k4) us4 (.slice p6 nl k6) us6 Bl (.slice ql k cl) lo nils [] TT TT F (fun (v : Value) (c : Nat) => us6[c]? = some v) wr)) (fun _ i _ => 16 - (intOf i).toNat)
                      case atStart => exact ⟨0, Nat.zero_le _, rfl, qu, m, c2, rfl, rfl, HX0.out⟩
                      case round =>
                        clear HX0
                        obtain ⟨j, hj, rfl, qx, mx, cx, rfl, HX⟩ := hrel
                        by_cases hjt : j < 16
                        · obtain ⟨q', c', W', hrun, HN⟩ : ∃ q' c' W', Hid ((Builtin.append_ #[43, 43] 43 #[.slice qx mx cx, .slice (some ⟨wr.heap.size, 0, none⟩) 1 1]).run Tryz.prog (wr.alloc (.cells #[(.int .i64 (-100 - (k : Int)))] 3)) = .ok (.slice q' (mx + 1) c') W') ∧ Hid (mx + 1 = m + (j + 1) ∧ ∃ F lo, lo.length = k ∧ F (.slice q' (mx + 1) c') k ∧ Ag w0 w0.heap.size P CS (.slice (some ⟨gl, 0, none⟩) nf k4) us4 (.slice p6 nl k6) us6 Bl (.slice ql k cl) lo nils [] TT TT F (fun (v : Value) (c : Nat) => us6[c]? = some v) W') := by
                            obtain ⟨h0, F, lo, h1, h2, h3⟩ := HX.out
                            obtain ⟨q', c', W', F', hr, h4, h5⟩ := h3.appI h2 (by omega)
                            exact ⟨q', c', W', hr, by omega, F', lo, h1, h4, h5⟩
                          have hwr : IntKind.i64.wrap (-100 - (k : Int)) = -100 - (k : Int) := by rw [IntKind.wrap_i64]; omega
                          have j1 : (j : Int) < 16 := by omega
                          clear HX
                          go_wp2_with (at_builtin; refine wpList_app_is rfl (.tmp 156) (.tmp 159) 43 rfl (.slice qx mx cx) (.slice (some ⟨wr.heap.size, 0, none⟩) 1 1) (.slice q' (mx + 1) c') rfl rfl hrun.out ?_)
                          go_roundw
                          case rel => exact ⟨j + 1, by omega, by go_num, q', mx + 1, c', rfl, HN.out⟩
                          case measure => simp [intOf]; omega
                        · have j1 : ¬ (j : Int) < 16 := by omega
                          obtain ⟨ql', cl', W', hrun, HN⟩ : ∃ ql' cl' W', Hid ((Builtin.append_ #[38, 38] 38 #[.slice ql k cl, .slice (some ⟨wr.heap.size, 0, none⟩) 1 1]).run Tryz.prog (wr.alloc (.cells #[.slice qx mx cx] 43)) = .ok (.slice ql' (k + 1) cl') W') ∧ Hid (∃ F lo, lo.length = k + 1 ∧ Ag w0 w0.heap.size P CS (.slice (some ⟨gl, 0, none⟩) nf k4) us4 (.slice p6 nl k6) us6 Bl (.slice ql' (k + 1) cl') lo nils [] TT TT F (fun (v : Value) (c : Nat) => us6[c]? = some v) W') := by
                            obtain ⟨h0, F, lo, h1, h2, h3⟩ := HX.out
                            obtain ⟨vl', W', hr, h5⟩ := h3.moreI (x := .slice qx mx cx) (by rw [h1]; exact h2) (by have := HLF.out.2.2.2; omega) rfl
                            obtain ⟨ql', cl', e⟩ := own_shape h5.lr
                            rw [List.length_append, List.length_singleton, h1] at e
                            subst e
                            exact ⟨ql', cl', W', hr, F, _, by rw [List.length_append, List.length_singleton, h1], h5⟩
                          clear HX
                          go_wp2_with (at_builtin; refine wpList_app_is rfl (.tmp 161) (.tmp 163) 38 rfl (.slice ql k cl) (.slice (some ⟨wr.heap.size, 0, none⟩) 1 1) (.slice ql' (k + 1) cl') rfl rfl hrun.out ?_)
                          go_roundw
                          case rel => exact ⟨k + 1, by omega, by go_num, ql', cl', rfl, HN.out⟩
                          case measure => simp [intOf]; omega
                    · have hnl : ¬ (k : Int) < (nf : Int) := by omega
                      obtain rfl : nf = k := by omega
                      obtain ⟨F4, lo4, hlo4, hz4⟩ := HI.out
                      have HLO : Hid (lo4.length = nf) := hlo4
                      have HP9 : Hid (Ag w0 w0.heap.size P CS (.slice p4 nf k4) us4 (.slice p6 nl k6) us6 Bl (.slice ql nf cl) lo4 nils [] TT TT F4 (fun (v : Value) (c : Nat) => us6[c]? = some v) wo) := hz4
                      clear hz4 hlo4 HI
                      go_wp2_with fail
                      clear z4
                      go_loopw [13, 14] (fun v i wr => ∃ k : Nat, k ≤ nl ∧ i = .int .i64 k ∧ ∃ qv cv, v = .slice qv k cv ∧ Hid (∃ F lo, lo.length = k ∧ Ag w0 w0.heap.size P CS (.slice p4 nf k4) us4 (.slice p6 nl k6) us6 Bl (.slice ql nf cl) lo4 (.slice qv k cv) lo TT TT F4 F wr)) (fun _ i _ => nl - (intOf i).toNat)
                      case atStart => exact ⟨0, Nat.zero_le _, rfl, none, 0, rfl, _, [], rfl, HP9.out⟩
                      case round =>
                        clear HP9
                        obtain ⟨k, hk, rfl, qm, cm, rfl, HI⟩ := hrel
                        obtain ⟨wo, hwo⟩ : ∃ wo, wo = wr := ⟨_, rfl⟩
                        subst hwo
                        have z4 : wo.cell? ⟨P, 6, none⟩ = some (.slice p6 nl k6) := by
                          obtain ⟨F, lo, -, h1⟩ := HI.out
                          exact (cell_of_row _ P 6 _ 41 (0, 0) h1.pr).trans HCS.out.2
                        by_cases hlt : k < nl
                        · obtain ⟨u, hu⟩ : ∃ u, us6[k]? = some u := ⟨_, List.getElem?_eq_getElem (by rw [HLL.out.1]; exact hlt)⟩
                          obtain ⟨qu, m, c2, rfl, hm100, hq⟩ := HVL.out k u hu
                          obtain ⟨gl, egl, z1⟩ : ∃ gl, p6 = some ⟨gl, 0, none⟩ ∧ wo.cell? ⟨gl, k, none⟩ = some (.slice qu m c2) := by
                            obtain ⟨F, lo, -, h1⟩ := HI.out
                            exact list_at (h1.l6) hu
                          subst egl
                          have HX0 : Hid (∃ F lo, lo.length = k ∧ F (.slice qu (m + 0) c2) k ∧ Ag w0 w0.heap.size P CS (.slice p4 nf k4) us4 (.slice (some ⟨gl, 0, none⟩) nl k6) us6 Bl (.slice ql nf cl) lo4 (.slice qm k cm) lo TT TT F4 F wo) := by
                            obtain ⟨F, lo, h0, h1⟩ := HI.out
                            exact ⟨F, lo, h0, h1.g0 k _ hu, h1⟩
                          have i1 : (k : Int) < (nl : Int) := by omega
                          have i0 : (0 : Int) ≤ (k : Int) := by omega
                          clear hu hq HI
                          go_wp2_with fail
                          clear z1 z4
                          go_loopw [15, 16] (fun v i wr => ∃ j : Nat, j ≤ 16 ∧ i = .int .i64 j ∧ ∃ qx mx cx, v = .slice qx mx cx ∧ Hid (mx = m + j ∧ ∃ F lo, lo.length = k ∧ F (.slice qx mx cx) k ∧ Ag w0 w0.heap.size P CS (.slice p4 nf k4) us4 (.slice (some ⟨gl, 0, none⟩) nl k6) us6 Bl (.slice ql nf cl) lo4 (.slice qm k cm) lo TT TT F4 F wr)) (fun _ i _ => 16 - (intOf i).toNat)
                          case atStart => exact ⟨0, Nat.zero_le _, rfl, qu, m, c2, rfl, rfl, HX0.out⟩
                          case round =>
                            clear HX0
                            obtain ⟨j, hj, rfl, qx, mx, cx, rfl, HX⟩ := hrel
                            by_cases hjt : j < 16
                            · obtain ⟨q', c', W', hrun, HN⟩ : ∃ q' c' W', Hid ((Builtin.append_ #[62, 62] 62 #[.slice qx mx cx, .slice (some ⟨wr.heap.size, 0, none⟩) 1 1]).run Tryz.prog (wr.alloc (.cells #[(.int .u64 (1000000 + (k : Int)))] 44)) = .ok (.slice q' (mx + 1) c') W') ∧ Hid (mx + 1 = m + (j + 1) ∧ ∃ F lo, lo.length = k ∧ F (.slice q' (mx + 1) c') k ∧ Ag w0 w0.heap.size P CS (.slice p4 nf k4) us4 (.slice (some ⟨gl, 0, none⟩) nl k6) us6 Bl (.slice ql nf cl) lo4 (.slice qm k cm) lo TT TT F4 F W') := by
                                obtain ⟨h0, F, lo, h1, h2, h3⟩ := HX.out
                                obtain ⟨q', c', W', F', hr, h4, h5⟩ := h3.appU h2 (by omega)
                                exact ⟨q', c', W', hr, by omega, F', lo, h1, h4, h5⟩
                              have hwr : IntKind.i64.wrap (1000000 + (k : Int)) = 1000000 + (k : Int) := by rw [IntKind.wrap_i64]; omega
                              have hwu : IntKind.u64.wrap (1000000 + (k : Int)) = 1000000 + (k : Int) := by rw [IntKind.wrap_u64]; omega
                              have j1 : (j : Int) < 16 := by omega
                              clear HX
                              go_wp2_with (at_builtin; refine wpList_app_is rfl (.tmp 185) (.tmp 189) 62 rfl (.slice qx mx cx) (.slice (some ⟨wr.heap.size, 0, none⟩) 1 1) (.slice q' (mx + 1) c') rfl rfl hrun.out ?_)
                              go_roundw
                              case rel => exact ⟨j + 1, by omega, by go_num, q', mx + 1, c', rfl, HN.out⟩
                              case measure => simp [intOf]; omega
                            · have j1 : ¬ (j : Int) < 16 := by omega
                              obtain ⟨ql', cl', W', hrun, HN⟩ : ∃ ql' cl' W', Hid ((Builtin.append_ #[39, 39] 39 #[.slice qm k cm, .slice (some ⟨wr.heap.size, 0, none⟩) 1 1]).run Tryz.prog (wr.alloc (.cells #[.slice qx mx cx] 62)) = .ok (.slice ql' (k + 1) cl') W') ∧ Hid (∃ F lo, lo.length = k + 1 ∧ Ag w0 w0.heap.size P CS (.slice p4 nf k4) us4 (.slice (some ⟨gl, 0, none⟩) nl k6) us6 Bl (.slice ql nf cl) lo4 (.slice ql' (k + 1) cl') lo TT TT F4 F W') := by
                                obtain ⟨h0, F, lo, h1, h2, h3⟩ := HX.out
                                obtain ⟨vl', W', hr, h5⟩ := h3.moreU (x := .slice qx mx cx) (by rw [h1]; exact h2) (by have := HLL.out.2.2.2; omega) rfl
                                obtain ⟨ql', cl', e⟩ := own_shape h5.mr
                                rw [List.length_append, List.length_singleton, h1] at e
                                subst e
                                exact ⟨ql', cl', W', hr, F, _, by rw [List.length_append, List.length_singleton, h1], h5⟩
                              clear HX
                              go_wp2_with (at_builtin; refine wpList_app_is rfl (.tmp 191) (.tmp 193) 39 rfl (.slice qm k cm) (.slice (some ⟨wr.heap.size, 0, none⟩) 1 1) (.slice ql' (k + 1) cl') rfl rfl hrun.out ?_)
                              go_roundw
                              case rel => exact ⟨k + 1, by omega, by go_num, ql', cl', rfl, HN.out⟩
                              case measure => simp [intOf]; omega
                        · have hnl : ¬ (k : Int) < (nl : Int) := by omega
                          obtain rfl : nl = k := by omega
                          obtain ⟨wz, hwz⟩ : ∃ wz, wz = wo := ⟨_, rfl⟩
                          subst hwz
                          obtain ⟨G4, mo4, hmo, hz⟩ := HI.out
                          have HZ : Hid (Ag w0 w0.heap.size P CS (.slice p4 nf k4) us4 (.slice p6 nl k6) us6 Bl (.slice ql nf cl) lo4 (.slice qm nl cm) mo4 TT TT F4 G4 wz) := hz
                          have HE : Hid (lo4.length = nf ∧ mo4.length = nl) := ⟨HLO.out, hmo⟩
                          clear hz HI hmo
                          go_wp2_with fail
                          go_loopw [17] (fun i wr => ∃ k : Nat, k ≤ nf ∧ i = .int .i64 k ∧ wr = wz) (fun i _ => nf - (intOf i).toNat)
                          case atStart => exact ⟨0, Nat.zero_le _, rfl, rfl⟩
                          case round =>
                            obtain ⟨k, hk, rfl, hwz⟩ := hrel
                            have hwz' := hwz.symm
                            clear hwz
                            subst hwz'
                            by_cases hlt : k < nf
                            · obtain ⟨u, hu⟩ : ∃ u, us4[k]? = some u := ⟨_, List.getElem?_eq_getElem (by rw [HLF.out.1]; exact hlt)⟩
                              obtain ⟨qu, m, c2, rfl, hm100, -⟩ := HVF.out k u hu
                              obtain ⟨x, hx⟩ : ∃ x, lo4[k]? = some x := ⟨_, List.getElem?_eq_getElem (by rw [HE.out.1]; exact hlt)⟩
                              obtain ⟨qx, mx, cx, rfl, hqx⟩ := HZ.out.cf.form (HZ.out.le k x hx)
                              obtain ⟨gl, egl, z1⟩ := list_at (HZ.out.l4) hu
                              obtain ⟨gx, egx, z2⟩ := list_at (HZ.out.lr) hx
                              have HU : Hid (F4 (.slice qu m c2) k ∧ F4 (.slice qx mx cx) k) := ⟨HZ.out.f0 k _ hu, HZ.out.le k _ hx⟩
                              have HP : Hid (p4 = some ⟨gl, 0, none⟩ ∧ ql = some ⟨gx, 0, none⟩) := ⟨egl, egx⟩
                              have HQX : Hid (0 < mx → ∃ g, qx = some ⟨g, 0, none⟩) := hqx
                              have z4 : wz.cell? ⟨P, 4, none⟩ = some (.slice p4 nf k4) := (cell_of_row _ P 4 _ 41 (0, 0) HZ.out.pr).trans HCS.out.1
                              have i1 : (k : Int) < (nf : Int) := by omega
                              have i0 : (0 : Int) ≤ (k : Int) := by omega
                              have hmx : mx ≤ 9223372036854775807 := by
                                obtain ⟨xs, o, -⟩ := HZ.out.cf.own _ _ HU.out.2
                                rcases o.2 with ⟨e0, e1⟩ | ⟨g, cap, cur, e0, _, _, h1, h2, _⟩
                                · have : mx = 0 := e1
                                  omega
                                · have h3 : mx ≤ cap := h1
                                  have h4 : cap ≤ maxLen := h2
                                  have h5 : maxLen ≤ 9223372036854775807 := by decide
                                  omega
                              go_wp2_with fail
                              go_loopw [18] (fun i wr' => ∃ j : Nat, j ≤ mx ∧ i = .int .i64 j ∧ wr' = wz) (fun i _ => mx - (intOf i).toNat)
                              case atStart => exact ⟨0, Nat.zero_le _, rfl, rfl⟩
                              case round =>
                                obtain ⟨j, hj, rfl, hw2⟩ := hrel
                                have hw2' := hw2.symm
                                clear hw2
                                subst hw2'
                                by_cases hjt : j < mx
                                · obtain ⟨g, eg⟩ := HQX.out (by omega)
                                  subst eg
                                  obtain ⟨u0, y0, -, hp0⟩ := HZ.out.cf.cell1 (c := k) HU.out.2 j hjt
                                  have e0 : u0 = (.int .i64 (-100 - (k : Int))) := hp0 trivial
                                  subst e0
                                  have hwr : IntKind.i64.wrap (-100 - (k : Int)) = -100 - (k : Int) := by rw [IntKind.wrap_i64]; omega
                                  have qn : ((-100 - (k : Int)) != (-100 - (k : Int))) = false := by simp
                                  have j1 : (j : Int) < (mx : Int) := by omega
                                  have j0 : (0 : Int) ≤ (j : Int) := by omega
                                  clear hp0
                                  by_cases hjm : j < m
                                  · obtain ⟨q3, n3, c3, e3, hq3⟩ := HZ.out.cf.form HU.out.1
                                    simp only [Value.slice.injEq] at e3
                                    obtain ⟨e3a, e3b, e3c⟩ := e3
                                    obtain ⟨g3, eg3⟩ := hq3 (by omega)
                                    rw [eg3] at e3a
                                    subst e3a
                                    clear e3b e3c eg3 hq3
                                    obtain ⟨u1, y1, -, hp1⟩ := HZ.out.cf.cell1 (c := k) HU.out.1 j hjm
                                    have e1 : u1 = (.int .i64 (-100 - (k : Int))) := hp1 trivial
                                    subst e1
                                    have j2 : (j : Int) < (m : Int) := by omega
                                    clear hp1
                                    go_wp2_with fail
                                    go_roundw
                                    case rel => exact ⟨j + 1, by omega, by go_num, by trivial⟩
                                    case measure => simp [intOf]; omega
                                  · have j2 : ¬ (j : Int) < (m : Int) := by omega
                                    go_wp2_with fail
                                    go_roundw
                                    case rel => exact ⟨j + 1, by omega, by go_num, by trivial⟩
                                    case measure => simp [intOf]; omega
                                · have j1 : ¬ (j : Int) < (mx : Int) := by omega
                                  go_wp2_with fail
                                  go_roundw
                                  case rel => exact ⟨k + 1, by omega, by go_num, by trivial⟩
                                  case measure => simp [intOf]; omega
                            · have hnl : ¬ (k : Int) < (nf : Int) := by omega
                              go_wp2_with fail
                              go_loopw [19] (fun i wr => ∃ k : Nat, k ≤ nl ∧ i = .int .i64 k ∧ wr = wz) (fun i _ => nl - (intOf i).toNat)
                              case atStart => exact ⟨0, Nat.zero_le _, rfl, rfl⟩
                              case round =>
                                obtain ⟨k, hk, rfl, hwz⟩ := hrel
                                have hwz' := hwz.symm
                                clear hwz
                                subst hwz'
                                by_cases hlt : k < nl
                                · obtain ⟨u, hu⟩ : ∃ u, us6[k]? = some u := ⟨_, List.getElem?_eq_getElem (by rw [HLL.out.1]; exact hlt)⟩
                                  obtain ⟨qu, m, c2, rfl, hm100, -⟩ := HVL.out k u hu
                                  obtain ⟨x, hx⟩ : ∃ x, mo4[k]? = some x := ⟨_, List.getElem?_eq_getElem (by rw [HE.out.2]; exact hlt)⟩
                                  obtain ⟨qx, mx, cx, rfl, hqx⟩ := HZ.out.ct.form (HZ.out.me k x hx)
                                  obtain ⟨gl, egl, z1⟩ := list_at (HZ.out.l6) hu
                                  obtain ⟨gx, egx, z2⟩ := list_at (HZ.out.mr) hx
                                  have HU : Hid (G4 (.slice qu m c2) k ∧ G4 (.slice qx mx cx) k) := ⟨HZ.out.g0 k _ hu, HZ.out.me k _ hx⟩
                                  have HP : Hid (p6 = some ⟨gl, 0, none⟩ ∧ qm = some ⟨gx, 0, none⟩) := ⟨egl, egx⟩
                                  have HQX : Hid (0 < mx → ∃ g, qx = some ⟨g, 0, none⟩) := hqx
                                  have z4 : wz.cell? ⟨P, 6, none⟩ = some (.slice p6 nl k6) := (cell_of_row _ P 6 _ 41 (0, 0) HZ.out.pr).trans HCS.out.2
                                  have i1 : (k : Int) < (nl : Int) := by omega
                                  have i0 : (0 : Int) ≤ (k : Int) := by omega
                                  have hmx : mx ≤ 9223372036854775807 := by
                                    obtain ⟨xs, o, -⟩ := HZ.out.ct.own _ _ HU.out.2
                                    rcases o.2 with ⟨e0, e1⟩ | ⟨g, cap, cur, e0, _, _, h1, h2, _⟩
                                    · have : mx = 0 := e1
                                      omega
                                    · have h3 : mx ≤ cap := h1
                                      have h4 : cap ≤ maxLen := h2
                                      have h5 : maxLen ≤ 9223372036854775807 := by decide
                                      omega
                                  go_wp2_with fail
                                  go_loopw [20] (fun i wr' => ∃ j : Nat, j ≤ mx ∧ i = .int .i64 j ∧ wr' = wz) (fun i _ => mx - (intOf i).toNat)
                                  case atStart => exact ⟨0, Nat.zero_le _, rfl, rfl⟩
                                  case round =>
                                    obtain ⟨j, hj, rfl, hw2⟩ := hrel
                                    have hw2' := hw2.symm
                                    clear hw2
                                    subst hw2'
                                    by_cases hjt : j < mx
                                    · obtain ⟨g, eg⟩ := HQX.out (by omega)
                                      subst eg
                                      obtain ⟨u0, y0, -, hp0⟩ := HZ.out.ct.cell1 (c := k) HU.out.2 j hjt
                                      have e0 : u0 = (.int .u64 (1000000 + (k : Int))) := hp0 trivial
                                      subst e0
                                      have hwr : IntKind.i64.wrap (1000000 + (k : Int)) = 1000000 + (k : Int) := by rw [IntKind.wrap_i64]; omega
                                      have hwu : IntKind.u64.wrap (1000000 + (k : Int)) = 1000000 + (k : Int) := by rw [IntKind.wrap_u64]; omega
                                      have qn : ((1000000 + (k : Int)) != (1000000 + (k : Int))) = false := by simp
                                      have j1 : (j : Int) < (mx : Int) := by omega
                                      have j0 : (0 : Int) ≤ (j : Int) := by omega
                                      clear hp0
                                      by_cases hjm : j < m
                                      · obtain ⟨q3, n3, c3, e3, hq3⟩ := HZ.out.ct.form HU.out.1
                                        simp only [Value.slice.injEq] at e3
                                        obtain ⟨e3a, e3b, e3c⟩ := e3
                                        obtain ⟨g3, eg3⟩ := hq3 (by omega)
                                        rw [eg3] at e3a
                                        subst e3a
                                        clear e3b e3c eg3 hq3
                                        obtain ⟨u1, y1, -, hp1⟩ := HZ.out.ct.cell1 (c := k) HU.out.1 j hjm
                                        have e1 : u1 = (.int .u64 (1000000 + (k : Int))) := hp1 trivial
                                        subst e1
                                        have j2 : (j : Int) < (m : Int) := by omega
                                        clear hp1
                                        go_wp2_with fail
                                        go_roundw
                                        case rel => exact ⟨j + 1, by omega, by go_num, by trivial⟩
                                        case measure => simp [intOf]; omega
                                      · have j2 : ¬ (j : Int) < (m : Int) := by omega
                                        go_wp2_with fail
                                        go_roundw
                                        case rel => exact ⟨j + 1, by omega, by go_num, by trivial⟩
                                        case measure => simp [intOf]; omega
                                    · have j1 : ¬ (j : Int) < (mx : Int) := by omega
                                      go_wp2_with fail
                                      go_roundw
                                      case rel => exact ⟨k + 1, by omega, by go_num, by trivial⟩
                                      case measure => simp [intOf]; omega
                                · have hnl : ¬ (k : Int) < (nl : Int) := by omega
                                  go_wp2
                                  go_ret
                                  exact ⟨rfl, HZ.out.low⟩
end Go.Proofs.YtnbegddpgmejnaaGreat
