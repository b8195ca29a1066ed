/-
  Layer 14: marked.
-/
import Derived.Test.YtkffmglcllhbmaaMb
import Derived.BigQuiet
namespace Go.Proofs.Ytkffmglcllhbmaa
open Go.RowKit

open Go.Shelf
theorem wrN1 {k : Nat} (h : k ≤ 100) : IntKind.i64.wrap (k : Int) = (k : Int) := by rw [IntKind.wrap_i64]; omega
theorem wrN2 {k : Nat} (h : k ≤ 100) : wrap64 (k : Int) = (k : Int) := by unfold wrap64; omega
theorem wrQ1 {k : Nat} (h : k ≤ 100) : IntKind.i64.wrap (1000 + (k : Int)) = 1000 + (k : Int) := by rw [IntKind.wrap_i64]; omega
theorem wrQ2 {k : Nat} (h : k ≤ 100) : wrap64 (1000 + (k : Int)) = 1000 + (k : Int) := by unfold wrap64; omega
theorem wrQ3 {k : Nat} (h : k ≤ 100) : IntKind.u64.wrap (1000 + (k : Int)) = 1000 + (k : Int) := by rw [IntKind.wrap_u64]; omega
theorem wrH1 {k : Nat} (h : k ≤ 100) : IntKind.i64.wrap (2000 + (k : Int)) = 2000 + (k : Int) := by rw [IntKind.wrap_i64]; omega
theorem wrH2 {k : Nat} (h : k ≤ 100) : wrap64 (2000 + (k : Int)) = 2000 + (k : Int) := by unfold wrap64; omega
theorem drew_more {w wr : World} (h : ∃ m, wr = w.drewN m) (n : Nat) : ∃ m, wr.drewN n = w.drewN m := by
  obtain ⟨m, rfl⟩ := h
  exact ⟨m + n, by simp [World.drewN, Nat.add_assoc]⟩
set_option maxRecDepth 100000 in
set_option maxHeartbeats 16000000 in
theorem marked_any (W0 : World) (S : Nat → Prop) {pq ph : Option Addr} {nQ nH kq kh : Nat} {usq ush : List Value} (lq : W0.ownsRow 0 22 1 (.slice pq nQ kq) nQ usq) (lh : W0.ownsRow 0 37 1 (.slice ph nH kh) nH ush) (hnq : nQ ≤ 100) (hnh : nH ≤ 100)
    (eq : ∀ (k : Nat) u, usq[k]? = some u → ∃ xs, W0.ownsRow 0 30 1 u (vlen u) xs ∧ vlen u ≤ 1000) (eh : ∀ (k : Nat) u, ush[k]? = some u → ∃ xs, W0.ownsRow 0 3 1 u (vlen u) xs ∧ vlen u ≤ 1000)
    (sq : usq.Pairwise (fun u u' => ∀ g, u.ownBlock = some g → u'.ownBlock ≠ some g)) (sh : ush.Pairwise (fun u u' => ∀ g, u.ownBlock = some g → u'.ownBlock ≠ some g)) (hSq : ∀ u ∈ usq, ∀ g, u.ownBlock = some g → S g) (hSh : ∀ u ∈ ush, ∀ g, u.ownBlock = some g → S g) :
    Calls Try.prog 18 #[.slice pq nQ kq, .slice ph nH kh] W0 fun e w' => e = .returned (.bool true) ∧ Kept S W0 w' := by
  have HLQ : Hid (usq.length = nQ) := by have := lq.1; unfold Hid; omega
  have HLH : Hid (ush.length = nH) := by have := lh.1; unfold Hid; omega
  have val : ∀ {e : TypeId} {us : List Value}, (∀ (k : Nat) u, us[k]? = some u → ∃ xs, W0.ownsRow 0 e 1 u (vlen u) xs ∧ vlen u ≤ 1000) → ∀ (k : Nat) u, us[k]? = some u → ∃ q m c, u = .slice q m c ∧ m ≤ 1000 ∧ (0 < m → ∃ g, q = some ⟨g, 0, none⟩) := fun h k u hu => by
    obtain ⟨xs, o, hl⟩ := h k u hu
    rcases o.2 with ⟨e1, e2⟩ | ⟨g, cap, cur, e1, _⟩
    · exact ⟨none, 0, 0, e1, by omega, fun h => absurd h (Nat.lt_irrefl 0)⟩
    · exact ⟨_, _, cap, e1, hl, fun _ => ⟨g, rfl⟩⟩
  have HVQ : Hid (∀ (k : Nat) u, usq[k]? = some u → ∃ q m c, u = .slice q m c ∧ m ≤ 1000 ∧ (0 < m → ∃ g, q = some ⟨g, 0, none⟩)) := val eq
  have HVH : Hid (∀ (k : Nat) u, ush[k]? = some u → ∃ q m c, u = .slice q m c ∧ m ≤ 1000 ∧ (0 < m → ∃ g, q = some ⟨g, 0, none⟩)) := val eh
  have HP0 : Hid (Ag W0 S (.slice pq nQ kq) usq (.slice ph nH kh) ush nils [] nils [] (fun (c _ : Nat) => c < 0) (fun (c _ : Nat) => c < 0) (fun (v : Value) (c : Nat) => usq[c]? = some v) (fun (v : Value) (c : Nat) => ush[c]? = some v) W0) :=
    ⟨by rw [HLQ.out]; exact lq, by rw [HLH.out]; exact lh, Kept.refl _ _, col_start (fun k u hu => by obtain ⟨xs, o, _⟩ := eq k u hu; exact ⟨xs, o⟩) sq _, col_start (fun k u hu => by obtain ⟨xs, o, _⟩ := eh k u hu; exact ⟨xs, o⟩) sh _, fun v c hv g hg => .inl (hSq v (List.mem_of_getElem? hv) g hg), fun v c hv g hg => .inl (hSh v (List.mem_of_getElem? hv) g hg), fun _ _ h => h, fun _ _ h => h, World.ownsRow_nil _ _ _ _, fun _ _ h => by simp at h, World.ownsRow_nil _ _ _ _, fun _ _ h => by simp at h, fun g hg => (lq.lt g hg).2, fun g hg => (lh.lt g hg).2⟩
  clear lq lh eq eh sq sh hSq hSh val
  go_enter Try.func18, Try.ntmps18
  go_wp2_with fail
  go_loopw [24] (fun i wr => ∃ k : Nat, k ≤ nQ ∧ i = .int .i64 k ∧ Hid (Ag W0 S (.slice pq nQ kq) usq (.slice ph nH kh) ush nils [] nils [] (fun c _ => c < k) (fun (c _ : Nat) => c < 0) (fun (v : Value) (c : Nat) => usq[c]? = some v) (fun (v : Value) (c : Nat) => ush[c]? = some v) wr)) (fun i _ => nQ - (intOf i).toNat)
  case atStart => exact ⟨0, Nat.zero_le _, rfl, HP0.out⟩
  case round =>
    clear HP0
    obtain ⟨k, hk, rfl, HI⟩ := hrel
    obtain ⟨wo, hwo⟩ : ∃ wo, wo = wr := ⟨_, rfl⟩
    subst hwo
    by_cases hlt : k < nQ
    · obtain ⟨u, hu⟩ : ∃ u, usq[k]? = some u := ⟨_, List.getElem?_eq_getElem (by rw [HLQ.out]; exact hlt)⟩
      obtain ⟨qu, m, c2, rfl, hm100, hq⟩ := HVQ.out k u hu
      obtain ⟨gl, egl, z1⟩ := list_at (HI.out.lq) hu
      subst egl
      have HU : Hid (usq[k]? = some (.slice qu m c2)) := hu
      have HQ2 : Hid (0 < m → ∃ g, qu = some ⟨g, 0, none⟩) := hq
      have i1 : (k : Int) < (nQ : Int) := by omega
      have i0 : (0 : Int) ≤ (k : Int) := by omega
      have HP4 : Hid (Ag W0 S (.slice (some ⟨gl, 0, none⟩) nQ kq) usq (.slice ph nH kh) ush nils [] nils [] (fun c x => c < k ∨ (c = k ∧ x < 0)) (fun (c _ : Nat) => c < 0) (fun (v : Value) (c : Nat) => usq[c]? = some v) (fun (v : Value) (c : Nat) => ush[c]? = some v) wo) := HI.out.weakQ fun v c _ x _ h => by rcases h with h | ⟨_, h⟩; exact h; omega
      clear hu hq HI
      go_wp2_with fail
      clear z1
      go_loopw [32] (fun i wr => ∃ j : Nat, j ≤ m ∧ i = .int .i64 j ∧ Hid (Ag W0 S (.slice (some ⟨gl, 0, none⟩) nQ kq) usq (.slice ph nH kh) ush nils [] nils [] (fun c x => c < k ∨ (c = k ∧ x < j)) (fun (c _ : Nat) => c < 0) (fun (v : Value) (c : Nat) => usq[c]? = some v) (fun (v : Value) (c : Nat) => ush[c]? = some v) wr)) (fun i _ => m - (intOf i).toNat)
      case atStart => exact ⟨0, Nat.zero_le _, rfl, HP4.out⟩
      case round =>
        clear HP4
        obtain ⟨j, hj, rfl, HJ⟩ := hrel
        obtain ⟨gl', egl, z1'⟩ := list_at (HJ.out.lq) HU.out
        have z1 : wr.cell? ⟨gl, k, none⟩ = some (.slice qu m c2) := by cases egl; exact z1'
        clear egl z1'
        by_cases hjt : j < m
        · obtain ⟨g, rfl⟩ := HQ2.out (by omega)
          have hap := HJ.out.markQ (D' := fun c x => c < k ∨ (c = k ∧ x < j + 1)) (g := g) (n := m) (c := c2) (i := k) HU.out (fun v hv => by have h2 := HU.out; rw [hv] at h2; exact Option.some.inj h2) j hjt (fun c x h => by omega)
          obtain ⟨u0, z2, z3, -⟩ := HJ.out.cq.cell1 (c := k) HU.out j hjt
          have HN : Hid (Ag W0 S (.slice (some ⟨gl, 0, none⟩) nQ kq) usq (.slice ph nH kh) ush nils [] nils [] (fun c x => c < k ∨ (c = k ∧ x < j + 1)) (fun (c _ : Nat) => c < 0) (fun (v : Value) (c : Nat) => usq[c]? = some v) (fun (v : Value) (c : Nat) => ush[c]? = some v) (wr.setCell ⟨g, j, none⟩ (.int .u64 (1000 + (k : Int))))) := hap
          have hwr : IntKind.i64.wrap (1000 + (k : Int)) = 1000 + (k : Int) := wrQ1 (Nat.le_trans (Nat.le_of_lt hlt) hnq)
          have hww : wrap64 (1000 + (k : Int)) = 1000 + (k : Int) := wrQ2 (Nat.le_trans (Nat.le_of_lt hlt) hnq)
          have hwu : IntKind.u64.wrap (1000 + (k : Int)) = 1000 + (k : Int) := wrQ3 (Nat.le_trans (Nat.le_of_lt hlt) hnq)
          have j1 : (j : Int) < (m : Int) := by omega
          have j0 : (0 : Int) ≤ (j : Int) := by omega
          clear hap HJ
          go_wp2_with fail
          go_roundw
          case rel => exact ⟨j + 1, by omega, by go_num, HN.out⟩
          case measure => simp [intOf]; omega
        · have hjn : ¬ (j : Int) < (m : Int) := by omega
          have HN : Hid (Ag W0 S (.slice (some ⟨gl, 0, none⟩) nQ kq) usq (.slice ph nH kh) ush nils [] nils [] (fun c _ => c < k + 1) (fun (c _ : Nat) => c < 0) (fun (v : Value) (c : Nat) => usq[c]? = some v) (fun (v : Value) (c : Nat) => ush[c]? = some v) wr) := HJ.out.weakQ fun v c hv x hx h => by
            rcases Nat.lt_or_ge c k with a | a
            · exact .inl a
            · have ec : c = k := by omega
              subst ec
              have h2 := HU.out
              rw [hv] at h2
              have e2 := Option.some.inj h2
              rw [e2] at hx
              have hx' : x < m * 1 := hx
              exact .inr ⟨rfl, by omega⟩
          clear HJ
          go_wp2_with fail
          go_roundw
          case rel => exact ⟨k + 1, by omega, by go_num, HN.out⟩
          case measure => simp [intOf]; omega
    · have hnl : ¬ (k : Int) < (nQ : Int) := by omega
      have HP5 : Hid (Ag W0 S (.slice pq nQ kq) usq (.slice ph nH kh) ush nils [] nils [] TA (fun (c _ : Nat) => c < 0) (fun (v : Value) (c : Nat) => usq[c]? = some v) (fun (v : Value) (c : Nat) => ush[c]? = some v) wo) := HI.out.weakQ fun v c hv x hx _ => by
        have := (List.getElem?_eq_some_iff.1 hv).1
        have := HLQ.out
        show c < k
        omega
      clear HI
      go_wp2_with fail
      go_loopw [48] (fun i wr => ∃ k : Nat, k ≤ nH ∧ i = .int .i64 k ∧ Hid (Ag W0 S (.slice pq nQ kq) usq (.slice ph nH kh) ush nils [] nils [] TA (fun c _ => c < k) (fun (v : Value) (c : Nat) => usq[c]? = some v) (fun (v : Value) (c : Nat) => ush[c]? = some v) wr)) (fun i _ => nH - (intOf i).toNat)
      case atStart => exact ⟨0, Nat.zero_le _, rfl, HP5.out⟩
      case round =>
        clear HP5
        obtain ⟨k, hk, rfl, HI⟩ := hrel
        obtain ⟨wo, hwo⟩ : ∃ wo, wo = wr := ⟨_, rfl⟩
        subst hwo
        by_cases hlt : k < nH
        · obtain ⟨u, hu⟩ : ∃ u, ush[k]? = some u := ⟨_, List.getElem?_eq_getElem (by rw [HLH.out]; exact hlt)⟩
          obtain ⟨qu, m, c2, rfl, hm100, hq⟩ := HVH.out k u hu
          obtain ⟨gl, egl, z1⟩ := list_at (HI.out.lh) hu
          subst egl
          have HU : Hid (ush[k]? = some (.slice qu m c2)) := hu
          have HQ2 : Hid (0 < m → ∃ g, qu = some ⟨g, 0, none⟩) := hq
          have i1 : (k : Int) < (nH : Int) := by omega
          have i0 : (0 : Int) ≤ (k : Int) := by omega
          have HP4 : Hid (Ag W0 S (.slice pq nQ kq) usq (.slice (some ⟨gl, 0, none⟩) nH kh) ush nils [] nils [] TA (fun c x => c < k ∨ (c = k ∧ x < 0)) (fun (v : Value) (c : Nat) => usq[c]? = some v) (fun (v : Value) (c : Nat) => ush[c]? = some v) wo) := HI.out.weakH fun v c _ x _ h => by rcases h with h | ⟨_, h⟩; exact h; omega
          clear hu hq HI
          go_wp2_with fail
          clear z1
          go_loopw [56] (fun i wr => ∃ j : Nat, j ≤ m ∧ i = .int .i64 j ∧ Hid (Ag W0 S (.slice pq nQ kq) usq (.slice (some ⟨gl, 0, none⟩) nH kh) ush nils [] nils [] TA (fun c x => c < k ∨ (c = k ∧ x < j)) (fun (v : Value) (c : Nat) => usq[c]? = some v) (fun (v : Value) (c : Nat) => ush[c]? = some v) wr)) (fun i _ => m - (intOf i).toNat)
          case atStart => exact ⟨0, Nat.zero_le _, rfl, HP4.out⟩
          case round =>
            clear HP4
            obtain ⟨j, hj, rfl, HJ⟩ := hrel
            obtain ⟨gl', egl, z1'⟩ := list_at (HJ.out.lh) HU.out
            have z1 : wr.cell? ⟨gl, k, none⟩ = some (.slice qu m c2) := by cases egl; exact z1'
            clear egl z1'
            by_cases hjt : j < m
            · obtain ⟨g, rfl⟩ := HQ2.out (by omega)
              have hap := HJ.out.markH (D' := fun c x => c < k ∨ (c = k ∧ x < j + 1)) (g := g) (n := m) (c := c2) (i := k) HU.out (fun v hv => by have h2 := HU.out; rw [hv] at h2; exact Option.some.inj h2) j hjt (fun c x h => by omega)
              obtain ⟨u0, z2, z3, -⟩ := HJ.out.ch.cell1 (c := k) HU.out j hjt
              have HN : Hid (Ag W0 S (.slice pq nQ kq) usq (.slice (some ⟨gl, 0, none⟩) nH kh) ush nils [] nils [] TA (fun c x => c < k ∨ (c = k ∧ x < j + 1)) (fun (v : Value) (c : Nat) => usq[c]? = some v) (fun (v : Value) (c : Nat) => ush[c]? = some v) (wr.setCell ⟨g, j, none⟩ (.int .i64 (2000 + (k : Int))))) := hap
              have hwr : IntKind.i64.wrap (2000 + (k : Int)) = 2000 + (k : Int) := wrH1 (Nat.le_trans (Nat.le_of_lt hlt) hnh)
              have hww : wrap64 (2000 + (k : Int)) = 2000 + (k : Int) := wrH2 (Nat.le_trans (Nat.le_of_lt hlt) hnh)
              have j1 : (j : Int) < (m : Int) := by omega
              have j0 : (0 : Int) ≤ (j : Int) := by omega
              clear hap HJ
              go_wp2_with fail
              go_roundw
              case rel => exact ⟨j + 1, by omega, by go_num, HN.out⟩
              case measure => simp [intOf]; omega
            · have hjn : ¬ (j : Int) < (m : Int) := by omega
              have HN : Hid (Ag W0 S (.slice pq nQ kq) usq (.slice (some ⟨gl, 0, none⟩) nH kh) ush nils [] nils [] TA (fun c _ => c < k + 1) (fun (v : Value) (c : Nat) => usq[c]? = some v) (fun (v : Value) (c : Nat) => ush[c]? = some v) wr) := HJ.out.weakH fun v c hv x hx h => by
                rcases Nat.lt_or_ge c k with a | a
                · exact .inl a
                · have ec : c = k := by omega
                  subst ec
                  have h2 := HU.out
                  rw [hv] at h2
                  have e2 := Option.some.inj h2
                  rw [e2] at hx
                  have hx' : x < m * 1 := hx
                  exact .inr ⟨rfl, by omega⟩
              clear HJ
              go_wp2_with fail
              go_roundw
              case rel => exact ⟨k + 1, by omega, by go_num, HN.out⟩
              case measure => simp [intOf]; omega
        · have hnl : ¬ (k : Int) < (nH : Int) := by omega
          have HP5 : Hid (Ag W0 S (.slice pq nQ kq) usq (.slice ph nH kh) ush nils [] nils [] TA TA (fun (v : Value) (c : Nat) => usq[c]? = some v) (fun (v : Value) (c : Nat) => ush[c]? = some v) wo) := HI.out.weakH fun v c hv x hx _ => by
            have := (List.getElem?_eq_some_iff.1 hv).1
            have := HLH.out
            show c < k
            omega
          clear HI
          go_wp2_with fail
          obtain ⟨wm, hwm⟩ : ∃ wm, wm = wo := ⟨_, rfl⟩
          subst hwm
          go_loopw [9, 10, 11] (fun v1 v2 i wr => ∃ r : Nat, r ≤ 17 ∧ i = .int .i64 r ∧ ∃ (q1 : Option Addr) (a c1 : Nat) (q2 : Option Addr) (b c2 : Nat), v1 = .slice q1 a c1 ∧ v2 = .slice q2 b c2 ∧ Hid (a = r * nQ ∧ b = r * nH ∧ ∃ F G lo mo, lo.length = a ∧ mo.length = b ∧ Ag W0 S (.slice pq nQ kq) usq (.slice ph nH kh) ush (.slice q1 a c1) lo (.slice q2 b c2) mo TA TA F G wr)) (fun _ _ i _ => 17 - (intOf i).toNat)
          case atStart => exact ⟨0, by decide, rfl, none, 0, 0, none, 0, 0, rfl, rfl, by simp, by simp, _, _, [], [], rfl, rfl, HP5.out⟩
          case round =>
            clear HP5
            obtain ⟨r, hr, rfl, q1, a, c1', q2, b, c2', rfl, rfl, HR⟩ := hrel
            by_cases hr17 : r ≤ 16
            · have r1 : (r : Int) ≤ 16 := by omega
              obtain ⟨hab, hbb, F0, G0, lo0, mo0, hlo0, hmo0, hz⟩ := HR.out
              have HQ0 : Hid (∃ F lo, lo.length = a ∧ Ag W0 S (.slice pq nQ kq) usq (.slice ph nH kh) ush (.slice q1 a c1') lo (.slice q2 b c2') mo0 TA TA F G0 wr) := ⟨F0, lo0, hlo0, hz⟩
              have HMO : Hid (mo0.length = b) := hmo0
              have HAB : Hid (a = r * nQ ∧ b = r * nH) := ⟨hab, hbb⟩
              have hal : a ≤ 2000 := by rw [hab]; have := Nat.mul_le_mul hr hnq; omega
              have hbl : b ≤ 2000 := by rw [hbb]; have := Nat.mul_le_mul hr hnh; omega
              clear hz HR hab hbb hlo0 hmo0
              go_wp2_with fail
              go_loopw [9, 75] (fun v i wr => ∃ k : Nat, k ≤ nQ ∧ i = .int .i64 k ∧ ∃ (qv : Option Addr) (av : Nat) (cv : Nat), v = .slice qv av cv ∧ Hid (av = a + k ∧ ∃ F lo, lo.length = av ∧ Ag W0 S (.slice pq nQ kq) usq (.slice ph nH kh) ush (.slice qv av cv) lo (.slice q2 b c2') mo0 TA TA F G0 wr)) (fun _ i _ => nQ - (intOf i).toNat)
              case atStart => exact ⟨0, Nat.zero_le _, rfl, _, _, _, rfl, by omega, HQ0.out⟩
              case round =>
                clear HQ0
                obtain ⟨k, hk, rfl, ql, al, cl, rfl, HI⟩ := hrel
                obtain ⟨wo, hwo⟩ : ∃ wo, wo = wr := ⟨_, rfl⟩
                subst hwo
                by_cases hlt : k < nQ
                · obtain ⟨u, hu⟩ : ∃ u, usq[k]? = some u := ⟨_, List.getElem?_eq_getElem (by rw [HLQ.out]; exact hlt)⟩
                  obtain ⟨qu, m, c2, rfl, hm100, -⟩ := HVQ.out k u hu
                  obtain ⟨hal, F2, lo2, hlo2, hag⟩ := HI.out
                  obtain ⟨gl, egl, z1⟩ := list_at hag.lq hu
                  subst egl
                  have i1 : (k : Int) < (nQ : Int) := by omega
                  have i0 : (0 : Int) ≤ (k : Int) := by omega
                  have HJ0 : Hid (∃ F lo, lo.length = al ∧ F (.slice qu m c2) k ∧ Ag W0 S (.slice (some ⟨gl, 0, none⟩) nQ kq) usq (.slice ph nH kh) ush (.slice ql al cl) lo (.slice q2 b c2') mo0 TA TA F G0 wo) := ⟨F2, lo2, hlo2, hag.f0 k _ hu, hag⟩
                  have HAL : Hid (al = a + k) := hal
                  clear hag hu HI hlo2 hal
                  go_wp2_with fail
                  clear z1
                  go_loopw [13, 14] (fun v i wr => ∃ j : Nat, j ≤ 60 ∧ i = .int .i64 j ∧ ∃ qx mx cx, v = .slice qx mx cx ∧ Hid (mx = m + j ∧ ∃ F lo, lo.length = al ∧ F (.slice qx mx cx) k ∧ Ag W0 S (.slice (some ⟨gl, 0, none⟩) nQ kq) usq (.slice ph nH kh) ush (.slice ql al cl) lo (.slice q2 b c2') mo0 TA TA F G0 wr)) (fun _ i _ => 60 - (intOf i).toNat)
                  case atStart => exact ⟨0, by decide, rfl, _, _, _, rfl, rfl, HJ0.out⟩
                  case round =>
                    clear HJ0
                    obtain ⟨j, hj, rfl, qx, mx, cx, rfl, HX⟩ := hrel
                    by_cases hj1 : j < r
                    · have j1 : (j : Int) < (r : Int) := by omega
                      obtain ⟨q', c', W', hrun, HN⟩ : ∃ q' c' W', Hid ((Builtin.append_ #[22, 22] 22 #[.slice qx mx cx, .slice (some ⟨wr.heap.size, 0, none⟩) 1 1]).run Try.prog (wr.alloc (.cells #[.int .u64 (1000 + (k : Int))] 30)) = .ok (.slice q' (mx + 1) c') W') ∧ Hid (mx + 1 = m + (j + 1) ∧ ∃ F lo, lo.length = al ∧ F (.slice q' (mx + 1) c') k ∧ Ag W0 S (.slice (some ⟨gl, 0, none⟩) nQ kq) usq (.slice ph nH kh) ush (.slice ql al cl) lo (.slice q2 b c2') mo0 TA TA F G0 W') := by
                        obtain ⟨h0, F, lo, h1, h2, h3⟩ := HX.out
                        obtain ⟨q', c', W', F', hr, h4, h5⟩ := h3.appQ h2 (by omega)
                        exact ⟨q', c', W', hr, by omega, F', lo, h1, h4, h5⟩
                      clear HX
                      have hwr : IntKind.i64.wrap (1000 + (k : Int)) = 1000 + (k : Int) := wrQ1 (Nat.le_trans (Nat.le_of_lt hlt) hnq)
                      have hww : wrap64 (1000 + (k : Int)) = 1000 + (k : Int) := wrQ2 (Nat.le_trans (Nat.le_of_lt hlt) hnq)
                      have hwu : IntKind.u64.wrap (1000 + (k : Int)) = 1000 + (k : Int) := wrQ3 (Nat.le_trans (Nat.le_of_lt hlt) hnq)
                      go_wp2_with (at_builtin; refine wpList_app_is rfl (.tmp 95) (.tmp 99) 22 rfl (.slice qx mx cx) (.slice (some ⟨wr.heap.size, 0, none⟩) 1 1) (.slice q' (mx + 1) c') rfl rfl hrun.out ?_)
                      go_roundw
                      case rel => exact ⟨j + 1, by omega, by go_num, q', mx + 1, c', by first | rfl | exact ⟨rfl, rfl, rfl⟩, HN.out⟩
                      case measure => simp [intOf]; omega
                    · have j1 : ¬ (j : Int) < (r : Int) := by omega
                      by_cases hr16 : r = 16
                      · have j2 : ((r : Int) == 16) = true := by rw [beq_iff_eq]; omega
                        by_cases hj2 : j < 60
                        · have j3 : (j : Int) < 60 := by omega
                          obtain ⟨q', c', W', hrun, HN⟩ : ∃ q' c' W', Hid ((Builtin.append_ #[22, 22] 22 #[.slice qx mx cx, .slice (some ⟨wr.heap.size, 0, none⟩) 1 1]).run Try.prog (wr.alloc (.cells #[.int .u64 (1000 + (k : Int))] 30)) = .ok (.slice q' (mx + 1) c') W') ∧ Hid (mx + 1 = m + (j + 1) ∧ ∃ F lo, lo.length = al ∧ F (.slice q' (mx + 1) c') k ∧ Ag W0 S (.slice (some ⟨gl, 0, none⟩) nQ kq) usq (.slice ph nH kh) ush (.slice ql al cl) lo (.slice q2 b c2') mo0 TA TA F G0 W') := by
                            obtain ⟨h0, F, lo, h1, h2, h3⟩ := HX.out
                            obtain ⟨q', c', W', F', hr, h4, h5⟩ := h3.appQ h2 (by omega)
                            exact ⟨q', c', W', hr, by omega, F', lo, h1, h4, h5⟩
                          clear HX
                          have hwr : IntKind.i64.wrap (1000 + (k : Int)) = 1000 + (k : Int) := wrQ1 (Nat.le_trans (Nat.le_of_lt hlt) hnq)
                          have hww : wrap64 (1000 + (k : Int)) = 1000 + (k : Int) := wrQ2 (Nat.le_trans (Nat.le_of_lt hlt) hnq)
                          have hwu : IntKind.u64.wrap (1000 + (k : Int)) = 1000 + (k : Int) := wrQ3 (Nat.le_trans (Nat.le_of_lt hlt) hnq)
                          go_wp2_with (at_builtin; refine wpList_app_is rfl (.tmp 95) (.tmp 99) 22 rfl (.slice qx mx cx) (.slice (some ⟨wr.heap.size, 0, none⟩) 1 1) (.slice q' (mx + 1) c') rfl rfl hrun.out ?_)
                          go_roundw
                          case rel => exact ⟨j + 1, by omega, by go_num, q', mx + 1, c', by first | rfl | exact ⟨rfl, rfl, rfl⟩, HN.out⟩
                          case measure => simp [intOf]; omega
                        · have j3 : ¬ (j : Int) < 60 := by omega
                          obtain ⟨ql', cl', W', hrun, HN⟩ : ∃ ql' cl' W', Hid ((Builtin.append_ #[35, 35] 35 #[.slice ql al cl, .slice (some ⟨wr.heap.size, 0, none⟩) 1 1]).run Try.prog (wr.alloc (.cells #[.slice qx mx cx] 22)) = .ok (.slice ql' (al + 1) cl') W') ∧ Hid (al + 1 = a + (k + 1) ∧ ∃ F lo, lo.length = al + 1 ∧ Ag W0 S (.slice (some ⟨gl, 0, none⟩) nQ kq) usq (.slice ph nH kh) ush (.slice ql' (al + 1) cl') lo (.slice q2 b c2') mo0 TA TA F G0 W') := by
                            obtain ⟨h0, F, lo, h1, h2, h3⟩ := HX.out
                            have hal := HAL.out
                            obtain ⟨vl', W', hr, h5⟩ := h3.moreQ (x := .slice qx mx cx) (by rw [h1, HLQ.out, HAL.out, HAB.out.1, Nat.mul_add_mod_of_lt hlt]; exact h2) (by omega) rfl
                            obtain ⟨ql', cl', e, -⟩ := own_shape h5.lr
                            rw [List.length_append, List.length_singleton, h1] at e
                            subst e
                            exact ⟨ql', cl', W', hr, by omega, F, _, by rw [List.length_append, List.length_singleton, h1], h5⟩
                          clear HX
                          go_wp2_with (at_builtin; refine wpList_app_is rfl (.tmp 101) (.tmp 103) 35 rfl (.slice ql al cl) (.slice (some ⟨wr.heap.size, 0, none⟩) 1 1) (.slice ql' (al + 1) cl') rfl rfl hrun.out ?_)
                          go_roundw
                          case rel => first | exact ⟨k + 1, by omega, by go_num, ql', al + 1, cl', by first | rfl | exact ⟨rfl, rfl, rfl⟩, HN.out⟩ | exact ⟨_, _, _, _, _, ⟨k + 1, by omega, by first | rfl | go_num | simp, ql', al + 1, cl', rfl, HN.out⟩, rfl, rfl, rfl, rfl, rfl⟩ | exact ⟨_, _, _, _, _, ⟨k + 1, by omega, rfl, ql', al + 1, cl', rfl, HN.out⟩, rfl, rfl, rfl, rfl, by go_num⟩
                          case measure => simp [intOf]; omega
                      · have j2 : ((r : Int) == 16) = false := by rw [beq_eq_false_iff_ne]; omega
                        obtain ⟨ql', cl', W', hrun, HN⟩ : ∃ ql' cl' W', Hid ((Builtin.append_ #[35, 35] 35 #[.slice ql al cl, .slice (some ⟨wr.heap.size, 0, none⟩) 1 1]).run Try.prog (wr.alloc (.cells #[.slice qx mx cx] 22)) = .ok (.slice ql' (al + 1) cl') W') ∧ Hid (al + 1 = a + (k + 1) ∧ ∃ F lo, lo.length = al + 1 ∧ Ag W0 S (.slice (some ⟨gl, 0, none⟩) nQ kq) usq (.slice ph nH kh) ush (.slice ql' (al + 1) cl') lo (.slice q2 b c2') mo0 TA TA F G0 W') := by
                          obtain ⟨h0, F, lo, h1, h2, h3⟩ := HX.out
                          have hal := HAL.out
                          obtain ⟨vl', W', hr, h5⟩ := h3.moreQ (x := .slice qx mx cx) (by rw [h1, HLQ.out, HAL.out, HAB.out.1, Nat.mul_add_mod_of_lt hlt]; exact h2) (by omega) rfl
                          obtain ⟨ql', cl', e, -⟩ := own_shape h5.lr
                          rw [List.length_append, List.length_singleton, h1] at e
                          subst e
                          exact ⟨ql', cl', W', hr, by omega, F, _, by rw [List.length_append, List.length_singleton, h1], h5⟩
                        clear HX
                        go_wp2_with (at_builtin; refine wpList_app_is rfl (.tmp 101) (.tmp 103) 35 rfl (.slice ql al cl) (.slice (some ⟨wr.heap.size, 0, none⟩) 1 1) (.slice ql' (al + 1) cl') rfl rfl hrun.out ?_)
                        go_roundw
                        case rel => first | exact ⟨k + 1, by omega, by go_num, ql', al + 1, cl', by first | rfl | exact ⟨rfl, rfl, rfl⟩, HN.out⟩ | exact ⟨_, _, _, _, _, ⟨k + 1, by omega, by first | rfl | go_num | simp, ql', al + 1, cl', rfl, HN.out⟩, rfl, rfl, rfl, rfl, rfl⟩ | exact ⟨_, _, _, _, _, ⟨k + 1, by omega, rfl, ql', al + 1, cl', rfl, HN.out⟩, rfl, rfl, rfl, rfl, by go_num⟩
                        case measure => simp [intOf]; omega
                · have hnl : ¬ (k : Int) < (nQ : Int) := by omega
                  have hkn : k = nQ := by omega
                  obtain ⟨h0, F1, lo1, h1, h2⟩ := HI.out
                  obtain ⟨q1, hq1⟩ : ∃ x, x = ql := ⟨_, rfl⟩
                  obtain ⟨a1, ha1⟩ : ∃ x, x = al := ⟨_, rfl⟩
                  obtain ⟨c1', hc1⟩ : ∃ x, x = cl := ⟨_, rfl⟩
                  rw [← hq1, ← ha1, ← hc1] at h2
                  rw [← ha1] at h1 h0
                  rw [← hq1, ← ha1, ← hc1]
                  clear hq1 ha1 hc1
                  have HH0 : Hid (∃ G mo, mo.length = b ∧ Ag W0 S (.slice pq nQ kq) usq (.slice ph nH kh) ush (.slice q1 a1 c1') lo1 (.slice q2 b c2') mo TA TA F1 G wo) := ⟨G0, mo0, HMO.out, h2⟩
                  have HLO : Hid (lo1.length = a1 ∧ a1 = (r + 1) * nQ) := ⟨h1, by rw [h0, HAB.out.1, hkn, Nat.succ_mul]⟩
                  have ha1 : a1 ≤ 2000 := by have h3 := HLO.out.2; rw [h3]; have := Nat.mul_le_mul (show r + 1 ≤ 17 by omega) hnq; omega
                  clear h0 h1 h2 HI HMO
                  go_wp2_with fail
                  go_loopw [10, 108] (fun v i wr => ∃ k : Nat, k ≤ nH ∧ i = .int .i64 k ∧ ∃ (qv : Option Addr) (av : Nat) (cv : Nat), v = .slice qv av cv ∧ Hid (av = b + k ∧ ∃ F lo, lo.length = av ∧ Ag W0 S (.slice pq nQ kq) usq (.slice ph nH kh) ush (.slice q1 a1 c1') lo1 (.slice qv av cv) lo TA TA F1 F wr)) (fun _ i _ => nH - (intOf i).toNat)
                  case atStart => exact ⟨0, Nat.zero_le _, rfl, _, _, _, rfl, by omega, HH0.out⟩
                  case round =>
                    clear HH0
                    obtain ⟨k, hk, rfl, ql, al, cl, rfl, HI⟩ := hrel
                    obtain ⟨wo, hwo⟩ : ∃ wo, wo = wr := ⟨_, rfl⟩
                    subst hwo
                    by_cases hlt : k < nH
                    · obtain ⟨u, hu⟩ : ∃ u, ush[k]? = some u := ⟨_, List.getElem?_eq_getElem (by rw [HLH.out]; exact hlt)⟩
                      obtain ⟨qu, m, c2, rfl, hm100, -⟩ := HVH.out k u hu
                      obtain ⟨hal, F2, lo2, hlo2, hag⟩ := HI.out
                      obtain ⟨gl, egl, z1⟩ := list_at hag.lh hu
                      subst egl
                      have i1 : (k : Int) < (nH : Int) := by omega
                      have i0 : (0 : Int) ≤ (k : Int) := by omega
                      have HJ0 : Hid (∃ F lo, lo.length = al ∧ F (.slice qu m c2) k ∧ Ag W0 S (.slice pq nQ kq) usq (.slice (some ⟨gl, 0, none⟩) nH kh) ush (.slice q1 a1 c1') lo1 (.slice ql al cl) lo TA TA F1 F wo) := ⟨F2, lo2, hlo2, hag.g0 k _ hu, hag⟩
                      have HAL : Hid (al = b + k) := hal
                      clear hag hu HI hlo2 hal
                      go_wp2_with fail
                      clear z1
                      go_loopw [16, 17] (fun v i wr => ∃ j : Nat, j ≤ 60 ∧ i = .int .i64 j ∧ ∃ qx mx cx, v = .slice qx mx cx ∧ Hid (mx = m + j ∧ ∃ F lo, lo.length = al ∧ F (.slice qx mx cx) k ∧ Ag W0 S (.slice pq nQ kq) usq (.slice (some ⟨gl, 0, none⟩) nH kh) ush (.slice q1 a1 c1') lo1 (.slice ql al cl) lo TA TA F1 F wr)) (fun _ i _ => 60 - (intOf i).toNat)
                      case atStart => exact ⟨0, by decide, rfl, _, _, _, rfl, rfl, HJ0.out⟩
                      case round =>
                        clear HJ0
                        obtain ⟨j, hj, rfl, qx, mx, cx, rfl, HX⟩ := hrel
                        by_cases hj1 : j < r
                        · have j1 : (j : Int) < (r : Int) := by omega
                          obtain ⟨q', c', W', hrun, HN⟩ : ∃ q' c' W', Hid ((Builtin.append_ #[37, 37] 37 #[.slice qx mx cx, .slice (some ⟨wr.heap.size, 0, none⟩) 1 1]).run Try.prog (wr.alloc (.cells #[.int .i64 (2000 + (k : Int))] 3)) = .ok (.slice q' (mx + 1) c') W') ∧ Hid (mx + 1 = m + (j + 1) ∧ ∃ F lo, lo.length = al ∧ F (.slice q' (mx + 1) c') k ∧ Ag W0 S (.slice pq nQ kq) usq (.slice (some ⟨gl, 0, none⟩) nH kh) ush (.slice q1 a1 c1') lo1 (.slice ql al cl) lo TA TA F1 F W') := by
                            obtain ⟨h0, F, lo, h1, h2, h3⟩ := HX.out
                            obtain ⟨q', c', W', F', hr, h4, h5⟩ := h3.appH h2 (by omega)
                            exact ⟨q', c', W', hr, by omega, F', lo, h1, h4, h5⟩
                          clear HX
                          have hwr : IntKind.i64.wrap (2000 + (k : Int)) = 2000 + (k : Int) := wrH1 (Nat.le_trans (Nat.le_of_lt hlt) hnh)
                          have hww : wrap64 (2000 + (k : Int)) = 2000 + (k : Int) := wrH2 (Nat.le_trans (Nat.le_of_lt hlt) hnh)
                          go_wp2_with (at_builtin; refine wpList_app_is rfl (.tmp 128) (.tmp 131) 37 rfl (.slice qx mx cx) (.slice (some ⟨wr.heap.size, 0, none⟩) 1 1) (.slice q' (mx + 1) c') rfl rfl hrun.out ?_)
                          go_roundw
                          case rel => exact ⟨j + 1, by omega, by go_num, q', mx + 1, c', by first | rfl | exact ⟨rfl, rfl, rfl⟩, HN.out⟩
                          case measure => simp [intOf]; omega
                        · have j1 : ¬ (j : Int) < (r : Int) := by omega
                          by_cases hr16 : r = 16
                          · have j2 : ((r : Int) == 16) = true := by rw [beq_iff_eq]; omega
                            by_cases hj2 : j < 60
                            · have j3 : (j : Int) < 60 := by omega
                              obtain ⟨q', c', W', hrun, HN⟩ : ∃ q' c' W', Hid ((Builtin.append_ #[37, 37] 37 #[.slice qx mx cx, .slice (some ⟨wr.heap.size, 0, none⟩) 1 1]).run Try.prog (wr.alloc (.cells #[.int .i64 (2000 + (k : Int))] 3)) = .ok (.slice q' (mx + 1) c') W') ∧ Hid (mx + 1 = m + (j + 1) ∧ ∃ F lo, lo.length = al ∧ F (.slice q' (mx + 1) c') k ∧ Ag W0 S (.slice pq nQ kq) usq (.slice (some ⟨gl, 0, none⟩) nH kh) ush (.slice q1 a1 c1') lo1 (.slice ql al cl) lo TA TA F1 F W') := by
                                obtain ⟨h0, F, lo, h1, h2, h3⟩ := HX.out
                                obtain ⟨q', c', W', F', hr, h4, h5⟩ := h3.appH h2 (by omega)
                                exact ⟨q', c', W', hr, by omega, F', lo, h1, h4, h5⟩
                              clear HX
                              have hwr : IntKind.i64.wrap (2000 + (k : Int)) = 2000 + (k : Int) := wrH1 (Nat.le_trans (Nat.le_of_lt hlt) hnh)
                              have hww : wrap64 (2000 + (k : Int)) = 2000 + (k : Int) := wrH2 (Nat.le_trans (Nat.le_of_lt hlt) hnh)
                              go_wp2_with (at_builtin; refine wpList_app_is rfl (.tmp 128) (.tmp 131) 37 rfl (.slice qx mx cx) (.slice (some ⟨wr.heap.size, 0, none⟩) 1 1) (.slice q' (mx + 1) c') rfl rfl hrun.out ?_)
                              go_roundw
                              case rel => exact ⟨j + 1, by omega, by go_num, q', mx + 1, c', by first | rfl | exact ⟨rfl, rfl, rfl⟩, HN.out⟩
                              case measure => simp [intOf]; omega
                            · have j3 : ¬ (j : Int) < 60 := by omega
                              obtain ⟨ql', cl', W', hrun, HN⟩ : ∃ ql' cl' W', Hid ((Builtin.append_ #[25, 25] 25 #[.slice ql al cl, .slice (some ⟨wr.heap.size, 0, none⟩) 1 1]).run Try.prog (wr.alloc (.cells #[.slice qx mx cx] 37)) = .ok (.slice ql' (al + 1) cl') W') ∧ Hid (al + 1 = b + (k + 1) ∧ ∃ F lo, lo.length = al + 1 ∧ Ag W0 S (.slice pq nQ kq) usq (.slice (some ⟨gl, 0, none⟩) nH kh) ush (.slice q1 a1 c1') lo1 (.slice ql' (al + 1) cl') lo TA TA F1 F W') := by
                                obtain ⟨h0, F, lo, h1, h2, h3⟩ := HX.out
                                have hal := HAL.out
                                obtain ⟨vl', W', hr, h5⟩ := h3.moreH (x := .slice qx mx cx) (by rw [h1, HLH.out, HAL.out, HAB.out.2, Nat.mul_add_mod_of_lt hlt]; exact h2) (by omega) rfl
                                obtain ⟨ql', cl', e, -⟩ := own_shape h5.mr
                                rw [List.length_append, List.length_singleton, h1] at e
                                subst e
                                exact ⟨ql', cl', W', hr, by omega, F, _, by rw [List.length_append, List.length_singleton, h1], h5⟩
                              clear HX
                              go_wp2_with (at_builtin; refine wpList_app_is rfl (.tmp 133) (.tmp 135) 25 rfl (.slice ql al cl) (.slice (some ⟨wr.heap.size, 0, none⟩) 1 1) (.slice ql' (al + 1) cl') rfl rfl hrun.out ?_)
                              go_roundw
                              case rel => first | exact ⟨k + 1, by omega, by go_num, ql', al + 1, cl', by first | rfl | exact ⟨rfl, rfl, rfl⟩, HN.out⟩ | exact ⟨_, _, _, _, _, ⟨k + 1, by omega, by first | rfl | go_num | simp, ql', al + 1, cl', rfl, HN.out⟩, rfl, rfl, rfl, rfl, rfl⟩ | exact ⟨_, _, _, _, _, ⟨k + 1, by omega, rfl, ql', al + 1, cl', rfl, HN.out⟩, rfl, rfl, rfl, rfl, by go_num⟩
                              case measure => simp [intOf]; omega
                          · have j2 : ((r : Int) == 16) = false := by rw [beq_eq_false_iff_ne]; omega
                            obtain ⟨ql', cl', W', hrun, HN⟩ : ∃ ql' cl' W', Hid ((Builtin.append_ #[25, 25] 25 #[.slice ql al cl, .slice (some ⟨wr.heap.size, 0, none⟩) 1 1]).run Try.prog (wr.alloc (.cells #[.slice qx mx cx] 37)) = .ok (.slice ql' (al + 1) cl') W') ∧ Hid (al + 1 = b + (k + 1) ∧ ∃ F lo, lo.length = al + 1 ∧ Ag W0 S (.slice pq nQ kq) usq (.slice (some ⟨gl, 0, none⟩) nH kh) ush (.slice q1 a1 c1') lo1 (.slice ql' (al + 1) cl') lo TA TA F1 F W') := by
                              obtain ⟨h0, F, lo, h1, h2, h3⟩ := HX.out
                              have hal := HAL.out
                              obtain ⟨vl', W', hr, h5⟩ := h3.moreH (x := .slice qx mx cx) (by rw [h1, HLH.out, HAL.out, HAB.out.2, Nat.mul_add_mod_of_lt hlt]; exact h2) (by omega) rfl
                              obtain ⟨ql', cl', e, -⟩ := own_shape h5.mr
                              rw [List.length_append, List.length_singleton, h1] at e
                              subst e
                              exact ⟨ql', cl', W', hr, by omega, F, _, by rw [List.length_append, List.length_singleton, h1], h5⟩
                            clear HX
                            go_wp2_with (at_builtin; refine wpList_app_is rfl (.tmp 133) (.tmp 135) 25 rfl (.slice ql al cl) (.slice (some ⟨wr.heap.size, 0, none⟩) 1 1) (.slice ql' (al + 1) cl') rfl rfl hrun.out ?_)
                            go_roundw
                            case rel => first | exact ⟨k + 1, by omega, by go_num, ql', al + 1, cl', by first | rfl | exact ⟨rfl, rfl, rfl⟩, HN.out⟩ | exact ⟨_, _, _, _, _, ⟨k + 1, by omega, by first | rfl | go_num | simp, ql', al + 1, cl', rfl, HN.out⟩, rfl, rfl, rfl, rfl, rfl⟩ | exact ⟨_, _, _, _, _, ⟨k + 1, by omega, rfl, ql', al + 1, cl', rfl, HN.out⟩, rfl, rfl, rfl, rfl, by go_num⟩
                            case measure => simp [intOf]; omega
                    · have hnl : ¬ (k : Int) < (nH : Int) := by omega
                      have hkn : k = nH := by omega
                      have HN : Hid (al = (r + 1) * nH ∧ ∃ G mo, mo.length = al ∧ Ag W0 S (.slice pq nQ kq) usq (.slice ph nH kh) ush (.slice q1 a1 c1') lo1 (.slice ql al cl) mo TA TA F1 G wo) := by
                        obtain ⟨h0, F, lo, h1, h2⟩ := HI.out
                        exact ⟨by rw [h0, HAB.out.2, hkn, Nat.succ_mul], F, lo, h1, h2⟩
                      have HM : Hid (lo1.length = a1 ∧ a1 = (r + 1) * nQ) := HLO.out
                      clear HI HLO HAB
                      go_wp2_with fail
                      go_roundw
                      case rel =>
                        obtain ⟨h0, G, mo, h1, h2⟩ := HN.out
                        exact ⟨r + 1, by omega, by go_num, _, _, _, _, _, _, rfl, rfl, HM.out.2, h0, F1, G, lo1, mo, HM.out.1, h1, h2⟩
                      case measure => simp [intOf]; omega
            · have r1 : ¬ (r : Int) ≤ 16 := by omega
              obtain ⟨hab, hbb, F1, G1, lo1, mo1, hlo1, hmo1, hz⟩ := HR.out
              obtain ⟨wz, hwz⟩ : ∃ wz, wz = wr := ⟨_, rfl⟩
              subst hwz
              have HZ : Hid (Ag W0 S (.slice pq nQ kq) usq (.slice ph nH kh) ush (.slice q1 a c1') lo1 (.slice q2 b c2') mo1 TA TA F1 G1 wz) := hz
              have HE : Hid (lo1.length = a ∧ mo1.length = b ∧ a = r * nQ ∧ b = r * nH) := ⟨hlo1, hmo1, hab, hbb⟩
              have HD : Hid (∃ mm, wz = wz.drewN mm) := ⟨0, rfl⟩
              have hal : a ≤ 2000 := by rw [hab]; have := Nat.mul_le_mul hr hnq; omega
              have hbl : b ≤ 2000 := by rw [hbb]; have := Nat.mul_le_mul hr hnh; omega
              clear hz HR hab hbb hlo1 hmo1
              go_wp2_with fail
              go_loopw [140] (fun i wr => ∃ k : Nat, k ≤ a ∧ i = .int .i64 k ∧ Hid (∃ mm, wr = wz.drewN mm)) (fun i _ => a - (intOf i).toNat)
              case atStart => exact ⟨0, Nat.zero_le _, rfl, HD.out⟩
              case round =>
                clear HD
                obtain ⟨k, hk, rfl, HD⟩ := hrel
                by_cases hlt : k < a
                · obtain ⟨x, hx⟩ : ∃ x, lo1[k]? = some x := ⟨_, List.getElem?_eq_getElem (by rw [HE.out.1]; exact hlt)⟩
                  have hnp : 0 < nQ := Nat.pos_of_ne_zero fun e0 => by have := HE.out.2.2.1; rw [e0, Nat.mul_zero] at this; omega
                  obtain ⟨qx, mx, cx, rfl, hqx⟩ := HZ.out.cq.form (HZ.out.le k x hx)
                  obtain ⟨gx, egx, z2⟩ := list_at (HZ.out.lr) hx
                  have HU : Hid (F1 (.slice qx mx cx) (k % nQ)) := by have := HZ.out.le k _ hx; rwa [HLQ.out] at this
                  have HP : Hid (q1 = some ⟨gx, 0, none⟩) := egx
                  have HQX : Hid (0 < mx → ∃ g, qx = some ⟨g, 0, none⟩) := hqx
                  subst egx
                  have i1 : (k : Int) < (a : Int) := by omega
                  have i0 : (0 : Int) ≤ (k : Int) := by omega
                  have HX2 : Hid (∀ mm, (wz.drewN mm).cell? ⟨gx, k, none⟩ = some (.slice qx mx cx)) := fun mm => z2
                  have hmx : mx ≤ 9223372036854775807 := by
                    obtain ⟨xs, o, -⟩ := HZ.out.cq.own _ _ HU.out
                    rcases o.2 with ⟨e0, e1⟩ | ⟨g, cap, cur, e0, _, _, h1, h2, _⟩
                    · have : mx = 0 := e1
                      omega
                    · have h3 : mx ≤ cap := h1
                      have h4 : cap ≤ maxLen := h2
                      have h5 : maxLen ≤ 9223372036854775807 := by decide
                      omega
                  have z3 : wr.cell? ⟨gx, k, none⟩ = some (.slice qx mx cx) := by obtain ⟨mm, rfl⟩ := HD.out; exact HX2.out mm
                  clear hx hqx z2
                  go_wp2_with fail
                  clear z3
                  obtain ⟨wp, hwp⟩ : ∃ wp, wp = wr := ⟨_, rfl⟩
                  subst hwp
                  go_loopw [148] (fun i wr => ∃ j : Nat, j ≤ mx ∧ i = .int .i64 j ∧ Hid (∃ mm, wr = wz.drewN mm)) (fun i _ => mx - (intOf i).toNat)
                  case atStart => exact ⟨0, Nat.zero_le _, rfl, HD.out⟩
                  case round =>
                    clear HD
                    obtain ⟨j, hj, rfl, HD⟩ := hrel
                    by_cases hjt : j < mx
                    · obtain ⟨g, eg⟩ := HQX.out (by omega)
                      subst eg
                      obtain ⟨u0, y0, -, hp0⟩ := HZ.out.cq.cell1 HU.out j hjt
                      have e0 : u0 = (.int .u64 (1000 + ((k % nQ : Nat) : Int))) := hp0 trivial
                      subst e0
                      have z3 : wr.cell? ⟨gx, k, none⟩ = some (.slice (some ⟨g, 0, none⟩) mx cx) := by obtain ⟨mm, rfl⟩ := HD.out; exact HX2.out mm
                      have z4 : wr.cell? ⟨g, j, none⟩ = some (.int .u64 (1000 + ((k % nQ : Nat) : Int))) := by obtain ⟨mm, rfl⟩ := HD.out; exact y0
                      have z5 : wr.drew.cell? ⟨gx, k, none⟩ = some (.slice (some ⟨g, 0, none⟩) mx cx) := z3
                      have z6 : wr.drew.cell? ⟨g, j, none⟩ = some (.int .u64 (1000 + ((k % nQ : Nat) : Int))) := z4
                      have hmo : (k : Int).tmod (nQ : Int) = ((k % nQ : Nat) : Int) := by rw [Int.ofNat_tmod]
                      have hml : k % nQ < nQ := Nat.mod_lt _ hnp
                      have hn0 : ¬ (nQ : Int) = 0 := by omega
                      have hn1 : ¬ nQ = 0 := by omega
                      generalize k % nQ = km at *
                      have hwr : IntKind.i64.wrap (1000 + (km : Int)) = 1000 + (km : Int) := wrQ1 (Nat.le_trans (Nat.le_of_lt hml) hnq)
                      have hww : wrap64 (1000 + (km : Int)) = 1000 + (km : Int) := wrQ2 (Nat.le_trans (Nat.le_of_lt hml) hnq)
                      have hwu : IntKind.u64.wrap (1000 + (km : Int)) = 1000 + (km : Int) := wrQ3 (Nat.le_trans (Nat.le_of_lt hml) hnq)
                      have hwm : wrap64 (km : Int) = (km : Int) := wrN2 (Nat.le_trans (Nat.le_of_lt hml) hnq)
                      have hwn : IntKind.i64.wrap (km : Int) = (km : Int) := wrN1 (Nat.le_trans (Nat.le_of_lt hml) hnq)
                      have qn : ((1000 + (km : Int)) != (1000 + (km : Int))) = false := by simp
                      have j1 : (j : Int) < (mx : Int) := by omega
                      have j0 : (0 : Int) ≤ (j : Int) := by omega
                      clear hp0 y0
                      go_wp2_with fail
                      go_quiet (fail)
                      go_wp2_with fail
                      go_roundw
                      case rel => exact ⟨j + 1, by omega, by go_num, drew_more HD.out nq⟩
                      case measure => simp [intOf]; omega
                    · have j1 : ¬ (j : Int) < (mx : Int) := by omega
                      go_wp2_with fail
                      go_roundw
                      case rel => exact ⟨k + 1, by omega, by go_num, HD.out⟩
                      case measure => simp [intOf]; omega
                · have hnl : ¬ (k : Int) < (a : Int) := by omega
                  go_wp2_with fail
                  go_loopw [169] (fun i wr => ∃ k : Nat, k ≤ b ∧ i = .int .i64 k ∧ Hid (∃ mm, wr = wz.drewN mm)) (fun i _ => b - (intOf i).toNat)
                  case atStart => exact ⟨0, Nat.zero_le _, rfl, HD.out⟩
                  case round =>
                    clear HD
                    obtain ⟨k, hk, rfl, HD⟩ := hrel
                    by_cases hlt : k < b
                    · obtain ⟨x, hx⟩ : ∃ x, mo1[k]? = some x := ⟨_, List.getElem?_eq_getElem (by rw [HE.out.2.1]; exact hlt)⟩
                      have hnp : 0 < nH := Nat.pos_of_ne_zero fun e0 => by have := HE.out.2.2.2; rw [e0, Nat.mul_zero] at this; omega
                      obtain ⟨qx, mx, cx, rfl, hqx⟩ := HZ.out.ch.form (HZ.out.me k x hx)
                      obtain ⟨gx, egx, z2⟩ := list_at (HZ.out.mr) hx
                      have HU : Hid (G1 (.slice qx mx cx) (k % nH)) := by have := HZ.out.me k _ hx; rwa [HLH.out] at this
                      have HP : Hid (q2 = some ⟨gx, 0, none⟩) := egx
                      have HQX : Hid (0 < mx → ∃ g, qx = some ⟨g, 0, none⟩) := hqx
                      subst egx
                      have i1 : (k : Int) < (b : Int) := by omega
                      have i0 : (0 : Int) ≤ (k : Int) := by omega
                      have HX2 : Hid (∀ mm, (wz.drewN mm).cell? ⟨gx, k, none⟩ = some (.slice qx mx cx)) := fun mm => z2
                      have hmx : mx ≤ 9223372036854775807 := by
                        obtain ⟨xs, o, -⟩ := HZ.out.ch.own _ _ HU.out
                        rcases o.2 with ⟨e0, e1⟩ | ⟨g, cap, cur, e0, _, _, h1, h2, _⟩
                        · have : mx = 0 := e1
                          omega
                        · have h3 : mx ≤ cap := h1
                          have h4 : cap ≤ maxLen := h2
                          have h5 : maxLen ≤ 9223372036854775807 := by decide
                          omega
                      have z3 : wr.cell? ⟨gx, k, none⟩ = some (.slice qx mx cx) := by obtain ⟨mm, rfl⟩ := HD.out; exact HX2.out mm
                      clear hx hqx z2
                      go_wp2_with fail
                      clear z3
                      obtain ⟨wp, hwp⟩ : ∃ wp, wp = wr := ⟨_, rfl⟩
                      subst hwp
                      go_loopw [177] (fun i wr => ∃ j : Nat, j ≤ mx ∧ i = .int .i64 j ∧ Hid (∃ mm, wr = wz.drewN mm)) (fun i _ => mx - (intOf i).toNat)
                      case atStart => exact ⟨0, Nat.zero_le _, rfl, HD.out⟩
                      case round =>
                        clear HD
                        obtain ⟨j, hj, rfl, HD⟩ := hrel
                        by_cases hjt : j < mx
                        · obtain ⟨g, eg⟩ := HQX.out (by omega)
                          subst eg
                          obtain ⟨u0, y0, -, hp0⟩ := HZ.out.ch.cell1 HU.out j hjt
                          have e0 : u0 = (.int .i64 (2000 + ((k % nH : Nat) : Int))) := hp0 trivial
                          subst e0
                          have z3 : wr.cell? ⟨gx, k, none⟩ = some (.slice (some ⟨g, 0, none⟩) mx cx) := by obtain ⟨mm, rfl⟩ := HD.out; exact HX2.out mm
                          have z4 : wr.cell? ⟨g, j, none⟩ = some (.int .i64 (2000 + ((k % nH : Nat) : Int))) := by obtain ⟨mm, rfl⟩ := HD.out; exact y0
                          have z5 : wr.drew.cell? ⟨gx, k, none⟩ = some (.slice (some ⟨g, 0, none⟩) mx cx) := z3
                          have z6 : wr.drew.cell? ⟨g, j, none⟩ = some (.int .i64 (2000 + ((k % nH : Nat) : Int))) := z4
                          have hmo : (k : Int).tmod (nH : Int) = ((k % nH : Nat) : Int) := by rw [Int.ofNat_tmod]
                          have hml : k % nH < nH := Nat.mod_lt _ hnp
                          have hn0 : ¬ (nH : Int) = 0 := by omega
                          have hn1 : ¬ nH = 0 := by omega
                          generalize k % nH = km at *
                          have hwr : IntKind.i64.wrap (2000 + (km : Int)) = 2000 + (km : Int) := wrH1 (Nat.le_trans (Nat.le_of_lt hml) hnh)
                          have hww : wrap64 (2000 + (km : Int)) = 2000 + (km : Int) := wrH2 (Nat.le_trans (Nat.le_of_lt hml) hnh)
                          have hwm : wrap64 (km : Int) = (km : Int) := wrN2 (Nat.le_trans (Nat.le_of_lt hml) hnh)
                          have hwn : IntKind.i64.wrap (km : Int) = (km : Int) := wrN1 (Nat.le_trans (Nat.le_of_lt hml) hnh)
                          have qn : ((2000 + (km : Int)) != (2000 + (km : Int))) = false := by simp
                          have j1 : (j : Int) < (mx : Int) := by omega
                          have j0 : (0 : Int) ≤ (j : Int) := by omega
                          clear hp0 y0
                          go_wp2_with fail
                          go_quiet (fail)
                          go_wp2_with fail
                          go_roundw
                          case rel => exact ⟨j + 1, by omega, by go_num, drew_more HD.out nq⟩
                          case measure => simp [intOf]; omega
                        · have j1 : ¬ (j : Int) < (mx : Int) := by omega
                          go_wp2_with fail
                          go_roundw
                          case rel => exact ⟨k + 1, by omega, by go_num, HD.out⟩
                          case measure => simp [intOf]; omega
                    · have hnl : ¬ (k : Int) < (b : Int) := by omega
                      go_wp2_with fail
                      go_ret
                      obtain ⟨mm, rfl⟩ := HD.out
                      exact ⟨rfl, HZ.out.low.trans (Kept.of_below (fun _ => False) (below_drawn mm)) (fun _ _ e => e.elim)⟩
end Go.Proofs.Ytkffmglcllhbmaa
