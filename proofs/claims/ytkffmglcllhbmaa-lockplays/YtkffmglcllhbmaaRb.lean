/-
  Layer 14: the document's locks: what only reads them.
-/
import Derived.Test.YtkffmglcllhbmaaRa
namespace Go.Proofs.Ytkffmglcllhbmaa
open Go.RowKit

section
variable {w w' : World} {G : Nat → Prop} {R : Nat} {v : Value} {a : Lk} {es : List Er}
set_option maxHeartbeats 1000000 in
set_option maxRecDepth 100000 in
theorem rat_at (h : RL w G R v a es) (hn : a.L.length ≤ 10000) (t : Int) : Calls Try.prog 62 #[qp R, .int .u64 t] w fun e w' => e = .returned (.int .i64 (atN a.L t)) ∧ w' = w := by
  have H : Hid (RL w G R v a es) := h
  obtain ⟨p, c, rfl, hc, hp⟩ := h.shape
  have c2 : w.cell? ⟨R, 2, none⟩ = some (.slice p a.L.length c) := h.c 2
  have HLE : Hid (a.L.length = es.length) := h.len.symm
  clear h
  go_enter Try.func62, Try.ntmps62
  go_wp2_with fail
  go_loopw [5] (fun i wr => ∃ k : Nat, k ≤ a.L.length ∧ i = .int .i64 k ∧ wr = w ∧ Hid (noneE t a.L k)) (fun i _ => a.L.length - (intOf i).toNat)
  case atStart => exact ⟨0, Nat.zero_le _, rfl, rfl, noneE_zero t a.L⟩
  case round =>
    obtain ⟨k, hk, rfl, rfl, hA⟩ := hrel
    by_cases hlt : k < a.L.length
    · obtain ⟨g, rfl⟩ := hp (by omega)
      obtain ⟨p', c', hx⟩ := H.out.cell HLE.out hlt
      have x0 := hx.t
      have i1 : (k : Int) < (a.L.length : Int) := by omega
      have E1 : Hid (a.L[k].t = t → atN a.L t = k) := fun e => by
        have h2 := noneE_hit hA.out hlt e
        unfold atN
        rw [h2.2, if_pos rfl, h2.1]
      have E2 : Hid (¬ a.L[k].t = t → noneE t a.L (k + 1)) := fun e => noneE_step hA.out hlt e
      clear hx
      generalize a.L[k].t = xt at *
      cases hz : (xt == t)
      · have hx : ¬ xt = t := by simpa using hz
        have HE : Hid (noneE t a.L (k + 1)) := E2.out hx
        clear E1 E2
        go_wp2_with fail
        go_roundw
        case rel => exact ⟨k + 1, by omega, by go_num, by trivial, HE⟩
        case measure => simp [intOf]; omega
      · have hx : xt = t := by simpa using hz
        have HE : Hid (atN a.L t = k) := E1.out hx
        clear E1 E2
        go_wp2
        go_ret
        exact ⟨by rw [HE.out]; rfl, by trivial⟩
    · obtain rfl : k = a.L.length := by omega
      have HE : Hid (atN a.L t = -1) := by show _ = _; unfold atN; rw [noneE_all hA.out]; rfl
      go_wp2
      go_ret
      exact ⟨by rw [HE.out]; rfl, by trivial⟩
theorem atN_no {L : List En} {t : Int} (h : isIn L t = false) : atN L t = -1 := by simp [atN, h]
theorem atN_yes {L : List En} {t : Int} (h : isIn L t = true) : atN L t = (posE t L : Int) := by simp [atN, h]
theorem RL.ent (h : RL w G R v a es) {t : Int} (hi : isIn a.L t = true) : ∃ g c p' c', v = .slice (some ⟨g, 0, none⟩) a.L.length c ∧ a.L.length ≤ c ∧ posE t a.L < a.L.length ∧ Ecell w G g (posE t a.L) (Go.Proofs.Ytkffmglcllhbmaa.ent a.L t) p' c' := by
  obtain ⟨hk, e⟩ := posE_at hi
  obtain ⟨p, c, rfl, hc, hp⟩ := h.shape
  obtain ⟨g, rfl⟩ := hp (by omega)
  obtain ⟨p', c', hx⟩ := h.cell h.len.symm hk
  rw [e] at hx
  exact ⟨g, c, p', c', rfl, hc, hk, hx⟩
theorem Ecell.set {g k : Nat} {x : En} {p : Option Addr} {c : Nat} (h : Ecell w G g k x p c) {j : Nat} (hj : j < x.s.length) : ∃ b o, p = some ⟨b, o, none⟩ ∧ w.cell? ⟨b, o + j, none⟩ = some (.int .i64 x.s[j]) := by
  obtain ⟨p', c', e, hI, _⟩ := h.f.read
  simp only [Value.slice.injEq] at e
  obtain ⟨rfl, _, rfl⟩ := e
  obtain ⟨b, o, rfl, hc⟩ := hI.cells (by omega)
  refine ⟨b, o, rfl, ?_⟩
  rw [hc j hj]
  simp [List.getD, List.getElem?_eq_getElem hj]
set_option maxHeartbeats 2000000 in
set_option maxRecDepth 100000 in
theorem rnext_at (h : RL w G R v a es) (ok : Ok a) (hn : a.L.length ≤ 10000) (t : Int) : Calls Try.prog 63 #[qp R, .int .u64 t] w fun e w' => e = .returned (.tuple #[.int .i64 (ent a.L t).nx, .bool (ent a.L t).nxB]) ∧ ∃ m, w' = w.drewN m := by
  have hat := rat_at h hn t
  cases hi : isIn a.L t with
  | false =>
    rw [atN_no hi] at hat
    rw [(out_nx hi).1, (out_nx hi).2.1]
    have HA : Hid (Calls Try.prog 62 #[qp R, .int .u64 t] w fun e w' => e = .returned (.int .i64 (-1)) ∧ w' = w) := hat
    clear h hat hi
    go_enter Try.func63, Try.ntmps63
    go_wp2_with (go_at_call 62; refine HA.out.mono ?_; rintro e w' ⟨rfl, rfl⟩)
    go_quiet (fail)
    go_wp2
    go_ret2
    exact ⟨rfl, _, rfl⟩
  | true =>
    rw [atN_yes hi] at hat
    obtain ⟨g, c, p', c', rfl, hc, hk, hx⟩ := h.ent hi
    have c2 : w.cell? ⟨R, 2, none⟩ = some (.slice (some ⟨g, 0, none⟩) a.L.length c) := h.c 2
    have d2 : w.drew.cell? ⟨R, 2, none⟩ = some (.slice (some ⟨g, 0, none⟩) a.L.length c) := c2
    have x1 := hx.s
    have x2 := hx.d
    have y1 : w.drew.cell? ⟨g, posE t a.L * 3 + 1, none⟩ = some (.slice p' (ent a.L t).s.length c') := x1
    have y2 : w.drew.cell? ⟨g, posE t a.L * 3 + 2, none⟩ = some (.int .i64 (ent a.L t).d) := x2
    have i1 : ((posE t a.L : Nat) : Int) < (a.L.length : Int) := by omega
    have hd := ent_don ok t
    have hl := ent_len ok t
    have HS : Hid ((ent a.L t).nxB = true → ∃ b o, p' = some ⟨b, o, none⟩ ∧ w.cell? ⟨b, o + (ent a.L t).d, none⟩ = some (.int .i64 (ent a.L t).nx)) := fun hb => by
      obtain ⟨hd', e⟩ := nx_get hb
      rw [e]
      exact hx.set hd'
    have HN : Hid ((ent a.L t).nxB = decide ((ent a.L t).d < (ent a.L t).s.length) ∧ ((ent a.L t).nxB = false → (ent a.L t).nx = 0)) := ⟨rfl, fun hb => by
      have : ¬ (ent a.L t).d < (ent a.L t).s.length := by simpa [En.nxB] using hb
      simp [En.nx, this]⟩
    clear h hx hi ok
    generalize (ent a.L t).s.length = sl at *
    generalize (ent a.L t).d = dd at *
    generalize (ent a.L t).nx = nx at *
    generalize (ent a.L t).nxB = nb at *
    generalize posE t a.L = pp at *
    have HA : Hid (Calls Try.prog 62 #[qp R, .int .u64 t] w fun e w' => e = .returned (.int .i64 (pp : Int)) ∧ w' = w) := hat
    clear hat
    cases nb with
    | false =>
      have e1 : dd = sl := by have := HN.out.1; simp at this; omega
      have e2 : nx = 0 := HN.out.2 rfl
      subst e1 e2
      clear HS HN
      have hq : (((dd : Nat) : Int) == ((dd : Nat) : Int)) = true := by simp
      go_enter Try.func63, Try.ntmps63
      go_wp2_with (go_at_call 62; refine HA.out.mono ?_; rintro e w' ⟨rfl, rfl⟩)
      go_quiet (fail)
      go_wp2
      go_ret2
      exact ⟨rfl, _, rfl⟩
    | true =>
      have e1 : dd < sl := by have := HN.out.1; simpa using this.symm
      obtain ⟨b, o, rfl, z1⟩ := HS.out rfl
      have z2 : w.drew.cell? ⟨b, o + dd, none⟩ = some (.int .i64 nx) := z1
      have z3 : (w.drewN 2).cell? ⟨b, o + dd, none⟩ = some (.int .i64 nx) := z1
      have d3 : (w.drewN 2).cell? ⟨R, 2, none⟩ = some (.slice (some ⟨g, 0, none⟩) a.L.length c) := c2
      have y3 : (w.drewN 2).cell? ⟨g, pp * 3 + 1, none⟩ = some (.slice (some ⟨b, o, none⟩) sl c') := x1
      have y4 : (w.drewN 2).cell? ⟨g, pp * 3 + 2, none⟩ = some (.int .i64 dd) := x2
      clear HS HN
      have hq : (((dd : Nat) : Int) == ((sl : Nat) : Int)) = false := by rw [beq_eq_false_iff_ne]; omega
      have i2 : (dd : Int) < (sl : Int) := by omega
      go_enter Try.func63, Try.ntmps63
      go_wp2_with (go_at_call 62; refine HA.out.mono ?_; rintro e w' ⟨rfl, rfl⟩)
      go_quiet (fail)
      go_wp2_with fail
      go_quiet (fail)
      go_wp2
      go_ret2
      exact ⟨rfl, _, World.drewN_drewN _ _ _⟩
end
end Go.Proofs.Ytkffmglcllhbmaa
