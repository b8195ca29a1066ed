/-
  Layer 14: sameEntries, all.
-/
import Derived.Test.YtkffmglcllhbmaaRg
import Derived.Test.YtkffmglcllhbmaaLb
namespace Go.Proofs.Ytkffmglcllhbmaa
open Go.RowKit

/-- a row of entries that reads as the first k of a list -/
structure EIn (W : World) (v : Value) (k : Nat) (L : List En) : Prop where
  shape : ∃ p c, v = .slice p k c ∧ (0 < k → ∃ g, p = some ⟨g, 0, none⟩ ∧ ∀ i (h : i < L.length), i < k → W.cell? ⟨g, i * 3, none⟩ = some (.int .u64 L[i].t) ∧ ∃ q d, W.cell? ⟨g, i * 3 + 1, none⟩ = some (.slice q L[i].s.length d) ∧ B.IIn W q L[i].s.length L[i].s)
  len : k ≤ L.length
section
variable {w w' W : World} {G : Nat → Prop} {R n : Nat} {v u : Value} {a : Lk} {es : List Er} {L : List En} {F : Ft}
theorem EIn.later {k : Nat} (h : EIn W v k L) (hb : Below W.heap.size W w') : EIn w' v k L := by
  obtain ⟨p, c, rfl, hs⟩ := h.shape
  refine ⟨⟨p, c, rfl, fun h0 => ?_⟩, h.len⟩
  obtain ⟨g, rfl, hc⟩ := hs h0
  refine ⟨g, rfl, fun i hi hk => ?_⟩
  obtain ⟨h1, q, d, h2, h3⟩ := hc i hi hk
  exact ⟨(hb.cell (p := ⟨g, i * 3, none⟩) (World.block_lt_of_cell? W _ h1)).trans h1, q, d, (hb.cell (p := ⟨g, i * 3 + 1, none⟩) (World.block_lt_of_cell? W _ h2)).trans h2, h3.later hb⟩
theorem ecs_len (E : List (Int × Value)) : (ecs E).length = E.length * 3 := by
  induction E with
  | nil => rfl
  | cons x xs ih => simp only [ecs, List.flatMap_cons, List.length_append, List.length_cons, List.length_nil] at ih ⊢; omega
theorem ecs_at : ∀ (E : List (Int × Value)) (k : Nat) (x : Int × Value), E[k]? = some x → (ecs E)[k * 3]? = some (.int .u64 x.1) ∧ (ecs E)[k * 3 + 1]? = some x.2
  | [], k, x, h => by simp at h
  | y :: ys, 0, x, h => by
    simp at h; subst h
    simp [ecs]
  | y :: ys, k + 1, x, h => by
    obtain ⟨h1, h2⟩ := ecs_at ys k x (by simpa using h)
    have e0 : ecs (y :: ys) = [.int .u64 y.1, y.2, .int .i64 0] ++ ecs ys := rfl
    have e1 : (k + 1) * 3 = k * 3 + 3 := by omega
    have e2 : (k + 1) * 3 + 1 = k * 3 + 1 + 3 := by omega
    rw [e0, e1]
    refine ⟨?_, ?_⟩
    · rw [List.getElem?_append_right (by simp)]; simpa using h1
    · rw [List.getElem?_append_right (by simp)]; simpa using h2
theorem Ents.ein {wi : World} {b k : Nat} {E : List (Int × Value)} (h : Ents wi b W v E L k) (hk : k ≤ L.length) : EIn W v k L := by
  obtain ⟨p, c, rfl, hc, hp⟩ := O.own_form h.row
  refine ⟨⟨p, c, rfl, fun h0 => ?_⟩, hk⟩
  obtain ⟨g, rfl⟩ := hp h0
  refine ⟨g, rfl, fun i hi hik => ?_⟩
  have hE : E[i]? = some (E[i]'(by rw [h.len]; exact hik)) := List.getElem?_eq_getElem _
  obtain ⟨h1, h2⟩ := ecs_at E i _ hE
  obtain ⟨e1, e2⟩ := h.each i _ hE
  have en1 : en L i = L[i] := by simp [en, List.getD, List.getElem?_eq_getElem hi]
  rw [en1] at e1 e2
  obtain ⟨q, d, eq, hI, _⟩ := B.ints_in e2
  have c1 := O.own_cell h.row h1
  have c2 := O.own_cell h.row h2
  rw [e1] at c1
  rw [eq] at c2
  exact ⟨c1, q, d, c2, hI⟩
theorem RL.ein (h : RL w G R v a es) : ∃ p c, v = .slice p a.L.length c ∧ a.L.length ≤ c ∧ ∀ k, k ≤ a.L.length → EIn w (.slice p k c) k a.L := by
  obtain ⟨p, c, rfl, hc, hp⟩ := h.shape
  refine ⟨p, c, rfl, hc, fun k hk => ⟨⟨p, c, rfl, fun h0 => ?_⟩, hk⟩⟩
  obtain ⟨g, rfl⟩ := hp (by omega)
  refine ⟨g, rfl, fun i hi hik => ?_⟩
  obtain ⟨q, d, hx⟩ := h.cell (by rw [h.len]) hi
  obtain ⟨q', d', e, hI, _⟩ := hx.f.read
  simp only [Value.slice.injEq] at e
  obtain ⟨rfl, -, rfl⟩ := e
  exact ⟨hx.t, q, d, hx.s, hI⟩
theorem sameI_eq (p q : Option Addr) (n c m d : Nat) (xs : List Int) (w : World) (hx : B.IIn w p n xs) (hy : B.IIn w q m xs) (hn : n ≤ 140737488355328) : Calls Try.prog 17 #[.slice p n c, .slice q m d] w fun e w' => e = .returned (.bool true) ∧ ∃ m, w' = w.drewN m :=
  (sameI_is p q n c m d xs xs w hx hy hn).mono fun e w' ⟨h1, h2⟩ => ⟨by rw [h1, decide_eq_true rfl], h2⟩
theorem sameT_eq (p q : Option Addr) (n c m d : Nat) (xs : List Int) (w : World) (hx : UIn w p n xs) (hy : UIn w q m xs) (hn : n ≤ 140737488355328) : Calls Try.prog 16 #[.slice p n c, .slice q m d] w fun e w' => e = .returned (.bool true) ∧ ∃ m, w' = w.drewN m :=
  (sameT_is p q n c m d xs xs w hx hy hn).mono fun e w' ⟨h1, h2⟩ => ⟨by rw [h1, decide_eq_true rfl], h2⟩
set_option maxHeartbeats 2000000 in
set_option maxRecDepth 100000 in
theorem sameE_is {k : Nat} (h1 : EIn W v k L) (h2 : EIn W u k L) (hk : k ≤ 10000) (hs : ∀ e ∈ L, e.s.length ≤ 64) : Calls Try.prog 65 #[v, u] W fun e w' => e = .returned (.bool true) ∧ ∃ m, w' = W.drewN m := by
  have H1 : Hid (EIn W v k L) := h1
  have H2 : Hid (EIn W u k L) := h2
  obtain ⟨p, c, rfl, hp⟩ := h1.shape
  obtain ⟨q, d, rfl, hq⟩ := h2.shape
  have HP : Hid (0 < k → ∃ g, p = some ⟨g, 0, none⟩ ∧ ∀ i (h : i < L.length), i < k → W.cell? ⟨g, i * 3, none⟩ = some (.int .u64 L[i].t) ∧ ∃ q d, W.cell? ⟨g, i * 3 + 1, none⟩ = some (.slice q L[i].s.length d) ∧ B.IIn W q L[i].s.length L[i].s) := hp
  have HQ : Hid (0 < k → ∃ g, q = some ⟨g, 0, none⟩ ∧ ∀ i (h : i < L.length), i < k → W.cell? ⟨g, i * 3, none⟩ = some (.int .u64 L[i].t) ∧ ∃ q d, W.cell? ⟨g, i * 3 + 1, none⟩ = some (.slice q L[i].s.length d) ∧ B.IIn W q L[i].s.length L[i].s) := hq
  have HS : Hid (∀ e ∈ L, e.s.length ≤ 64) := hs
  clear h1 h2 hp hq hs
  have hb : (((k : Nat) : Int) != ((k : Nat) : Int)) = false := by simp
  go_enter Try.func65, Try.ntmps65
  go_wp2
  go_loopw [13] (fun i wr => ∃ j : Nat, j ≤ k ∧ i = .int .i64 j ∧ Hid (∃ nq, wr = W.drewN nq)) (fun i _ => k - (intOf i).toNat)
  case atStart => exact ⟨0, Nat.zero_le _, rfl, 0, rfl⟩
  case round =>
    obtain ⟨j, hj, rfl, HW⟩ := hrel
    by_cases hlt : j < k
    · obtain ⟨g1, rfl, hc1⟩ := HP.out (by omega)
      obtain ⟨g2, rfl, hc2⟩ := HQ.out (by omega)
      have hL : j < L.length := by have := H1.out.len; omega
      obtain ⟨x0, q1, d1, x1, I1⟩ := hc1 j hL hlt
      obtain ⟨y0, q2, d2, y1, I2⟩ := hc2 j hL hlt
      have hwc : ∀ a : Addr, wr.cell? a = W.cell? a := fun a => by obtain ⟨nq, rfl⟩ := HW.out; rfl
      have hsl := HS.out _ (List.getElem_mem hL)
      have z0 := (hwc _).trans x0
      have z1 := (hwc _).trans x1
      have z2 := (hwc _).trans y0
      have z3 := (hwc _).trans y1
      have z0' : wr.drew.cell? ⟨g1, j * 3, none⟩ = _ := z0
      have z1' : wr.drew.cell? ⟨g1, j * 3 + 1, none⟩ = _ := z1
      have z2' : wr.drew.cell? ⟨g2, j * 3, none⟩ = _ := z2
      have z3' : wr.drew.cell? ⟨g2, j * 3 + 1, none⟩ = _ := z3
      have HI1 : Hid (∀ m, B.IIn (wr.drewN m) q1 L[j].s.length L[j].s ∧ B.IIn (wr.drewN m) q2 L[j].s.length L[j].s) := fun m => by obtain ⟨nq, rfl⟩ := HW.out; exact ⟨⟨I1.len, I1.cells⟩, ⟨I2.len, I2.cells⟩⟩
      have HW2 : Hid (∀ m, ∃ nq, wr.drewN m = W.drewN nq) := fun m => by obtain ⟨nq, rfl⟩ := HW.out; exact ⟨_, World.drewN_drewN _ _ m⟩
      have i1 : (j : Int) < (k : Int) := by omega
      clear hc1 hc2 x0 x1 y0 y1 I1 I2 hwc
      generalize L[j].t = xt at *
      generalize L[j].s.length = sl at *
      generalize L[j].s = ss at *
      have hb2 : (xt != xt) = false := by simp
      go_wp2_with fail
      go_quiet ((go_at_call 17; exact Calls.quiet_of (sameI_eq _ _ _ _ _ _ ss _ (HI1.out _).1 (HI1.out _).2 (by omega))))
      go_wp2
      go_roundw
      case rel => exact ⟨j + 1, by omega, by go_num, HW2.out _⟩
      case measure => simp [intOf]; omega
    · have i1 : ¬ (j : Int) < (k : Int) := by omega
      go_wp2
      go_ret
      exact ⟨rfl, HW.out⟩
end
end Go.Proofs.Ytkffmglcllhbmaa
