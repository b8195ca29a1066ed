/-
  RingLap walked.
-/
import Derived.Test.YtbeffibcigaioaaLb
import Derived.Laws.MakeOwn
namespace Go.Proofs.Ytbeffibcigaioaa
open Go.RowKit

theorem info4 : (Try.prog.info? 4).map (fun i => (i.zero, i.size, i.bytes)) = some (some (.bool false), 1, 1) := by kernel_rfl

theorem own_later {w w' : World} {base : Nat} {e : TypeId} {v : Value} {n : Nat} {xs : List Value} (h : w.ownsRow base e 1 v n xs) (hb : Below w.heap.size w w') : w'.ownsRow base e 1 v n xs := by
  refine ⟨h.1, ?_⟩
  rcases h.2 with h0 | ⟨g, cap, cur, rfl, h1, hg, h2⟩
  · exact .inl h0
  · exact .inr ⟨g, cap, cur, rfl, h1, (hb.block _ (Array.getElem?_eq_some_iff.1 hg).1).trans hg, h2⟩

theorem made_bool (n : Nat) : (madeCells #[Value.bool false] n).toList = (List.replicate n false).map Value.bool := by
  rw [toList_madeCells_one]
  simp

/-- What is marked is an earlier position's slot. -/
structure Marks (T : Int) (N i : Nat) (bs : List Bool) : Prop where
  len : bs.length = N
  old : ∀ s : Nat, bs[s]? = some true → ∃ a : Nat, a < i ∧ (T + (a : Int)) % (N : Int) = s

theorem Marks.start (T : Int) (N : Nat) : Marks T N 0 (List.replicate N false) :=
  ⟨by simp, fun s h => by simp [List.getElem?_replicate] at h⟩
theorem Marks.fresh {T : Int} {N i : Nat} {bs : List Bool} (h : Marks T N i bs) (hN : 0 < N) (hi : i < N) {s : Nat} (hs : (T + (i : Int)) % (N : Int) = s) : bs[s]? = some false := by
  have hlt : s < bs.length := by
    have := Int.emod_lt_of_pos (T + (i : Int)) (show (0 : Int) < (N : Int) by omega)
    have := h.len
    omega
  rw [List.getElem?_eq_getElem hlt]
  cases hb : bs[s] with
  | false => rfl
  | true =>
    obtain ⟨a, ha, he⟩ := h.old s (by rw [List.getElem?_eq_getElem hlt, hb])
    have := lap_inj (N : Int) (T + (a : Int)) (T + (i : Int)) (by omega) (by rw [he, hs]) (by omega) (by omega)
    omega
theorem Marks.next {T : Int} {N i : Nat} {bs : List Bool} (h : Marks T N i bs) {s : Nat} (hs : (T + (i : Int)) % (N : Int) = s) : Marks T N (i + 1) (bs.set s true) := by
  refine ⟨by simp [h.len], fun r hr => ?_⟩
  by_cases e : s = r
  · subst e
    exact ⟨i, by omega, hs⟩
  · rw [List.getElem?_set_ne e] at hr
    obtain ⟨a, ha, he⟩ := h.old r hr
    exact ⟨a, by omega, he⟩

set_option maxRecDepth 100000 in
set_option maxHeartbeats 2000000 in
theorem ringLap_any (t0 n0 : Int) (ht0 : 0 ≤ t0) (w : World) :
    Calls Try.prog 4 #[.int .u64 t0, .int .i64 n0] w fun e w' => e = .returned (.bool true) ∧ Below w.heap.size w w' := by
  obtain ⟨i0, hi, hz0, hz1, hz2⟩ := info_parts info4
  go_enter Try.func4, Try.ntmps4
  go_wp2_with fail
  refine (awake_any _).mono ?_
  rintro e w1 ⟨rfl, hb⟩
  have B1 : Hid (Below w.heap.size w w1) := hb
  clear hb
  go_wp2_with fail
  refine (lap_x _ _ ht0 _).mono ?_
  rintro e w' ⟨T, n, ⟨hT0, hT1, hn⟩, rfl, rfl⟩
  have hn1 := hn.1
  have hn2 := hn.2
  obtain ⟨N, rfl⟩ : ∃ N : Nat, n = N := ⟨n.toNat, by omega⟩
  have hwn := wrap_cap hn
  have hN1 : 2 ≤ N := by omega
  have hN2 : N ≤ 64 := by omega
  go_wp2_with (at_make; refine wpList_make_full _ rfl _ _ 35 rfl w.heap.size 4 i0 (.bool false) 1 Try.underlying35 hi hz0 hz1 .i64 .i64 _ _ N rfl rfl rfl rfl (by rw [hz2]; omega) (by unfold maxLen; omega) B1.out.size ?_)
  intro w2 hown hgrow
  rw [made_bool] at hown
  have B2 : Hid (Below w.heap.size w w2) := B1.out.grown hgrow B1.out.size (by intro k hk; cases hk)
  obtain ⟨g, hg⟩ : ∃ g, g = w1.heap.size := ⟨_, rfl⟩
  rw [← hg] at hown ⊢
  have hgB : w.heap.size ≤ g := by rw [hg]; exact B1.out.size
  clear hgrow hg
  go_wp2
  go_loopw [7] (fun x wr => ∃ (i : Nat) (bs : List Bool), i ≤ N ∧ x = .int .i64 i ∧ Marks T N i bs ∧ wr.ownsRow w.heap.size 4 1 (.slice (some ⟨g, 0, none⟩) N N) N (bs.map Value.bool) ∧ Below w.heap.size w wr) (fun x _ => N - (intOf x).toNat)
  case atStart => exact ⟨0, _, Nat.zero_le _, rfl, Marks.start T N, hown, B2.out⟩
  case round =>
    obtain ⟨i, bs, hi, rfl, hM, hownr, hbr⟩ := hrel
    by_cases hlt : i < N
    · obtain ⟨s, hs⟩ : ∃ s : Nat, (T + (i : Int)) % (N : Int) = s := ⟨((T + (i : Int)) % (N : Int)).toNat, by have := Int.emod_nonneg (T + (i : Int)) (show (N : Int) ≠ 0 by omega); omega⟩
      have hsN : s < N := by
        have := Int.emod_lt_of_pos (T + (i : Int)) (show (0 : Int) < (N : Int) by omega)
        omega
      have hfr := hM.fresh (by omega) hlt hs
      have HM : Hid (Marks T N (i + 1) (bs.set s true)) := hM.next hs
      have hcell : wr.cell? ⟨g, s, none⟩ = some (.bool false) := by
        have := hownr.cellAt s (by omega)
        rw [this]; simp [hfr]
      have hfz : wr.frozen? ⟨g, s, none⟩ = false := hownr.frozenAt s
      have hst := hownr.stored s (.bool true)
      have HO : Hid ((wr.setCell ⟨g, s, none⟩ (.bool true)).ownsRow w.heap.size 4 1 (.slice (some ⟨g, 0, none⟩) N N) N ((bs.set s true).map Value.bool)) := by
        have := hst.1
        rw [show (bs.map Value.bool).set s (.bool true) = (bs.set s true).map Value.bool by simp [List.map_set]] at this
        exact this
      have HB : Hid (Below w.heap.size w (wr.setCell ⟨g, s, none⟩ (.bool true))) := hbr.setCell (p := ⟨g, s, none⟩) hgB _
      have wi : IntKind.u64.wrap (i : Int) = i := wrap_u (by omega) (by omega)
      have wT : IntKind.u64.wrap (T + (i : Int)) = T + (i : Int) := wrap_u (by omega) (by omega)
      have h1 : Hid (slotS (T + (i : Int)) N = ((s : Int), 0)) := by
        show _ = _
        simp only [slotS, if_pos hn, if_neg (show ¬ T + (i : Int) > 4611686018427387968 by omega), hs]
      have h2 : Hid (ownerS s T N = (T + (i : Int), 0)) := by
        show _ = _
        simp only [ownerS, if_pos (show Cap (N : Int) ∧ 0 ≤ (s : Int) ∧ (s : Int) < N from ⟨hn, by omega, by omega⟩), if_neg (show ¬ T > 4611686018427387904 by omega)]
        rw [own_unique s T N (T + (i : Int)) (by omega) (by omega) (by omega) hs (by omega) (by omega)]
      clear hfr hM hownr hst hbr hown hs
      go_wp2_with (first | (go_at_call 14; refine (slot_is (by omega) h1.out _).mono ?_; rintro e w' ⟨rfl, rfl⟩) | (go_at_call 15; refine (num_any _ _).mono ?_; rintro e w' ⟨rfl, rfl⟩) | fail)
      refine (owner_is hT0 h2.out _).mono ?_
      rintro e w3 ⟨rfl, hb⟩
      have HO3 : Hid (w3.ownsRow w.heap.size 4 1 (.slice (some ⟨g, 0, none⟩) N N) N ((bs.set s true).map Value.bool)) := own_later HO.out hb
      have HB3 : Hid (Below w.heap.size w w3) := below_then HB.out hb
      clear hb
      go_wp2_with (go_at_call 15; refine (num_any _ _).mono ?_; rintro e w' ⟨rfl, rfl⟩)
      go_roundw
      case rel => exact ⟨i + 1, _, by omega, by go_num, HM.out, HO3.out, HB3.out⟩
      case measure => simp [intOf]; omega
    · have HB : Hid (Below w.heap.size w wr) := hbr
      clear hM hownr hbr hown
      go_wp2
      obtain ⟨w5, hw5⟩ : ∃ w5, w5 = wr := ⟨_, rfl⟩
      rw [← hw5] at HB ⊢
      clear hw5
      go_loopw [13] (fun x wr => ∃ i : Nat, i ≤ N ∧ x = .int .i64 i ∧ Below w.heap.size w wr) (fun x _ => N - (intOf x).toNat)
      case atStart => exact ⟨0, Nat.zero_le _, rfl, HB.out⟩
      case round =>
        obtain ⟨s, hs, rfl, hbr⟩ := hrel
        have HB : Hid (Below w.heap.size w wr) := hbr
        clear hbr
        by_cases hlt : s < N
        · have o1 := own_ge s T N (by omega)
          have o2 := own_lt s T N (by omega)
          have o3 := own_slot s T N (by omega) (by omega) (by omega)
          have h2 : Hid (ownerS s T N = (own s T N, 0)) := by
            show _ = _
            simp only [ownerS, if_pos (show Cap (N : Int) ∧ 0 ≤ (s : Int) ∧ (s : Int) < N from ⟨hn, by omega, by omega⟩), if_neg (show ¬ T > 4611686018427387904 by omega)]
          generalize own s T N = o at *
          have h1 : Hid (slotS o N = ((s : Int), 0)) := by
            show _ = _
            simp only [slotS, if_pos hn, if_neg (show ¬ o > 4611686018427387968 by omega), o3]
          have wo : IntKind.u64.wrap (o - T) = o - T := wrap_u (by omega) (by omega)
          clear o3
          go_wp2_with fail
          refine (owner_is hT0 h2.out _).mono ?_
          rintro e w3 ⟨rfl, hb⟩
          have HB3 : Hid (Below w.heap.size w w3) := below_then HB.out hb
          clear hb
          go_wp2_with (first | (go_at_call 14; refine (slot_is (by omega) h1.out _).mono ?_; rintro e w' ⟨rfl, rfl⟩) | (go_at_call 15; refine (num_any _ _).mono ?_; rintro e w' ⟨rfl, rfl⟩))
          go_roundw
          case rel => exact ⟨s + 1, by omega, by go_num, HB3.out⟩
          case measure => simp [intOf]; omega
        · go_wp2
          go_ret
          exact ⟨rfl, HB.out⟩

end Go.Proofs.Ytbeffibcigaioaa
