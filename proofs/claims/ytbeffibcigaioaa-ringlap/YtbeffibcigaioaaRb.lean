/-
  Contracts of layer 3, second part: the document's Slot, Used, Next, Owner.
-/
import Derived.Test.YtbeffibcigaioaaRa
namespace Go.Proofs.Ytbeffibcigaioaa
open Go.RowKit

set_option maxHeartbeats 400000 in
theorem rslot_any (p n : Int) (h0 : 0 ≤ p) (w : World) :
    Calls Try.prog 19 #[.int .u64 p, .int .i64 n] w fun e w' => e = .returned (pairI (slotS p n)) ∧ w = w' := by
  by_cases hn : Cap n
  · have hd := decide_eq_true hn
    have hw := wrap_cap hn
    have hm := wrap_mod p hn
    have hn1 := hn.1
    by_cases hp : p > 4611686018427387968
    · have hs : Hid (slotS p n = (0, 31)) := by show _ = _; simp [slotS, hn, hp]
      have hp' : 4611686018427387968 < p := by omega
      clear hp
      go_enter Try.func19, Try.ntmps19
      go_wp2_with (go_at_call 27; refine (capr_any _ _).mono ?_; rintro e w' ⟨rfl, rfl⟩)
      go_ret2
      exact ⟨by rw [hs.out]; rfl, rfl⟩
    · have hs : Hid (slotS p n = (p % n, 0)) := by show _ = _; simp [slotS, hn, hp]
      have hp' : ¬ 4611686018427387968 < p := by omega
      clear hp
      go_enter Try.func19, Try.ntmps19
      go_wp2_with (go_at_call 27; refine (capr_any _ _).mono ?_; rintro e w' ⟨rfl, rfl⟩)
      go_ret2
      exact ⟨by rw [hs.out]; simp [hm], rfl⟩
  · have hd := decide_eq_false hn
    have hs : Hid (slotS p n = (0, 2)) := by show _ = _; simp [slotS, hn]
    go_enter Try.func19, Try.ntmps19
    go_wp2_with (go_at_call 27; refine (capr_any _ _).mono ?_; rintro e w' ⟨rfl, rfl⟩)
    go_ret2
    exact ⟨by rw [hs.out]; rfl, rfl⟩

set_option maxHeartbeats 400000 in
theorem rnext_any (e n : Int) (h1 : 0 ≤ e) (w : World) :
    Calls Try.prog 21 #[.int .u64 e, .int .i64 n] w fun e' w' => e' = .returned (pairU (nextS e n)) ∧ w = w' := by
  by_cases hn : Cap n
  · have hd := decide_eq_true hn
    have hw := wrap_cap hn
    have hn1 := hn.1
    have hn2 := hn.2
    have hws : IntKind.u64.wrap (4611686018427387904 - n) = 4611686018427387904 - n := wrap_u (by omega) (by omega)
    by_cases ht : e > 4611686018427387904 - n
    · have hs : Hid (nextS e n = (0, 31)) := by show _ = _; simp [nextS, hn, ht]
      have ht' : 4611686018427387904 - n < e := ht
      clear ht
      go_enter Try.func21, Try.ntmps21
      go_wp2_with (go_at_call 27; refine (capr_any _ _).mono ?_; rintro e w' ⟨rfl, rfl⟩)
      go_ret2
      exact ⟨by rw [hs.out]; rfl, rfl⟩
    · have hs : Hid (nextS e n = (e + n, 0)) := by show _ = _; simp [nextS, hn, ht]
      have ht' : ¬ 4611686018427387904 - n < e := ht
      have hwa : IntKind.u64.wrap (e + n) = e + n := wrap_u (by omega) (by omega)
      clear ht
      go_enter Try.func21, Try.ntmps21
      go_wp2_with (go_at_call 27; refine (capr_any _ _).mono ?_; rintro e w' ⟨rfl, rfl⟩)
      go_ret2
      exact ⟨by rw [hs.out]; simp, rfl⟩
  · have hd := decide_eq_false hn
    have hs : Hid (nextS e n = (0, 2)) := by show _ = _; simp [nextS, hn]
    go_enter Try.func21, Try.ntmps21
    go_wp2_with (go_at_call 27; refine (capr_any _ _).mono ?_; rintro e w' ⟨rfl, rfl⟩)
    go_ret2
    exact ⟨by rw [hs.out]; rfl, rfl⟩

set_option maxHeartbeats 400000 in
theorem rused_any (t e n : Int) (h0 : 0 ≤ t) (h1 : 0 ≤ e) (h2 : e < 18446744073709551616) (w : World) :
    Calls Try.prog 20 #[.int .u64 t, .int .u64 e, .int .i64 n] w fun e' w' => e' = .returned (pairI (usedS t e n)) ∧ w = w' := by
  by_cases hn : Cap n
  · have hd := decide_eq_true hn
    have hn1 := hn.1
    have hn2 := hn.2
    by_cases ht : t > 4611686018427387904
    · have hs : Hid (usedS t e n = (0, 31)) := by show _ = _; simp [usedS, hn, ht]
      have ht' : 4611686018427387904 < t := ht
      clear ht
      go_enter Try.func20, Try.ntmps20
      go_wp2_with (go_at_call 27; refine (capr_any _ _).mono ?_; rintro e w' ⟨rfl, rfl⟩)
      go_ret2
      exact ⟨by rw [hs.out]; rfl, rfl⟩
    · have ht' : ¬ 4611686018427387904 < t := ht
      have hs1 : Hid ((e < t ∨ n < e - t) → usedS t e n = (0, 30)) := by intro h; simp [usedS, hn, ht, h]
      have hs2 : Hid (¬ (e < t ∨ n < e - t) → usedS t e n = (e - t, 0)) := by intro h; simp only [usedS, if_pos hn, if_neg ht, if_neg h]
      clear ht
      go_enter Try.func20, Try.ntmps20
      go_wp2_with (go_at_call 27; refine (capr_any _ _).mono ?_; rintro e w' ⟨rfl, rfl⟩)
      go_loop [9] (fun x => ∃ k : Nat, (k : Int) ≤ n + 1 ∧ x = .int .i64 k ∧ (e < t ∨ t + (k : Int) ≤ e)) (fun x => 65 - (intOf x).toNat)
      case atStart => exact ⟨0, by omega, rfl, by omega⟩
      case round =>
        obtain ⟨k, hk, rfl, hr⟩ := hrel
        by_cases hlt : (k : Int) ≤ n
        · have w1 : IntKind.u64.wrap (k : Int) = k := wrap_u (by omega) (by omega)
          have w2 : IntKind.u64.wrap (t + k) = t + k := wrap_u (by omega) (by omega)
          by_cases he : t + (k : Int) = e
          · have hu := hs2.out (by omega)
            have HU : Hid (usedS t e n = ((k : Int), 0)) := by show _ = _; rw [hu]; simp; omega
            clear hu
            go_wp2
            go_ret2
            exact ⟨by rw [HU.out]; rfl, rfl⟩
          · have heb : (t + (k : Int) == e) = false := by simpa using he
            go_wp2
            go_round
            case rel => exact ⟨k + 1, by omega, by go_num, by omega⟩
            case measure => simp [intOf]; omega
        · have hu := hs1.out (by omega)
          have HU : Hid (usedS t e n = (0, 30)) := hu
          clear hu
          go_wp2
          go_ret2
          exact ⟨by rw [HU.out]; rfl, rfl⟩
  · have hd := decide_eq_false hn
    have hs : Hid (usedS t e n = (0, 2)) := by show _ = _; simp [usedS, hn]
    go_enter Try.func20, Try.ntmps20
    go_wp2_with (go_at_call 27; refine (capr_any _ _).mono ?_; rintro e w' ⟨rfl, rfl⟩)
    go_ret2
    exact ⟨by rw [hs.out]; rfl, rfl⟩

set_option maxHeartbeats 400000 in
theorem rowner_any (s t n : Int) (h0 : 0 ≤ t) (w : World) :
    Calls Try.prog 22 #[.int .i64 s, .int .u64 t, .int .i64 n] w fun e' w' => e' = .returned (pairU (ownerS s t n)) ∧ w = w' := by
  by_cases hn : Cap n
  · have hd := decide_eq_true hn
    have hn1 := hn.1
    have hn2 := hn.2
    have hw := wrap_cap hn
    by_cases hs0 : 0 ≤ s ∧ s < n
    · have hsa := hs0.1
      have hsb := hs0.2
      by_cases ht : t > 4611686018427387904
      · have hs : Hid (ownerS s t n = (0, 31)) := by show _ = _; simp only [ownerS, if_pos (And.intro hn hs0), if_pos ht]
        have ht' : 4611686018427387904 < t := ht
        clear ht
        go_enter Try.func22, Try.ntmps22
        go_wp2_with (go_at_call 27; refine (capr_any _ _).mono ?_; rintro e w' ⟨rfl, rfl⟩)
        go_ret2
        exact ⟨by rw [hs.out]; rfl, rfl⟩
      · have ht' : ¬ 4611686018427387904 < t := ht
        have hs : Hid (ownerS s t n = (own s t n, 0)) := by show _ = _; simp only [ownerS, if_pos (And.intro hn hs0), if_neg ht]
        have o1 := own_ge s t n (by omega)
        have o2 := own_lt s t n (by omega)
        have o3 : Hid (own s t n % n = s) := own_slot s t n (by omega) hsa hsb
        have o4 : Hid (∀ p, p % n = s → t ≤ p → p < t + n → own s t n = p) := fun p h1 h2 h3 => own_unique s t n p (by omega) hsa hsb h1 h2 h3
        have ws : IntKind.u64.wrap s = s := wrap_u hsa (by omega)
        clear ht
        go_enter Try.func22, Try.ntmps22
        go_wp2_with (go_at_call 27; refine (capr_any _ _).mono ?_; rintro e w' ⟨rfl, rfl⟩)
        generalize own s t n = o at *
        go_loop [9] (fun x => ∃ p : Int, x = .int .u64 p ∧ t ≤ p ∧ p ≤ o) (fun x => (o - intOf x).toNat)
        case atStart => exact ⟨t, rfl, by omega, by omega⟩
        case round =>
          obtain ⟨p, rfl, hp1, hp2⟩ := hrel
          by_cases hp : p % n = s
          · have hpo := o4.out p hp hp1 (by omega)
            subst hpo
            have hb : (o % n != s) = false := by simpa using hp
            go_wp2
            go_ret2
            exact ⟨by rw [hs.out]; rfl, rfl⟩
          · have hne : p ≠ o := fun e => hp (by rw [e]; exact o3.out)
            have hb : (p % n != s) = true := by simpa using hp
            have wp : IntKind.u64.wrap (p + 1) = p + 1 := wrap_u (by omega) (by omega)
            go_wp2
            go_round
            case rel => exact ⟨p + 1, rfl, by omega, by omega⟩
            case measure => simp [intOf]; omega
    · have hs : Hid (ownerS s t n = (0, 2)) := by show _ = _; simp only [ownerS, if_neg (fun h : Cap n ∧ 0 ≤ s ∧ s < n => hs0 h.2)]
      by_cases hsn : s < 0
      · go_enter Try.func22, Try.ntmps22
        go_wp2_with (go_at_call 27; refine (capr_any _ _).mono ?_; rintro e w' ⟨rfl, rfl⟩)
        go_ret2
        exact ⟨by rw [hs.out]; rfl, rfl⟩
      · have hsm : n ≤ s := by omega
        clear hs0
        go_enter Try.func22, Try.ntmps22
        go_wp2_with (go_at_call 27; refine (capr_any _ _).mono ?_; rintro e w' ⟨rfl, rfl⟩)
        go_ret2
        exact ⟨by rw [hs.out]; rfl, rfl⟩
  · have hd := decide_eq_false hn
    have hs : Hid (ownerS s t n = (0, 2)) := by show _ = _; simp only [ownerS, if_neg (fun h : Cap n ∧ 0 ≤ s ∧ s < n => hn h.1)]
    go_enter Try.func22, Try.ntmps22
    go_wp2_with (go_at_call 27; refine (capr_any _ _).mono ?_; rintro e w' ⟨rfl, rfl⟩)
    go_ret2
    exact ⟨by rw [hs.out]; rfl, rfl⟩

end Go.Proofs.Ytbeffibcigaioaa
