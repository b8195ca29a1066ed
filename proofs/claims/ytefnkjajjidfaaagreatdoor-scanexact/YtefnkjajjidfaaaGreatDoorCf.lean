/-
  Contracts of layer 1, sixth part: octet.Fields.
-/
import Derived.Test.YtefnkjajjidfaaaGreatDoorCd
namespace Go.Proofs.YtefnkjajjidfaaaGreatDoor
open Go.RowKit

/-- how a slice of ints lies that is read -/
structure IIn (w : World) (k : IntKind) (p : Option Addr) (n : Nat) (ss : List Int) : Prop where
  len : ss.length = n
  cells : 0 < n → ∃ b o, p = some ⟨b, o, none⟩ ∧ ∀ i (h : i < ss.length), w.cell? ⟨b, o + i, none⟩ = some (.int k ss[i])

theorem IIn.later {w w' : World} {k : IntKind} {p : Option Addr} {n : Nat} {ss : List Int} (h : IIn w k p n ss) (hb : Below w.heap.size w w') : IIn w' k p n ss := by
  refine ⟨h.len, fun h0 => ?_⟩
  obtain ⟨b, o, rfl, hc⟩ := h.cells h0
  refine ⟨b, o, rfl, fun i hi => ?_⟩
  rw [hb.cell (p := ⟨b, o + i, none⟩) (World.block_lt_of_cell? w ⟨b, o + i, none⟩ (hc i hi))]
  exact hc i hi

abbrev U64 (xs : List Int) : List Value := xs.map (Value.int .u64)

set_option maxHeartbeats 1000000 in
set_option maxRecDepth 100000 in
theorem fields_input (p q : Option Addr) (n c m d : Nat) (ss : List Int) (w : World) (h : IIn w .i64 q m ss) (hm : m * 8 ≤ 140737488355328) (hbad : ∃ s ∈ ss, s < 1 ∨ 8 < s) :
    Calls Tryz.prog 83 #[.slice p n c, .slice q m d] w fun e w' => e = .returned (.tuple #[.slice none 0 0, .slice none 0 0, .int .i64 2]) ∧ w = w' := by
  have hl := h.len
  have h0 : 0 < m := by
    obtain ⟨s, hs, _⟩ := hbad
    have := List.length_pos_of_mem hs
    omega
  obtain ⟨b, o, rfl, hc0⟩ := h.cells h0
  have HL : Hid (ss.length = m) := hl
  have HB : Hid (∃ s ∈ ss, s < 1 ∨ 8 < s) := hbad
  have HC : Hid (∀ i (h : i < ss.length), w.cell? ⟨b, o + i, none⟩ = some (.int .i64 ss[i])) := hc0
  clear hl hbad hc0 h
  go_enter Tryz.func83, Tryz.ntmps83
  go_wp2
  go_loop [7, 15] (fun t i => ∃ k : Nat, k ≤ m ∧ i = .int .i64 k ∧ (∃ T : Nat, T ≤ 8 * k ∧ t = .int .i64 T) ∧ Hid (∀ j (h : j < ss.length), j < k → ¬ (ss[j] < 1 ∨ 8 < ss[j]))) (fun _ i => m - (intOf i).toNat)
  case atStart => exact ⟨0, Nat.zero_le _, rfl, ⟨0, Nat.zero_le _, rfl⟩, fun j _ hj => absurd hj (Nat.not_lt_zero _)⟩
  case round =>
    obtain ⟨k, hk, rfl, ⟨T, hT, rfl⟩, HG⟩ := hrel
    have hlt : k < m := by
      by_cases hlt : k < m
      · exact hlt
      · exfalso
        obtain ⟨s, hs, hx⟩ := HB.out
        obtain ⟨j, hj, e⟩ := List.getElem_of_mem hs
        have := HG.out j hj (by have := HL.out; omega)
        rw [e] at this
        exact this hx
    have hkl : k < ss.length := by rw [HL.out]; exact hlt
    have hc := HC.out k hkl
    by_cases hs : ss[k] < 1 ∨ 8 < ss[k]
    · have hd : decide (1 ≤ ss[k] ∧ ss[k] ≤ 8) = false := decide_eq_false (by omega)
      generalize ss[k] = s at *
      go_wp2_with (first | (go_at_call 87; refine (isSize_any _ _).mono ?_; rintro e w' ⟨rfl, rfl⟩))
      go_ret3
      exact ⟨rfl, rfl⟩
    · have hd : decide (1 ≤ ss[k] ∧ ss[k] ≤ 8) = true := decide_eq_true (by omega)
      have HG2 : Hid (∀ j (h : j < ss.length), j < k + 1 → ¬ (ss[j] < 1 ∨ 8 < ss[j])) := by
        intro j hj hjk
        by_cases e : j = k
        · subst e; exact hs
        · exact HG.out j hj (by omega)
      obtain ⟨s, hsk⟩ := Int.eq_ofNat_of_zero_le (show 0 ≤ ss[k] by omega)
      rw [hsk] at hd hs hc
      clear hsk HG
      go_wp2_with (first | (go_at_call 87; refine (isSize_any _ _).mono ?_; rintro e w' ⟨rfl, rfl⟩))
      go_round
      case rel => exact ⟨k + 1, by omega, by go_num, ⟨T + s, by omega, by go_num⟩, HG2⟩
      case measure => simp [intOf]; omega

/-- what is owned stays owned behind a call that turns nothing that was there -/
theorem own_later {w w' : World} {base : Nat} {e : TypeId} {size : Nat} {v : Value} {n : Nat} {xs : List Value} (h : w.ownsRow base e size v n xs) (hb : Below w.heap.size w w') : w'.ownsRow base e size v n xs := by
  refine ⟨h.1, ?_⟩
  rcases h.2 with hn | ⟨g, cap, cur, rfl, h1, hg, rest⟩
  · exact .inl hn
  · exact .inr ⟨g, cap, cur, rfl, h1, (hb.block g (Array.getElem?_eq_some_iff.1 hg).1).trans hg, rest⟩
theorem own_mono {w : World} {base base' : Nat} {e : TypeId} {size : Nat} {v : Value} {n : Nat} {xs : List Value} (h : w.ownsRow base e size v n xs) (hb : base' ≤ base) : w.ownsRow base' e size v n xs := by
  refine ⟨h.1, ?_⟩
  rcases h.2 with hn | ⟨g, cap, cur, rfl, h1, rest⟩
  · exact .inl hn
  · exact .inr ⟨g, cap, cur, rfl, Nat.le_trans hb h1, rest⟩

/-- the sizes, all of which may be -/
structure ZIn (w : World) (b o m : Nat) (zs : List Nat) : Prop where
  len : zs.length = m
  ok : ∀ i (h : i < zs.length), 1 ≤ zs[i] ∧ zs[i] ≤ 8
  cells : ∀ i (h : i < zs.length), w.cell? ⟨b, o + i, none⟩ = some (.int .i64 (zs[i] : Int))

theorem ZIn.bd {w : World} {b o m : Nat} {zs : List Nat} (h : ZIn w b o m zs) : zs.sum ≤ 8 * m := by
  rw [← h.len]
  refine tot_bd zs fun z hz => ?_
  obtain ⟨i, hi, rfl⟩ := List.getElem_of_mem hz
  exact (h.ok i hi).2

theorem ZIn.later {w w' : World} {b o m : Nat} {zs : List Nat} (h : ZIn w b o m zs) (hb : Below w.heap.size w w') : ZIn w' b o m zs := by
  refine ⟨h.len, h.ok, fun i hi => ?_⟩
  rw [hb.cell (p := ⟨b, o + i, none⟩) (World.block_lt_of_cell? w ⟨b, o + i, none⟩ (h.cells i hi))]
  exact h.cells i hi

set_option maxHeartbeats 1000000 in
set_option maxRecDepth 100000 in
theorem fields_short (p : Option Addr) (n c b o m d : Nat) (zs : List Nat) (w : World) (h : ZIn w b o m zs) (hm : m * 8 ≤ 140737488355328) (hs : n < zs.sum) :
    Calls Tryz.prog 83 #[.slice p n c, .slice (some ⟨b, o, none⟩) m d] w fun e w' => e = .returned (.tuple #[.slice none 0 0, .slice none 0 0, .int .i64 11]) ∧ w = w' := by
  have hbd := h.bd
  have HZ : Hid (ZIn w b o m zs) := h
  clear h
  go_enter Tryz.func83, Tryz.ntmps83
  go_wp2
  go_loop [7, 15] (fun t i => ∃ k : Nat, k ≤ m ∧ i = .int .i64 k ∧ t = .int .i64 (tot zs k)) (fun _ i => m - (intOf i).toNat)
  case atStart => exact ⟨0, Nat.zero_le _, rfl, rfl⟩
  case round =>
    obtain ⟨k, hk, rfl, rfl⟩ := hrel
    have htl := tot_le zs k
    by_cases hlt : k < m
    · have hkl : k < zs.length := by rw [HZ.out.len]; exact hlt
      have hc := HZ.out.cells k hkl
      have hok := HZ.out.ok k hkl
      have HS : Hid (_) := tot_step zs k hkl
      generalize zs[k] = s at *
      have hd : decide (1 ≤ (s : Int) ∧ (s : Int) ≤ 8) = true := decide_eq_true (by omega)
      go_wp2_with (first | (go_at_call 87; refine (isSize_any _ _).mono ?_; rintro e w' ⟨rfl, rfl⟩))
      go_round
      case rel => exact ⟨k + 1, by omega, by go_num, by rw [HS.out]; go_num⟩
      case measure => simp [intOf]; omega
    · have e : tot zs k = zs.sum := tot_all zs k (by rw [HZ.out.len]; omega)
      rw [e]
      clear e htl
      generalize zs.sum = T at *
      go_wp2
      go_ret3
      exact ⟨rfl, rfl⟩

theorem made_u64 (N : List Int) (m : Nat) (h : N.length = m) : (madeCells #[Value.int .u64 0] m).toList = U64 (filled N 0) := by
  rw [filled_zero, h, toList_madeCells_one]
  simp [U64]

set_option maxHeartbeats 2000000 in
set_option maxRecDepth 100000 in
theorem fields_pos (b o n c b2 o2 m d : Nat) (xs : List Int) (zs : List Nat) (w : World) (hx : BIn w (some ⟨b, o, none⟩) n xs) (h : ZIn w b2 o2 m zs) (hnc : n ≤ c) (hbig : n ≤ 140737488355328) (hm : m * 8 ≤ 140737488355328) (hs : zs.sum ≤ n) (h0 : 0 < m) :
    Calls Tryz.prog 83 #[.slice (some ⟨b, o, none⟩) n c, .slice (some ⟨b2, o2, none⟩) m d] w fun e w' => ∃ v1 v2, e = .returned (.tuple #[v1, v2, .int .i64 0]) ∧
      w'.ownsRow w.heap.size 31 1 v1 m (U64 (nums xs zs)) ∧ w'.ownsRow w.heap.size 5 1 v2 (n - zs.sum) (U8 (xs.drop zs.sum)) ∧ Below w.heap.size w w' := by
  have hbd := h.bd
  obtain ⟨i0, hi, hz0, hz1, hz2⟩ := info_parts info27
  have HZ : Hid (ZIn w b2 o2 m zs) := h
  have HX : Hid (BIn w (some ⟨b, o, none⟩) n xs) := hx
  have HNL : Hid ((nums xs zs).length = m) := by show _ = _; rw [nums_length, h.len]
  clear h hx
  go_enter Tryz.func83, Tryz.ntmps83
  go_wp2
  go_loop [7, 15] (fun t i => ∃ k : Nat, k ≤ m ∧ i = .int .i64 k ∧ t = .int .i64 (tot zs k)) (fun _ i => m - (intOf i).toNat)
  case atStart => exact ⟨0, Nat.zero_le _, rfl, rfl⟩
  case round =>
    obtain ⟨k, hk, rfl, rfl⟩ := hrel
    have htl := tot_le zs k
    by_cases hlt : k < m
    · have hkl : k < zs.length := by rw [HZ.out.len]; exact hlt
      have hc := HZ.out.cells k hkl
      have hok := HZ.out.ok k hkl
      have HS : Hid (_) := tot_step zs k hkl
      generalize zs[k] = s at *
      have hd : decide (1 ≤ (s : Int) ∧ (s : Int) ≤ 8) = true := decide_eq_true (by omega)
      go_wp2_with (first | (go_at_call 87; refine (isSize_any _ _).mono ?_; rintro e w' ⟨rfl, rfl⟩))
      go_round
      case rel => exact ⟨k + 1, by omega, by go_num, by rw [HS.out]; go_num⟩
      case measure => simp [intOf]; omega
    · have e : tot zs k = zs.sum := tot_all zs k (by rw [HZ.out.len]; omega)
      rw [e]
      clear e htl
      obtain ⟨T, hT⟩ : ∃ T, T = zs.sum := ⟨_, rfl⟩
      rw [← hT] at hbd hs ⊢
      have HT : Hid (T = zs.sum) := hT
      clear hT
      go_wp2_with (first | (at_make; refine wpList_make_full _ rfl _ _ 170 rfl w.heap.size 31 i0 (.int .u64 0) 1 Tryz.underlying170 hi hz0 hz1 .i64 .i64 _ _ m rfl rfl rfl rfl (by rw [hz2]; omega) (by unfold maxLen; omega) (Nat.le_refl _) ?_))
      intro w1 hown hgrow
      rw [made_u64 (nums xs zs) m HNL.out] at hown
      have hb := (Below.refl w.heap.size w).grown hgrow (Nat.le_refl _) (by intro k hk; cases hk)
      clear hgrow
      go_wp2
      go_loopw [10, 35] (fun a i wr => ∃ j : Nat, j ≤ m ∧ i = .int .i64 j ∧ a = .int .i64 (tot zs j) ∧ wr.ownsRow w.heap.size 31 1 (.slice (some ⟨w.heap.size, 0, none⟩) m m) m (U64 (filled (nums xs zs) j)) ∧ Below w.heap.size w wr) (fun _ i _ => m - (intOf i).toNat)
      case atStart => exact ⟨0, Nat.zero_le _, rfl, rfl, hown, hb⟩
      case round =>
        obtain ⟨j, hj, rfl, rfl, hownr, hbr⟩ := hrel
        by_cases hlt : j < m
        · have hkl : j < zs.length := by rw [HZ.out.len]; exact hlt
          have hnl : j < (nums xs zs).length := by rw [HNL.out]; exact hlt
          have hc := (HZ.out.later hbr).cells j hkl
          have hok := HZ.out.ok j hkl
          have hst := tot_step zs j hkl
          have hle := tot_le zs (j + 1)
          rw [← HT.out] at hle
          have hng := nums_get xs zs j hnl hkl
          have hstore := hownr.stored j (.int .u64 ((nums xs zs)[j]))
          have hcell := hownr.cellAt j (by omega)
          have hlen : (U64 (filled (nums xs zs) j)).length = m := by simp [U64, filled_length _ _ (Nat.le_of_lt hnl), HNL.out]
          obtain ⟨u, hu⟩ : ∃ u, wr.cell? ⟨w.heap.size, j, none⟩ = some u := ⟨_, by rw [hcell]; exact List.getElem?_eq_getElem (by omega)⟩
          have hfz := hownr.frozenAt j
          have hset : (U64 (filled (nums xs zs) j)).set j (.int .u64 ((nums xs zs)[j])) = U64 (filled (nums xs zs) (j + 1)) := by
            rw [← filled_step _ _ hnl]
            simp [U64, List.map_set]
          have H1 := hstore.1
          rw [hset] at H1
          have HO : Hid (_) := H1
          have HG : Hid (_) := hstore.2
          have HB : Hid (Below w.heap.size w wr) := hbr
          have HS : Hid (_) := hst
          have HN : Hid (_) := hng
          obtain ⟨A, hA⟩ : ∃ A, A = tot zs j := ⟨_, rfl⟩
          obtain ⟨s, hsz⟩ : ∃ s, s = zs[j] := ⟨_, rfl⟩
          rw [← hsz] at hok hc hst
          rw [← hA] at hst ⊢
          have hAs : A + s ≤ T := by omega
          have HBI : Hid (BIn wr (some ⟨b, o + A, none⟩) s ((xs.drop A).take s)) := ((HX.out.later hbr).drop A (by omega)).take s (by omega)
          have HA : Hid (A = tot zs j) := hA
          have HSZ : Hid (s = zs[j]) := hsz
          clear hA hsz hst hle hng hstore hcell hlen hset H1 hownr hbr hown hb
          have hcA : ¬ c = A := by omega
          have hAc : (A : Int) + s ≤ c := by omega
          go_wp2_with (first | (go_at_call 100; refine (number_any _ _ _ ((xs.drop A).take s) _ (by omega) HBI.out).mono ?_; rintro e w' ⟨rfl, rfl⟩))
          have e : worth ((xs.drop A).take s) = (nums xs zs)[j] := by rw [HN.out, ← HSZ.out, ← HA.out]
          have HE : Hid (_) := e
          clear e
          go_roundw
          case rel =>
            rw [HE.out]
            exact ⟨j + 1, by omega, by go_num, by rw [HS.out, ← HSZ.out, ← HA.out]; go_num, HO.out, HB.out.grown HG.out HB.out.size (by intro q hq; simp at hq; omega)⟩
          case measure => simp [intOf]; omega
        · have e : tot zs j = T := (tot_all zs j (by rw [HZ.out.len]; omega)).trans HT.out.symm
          rw [e]
          rw [filled_all _ _ (by rw [HNL.out]; omega)] at hownr
          have HO : Hid (_) := hownr
          have HB : Hid (Below w.heap.size w wr) := hbr
          have HXr : Hid (BIn wr (some ⟨b, o, none⟩) n xs) := HX.out.later hbr
          clear e hownr hbr hown hb
          by_cases hcT : c = T
          · obtain rfl : T = n := by omega
            obtain rfl : T = c := hcT.symm
            have hd0 : xs.drop T = [] := List.drop_eq_nil_of_le (by rw [HXr.out.len]; omega)
            have HD0 : Hid (_) := hd0
            clear hd0
            go_wp2_with (first | (go_at_call 49; refine (clone_any _ _ _ [] _ BIn.empty (by omega)).mono ?_; rintro e w' ⟨v, rfl, hown2, hbel2⟩))
            go_ret3
            have hsz := HB.out.size
            refine ⟨_, v, rfl, ?_, ?_, HB.out.trans (hbel2.mono HB.out.size)⟩
            · exact own_later (show wr.ownsRow _ _ _ _ _ _ from HO.out) hbel2
            · rw [← HT.out, HD0.out, Nat.sub_self]
              exact own_mono hown2 hsz
          · have HBI : Hid (BIn wr (some ⟨b, o + T, none⟩) (n - T) (xs.drop T)) := HXr.out.drop T (by omega)
            go_wp2_with (first | (go_at_call 49; refine (clone_any _ _ _ (xs.drop T) _ HBI.out (by omega)).mono ?_; rintro e w' ⟨v, rfl, hown2, hbel2⟩))
            go_ret3
            have hsz := HB.out.size
            refine ⟨_, v, rfl, ?_, ?_, HB.out.trans (hbel2.mono HB.out.size)⟩
            · exact own_later (show wr.ownsRow _ _ _ _ _ _ from HO.out) hbel2
            · rw [← HT.out]
              exact own_mono hown2 hsz

set_option maxHeartbeats 1000000 in
set_option maxRecDepth 100000 in
theorem fields_none_end (p q : Option Addr) (d : Nat) (w : World) :
    Calls Tryz.prog 83 #[.slice p 0 0, .slice q 0 d] w fun e w' => ∃ v1 v2, e = .returned (.tuple #[v1, v2, .int .i64 0]) ∧
      w'.ownsRow w.heap.size 31 1 v1 0 [] ∧ w'.ownsRow w.heap.size 5 1 v2 0 [] ∧ Below w.heap.size w w' := by
  obtain ⟨i0, hi, hz0, hz1, hz2⟩ := info_parts info27
  go_enter Tryz.func83, Tryz.ntmps83
  go_wp2
  refine wp_loop_rounds 1 ?_
  rw [rounds_succ]
  go_wp2_with (first | (at_make; refine wpList_make_full _ rfl _ _ 170 rfl w.heap.size 31 i0 (.int .u64 0) 1 Tryz.underlying170 hi hz0 hz1 .i64 .i64 _ _ 0 rfl rfl rfl rfl (by rw [hz2]; omega) (Nat.zero_le _) (Nat.le_refl _) ?_))
  intro w1 hown hgrow
  have hb := (Below.refl w.heap.size w).grown hgrow (Nat.le_refl _) (by intro k hk; cases hk)
  rw [toList_madeCells_one] at hown
  have HO : Hid (w1.ownsRow w.heap.size 31 1 (.slice (some ⟨w.heap.size, 0, none⟩) 0 0) 0 []) := hown
  have HB : Hid (_) := hb
  clear hown hb hgrow
  go_wp2
  refine wp_loop_rounds 1 ?_
  rw [rounds_succ]
  go_wp2_with (first | (go_at_call 49; refine (clone_any _ _ _ [] _ BIn.empty (by omega)).mono ?_; rintro e w' ⟨v, rfl, hown2, hbel2⟩))
  go_ret3
  refine ⟨_, v, rfl, own_later (show w1.ownsRow _ _ _ _ _ _ from HO.out) hbel2, own_mono hown2 HB.out.size, HB.out.trans (hbel2.mono HB.out.size)⟩

set_option maxHeartbeats 1000000 in
set_option maxRecDepth 100000 in
theorem fields_none_more (a : Addr) (q : Option Addr) (n c d : Nat) (xs : List Int) (w : World) (hx : BIn w (some a) n xs) (hbig : n ≤ 140737488355328) (hc : ¬ c = 0) :
    Calls Tryz.prog 83 #[.slice (some a) n c, .slice q 0 d] w fun e w' => ∃ v1 v2, e = .returned (.tuple #[v1, v2, .int .i64 0]) ∧
      w'.ownsRow w.heap.size 31 1 v1 0 [] ∧ w'.ownsRow w.heap.size 5 1 v2 n (U8 xs) ∧ Below w.heap.size w w' := by
  obtain ⟨i0, hi, hz0, hz1, hz2⟩ := info_parts info27
  have HX : Hid (BIn w (some a) n xs) := hx
  clear hx
  go_enter Tryz.func83, Tryz.ntmps83
  go_wp2
  refine wp_loop_rounds 1 ?_
  rw [rounds_succ]
  go_wp2_with (first | (at_make; refine wpList_make_full _ rfl _ _ 170 rfl w.heap.size 31 i0 (.int .u64 0) 1 Tryz.underlying170 hi hz0 hz1 .i64 .i64 _ _ 0 rfl rfl rfl rfl (by rw [hz2]; omega) (Nat.zero_le _) (Nat.le_refl _) ?_))
  intro w1 hown hgrow
  have hb := (Below.refl w.heap.size w).grown hgrow (Nat.le_refl _) (by intro k hk; cases hk)
  rw [toList_madeCells_one] at hown
  have HO : Hid (w1.ownsRow w.heap.size 31 1 (.slice (some ⟨w.heap.size, 0, none⟩) 0 0) 0 []) := hown
  have HB : Hid (_) := hb
  have HX1 : Hid (BIn w1 (some a) n xs) := HX.out.later hb
  clear hown hb hgrow
  go_wp2
  refine wp_loop_rounds 1 ?_
  rw [rounds_succ]
  go_wp2_with (first | (go_at_call 49; refine (clone_any _ _ _ xs _ ?_ (by omega)).mono ?_; (exact HX1.out); rintro e w' ⟨v, rfl, hown2, hbel2⟩))
  go_ret3
  refine ⟨_, v, rfl, own_later (show w1.ownsRow _ _ _ _ _ _ from HO.out) hbel2, own_mono hown2 HB.out.size, HB.out.trans (hbel2.mono HB.out.size)⟩

theorem fields_any (p q : Option Addr) (n c m d : Nat) (xs ss : List Int) (w : World) (hx : BIn w p n xs) (hi : IIn w .i64 q m ss) (hnc : n ≤ c) (hpc : p = none → c = 0) (hbig : n ≤ 140737488355328) (hm : m * 8 ≤ 140737488355328) :
    Calls Tryz.prog 83 #[.slice p n c, .slice q m d] w fun e w' => ∃ v1 v2, e = .returned (.tuple #[v1, v2, .int .i64 (fieldsS xs ss).2.2]) ∧
      w'.ownsRow w.heap.size 31 1 v1 (fieldsS xs ss).1.length (U64 (fieldsS xs ss).1) ∧ w'.ownsRow w.heap.size 5 1 v2 (fieldsS xs ss).2.1.length (U8 (fieldsS xs ss).2.1) ∧ Below w.heap.size w w' := by
  unfold fieldsS
  by_cases hbad : ∃ s ∈ ss, s < 1 ∨ 8 < s
  · rw [if_pos hbad]
    refine (fields_input p q n c m d ss w hi hm hbad).mono ?_
    rintro e w' ⟨rfl, rfl⟩
    exact ⟨_, _, rfl, World.ownsRow_nil _ _ _ _, World.ownsRow_nil _ _ _ _, Below.refl _ _⟩
  · rw [if_neg hbad]
    have hgood : ∀ s ∈ ss, ¬ (s < 1 ∨ 8 < s) := fun s hs hx => hbad ⟨s, hs, hx⟩
    have hz := toNats ss hgood
    obtain ⟨zs, hzs⟩ : ∃ zs, zs = ss.map Int.toNat := ⟨_, rfl⟩
    rw [← hzs] at hz ⊢
    have hlz : zs.length = m := by rw [hzs, List.length_map, hi.len]
    have hget : ∀ i (h : i < zs.length) (h2 : i < ss.length), ss[i] = (zs[i] : Int) := by
      intro i h h2
      have : ss[i] = (zs.map (fun z : Nat => (z : Int)))[i]'(by simpa using h) := by simp only [hz]
      rw [this, List.getElem_map]
    by_cases h0 : 0 < m
    · obtain ⟨b2, o2, rfl, hc⟩ := hi.cells h0
      have hZ : ZIn w b2 o2 m zs := by
        refine ⟨hlz, fun i h => ?_, fun i h => ?_⟩
        · have h2 : i < ss.length := by rw [hi.len, ← hlz]; exact h
          have e := hget i h h2
          have := hgood ss[i] (List.getElem_mem h2)
          omega
        · have h2 : i < ss.length := by rw [hi.len, ← hlz]; exact h
          rw [hc i h2, hget i h h2]
      by_cases hs : xs.length < zs.sum
      · rw [if_pos hs]
        refine (fields_short p n c b2 o2 m d zs w hZ hm (by rw [← hx.len]; exact hs)).mono ?_
        rintro e w' ⟨rfl, rfl⟩
        exact ⟨_, _, rfl, World.ownsRow_nil _ _ _ _, World.ownsRow_nil _ _ _ _, Below.refl _ _⟩
      · rw [if_neg hs]
        have hs' : zs.sum ≤ n := by rw [← hx.len]; omega
        have h1 : 1 ≤ zs.sum := by
          have := hZ.ok 0 (by omega)
          have := tot_step zs 0 (by omega)
          have h3 := tot_le zs (0 + 1)
          rw [tot_zero] at *
          omega
        obtain ⟨b, o, rfl, _⟩ := hx.cells (by omega)
        simp only [nums_length, List.length_drop, hlz, hx.len]
        exact fields_pos b o n c b2 o2 m d xs zs w hx hZ hnc hbig hm hs' h0
    · obtain rfl : m = 0 := by omega
      obtain rfl : zs = [] := List.eq_nil_of_length_eq_zero hlz
      simp only [List.sum_nil, Nat.not_lt_zero, if_false, List.drop_zero, nums, List.length_nil, hx.len]
      by_cases hc : c = 0
      · subst hc
        obtain rfl : n = 0 := by omega
        obtain rfl : xs = [] := List.eq_nil_of_length_eq_zero hx.len
        exact fields_none_end p q d w
      · cases p with
        | none => exact absurd (hpc rfl) hc
        | some a => exact fields_none_more a q n c d xs w hx hbig hc

end Go.Proofs.YtefnkjajjidfaaaGreatDoor
