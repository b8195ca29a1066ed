/-
  Contracts of the document's answers: wicketref01.Fields.
-/
import Derived.Test.YtdfnpapnoedpkabGa
import Derived.Test.YtdfnpapnoedpkabNc
namespace Go.Proofs.Ytdfnpapnoedpkab
open Go.RowKit

set_option maxHeartbeats 1000000 in
theorem rfields_input (p q : Option Addr) (n c m d : Nat) (ss : List Int) (w : World) (h : IIn w .i64 q m ss) (hm : m + 80 ≤ 17592186044416) (hbad : ∃ s ∈ ss, s < 1 ∨ 8 < s) :
    Calls Try.prog 5 #[.slice p n c, .slice q m d] w fun e w' => e = .returned (.tuple #[.slice none 0 0, .slice none 0 0, .int .i64 2]) ∧ w = w' := by
  have hl := h.len
  have h0 : 0 < m := by
    obtain ⟨s, hs, _⟩ := hbad
    have := List.length_pos_of_mem hs
    omega
  obtain ⟨b, o, rfl, hc0⟩ := h.cells h0
  have HL : Hid (ss.length = m) := hl
  have HB : Hid (∃ s ∈ ss, s < 1 ∨ 8 < s) := hbad
  have HC : Hid (∀ i (h : i < ss.length), w.cell? ⟨b, o + i, none⟩ = some (.int .i64 ss[i])) := hc0
  clear hl hbad hc0 h
  go_enter Try.func5, Try.ntmps5
  go_wp2
  go_loop [7] (fun i => ∃ k : Nat, k ≤ m ∧ i = .int .i64 k ∧ Hid (∀ j (h : j < ss.length), j < k → ¬ (ss[j] < 1 ∨ 8 < ss[j]))) (fun i => m - (intOf i).toNat)
  case atStart => exact ⟨0, Nat.zero_le _, rfl, fun j _ hj => absurd hj (Nat.not_lt_zero _)⟩
  case round =>
    obtain ⟨k, hk, rfl, HG⟩ := hrel
    have hlt : k < m := by
      by_cases hlt : k < m
      · exact hlt
      · exfalso
        obtain ⟨s, hs, hx⟩ := HB.out
        obtain ⟨j, hj, e⟩ := List.getElem_of_mem hs
        have := HG.out j hj (by have := HL.out; omega)
        rw [e] at this
        exact this hx
    have hkl : k < ss.length := by rw [HL.out]; exact hlt
    have hc := HC.out k hkl
    by_cases hs1 : ss[k] < 1
    · generalize ss[k] = s at *
      go_wp2
      go_ret3
      exact ⟨rfl, rfl⟩
    · by_cases hs8 : 8 < ss[k]
      · generalize ss[k] = s at *
        go_wp2
        go_ret3
        exact ⟨rfl, rfl⟩
      · have HG2 : Hid (∀ j (h : j < ss.length), j < k + 1 → ¬ (ss[j] < 1 ∨ 8 < ss[j])) := by
          intro j hj hjk
          by_cases e : j = k
          · subst e; omega
          · exact HG.out j hj (by omega)
        clear HG
        generalize ss[k] = s at *
        go_wp2
        go_round
        case rel => exact ⟨k + 1, by omega, by go_num, HG2⟩
        case measure => simp [intOf]; omega

theorem takeS_short (xs : List Int) (s : Nat) (h1 : 1 ≤ s ∧ s ≤ 8) (h : xs.length < s) : takeS xs s = (0, [], 11) := by
  unfold takeS
  rw [if_neg (by omega), if_pos (by omega)]
theorem takeS_good (xs : List Int) (s : Nat) (h1 : 1 ≤ s ∧ s ≤ 8) (h : s ≤ xs.length) : takeS xs s = (worth (xs.take s), xs.drop s, 0) := by
  unfold takeS
  rw [if_neg (by omega), if_neg (by omega), Int.toNat_natCast]

theorem BIn.grown {w w' : World} {p : Option Addr} {n : Nat} {xs : List Int} {row : Option Nat} (h : BIn w p n xs) (hg : w.grownBy w' row) (hne : ∀ a, p = some a → 0 < n → row ≠ some a.block) : BIn w' p n xs := by
  refine ⟨h.len, h.byte, fun h0 => ?_⟩
  obtain ⟨b, o, rfl, hc⟩ := h.cells h0
  refine ⟨b, o, rfl, fun i hi => ?_⟩
  rw [World.cell?_of_block (w := w) (w' := w') (a := ⟨b, o + i, none⟩) (hg.block b (h.lt h0) (fun e => hne _ rfl h0 e.symm))]
  exact hc i hi

set_option maxHeartbeats 4000000 in
theorem rfields_pos (p : Option Addr) (n c b2 o2 m d : Nat) (xs : List Int) (zs : List Nat) (w : World) (hx : BIn w p n xs) (h : ZIn w b2 o2 m zs) (hnc : n ≤ c) (hp : p = none → c = 0) (hbig : n + 80 ≤ 140737488355328) (hm : m + 80 ≤ 17592186044416) :
    Calls Try.prog 5 #[.slice p n c, .slice (some ⟨b2, o2, none⟩) m d] w fun e w' => Below w.heap.size w w' ∧ ((n < zs.sum ∧ e = .returned (.tuple #[.slice none 0 0, .slice none 0 0, .int .i64 11])) ∨
      (zs.sum ≤ n ∧ ∃ v1 p2 c2, e = .returned (.tuple #[v1, .slice p2 (n - zs.sum) c2, .int .i64 0]) ∧ w'.ownsRow w.heap.size 44 1 v1 m (U64 (nums xs zs)) ∧ BIn w' p2 (n - zs.sum) (xs.drop zs.sum))) := by
  obtain ⟨i5, hi5, hz50, hz51, hz52⟩ := info_parts info5
  obtain ⟨i44, hi44, hz440, hz441, hz442⟩ := info_parts info27
  have HZ : Hid (ZIn w b2 o2 m zs) := h
  have HX : Hid (BIn w p n xs) := hx
  have HXL : Hid ((U8 xs).length = n) := by show _ = _; rw [List.length_map, hx.len]
  have HNW : Hid (∀ ad, p = some ad → ∀ j u, (U8 xs)[j]? = some u → (w.alloc (.cells #[] 5)).cell? (ad.add j) = some u) := fun ad e => by subst e; exact (hx.later (below_alloc w _)).news
  have HM : Hid ((w.alloc (.cells #[] 5)).ownsRow w.heap.size 5 1 (.slice (some ⟨w.heap.size, 0, none⟩) 0 0) 0 []) := World.ownsRow_made w #[] 0 (Nat.le_refl _) (Nat.zero_le _) rfl
  have HNL : Hid ((nums xs zs).length = m) := by show _ = _; rw [nums_length, h.len]
  clear h hx
  go_enter Try.func5, Try.ntmps5
  go_wp2
  go_loop [7] (fun i => ∃ k : Nat, k ≤ m ∧ i = .int .i64 k) (fun i => m - (intOf i).toNat)
  case atStart => exact ⟨0, Nat.zero_le _, rfl⟩
  case round =>
    obtain ⟨k, hk, rfl⟩ := hrel
    by_cases hlt : k < m
    · have hkl : k < zs.length := by rw [HZ.out.len]; exact hlt
      have hc := HZ.out.cells k hkl
      have hok := HZ.out.ok k hkl
      generalize zs[k] = s at *
      have s1 : ¬ (s : Int) < 1 := by omega
      have s8 : ¬ 8 < (s : Int) := by omega
      go_wp2
      go_round
      case rel => exact ⟨k + 1, by omega, by go_num⟩
      case measure => simp [intOf]; omega
    · go_wp2_with (at_builtin; refine wpList_append_any _ rfl (.tmp 32) (.tmp 33) 22 rfl w.heap.size 5 i5 (.int .u8 0) 1 Try.underlying22 hi5 hz50 hz51 hz52 rfl _ 0 [] rfl HM.out p n c (U8 xs) rfl hp hnc HXL.out HNW.out (ones_u8 xs) (by unfold maxLen; omega) (by omega) (by simp) ?_)
      intro v8 w1 hown hgrow
      have hO : w1.ownsRow w.heap.size 5 1 v8 n (U8 xs) := by simpa using hown
      have HB : Hid (Below w.heap.size w w1) := ((Below.refl _ w).alloc (Nat.le_refl _) _).grown hgrow (by simp) (by intro k hk; simp [Value.ownBlock] at hk; omega)
      obtain ⟨p8, c8, hv8, hr8, hc8, hp8, _⟩ := own_in hO HX.out.byte
      subst hv8
      have HR8 : Hid (BIn w1 p8 n xs) := hr8
      clear hO hown hgrow hr8 HNW HM hp
      go_wp2
      go_loopw [8, 9, 10] (fun r o i wr => ∃ (j : Nat) (p8 : Option Addr) (c8 : Nat), j ≤ m ∧ i = .int .i64 j ∧ tot zs j ≤ n ∧ r = .slice p8 (n - tot zs j) c8 ∧ n - tot zs j ≤ c8 ∧ BIn wr p8 (n - tot zs j) (xs.drop (tot zs j)) ∧ wr.ownsRow w.heap.size 44 1 o j (U64 ((nums xs zs).take j)) ∧ Below w.heap.size w wr) (fun _ _ i _ => m - (intOf i).toNat)
      case atStart => exact ⟨0, p8, c8, Nat.zero_le _, rfl, Nat.zero_le _, rfl, hc8, HR8.out, World.ownsRow_nil _ _ _ _, HB.out⟩
      case round =>
        obtain ⟨j, p9, c9, hj, rfl, htj, rfl, hc9, hb9, hown9, hbr⟩ := hrel
        clear hc8 hp8 HR8 HB
        have HB9 : Hid (BIn wr p9 (n - tot zs j) (xs.drop (tot zs j))) := hb9
        have HO9 : Hid (wr.ownsRow w.heap.size 44 1 u9 j (U64 ((nums xs zs).take j))) := hown9
        have HBR : Hid (Below w.heap.size w wr) := hbr
        clear hb9 hown9 hbr
        by_cases hlt : j < m
        · have hkl : j < zs.length := by rw [HZ.out.len]; exact hlt
          have hnl : j < (nums xs zs).length := by rw [HNL.out]; exact hlt
          have hcz := (HZ.out.later HBR.out).cells j hkl
          have hok := HZ.out.ok j hkl
          have HST : Hid (tot zs (j + 1) = tot zs j + zs[j]) := tot_step zs j hkl
          have HLE : Hid (tot zs (j + 1) ≤ zs.sum) := tot_le zs (j + 1)
          have HNG : Hid ((nums xs zs)[j] = worth ((xs.drop (tot zs j)).take zs[j])) := nums_get xs zs j hnl hkl
          have HTK : Hid ((nums xs zs).take (j + 1) = (nums xs zs).take j ++ [(nums xs zs)[j]]) := List.take_succ_eq_append_getElem hnl
          have hdl : (xs.drop (tot zs j)).length = n - tot zs j := HB9.out.len
          generalize zs[j] = s at *
          generalize (nums xs zs)[j] = N at *
          generalize hA : tot zs j = A at *
          by_cases hsh : n - A < s
          · have HT : Hid (takeS (xs.drop A) s = (0, [], 11)) := takeS_short _ s hok (by omega)
            clear hdl
            go_wp2_with fail
            refine (rtake_x p9 (n - A) c9 (xs.drop A) s 0 [] 11 HT.out _ HB9.out hc9 (by omega)).mono ?_
            rintro e w2 ⟨p2, c2, rfl, m2⟩
            have HB2 : Hid (Below w.heap.size w w2) := HBR.out.trans (m2.below.mono HBR.out.size)
            clear m2
            go_wp2
            go_ret3
            exact ⟨HB2.out, .inl ⟨by have := HST.out; have := HLE.out; omega, rfl⟩⟩
          · have HT : Hid (takeS (xs.drop A) s = (N, xs.drop (A + s), 0)) := by
              show _ = _
              rw [takeS_good _ s hok (by omega), HNG.out, List.drop_drop]
            have HL2 : Hid ((xs.drop (A + s)).length = n - (A + s)) := by show _ = _; rw [List.length_drop, HX.out.len]
            clear hdl
            go_wp2_with fail
            refine (rtake_x p9 (n - A) c9 (xs.drop A) s N (xs.drop (A + s)) 0 HT.out _ HB9.out hc9 (by omega)).mono ?_
            rintro e w2 ⟨p2, c2, rfl, m2⟩
            have HB2 : Hid (Below w.heap.size w w2) := HBR.out.trans (m2.below.mono HBR.out.size)
            have HO2 : Hid (w2.ownsRow w.heap.size 44 1 u9 j (U64 ((nums xs zs).take j))) := own_later HO9.out m2.below
            have HR2 : Hid (BIn w2 p2 (n - (A + s)) (xs.drop (A + s))) := by have := m2.read; rw [HL2.out] at this; exact this
            have hc2 : n - (A + s) ≤ c2 := by have := m2.cap; rw [HL2.out] at this; exact this
            have HSP : Hid (∀ a, p2 = some a → 0 < n - (A + s) → u9.ownBlock ≠ some a.block) := fun a ha _ e => by have := m2.seg.at ha; have := (HO9.out.lt _ e).2; omega
            rw [HL2.out]
            clear m2 HB9 HO9 HT HL2
            go_wp2_with (at_builtin; refine wpList_append_own _ rfl (.tmp 54) (.tmp 56) 25 rfl w.heap.size 44 i44 (.int .u64 0) 1 8 Try.underlying25 hi44 hz440 hz441 hz442 rfl (by omega) u9 j (U64 ((nums xs zs).take j)) rfl (HO2.out.alloc _) ⟨w2.heap.size, 0, none⟩ 1 1 [.int .u64 N] rfl rfl (cell_one_new _ _ _) (Ytdfnpapnoedpkab.N.one_u64 _) (by unfold maxLen; omega) (by omega) (by have := HB2.out.size; simp; omega) ?_)
            intro v3 w3 hown3 hgrow3 _
            have HO3 : Hid (w3.ownsRow w.heap.size 44 1 v3 (j + 1) (U64 ((nums xs zs).take (j + 1)))) := by
              show World.ownsRow _ _ _ _ _ _ _
              rw [HTK.out, U64, List.map_append, List.map_take]
              exact hown3
            have HB3 : Hid (Below w.heap.size w w3) := (HB2.out.alloc HB2.out.size _).grown hgrow3 (by have := HB2.out.size; simp; omega) (fun k hk => (HO2.out.lt k hk).1)
            have HR3 : Hid (BIn w3 p2 (n - (A + s)) (xs.drop (A + s))) := (HR2.out.later (below_alloc w2 _)).grown hgrow3 HSP.out
            clear hown3 hgrow3 HO2 HB2 HR2
            go_wp2
            go_roundw
            case rel =>
              refine ⟨j + 1, p2, c2, by omega, by go_num, ?_, ?_, ?_, ?_, HO3.out, HB3.out⟩
              · rw [HST.out]; omega
              · rw [HST.out]
              · rw [HST.out]; exact hc2
              · rw [HST.out]; exact HR3.out
            case measure => simp [intOf]; omega
        · obtain rfl : m = j := by omega
          have HA : Hid (tot zs m = zs.sum) := tot_all zs m (by rw [HZ.out.len]; omega)
          go_wp2
          go_ret3
          refine ⟨HBR.out, .inr ⟨by rw [← HA.out]; exact htj, u9, p9, c9, ?_, ?_, ?_⟩⟩
          · rw [HA.out]; rfl
          · have := HO9.out
            rw [List.take_of_length_le (by rw [HNL.out]; omega)] at this
            exact this
          · rw [← HA.out]; exact HB9.out

set_option maxHeartbeats 1000000 in
theorem rfields_zero (p q : Option Addr) (n c d : Nat) (xs : List Int) (w : World) (hx : BIn w p n xs) (hnc : n ≤ c) (hp : p = none → c = 0) (hbig : n + 80 ≤ 140737488355328) :
    Calls Try.prog 5 #[.slice p n c, .slice q 0 d] w fun e w' => ∃ p2 c2, e = .returned (.tuple #[.slice none 0 0, .slice p2 n c2, .int .i64 0]) ∧ BIn w' p2 n xs ∧ Below w.heap.size w w' := by
  obtain ⟨i5, hi5, hz50, hz51, hz52⟩ := info_parts info5
  have HX : Hid (BIn w p n xs) := hx
  have HXL : Hid ((U8 xs).length = n) := by show _ = _; rw [List.length_map, hx.len]
  have HNW : Hid (∀ ad, p = some ad → ∀ j u, (U8 xs)[j]? = some u → (w.alloc (.cells #[] 5)).cell? (ad.add j) = some u) := fun ad e => by subst e; exact (hx.later (below_alloc w _)).news
  have HM : Hid ((w.alloc (.cells #[] 5)).ownsRow w.heap.size 5 1 (.slice (some ⟨w.heap.size, 0, none⟩) 0 0) 0 []) := World.ownsRow_made w #[] 0 (Nat.le_refl _) (Nat.zero_le _) rfl
  clear hx
  go_enter Try.func5, Try.ntmps5
  go_wp2
  refine wp_loop_rounds 1 ?_
  rw [rounds_succ]
  go_wp2_with (at_builtin; refine wpList_append_any _ rfl (.tmp 32) (.tmp 33) 22 rfl w.heap.size 5 i5 (.int .u8 0) 1 Try.underlying22 hi5 hz50 hz51 hz52 rfl _ 0 [] rfl HM.out p n c (U8 xs) rfl hp hnc HXL.out HNW.out (ones_u8 xs) (by unfold maxLen; omega) (by omega) (by simp) ?_)
  intro v8 w1 hown hgrow
  have hO : w1.ownsRow w.heap.size 5 1 v8 n (U8 xs) := by simpa using hown
  have HB : Hid (Below w.heap.size w w1) := ((Below.refl _ w).alloc (Nat.le_refl _) _).grown hgrow (by simp) (by intro k hk; simp [Value.ownBlock] at hk; omega)
  obtain ⟨p8, c8, hv8, hr8, hc8, hp8, _⟩ := own_in hO HX.out.byte
  subst hv8
  have HR8 : Hid (BIn w1 p8 n xs) := hr8
  clear hO hown hgrow hr8 HNW HM hp
  go_wp2
  refine wp_loop_rounds 1 ?_
  rw [rounds_succ]
  go_wp2
  go_ret3
  exact ⟨p8, c8, rfl, HR8.out, HB.out⟩

/-- the sizes, all of them good, as the loops see them -/
theorem zin_of {w : World} {q : Option Addr} {m : Nat} {ss : List Int} (hi : IIn w .i64 q m ss) (h0 : 0 < m) (hgood : ∀ s ∈ ss, ¬ (s < 1 ∨ 8 < s)) : ∃ b o, q = some ⟨b, o, none⟩ ∧ ZIn w b o m (ss.map Int.toNat) := by
  obtain ⟨b, o, rfl, hc⟩ := hi.cells h0
  refine ⟨b, o, rfl, by rw [List.length_map, hi.len], fun i h => ?_, fun i h => ?_⟩
  · have h2 : i < ss.length := by simpa using h
    have := hgood ss[i] (List.getElem_mem h2)
    rw [List.getElem_map]
    omega
  · have h2 : i < ss.length := by simpa using h
    have := hgood ss[i] (List.getElem_mem h2)
    rw [hc i h2, List.getElem_map]
    congr 2
    omega

theorem rfields_x (p q : Option Addr) (n c m d : Nat) (xs ss : List Int) (NS X : List Int) (er : Int) (hS : fieldsS xs ss = (NS, X, er)) (w : World) (hx : BIn w p n xs) (hi : IIn w .i64 q m ss) (hnc : n ≤ c) (hp : p = none → c = 0) (hbig : n + 80 ≤ 140737488355328) (hm : m + 80 ≤ 17592186044416) :
    Calls Try.prog 5 #[.slice p n c, .slice q m d] w fun e w' => ∃ p1 c1 p2 c2, e = .returned (.tuple #[.slice p1 NS.length c1, .slice p2 X.length c2, .int .i64 er]) ∧
      IIn w' .u64 p1 NS.length NS ∧ BIn w' p2 X.length X ∧ Below w.heap.size w w' := by
  unfold fieldsS at hS
  by_cases hbad : ∃ s ∈ ss, s < 1 ∨ 8 < s
  · rw [if_pos hbad] at hS
    simp only [Prod.mk.injEq] at hS
    obtain ⟨rfl, rfl, rfl⟩ := hS
    refine (rfields_input p q n c m d ss w hi hm hbad).mono ?_
    rintro e w' ⟨rfl, rfl⟩
    exact ⟨none, 0, none, 0, rfl, ⟨rfl, fun h => absurd h (Nat.lt_irrefl 0)⟩, BIn.empty, Below.refl _ _⟩
  · rw [if_neg hbad] at hS
    have hgood : ∀ s ∈ ss, ¬ (s < 1 ∨ 8 < s) := fun s hs hx => hbad ⟨s, hs, hx⟩
    by_cases h0 : 0 < m
    · obtain ⟨b2, o2, rfl, hZ⟩ := zin_of hi h0 hgood
      refine (rfields_pos p n c b2 o2 m d xs (ss.map Int.toNat) w hx hZ hnc hp hbig hm).mono ?_
      rintro e w' ⟨hb, ⟨hs, rfl⟩ | ⟨hs, v1, p2, c2, rfl, ho, hr⟩⟩
      · rw [if_pos (by rw [hx.len]; exact hs)] at hS
        simp only [Prod.mk.injEq] at hS
        obtain ⟨rfl, rfl, rfl⟩ := hS
        exact ⟨none, 0, none, 0, rfl, ⟨rfl, fun h => absurd h (Nat.lt_irrefl 0)⟩, BIn.empty, hb⟩
      · rw [if_neg (by rw [hx.len]; omega)] at hS
        simp only [Prod.mk.injEq] at hS
        obtain ⟨rfl, rfl, rfl⟩ := hS
        have e1 : (nums xs (ss.map Int.toNat)).length = m := by rw [nums_length, hZ.len]
        obtain ⟨p1, c1, rfl, h1, _⟩ := own_in64 ho
        refine ⟨p1, c1, p2, c2, ?_, ?_, ?_, hb⟩
        · rw [e1, hr.len]
        · rw [e1]; exact h1
        · rw [hr.len]; exact hr
    · obtain rfl : m = 0 := by omega
      obtain rfl : ss = [] := List.eq_nil_of_length_eq_zero hi.len
      simp only [List.map_nil, List.sum_nil, Nat.not_lt_zero, if_false, List.drop_zero, nums, Prod.mk.injEq] at hS
      obtain ⟨rfl, rfl, rfl⟩ := hS
      refine (rfields_zero p q n c d xs w hx hnc hp hbig).mono ?_
      rintro e w' ⟨p2, c2, rfl, h2, hb⟩
      exact ⟨none, 0, p2, c2, by rw [hx.len]; rfl, ⟨rfl, fun h => absurd h (Nat.lt_irrefl 0)⟩, by rw [hx.len]; exact h2, hb⟩

end Go.Proofs.Ytdfnpapnoedpkab
