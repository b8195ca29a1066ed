/-
  Layer 7, the document's own functions, first part: Sum, Config, Check, eight; the law's own: back, plain, small, may.
-/
import Derived.Test.YtcfofoddfhbkcaaDoorLb
namespace Go.Proofs.YtcfofoddfhbkcaaDoor
open Go.RowKit

set_option maxHeartbeats 1000000 in
theorem refSum_pos (b o n c : Nat) (xs : List Int) (w : World) (h : BIn w (some ⟨b, o, none⟩) n xs) (h0 : 0 < n) (hbig : n ≤ 140737488355328) :
    Calls Tryd.prog 22 #[.slice (some ⟨b, o, none⟩) n c] w fun e w' => e = .returned (.int .u32 (crc xs : Nat)) ∧ w = w' := by
  obtain ⟨b', o', e, hcs⟩ := h.cells h0
  simp only [Option.some.injEq, Addr.mk.injEq, and_true] at e
  obtain ⟨rfl, rfl⟩ := e
  have HC : Hid (∀ i, i < n → w.cell? ⟨b, o + i, none⟩ = some (.int .u8 (xs.getD i 0))) := hcs
  have HX : Hid (xs.length = n) := h.len
  have HK : Hid (Bytes xs) := h.byte
  clear hcs h
  go_enter Tryd.func22, Tryd.ntmps22
  go_wp2
  go_loop [3, 4] (fun x i => ∃ j : Nat, j ≤ n ∧ i = .int .i64 j ∧ x = .int .u32 (st 4294967295 (xs.take j) : Nat)) (fun _ i => n - (intOf i).toNat)
  case atStart => exact ⟨0, Nat.zero_le _, rfl, rfl⟩
  case round =>
    obtain ⟨j, hj, rfl, rfl⟩ := hrel
    have hlj := st_lt 4294967295 (xs.take j) (by omega) (HK.out.take j)
    by_cases hjl : j < n
    · have hcj := HC.out j hjl
      have hjx : j < xs.length := by rw [HX.out]; exact hjl
      have hb := HK.out.at j hjx
      have HJ : Hid (st 4294967295 (xs.take (j + 1)) = hn 8 (st 4294967295 (xs.take j) ^^^ xs[j].toNat)) := st_step _ xs j hjx
      rw [show xs.getD j 0 = xs[j] by simp [List.getD, List.getElem?_eq_getElem hjx]] at hcj
      obtain ⟨z, hz⟩ : ∃ z, z = st 4294967295 (xs.take j) := ⟨_, rfl⟩
      rw [← hz] at hlj HJ ⊢
      obtain ⟨q, hq⟩ : ∃ q, q = xs[j] := ⟨_, rfl⟩
      rw [← hq] at hb HJ hcj
      obtain ⟨hb0, hb1⟩ := hb
      clear hz hq
      obtain ⟨y, hy⟩ : ∃ y, y = z ^^^ q.toNat := ⟨_, rfl⟩
      have hyl : y < 4294967296 := by rw [hy]; exact xor_lt _ _ hlj (by omega)
      have h1 : bits .xor .u32 (z : Int) q = (y : Int) := by
        rw [hy, ← u32_xor_nat z q.toNat hlj (by omega)]
        congr 1
        omega
      rw [← hy] at HJ
      clear hy
      go_wp2
      go_loop [3, 5] (fun v i => ∃ k : Nat, k ≤ 8 ∧ i = .int .i64 k ∧ v = .int .u32 (hn k y : Nat)) (fun _ i => 8 - (intOf i).toNat)
      case atStart => exact ⟨0, by omega, rfl, rfl⟩
      case round =>
        obtain ⟨k, hk, rfl, rfl⟩ := hrel
        by_cases hlt : k < 8
        · have hl := hn_lt k y hyl
          have HN : Hid (hn (k + 1) y = hv (hn k y)) := hn_next k y
          obtain ⟨x, hx⟩ : ∃ x, x = hn k y := ⟨_, rfl⟩
          rw [← hx] at HN hl ⊢
          clear hx
          by_cases hodd : x % 2 = 1
          · have hx2 := u32_xor_nat (x / 2) 3988292384 (by omega) (by omega)
            have HV : Hid (hv x = x / 2 ^^^ 3988292384) := by show _ = _; unfold hv; rw [if_pos hodd]
            have ho' : (x : Int) % 2 = 1 := by omega
            have hx3 : bits .xor .u32 ((x : Int) / 2) 3988292384 = ((x / 2 ^^^ 3988292384 : Nat) : Int) := hx2
            clear hx2
            go_wp2
            go_round
            case rel => exact ⟨k + 1, by omega, by go_num, by rw [HN.out, HV.out]⟩
            case measure => simp [intOf]; omega
          · have HV : Hid (hv x = x / 2) := by show _ = _; unfold hv; rw [if_neg hodd, Nat.xor_zero]
            have ho' : ¬ (x : Int) % 2 = 1 := by omega
            go_wp2
            go_round
            case rel => exact ⟨k + 1, by omega, by go_num, by rw [HN.out, HV.out]; rfl⟩
            case measure => simp [intOf]; omega
        · obtain rfl : k = 8 := by omega
          rw [← HJ.out]
          go_wp2
          go_round
          case rel => exact ⟨j + 1, by omega, by go_num, rfl⟩
          case measure => simp [intOf]; omega
    · have HA : Hid (xs.take j = xs) := List.take_of_length_le (by rw [HX.out]; omega)
      have hxo := u32_xor_nat _ 4294967295 hlj (by omega)
      have HO : Hid (bits .xor .u32 ((st 4294967295 (xs.take j) : Nat) : Int) 4294967295 = ((crc xs : Nat) : Int)) := by
        show _ = _
        rw [crc, ← HA.out]
        simpa [HA.out] using hxo
      clear hxo
      go_wp2
      go_ret
      refine ⟨?_, rfl⟩
      rw [← HO.out]
      rfl

set_option maxHeartbeats 2000000 in
theorem refConfig_any (s : Sup) (w : World) :
    Calls Tryd.prog 18 #[.agg (ccells s).toArray] w fun e w' => e = .returned (.int .i64 (cfg s)) ∧ Below w.heap.size w w' := by
  have hA : CAt (w.alloc (.cells (ccells s).toArray 23)) w.heap.size s := LAt.new 23 w (ccells s)
  have c0 := CAt.c0 hA
  have c1 := CAt.c1 hA
  have c2 := CAt.c2 hA
  have c3 := CAt.c3 hA
  have c4 := CAt.c4 hA
  have HB : Hid (Below w.heap.size w (w.alloc (.cells (ccells s).toArray 23))) := below_alloc w _
  have HC1 : Hid (MayC s → cfg s = 0) := cfg_yes s
  have HC0 : Hid (¬ MayC s → cfg s = 3) := cfg_no s
  clear hA
  go_enter Tryd.func18, Tryd.ntmps18
  by_cases h1 : (1 ≤ s.bl ∧ s.bl ≤ 64) ∧ (2 ≤ s.lc ∧ s.lc ≤ 64)
  · obtain ⟨⟨a1, a2⟩, a3, a4⟩ := h1
    by_cases h2 : (1 ≤ s.mr ∧ s.mr ≤ 16 ∧ s.mr ≤ s.bl ∧ s.mr ≤ s.lc - 1)
    · obtain ⟨a5, a6, a7, a8⟩ := h2
      by_cases h3 : (1 ≤ s.hi ∧ s.hi ≤ s.lc) ∧ (1 ≤ s.cl ∧ s.cl ≤ 8)
      · have HE : Hid (cfg s = 0) := HC1.out ⟨⟨a1, a2⟩, ⟨a3, a4⟩, ⟨a5, a6, a7, a8⟩, h3.1, h3.2⟩
        obtain ⟨⟨b1, b2⟩, b3, b4⟩ := h3
        go_wp2
        go_ret
        exact ⟨by rw [HE.out]; rfl, HB.out⟩
      · have HE : Hid (cfg s = 3) := HC0.out fun h => h3 ⟨h.2.2.2.1, h.2.2.2.2⟩
        have h3' : s.hi < 1 ∨ (1 ≤ s.hi ∧ s.lc < s.hi) ∨ ((1 ≤ s.hi ∧ s.hi ≤ s.lc) ∧ s.cl < 1) ∨ ((1 ≤ s.hi ∧ s.hi ≤ s.lc) ∧ 1 ≤ s.cl ∧ 8 < s.cl) := by omega
        clear h3
        rcases h3' with h | ⟨h, h'⟩ | ⟨⟨h, h'⟩, h''⟩ | ⟨⟨h, h'⟩, h'', h'''⟩ <;> go_wp2 <;> go_ret <;> exact ⟨by rw [HE.out]; rfl, HB.out⟩
    · have HE : Hid (cfg s = 3) := HC0.out fun h => h2 h.2.2.1
      have h2' : s.mr < 1 ∨ (1 ≤ s.mr ∧ 16 < s.mr) ∨ ((1 ≤ s.mr ∧ s.mr ≤ 16) ∧ s.bl < s.mr) ∨ ((1 ≤ s.mr ∧ s.mr ≤ 16) ∧ s.mr ≤ s.bl ∧ s.lc - 1 < s.mr) := by omega
      clear h2
      rcases h2' with h | ⟨h, h'⟩ | ⟨⟨h, h'⟩, h''⟩ | ⟨⟨h, h'⟩, h'', h'''⟩ <;> go_wp2 <;> go_ret <;> exact ⟨by rw [HE.out]; rfl, HB.out⟩
  · have HE : Hid (cfg s = 3) := HC0.out fun h => h1 ⟨h.1, h.2.1⟩
    have h1' : s.bl < 1 ∨ (1 ≤ s.bl ∧ 64 < s.bl) ∨ ((1 ≤ s.bl ∧ s.bl ≤ 64) ∧ s.lc < 2) ∨ ((1 ≤ s.bl ∧ s.bl ≤ 64) ∧ 2 ≤ s.lc ∧ 64 < s.lc) := by omega
    clear h1
    rcases h1' with h | ⟨h, h'⟩ | ⟨⟨h, h'⟩, h''⟩ | ⟨⟨h, h'⟩, h'', h'''⟩ <;> go_wp2 <;> go_ret <;> exact ⟨by rw [HE.out]; rfl, HB.out⟩

set_option maxHeartbeats 1000000 in
theorem refCheck_any (s : Sup) (w : World) :
    Calls Tryd.prog 32 #[.agg (scells s).toArray] w fun e w' => e = .returned (.int .i64 (chk s)) ∧ Below w.heap.size w w' := by
  have HA : Hid (SAt 26 (w.alloc (.cells (scells s).toArray 26)) w.heap.size s) := LAt.new 26 w (scells s)
  have L1 : Hid (_) := SAt.load23 HA.out
  have HB : Hid (Below w.heap.size w (w.alloc (.cells (scells s).toArray 26))) := below_alloc w _
  go_enter Tryd.func32, Tryd.ntmps32
  go_wp2_with ((with_reducible refine at_ops ?_); (refine wpList_load_is (by rfl) 23 rfl rfl L1.out ?_); simp only [Act.put, List.setIfInBounds_toArray, List.set_cons_zero, List.set_cons_succ])
  refine (refConfig_any s _).mono ?_
  rintro e w1 ⟨rfl, b1⟩
  have HA1 : Hid (SAt 26 w1 w.heap.size s) := LAt.later HA.out b1
  have HB1 : Hid (Below w.heap.size w w1) := below_then HB.out b1
  have c5 := SAt.c5 HA1.out
  have c6 := SAt.c6 HA1.out
  clear b1 HA HB L1
  by_cases hc : MayC s
  · rw [cfg_yes s hc]
    by_cases ht : MayT s
    · have h1 := ht.1
      have h2 := ht.2.1
      have h3 := ht.2.2
      have HE : Hid (chk s = 0) := chk_yes s ⟨hc, ht⟩
      clear hc ht
      go_wp2
      go_ret
      exact ⟨by rw [HE.out]; rfl, HB1.out⟩
    · have HE : Hid (chk s = 70) := chk_t s hc ht
      have ht' : 4611686018427387904 < s.tail ∨ (s.tail ≤ 4611686018427387904 ∧ s.life < 1) ∨ (s.tail ≤ 4611686018427387904 ∧ 1 ≤ s.life ∧ 4611686018427387904 < s.life) := by simp only [MayT] at ht; omega
      clear hc ht
      rcases ht' with h | ⟨h, h'⟩ | ⟨h, h', h''⟩ <;> go_wp2 <;> go_ret <;> exact ⟨by rw [HE.out]; rfl, HB1.out⟩
  · rw [cfg_no s hc]
    have HE : Hid (chk s = 3) := chk_c s hc
    clear hc
    go_wp2_with fail
    go_ret
    exact ⟨by rw [HE.out]; rfl, HB1.out⟩

theorem worth_drop (D : List Int) (k : Nat) (h : k < D.length) : worth (D.drop k) = D[k] + 256 * worth (D.drop (k + 1)) := by
  rw [List.drop_eq_getElem_cons h]; rfl
set_option maxHeartbeats 1000000 in
theorem eight_any (b o c : Nat) (D : List Int) (w : World) (h : BIn w (some ⟨b, o, none⟩) 8 D) :
    Calls Tryd.prog 34 #[.slice (some ⟨b, o, none⟩) 8 c] w fun e w' => e = .returned (.int .u64 (worth D)) ∧ w = w' := by
  obtain ⟨b', o', e, hcs⟩ := h.cells (by omega)
  simp only [Option.some.injEq, Addr.mk.injEq, and_true] at e
  obtain ⟨rfl, rfl⟩ := e
  have HC : Hid (∀ i, i < 8 → w.cell? ⟨b, o + i, none⟩ = some (.int .u8 (D.getD i 0))) := hcs
  have HL : Hid (D.length = 8) := h.len
  have HK : Hid (Bytes D) := h.byte
  clear hcs h
  go_enter Tryd.func34, Tryd.ntmps34
  go_wp2
  go_loop [3, 4] (fun v i => ∃ j : Nat, j ≤ 8 ∧ i = .int .i64 ((j : Int) - 1) ∧ v = .int .u64 (worth (D.drop j))) (fun _ i => ((intOf i) + 1).toNat)
  case atStart => exact ⟨8, Nat.le_refl _, rfl, by rw [List.drop_of_length_le (by rw [HL.out]; omega)]; rfl⟩
  case round =>
    obtain ⟨j, hj, rfl, rfl⟩ := hrel
    cases j with
    | zero =>
      go_wp2
      go_ret
      exact ⟨rfl, rfl⟩
    | succ k =>
      have hk : k < D.length := by rw [HL.out]; omega
      have hc := HC.out k (by omega)
      rw [show D.getD k 0 = D[k] by simp [List.getD, List.getElem?_eq_getElem hk]] at hc
      have hb := HK.out.at k hk
      have HW : Hid (worth (D.drop k) = D[k] + 256 * worth (D.drop (k + 1))) := worth_drop D k hk
      have hw := worth_bd (D.drop (k + 1)) (HK.out.drop _)
      have hp : (256 : Int) ^ (D.drop (k + 1)).length ≤ 256 ^ 7 := pow_le (by rw [List.length_drop, HL.out]; omega)
      rw [show (256 : Int) ^ 7 = 72057594037927936 by decide] at hp
      have hw1 : worth (D.drop (k + 1)) < 72057594037927936 := by omega
      have hw0 := hw.1
      obtain ⟨hb0, hb1⟩ := hb
      generalize D[k] = x at *
      generalize worth (D.drop (k + 1)) = M at *
      clear hw hp
      have e1 : ((k + 1 : Nat) : Int) - 1 = (k : Int) := by omega
      rw [e1]
      clear e1
      go_wp2
      go_round
      case rel => exact ⟨k, by omega, by go_num, by rw [HW.out]; congr 1; omega⟩
      case measure => simp [intOf]
end Go.Proofs.YtcfofoddfhbkcaaDoor
