/-
  SumBursts walked.
-/
import Derived.Test.YtaencchobpgogaaDoorVa
namespace Go.Proofs.YtaencchobpgogaaDoor
open Go.RowKit

theorem sb_of {w : World} {B k : Nat} {v : Value} {X : List Int} (h : w.ownsRow B 5 1 v k (U8 X)) (hX : Bytes X) : ∃ p c, v = .slice p k c ∧ SB w p k c X := by
  obtain ⟨p', c', e, hB, hnc, hp, _⟩ := own_in h hX
  exact ⟨p', c', e, hB, hnc, hp⟩
theorem sb_at {w : World} {B g k cap : Nat} {X : List Int} (h : w.ownsRow B 5 1 (.slice (some ⟨g, 0, none⟩) k cap) k (U8 X)) (hX : Bytes X) : SB w (some ⟨g, 0, none⟩) k cap X := by
  obtain ⟨p', c', e, hB⟩ := sb_of h hX
  cases e
  exact hB

set_option maxHeartbeats 4000000 in
set_option maxRecDepth 100000 in
theorem sumBursts_any (p1 : Option Addr) (n1 c1 : Nat) (x1 : List Int) (A : Int) (t : Nat) (w : World) (h1 : SB w p1 n1 c1 x1) (htn : t < 4294967296) (ht : Tab w) :
    Calls Tryd.prog 6 #[.slice p1 n1 c1, .int .i64 A, .int .u32 t] w fun e w' => e = .returned (.bool true) ∧ Below w.heap.size w w' := by
  obtain ⟨i0, hi, hz0, hz1, hz2⟩ := info_parts info5
  have HT : Hid (Tab w) := ht
  have H1 : Hid (SB w p1 n1 c1 x1) := h1
  clear ht h1
  go_enter Tryd.func6, Tryd.ntmps6
  go_wp2_with fail
  refine (fixed_any _ HT.out).mono ?_
  rintro e w1 ⟨rfl, hb⟩
  have B1 : Hid (Below w.heap.size w w1) := hb
  clear hb
  go_wp2_with fail
  refine (some_x _ _ _ x1 w1 (H1.out.later B1.out)).mono ?_
  rintro e w2 ⟨p2, m, c2, X, rfl, s2, hb, hm⟩
  have B2 : Hid (Below w.heap.size w w2) := below_then B1.out hb
  have S2 : Hid (SB w2 p2 m c2 X) := s2
  clear hb s2 H1
  go_wp2_with fail
  refine (of1_x w2 _ _ _ X S2.out (by omega) (HT.out.later B2.out)).mono ?_
  rintro e w3 ⟨rfl, hb⟩
  have B3 : Hid (Below w.heap.size w w3) := below_then B2.out hb
  have S3 : Hid (SB w3 p2 m c2 X) := S2.out.later hb
  have BX : Hid (Bytes X) := S2.out.inn.byte
  have LX : Hid (X.length = m) := S2.out.inn.len
  clear hb S2 B2 B1
  have HR : Hid (crc (X ++ four4 (crc X)) = 558161692) := crc_residue X BX.out
  have hs := crc_lt X BX.out
  have HF : Hid (four4 (crc X) = four4 (crc X)) := rfl
  generalize hS : crc X = s at *
  clear hS
  have HN : Hid (∀ ad, p2 = some ad → ∀ j u, (U8 X)[j]? = some u → (w3.alloc (.cells #[] 5)).cell? (ad.add j) = some u) := by
    intro ad had
    have := (S3.out.later (below_alloc w3 (.cells #[] 5))).inn
    rw [had] at this
    exact this.news
  have HL : Hid ((U8 X).length = m * 1) := by show _ = _; rw [List.length_map, LX.out, Nat.mul_one]
  have HM : Hid ((w3.alloc (.cells #[] 5)).ownsRow w3.heap.size 5 1 (.slice (some ⟨w3.heap.size, 0, none⟩) 0 0) 0 []) := World.ownsRow_made w3 #[] 0 (Nat.le_refl _) (Nat.zero_le _) rfl
  have HNn : Hid (p2 = none → m = 0 ∧ c2 = 0) := fun h => by have := S3.out.nil h; have := S3.out.le; omega
  go_wp2_with (at_builtin; refine wpList_append_ownany _ rfl (.tmp 20) (.tmp 21) 25 rfl w3.heap.size 5 i0 (.int .u8 0) 1 1 Tryd.underlying25 hi hz0 hz1 hz2 rfl (by decide) _ 0 [] rfl HM.out p2 m c2 (U8 X) rfl HNn.out HL.out HN.out (ones_u8 _) (by unfold maxLen; omega) (by omega) (by simp) ?_)
  intro v4 w4 hown4 hgrow4
  have hown4' : w4.ownsRow w3.heap.size 5 1 v4 m (U8 X) := by simpa using hown4
  have B4 : Hid (Below w3.heap.size w3 w4) := ((Below.refl _ w3).alloc (Nat.le_refl _) _).grown hgrow4 (by simp) (by intro k hk; simp [Value.ownBlock] at hk; omega)
  have O4 : Hid (w4.ownsRow w3.heap.size 5 1 v4 m (U8 X)) := hown4'
  clear hown4 hown4' hgrow4 HN HL HM HNn S3
  have F4 : Hid (four4 s = [(s : Int) % 256, (s : Int) / 256 % 256, (s : Int) / 65536 % 256, (s : Int) / 16777216]) := by
    show _ = _
    unfold four4
    simp
    omega
  have BF : Hid (Bytes [(s : Int) % 256, (s : Int) / 256 % 256, (s : Int) / 65536 % 256, (s : Int) / 16777216]) := by
    show Bytes _
    rw [← F4.out]
    exact four4_bytes s
  have HRs : Hid (crc (X ++ [(s : Int) % 256, (s : Int) / 256 % 256, (s : Int) / 65536 % 256, (s : Int) / 16777216]) = 558161692) := by
    show _ = _
    rw [← F4.out]
    exact HR.out
  have HN : Hid (∀ j u, (U8 [(s : Int) % 256, (s : Int) / 256 % 256, (s : Int) / 65536 % 256, (s : Int) / 16777216])[j]? = some u → (w4.alloc (.cells #[.int .u8 ((s : Int) % 256), .int .u8 ((s : Int) / 256 % 256), .int .u8 ((s : Int) / 65536 % 256), .int .u8 ((s : Int) / 16777216)] 5)).cell? ((⟨w4.heap.size, 0, none⟩ : Addr).add j) = some u) :=
    (lit_in w4 [(s : Int) % 256, (s : Int) / 256 % 256, (s : Int) / 65536 % 256, (s : Int) / 16777216] 4 rfl BF.out).news
  have HS34 : Hid (w3.heap.size ≤ w4.heap.size) := B4.out.size
  clear HR F4 HF
  go_wp2_with (at_builtin; refine wpList_append_lies _ rfl (.tmp 22) (.tmp 34) 25 rfl w3.heap.size 5 i0 (.int .u8 0) 1 1 Tryd.underlying25 hi hz0 hz1 hz2 rfl (by omega) v4 m (U8 X) rfl (O4.out.alloc _) ⟨w4.heap.size, 0, none⟩ 4 4 (U8 [(s : Int) % 256, (s : Int) / 256 % 256, (s : Int) / 65536 % 256, (s : Int) / 16777216]) rfl rfl HN.out (ones_u8 _) (by omega) (by unfold maxLen; omega) (by omega) (by have := HS34.out; simp; omega) _ rfl ?_)
  intro g5 cap5 w5 hown5 hgrow5 hat5 hlt5
  have B5 : Hid (Below w3.heap.size w3 w5) := by
    refine (B4.out.trans ((below_alloc w4 _).mono HS34.out)).grown hgrow5 (by have := HS34.out; simp; omega) ?_
    intro k hk
    have := O4.out.lt k hk
    omega
  obtain ⟨W5, hW5⟩ : ∃ Y, Y = X ++ [(s : Int) % 256, (s : Int) / 256 % 256, (s : Int) / 65536 % 256, (s : Int) / 16777216] := ⟨_, rfl⟩
  have O5 : Hid (Bytes W5 ∧ W5.length = m + 4 ∧ crc W5 = 558161692 ∧ w5.ownsRow w3.heap.size 5 1 (.slice (some ⟨g5, 0, none⟩) (m + 4) cap5) (m + 4) (U8 W5)) := by
    rw [hW5]
    refine ⟨BX.out.append BF.out, by rw [List.length_append, LX.out]; rfl, HRs.out, ?_⟩
    rw [U8, List.map_append]
    exact hown5
  clear hown5 hgrow5 hat5 hlt5 HN HRs BF BX LX O4 B4 HS34 hW5
  have S5 : Hid (SB w5 (some ⟨g5, 0, none⟩) (m + 4) cap5 W5) := sb_at O5.out.2.2.2 O5.out.1
  have BW5 : Hid (Below w.heap.size w w5) := below_then B3.out B5.out
  go_wp2_with fail
  refine (of1_x w5 _ _ _ W5 S5.out (by omega) (HT.out.later BW5.out)).mono ?_
  rintro e w6 ⟨rfl, hb⟩
  rw [O5.out.2.2.1]
  have BW6 : Hid (Below w.heap.size w w6) := below_then BW5.out hb
  have S6 : Hid (SB w6 (some ⟨g5, 0, none⟩) (m + 4) cap5 W5) := S5.out.later hb
  clear hb S5 BW5 B5
  obtain ⟨r, i, hr1, hr2, hr3, hr4, hr5, him⟩ := place1 A m
  have HN : Hid (∀ j u, (U8 W5)[j]? = some u → (w6.alloc (.cells #[] 5)).cell? ((⟨g5, 0, none⟩ : Addr).add j) = some u) := (S6.out.later (below_alloc w6 (.cells #[] 5))).inn.news
  have HL : Hid ((U8 W5).length = (m + 4) * 1) := by show _ = _; rw [List.length_map, O5.out.2.1, Nat.mul_one]
  have HM : Hid ((w6.alloc (.cells #[] 5)).ownsRow w6.heap.size 5 1 (.slice (some ⟨w6.heap.size, 0, none⟩) 0 0) 0 []) := World.ownsRow_made w6 #[] 0 (Nat.le_refl _) (Nat.zero_le _) rfl
  go_wp2_with (at_builtin; refine wpList_append_lies _ rfl (.tmp 50) (.tmp 51) 25 rfl w6.heap.size 5 i0 (.int .u8 0) 1 1 Tryd.underlying25 hi hz0 hz1 hz2 rfl (by omega) _ 0 [] rfl HM.out ⟨g5, 0, none⟩ (m + 4) cap5 (U8 W5) rfl HL.out HN.out (ones_u8 _) (by omega) (by unfold maxLen; omega) (by omega) (by simp) _ rfl ?_)
  intro g7 cap7 w7 hown7 hgrow7 hat7 hlt7
  have B7 : Hid (Below w6.heap.size w6 w7) := ((Below.refl _ w6).alloc (Nat.le_refl _) _).grown hgrow7 (by simp) (by intro k hk; simp [Value.ownBlock] at hk; omega)
  have O7 : Hid (w7.ownsRow w.heap.size 5 1 (.slice (some ⟨g7, 0, none⟩) (m + 4) cap7) (m + 4) (U8 W5)) := by
    have : w7.ownsRow w6.heap.size 5 1 (.slice (some ⟨g7, 0, none⟩) (m + 4) cap7) (m + 4) (U8 W5) := by simpa using hown7
    exact own_mono this BW6.out.size
  have BW7 : Hid (Below w.heap.size w w7) := below_then BW6.out B7.out
  clear hown7 hgrow7 hat7 hlt7 HN HL HM S6 B7 BW6
  go_wp2_with fail
  clear hr1 hr2 hr3 hr4 hr5
  go_loopw [12] (fun c wr => ∃ (j : Nat) (Y : List Int), j ≤ 4 ∧ c = .int .i64 j ∧ Hid (Bytes Y ∧ Y.length = m + 4 ∧ crc Y = 558161692 ^^^ acc t (m + 4 - i) j ∧ wr.ownsRow w.heap.size 5 1 (.slice (some ⟨g7, 0, none⟩) (m + 4) cap7) (m + 4) (U8 Y) ∧ Below w.heap.size w wr)) (fun c _ => 4 - (intOf c).toNat)
  case atStart => exact ⟨0, W5, by omega, rfl, O5.out.1, O5.out.2.1, by rw [acc_zero, Nat.xor_zero]; exact O5.out.2.2.1, O7.out, BW7.out⟩
  case round =>
    obtain ⟨j, Y, hj, rfl, HR⟩ := hrel
    clear O5 O7 BW7
    obtain ⟨w8, hw8⟩ : ∃ w8, w8 = wr := ⟨_, rfl⟩
    subst hw8
    by_cases hlt : j < 4
    · have hiY : i + j < Y.length := by rw [HR.out.2.1]; omega
      have hx : (t : Int) / 2 ^ (8 * j) % 256 = ((t / 2 ^ (8 * j) % 256 : Nat) : Int) := by simp
      have TT : Hid (_) := turn_text Y HR.out.1 (i + j) hiY ((t : Int) / 2 ^ (8 * j) % 256) (by omega) (by omega)
      have hcY : w8.cell? ⟨g7, i + j, none⟩ = some (.int .u8 Y[i + j]) := by
        rw [HR.out.2.2.2.1.cellAt (i + j) (by omega)]
        simp [U8, List.getElem?_eq_getElem hiY]
      have hfz := HR.out.2.2.2.1.frozenAt (i + j)
      have hgB : w.heap.size ≤ g7 := by have := HR.out.2.2.2.1.lt g7 rfl; omega
      have hst := HR.out.2.2.2.1.stored (i + j) (.int .u8 (bits .xor .u8 Y[i + j] ((t : Int) / 2 ^ (8 * j) % 256)))
      have hset : (U8 Y).set (i + j) (.int .u8 (bits .xor .u8 Y[i + j] ((t : Int) / 2 ^ (8 * j) % 256))) = U8 (Y.set (i + j) (bits .xor .u8 Y[i + j] ((t : Int) / 2 ^ (8 * j) % 256))) := by simp [U8, List.map_set]
      rw [hset] at hst
      obtain ⟨Z, hZ⟩ : ∃ Z, Z = Y.set (i + j) (bits .xor .u8 Y[i + j] ((t : Int) / 2 ^ (8 * j) % 256)) := ⟨_, rfl⟩
      have HZ : Hid (Bytes Z ∧ Z.length = m + 4 ∧ crc Z = 558161692 ^^^ acc t (m + 4 - i) (j + 1) ∧ (w8.setCell ⟨g7, i + j, none⟩ (.int .u8 (bits .xor .u8 Y[i + j] ((t : Int) / 2 ^ (8 * j) % 256)))).drew.ownsRow w.heap.size 5 1 (.slice (some ⟨g7, 0, none⟩) (m + 4) cap7) (m + 4) (U8 Z) ∧ Below w.heap.size w (w8.setCell ⟨g7, i + j, none⟩ (.int .u8 (bits .xor .u8 Y[i + j] ((t : Int) / 2 ^ (8 * j) % 256)))).drew) := by
        rw [hZ]
        refine ⟨TT.out.1, by rw [List.length_set]; exact HR.out.2.1, ?_, hst.1.drew, (HR.out.2.2.2.2.setCell hgB _).drew⟩
        rw [TT.out.2, HR.out.2.2.1, acc_step _ _ _ (by omega), Nat.xor_assoc, hx, Int.toNat_natCast, HR.out.2.1]
        rw [show m + 4 - 1 - (i + j) = m + 4 - i - 1 - j by omega]
      clear hst hset hZ TT HR hx
      generalize Y[i + j] = y at *
      have i1 : (i : Int) + (j : Int) < (m : Int) + 4 := by omega
      have i0 : (0 : Int) ≤ (i : Int) + (j : Int) := by omega
      go_wp2_with fail
      go_region
      generalize (w8.setCell ⟨g7, i + j, none⟩ (.int .u8 (bits .xor .u8 y ((t : Int) / 2 ^ (8 * j) % 256)))).drew = w9 at *
      clear hcY hfz
      go_wp2_with fail
      go_roundw
      case rel => exact ⟨j + 1, Z, by omega, by go_num, HZ.out⟩
      case measure => simp [intOf]; omega
    · have hj4 : j = 4 := by omega
      have S8 : Hid (SB w8 (some ⟨g7, 0, none⟩) (m + 4) cap7 Y) := sb_at HR.out.2.2.2.1 HR.out.1
      have HE : Hid (((crc Y : Nat) : Int) = 558161692 ↔ (t : Int) = 0) := by
        show _ ↔ _
        rw [HR.out.2.2.1, hj4]
        have h1 := xor_same 558161692 (acc t (m + 4 - i) 4)
        have h2 := acc_four t (m + 4 - i) htn
        constructor
        · intro h
          have h3 : 558161692 ^^^ acc t (m + 4 - i) 4 = 558161692 := by omega
          have := h2.1 (h1.1 h3)
          omega
        · intro h
          have h3 : t = 0 := by omega
          have := h1.2 (h2.2 h3)
          omega
      clear hj4
      go_wp2_with fail
      refine (of1_x w8 _ _ _ Y S8.out (by omega) (HT.out.later HR.out.2.2.2.2)).mono ?_
      rintro e w9 ⟨rfl, hb⟩
      have B9 : Hid (Below w.heap.size w w9) := below_then HR.out.2.2.2.2 hb
      clear hb
      have hq : (((crc Y : Nat) : Int) == 558161692) = ((t : Int) == 0) := by
        rw [Bool.eq_iff_iff, beq_iff_eq, beq_iff_eq]
        exact HE.out
      go_wp2_with fail
      go_ret
      exact ⟨by simp, B9.out⟩
end Go.Proofs.YtaencchobpgogaaDoor
