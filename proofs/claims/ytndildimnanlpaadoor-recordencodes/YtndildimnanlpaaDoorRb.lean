/-
  Layer 6: the document's put, number.
-/
import Derived.Test.YtndildimnanlpaaDoorLc
namespace Go.Proofs.YtndildimnanlpaaDoor
open Go.RowKit

/-- what is written so far, and the zeros behind it -/
def lay (P D : List Int) (m j : Nat) : List Int := (P ++ D.take j) ++ zs (m - j)
theorem lay_zero (P D : List Int) (m : Nat) : lay P D m 0 = P ++ zs m := by simp [lay]
theorem lay_all (P D : List Int) (m j : Nat) (h : D.length = j) : lay P D m j = (P ++ D) ++ zs (m - j) := by
  unfold lay; rw [List.take_of_length_le (by omega)]
theorem lay_len (P D : List Int) (m j : Nat) (hj : j ≤ D.length) (hm : D.length ≤ m) : (lay P D m j).length = P.length + m := by
  simp [lay, zs]; omega
theorem lay_step (P D : List Int) (m j at0 : Nat) (hp : P.length = at0) (hj : j < D.length) (hm : D.length ≤ m) : (lay P D m j).set (at0 + j) D[j] = lay P D m (j + 1) := by
  unfold lay
  rw [List.take_succ_eq_append_getElem hj, List.set_append_right _ _ (by simp; omega)]
  have e : m - j = (m - (j + 1)) + 1 := by omega
  rw [e]
  unfold zs
  rw [List.replicate_succ]
  have e2 : at0 + j - (P ++ D.take j).length = 0 := by simp; omega
  rw [e2, List.set_cons_zero]
  simp only [List.append_assoc, List.cons_append, List.nil_append]
theorem dig_at (k : Nat) (n : Int) (j : Nat) (h : j < (digits k n).length) : (n / 256 ^ j) % 256 = (digits k n)[j] := (digits_get k n j h).symm

set_option maxHeartbeats 1000000 in
theorem refPut_any (B g cap at0 size m : Nat) (P : List Int) (n : Int) (w0 w : World) (ho : w.ownsRow B 5 1 (.slice (some ⟨g, 0, none⟩) 64 cap) 64 (U8 (P ++ zs m))) (hb : Below B w0 w) (hp : P.length = at0) (hm : at0 + m = 64) (hs : size ≤ m) (hs8 : size ≤ 8) (h0 : 0 ≤ n) (h1 : n ≤ 18446744073709551615) :
    Calls Tryd.prog 30 #[.slice (some ⟨g, 0, none⟩) 64 cap, .int .i64 at0, .int .u64 n, .int .i64 size] w fun e w' => e = .returned (.tuple #[]) ∧ w'.ownsRow B 5 1 (.slice (some ⟨g, 0, none⟩) 64 cap) 64 (U8 ((P ++ digits size n) ++ zs (m - size))) ∧ Below B w0 w' := by
  have HD : Hid ((digits size n).length = size) := digits_length size n
  have HP : Hid (P.length = at0) := hp
  have HO : Hid (w.ownsRow B 5 1 (.slice (some ⟨g, 0, none⟩) 64 cap) 64 (U8 (lay P (digits size n) m 0))) := by rw [lay_zero]; exact ho
  have HB : Hid (Below B w0 w) := hb
  clear ho hb hp
  go_enter Tryd.func30, Tryd.ntmps30
  go_wp2
  go_loopw [2, 8] (fun v i wr => ∃ j : Nat, j ≤ size ∧ i = .int .i64 j ∧ v = .int .u64 (n / 256 ^ j) ∧ Hid (wr.ownsRow B 5 1 (.slice (some ⟨g, 0, none⟩) 64 cap) 64 (U8 (lay P (digits size n) m j)) ∧ Below B w0 wr)) (fun _ i _ => size - (intOf i).toNat)
  case atStart => exact ⟨0, Nat.zero_le _, rfl, by simp, HO.out, HB.out⟩
  case round =>
    obtain ⟨j, hj, rfl, rfl, HR⟩ := hrel
    clear HO HB
    have hnj0 : 0 ≤ n / 256 ^ j := Int.ediv_nonneg h0 (Int.le_of_lt (pow_pos j))
    have hnj1 : n / 256 ^ j ≤ n := Int.ediv_le_self _ h0
    by_cases hlt : j < size
    · have hdl : j < (digits size n).length := by rw [HD.out]; exact hlt
      have HV : Hid ((n / 256 ^ j) % 256 = (digits size n)[j]) := dig_at size n j hdl
      have hst := HR.out.1.stored (at0 + j) (.int .u8 ((digits size n)[j]))
      have hset : (U8 (lay P (digits size n) m j)).set (at0 + j) (.int .u8 ((digits size n)[j])) = U8 (lay P (digits size n) m (j + 1)) := by
        rw [← lay_step P _ m j at0 HP.out hdl (by rw [HD.out]; exact hs)]
        simp [U8, List.map_set]
      rw [hset] at hst
      have hcell := HR.out.1.cellAt (at0 + j) (by omega)
      have hlen : (U8 (lay P (digits size n) m j)).length = 64 := by rw [List.length_map, lay_len _ _ _ _ (by have := HD.out; omega) (by have := HD.out; omega), HP.out]; omega
      obtain ⟨u, hu⟩ : ∃ u, w.cell? ⟨g, at0 + j, none⟩ = w.cell? ⟨g, at0 + j, none⟩ ∧ wr.cell? ⟨g, at0 + j, none⟩ = some u := ⟨_, rfl, by rw [hcell]; exact List.getElem?_eq_getElem (by omega)⟩
      have hu2 := hu.2
      have hfz := HR.out.1.frozenAt (at0 + j)
      have HN : Hid (n / 256 ^ (j + 1) = n / 256 ^ j / 256) := by
        show _ = _
        rw [Int.pow_succ, Int.ediv_ediv_of_nonneg (Int.le_of_lt (pow_pos j))]
      have HQ : Hid ((wr.setCell ⟨g, at0 + j, none⟩ (.int .u8 ((digits size n)[j]))).ownsRow B 5 1 (.slice (some ⟨g, 0, none⟩) 64 cap) 64 (U8 (lay P (digits size n) m (j + 1))) ∧ Below B w0 (wr.setCell ⟨g, at0 + j, none⟩ (.int .u8 ((digits size n)[j])))) :=
        ⟨hst.1, HR.out.2.setCell (HR.out.1.lt g rfl).1 _⟩
      clear hst hset hcell hlen HR hu
      rw [← HV.out] at HQ
      generalize n / 256 ^ j = N at *
      have i1 : (at0 : Int) + (j : Int) < 64 := by omega
      have i0 : (0 : Int) ≤ (at0 : Int) + (j : Int) := by omega
      have t1 : N.tmod 256 = N % 256 := Int.tmod_eq_emod_of_nonneg hnj0
      have t2 : N.tdiv 256 = N / 256 := Int.tdiv_eq_ediv_of_nonneg hnj0
      go_wp2
      go_roundw
      case rel => exact ⟨j + 1, by omega, by go_num, by rw [HN.out], HQ.out⟩
      case measure => simp [intOf]; omega
    · obtain rfl : j = size := by omega
      have HE : Hid (wr.ownsRow B 5 1 (.slice (some ⟨g, 0, none⟩) 64 cap) 64 (U8 ((P ++ digits j n) ++ zs (m - j))) ∧ Below B w0 wr) := ⟨by have := HR.out.1; rw [lay_all _ _ _ _ HD.out] at this; exact this, HR.out.2⟩
      clear HR
      go_wp2
      go_end0
      exact ⟨rfl, HE.out⟩

theorem worth_drop (D : List Int) (k : Nat) (h : k < D.length) : worth (D.drop k) = D[k] + 256 * worth (D.drop (k + 1)) := by
  rw [List.drop_eq_getElem_cons h]; rfl
theorem worth_bd' (D : List Int) (hD : Bytes D) (j : Nat) (h : D.length = j) (hj : j ≤ 7) : 0 ≤ worth D ∧ worth D < 72057594037927936 := by
  have := worth_bd D hD
  rw [h] at this
  have e : (256 : Int) ^ j ≤ 72057594037927936 := (show ∀ j : Nat, j ≤ 7 → (256 : Int) ^ j ≤ 72057594037927936 by decide) j hj
  omega

set_option maxHeartbeats 1000000 in
theorem refNumber_any (p : Option Addr) (c at0 size : Nat) (xs : List Int) (w : World) (hx : BIn w p 64 xs) (hs : at0 + size ≤ 64) (hs8 : size ≤ 8) :
    Calls Tryd.prog 32 #[.slice p 64 c, .int .i64 at0, .int .i64 size] w fun e w' => e = .returned (.int .u64 (worth ((xs.drop at0).take size))) ∧ w = w' := by
  obtain ⟨b, o, rfl, hcs⟩ := hx.cells (by omega)
  have HL : Hid (xs.length = 64) := hx.len
  have HC : Hid (∀ i, i < 64 → w.cell? ⟨b, o + i, none⟩ = some (.int .u8 (xs.getD i 0))) := hcs
  obtain ⟨D, hD⟩ : ∃ D, D = (xs.drop at0).take size := ⟨_, rfl⟩
  have HDL : Hid (D.length = size) := by rw [hD]; show _ = _; simp [hx.len]; omega
  have HDB : Hid (Bytes D) := by rw [hD]; exact (hx.byte.drop at0).take size
  have HDG : Hid (∀ k (h : k < D.length), xs.getD (at0 + k) 0 = D[k]) := by
    intro k h
    have hk : k < size := by rw [HDL.out] at h; exact h
    have e : D[k]? = xs[at0 + k]? := by rw [hD, List.getElem?_take, if_pos hk, List.getElem?_drop]
    rw [List.getElem?_eq_getElem h] at e
    rw [List.getD, ← e]
    rfl
  rw [← hD]
  clear hD hx hcs
  go_enter Tryd.func32, Tryd.ntmps32
  go_wp2
  go_loop [7, 8] (fun v i => ∃ j : Nat, j ≤ size ∧ i = .int .i64 ((size : Int) - 1 - j) ∧ v = .int .u64 (worth (D.drop (size - j)))) (fun _ i => ((intOf i) + 1).toNat)
  case atStart => exact ⟨0, Nat.zero_le _, by simp, by rw [Nat.sub_zero, List.drop_of_length_le (by rw [HDL.out]; omega)]; rfl⟩
  case round =>
    obtain ⟨j, hj, rfl, rfl⟩ := hrel
    by_cases hlt : j < size
    · have hk : size - 1 - j < D.length := by rw [HDL.out]; omega
      have hc := HC.out (at0 + (size - 1 - j)) (by omega)
      rw [HDG.out _ hk] at hc
      have hb := HDB.out.at _ hk
      have hw := worth_bd' (D.drop (size - j)) (HDB.out.drop _) j (by rw [List.length_drop, HDL.out]; omega) (by omega)
      have HS : Hid (worth (D.drop (size - (j + 1))) = D[size - 1 - j] + 256 * worth (D.drop (size - j))) := by
        have := worth_drop D (size - 1 - j) hk
        rw [show size - 1 - j + 1 = size - j by omega] at this
        rw [show size - (j + 1) = size - 1 - j by omega]
        exact this
      generalize D[size - 1 - j] = x at *
      generalize worth (D.drop (size - j)) = M at *
      obtain ⟨hw0, hw1⟩ := hw
      obtain ⟨hb0, hb1⟩ := hb
      obtain ⟨K, hK⟩ : ∃ K, K = size - 1 - j := ⟨_, rfl⟩
      have hKi : (size : Int) - 1 - (j : Int) = (K : Int) := by omega
      rw [← hK] at hc
      have HKI : Hid (K + 1 + j = size) := by show _ = _; omega
      rw [hKi]
      clear hK hKi hk
      have i1 : (at0 : Int) + (K : Int) < 64 := by have := HKI.out; omega
      have i0 : (0 : Int) ≤ (at0 : Int) + (K : Int) := by omega
      go_wp2
      go_round
      case rel =>
        refine ⟨j + 1, by omega, ?_, by rw [HS.out, Int.add_comm]⟩
        have := HKI.out
        go_num
      case measure => simp [intOf]
    · obtain rfl : j = size := by omega
      have hi : (j : Int) - 1 - (j : Int) = -1 := by omega
      rw [hi]
      rw [Nat.sub_self, List.drop_zero]
      clear hi
      go_wp2
      go_ret
      exact ⟨rfl, rfl⟩
end Go.Proofs.YtndildimnanlpaaDoor
