/-
  Layer 6: the document's put, number.
-/
import Derived.Test.YtmcpjokbkkfgfaaGreatDoorT11
import Derived.Test.YtmcpjokbkkfgfaaGreatDoorT04
import Derived.Test.YtmcpjokbkkfgfaaGreatDoorT05
import Derived.Test.YtmcpjokbkkfgfaaGreatDoorT20
namespace Go.Proofs.YtmcpjokbkkfgfaaGreatDoor.R
open Go.RowKit
/-- what is written so far, and the zeros behind it -/
def lay (P D : List Int) (m j : Nat) : List Int := (P ++ D.take j) ++ zs (m - j)
theorem lay_zero (P D : List Int) (m : Nat) : lay P D m 0 = P ++ zs m := by simp [lay]
theorem lay_all (P D : List Int) (m j : Nat) (h : D.length = j) : lay P D m j = (P ++ D) ++ zs (m - j) := by
  unfold lay; rw [List.take_of_length_le (by omega)]
theorem lay_len (P D : List Int) (m j : Nat) (hj : j ≤ D.length) (hm : D.length ≤ m) : (lay P D m j).length = P.length + m := by
  simp [lay, zs]; omega
theorem lay_step (P D : List Int) (m j at0 : Nat) (hp : P.length = at0) (hj : j < D.length) (hm : D.length ≤ m) : (lay P D m j).set (at0 + j) D[j] = lay P D m (j + 1) := by
  unfold lay
  rw [List.take_succ_eq_append_getElem hj, List.set_append_right _ _ (by simp; omega)]
  have e : m - j = (m - (j + 1)) + 1 := by omega
  rw [e]
  unfold zs
  rw [List.replicate_succ]
  have e2 : at0 + j - (P ++ D.take j).length = 0 := by simp; omega
  rw [e2, List.set_cons_zero]
  simp only [List.append_assoc, List.cons_append, List.nil_append]
theorem dig_at (k : Nat) (n : Int) (j : Nat) (h : j < (digits k n).length) : (n / 256 ^ j) % 256 = (digits k n)[j] := (digits_get k n j h).symm
set_option maxHeartbeats 1000000 in
set_option maxRecDepth 100000 in
theorem refPut_any (B g cap at0 size m : Nat) (P : List Int) (n : Int) (w0 w : World) (ho : w.ownsRow B 5 1 (.slice (some ⟨g, 0, none⟩) 64 cap) 64 (U8 (P ++ zs m))) (hb : Below B w0 w) (hp : P.length = at0) (hm : at0 + m = 64) (hs : size ≤ m) (hs8 : size ≤ 8) (h0 : 0 ≤ n) (h1 : n ≤ 18446744073709551615) :
    Calls Tryz.prog 102 #[.slice (some ⟨g, 0, none⟩) 64 cap, .int .i64 at0, .int .u64 n, .int .i64 size] w fun e w' => e = .returned (.tuple #[]) ∧ w'.ownsRow B 5 1 (.slice (some ⟨g, 0, none⟩) 64 cap) 64 (U8 ((P ++ digits size n) ++ zs (m - size))) ∧ Below B w0 w' := by
  have HD : Hid ((digits size n).length = size) := digits_length size n
  have HP : Hid (P.length = at0) := hp
  have HO : Hid (w.ownsRow B 5 1 (.slice (some ⟨g, 0, none⟩) 64 cap) 64 (U8 (lay P (digits size n) m 0))) := by rw [lay_zero]; exact ho
  have HB : Hid (Below B w0 w) := hb
  clear ho hb hp
  go_enter Tryz.func102, Tryz.ntmps102
  go_wp2
  go_loopw [2, 8] (fun v i wr => ∃ j : Nat, j ≤ size ∧ i = .int .i64 j ∧ v = .int .u64 (n / 256 ^ j) ∧ Hid (wr.ownsRow B 5 1 (.slice (some ⟨g, 0, none⟩) 64 cap) 64 (U8 (lay P (digits size n) m j)) ∧ Below B w0 wr)) (fun _ i _ => size - (intOf i).toNat)
  case atStart => exact ⟨0, Nat.zero_le _, rfl, by simp, HO.out, HB.out⟩
  case round =>
    obtain ⟨j, hj, rfl, rfl, HR⟩ := hrel
    clear HO HB
    have hnj0 : 0 ≤ n / 256 ^ j := Int.ediv_nonneg h0 (Int.le_of_lt (pow_pos j))
    have hnj1 : n / 256 ^ j ≤ n := Int.ediv_le_self _ h0
    by_cases hlt : j < size
    · have hdl : j < (digits size n).length := by rw [HD.out]; exact hlt
      have HV : Hid ((n / 256 ^ j) % 256 = (digits size n)[j]) := dig_at size n j hdl
      have hst := HR.out.1.stored (at0 + j) (.int .u8 ((digits size n)[j]))
      have hset : (U8 (lay P (digits size n) m j)).set (at0 + j) (.int .u8 ((digits size n)[j])) = U8 (lay P (digits size n) m (j + 1)) := by
        rw [← lay_step P _ m j at0 HP.out hdl (by rw [HD.out]; exact hs)]
        simp [U8, List.map_set]
      rw [hset] at hst
      have hcell := HR.out.1.cellAt (at0 + j) (by omega)
      have hlen : (U8 (lay P (digits size n) m j)).length = 64 := by rw [List.length_map, lay_len _ _ _ _ (by have := HD.out; omega) (by have := HD.out; omega), HP.out]; omega
      obtain ⟨u, hu⟩ : ∃ u, w.cell? ⟨g, at0 + j, none⟩ = w.cell? ⟨g, at0 + j, none⟩ ∧ wr.cell? ⟨g, at0 + j, none⟩ = some u := ⟨_, rfl, by rw [hcell]; exact List.getElem?_eq_getElem (by omega)⟩
      have hu2 := hu.2
      have hfz := HR.out.1.frozenAt (at0 + j)
      have HN : Hid (n / 256 ^ (j + 1) = n / 256 ^ j / 256) := by
        show _ = _
        rw [Int.pow_succ, Int.ediv_ediv_of_nonneg (Int.le_of_lt (pow_pos j))]
      have HQ : Hid ((wr.setCell ⟨g, at0 + j, none⟩ (.int .u8 ((digits size n)[j]))).ownsRow B 5 1 (.slice (some ⟨g, 0, none⟩) 64 cap) 64 (U8 (lay P (digits size n) m (j + 1))) ∧ Below B w0 (wr.setCell ⟨g, at0 + j, none⟩ (.int .u8 ((digits size n)[j])))) :=
        ⟨hst.1, HR.out.2.setCell (HR.out.1.lt g rfl).1 _⟩
      clear hst hset hcell hlen HR hu
      rw [← HV.out] at HQ
      generalize n / 256 ^ j = N at *
      have i1 : (at0 : Int) + (j : Int) < 64 := by omega
      have i0 : (0 : Int) ≤ (at0 : Int) + (j : Int) := by omega
      have t1 : N.tmod 256 = N % 256 := Int.tmod_eq_emod_of_nonneg hnj0
      have t2 : N.tdiv 256 = N / 256 := Int.tdiv_eq_ediv_of_nonneg hnj0
      go_wp2
      go_roundw
      case rel => exact ⟨j + 1, by omega, by go_num, by rw [HN.out], HQ.out⟩
      case measure => simp [intOf]; omega
    · obtain rfl : j = size := by omega
      have HE : Hid (wr.ownsRow B 5 1 (.slice (some ⟨g, 0, none⟩) 64 cap) 64 (U8 ((P ++ digits j n) ++ zs (m - j))) ∧ Below B w0 wr) := ⟨by have := HR.out.1; rw [lay_all _ _ _ _ HD.out] at this; exact this, HR.out.2⟩
      clear HR
      go_wp2
      go_end0
      exact ⟨rfl, HE.out⟩
theorem worth_drop (D : List Int) (k : Nat) (h : k < D.length) : worth (D.drop k) = D[k] + 256 * worth (D.drop (k + 1)) := by
  rw [List.drop_eq_getElem_cons h]; rfl
theorem worth_bd' (D : List Int) (hD : Bytes D) (j : Nat) (h : D.length = j) (hj : j ≤ 7) : 0 ≤ worth D ∧ worth D < 72057594037927936 := by
  have := worth_bd D hD
  rw [h] at this
  have e : (256 : Int) ^ j ≤ 72057594037927936 := (show ∀ j : Nat, j ≤ 7 → (256 : Int) ^ j ≤ 72057594037927936 by decide) j hj
  omega
set_option maxHeartbeats 1000000 in
set_option maxRecDepth 100000 in
theorem refNumber_any (p : Option Addr) (c at0 size : Nat) (xs : List Int) (w : World) (hx : BIn w p 64 xs) (hs : at0 + size ≤ 64) (hs8 : size ≤ 8) :
    Calls Tryz.prog 87 #[.slice p 64 c, .int .i64 at0, .int .i64 size] w fun e w' => e = .returned (.int .u64 (worth ((xs.drop at0).take size))) ∧ w = w' := by
  obtain ⟨b, o, rfl, hcs⟩ := hx.cells (by omega)
  have HL : Hid (xs.length = 64) := hx.len
  have HC : Hid (∀ i, i < 64 → w.cell? ⟨b, o + i, none⟩ = some (.int .u8 (xs.getD i 0))) := hcs
  obtain ⟨D, hD⟩ : ∃ D, D = (xs.drop at0).take size := ⟨_, rfl⟩
  have HDL : Hid (D.length = size) := by rw [hD]; show _ = _; simp [hx.len]; omega
  have HDB : Hid (Bytes D) := by rw [hD]; exact (hx.byte.drop at0).take size
  have HDG : Hid (∀ k (h : k < D.length), xs.getD (at0 + k) 0 = D[k]) := by
    intro k h
    have hk : k < size := by rw [HDL.out] at h; exact h
    have e : D[k]? = xs[at0 + k]? := by rw [hD, List.getElem?_take, if_pos hk, List.getElem?_drop]
    rw [List.getElem?_eq_getElem h] at e
    rw [List.getD, ← e]
    rfl
  rw [← hD]
  clear hD hx hcs
  go_enter Tryz.func87, Tryz.ntmps87
  go_wp2
  go_loop [7, 8] (fun v i => ∃ j : Nat, j ≤ size ∧ i = .int .i64 ((size : Int) - 1 - j) ∧ v = .int .u64 (worth (D.drop (size - j)))) (fun _ i => ((intOf i) + 1).toNat)
  case atStart => exact ⟨0, Nat.zero_le _, by simp, by rw [Nat.sub_zero, List.drop_of_length_le (by rw [HDL.out]; omega)]; rfl⟩
  case round =>
    obtain ⟨j, hj, rfl, rfl⟩ := hrel
    by_cases hlt : j < size
    · have hk : size - 1 - j < D.length := by rw [HDL.out]; omega
      have hc := HC.out (at0 + (size - 1 - j)) (by omega)
      rw [HDG.out _ hk] at hc
      have hb := HDB.out.at _ hk
      have hw := worth_bd' (D.drop (size - j)) (HDB.out.drop _) j (by rw [List.length_drop, HDL.out]; omega) (by omega)
      have HS : Hid (worth (D.drop (size - (j + 1))) = D[size - 1 - j] + 256 * worth (D.drop (size - j))) := by
        have := worth_drop D (size - 1 - j) hk
        rw [show size - 1 - j + 1 = size - j by omega] at this
        rw [show size - (j + 1) = size - 1 - j by omega]
        exact this
      generalize D[size - 1 - j] = x at *
      generalize worth (D.drop (size - j)) = M at *
      obtain ⟨hw0, hw1⟩ := hw
      obtain ⟨hb0, hb1⟩ := hb
      obtain ⟨K, hK⟩ : ∃ K, K = size - 1 - j := ⟨_, rfl⟩
      have hKi : (size : Int) - 1 - (j : Int) = (K : Int) := by omega
      rw [← hK] at hc
      have HKI : Hid (K + 1 + j = size) := by show _ = _; omega
      rw [hKi]
      clear hK hKi hk
      have i1 : (at0 : Int) + (K : Int) < 64 := by have := HKI.out; omega
      have i0 : (0 : Int) ≤ (at0 : Int) + (K : Int) := by omega
      go_wp2
      go_round
      case rel =>
        refine ⟨j + 1, by omega, ?_, by rw [HS.out, Int.add_comm]⟩
        have := HKI.out
        go_num
      case measure => simp [intOf]
    · obtain rfl : j = size := by omega
      have hi : (j : Int) - 1 - (j : Int) = -1 := by omega
      rw [hi]
      rw [Nat.sub_self, List.drop_zero]
      clear hi
      go_wp2
      go_ret
      exact ⟨rfl, rfl⟩
end Go.Proofs.YtmcpjokbkkfgfaaGreatDoor.R

/-
  Contracts of the document of layer 2 that are called here: Push, Of.
-/
namespace Go.Proofs.YtmcpjokbkkfgfaaGreatDoor
open Go.RowKit
set_option maxHeartbeats 400000 in
set_option maxRecDepth 100000 in
theorem refPush_any (x : Nat) (c : Int) (hx : x < 4294967296) (hc0 : 0 ≤ c) (hc1 : c < 256) (w : World) :
    Calls Tryz.prog 110 #[.int .u32 x, .int .u8 c] w fun e w' => e = .returned (.int .u32 (hn 8 (x ^^^ c.toNat) : Nat)) ∧ w = w' := by
  obtain ⟨y, hy⟩ : ∃ y, y = x ^^^ c.toNat := ⟨_, rfl⟩
  have hyl : y < 4294967296 := by rw [hy]; exact xor_lt _ _ hx (by omega)
  have h1 : bits .xor .u32 (x : Int) c = (y : Int) := by
    rw [hy, ← u32_xor_nat x c.toNat hx (by omega)]
    congr 1
    omega
  rw [← hy]
  clear hy
  go_enter Tryz.func110, Tryz.ntmps110
  go_wp2
  go_loop [0, 5] (fun v i => ∃ k : Nat, k ≤ 8 ∧ i = .int .i64 k ∧ v = .int .u32 (hn k y : Nat)) (fun _ i => 8 - (intOf i).toNat)
  case atStart => exact ⟨0, by omega, rfl, rfl⟩
  case round =>
    obtain ⟨k, hk, rfl, rfl⟩ := hrel
    by_cases hlt : k < 8
    · have hl := hn_lt k y hyl
      have HN : Hid (hn (k + 1) y = hv (hn k y)) := hn_next k y
      obtain ⟨z, hz⟩ : ∃ z, z = hn k y := ⟨_, rfl⟩
      rw [← hz] at HN hl ⊢
      clear hz
      by_cases hodd : z % 2 = 1
      · have hx2 := u32_xor_nat (z / 2) 3988292384 (by omega) (by omega)
        have HV : Hid (hv z = z / 2 ^^^ 3988292384) := by show _ = _; unfold hv; rw [if_pos hodd]
        have ho' : (z : Int) % 2 = 1 := by omega
        have hx3 : bits .xor .u32 ((z : Int) / 2) 3988292384 = ((z / 2 ^^^ 3988292384 : Nat) : Int) := hx2
        clear hx2
        go_wp2
        go_round
        case rel => exact ⟨k + 1, by omega, by go_num, by rw [HN.out, HV.out]⟩
        case measure => simp [intOf]; omega
      · have HV : Hid (hv z = z / 2) := by show _ = _; unfold hv; rw [if_neg hodd, Nat.xor_zero]
        have ho' : ¬ (z : Int) % 2 = 1 := by omega
        go_wp2
        go_round
        case rel => exact ⟨k + 1, by omega, by go_num, by rw [HN.out, HV.out]; rfl⟩
        case measure => simp [intOf]; omega
    · obtain rfl : k = 8 := by omega
      go_wp2
      go_ret
      exact ⟨rfl, rfl⟩
set_option maxHeartbeats 1000000 in
set_option maxRecDepth 100000 in
theorem refOf_pos (b o n c : Nat) (xs : List Int) (w : World) (h : BIn w (some ⟨b, o, none⟩) n xs) (h0 : 0 < n) (hbig : n ≤ 140737488355328) :
    Calls Tryz.prog 103 #[.slice (some ⟨b, o, none⟩) n c] w fun e w' => e = .returned (.int .u32 (crc xs : Nat)) ∧ w = w' := by
  obtain ⟨b', o', e, hcs⟩ := h.cells h0
  simp only [Option.some.injEq, Addr.mk.injEq, and_true] at e
  obtain ⟨rfl, rfl⟩ := e
  have HC : Hid (∀ i, i < n → w.cell? ⟨b, o + i, none⟩ = some (.int .u8 (xs.getD i 0))) := hcs
  have HX : Hid (xs.length = n) := h.len
  have HK : Hid (Bytes xs) := h.byte
  clear hcs h
  go_enter Tryz.func103, Tryz.ntmps103
  go_wp2
  go_loop [3, 4] (fun x i => ∃ j : Nat, j ≤ n ∧ i = .int .i64 j ∧ x = .int .u32 (st 4294967295 (xs.take j) : Nat)) (fun _ i => n - (intOf i).toNat)
  case atStart => exact ⟨0, Nat.zero_le _, rfl, rfl⟩
  case round =>
    obtain ⟨j, hj, rfl, rfl⟩ := hrel
    have hlj := st_lt 4294967295 (xs.take j) (by omega) (HK.out.take j)
    by_cases hjl : j < n
    · have hcj := HC.out j hjl
      have hjx : j < xs.length := by rw [HX.out]; exact hjl
      have hb := HK.out.at j hjx
      have HJ : Hid (st 4294967295 (xs.take (j + 1)) = hn 8 (st 4294967295 (xs.take j) ^^^ xs[j].toNat)) := st_step _ xs j hjx
      rw [show xs.getD j 0 = xs[j] by simp [List.getD, List.getElem?_eq_getElem hjx]] at hcj
      obtain ⟨z, hz⟩ : ∃ z, z = st 4294967295 (xs.take j) := ⟨_, rfl⟩
      rw [← hz] at hlj HJ ⊢
      obtain ⟨q, hq⟩ : ∃ q, q = xs[j] := ⟨_, rfl⟩
      rw [← hq] at hb HJ hcj
      obtain ⟨hb0, hb1⟩ := hb
      clear hz hq
      go_wp2_with (go_at_call 110; refine (refPush_any z q hlj hb0 hb1 _).mono ?_; rintro e w' ⟨rfl, rfl⟩)
      go_round
      case rel => exact ⟨j + 1, by omega, by go_num, by rw [HJ.out]⟩
      case measure => simp [intOf]; omega
    · have HA : Hid (xs.take j = xs) := List.take_of_length_le (by rw [HX.out]; omega)
      have hxo := u32_xor_nat _ 4294967295 hlj (by omega)
      have HO : Hid (bits .xor .u32 ((st 4294967295 (xs.take j) : Nat) : Int) 4294967295 = ((crc xs : Nat) : Int)) := by
        show _ = _
        rw [crc, ← HA.out]
        simpa [HA.out] using hxo
      clear hxo
      go_wp2
      go_ret
      refine ⟨?_, rfl⟩
      rw [← HO.out]
      rfl
set_option maxHeartbeats 400000 in
set_option maxRecDepth 100000 in
theorem refOf_zero (p : Option Addr) (c : Nat) (w : World) :
    Calls Tryz.prog 103 #[.slice p 0 c] w fun e w' => e = .returned (.int .u32 0) ∧ w = w' := by
  go_enter Tryz.func103, Tryz.ntmps103
  go_wp2
  refine wp_loop_rounds 1 ?_
  rw [rounds_succ]
  go_wp2
  go_ret
  exact ⟨rfl, rfl⟩
theorem refOf_any (p : Option Addr) (n c : Nat) (xs : List Int) (w : World) (h : BIn w p n xs) (hbig : n ≤ 140737488355328) :
    Calls Tryz.prog 103 #[.slice p n c] w fun e w' => e = .returned (.int .u32 (crc xs : Nat)) ∧ w = w' := by
  by_cases h0 : 0 < n
  · obtain ⟨b, o, rfl, hc⟩ := h.cells h0
    exact refOf_pos b o n c xs w h h0 hbig
  · obtain rfl : n = 0 := by omega
    obtain rfl : xs = [] := List.eq_nil_of_length_eq_zero h.len
    refine (refOf_zero p c w).mono ?_
    rintro e w' ⟨rfl, hw⟩
    exact ⟨rfl, hw⟩
end Go.Proofs.YtmcpjokbkkfgfaaGreatDoor

/-
  Layer 6: the document's Encode.
-/
namespace Go.Proofs.YtmcpjokbkkfgfaaGreatDoor.R
open Go.RowKit
theorem made_zeros (k : Nat) : (madeCells #[Value.int .u8 0] k).toList = U8 (zs k) := by
  rw [toList_madeCells_one]
  simp [U8, zs]
theorem num_sum (r : Rec) (h : may r = true) : r.block + r.images = numS r := by
  rw [may_iff] at h
  unfold numS
  rcases h.2 with h2 | h2
  · obtain ⟨a, b, c, d⟩ := h2
    rw [if_pos a]; omega
  · obtain ⟨a, b, c, d, e⟩ := h2
    rw [if_neg (by omega)]; omega
theorem head_split (r : Rec) : [87, r.kind, 0, 0] ++ digits 8 r.pos ++ digits 4 (numS r) ++ r.val = head r := by simp [head]
theorem zs_split (a b : Nat) : zs (a + b) = zs a ++ zs b := by unfold zs; rw [List.replicate_append_replicate]
theorem set_two (k : Int) : ((zs 64).set 0 87).set 1 k = [87, k, 0, 0] ++ zs 60 := rfl
set_option maxHeartbeats 400000 in
set_option maxRecDepth 100000 in
theorem refEncode_bad (r : Rec) (hv : r.val.length = 32) (hm : ¬ may r = true) (w : World) :
    Calls Tryz.prog 88 #[.agg (rcells r).toArray] w fun e w' => e = .returned (.tuple #[.slice none 0 0, .int .i64 60]) ∧ Below w.heap.size w w' := by
  have L1 : Hid (_) := (RAt.new 87 w r).load37 hv
  have hc := chk_no r hm
  go_enter Tryz.func88, Tryz.ntmps88
  go_wp2_with ((with_reducible refine at_seq ?_); (refine wpList_load_is (by rfl) 87 rfl rfl L1.out ?_); simp only [Act.put, List.setIfInBounds_toArray, List.set_cons_zero, List.set_cons_succ])
  refine (refCheck_any r hv _).mono ?_
  rintro e w1 ⟨rfl, b1⟩
  rw [hc]
  have HB : Hid (Below w.heap.size w w1) := below_of_alloc b1
  clear b1 L1 hm hc
  go_wp2_with fail
  go_ret2
  exact ⟨rfl, HB.out⟩
set_option maxHeartbeats 4000000 in
set_option maxRecDepth 100000 in
theorem refEncode_good (r : Rec) (hw : r.Wf) (hm : may r = true) (w : World) :
    Calls Tryz.prog 88 #[.agg (rcells r).toArray] w fun e w' => ∃ p c, e = .returned (.tuple #[.slice p 64 c, .int .i64 0]) ∧ Made w w' p 64 c (encS r) := by
  obtain ⟨i0, hi, hz0, hz1, hz2⟩ := info_parts info5
  have L1 : Hid (_) := (RAt.new 87 w r).load37 hw.len
  have HW : Hid (r.Wf) := hw
  have HM : Hid (may r = true) := hm
  have hc := chk_yes r hm
  have HS : Hid (r.block + r.images = numS r) := num_sum r hm
  have HN : Hid (0 ≤ numS r ∧ numS r < 64) := numS_bd r hm
  have HK : Hid (0 ≤ r.kind ∧ r.kind < 256) := by have := may_kind hm; exact ⟨by omega, by omega⟩
  go_enter Tryz.func88, Tryz.ntmps88
  go_wp2_with ((with_reducible refine at_seq ?_); (refine wpList_load_is (by rfl) 87 rfl rfl L1.out ?_); simp only [Act.put, List.setIfInBounds_toArray, List.set_cons_zero, List.set_cons_succ])
  refine (refCheck_any r hw.len _).mono ?_
  rintro e w1 ⟨rfl, b1⟩
  rw [hc]
  have B1 : Hid (Below w.heap.size w w1) := below_of_alloc b1
  have R1 : Hid (RAt 87 w1 w.heap.size r) := (RAt.new 87 w r).later b1
  clear b1 L1 hm hc hw
  go_wp2_with (at_make; refine wpList_make_full _ rfl _ _ 51 rfl w1.heap.size 5 i0 (.int .u8 0) 1 Tryz.underlying51 hi hz0 hz1 .i64 .i64 _ _ 64 rfl rfl rfl rfl (by rw [hz2]; omega) (by unfold maxLen; omega) (Nat.le_refl _) ?_)
  intro w2 hown hgrow
  rw [made_zeros 64] at hown
  have b2 : Below w1.heap.size w1 w2 := (Below.refl w1.heap.size w1).grown hgrow (Nat.le_refl _) (by intro k hk; cases hk)
  have R2 : RAt 87 w2 w.heap.size r := R1.out.later b2
  have gne : w.heap.size < w1.heap.size := R1.out.lt
  have GNE : Hid (w.heap.size < w1.heap.size) := gne
  -- the first two bytes
  have s0 := hown.stored 0 (.int .u8 87)
  have f0 := hown.frozenAt 0
  have c0 := hown.cellAt 0 (by omega)
  obtain ⟨u0, hu0⟩ : ∃ u, w2.cell? ⟨w1.heap.size, 0, none⟩ = some u := ⟨_, by rw [c0]; exact List.getElem?_eq_getElem (by simp [zs])⟩
  obtain ⟨w3, hw3⟩ : ∃ w3, w3 = w2.setCell ⟨w1.heap.size, 0, none⟩ (.int .u8 87) := ⟨_, rfl⟩
  have o3 : w3.ownsRow w1.heap.size 5 1 (.slice (some ⟨w1.heap.size, 0, none⟩) 64 64) 64 ((U8 (zs 64)).set 0 (.int .u8 87)) := by rw [hw3]; exact s0.1
  have R3 : RAt 87 w3 w.heap.size r := by rw [hw3]; exact (heap_setCell_other w2 ⟨w1.heap.size, 0, none⟩ w.heap.size _ (by simp; omega)).trans R2
  have b3 : Below w1.heap.size w1 w3 := by rw [hw3]; exact b2.setCell (Nat.le_refl _) _
  have s1 := o3.stored 1 (.int .u8 r.kind)
  have f1 := o3.frozenAt 1
  have c1 := o3.cellAt 1 (by omega)
  obtain ⟨u1, hu1⟩ : ∃ u, w3.cell? ⟨w1.heap.size, 1, none⟩ = some u := ⟨_, by rw [c1]; exact List.getElem?_eq_getElem (by simp [zs])⟩
  obtain ⟨w4, hw4⟩ : ∃ w4, w4 = w3.setCell ⟨w1.heap.size, 1, none⟩ (.int .u8 r.kind) := ⟨_, rfl⟩
  have o4 : w4.ownsRow w1.heap.size 5 1 (.slice (some ⟨w1.heap.size, 0, none⟩) 64 64) 64 (U8 ([87, r.kind, 0, 0] ++ zs 60)) := by
    rw [hw4]
    have := s1.1
    rw [show ((U8 (zs 64)).set 0 (.int .u8 87)).set 1 (.int .u8 r.kind) = U8 ([87, r.kind, 0, 0] ++ zs 60) by rw [← set_two]; simp [U8, List.map_set]] at this
    exact this
  have R4 : RAt 87 w4 w.heap.size r := by rw [hw4]; exact (heap_setCell_other w3 ⟨w1.heap.size, 1, none⟩ w.heap.size _ (by simp; omega)).trans R3
  have b4 : Below w1.heap.size w1 w4 := by rw [hw4]; exact b3.setCell (Nat.le_refl _) _
  have k3 := R3.c0
  have k4 := R4.c1
  have O4 : Hid (_) := o4
  have B4 : Hid (_) := b4
  have RR : Hid (RAt 87 w4 w.heap.size r) := R4
  have kk0 := HK.out.1
  have kk1 := HK.out.2
  have e3 := hw3.symm
  have e4 := hw4.symm
  clear hown hgrow b2 R2 s0 c0 o3 R3 b3 s1 c1 o4 R4 b4 hw3 hw4
  go_wp2_with fail
  refine (refPut_any w1.heap.size w1.heap.size 64 4 8 60 [87, r.kind, 0, 0] r.pos w1 w4 O4.out B4.out rfl (by omega) (by omega) (by omega) HW.out.p0 HW.out.p1).mono ?_
  rintro e w5 ⟨rfl, o5, b5⟩
  clear e3 e4 f0 f1 hu0 hu1 k3 k4 kk0 kk1 O4 B4
  have O5 : Hid (_) := o5
  have B5 : Hid (Below w1.heap.size w1 w5) := b5
  have R5 : RAt 87 w5 w.heap.size r := R1.out.below b5 GNE.out
  have d2 := R5.c2
  have d4 := R5.c35 HW.out.len
  have hsum := HS.out
  have hn0 := HN.out.1
  have hn1 := HN.out.2
  clear o5 b5 R5
  have HP16 : Hid (([87, r.kind, 0, 0] ++ digits 8 r.pos).length = 12) := by show _ = _; simp [digits_length]
  obtain ⟨nn, hnn⟩ : ∃ nn, nn = numS r := ⟨_, rfl⟩
  rw [← hnn] at hsum hn0 hn1
  have HNN : Hid (nn = numS r) := hnn
  clear hnn
  go_wp2_with fail
  refine (refPut_any w1.heap.size w1.heap.size 64 12 4 52 ([87, r.kind, 0, 0] ++ digits 8 r.pos) nn w1 w5 O5.out B5.out HP16.out (by omega) (by omega) (by omega) hn0 (by omega)).mono ?_
  rintro e w6 ⟨rfl, o6, b6⟩
  rw [HNN.out] at o6
  have O6 : Hid (w6.ownsRow w1.heap.size 5 1 (.slice (some ⟨w1.heap.size, 0, none⟩) 64 64) 64 (U8 (lay ([87, r.kind, 0, 0] ++ digits 8 r.pos ++ digits 4 (numS r)) r.val 48 0))) := by rw [lay_zero]; exact o6
  have B6 : Hid (Below w1.heap.size w1 w6) := b6
  clear o6 b6 d2 d4 hsum hn0 hn1 HNN O5 B5 HP16 HS HN
  have HPL : Hid (([87, r.kind, 0, 0] ++ digits 8 r.pos ++ digits 4 (numS r)).length = 16) := by show _ = _; simp [digits_length]
  have HHS : Hid (([87, r.kind, 0, 0] ++ digits 8 r.pos ++ digits 4 (numS r)) ++ r.val = head r) := head_split r
  generalize [87, r.kind, 0, 0] ++ digits 8 r.pos ++ digits 4 (numS r) = P at *
  go_wp2_with fail
  go_loopw [6] (fun k wr => ∃ j : Nat, j ≤ 32 ∧ k = .int .i64 j ∧ Hid (wr.ownsRow w1.heap.size 5 1 (.slice (some ⟨w1.heap.size, 0, none⟩) 64 64) 64 (U8 (lay P r.val 48 j)) ∧ Below w1.heap.size w1 wr)) (fun k _ => 32 - (intOf k).toNat)
  case atStart => exact ⟨0, by omega, rfl, O6.out, B6.out⟩
  case round =>
    obtain ⟨j, hj, rfl, HR⟩ := hrel
    clear O6 B6
    by_cases hlt : j < 32
    · have hjv : j < r.val.length := by rw [HW.out.len]; exact hlt
      have Rr := R1.out.below HR.out.2 GNE.out
      have cv : wr.cell? ⟨w.heap.size, 3 + j, none⟩ = some (.int .u8 r.val[j]) := (Rr.cell (3 + j)).trans (rcells_val r j hjv)
      have hst := HR.out.1.stored (16 + j) (.int .u8 r.val[j])
      have hset : (U8 (lay P r.val 48 j)).set (16 + j) (.int .u8 r.val[j]) = U8 (lay P r.val 48 (j + 1)) := by
        rw [← lay_step P _ 48 j 16 HPL.out hjv (by rw [HW.out.len]; omega)]
        simp [U8, List.map_set]
      rw [hset] at hst
      have hcell := HR.out.1.cellAt (16 + j) (by omega)
      have hlen : (U8 (lay P r.val 48 j)).length = 64 := by rw [List.length_map, lay_len _ _ _ _ (by omega) (by rw [HW.out.len]; omega), HPL.out]
      obtain ⟨u, hu⟩ : ∃ u, wr.cell? ⟨w1.heap.size, 16 + j, none⟩ = some u := ⟨_, by rw [hcell]; exact List.getElem?_eq_getElem (by omega)⟩
      have hfz := HR.out.1.frozenAt (16 + j)
      have HQ : Hid ((wr.setCell ⟨w1.heap.size, 16 + j, none⟩ (.int .u8 r.val[j])).ownsRow w1.heap.size 5 1 (.slice (some ⟨w1.heap.size, 0, none⟩) 64 64) 64 (U8 (lay P r.val 48 (j + 1))) ∧ Below w1.heap.size w1 (wr.setCell ⟨w1.heap.size, 16 + j, none⟩ (.int .u8 r.val[j]))) := ⟨hst.1, HR.out.2.setCell (Nat.le_refl _) _⟩
      clear hst hset hcell hlen HR Rr
      generalize r.val[j] = x at *
      clear hjv
      have i1 : (16 : Int) + (j : Int) < 64 := by omega
      have i0 : (0 : Int) ≤ (16 : Int) + (j : Int) := by omega
      go_wp2_with fail
      go_roundw
      case rel => exact ⟨j + 1, by omega, by go_num, HQ.out⟩
      case measure => simp [intOf]; omega
    · obtain ⟨w7, hw7⟩ : ∃ w7, w7 = wr := ⟨_, rfl⟩
      subst hw7
      have O7 : Hid (w7.ownsRow w1.heap.size 5 1 (.slice (some ⟨w1.heap.size, 0, none⟩) 64 64) 64 (U8 (body r ++ zs 4))) := by
        have := HR.out.1
        obtain rfl : j = 32 := by omega
        rw [lay_all P r.val 48 32 HW.out.len, HHS.out, show (48 - 32 : Nat) = 12 + 4 by omega, zs_split, ← List.append_assoc] at this
        exact this
      have B7 : Hid (Below w1.heap.size w1 w7) := HR.out.2
      have HBL : Hid ((body r).length = 60) := body_len r HW.out.len
      have HBB : Hid (Bytes (body r)) := body_bytes r HW.out HM.out
      have X7 : Hid (BIn w7 (some ⟨w1.heap.size, 0, none⟩) 60 (body r)) := by
        obtain ⟨p', c', e', hx, -⟩ := own_in O7.out (HBB.out.append (zs_bytes 4))
        simp only [Value.slice.injEq] at e'
        have := hx.take 60 (by omega)
        rw [← e'.1, List.take_append_of_le_length (by rw [HBL.out]; omega), List.take_of_length_le (by rw [HBL.out]; omega)] at this
        exact this
      clear HR
      go_wp2_with fail
      refine (refOf_any _ 60 64 (body r) w7 X7.out (by omega)).mono ?_
      rintro e w8 ⟨rfl, rfl⟩
      have hcl := crc_lt (body r) HBB.out
      have HE : Hid (encS r = body r ++ digits 4 ((crc (body r) : Nat) : Int) ++ zs (4 - 4)) := by show _ = _; simp [encS, zs]
      generalize crc (body r) = S at *
      go_wp2_with fail
      refine (refPut_any w1.heap.size w1.heap.size 64 60 4 4 (body r) (S : Int) w1 w7 O7.out B7.out HBL.out (by omega) (by omega) (by omega) (by omega) (by omega)).mono ?_
      rintro e w9 ⟨rfl, o9, b9⟩
      rw [← HE.out] at o9
      obtain ⟨p9, c9, e9, m9⟩ := made_of (own_mono o9 B1.out.size) (encS_bytes r HW.out HM.out) (below_then B1.out b9)
      simp only [Value.slice.injEq, true_and] at e9
      obtain ⟨rfl, rfl⟩ := e9
      have M9 : Hid (_) := m9
      clear o9 b9 m9
      go_wp2_with fail
      go_ret2
      exact ⟨_, _, rfl, M9.out⟩
/-- the document's Encode, of whatever record -/
theorem refEncode_any (r : Rec) (hw : r.Wf) (w : World) :
    Calls Tryz.prog 88 #[.agg (rcells r).toArray] w fun e w' => ∃ p n c, e = .returned (.tuple #[.slice p n c, .int .i64 (chk r)]) ∧ n = (encT r).length ∧ Made w w' p n c (encT r) := by
  by_cases hm : may r = true
  · rw [encT_yes r hm, chk_yes r hm]
    refine (refEncode_good r hw hm w).mono ?_
    rintro e w' ⟨p, c, rfl, m⟩
    exact ⟨p, 64, c, rfl, (encS_len r hw.len).symm, m⟩
  · rw [encT_no r hm, chk_no r hm]
    refine (refEncode_bad r hw.len hm w).mono ?_
    rintro e w' ⟨rfl, b⟩
    exact ⟨none, 0, 0, rfl, rfl, World.ownsRow_nil _ _ _ _, BIn.empty, Nat.le_refl _, fun _ => rfl, b⟩
end Go.Proofs.YtmcpjokbkkfgfaaGreatDoor.R
