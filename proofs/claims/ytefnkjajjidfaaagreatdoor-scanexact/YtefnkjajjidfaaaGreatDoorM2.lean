/-
  Layer 6: the document's Check, put, Encode. Layer 6: the document's put, number. Contracts of the document of layer 2 that are called here: Push, Of. Layer 6: the document's Encode. a cell of bytes that are read. Layer 6: the document's Decode; Plain, Own. Layer 7, the document's own functions, first part: Sum, Config, Check, eight; the law's own: back, plain, small, may. Layer 7, the document's own functions, second part: low, Laid. Layer 7, the document's own functions, third part: Laid. the document's superblock as it lies. Layer 7, the document's own functions, fourth part: Encode, Decode.
-/
import Derived.Test.YtefnkjajjidfaaaGreatDoorRLc
import Derived.Test.YtefnkjajjidfaaaGreatDoorCg
import Derived.Test.YtefnkjajjidfaaaGreatDoorSa
import Derived.Test.YtefnkjajjidfaaaGreatDoorLb
import Derived.Test.YtefnkjajjidfaaaGreatDoorLc
import Derived.Lib.AppendZerosOnto
import Derived.Maps.AppendAt
import Derived.ArgAppend
import Derived.Test.YtefnkjajjidfaaaGreatDoorKa
namespace Go.Proofs.YtefnkjajjidfaaaGreatDoor.R
open Go.RowKit
/-- the goal is a list of operations: a law is tried there alone -/
theorem at_seq {P : Program} {ops : Array Oper} {rest : List Oper} {o : Oper} {a : Act} {w : World} {Q : Exit → Act → World → Prop} (h : wpList P ops Q (o :: rest) a w) : wpList P ops Q (o :: rest) a w := h
theorem chk_both (r : Rec) : chk r = if (decide (r.pos ≤ 4611686018427387904) && (imageB r || commitB r)) = true then 0 else 60 := rfl
def commitR (r : Rec) : Bool := r.kind == 2 && (r.block == 0 && (decide (r.val = zs 32) && (decide (0 ≤ r.images) && decide (r.images ≤ 16))))
theorem commitR_eq (r : Rec) : commitR r = commitB r := by
  unfold commitR commitB
  cases (r.kind == 2) <;> cases (r.block == 0) <;> cases (decide (r.val = zs 32)) <;> cases (decide (0 ≤ r.images)) <;> cases (decide (r.images ≤ 16)) <;> rfl
set_option maxHeartbeats 2000000 in
set_option maxRecDepth 100000 in
theorem refCheck_any (r : Rec) (hv : r.val.length = 32) (w : World) :
    Calls Tryz.prog 79 #[.agg (rcells r).toArray] w fun e w' => e = .returned (.int .i64 (chk r)) ∧ Below w.heap.size w w' := by
  have hA := RAt.new 77 w r
  have c0 := hA.c0
  have c1 := hA.c1
  have c2 := hA.c2
  have c4 := hA.c35 hv
  have L3 : Hid (_) := hA.load24 hv
  have B3 : Hid (_) := build24 (w.alloc (.cells (rcells r).toArray 77))
  have Q3 : Hid (_) := eql24 (w.alloc (.cells (rcells r).toArray 77)) r.val (zs 32) hv (zs_len 32)
  have HB : Hid (Below w.heap.size w (w.alloc (.cells (rcells r).toArray 77))) := below_alloc w _
  have HK : Hid (chk r = if (decide (r.pos ≤ 4611686018427387904) && (imageB r || commitR r)) = true then 0 else 60) := by show _ = _; rw [commitR_eq]; rfl
  clear hA hv
  go_enter Tryz.func79, Tryz.ntmps79
  go_wp2_with ((with_reducible refine at_seq ?_); (first | (refine wpList_load_is (by rfl) 55 rfl rfl L3.out ?_) | (refine wpList_build_is (vs := []) (by rfl) 55 rfl (by rfl) B3.out ?_) | (refine wpList_eql_is (by rfl) 55 rfl rfl rfl eqg24 Q3.out ?_)); simp only [Act.put, List.setIfInBounds_toArray, List.set_cons_zero, List.set_cons_succ])
  all_goals go_ret
  all_goals (refine ⟨?_, HB.out⟩)
  all_goals (rw [HK.out]; clear c0 c1 c2 c4 L3 B3 Q3 HB HK; unfold imageB commitR; simp_all <;> (intros; omega))
end Go.Proofs.YtefnkjajjidfaaaGreatDoor.R
namespace Go.Proofs.YtefnkjajjidfaaaGreatDoor.R
open Go.RowKit
/-- what is written so far, and the zeros behind it -/
def lay (P D : List Int) (m j : Nat) : List Int := (P ++ D.take j) ++ zs (m - j)
theorem lay_zero (P D : List Int) (m : Nat) : lay P D m 0 = P ++ zs m := by simp [lay]
theorem lay_all (P D : List Int) (m j : Nat) (h : D.length = j) : lay P D m j = (P ++ D) ++ zs (m - j) := by
  unfold lay; rw [List.take_of_length_le (by omega)]
theorem lay_len (P D : List Int) (m j : Nat) (hj : j ≤ D.length) (hm : D.length ≤ m) : (lay P D m j).length = P.length + m := by
  simp [lay, zs]; omega
theorem lay_step (P D : List Int) (m j at0 : Nat) (hp : P.length = at0) (hj : j < D.length) (hm : D.length ≤ m) : (lay P D m j).set (at0 + j) D[j] = lay P D m (j + 1) := by
  unfold lay
  rw [List.take_succ_eq_append_getElem hj, List.set_append_right _ _ (by simp; omega)]
  have e : m - j = (m - (j + 1)) + 1 := by omega
  rw [e]
  unfold zs
  rw [List.replicate_succ]
  have e2 : at0 + j - (P ++ D.take j).length = 0 := by simp; omega
  rw [e2, List.set_cons_zero]
  simp only [List.append_assoc, List.cons_append, List.nil_append]
theorem dig_at (k : Nat) (n : Int) (j : Nat) (h : j < (digits k n).length) : (n / 256 ^ j) % 256 = (digits k n)[j] := (digits_get k n j h).symm
set_option maxHeartbeats 1000000 in
set_option maxRecDepth 100000 in
theorem refPut_any (B g cap at0 size m : Nat) (P : List Int) (n : Int) (w0 w : World) (ho : w.ownsRow B 5 1 (.slice (some ⟨g, 0, none⟩) 64 cap) 64 (U8 (P ++ zs m))) (hb : Below B w0 w) (hp : P.length = at0) (hm : at0 + m = 64) (hs : size ≤ m) (hs8 : size ≤ 8) (h0 : 0 ≤ n) (h1 : n ≤ 18446744073709551615) :
    Calls Tryz.prog 80 #[.slice (some ⟨g, 0, none⟩) 64 cap, .int .i64 at0, .int .u64 n, .int .i64 size] w fun e w' => e = .returned (.tuple #[]) ∧ w'.ownsRow B 5 1 (.slice (some ⟨g, 0, none⟩) 64 cap) 64 (U8 ((P ++ digits size n) ++ zs (m - size))) ∧ Below B w0 w' := by
  have HD : Hid ((digits size n).length = size) := digits_length size n
  have HP : Hid (P.length = at0) := hp
  have HO : Hid (w.ownsRow B 5 1 (.slice (some ⟨g, 0, none⟩) 64 cap) 64 (U8 (lay P (digits size n) m 0))) := by rw [lay_zero]; exact ho
  have HB : Hid (Below B w0 w) := hb
  clear ho hb hp
  go_enter Tryz.func80, Tryz.ntmps80
  go_wp2
  go_loopw [2, 8] (fun v i wr => ∃ j : Nat, j ≤ size ∧ i = .int .i64 j ∧ v = .int .u64 (n / 256 ^ j) ∧ Hid (wr.ownsRow B 5 1 (.slice (some ⟨g, 0, none⟩) 64 cap) 64 (U8 (lay P (digits size n) m j)) ∧ Below B w0 wr)) (fun _ i _ => size - (intOf i).toNat)
  case atStart => exact ⟨0, Nat.zero_le _, rfl, by simp, HO.out, HB.out⟩
  case round =>
    obtain ⟨j, hj, rfl, rfl, HR⟩ := hrel
    clear HO HB
    have hnj0 : 0 ≤ n / 256 ^ j := Int.ediv_nonneg h0 (Int.le_of_lt (pow_pos j))
    have hnj1 : n / 256 ^ j ≤ n := Int.ediv_le_self _ h0
    by_cases hlt : j < size
    · have hdl : j < (digits size n).length := by rw [HD.out]; exact hlt
      have HV : Hid ((n / 256 ^ j) % 256 = (digits size n)[j]) := dig_at size n j hdl
      have hst := HR.out.1.stored (at0 + j) (.int .u8 ((digits size n)[j]))
      have hset : (U8 (lay P (digits size n) m j)).set (at0 + j) (.int .u8 ((digits size n)[j])) = U8 (lay P (digits size n) m (j + 1)) := by
        rw [← lay_step P _ m j at0 HP.out hdl (by rw [HD.out]; exact hs)]
        simp [U8, List.map_set]
      rw [hset] at hst
      have hcell := HR.out.1.cellAt (at0 + j) (by omega)
      have hlen : (U8 (lay P (digits size n) m j)).length = 64 := by rw [List.length_map, lay_len _ _ _ _ (by have := HD.out; omega) (by have := HD.out; omega), HP.out]; omega
      obtain ⟨u, hu⟩ : ∃ u, w.cell? ⟨g, at0 + j, none⟩ = w.cell? ⟨g, at0 + j, none⟩ ∧ wr.cell? ⟨g, at0 + j, none⟩ = some u := ⟨_, rfl, by rw [hcell]; exact List.getElem?_eq_getElem (by omega)⟩
      have hu2 := hu.2
      have hfz := HR.out.1.frozenAt (at0 + j)
      have HN : Hid (n / 256 ^ (j + 1) = n / 256 ^ j / 256) := by
        show _ = _
        rw [Int.pow_succ, Int.ediv_ediv_of_nonneg (Int.le_of_lt (pow_pos j))]
      have HQ : Hid ((wr.setCell ⟨g, at0 + j, none⟩ (.int .u8 ((digits size n)[j]))).ownsRow B 5 1 (.slice (some ⟨g, 0, none⟩) 64 cap) 64 (U8 (lay P (digits size n) m (j + 1))) ∧ Below B w0 (wr.setCell ⟨g, at0 + j, none⟩ (.int .u8 ((digits size n)[j])))) :=
        ⟨hst.1, HR.out.2.setCell (HR.out.1.lt g rfl).1 _⟩
      clear hst hset hcell hlen HR hu
      rw [← HV.out] at HQ
      generalize n / 256 ^ j = N at *
      have i1 : (at0 : Int) + (j : Int) < 64 := by omega
      have i0 : (0 : Int) ≤ (at0 : Int) + (j : Int) := by omega
      have t1 : N.tmod 256 = N % 256 := Int.tmod_eq_emod_of_nonneg hnj0
      have t2 : N.tdiv 256 = N / 256 := Int.tdiv_eq_ediv_of_nonneg hnj0
      go_wp2
      go_roundw
      case rel => exact ⟨j + 1, by omega, by go_num, by rw [HN.out], HQ.out⟩
      case measure => simp [intOf]; omega
    · obtain rfl : j = size := by omega
      have HE : Hid (wr.ownsRow B 5 1 (.slice (some ⟨g, 0, none⟩) 64 cap) 64 (U8 ((P ++ digits j n) ++ zs (m - j))) ∧ Below B w0 wr) := ⟨by have := HR.out.1; rw [lay_all _ _ _ _ HD.out] at this; exact this, HR.out.2⟩
      clear HR
      go_wp2
      go_end0
      exact ⟨rfl, HE.out⟩
theorem worth_drop (D : List Int) (k : Nat) (h : k < D.length) : worth (D.drop k) = D[k] + 256 * worth (D.drop (k + 1)) := by
  rw [List.drop_eq_getElem_cons h]; rfl
theorem worth_bd' (D : List Int) (hD : Bytes D) (j : Nat) (h : D.length = j) (hj : j ≤ 7) : 0 ≤ worth D ∧ worth D < 72057594037927936 := by
  have := worth_bd D hD
  rw [h] at this
  have e : (256 : Int) ^ j ≤ 72057594037927936 := (show ∀ j : Nat, j ≤ 7 → (256 : Int) ^ j ≤ 72057594037927936 by decide) j hj
  omega
set_option maxHeartbeats 1000000 in
set_option maxRecDepth 100000 in
theorem refNumber_any (p : Option Addr) (c at0 size : Nat) (xs : List Int) (w : World) (hx : BIn w p 64 xs) (hs : at0 + size ≤ 64) (hs8 : size ≤ 8) :
    Calls Tryz.prog 63 #[.slice p 64 c, .int .i64 at0, .int .i64 size] w fun e w' => e = .returned (.int .u64 (worth ((xs.drop at0).take size))) ∧ w = w' := by
  obtain ⟨b, o, rfl, hcs⟩ := hx.cells (by omega)
  have HL : Hid (xs.length = 64) := hx.len
  have HC : Hid (∀ i, i < 64 → w.cell? ⟨b, o + i, none⟩ = some (.int .u8 (xs.getD i 0))) := hcs
  obtain ⟨D, hD⟩ : ∃ D, D = (xs.drop at0).take size := ⟨_, rfl⟩
  have HDL : Hid (D.length = size) := by rw [hD]; show _ = _; simp [hx.len]; omega
  have HDB : Hid (Bytes D) := by rw [hD]; exact (hx.byte.drop at0).take size
  have HDG : Hid (∀ k (h : k < D.length), xs.getD (at0 + k) 0 = D[k]) := by
    intro k h
    have hk : k < size := by rw [HDL.out] at h; exact h
    have e : D[k]? = xs[at0 + k]? := by rw [hD, List.getElem?_take, if_pos hk, List.getElem?_drop]
    rw [List.getElem?_eq_getElem h] at e
    rw [List.getD, ← e]
    rfl
  rw [← hD]
  clear hD hx hcs
  go_enter Tryz.func63, Tryz.ntmps63
  go_wp2
  go_loop [7, 8] (fun v i => ∃ j : Nat, j ≤ size ∧ i = .int .i64 ((size : Int) - 1 - j) ∧ v = .int .u64 (worth (D.drop (size - j)))) (fun _ i => ((intOf i) + 1).toNat)
  case atStart => exact ⟨0, Nat.zero_le _, by simp, by rw [Nat.sub_zero, List.drop_of_length_le (by rw [HDL.out]; omega)]; rfl⟩
  case round =>
    obtain ⟨j, hj, rfl, rfl⟩ := hrel
    by_cases hlt : j < size
    · have hk : size - 1 - j < D.length := by rw [HDL.out]; omega
      have hc := HC.out (at0 + (size - 1 - j)) (by omega)
      rw [HDG.out _ hk] at hc
      have hb := HDB.out.at _ hk
      have hw := worth_bd' (D.drop (size - j)) (HDB.out.drop _) j (by rw [List.length_drop, HDL.out]; omega) (by omega)
      have HS : Hid (worth (D.drop (size - (j + 1))) = D[size - 1 - j] + 256 * worth (D.drop (size - j))) := by
        have := worth_drop D (size - 1 - j) hk
        rw [show size - 1 - j + 1 = size - j by omega] at this
        rw [show size - (j + 1) = size - 1 - j by omega]
        exact this
      generalize D[size - 1 - j] = x at *
      generalize worth (D.drop (size - j)) = M at *
      obtain ⟨hw0, hw1⟩ := hw
      obtain ⟨hb0, hb1⟩ := hb
      obtain ⟨K, hK⟩ : ∃ K, K = size - 1 - j := ⟨_, rfl⟩
      have hKi : (size : Int) - 1 - (j : Int) = (K : Int) := by omega
      rw [← hK] at hc
      have HKI : Hid (K + 1 + j = size) := by show _ = _; omega
      rw [hKi]
      clear hK hKi hk
      have i1 : (at0 : Int) + (K : Int) < 64 := by have := HKI.out; omega
      have i0 : (0 : Int) ≤ (at0 : Int) + (K : Int) := by omega
      go_wp2
      go_round
      case rel =>
        refine ⟨j + 1, by omega, ?_, by rw [HS.out, Int.add_comm]⟩
        have := HKI.out
        go_num
      case measure => simp [intOf]
    · obtain rfl : j = size := by omega
      have hi : (j : Int) - 1 - (j : Int) = -1 := by omega
      rw [hi]
      rw [Nat.sub_self, List.drop_zero]
      clear hi
      go_wp2
      go_ret
      exact ⟨rfl, rfl⟩
end Go.Proofs.YtefnkjajjidfaaaGreatDoor.R
namespace Go.Proofs.YtefnkjajjidfaaaGreatDoor
open Go.RowKit
set_option maxHeartbeats 400000 in
set_option maxRecDepth 100000 in
theorem refPush_any (x : Nat) (c : Int) (hx : x < 4294967296) (hc0 : 0 ≤ c) (hc1 : c < 256) (w : World) :
    Calls Tryz.prog 99 #[.int .u32 x, .int .u8 c] w fun e w' => e = .returned (.int .u32 (hn 8 (x ^^^ c.toNat) : Nat)) ∧ w = w' := by
  obtain ⟨y, hy⟩ : ∃ y, y = x ^^^ c.toNat := ⟨_, rfl⟩
  have hyl : y < 4294967296 := by rw [hy]; exact xor_lt _ _ hx (by omega)
  have h1 : bits .xor .u32 (x : Int) c = (y : Int) := by
    rw [hy, ← u32_xor_nat x c.toNat hx (by omega)]
    congr 1
    omega
  rw [← hy]
  clear hy
  go_enter Tryz.func99, Tryz.ntmps99
  go_wp2
  go_loop [0, 5] (fun v i => ∃ k : Nat, k ≤ 8 ∧ i = .int .i64 k ∧ v = .int .u32 (hn k y : Nat)) (fun _ i => 8 - (intOf i).toNat)
  case atStart => exact ⟨0, by omega, rfl, rfl⟩
  case round =>
    obtain ⟨k, hk, rfl, rfl⟩ := hrel
    by_cases hlt : k < 8
    · have hl := hn_lt k y hyl
      have HN : Hid (hn (k + 1) y = hv (hn k y)) := hn_next k y
      obtain ⟨z, hz⟩ : ∃ z, z = hn k y := ⟨_, rfl⟩
      rw [← hz] at HN hl ⊢
      clear hz
      by_cases hodd : z % 2 = 1
      · have hx2 := u32_xor_nat (z / 2) 3988292384 (by omega) (by omega)
        have HV : Hid (hv z = z / 2 ^^^ 3988292384) := by show _ = _; unfold hv; rw [if_pos hodd]
        have ho' : (z : Int) % 2 = 1 := by omega
        have hx3 : bits .xor .u32 ((z : Int) / 2) 3988292384 = ((z / 2 ^^^ 3988292384 : Nat) : Int) := hx2
        clear hx2
        go_wp2
        go_round
        case rel => exact ⟨k + 1, by omega, by go_num, by rw [HN.out, HV.out]⟩
        case measure => simp [intOf]; omega
      · have HV : Hid (hv z = z / 2) := by show _ = _; unfold hv; rw [if_neg hodd, Nat.xor_zero]
        have ho' : ¬ (z : Int) % 2 = 1 := by omega
        go_wp2
        go_round
        case rel => exact ⟨k + 1, by omega, by go_num, by rw [HN.out, HV.out]; rfl⟩
        case measure => simp [intOf]; omega
    · obtain rfl : k = 8 := by omega
      go_wp2
      go_ret
      exact ⟨rfl, rfl⟩
set_option maxHeartbeats 1000000 in
set_option maxRecDepth 100000 in
theorem refOf_pos (b o n c : Nat) (xs : List Int) (w : World) (h : BIn w (some ⟨b, o, none⟩) n xs) (h0 : 0 < n) (hbig : n ≤ 140737488355328) :
    Calls Tryz.prog 81 #[.slice (some ⟨b, o, none⟩) n c] w fun e w' => e = .returned (.int .u32 (crc xs : Nat)) ∧ w = w' := by
  obtain ⟨b', o', e, hcs⟩ := h.cells h0
  simp only [Option.some.injEq, Addr.mk.injEq, and_true] at e
  obtain ⟨rfl, rfl⟩ := e
  have HC : Hid (∀ i, i < n → w.cell? ⟨b, o + i, none⟩ = some (.int .u8 (xs.getD i 0))) := hcs
  have HX : Hid (xs.length = n) := h.len
  have HK : Hid (Bytes xs) := h.byte
  clear hcs h
  go_enter Tryz.func81, Tryz.ntmps81
  go_wp2
  go_loop [3, 4] (fun x i => ∃ j : Nat, j ≤ n ∧ i = .int .i64 j ∧ x = .int .u32 (st 4294967295 (xs.take j) : Nat)) (fun _ i => n - (intOf i).toNat)
  case atStart => exact ⟨0, Nat.zero_le _, rfl, rfl⟩
  case round =>
    obtain ⟨j, hj, rfl, rfl⟩ := hrel
    have hlj := st_lt 4294967295 (xs.take j) (by omega) (HK.out.take j)
    by_cases hjl : j < n
    · have hcj := HC.out j hjl
      have hjx : j < xs.length := by rw [HX.out]; exact hjl
      have hb := HK.out.at j hjx
      have HJ : Hid (st 4294967295 (xs.take (j + 1)) = hn 8 (st 4294967295 (xs.take j) ^^^ xs[j].toNat)) := st_step _ xs j hjx
      rw [show xs.getD j 0 = xs[j] by simp [List.getD, List.getElem?_eq_getElem hjx]] at hcj
      obtain ⟨z, hz⟩ : ∃ z, z = st 4294967295 (xs.take j) := ⟨_, rfl⟩
      rw [← hz] at hlj HJ ⊢
      obtain ⟨q, hq⟩ : ∃ q, q = xs[j] := ⟨_, rfl⟩
      rw [← hq] at hb HJ hcj
      obtain ⟨hb0, hb1⟩ := hb
      clear hz hq
      go_wp2_with (go_at_call 99; refine (refPush_any z q hlj hb0 hb1 _).mono ?_; rintro e w' ⟨rfl, rfl⟩)
      go_round
      case rel => exact ⟨j + 1, by omega, by go_num, by rw [HJ.out]⟩
      case measure => simp [intOf]; omega
    · have HA : Hid (xs.take j = xs) := List.take_of_length_le (by rw [HX.out]; omega)
      have hxo := u32_xor_nat _ 4294967295 hlj (by omega)
      have HO : Hid (bits .xor .u32 ((st 4294967295 (xs.take j) : Nat) : Int) 4294967295 = ((crc xs : Nat) : Int)) := by
        show _ = _
        rw [crc, ← HA.out]
        simpa [HA.out] using hxo
      clear hxo
      go_wp2
      go_ret
      refine ⟨?_, rfl⟩
      rw [← HO.out]
      rfl
set_option maxHeartbeats 400000 in
set_option maxRecDepth 100000 in
theorem refOf_zero (p : Option Addr) (c : Nat) (w : World) :
    Calls Tryz.prog 81 #[.slice p 0 c] w fun e w' => e = .returned (.int .u32 0) ∧ w = w' := by
  go_enter Tryz.func81, Tryz.ntmps81
  go_wp2
  refine wp_loop_rounds 1 ?_
  rw [rounds_succ]
  go_wp2
  go_ret
  exact ⟨rfl, rfl⟩
theorem refOf_any (p : Option Addr) (n c : Nat) (xs : List Int) (w : World) (h : BIn w p n xs) (hbig : n ≤ 140737488355328) :
    Calls Tryz.prog 81 #[.slice p n c] w fun e w' => e = .returned (.int .u32 (crc xs : Nat)) ∧ w = w' := by
  by_cases h0 : 0 < n
  · obtain ⟨b, o, rfl, hc⟩ := h.cells h0
    exact refOf_pos b o n c xs w h h0 hbig
  · obtain rfl : n = 0 := by omega
    obtain rfl : xs = [] := List.eq_nil_of_length_eq_zero h.len
    refine (refOf_zero p c w).mono ?_
    rintro e w' ⟨rfl, hw⟩
    exact ⟨rfl, hw⟩
end Go.Proofs.YtefnkjajjidfaaaGreatDoor
namespace Go.Proofs.YtefnkjajjidfaaaGreatDoor.R
open Go.RowKit
theorem made_zeros (k : Nat) : (madeCells #[Value.int .u8 0] k).toList = U8 (zs k) := by
  rw [toList_madeCells_one]
  simp [U8, zs]
theorem num_sum (r : Rec) (h : may r = true) : r.block + r.images = numS r := by
  rw [may_iff] at h
  unfold numS
  rcases h.2 with h2 | h2
  · obtain ⟨a, b, c, d⟩ := h2
    rw [if_pos a]; omega
  · obtain ⟨a, b, c, d, e⟩ := h2
    rw [if_neg (by omega)]; omega
theorem head_split (r : Rec) : [87, r.kind, 0, 0] ++ digits 8 r.pos ++ digits 4 (numS r) ++ r.val = head r := by simp [head]
theorem zs_split (a b : Nat) : zs (a + b) = zs a ++ zs b := by unfold zs; rw [List.replicate_append_replicate]
theorem set_two (k : Int) : ((zs 64).set 0 87).set 1 k = [87, k, 0, 0] ++ zs 60 := rfl
set_option maxHeartbeats 400000 in
set_option maxRecDepth 100000 in
theorem refEncode_bad (r : Rec) (hv : r.val.length = 32) (hm : ¬ may r = true) (w : World) :
    Calls Tryz.prog 64 #[.agg (rcells r).toArray] w fun e w' => e = .returned (.tuple #[.slice none 0 0, .int .i64 60]) ∧ Below w.heap.size w w' := by
  have L1 : Hid (_) := (RAt.new 77 w r).load37 hv
  have hc := chk_no r hm
  go_enter Tryz.func64, Tryz.ntmps64
  go_wp2_with ((with_reducible refine at_seq ?_); (refine wpList_load_is (by rfl) 77 rfl rfl L1.out ?_); simp only [Act.put, List.setIfInBounds_toArray, List.set_cons_zero, List.set_cons_succ])
  refine (refCheck_any r hv _).mono ?_
  rintro e w1 ⟨rfl, b1⟩
  rw [hc]
  have HB : Hid (Below w.heap.size w w1) := below_of_alloc b1
  clear b1 L1 hm hc
  go_wp2_with fail
  go_ret2
  exact ⟨rfl, HB.out⟩
set_option maxHeartbeats 4000000 in
set_option maxRecDepth 100000 in
theorem refEncode_good (r : Rec) (hw : r.Wf) (hm : may r = true) (w : World) :
    Calls Tryz.prog 64 #[.agg (rcells r).toArray] w fun e w' => ∃ p c, e = .returned (.tuple #[.slice p 64 c, .int .i64 0]) ∧ Made w w' p 64 c (encS r) := by
  obtain ⟨i0, hi, hz0, hz1, hz2⟩ := info_parts info5
  have L1 : Hid (_) := (RAt.new 77 w r).load37 hw.len
  have HW : Hid (r.Wf) := hw
  have HM : Hid (may r = true) := hm
  have hc := chk_yes r hm
  have HS : Hid (r.block + r.images = numS r) := num_sum r hm
  have HN : Hid (0 ≤ numS r ∧ numS r < 64) := numS_bd r hm
  have HK : Hid (0 ≤ r.kind ∧ r.kind < 256) := by have := may_kind hm; exact ⟨by omega, by omega⟩
  go_enter Tryz.func64, Tryz.ntmps64
  go_wp2_with ((with_reducible refine at_seq ?_); (refine wpList_load_is (by rfl) 77 rfl rfl L1.out ?_); simp only [Act.put, List.setIfInBounds_toArray, List.set_cons_zero, List.set_cons_succ])
  refine (refCheck_any r hw.len _).mono ?_
  rintro e w1 ⟨rfl, b1⟩
  rw [hc]
  have B1 : Hid (Below w.heap.size w w1) := below_of_alloc b1
  have R1 : Hid (RAt 77 w1 w.heap.size r) := (RAt.new 77 w r).later b1
  clear b1 L1 hm hc hw
  go_wp2_with (at_make; refine wpList_make_full _ rfl _ _ 24 rfl w1.heap.size 5 i0 (.int .u8 0) 1 Tryz.underlying24 hi hz0 hz1 .i64 .i64 _ _ 64 rfl rfl rfl rfl (by rw [hz2]; omega) (by unfold maxLen; omega) (Nat.le_refl _) ?_)
  intro w2 hown hgrow
  rw [made_zeros 64] at hown
  have b2 : Below w1.heap.size w1 w2 := (Below.refl w1.heap.size w1).grown hgrow (Nat.le_refl _) (by intro k hk; cases hk)
  have R2 : RAt 77 w2 w.heap.size r := R1.out.later b2
  have gne : w.heap.size < w1.heap.size := R1.out.lt
  have GNE : Hid (w.heap.size < w1.heap.size) := gne
  -- the first two bytes
  have s0 := hown.stored 0 (.int .u8 87)
  have f0 := hown.frozenAt 0
  have c0 := hown.cellAt 0 (by omega)
  obtain ⟨u0, hu0⟩ : ∃ u, w2.cell? ⟨w1.heap.size, 0, none⟩ = some u := ⟨_, by rw [c0]; exact List.getElem?_eq_getElem (by simp [zs])⟩
  obtain ⟨w3, hw3⟩ : ∃ w3, w3 = w2.setCell ⟨w1.heap.size, 0, none⟩ (.int .u8 87) := ⟨_, rfl⟩
  have o3 : w3.ownsRow w1.heap.size 5 1 (.slice (some ⟨w1.heap.size, 0, none⟩) 64 64) 64 ((U8 (zs 64)).set 0 (.int .u8 87)) := by rw [hw3]; exact s0.1
  have R3 : RAt 77 w3 w.heap.size r := by rw [hw3]; exact (heap_setCell_other w2 ⟨w1.heap.size, 0, none⟩ w.heap.size _ (by simp; omega)).trans R2
  have b3 : Below w1.heap.size w1 w3 := by rw [hw3]; exact b2.setCell (Nat.le_refl _) _
  have s1 := o3.stored 1 (.int .u8 r.kind)
  have f1 := o3.frozenAt 1
  have c1 := o3.cellAt 1 (by omega)
  obtain ⟨u1, hu1⟩ : ∃ u, w3.cell? ⟨w1.heap.size, 1, none⟩ = some u := ⟨_, by rw [c1]; exact List.getElem?_eq_getElem (by simp [zs])⟩
  obtain ⟨w4, hw4⟩ : ∃ w4, w4 = w3.setCell ⟨w1.heap.size, 1, none⟩ (.int .u8 r.kind) := ⟨_, rfl⟩
  have o4 : w4.ownsRow w1.heap.size 5 1 (.slice (some ⟨w1.heap.size, 0, none⟩) 64 64) 64 (U8 ([87, r.kind, 0, 0] ++ zs 60)) := by
    rw [hw4]
    have := s1.1
    rw [show ((U8 (zs 64)).set 0 (.int .u8 87)).set 1 (.int .u8 r.kind) = U8 ([87, r.kind, 0, 0] ++ zs 60) by rw [← set_two]; simp [U8, List.map_set]] at this
    exact this
  have R4 : RAt 77 w4 w.heap.size r := by rw [hw4]; exact (heap_setCell_other w3 ⟨w1.heap.size, 1, none⟩ w.heap.size _ (by simp; omega)).trans R3
  have b4 : Below w1.heap.size w1 w4 := by rw [hw4]; exact b3.setCell (Nat.le_refl _) _
  have k3 := R3.c0
  have k4 := R4.c1
  have O4 : Hid (_) := o4
  have B4 : Hid (_) := b4
  have RR : Hid (RAt 77 w4 w.heap.size r) := R4
  have kk0 := HK.out.1
  have kk1 := HK.out.2
  have e3 := hw3.symm
  have e4 := hw4.symm
  clear hown hgrow b2 R2 s0 c0 o3 R3 b3 s1 c1 o4 R4 b4 hw3 hw4
  go_wp2_with fail
  refine (refPut_any w1.heap.size w1.heap.size 64 4 8 60 [87, r.kind, 0, 0] r.pos w1 w4 O4.out B4.out rfl (by omega) (by omega) (by omega) HW.out.p0 HW.out.p1).mono ?_
  rintro e w5 ⟨rfl, o5, b5⟩
  clear e3 e4 f0 f1 hu0 hu1 k3 k4 kk0 kk1 O4 B4
  have O5 : Hid (_) := o5
  have B5 : Hid (Below w1.heap.size w1 w5) := b5
  have R5 : RAt 77 w5 w.heap.size r := R1.out.below b5 GNE.out
  have d2 := R5.c2
  have d4 := R5.c35 HW.out.len
  have hsum := HS.out
  have hn0 := HN.out.1
  have hn1 := HN.out.2
  clear o5 b5 R5
  have HP16 : Hid (([87, r.kind, 0, 0] ++ digits 8 r.pos).length = 12) := by show _ = _; simp [digits_length]
  obtain ⟨nn, hnn⟩ : ∃ nn, nn = numS r := ⟨_, rfl⟩
  rw [← hnn] at hsum hn0 hn1
  have HNN : Hid (nn = numS r) := hnn
  clear hnn
  go_wp2_with fail
  refine (refPut_any w1.heap.size w1.heap.size 64 12 4 52 ([87, r.kind, 0, 0] ++ digits 8 r.pos) nn w1 w5 O5.out B5.out HP16.out (by omega) (by omega) (by omega) hn0 (by omega)).mono ?_
  rintro e w6 ⟨rfl, o6, b6⟩
  rw [HNN.out] at o6
  have O6 : Hid (w6.ownsRow w1.heap.size 5 1 (.slice (some ⟨w1.heap.size, 0, none⟩) 64 64) 64 (U8 (lay ([87, r.kind, 0, 0] ++ digits 8 r.pos ++ digits 4 (numS r)) r.val 48 0))) := by rw [lay_zero]; exact o6
  have B6 : Hid (Below w1.heap.size w1 w6) := b6
  clear o6 b6 d2 d4 hsum hn0 hn1 HNN O5 B5 HP16 HS HN
  have HPL : Hid (([87, r.kind, 0, 0] ++ digits 8 r.pos ++ digits 4 (numS r)).length = 16) := by show _ = _; simp [digits_length]
  have HHS : Hid (([87, r.kind, 0, 0] ++ digits 8 r.pos ++ digits 4 (numS r)) ++ r.val = head r) := head_split r
  generalize [87, r.kind, 0, 0] ++ digits 8 r.pos ++ digits 4 (numS r) = P at *
  go_wp2_with fail
  go_loopw [6] (fun k wr => ∃ j : Nat, j ≤ 32 ∧ k = .int .i64 j ∧ Hid (wr.ownsRow w1.heap.size 5 1 (.slice (some ⟨w1.heap.size, 0, none⟩) 64 64) 64 (U8 (lay P r.val 48 j)) ∧ Below w1.heap.size w1 wr)) (fun k _ => 32 - (intOf k).toNat)
  case atStart => exact ⟨0, by omega, rfl, O6.out, B6.out⟩
  case round =>
    obtain ⟨j, hj, rfl, HR⟩ := hrel
    clear O6 B6
    by_cases hlt : j < 32
    · have hjv : j < r.val.length := by rw [HW.out.len]; exact hlt
      have Rr := R1.out.below HR.out.2 GNE.out
      have cv : wr.cell? ⟨w.heap.size, 3 + j, none⟩ = some (.int .u8 r.val[j]) := (Rr.cell (3 + j)).trans (rcells_val r j hjv)
      have hst := HR.out.1.stored (16 + j) (.int .u8 r.val[j])
      have hset : (U8 (lay P r.val 48 j)).set (16 + j) (.int .u8 r.val[j]) = U8 (lay P r.val 48 (j + 1)) := by
        rw [← lay_step P _ 48 j 16 HPL.out hjv (by rw [HW.out.len]; omega)]
        simp [U8, List.map_set]
      rw [hset] at hst
      have hcell := HR.out.1.cellAt (16 + j) (by omega)
      have hlen : (U8 (lay P r.val 48 j)).length = 64 := by rw [List.length_map, lay_len _ _ _ _ (by omega) (by rw [HW.out.len]; omega), HPL.out]
      obtain ⟨u, hu⟩ : ∃ u, wr.cell? ⟨w1.heap.size, 16 + j, none⟩ = some u := ⟨_, by rw [hcell]; exact List.getElem?_eq_getElem (by omega)⟩
      have hfz := HR.out.1.frozenAt (16 + j)
      have HQ : Hid ((wr.setCell ⟨w1.heap.size, 16 + j, none⟩ (.int .u8 r.val[j])).ownsRow w1.heap.size 5 1 (.slice (some ⟨w1.heap.size, 0, none⟩) 64 64) 64 (U8 (lay P r.val 48 (j + 1))) ∧ Below w1.heap.size w1 (wr.setCell ⟨w1.heap.size, 16 + j, none⟩ (.int .u8 r.val[j]))) := ⟨hst.1, HR.out.2.setCell (Nat.le_refl _) _⟩
      clear hst hset hcell hlen HR Rr
      generalize r.val[j] = x at *
      clear hjv
      have i1 : (16 : Int) + (j : Int) < 64 := by omega
      have i0 : (0 : Int) ≤ (16 : Int) + (j : Int) := by omega
      go_wp2_with fail
      go_roundw
      case rel => exact ⟨j + 1, by omega, by go_num, HQ.out⟩
      case measure => simp [intOf]; omega
    · obtain ⟨w7, hw7⟩ : ∃ w7, w7 = wr := ⟨_, rfl⟩
      subst hw7
      have O7 : Hid (w7.ownsRow w1.heap.size 5 1 (.slice (some ⟨w1.heap.size, 0, none⟩) 64 64) 64 (U8 (body r ++ zs 4))) := by
        have := HR.out.1
        obtain rfl : j = 32 := by omega
        rw [lay_all P r.val 48 32 HW.out.len, HHS.out, show (48 - 32 : Nat) = 12 + 4 by omega, zs_split, ← List.append_assoc] at this
        exact this
      have B7 : Hid (Below w1.heap.size w1 w7) := HR.out.2
      have HBL : Hid ((body r).length = 60) := body_len r HW.out.len
      have HBB : Hid (Bytes (body r)) := body_bytes r HW.out HM.out
      have X7 : Hid (BIn w7 (some ⟨w1.heap.size, 0, none⟩) 60 (body r)) := by
        obtain ⟨p', c', e', hx, -⟩ := own_in O7.out (HBB.out.append (zs_bytes 4))
        simp only [Value.slice.injEq] at e'
        have := hx.take 60 (by omega)
        rw [← e'.1, List.take_append_of_le_length (by rw [HBL.out]; omega), List.take_of_length_le (by rw [HBL.out]; omega)] at this
        exact this
      clear HR
      go_wp2_with fail
      refine (refOf_any _ 60 64 (body r) w7 X7.out (by omega)).mono ?_
      rintro e w8 ⟨rfl, rfl⟩
      have hcl := crc_lt (body r) HBB.out
      have HE : Hid (encS r = body r ++ digits 4 ((crc (body r) : Nat) : Int) ++ zs (4 - 4)) := by show _ = _; simp [encS, zs]
      generalize crc (body r) = S at *
      go_wp2_with fail
      refine (refPut_any w1.heap.size w1.heap.size 64 60 4 4 (body r) (S : Int) w1 w7 O7.out B7.out HBL.out (by omega) (by omega) (by omega) (by omega) (by omega)).mono ?_
      rintro e w9 ⟨rfl, o9, b9⟩
      rw [← HE.out] at o9
      obtain ⟨p9, c9, e9, m9⟩ := made_of (own_mono o9 B1.out.size) (encS_bytes r HW.out HM.out) (below_then B1.out b9)
      simp only [Value.slice.injEq, true_and] at e9
      obtain ⟨rfl, rfl⟩ := e9
      have M9 : Hid (_) := m9
      clear o9 b9 m9
      go_wp2_with fail
      go_ret2
      exact ⟨_, _, rfl, M9.out⟩
/-- the document's Encode, of whatever record -/
theorem refEncode_any (r : Rec) (hw : r.Wf) (w : World) :
    Calls Tryz.prog 64 #[.agg (rcells r).toArray] w fun e w' => ∃ p n c, e = .returned (.tuple #[.slice p n c, .int .i64 (chk r)]) ∧ n = (encT r).length ∧ Made w w' p n c (encT r) := by
  by_cases hm : may r = true
  · rw [encT_yes r hm, chk_yes r hm]
    refine (refEncode_good r hw hm w).mono ?_
    rintro e w' ⟨p, c, rfl, m⟩
    exact ⟨p, 64, c, rfl, (encS_len r hw.len).symm, m⟩
  · rw [encT_no r hm, chk_no r hm]
    refine (refEncode_bad r hw.len hm w).mono ?_
    rintro e w' ⟨rfl, b⟩
    exact ⟨none, 0, 0, rfl, rfl, World.ownsRow_nil _ _ _ _, BIn.empty, Nat.le_refl _, fun _ => rfl, b⟩
end Go.Proofs.YtefnkjajjidfaaaGreatDoor.R
namespace Go.Proofs.YtefnkjajjidfaaaGreatDoor
open Go.RowKit

theorem BIn.cell {w : World} {b o n : Nat} {xs : List Int} (h : BIn w (some ⟨b, o, none⟩) n xs) (i : Nat) (hi : i < n) : w.cell? ⟨b, o + i, none⟩ = some (.int .u8 (xs.getD i 0)) := by
  have := h.at i hi
  rwa [Go.WideShapes.add_plain] at this
end Go.Proofs.YtefnkjajjidfaaaGreatDoor
namespace Go.Proofs.YtefnkjajjidfaaaGreatDoor.R
open Go.RowKit
set_option maxHeartbeats 1000000 in
set_option maxRecDepth 100000 in
theorem refDecode_len (p : Option Addr) (n c : Nat) (w : World) (hn : n ≠ 64) :
    Calls Tryz.prog 41 #[.slice p n c] w fun e w' => e = .returned (.tuple #[.agg (rcells rec0).toArray, .int .i64 2]) ∧ Below w.heap.size w w' := by
  have A1 : Hid (_) := alloc37 w
  have R1 : Hid (RAt 77 (w.alloc (.cells (rcells rec0).toArray 77)) w.heap.size rec0) := RAt.new 77 w rec0
  have B1 : Hid (_) := build37 (w.alloc (.cells (rcells rec0).toArray 77)) #[] rec0 fill_none
  have S1 : Hid (_) := store_new size37 w rec0 rec0_len
  have hn' : (((n : Nat) : Int) != 64) = true := by simp; omega
  go_enter Tryz.func41, Tryz.ntmps41
  go_wp2_with ((with_reducible refine at_seq ?_); (first | (refine wpList_alloc_is (by rfl) 77 rfl A1.out ?_) | (refine wpList_build_is (vs := []) (by rfl) 77 rfl (by rfl) B1.out ?_) | (refine wpList_store_is (by rfl) 77 rfl rfl rfl S1.out ?_)); simp only [Act.put, List.setIfInBounds_toArray, List.set_cons_zero, List.set_cons_succ])
  exact bodyPost_ret (results_rec Tryz.results41 _ _ w.heap.size 77 _ _ (by rfl) R1.out rec0_len Tryz.underlying77 rfl size37) rfl ⟨rfl, below_alloc w _⟩
theorem RAt.setv {t : TypeId} {w : World} {g : Nat} {r : Rec} (h : RAt t w g r) (j : Nat) (x : Int) (hj : j < r.val.length) : RAt t (w.setCell ⟨g, 3 + j, none⟩ (.int .u8 x)) g ⟨r.kind, r.pos, r.block, r.val.set j x, r.images⟩ := by
  have := heap_setCell_same w g (3 + j) _ t (.int .u8 x) h
  unfold RAt
  rw [this, List.setIfInBounds_toArray]
  congr 3
  simp only [rcells]
  rw [show 3 + j = j + 1 + 1 + 1 by omega, List.set_cons_succ, List.set_cons_succ, List.set_cons_succ, List.set_append_left _ _ (by rw [U8_length]; exact hj)]
  simp [U8, List.map_set]
theorem build_ku (w : World) (k u : Int) : (Instr.build 77 #[(0, .int .i64 k), (1, .int .u64 u)]).run Tryz.prog w = .ok (.agg (rcells ⟨k, u, 0, zs 32, 0⟩).toArray) w :=
  build37 w _ _ ((fill_k rec0 rec0_len k _).trans (fill_p ⟨k, 0, 0, zs 32, 0⟩ (zs_len 32) u []))
theorem build_all31 (w : World) (r : Rec) (hv : r.val.length = 32) : (Instr.build 87 #[(0, .int .i64 r.kind), (1, .int .u64 r.pos), (2, .int .i64 r.block), (3, .agg (U8 r.val).toArray), (4, .int .i64 r.images)]).run Tryz.prog w = .ok (.agg (rcells r).toArray) w :=
  build31 w _ r ((fill_k rec0 rec0_len r.kind _).trans ((fill_p ⟨r.kind, 0, 0, zs 32, 0⟩ (zs_len 32) r.pos _).trans ((fill_b ⟨r.kind, r.pos, 0, zs 32, 0⟩ (zs_len 32) r.block _).trans ((fill_v ⟨r.kind, r.pos, r.block, zs 32, 0⟩ (zs_len 32) r.val hv _).trans (fill_i ⟨r.kind, r.pos, r.block, r.val, 0⟩ hv r.images [])))))
set_option maxHeartbeats 4000000 in
set_option maxRecDepth 100000 in
theorem refDecode_64 (p : Option Addr) (c : Nat) (xs : List Int) (w : World) (hx : BIn w p 64 xs) :
    Calls Tryz.prog 41 #[.slice p 64 c] w fun e w' => e = .returned (.tuple #[.agg (rcells (decS xs).1).toArray, .int .i64 (decS xs).2]) ∧ Below w.heap.size w w' := by
  obtain ⟨b, o, rfl, -⟩ := hx.cells (by omega)
  have A1 : Hid (_) := alloc37 w
  obtain ⟨w1, hw1⟩ : ∃ w1, w1 = w.alloc (.cells (rcells rec0).toArray 77) := ⟨_, rfl⟩
  have b1 : Below w.heap.size w w1 := by rw [hw1]; exact below_alloc w _
  have R1 : Hid (RAt 77 w1 w.heap.size rec0) := by rw [hw1]; exact RAt.new 77 w rec0
  have X1 : Hid (BIn w1 (some ⟨b, o, none⟩) 64 xs) := hx.later b1
  have B1 : Hid (Below w.heap.size w w1) := b1
  have HW : Hid ((readS xs).Wf) := readS_wf xs hx.byte hx.len
  have HL : Hid (xs.length = 64) := hx.len
  have HBD := parts_bd xs hx.byte hx.len
  have HRS : Hid (readS xs = ⟨xs.getD 1 0, worth ((xs.drop 4).take 8), if xs.getD 1 0 = 1 then worth ((xs.drop 12).take 4) else 0, (xs.drop 16).take 32, if xs.getD 1 0 = 1 then 0 else worth ((xs.drop 12).take 4)⟩) := rfl
  have x1 := X1.out.cell 1 (by omega)
  have HVL : Hid (((xs.drop 16).take 32).length = 32) := by show _ = _; simp [hx.len]
  rw [← hw1] at A1
  clear hx hw1 b1
  go_enter Tryz.func41, Tryz.ntmps41
  go_wp2_with ((with_reducible refine at_seq ?_); (refine wpList_alloc_is (by rfl) 77 rfl A1.out ?_); simp only [Act.put, List.setIfInBounds_toArray, List.set_cons_zero, List.set_cons_succ])
  clear A1
  have HB : Hid (Bytes xs) := X1.out.byte
  have HXG : Hid (∀ j, j < 32 → xs.getD (16 + j) 0 = ((xs.drop 16).take 32).getD j 0) := by
    intro j hj
    simp only [List.getD, List.getElem?_take, hj, if_true, List.getElem?_drop]
  have HU : Hid (worth ((xs.drop 4).take 8) = worth ((xs.drop 4).take 8)) := rfl
  have NUM8 : Hid (∀ w', BIn w' (some ⟨b, o, none⟩) 64 xs → Calls Tryz.prog 63 #[.slice (some ⟨b, o, none⟩) 64 c, .int .i64 4, .int .i64 8] w' fun e w'' => e = .returned (.int .u64 (worth ((xs.drop 4).take 8))) ∧ w' = w'') := fun w' h => refNumber_any _ c 4 8 xs w' h (by omega) (by omega)
  have NUM4 : Hid (∀ w', BIn w' (some ⟨b, o, none⟩) 64 xs → Calls Tryz.prog 63 #[.slice (some ⟨b, o, none⟩) 64 c, .int .i64 12, .int .i64 4] w' fun e w'' => e = .returned (.int .u64 (worth ((xs.drop 12).take 4))) ∧ w' = w'') := fun w' h => refNumber_any _ c 12 4 xs w' h (by omega) (by omega)
  obtain ⟨V, hV⟩ : ∃ V, V = (xs.drop 16).take 32 := ⟨_, rfl⟩
  rw [← hV] at HVL HRS HXG
  clear hV HU
  generalize xs.getD 1 0 = k at *
  generalize worth ((xs.drop 4).take 8) = u at *
  generalize worth ((xs.drop 12).take 4) = m at *
  obtain ⟨⟨k0, k1⟩, ⟨u0, u1⟩, m0, m1⟩ := HBD
  have BK : Hid (_) := fun w => build_ku w k u
  have kw : IntKind.i64.wrap k = k := by rw [IntKind.wrap_i64]; omega
  refine Code.wp_mono (Q := fun e a W => ∃ (g4 : Nat), e = .normal ∧ Hid (RAt 77 W g4 ⟨k, u, 0, zs 32, 0⟩ ∧ w1.heap.size ≤ g4 ∧ Below w1.heap.size w1 W) ∧ a = { tmps := #[.slice (some ⟨b, o, none⟩) 64 c, undef, .pointer (some ⟨w.heap.size, 0, none⟩), .int .i64 0, .pointer (some ⟨g4, 0, none⟩), undef, undef, undef, undef, .slice (some ⟨b, o, none⟩) 64 c, .int .i64 64, .bool false, undef, .slice (some ⟨b, o, none⟩) 64 c, .pointer (some ⟨b, o + 1, none⟩), .int .u8 k, .int .i64 k, .slice (some ⟨b, o, none⟩) 64 c, .int .u64 u, .agg (rcells ⟨k, u, 0, zs 32, 0⟩).toArray, undef, undef, undef, undef, undef, undef, undef, undef, undef, undef, undef, undef, undef, undef, undef, undef, undef, undef, undef, undef, undef, undef, undef, undef, undef, undef, undef, undef, undef, undef, undef, undef, undef, undef, undef, undef, undef, undef], defers := [] }) ?rest ?reg
  case reg =>
    refine wp_region_noPanic ?_
    refine wp_region_held_drew (S := fun w' => w'.cell? ⟨b, o + 1, none⟩ = some (.int .u8 k) ∧ BIn w' (some ⟨b, o, none⟩) 64 xs) (by kernel_rfl) ⟨x1, X1.out.drew⟩ (fun hHeld => ?_)
    refine wpAnyH_take (i := 0) (v := ?v0) (by simp; rfl) (by kernel_rfl) (by kernel_rfl) (by kernel_rfl) (fun _ _ _ h => h) (Or.inl ⟨by rfl, ?y0⟩) hHeld ?r0
    case y0 => intro w hSw; obtain ⟨z1, -⟩ := hSw; go_simp; with_reducible rfl
    simp only [Act.put, List.setIfInBounds_toArray, List.set_cons_zero, List.set_cons_succ]
    refine wpAnyH_take (i := 1) (v := ?v1) (by simp; rfl) (by kernel_rfl) (by kernel_rfl) (by kernel_rfl) (fun _ _ _ h => h) (Or.inl ⟨by rfl, ?y1⟩) hHeld ?r1
    case y1 => intro w hSw; obtain ⟨z1, -⟩ := hSw; go_simp; with_reducible rfl
    simp only [Act.put, List.setIfInBounds_toArray, List.set_cons_zero, List.set_cons_succ]
    refine wpAnyH_take (i := 2) (v := ?v2) (by simp; rfl) (by kernel_rfl) (by kernel_rfl) (by kernel_rfl) (fun _ _ _ h => h) (Or.inl ⟨by rfl, ?y2⟩) hHeld ?r2
    case y2 => intro w hSw; obtain ⟨z1, -⟩ := hSw; go_simp; with_reducible rfl
    simp only [Act.put, List.setIfInBounds_toArray, List.set_cons_zero, List.set_cons_succ]
    refine wpAnyH_take (i := 3) (v := ?v3) (by simp; rfl) (by kernel_rfl) (by kernel_rfl) (by kernel_rfl) (fun _ _ _ h => h) (Or.inl ⟨by rfl, ?y3⟩) hHeld ?r3
    case y3 => intro w hSw; obtain ⟨z1, -⟩ := hSw; go_simp; with_reducible rfl
    simp only [Act.put, List.setIfInBounds_toArray, List.set_cons_zero, List.set_cons_succ]
    refine wpAnyH_take (i := 4) (v := ?v4) (by simp; rfl) (by kernel_rfl) (by kernel_rfl) (by kernel_rfl) (fun _ _ _ h => h) (Or.inl ⟨by rfl, ?y4⟩) hHeld ?r4
    case y4 => intro w hSw; obtain ⟨z1, -⟩ := hSw; go_simp; with_reducible rfl
    simp only [Act.put, List.setIfInBounds_toArray, List.set_cons_zero, List.set_cons_succ]
    have B1d : Hid (Below w1.heap.size w1 w1.drew) := ⟨rfl, rfl, rfl, Nat.le_refl _, fun _ _ => rfl⟩
    have szd : w1.heap.size ≤ w1.drew.heap.size := Nat.le_refl _
    have S1d : Hid (w1.drew.cell? ⟨b, o + 1, none⟩ = some (.int .u8 k) ∧ BIn w1.drew (some ⟨b, o, none⟩) 64 xs) := hHeld
    generalize w1.drew = wd at *
    have SAL : Hid ((wd.alloc (.cells (rcells rec0).toArray 77)).cell? ⟨b, o + 1, none⟩ = some (.int .u8 k) ∧ BIn (wd.alloc (.cells (rcells rec0).toArray 77)) (some ⟨b, o, none⟩) 64 xs) := ⟨((below_alloc wd _).cell (p := ⟨b, o + 1, none⟩) (World.block_lt_of_cell? wd _ S1d.out.1)).trans S1d.out.1, S1d.out.2.later (below_alloc wd _)⟩
    have SST : Hid ((wd.alloc (.cells (rcells ⟨k, u, 0, zs 32, 0⟩).toArray 77)).cell? ⟨b, o + 1, none⟩ = some (.int .u8 k) ∧ BIn (wd.alloc (.cells (rcells ⟨k, u, 0, zs 32, 0⟩).toArray 77)) (some ⟨b, o, none⟩) 64 xs) := ⟨((below_alloc wd _).cell (p := ⟨b, o + 1, none⟩) (World.block_lt_of_cell? wd _ S1d.out.1)).trans S1d.out.1, S1d.out.2.later (below_alloc wd _)⟩
    refine wpAnyH_ready (rs := [5, 7]) (by kernel_rfl) (by simp) ?_
    refine AllReadyH.cons (by simp; rfl) (fun Kc hKc => ?_) (AllReadyH.cons (by simp; rfl) (fun Kc hKc => ?_) AllReadyH.nil)
    · go_simp
      refine (NUM8.out wd S1d.out.2).mono ?_
      rintro e w' ⟨rfl, rfl⟩
      refine hKc.out _ _ S1d.out (fun hHeld => ?_)
      clear hKc Kc
      refine wpAnyH_take (i := 6) (v := _) (by simp; rfl) (by kernel_rfl) (by kernel_rfl) (by kernel_rfl) (fun _ _ _ h => h) (yields_build_is (vs := [(0, .int .i64 k), (1, .int .u64 u)]) (by rfl) 77 rfl (by rfl) BK.out) hHeld ?_
      simp only [Act.put, List.setIfInBounds_toArray, List.set_cons_zero, List.set_cons_succ]
      refine wpAnyH_ready (rs := [7]) (by kernel_rfl) (by simp) ?_
      refine AllReadyH.cons (by simp; rfl) (fun Kc hKc => ?_) AllReadyH.nil
      rw [if_pos (by rfl)]
      refine wp_alloc_is 77 rfl (alloc37 wd) ?_
      simp only [Act.put, List.setIfInBounds_toArray, List.set_cons_zero, List.set_cons_succ]
      refine hKc.out _ _ SAL.out (fun hHeld => ?_)
      clear hKc Kc
      refine wpAnyH_ready (rs := [8]) (by kernel_rfl) (by simp) ?_
      refine AllReadyH.cons (by simp; rfl) (fun Kc hKc => ?_) AllReadyH.nil
      rw [if_pos (by rfl)]
      refine wp_store_is 77 rfl rfl rfl (store_new size37 wd ⟨k, u, 0, zs 32, 0⟩ (zs_len 32)) ?_
      simp only [Act.put]
      refine hKc.out _ _ SST.out (fun hHeld => ?_)
      clear hKc Kc
      refine wpAnyH_done (by kernel_rfl) (NoPanic.normal ?_) _
      exact ⟨wd.heap.size, rfl, ⟨RAt.new 77 wd _, szd, below_then B1d.out (below_alloc wd _)⟩, rfl⟩
    · rw [if_pos (by rfl)]
      refine wp_alloc_is 77 rfl (alloc37 wd) ?_
      simp only [Act.put, List.setIfInBounds_toArray, List.set_cons_zero, List.set_cons_succ]
      refine hKc.out _ _ SAL.out (fun hHeld => ?_)
      clear hKc Kc
      refine wpAnyH_ready (rs := [5]) (by kernel_rfl) (by simp) ?_
      refine AllReadyH.cons (by simp; rfl) (fun Kc hKc => ?_) AllReadyH.nil
      go_simp
      refine (NUM8.out _ SAL.out.2).mono ?_
      rintro e w' ⟨rfl, rfl⟩
      refine hKc.out _ _ SAL.out (fun hHeld => ?_)
      clear hKc Kc
      refine wpAnyH_take (i := 6) (v := _) (by simp; rfl) (by kernel_rfl) (by kernel_rfl) (by kernel_rfl) (fun _ _ _ h => h) (yields_build_is (vs := [(0, .int .i64 k), (1, .int .u64 u)]) (by rfl) 77 rfl (by rfl) BK.out) hHeld ?_
      simp only [Act.put, List.setIfInBounds_toArray, List.set_cons_zero, List.set_cons_succ]
      refine wpAnyH_ready (rs := [8]) (by kernel_rfl) (by simp) ?_
      refine AllReadyH.cons (by simp; rfl) (fun Kc hKc => ?_) AllReadyH.nil
      rw [if_pos (by rfl)]
      refine wp_store_is 77 rfl rfl rfl (store_new size37 wd ⟨k, u, 0, zs 32, 0⟩ (zs_len 32)) ?_
      simp only [Act.put]
      refine hKc.out _ _ SST.out (fun hHeld => ?_)
      clear hKc Kc
      refine wpAnyH_done (by kernel_rfl) (NoPanic.normal ?_) _
      exact ⟨wd.heap.size, rfl, ⟨RAt.new 77 wd _, szd, below_then B1d.out (below_alloc wd _)⟩, rfl⟩
  case rest =>
    rintro e a w2 ⟨g4, rfl, HF, rfl⟩
    have R2 : Hid (RAt 77 w2 g4 ⟨k, u, 0, zs 32, 0⟩) := HF.out.1
    have G2 : Hid (w1.heap.size ≤ g4 ∧ w.heap.size < w1.heap.size) := ⟨HF.out.2.1, R1.out.lt⟩
    have B2 : Hid (Below w1.heap.size w1 w2) := HF.out.2.2
    have X2 : Hid (BIn w2 (some ⟨b, o, none⟩) 64 xs) := X1.out.later HF.out.2.2
    clear HF x1 BK NUM8
    go_wp2_with fail
    refine (NUM4.out w2 X2.out).mono ?_
    rintro e w3 ⟨rfl, rfl⟩
    have mw : IntKind.i64.wrap m = m := by rw [IntKind.wrap_i64]; omega
    have c0 := R2.out.c0
    have c2 := R2.out.c2
    have c35 := R2.out.c35 (zs_len 32)
    have f2 := frozen_of_row w2 g4 2 _ 77 R2.out
    have f35 := frozen_of_row w2 g4 35 _ 77 R2.out
    by_cases hk : k = 1
    · subst hk
      have R3 : Hid (RAt 77 (w2.setCell ⟨g4, 2, none⟩ (.int .i64 m)) g4 ⟨1, u, m, zs 32, 0⟩) := R2.out.setb m
      have B3 : Hid (Below w1.heap.size w1 (w2.setCell ⟨g4, 2, none⟩ (.int .i64 m))) := B2.out.setCell G2.out.1 _
      have HE : Hid (readS xs = ⟨1, u, m, V, 0⟩) := by show _ = _; rw [HRS.out, if_pos rfl, if_pos rfl]
      go_wp2_with fail
      clear mw c0 c2 c35 f2 f35 NUM4 kw R2 B2
      generalize w2.setCell ⟨g4, 2, none⟩ (.int .i64 m) = w3 at *
      go_loopw [6] (fun i wr => ∃ j : Nat, j ≤ 32 ∧ i = .int .i64 j ∧ Hid (RAt 77 wr g4 ⟨1, u, m, filled V j, 0⟩ ∧ Below w1.heap.size w1 wr)) (fun i _ => 32 - (intOf i).toNat)
      case atStart => exact ⟨0, by omega, rfl, by have := R3.out; rw [filled_zero, HVL.out]; exact this, B3.out⟩
      case round =>
        obtain ⟨j, hj, rfl, HR⟩ := hrel
        clear R3 B3
        by_cases hlt : j < 32
        · have hjv : j < V.length := by rw [HVL.out]; exact hlt
          have hfl : (filled V j).length = 32 := (filled_length V j (by omega)).trans HVL.out
          have xc := (X1.out.later HR.out.2).cell (16 + j) (by omega)
          rw [HXG.out j hlt, show V.getD j 0 = V[j] by simp [List.getD, List.getElem?_eq_getElem hjv]] at xc
          have hcell : wr.cell? ⟨g4, 3 + j, none⟩ = some (.int .u8 (filled V j)[j]) := (HR.out.1.cell (3 + j)).trans (rcells_val ⟨1, u, m, filled V j, 0⟩ j (by show j < (filled V j).length; omega))
          have hfz := frozen_of_row wr g4 (3 + j) _ 77 HR.out.1
          have HQ : Hid (RAt 77 (wr.setCell ⟨g4, 3 + j, none⟩ (.int .u8 V[j])) g4 ⟨1, u, m, filled V (j + 1), 0⟩ ∧ Below w1.heap.size w1 (wr.setCell ⟨g4, 3 + j, none⟩ (.int .u8 V[j]))) := by
            refine ⟨?_, HR.out.2.setCell G2.out.1 _⟩
            have := HR.out.1.setv j V[j] (by show j < (filled V j).length; omega)
            rw [filled_step V j hjv] at this
            exact this
          clear HR
          generalize V[j] = x at *
          generalize (filled V j)[j] = x0 at *
          clear hjv hfl
          have i1 : (16 : Int) + (j : Int) < 64 := by omega
          have i0 : (0 : Int) ≤ (16 : Int) + (j : Int) := by omega
          go_wp2_with fail
          go_roundw
          case rel => exact ⟨j + 1, by omega, by go_num, HQ.out⟩
          case measure => simp [intOf]; omega
        · obtain ⟨w4, hw4⟩ : ∃ w4, w4 = wr := ⟨_, rfl⟩
          subst hw4
          have R4 : Hid (RAt 77 w4 g4 (readS xs)) := by
            have := HR.out.1
            rw [filled_all V j (by rw [HVL.out]; omega)] at this
            rw [HE.out]
            exact this
          have B4 : Hid (Below w1.heap.size w1 w4) := HR.out.2
          have Z4 : Hid (RAt 77 w4 w.heap.size rec0) := R1.out.later B4.out
          have X4 : Hid (BIn w4 (some ⟨b, o, none⟩) 64 xs) := X1.out.later B4.out
          clear HR HE
          have L4 : Hid (_) := R4.out.load37 HW.out.len
          obtain ⟨r, hr⟩ : ∃ r, r = readS xs := ⟨_, rfl⟩
          have HRR : Hid (r = readS xs) := hr
          rw [← hr] at HW R4 L4
          clear hr HRS
          go_wp2_with ((with_reducible refine at_seq ?_); (refine wpList_load_is (by rfl) 77 rfl rfl L4.out ?_); simp only [Act.put, List.setIfInBounds_toArray, List.set_cons_zero, List.set_cons_succ])
          refine (refEncode_any r HW.out w4).mono ?_
          rintro e w5 ⟨p5, n5, c5, rfl, -, m5⟩
          have R5 : Hid (RAt 77 w5 g4 r) := R4.out.later m5.below
          have Z5 : Hid (RAt 77 w5 w.heap.size rec0) := Z4.out.later m5.below
          have B5 : Hid (Below w.heap.size w w5) := below_then B1.out (below_then B4.out m5.below)
          have q2 := (X4.out.later m5.below).str c
          have q1 := m5.read.str c5
          have HB5 : Hid (Bytes (encT r)) := m5.read.byte
          have L5 : Hid (_) := R5.out.load37 HW.out.len
          have ST : Hid (_) := Z5.out.store (s := r) size37 rec0_len HW.out.len
          have SZ : Hid (_) := Z5.out.store (s := rec0) size37 rec0_len rec0_len
          have BZ : Hid (_) := build37 w5 #[] rec0 fill_none
          have F1 : Hid (RAt 77 (w5.setRow w.heap.size (rcells r).toArray) w.heap.size r ∧ Below w.heap.size w (w5.setRow w.heap.size (rcells r).toArray)) := ⟨Z5.out.stored _, below_setRow B5.out (Nat.le_refl _) _⟩
          have F0 : Hid (RAt 77 (w5.setRow w.heap.size (rcells rec0).toArray) w.heap.size rec0 ∧ Below w.heap.size w (w5.setRow w.heap.size (rcells rec0).toArray)) := ⟨Z5.out.stored _, below_setRow B5.out (Nat.le_refl _) _⟩
          have HSE : Hid (_) := str_eq (encT r) xs HB5.out HB.out
          clear m5 R4 Z4 X4 B4 L4
          by_cases hm : may r = true
          · rw [chk_yes r hm]
            by_cases he : encS r = xs
            · have hq : ((strOfNums (encT r)).toList == (strOfNums xs).toList) = true := by rw [HSE.out, encT_yes r hm, he]; simp
              have hq2 : ((strOfNums (encT r)).toList != (strOfNums xs).toList) = false := by rw [bne, hq]; rfl
              have HD : Hid (decS xs = (r, 0)) := by
                show _ = _
                rw [decS_ok xs HL.out (by unfold goodB; rw [← HRR.out, hm, he]; simp), HRR.out]
              clear he hm
              go_wp2_with ((with_reducible refine at_seq ?_); (first | (refine wpList_store_is (by rfl) 77 rfl rfl rfl ST.out ?_) | (refine wpList_load_is (by rfl) 77 rfl rfl L5.out ?_)); simp only [Act.put, List.setIfInBounds_toArray, List.set_cons_zero, List.set_cons_succ])
              rw [HD.out]
              exact bodyPost_ret (results_rec Tryz.results41 _ _ w.heap.size 77 _ _ (by rfl) F1.out.1 HW.out.len Tryz.underlying77 rfl size37) rfl ⟨rfl, F1.out.2⟩
            · have hq : ((strOfNums (encT r)).toList == (strOfNums xs).toList) = false := by rw [HSE.out, encT_yes r hm]; simp [he]
              have hq2 : ((strOfNums (encT r)).toList != (strOfNums xs).toList) = true := by rw [bne, hq]; rfl
              have HD : Hid (decS xs = (rec0, 60)) := decS_bad xs HL.out (by unfold goodB; rw [← HRR.out, hm]; simp [he])
              clear he hm
              go_wp2_with ((with_reducible refine at_seq ?_); (first | (refine wpList_store_is (by rfl) 77 rfl rfl rfl SZ.out ?_) | (refine wpList_build_is (vs := []) (by rfl) 77 rfl (by rfl) BZ.out ?_)); simp only [Act.put, List.setIfInBounds_toArray, List.set_cons_zero, List.set_cons_succ])
              rw [HD.out]
              exact bodyPost_ret (results_rec Tryz.results41 _ _ w.heap.size 77 _ _ (by rfl) F0.out.1 rec0_len Tryz.underlying77 rfl size37) rfl ⟨rfl, F0.out.2⟩
          · rw [chk_no r hm]
            have HD : Hid (decS xs = (rec0, 60)) := decS_bad xs HL.out (by unfold goodB; rw [← HRR.out]; simp [hm])
            clear hm
            go_wp2_with ((with_reducible refine at_seq ?_); (first | (refine wpList_store_is (by rfl) 77 rfl rfl rfl SZ.out ?_) | (refine wpList_build_is (vs := []) (by rfl) 77 rfl (by rfl) BZ.out ?_)); simp only [Act.put, List.setIfInBounds_toArray, List.set_cons_zero, List.set_cons_succ])
            rw [HD.out]
            exact bodyPost_ret (results_rec Tryz.results41 _ _ w.heap.size 77 _ _ (by rfl) F0.out.1 rec0_len Tryz.underlying77 rfl size37) rfl ⟨rfl, F0.out.2⟩
    · have R3 : Hid (RAt 77 (w2.setCell ⟨g4, 35, none⟩ (.int .i64 m)) g4 ⟨k, u, 0, zs 32, m⟩) := R2.out.seti (zs_len 32) m
      have B3 : Hid (Below w1.heap.size w1 (w2.setCell ⟨g4, 35, none⟩ (.int .i64 m))) := B2.out.setCell G2.out.1 _
      have HE : Hid (readS xs = ⟨k, u, 0, V, m⟩) := by show _ = _; rw [HRS.out, if_neg hk, if_neg hk]
      go_wp2_with fail
      clear mw c0 c2 c35 f2 f35 NUM4 kw R2 B2
      generalize w2.setCell ⟨g4, 35, none⟩ (.int .i64 m) = w3 at *
      go_loopw [6] (fun i wr => ∃ j : Nat, j ≤ 32 ∧ i = .int .i64 j ∧ Hid (RAt 77 wr g4 ⟨k, u, 0, filled V j, m⟩ ∧ Below w1.heap.size w1 wr)) (fun i _ => 32 - (intOf i).toNat)
      case atStart => exact ⟨0, by omega, rfl, by have := R3.out; rw [filled_zero, HVL.out]; exact this, B3.out⟩
      case round =>
        obtain ⟨j, hj, rfl, HR⟩ := hrel
        clear R3 B3
        by_cases hlt : j < 32
        · have hjv : j < V.length := by rw [HVL.out]; exact hlt
          have hfl : (filled V j).length = 32 := (filled_length V j (by omega)).trans HVL.out
          have xc := (X1.out.later HR.out.2).cell (16 + j) (by omega)
          rw [HXG.out j hlt, show V.getD j 0 = V[j] by simp [List.getD, List.getElem?_eq_getElem hjv]] at xc
          have hcell : wr.cell? ⟨g4, 3 + j, none⟩ = some (.int .u8 (filled V j)[j]) := (HR.out.1.cell (3 + j)).trans (rcells_val ⟨k, u, 0, filled V j, m⟩ j (by show j < (filled V j).length; omega))
          have hfz := frozen_of_row wr g4 (3 + j) _ 77 HR.out.1
          have HQ : Hid (RAt 77 (wr.setCell ⟨g4, 3 + j, none⟩ (.int .u8 V[j])) g4 ⟨k, u, 0, filled V (j + 1), m⟩ ∧ Below w1.heap.size w1 (wr.setCell ⟨g4, 3 + j, none⟩ (.int .u8 V[j]))) := by
            refine ⟨?_, HR.out.2.setCell G2.out.1 _⟩
            have := HR.out.1.setv j V[j] (by show j < (filled V j).length; omega)
            rw [filled_step V j hjv] at this
            exact this
          clear HR
          generalize V[j] = x at *
          generalize (filled V j)[j] = x0 at *
          clear hjv hfl
          have i1 : (16 : Int) + (j : Int) < 64 := by omega
          have i0 : (0 : Int) ≤ (16 : Int) + (j : Int) := by omega
          go_wp2_with fail
          go_roundw
          case rel => exact ⟨j + 1, by omega, by go_num, HQ.out⟩
          case measure => simp [intOf]; omega
        · obtain ⟨w4, hw4⟩ : ∃ w4, w4 = wr := ⟨_, rfl⟩
          subst hw4
          have R4 : Hid (RAt 77 w4 g4 (readS xs)) := by
            have := HR.out.1
            rw [filled_all V j (by rw [HVL.out]; omega)] at this
            rw [HE.out]
            exact this
          have B4 : Hid (Below w1.heap.size w1 w4) := HR.out.2
          have Z4 : Hid (RAt 77 w4 w.heap.size rec0) := R1.out.later B4.out
          have X4 : Hid (BIn w4 (some ⟨b, o, none⟩) 64 xs) := X1.out.later B4.out
          clear HR HE
          have L4 : Hid (_) := R4.out.load37 HW.out.len
          obtain ⟨r, hr⟩ : ∃ r, r = readS xs := ⟨_, rfl⟩
          have HRR : Hid (r = readS xs) := hr
          rw [← hr] at HW R4 L4
          clear hr HRS
          go_wp2_with ((with_reducible refine at_seq ?_); (refine wpList_load_is (by rfl) 77 rfl rfl L4.out ?_); simp only [Act.put, List.setIfInBounds_toArray, List.set_cons_zero, List.set_cons_succ])
          refine (refEncode_any r HW.out w4).mono ?_
          rintro e w5 ⟨p5, n5, c5, rfl, -, m5⟩
          have R5 : Hid (RAt 77 w5 g4 r) := R4.out.later m5.below
          have Z5 : Hid (RAt 77 w5 w.heap.size rec0) := Z4.out.later m5.below
          have B5 : Hid (Below w.heap.size w w5) := below_then B1.out (below_then B4.out m5.below)
          have q2 := (X4.out.later m5.below).str c
          have q1 := m5.read.str c5
          have HB5 : Hid (Bytes (encT r)) := m5.read.byte
          have L5 : Hid (_) := R5.out.load37 HW.out.len
          have ST : Hid (_) := Z5.out.store (s := r) size37 rec0_len HW.out.len
          have SZ : Hid (_) := Z5.out.store (s := rec0) size37 rec0_len rec0_len
          have BZ : Hid (_) := build37 w5 #[] rec0 fill_none
          have F1 : Hid (RAt 77 (w5.setRow w.heap.size (rcells r).toArray) w.heap.size r ∧ Below w.heap.size w (w5.setRow w.heap.size (rcells r).toArray)) := ⟨Z5.out.stored _, below_setRow B5.out (Nat.le_refl _) _⟩
          have F0 : Hid (RAt 77 (w5.setRow w.heap.size (rcells rec0).toArray) w.heap.size rec0 ∧ Below w.heap.size w (w5.setRow w.heap.size (rcells rec0).toArray)) := ⟨Z5.out.stored _, below_setRow B5.out (Nat.le_refl _) _⟩
          have HSE : Hid (_) := str_eq (encT r) xs HB5.out HB.out
          clear m5 R4 Z4 X4 B4 L4
          by_cases hm : may r = true
          · rw [chk_yes r hm]
            by_cases he : encS r = xs
            · have hq : ((strOfNums (encT r)).toList == (strOfNums xs).toList) = true := by rw [HSE.out, encT_yes r hm, he]; simp
              have hq2 : ((strOfNums (encT r)).toList != (strOfNums xs).toList) = false := by rw [bne, hq]; rfl
              have HD : Hid (decS xs = (r, 0)) := by
                show _ = _
                rw [decS_ok xs HL.out (by unfold goodB; rw [← HRR.out, hm, he]; simp), HRR.out]
              clear he hm
              go_wp2_with ((with_reducible refine at_seq ?_); (first | (refine wpList_store_is (by rfl) 77 rfl rfl rfl ST.out ?_) | (refine wpList_load_is (by rfl) 77 rfl rfl L5.out ?_)); simp only [Act.put, List.setIfInBounds_toArray, List.set_cons_zero, List.set_cons_succ])
              rw [HD.out]
              exact bodyPost_ret (results_rec Tryz.results41 _ _ w.heap.size 77 _ _ (by rfl) F1.out.1 HW.out.len Tryz.underlying77 rfl size37) rfl ⟨rfl, F1.out.2⟩
            · have hq : ((strOfNums (encT r)).toList == (strOfNums xs).toList) = false := by rw [HSE.out, encT_yes r hm]; simp [he]
              have hq2 : ((strOfNums (encT r)).toList != (strOfNums xs).toList) = true := by rw [bne, hq]; rfl
              have HD : Hid (decS xs = (rec0, 60)) := decS_bad xs HL.out (by unfold goodB; rw [← HRR.out, hm]; simp [he])
              clear he hm
              go_wp2_with ((with_reducible refine at_seq ?_); (first | (refine wpList_store_is (by rfl) 77 rfl rfl rfl SZ.out ?_) | (refine wpList_build_is (vs := []) (by rfl) 77 rfl (by rfl) BZ.out ?_)); simp only [Act.put, List.setIfInBounds_toArray, List.set_cons_zero, List.set_cons_succ])
              rw [HD.out]
              exact bodyPost_ret (results_rec Tryz.results41 _ _ w.heap.size 77 _ _ (by rfl) F0.out.1 rec0_len Tryz.underlying77 rfl size37) rfl ⟨rfl, F0.out.2⟩
          · rw [chk_no r hm]
            have HD : Hid (decS xs = (rec0, 60)) := decS_bad xs HL.out (by unfold goodB; rw [← HRR.out]; simp [hm])
            clear hm
            go_wp2_with ((with_reducible refine at_seq ?_); (first | (refine wpList_store_is (by rfl) 77 rfl rfl rfl SZ.out ?_) | (refine wpList_build_is (vs := []) (by rfl) 77 rfl (by rfl) BZ.out ?_)); simp only [Act.put, List.setIfInBounds_toArray, List.set_cons_zero, List.set_cons_succ])
            rw [HD.out]
            exact bodyPost_ret (results_rec Tryz.results41 _ _ w.heap.size 77 _ _ (by rfl) F0.out.1 rec0_len Tryz.underlying77 rfl size37) rfl ⟨rfl, F0.out.2⟩
/-- the document's Decode, of whatever bytes: its answers -/
theorem refDecode_any (p : Option Addr) (n c : Nat) (xs : List Int) (w : World) (hx : BIn w p n xs) :
    Calls Tryz.prog 41 #[.slice p n c] w fun e w' => e = .returned (.tuple #[.agg (rcells (decS xs).1).toArray, .int .i64 (decS xs).2]) ∧ Below w.heap.size w w' := by
  by_cases h : n = 64
  · subst h
    exact refDecode_64 p c xs w hx
  · rw [decS_len xs (by rw [hx.len]; exact h)]
    exact refDecode_len p n c w h
end Go.Proofs.YtefnkjajjidfaaaGreatDoor.R
namespace Go.Proofs.YtefnkjajjidfaaaGreatDoor
open Go.RowKit
set_option maxHeartbeats 1000000 in
set_option maxRecDepth 100000 in
theorem refSum_pos (b o n c : Nat) (xs : List Int) (w : World) (h : BIn w (some ⟨b, o, none⟩) n xs) (h0 : 0 < n) (hbig : n ≤ 140737488355328) :
    Calls Tryz.prog 78 #[.slice (some ⟨b, o, none⟩) n c] w fun e w' => e = .returned (.int .u32 (crc xs : Nat)) ∧ w = w' := by
  obtain ⟨b', o', e, hcs⟩ := h.cells h0
  simp only [Option.some.injEq, Addr.mk.injEq, and_true] at e
  obtain ⟨rfl, rfl⟩ := e
  have HC : Hid (∀ i, i < n → w.cell? ⟨b, o + i, none⟩ = some (.int .u8 (xs.getD i 0))) := hcs
  have HX : Hid (xs.length = n) := h.len
  have HK : Hid (Bytes xs) := h.byte
  clear hcs h
  go_enter Tryz.func78, Tryz.ntmps78
  go_wp2
  go_loop [3, 4] (fun x i => ∃ j : Nat, j ≤ n ∧ i = .int .i64 j ∧ x = .int .u32 (st 4294967295 (xs.take j) : Nat)) (fun _ i => n - (intOf i).toNat)
  case atStart => exact ⟨0, Nat.zero_le _, rfl, rfl⟩
  case round =>
    obtain ⟨j, hj, rfl, rfl⟩ := hrel
    have hlj := st_lt 4294967295 (xs.take j) (by omega) (HK.out.take j)
    by_cases hjl : j < n
    · have hcj := HC.out j hjl
      have hjx : j < xs.length := by rw [HX.out]; exact hjl
      have hb := HK.out.at j hjx
      have HJ : Hid (st 4294967295 (xs.take (j + 1)) = hn 8 (st 4294967295 (xs.take j) ^^^ xs[j].toNat)) := st_step _ xs j hjx
      rw [show xs.getD j 0 = xs[j] by simp [List.getD, List.getElem?_eq_getElem hjx]] at hcj
      obtain ⟨z, hz⟩ : ∃ z, z = st 4294967295 (xs.take j) := ⟨_, rfl⟩
      rw [← hz] at hlj HJ ⊢
      obtain ⟨q, hq⟩ : ∃ q, q = xs[j] := ⟨_, rfl⟩
      rw [← hq] at hb HJ hcj
      obtain ⟨hb0, hb1⟩ := hb
      clear hz hq
      obtain ⟨y, hy⟩ : ∃ y, y = z ^^^ q.toNat := ⟨_, rfl⟩
      have hyl : y < 4294967296 := by rw [hy]; exact xor_lt _ _ hlj (by omega)
      have h1 : bits .xor .u32 (z : Int) q = (y : Int) := by
        rw [hy, ← u32_xor_nat z q.toNat hlj (by omega)]
        congr 1
        omega
      rw [← hy] at HJ
      clear hy
      go_wp2
      go_loop [3, 5] (fun v i => ∃ k : Nat, k ≤ 8 ∧ i = .int .i64 k ∧ v = .int .u32 (hn k y : Nat)) (fun _ i => 8 - (intOf i).toNat)
      case atStart => exact ⟨0, by omega, rfl, rfl⟩
      case round =>
        obtain ⟨k, hk, rfl, rfl⟩ := hrel
        by_cases hlt : k < 8
        · have hl := hn_lt k y hyl
          have HN : Hid (hn (k + 1) y = hv (hn k y)) := hn_next k y
          obtain ⟨x, hx⟩ : ∃ x, x = hn k y := ⟨_, rfl⟩
          rw [← hx] at HN hl ⊢
          clear hx
          by_cases hodd : x % 2 = 1
          · have hx2 := u32_xor_nat (x / 2) 3988292384 (by omega) (by omega)
            have HV : Hid (hv x = x / 2 ^^^ 3988292384) := by show _ = _; unfold hv; rw [if_pos hodd]
            have ho' : (x : Int) % 2 = 1 := by omega
            have hx3 : bits .xor .u32 ((x : Int) / 2) 3988292384 = ((x / 2 ^^^ 3988292384 : Nat) : Int) := hx2
            clear hx2
            go_wp2
            go_round
            case rel => exact ⟨k + 1, by omega, by go_num, by rw [HN.out, HV.out]⟩
            case measure => simp [intOf]; omega
          · have HV : Hid (hv x = x / 2) := by show _ = _; unfold hv; rw [if_neg hodd, Nat.xor_zero]
            have ho' : ¬ (x : Int) % 2 = 1 := by omega
            go_wp2
            go_round
            case rel => exact ⟨k + 1, by omega, by go_num, by rw [HN.out, HV.out]; rfl⟩
            case measure => simp [intOf]; omega
        · obtain rfl : k = 8 := by omega
          rw [← HJ.out]
          go_wp2
          go_round
          case rel => exact ⟨j + 1, by omega, by go_num, rfl⟩
          case measure => simp [intOf]; omega
    · have HA : Hid (xs.take j = xs) := List.take_of_length_le (by rw [HX.out]; omega)
      have hxo := u32_xor_nat _ 4294967295 hlj (by omega)
      have HO : Hid (bits .xor .u32 ((st 4294967295 (xs.take j) : Nat) : Int) 4294967295 = ((crc xs : Nat) : Int)) := by
        show _ = _
        rw [crc, ← HA.out]
        simpa [HA.out] using hxo
      clear hxo
      go_wp2
      go_ret
      refine ⟨?_, rfl⟩
      rw [← HO.out]
      rfl
set_option maxHeartbeats 2000000 in
set_option maxRecDepth 100000 in
theorem refConfig_any (s : Sup) (w : World) :
    Calls Tryz.prog 21 #[.agg (ccells s).toArray] w fun e w' => e = .returned (.int .i64 (cfg s)) ∧ Below w.heap.size w w' := by
  have hA : CAt (w.alloc (.cells (ccells s).toArray 23)) w.heap.size s := LAt.new 23 w (ccells s)
  have c0 := CAt.c0 hA
  have c1 := CAt.c1 hA
  have c2 := CAt.c2 hA
  have c3 := CAt.c3 hA
  have c4 := CAt.c4 hA
  have HB : Hid (Below w.heap.size w (w.alloc (.cells (ccells s).toArray 23))) := below_alloc w _
  have HC1 : Hid (MayC s → cfg s = 0) := cfg_yes s
  have HC0 : Hid (¬ MayC s → cfg s = 3) := cfg_no s
  clear hA
  go_enter Tryz.func21, Tryz.ntmps21
  by_cases h1 : (1 ≤ s.bl ∧ s.bl ≤ 64) ∧ (2 ≤ s.lc ∧ s.lc ≤ 64)
  · obtain ⟨⟨a1, a2⟩, a3, a4⟩ := h1
    by_cases h2 : (1 ≤ s.mr ∧ s.mr ≤ 16 ∧ s.mr ≤ s.bl ∧ s.mr ≤ s.lc - 1)
    · obtain ⟨a5, a6, a7, a8⟩ := h2
      by_cases h3 : (1 ≤ s.hi ∧ s.hi ≤ s.lc) ∧ (1 ≤ s.cl ∧ s.cl ≤ 8)
      · have HE : Hid (cfg s = 0) := HC1.out ⟨⟨a1, a2⟩, ⟨a3, a4⟩, ⟨a5, a6, a7, a8⟩, h3.1, h3.2⟩
        obtain ⟨⟨b1, b2⟩, b3, b4⟩ := h3
        go_wp2
        go_ret
        exact ⟨by rw [HE.out]; rfl, HB.out⟩
      · have HE : Hid (cfg s = 3) := HC0.out fun h => h3 ⟨h.2.2.2.1, h.2.2.2.2⟩
        have h3' : s.hi < 1 ∨ (1 ≤ s.hi ∧ s.lc < s.hi) ∨ ((1 ≤ s.hi ∧ s.hi ≤ s.lc) ∧ s.cl < 1) ∨ ((1 ≤ s.hi ∧ s.hi ≤ s.lc) ∧ 1 ≤ s.cl ∧ 8 < s.cl) := by omega
        clear h3
        rcases h3' with h | ⟨h, h'⟩ | ⟨⟨h, h'⟩, h''⟩ | ⟨⟨h, h'⟩, h'', h'''⟩ <;> go_wp2 <;> go_ret <;> exact ⟨by rw [HE.out]; rfl, HB.out⟩
    · have HE : Hid (cfg s = 3) := HC0.out fun h => h2 h.2.2.1
      have h2' : s.mr < 1 ∨ (1 ≤ s.mr ∧ 16 < s.mr) ∨ ((1 ≤ s.mr ∧ s.mr ≤ 16) ∧ s.bl < s.mr) ∨ ((1 ≤ s.mr ∧ s.mr ≤ 16) ∧ s.mr ≤ s.bl ∧ s.lc - 1 < s.mr) := by omega
      clear h2
      rcases h2' with h | ⟨h, h'⟩ | ⟨⟨h, h'⟩, h''⟩ | ⟨⟨h, h'⟩, h'', h'''⟩ <;> go_wp2 <;> go_ret <;> exact ⟨by rw [HE.out]; rfl, HB.out⟩
  · have HE : Hid (cfg s = 3) := HC0.out fun h => h1 ⟨h.1, h.2.1⟩
    have h1' : s.bl < 1 ∨ (1 ≤ s.bl ∧ 64 < s.bl) ∨ ((1 ≤ s.bl ∧ s.bl ≤ 64) ∧ s.lc < 2) ∨ ((1 ≤ s.bl ∧ s.bl ≤ 64) ∧ 2 ≤ s.lc ∧ 64 < s.lc) := by omega
    clear h1
    rcases h1' with h | ⟨h, h'⟩ | ⟨⟨h, h'⟩, h''⟩ | ⟨⟨h, h'⟩, h'', h'''⟩ <;> go_wp2 <;> go_ret <;> exact ⟨by rw [HE.out]; rfl, HB.out⟩
set_option maxHeartbeats 1000000 in
set_option maxRecDepth 100000 in
theorem refCheck_any (s : Sup) (w : World) :
    Calls Tryz.prog 61 #[.agg (scells s).toArray] w fun e w' => e = .returned (.int .i64 (chk s)) ∧ Below w.heap.size w w' := by
  have HA : Hid (SAt 73 (w.alloc (.cells (scells s).toArray 73)) w.heap.size s) := LAt.new 73 w (scells s)
  have L1 : Hid (_) := SAt.load23 HA.out
  have HB : Hid (Below w.heap.size w (w.alloc (.cells (scells s).toArray 73))) := below_alloc w _
  go_enter Tryz.func61, Tryz.ntmps61
  go_wp2_with ((with_reducible refine at_ops ?_); (refine wpList_load_is (by rfl) 23 rfl rfl L1.out ?_); simp only [Act.put, List.setIfInBounds_toArray, List.set_cons_zero, List.set_cons_succ])
  refine (refConfig_any s _).mono ?_
  rintro e w1 ⟨rfl, b1⟩
  have HA1 : Hid (SAt 73 w1 w.heap.size s) := LAt.later HA.out b1
  have HB1 : Hid (Below w.heap.size w w1) := below_then HB.out b1
  have c5 := SAt.c5 HA1.out
  have c6 := SAt.c6 HA1.out
  clear b1 HA HB L1
  by_cases hc : MayC s
  · rw [cfg_yes s hc]
    by_cases ht : MayT s
    · have h1 := ht.1
      have h2 := ht.2.1
      have h3 := ht.2.2
      have HE : Hid (chk s = 0) := chk_yes s ⟨hc, ht⟩
      clear hc ht
      go_wp2
      go_ret
      exact ⟨by rw [HE.out]; rfl, HB1.out⟩
    · have HE : Hid (chk s = 70) := chk_t s hc ht
      have ht' : 4611686018427387904 < s.tail ∨ (s.tail ≤ 4611686018427387904 ∧ s.life < 1) ∨ (s.tail ≤ 4611686018427387904 ∧ 1 ≤ s.life ∧ 4611686018427387904 < s.life) := by simp only [MayT] at ht; omega
      clear hc ht
      rcases ht' with h | ⟨h, h'⟩ | ⟨h, h', h''⟩ <;> go_wp2 <;> go_ret <;> exact ⟨by rw [HE.out]; rfl, HB1.out⟩
  · rw [cfg_no s hc]
    have HE : Hid (chk s = 3) := chk_c s hc
    clear hc
    go_wp2_with fail
    go_ret
    exact ⟨by rw [HE.out]; rfl, HB1.out⟩
theorem worth_drop (D : List Int) (k : Nat) (h : k < D.length) : worth (D.drop k) = D[k] + 256 * worth (D.drop (k + 1)) := by
  rw [List.drop_eq_getElem_cons h]; rfl
set_option maxHeartbeats 1000000 in
set_option maxRecDepth 100000 in
theorem eight_any (b o c : Nat) (D : List Int) (w : World) (h : BIn w (some ⟨b, o, none⟩) 8 D) :
    Calls Tryz.prog 39 #[.slice (some ⟨b, o, none⟩) 8 c] w fun e w' => e = .returned (.int .u64 (worth D)) ∧ w = w' := by
  obtain ⟨b', o', e, hcs⟩ := h.cells (by omega)
  simp only [Option.some.injEq, Addr.mk.injEq, and_true] at e
  obtain ⟨rfl, rfl⟩ := e
  have HC : Hid (∀ i, i < 8 → w.cell? ⟨b, o + i, none⟩ = some (.int .u8 (D.getD i 0))) := hcs
  have HL : Hid (D.length = 8) := h.len
  have HK : Hid (Bytes D) := h.byte
  clear hcs h
  go_enter Tryz.func39, Tryz.ntmps39
  go_wp2
  go_loop [3, 4] (fun v i => ∃ j : Nat, j ≤ 8 ∧ i = .int .i64 ((j : Int) - 1) ∧ v = .int .u64 (worth (D.drop j))) (fun _ i => ((intOf i) + 1).toNat)
  case atStart => exact ⟨8, Nat.le_refl _, rfl, by rw [List.drop_of_length_le (by rw [HL.out]; omega)]; rfl⟩
  case round =>
    obtain ⟨j, hj, rfl, rfl⟩ := hrel
    cases j with
    | zero =>
      go_wp2
      go_ret
      exact ⟨rfl, rfl⟩
    | succ k =>
      have hk : k < D.length := by rw [HL.out]; omega
      have hc := HC.out k (by omega)
      rw [show D.getD k 0 = D[k] by simp [List.getD, List.getElem?_eq_getElem hk]] at hc
      have hb := HK.out.at k hk
      have HW : Hid (worth (D.drop k) = D[k] + 256 * worth (D.drop (k + 1))) := worth_drop D k hk
      have hw := worth_bd (D.drop (k + 1)) (HK.out.drop _)
      have hp : (256 : Int) ^ (D.drop (k + 1)).length ≤ 256 ^ 7 := pow_le (by rw [List.length_drop, HL.out]; omega)
      rw [show (256 : Int) ^ 7 = 72057594037927936 by decide] at hp
      have hw1 : worth (D.drop (k + 1)) < 72057594037927936 := by omega
      have hw0 := hw.1
      obtain ⟨hb0, hb1⟩ := hb
      generalize D[k] = x at *
      generalize worth (D.drop (k + 1)) = M at *
      clear hw hp
      have e1 : ((k + 1 : Nat) : Int) - 1 = (k : Int) := by omega
      rw [e1]
      clear e1
      go_wp2
      go_round
      case rel => exact ⟨k, by omega, by go_num, by rw [HW.out]; congr 1; omega⟩
      case measure => simp [intOf]
end Go.Proofs.YtefnkjajjidfaaaGreatDoor
namespace Go.Proofs.YtefnkjajjidfaaaGreatDoor
open Go.RowKit
theorem zeros_one (z : Value) (k : Nat) : Builtin.zeroCells #[z] k = (List.replicate k z).toArray := by
  have h := toList_madeCells_one z k
  have e : Builtin.zeroCells #[z] k = madeCells #[z] k := by simp [Builtin.zeroCells, madeCells]
  rw [e, ← h]
section
variable {P : Program} (w : World)
/-- 'append(s, make([]T, k)...)', s the call's own -/
theorem run_append_zeros_own (base : Nat) (t tn ty e : TypeId) (i : TypeInfo) (z : Value) (bytes : Nat) (kq kn : IntKind) (ht : P.underlying t = some (.slice e)) (htn : P.underlying tn = some (.int kn)) (hi : P.info? e = some i) (hz : i.zero = some z)
    (hsize : i.size = 1) (hby : i.bytes = bytes) (hzc : z.cells = #[z]) (hone : z.oneCell' = true) (g n cap : Nat) (xs : List Value) (hown : w.ownsRow base e 1 (.slice (some ⟨g, 0, none⟩) n cap) n xs) (k : Nat) (hk : 0 < k)
    (h63 : n + k ≤ maxLen) (hbytes : (n + k) * bytes ≤ 140737488355328) (hbase : base ≤ w.heap.size) :
    ∃ v' w', (Builtin.append_ #[t, tn] ty #[.slice (some ⟨g, 0, none⟩) n cap, .int kq k]).run P w = .ok v' w' ∧ w'.ownsRow base e 1 v' (n + k) (xs ++ List.replicate k z) ∧ w.grownBy w' (some g) := by
  have hsmall : n + k ≤ 9223372036854775807 := by simp only [maxLen] at h63; omega
  have hlen : (xs ++ List.replicate k z).length = (n + k) * 1 := by rw [List.length_append, hown.1, List.length_replicate]; omega
  have hkb : k * i.bytes ≤ 140737488355328 := by
    rw [hby]
    exact Nat.le_trans (Nat.mul_le_mul_right _ (by omega)) hbytes
  rcases hown.2 with ⟨h, _⟩ | ⟨g', cap', cur, h, hbg, hg, hnc, hcm, hcs, htake⟩
  · simp at h
  · simp only [Value.slice.injEq, Option.some.injEq, Addr.mk.injEq, and_true, true_and] at h
    obtain ⟨rfl, rfl⟩ := h
    by_cases hroom : n + k ≤ cap
    · have hst := run_storeCells_at P g n e (List.replicate k z) 0 cur w hg (by simp; omega) (by intro v hv; rw [List.eq_of_mem_replicate hv]; exact hone)
      simp only [Nat.add_zero] at hst
      have hw : IntKind.i64.wrap (k : Int) = k := by rw [IntKind.wrap_i64]; omega
      have hneg : ¬ ((k : Int) < 0) := by omega
      have h48i : ¬ (281474976710656 < (k : Int) * (i.bytes : Int)) := by
        rw [← Int.natCast_mul]
        omega
      have hk0 : k ≠ 0 := by omega
      have hr : (Builtin.append_ #[t, tn] ty #[.slice (some ⟨g, 0, none⟩) n cap, .int kq k]).run P w = .ok (.slice (some ⟨g, 0, none⟩) (n + k) cap) (w.setRow g (cur.toList.take n ++ List.replicate k z ++ cur.toList.drop (n + (List.replicate k z).length)).toArray) := by

        simp [Builtin.append_, run_underlying ht, run_underlying htn, sizeOf, typeInfo, zeroValue, hi, hz, hsize, asInt, asIntOf, hw, hneg, h48i, hroom, hk0, hzc, zeros_one, Addr.add_lit, hst]
      refine ⟨_, _, hr, ⟨hlen, .inr ⟨g, cap, _, rfl, hbg, setRow_heap w g cur _ e _ hg, hroom, hcm, ?_, ?_⟩⟩, ⟨rfl, rfl, rfl, by simp, fun k _ hk => setRow_other w g k _ (fun e => hk (by simp [e]))⟩⟩
      · simp only [List.size_toArray, List.length_append, List.length_take, List.length_drop, Array.length_toList, List.length_replicate]
        omega
      · rw [Nat.mul_one] at htake
        rw [htake, ← hlen]
        exact List.take_left
    · have holds : ∀ j u, xs[j]? = some u → w.drew.cell? ((⟨g, 0, none⟩ : Addr).add j) = some u := hown.cells (g := g) rfl
      have hf := run_firstCells_some (P := P) w.drew i.size n ⟨g, 0, none⟩ n cap xs (by rw [hsize]; exact hown.1) holds
      have hr := Lib.run_append_grow_zeros (P := P) w t tn ty e i z kq kn ht htn hi hz (some ⟨g, 0, none⟩) n cap xs hf k hk (by omega) (by omega) (by omega) (by omega) (growslice_fits (by omega) (by rw [hby]; exact hbytes))
      have hge := grownCap_ge w (n + k) cap e
      have hcm2 : grownCap w (n + k) cap e ≤ maxLen := grownCap_le_maxLen w (n + k) cap e h63
      refine ⟨_, _, hr, ⟨hlen, .inr ⟨w.heap.size, _, _, rfl, hbase, heap_alloc_new w.drew _, hge, hcm2, ?_, ?_⟩⟩, ⟨rfl, rfl, rfl, by simp, fun k hk _ => heap_alloc_old w.drew _ hk⟩⟩
      · have := hown.1
        simp only [Array.size_append, List.size_toArray, size_zeroCells, hzc]
        simp
        omega
      · simp only [Array.toList_append, hzc, zeros_one, List.append_assoc]
        rw [← List.append_assoc, ← hlen]
        exact List.take_left
theorem wpList_append_zeros_own {ops : Array Oper} {rest : List Oper} {o : Oper} {a : Act} {Q : Exit → Act → World → Prop} (hgd : o.guard = none) (s x : Operand) (t tn : TypeId)
    (ho : o.op = .call { callee := .builtin .append, args := #[s, x], argTypes := #[t, tn] }) (base : Nat) (e : TypeId) (i : TypeInfo) (z : Value) (bytes : Nat) (kq kn : IntKind) (ht : P.underlying t = some (.slice e)) (htn : P.underlying tn = some (.int kn)) (hi : P.info? e = some i) (hz : i.zero = some z)
    (hsize : i.size = 1) (hby : i.bytes = bytes) (hzc : z.cells = #[z]) (hone : z.oneCell' = true) (g n cap : Nat) (xs : List Value) (hs : a.eval s = .slice (some ⟨g, 0, none⟩) n cap) (hown : w.ownsRow base e 1 (.slice (some ⟨g, 0, none⟩) n cap) n xs) (k : Nat) (hx : a.eval x = .int kq k) (hk : 0 < k)
    (h63 : n + k ≤ maxLen) (hbytes : (n + k) * bytes ≤ 140737488355328) (hbase : base ≤ w.heap.size)
    (h : ∀ v' w', w'.ownsRow base e 1 v' (n + k) (xs ++ List.replicate k z) → w.grownBy w' (some g) → wpList P ops Q rest (a.put o.dst v') w') : wpList P ops Q (o :: rest) a w := by
  refine wpList_plain hgd fun K hK => ?_
  obtain ⟨v', w', hr, h1, h2⟩ := run_append_zeros_own (P := P) w base t tn o.type e i z bytes kq kn ht htn hi hz hsize hby hzc hone g n cap xs hown k hk h63 hbytes hbase
  unfold Oper.wp
  simp [execOp, ho, resolve, invoke, builtin, hs, hx, hr, Result.andThen]
  exact hK _ _ (h v' w' h1 h2)
end
theorem div_step (n : Int) (j : Nat) : n / 256 ^ j / 256 = n / 256 ^ (j + 1) := by
  rw [Int.pow_succ, Int.ediv_ediv_of_nonneg (Int.le_of_lt (pow_pos j))]
theorem div_bd (n : Int) (j : Nat) (h0 : 0 ≤ n) : 0 ≤ n / 256 ^ j ∧ n / 256 ^ j ≤ n :=
  ⟨Int.ediv_nonneg h0 (Int.le_of_lt (pow_pos j)), Int.ediv_le_self _ h0⟩
set_option maxHeartbeats 1000000 in
set_option maxRecDepth 100000 in
theorem low_any (n : Int) (k : Nat) (w : World) (h0 : 0 ≤ n) (h1 : n ≤ 18446744073709551615) (hk : k ≤ 8) :
    Calls Tryz.prog 77 #[.int .u64 n, .int .i64 k] w fun e w' => ∃ v, e = .returned v ∧ w'.ownsRow w.heap.size 5 1 v k (U8 (digits k n)) ∧ Below w.heap.size w w' := by
  obtain ⟨i0, hi, hz0, hz1, hz2⟩ := info_parts info5
  have HL : Hid ((digits k n).length = k) := digits_length k n
  go_enter Tryz.func77, Tryz.ntmps77
  go_wp2
  go_loopw [0, 5, 6] (fun q v i wr => ∃ j : Nat, j ≤ k ∧ i = .int .i64 j ∧ q = .int .u64 (n / 256 ^ j) ∧ wr.ownsRow w.heap.size 5 1 v j (U8 ((digits k n).take j)) ∧ Below w.heap.size w wr) (fun _ _ i _ => k - (intOf i).toNat)
  case atStart => exact ⟨0, Nat.zero_le _, rfl, by simp, World.ownsRow_nil _ _ _ _, Below.refl _ _⟩
  case round =>
    obtain ⟨j, hj, rfl, rfl, hown, hb⟩ := hrel
    have hbd := div_bd n j h0
    by_cases hlt : j < k
    · have hjl : j < (digits k n).length := by rw [HL.out]; exact hlt
      have hg := digits_get k n j hjl
      have hst := div_step n j
      obtain ⟨q, hq⟩ : ∃ q, q = n / 256 ^ j := ⟨_, rfl⟩
      rw [← hq] at hbd hg hst ⊢
      have HS : Hid (q / 256 = n / 256 ^ (j + 1)) := hst
      have HG : Hid ((digits k n)[j] = q % 256) := hg
      have HO : Hid (wr.ownsRow w.heap.size 5 1 u5 j (U8 ((digits k n).take j))) := hown
      have HB : Hid (Below w.heap.size w wr) := hb
      clear hq hst hg hown hb
      have hq1 : q ≤ 18446744073709551615 := by omega
      have hq0 := hbd.1
      have t1 : q.tmod 256 = q % 256 := Int.tmod_eq_emod_of_nonneg hq0
      have t2 : q.tdiv 256 = q / 256 := Int.tdiv_eq_ediv_of_nonneg hq0
      go_wp2_with (at_builtin; refine wpList_append_own _ rfl (.tmp 12) (.tmp 16) 24 rfl w.heap.size 5 i0 (.int .u8 0) 1 1 Tryz.underlying24 hi hz0 hz1 hz2 rfl (by decide) u5 j (U8 ((digits k n).take j)) rfl (HO.out.alloc _) ⟨wr.heap.size, 0, none⟩ 1 1 [.int .u8 (q % 256)] rfl rfl (cell_one_new _ _ _) (by intro u hu; obtain rfl := List.mem_singleton.1 hu; rfl) (by unfold maxLen; omega) (by omega) (by have := HB.out.size; simp; omega) ?_)
      intro v' w1 hown1 hgrow1 _
      have R1 : w1.ownsRow w.heap.size 5 1 v' (j + 1) (U8 ((digits k n).take (j + 1))) := by
        rw [List.take_succ_eq_append_getElem hjl, HG.out]
        simpa [U8] using hown1
      have R2 : Below w.heap.size w w1 := (HB.out.alloc HB.out.size _).grown hgrow1 (by have := HB.out.size; simp; omega) (fun g hg => (HO.out.lt g hg).1)
      have HR1 : Hid (w1.ownsRow w.heap.size 5 1 v' (j + 1) (U8 ((digits k n).take (j + 1)))) := R1
      have HR2 : Hid (Below w.heap.size w w1) := R2
      clear hown1 hgrow1 R1 R2 HO HB
      go_wp2
      go_roundw
      case rel => exact ⟨j + 1, by omega, by go_num, by rw [HS.out], HR1.out, HR2.out⟩
      case measure => simp [intOf]; omega
    · obtain rfl : k = j := by omega
      rw [List.take_of_length_le (by rw [HL.out]; exact Nat.le_refl _)] at hown
      have HO : Hid (wr.ownsRow w.heap.size 5 1 u5 k (U8 (digits k n))) := hown
      have HB : Hid (Below w.heap.size w wr) := hb
      clear hown hb
      go_wp2
      go_ret
      exact ⟨u5, rfl, HO.out, HB.out⟩
end Go.Proofs.YtefnkjajjidfaaaGreatDoor
namespace Go.Proofs.YtefnkjajjidfaaaGreatDoor
open Go.RowKit
theorem own_shape {w : World} {base : Nat} {v : Value} {n : Nat} {xs : List Value} (h : w.ownsRow base 5 1 v n xs) (h0 : 0 < n) : ∃ g cap, v = .slice (some ⟨g, 0, none⟩) n cap ∧ n ≤ cap := by
  rcases h.2 with ⟨_, h2⟩ | ⟨g, cap, cur, h2, _, _, h3, _⟩
  · omega
  · exact ⟨g, cap, h2, h3⟩
theorem own_bin {w : World} {base g cap n : Nat} {xs : List Int} (h : w.ownsRow base 5 1 (.slice (some ⟨g, 0, none⟩) n cap) n (U8 xs)) (hb : Bytes xs) : BIn w (some ⟨g, 0, none⟩) n xs := by
  obtain ⟨p, c, e, hr, _⟩ := own_in h hb
  simp only [Value.slice.injEq] at e
  rw [e.1]
  exact hr
abbrev ten (a b c d e : Int) : List Int := [1, 0, a, b, c, d, e, 0, 0, 0]
set_option maxHeartbeats 4000000 in
set_option maxRecDepth 100000 in
theorem laid_any (s : Sup) (hw : s.Wf) (w : World) :
    Calls Tryz.prog 62 #[.agg (scells s).toArray] w fun e w' => ∃ g c, e = .returned (.slice (some ⟨g, 0, none⟩) 64 c) ∧ Made w w' (some ⟨g, 0, none⟩) 64 c (encS s) := by
  obtain ⟨i0, hi, hz0, hz1, hz2⟩ := info_parts info5
  have HW : Hid (s.Wf) := hw
  obtain ⟨w0, hw0⟩ : ∃ x, x = w.alloc (.cells (scells s).toArray 73) := ⟨_, rfl⟩
  have hs0 : w0.heap.size = w.heap.size + 1 := by rw [hw0]; simp
  have S0 : SAt 73 w0 w.heap.size s := by rw [hw0]; exact LAt.new 73 w _
  have B0 : Below w.heap.size w w0 := by rw [hw0]; exact below_alloc w _
  have L0 : Hid (_) := SAt.load23 S0
  have A1 : Hid (_) := alloc23 w0
  have T1 : Hid (_) := store_new23 w0 s
  obtain ⟨w1, hw1⟩ : ∃ x, x = w0.alloc (.cells (ccells s).toArray 23) := ⟨_, rfl⟩
  have hs1 : w1.heap.size = w.heap.size + 2 := by rw [hw1]; simp [hs0]
  have S1 : SAt 73 w1 w.heap.size s := by rw [hw1]; exact LAt.later S0 (below_alloc w0 _)
  have C1 : CAt w1 (w.heap.size + 1) s := by rw [hw1, ← hs0]; exact LAt.new 23 w0 _
  have B1 : Below w.heap.size w w1 := by rw [hw1]; exact below_then B0 (below_alloc w0 _)
  rw [hs0, ← hw1] at T1
  rw [hs0] at A1
  have cv := conv_const w1 NM 6 (w.heap.size + 2) hs1
  obtain ⟨w2, hw2⟩ : ∃ x, x = w1.alloc (.cells NM 5 (6, 7)) := ⟨_, rfl⟩
  have hs2 : w2.heap.size = w.heap.size + 3 := by rw [hw2]; simp [hs1]
  have b12 : Below w1.heap.size w1 w2 := by rw [hw2]; exact below_alloc w1 _
  have S2 : SAt 73 w2 w.heap.size s := LAt.later S1 b12
  have C2 : CAt w2 (w.heap.size + 1) s := LAt.later C1 b12
  have N2 : BIn w2 (some ⟨w.heap.size + 2, 0, none⟩) 6 nm := by rw [hw2, ← hs1]; exact lit_mark w1 nm 6 (6, 7) rfl nm_bytes
  have B2 : Below w.heap.size w w2 := below_then B1 b12
  have cv2 : (convert 24 24 (.slice (some ⟨w.heap.size + 2, 0, none⟩) 6 6)).run Tryz.prog (w1.alloc (.cells NM 5)) = .ok (.slice (some ⟨w.heap.size + 2, 0, none⟩) 6 6) w2 := by rw [hw2]; exact cv
  obtain ⟨x1, hx1⟩ : ∃ x, x = s.bl % 256 := ⟨_, rfl⟩
  obtain ⟨x2, hx2⟩ : ∃ x, x = s.lc % 256 := ⟨_, rfl⟩
  obtain ⟨x3, hx3⟩ : ∃ x, x = s.mr % 256 := ⟨_, rfl⟩
  obtain ⟨x4, hx4⟩ : ∃ x, x = s.hi % 256 := ⟨_, rfl⟩
  obtain ⟨x5, hx5⟩ : ∃ x, x = s.cl % 256 := ⟨_, rfl⟩
  have q1 : IntKind.u8.wrap s.bl = x1 := by rw [IntKind.wrap_u8, hx1]
  have q2 : IntKind.u8.wrap s.lc = x2 := by rw [IntKind.wrap_u8, hx2]
  have q3 : IntKind.u8.wrap s.mr = x3 := by rw [IntKind.wrap_u8, hx3]
  have q4 : IntKind.u8.wrap s.hi = x4 := by rw [IntKind.wrap_u8, hx4]
  have q5 : IntKind.u8.wrap s.cl = x5 := by rw [IntKind.wrap_u8, hx5]
  have HTB : Hid (Bytes (ten x1 x2 x3 x4 x5)) := by
    intro y hy
    simp only [ten, List.mem_cons, List.not_mem_nil, or_false] at hy
    omega
  have HBY : Hid (body s = ((nm ++ ten x1 x2 x3 x4 x5) ++ digits 8 s.tail ++ digits 8 s.life) ++ List.replicate 28 0) := by
    show _ = _
    unfold body
    rw [hx1, hx2, hx3, hx4, hx5]
    simp [zs]
  have N3 : Hid (BIn (w2.alloc (.cells (U8 (ten x1 x2 x3 x4 x5)).toArray 5)) (some ⟨w.heap.size + 3, 0, none⟩) 10 (ten x1 x2 x3 x4 x5)) := by rw [← hs2]; exact lit_in w2 _ 10 rfl HTB.out
  have N2' : Hid (BIn (w2.alloc (.cells (U8 (ten x1 x2 x3 x4 x5)).toArray 5)) (some ⟨w.heap.size + 2, 0, none⟩) 6 nm) := N2.later (below_alloc w2 _)
  have B3 : Hid (Below w.heap.size w (w2.alloc (.cells (U8 (ten x1 x2 x3 x4 x5)).toArray 5))) := below_then B2 (below_alloc w2 _)
  have S3 : Hid (SAt 73 (w2.alloc (.cells (U8 (ten x1 x2 x3 x4 x5)).toArray 5)) w.heap.size s) := LAt.later S2 (below_alloc w2 _)
  have c0 := CAt.c0 C2
  have c1 := CAt.c1 C2
  have c2 := CAt.c2 C2
  have c3 := CAt.c3 C2
  have c4 := CAt.c4 C2
  have HO6 : Hid (∀ j u, (U8 nm)[j]? = some u → (w2.alloc (.cells (U8 (ten x1 x2 x3 x4 x5)).toArray 5)).cell? ⟨w.heap.size + 2, 0 + j, none⟩ = some u) := fun j u hu => by
    have := N2'.out.news j u hu
    rw [Go.WideShapes.add_plain] at this
    exact this
  have e0 := hw0.symm
  clear hw0 hw1 hw2 hs0 S0 S1 C1 C2 B0 B1 B2 b12 S2 N2 cv hx1 hx2 hx3 hx4 hx5 hw
  go_enter Tryz.func62, Tryz.ntmps62
  go_wp2_with (first | ((with_reducible refine at_ops ?_); (first | (refine wpList_load_is (by rfl) 23 rfl rfl L0.out ?_) | (refine wpList_alloc_is (by rfl) 23 rfl A1.out ?_) | (refine wpList_store_is (by rfl) 23 rfl rfl rfl T1.out ?_)); simp only [Act.put, List.setIfInBounds_toArray, List.set_cons_zero, List.set_cons_succ]) | (at_builtin; refine wpList_append_arg _ rfl (.tmp 8) (.tmp 24) 24 rfl 5 i0 (.int .u8 0) 1 1 Tryz.underlying24 hi hz0 hz1 hz2 rfl (by decide) (w.heap.size + 2) 0 6 6 (U8 nm) rfl rfl HO6.out ⟨w.heap.size + 3, 0, none⟩ 10 10 (U8 (ten x1 x2 x3 x4 x5)) rfl rfl N3.out.news (ones_u8 _) (fun h => by omega) (by unfold maxLen; omega) (by omega) (fun h => by omega) ?_; clear cv2))
  intro v4 w4 hown4 hgrow4
  have HO4 : Hid (w4.ownsRow w.heap.size 5 1 v4 16 (U8 (nm ++ ten x1 x2 x3 x4 x5))) := by
    show w4.ownsRow _ _ _ _ _ _
    rw [show U8 (nm ++ ten x1 x2 x3 x4 x5) = U8 nm ++ U8 (ten x1 x2 x3 x4 x5) by simp only [U8, List.map_append]]
    exact own_mono hown4 (by omega)
  have hsz3 : w.heap.size ≤ (w2.alloc (.cells (U8 (ten x1 x2 x3 x4 x5)).toArray 5)).heap.size := B3.out.size
  have B4 : Hid (Below w.heap.size w w4) := B3.out.grown hgrow4 hsz3 (by intro k hk; cases hk)
  have S4 : Hid (SAt 73 w4 w.heap.size s) := (hgrow4.block _ (LAt.lt S3.out) (by simp)).trans S3.out
  have HTN : Hid (Bytes (nm ++ ten x1 x2 x3 x4 x5)) := nm_bytes.append HTB.out
  have HLN : Hid ((nm ++ ten x1 x2 x3 x4 x5).length = 16) := rfl
  obtain ⟨H, hH⟩ : ∃ H, H = nm ++ ten x1 x2 x3 x4 x5 := ⟨_, rfl⟩
  rw [← hH] at HO4 HTN HLN HBY
  clear hown4 hgrow4 hsz3 hH B3 S3 N3 N2' HO6 HTB c0 c1 c2 c3 c4 q1 q2 q3 q4 q5 hs1 hs2 L0 A1 T1 e0
  have c5 := SAt.c5 S4.out
  go_wp2_with fail
  refine (low_any s.tail 8 w4 HW.out.tail.1 HW.out.tail.2 (by omega)).mono ?_
  rintro e w5 ⟨v5, rfl, ho5, b5⟩
  obtain ⟨g5, k5, rfl, -⟩ := own_shape ho5 (by omega)
  have N5 : Hid (BIn w5 (some ⟨g5, 0, none⟩) 8 (digits 8 s.tail)) := own_bin ho5 (digits_bytes _ _)
  have HO5 : Hid (w5.ownsRow w.heap.size 5 1 v4 16 (U8 H)) := own_later HO4.out b5
  have S5 : Hid (SAt 73 w5 w.heap.size s) := LAt.later S4.out b5
  have B5 : Hid (Below w.heap.size w w5) := below_then B4.out b5
  clear ho5 b5 c5 HO4 S4 B4
  go_wp2_with (at_builtin; refine wpList_append_own _ rfl (.tmp 26) (.tmp 29) 24 rfl w.heap.size 5 i0 (.int .u8 0) 1 1 Tryz.underlying24 hi hz0 hz1 hz2 rfl (by decide) v4 16 (U8 H) rfl HO5.out ⟨g5, 0, none⟩ 8 k5 (U8 (digits 8 s.tail)) rfl (by rw [U8_length, digits_length]) N5.out.news (ones_u8 _) (by unfold maxLen; omega) (by omega) B5.out.size ?_)
  intro v6 w6 hown6 hgrow6 _
  have HO6 : Hid (w6.ownsRow w.heap.size 5 1 v6 24 (U8 (H ++ digits 8 s.tail))) := by
    show w6.ownsRow _ _ _ _ _ _
    rw [show U8 (H ++ digits 8 s.tail) = U8 H ++ U8 (digits 8 s.tail) by simp only [U8, List.map_append]]
    exact hown6
  have hbl6 : ∀ k, v4.ownBlock = some k → w.heap.size < k := fun k hk => by
    rcases Nat.lt_or_ge w.heap.size k with h | h
    · exact h
    · have h2 := (HO5.out.lt k hk).1
      obtain rfl : k = w.heap.size := by omega
      rcases HO5.out.2 with ⟨h3, _⟩ | ⟨g', _, cs, h3, _, hg, _⟩
      · rw [h3] at hk; cases hk
      · rw [h3] at hk
        simp only [Value.ownBlock, Option.some.injEq] at hk
        subst hk
        have := S5.out
        unfold LAt at this
        rw [this] at hg
        simp at hg
  have B6 : Hid (Below w.heap.size w w6) := B5.out.grown hgrow6 B5.out.size (fun k hk => by have := hbl6 k hk; omega)
  have S6 : Hid (SAt 73 w6 w.heap.size s) := (hgrow6.block _ (LAt.lt S5.out) (fun e => by have := hbl6 _ e.symm; omega)).trans S5.out
  clear hown6 hgrow6 hbl6 HO5 S5 B5 N5
  have c6 := SAt.c6 S6.out
  go_wp2_with fail
  refine (low_any s.life 8 w6 HW.out.life.1 HW.out.life.2 (by omega)).mono ?_
  rintro e w7 ⟨v7, rfl, ho7, b7⟩
  obtain ⟨g7, k7, rfl, -⟩ := own_shape ho7 (by omega)
  have N7 : Hid (BIn w7 (some ⟨g7, 0, none⟩) 8 (digits 8 s.life)) := own_bin ho7 (digits_bytes _ _)
  have HO7 : Hid (w7.ownsRow w.heap.size 5 1 v6 24 (U8 (H ++ digits 8 s.tail))) := own_later HO6.out b7
  have B7 : Hid (Below w.heap.size w w7) := below_then B6.out b7
  clear ho7 b7 c6 HO6 S6 B6
  go_wp2_with (at_builtin; refine wpList_append_own _ rfl (.tmp 31) (.tmp 34) 24 rfl w.heap.size 5 i0 (.int .u8 0) 1 1 Tryz.underlying24 hi hz0 hz1 hz2 rfl (by decide) v6 24 (U8 (H ++ digits 8 s.tail)) rfl HO7.out ⟨g7, 0, none⟩ 8 k7 (U8 (digits 8 s.life)) rfl (by rw [U8_length, digits_length]) N7.out.news (ones_u8 _) (by unfold maxLen; omega) (by omega) B7.out.size ?_)
  intro v8 w8 hown8 hgrow8 _
  have B8 : Hid (Below w.heap.size w w8) := B7.out.grown hgrow8 B7.out.size (fun k hk => (HO7.out.lt k hk).1)
  have HO8 : Hid (w8.ownsRow w.heap.size 5 1 v8 32 (U8 (H ++ digits 8 s.tail ++ digits 8 s.life))) := by
    show w8.ownsRow _ _ _ _ _ _
    simp only [U8, List.map_append, List.append_assoc]
    exact hown8
  clear hown8 hgrow8 HO7 B7 N7
  obtain ⟨g8, k8, rfl, -⟩ := own_shape HO8.out (by omega)
  go_wp2_with (at_builtin; refine wpList_append_zeros_own _ rfl (.tmp 36) _ 24 3 rfl w.heap.size 5 i0 (.int .u8 0) 1 .i64 .i64 Tryz.underlying24 Tryz.underlying3 hi hz0 hz1 hz2 rfl rfl g8 32 k8 (U8 (H ++ digits 8 s.tail ++ digits 8 s.life)) rfl HO8.out 28 rfl (by omega) (by unfold maxLen; omega) (by omega) B8.out.size ?_)
  intro v9 w9 hown9 hgrow9
  have B9 : Hid (Below w.heap.size w w9) := B8.out.grown hgrow9 B8.out.size (fun k hk => (HO8.out.lt k hk).1)
  have HO9 : Hid (w9.ownsRow w.heap.size 5 1 v9 60 (U8 (body s))) := by
    show w9.ownsRow _ _ _ _ _ _
    rw [HBY.out]
    simp only [U8, List.map_append, List.append_assoc, List.map_replicate]
    exact hown9
  clear hown9 hgrow9 HO8 B8 HBY HTN HLN
  obtain ⟨g9, k9, rfl, -⟩ := own_shape HO9.out (by omega)
  have N9 : Hid (BIn w9 (some ⟨g9, 0, none⟩) 60 (body s)) := own_bin HO9.out (body_bytes s)
  go_wp2_with fail
  refine (refSum_pos g9 0 60 k9 (body s) w9 N9.out (by omega) (by omega)).mono ?_
  rintro e w' ⟨rfl, rfl⟩
  have hcl := crc_lt (body s) (body_bytes s)
  have HE : Hid (encS s = body s ++ digits 4 ((crc (body s) : Nat) : Int)) := rfl
  generalize crc (body s) = C at *
  go_wp2_with fail
  refine (low_any (C : Int) 4 w9 (by omega) (by omega) (by omega)).mono ?_
  rintro e w10 ⟨v10, rfl, ho10, b10⟩
  obtain ⟨g10, k10, rfl, -⟩ := own_shape ho10 (by omega)
  have N10 : Hid (BIn w10 (some ⟨g10, 0, none⟩) 4 (digits 4 (C : Int))) := own_bin ho10 (digits_bytes _ _)
  have HO10 : Hid (w10.ownsRow w.heap.size 5 1 (.slice (some ⟨g9, 0, none⟩) 60 k9) 60 (U8 (body s))) := own_later HO9.out b10
  have B10 : Hid (Below w.heap.size w w10) := below_then B9.out b10
  clear ho10 b10 HO9 B9 N9
  go_wp2_with (at_builtin; refine wpList_append_own _ rfl (.tmp 38) (.tmp 42) 24 rfl w.heap.size 5 i0 (.int .u8 0) 1 1 Tryz.underlying24 hi hz0 hz1 hz2 rfl (by decide) _ 60 (U8 (body s)) rfl HO10.out ⟨g10, 0, none⟩ 4 k10 (U8 (digits 4 (C : Int))) rfl (by rw [U8_length, digits_length]) N10.out.news (ones_u8 _) (by unfold maxLen; omega) (by omega) B10.out.size ?_)
  intro v11 w11 hown11 hgrow11 _
  have B11 : Hid (Below w.heap.size w w11) := B10.out.grown hgrow11 B10.out.size (fun k hk => (HO10.out.lt k hk).1)
  have HO11 : Hid (w11.ownsRow w.heap.size 5 1 v11 64 (U8 (encS s))) := by
    show w11.ownsRow _ _ _ _ _ _
    rw [HE.out, show U8 (body s ++ digits 4 (C : Int)) = U8 (body s) ++ U8 (digits 4 (C : Int)) by simp only [U8, List.map_append]]
    exact hown11
  clear hown11 hgrow11 HO10 B10 N10
  obtain ⟨g11, k11, rfl, hk11⟩ := own_shape HO11.out (by omega)
  go_wp2_with fail
  go_ret
  exact ⟨g11, k11, rfl, HO11.out, own_bin HO11.out (encS_bytes s), hk11, (fun e => by cases e), B11.out⟩
end Go.Proofs.YtefnkjajjidfaaaGreatDoor
namespace Go.Proofs.YtefnkjajjidfaaaGreatDoor
open Go.RowKit

theorem size26 : (Tryz.prog.info? 73).map (·.size) = some 7 := by kernel_rfl
theorem SAt.load26 {t : TypeId} {w : World} {g : Nat} {s : Sup} (h : SAt t w g s) : (Instr.loadAt 73 (.pointer (some ⟨g, 0, none⟩))).run Tryz.prog w = .ok (.agg (scells s).toArray) w :=
  run_loadAt_mid w g 0 73 (scells s) _ (LAt.range h) Tryz.underlying73 rfl (by rw [size26, scells_len])
theorem places26 : placesOf Tryz.prog 73 = some plS := by kernel_rfl
theorem zero26 : (Tryz.prog.info? 73).bind (·.zero) = some (.agg (scells sup0).toArray) := by kernel_rfl
theorem build26 (w : World) (parts : Array (Nat × Value)) (r : Sup) (h : Instr.fill (plS.toArray[·]?) (scells sup0).toArray parts.toList = some (scells r).toArray) : (Instr.build 73 parts).run Tryz.prog w = .ok (.agg (scells r).toArray) w :=
  run_build w 73 _ _ ((built_of 73 _ _ _ places26 zero26).trans h)
theorem alloc26 (w : World) : (Instr.alloc 73 true (.tuple #[])).run Tryz.prog w = .ok (.pointer (some ⟨w.heap.size, 0, none⟩)) (w.alloc (.cells (scells sup0).toArray 73)) := by
  simp only [Instr.alloc, Sem.run_bind, zv 73 _ zero26, Result.andThen_ok]
  simp [newVar, newRow, Value.cells]
theorem store_new26 (w : World) (s : Sup) : (Instr.storeAt 73 (.pointer (some ⟨w.heap.size, 0, none⟩)) (.agg (scells s).toArray)).run Tryz.prog (w.alloc (.cells (scells sup0).toArray 73)) = .ok () (w.alloc (.cells (scells s).toArray 73)) := by
  rw [(LAt.new 73 w (scells sup0)).store (ds := scells s) size26 rfl (scells_all s), setRow_alloc]
end Go.Proofs.YtefnkjajjidfaaaGreatDoor
namespace Go.Proofs.YtefnkjajjidfaaaGreatDoor
open Go.RowKit
section
variable {P : Program} {o : Oper} {a : Act} {w w' : World} {K : Act → World → Prop} {Q : Exit → Act → World → Prop}
theorem wp_alloc_is (ty : TypeId) (ho : o.op = .alloc ty) {v : Value} (hrun : (Instr.alloc ty true (.tuple #[])).run P w = .ok v w') (h : K (a.put o.dst v) w') : o.wp P a w K Q := by
  have e : (execOp a.eval o).run P w = .ok (.value v) w' := by unfold execOp; simp only [ho, Sem.run_bind, hrun, Result.andThen_ok, Sem.run_pure]
  unfold Oper.wp; rw [e]; exact h
theorem wp_store_is (ty : TypeId) {x y : Operand} (ho : o.op = .store ty x y) {p v : Value} (hx : a.eval x = p) (hy : a.eval y = v) (hrun : (Instr.storeAt ty p v).run P w = .ok () w') (h : K (a.put o.dst undef) w') : o.wp P a w K Q := by
  have e : (execOp a.eval o).run P w = .ok .skip w' := by unfold execOp; simp only [ho, hx, hy, Sem.run_bind, hrun, Result.andThen_ok, Sem.run_pure]
  unfold Oper.wp; rw [e]; exact h
theorem yields_build_is {ops : Array Oper} {S : World → Prop} (hw : Region.wanted o (yielded ops a.tmps) = true) (ty : TypeId) {ps : Array (Nat × Operand)} (ho : o.op = .build ty ps) {vs : List (Nat × Value)} {v : Value} (hx : ps.toList.map (fun (i, x) => (i, a.eval x)) = vs) (hrun : ∀ w, (Instr.build ty vs.toArray).run P w = .ok v w) : YieldsIf P ops S o v a :=
  .inl ⟨hw, fun w _ => by unfold execOp; simp only [ho]; rw [show ps.map (fun (i, x) => (i, a.eval x)) = vs.toArray by rw [← hx, ← Array.toList_map]]; simp only [Sem.run_bind, hrun w, Result.andThen_ok, Sem.run_pure]⟩
end
theorem yields_neq_is {P : Program} {ops : Array Oper} {S : World → Prop} {o : Oper} {a : Act} (hw : Region.wanted o (yielded ops a.tmps) = true) (ty : TypeId) {x y : Operand} {t2 : TypeId} (ho : o.op = .binOp .neq ty x y t2) {xs ys : Array Value} {v : Value} (hx : a.eval x = .agg xs) (hy : a.eval y = .agg ys) (hg : P.eqGuardType P.depth ty = false) (hrun : ∀ w, (binOp .neq ty (.agg xs) (.agg ys)).run P w = .ok v w) : YieldsIf P ops S o v a :=
  .inl ⟨hw, fun w _ => by unfold execOp; simp only [ho, hx, hy, Sem.run_bind, run_eqGuard_agg w .neq ty x y xs ys hg, hrun w, Result.andThen_ok, Sem.run_pure]⟩
theorem yields_eql_is {P : Program} {ops : Array Oper} {S : World → Prop} {o : Oper} {a : Act} (hw : Region.wanted o (yielded ops a.tmps) = true) (ty : TypeId) {x y : Operand} {t2 : TypeId} (ho : o.op = .binOp .eql ty x y t2) {xs ys : Array Value} {v : Value} (hx : a.eval x = .agg xs) (hy : a.eval y = .agg ys) (hg : P.eqGuardType P.depth ty = false) (hrun : ∀ w, (binOp .eql ty (.agg xs) (.agg ys)).run P w = .ok v w) : YieldsIf P ops S o v a :=
  .inl ⟨hw, fun w _ => by unfold execOp; simp only [ho, hx, hy, Sem.run_bind, run_eqGuard_agg w .eql ty x y xs ys hg, hrun w, Result.andThen_ok, Sem.run_pure]⟩
set_option maxHeartbeats 1000000 in
set_option maxRecDepth 100000 in
theorem refEncode_any (s : Sup) (hw : s.Wf) (w : World) :
    Calls Tryz.prog 40 #[.agg (scells s).toArray] w fun e w' => ∃ p n c, e = .returned (.tuple #[.slice p n c, .int .i64 (chk s)]) ∧ n = (encT s).length ∧ Made w w' p n c (encT s) := by
  have R0 : Hid (SAt 73 (w.alloc (.cells (scells s).toArray 73)) w.heap.size s) := LAt.new 73 w _
  have B0 : Hid (Below w.heap.size w (w.alloc (.cells (scells s).toArray 73))) := below_alloc w _
  have L1 : Hid (_) := SAt.load26 R0.out
  have HW : Hid (s.Wf) := hw
  clear hw
  go_enter Tryz.func40, Tryz.ntmps40
  go_wp2_with ((with_reducible refine at_ops ?_); (refine wpList_load_is (by rfl) 73 rfl rfl L1.out ?_); simp only [Act.put, List.setIfInBounds_toArray, List.set_cons_zero, List.set_cons_succ])
  refine (refCheck_any s _).mono ?_
  rintro e w1 ⟨rfl, b1⟩
  have R1 : Hid (SAt 73 w1 w.heap.size s) := LAt.later R0.out b1
  have B1 : Hid (Below w.heap.size w w1) := below_then B0.out b1
  have L2 : Hid (_) := SAt.load26 R1.out
  clear b1 R0 B0 L1
  by_cases hm : May s
  · rw [chk_yes s hm]
    have HE : Hid (encT s = encS s) := encT_yes s hm
    have HC : Hid (chk s = 0) := chk_yes s hm
    clear hm
    go_wp2_with ((with_reducible refine at_ops ?_); (refine wpList_load_is (by rfl) 73 rfl rfl L2.out ?_); simp only [Act.put, List.setIfInBounds_toArray, List.set_cons_zero, List.set_cons_succ])
    refine (laid_any s HW.out w1).mono ?_
    rintro e w2 ⟨g, c, rfl, m⟩
    have HM : Hid (Made w1 w2 (some ⟨g, 0, none⟩) 64 c (encS s)) := m
    clear m
    go_wp2_with fail
    go_ret2
    rw [HE.out, HC.out]
    exact ⟨_, 64, c, rfl, (encS_len s).symm, own_mono HM.out.own B1.out.size, HM.out.read, HM.out.le, HM.out.nil, below_then B1.out HM.out.below⟩
  · have hc : chk s ≠ 0 := fun h => hm ((chk_zero s).1 h)
    have HE : Hid (encT s = []) := encT_no s hm
    obtain ⟨q, hq⟩ : ∃ q, q = chk s := ⟨_, rfl⟩
    have HQ : Hid (q = chk s) := hq
    rw [← hq] at hc ⊢
    clear hq hm
    go_wp2_with fail
    go_ret2
    rw [← HQ.out, HE.out]
    exact ⟨none, 0, 0, rfl, rfl, World.ownsRow_nil _ _ _ _, BIn.empty, Nat.le_refl _, fun _ => rfl, B1.out⟩
set_option maxHeartbeats 1000000 in
set_option maxRecDepth 100000 in
theorem refDecode_len (p : Option Addr) (n c : Nat) (w : World) (hn : n ≠ 64) :
    Calls Tryz.prog 24 #[.slice p n c] w fun e w' => e = .returned (.tuple #[.agg (scells sup0).toArray, .int .i64 2]) ∧ Below w.heap.size w w' := by
  have A1 : Hid (_) := alloc26 w
  have R1 : Hid (SAt 73 (w.alloc (.cells (scells sup0).toArray 73)) w.heap.size sup0) := LAt.new 73 w _
  have S1 : Hid (_) := store_new26 w sup0
  have hn' : (((n : Nat) : Int) != 64) = true := by simp; omega
  go_enter Tryz.func24, Tryz.ntmps24
  go_wp2_with ((with_reducible refine at_ops ?_); (first | (refine wpList_alloc_is (by rfl) 73 rfl A1.out ?_) | (refine wpList_build_is (vs := []) (by rfl) 73 rfl (by rfl) (build26 _ #[] sup0 fill_none) ?_) | (refine wpList_store_is (by rfl) 73 rfl rfl rfl S1.out ?_)); simp only [Act.put, List.setIfInBounds_toArray, List.set_cons_zero, List.set_cons_succ])
  exact bodyPost_ret (results_sup Tryz.results24 _ _ w.heap.size 73 _ _ (by rfl) R1.out Tryz.underlying73 rfl size26) rfl ⟨rfl, below_alloc w _⟩
set_option maxHeartbeats 8000000 in
set_option maxRecDepth 100000 in
theorem refDecode_64 (b o c : Nat) (xs : List Int) (w : World) (hx : BIn w (some ⟨b, o, none⟩) 64 xs) (hc : 64 ≤ c) :
    Calls Tryz.prog 24 #[.slice (some ⟨b, o, none⟩) 64 c] w fun e w' => e = .returned (.tuple #[.agg (scells (decS xs).1).toArray, .int .i64 (decS xs).2]) ∧ Below w.heap.size w w' := by
  have A1 : Hid (_) := alloc26 w
  obtain ⟨w1, hw1⟩ : ∃ x, x = w.alloc (.cells (scells sup0).toArray 73) := ⟨_, rfl⟩
  have R1 : Hid (SAt 73 w1 w.heap.size sup0) := by rw [hw1]; exact LAt.new 73 w _
  have B1 : Hid (Below w.heap.size w w1) := by rw [hw1]; exact below_alloc w _
  have X1 : Hid (BIn w1 (some ⟨b, o, none⟩) 64 xs) := hx.later B1.out
  have HW : Hid ((readS xs).Wf) := readS_wf xs hx.byte
  have HL : Hid (xs.length = 64) := hx.len
  have HY : Hid (Bytes xs) := hx.byte
  rw [← hw1] at A1
  have r1 := rd_one xs hx.byte 1 (by omega)
  have r2 := rd_one xs hx.byte 2 (by omega)
  have r3 := rd_one xs hx.byte 3 (by omega)
  have r4 := rd_one xs hx.byte 4 (by omega)
  have r5 := rd_one xs hx.byte 5 (by omega)
  obtain ⟨r, hr⟩ : ∃ r, r = readS xs := ⟨_, rfl⟩
  have HRR : Hid (r = readS xs) := hr
  have HE1 : Hid (xs.getD 8 0 = r.bl) := by rw [hr]; exact (rd_get xs 8 (by rw [hx.len]; omega)).symm
  have HE2 : Hid (xs.getD 9 0 = r.lc) := by rw [hr]; exact (rd_get xs 9 (by rw [hx.len]; omega)).symm
  have HE3 : Hid (xs.getD 10 0 = r.mr) := by rw [hr]; exact (rd_get xs 10 (by rw [hx.len]; omega)).symm
  have HE4 : Hid (xs.getD 11 0 = r.hi) := by rw [hr]; exact (rd_get xs 11 (by rw [hx.len]; omega)).symm
  have HE5 : Hid (xs.getD 12 0 = r.cl) := by rw [hr]; exact (rd_get xs 12 (by rw [hx.len]; omega)).symm
  have HE6 : Hid (worth ((xs.drop 16).take 8) = r.tail) := by rw [hr]; rfl
  have HE7 : Hid (worth ((xs.drop 24).take 8) = r.life) := by rw [hr]; rfl
  rw [show rd xs 1 = r.bl by rw [hr]; rfl] at r1
  rw [show rd xs 2 = r.lc by rw [hr]; rfl] at r2
  rw [show rd xs 3 = r.mr by rw [hr]; rfl] at r3
  rw [show rd xs 4 = r.hi by rw [hr]; rfl] at r4
  rw [show rd xs 5 = r.cl by rw [hr]; rfl] at r5
  rw [← hr] at HW
  have q1 : IntKind.i64.wrap r.bl = r.bl := by rw [IntKind.wrap_i64]; omega
  have q2 : IntKind.i64.wrap r.lc = r.lc := by rw [IntKind.wrap_i64]; omega
  have q3 : IntKind.i64.wrap r.mr = r.mr := by rw [IntKind.wrap_i64]; omega
  have q4 : IntKind.i64.wrap r.hi = r.hi := by rw [IntKind.wrap_i64]; omega
  have q5 : IntKind.i64.wrap r.cl = r.cl := by rw [IntKind.wrap_i64]; omega
  have EI1 : Hid (∀ w', BIn w' (some ⟨b, o, none⟩) 64 xs → Calls Tryz.prog 39 #[.slice (some ⟨b, o + 16, none⟩) 8 (c - 16)] w' fun e w'' => e = .returned (.int .u64 r.tail) ∧ w' = w'') := fun w' h => by
    rw [← HE6.out]; exact eight_any b (o + 16) (c - 16) _ w' ((h.drop 16 (by omega)).take 8 (by omega))
  have EI2 : Hid (∀ w', BIn w' (some ⟨b, o, none⟩) 64 xs → Calls Tryz.prog 39 #[.slice (some ⟨b, o + 24, none⟩) 8 (c - 24)] w' fun e w'' => e = .returned (.int .u64 r.life) ∧ w' = w'') := fun w' h => by
    rw [← HE7.out]; exact eight_any b (o + 24) (c - 24) _ w' ((h.drop 24 (by omega)).take 8 (by omega))
  have n1 : ¬ c = 16 := by omega
  have n2 : ¬ c = 24 := by omega
  have n3 : (24 : Int) ≤ c := by omega
  have n4 : (32 : Int) ≤ c := by omega
  clear hw1 hx hr r1 r2 r3 r4 r5
  go_enter Tryz.func24, Tryz.ntmps24
  go_wp2_with ((with_reducible refine at_ops ?_); (refine wpList_alloc_is (by rfl) 73 rfl A1.out ?_); simp only [Act.put, List.setIfInBounds_toArray, List.set_cons_zero, List.set_cons_succ])
  clear A1
  refine Code.wp_mono (Q := fun e a W => ∃ (g4 : Nat), e = .normal ∧ Hid (SAt 73 W g4 r ∧ Below w1.heap.size w1 W) ∧ a = { tmps := #[.slice (some ⟨b, o, none⟩) 64 c, undef, .pointer (some ⟨w.heap.size, 0, none⟩), .int .i64 0, .pointer (some ⟨g4, 0, none⟩), undef, undef, .slice (some ⟨b, o, none⟩) 64 c, .int .i64 64, .bool false, undef, .slice (some ⟨b, o, none⟩) 64 c, .pointer (some ⟨b, o + 8, none⟩), .int .u8 r.bl, .int .i64 r.bl, .slice (some ⟨b, o, none⟩) 64 c, .pointer (some ⟨b, o + 9, none⟩), .int .u8 r.lc, .int .i64 r.lc, .slice (some ⟨b, o, none⟩) 64 c, .pointer (some ⟨b, o + 10, none⟩), .int .u8 r.mr, .int .i64 r.mr, .slice (some ⟨b, o, none⟩) 64 c, .pointer (some ⟨b, o + 11, none⟩), .int .u8 r.hi, .int .i64 r.hi, .slice (some ⟨b, o, none⟩) 64 c, .pointer (some ⟨b, o + 12, none⟩), .int .u8 r.cl, .int .i64 r.cl, .agg (ccells r).toArray, .slice (some ⟨b, o, none⟩) 64 c, .slice (some ⟨b, o + 16, none⟩) 8 (c - 16), .int .u64 r.tail, .slice (some ⟨b, o, none⟩) 64 c, .slice (some ⟨b, o + 24, none⟩) 8 (c - 24), .int .u64 r.life, .agg (scells r).toArray, undef, undef, undef, undef, undef, undef, undef, undef, undef, undef, undef, undef, undef, undef, undef, undef], defers := [] }) ?rest ?reg
  case reg =>
    refine wp_region_noPanic ?_
    refine wp_region_held_drew (S := fun w' => BIn w' (some ⟨b, o, none⟩) 64 xs) (by kernel_rfl) X1.out.drew (fun hHeld => ?_)
    refine wpAnyH_take (i := 0) (v := ?v0) (by simp; rfl) (by kernel_rfl) (by kernel_rfl) (by kernel_rfl) (fun _ _ _ h => h) (Or.inl ⟨by rfl, ?y0⟩) hHeld ?r0
    case y0 => intro w hSw; clear hSw; go_simp; with_reducible rfl
    simp only [Act.put, List.setIfInBounds_toArray, List.set_cons_zero, List.set_cons_succ]
    refine wpAnyH_take (i := 1) (v := ?v1) (by simp; rfl) (by kernel_rfl) (by kernel_rfl) (by kernel_rfl) (fun _ _ _ h => h) (Or.inl ⟨by rfl, ?y1⟩) hHeld ?r1
    case y1 => intro w hSw; clear hSw; go_simp; with_reducible rfl
    simp only [Act.put, List.setIfInBounds_toArray, List.set_cons_zero, List.set_cons_succ]
    refine wpAnyH_take (i := 2) (v := ?v2) (by simp; rfl) (by kernel_rfl) (by kernel_rfl) (by kernel_rfl) (fun _ _ _ h => h) (Or.inl ⟨by rfl, ?y2⟩) hHeld ?r2
    case y2 => intro w hSw; have z := hSw.cell 8 (by omega); rw [HE1.out] at z; clear hSw; go_simp; with_reducible rfl
    simp only [Act.put, List.setIfInBounds_toArray, List.set_cons_zero, List.set_cons_succ]
    refine wpAnyH_take (i := 3) (v := ?v3) (by simp; rfl) (by kernel_rfl) (by kernel_rfl) (by kernel_rfl) (fun _ _ _ h => h) (Or.inl ⟨by rfl, ?y3⟩) hHeld ?r3
    case y3 => intro w hSw; clear hSw; go_simp; with_reducible rfl
    simp only [Act.put, List.setIfInBounds_toArray, List.set_cons_zero, List.set_cons_succ]
    refine wpAnyH_take (i := 4) (v := ?v4) (by simp; rfl) (by kernel_rfl) (by kernel_rfl) (by kernel_rfl) (fun _ _ _ h => h) (Or.inl ⟨by rfl, ?y4⟩) hHeld ?r4
    case y4 => intro w hSw; clear hSw; go_simp; with_reducible rfl
    simp only [Act.put, List.setIfInBounds_toArray, List.set_cons_zero, List.set_cons_succ]
    refine wpAnyH_take (i := 5) (v := ?v5) (by simp; rfl) (by kernel_rfl) (by kernel_rfl) (by kernel_rfl) (fun _ _ _ h => h) (Or.inl ⟨by rfl, ?y5⟩) hHeld ?r5
    case y5 => intro w hSw; clear hSw; go_simp; with_reducible rfl
    simp only [Act.put, List.setIfInBounds_toArray, List.set_cons_zero, List.set_cons_succ]
    refine wpAnyH_take (i := 6) (v := ?v6) (by simp; rfl) (by kernel_rfl) (by kernel_rfl) (by kernel_rfl) (fun _ _ _ h => h) (Or.inl ⟨by rfl, ?y6⟩) hHeld ?r6
    case y6 => intro w hSw; have z := hSw.cell 9 (by omega); rw [HE2.out] at z; clear hSw; go_simp; with_reducible rfl
    simp only [Act.put, List.setIfInBounds_toArray, List.set_cons_zero, List.set_cons_succ]
    refine wpAnyH_take (i := 7) (v := ?v7) (by simp; rfl) (by kernel_rfl) (by kernel_rfl) (by kernel_rfl) (fun _ _ _ h => h) (Or.inl ⟨by rfl, ?y7⟩) hHeld ?r7
    case y7 => intro w hSw; clear hSw; go_simp; with_reducible rfl
    simp only [Act.put, List.setIfInBounds_toArray, List.set_cons_zero, List.set_cons_succ]
    refine wpAnyH_take (i := 8) (v := ?v8) (by simp; rfl) (by kernel_rfl) (by kernel_rfl) (by kernel_rfl) (fun _ _ _ h => h) (Or.inl ⟨by rfl, ?y8⟩) hHeld ?r8
    case y8 => intro w hSw; clear hSw; go_simp; with_reducible rfl
    simp only [Act.put, List.setIfInBounds_toArray, List.set_cons_zero, List.set_cons_succ]
    refine wpAnyH_take (i := 9) (v := ?v9) (by simp; rfl) (by kernel_rfl) (by kernel_rfl) (by kernel_rfl) (fun _ _ _ h => h) (Or.inl ⟨by rfl, ?y9⟩) hHeld ?r9
    case y9 => intro w hSw; clear hSw; go_simp; with_reducible rfl
    simp only [Act.put, List.setIfInBounds_toArray, List.set_cons_zero, List.set_cons_succ]
    refine wpAnyH_take (i := 10) (v := ?v10) (by simp; rfl) (by kernel_rfl) (by kernel_rfl) (by kernel_rfl) (fun _ _ _ h => h) (Or.inl ⟨by rfl, ?y10⟩) hHeld ?r10
    case y10 => intro w hSw; have z := hSw.cell 10 (by omega); rw [HE3.out] at z; clear hSw; go_simp; with_reducible rfl
    simp only [Act.put, List.setIfInBounds_toArray, List.set_cons_zero, List.set_cons_succ]
    refine wpAnyH_take (i := 11) (v := ?v11) (by simp; rfl) (by kernel_rfl) (by kernel_rfl) (by kernel_rfl) (fun _ _ _ h => h) (Or.inl ⟨by rfl, ?y11⟩) hHeld ?r11
    case y11 => intro w hSw; clear hSw; go_simp; with_reducible rfl
    simp only [Act.put, List.setIfInBounds_toArray, List.set_cons_zero, List.set_cons_succ]
    refine wpAnyH_take (i := 12) (v := ?v12) (by simp; rfl) (by kernel_rfl) (by kernel_rfl) (by kernel_rfl) (fun _ _ _ h => h) (Or.inl ⟨by rfl, ?y12⟩) hHeld ?r12
    case y12 => intro w hSw; clear hSw; go_simp; with_reducible rfl
    simp only [Act.put, List.setIfInBounds_toArray, List.set_cons_zero, List.set_cons_succ]
    refine wpAnyH_take (i := 13) (v := ?v13) (by simp; rfl) (by kernel_rfl) (by kernel_rfl) (by kernel_rfl) (fun _ _ _ h => h) (Or.inl ⟨by rfl, ?y13⟩) hHeld ?r13
    case y13 => intro w hSw; clear hSw; go_simp; with_reducible rfl
    simp only [Act.put, List.setIfInBounds_toArray, List.set_cons_zero, List.set_cons_succ]
    refine wpAnyH_take (i := 14) (v := ?v14) (by simp; rfl) (by kernel_rfl) (by kernel_rfl) (by kernel_rfl) (fun _ _ _ h => h) (Or.inl ⟨by rfl, ?y14⟩) hHeld ?r14
    case y14 => intro w hSw; have z := hSw.cell 11 (by omega); rw [HE4.out] at z; clear hSw; go_simp; with_reducible rfl
    simp only [Act.put, List.setIfInBounds_toArray, List.set_cons_zero, List.set_cons_succ]
    refine wpAnyH_take (i := 15) (v := ?v15) (by simp; rfl) (by kernel_rfl) (by kernel_rfl) (by kernel_rfl) (fun _ _ _ h => h) (Or.inl ⟨by rfl, ?y15⟩) hHeld ?r15
    case y15 => intro w hSw; clear hSw; go_simp; with_reducible rfl
    simp only [Act.put, List.setIfInBounds_toArray, List.set_cons_zero, List.set_cons_succ]
    refine wpAnyH_take (i := 16) (v := ?v16) (by simp; rfl) (by kernel_rfl) (by kernel_rfl) (by kernel_rfl) (fun _ _ _ h => h) (Or.inl ⟨by rfl, ?y16⟩) hHeld ?r16
    case y16 => intro w hSw; clear hSw; go_simp; with_reducible rfl
    simp only [Act.put, List.setIfInBounds_toArray, List.set_cons_zero, List.set_cons_succ]
    refine wpAnyH_take (i := 17) (v := ?v17) (by simp; rfl) (by kernel_rfl) (by kernel_rfl) (by kernel_rfl) (fun _ _ _ h => h) (Or.inl ⟨by rfl, ?y17⟩) hHeld ?r17
    case y17 => intro w hSw; clear hSw; go_simp; with_reducible rfl
    simp only [Act.put, List.setIfInBounds_toArray, List.set_cons_zero, List.set_cons_succ]
    refine wpAnyH_take (i := 18) (v := ?v18) (by simp; rfl) (by kernel_rfl) (by kernel_rfl) (by kernel_rfl) (fun _ _ _ h => h) (Or.inl ⟨by rfl, ?y18⟩) hHeld ?r18
    case y18 => intro w hSw; have z := hSw.cell 12 (by omega); rw [HE5.out] at z; clear hSw; go_simp; with_reducible rfl
    simp only [Act.put, List.setIfInBounds_toArray, List.set_cons_zero, List.set_cons_succ]
    refine wpAnyH_take (i := 19) (v := ?v19) (by simp; rfl) (by kernel_rfl) (by kernel_rfl) (by kernel_rfl) (fun _ _ _ h => h) (Or.inl ⟨by rfl, ?y19⟩) hHeld ?r19
    case y19 => intro w hSw; clear hSw; go_simp; with_reducible rfl
    simp only [Act.put, List.setIfInBounds_toArray, List.set_cons_zero, List.set_cons_succ]
    refine wpAnyH_take (i := 20) (v := _) (by simp; rfl) (by kernel_rfl) (by kernel_rfl) (by kernel_rfl) (fun _ _ _ h => h) (yields_build_is (vs := [(0, .int .i64 r.bl), (1, .int .i64 r.lc), (2, .int .i64 r.mr), (3, .int .i64 r.hi), (4, .int .i64 r.cl)]) (by rfl) 23 rfl (by rfl) (fun w => build23 w _ r (fill_cfgs r))) hHeld ?_
    simp only [Act.put, List.setIfInBounds_toArray, List.set_cons_zero, List.set_cons_succ]
    refine wpAnyH_take (i := 21) (v := ?v21) (by simp; rfl) (by kernel_rfl) (by kernel_rfl) (by kernel_rfl) (fun _ _ _ h => h) (Or.inl ⟨by rfl, ?y21⟩) hHeld ?r21
    case y21 => intro w hSw; clear hSw; go_simp; with_reducible rfl
    simp only [Act.put, List.setIfInBounds_toArray, List.set_cons_zero, List.set_cons_succ]
    refine wpAnyH_take (i := 22) (v := ?v22) (by simp; rfl) (by kernel_rfl) (by kernel_rfl) (by kernel_rfl) (fun _ _ _ h => h) (Or.inl ⟨by rfl, ?y22⟩) hHeld ?r22
    case y22 => intro w hSw; clear hSw; go_simp; with_reducible rfl
    simp only [Act.put, List.setIfInBounds_toArray, List.set_cons_zero, List.set_cons_succ]
    refine wpAnyH_take (i := 24) (v := ?v24) (by simp; rfl) (by kernel_rfl) (by kernel_rfl) (by kernel_rfl) (fun _ _ _ h => h) (Or.inl ⟨by rfl, ?y24⟩) hHeld ?r24
    case y24 => intro w hSw; clear hSw; go_simp; with_reducible rfl
    simp only [Act.put, List.setIfInBounds_toArray, List.set_cons_zero, List.set_cons_succ]
    refine wpAnyH_take (i := 25) (v := ?v25) (by simp; rfl) (by kernel_rfl) (by kernel_rfl) (by kernel_rfl) (fun _ _ _ h => h) (Or.inl ⟨by rfl, ?y25⟩) hHeld ?r25
    case y25 => intro w hSw; clear hSw; go_simp; with_reducible rfl
    simp only [Act.put, List.setIfInBounds_toArray, List.set_cons_zero, List.set_cons_succ]
    have B1d : Hid (Below w1.heap.size w1 w1.drew) := ⟨rfl, rfl, rfl, Nat.le_refl _, fun _ _ => rfl⟩
    have S1d : Hid (BIn w1.drew (some ⟨b, o, none⟩) 64 xs) := hHeld
    generalize w1.drew = wd at *
    have SAL : Hid (BIn (wd.alloc (.cells (scells sup0).toArray 73)) (some ⟨b, o, none⟩) 64 xs) := S1d.out.later (below_alloc wd _)
    have SST : Hid (BIn (wd.alloc (.cells (scells r).toArray 73)) (some ⟨b, o, none⟩) 64 xs) := S1d.out.later (below_alloc wd _)
    refine wpAnyH_ready (rs := [23, 28]) (by kernel_rfl) (by simp) ?_
    refine AllReadyH.cons (by simp; rfl) (fun Kc hKc => ?_) (AllReadyH.cons (by simp; rfl) (fun Kc hKc => ?_) AllReadyH.nil)
    · go_simp
      refine (EI1.out _ S1d.out).mono ?_
      rintro e w' ⟨rfl, rfl⟩
      refine hKc.out _ _ S1d.out (fun hHeld => ?_)
      clear hKc Kc
      refine wpAnyH_ready (rs := [26, 28]) (by kernel_rfl) (by simp) ?_
      refine AllReadyH.cons (by simp; rfl) (fun Kc hKc => ?_) (AllReadyH.cons (by simp; rfl) (fun Kc hKc => ?_) AllReadyH.nil)
      · go_simp
        refine (EI2.out _ S1d.out).mono ?_
        rintro e w' ⟨rfl, rfl⟩
        refine hKc.out _ _ S1d.out (fun hHeld => ?_)
        clear hKc Kc
        refine wpAnyH_take (i := 27) (v := _) (by simp; rfl) (by kernel_rfl) (by kernel_rfl) (by kernel_rfl) (fun _ _ _ h => h) (yields_build_is (vs := [(0, .agg (ccells r).toArray), (1, .int .u64 r.tail), (2, .int .u64 r.life)]) (by rfl) 73 rfl (by rfl) (fun w => build26 w _ r (fill_all r))) hHeld ?_
        simp only [Act.put, List.setIfInBounds_toArray, List.set_cons_zero, List.set_cons_succ]
        refine wpAnyH_ready (rs := [28]) (by kernel_rfl) (by simp) ?_
        refine AllReadyH.cons (by simp; rfl) (fun Kc hKc => ?_) AllReadyH.nil
        rw [if_pos (by rfl)]
        refine wp_alloc_is 73 rfl (alloc26 wd) ?_
        simp only [Act.put, List.setIfInBounds_toArray, List.set_cons_zero, List.set_cons_succ]
        refine hKc.out _ _ SAL.out (fun hHeld => ?_)
        clear hKc Kc
        refine wpAnyH_ready (rs := [29]) (by kernel_rfl) (by simp) ?_
        refine AllReadyH.cons (by simp; rfl) (fun Kc hKc => ?_) AllReadyH.nil
        rw [if_pos (by rfl)]
        refine wp_store_is 73 rfl rfl rfl (store_new26 wd r) ?_
        simp only [Act.put]
        refine hKc.out _ _ SST.out (fun hHeld => ?_)
        clear hKc Kc
        refine wpAnyH_done (by kernel_rfl) (NoPanic.normal ?_) _
        exact ⟨wd.heap.size, rfl, ⟨LAt.new 73 wd _, below_then B1d.out (below_alloc wd _)⟩, rfl⟩
      · rw [if_pos (by rfl)]
        refine wp_alloc_is 73 rfl (alloc26 wd) ?_
        simp only [Act.put, List.setIfInBounds_toArray, List.set_cons_zero, List.set_cons_succ]
        refine hKc.out _ _ SAL.out (fun hHeld => ?_)
        clear hKc Kc
        refine wpAnyH_ready (rs := [26]) (by kernel_rfl) (by simp) ?_
        refine AllReadyH.cons (by simp; rfl) (fun Kc hKc => ?_) AllReadyH.nil
        go_simp
        refine (EI2.out _ SAL.out).mono ?_
        rintro e w' ⟨rfl, rfl⟩
        refine hKc.out _ _ SAL.out (fun hHeld => ?_)
        clear hKc Kc
        refine wpAnyH_take (i := 27) (v := _) (by simp; rfl) (by kernel_rfl) (by kernel_rfl) (by kernel_rfl) (fun _ _ _ h => h) (yields_build_is (vs := [(0, .agg (ccells r).toArray), (1, .int .u64 r.tail), (2, .int .u64 r.life)]) (by rfl) 73 rfl (by rfl) (fun w => build26 w _ r (fill_all r))) hHeld ?_
        simp only [Act.put, List.setIfInBounds_toArray, List.set_cons_zero, List.set_cons_succ]
        refine wpAnyH_ready (rs := [29]) (by kernel_rfl) (by simp) ?_
        refine AllReadyH.cons (by simp; rfl) (fun Kc hKc => ?_) AllReadyH.nil
        rw [if_pos (by rfl)]
        refine wp_store_is 73 rfl rfl rfl (store_new26 wd r) ?_
        simp only [Act.put]
        refine hKc.out _ _ SST.out (fun hHeld => ?_)
        clear hKc Kc
        refine wpAnyH_done (by kernel_rfl) (NoPanic.normal ?_) _
        exact ⟨wd.heap.size, rfl, ⟨LAt.new 73 wd _, below_then B1d.out (below_alloc wd _)⟩, rfl⟩
    · rw [if_pos (by rfl)]
      refine wp_alloc_is 73 rfl (alloc26 wd) ?_
      simp only [Act.put, List.setIfInBounds_toArray, List.set_cons_zero, List.set_cons_succ]
      refine hKc.out _ _ SAL.out (fun hHeld => ?_)
      clear hKc Kc
      refine wpAnyH_ready (rs := [23]) (by kernel_rfl) (by simp) ?_
      refine AllReadyH.cons (by simp; rfl) (fun Kc hKc => ?_) AllReadyH.nil
      go_simp
      refine (EI1.out _ SAL.out).mono ?_
      rintro e w' ⟨rfl, rfl⟩
      refine hKc.out _ _ SAL.out (fun hHeld => ?_)
      clear hKc Kc
      refine wpAnyH_ready (rs := [26]) (by kernel_rfl) (by simp) ?_
      refine AllReadyH.cons (by simp; rfl) (fun Kc hKc => ?_) AllReadyH.nil
      go_simp
      refine (EI2.out _ SAL.out).mono ?_
      rintro e w' ⟨rfl, rfl⟩
      refine hKc.out _ _ SAL.out (fun hHeld => ?_)
      clear hKc Kc
      refine wpAnyH_take (i := 27) (v := _) (by simp; rfl) (by kernel_rfl) (by kernel_rfl) (by kernel_rfl) (fun _ _ _ h => h) (yields_build_is (vs := [(0, .agg (ccells r).toArray), (1, .int .u64 r.tail), (2, .int .u64 r.life)]) (by rfl) 73 rfl (by rfl) (fun w => build26 w _ r (fill_all r))) hHeld ?_
      simp only [Act.put, List.setIfInBounds_toArray, List.set_cons_zero, List.set_cons_succ]
      refine wpAnyH_ready (rs := [29]) (by kernel_rfl) (by simp) ?_
      refine AllReadyH.cons (by simp; rfl) (fun Kc hKc => ?_) AllReadyH.nil
      rw [if_pos (by rfl)]
      refine wp_store_is 73 rfl rfl rfl (store_new26 wd r) ?_
      simp only [Act.put]
      refine hKc.out _ _ SST.out (fun hHeld => ?_)
      clear hKc Kc
      refine wpAnyH_done (by kernel_rfl) (NoPanic.normal ?_) _
      exact ⟨wd.heap.size, rfl, ⟨LAt.new 73 wd _, below_then B1d.out (below_alloc wd _)⟩, rfl⟩
  case rest =>
    rintro e a w2 ⟨g4, rfl, HF, rfl⟩
    have R2 : Hid (SAt 73 w2 g4 r) := HF.out.1
    have B2 : Hid (Below w.heap.size w w2) := below_then B1.out HF.out.2
    have Z2 : Hid (SAt 73 w2 w.heap.size sup0) := LAt.later R1.out HF.out.2
    have X2 : Hid (BIn w2 (some ⟨b, o, none⟩) 64 xs) := X1.out.later HF.out.2
    have L2 : Hid (_) := SAt.load26 R2.out
    clear HF EI1 EI2 HE1 HE2 HE3 HE4 HE5 HE6 HE7 q1 q2 q3 q4 q5 n1 n2 n3 n4 X1 R1 B1
    go_wp2_with ((with_reducible refine at_ops ?_); (refine wpList_load_is (by rfl) 73 rfl rfl L2.out ?_); simp only [Act.put, List.setIfInBounds_toArray, List.set_cons_zero, List.set_cons_succ])
    refine (refEncode_any r HW.out w2).mono ?_
    rintro e w3 ⟨p3, n3, c3, rfl, hn3, m3⟩
    have R3 : Hid (SAt 73 w3 g4 r) := LAt.later R2.out m3.below
    have Z3 : Hid (SAt 73 w3 w.heap.size sup0) := LAt.later Z2.out m3.below
    have B3 : Hid (Below w.heap.size w w3) := below_then B2.out m3.below
    have X3 : Hid (BIn w3 (some ⟨b, o, none⟩) 64 xs) := X2.out.later m3.below
    have E3 : Hid (BIn w3 p3 n3 (encT r)) := m3.read
    have L3 : Hid (_) := SAt.load26 R3.out
    have ST : Hid (_) := LAt.store (ds := scells r) Z3.out size26 rfl (scells_all r)
    have SZ : Hid (_) := LAt.store (ds := scells sup0) Z3.out size26 rfl (scells_all sup0)
    have F1 : Hid (SAt 73 (w3.setRow w.heap.size (scells r).toArray) w.heap.size r ∧ Below w.heap.size w (w3.setRow w.heap.size (scells r).toArray)) := ⟨LAt.stored Z3.out _, below_setRow B3.out (Nat.le_refl _) _⟩
    have F0 : Hid (SAt 73 (w3.setRow w.heap.size (scells sup0).toArray) w.heap.size sup0 ∧ Below w.heap.size w (w3.setRow w.heap.size (scells sup0).toArray)) := ⟨LAt.stored Z3.out _, below_setRow B3.out (Nat.le_refl _) _⟩
    have HSE : Hid (_) := str_eq (encT r) xs E3.out.byte X3.out.byte
    have z1 := E3.out.str c3
    have z2 := X3.out.str c
    clear m3 hn3 R2 B2 Z2 X2 L2
    by_cases hm : May r
    · rw [chk_yes r hm]
      by_cases he : encS r = xs
      · have hq : ((strOfNums (encT r)).toList == (strOfNums xs).toList) = true := by rw [HSE.out, encT_yes r hm, he]; simp
        have HD : Hid (decS xs = (r, 0)) := by
          show _ = _
          rw [decS_ok xs HL.out (by unfold Good; rw [← HRR.out]; exact ⟨hm, he⟩), HRR.out]
        have hq2 : ((strOfNums (encT r)).toList != (strOfNums xs).toList) = false := by rw [bne, hq]; rfl
        clear he hm
        go_wp2_with ((with_reducible refine at_ops ?_); (first | (refine wpList_store_is (by rfl) 73 rfl rfl rfl ST.out ?_) | (refine wpList_load_is (by rfl) 73 rfl rfl L3.out ?_)); simp only [Act.put, List.setIfInBounds_toArray, List.set_cons_zero, List.set_cons_succ])
        rw [HD.out]
        exact bodyPost_ret (results_sup Tryz.results24 _ _ w.heap.size 73 _ _ (by rfl) F1.out.1 Tryz.underlying73 rfl size26) rfl ⟨rfl, F1.out.2⟩
      · have hq : ((strOfNums (encT r)).toList == (strOfNums xs).toList) = false := by rw [HSE.out, encT_yes r hm]; simp [he]
        have HD : Hid (decS xs = (sup0, 70)) := decS_bad xs HL.out (by unfold Good; rw [← HRR.out]; exact fun h => he h.2)
        have hq2 : ((strOfNums (encT r)).toList != (strOfNums xs).toList) = true := by rw [bne, hq]; rfl
        clear he hm
        go_wp2_with ((with_reducible refine at_ops ?_); (first | (refine wpList_store_is (by rfl) 73 rfl rfl rfl SZ.out ?_) | (refine wpList_build_is (vs := []) (by rfl) 73 rfl (by rfl) (build26 _ #[] sup0 fill_none) ?_)); simp only [Act.put, List.setIfInBounds_toArray, List.set_cons_zero, List.set_cons_succ])
        rw [HD.out]
        exact bodyPost_ret (results_sup Tryz.results24 _ _ w.heap.size 73 _ _ (by rfl) F0.out.1 Tryz.underlying73 rfl size26) rfl ⟨rfl, F0.out.2⟩
    · have hc0 : chk r ≠ 0 := fun h => hm ((chk_zero r).1 h)
      generalize chk r = q at *
      have HD : Hid (decS xs = (sup0, 70)) := decS_bad xs HL.out (by unfold Good; rw [← HRR.out]; exact fun h => hm h.1)
      clear hm
      go_wp2_with ((with_reducible refine at_ops ?_); (first | (refine wpList_store_is (by rfl) 73 rfl rfl rfl SZ.out ?_) | (refine wpList_build_is (vs := []) (by rfl) 73 rfl (by rfl) (build26 _ #[] sup0 fill_none) ?_)); simp only [Act.put, List.setIfInBounds_toArray, List.set_cons_zero, List.set_cons_succ])
      rw [HD.out]
      exact bodyPost_ret (results_sup Tryz.results24 _ _ w.heap.size 73 _ _ (by rfl) F0.out.1 Tryz.underlying73 rfl size26) rfl ⟨rfl, F0.out.2⟩
/-- the document's Decode, of whatever bytes: its answers -/
theorem refDecode_any (p : Option Addr) (n c : Nat) (xs : List Int) (w : World) (hx : BIn w p n xs) (hc : n ≤ c) :
    Calls Tryz.prog 24 #[.slice p n c] w fun e w' => e = .returned (.tuple #[.agg (scells (decS xs).1).toArray, .int .i64 (decS xs).2]) ∧ Below w.heap.size w w' := by
  by_cases h : n = 64
  · subst h
    obtain ⟨b, o, rfl, -⟩ := hx.cells (by omega)
    exact refDecode_64 b o c xs w hx hc
  · rw [decS_len xs (by rw [hx.len]; exact h)]
    exact refDecode_len p n c w h
end Go.Proofs.YtefnkjajjidfaaaGreatDoor
