/-
  RecordDecodes walked.
-/
import Derived.Test.YtndildimnanlpaaDoorIa
import Derived.Test.YtndildimnanlpaaDoorHb
namespace Go.Proofs.YtndildimnanlpaaDoor
open Go.RowKit

set_option maxHeartbeats 8000000 in
set_option maxRecDepth 100000 in
theorem recordDecodes_any (p : Option Addr) (n c : Nat) (xs : List Int) (A X : Int) (w : World) (h : SB w p n c xs) (hbig : n ≤ 140737488351232) (hX0 : 0 ≤ X) (hX1 : X < 256) (ht : Tab w) :
    Calls Tryd.prog 7 #[.slice p n c, .int .i64 A, .int .u8 X] w fun e w' => e = .returned (.bool true) ∧ Below w.heap.size w w' := by
  obtain ⟨i0, hi, hz0, hz1, hz2⟩ := info_parts info5
  have HT : Hid (Tab w) := ht
  have HH : Hid (SB w p n c xs) := h
  have HL : Hid (xs.length = n) := h.inn.len
  clear ht h
  go_enter Tryd.func7, Tryd.ntmps7
  go_wp2_with fail
  refine (fixed_any w HT.out).mono ?_
  rintro e w1 ⟨rfl, b1⟩
  have B1 : Hid (Below w.heap.size w w1) := b1
  have H1 : Hid (SB w1 p n c xs) := HH.out.later b1
  clear b1 HH
  go_wp2_with fail
  refine (roomy_any p n c xs w1 H1.out (by omega)).mono ?_
  rintro e w2 ⟨g, cap, rfl, rm2, b2⟩
  have M2 : Hid (RoomAt w2 w1.heap.size g n cap xs) := rm2
  have H2 : Hid (SB w2 p n c xs) := H1.out.later b2
  have B2 : Hid (Below w.heap.size w w2) := below_then B1.out b2
  have hcap : n ≤ cap := by have := rm2.cap2; omega
  have hgw : w.heap.size ≤ g := by have := rm2.at; have := B1.out.size; omega
  clear rm2 b2 H1
  go_wp2_with fail
  refine (decode_any _ n cap xs w2 M2.out.read hcap (HT.out.later B2.out)).mono ?_
  rintro e w3 ⟨rfl, b3⟩
  have HDW : Hid ((decS xs).1.val.length = 32) := (decS_wf xs M2.out.byte).len
  obtain ⟨r, E, hd⟩ : ∃ r E, decS xs = (r, E) := ⟨_, _, rfl⟩
  have HD : Hid (decS xs = (r, E)) := hd
  rw [hd] at HDW ⊢
  clear hd
  have A3 : Hid (_) := alloc31 w3
  have S3 : Hid (_) := store_new size31 w3 r HDW.out
  obtain ⟨w4, hw4⟩ : ∃ w4, w4 = w3.alloc (.cells (rcells r).toArray 31) := ⟨_, rfl⟩
  have b34 : Below w3.heap.size w3 w4 := by rw [hw4]; exact below_alloc w3 _
  have b24 := below_then b3 b34
  have R4 : Hid (RAt 31 w4 w3.heap.size r) := by rw [hw4]; exact RAt.new 31 w3 r
  have M4 : Hid (RoomAt w4 w1.heap.size g n cap xs) := M2.out.later b24
  have H4 : Hid (SB w4 p n c xs) := H2.out.later b24
  have B4 : Hid (Below w.heap.size w w4) := below_then B2.out b24
  rw [← hw4] at S3
  clear b3 b34 b24 hw4 M2 H2 B2
  go_wp2_with ((with_reducible refine at_seq ?_); (first | (refine wpList_alloc_is (by rfl) 31 rfl A3.out ?_) | (refine wpList_store_is (by rfl) 31 rfl rfl rfl S3.out ?_)); simp only [Act.put, List.setIfInBounds_toArray, List.set_cons_zero, List.set_cons_succ])
  refine (refDecode_any p n c xs w4 H4.out.inn).mono ?_
  rintro e w5 ⟨rfl, b5⟩
  rw [HD.out]
  have A5 : Hid (_) := alloc37 w5
  have S5 : Hid (_) := store_new size37 w5 r HDW.out
  obtain ⟨w6, hw6⟩ : ∃ w6, w6 = w5.alloc (.cells (rcells r).toArray 37) := ⟨_, rfl⟩
  have b56 : Below w5.heap.size w5 w6 := by rw [hw6]; exact below_alloc w5 _
  have b46 := below_then b5 b56
  have R6 : Hid (RAt 31 w6 w3.heap.size r ∧ RAt 37 w6 w5.heap.size r) := ⟨R4.out.later b46, by rw [hw6]; exact RAt.new 37 w5 r⟩
  have M6 : Hid (RoomAt w6 w1.heap.size g n cap xs) := M4.out.later b46
  have H6 : Hid (SB w6 p n c xs) := H4.out.later b46
  have B6 : Hid (Below w.heap.size w w6) := below_then B4.out b46
  rw [← hw6] at S5
  clear b5 b56 b46 hw6 M4 H4 B4 R4 A3 S3
  have N7 : Hid (∀ w, (binOp .neq 37 (.agg (rcells r).toArray) (.agg (rcells r).toArray)).run Tryd.prog w = .ok (.bool false) w) := fun w => by
    have := neq37 w r r HDW.out HDW.out
    rw [recB_same r] at this
    exact this
  go_wp2_with ((with_reducible refine at_seq ?_); (first | (refine wpList_alloc_is (by rfl) 37 rfl A5.out ?_) | (refine wpList_store_is (by rfl) 37 rfl rfl rfl S5.out ?_)); simp only [Act.put, List.setIfInBounds_toArray, List.set_cons_zero, List.set_cons_succ])
  refine wp_region_noPanic ?_
  refine wp_region_held_drew (S := fun w' => RAt 31 w' w3.heap.size r ∧ RAt 37 w' w5.heap.size r) (by kernel_rfl) ⟨R6.out.1, R6.out.2⟩ (fun hHeld => ?_)
  refine wpAnyH_take (i := 0) (v := ?v0) (by simp; rfl) (by kernel_rfl) (by kernel_rfl) (by kernel_rfl) (fun _ _ _ h => h) (Or.inl ⟨by rfl, ?y0⟩) hHeld ?r0
  case y0 => intro w hSw; clear hSw; go_simp; with_reducible rfl
  simp only [Act.put, List.setIfInBounds_toArray, List.set_cons_zero, List.set_cons_succ]
  refine wpAnyH_take (i := 1) (v := ?v1) (by simp; rfl) (by kernel_rfl) (by kernel_rfl) (by kernel_rfl) (fun _ _ _ h => h) (Or.inl ⟨by rfl, ?y1⟩) hHeld ?r1
  case y1 => intro w hSw; clear hSw; go_simp; with_reducible rfl
  simp only [Act.put, List.setIfInBounds_toArray, List.set_cons_zero, List.set_cons_succ]
  refine wpAnyH_take (i := 2) (v := ?v2) (by simp; rfl) (by kernel_rfl) (by kernel_rfl) (by kernel_rfl) (fun _ _ _ h => h) (Or.inl ⟨by rfl, ?y2⟩) hHeld ?r2
  case y2 => intro w hSw; clear hSw; go_simp; with_reducible rfl
  simp only [Act.put, List.setIfInBounds_toArray, List.set_cons_zero, List.set_cons_succ]
  refine wpAnyH_take (i := 3) (v := ?v3) (by simp; rfl) (by kernel_rfl) (by kernel_rfl) (by kernel_rfl) (fun _ _ _ h => h) (Or.inl ⟨by rfl, ?y3⟩) hHeld ?r3
  case y3 => intro w hSw; clear hSw; go_simp; with_reducible rfl
  simp only [Act.put, List.setIfInBounds_toArray, List.set_cons_zero, List.set_cons_succ]
  refine wpAnyH_take (i := 4) (v := _) (by simp; rfl) (by kernel_rfl) (by kernel_rfl) (by kernel_rfl) (fun _ _ _ h => h) (yieldsIf_load_mid (by rfl) 31 (.tmp 8) rfl w3.heap.size 0 rfl (rcells r) _ (fun _ h => RAt.range h.1) Tryd.underlying31 rfl (by rw [size31, rcells_len r HDW.out])) hHeld ?_
  simp only [Act.put, List.setIfInBounds_toArray, List.set_cons_zero, List.set_cons_succ]
  refine wpAnyH_take (i := 6) (v := _) (by simp; rfl) (by kernel_rfl) (by kernel_rfl) (by kernel_rfl) (fun _ _ _ h => h) (yieldsIf_load_mid (by rfl) 37 (.tmp 10) rfl w5.heap.size 0 rfl (rcells r) _ (fun _ h => RAt.range h.2) Tryd.underlying37 rfl (by rw [size37, rcells_len r HDW.out])) hHeld ?_
  simp only [Act.put, List.setIfInBounds_toArray, List.set_cons_zero, List.set_cons_succ]
  refine wpAnyH_ready (rs := [5]) (by kernel_rfl) (by simp) ?_
  refine AllReadyH.cons (by simp; rfl) (fun Kc hKc => ?_) AllReadyH.nil
  go_simp
  refine (plain_any r HDW.out w6.drew).mono ?_
  rintro e w7 ⟨rfl, b7'⟩
  have b7 := below_undrew b7'
  have R7 : Hid (RAt 31 w7 w3.heap.size r ∧ RAt 37 w7 w5.heap.size r) := ⟨R6.out.1.later b7, R6.out.2.later b7⟩
  have M7 : Hid (RoomAt w7 w1.heap.size g n cap xs) := M6.out.later b7
  have H7 : Hid (SB w7 p n c xs) := H6.out.later b7
  have B7 : Hid (Below w.heap.size w w7) := below_then B6.out b7
  clear b7' b7 R6 M6 H6 B6
  refine hKc.out _ _ R7.out (fun hHeld => ?_)
  clear hKc Kc
  refine wpAnyH_take (i := 7) (v := _) (by simp; rfl) (by kernel_rfl) (by kernel_rfl) (by kernel_rfl) (fun _ _ _ h => h) (yields_neq_is (by rfl) 37 rfl rfl rfl eqg37 N7.out) hHeld ?_
  simp only [Act.put, List.setIfInBounds_toArray, List.set_cons_zero, List.set_cons_succ]
  refine wpAnyH_take (i := 8) (v := ?v8) (by simp; rfl) (by kernel_rfl) (by kernel_rfl) (by kernel_rfl) (fun _ _ _ h => h) (Or.inl ⟨by rfl, ?y8⟩) hHeld ?r8
  case y8 => intro w hSw; clear hSw; go_simp; with_reducible rfl
  simp only [Act.put, List.setIfInBounds_toArray, List.set_cons_zero, List.set_cons_succ]
  refine wpAnyH_take (i := 9) (v := ?v9) (by simp; rfl) (by kernel_rfl) (by kernel_rfl) (by kernel_rfl) (fun _ _ _ h => h) (Or.inl ⟨by rfl, ?y9⟩) hHeld ?r9
  case y9 => intro w hSw; clear hSw; go_simp; with_reducible rfl
  simp only [Act.put, List.setIfInBounds_toArray, List.set_cons_zero, List.set_cons_succ]
  refine wpAnyH_take (i := 10) (v := ?v10) (by simp; rfl) (by kernel_rfl) (by kernel_rfl) (by kernel_rfl) (fun _ _ _ h => h) (Or.inl ⟨by rfl, ?y10⟩) hHeld ?r10
  case y10 => intro w hSw; clear hSw; go_simp; with_reducible rfl
  simp only [Act.put, List.setIfInBounds_toArray, List.set_cons_zero, List.set_cons_succ]
  refine wpAnyH_take (i := 11) (v := ?v11) (by simp; rfl) (by kernel_rfl) (by kernel_rfl) (by kernel_rfl) (fun _ _ _ h => h) (Or.inl ⟨by rfl, ?y11⟩) hHeld ?r11
  case y11 => intro w hSw; clear hSw; go_simp; with_reducible rfl
  simp only [Act.put, List.setIfInBounds_toArray, List.set_cons_zero, List.set_cons_succ]
  refine wpAnyH_ready (rs := [12]) (by kernel_rfl) (by simp) ?_
  refine AllReadyH.cons (by simp; rfl) (fun Kc hKc => ?_) AllReadyH.nil
  go_simp
  obtain ⟨hin7, h77, h78, h79⟩ := roomy_in M7.out.own M7.out.len M7.out.byte
  refine (whole_any g n cap c p xs w7 hin7 h77 h78 h79 M7.out.cap2 (by omega) H7.out.inn).mono ?_
  rintro e w7' ⟨rfl, rfl⟩
  clear hin7 h77 h78 h79
  refine hKc.out _ _ R7.out (fun hHeld => ?_)
  clear hKc Kc
  refine wpAnyH_take (i := 13) (v := ?v13) (by simp; rfl) (by kernel_rfl) (by kernel_rfl) (by kernel_rfl) (fun _ _ _ h => h) (Or.inl ⟨by rfl, ?y13⟩) hHeld ?r13
  case y13 => intro w hSw; clear hSw; go_simp; with_reducible rfl
  simp only [Act.put, List.setIfInBounds_toArray, List.set_cons_zero, List.set_cons_succ]
  refine wpAnyH_take (i := 14) (v := ?v14) (by simp; rfl) (by kernel_rfl) (by kernel_rfl) (by kernel_rfl) (fun _ _ _ h => h) (Or.inl ⟨by rfl, ?y14⟩) hHeld ?r14
  case y14 => intro w hSw; clear hSw; go_simp; with_reducible rfl
  simp only [Act.put, List.setIfInBounds_toArray, List.set_cons_zero, List.set_cons_succ]
  refine wpAnyH_done (by kernel_rfl) (NoPanic.normal ?_) _
  clear hHeld N7 A5 S5
  have R7' : Hid (RAt 31 w7 w3.heap.size r) := R7.out.1
  go_wp2_with fail
  refine (decode_any _ n cap xs w7 M7.out.read hcap (HT.out.later B7.out)).mono ?_
  rintro e w8 ⟨rfl, b8⟩
  rw [HD.out]
  have A8 : Hid (_) := alloc31 w8
  have S8 : Hid (_) := store_new size31 w8 r HDW.out
  obtain ⟨w9, hw9⟩ : ∃ w9, w9 = w8.alloc (.cells (rcells r).toArray 31) := ⟨_, rfl⟩
  have b89 : Below w8.heap.size w8 w9 := by rw [hw9]; exact below_alloc w8 _
  have b79 := below_then b8 b89
  have L9 : Hid (_) := (show RAt 31 w9 w8.heap.size r by rw [hw9]; exact RAt.new 31 w8 r).load31 HDW.out
  have L9b : Hid (_) := (R7'.out.later b79).load31 HDW.out
  have M9 : Hid (RoomAt w9 w1.heap.size g n cap xs) := M7.out.later b79
  have B9 : Hid (Below w.heap.size w w9) := below_then B7.out b79
  have N9 : Hid ((binOp .neq 31 (.agg (rcells r).toArray) (.agg (rcells r).toArray)).run Tryd.prog w9 = .ok (.bool false) w9) := by
    have := neq31 w9 r r HDW.out HDW.out
    rw [recB_same r] at this
    exact this
  rw [← hw9] at S8
  clear b8 b89 b79 hw9 M7 H7 B7 R7 R7'
  by_cases hn0 : n = 0
  · subst hn0
    go_wp2_with ((with_reducible refine at_seq ?_); (first | (refine wpList_alloc_is (by rfl) 31 rfl A8.out ?_) | (refine wpList_store_is (by rfl) 31 rfl rfl rfl S8.out ?_) | (refine wpList_load_is (by rfl) 31 rfl rfl L9.out ?_) | (refine wpList_load_is (by rfl) 31 rfl rfl L9b.out ?_) | (refine wpList_neq_is (by rfl) 31 rfl rfl rfl eqg31 N9.out ?_)); simp only [Act.put, List.setIfInBounds_toArray, List.set_cons_zero, List.set_cons_succ])
    go_ret
    exact ⟨rfl, B9.out⟩
  · have hnz : ((n : Int) == 0) = false := by simp; omega
    obtain ⟨q, i, hi1, hi2, hi3, hi4, hi5, hi6⟩ := place A n (by omega)
    have hiL : i < xs.length := by rw [HL.out]; exact hi6
    have hxc := M9.out.read.cell i hi6
    rw [Nat.zero_add, show xs.getD i 0 = xs[i] by simp [List.getD, List.getElem?_eq_getElem hiL]] at hxc
    have hfz := M9.out.own.frozenAt i
    have hxb := M9.out.byte.at i hiL
    have hxo := u8_xor xs[i] X hxb.1 hxb.2 hX0 hX1
    have hxl : xs[i].toNat ^^^ X.toNat < 256 := Nat.xor_lt_two_pow (n := 8) (by omega) (by omega)
    obtain ⟨v, hv⟩ : ∃ v, v = bits .xor .u8 xs[i] X := ⟨_, rfl⟩
    have M10 : Hid (RoomAt (w9.setCell ⟨g, i, none⟩ (.int .u8 v)) w1.heap.size g n cap (xs.set i v)) := M9.out.put hi6 v (by rw [hv, hxo]; omega) (by rw [hv, hxo]; omega)
    have B10 : Hid (Below w.heap.size w (w9.setCell ⟨g, i, none⟩ (.int .u8 v))) := B9.out.setCell hgw _
    have e10 : bits .xor .u8 xs[i] X = v := hv.symm
    generalize xs[i] = z at *
    generalize xs.set i v = ys at *
    clear hxb hxo hxl hv hiL HL M9 B9
    obtain ⟨w10, hw10⟩ : ∃ w10, w10 = w9.setCell ⟨g, i, none⟩ (.int .u8 v) := ⟨_, rfl⟩
    rw [← hw10] at M10 B10
    have e11 := hw10.symm
    clear hw10
    have HN : Hid (∀ ad, some (⟨g, 0, none⟩ : Addr) = some ad → ∀ j u, (U8 ys)[j]? = some u → (w10.alloc (.cells #[] 5)).cell? (ad.add j) = some u) := by
      rintro ad had
      cases had
      exact (M10.out.read.later (below_alloc w10 (.cells #[] 5))).news
    have HLY : Hid ((U8 ys).length = n * 1) := by show _ = _; rw [List.length_map, M10.out.len, Nat.mul_one]
    have HM : Hid ((w10.alloc (.cells #[] 5)).ownsRow w10.heap.size 5 1 (.slice (some ⟨w10.heap.size, 0, none⟩) 0 0) 0 []) := World.ownsRow_made w10 #[] 0 (Nat.le_refl _) (Nat.zero_le _) rfl
    have hcapI : (n : Int) ≤ (cap : Int) := by omega
    go_wp2_with (first | (at_builtin; refine wpList_append_ownany _ rfl (.tmp 84) (.tmp 85) 25 rfl w10.heap.size 5 i0 (.int .u8 0) 1 1 Tryd.underlying25 hi hz0 hz1 hz2 rfl (by decide) _ 0 [] rfl HM.out (some ⟨g, 0, none⟩) n cap (U8 ys) rfl (fun e => by cases e) HLY.out HN.out (ones_u8 _) (by unfold maxLen; omega) (by omega) (by simp) ?_) | ((with_reducible refine at_seq ?_); (first | (refine wpList_alloc_is (by rfl) 31 rfl A8.out ?_) | (refine wpList_store_is (by rfl) 31 rfl rfl rfl S8.out ?_) | (refine wpList_load_is (by rfl) 31 rfl rfl L9.out ?_) | (refine wpList_load_is (by rfl) 31 rfl rfl L9b.out ?_) | (refine wpList_neq_is (by rfl) 31 rfl rfl rfl eqg31 N9.out ?_)); simp only [Act.put, List.setIfInBounds_toArray, List.set_cons_zero, List.set_cons_succ]))
    intro vo w11 hown11 hgrow11
    have hb11 : Below w10.heap.size w10 w11 := ((Below.refl _ w10).alloc (Nat.le_refl _) _).grown hgrow11 (by simp) (by intro k hk; simp [Value.ownBlock] at hk; omega)
    obtain ⟨po, co, rfl, mo⟩ := made_of (w := w10) (n := n) (xs := ys) (by simpa using hown11) M10.out.byte hb11
    have M11 : Hid (RoomAt w11 w1.heap.size g n cap ys) := M10.out.later hb11
    have O11 : Hid (BIn w11 po n ys) := mo.read
    have B11 : Hid (Below w.heap.size w w11) := below_then B10.out hb11
    clear hown11 hgrow11 hb11 mo HN HLY HM M10 B10 A8 S8 L9 L9b N9 e10 e11 hxc hfz hi1 hi2 hi3 hi4 hi5 hcapI
    go_wp2_with fail
    refine (decode_any _ n cap ys w11 M11.out.read hcap (HT.out.later B11.out)).mono ?_
    rintro e w12 ⟨rfl, b12⟩
    have HDW2 : Hid ((decS ys).1.val.length = 32) := (decS_wf ys M11.out.byte).len
    obtain ⟨r2, E2, hd2⟩ : ∃ r E, decS ys = (r, E) := ⟨_, _, rfl⟩
    have HD2 : Hid (decS ys = (r2, E2)) := hd2
    rw [hd2] at HDW2 ⊢
    clear hd2
    have A12 : Hid (_) := alloc31 w12
    have S12 : Hid (_) := store_new size31 w12 r2 HDW2.out
    obtain ⟨w13, hw13⟩ : ∃ w13, w13 = w12.alloc (.cells (rcells r2).toArray 31) := ⟨_, rfl⟩
    have b13 : Below w12.heap.size w12 w13 := by rw [hw13]; exact below_alloc w12 _
    have b113 := below_then b12 b13
    have R13 : Hid (RAt 31 w13 w12.heap.size r2) := by rw [hw13]; exact RAt.new 31 w12 r2
    have M13 : Hid (RoomAt w13 w1.heap.size g n cap ys) := M11.out.later b113
    have O13 : Hid (BIn w13 po n ys) := O11.out.later b113
    have B13 : Hid (Below w.heap.size w w13) := below_then B11.out b113
    rw [← hw13] at S12
    clear b12 b13 b113 hw13 M11 O11 B11
    go_wp2_with ((with_reducible refine at_seq ?_); (first | (refine wpList_alloc_is (by rfl) 31 rfl A12.out ?_) | (refine wpList_store_is (by rfl) 31 rfl rfl rfl S12.out ?_)); simp only [Act.put, List.setIfInBounds_toArray, List.set_cons_zero, List.set_cons_succ])
    refine (refDecode_any po n co ys w13 O13.out).mono ?_
    rintro e w14 ⟨rfl, b14⟩
    rw [HD2.out]
    have A14 : Hid (_) := alloc37 w14
    have S14 : Hid (_) := store_new size37 w14 r2 HDW2.out
    obtain ⟨w15, hw15⟩ : ∃ w15, w15 = w14.alloc (.cells (rcells r2).toArray 37) := ⟨_, rfl⟩
    have b15 : Below w14.heap.size w14 w15 := by rw [hw15]; exact below_alloc w14 _
    have b135 := below_then b14 b15
    have ZZ : Hid (RAt 31 w15 w12.heap.size r2 ∧ RAt 37 w15 w14.heap.size r2 ∧ BIn w15 (some ⟨g, 0, none⟩) n ys ∧ BIn w15 po n ys) := ⟨R13.out.later b135, by rw [hw15]; exact RAt.new 37 w14 r2, (M13.out.later b135).read, O13.out.later b135⟩
    have B15 : Hid (Below w.heap.size w w15) := below_then B13.out b135
    rw [← hw15] at S14
    clear b14 b15 b135 hw15 M13 O13 B13 R13 A12 S12
    have Q7 : Hid (∀ w, (binOp .eql 37 (.agg (rcells r2).toArray) (.agg (rcells r2).toArray)).run Tryd.prog w = .ok (.bool true) w) := fun w => by
      have := eql37 w r2 r2 HDW2.out HDW2.out
      rw [recB_same r2] at this
      exact this
    go_wp2_with ((with_reducible refine at_seq ?_); (first | (refine wpList_alloc_is (by rfl) 37 rfl A14.out ?_) | (refine wpList_store_is (by rfl) 37 rfl rfl rfl S14.out ?_)); simp only [Act.put, List.setIfInBounds_toArray, List.set_cons_zero, List.set_cons_succ])
    refine wp_region_noPanic ?_
    refine wp_region_held_drew (S := fun w' => RAt 31 w' w12.heap.size r2 ∧ RAt 37 w' w14.heap.size r2 ∧ BIn w' (some ⟨g, 0, none⟩) n ys ∧ BIn w' po n ys) (by kernel_rfl) ⟨ZZ.out.1, ZZ.out.2.1, ZZ.out.2.2.1.drew, ZZ.out.2.2.2.drew⟩ (fun hHeld => ?_)
    refine wpAnyH_take (i := 0) (v := ?v0b) (by simp; rfl) (by kernel_rfl) (by kernel_rfl) (by kernel_rfl) (fun _ _ _ h => h) (Or.inl ⟨by rfl, ?y0b⟩) hHeld ?r0b
    case y0b => intro w hSw; clear hSw; go_simp; with_reducible rfl
    simp only [Act.put, List.setIfInBounds_toArray, List.set_cons_zero, List.set_cons_succ]
    refine wpAnyH_take (i := 1) (v := ?v1b) (by simp; rfl) (by kernel_rfl) (by kernel_rfl) (by kernel_rfl) (fun _ _ _ h => h) (Or.inl ⟨by rfl, ?y1b⟩) hHeld ?r1b
    case y1b => intro w hSw; clear hSw; go_simp; with_reducible rfl
    simp only [Act.put, List.setIfInBounds_toArray, List.set_cons_zero, List.set_cons_succ]
    refine wpAnyH_take (i := 2) (v := ?v2b) (by simp; rfl) (by kernel_rfl) (by kernel_rfl) (by kernel_rfl) (fun _ _ _ h => h) (Or.inl ⟨by rfl, ?y2b⟩) hHeld ?r2b
    case y2b => intro w hSw; clear hSw; go_simp; with_reducible rfl
    simp only [Act.put, List.setIfInBounds_toArray, List.set_cons_zero, List.set_cons_succ]
    refine wpAnyH_take (i := 3) (v := ?v3b) (by simp; rfl) (by kernel_rfl) (by kernel_rfl) (by kernel_rfl) (fun _ _ _ h => h) (Or.inl ⟨by rfl, ?y3b⟩) hHeld ?r3b
    case y3b => intro w hSw; clear hSw; go_simp; with_reducible rfl
    simp only [Act.put, List.setIfInBounds_toArray, List.set_cons_zero, List.set_cons_succ]
    refine wpAnyH_take (i := 4) (v := _) (by simp; rfl) (by kernel_rfl) (by kernel_rfl) (by kernel_rfl) (fun _ _ _ h => h) (yieldsIf_load_mid (by rfl) 31 (.tmp 16) rfl w12.heap.size 0 rfl (rcells r2) _ (fun _ h => RAt.range h.1) Tryd.underlying31 rfl (by rw [size31, rcells_len r2 HDW2.out])) hHeld ?_
    simp only [Act.put, List.setIfInBounds_toArray, List.set_cons_zero, List.set_cons_succ]
    refine wpAnyH_take (i := 6) (v := _) (by simp; rfl) (by kernel_rfl) (by kernel_rfl) (by kernel_rfl) (fun _ _ _ h => h) (yieldsIf_load_mid (by rfl) 37 (.tmp 18) rfl w14.heap.size 0 rfl (rcells r2) _ (fun _ h => RAt.range h.2.1) Tryd.underlying37 rfl (by rw [size37, rcells_len r2 HDW2.out])) hHeld ?_
    simp only [Act.put, List.setIfInBounds_toArray, List.set_cons_zero, List.set_cons_succ]
    refine wpAnyH_ready (rs := [5]) (by kernel_rfl) (by simp) ?_
    refine AllReadyH.cons (by simp; rfl) (fun Kc hKc => ?_) AllReadyH.nil
    go_simp
    refine (plain_any r2 HDW2.out w15.drew).mono ?_
    rintro e w16 ⟨rfl, b16'⟩
    have b16 := below_undrew b16'
    have Z16 : Hid (RAt 31 w16 w12.heap.size r2 ∧ RAt 37 w16 w14.heap.size r2 ∧ BIn w16 (some ⟨g, 0, none⟩) n ys ∧ BIn w16 po n ys) := ⟨ZZ.out.1.later b16, ZZ.out.2.1.later b16, ZZ.out.2.2.1.later b16, ZZ.out.2.2.2.later b16⟩
    have B16 : Hid (Below w.heap.size w w16) := below_then B15.out b16
    clear b16' b16 ZZ B15
    refine hKc.out _ _ Z16.out (fun hHeld => ?_)
    clear hKc Kc
    refine wpAnyH_take (i := 7) (v := _) (by simp; rfl) (by kernel_rfl) (by kernel_rfl) (by kernel_rfl) (fun _ _ _ h => h) (yields_eql_is (by rfl) 37 rfl rfl rfl eqg37 Q7.out) hHeld ?_
    simp only [Act.put, List.setIfInBounds_toArray, List.set_cons_zero, List.set_cons_succ]
    refine wpAnyH_take (i := 8) (v := ?v8b) (by simp; rfl) (by kernel_rfl) (by kernel_rfl) (by kernel_rfl) (fun _ _ _ h => h) (Or.inl ⟨by rfl, ?y8b⟩) hHeld ?r8b
    case y8b => intro w hSw; clear hSw; go_simp; with_reducible rfl
    simp only [Act.put, List.setIfInBounds_toArray, List.set_cons_zero, List.set_cons_succ]
    refine wpAnyH_take (i := 9) (v := ?v9b) (by simp; rfl) (by kernel_rfl) (by kernel_rfl) (by kernel_rfl) (fun _ _ _ h => h) (Or.inl ⟨by rfl, ?y9b⟩) hHeld ?r9b
    case y9b => intro w hSw; clear hSw; go_simp; with_reducible rfl
    simp only [Act.put, List.setIfInBounds_toArray, List.set_cons_zero, List.set_cons_succ]
    refine wpAnyH_take (i := 10) (v := ?v10b) (by simp; rfl) (by kernel_rfl) (by kernel_rfl) (by kernel_rfl) (fun _ _ _ h => h) (Or.inl ⟨by rfl, ?y10b⟩) hHeld ?r10b
    case y10b => intro w hSw; clear hSw; go_simp; with_reducible rfl
    simp only [Act.put, List.setIfInBounds_toArray, List.set_cons_zero, List.set_cons_succ]
    refine wpAnyH_take (i := 11) (v := ?v11b) (by simp; rfl) (by kernel_rfl) (by kernel_rfl) (by kernel_rfl) (fun _ _ _ h => h) (Or.inl ⟨by rfl, ?y11b⟩) hHeld ?r11b
    case y11b => intro w hSw; obtain ⟨-, -, z, -⟩ := hSw; have z1 := z.str cap; clear z; go_simp; with_reducible rfl
    simp only [Act.put, List.setIfInBounds_toArray, List.set_cons_zero, List.set_cons_succ]
    refine wpAnyH_take (i := 12) (v := ?v12b) (by simp; rfl) (by kernel_rfl) (by kernel_rfl) (by kernel_rfl) (fun _ _ _ h => h) (Or.inl ⟨by rfl, ?y12b⟩) hHeld ?r12b
    case y12b => intro w hSw; clear hSw; go_simp; with_reducible rfl
    simp only [Act.put, List.setIfInBounds_toArray, List.set_cons_zero, List.set_cons_succ]
    refine wpAnyH_take (i := 13) (v := ?v13b) (by simp; rfl) (by kernel_rfl) (by kernel_rfl) (by kernel_rfl) (fun _ _ _ h => h) (Or.inl ⟨by rfl, ?y13b⟩) hHeld ?r13b
    case y13b => intro w hSw; obtain ⟨-, -, -, z⟩ := hSw; have z1 := z.str co; clear z; go_simp; with_reducible rfl
    simp only [Act.put, List.setIfInBounds_toArray, List.set_cons_zero, List.set_cons_succ]
    refine wpAnyH_take (i := 14) (v := ?v14b) (by simp; rfl) (by kernel_rfl) (by kernel_rfl) (by kernel_rfl) (fun _ _ _ h => h) (Or.inl ⟨by rfl, ?y14b⟩) hHeld ?r14b
    case y14b => intro w hSw; clear hSw; go_simp; with_reducible rfl
    simp only [Act.put, List.setIfInBounds_toArray, List.set_cons_zero, List.set_cons_succ]
    refine wpAnyH_take (i := 15) (v := ?v15b) (by simp; rfl) (by kernel_rfl) (by kernel_rfl) (by kernel_rfl) (fun _ _ _ h => h) (Or.inl ⟨by rfl, ?y15b⟩) hHeld ?r15b
    case y15b => intro w hSw; clear hSw; go_simp; with_reducible rfl
    simp only [Act.put, List.setIfInBounds_toArray, List.set_cons_zero, List.set_cons_succ]
    refine wpAnyH_take (i := 16) (v := ?v16b) (by simp; rfl) (by kernel_rfl) (by kernel_rfl) (by kernel_rfl) (fun _ _ _ h => h) (Or.inl ⟨by rfl, ?y16b⟩) hHeld ?r16b
    case y16b => intro w hSw; clear hSw; go_simp; with_reducible rfl
    simp only [Act.put, List.setIfInBounds_toArray, List.set_cons_zero, List.set_cons_succ]
    refine wpAnyH_done (by kernel_rfl) (NoPanic.normal ?_) _
    clear hHeld Q7 A14 S14
    go_wp2_with fail
    go_ret
    exact ⟨by simp, B16.out⟩
end Go.Proofs.YtndildimnanlpaaDoor
