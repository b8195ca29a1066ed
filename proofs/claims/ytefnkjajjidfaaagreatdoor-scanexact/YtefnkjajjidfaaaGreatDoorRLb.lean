/-
  Layer 6, the program's functions, second part: Encode.
-/
import Derived.Deep.RegionHeld3
import Derived.Test.YtefnkjajjidfaaaGreatDoorRLa
namespace Go.Proofs.YtefnkjajjidfaaaGreatDoor.R
open Go.RowKit
theorem RAt.vin {t : TypeId} {w : World} {g : Nat} {r : Rec} (h : RAt t w g r) (hw : r.Wf) : BIn w (some ⟨g, 3, none⟩) 32 r.val := by
  refine ⟨hw.len, hw.byte, fun _ => ⟨g, 3, rfl, fun i hi => ?_⟩⟩
  have hi' : i < r.val.length := by rw [hw.len]; exact hi
  rw [h.cell (3 + i), rcells_val r i hi']
  simp [List.getD, List.getElem?_eq_getElem hi']
/-- the parts are joined -/
theorem join_new {w : World} {vs : List Value} {ls : List (List Int)} (h : SIns w vs ls) (n : Nat) (hn : vs.length = n) (hb : ls.flatten.length ≤ 100000) (hn2 : n ≤ 100) :
    Calls Tryz.prog 54 #[.slice (some ⟨w.heap.size, 0, none⟩) n n] (w.alloc (.cells vs.toArray 24)) fun e w' => ∃ p c, e = .returned (.slice p ls.flatten.length c) ∧ Made w w' p ls.flatten.length c ls.flatten := by
  have hB : ∀ l ∈ ls, Bytes l := by
    intro l hl
    obtain ⟨i, hi, rfl⟩ := List.getElem_of_mem hl
    obtain ⟨_, _, _, _, h1, _⟩ := h.at i (by rw [← h.len]; exact hi) hi
    exact h1.byte
  refine (join_any _ n n vs ls _ (pin_new h n hn) (by omega) (by omega)).mono ?_
  rintro e w' ⟨v, rfl, ho, hb2⟩
  exact (made_of (own_mono ho (by simp)) (Bytes.flatten hB) (below_of_alloc hb2)).elim fun p ⟨c, e, m⟩ => ⟨p, c, by rw [e], m⟩
theorem dig1 (k : Int) (h0 : 0 ≤ k) (h1 : k < 256) : digits 1 k = [k] := by
  simp only [digits]; rw [Int.emod_eq_of_lt h0 h1]
theorem div_zero (n m : Int) (h0 : 0 ≤ n) (h1 : n < m) : n / m = 0 := Int.ediv_eq_zero_of_lt h0 h1
theorem div1 (n : Int) (h0 : 0 ≤ n) (h1 : n < 256) : n / 256 ^ 1 = 0 := div_zero _ _ h0 (by rw [show (256 : Int) ^ 1 = 256 by decide]; omega)
theorem div8 (n : Int) (h0 : 0 ≤ n) (h1 : n ≤ 18446744073709551615) : n / 256 ^ 8 = 0 := div_zero _ _ h0 (by rw [show (256 : Int) ^ 8 = 18446744073709551616 by decide]; omega)
theorem div4 (n : Int) (h0 : 0 ≤ n) (h1 : n < 4294967296) : n / 256 ^ 4 = 0 := div_zero _ _ h0 (by rw [show (256 : Int) ^ 4 = 4294967296 by decide]; omega)
/-- a record's bytes, of one that may be -/
def encT (r : Rec) : List Int := if may r = true then encS r else []
theorem encT_yes (r : Rec) (h : may r = true) : encT r = encS r := if_pos h
theorem encT_no (r : Rec) (h : ¬ may r = true) : encT r = [] := if_neg h
theorem chk_yes (r : Rec) (h : may r = true) : chk r = 0 := by unfold chk; rw [if_pos h]
theorem chk_no (r : Rec) (h : ¬ may r = true) : chk r = 60 := by unfold chk; rw [if_neg h]
theorem chk_or (r : Rec) : chk r = 0 ∨ chk r = 60 := by unfold chk; split <;> simp
set_option maxHeartbeats 400000 in
set_option maxRecDepth 100000 in
theorem encode_bad (r : Rec) (hv : r.val.length = 32) (hm : ¬ may r = true) (w : World) :
    Calls Tryz.prog 71 #[.agg (rcells r).toArray] w fun e w' => e = .returned (.tuple #[.slice none 0 0, .int .i64 60]) ∧ Below w.heap.size w w' := by
  have L1 : Hid (_) := (RAt.new 87 w r).load31 hv
  have hc := chk_no r hm
  go_enter Tryz.func71, Tryz.ntmps71
  go_wp2_with (refine wpList_load_is (by rfl) 87 rfl rfl L1.out ?_)
  refine (check_any r hv _).mono ?_
  rintro e w1 ⟨rfl, b1⟩
  rw [hc]
  have HB : Hid (Below w.heap.size w w1) := below_of_alloc b1
  clear b1 L1 hm hc
  go_wp2_with fail
  go_ret2
  exact ⟨rfl, HB.out⟩
set_option maxHeartbeats 4000000 in
set_option maxRecDepth 100000 in
theorem encode_good (r : Rec) (hw : r.Wf) (hm : may r = true) (w : World) (ht : Half w) :
    Calls Tryz.prog 71 #[.agg (rcells r).toArray] w fun e w' => ∃ p c, e = .returned (.tuple #[.slice p 64 c, .int .i64 0]) ∧ Made w w' p 64 c (encS r) := by
  have HW : Hid (r.Wf) := hw
  have HM : Hid (may r = true) := hm
  have L1 : Hid (_) := (RAt.new 87 w r).load31 hw.len
  have hc := chk_yes r hm
  have HT : Hid (Half w) := ht
  have HN : Hid (0 ≤ numS r ∧ numS r < 64) := numS_bd r hm
  have HK : Hid (0 ≤ r.kind ∧ r.kind < 256) := by have := may_kind hm; exact ⟨by omega, by omega⟩
  have HP : Hid (0 ≤ r.pos ∧ r.pos ≤ 18446744073709551615) := ⟨hw.p0, hw.p1⟩
  go_enter Tryz.func71, Tryz.ntmps71
  go_wp2_with (refine wpList_load_is (by rfl) 87 rfl rfl L1.out ?_)
  refine (check_any r hw.len _).mono ?_
  rintro e w1 ⟨rfl, b1⟩
  rw [hc]
  have HB1 : Hid (Below w.heap.size w w1) := below_of_alloc b1
  have HA1 : Hid (RAt 87 w1 w.heap.size r) := (RAt.new 87 w r).later b1
  clear b1 L1 hm hc hw ht
  go_wp2_with fail
  have k0 := HK.out.1
  have k1 := HK.out.2
  have ks : IntKind.u64.wrap r.kind = r.kind := by rw [IntKind.wrap_u64]; omega
  refine wp_region_noPanic ?_
  refine wp_region_held_drew (S := fun w' => RAt 87 w' w.heap.size r) (by kernel_rfl) HA1.out.drew (fun hHeld => ?_)
  refine wpAnyH_take (i := 1) (v := ?v1) (by simp; rfl) (by kernel_rfl) (by kernel_rfl) (by kernel_rfl) (fun _ _ _ h => h) (Or.inl ⟨by rfl, ?y1⟩) hHeld ?r1
  case y1 => intro w hSw; clear hSw; go_simp; with_reducible rfl
  simp only [Act.put, List.setIfInBounds_toArray, List.set_cons_zero, List.set_cons_succ]
  refine wpAnyH_take (i := 2) (v := ?v2) (by simp; rfl) (by kernel_rfl) (by kernel_rfl) (by kernel_rfl) (fun _ _ _ h => h) (Or.inl ⟨by rfl, ?y2⟩) hHeld ?r2
  case y2 => intro w hSw; have z := RAt.c0 hSw; clear hSw; go_simp; with_reducible rfl
  simp only [Act.put, List.setIfInBounds_toArray, List.set_cons_zero, List.set_cons_succ]
  refine wpAnyH_take (i := 3) (v := ?v3) (by simp; rfl) (by kernel_rfl) (by kernel_rfl) (by kernel_rfl) (fun _ _ _ h => h) (Or.inl ⟨by rfl, ?y3⟩) hHeld ?r3
  case y3 => intro w hSw; clear hSw; go_simp; with_reducible rfl
  simp only [Act.put, List.setIfInBounds_toArray, List.set_cons_zero, List.set_cons_succ]
  refine wpAnyH_take (i := 6) (v := ?v6) (by simp; rfl) (by kernel_rfl) (by kernel_rfl) (by kernel_rfl) (fun _ _ _ h => h) (Or.inl ⟨by rfl, ?y6⟩) hHeld ?r6
  case y6 => intro w hSw; clear hSw; go_simp; with_reducible rfl
  simp only [Act.put, List.setIfInBounds_toArray, List.set_cons_zero, List.set_cons_succ]
  refine wpAnyH_take (i := 7) (v := ?v7) (by simp; rfl) (by kernel_rfl) (by kernel_rfl) (by kernel_rfl) (fun _ _ _ h => h) (Or.inl ⟨by rfl, ?y7⟩) hHeld ?r7
  case y7 => intro w hSw; have z := RAt.c1 hSw; clear hSw; go_simp; with_reducible rfl
  simp only [Act.put, List.setIfInBounds_toArray, List.set_cons_zero, List.set_cons_succ]
  refine wpAnyH_take (i := 9) (v := _) (by simp; rfl) (by kernel_rfl) (by kernel_rfl) (by kernel_rfl) (fun _ _ _ h => h) (yieldsIf_load_mid (by rfl) 87 (.tmp 1) rfl w.heap.size 0 rfl (rcells r) _ (fun _ h => RAt.range h) Tryz.underlying87 rfl (by rw [size31, rcells_len r HW.out.len])) hHeld ?_
  simp only [Act.put, List.setIfInBounds_toArray, List.set_cons_zero, List.set_cons_succ]
  refine wpAnyH_take (i := 12) (v := ?v12) (by simp; rfl) (by kernel_rfl) (by kernel_rfl) (by kernel_rfl) (fun _ _ _ h => h) (Or.inl ⟨by rfl, ?y12⟩) hHeld ?r12
  case y12 => intro w hSw; clear hSw; go_simp; with_reducible rfl
  simp only [Act.put, List.setIfInBounds_toArray, List.set_cons_zero, List.set_cons_succ]
  refine wpAnyH_take (i := 13) (v := ?v13) (by simp; rfl) (by kernel_rfl) (by kernel_rfl) (by kernel_rfl) (fun _ _ _ h => h) (Or.inl ⟨by rfl, ?y13⟩) hHeld ?r13
  case y13 => intro w hSw; clear hSw; go_simp; with_reducible rfl
  simp only [Act.put, List.setIfInBounds_toArray, List.set_cons_zero, List.set_cons_succ]
  refine wpAnyH_ready (rs := [0]) (by kernel_rfl) (by simp) ?_
  refine AllReadyH.cons (by simp; rfl) (fun Kc hKc => ?_) AllReadyH.nil
  go_simp
  refine (rput_any 87 1 w1.drew (by omega) (by omega) (by decide)).mono ?_
  rintro e w2 ⟨p2, c2, rfl, m2⟩
  have HB2 : Hid (Below w1.heap.size w1 w2) := below_undrew m2.below
  have HS2 : Hid (SIn w2 (.slice p2 1 c2) [87]) := m2.sin
  have HA2 : Hid (RAt 87 w2 w.heap.size r) := HA1.out.later HB2.out
  clear m2
  refine hKc.out _ _ HA2.out (fun hHeld => ?_)
  clear hKc Kc
  refine wpAnyH_ready (rs := [4]) (by kernel_rfl) (by simp) ?_
  refine AllReadyH.cons (by simp; rfl) (fun Kc hKc => ?_) AllReadyH.nil
  go_simp
  refine (rput_any r.kind 1 w2 k0 (by omega) (div1 _ k0 k1)).mono ?_
  rintro e w3 ⟨p3, c3, rfl, m3⟩
  have HB3 : Hid (Below w2.heap.size w2 w3) := m3.below
  have HS3 : Hid (SIn w3 (.slice p3 1 c3) [r.kind]) := by have := m3.sin; rw [dig1 r.kind k0 k1] at this; exact this
  have HA3 : Hid (RAt 87 w3 w.heap.size r) := HA2.out.later HB3.out
  clear m3
  refine hKc.out _ _ HA3.out (fun hHeld => ?_)
  clear hKc Kc
  refine wpAnyH_ready (rs := [5]) (by kernel_rfl) (by simp) ?_
  refine AllReadyH.cons (by simp; rfl) (fun Kc hKc => ?_) AllReadyH.nil
  go_simp
  refine (rput_any 0 2 w3 (by omega) (by omega) (by decide)).mono ?_
  rintro e w4 ⟨p4, c4, rfl, m4⟩
  have HB4 : Hid (Below w3.heap.size w3 w4) := m4.below
  have HS4 : Hid (SIn w4 (.slice p4 2 c4) [0, 0]) := m4.sin
  have HA4 : Hid (RAt 87 w4 w.heap.size r) := HA3.out.later HB4.out
  clear m4
  refine hKc.out _ _ HA4.out (fun hHeld => ?_)
  clear hKc Kc
  refine wpAnyH_ready (rs := [8]) (by kernel_rfl) (by simp) ?_
  refine AllReadyH.cons (by simp; rfl) (fun Kc hKc => ?_) AllReadyH.nil
  go_simp
  refine (rput_any r.pos 8 w4 HP.out.1 (by omega) (div8 _ HP.out.1 HP.out.2)).mono ?_
  rintro e w5 ⟨p5, c5, rfl, m5⟩
  have HB5 : Hid (Below w4.heap.size w4 w5) := m5.below
  have HS5 : Hid (SIn w5 (.slice p5 8 c5) (digits 8 r.pos)) := m5.sin
  have HA5 : Hid (RAt 87 w5 w.heap.size r) := HA4.out.later HB5.out
  clear m5
  refine hKc.out _ _ HA5.out (fun hHeld => ?_)
  clear hKc Kc
  refine wpAnyH_ready (rs := [10]) (by kernel_rfl) (by simp) ?_
  refine AllReadyH.cons (by simp; rfl) (fun Kc hKc => ?_) AllReadyH.nil
  go_simp
  refine (number_rec r HW.out.len HM.out w5).mono ?_
  rintro e w6 ⟨rfl, b6⟩
  have HB6 : Hid (Below w5.heap.size w5 w6) := b6
  have HA6 : Hid (RAt 87 w6 w.heap.size r) := HA5.out.later HB6.out
  clear b6
  refine hKc.out _ _ HA6.out (fun hHeld => ?_)
  clear hKc Kc
  refine wpAnyH_ready (rs := [11]) (by kernel_rfl) (by simp) ?_
  refine AllReadyH.cons (by simp; rfl) (fun Kc hKc => ?_) AllReadyH.nil
  go_simp
  refine (rput_any (numS r) 4 w6 HN.out.1 (by omega) (div4 _ HN.out.1 (by have := HN.out.2; omega))).mono ?_
  rintro e w7 ⟨p7, c7, rfl, m7⟩
  have HB7 : Hid (Below w6.heap.size w6 w7) := m7.below
  have HS7 : Hid (SIn w7 (.slice p7 4 c7) (digits 4 (numS r))) := m7.sin
  have HA7 : Hid (RAt 87 w7 w.heap.size r) := HA6.out.later HB7.out
  clear m7
  refine hKc.out _ _ HA7.out (fun hHeld => ?_)
  clear hKc Kc
  have B67 := HB7.out
  have B57 := below_then HB6.out B67
  have B47 := below_then HB5.out B57
  have B37 := below_then HB4.out B47
  have B27 := below_then HB3.out B37
  have B17 := below_then HB2.out B27
  have HSS : Hid (SIns w7 [.slice p2 1 c2, .slice p3 1 c3, .slice p4 2 c4, .slice p5 8 c5, .slice p7 4 c7, .slice (some ⟨w.heap.size, 3, none⟩) 32 32] [[87], [r.kind], [0, 0], digits 8 r.pos, digits 4 (numS r), r.val]) :=
    ⟨HS2.out.later B27, HS3.out.later B37, HS4.out.later B47, HS5.out.later B57, HS7.out, ⟨_, _, _, rfl, HA7.out.vin HW.out, Nat.le_refl _, fun e => by cases e⟩, trivial⟩
  have HF : Hid ([[87], [r.kind], [0, 0], digits 8 r.pos, digits 4 (numS r), r.val].flatten = head r) := by show _ = _; simp [head]
  have HFL : Hid ((head r).length = 48) := head_len r HW.out.len
  have HBW : Hid (Below w.heap.size w w7) := below_then HB1.out B17
  clear B67 B57 B47 B37 B27 B17 HB2 HB3 HB4 HB5 HB6 HB7 HS2 HS3 HS4 HS5 HS7 HA2 HA3 HA4 HA5 HA6 HB1 HA1
  refine wpAnyH_ready (rs := [14]) (by kernel_rfl) (by simp) ?_
  refine AllReadyH.cons (by simp; rfl) (fun Kc hKc => ?_) AllReadyH.nil
  go_simp
  refine hKc.out _ _ (HA7.out.later (below_alloc w7 _)) (fun hHeld => ?_)
  clear hKc Kc
  refine wpAnyH_ready (rs := [15]) (by kernel_rfl) (by simp) ?_
  refine AllReadyH.cons (by simp; rfl) (fun Kc hKc => ?_) AllReadyH.nil
  go_simp
  refine (join_new HSS.out 6 rfl (by rw [HF.out, HFL.out]; omega) (by omega)).mono ?_
  rintro e w8 ⟨p8, c8, rfl, m8⟩
  rw [HF.out, HFL.out] at m8
  rw [HF.out, HFL.out]
  have HA8 : Hid (RAt 87 w8 w.heap.size r) := HA7.out.later m8.below
  have HB8 : Hid (Below w.heap.size w w8) := below_then HBW.out m8.below
  have HR8 : Hid (BIn w8 p8 48 (head r)) := m8.read
  clear m8 HSS HF HFL HBW HA7
  refine hKc.out _ _ HA8.out (fun hHeld => ?_)
  clear hKc Kc
  refine wpAnyH_take (i := 16) (v := ?v16) (by simp; rfl) (by kernel_rfl) (by kernel_rfl) (by kernel_rfl) (fun _ _ _ h => h) (Or.inl ⟨by rfl, ?y16⟩) hHeld ?r16
  case y16 => intro w hSw; clear hSw; go_simp; with_reducible rfl
  simp only [Act.put, List.setIfInBounds_toArray, List.set_cons_zero, List.set_cons_succ]
  refine wpAnyH_done (by kernel_rfl) (NoPanic.normal ?_) _
  clear hHeld
  go_wp2_with fail
  refine (pad_ok p8 48 c8 (head r) 60 w8 (by omega) (by omega) HR8.out).mono ?_
  rintro e w9 ⟨v9, rfl, ho9, hb9⟩
  obtain ⟨p9, c9, rfl, m9⟩ := made_of ho9 ((head_bytes r HW.out HM.out).append (zs_bytes 12)) hb9
  have HS9 : Hid (SIn w9 (.slice p9 60 c9) (body r)) := m9.sin
  have HB9 : Hid (Below w.heap.size w w9) := below_then HB8.out hb9
  have HL9 : Hid ((body r).length = 60) := body_len r HW.out.len
  clear ho9 hb9 m9 HR8 HB8 HA8
  go_wp2_with fail
  refine (of_new p9 60 c9 (body r) HS9.out (by rw [HL9.out]; omega) (HT.out.later HB9.out)).mono ?_
  rintro e w10 ⟨rfl, b10⟩
  have HS10 : Hid (SIn w10 (.slice p9 60 c9) (body r)) := HS9.out.later b10
  have HB10 : Hid (Below w.heap.size w w10) := below_then HB9.out b10
  have hcl := crc_lt (body r) (body_bytes r HW.out HM.out)
  have HE : Hid (encS r = [body r, digits 4 ((crc (body r) : Nat) : Int)].flatten) := by show _ = _; simp [encS]
  have HEL : Hid ((encS r).length = 64) := encS_len r HW.out.len
  clear b10 HS9 HB9
  generalize crc (body r) = S at *
  go_wp2_with fail
  refine (rput_any (S : Int) 4 w10 (by omega) (by omega) (div4 _ (by omega) (by omega))).mono ?_
  rintro e w11 ⟨p11, c11, rfl, m11⟩
  have HSS : Hid (SIns w11 [.slice p9 60 c9, .slice p11 4 c11] [body r, digits 4 (S : Int)]) := ⟨HS10.out.later m11.below, m11.sin, trivial⟩
  have HB11 : Hid (Below w.heap.size w w11) := below_then HB10.out m11.below
  clear m11 HS10 HB10
  go_wp2_with fail
  refine (join_new HSS.out 2 rfl (by rw [← HE.out, HEL.out]; omega) (by omega)).mono ?_
  rintro e w12 ⟨p12, c12, rfl, m12⟩
  rw [← HE.out, HEL.out] at m12
  rw [← HE.out, HEL.out]
  have HM12 : Hid (Made w11 w12 p12 64 c12 (encS r)) := m12
  clear m12 HSS
  go_wp2_with fail
  go_ret2
  exact ⟨p12, c12, rfl, own_mono HM12.out.own HB11.out.size, HM12.out.read, HM12.out.le, HM12.out.nil, below_then HB11.out HM12.out.below⟩
/-- Encode, of whatever record: its answers -/
theorem encode_any (r : Rec) (hw : r.Wf) (w : World) (ht : Half w) :
    Calls Tryz.prog 71 #[.agg (rcells r).toArray] w fun e w' => ∃ p n c, e = .returned (.tuple #[.slice p n c, .int .i64 (chk r)]) ∧ n = (encT r).length ∧ (may r = true → n = 64) ∧ Made w w' p n c (encT r) := by
  by_cases hm : may r = true
  · rw [encT_yes r hm, chk_yes r hm]
    refine (encode_good r hw hm w ht).mono ?_
    rintro e w' ⟨p, c, rfl, m⟩
    exact ⟨p, 64, c, rfl, (encS_len r hw.len).symm, fun _ => rfl, m⟩
  · rw [encT_no r hm, chk_no r hm]
    refine (encode_bad r hw.len hm w).mono ?_
    rintro e w' ⟨rfl, b⟩
    exact ⟨none, 0, 0, rfl, rfl, fun h => absurd h hm, World.ownsRow_nil _ _ _ _, BIn.empty, Nat.le_refl _, fun _ => rfl, b⟩
end Go.Proofs.YtefnkjajjidfaaaGreatDoor.R
