/-
  Layer 8, the program's functions, first part: isBlock, put, Encode, Decode.
-/
import Derived.Test.YtefnkjajjidfaaaDoorVa
import Derived.BigQuiet
namespace Go.Proofs.YtefnkjajjidfaaaDoor
open Go.RowKit
set_option maxHeartbeats 400000 in
set_option maxRecDepth 100000 in
theorem isBlock_any (b n : Int) (w : World) :
    Calls Tryd.prog 78 #[.int .i64 b, .int .i64 n] w fun e w' => e = .returned (.bool (decide (0 ≤ b ∧ b < n))) ∧ w = w' := by
  go_enter Tryd.func78, Tryd.ntmps78
  go_wp2
  all_goals go_ret
  all_goals (refine ⟨?_, rfl⟩; simp; try omega)
set_option maxHeartbeats 400000 in
set_option maxRecDepth 100000 in
theorem hput_any (n : Int) (k : Nat) (w : World) (hn0 : 0 ≤ n) (hk : 1 ≤ k ∧ k ≤ 8) (hn : n / 256 ^ k = 0) :
    Calls Tryd.prog 79 #[.int .u64 n, .int .i64 k] w fun e w' => ∃ p c, e = .returned (.slice p k c) ∧ Made w w' p k c (digits k n) := by
  go_enter Tryd.func79, Tryd.ntmps79
  go_wp2_with fail
  refine (put_ok n k w hn0 hk hn).mono ?_
  rintro e w1 ⟨v, rfl, ho, hb⟩
  obtain ⟨p, c, rfl, hm⟩ := made_of ho (digits_bytes k n) hb
  clear ho hb hn
  go_wp2_with fail
  go_ret
  exact ⟨p, c, rfl, hm⟩
/-- three parts joined -/
theorem join_three {w : World} (u v x : Value) (xs ys zs : List Int) (hu : SIn w u xs) (hv : SIn w v ys) (hx : SIn w x zs) (n : Nat) (hn : (xs ++ (ys ++ zs)).length = n) (hb : n ≤ 100000) :
    Calls Tryd.prog 44 #[.slice (some ⟨w.heap.size, 0, none⟩) 3 3] (w.alloc (.cells [u, v, x].toArray 41)) fun e w' => e = .returned (.slice (some ⟨w.heap.size + 1, 0, none⟩) n n) ∧ Made w w' (some ⟨w.heap.size + 1, 0, none⟩) n n (xs ++ (ys ++ zs)) := by
  have hs : SIns w [u, v, x] [xs, ys, zs] := ⟨hu, hv, hx, trivial⟩
  have e : [xs, ys, zs].flatten = xs ++ (ys ++ zs) := by simp
  have hB : Bytes (xs ++ (ys ++ zs)) := by
    obtain ⟨_, _, _, _, h1, _⟩ := hu
    obtain ⟨_, _, _, _, h2, _⟩ := hv
    obtain ⟨_, _, _, _, h3, _⟩ := hx
    exact h1.byte.append (h2.byte.append h3.byte)
  have := join_full w.heap.size 0 3 3 [u, v, x] [xs, ys, zs] (w.alloc (.cells [u, v, x].toArray 41)) (pin_new hs 3 rfl) (by omega) (by rw [e, hn]; omega) (by omega)
  rw [e, hn] at this
  refine this.mono ?_
  have e2 : (w.alloc (.cells [u, v, x].toArray 41)).heap.size = w.heap.size + 1 := by simp
  rintro e w' ⟨rfl, ho, hb2⟩
  rw [e2] at ho hb2 ⊢
  have hb3 : Below w.heap.size w w' := (below_alloc w _).trans (hb2.mono (by omega))
  obtain ⟨p, c, e3, hr, hc, hp, _⟩ := own_in ho hB
  simp only [Value.slice.injEq, true_and] at e3
  obtain ⟨rfl, rfl⟩ := e3
  exact ⟨rfl, own_mono ho (by omega), hr, hc, hp, hb3⟩
abbrev HM : Array Value := #[.int .u8 72, .int .u8 79, .int .u8 77, .int .u8 69]
def hm : List Int := [72, 79, 77, 69]
theorem hm_bytes : Bytes hm := by intro x hx; simp [hm] at hx; omega
theorem dig1 (n : Int) (h0 : 0 ≤ n) (h1 : n < 256) : digits 1 n = [n] := by simp [digits]; omega
theorem div1 (n : Int) (h0 : 0 ≤ n) (h1 : n < 256) : n / 256 ^ 1 = 0 := Int.ediv_eq_zero_of_lt h0 (by rw [show (256 : Int) ^ 1 = 256 by decide]; omega)
theorem hbody_is (b : Int) (v : List Int) : (hm ++ ([1] ++ [b]) ++ List.replicate (28 - 6) 0) ++ v = hbody b v := by
  simp [hm, hbody, zs]
set_option maxHeartbeats 400000 in
set_option maxRecDepth 100000 in
theorem hencode_bad (b : Int) (v : List Int) (hb : ¬ inB b) (w : World) :
    Calls Tryd.prog 56 #[.int .i64 b, .agg (U8 v).toArray] w fun e w' => e = .returned (.tuple #[.slice none 0 0, .int .i64 51]) ∧ Below w.heap.size w w' := by
  have HB : Hid (Below w.heap.size w (w.alloc (.cells (U8 v).toArray 30))) := below_alloc w _
  go_enter Tryd.func56, Tryd.ntmps56
  go_wp2_with fail
  refine (isBlock_any b 64 _).mono ?_
  rintro e w1 ⟨rfl, rfl⟩
  rw [decide_eq_false hb]
  clear hb
  go_wp2_with fail
  go_ret2
  exact ⟨rfl, HB.out⟩
set_option maxHeartbeats 2000000 in
set_option maxRecDepth 100000 in
theorem hencode_good (b : Int) (v : List Int) (hb : inB b) (hv : v.length = 32) (hvb : Bytes v) (w : World) (ht : Tab w) :
    Calls Tryd.prog 56 #[.int .i64 b, .agg (U8 v).toArray] w fun e w' => ∃ g, e = .returned (.tuple #[.slice (some ⟨g, 0, none⟩) 64 64, .int .i64 0]) ∧ Made w w' (some ⟨g, 0, none⟩) 64 64 (homeS b v) := by
  obtain ⟨w0, hw0⟩ : ∃ x, x = w.alloc (.cells (U8 v).toArray 30) := ⟨_, rfl⟩
  have ew0 := hw0.symm
  have V0 : Hid (VAt w0 w.heap.size v) := by rw [hw0]; exact LAt.new 30 w (U8 v)
  have B0 : Hid (Below w.heap.size w w0) := by rw [hw0]; exact below_alloc w _
  have HT : Hid (Tab w) := ht
  have HV : Hid (v.length = 32 ∧ Bytes v) := ⟨hv, hvb⟩
  have HB : Hid (inB b) := hb
  have hb0 := hb.1
  have hb1 := hb.2
  clear hw0 ht hv hvb
  go_enter Tryd.func56, Tryd.ntmps56
  go_wp2_with fail
  clear ew0
  refine (isBlock_any b 64 _).mono ?_
  rintro e w1 ⟨rfl, rfl⟩
  rw [decide_eq_true hb]
  clear hb
  have cv := conv_const w0 HM 4 w0.heap.size rfl
  have C1 : Hid (Below w0.heap.size w0 (w0.alloc (.cells HM 5 (4, 5)))) := below_alloc w0 _
  have N1 : Hid (BIn (w0.alloc (.cells HM 5 (4, 5))) (some ⟨w0.heap.size, 0, none⟩) 4 hm) := lit_mark w0 hm 4 (4, 5) rfl hm_bytes
  go_wp2_with fail
  clear cv
  generalize w0.alloc (.cells HM 5 (4, 5)) = w1 at *
  refine (hput_any 1 1 w1 (by omega) (by omega) (by decide)).mono ?_
  rintro e w2 ⟨p2, c2, rfl, m2⟩
  have S2 : Hid (SIn w2 (.slice p2 1 c2) [1]) := m2.sin
  have N2 : Hid (SIn w2 (.slice (some ⟨w0.heap.size, 0, none⟩) 4 4) hm) := ⟨_, 4, 4, rfl, N1.out.later m2.below, Nat.le_refl _, fun e => by cases e⟩
  have C2 : Hid (Below w0.heap.size w0 w2) := below_then C1.out m2.below
  clear m2 N1 C1
  have ks : IntKind.u64.wrap b = b := by rw [IntKind.wrap_u64]; omega
  go_wp2_with fail
  refine (hput_any b 1 w2 hb0 (by omega) (div1 _ hb0 (by omega))).mono ?_
  rintro e w3 ⟨p3, c3, rfl, m3⟩
  have S3 : Hid (SIn w3 (.slice p3 1 c3) [b]) := by have := m3.sin; rw [dig1 b hb0 (by omega)] at this; exact this
  have T3 : Hid (SIn w3 (.slice p2 1 c2) [1]) := S2.out.later m3.below
  have N3 : Hid (SIn w3 (.slice (some ⟨w0.heap.size, 0, none⟩) 4 4) hm) := N2.out.later m3.below
  have C3 : Hid (Below w0.heap.size w0 w3) := below_then C2.out m3.below
  clear m3 S2 N2 C2
  go_wp2_with fail
  refine (join_three _ _ _ _ _ _ N3.out T3.out S3.out 6 (by simp [hm]) (by omega)).mono ?_
  rintro e w4 ⟨rfl, m4⟩
  have N4 : Hid (BIn w4 (some ⟨w3.heap.size + 1, 0, none⟩) 6 (hm ++ ([1] ++ [b]))) := m4.read
  have C4 : Hid (Below w0.heap.size w0 w4) := below_then C3.out m4.below
  clear m4 S3 T3 N3 C3
  go_wp2_with fail
  refine (pad_full (some ⟨w3.heap.size + 1, 0, none⟩) 6 6 (hm ++ ([1] ++ [b])) 28 w4 (by omega) (by omega) N4.out).mono ?_
  rintro e w5 ⟨rfl, g5, b5⟩
  have C5 : Hid (Below w0.heap.size w0 w5) := below_then C4.out b5
  have S5 : Hid (SIn w5 (.slice (some ⟨w4.heap.size, 0, none⟩) 28 28) (hm ++ ([1] ++ [b]) ++ List.replicate (28 - 6) 0)) := by
    have hB : Bytes (hm ++ ([1] ++ [b]) ++ List.replicate (28 - 6) 0) := by
      refine (N4.out.byte).append (zs_bytes 22)
    refine ⟨_, 28, 28, rfl, ⟨by simp [hm], hB, fun _ => ⟨_, 0, rfl, fun i hi => ?_⟩⟩, Nat.le_refl _, fun e => by cases e⟩
    rw [Nat.zero_add, g5.cell i]
    have : i < (hm ++ ([1] ++ [b]) ++ List.replicate (28 - 6) (0 : Int)).length := by simp [hm]; omega
    simp only [U8, List.getElem?_map, List.getElem?_eq_getElem this, List.getD, Option.map_some, Option.getD_some]
  have V5 : Hid (SIn w5 (.slice (some ⟨w.heap.size, 0, none⟩) 32 32) v) := VAt.sin (LAt.later V0.out (below_then (Below.refl _ _) C5.out)) HV.out.1 HV.out.2
  clear g5 b5 C4 N4 V0
  go_wp2_with fail
  refine (join_two _ _ _ _ S5.out V5.out 60 (by rw [hbody_is, hbody_len b HV.out.1]) (by omega)).mono ?_
  rintro e w6 ⟨rfl, m6⟩
  rw [hbody_is] at m6
  have N6 : Hid (SIn w6 (.slice (some ⟨w5.heap.size + 1, 0, none⟩) 60 60) (hbody b v)) := m6.sin
  have C6 : Hid (Below w0.heap.size w0 w6) := below_then C5.out m6.below
  have HL : Hid ((hbody b v).length = 60) := hbody_len b HV.out.1
  clear m6 S5 V5 C5
  go_wp2_with fail
  refine (of_new (some ⟨w5.heap.size + 1, 0, none⟩) 60 60 (hbody b v) N6.out (by rw [HL.out]; omega) (HT.out.later (below_then B0.out C6.out)).half).mono ?_
  rintro e w7 ⟨rfl, b7⟩
  have N7 : Hid (SIn w7 (.slice (some ⟨w5.heap.size + 1, 0, none⟩) 60 60) (hbody b v)) := N6.out.later b7
  have C7 : Hid (Below w0.heap.size w0 w7) := below_then C6.out b7
  have hcl := crc_lt (hbody b v) (hbody_bytes HB.out HV.out.2)
  have HE : Hid (homeS b v = hbody b v ++ digits 4 ((crc (hbody b v) : Nat) : Int)) := rfl
  have HEL : Hid ((homeS b v).length = 64) := homeS_len b HV.out.1
  clear b7 N6 C6
  generalize crc (hbody b v) = S at *
  go_wp2_with fail
  refine (hput_any (S : Int) 4 w7 (by omega) (by omega) (div4 _ (by omega) (by omega))).mono ?_
  rintro e w8 ⟨p8, c8, rfl, m8⟩
  have N8 : Hid (SIn w8 (.slice (some ⟨w5.heap.size + 1, 0, none⟩) 60 60) (hbody b v)) := N7.out.later m8.below
  have S8 : Hid (SIn w8 (.slice p8 4 c8) (digits 4 (S : Int))) := m8.sin
  have C8 : Hid (Below w.heap.size w w8) := below_then B0.out (below_then C7.out m8.below)
  clear m8 N7 C7
  go_wp2_with fail
  refine (join_two _ _ _ _ N8.out S8.out 64 (by rw [← HE.out]; exact HEL.out) (by omega)).mono ?_
  rintro e w9 ⟨rfl, m9⟩
  rw [← HE.out] at m9
  have M9 : Hid (Made w8 w9 (some ⟨w8.heap.size + 1, 0, none⟩) 64 64 (homeS b v)) := m9
  clear m9 N8 S8
  go_wp2_with fail
  go_ret2
  exact ⟨w8.heap.size + 1, rfl, own_mono M9.out.own C8.out.size, M9.out.read, M9.out.le, M9.out.nil, below_then C8.out M9.out.below⟩
/-- Encode, of whatever block: its answers -/
theorem hencode_any (b : Int) (v : List Int) (hv : v.length = 32) (hvb : Bytes v) (w : World) (ht : Tab w) :
    Calls Tryd.prog 56 #[.int .i64 b, .agg (U8 v).toArray] w fun e w' => ∃ p n c, e = .returned (.tuple #[.slice p n c, .int .i64 (hencE b)]) ∧ n = (hencT b v).length ∧ Made w w' p n c (hencT b v) := by
  by_cases hb : inB b
  · rw [hencT_yes v hb, hencE_yes hb]
    refine (hencode_good b v hb hv hvb w ht).mono ?_
    rintro e w' ⟨g, rfl, m⟩
    exact ⟨_, 64, 64, rfl, (homeS_len b hv).symm, m⟩
  · rw [hencT_no v hb, hencE_no hb]
    refine (hencode_bad b v hb w).mono ?_
    rintro e w' ⟨rfl, bb⟩
    exact ⟨none, 0, 0, rfl, rfl, World.ownsRow_nil _ _ _ _, BIn.empty, Nat.le_refl _, fun _ => rfl, bb⟩
theorem yields_neq_is {P : Program} {ops : Array Oper} {S : World → Prop} {o : Oper} {a : Act} (hw : Region.wanted o (yielded ops a.tmps) = true) (ty : TypeId) {x y : Operand} {t2 : TypeId} (ho : o.op = .binOp .neq ty x y t2) {xs ys : Array Value} {v : Value} (hx : a.eval x = .agg xs) (hy : a.eval y = .agg ys) (hg : P.eqGuardType P.depth ty = false) (hrun : ∀ w, (binOp .neq ty (.agg xs) (.agg ys)).run P w = .ok v w) : YieldsIf P ops S o v a :=
  .inl ⟨hw, fun w _ => by unfold execOp; simp only [ho, hx, hy, Sem.run_bind, run_eqGuard_agg w .neq ty x y xs ys hg, hrun w, Result.andThen_ok, Sem.run_pure]⟩
theorem yields_eql_is {P : Program} {ops : Array Oper} {S : World → Prop} {o : Oper} {a : Act} (hw : Region.wanted o (yielded ops a.tmps) = true) (ty : TypeId) {x y : Operand} {t2 : TypeId} (ho : o.op = .binOp .eql ty x y t2) {xs ys : Array Value} {v : Value} (hx : a.eval x = .agg xs) (hy : a.eval y = .agg ys) (hg : P.eqGuardType P.depth ty = false) (hrun : ∀ w, (binOp .eql ty (.agg xs) (.agg ys)).run P w = .ok v w) : YieldsIf P ops S o v a :=
  .inl ⟨hw, fun w _ => by unfold execOp; simp only [ho, hx, hy, Sem.run_bind, run_eqGuard_agg w .eql ty x y xs ys hg, hrun w, Result.andThen_ok, Sem.run_pure]⟩
end Go.Proofs.YtefnkjajjidfaaaDoor
