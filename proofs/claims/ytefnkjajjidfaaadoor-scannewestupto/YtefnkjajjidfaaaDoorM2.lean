/-
  Layer 8, the program's functions, first part: isBlock, put, Encode, Decode. A law for a region that draws its order and ends in a store into a cell that it reads itself ('x.f = append(x.f, v)'): what holds ahead of the last operation L is asked ahead of L alone. Layer 10, the functions: follows, recordAt. Contracts of layer 1, third part: octet.Take. Layer 7, the program's functions: bytes.Equal, read, Decode. Layer 10, the functions: superOf. Laws for walks inside a fence: operations by what they run to; a scope. Layer 10, the functions: Read. Layer 10, the functions: Read, of a disk that has a log. Layer 7, the document's own functions, second part: low, Laid. Contracts of layer 4, sixth part: Copy, Load. Layer 8, the program's functions, fourth part: New; the small configuration.
-/
import Derived.Test.YtefnkjajjidfaaaDoorVa
import Derived.BigQuiet
import Derived.Test.YtefnkjajjidfaaaDoorDLd
import Derived.Test.YtefnkjajjidfaaaDoorEa
import Derived.Test.YtefnkjajjidfaaaDoorGRc
import Derived.Test.YtefnkjajjidfaaaDoorCa
import Derived.RegionTactic
import Derived.Deep.RegionWith
import Derived.Test.YtefnkjajjidfaaaDoorLc
import Derived.Test.YtefnkjajjidfaaaDoorCf
import Derived.RangeFuncNested
import Derived.RangeFuncBound
import Derived.RangeFuncCalls
import Derived.RangeFuncLeaves
import Derived.Shelf.Abstract
import Derived.Shelf.RegionOpen
import Derived.WalkKit
import Derived.OwnWalkIn
import Derived.TacticsInMore
import Derived.LoopNIn
import Derived.LoopIn
import Derived.WalkMore
import Derived.ControlIn
import Derived.Test.YtefnkjajjidfaaaDoorEd
import Derived.Lib.AppendZerosOnto
import Derived.Maps.AppendAt
import Derived.ArgAppend
namespace Go.Proofs.YtefnkjajjidfaaaDoor
open Go.RowKit
set_option maxHeartbeats 400000 in
set_option maxRecDepth 100000 in
theorem isBlock_any (b n : Int) (w : World) :
    Calls Tryd.prog 78 #[.int .i64 b, .int .i64 n] w fun e w' => e = .returned (.bool (decide (0 ≤ b ∧ b < n))) ∧ w = w' := by
  go_enter Tryd.func78, Tryd.ntmps78
  go_wp2
  all_goals go_ret
  all_goals (refine ⟨?_, rfl⟩; simp; try omega)
set_option maxHeartbeats 400000 in
set_option maxRecDepth 100000 in
theorem hput_any (n : Int) (k : Nat) (w : World) (hn0 : 0 ≤ n) (hk : 1 ≤ k ∧ k ≤ 8) (hn : n / 256 ^ k = 0) :
    Calls Tryd.prog 79 #[.int .u64 n, .int .i64 k] w fun e w' => ∃ p c, e = .returned (.slice p k c) ∧ Made w w' p k c (digits k n) := by
  go_enter Tryd.func79, Tryd.ntmps79
  go_wp2_with fail
  refine (put_ok n k w hn0 hk hn).mono ?_
  rintro e w1 ⟨v, rfl, ho, hb⟩
  obtain ⟨p, c, rfl, hm⟩ := made_of ho (digits_bytes k n) hb
  clear ho hb hn
  go_wp2_with fail
  go_ret
  exact ⟨p, c, rfl, hm⟩
/-- three parts joined -/
theorem join_three {w : World} (u v x : Value) (xs ys zs : List Int) (hu : SIn w u xs) (hv : SIn w v ys) (hx : SIn w x zs) (n : Nat) (hn : (xs ++ (ys ++ zs)).length = n) (hb : n ≤ 100000) :
    Calls Tryd.prog 44 #[.slice (some ⟨w.heap.size, 0, none⟩) 3 3] (w.alloc (.cells [u, v, x].toArray 41)) fun e w' => e = .returned (.slice (some ⟨w.heap.size + 1, 0, none⟩) n n) ∧ Made w w' (some ⟨w.heap.size + 1, 0, none⟩) n n (xs ++ (ys ++ zs)) := by
  have hs : SIns w [u, v, x] [xs, ys, zs] := ⟨hu, hv, hx, trivial⟩
  have e : [xs, ys, zs].flatten = xs ++ (ys ++ zs) := by simp
  have hB : Bytes (xs ++ (ys ++ zs)) := by
    obtain ⟨_, _, _, _, h1, _⟩ := hu
    obtain ⟨_, _, _, _, h2, _⟩ := hv
    obtain ⟨_, _, _, _, h3, _⟩ := hx
    exact h1.byte.append (h2.byte.append h3.byte)
  have := join_full w.heap.size 0 3 3 [u, v, x] [xs, ys, zs] (w.alloc (.cells [u, v, x].toArray 41)) (pin_new hs 3 rfl) (by omega) (by rw [e, hn]; omega) (by omega)
  rw [e, hn] at this
  refine this.mono ?_
  have e2 : (w.alloc (.cells [u, v, x].toArray 41)).heap.size = w.heap.size + 1 := by simp
  rintro e w' ⟨rfl, ho, hb2⟩
  rw [e2] at ho hb2 ⊢
  have hb3 : Below w.heap.size w w' := (below_alloc w _).trans (hb2.mono (by omega))
  obtain ⟨p, c, e3, hr, hc, hp, _⟩ := own_in ho hB
  simp only [Value.slice.injEq, true_and] at e3
  obtain ⟨rfl, rfl⟩ := e3
  exact ⟨rfl, own_mono ho (by omega), hr, hc, hp, hb3⟩
abbrev HM : Array Value := #[.int .u8 72, .int .u8 79, .int .u8 77, .int .u8 69]
def hm : List Int := [72, 79, 77, 69]
theorem hm_bytes : Bytes hm := by intro x hx; simp [hm] at hx; omega
theorem dig1 (n : Int) (h0 : 0 ≤ n) (h1 : n < 256) : digits 1 n = [n] := by simp [digits]; omega
theorem div1 (n : Int) (h0 : 0 ≤ n) (h1 : n < 256) : n / 256 ^ 1 = 0 := Int.ediv_eq_zero_of_lt h0 (by rw [show (256 : Int) ^ 1 = 256 by decide]; omega)
theorem hbody_is (b : Int) (v : List Int) : (hm ++ ([1] ++ [b]) ++ List.replicate (28 - 6) 0) ++ v = hbody b v := by
  simp [hm, hbody, zs]
set_option maxHeartbeats 400000 in
set_option maxRecDepth 100000 in
theorem hencode_bad (b : Int) (v : List Int) (hb : ¬ inB b) (w : World) :
    Calls Tryd.prog 56 #[.int .i64 b, .agg (U8 v).toArray] w fun e w' => e = .returned (.tuple #[.slice none 0 0, .int .i64 51]) ∧ Below w.heap.size w w' := by
  have HB : Hid (Below w.heap.size w (w.alloc (.cells (U8 v).toArray 30))) := below_alloc w _
  go_enter Tryd.func56, Tryd.ntmps56
  go_wp2_with fail
  refine (isBlock_any b 64 _).mono ?_
  rintro e w1 ⟨rfl, rfl⟩
  rw [decide_eq_false hb]
  clear hb
  go_wp2_with fail
  go_ret2
  exact ⟨rfl, HB.out⟩
set_option maxHeartbeats 2000000 in
set_option maxRecDepth 100000 in
theorem hencode_good (b : Int) (v : List Int) (hb : inB b) (hv : v.length = 32) (hvb : Bytes v) (w : World) (ht : Tab w) :
    Calls Tryd.prog 56 #[.int .i64 b, .agg (U8 v).toArray] w fun e w' => ∃ g, e = .returned (.tuple #[.slice (some ⟨g, 0, none⟩) 64 64, .int .i64 0]) ∧ Made w w' (some ⟨g, 0, none⟩) 64 64 (homeS b v) := by
  obtain ⟨w0, hw0⟩ : ∃ x, x = w.alloc (.cells (U8 v).toArray 30) := ⟨_, rfl⟩
  have ew0 := hw0.symm
  have V0 : Hid (VAt w0 w.heap.size v) := by rw [hw0]; exact LAt.new 30 w (U8 v)
  have B0 : Hid (Below w.heap.size w w0) := by rw [hw0]; exact below_alloc w _
  have HT : Hid (Tab w) := ht
  have HV : Hid (v.length = 32 ∧ Bytes v) := ⟨hv, hvb⟩
  have HB : Hid (inB b) := hb
  have hb0 := hb.1
  have hb1 := hb.2
  clear hw0 ht hv hvb
  go_enter Tryd.func56, Tryd.ntmps56
  go_wp2_with fail
  clear ew0
  refine (isBlock_any b 64 _).mono ?_
  rintro e w1 ⟨rfl, rfl⟩
  rw [decide_eq_true hb]
  clear hb
  have cv := conv_const w0 HM 4 w0.heap.size rfl
  have C1 : Hid (Below w0.heap.size w0 (w0.alloc (.cells HM 5 (4, 5)))) := below_alloc w0 _
  have N1 : Hid (BIn (w0.alloc (.cells HM 5 (4, 5))) (some ⟨w0.heap.size, 0, none⟩) 4 hm) := lit_mark w0 hm 4 (4, 5) rfl hm_bytes
  go_wp2_with fail
  clear cv
  generalize w0.alloc (.cells HM 5 (4, 5)) = w1 at *
  refine (hput_any 1 1 w1 (by omega) (by omega) (by decide)).mono ?_
  rintro e w2 ⟨p2, c2, rfl, m2⟩
  have S2 : Hid (SIn w2 (.slice p2 1 c2) [1]) := m2.sin
  have N2 : Hid (SIn w2 (.slice (some ⟨w0.heap.size, 0, none⟩) 4 4) hm) := ⟨_, 4, 4, rfl, N1.out.later m2.below, Nat.le_refl _, fun e => by cases e⟩
  have C2 : Hid (Below w0.heap.size w0 w2) := below_then C1.out m2.below
  clear m2 N1 C1
  have ks : IntKind.u64.wrap b = b := by rw [IntKind.wrap_u64]; omega
  go_wp2_with fail
  refine (hput_any b 1 w2 hb0 (by omega) (div1 _ hb0 (by omega))).mono ?_
  rintro e w3 ⟨p3, c3, rfl, m3⟩
  have S3 : Hid (SIn w3 (.slice p3 1 c3) [b]) := by have := m3.sin; rw [dig1 b hb0 (by omega)] at this; exact this
  have T3 : Hid (SIn w3 (.slice p2 1 c2) [1]) := S2.out.later m3.below
  have N3 : Hid (SIn w3 (.slice (some ⟨w0.heap.size, 0, none⟩) 4 4) hm) := N2.out.later m3.below
  have C3 : Hid (Below w0.heap.size w0 w3) := below_then C2.out m3.below
  clear m3 S2 N2 C2
  go_wp2_with fail
  refine (join_three _ _ _ _ _ _ N3.out T3.out S3.out 6 (by simp [hm]) (by omega)).mono ?_
  rintro e w4 ⟨rfl, m4⟩
  have N4 : Hid (BIn w4 (some ⟨w3.heap.size + 1, 0, none⟩) 6 (hm ++ ([1] ++ [b]))) := m4.read
  have C4 : Hid (Below w0.heap.size w0 w4) := below_then C3.out m4.below
  clear m4 S3 T3 N3 C3
  go_wp2_with fail
  refine (pad_full (some ⟨w3.heap.size + 1, 0, none⟩) 6 6 (hm ++ ([1] ++ [b])) 28 w4 (by omega) (by omega) N4.out).mono ?_
  rintro e w5 ⟨rfl, g5, b5⟩
  have C5 : Hid (Below w0.heap.size w0 w5) := below_then C4.out b5
  have S5 : Hid (SIn w5 (.slice (some ⟨w4.heap.size, 0, none⟩) 28 28) (hm ++ ([1] ++ [b]) ++ List.replicate (28 - 6) 0)) := by
    have hB : Bytes (hm ++ ([1] ++ [b]) ++ List.replicate (28 - 6) 0) := by
      refine (N4.out.byte).append (zs_bytes 22)
    refine ⟨_, 28, 28, rfl, ⟨by simp [hm], hB, fun _ => ⟨_, 0, rfl, fun i hi => ?_⟩⟩, Nat.le_refl _, fun e => by cases e⟩
    rw [Nat.zero_add, g5.cell i]
    have : i < (hm ++ ([1] ++ [b]) ++ List.replicate (28 - 6) (0 : Int)).length := by simp [hm]; omega
    simp only [U8, List.getElem?_map, List.getElem?_eq_getElem this, List.getD, Option.map_some, Option.getD_some]
  have V5 : Hid (SIn w5 (.slice (some ⟨w.heap.size, 0, none⟩) 32 32) v) := VAt.sin (LAt.later V0.out (below_then (Below.refl _ _) C5.out)) HV.out.1 HV.out.2
  clear g5 b5 C4 N4 V0
  go_wp2_with fail
  refine (join_two _ _ _ _ S5.out V5.out 60 (by rw [hbody_is, hbody_len b HV.out.1]) (by omega)).mono ?_
  rintro e w6 ⟨rfl, m6⟩
  rw [hbody_is] at m6
  have N6 : Hid (SIn w6 (.slice (some ⟨w5.heap.size + 1, 0, none⟩) 60 60) (hbody b v)) := m6.sin
  have C6 : Hid (Below w0.heap.size w0 w6) := below_then C5.out m6.below
  have HL : Hid ((hbody b v).length = 60) := hbody_len b HV.out.1
  clear m6 S5 V5 C5
  go_wp2_with fail
  refine (of_new (some ⟨w5.heap.size + 1, 0, none⟩) 60 60 (hbody b v) N6.out (by rw [HL.out]; omega) (HT.out.later (below_then B0.out C6.out)).half).mono ?_
  rintro e w7 ⟨rfl, b7⟩
  have N7 : Hid (SIn w7 (.slice (some ⟨w5.heap.size + 1, 0, none⟩) 60 60) (hbody b v)) := N6.out.later b7
  have C7 : Hid (Below w0.heap.size w0 w7) := below_then C6.out b7
  have hcl := crc_lt (hbody b v) (hbody_bytes HB.out HV.out.2)
  have HE : Hid (homeS b v = hbody b v ++ digits 4 ((crc (hbody b v) : Nat) : Int)) := rfl
  have HEL : Hid ((homeS b v).length = 64) := homeS_len b HV.out.1
  clear b7 N6 C6
  generalize crc (hbody b v) = S at *
  go_wp2_with fail
  refine (hput_any (S : Int) 4 w7 (by omega) (by omega) (div4 _ (by omega) (by omega))).mono ?_
  rintro e w8 ⟨p8, c8, rfl, m8⟩
  have N8 : Hid (SIn w8 (.slice (some ⟨w5.heap.size + 1, 0, none⟩) 60 60) (hbody b v)) := N7.out.later m8.below
  have S8 : Hid (SIn w8 (.slice p8 4 c8) (digits 4 (S : Int))) := m8.sin
  have C8 : Hid (Below w.heap.size w w8) := below_then B0.out (below_then C7.out m8.below)
  clear m8 N7 C7
  go_wp2_with fail
  refine (join_two _ _ _ _ N8.out S8.out 64 (by rw [← HE.out]; exact HEL.out) (by omega)).mono ?_
  rintro e w9 ⟨rfl, m9⟩
  rw [← HE.out] at m9
  have M9 : Hid (Made w8 w9 (some ⟨w8.heap.size + 1, 0, none⟩) 64 64 (homeS b v)) := m9
  clear m9 N8 S8
  go_wp2_with fail
  go_ret2
  exact ⟨w8.heap.size + 1, rfl, own_mono M9.out.own C8.out.size, M9.out.read, M9.out.le, M9.out.nil, below_then C8.out M9.out.below⟩
/-- Encode, of whatever block: its answers -/
theorem hencode_any (b : Int) (v : List Int) (hv : v.length = 32) (hvb : Bytes v) (w : World) (ht : Tab w) :
    Calls Tryd.prog 56 #[.int .i64 b, .agg (U8 v).toArray] w fun e w' => ∃ p n c, e = .returned (.tuple #[.slice p n c, .int .i64 (hencE b)]) ∧ n = (hencT b v).length ∧ Made w w' p n c (hencT b v) := by
  by_cases hb : inB b
  · rw [hencT_yes v hb, hencE_yes hb]
    refine (hencode_good b v hb hv hvb w ht).mono ?_
    rintro e w' ⟨g, rfl, m⟩
    exact ⟨_, 64, 64, rfl, (homeS_len b hv).symm, m⟩
  · rw [hencT_no v hb, hencE_no hb]
    refine (hencode_bad b v hb w).mono ?_
    rintro e w' ⟨rfl, bb⟩
    exact ⟨none, 0, 0, rfl, rfl, World.ownsRow_nil _ _ _ _, BIn.empty, Nat.le_refl _, fun _ => rfl, bb⟩
theorem yields_neq_is {P : Program} {ops : Array Oper} {S : World → Prop} {o : Oper} {a : Act} (hw : Region.wanted o (yielded ops a.tmps) = true) (ty : TypeId) {x y : Operand} {t2 : TypeId} (ho : o.op = .binOp .neq ty x y t2) {xs ys : Array Value} {v : Value} (hx : a.eval x = .agg xs) (hy : a.eval y = .agg ys) (hg : P.eqGuardType P.depth ty = false) (hrun : ∀ w, (binOp .neq ty (.agg xs) (.agg ys)).run P w = .ok v w) : YieldsIf P ops S o v a :=
  .inl ⟨hw, fun w _ => by unfold execOp; simp only [ho, hx, hy, Sem.run_bind, run_eqGuard_agg w .neq ty x y xs ys hg, hrun w, Result.andThen_ok, Sem.run_pure]⟩
theorem yields_eql_is {P : Program} {ops : Array Oper} {S : World → Prop} {o : Oper} {a : Act} (hw : Region.wanted o (yielded ops a.tmps) = true) (ty : TypeId) {x y : Operand} {t2 : TypeId} (ho : o.op = .binOp .eql ty x y t2) {xs ys : Array Value} {v : Value} (hx : a.eval x = .agg xs) (hy : a.eval y = .agg ys) (hg : P.eqGuardType P.depth ty = false) (hrun : ∀ w, (binOp .eql ty (.agg xs) (.agg ys)).run P w = .ok v w) : YieldsIf P ops S o v a :=
  .inl ⟨hw, fun w _ => by unfold execOp; simp only [ho, hx, hy, Sem.run_bind, run_eqGuard_agg w .eql ty x y xs ys hg, hrun w, Result.andThen_ok, Sem.run_pure]⟩
end Go.Proofs.YtefnkjajjidfaaaDoor
namespace Go.Proofs.YtefnkjajjidfaaaDoor
open Go.RowKit
section
variable {P : Program} {ops : Array Oper} {Q : Exit → Act → World → Prop} {md : Region.Mode} {S : World → Prop} {L : Nat}
/-- whatever order is picked; S holds behind every operation but L -/
def wpAnyL (P : Program) (md : Region.Mode) (ops : Array Oper) (Q : Exit → Act → World → Prop) (S : World → Prop) (L : Nat) : Nat → Array Bool → Act → World → Prop
  | 0, listed, a, w => Region.ready md ops listed = [] ∧ Q .normal a w
  | fuel + 1, listed, a, w =>
    (Region.ready md ops listed = [] → Q .normal a w) ∧
    ∀ i ∈ Region.ready md ops listed, wpOp P ops Q i (fun a' w' => (i ≠ L → S w') ∧ wpAnyL P md ops Q S L fuel (listed.setIfInBounds i true) a' w') a w
theorem wpAny_of_L : ∀ (fuel : Nat) (listed : Array Bool) (a : Act) (w : World), wpAnyL P md ops Q S L fuel listed a w → wpAny P md ops Q fuel listed a w
  | 0, _, _, _, h => h
  | fuel + 1, _, _, _, h => ⟨h.1, fun i hi => wpOp_mono (fun a' w' h' => wpAny_of_L fuel _ a' w' h'.2) (h.2 i hi)⟩
theorem wpAnyL_first {i : Nat} {oi : Oper} {v : Value} (hi : ops[i]? = some oi) (hsel : ∀ (j : Nat) (o : Oper) cs b, ops[j]? = some o → o.op ≠ .select cs b)
    (hQ : ∀ c a w, Q (.panic c) (a.put oi.dst v) w → Q (.panic c) a w) (hdep : ∀ o, ops[L]? = some o → ∃ e ∈ o.after, Region.binds md e = true ∧ e.on = i) :
    ∀ (fuel : Nat) (listed : Array Bool) (a : Act) (w : World),
      (∀ j oj, ops[j]? = some oj → j ≠ i → listed.getD j true = false → (∀ e ∈ oj.after, Region.binds md e = true → e.on ≠ i) → oi.apart ops oj = true) →
      i ∈ Region.ready md ops listed → YieldsIf P ops S oi v a → S w →
      wpAnyL P md ops Q S L fuel (listed.setIfInBounds i true) (a.put oi.dst v) w → wpAnyL P md ops Q S L (fuel + 1) listed a w := by
  intro fuel
  induction fuel with
  | zero =>
    intro listed a w _ hr hy hS H
    refine ⟨fun h => (by rw [h] at hr; cases hr), fun j hj => ?_⟩
    by_cases hji : j = i
    · subst hji; exact hy.wpOp hi hS ⟨fun _ => hS, H⟩
    · have := ready_mono hj hji
      rw [H.1] at this
      cases this
  | succ fuel ih =>
    intro listed a w hfree hr hy hS H
    refine ⟨fun h => (by rw [h] at hr; cases hr), fun j hj => ?_⟩
    by_cases hji : j = i
    · subst hji; exact hy.wpOp hi hS ⟨fun _ => hS, H⟩
    · have h1 := H.2 j (ready_mono hj hji)
      obtain ⟨hjun, oj, hoj, hall⟩ := mem_ready.1 hj
      have hnot : ∀ e ∈ oj.after, Region.binds md e = true → e.on ≠ i := fun e he hb heq => by
        have h1 := hall e he hb
        have h0 := (mem_ready.1 hr).1
        rw [heq] at h1
        rcases Nat.lt_or_ge i listed.size with h' | h'
        · simp [h'] at h0 h1; rw [h0] at h1; cases h1
        · simp [Array.getElem?_eq_none h'] at h1
      have hjL : j ≠ L := fun e => by
        subst e
        obtain ⟨e, he, hb, ho⟩ := hdep oj hoj
        exact hnot e he hb ho
      have h2 := wpOp_putIf hoj (hfree j oj hoj hji hjun hnot) (fun cs b => hsel i oi cs b hi) (fun cs b => hsel j oj cs b hoj) hQ hy h1
      have hfree' : ∀ k ok, ops[k]? = some ok → k ≠ i → (listed.setIfInBounds j true).getD k true = false →
          (∀ e ∈ ok.after, Region.binds md e = true → e.on ≠ i) → oi.apart ops ok = true := fun k ok hk hki hun hno => by
        refine hfree k ok hk hki ?_ hno
        by_cases hjk : j = k
        · subst hjk; exact hjun
        · rw [getD_set_ne true hjk] at hun; exact hun
      refine wpOp_mono (fun a' w' h3 => ⟨fun _ => h3.2.1 hjL, ih (listed.setIfInBounds j true) a' w' hfree' (ready_mono hr (Ne.symm hji)) h3.1 (h3.2.1 hjL) ?_⟩) h2
      rw [Array.setIfInBounds_comm _ _ hji]
      exact h3.2.2
/-- take number i first -/
theorem wpAnyL_take {i : Nat} {oi : Oper} {v : Value} {fuel : Nat} {listed : Array Bool} {a : Act} {w : World} (hi : ops[i]? = some oi)
    (hs : Region.noSelect ops = true) (hf : Region.free md ops listed i = true) (hr : (Region.ready md ops listed).contains i = true)
    (hd : (match ops[L]? with | some o => o.after.any (fun e => Region.binds md e && e.on == i) | none => true) = true)
    (hQ : ∀ c a w, Q (.panic c) (a.put oi.dst v) w → Q (.panic c) a w) (hy : YieldsIf P ops S oi v a) (hS : S w)
    (h : wpAnyL P md ops Q S L fuel (listed.setIfInBounds i true) (a.put oi.dst v) w) : wpAnyL P md ops Q S L (fuel + 1) listed a w :=
  wpAnyL_first hi (Region.noSelect_spec hs) hQ (fun o ho => by
    rw [ho] at hd
    obtain ⟨e, he, hb⟩ := Array.any_eq_true'.1 hd
    simp only [Bool.and_eq_true, beq_iff_eq] at hb
    exact ⟨e, he, hb.1, hb.2⟩) fuel listed a w (Region.free_spec hi hf) (by simpa using hr) hy hS h
def AllReadyL (P : Program) (md : Region.Mode) (ops : Array Oper) (Q : Exit → Act → World → Prop) (S : World → Prop) (L fuel : Nat) (listed : Array Bool) (a : Act) (w : World) (rs : List Nat) : Prop :=
  ∀ i ∈ rs, wpOp P ops Q i (fun a' w' => (i ≠ L → S w') ∧ wpAnyL P md ops Q S L fuel (listed.setIfInBounds i true) a' w') a w
theorem AllReadyL.nil {fuel : Nat} {listed : Array Bool} {a : Act} {w : World} : AllReadyL P md ops Q S L fuel listed a w [] := fun _ h => by cases h
theorem AllReadyL.cons {fuel : Nat} {listed : Array Bool} {a : Act} {w : World} {i : Nat} {o : Oper} {rs : List Nat} (ho : ops[i]? = some o)
    (h : ∀ K' : Act → World → Prop, Shut (∀ a w, (i ≠ L → S w) → wpAnyL P md ops Q S L fuel (listed.setIfInBounds i true) a w → K' a w) → if Region.wanted o (yielded ops a.tmps) = true then Oper.wp P o a w K' Q else K' (a.put o.dst undef) w)
    (hs : AllReadyL P md ops Q S L fuel listed a w rs) : AllReadyL P md ops Q S L fuel listed a w (i :: rs) := fun j hj => by
  rcases List.mem_cons.1 hj with rfl | hj
  · exact wpOp_step ho (fun K' hK => h K' (fun a w hS hW => hK a w ⟨hS, hW⟩))
  · exact hs j hj
theorem wpAnyL_ready {rs : List Nat} {fuel : Nat} {listed : Array Bool} {a : Act} {w : World} (hr : Region.ready md ops listed = rs) (hne : rs ≠ [])
    (h : AllReadyL P md ops Q S L fuel listed a w rs) : wpAnyL P md ops Q S L (fuel + 1) listed a w :=
  ⟨fun h0 => absurd (hr ▸ h0) hne, hr ▸ h⟩
theorem wpAnyL_done {listed : Array Bool} {a : Act} {w : World} (hr : Region.ready md ops listed = []) (h : Q .normal a w) :
    ∀ fuel, wpAnyL P md ops Q S L fuel listed a w
  | 0 => ⟨hr, h⟩
  | _ + 1 => ⟨fun _ => h, by rw [hr]; simp⟩
theorem wp_region_last {id : Nat} {a : Act} {w : World} (L : Nat) (S : World → Prop) (hm : P.follows .mixedOrders = true)
    (h : wpAnyL P .any ops Q S L ops.size (Array.replicate ops.size false) a w.drew) : (Code.region id ops true).wp P Q a w :=
  wp_region_any hm (wpAny_of_L _ _ _ _ h)
end
end Go.Proofs.YtefnkjajjidfaaaDoor
namespace Go.Proofs.YtefnkjajjidfaaaDoor
open Go.RowKit


theorem rd_at {w : World} {S : Nat → Prop} {p n : Nat} {d : List Int} {ws : List Wr} (h : Dsk w S p n d ws) (i : Int) (h0 : 0 ≤ i) (h1 : i < n) : Calls Tryd.prog 16 #[.pointer (some ⟨p, 0, none⟩), .int .i64 i] w fun e w' => ∃ q c, e = .returned (.tuple #[.slice q 64 c, .int .i64 0]) ∧ BIn w' q 64 (newest ws d i.toNat) ∧ 64 ≤ c ∧ Below w.heap.size w w' := by
  obtain ⟨k, rfl⟩ : ∃ k : Nat, i = k := ⟨i.toNat, by omega⟩
  have hb : Bytes (newest ws d k) ∧ (newest ws d k).length = 64 := by
    obtain ⟨q, cap, v, hp⟩ := h
    exact ⟨newk_bytes hp.db hp.fit _, newk_length hp.dl hp.fit (by omega) _⟩
  refine (read_good h k (by omega)).mono ?_
  rintro e w' ⟨v, rfl, ho, hw⟩
  obtain ⟨q, c, rfl, hr, hc⟩ := own_in ho hb.1
  exact ⟨q, c, rfl, by rw [Int.toNat_natCast]; exact hr, hc.1, hw⟩
set_option maxHeartbeats 1000000 in
set_option maxRecDepth 100000 in
theorem follows_any (q : Option Addr) (n c : Nat) (l : List Im) (b mr : Int) (w : World) (h : MIn w q n l) (hn : n ≤ 1000) : Calls Tryd.prog 52 #[.slice q n c, .int .i64 b, .int .i64 mr] w fun e w' => e = .returned (.bool (decide (Folls l b mr))) ∧ w = w' := by
  have hl := h.len
  by_cases h1 : mr ≤ (n : Int)
  · have hd : decide (Folls l b mr) = false := decide_eq_false fun k => by have := k.1; omega
    rw [hd]
    clear h hl hd
    go_enter Tryd.func52, Tryd.ntmps52
    go_wp2
    go_ret
    exact ⟨rfl, rfl⟩
  · by_cases h2 : n = 0
    · have hd : decide (Folls l b mr) = true := decide_eq_true ⟨by omega, .inl (by omega)⟩
      rw [hd]
      have h1' : ¬ mr ≤ 0 := by omega
      clear hd h
      subst h2
      go_enter Tryd.func52, Tryd.ntmps52
      go_wp2
      go_ret
      exact ⟨rfl, rfl⟩
    · obtain ⟨m, rfl⟩ : ∃ m, n = m + 1 := ⟨n - 1, by omega⟩
      obtain ⟨g, o, rfl, _⟩ := h.cells (by omega)
      obtain ⟨i, hm⟩ : ∃ i, l[m]? = some i := ⟨_, List.getElem?_eq_getElem (by omega)⟩
      have c0 := h.c0 hm
      have hlb : lastB l = i.b := by
        unfold lastB
        rw [List.getD, hl, Nat.add_sub_cancel, hm]; rfl
      have hd : decide (Folls l b mr) = decide (i.b < b) := by
        unfold Folls
        rw [hlb]
        simp only [hl]
        by_cases hq : i.b < b
        · rw [decide_eq_true hq, decide_eq_true ⟨by omega, .inr hq⟩]
        · rw [decide_eq_false hq, decide_eq_false fun k => k.2.elim (by omega) hq]
      rw [hd]
      obtain ⟨y, hy⟩ : ∃ y, y = i.b := ⟨_, rfl⟩
      rw [← hy] at c0 ⊢
      have e0 : ¬ ((m : Int) + 1 = 0) := by omega
      have e1 : ((m + 1 : Nat) : Int) = (m : Int) + 1 := by omega
      have e2 : (m : Int) + 1 - 1 = m := by omega
      clear h hd hlb hm hy hl
      go_enter Tryd.func52, Tryd.ntmps52
      go_wp2
      go_ret
      exact ⟨by simp; omega, rfl⟩
set_option maxHeartbeats 2000000 in
set_option maxRecDepth 100000 in
theorem recordAt_any {w : World} {S : Nat → Prop} {p n : Nat} {d : List Int} {ws : List Wr} (h : Dsk w S p n d ws) (ht : Tab w) (c : Sup) (hc : MayC c) (hn : (n : Int) = 1 + c.bl + c.lc) (x : Int) (h0 : 0 ≤ x) :
    Calls Tryd.prog 51 #[.pointer (some ⟨p, 0, none⟩), .agg (ccells c).toArray, .int .u64 x] w fun e w' => e = .returned (.tuple #[.agg (R.rcells (stS c (newest ws d) x).1).toArray, .bool (stS c (newest ws d) x).2]) ∧ Below w.heap.size w w' := by
  obtain ⟨wa, hwa⟩ : ∃ y, y = w.alloc (.cells (ccells c).toArray 39) := ⟨_, rfl⟩
  obtain ⟨w0, hw0⟩ : ∃ y, y = wa.alloc (.cells (R.rcells R.rec0).toArray 60) := ⟨_, rfl⟩
  have ewa := hwa.symm
  have sa : wa.heap.size = w.heap.size + 1 := by rw [hwa]; simp
  have A1 : Hid (_) := R.alloc31 wa
  rw [← hw0, sa] at A1
  have Ba : Below w.heap.size w wa := by rw [hwa]; exact below_alloc w _
  have B0 : Hid (Below w.heap.size w w0) := by rw [hw0]; exact below_then Ba (below_alloc wa _)
  have C0 : Hid (CAt w0 w.heap.size c) := by
    rw [hw0]
    refine LAt.later ?_ (below_alloc wa _)
    rw [hwa]; exact LAt.new 39 w _
  have V0 : Hid (R.RAt 60 w0 (w.heap.size + 1) R.rec0) := by rw [hw0, ← sa]; exact R.RAt.new 60 wa _
  have HD : Hid (Dsk w S p n d ws) := h
  have HT : Hid (Tab w) := ht
  have c1 := CAt.c1 C0.out
  have hb1 := hc.1
  have hl1 := hc.2.1
  have HC : Hid (MayC c) := hc
  obtain ⟨y, f, hslot, hy0, hy1, hy⟩ : ∃ y f, G.slotS x c.lc = (y, f) ∧ 0 ≤ y ∧ y < c.lc ∧ (x ≤ 4611686018427387904 → x % c.lc = y) := by
    by_cases hx : x ≤ 4611686018427387968
    · exact ⟨x % c.lc, 0, by unfold G.slotS; rw [if_pos hl1, if_neg (by omega)], Int.emod_nonneg x (by omega), Int.emod_lt_of_pos x (by omega), fun _ => rfl⟩
    · exact ⟨0, 31, by unfold G.slotS; rw [if_pos hl1, if_pos (by omega)], Int.le_refl 0, by omega, fun h => by omega⟩
  have HST : Hid (∀ z, R.decS (newest ws d (1 + c.bl + y).toNat) = z → (¬ z.2 = 0 → stS c (newest ws d) x = (R.rec0, false)) ∧ (¬ z.1.pos = x → stS c (newest ws d) x = (R.rec0, false)) ∧ (c.bl ≤ z.1.block → stS c (newest ws d) x = (R.rec0, false)) ∧ (z.2 = 0 → z.1.pos = x → z.1.block < c.bl → stS c (newest ws d) x = (z.1, true))) := by
    rintro z rfl
    by_cases hx : x ≤ 4611686018427387904
    · rw [← hy hx]
      exact ⟨fun a => stS_no fun k => a k.1, fun a => stS_no fun k => a k.2.1, fun a => stS_no fun k => by have := k.2.2; omega, fun a b e => stS_yes ⟨a, b, e⟩⟩
    · have hno : stS c (newest ws d) x = (R.rec0, false) := stS_no fun k => hx (by rw [← k.2.1]; exact R.may_pos (R.decS_good _ k.1).1)
      exact ⟨fun _ => hno, fun _ => hno, fun _ => hno, fun a b _ => absurd (by rw [← b]; exact R.may_pos (R.decS_good _ a).1) hx⟩
  clear hwa hw0 h ht hc hy Ba
  go_enter Tryd.func51, Tryd.ntmps51
  go_wp2_with ((with_reducible refine at_ops ?_); (refine wpList_alloc_is (by rfl) 60 rfl A1.out ?_); simp only [Act.put, List.setIfInBounds_toArray, List.set_cons_zero, List.set_cons_succ])
  refine (G.slot_any x c.lc h0 _).mono ?_
  rintro e w1 ⟨rfl, rfl⟩
  rw [hslot]
  have c0 := CAt.c0 C0.out
  clear c1 hslot A1 ewa
  go_wp2_with fail
  refine (rd_at (HD.out.later B0.out) (1 + c.bl + y) (by omega) (by omega)).mono ?_
  rintro e w2 ⟨q2, c2, rfl, x2, hc2, b2⟩
  have X2 : Hid (BIn w2 q2 64 (newest ws d (1 + c.bl + y).toNat)) := x2
  have B2 : Hid (Below w.heap.size w w2) := below_then B0.out b2
  have C2 : Hid (CAt w2 w.heap.size c) := LAt.later C0.out b2
  have V2 : Hid (R.RAt 60 w2 (w.heap.size + 1) R.rec0) := R.RAt.later V0.out b2
  clear x2 b2 c0 C0 V0 B0
  go_wp2_with fail
  refine (R.decode_any q2 64 c2 _ w2 X2.out hc2 (HT.out.later B2.out).half).mono ?_
  rintro e w3 ⟨rfl, b3⟩
  have B3 : Hid (Below w.heap.size w w3) := below_then B2.out b3
  have V3 : Hid (R.RAt 60 w3 (w.heap.size + 1) R.rec0) := R.RAt.later V2.out b3
  have C3 : Hid (CAt w3 w.heap.size c) := LAt.later C2.out b3
  have HW : Hid ((R.decS (newest ws d (1 + c.bl + y).toNat)).1.Wf) := R.decS_wf _ X2.out.byte
  clear b3 X2 B2 V2 C2 HD HT
  obtain ⟨⟨r, k⟩, hz⟩ : ∃ z, R.decS (newest ws d (1 + c.bl + y).toNat) = z := ⟨_, rfl⟩
  have HZ : Hid (_) := HST.out _ hz
  rw [hz] at HW ⊢
  clear hz HST
  obtain ⟨w4, hw4⟩ : ∃ y, y = w3.alloc (.cells (R.rcells r).toArray 60) := ⟨_, rfl⟩
  have A4 : Hid (_) := R.alloc31 w3
  have T4 : Hid (_) := R.store_new R.size31 w3 r HW.out.len
  rw [← hw4] at T4
  have B34 : Hid (Below w3.heap.size w3 w4) := by rw [hw4]; exact below_alloc w3 _
  have B4 : Hid (Below w.heap.size w w4) := below_then B3.out B34.out
  have V4 : Hid (R.RAt 60 w4 (w.heap.size + 1) R.rec0) := R.RAt.later V3.out B34.out
  have C4 : Hid (CAt w4 w.heap.size c) := LAt.later C3.out B34.out
  have R4 : Hid (R.RAt 60 w4 w3.heap.size r) := by rw [hw4]; exact R.RAt.new 60 w3 r
  have hne : w.heap.size + 1 < w3.heap.size := R.RAt.lt V3.out
  clear hw4 B34 V3 B3 C3
  have U4 : Hid (_) := R.build31 w4 #[] R.rec0 R.fill_none
  have T5 : Hid (_) := R.RAt.store R.size31 (s := R.rec0) V4.out R.rec0_len R.rec0_len
  have F5 : Hid (R.RAt 60 (w4.setRow (w.heap.size + 1) (R.rcells R.rec0).toArray) (w.heap.size + 1) R.rec0) := R.RAt.stored V4.out _
  have G5 : Hid (Below w.heap.size w (w4.setRow (w.heap.size + 1) (R.rcells R.rec0).toArray)) := below_setRow B4.out (Nat.le_succ _) _
  have c0 := CAt.c0 C4.out
  have c1 := R.RAt.c1 R4.out
  have c2' := R.RAt.c2 R4.out
  by_cases hk : k = 0
  · subst hk
    by_cases hp : r.pos = x
    · by_cases hbk : c.bl ≤ r.block
      · have HR : Hid (_) := HZ.out.2.2.1 hbk
        clear HZ
        have hq : (r.pos != x) = false := by simp [hp]
        have hbk' : r.block ≥ c.bl := hbk
        go_wp2_with ((with_reducible refine at_ops ?_); (first | (refine wpList_alloc_is (by rfl) 60 rfl A4.out ?_) | (refine wpList_store_is (by rfl) 60 rfl rfl rfl T4.out ?_) | (refine wpList_build_is (vs := []) (by rfl) 60 rfl (by rfl) U4.out ?_) | (refine wpList_store_is (by rfl) 60 rfl rfl rfl T5.out ?_)); simp only [Act.put, List.setIfInBounds_toArray, List.set_cons_zero, List.set_cons_succ])
        rw [HR.out]
        exact bodyPost_ret (R.results_rec Tryd.results51 _ _ (w.heap.size + 1) 60 R.rec0 _ (by rfl) F5.out R.rec0_len Tryd.underlying60 rfl R.size31) rfl ⟨rfl, G5.out⟩
      · have HR : Hid (_) := HZ.out.2.2.2 rfl hp (by show r.block < c.bl; omega)
        have L6 : Hid (_) := R.RAt.load31 R4.out HW.out.len
        have T6 : Hid (_) := R.RAt.store R.size31 (s := r) V4.out R.rec0_len HW.out.len
        have F6 : Hid (R.RAt 60 (w4.setRow (w.heap.size + 1) (R.rcells r).toArray) (w.heap.size + 1) r) := R.RAt.stored V4.out _
        have G6 : Hid (Below w.heap.size w (w4.setRow (w.heap.size + 1) (R.rcells r).toArray)) := below_setRow B4.out (Nat.le_succ _) _
        have hq : (r.pos != x) = false := by simp [hp]
        clear HZ T5 F5 G5 U4
        go_wp2_with ((with_reducible refine at_ops ?_); (first | (refine wpList_alloc_is (by rfl) 60 rfl A4.out ?_) | (refine wpList_load_is (by rfl) 60 rfl rfl L6.out ?_) | (refine wpList_store_is (by rfl) 60 rfl rfl rfl T4.out ?_) | (refine wpList_store_is (by rfl) 60 rfl rfl rfl T6.out ?_)); simp only [Act.put, List.setIfInBounds_toArray, List.set_cons_zero, List.set_cons_succ])
        rw [HR.out]
        exact bodyPost_ret (R.results_rec Tryd.results51 _ _ (w.heap.size + 1) 60 r _ (by rfl) F6.out HW.out.len Tryd.underlying60 rfl R.size31) rfl ⟨rfl, G6.out⟩
    · have HR : Hid (_) := HZ.out.2.1 hp
      have hq : (r.pos != x) = true := by simp [hp]
      clear HZ
      go_wp2_with ((with_reducible refine at_ops ?_); (first | (refine wpList_alloc_is (by rfl) 60 rfl A4.out ?_) | (refine wpList_store_is (by rfl) 60 rfl rfl rfl T4.out ?_) | (refine wpList_build_is (vs := []) (by rfl) 60 rfl (by rfl) U4.out ?_) | (refine wpList_store_is (by rfl) 60 rfl rfl rfl T5.out ?_)); simp only [Act.put, List.setIfInBounds_toArray, List.set_cons_zero, List.set_cons_succ])
      rw [HR.out]
      exact bodyPost_ret (R.results_rec Tryd.results51 _ _ (w.heap.size + 1) 60 R.rec0 _ (by rfl) F5.out R.rec0_len Tryd.underlying60 rfl R.size31) rfl ⟨rfl, G5.out⟩
  · have HR : Hid (_) := HZ.out.1 hk
    have hq : (k != 0) = true := by simp [hk]
    clear HZ
    go_wp2_with ((with_reducible refine at_ops ?_); (first | (refine wpList_alloc_is (by rfl) 60 rfl A4.out ?_) | (refine wpList_store_is (by rfl) 60 rfl rfl rfl T4.out ?_) | (refine wpList_build_is (vs := []) (by rfl) 60 rfl (by rfl) U4.out ?_) | (refine wpList_store_is (by rfl) 60 rfl rfl rfl T5.out ?_)); simp only [Act.put, List.setIfInBounds_toArray, List.set_cons_zero, List.set_cons_succ])
    rw [HR.out]
    exact bodyPost_ret (R.results_rec Tryd.results51 _ _ (w.heap.size + 1) 60 R.rec0 _ (by rfl) F5.out R.rec0_len Tryd.underlying60 rfl R.size31) rfl ⟨rfl, G5.out⟩
end Go.Proofs.YtefnkjajjidfaaaDoor
namespace Go.Proofs.YtefnkjajjidfaaaDoor
open Go.RowKit
set_option maxHeartbeats 400000 in
set_option maxRecDepth 100000 in
theorem take_input (p : Option Addr) (n c : Nat) (s : Int) (w : World) (hs : s < 1 ∨ 8 < s) :
    Calls Tryd.prog 100 #[.slice p n c, .int .i64 s] w fun e w' => e = .returned (.tuple #[.int .u64 0, .slice none 0 0, .int .i64 2]) ∧ w = w' := by
  have hd : decide (1 ≤ s ∧ s ≤ 8) = false := decide_eq_false (by omega)
  go_enter Tryd.func100, Tryd.ntmps100
  go_wp2_with (first | (go_at_call 85; refine (isSize_any _ _).mono ?_; rintro e w' ⟨rfl, rfl⟩))
  go_ret3
  exact ⟨rfl, rfl⟩
set_option maxHeartbeats 400000 in
set_option maxRecDepth 100000 in
theorem take_short (p : Option Addr) (n c : Nat) (k : Nat) (w : World) (hs : 1 ≤ k ∧ k ≤ 8) (hk : n < k) :
    Calls Tryd.prog 100 #[.slice p n c, .int .i64 k] w fun e w' => e = .returned (.tuple #[.int .u64 0, .slice none 0 0, .int .i64 11]) ∧ w = w' := by
  have hd : decide (1 ≤ (k : Int) ∧ (k : Int) ≤ 8) = true := decide_eq_true (by omega)
  go_enter Tryd.func100, Tryd.ntmps100
  go_wp2_with (first | (go_at_call 85; refine (isSize_any _ _).mono ?_; rintro e w' ⟨rfl, rfl⟩))
  go_ret3
  exact ⟨rfl, rfl⟩
set_option maxHeartbeats 1000000 in
set_option maxRecDepth 100000 in
theorem take_more (b o n c : Nat) (xs : List Int) (k : Nat) (w : World) (hs : 1 ≤ k ∧ k ≤ 8) (hk : k ≤ n) (hnc : n ≤ c) (hbig : n ≤ 140737488355328) (h : BIn w (some ⟨b, o, none⟩) n xs) (hck : ¬ c = k) :
    Calls Tryd.prog 100 #[.slice (some ⟨b, o, none⟩) n c, .int .i64 k] w fun e w' => ∃ v', e = .returned (.tuple #[.int .u64 (worth (xs.take k)), v', .int .i64 0]) ∧
      w'.ownsRow w.heap.size 5 1 v' (n - k) (U8 (xs.drop k)) ∧ Below w.heap.size w w' := by
  have hd : decide (1 ≤ (k : Int) ∧ (k : Int) ≤ 8) = true := decide_eq_true (by omega)
  have k0 : (0 : Int) ≤ k := by omega
  have k1 : (k : Int) ≤ (c : Int) := by omega
  have k2 : (k : Int) ≤ (n : Int) := by omega
  go_enter Tryd.func100, Tryd.ntmps100
  go_wp2_with (first | (go_at_call 85; refine (isSize_any _ _).mono ?_; rintro e w' ⟨rfl, rfl⟩))
  go_region_with (first | (go_at_call 86; refine (number_any _ _ _ (xs.take k) _ (by omega) ?_).mono ?_; exact (h.take k hk).drew; rintro e w' ⟨rfl, rfl⟩) | (go_at_call 40; refine (clone_any _ _ _ (xs.drop k) _ ?_ (by omega)).mono ?_; exact (h.drop k hk).drew; rintro e w' ⟨v, rfl, hown, hbel⟩))
  all_goals go_wp2
  all_goals go_ret3
  exact ⟨v, rfl, hown, below_undrew hbel⟩
set_option maxHeartbeats 1000000 in
set_option maxRecDepth 100000 in
theorem take_end (b o : Nat) (xs : List Int) (k : Nat) (w : World) (hs : 1 ≤ k ∧ k ≤ 8) (h : BIn w (some ⟨b, o, none⟩) k xs) :
    Calls Tryd.prog 100 #[.slice (some ⟨b, o, none⟩) k k, .int .i64 k] w fun e w' => ∃ v', e = .returned (.tuple #[.int .u64 (worth xs), v', .int .i64 0]) ∧
      w'.ownsRow w.heap.size 5 1 v' 0 [] ∧ Below w.heap.size w w' := by
  have hd : decide (1 ≤ (k : Int) ∧ (k : Int) ≤ 8) = true := decide_eq_true (by omega)
  have k0 : (0 : Int) ≤ k := by omega
  go_enter Tryd.func100, Tryd.ntmps100
  go_wp2_with (first | (go_at_call 85; refine (isSize_any _ _).mono ?_; rintro e w' ⟨rfl, rfl⟩))
  go_region_with (first | (go_at_call 86; refine (number_any _ _ _ xs _ (by omega) ?_).mono ?_; exact h.drew; rintro e w' ⟨rfl, rfl⟩) | (go_at_call 40; refine (clone_any _ _ _ [] _ ?_ (by omega)).mono ?_; exact BIn.empty; rintro e w' ⟨v, rfl, hown, hbel⟩))
  all_goals go_wp2
  all_goals go_ret3
  exact ⟨v, rfl, hown, below_undrew hbel⟩
theorem take_any (p : Option Addr) (n c : Nat) (xs : List Int) (s : Int) (w : World) (h : BIn w p n xs) (hnc : n ≤ c) (hbig : n ≤ 140737488355328) :
    Calls Tryd.prog 100 #[.slice p n c, .int .i64 s] w fun e w' => ∃ v', e = .returned (.tuple #[.int .u64 (takeS xs s).1, v', .int .i64 (takeS xs s).2.2]) ∧
      w'.ownsRow w.heap.size 5 1 v' (takeS xs s).2.1.length (U8 (takeS xs s).2.1) ∧ Below w.heap.size w w' := by
  unfold takeS
  by_cases hs : s < 1 ∨ 8 < s
  · rw [if_pos hs]
    refine (take_input p n c s w hs).mono ?_
    rintro e w' ⟨rfl, rfl⟩
    exact ⟨_, rfl, World.ownsRow_nil _ _ _ _, Below.refl _ _⟩
  · rw [if_neg hs]
    obtain ⟨k, rfl⟩ := Int.eq_ofNat_of_zero_le (show 0 ≤ s by omega)
    rw [Int.toNat_natCast, h.len]
    by_cases hk : (n : Int) < k
    · rw [if_pos hk]
      refine (take_short p n c k w (by omega) (by omega)).mono ?_
      rintro e w' ⟨rfl, rfl⟩
      exact ⟨_, rfl, World.ownsRow_nil _ _ _ _, Below.refl _ _⟩
    · rw [if_neg hk]
      obtain ⟨b, o, rfl, _⟩ := h.cells (by omega)
      by_cases hck : c = k
      · subst hck
        obtain rfl : n = c := by omega
        have e1 : xs.take n = xs := List.take_of_length_le (by rw [h.len]; omega)
        have e2 : xs.drop n = [] := List.drop_eq_nil_of_le (by rw [h.len]; omega)
        rw [e1, e2]
        exact take_end b o xs n w (by omega) h
      · simp only [List.length_drop, h.len]
        exact take_more b o n c xs k w (by omega) (by omega) hnc hbig h hck
end Go.Proofs.YtefnkjajjidfaaaDoor
namespace Go.Proofs.YtefnkjajjidfaaaDoor
open Go.RowKit
set_option maxHeartbeats 400000 in
set_option maxRecDepth 100000 in
theorem equal_any (p q : Option Addr) (n c m d : Nat) (xs ys : List Int) (w : World) (hx : BIn w p n xs) (hy : BIn w q m ys) :
    Calls Tryd.prog 42 #[.slice p n c, .slice q m d] w fun e w' => e = .returned (.bool (decide (xs = ys))) ∧ w = w' := by
  have q1 := hx.str c
  have q2 := hy.str d
  have HE : Hid (_) := str_eq xs ys hx.byte hy.byte
  clear hx hy
  go_enter Tryd.func42, Tryd.ntmps42
  go_wp2
  go_ret
  refine ⟨?_, rfl⟩
  rw [← HE.out]
  rfl
/-- the table of fields, as one value -/
def fcells : List Value := [.int .i64 6, .int .i64 1, .int .i64 8, .int .i64 1, .int .i64 9, .int .i64 1, .int .i64 10, .int .i64 1, .int .i64 11, .int .i64 1, .int .i64 12, .int .i64 1, .int .i64 16, .int .i64 8, .int .i64 24, .int .i64 8]
theorem size63 : (Tryd.prog.info? 151).map (·.size) = some 16 := by kernel_rfl
theorem size62 : (Tryd.prog.info? 150).map (·.size) = some 2 := by kernel_rfl
theorem fcells_at (j : Nat) (hj : j < 8) : fcells[2 * j]? = some (.int .i64 ((fa.getD j 0 : Nat) : Int)) ∧ fcells[2 * j + 1]? = some (.int .i64 ((fw.getD j 0 : Nat) : Int)) := by
  have : j = 0 ∨ j = 1 ∨ j = 2 ∨ j = 3 ∨ j = 4 ∨ j = 5 ∨ j = 6 ∨ j = 7 := by omega
  rcases this with rfl | rfl | rfl | rfl | rfl | rfl | rfl | rfl <;> exact ⟨rfl, rfl⟩
theorem Flds.range {w : World} (h : Flds w) : w.rangeAt 0 0 fcells := fun j v hv => by
  have hj : j < 16 := (List.getElem?_eq_some_iff.1 hv).1
  rw [Nat.zero_add]
  rcases Nat.mod_two_eq_zero_or_one j with he | he
  · obtain ⟨k, rfl⟩ : ∃ k, j = 2 * k := ⟨j / 2, by omega⟩
    rw [(h k (by omega)).1, ← hv]
    exact (fcells_at k (by omega)).1.symm
  · obtain ⟨k, rfl⟩ : ∃ k, j = 2 * k + 1 := ⟨j / 2, by omega⟩
    rw [(h k (by omega)).2, ← hv]
    exact (fcells_at k (by omega)).2.symm
theorem load63 {w : World} (h : Flds w) : (Instr.loadAt 151 (.pointer (some ⟨0, 0, none⟩))).run Tryd.prog w = .ok (.agg fcells.toArray) w :=
  run_loadAt_mid w 0 0 151 fcells _ h.range Tryd.underlying151 rfl size63
theorem sizeOf62 (w : World) : (sizeOf 150).run Tryd.prog w = .ok 2 w := by
  cases hi : Tryd.prog.info? 150 with
  | none => have := size62; simp [hi] at this
  | some i =>
    have h := size62
    simp only [hi, Option.map_some, Option.some.injEq] at h
    simp [sizeOf, typeInfo, hi, h]
def fpair (a k : Nat) : List Value := [.int .i64 (a : Int), .int .i64 (k : Int)]
theorem fpair_at (j : Nat) (hj : j < 8) : fcells.toArray.extract (j * 2) (j * 2 + 2) = (fpair (fa.getD j 0) (fw.getD j 0)).toArray := by
  have : j = 0 ∨ j = 1 ∨ j = 2 ∨ j = 3 ∨ j = 4 ∨ j = 5 ∨ j = 6 ∨ j = 7 := by omega
  rcases this with rfl | rfl | rfl | rfl | rfl | rfl | rfl | rfl <;> rfl
theorem index63 (w : World) (j : Nat) (hj : j < 8) : (Instr.index 151 (.agg fcells.toArray) (.int .i64 (j : Int))).run Tryd.prog w = .ok (.agg (fpair (fa.getD j 0) (fw.getD j 0)).toArray) w := by
  have h1 : (0 : Int) ≤ j ∧ (j : Int) < ((8 : Nat) : Int) := by omega
  have hagg : (isAgg 150).run Tryd.prog w = .ok true w := by
    unfold isAgg
    rw [Sem.run_bind, run_underlying Tryd.underlying150 w]
    rfl
  unfold Instr.index
  simp only [Sem.run_bind, asIntOf, Sem.run_pure, Result.andThen_ok, run_underlying Tryd.underlying151]
  rw [if_pos h1]
  simp only [Sem.run_bind, sizeOf62, Result.andThen_ok, Int.toNat_natCast, part, hagg, if_true, Sem.run_pure]
  rw [fpair_at j hj]
theorem zero62 : (Tryd.prog.info? 150).bind (·.zero) = some (.agg (fpair 0 0).toArray) := by kernel_rfl
theorem alloc62 (w : World) : (Instr.alloc 150 true (.tuple #[])).run Tryd.prog w = .ok (.pointer (some ⟨w.heap.size, 0, none⟩)) (w.alloc (.cells (fpair 0 0).toArray 150)) := by
  simp only [Instr.alloc, Sem.run_bind, zv 150 _ zero62, Result.andThen_ok]
  simp [newVar, newRow, Value.cells]
theorem fpair_all (a k : Nat) : (fpair a k).toArray.all (·.oneCell') = true := by
  apply all_oneCell_toArray
  intro v hv
  simp only [fpair, List.mem_cons, List.not_mem_nil, or_false] at hv
  rcases hv with rfl | rfl <;> rfl
theorem store_new62 (w : World) (a k : Nat) : (Instr.storeAt 150 (.pointer (some ⟨w.heap.size, 0, none⟩)) (.agg (fpair a k).toArray)).run Tryd.prog (w.alloc (.cells (fpair 0 0).toArray 150)) = .ok () (w.alloc (.cells (fpair a k).toArray 150)) := by
  rw [(LAt.new 150 w (fpair 0 0)).store (ds := fpair a k) size62 rfl (fpair_all a k), setRow_alloc]
/-- what is read, number by number -/
def rds (xs : List Int) : List Int := [rd xs 0, rd xs 1, rd xs 2, rd xs 3, rd xs 4, rd xs 5, rd xs 6, rd xs 7]
theorem rds_at (xs : List Int) (j : Nat) (hj : j < (rds xs).length) : (rds xs)[j] = rd xs j := by
  have hj' : j < 8 := hj
  have : j = 0 ∨ j = 1 ∨ j = 2 ∨ j = 3 ∨ j = 4 ∨ j = 5 ∨ j = 6 ∨ j = 7 := by omega
  rcases this with rfl | rfl | rfl | rfl | rfl | rfl | rfl | rfl <;> rfl
theorem take_worth (xs : List Int) (k : Nat) (h1 : 1 ≤ k) (h2 : k ≤ 8) (h3 : k ≤ xs.length) : (takeS xs (k : Int)).1 = worth (xs.take k) ∧ (takeS xs (k : Int)).2.2 = 0 := by
  unfold takeS
  rw [if_neg (by omega), if_neg (by omega), Int.toNat_natCast]
  exact ⟨rfl, rfl⟩
set_option maxHeartbeats 4000000 in
set_option maxRecDepth 100000 in
theorem read_any (b o c : Nat) (xs : List Int) (w : World) (hx : BIn w (some ⟨b, o, none⟩) 64 xs) (hc : 64 ≤ c) (ht : Tab w) :
    Calls Tryd.prog 88 #[.slice (some ⟨b, o, none⟩) 64 c] w fun e w' => e = .returned (.agg (scells (readS xs)).toArray) ∧ Below w.heap.size w w' := by
  have HX : Hid (BIn w (some ⟨b, o, none⟩) 64 xs) := hx
  have HT : Hid (Tab w) := ht
  have A0 : Hid (_) := alloc29 w
  obtain ⟨w0, hw0⟩ : ∃ x, x = w.alloc (.cells (scells sup0).toArray 117) := ⟨_, rfl⟩
  have hs0 : w0.heap.size = w.heap.size + 1 := by rw [hw0]; simp
  have B0 : Below w.heap.size w w0 := by rw [hw0]; exact below_alloc w _
  have S0 : SAt 117 w0 w.heap.size sup0 := by rw [hw0]; exact LAt.new 117 w _
  rw [← hw0] at A0
  have A1 : Hid (_) := alloc59 w0
  obtain ⟨w1, hw1⟩ : ∃ x, x = w0.alloc (.cells (List.replicate 8 (Value.int .u64 0)).toArray 147) := ⟨_, rfl⟩
  have B1 : Below w.heap.size w w1 := by rw [hw1]; exact below_then B0 (below_alloc w0 _)
  have S1 : SAt 117 w1 w.heap.size sup0 := by rw [hw1]; exact LAt.later S0 (below_alloc w0 _)
  have N1 : LAt 147 w1 (w.heap.size + 1) (U64 (filled (rds xs) 0)) := by rw [hw1, ← hs0]; exact LAt.new 147 w0 _
  rw [hs0, ← hw1] at A1
  have L1 : Hid (_) := load63 (ht.later B1).flds
  have HI : Hid (LAt 147 w1 (w.heap.size + 1) (U64 (filled (rds xs) 0)) ∧ SAt 117 w1 w.heap.size sup0 ∧ Below w.heap.size w w1) := ⟨N1, S1, B1⟩
  clear hw0 hw1 hs0 B0 S0 B1 S1 N1 hx ht
  go_enter Tryd.func88, Tryd.ntmps88
  go_wp2_with ((with_reducible refine at_ops ?_); (first | (refine wpList_alloc_is (by rfl) 117 rfl A0.out ?_) | (refine wpList_alloc_is (by rfl) 147 rfl A1.out ?_) | (refine wpList_load_is (by rfl) 151 rfl rfl L1.out ?_)); simp only [Act.put, List.setIfInBounds_toArray, List.set_cons_zero, List.set_cons_succ])
  clear A0 A1 L1
  go_loopw [7] (fun i wr => ∃ j : Nat, j ≤ 8 ∧ i = .int .i64 j ∧ Hid (LAt 147 wr (w.heap.size + 1) (U64 (filled (rds xs) j)) ∧ SAt 117 wr w.heap.size sup0 ∧ Below w.heap.size w wr)) (fun i _ => 8 - (intOf i).toNat)
  case atStart => exact ⟨0, Nat.zero_le _, rfl, HI.out⟩
  case round =>
    obtain ⟨j, hj, rfl, HR⟩ := hrel
    clear HI
    by_cases hlt : j < 8
    · have HLJ : Hid (j < (rds xs).length) := hlt
      have HRD : Hid ((rds xs)[j]'HLJ.out = worth ((xs.drop (fa.getD j 0)).take (fw.getD j 0))) := rds_at xs j hlt
      have HK := fld_bd j hlt
      have HIX : Hid (∀ w, (Instr.index 151 (.agg fcells.toArray) (.int .i64 (j : Int))).run Tryd.prog w = .ok (.agg (fpair (fa.getD j 0) (fw.getD j 0)).toArray) w) := fun w => index63 w j hlt
      generalize fa.getD j 0 = a0 at *
      generalize fw.getD j 0 = k0 at *
      obtain ⟨k1, k2, k3⟩ := HK
      have A2 : Hid (_) := alloc62 wr
      have T2 : Hid (_) := store_new62 wr a0 k0
      obtain ⟨w2, hw2⟩ : ∃ x, x = wr.alloc (.cells (fpair a0 k0).toArray 150) := ⟨_, rfl⟩
      have b2 : Below wr.heap.size wr w2 := by rw [hw2]; exact below_alloc wr _
      have P2 : Hid (LAt 150 w2 wr.heap.size (fpair a0 k0)) := by rw [hw2]; exact LAt.new 150 wr _
      have R2 : Hid (LAt 147 w2 (w.heap.size + 1) (U64 (filled (rds xs) j)) ∧ SAt 117 w2 w.heap.size sup0 ∧ Below w.heap.size w w2) := ⟨HR.out.1.later b2, LAt.later HR.out.2.1 b2, below_then HR.out.2.2 b2⟩
      rw [← hw2] at T2
      have HLT : Hid (w.heap.size + 1 < wr.heap.size) := HR.out.1.lt
      clear hw2 b2 HR
      have hI : (a0 : Int) ≤ 64 := by omega
      have hI2 : (a0 : Int) ≤ c := by omega
      have hne : ¬ c = a0 := by omega
      go_wp2_with ((with_reducible refine at_ops ?_); (first | (refine wpList_index_is (by rfl) 151 rfl rfl rfl (HIX.out _) ?_) | (refine wpList_alloc_is (by rfl) 150 rfl A2.out ?_) | (refine wpList_store_is (by rfl) 150 rfl rfl rfl T2.out ?_)); simp only [Act.put, List.setIfInBounds_toArray, List.set_cons_zero, List.set_cons_succ])
      clear A2 T2 HIX
      refine wp_region_noPanic ?_
      refine wp_region_held_drew (S := fun w' => LAt 150 w' wr.heap.size (fpair a0 k0)) (by kernel_rfl) P2.out.drew (fun hHeld => ?_)
      refine wpAnyH_take (i := 0) (v := ?v0) (by simp; rfl) (by kernel_rfl) (by kernel_rfl) (by kernel_rfl) (fun _ _ _ h => h) (Or.inl ⟨by rfl, ?y0⟩) hHeld ?r0
      case y0 => intro w hSw; clear hSw; go_simp; with_reducible rfl
      simp only [Act.put, List.setIfInBounds_toArray, List.set_cons_zero, List.set_cons_succ]
      refine wpAnyH_take (i := 1) (v := ?v1) (by simp; rfl) (by kernel_rfl) (by kernel_rfl) (by kernel_rfl) (fun _ _ _ h => h) (Or.inl ⟨by rfl, ?y1⟩) hHeld ?r1
      case y1 => intro w hSw; clear hSw; go_simp; with_reducible rfl
      simp only [Act.put, List.setIfInBounds_toArray, List.set_cons_zero, List.set_cons_succ]
      refine wpAnyH_take (i := 2) (v := ?v2) (by simp; rfl) (by kernel_rfl) (by kernel_rfl) (by kernel_rfl) (fun _ _ _ h => h) (Or.inl ⟨by rfl, ?y2⟩) hHeld ?r2
      case y2 => intro w hSw; clear hSw; go_simp; with_reducible rfl
      simp only [Act.put, List.setIfInBounds_toArray, List.set_cons_zero, List.set_cons_succ]
      refine wpAnyH_take (i := 3) (v := ?v3) (by simp; rfl) (by kernel_rfl) (by kernel_rfl) (by kernel_rfl) (fun _ _ _ h => h) (Or.inl ⟨by rfl, ?y3⟩) hHeld ?r3
      case y3 => intro w hSw; have z := LAt.cell hSw 0; simp only [fpair, List.getElem?_cons_zero] at z; clear hSw; go_simp; with_reducible rfl
      simp only [Act.put, List.setIfInBounds_toArray, List.set_cons_zero, List.set_cons_succ]
      refine wpAnyH_take (i := 4) (v := ?v4) (by simp; rfl) (by kernel_rfl) (by kernel_rfl) (by kernel_rfl) (fun _ _ _ h => h) (Or.inl ⟨by rfl, ?y4⟩) hHeld ?r4
      case y4 => intro w hSw; clear hSw; go_simp; with_reducible rfl
      simp only [Act.put, List.setIfInBounds_toArray, List.set_cons_zero, List.set_cons_succ]
      refine wpAnyH_take (i := 5) (v := ?v5) (by simp; rfl) (by kernel_rfl) (by kernel_rfl) (by kernel_rfl) (fun _ _ _ h => h) (Or.inl ⟨by rfl, ?y5⟩) hHeld ?r5
      case y5 => intro w hSw; clear hSw; go_simp; with_reducible rfl
      simp only [Act.put, List.setIfInBounds_toArray, List.set_cons_zero, List.set_cons_succ]
      refine wpAnyH_take (i := 6) (v := ?v6) (by simp; rfl) (by kernel_rfl) (by kernel_rfl) (by kernel_rfl) (fun _ _ _ h => h) (Or.inl ⟨by rfl, ?y6⟩) hHeld ?r6
      case y6 => intro w hSw; have z := LAt.cell hSw 1; simp only [fpair, List.getElem?_cons_zero, List.getElem?_cons_succ] at z; clear hSw; go_simp; with_reducible rfl
      simp only [Act.put, List.setIfInBounds_toArray, List.set_cons_zero, List.set_cons_succ]
      refine wpAnyH_ready (rs := [7]) (by kernel_rfl) (by simp) ?_
      refine AllReadyH.cons (by simp; rfl) (fun Kc hKc => ?_) AllReadyH.nil
      go_simp
      have hx2 := ((HX.out.later R2.out.2.2).drew).drop a0 (by omega)
      refine (take_any (some ⟨b, o + a0, none⟩) (64 - a0) (c - a0) (xs.drop a0) (k0 : Int) w2.drew hx2 (by omega) (by omega)).mono ?_
      rintro e w3 ⟨v3, rfl, -, b3⟩
      have htk := take_worth (xs.drop a0) k0 k1 k2 (by rw [hx2.len]; omega)
      rw [htk.1, htk.2, ← HRD.out]
      have B3 : Hid (Below w2.heap.size w2 w3) := below_undrew b3
      have R3 : Hid (LAt 147 w3 (w.heap.size + 1) (U64 (filled (rds xs) j)) ∧ SAt 117 w3 w.heap.size sup0 ∧ Below w.heap.size w w3) := ⟨R2.out.1.later B3.out, LAt.later R2.out.2.1 B3.out, below_then R2.out.2.2 B3.out⟩
      have P3 : Hid (LAt 150 w3 wr.heap.size (fpair a0 k0)) := P2.out.later B3.out
      clear b3 hx2 htk
      refine hKc.out _ _ P3.out (fun hHeld => ?_)
      clear hKc Kc
      refine wpAnyH_take (i := 8) (v := ?v8) (by simp; rfl) (by kernel_rfl) (by kernel_rfl) (by kernel_rfl) (fun _ _ _ h => h) (Or.inl ⟨by rfl, ?y8⟩) hHeld ?r8
      case y8 => intro w hSw; clear hSw; go_simp; with_reducible rfl
      simp only [Act.put, List.setIfInBounds_toArray, List.set_cons_zero, List.set_cons_succ]
      refine wpAnyH_take (i := 9) (v := ?v9) (by simp; rfl) (by kernel_rfl) (by kernel_rfl) (by kernel_rfl) (fun _ _ _ h => h) (Or.inl ⟨by rfl, ?y9⟩) hHeld ?r9
      case y9 => intro w hSw; clear hSw; go_simp; with_reducible rfl
      simp only [Act.put, List.setIfInBounds_toArray, List.set_cons_zero, List.set_cons_succ]
      refine wpAnyH_take (i := 10) (v := ?v10) (by simp; rfl) (by kernel_rfl) (by kernel_rfl) (by kernel_rfl) (fun _ _ _ h => h) (Or.inl ⟨by rfl, ?y10⟩) hHeld ?r10
      case y10 => intro w hSw; clear hSw; go_simp; with_reducible rfl
      simp only [Act.put, List.setIfInBounds_toArray, List.set_cons_zero, List.set_cons_succ]
      refine wpAnyH_take (i := 11) (v := ?v11) (by simp; rfl) (by kernel_rfl) (by kernel_rfl) (by kernel_rfl) (fun _ _ _ h => h) (Or.inl ⟨by rfl, ?y11⟩) hHeld ?r11
      case y11 => intro w hSw; clear hSw; go_simp; with_reducible rfl
      simp only [Act.put, List.setIfInBounds_toArray, List.set_cons_zero, List.set_cons_succ]
      refine wpAnyH_take (i := 12) (v := ?v12) (by simp; rfl) (by kernel_rfl) (by kernel_rfl) (by kernel_rfl) (fun _ _ _ h => h) (Or.inl ⟨by rfl, ?y12⟩) hHeld ?r12
      case y12 => intro w hSw; clear hSw; go_simp; with_reducible rfl
      simp only [Act.put, List.setIfInBounds_toArray, List.set_cons_zero, List.set_cons_succ]
      refine wpAnyH_ready (rs := [13]) (by kernel_rfl) (by simp) ?_
      refine AllReadyH.cons (by simp; rfl) (fun Kc hKc => ?_) AllReadyH.nil
      have z : ∃ u, w3.cell? ⟨w.heap.size + 1, j, none⟩ = some u := by
        rw [R3.out.1.cell j]
        exact ⟨_, List.getElem?_eq_getElem (by simp [filled_length (rds xs) j (Nat.le_of_lt HLJ.out)]; exact hlt)⟩
      obtain ⟨u, hu⟩ := z
      have hfz : w3.frozen? ⟨w.heap.size + 1, j, none⟩ = false := by simp [World.frozen?, show w3.heap[w.heap.size + 1]? = _ from R3.out.1]
      have HQ : Hid (LAt 147 (w3.setCell ⟨w.heap.size + 1, j, none⟩ (.int .u64 ((rds xs)[j]'HLJ.out))) (w.heap.size + 1) (U64 (filled (rds xs) (j + 1))) ∧ SAt 117 (w3.setCell ⟨w.heap.size + 1, j, none⟩ (.int .u64 ((rds xs)[j]'HLJ.out))) w.heap.size sup0 ∧ Below w.heap.size w (w3.setCell ⟨w.heap.size + 1, j, none⟩ (.int .u64 ((rds xs)[j]'HLJ.out)))) := by
        refine ⟨?_, LAt.setO R3.out.2.1 j _ (by omega), R3.out.2.2.setCell (by show _ ≤ _; simp) _⟩
        have := R3.out.1.set j (.int .u64 ((rds xs)[j]'HLJ.out))
        rw [← filled_step (rds xs) j HLJ.out]
        simpa [U64, List.map_set] using this
      have P4 : Hid (LAt 150 (w3.setCell ⟨w.heap.size + 1, j, none⟩ (.int .u64 ((rds xs)[j]'HLJ.out))) wr.heap.size (fpair a0 k0)) := LAt.setO P3.out j _ (by have := HLT.out; omega)
      generalize (rds xs)[j]'HLJ.out = V at *
      go_simp
      refine hKc.out _ _ P4.out (fun hHeld => ?_)
      clear hKc Kc
      refine wpAnyH_done (by kernel_rfl) (NoPanic.normal ?_) _
      clear hHeld P4 P3 R3 R2 P2 hu hfz
      go_wp2_with fail
      go_roundw
      case rel => exact ⟨j + 1, by omega, by go_num, HQ.out⟩
      case measure => simp [intOf]; omega
    · obtain rfl : j = 8 := by omega
      have HN : Hid (LAt 147 wr (w.heap.size + 1) (U64 (rds xs))) := by have := HR.out.1; rw [filled_all (rds xs) 8 (Nat.le_refl _)] at this; exact this
      have r1 := rd_one xs HX.out.byte 1 (by omega)
      have r2 := rd_one xs HX.out.byte 2 (by omega)
      have r3 := rd_one xs HX.out.byte 3 (by omega)
      have r4 := rd_one xs HX.out.byte 4 (by omega)
      have r5 := rd_one xs HX.out.byte 5 (by omega)
      have c1 : wr.cell? ⟨w.heap.size + 1, 1, none⟩ = some (.int .u64 (rd xs 1)) := HN.out.cell 1
      have c2 : wr.cell? ⟨w.heap.size + 1, 2, none⟩ = some (.int .u64 (rd xs 2)) := HN.out.cell 2
      have c3 : wr.cell? ⟨w.heap.size + 1, 3, none⟩ = some (.int .u64 (rd xs 3)) := HN.out.cell 3
      have c4 : wr.cell? ⟨w.heap.size + 1, 4, none⟩ = some (.int .u64 (rd xs 4)) := HN.out.cell 4
      have c5 : wr.cell? ⟨w.heap.size + 1, 5, none⟩ = some (.int .u64 (rd xs 5)) := HN.out.cell 5
      have c6 : wr.cell? ⟨w.heap.size + 1, 6, none⟩ = some (.int .u64 (rd xs 6)) := HN.out.cell 6
      have c7 : wr.cell? ⟨w.heap.size + 1, 7, none⟩ = some (.int .u64 (rd xs 7)) := HN.out.cell 7
      obtain ⟨r, hr⟩ : ∃ r, r = readS xs := ⟨_, rfl⟩
      have HE : Hid (r = readS xs) := hr
      have e1 : rd xs 1 = r.bl := by rw [hr]; rfl
      have e2 : rd xs 2 = r.lc := by rw [hr]; rfl
      have e3 : rd xs 3 = r.mr := by rw [hr]; rfl
      have e4 : rd xs 4 = r.hi := by rw [hr]; rfl
      have e5 : rd xs 5 = r.cl := by rw [hr]; rfl
      have e6 : rd xs 6 = r.tail := by rw [hr]; rfl
      have e7 : rd xs 7 = r.life := by rw [hr]; rfl
      rw [e1] at r1 c1
      rw [e2] at r2 c2
      rw [e3] at r3 c3
      rw [e4] at r4 c4
      rw [e5] at r5 c5
      rw [e6] at c6
      rw [e7] at c7
      obtain ⟨r10, r11⟩ := r1
      obtain ⟨r20, r21⟩ := r2
      obtain ⟨r30, r31⟩ := r3
      obtain ⟨r40, r41⟩ := r4
      obtain ⟨r50, r51⟩ := r5
      have q1 : IntKind.i64.wrap r.bl = r.bl := by rw [IntKind.wrap_i64]; omega
      have q2 : IntKind.i64.wrap r.lc = r.lc := by rw [IntKind.wrap_i64]; omega
      have q3 : IntKind.i64.wrap r.mr = r.mr := by rw [IntKind.wrap_i64]; omega
      have q4 : IntKind.i64.wrap r.hi = r.hi := by rw [IntKind.wrap_i64]; omega
      have q5 : IntKind.i64.wrap r.cl = r.cl := by rw [IntKind.wrap_i64]; omega
      have ST : Hid (_) := LAt.store (ds := scells r) HR.out.2.1 size29 rfl (scells_all r)
      have HF : Hid (SAt 117 (wr.setRow w.heap.size (scells r).toArray) w.heap.size r ∧ Below w.heap.size w (wr.setRow w.heap.size (scells r).toArray)) := ⟨LAt.stored HR.out.2.1 _, below_setRow HR.out.2.2 (Nat.le_refl _) _⟩
      clear hr e1 e2 e3 e4 e5 e6 e7 r10 r11 r20 r21 r30 r31 r40 r41 r50 r51 HN HR
      go_wp2_with ((with_reducible refine at_ops ?_); (refine wpList_store_is (by rfl) 117 rfl rfl rfl ST.out ?_); simp only [Act.put])
      rw [← HE.out]
      exact bodyPost_ret (results_cell1 Tryd.results88 _ _ w.heap.size 117 _ _ (by rfl) HF.out.1 Tryd.underlying117 rfl size29) rfl ⟨rfl, HF.out.2⟩
set_option maxHeartbeats 1000000 in
set_option maxRecDepth 100000 in
theorem decode_len (p : Option Addr) (n c : Nat) (w : World) (hn : n ≠ 64) :
    Calls Tryd.prog 71 #[.slice p n c] w fun e w' => e = .returned (.tuple #[.agg (scells sup0).toArray, .int .i64 2]) ∧ Below w.heap.size w w' := by
  have A1 : Hid (_) := alloc29 w
  have R1 : Hid (SAt 117 (w.alloc (.cells (scells sup0).toArray 117)) w.heap.size sup0) := LAt.new 117 w _
  have S1 : Hid (_) := store_new29 w sup0
  have hn' : (((n : Nat) : Int) != 64) = true := by simp; omega
  go_enter Tryd.func71, Tryd.ntmps71
  go_wp2_with ((with_reducible refine at_ops ?_); (first | (refine wpList_alloc_is (by rfl) 117 rfl A1.out ?_) | (refine wpList_build_is (vs := []) (by rfl) 117 rfl (by rfl) (build29 _ #[] sup0 fill_none) ?_) | (refine wpList_store_is (by rfl) 117 rfl rfl rfl S1.out ?_)); simp only [Act.put, List.setIfInBounds_toArray, List.set_cons_zero, List.set_cons_succ])
  exact bodyPost_ret (results_sup Tryd.results71 _ _ w.heap.size 117 _ _ (by rfl) R1.out Tryd.underlying117 rfl size29) rfl ⟨rfl, below_alloc w _⟩
set_option maxHeartbeats 2000000 in
set_option maxRecDepth 100000 in
theorem decode_64 (b o c : Nat) (xs : List Int) (w : World) (hx : BIn w (some ⟨b, o, none⟩) 64 xs) (hc : 64 ≤ c) (ht : Tab w) :
    Calls Tryd.prog 71 #[.slice (some ⟨b, o, none⟩) 64 c] w fun e w' => e = .returned (.tuple #[.agg (scells (decS xs).1).toArray, .int .i64 (decS xs).2]) ∧ Below w.heap.size w w' := by
  have A1 : Hid (_) := alloc29 w
  have R1 : Hid (SAt 117 (w.alloc (.cells (scells sup0).toArray 117)) w.heap.size sup0) := LAt.new 117 w _
  have B1 : Hid (Below w.heap.size w (w.alloc (.cells (scells sup0).toArray 117))) := below_alloc w _
  have HX : Hid (BIn (w.alloc (.cells (scells sup0).toArray 117)) (some ⟨b, o, none⟩) 64 xs) := hx.later (below_alloc w _)
  have HT : Hid (Tab w) := ht
  have HW : Hid ((readS xs).Wf) := readS_wf xs hx.byte
  have HL : Hid (xs.length = 64) := hx.len
  clear hx ht
  go_enter Tryd.func71, Tryd.ntmps71
  go_wp2_with ((with_reducible refine at_ops ?_); (refine wpList_alloc_is (by rfl) 117 rfl A1.out ?_); simp only [Act.put, List.setIfInBounds_toArray, List.set_cons_zero, List.set_cons_succ])
  refine (read_any b o c xs _ HX.out hc (HT.out.later B1.out)).mono ?_
  rintro e w1 ⟨rfl, b1⟩
  have R2 : Hid (SAt 117 w1 w.heap.size sup0) := LAt.later R1.out b1
  have B2 : Hid (Below w.heap.size w w1) := below_of_alloc b1
  have X2 : Hid (BIn w1 (some ⟨b, o, none⟩) 64 xs) := HX.out.later b1
  clear b1 R1 HX A1 B1
  obtain ⟨r, hr⟩ : ∃ r, r = readS xs := ⟨_, rfl⟩
  have HRR : Hid (r = readS xs) := hr
  rw [← hr] at HW ⊢
  clear hr
  have A2 : Hid (_) := alloc29 w1
  have S2 : Hid (_) := store_new29 w1 r
  have R3 : Hid (SAt 117 (w1.alloc (.cells (scells r).toArray 117)) w1.heap.size r) := LAt.new 117 w1 _
  have L3 : Hid (_) := SAt.load29 R3.out
  go_wp2_with ((with_reducible refine at_ops ?_); (first | (refine wpList_alloc_is (by rfl) 117 rfl A2.out ?_) | (refine wpList_store_is (by rfl) 117 rfl rfl rfl S2.out ?_) | (refine wpList_load_is (by rfl) 117 rfl rfl L3.out ?_)); simp only [Act.put, List.setIfInBounds_toArray, List.set_cons_zero, List.set_cons_succ])
  have B3 : Below w1.heap.size w1 (w1.alloc (.cells (scells r).toArray 117)) := below_alloc w1 _
  refine (encode_any r HW.out _ (HT.out.later (below_then B2.out B3))).mono ?_
  rintro e w2 ⟨p2, n2, c2, rfl, hn2, m2⟩
  have B4 := below_then B3 m2.below
  have R4 : Hid (SAt 117 w2 w1.heap.size r) := LAt.later R3.out m2.below
  have R5 : Hid (SAt 117 w2 w.heap.size sup0) := LAt.later R2.out B4
  have HB : Hid (Below w.heap.size w w2) := below_then B2.out B4
  have X4 : Hid (BIn w2 (some ⟨b, o, none⟩) 64 xs) := X2.out.later B4
  have E4 : Hid (BIn w2 p2 n2 (encT r)) := m2.read
  clear m2 B3 B4 R3 L3 S2 A2 R2 B2 X2 hn2
  have L4 : Hid (_) := SAt.load29 R4.out
  have ST : Hid (_) := LAt.store (ds := scells r) R5.out size29 rfl (scells_all r)
  have SZ : Hid (_) := LAt.store (ds := scells sup0) R5.out size29 rfl (scells_all sup0)
  have F1 : Hid (SAt 117 (w2.setRow w.heap.size (scells r).toArray) w.heap.size r ∧ Below w.heap.size w (w2.setRow w.heap.size (scells r).toArray)) := ⟨LAt.stored R5.out _, below_setRow HB.out (Nat.le_refl _) _⟩
  have F0 : Hid (SAt 117 (w2.setRow w.heap.size (scells sup0).toArray) w.heap.size sup0 ∧ Below w.heap.size w (w2.setRow w.heap.size (scells sup0).toArray)) := ⟨LAt.stored R5.out _, below_setRow HB.out (Nat.le_refl _) _⟩
  by_cases hm : May r
  · rw [chk_yes r hm]
    by_cases he : encS r = xs
    · have hq : decide (encT r = xs) = true := by rw [encT_yes r hm, he]; simp
      have HD : Hid (decS xs = (r, 0)) := by
        show _ = _
        rw [decS_ok xs HL.out (by unfold Good; rw [← HRR.out]; exact ⟨hm, he⟩), HRR.out]
      clear he hm
      go_wp2_with fail
      refine (equal_any p2 (some ⟨b, o, none⟩) n2 c2 64 c (encT r) xs w2 E4.out X4.out).mono ?_
      rintro e w3 ⟨rfl, rfl⟩
      go_wp2_with ((with_reducible refine at_ops ?_); (first | (refine wpList_store_is (by rfl) 117 rfl rfl rfl ST.out ?_) | (refine wpList_load_is (by rfl) 117 rfl rfl L4.out ?_)); simp only [Act.put, List.setIfInBounds_toArray, List.set_cons_zero, List.set_cons_succ])
      rw [HD.out]
      exact bodyPost_ret (results_sup Tryd.results71 _ _ w.heap.size 117 _ _ (by rfl) F1.out.1 Tryd.underlying117 rfl size29) rfl ⟨rfl, F1.out.2⟩
    · have hq : decide (encT r = xs) = false := by rw [encT_yes r hm]; simp [he]
      have HD : Hid (decS xs = (sup0, 70)) := decS_bad xs HL.out (by unfold Good; rw [← HRR.out]; exact fun h => he h.2)
      clear he hm
      go_wp2_with fail
      refine (equal_any p2 (some ⟨b, o, none⟩) n2 c2 64 c (encT r) xs w2 E4.out X4.out).mono ?_
      rintro e w3 ⟨rfl, rfl⟩
      go_wp2_with ((with_reducible refine at_ops ?_); (first | (refine wpList_store_is (by rfl) 117 rfl rfl rfl SZ.out ?_) | (refine wpList_build_is (vs := []) (by rfl) 117 rfl (by rfl) (build29 _ #[] sup0 fill_none) ?_)); simp only [Act.put, List.setIfInBounds_toArray, List.set_cons_zero, List.set_cons_succ])
      rw [HD.out]
      exact bodyPost_ret (results_sup Tryd.results71 _ _ w.heap.size 117 _ _ (by rfl) F0.out.1 Tryd.underlying117 rfl size29) rfl ⟨rfl, F0.out.2⟩
  · have hc0 : chk r ≠ 0 := fun h => hm ((chk_zero r).1 h)
    generalize chk r = q at *
    have HD : Hid (decS xs = (sup0, 70)) := decS_bad xs HL.out (by unfold Good; rw [← HRR.out]; exact fun h => hm h.1)
    clear hm
    go_wp2_with ((with_reducible refine at_ops ?_); (first | (refine wpList_store_is (by rfl) 117 rfl rfl rfl SZ.out ?_) | (refine wpList_build_is (vs := []) (by rfl) 117 rfl (by rfl) (build29 _ #[] sup0 fill_none) ?_)); simp only [Act.put, List.setIfInBounds_toArray, List.set_cons_zero, List.set_cons_succ])
    rw [HD.out]
    exact bodyPost_ret (results_sup Tryd.results71 _ _ w.heap.size 117 _ _ (by rfl) F0.out.1 Tryd.underlying117 rfl size29) rfl ⟨rfl, F0.out.2⟩
/-- Decode, of whatever bytes: its answers -/
theorem decode_any (p : Option Addr) (n c : Nat) (xs : List Int) (w : World) (hx : BIn w p n xs) (hc : n ≤ c) (ht : Tab w) :
    Calls Tryd.prog 71 #[.slice p n c] w fun e w' => e = .returned (.tuple #[.agg (scells (decS xs).1).toArray, .int .i64 (decS xs).2]) ∧ Below w.heap.size w w' := by
  by_cases h : n = 64
  · subst h
    obtain ⟨b, o, rfl, -⟩ := hx.cells (by omega)
    exact decode_64 b o c xs w hx hc ht
  · rw [decS_len xs (by rw [hx.len]; exact h)]
    exact decode_len p n c w h
end Go.Proofs.YtefnkjajjidfaaaDoor
namespace Go.Proofs.YtefnkjajjidfaaaDoor
open Go.RowKit


theorem eqg23 : Tryd.prog.eqGuardType Tryd.prog.depth 39 = false := by kernel_rfl
theorem neq23 (w : World) (r s : Sup) : (binOp .neq 39 (.agg (ccells r).toArray) (.agg (ccells s).toArray)).run Tryd.prog w = .ok (.bool (!cfgB r s)) w := by
  rw [run_neq_struct, equal23 w 9998 r s]
  rfl
theorem cfgB_iff (r s : Sup) : cfgB r s = true ↔ SameC r s := by simp [cfgB, SameC]
set_option maxHeartbeats 1000000 in
set_option maxRecDepth 100000 in
theorem superOf_nil (c : Sup) (w : World) : Calls Tryd.prog 49 #[.pointer none, .agg (ccells c).toArray] w fun e w' => e = .returned (.tuple #[.agg (scells sup0).toArray, .int .i64 1]) ∧ Below w.heap.size w w' := by
  obtain ⟨wa, hwa⟩ : ∃ y, y = w.alloc (.cells (ccells c).toArray 39) := ⟨_, rfl⟩
  obtain ⟨w0, hw0⟩ : ∃ y, y = wa.alloc (.cells (scells sup0).toArray 117) := ⟨_, rfl⟩
  have ewa := hwa.symm
  have sa : wa.heap.size = w.heap.size + 1 := by rw [hwa]; simp
  have A1 : Hid (_) := alloc29 wa
  rw [← hw0, sa] at A1
  have Ba : Below w.heap.size w wa := by rw [hwa]; exact below_alloc w _
  have B0 : Hid (Below w.heap.size w w0) := by rw [hw0]; exact below_then Ba (below_alloc wa _)
  have C0 : Hid (CAt w0 w.heap.size c) := by
    rw [hw0]
    refine LAt.later ?_ (below_alloc wa _)
    rw [hwa]; exact LAt.new 39 w _
  have V0 : Hid (SAt 117 w0 (w.heap.size + 1) sup0) := by rw [hw0, ← sa]; exact LAt.new 117 wa _
  clear hwa hw0 Ba
  have U0 : Hid (_) := build29 w0 #[] sup0 fill_none
  have T0 : Hid (_) := LAt.store (ds := scells sup0) V0.out size29 rfl (scells_all sup0)
  have F0 : Hid (SAt 117 (w0.setRow (w.heap.size + 1) (scells sup0).toArray) (w.heap.size + 1) sup0) := LAt.stored V0.out _
  have G0 : Hid (Below w.heap.size w (w0.setRow (w.heap.size + 1) (scells sup0).toArray)) := below_setRow B0.out (Nat.le_succ _) _
  go_enter Tryd.func49, Tryd.ntmps49
  go_wp2_with ((with_reducible refine at_ops ?_); (first | (refine wpList_alloc_is (by rfl) 117 rfl A1.out ?_) | (refine wpList_build_is (vs := []) (by rfl) 117 rfl (by rfl) U0.out ?_) | (refine wpList_store_is (by rfl) 117 rfl rfl rfl T0.out ?_)); simp only [Act.put, List.setIfInBounds_toArray, List.set_cons_zero, List.set_cons_succ])
  exact bodyPost_ret (results_sup Tryd.results49 _ _ (w.heap.size + 1) 117 sup0 _ (by rfl) F0.out Tryd.underlying117 rfl size29) rfl ⟨rfl, G0.out⟩
set_option maxHeartbeats 2000000 in
set_option maxRecDepth 100000 in
theorem superOf_any {w : World} {S : Nat → Prop} {p n : Nat} {d : List Int} {ws : List Wr} (h : Dsk w S p n d ws) (ht : Tab w) (c : Sup) :
    Calls Tryd.prog 49 #[.pointer (some ⟨p, 0, none⟩), .agg (ccells c).toArray] w fun e w' => e = .returned (.tuple #[.agg (scells (supOf c n (newest ws d)).1).toArray, .int .i64 (supOf c n (newest ws d)).2]) ∧ Below w.heap.size w w' := by
  obtain ⟨wa, hwa⟩ : ∃ y, y = w.alloc (.cells (ccells c).toArray 39) := ⟨_, rfl⟩
  obtain ⟨w0, hw0⟩ : ∃ y, y = wa.alloc (.cells (scells sup0).toArray 117) := ⟨_, rfl⟩
  have ewa := hwa.symm
  have sa : wa.heap.size = w.heap.size + 1 := by rw [hwa]; simp
  have A1 : Hid (_) := alloc29 wa
  rw [← hw0, sa] at A1
  have Ba : Below w.heap.size w wa := by rw [hwa]; exact below_alloc w _
  have B0 : Hid (Below w.heap.size w w0) := by rw [hw0]; exact below_then Ba (below_alloc wa _)
  have C0 : Hid (CAt w0 w.heap.size c) := by
    rw [hw0]
    refine LAt.later ?_ (below_alloc wa _)
    rw [hwa]; exact LAt.new 39 w _
  have V0 : Hid (SAt 117 w0 (w.heap.size + 1) sup0) := by rw [hw0, ← sa]; exact LAt.new 117 wa _
  clear hwa hw0 Ba
  have HD : Hid (Dsk w S p n d ws) := h
  have HT : Hid (Tab w) := ht
  have L0 : Hid (_) := CAt.load23 C0.out
  clear h ht
  go_enter Tryd.func49, Tryd.ntmps49
  go_wp2_with ((with_reducible refine at_ops ?_); (first | (refine wpList_alloc_is (by rfl) 117 rfl A1.out ?_) | (refine wpList_load_is (by rfl) 39 rfl rfl L0.out ?_)); simp only [Act.put, List.setIfInBounds_toArray, List.set_cons_zero, List.set_cons_succ])
  clear ewa A1
  refine (config_any c _).mono ?_
  rintro e w1 ⟨rfl, b1⟩
  have B1 : Hid (Below w.heap.size w w1) := below_then B0.out b1
  have C1 : Hid (CAt w1 w.heap.size c) := LAt.later C0.out b1
  have V1 : Hid (SAt 117 w1 (w.heap.size + 1) sup0) := LAt.later V0.out b1
  clear b1 B0 C0 V0 L0
  by_cases hc : MayC c
  · rw [cfg_yes c hc]
    have HC : Hid (MayC c) := hc
    obtain ⟨⟨a1, a2⟩, ⟨a3, a4⟩, -⟩ := hc
    obtain ⟨bl, hbl⟩ : ∃ x, x = c.bl := ⟨_, rfl⟩
    obtain ⟨lc, hlc⟩ : ∃ x, x = c.lc := ⟨_, rfl⟩
    have k1 : IntKind.i64.wrap (1 + bl) = 1 + bl := by rw [IntKind.wrap_i64]; omega
    have k2 : IntKind.i64.wrap (1 + bl + lc) = 1 + bl + lc := by rw [IntKind.wrap_i64]; omega
    have HE : Hid ((¬ (n : Int) = 1 + bl + lc → supOf c n (newest ws d) = (sup0, 40)) ∧ ((n : Int) = 1 + bl + lc → ∀ z, decS (newest ws d 0) = z → (¬ z.2 = 0 → supOf c n (newest ws d) = (sup0, z.2)) ∧ (z.2 = 0 → cfgB z.1 c = false → supOf c n (newest ws d) = (sup0, 3)) ∧ (z.2 = 0 → cfgB z.1 c = true → supOf c n (newest ws d) = (z.1, 0)))) := by
      rw [hbl, hlc]
      refine ⟨fun h => supOf_len _ HC.out h, fun h z hz => ?_⟩
      subst hz
      exact ⟨fun k => supOf_bad HC.out h k, fun k k2 => supOf_other HC.out h k fun e => (by rw [(cfgB_iff _ _).2 e] at k2; cases k2), fun k k2 => supOf_ok HC.out h k ((cfgB_iff _ _).1 k2)⟩
    have HC0 : Hid (∀ w', CAt w' w.heap.size c → w'.cell? ⟨w.heap.size, 0, none⟩ = some (.int .i64 bl) ∧ w'.cell? ⟨w.heap.size, 1, none⟩ = some (.int .i64 lc)) := by rw [hbl, hlc]; exact fun w' h => ⟨CAt.c0 h, CAt.c1 h⟩
    have hn4 : 1 + bl + lc ≤ 129 := by omega
    have hn0 : 0 < 1 + bl + lc := by omega
    clear hbl hlc a1 a2 a3 a4
    go_wp2_with fail
    refine wp_region_noPanic ?_
    refine wp_region_held_drew (S := fun w' => Below w1.heap.size w1 w') (by kernel_rfl) (below_drawn 1) (fun hHeld => ?_)
    have D1 : Hid (Below w1.heap.size w1 w1.drew) := hHeld
    generalize w1.drew = wd at *
    refine wpAnyH_take (i := 0) (v := ?va1) (by simp; rfl) (by kernel_rfl) (by kernel_rfl) (by kernel_rfl) (fun _ _ _ h => h) (Or.inl ⟨by rfl, ?ya1⟩) hHeld ?ra1
    case ya1 => intro w hSw; clear hSw; go_simp; with_reducible rfl
    simp only [Act.put, List.setIfInBounds_toArray, List.set_cons_zero, List.set_cons_succ]
    refine wpAnyH_take (i := 2) (v := ?va2) (by simp; rfl) (by kernel_rfl) (by kernel_rfl) (by kernel_rfl) (fun _ _ _ h => h) (Or.inl ⟨by rfl, ?ya2⟩) hHeld ?ra2
    case ya2 => intro w hSw; clear hSw; go_simp; with_reducible rfl
    simp only [Act.put, List.setIfInBounds_toArray, List.set_cons_zero, List.set_cons_succ]
    refine wpAnyH_take (i := 3) (v := ?va3) (by simp; rfl) (by kernel_rfl) (by kernel_rfl) (by kernel_rfl) (fun _ _ _ h => h) (Or.inl ⟨by rfl, ?ya3⟩) hHeld ?ra3
    case ya3 => intro w hSw; have z := (HC0.out _ (LAt.later C1.out hSw)).1; clear hSw; go_simp; with_reducible rfl
    simp only [Act.put, List.setIfInBounds_toArray, List.set_cons_zero, List.set_cons_succ]
    refine wpAnyH_take (i := 4) (v := ?va4) (by simp; rfl) (by kernel_rfl) (by kernel_rfl) (by kernel_rfl) (fun _ _ _ h => h) (Or.inl ⟨by rfl, ?ya4⟩) hHeld ?ra4
    case ya4 => intro w hSw; clear hSw; go_simp; with_reducible rfl
    simp only [Act.put, List.setIfInBounds_toArray, List.set_cons_zero, List.set_cons_succ]
    refine wpAnyH_take (i := 5) (v := ?va5) (by simp; rfl) (by kernel_rfl) (by kernel_rfl) (by kernel_rfl) (fun _ _ _ h => h) (Or.inl ⟨by rfl, ?ya5⟩) hHeld ?ra5
    case ya5 => intro w hSw; clear hSw; go_simp; with_reducible rfl
    simp only [Act.put, List.setIfInBounds_toArray, List.set_cons_zero, List.set_cons_succ]
    refine wpAnyH_take (i := 6) (v := ?va6) (by simp; rfl) (by kernel_rfl) (by kernel_rfl) (by kernel_rfl) (fun _ _ _ h => h) (Or.inl ⟨by rfl, ?ya6⟩) hHeld ?ra6
    case ya6 => intro w hSw; have z := (HC0.out _ (LAt.later C1.out hSw)).2; clear hSw; go_simp; with_reducible rfl
    simp only [Act.put, List.setIfInBounds_toArray, List.set_cons_zero, List.set_cons_succ]
    refine wpAnyH_take (i := 7) (v := ?va7) (by simp; rfl) (by kernel_rfl) (by kernel_rfl) (by kernel_rfl) (fun _ _ _ h => h) (Or.inl ⟨by rfl, ?ya7⟩) hHeld ?ra7
    case ya7 => intro w hSw; clear hSw; go_simp; with_reducible rfl
    simp only [Act.put, List.setIfInBounds_toArray, List.set_cons_zero, List.set_cons_succ]
    refine wpAnyH_ready (rs := [1]) (by kernel_rfl) (by simp) ?_
    refine AllReadyH.cons (by simp; rfl) (fun Kc hKc => ?_) AllReadyH.nil
    go_simp
    refine (len_any (HD.out.later (below_then B1.out D1.out))).mono ?_
    rintro e wn ⟨rfl, rfl⟩
    refine hKc.out _ _ D1.out (fun hHeld => ?_)
    clear hKc Kc
    refine wpAnyH_take (i := 8) (v := ?va8) (by simp; rfl) (by kernel_rfl) (by kernel_rfl) (by kernel_rfl) (fun _ _ _ h => h) (Or.inl ⟨by rfl, ?ya8⟩) hHeld ?ra8
    case ya8 => intro w hSw; clear hSw; go_simp; with_reducible rfl
    simp only [Act.put, List.setIfInBounds_toArray, List.set_cons_zero, List.set_cons_succ]
    have B2 : Hid (Below w.heap.size w wd) := below_then B1.out D1.out
    have C2 : Hid (CAt wd w.heap.size c) := LAt.later C1.out D1.out
    have V2 : Hid (SAt 117 wd (w.heap.size + 1) sup0) := LAt.later V1.out D1.out
    clear hHeld D1 HC0 B1 C1 V1
    refine wpAnyH_done (by kernel_rfl) (NoPanic.normal ?_) _
    obtain ⟨w2, hw2⟩ : ∃ y, y = wd := ⟨_, rfl⟩
    rw [← hw2] at B2 C2 V2 ⊢
    clear hw2
    by_cases he : (n : Int) = 1 + bl + lc
    · have hq : ((n : Int) != 1 + bl + lc) = false := by rw [he]; simp
      have HZ0 : Hid (_) := HE.out.2 he
      have hn : 0 < n := by omega
      clear he HE
      go_wp2_with fail
      refine (rd_at (HD.out.later B2.out) 0 (Int.le_refl 0) (by omega)).mono ?_
      rintro e w3 ⟨q2, c2, rfl, x2, hc2, b2⟩
      have X3 : Hid (BIn w3 q2 64 (newest ws d 0)) := x2
      have B3 : Hid (Below w.heap.size w w3) := below_then B2.out b2
      have C3 : Hid (CAt w3 w.heap.size c) := LAt.later C2.out b2
      have V3 : Hid (SAt 117 w3 (w.heap.size + 1) sup0) := LAt.later V2.out b2
      clear x2 b2 B2 C2 V2
      go_wp2_with fail
      refine (decode_any q2 64 c2 _ w3 X3.out hc2 (HT.out.later B3.out)).mono ?_
      rintro e w4 ⟨rfl, b4⟩
      have B4 : Hid (Below w.heap.size w w4) := below_then B3.out b4
      have C4 : Hid (CAt w4 w.heap.size c) := LAt.later C3.out b4
      have V4 : Hid (SAt 117 w4 (w.heap.size + 1) sup0) := LAt.later V3.out b4
      clear b4 X3 B3 C3 V3
      obtain ⟨⟨r, k⟩, hz⟩ : ∃ z, decS (newest ws d 0) = z := ⟨_, rfl⟩
      have HZ : Hid (_) := HZ0.out _ hz
      rw [hz]
      clear hz HZ0
      obtain ⟨w5, hw5⟩ : ∃ y, y = w4.alloc (.cells (scells r).toArray 117) := ⟨_, rfl⟩
      have A5 : Hid (_) := alloc29 w4
      have T45 : Hid (_) := store_new29 w4 r
      rw [← hw5] at T45
      have b5 : Below w4.heap.size w4 w5 := by rw [hw5]; exact below_alloc w4 _
      have B5 : Hid (Below w.heap.size w w5) := below_then B4.out b5
      have C5 : Hid (CAt w5 w.heap.size c) := LAt.later C4.out b5
      have V5 : Hid (SAt 117 w5 (w.heap.size + 1) sup0) := LAt.later V4.out b5
      have R5 : Hid (SAt 117 w5 w4.heap.size r) := by rw [hw5]; exact LAt.new 117 w4 _
      clear hw5 b5 B4 C4 V4
      have U5 : Hid (_) := build29 w5 #[] sup0 fill_none
      have T5 : Hid (_) := LAt.store (ds := scells sup0) V5.out size29 rfl (scells_all sup0)
      have F5 : Hid (SAt 117 (w5.setRow (w.heap.size + 1) (scells sup0).toArray) (w.heap.size + 1) sup0) := LAt.stored V5.out _
      have G5 : Hid (Below w.heap.size w (w5.setRow (w.heap.size + 1) (scells sup0).toArray)) := below_setRow B5.out (Nat.le_succ _) _
      by_cases hk : k = 0
      · subst hk
        have L5 : Hid (_) := SAt.load23 R5.out
        have M5 : Hid (_) := CAt.load23 C5.out
        have N5 : Hid (_) := neq23 w5 r c
        cases hb : cfgB r c with
        | true =>
          have HR : Hid (_) := HZ.out.2.2 rfl hb
          have Q5 : Hid (_) := SAt.load29 R5.out
          have T6 : Hid (_) := LAt.store (ds := scells r) V5.out size29 rfl (scells_all r)
          have F6 : Hid (SAt 117 (w5.setRow (w.heap.size + 1) (scells r).toArray) (w.heap.size + 1) r) := LAt.stored V5.out _
          have G6 : Hid (Below w.heap.size w (w5.setRow (w.heap.size + 1) (scells r).toArray)) := below_setRow B5.out (Nat.le_succ _) _
          rw [hb] at N5
          clear HZ T5 F5 G5 U5 hb
          go_wp2_with ((with_reducible refine at_ops ?_); (first | (refine wpList_alloc_is (by rfl) 117 rfl A5.out ?_) | (refine wpList_store_is (by rfl) 117 rfl rfl rfl T45.out ?_) | (refine wpList_load_is (by rfl) 39 rfl rfl L5.out ?_) | (refine wpList_load_is (by rfl) 39 rfl rfl M5.out ?_) | (refine wpList_neq_is (by rfl) 39 rfl rfl rfl eqg23 N5.out ?_) | (refine wpList_load_is (by rfl) 117 rfl rfl Q5.out ?_) | (refine wpList_store_is (by rfl) 117 rfl rfl rfl T6.out ?_)); simp only [Act.put, List.setIfInBounds_toArray, List.set_cons_zero, List.set_cons_succ])
          rw [HR.out]
          exact bodyPost_ret (results_sup Tryd.results49 _ _ (w.heap.size + 1) 117 r _ (by rfl) F6.out Tryd.underlying117 rfl size29) rfl ⟨rfl, G6.out⟩
        | false =>
          have HR : Hid (_) := HZ.out.2.1 rfl hb
          rw [hb] at N5
          clear HZ hb
          go_wp2_with ((with_reducible refine at_ops ?_); (first | (refine wpList_alloc_is (by rfl) 117 rfl A5.out ?_) | (refine wpList_store_is (by rfl) 117 rfl rfl rfl T45.out ?_) | (refine wpList_load_is (by rfl) 39 rfl rfl L5.out ?_) | (refine wpList_load_is (by rfl) 39 rfl rfl M5.out ?_) | (refine wpList_neq_is (by rfl) 39 rfl rfl rfl eqg23 N5.out ?_) | (refine wpList_build_is (vs := []) (by rfl) 117 rfl (by rfl) U5.out ?_) | (refine wpList_store_is (by rfl) 117 rfl rfl rfl T5.out ?_)); simp only [Act.put, List.setIfInBounds_toArray, List.set_cons_zero, List.set_cons_succ])
          rw [HR.out]
          exact bodyPost_ret (results_sup Tryd.results49 _ _ (w.heap.size + 1) 117 sup0 _ (by rfl) F5.out Tryd.underlying117 rfl size29) rfl ⟨rfl, G5.out⟩
      · have HR : Hid (_) := HZ.out.1 hk
        have hq : (k != 0) = true := by simp [hk]
        clear HZ
        go_wp2_with ((with_reducible refine at_ops ?_); (first | (refine wpList_alloc_is (by rfl) 117 rfl A5.out ?_) | (refine wpList_store_is (by rfl) 117 rfl rfl rfl T45.out ?_) | (refine wpList_build_is (vs := []) (by rfl) 117 rfl (by rfl) U5.out ?_) | (refine wpList_store_is (by rfl) 117 rfl rfl rfl T5.out ?_)); simp only [Act.put, List.setIfInBounds_toArray, List.set_cons_zero, List.set_cons_succ])
        rw [HR.out]
        exact bodyPost_ret (results_sup Tryd.results49 _ _ (w.heap.size + 1) 117 sup0 _ (by rfl) F5.out Tryd.underlying117 rfl size29) rfl ⟨rfl, G5.out⟩
    · have hq : ((n : Int) != 1 + bl + lc) = true := by simp [he]
      have HR : Hid (_) := HE.out.1 he
      clear he HE
      have U2 : Hid (_) := build29 w2 #[] sup0 fill_none
      have T2 : Hid (_) := LAt.store (ds := scells sup0) V2.out size29 rfl (scells_all sup0)
      have F2 : Hid (SAt 117 (w2.setRow (w.heap.size + 1) (scells sup0).toArray) (w.heap.size + 1) sup0) := LAt.stored V2.out _
      have G2 : Hid (Below w.heap.size w (w2.setRow (w.heap.size + 1) (scells sup0).toArray)) := below_setRow B2.out (Nat.le_succ _) _
      go_wp2_with ((with_reducible refine at_ops ?_); (first | (refine wpList_build_is (vs := []) (by rfl) 117 rfl (by rfl) U2.out ?_) | (refine wpList_store_is (by rfl) 117 rfl rfl rfl T2.out ?_)); simp only [Act.put, List.setIfInBounds_toArray, List.set_cons_zero, List.set_cons_succ])
      rw [HR.out]
      exact bodyPost_ret (results_sup Tryd.results49 _ _ (w.heap.size + 1) 117 sup0 _ (by rfl) F2.out Tryd.underlying117 rfl size29) rfl ⟨rfl, G2.out⟩
  · rw [cfg_no c hc]
    have HR : Hid (_) := supOf_no n (newest ws d) hc
    clear hc
    have U1 : Hid (_) := build29 w1 #[] sup0 fill_none
    have T1 : Hid (_) := LAt.store (ds := scells sup0) V1.out size29 rfl (scells_all sup0)
    have F1 : Hid (SAt 117 (w1.setRow (w.heap.size + 1) (scells sup0).toArray) (w.heap.size + 1) sup0) := LAt.stored V1.out _
    have G1 : Hid (Below w.heap.size w (w1.setRow (w.heap.size + 1) (scells sup0).toArray)) := below_setRow B1.out (Nat.le_succ _) _
    go_wp2_with ((with_reducible refine at_ops ?_); (first | (refine wpList_build_is (vs := []) (by rfl) 117 rfl (by rfl) U1.out ?_) | (refine wpList_store_is (by rfl) 117 rfl rfl rfl T1.out ?_)); simp only [Act.put, List.setIfInBounds_toArray, List.set_cons_zero, List.set_cons_succ])
    rw [HR.out]
    exact bodyPost_ret (results_sup Tryd.results49 _ _ (w.heap.size + 1) 117 sup0 _ (by rfl) F1.out Tryd.underlying117 rfl size29) rfl ⟨rfl, G1.out⟩
end Go.Proofs.YtefnkjajjidfaaaDoor
namespace Go.Proofs.YtefnkjajjidfaaaDoor
open Go.RowKit Go.Shelf


section
variable {F : Fence} {n : Nat} {P : Program} {ops : Array Oper} {rest : List Oper} {o : Oper} {a : Act} {w w' : World} {Q : Exit → Act → World → Prop}
theorem in_ops (h : wpListIn F n P ops Q (o :: rest) a w) : wpListIn F n P ops Q (o :: rest) a w := h
theorem in_val (hgd : Region.wanted o (yielded ops a.tmps) = true) (hab : o.about P w a.eval = none) (hop : ∀ c, o.op ≠ .defer c) {v : Value} (hrun : (execOp a.eval o).run P w = .ok (.value v) w') (h : wpListIn F n P ops Q rest (a.put o.dst v) w') : wpListIn F n P ops Q (o :: rest) a w :=
  wpListIn_step fun K hK => by
    rw [if_pos hgd]
    unfold Oper.wpIn
    refine ⟨fun f hf => (by rw [hab] at hf; cases hf), ?_⟩
    rw [Oper.semAt_plain F _ _ hop, hrun]
    exact hK _ _ h
theorem in_skp (hgd : Region.wanted o (yielded ops a.tmps) = true) (hab : o.about P w a.eval = none) (hop : ∀ c, o.op ≠ .defer c) (hrun : (execOp a.eval o).run P w = .ok .skip w') (h : wpListIn F n P ops Q rest (a.put o.dst undef) w') : wpListIn F n P ops Q (o :: rest) a w :=
  wpListIn_step fun K hK => by
    rw [if_pos hgd]
    unfold Oper.wpIn
    refine ⟨fun f hf => (by rw [hab] at hf; cases hf), ?_⟩
    rw [Oper.semAt_plain F _ _ hop, hrun]
    exact hK _ _ h
theorem in_load (hgd : Region.wanted o (yielded ops a.tmps) = true) (ty : TypeId) {x : Operand} (ho : o.op = .load ty x) {p v : Value} (hx : a.eval x = p) (hrun : (Instr.loadAt ty p).run P w = .ok v w) (h : wpListIn F n P ops Q rest (a.put o.dst v) w) : wpListIn F n P ops Q (o :: rest) a w :=
  in_val hgd (by simp [Oper.about, ho]) (by rw [ho]; intro c e; cases e) (by unfold execOp; simp only [ho, hx, Sem.run_bind, hrun, Result.andThen_ok, Sem.run_pure]) h
theorem in_alloc (hgd : Region.wanted o (yielded ops a.tmps) = true) (ty : TypeId) (ho : o.op = .alloc ty) {v : Value} (hrun : (Instr.alloc ty true (.tuple #[])).run P w = .ok v w') (h : wpListIn F n P ops Q rest (a.put o.dst v) w') : wpListIn F n P ops Q (o :: rest) a w :=
  in_val hgd (by simp [Oper.about, ho]) (by rw [ho]; intro c e; cases e) (by unfold execOp; simp only [ho, Sem.run_bind, hrun, Result.andThen_ok, Sem.run_pure]) h
theorem in_store (hgd : Region.wanted o (yielded ops a.tmps) = true) (ty : TypeId) {x y : Operand} (ho : o.op = .store ty x y) {p v : Value} (hx : a.eval x = p) (hy : a.eval y = v) (hrun : (Instr.storeAt ty p v).run P w = .ok () w') (h : wpListIn F n P ops Q rest (a.put o.dst undef) w') : wpListIn F n P ops Q (o :: rest) a w :=
  in_skp hgd (by simp [Oper.about, ho]) (by rw [ho]; intro c e; cases e) (by unfold execOp; simp only [ho, hx, hy, Sem.run_bind, hrun, Result.andThen_ok, Sem.run_pure]) h
theorem in_build (hgd : Region.wanted o (yielded ops a.tmps) = true) (ty : TypeId) {ps : Array (Nat × Operand)} (ho : o.op = .build ty ps) {vs : List (Nat × Value)} {v : Value} (hx : ps.toList.map (fun (i, x) => (i, a.eval x)) = vs) (hrun : (Instr.build ty vs.toArray).run P w = .ok v w) (h : wpListIn F n P ops Q rest (a.put o.dst v) w) : wpListIn F n P ops Q (o :: rest) a w :=
  in_val hgd (by simp [Oper.about, ho]) (by rw [ho]; intro c e; cases e) (by unfold execOp; simp only [ho]; rw [show ps.map (fun (i, x) => (i, a.eval x)) = vs.toArray by rw [← hx, ← Array.toList_map]]; simp only [Sem.run_bind, hrun, Result.andThen_ok, Sem.run_pure]) h
theorem in_slice (hgd : Region.wanted o (yielded ops a.tmps) = true) (ty : TypeId) {x : Operand} (ho : o.op = .buildSlice ty 1 #[(0, x)]) {u v : Value} (hx : a.eval x = u) (hrun : (Instr.buildSlice ty 1 #[(0, u)]).run P w = .ok v w') (h : wpListIn F n P ops Q rest (a.put o.dst v) w') : wpListIn F n P ops Q (o :: rest) a w :=
  in_val hgd (by simp [Oper.about, ho]) (by rw [ho]; intro c e; cases e) (by
    have e : (#[(0, x)] : Array (Nat × Operand)).map (fun (i, y) => (i, a.eval y)) = #[(0, u)] := by simp [hx]
    unfold execOp; simp only [ho]; rw [e]; simp only [Sem.run_bind, hrun, Result.andThen_ok, Sem.run_pure]) h
theorem in_append (hgd : Region.wanted o (yielded ops a.tmps) = true) {s x : Operand} {t ty : TypeId} (ho : o.op = .call { callee := .builtin .append, args := #[s, x], argTypes := #[t, t] }) (hty : o.type = ty) {u1 u2 v : Value} (hs : a.eval s = u1) (hx : a.eval x = u2) (hrun : (Builtin.append_ #[t, t] ty #[u1, u2]).run P w = .ok v w') (h : wpListIn F n P ops Q rest (a.put o.dst v) w') : wpListIn F n P ops Q (o :: rest) a w := by
  refine in_val hgd ?_ (by rw [ho]; intro c e; cases e) (v := v) (w' := w') ?_ h
  · simp [Oper.about, ho, resolve, Target.leads, Sem.run_pure]
  · subst hty; simp [execOp, ho, resolve, invoke, builtin, hs, hx, hrun, Result.andThen]
end

section
variable {F : Fence} {n : Nat} {P : Program} {b : Frame} {a : Act} {k : List Item} {cs : List Frame} {w : World} {Q : Exit → Act → World → Prop}
theorem stepR_scope {c : Code} : step P (lone (b.atR a (.code (.scope c) :: k)) cs w) = .next (lone (b.atR a (.code c :: .inScope c :: k)) cs w) :=
  step_lone_go (by simp [stepG, stepG.exec, Frame.atR])
theorem stepR_inScope {c : Code} : step P (lone (b.atR a (.inScope c :: k)) cs w) = .next (lone (b.atR a k) cs w) :=
  step_lone_go (by simp [stepG, stepG.exec, Frame.atR])
/-- a scope through which the run goes without a goto -/
theorem wpIn_scope {c : Code} (h : c.wpIn F n P (Exit.noGoto Q) a w) : (Code.scope c).wpIn F n P Q a w := by
  intro b k cs hro hb hr
  have h0 : (lone (b.atR a (.code (.scope c) :: k)) cs w).fenced P F := fenced_calm hb hr rfl
  obtain ⟨e, a₁, w₁, hq, harr⟩ := h b (.inScope c :: k) cs hro hb hr
  cases e with
  | normal => exact ⟨.normal, a₁, w₁, hq, .head h0 stepR_scope (StepsIn.trans harr (.one (fenced_calm hb hr rfl) stepR_inScope))⟩
  | exit id' =>
    have hx : exitTo id' (.inScope c :: k) = exitTo id' k := by simp [exitTo]
    exact ⟨.exit id', a₁, w₁, hq, fun k' hk => .head h0 stepR_scope (harr.1 k' (by rw [hx]; exact hk)),
      fun hr' hk => let ⟨k₁, h1, h2⟩ := harr.2 hr' (by rw [hx]; exact hk); ⟨k₁, h1, .head h0 stepR_scope h2⟩⟩
  | goto l => exact hq.elim
  | ret => exact ⟨_, a₁, w₁, hq, .of_steps (.one h0 stepR_scope) harr⟩
  | panic ch => exact ⟨_, a₁, w₁, hq, .of_steps (.one h0 stepR_scope) harr⟩
  | outgrown => exact ⟨_, a₁, w₁, hq, .of_steps (.one h0 stepR_scope) harr⟩
end
end Go.Proofs.YtefnkjajjidfaaaDoor
namespace Go.Proofs.YtefnkjajjidfaaaDoor
open Go.RowKit Go.Shelf


attribute [local go_sem] Oper.semAt_some

theorem keeps_of_below {V V' : World} (h : Below V.heap.size V V') (B : Nat) : KeepsFrom B V V' := ⟨h.size, fun k _ _ hk _ => (h.block k (Array.getElem?_eq_some_iff.1 hk).1).trans hk⟩
theorem results_lat {fn : Func} {p u : Tmp} {ty : TypeId} (h : fn.results = #[.cell p ty, .tmp u]) (tmps : Array Value) (w : World) (g : Nat) (t : TypeId) (cs : List Value) (d : TypeDesc)
    (hp : tmps.getD p undef = .pointer (some ⟨g, 0, none⟩)) (hg : LAt t w g cs) (hu : Tryd.prog.underlying ty = some d) (hd : d.isRow = true) (hi : (Tryd.prog.info? ty).map (·.size) = some cs.length) :
    (results fn tmps).run Tryd.prog w = .ok (.tuple #[.agg cs.toArray, tmps.getD u undef]) w := by
  rw [results_cell_tmp h, hp]
  simp only [asAddr, Sem.run_pure, Result.andThen_ok, run_loadVar_mid w g 0 ty _ d (LAt.range hg) hu hd hi]
/-- the rounds over positions that go on -/
def scGo (st : Int → R.Rec × Bool) (mr : Int) : List Int → Sc → Option Sc
  | [], s => some s
  | p :: ps, s => if (st p).2 = true then (scStep mr s p (st p).1).bind (scGo st mr ps) else none
theorem scGo_snoc (st : Int → R.Rec × Bool) (mr : Int) : ∀ (ps : List Int) (p : Int) (s : Sc), scGo st mr (ps ++ [p]) s = (scGo st mr ps s).bind fun s' => if (st p).2 = true then scStep mr s' p (st p).1 else none
  | [], p, s => by
    show (if (st p).2 = true then (scStep mr s p (st p).1).bind some else none) = (if (st p).2 = true then scStep mr s p (st p).1 else none)
    by_cases h : (st p).2 = true
    · rw [if_pos h, if_pos h]; cases scStep mr s p (st p).1 <;> rfl
    · rw [if_neg h, if_neg h]
  | q :: ps, p, s => by
    show (if (st q).2 = true then (scStep mr s q (st q).1).bind (scGo st mr (ps ++ [p])) else none) = (if (st q).2 = true then (scStep mr s q (st q).1).bind (scGo st mr ps) else none).bind _
    by_cases h : (st q).2 = true
    · rw [if_pos h, if_pos h]
      cases scStep mr s q (st q).1 with
      | none => rfl
      | some s' => exact scGo_snoc st mr ps p s'
    · rw [if_neg h, if_neg h]; rfl
theorem scGo_run {st : Int → R.Rec × Bool} {mr : Int} {t : Int} {s0 : Sc} : ∀ (j : Nat) (s : Sc) (k : Nat), j ≤ k → scGo st mr (G.upto t j) s0 = some s → scRun st mr k t s0 = scRun st mr (k - j) (t + j) s
  | 0, s, k, _, h => by
    obtain rfl : s0 = s := Option.some.inj h
    rw [Nat.sub_zero, show t + ((0 : Nat) : Int) = t by omega]
  | j + 1, s, k, hk, h => by
    rw [G.upto_succ, scGo_snoc] at h
    cases e : scGo st mr (G.upto t j) s0 with
    | none => rw [e] at h; cases h
    | some s1 =>
      rw [e] at h
      have h' : (if (st (t + j)).2 = true then scStep mr s1 (t + j) (st (t + j)).1 else none) = some s := h
      by_cases c : (st (t + j)).2 = true
      · rw [if_pos c] at h'
        rw [scGo_run j s1 k (by omega) e, show k - j = k - (j + 1) + 1 by omega, scRun_go c h', show t + (j : Int) + 1 = t + ((j + 1 : Nat) : Int) by omega]
      · rw [if_neg c] at h'; cases h'
structure GoOk (mr : Int) (n : Nat) (s : Sc) : Prop where
  tl : s.txs.length ≤ n
  cl : (s.come.length : Int) ≤ mr
  tw : TxsWf s.txs
  cw : ImsWf s.come
theorem GoOk.step {mr : Int} {n : Nat} {s s' : Sc} (h : GoOk mr n s) (hm : 0 ≤ mr) {p : Int} (hp : u64 p) {r : R.Rec} (hw : r.Wf) (e : scStep mr s p r = some s') : GoOk mr (n + 1) s' := by
  by_cases c1 : r.kind = 1 ∧ Folls s.come r.block mr
  · rw [scStep_img c1] at e
    cases e
    refine ⟨Nat.le_succ_of_le h.tl, ?_, h.tw, h.cw.snoc ⟨⟨hw.b0, hw.b1⟩, hw.len, hw.byte⟩⟩
    have := c1.2.1
    simp only [List.length_append, List.length_singleton]; omega
  · by_cases c2 : r.kind = 2 ∧ r.images = s.come.length
    · rw [scStep_com c2] at e
      cases e
      refine ⟨?_, hm, h.tw.snoc ⟨hp, h.cw⟩, ImsWf.nil⟩
      have := h.tl
      simp only [List.length_append, List.length_singleton]; omega
    · rw [scStep_no c1 c2] at e; cases e
/-- one round of Read's has gone on; none has -/
structure GoAt (st : Int → R.Rec × Bool) (mr t : Int) (pre : List G.U64) (s : Sc) : Prop where
  go : scGo st mr (G.nums pre) ⟨[], t, []⟩ = some s
  ok : GoOk mr pre.length s
theorem GoAt.start (st : Int → R.Rec × Bool) {mr : Int} (hm : 0 ≤ mr) (t : Int) : GoAt st mr t [] ⟨[], t, []⟩ := ⟨rfl, Nat.le_refl _, hm, TxsWf.nil, ImsWf.nil⟩
theorem GoAt.step {st : Int → R.Rec × Bool} {mr t : Int} {pre : List G.U64} {s s' : Sc} (h : GoAt st mr t pre s) (hm : 0 ≤ mr) {u : G.U64} (hw : (st u.1).1.Wf) (h1 : (st u.1).2 = true) (h2 : scStep mr s u.1 (st u.1).1 = some s') : GoAt st mr t (pre ++ [u]) s' := by
  refine ⟨?_, ?_⟩
  · rw [show G.nums (pre ++ [u]) = G.nums pre ++ [u.1] by simp, scGo_snoc, h.go]
    show (if _ then _ else _) = _
    rw [if_pos h1, h2]
  · rw [List.length_append, List.length_singleton]
    exact h.ok.step hm ⟨u.2.1, by have := u.2.2; omega⟩ hw h2
theorem GoAt.done {st : Int → R.Rec × Bool} {mr t : Int} {pre : List G.U64} {s : Sc} (h : GoAt st mr t pre s) {k : Nat} (hk : k ≤ 64) (hp : G.nums pre = G.spanI t (t + k)) : scRun st mr k t ⟨[], t, []⟩ = s := by
  have hN : G.spanN t (t + k) = k := by unfold G.spanN; omega
  have := h.go
  rw [hp, ← G.upto_span, hN] at this
  rw [scGo_run k s k (Nat.le_refl _) this, Nat.sub_self]; rfl
theorem GoAt.stop {st : Int → R.Rec × Bool} {mr t : Int} {pre : List G.U64} {s : Sc} (h : GoAt st mr t pre s) {k : Nat} (hk : k ≤ 64) {u : G.U64} (hp : G.nums (pre ++ [u]) <+: G.spanI t (t + k)) (hs : (st u.1).2 = false ∨ scStep mr s u.1 (st u.1).1 = none) : scRun st mr k t ⟨[], t, []⟩ = s := by
  have hN : G.spanN t (t + k) = k := by unfold G.spanN; omega
  have hl : pre.length < k := by
    have := hp.length_le
    rw [G.spanI_length, hN] at this
    simp at this
    omega
  have hu : u.1 = t + pre.length := by
    have h1 : (G.nums (pre ++ [u]))[pre.length]? = some u.1 := by simp
    obtain ⟨r, hr⟩ := hp
    have h2 := G.spanI_get t (t + k) pre.length (by omega)
    rw [← hr, List.getElem?_append_left (by simp), h1] at h2
    exact Option.some.inj h2
  have hpre : G.nums pre = G.upto t pre.length := by
    have hp' : G.nums pre <+: G.spanI t (t + k) := List.IsPrefix.trans ⟨[u.1], by simp⟩ hp
    have h3 := List.prefix_iff_eq_take.1 hp'
    have h4 := List.prefix_iff_eq_take.1 (G.upto_prefix t (t + k) pre.length (by omega))
    rw [h3, h4, G.upto_length]
    simp
  have := h.go
  rw [hpre] at this
  rw [scGo_run pre.length s k (by omega) this, ← hu]
  rcases hs with hs | hs
  · exact scRun_off hs
  · exact scRun_stop hs
set_option maxHeartbeats 1000000 in
set_option maxRecDepth 100000 in
theorem read_nil10 (c : Sup) (w : World) : Calls Tryd.prog 20 #[.pointer none, .agg (ccells c).toArray] w fun e w' => e = .returned (.tuple #[.agg (gcells 0 0 0 (.slice none 0 0)).toArray, .int .i64 1]) ∧ Below w.heap.size w w' := by
  obtain ⟨wa, hwa⟩ : ∃ y, y = w.alloc (.cells #[.pointer none] 45) := ⟨_, rfl⟩
  obtain ⟨wb, hwb⟩ : ∃ y, y = wa.alloc (.cells (ccells c).toArray 39) := ⟨_, rfl⟩
  obtain ⟨wc, hwc⟩ : ∃ y, y = wb.alloc (.cells (gcells 0 0 0 (.slice none 0 0)).toArray 66) := ⟨_, rfl⟩
  have ewa := hwa.symm
  have ewb := hwb.symm
  have sa : wa.heap.size = w.heap.size + 1 := by rw [hwa]; simp
  have sb : wb.heap.size = w.heap.size + 1 + 1 := by rw [hwb, ← sa]; simp
  have A1 : Hid (_) := allocLg wb
  rw [← hwc, sb] at A1
  have Ba : Below w.heap.size w wa := by rw [hwa]; exact below_alloc w _
  have Bb : Below w.heap.size w wb := by rw [hwb]; exact below_then Ba (below_alloc wa _)
  have B0 : Hid (Below w.heap.size w wc) := by rw [hwc]; exact below_then Bb (below_alloc wb _)
  have bbc : Below wb.heap.size wb wc := by rw [hwc]; exact below_alloc wb _
  have bab : Below wa.heap.size wa wb := by rw [hwb]; exact below_alloc wa _
  have K0 : Hid (Boxed wc w.heap.size 45 (.pointer none)) := by
    refine (bbc.block _ (by omega)).trans ((bab.block _ (by omega)).trans ?_)
    rw [hwa]; exact heap_alloc_new w _
  have C0 : Hid (CAt wc (w.heap.size + 1) c) := by
    refine LAt.later ?_ bbc
    rw [hwb, ← sa]; exact LAt.new 39 wa _
  have V0 : Hid (LAt 66 wc (w.heap.size + 1 + 1) (gcells 0 0 0 (.slice none 0 0))) := by rw [hwc, ← sb]; exact LAt.new 66 wb _
  have L0 : Hid (_) := CAt.load23 C0.out
  have z0 := K0.out.cell
  clear hwa hwb hwc Ba Bb bab bbc
  have hmo : Tryd.prog.follows Departure.mixedOrders = true := by kernel_rfl
  refine (callsIn_wide (n := 9)).1 ?_
  refine callsIn_of_wp Tryd.func20 rfl trivial ?_ rfl
  simp only [Tryd.ntmps20, List.size_toArray, List.length_cons, List.length_nil, Nat.reduceAdd, Nat.reduceSub, Array.replicate_succ, Array.replicate_zero, List.push_toArray, List.append_toArray, List.nil_append, List.cons_append]
  gi_wp2_with ((with_reducible refine in_ops ?_); (first | (refine in_alloc (by rfl) 66 rfl A1.out ?_) | (refine in_load (by rfl) 39 rfl rfl L0.out ?_)); simp only [Act.put, List.setIfInBounds_toArray, List.set_cons_zero, List.set_cons_succ])
  refine wpIn_scope ?_
  gi_wp2_with ((with_reducible refine in_ops ?_); (first | (refine in_alloc (by rfl) 66 rfl A1.out ?_) | (refine in_load (by rfl) 39 rfl rfl L0.out ?_)); simp only [Act.put, List.setIfInBounds_toArray, List.set_cons_zero, List.set_cons_succ])
  clear ewa ewb A1
  refine ⟨trivial, (callsIn_wide.2 (superOf_nil c wc)).mono ?_⟩
  rintro e w1 ⟨rfl, b1⟩
  obtain ⟨r, hr⟩ : ∃ r, r = sup0 := ⟨_, rfl⟩
  rw [← hr]
  clear hr
  have B1 : Hid (Below w.heap.size w w1) := below_then B0.out b1
  have V1 : Hid (LAt 66 w1 (w.heap.size + 1 + 1) (gcells 0 0 0 (.slice none 0 0))) := LAt.later V0.out b1
  obtain ⟨w2, hw2⟩ : ∃ y, y = w1.alloc (.cells (scells r).toArray 117) := ⟨_, rfl⟩
  have A2 : Hid (_) := alloc29 w1
  have T2 : Hid (_) := store_new29 w1 r
  rw [← hw2] at T2
  have b2 : Below w1.heap.size w1 w2 := by rw [hw2]; exact below_alloc w1 _
  have B2 : Hid (Below w.heap.size w w2) := below_then B1.out b2
  have V2 : Hid (LAt 66 w2 (w.heap.size + 1 + 1) (gcells 0 0 0 (.slice none 0 0))) := LAt.later V1.out b2
  have U3 : Hid (_) := buildL0 w2
  have T3 : Hid (_) := LAt.store (ds := gcells 0 0 0 (.slice none 0 0)) V2.out sizeLg rfl (all_oneCell_toArray (gcells_ones rfl 0 0 0))
  have F3 : Hid (LAt 66 (w2.setRow (w.heap.size + 1 + 1) (gcells 0 0 0 (.slice none 0 0)).toArray) (w.heap.size + 1 + 1) (gcells 0 0 0 (.slice none 0 0))) := LAt.stored V2.out _
  have G3 : Hid (Below w.heap.size w (w2.setRow (w.heap.size + 1 + 1) (gcells 0 0 0 (.slice none 0 0)).toArray)) := below_setRow B2.out (by omega) _
  clear b1 hw2 b2 B0 C0 V0 K0 L0 B1 V1 z0
  gi_wp2_with ((with_reducible refine in_ops ?_); (first | (refine in_alloc (by rfl) 117 rfl A2.out ?_) | (refine in_store (by rfl) 117 rfl rfl rfl T2.out ?_) | (refine in_build (vs := []) (by rfl) 66 rfl (by rfl) U3.out ?_) | (refine in_store (by rfl) 66 rfl rfl rfl T3.out ?_)); simp only [Act.put, List.setIfInBounds_toArray, List.set_cons_zero, List.set_cons_succ])
  rw [Exit.noGoto_ret]
  exact bodyPost_ret (results_lat Tryd.results20 _ _ (w.heap.size + 1 + 1) 66 _ _ (by rfl) F3.out Tryd.underlying66 rfl sizeLg) rfl ⟨rfl, G3.out⟩
set_option maxHeartbeats 1000000 in
set_option maxRecDepth 100000 in
theorem read_err10 {w : World} {S : Nat → Prop} {p n : Nat} {d : List Int} {ws : List Wr} (h : Dsk w S p n d ws) (ht : Tab w) (c : Sup) (hz : ¬ (supOf c n (newest ws d)).2 = 0) : Calls Tryd.prog 20 #[.pointer (some ⟨p, 0, none⟩), .agg (ccells c).toArray] w fun e w' => e = .returned (.tuple #[.agg (gcells 0 0 0 (.slice none 0 0)).toArray, .int .i64 (supOf c n (newest ws d)).2]) ∧ Below w.heap.size w w' := by
  obtain ⟨wa, hwa⟩ : ∃ y, y = w.alloc (.cells #[.pointer (some ⟨p, 0, none⟩)] 45) := ⟨_, rfl⟩
  obtain ⟨wb, hwb⟩ : ∃ y, y = wa.alloc (.cells (ccells c).toArray 39) := ⟨_, rfl⟩
  obtain ⟨wc, hwc⟩ : ∃ y, y = wb.alloc (.cells (gcells 0 0 0 (.slice none 0 0)).toArray 66) := ⟨_, rfl⟩
  have ewa := hwa.symm
  have ewb := hwb.symm
  have sa : wa.heap.size = w.heap.size + 1 := by rw [hwa]; simp
  have sb : wb.heap.size = w.heap.size + 1 + 1 := by rw [hwb, ← sa]; simp
  have A1 : Hid (_) := allocLg wb
  rw [← hwc, sb] at A1
  have Ba : Below w.heap.size w wa := by rw [hwa]; exact below_alloc w _
  have Bb : Below w.heap.size w wb := by rw [hwb]; exact below_then Ba (below_alloc wa _)
  have B0 : Hid (Below w.heap.size w wc) := by rw [hwc]; exact below_then Bb (below_alloc wb _)
  have bbc : Below wb.heap.size wb wc := by rw [hwc]; exact below_alloc wb _
  have bab : Below wa.heap.size wa wb := by rw [hwb]; exact below_alloc wa _
  have K0 : Hid (Boxed wc w.heap.size 45 (.pointer (some ⟨p, 0, none⟩))) := by
    refine (bbc.block _ (by omega)).trans ((bab.block _ (by omega)).trans ?_)
    rw [hwa]; exact heap_alloc_new w _
  have C0 : Hid (CAt wc (w.heap.size + 1) c) := by
    refine LAt.later ?_ bbc
    rw [hwb, ← sa]; exact LAt.new 39 wa _
  have V0 : Hid (LAt 66 wc (w.heap.size + 1 + 1) (gcells 0 0 0 (.slice none 0 0))) := by rw [hwc, ← sb]; exact LAt.new 66 wb _
  have L0 : Hid (_) := CAt.load23 C0.out
  have z0 := K0.out.cell
  clear hwa hwb hwc Ba Bb bab bbc
  have hmo : Tryd.prog.follows Departure.mixedOrders = true := by kernel_rfl
  refine (callsIn_wide (n := 9)).1 ?_
  refine callsIn_of_wp Tryd.func20 rfl trivial ?_ rfl
  simp only [Tryd.ntmps20, List.size_toArray, List.length_cons, List.length_nil, Nat.reduceAdd, Nat.reduceSub, Array.replicate_succ, Array.replicate_zero, List.push_toArray, List.append_toArray, List.nil_append, List.cons_append]
  gi_wp2_with ((with_reducible refine in_ops ?_); (first | (refine in_alloc (by rfl) 66 rfl A1.out ?_) | (refine in_load (by rfl) 39 rfl rfl L0.out ?_)); simp only [Act.put, List.setIfInBounds_toArray, List.set_cons_zero, List.set_cons_succ])
  refine wpIn_scope ?_
  gi_wp2_with ((with_reducible refine in_ops ?_); (first | (refine in_alloc (by rfl) 66 rfl A1.out ?_) | (refine in_load (by rfl) 39 rfl rfl L0.out ?_)); simp only [Act.put, List.setIfInBounds_toArray, List.set_cons_zero, List.set_cons_succ])
  clear ewa ewb A1
  refine ⟨trivial, (callsIn_wide.2 (superOf_any (h.later B0.out) (ht.later B0.out) c)).mono ?_⟩
  rintro e w1 ⟨rfl, b1⟩
  obtain ⟨r, hr⟩ : ∃ r, r = (supOf c n (newest ws d)).1 := ⟨_, rfl⟩
  obtain ⟨k, hk⟩ : ∃ k, k = (supOf c n (newest ws d)).2 := ⟨_, rfl⟩
  rw [← hr, ← hk]
  rw [← hk] at hz
  have HK : Hid (k = (supOf c n (newest ws d)).2) := hk
  have hq : (k != 0) = true := by simp [hz]
  clear hr hk h ht
  have B1 : Hid (Below w.heap.size w w1) := below_then B0.out b1
  have V1 : Hid (LAt 66 w1 (w.heap.size + 1 + 1) (gcells 0 0 0 (.slice none 0 0))) := LAt.later V0.out b1
  obtain ⟨w2, hw2⟩ : ∃ y, y = w1.alloc (.cells (scells r).toArray 117) := ⟨_, rfl⟩
  have A2 : Hid (_) := alloc29 w1
  have T2 : Hid (_) := store_new29 w1 r
  rw [← hw2] at T2
  have b2 : Below w1.heap.size w1 w2 := by rw [hw2]; exact below_alloc w1 _
  have B2 : Hid (Below w.heap.size w w2) := below_then B1.out b2
  have V2 : Hid (LAt 66 w2 (w.heap.size + 1 + 1) (gcells 0 0 0 (.slice none 0 0))) := LAt.later V1.out b2
  have U3 : Hid (_) := buildL0 w2
  have T3 : Hid (_) := LAt.store (ds := gcells 0 0 0 (.slice none 0 0)) V2.out sizeLg rfl (all_oneCell_toArray (gcells_ones rfl 0 0 0))
  have F3 : Hid (LAt 66 (w2.setRow (w.heap.size + 1 + 1) (gcells 0 0 0 (.slice none 0 0)).toArray) (w.heap.size + 1 + 1) (gcells 0 0 0 (.slice none 0 0))) := LAt.stored V2.out _
  have G3 : Hid (Below w.heap.size w (w2.setRow (w.heap.size + 1 + 1) (gcells 0 0 0 (.slice none 0 0)).toArray)) := below_setRow B2.out (by omega) _
  clear b1 hw2 b2 B0 C0 V0 K0 L0 B1 V1 z0
  gi_wp2_with ((with_reducible refine in_ops ?_); (first | (refine in_alloc (by rfl) 117 rfl A2.out ?_) | (refine in_store (by rfl) 117 rfl rfl rfl T2.out ?_) | (refine in_build (vs := []) (by rfl) 66 rfl (by rfl) U3.out ?_) | (refine in_store (by rfl) 66 rfl rfl rfl T3.out ?_)); simp only [Act.put, List.setIfInBounds_toArray, List.set_cons_zero, List.set_cons_succ])
  rw [Exit.noGoto_ret]
  exact bodyPost_ret (results_lat Tryd.results20 _ _ (w.heap.size + 1 + 1) 66 _ _ (by rfl) F3.out Tryd.underlying66 rfl sizeLg) rfl ⟨by rw [← HK.out]; rfl, G3.out⟩
end Go.Proofs.YtefnkjajjidfaaaDoor
namespace Go.Proofs.YtefnkjajjidfaaaDoor
open Go.RowKit Go.Shelf


attribute [local go_sem] Oper.semAt_some

theorem own_one {w : World} {B : Nat} {e : TypeId} {sz n : Nat} {v : Value} {xs : List Value} (h : w.ownsRow B e sz v n xs) : v.oneCell' = true := by
  rcases h.2 with ⟨rfl, _⟩ | ⟨g, cap, cur, rfl, _⟩ <;> rfl
theorem lat_not_row {w : World} {k B : Nat} {t e : TypeId} {sz n : Nat} {v : Value} {xs cs : List Value} (h : LAt t w k cs) (hte : t ≠ e) (hr : w.ownsRow B e sz v n xs) : v.ownBlock ≠ some k := fun e' => by
  rcases hr.2 with ⟨rfl, _⟩ | ⟨g, cap, cur, rfl, _, hg, _⟩
  · cases e'
  · simp only [Value.ownBlock, Option.some.injEq] at e'
    subst e'
    rw [show w.heap[g]? = _ from h] at hg
    cases hg
    exact hte rfl
theorem grownBy_setRow (w : World) (k : Nat) (cs : Array Value) : w.grownBy (w.setRow k cs) (some k) := ⟨rfl, rfl, rfl, by rw [size_setRow]; exact Nat.le_refl _, fun j _ hj => setRow_other w k j cs (fun e => hj (by rw [e]))⟩
theorem RdM.fin {w V : World} {Bd Bc Br Bl Bo Bt Be Bx : Nat} {dp : Option Addr} {c : Sup} {t l e : Int} {s : Sc} {v cv : Value} {vs : List Value} (h : RdM w V Bd Bc Br Bl Bo Bt Be dp c t l e s v vs cv Bx) {D : Nat} (hD : Br < D) (hD2 : w.heap.size ≤ D) (hK : V.heap[D]? = some (.deferred (some []))) (hr0 : w.heap.size ≤ Br) : (V.setRow Br (gcells t l s.fin v).toArray).heap[D]? = some (.deferred (some [])) ∧ LAt 66 ((V.setRow Br (gcells t l s.fin v).toArray).putObj D (.deferred none)) Br (gcells t l s.fin v) ∧ XOwn 33 ((V.setRow Br (gcells t l s.fin v).toArray).putObj D (.deferred none)) w.heap.size v s.txs vs ∧ Rise vs ((V.setRow Br (gcells t l s.fin v).toArray).putObj D (.deferred none)).heap.size ∧ Below w.heap.size w ((V.setRow Br (gcells t l s.fin v).toArray).putObj D (.deferred none)) := by
  have h1 : (V.setRow Br (gcells t l s.fin v).toArray).heap[D]? = some (.deferred (some [])) := (setRow_other V Br D _ (by omega)).trans hK
  have x1 : XOwn 33 (V.setRow Br (gcells t l s.fin v).toArray) w.heap.size v s.txs vs := h.tx.kept (grownBy_setRow V Br _) (.inr (lat_not_row h.rs (by decide) h.tx.row)) fun u hu => by
    obtain ⟨k, hk, rfl⟩ := List.getElem_of_mem hu
    have hk' : k < s.txs.length := by rw [← h.tx.len]; exact hk
    exact .inr (lat_not_row h.rs (by decide) (h.tx.each k s.txs[k] vs[k] (List.getElem?_eq_getElem hk') (List.getElem?_eq_getElem hk)))
  refine ⟨h1, ?_, ?_, ?_, ?_⟩
  · exact (World.putObj_heap_other (by omega)).trans (LAt.stored h.rs _)
  · refine x1.cells fun k o hk hc => ?_
    refine (World.putObj_heap_other ?_).trans hk
    rintro rfl
    rw [h1] at hk; cases hk; cases hc
  · refine h.up.mono ?_
    have := h.x1
    simp; omega
  · exact (below_setRow h.low hr0 _).trans ⟨rfl, rfl, rfl, by simp, fun k hk => World.putObj_heap_other (by omega)⟩
set_option maxHeartbeats 8000000 in
set_option maxRecDepth 100000 in
theorem read_ok10 {w : World} {S : Nat → Prop} {p n : Nat} {d : List Int} {ws : List Wr} (h : Dsk w S p n d ws) (ht : Tab w) (c : Sup) (hz : (supOf c n (newest ws d)).2 = 0) :
    Calls Tryd.prog 20 #[.pointer (some ⟨p, 0, none⟩), .agg (ccells c).toArray] w fun e w' => ∃ v vs, e = .returned (.tuple #[.agg (gcells (supOf c n (newest ws d)).1.tail (supOf c n (newest ws d)).1.life (scanS c (newest ws d) (supOf c n (newest ws d)).1).fin v).toArray, .int .i64 0]) ∧ XOwn 33 w' w.heap.size v (scanS c (newest ws d) (supOf c n (newest ws d)).1).txs vs ∧ Rise vs w'.heap.size ∧ Below w.heap.size w w' := by
  obtain ⟨wa, hwa⟩ : ∃ y, y = w.alloc (.cells #[.pointer (some ⟨p, 0, none⟩)] 45) := ⟨_, rfl⟩
  obtain ⟨wb, hwb⟩ : ∃ y, y = wa.alloc (.cells (ccells c).toArray 39) := ⟨_, rfl⟩
  obtain ⟨wc, hwc⟩ : ∃ y, y = wb.alloc (.cells (gcells 0 0 0 (.slice none 0 0)).toArray 66) := ⟨_, rfl⟩
  have ewa := hwa.symm
  have ewb := hwb.symm
  have sa : wa.heap.size = w.heap.size + 1 := by rw [hwa]; simp
  have sb : wb.heap.size = w.heap.size + 1 + 1 := by rw [hwb, ← sa]; simp
  have A1 : Hid (_) := allocLg wb
  rw [← hwc, sb] at A1
  have Ba : Below w.heap.size w wa := by rw [hwa]; exact below_alloc w _
  have Bb : Below w.heap.size w wb := by rw [hwb]; exact below_then Ba (below_alloc wa _)
  have B0 : Hid (Below w.heap.size w wc) := by rw [hwc]; exact below_then Bb (below_alloc wb _)
  have bbc : Below wb.heap.size wb wc := by rw [hwc]; exact below_alloc wb _
  have bab : Below wa.heap.size wa wb := by rw [hwb]; exact below_alloc wa _
  have K0 : Hid (Boxed wc w.heap.size 45 (.pointer (some ⟨p, 0, none⟩))) := by
    refine (bbc.block _ (by omega)).trans ((bab.block _ (by omega)).trans ?_)
    rw [hwa]; exact heap_alloc_new w _
  have C0 : Hid (CAt wc (w.heap.size + 1) c) := by
    refine LAt.later ?_ bbc
    rw [hwb, ← sa]; exact LAt.new 39 wa _
  have V0 : Hid (LAt 66 wc (w.heap.size + 1 + 1) (gcells 0 0 0 (.slice none 0 0))) := by rw [hwc, ← sb]; exact LAt.new 66 wb _
  have L0 : Hid (_) := CAt.load23 C0.out
  have z0 := K0.out.cell
  clear hwa hwb hwc Ba Bb bab bbc
  have hmo : Tryd.prog.follows Departure.mixedOrders = true := by kernel_rfl
  have HD : Hid (Dsk w S p n d ws) := h
  have HT : Hid (Tab w) := ht
  obtain ⟨m1, m2, m3, m4, m5⟩ := supOf_zero hz
  have HBy : Hid (∀ i, Bytes (newest ws d i)) := by
    obtain ⟨q, cap, v, hp⟩ := h
    exact fun i => newk_bytes hp.db hp.fit _
  have hT := ((decS_good _ m3).1).2.1
  have hw := decS_wf _ (HBy.out 0)
  obtain ⟨hT0, -⟩ := hw.tail
  have HL : Hid (0 ≤ (decS (newest ws d 0)).1.life) := hw.life.1
  obtain ⟨r, hr⟩ : ∃ r, r = (supOf c n (newest ws d)).1 := ⟨_, rfl⟩
  have er : r = (decS (newest ws d 0)).1 := by rw [hr, m5]
  rw [← er] at hT hT0 HL
  have HM : Hid (MayC c) := m1
  have HN : Hid ((n : Int) = 1 + c.bl + c.lc) := m2
  have hlc := m1.2.1
  have hmr := m1.2.2.1
  obtain ⟨t, ht'⟩ : ∃ t, t = r.tail := ⟨_, rfl⟩
  obtain ⟨lf, hlf⟩ : ∃ lf, lf = r.life := ⟨_, rfl⟩
  rw [← ht'] at hT hT0
  obtain ⟨K, hK⟩ : ∃ K : Nat, c.lc = (K : Int) := ⟨c.lc.toNat, by omega⟩
  have HRUN : Hid (scanS c (newest ws d) r = ⟨t, lf, (scRun (stS c (newest ws d)) c.mr K t ⟨[], t, []⟩).fin, (scRun (stS c (newest ws d)) c.mr K t ⟨[], t, []⟩).txs⟩) := by
    show _ = _
    unfold scanS
    rw [← ht', ← hlf, hK, Int.toNat_natCast]
  rw [← hr, ← ht', ← hlf]
  clear m1 m2 m3 m4 m5 hw er h ht
  refine (callsIn_wide (n := 9)).1 ?_
  refine callsIn_of_wp_marks Tryd.func20 rfl trivial ?_ rfl
  simp only [Tryd.ntmps20, List.size_toArray, List.length_cons, List.length_nil, Nat.reduceAdd, Nat.reduceSub, Array.replicate_succ, Array.replicate_zero, List.push_toArray, List.append_toArray, List.nil_append, List.cons_append]
  gi_wp2_with ((with_reducible refine in_ops ?_); (first | (refine in_alloc (by rfl) 66 rfl A1.out ?_) | (refine in_load (by rfl) 39 rfl rfl L0.out ?_)); simp only [Act.put, List.setIfInBounds_toArray, List.set_cons_zero, List.set_cons_succ])
  refine wpIn_scope ?_
  gi_wp2_with ((with_reducible refine in_ops ?_); (first | (refine in_alloc (by rfl) 66 rfl A1.out ?_) | (refine in_load (by rfl) 39 rfl rfl L0.out ?_)); simp only [Act.put, List.setIfInBounds_toArray, List.set_cons_zero, List.set_cons_succ])
  clear ewa ewb A1
  refine ⟨trivial, (callsIn_wide.2 (superOf_any (HD.out.later B0.out) (HT.out.later B0.out) c)).mono ?_⟩
  rintro e w1 ⟨rfl, b1⟩
  rw [hz, ← hr]
  clear hr hz
  have B1 : Hid (Below w.heap.size w w1) := below_then B0.out b1
  have K1 : Hid (Boxed w1 w.heap.size 45 (.pointer (some ⟨p, 0, none⟩))) := (b1.block _ K0.out.lt).trans K0.out
  have C1 : Hid (CAt w1 (w.heap.size + 1) c) := LAt.later C0.out b1
  have V1 : Hid (LAt 66 w1 (w.heap.size + 1 + 1) (gcells 0 0 0 (.slice none 0 0))) := LAt.later V0.out b1
  have s1 : w.heap.size + 3 ≤ w1.heap.size := by have := LAt.lt V1.out; omega
  clear b1 B0 C0 V0 K0 L0 z0
  obtain ⟨w2, hw2⟩ : ∃ y, y = w1.alloc (.cells (scells r).toArray 117) := ⟨_, rfl⟩
  have A2 : Hid (_) := alloc29 w1
  have T2 : Hid (_) := store_new29 w1 r
  rw [← hw2] at T2
  have s2 : w2.heap.size = w1.heap.size + 1 := by rw [hw2]; simp
  have b2 : Below w1.heap.size w1 w2 := by rw [hw2]; exact below_alloc w1 _
  have Q2 : SAt 117 w2 w1.heap.size r := by rw [hw2]; exact LAt.new 117 w1 _
  obtain ⟨w3, hw3⟩ : ∃ y, y = w2.alloc (.cells (gcells t lf t (.slice none 0 0)).toArray 66) := ⟨_, rfl⟩
  have U3 : Hid (_) := buildL3 w2 t lf t
  have A3 : Hid (_) := allocLg w2
  have T3 : Hid (_) := storeLg w2 t lf t (v := .slice none 0 0) rfl
  rw [← hw3, s2] at T3
  rw [s2] at A3
  have s3 : w3.heap.size = w1.heap.size + 1 + 1 := by rw [hw3, ← s2]; simp
  have b3 : Below w2.heap.size w2 w3 := by rw [hw3]; exact below_alloc w2 _
  have G3 : LAt 66 w3 (w1.heap.size + 1) (gcells t lf t (.slice none 0 0)) := by rw [hw3, ← s2]; exact LAt.new 66 w2 _
  obtain ⟨w4, hw4⟩ : ∃ y, y = w3.alloc (.cells #[.slice none 0 0] 26) := ⟨_, rfl⟩
  have ew4 := hw4.symm
  have s4 : w4.heap.size = w1.heap.size + 1 + 1 + 1 := by rw [hw4, ← s3]; simp
  have b4 : Below w3.heap.size w3 w4 := by rw [hw4]; exact below_alloc w3 _
  have O4 : Boxed w4 (w1.heap.size + 1 + 1) 26 (.slice none 0 0) := by rw [hw4, ← s3]; exact Boxed.new w3 26 _
  have b14 : Below w1.heap.size w1 w4 := below_then (below_then b2 b3) b4
  have Q4 : SAt 117 w4 w1.heap.size r := LAt.later (LAt.later Q2 b3) b4
  have C4 : CAt w4 (w.heap.size + 1) c := LAt.later C1.out b14
  have q5 := SAt.c5 Q2
  have q6 := SAt.c6 Q2
  have q5' := SAt.c5 Q4
  have c1' := CAt.c1 C4
  rw [← ht'] at q5 q5'
  rw [← hlf] at q6
  rw [hK] at c1'
  have k1 : IntKind.u64.wrap (K : Int) = (K : Int) := G.wrap_u (by omega) (by omega)
  have k2 : IntKind.u64.wrap (t + (K : Int)) = t + (K : Int) := G.wrap_u (by omega) (by omega)
  have I4 : Hid (∀ W, Below w4.heap.size w4 W → Boxed W (w1.heap.size + 1 + 1 + 1) 25 (.int .u64 t) → Boxed W (w1.heap.size + 1 + 1 + 1 + 1) 25 (.int .u64 (t + (K : Int))) → RdM w W w.heap.size (w.heap.size + 1) (w.heap.size + 1 + 1) (w1.heap.size + 1) (w1.heap.size + 1 + 1) (w1.heap.size + 1 + 1 + 1) (w1.heap.size + 1 + 1 + 1 + 1) (some ⟨p, 0, none⟩) c t lf (t + (K : Int)) ⟨[], t, []⟩ (.slice none 0 0) [] (.slice none 0 0) w.heap.size) := by
    intro W hb hbt hbe
    have b1W := below_then b14 hb
    refine ⟨(b1W.block _ K1.out.lt).trans K1.out, LAt.later C1.out b1W, LAt.later V1.out b1W, hbt, hbe, LAt.later (LAt.later G3 b4) hb, (hb.block _ O4.lt).trans O4, XOwn.nil _ _ _, World.ownsRow_nil _ _ _ _, Rise.nil _, Nat.le_refl _, ?_, below_then B1.out b1W, by omega, by omega, by omega⟩
    have := hb.size; omega
  clear ht' hlf
  clear hw2 hw3 hw4 b2 b3 b4 b14 Q2 Q4 C4 G3 O4 C1 V1 K1
  gi_wp2_with ((with_reducible refine in_ops ?_); (first | (refine in_alloc (by rfl) 117 rfl A2.out ?_) | (refine in_store (by rfl) 117 rfl rfl rfl T2.out ?_) | (refine in_build (vs := [(0, .int .u64 t), (1, .int .u64 lf), (2, .int .u64 t)]) (by rfl) 66 rfl (by rfl) U3.out ?_) | (refine in_alloc (by rfl) 66 rfl A3.out ?_) | (refine in_store (by rfl) 66 rfl rfl rfl T3.out ?_)); simp only [Act.put, List.setIfInBounds_toArray, List.set_cons_zero, List.set_cons_succ])
  refine wpIn_label ?_
  gi_wp2_with (refine ⟨trivial, ?_⟩; gi_at_call 50; refine (callsIn_wide.2 (G.span_any _ _ _)).mono ?_; rintro e' w' ⟨rfl, rfl⟩)
  clear q5 q6 q5' c1' A2 T2 U3 A3 T3 ew4
  have bT : Hid (Boxed ((w4.alloc (.cells #[.int .u64 t] 25)).alloc (.cells #[.int .u64 (t + (K : Int))] 25)) (w1.heap.size + 1 + 1 + 1) 25 (.int .u64 t)) := by
    rw [← s4]; exact (Boxed.new w4 25 (.int .u64 t)).alloc _
  have bE : Hid (Boxed ((w4.alloc (.cells #[.int .u64 t] 25)).alloc (.cells #[.int .u64 (t + (K : Int))] 25)) (w1.heap.size + 1 + 1 + 1 + 1) 25 (.int .u64 (t + (K : Int)))) := by
    have := Boxed.new (w4.alloc (.cells #[.int .u64 t] 25)) 25 (.int .u64 (t + (K : Int)))
    rwa [World.size_alloc, s4] at this
  have b5 : Below w4.heap.size w4 ((w4.alloc (.cells #[.int .u64 t] 25)).alloc (.cells #[.int .u64 (t + (K : Int))] 25)) := below_then (below_alloc w4 _) (below_alloc _ _)
  have I5 : Hid (_) := I4.out _ b5 bT.out bE.out
  have s5 : ((w4.alloc (.cells #[.int .u64 t] 25)).alloc (.cells #[.int .u64 (t + (K : Int))] 25)).heap.size = w1.heap.size + 5 := by simp; omega
  clear I4 b5
  generalize (w4.alloc (.cells #[.int .u64 t] 25)).alloc (.cells #[.int .u64 (t + (K : Int))] 25) = W0 at *
  refine wpIn_rangeFunc_ownG (F := Fence.wide) (n := 9) (P := Tryd.prog) rfl (by decide) (gf := 72) (lb := #[.pointer (some ⟨w1.heap.size + 1 + 1 + 1, 0, none⟩), .pointer (some ⟨w1.heap.size + 1 + 1 + 1 + 1, 0, none⟩)]) rfl trivial (enters_of Tryd.func72 (by kernel_rfl) rfl)
    (G.span_stops Fence.wide (9 - 1) trivial rfl (by decide) (w1.heap.size + 1 + 1 + 1) (w1.heap.size + 1 + 1 + 1 + 1) t (t + (K : Int)) hT0 (by omega) (by omega) (by omega) W0 bT.out bE.out) G.Kept2.trans (G.Kept2.keeps (by omega) (by omega)) (Below.refl _ _) (fun _ => rfl)
    (fun pre W => ∃ s, GoAt (stS c (newest ws d)) c.mr t pre s ∧ ∃ v vs cv Bx, RdM w W w.heap.size (w.heap.size + 1) (w.heap.size + 1 + 1) (w1.heap.size + 1) (w1.heap.size + 1 + 1) (w1.heap.size + 1 + 1 + 1) (w1.heap.size + 1 + 1 + 1 + 1) (some ⟨p, 0, none⟩) c t lf (t + (K : Int)) s v vs cv Bx)
    (fun co pre' W => co = .exit 0 ∧ ∃ (pre : List G.U64) (u : G.U64) (s : Sc), pre' = pre ++ [u] ∧ GoAt (stS c (newest ws d)) c.mr t pre s ∧ ((stS c (newest ws d) u.1).2 = false ∨ scStep c.mr s u.1 (stS c (newest ws d) u.1).1 = none) ∧ ∃ v vs cv Bx, RdM w W w.heap.size (w.heap.size + 1) (w.heap.size + 1 + 1) (w1.heap.size + 1) (w1.heap.size + 1 + 1) (w1.heap.size + 1 + 1 + 1) (w1.heap.size + 1 + 1 + 1 + 1) (some ⟨p, 0, none⟩) c t lf (t + (K : Int)) s v vs cv Bx)
    ?hI ?hIx ⟨_, GoAt.start _ (by omega) t, _, _, _, _, I5.out⟩
    (fun x => { tmps := #[.pointer (some ⟨p, 0, none⟩), .agg (ccells c).toArray, .pointer (some ⟨w.heap.size, 0, none⟩), .pointer (some ⟨w.heap.size + 1, 0, none⟩), .pointer (some ⟨w.heap.size + 1 + 1, 0, none⟩), .int .i64 0, .pointer (some ⟨w1.heap.size, 0, none⟩), .int .i64 0, .pointer (some ⟨w1.heap.size + 1, 0, none⟩), .pointer (some ⟨w1.heap.size + 1 + 1, 0, none⟩), .int .u64 x.1, undef, undef, .tuple #[.agg (scells r).toArray, .int .i64 0], .pointer (some ⟨p, 0, none⟩), .agg (ccells c).toArray, .tuple #[.agg (scells r).toArray, .int .i64 0], .agg (scells r).toArray, .int .i64 0, .int .i64 0, .bool false, undef, undef, .pointer (some ⟨w1.heap.size, 5, none⟩), .int .u64 t, .pointer (some ⟨w1.heap.size, 6, none⟩), .int .u64 lf, .pointer (some ⟨w1.heap.size, 5, none⟩), .int .u64 t, .agg (gcells t lf t (.slice none 0 0)).toArray, .pointer (some ⟨w1.heap.size, 5, none⟩), .int .u64 t, .pointer (some ⟨w1.heap.size, 5, none⟩), .int .u64 t, .pointer (some ⟨w.heap.size + 1, 1, none⟩), .int .i64 (K : Int), .int .u64 (K : Int), .int .u64 (t + (K : Int)), .func (.func 72) #[] #[.pointer (some ⟨w1.heap.size + 1 + 1 + 1, 0, none⟩), .pointer (some ⟨w1.heap.size + 1 + 1 + 1 + 1, 0, none⟩)], .int .u64 x.1, undef, undef, undef, undef, undef, undef, undef, undef, undef, undef, undef, undef, undef, undef, undef, undef, undef, undef, undef, undef, undef, undef, undef, undef, undef, undef, undef, undef, undef, undef, undef, undef, undef, undef, undef, undef, undef, undef, undef, undef, undef, undef, undef, undef, undef, undef, undef, undef, undef, undef, undef, undef, undef], defers := [] }) ?assign ?body ?done ?stop
  case hI =>
    rintro pre V V' row ⟨s, hg, v, vs, cv, Bx, hm⟩ hgr hr
    exact ⟨s, hg, v, vs, cv, Bx, RdM.own (β := Unit) (by omega) () V V' row hm hgr hr⟩
  case hIx =>
    rintro co pre' V V' row ⟨hco, pre, u, s, h1, h2, h3, v, vs, cv, Bx, hm⟩ hgr hr
    exact ⟨hco, pre, u, s, h1, h2, h3, v, vs, cv, Bx, RdM.own (β := Unit) (by omega) () V V' row hm hgr hr⟩
  case assign =>
    intro l1 x V Kc hKc
    gi_wp2
    exact hKc
  case body =>
    rintro l1 pre u V ⟨s, hgo, v, vs, cv, Bx, hm⟩ hlt
    have hpl : pre.length ≤ 64 := by have := G.spanN_le t (t + (K : Int)); omega
    have HG : Hid (GoAt (stS c (newest ws d)) c.mr t pre s) := hgo
    have M0 : Hid (RdM w V w.heap.size (w.heap.size + 1) (w.heap.size + 1 + 1) (w1.heap.size + 1) (w1.heap.size + 1 + 1) (w1.heap.size + 1 + 1 + 1) (w1.heap.size + 1 + 1 + 1 + 1) (some ⟨p, 0, none⟩) c t lf (t + (K : Int)) s v vs cv Bx) := hm
    obtain ⟨q, cap, hcv, -, -, -⟩ := IOwn.in hm.im hgo.ok.cw
    have HCV : Hid (cv = .slice q s.come.length cap) := hcv
    have hcl : s.come.length ≤ 16 := by have := hgo.ok.cl; omega
    have htl : s.txs.length ≤ 64 := by have := hgo.ok.tl; omega
    have kd := hm.dk.cell
    have L4 : Hid (_) := CAt.load23 hm.cf
    have hu0 := u.2.1
    clear hm hgo hcv
    gi_wp2_with ((with_reducible refine in_ops ?_); (refine in_load (by rfl) 39 rfl rfl L4.out ?_); simp only [Act.put, List.setIfInBounds_toArray, List.set_cons_zero, List.set_cons_succ])
    refine ⟨trivial, (CallsIn.inRound l1 (callsIn_wide.2 (recordAt_any (HD.out.later M0.out.low) (HT.out.later M0.out.low) c HM.out HN.out u.1 hu0))).mono ?_⟩
    rintro e V1 ⟨rfl, b1⟩
    have HWf : Hid ((stS c (newest ws d) u.1).1.Wf) := stS_wf HBy.out
    have HGood : Hid ((stS c (newest ws d) u.1).2 = true → R.may (stS c (newest ws d) u.1).1 = true ∧ (stS c (newest ws d) u.1).1.pos = u.1) := fun h => ⟨(stS_good h).1, (stS_good h).2.1⟩
    have HNx : Hid (∀ z, stS c (newest ws d) u.1 = z → (z.2 = false ∨ scStep c.mr s u.1 z.1 = none) → (stS c (newest ws d) u.1).2 = false ∨ scStep c.mr s u.1 (stS c (newest ws d) u.1).1 = none) := by rintro z rfl h; exact h
    have HGo : Hid (∀ z s', stS c (newest ws d) u.1 = z → z.2 = true → scStep c.mr s u.1 z.1 = some s' → GoAt (stS c (newest ws d)) c.mr t (pre ++ [u]) s') := by
      rintro z s' rfl h1 h2
      exact HG.out.step (by omega) HWf.out h1 h2
    obtain ⟨⟨rr, bb⟩, hst⟩ : ∃ z, stS c (newest ws d) u.1 = z := ⟨_, rfl⟩
    have HNx' : Hid ((bb = false ∨ scStep c.mr s u.1 rr = none) → (stS c (newest ws d) u.1).2 = false ∨ scStep c.mr s u.1 (stS c (newest ws d) u.1).1 = none) := HNx.out _ hst
    have HGo' : Hid (∀ s', scStep c.mr s u.1 rr = some s' → bb = true → GoAt (stS c (newest ws d)) c.mr t (pre ++ [u]) s') := fun s' h2 h1 => HGo.out _ s' hst h1 h2
    rw [hst] at HWf HGood ⊢
    clear hst HNx HGo
    obtain ⟨V2, hV2⟩ : ∃ y, y = V1.alloc (.cells (R.rcells rr).toArray 60) := ⟨_, rfl⟩
    have A5 : Hid (_) := R.alloc31 V1
    have T5 : Hid (_) := R.store_new R.size31 V1 rr HWf.out.len
    rw [← hV2] at T5
    have b2 : Below V1.heap.size V1 V2 := by rw [hV2]; exact below_alloc V1 _
    have B2 : Hid (Below V.heap.size V V2) := below_then b1 b2
    have R2 : Hid (R.RAt 60 V2 V1.heap.size rr) := by rw [hV2]; exact R.RAt.new 60 V1 rr
    have M2 : Hid (RdM w V2 w.heap.size (w.heap.size + 1) (w.heap.size + 1 + 1) (w1.heap.size + 1) (w1.heap.size + 1 + 1) (w1.heap.size + 1 + 1 + 1) (w1.heap.size + 1 + 1 + 1 + 1) (some ⟨p, 0, none⟩) c t lf (t + (K : Int)) s v vs cv Bx) := M0.out.later B2.out
    have HK2 : Hid (KeepsFrom W0.heap.size V V2) := keeps_of_below B2.out _
    clear hV2 b1 b2 kd L4
    cases bb with
    | false =>
      have HX : Hid (_) := HNx'.out (.inl (by first | rfl | trivial))
      gi_wp2_with ((with_reducible refine in_ops ?_); (first | (refine in_alloc (by rfl) 60 rfl A5.out ?_) | (refine in_store (by rfl) 60 rfl rfl rfl T5.out ?_)); simp only [Act.put, List.setIfInBounds_toArray, List.set_cons_zero, List.set_cons_succ])
      exact ⟨HK2.out, rfl, pre, u, s, rfl, HG.out, HX.out, v, vs, cv, Bx, M2.out⟩
    | true =>
      have r0 := R.RAt.c0 R2.out
      by_cases hk1 : rr.kind = 1
      · have kc := M2.out.co.cell
        have r2 := R.RAt.c2 R2.out
        have c2 := CAt.c2 M2.out.cf
        rw [HCV.out] at kc
        have hk1' : (rr.kind == 1) = true := by simp [hk1]
        gi_wp2_with ((with_reducible refine in_ops ?_); (first | (refine in_alloc (by rfl) 60 rfl A5.out ?_) | (refine in_store (by rfl) 60 rfl rfl rfl T5.out ?_)); simp only [Act.put, List.setIfInBounds_toArray, List.set_cons_zero, List.set_cons_succ])
        have MI : MIn V2 q s.come.length s.come := by
          have h1 := M2.out.im
          rw [HCV.out] at h1
          obtain ⟨q', cap', e', mi, -, -⟩ := IOwn.in h1 HG.out.ok.cw
          cases e'
          exact mi
        refine ⟨trivial, (CallsIn.inRound l1 (callsIn_wide.2 (follows_any q s.come.length cap s.come rr.block c.mr V2 MI (by omega)))).mono ?_⟩
        rintro e V3 ⟨rfl, rfl⟩
        by_cases hf : Folls s.come rr.block c.mr
        · rw [decide_eq_true hf]
          have HS : Hid (_) := HGo'.out _ (scStep_img ⟨hk1, hf⟩) (by first | rfl | trivial)
          have LV : Hid (_) := R.RAt.load24 R2.out HWf.out.len
          have UI : Hid (_) := buildI V2 rr.block rr.val HWf.out.len
          have SI : Hid (_) := build_im V2 ⟨rr.block, rr.val⟩ HWf.out.len
          obtain ⟨v', V4, hrun, hco4, m4, k4⟩ := M2.out.img ⟨rr.block, rr.val⟩ ⟨⟨HWf.out.b0, HWf.out.b1⟩, HWf.out.len, HWf.out.byte⟩ (by omega)
          rw [HCV.out] at hrun hco4
          obtain ⟨g', cap', rfl⟩ : ∃ g' cap', v' = .slice (some ⟨g', 0, none⟩) (s.come.length + 1) cap' := ownsRow_succ (by have := m4.im; rw [IOwn, List.length_append, List.length_singleton] at this; exact this)
          have AP : Hid (_) := hrun
          have z := hco4.cell
          have zf := hco4.frozen
          have M4 : Hid (_) := m4
          have K4 : Hid (_) := HK2.out.trans (k4.from _)
          clear hrun hco4 m4 k4 MI hf
          gi_wp2_with ((with_reducible refine in_ops ?_); (first | (refine in_load (by rfl) 30 rfl rfl LV.out ?_) | (refine in_build (vs := [(0, .int .i64 rr.block), (1, .agg (U8 rr.val).toArray)]) (by rfl) 32 rfl (by rfl) UI.out ?_) | (refine in_slice (u := .agg (icells ⟨rr.block, rr.val⟩).toArray) (by rfl) 26 rfl rfl SI.out ?_) | (refine in_append (u1 := .slice q s.come.length cap) (u2 := .slice (some ⟨V2.heap.size, 0, none⟩) 1 1) (by rfl) rfl rfl rfl rfl AP.out ?_)); simp only [Act.put, List.setIfInBounds_toArray, List.set_cons_zero, List.set_cons_succ])
          refine ⟨K4.out, ⟨?_, ?_⟩, _, HS.out, v, vs, _, Bx, M4.out⟩
          · exact Eq.trans M4.out.bt (Eq.symm M0.out.bt)
          · exact Eq.trans M4.out.be (Eq.symm M0.out.be)
        · rw [decide_eq_false hf]
          have hk2' : (rr.kind == 2) = false := by simp [hk1]
          have HX : Hid (_) := HNx'.out (.inr (scStep_no (fun h => hf h.2) (fun h => by have := h.1; omega)))
          clear MI hf
          gi_wp2
          exact ⟨HK2.out, rfl, pre, u, s, rfl, HG.out, HX.out, v, vs, cv, Bx, M2.out⟩
      · have hk1' : (rr.kind == 1) = false := by simp [hk1]
        by_cases hk2 : rr.kind = 2
        · have hk2' : (rr.kind == 2) = true := by simp [hk2]
          have kc := M2.out.co.cell
          have r35 := R.RAt.c35 R2.out HWf.out.len
          rw [HCV.out] at kc
          by_cases hi : rr.images = (s.come.length : Int)
          · have hi' : (rr.images == (s.come.length : Int)) = true := by simp [hi]
            have HS : Hid (_) := HGo'.out _ (scStep_com ⟨hk2, hi⟩) (by first | rfl | trivial)
            have hpos : u.1 ≤ 4611686018427387904 := by
              have := HGood.out (by first | rfl | trivial)
              rw [← this.2]; exact R.may_pos this.1
            have g3 : V2.cell? ⟨w1.heap.size + 1, 3, none⟩ = some v := LAt.cell M2.out.lg 3
            obtain ⟨q3, cap3, hv3, -, -, -⟩ := XOwn.in M2.out.tx
            have UT : Hid (_) := buildT V2 u.1 q s.come.length cap
            have SL : Hid (_) := build_tx V2 u.1 q s.come.length cap
            obtain ⟨v', V4, hrun, hlg4, hco4, m4, k4⟩ := M2.out.com u.1 ⟨hu0, by omega⟩ htl HG.out.ok.cw q s.come.length cap HCV.out
            rw [HCV.out] at hrun
            rw [hv3] at hrun g3
            obtain ⟨g', cap', rfl⟩ : ∃ g' cap', v' = .slice (some ⟨g', 0, none⟩) (s.txs.length + 1) cap' := ownsRow_succ (by have := m4.tx.row; rw [List.length_append, List.length_singleton] at this; exact this)
            have AP : Hid (_) := hrun
            have z3 : V4.cell? ⟨w1.heap.size + 1, 3, none⟩ = some (.slice q3 s.txs.length cap3) := by rw [← hv3]; exact LAt.cell hlg4 3
            have zf3 := LAt.free hlg4 3
            have hlg5 := LAt.set hlg4 3 (.slice (some ⟨g', 0, none⟩) (s.txs.length + 1) cap')
            have z2 : (V4.setCell ⟨w1.heap.size + 1, 3, none⟩ (.slice (some ⟨g', 0, none⟩) (s.txs.length + 1) cap')).cell? ⟨w1.heap.size + 1, 2, none⟩ = some (.int .u64 s.fin) := LAt.cell hlg5 2
            have zf2 := LAt.free hlg5 2
            have hco6 : LAt 26 ((V4.setCell ⟨w1.heap.size + 1, 3, none⟩ (.slice (some ⟨g', 0, none⟩) (s.txs.length + 1) cap')).setCell ⟨w1.heap.size + 1, 2, none⟩ (.int .u64 (u.1 + 1))) (w1.heap.size + 1 + 1) [cv] := LAt.setO (LAt.setO (show LAt 26 V4 (w1.heap.size + 1 + 1) [cv] from hco4) 3 (.slice (some ⟨g', 0, none⟩) (s.txs.length + 1) cap') (by omega)) 2 _ (by omega)
            have z0 : ((V4.setCell ⟨w1.heap.size + 1, 3, none⟩ (.slice (some ⟨g', 0, none⟩) (s.txs.length + 1) cap')).setCell ⟨w1.heap.size + 1, 2, none⟩ (.int .u64 (u.1 + 1))).cell? ⟨w1.heap.size + 1 + 1, 0, none⟩ = some (.slice q s.come.length cap) := by rw [← HCV.out]; exact LAt.cell hco6 0
            have zf0 := LAt.free hco6 0
            have hadd : IntKind.u64.wrap (u.1 + 1) = u.1 + 1 := G.wrap_u (by omega) (by omega)
            have M4 : Hid (_) := m4
            have K4 : Hid (_) := HK2.out.trans (k4.from _)
            clear hrun hlg4 hco4 m4 k4 hlg5 hco6 hi
            gi_wp2_with ((with_reducible refine in_ops ?_); (first | (refine in_alloc (by rfl) 60 rfl A5.out ?_) | (refine in_store (by rfl) 60 rfl rfl rfl T5.out ?_)); simp only [Act.put, List.setIfInBounds_toArray, List.set_cons_zero, List.set_cons_succ])
            refine ⟨trivial, ?_⟩
            gi_wp2_with ((with_reducible refine in_ops ?_); (first | (refine in_build (vs := [(0, .int .u64 u.1), (1, .slice q s.come.length cap)]) (by rfl) 33 rfl (by rfl) UT.out ?_) | (refine in_slice (u := .agg #[.int .u64 u.1, .slice q s.come.length cap]) (by rfl) 24 rfl rfl SL.out ?_) | (refine in_append (u1 := .slice q3 s.txs.length cap3) (u2 := .slice (some ⟨V2.heap.size, 0, none⟩) 1 1) (by rfl) rfl rfl rfl rfl AP.out ?_)); simp only [Act.put, List.setIfInBounds_toArray, List.set_cons_zero, List.set_cons_succ])
            refine ⟨K4.out, ⟨?_, ?_⟩, _, HS.out, _, _, _, _, M4.out⟩
            · exact Eq.trans M4.out.bt (Eq.symm M0.out.bt)
            · exact Eq.trans M4.out.be (Eq.symm M0.out.be)
          · have hi' : (rr.images == (s.come.length : Int)) = false := by simp [hi]
            have HX : Hid (_) := HNx'.out (.inr (scStep_no (fun h => hk1 h.1) (fun h => hi h.2)))
            clear hi
            gi_wp2_with ((with_reducible refine in_ops ?_); (first | (refine in_alloc (by rfl) 60 rfl A5.out ?_) | (refine in_store (by rfl) 60 rfl rfl rfl T5.out ?_)); simp only [Act.put, List.setIfInBounds_toArray, List.set_cons_zero, List.set_cons_succ])
            refine ⟨trivial, ?_⟩
            gi_wp2
            exact ⟨HK2.out, rfl, pre, u, s, rfl, HG.out, HX.out, v, vs, cv, Bx, M2.out⟩
        · have hk2' : (rr.kind == 2) = false := by simp [hk2]
          have HX : Hid (_) := HNx'.out (.inr (scStep_no (fun h => hk1 h.1) (fun h => hk2 h.1)))
          gi_wp2_with ((with_reducible refine in_ops ?_); (first | (refine in_alloc (by rfl) 60 rfl A5.out ?_) | (refine in_store (by rfl) 60 rfl rfl rfl T5.out ?_)); simp only [Act.put, List.setIfInBounds_toArray, List.set_cons_zero, List.set_cons_succ])
          refine ⟨trivial, ?_⟩
          gi_wp2
          exact ⟨HK2.out, rfl, pre, u, s, rfl, HG.out, HX.out, v, vs, cv, Bx, M2.out⟩
  case done =>
    rintro D ys V hD hS ⟨s, hgo, v, vs, cv, Bx, hm⟩ hK'
    have HR : Hid (scRun (stS c (newest ws d)) c.mr K t ⟨[], t, []⟩ = s) := hgo.done (by omega) hS
    clear hgo hS
    have LL : Hid (_) := LAt.loadLg hm.lg
    have TL : Hid (_) := LAt.store (ds := gcells t lf s.fin v) hm.rs sizeLg rfl (all_oneCell_toArray (gcells_ones (own_one hm.tx.row) t lf s.fin))
    obtain ⟨f1, f2, f3, f4, f5⟩ := hm.fin (D := D) (by omega) (by omega) hK' (by omega)
    have HF : Hid (_) := (⟨f1, f2, f3, f4, f5⟩ : _ ∧ _ ∧ _ ∧ _ ∧ _)
    clear f1 f2 f3 f4 f5 hm hK'
    gi_wp2_with ((with_reducible refine in_ops ?_); (first | (refine in_load (by rfl) 66 rfl rfl LL.out ?_) | (refine in_store (by rfl) 66 rfl rfl rfl TL.out ?_)); simp only [Act.put, List.setIfInBounds_toArray, List.set_cons_zero, List.set_cons_succ])
    try rw [Exit.noGoto_ret]
    refine ⟨by simp, .inl ⟨_, _, rfl, run_takeDeferred HF.out.1, ?_⟩⟩
    refine ⟨_, results_lat Tryd.results20 _ _ (w.heap.size + 1 + 1) 66 _ _ (by rfl) HF.out.2.1 Tryd.underlying66 rfl sizeLg, v, vs, ?_, ?_, HF.out.2.2.2.1, HF.out.2.2.2.2⟩
    · rw [HRUN.out, HR.out]; rfl
    · rw [HRUN.out, HR.out]; exact HF.out.2.2.1
  case stop =>
    rintro D co pre' V hD hpre ⟨rfl, pre, u, s, rfl, hgo, hst, v, vs, cv, Bx, hm⟩ hK'
    have HR : Hid (scRun (stS c (newest ws d)) c.mr K t ⟨[], t, []⟩ = s) := hgo.stop (by omega) hpre hst
    clear hgo hst hpre
    have LL : Hid (_) := LAt.loadLg hm.lg
    have TL : Hid (_) := LAt.store (ds := gcells t lf s.fin v) hm.rs sizeLg rfl (all_oneCell_toArray (gcells_ones (own_one hm.tx.row) t lf s.fin))
    obtain ⟨f1, f2, f3, f4, f5⟩ := hm.fin (D := D) (by omega) (by omega) hK' (by omega)
    have HF : Hid (_) := (⟨f1, f2, f3, f4, f5⟩ : _ ∧ _ ∧ _ ∧ _ ∧ _)
    clear f1 f2 f3 f4 f5 hm hK'
    gi_wp2_with ((with_reducible refine in_ops ?_); (first | (refine in_load (by rfl) 66 rfl rfl LL.out ?_) | (refine in_store (by rfl) 66 rfl rfl rfl TL.out ?_)); simp only [Act.put, List.setIfInBounds_toArray, List.set_cons_zero, List.set_cons_succ])
    try rw [Exit.noGoto_ret]
    refine ⟨by simp, .inl ⟨_, _, rfl, run_takeDeferred HF.out.1, ?_⟩⟩
    refine ⟨_, results_lat Tryd.results20 _ _ (w.heap.size + 1 + 1) 66 _ _ (by rfl) HF.out.2.1 Tryd.underlying66 rfl sizeLg, v, vs, ?_, ?_, HF.out.2.2.2.1, HF.out.2.2.2.2⟩
    · rw [HRUN.out, HR.out]; rfl
    · rw [HRUN.out, HR.out]; exact HF.out.2.2.1
end Go.Proofs.YtefnkjajjidfaaaDoor
namespace Go.Proofs.YtefnkjajjidfaaaDoor
open Go.RowKit
theorem zeros_one (z : Value) (k : Nat) : Builtin.zeroCells #[z] k = (List.replicate k z).toArray := by
  have h := toList_madeCells_one z k
  have e : Builtin.zeroCells #[z] k = madeCells #[z] k := by simp [Builtin.zeroCells, madeCells]
  rw [e, ← h]
section
variable {P : Program} (w : World)
/-- 'append(s, make([]T, k)...)', s the call's own -/
theorem run_append_zeros_own (base : Nat) (t tn ty e : TypeId) (i : TypeInfo) (z : Value) (bytes : Nat) (kq kn : IntKind) (ht : P.underlying t = some (.slice e)) (htn : P.underlying tn = some (.int kn)) (hi : P.info? e = some i) (hz : i.zero = some z)
    (hsize : i.size = 1) (hby : i.bytes = bytes) (hzc : z.cells = #[z]) (hone : z.oneCell' = true) (g n cap : Nat) (xs : List Value) (hown : w.ownsRow base e 1 (.slice (some ⟨g, 0, none⟩) n cap) n xs) (k : Nat) (hk : 0 < k)
    (h63 : n + k ≤ maxLen) (hbytes : (n + k) * bytes ≤ 140737488355328) (hbase : base ≤ w.heap.size) :
    ∃ v' w', (Builtin.append_ #[t, tn] ty #[.slice (some ⟨g, 0, none⟩) n cap, .int kq k]).run P w = .ok v' w' ∧ w'.ownsRow base e 1 v' (n + k) (xs ++ List.replicate k z) ∧ w.grownBy w' (some g) := by
  have hsmall : n + k ≤ 9223372036854775807 := by simp only [maxLen] at h63; omega
  have hlen : (xs ++ List.replicate k z).length = (n + k) * 1 := by rw [List.length_append, hown.1, List.length_replicate]; omega
  have hkb : k * i.bytes ≤ 140737488355328 := by
    rw [hby]
    exact Nat.le_trans (Nat.mul_le_mul_right _ (by omega)) hbytes
  rcases hown.2 with ⟨h, _⟩ | ⟨g', cap', cur, h, hbg, hg, hnc, hcm, hcs, htake⟩
  · simp at h
  · simp only [Value.slice.injEq, Option.some.injEq, Addr.mk.injEq, and_true, true_and] at h
    obtain ⟨rfl, rfl⟩ := h
    by_cases hroom : n + k ≤ cap
    · have hst := run_storeCells_at P g n e (List.replicate k z) 0 cur w hg (by simp; omega) (by intro v hv; rw [List.eq_of_mem_replicate hv]; exact hone)
      simp only [Nat.add_zero] at hst
      have hw : IntKind.i64.wrap (k : Int) = k := by rw [IntKind.wrap_i64]; omega
      have hneg : ¬ ((k : Int) < 0) := by omega
      have h48i : ¬ (281474976710656 < (k : Int) * (i.bytes : Int)) := by
        rw [← Int.natCast_mul]
        omega
      have hk0 : k ≠ 0 := by omega
      have hr : (Builtin.append_ #[t, tn] ty #[.slice (some ⟨g, 0, none⟩) n cap, .int kq k]).run P w = .ok (.slice (some ⟨g, 0, none⟩) (n + k) cap) (w.setRow g (cur.toList.take n ++ List.replicate k z ++ cur.toList.drop (n + (List.replicate k z).length)).toArray) := by

        simp [Builtin.append_, run_underlying ht, run_underlying htn, sizeOf, typeInfo, zeroValue, hi, hz, hsize, asInt, asIntOf, hw, hneg, h48i, hroom, hk0, hzc, zeros_one, Addr.add_lit, hst]
      refine ⟨_, _, hr, ⟨hlen, .inr ⟨g, cap, _, rfl, hbg, setRow_heap w g cur _ e _ hg, hroom, hcm, ?_, ?_⟩⟩, ⟨rfl, rfl, rfl, by simp, fun k _ hk => setRow_other w g k _ (fun e => hk (by simp [e]))⟩⟩
      · simp only [List.size_toArray, List.length_append, List.length_take, List.length_drop, Array.length_toList, List.length_replicate]
        omega
      · rw [Nat.mul_one] at htake
        rw [htake, ← hlen]
        exact List.take_left
    · have holds : ∀ j u, xs[j]? = some u → w.drew.cell? ((⟨g, 0, none⟩ : Addr).add j) = some u := hown.cells (g := g) rfl
      have hf := run_firstCells_some (P := P) w.drew i.size n ⟨g, 0, none⟩ n cap xs (by rw [hsize]; exact hown.1) holds
      have hr := Lib.run_append_grow_zeros (P := P) w t tn ty e i z kq kn ht htn hi hz (some ⟨g, 0, none⟩) n cap xs hf k hk (by omega) (by omega) (by omega) (by omega) (growslice_fits (by omega) (by rw [hby]; exact hbytes))
      have hge := grownCap_ge w (n + k) cap e
      have hcm2 : grownCap w (n + k) cap e ≤ maxLen := grownCap_le_maxLen w (n + k) cap e h63
      refine ⟨_, _, hr, ⟨hlen, .inr ⟨w.heap.size, _, _, rfl, hbase, heap_alloc_new w.drew _, hge, hcm2, ?_, ?_⟩⟩, ⟨rfl, rfl, rfl, by simp, fun k hk _ => heap_alloc_old w.drew _ hk⟩⟩
      · have := hown.1
        simp only [Array.size_append, List.size_toArray, size_zeroCells, hzc]
        simp
        omega
      · simp only [Array.toList_append, hzc, zeros_one, List.append_assoc]
        rw [← List.append_assoc, ← hlen]
        exact List.take_left
theorem wpList_append_zeros_own {ops : Array Oper} {rest : List Oper} {o : Oper} {a : Act} {Q : Exit → Act → World → Prop} (hgd : o.guard = none) (s x : Operand) (t tn : TypeId)
    (ho : o.op = .call { callee := .builtin .append, args := #[s, x], argTypes := #[t, tn] }) (base : Nat) (e : TypeId) (i : TypeInfo) (z : Value) (bytes : Nat) (kq kn : IntKind) (ht : P.underlying t = some (.slice e)) (htn : P.underlying tn = some (.int kn)) (hi : P.info? e = some i) (hz : i.zero = some z)
    (hsize : i.size = 1) (hby : i.bytes = bytes) (hzc : z.cells = #[z]) (hone : z.oneCell' = true) (g n cap : Nat) (xs : List Value) (hs : a.eval s = .slice (some ⟨g, 0, none⟩) n cap) (hown : w.ownsRow base e 1 (.slice (some ⟨g, 0, none⟩) n cap) n xs) (k : Nat) (hx : a.eval x = .int kq k) (hk : 0 < k)
    (h63 : n + k ≤ maxLen) (hbytes : (n + k) * bytes ≤ 140737488355328) (hbase : base ≤ w.heap.size)
    (h : ∀ v' w', w'.ownsRow base e 1 v' (n + k) (xs ++ List.replicate k z) → w.grownBy w' (some g) → wpList P ops Q rest (a.put o.dst v') w') : wpList P ops Q (o :: rest) a w := by
  refine wpList_plain hgd fun K hK => ?_
  obtain ⟨v', w', hr, h1, h2⟩ := run_append_zeros_own (P := P) w base t tn o.type e i z bytes kq kn ht htn hi hz hsize hby hzc hone g n cap xs hown k hk h63 hbytes hbase
  unfold Oper.wp
  simp [execOp, ho, resolve, invoke, builtin, hs, hx, hr, Result.andThen]
  exact hK _ _ (h v' w' h1 h2)
end
end Go.Proofs.YtefnkjajjidfaaaDoor
namespace Go.Proofs.YtefnkjajjidfaaaDoor
open Go.RowKit
/-- what stands while an image is loaded -/
structure Ldn (w wr : World) (p q n cap : Nat) (v : Value) (D N : Nat → List Int) : Prop where
  str : wr.heap[p]? = some (.cells #[.slice (some ⟨q, 0, none⟩) n cap, v] 105 (0, 0))
  pl : Pl wr q n cap D N
  wt : wr.ownsRow 0 115 65 v 0 []
  below : Below w.heap.size w wr
  hp : w.heap.size ≤ p
  hq : w.heap.size ≤ q
  hv : ∀ k, v.ownBlock = some k → w.heap.size ≤ k
theorem Ldn.later {w wr w' : World} {p q n cap : Nat} {v : Value} {D N : Nat → List Int} (h : Ldn w wr p q n cap v D N) (hb : Below wr.heap.size wr w') : Ldn w w' p q n cap v D N :=
  ⟨(hb.block p (Blk.lt (t := 105) (sz := 2) ⟨_, h.str, rfl⟩)).trans h.str, h.pl.same (hb.block q h.pl.blk.lt), own_later h.wt hb, h.below.trans (hb.mono h.below.size), h.hp, h.hq, h.hv⟩
theorem Ldn.cell0 {w wr : World} {p q n cap : Nat} {v : Value} {D N : Nat → List Int} (h : Ldn w wr p q n cap v D N) : wr.cell? ⟨p, 0, none⟩ = some (.slice (some ⟨q, 0, none⟩) n cap) := by
  rw [cell_of_row _ _ _ _ 105 (0, 0) h.str]; rfl
theorem setCells_append (g : Nat) : ∀ (vs us : List Value) (o : Nat) (w : World), w.setCells g o (vs ++ us) = (w.setCells g o vs).setCells g (o + vs.length) us
  | [], us, o, w => rfl
  | v :: r, us, o, w => by
    show (w.setCell ⟨g, o, none⟩ v).setCells g (o + 1) (r ++ us) = _
    rw [setCells_append g r us (o + 1) _, List.length_cons, show o + 1 + r.length = o + (r.length + 1) by omega]
    rfl
theorem Ldn.set {w wr : World} {p q n cap k : Nat} {v : Value} {D N : Nat → List Int} (h : Ldn w wr p q n cap v D N) (b : List Int) (hb : b.length = 64) (hk : k < n) : Ldn w (wr.setCells q (k * 128) (U8 b ++ U8 b)) p q n cap v (fun i => if i = k then b else D i) (fun i => if i = k then b else N i) := by
  have hpq : p ≠ q := Blk.ne (t := 105) (sz := 2) ⟨_, h.str, rfl⟩ h.pl.blk (by decide)
  refine ⟨(setCells_other hpq _ _ _).trans h.str, ?_, own_same h.wt (fun k hk => ?_), below_setCells h.hq _ _ _ _ h.below, h.hp, h.hq, h.hv⟩
  · rw [setCells_append, U8_length, hb]
    exact (h.pl.setD b hb hk).setN b hb hk
  · obtain ⟨sz, hk'⟩ := own_ownBlk h.wt hk
    exact setCells_other (hk'.ne h.pl.blk (by decide)) _ _ _
/-- the sectors of the first k, and zeros -/
def upk (xs : List Int) (k : Nat) : Nat → List Int := fun i => if i < k then sec xs i else List.replicate 64 0
theorem upk_step (xs : List Int) (k : Nat) : (fun i => if i = k then sec xs k else upk xs k i) = upk xs (k + 1) := by
  funext i
  simp only [upk]
  by_cases c : i = k
  · subst c; simp
  · by_cases c2 : i < k
    · simp [c, c2, show i < k + 1 by omega]
    · simp [c, c2, show ¬ i < k + 1 by omega]
set_option maxHeartbeats 1000000 in
set_option maxRecDepth 100000 in
theorem load_odd (a : Option Addr) (m c : Nat) (w : World) (h : ¬ m % 64 = 0) (hm : m ≤ 140737488355328) : Calls Tryd.prog 57 #[.slice a m c] w fun e w' => e = .returned (.tuple #[.pointer none, .int .i64 2]) ∧ w = w' := by
  have e1 : ((m : Int) % 64 != 0) = true := by rw [bne_iff_ne]; omega
  go_enter Tryd.func57, Tryd.ntmps57
  go_wp2
  go_ret2
  exact ⟨rfl, rfl⟩
set_option maxHeartbeats 1000000 in
set_option maxRecDepth 100000 in
theorem load_bad (a : Option Addr) (m c : Nat) (w : World) (h : m % 64 = 0) (h2 : m = 0 ∨ 262144 < m) (hm : m ≤ 140737488355328) : Calls Tryd.prog 57 #[.slice a m c] w fun e w' => e = .returned (.tuple #[.pointer none, .int .i64 2]) ∧ w = w' := by
  have e1 : ((m : Int) % 64 != 0) = false := by rw [show (m : Int) % 64 = 0 by omega]; rfl
  go_enter Tryd.func57, Tryd.ntmps57
  go_wp2_with fail
  refine (new_bad ((m : Int) / 64) w (by omega)).mono ?_
  rintro e w1 ⟨rfl, rfl⟩
  go_wp2
  go_ret2
  exact ⟨rfl, rfl⟩
theorem sec_range {w : World} {g o m n k : Nat} {xs : List Int} (h : BIn w (some ⟨g, o, none⟩) m xs) (hm : m = 64 * n) (hk : k < n) : w.rangeAt g (o + k * 64) (U8 (sec xs k)) := fun j v hv => by
  have hj : j < 64 := by have := (List.getElem?_eq_some_iff.1 hv).1; rw [U8_length, sec_length (h.len.trans hm) hk] at this; exact this
  rw [Nat.add_assoc]
  refine h.range (k * 64 + j) v ?_
  rw [← hv]
  simp only [U8, List.getElem?_map, sec_get xs k j hj]
  rw [Nat.mul_comm]
set_option maxHeartbeats 2000000 in
set_option maxRecDepth 100000 in
theorem load_good (g o m c n : Nat) (xs : List Int) (w : World) (h : BIn w (some ⟨g, o, none⟩) m xs) (hm : m = 64 * n) (hmc : m ≤ c) (hn1 : 1 ≤ n) (hn2 : n ≤ 4096) :
    Calls Tryd.prog 57 #[.slice (some ⟨g, o, none⟩) m c] w fun e w' => ∃ p, e = .returned (.tuple #[.pointer (some ⟨p, 0, none⟩), .int .i64 0]) ∧ Dsk w' (fun k => w.heap.size ≤ k) p n xs [] ∧ Below w.heap.size w w' := by
  have e1 : ((m : Int) % 64 != 0) = false := by rw [show (m : Int) % 64 = 0 by omega]; rfl
  have e2 : (m : Int) / 64 = (n : Int) := by omega
  have HX : Hid (BIn w (some ⟨g, o, none⟩) m xs) := h
  have HL : Hid (xs.length = 64 * n) := h.len.trans hm
  have HM : Hid (m = 64 * n) := hm
  clear h hm
  go_enter Tryd.func57, Tryd.ntmps57
  go_wp2_with fail
  clear e1 e2
  refine (new_good n w hn1 hn2).mono ?_
  rintro e w1 ⟨p, rfl, ⟨q, cap, v, hd⟩, hb1⟩
  have h0 := hd.cell0
  have HD0 : Hid (Ldn w w1 p q n cap v (upk xs 0) (upk xs 0)) := by
    refine ⟨hd.str, hd.pl.congr (fun i hi => ?_) (fun i hi => ?_), hd.wt, hb1, hd.sp, hd.sq, hd.sv⟩
    · rw [sec_zeros n i hi]; rfl
    · rw [newest_nil, sec_zeros n i hi]; rfl
  clear hd
  go_wp2
  clear h0
  go_loopw [27] (fun i wr => ∃ k : Nat, k ≤ n ∧ i = .int .i64 k ∧ Hid (Ldn w wr p q n cap v (upk xs k) (upk xs k))) (fun i _ => n - (intOf i).toNat)
  case atStart => exact ⟨0, by omega, rfl, HD0.out⟩
  case round =>
    obtain ⟨k, hkm, rfl, HR⟩ := hrel
    clear HD0
    by_cases hlt : k < n
    · have hm := HM.out
      have hmul : IntKind.i64.wrap ((k : Int) * 64) = (k : Int) * 64 := by rw [IntKind.wrap_i64]; omega
      have l1 : (k : Int) * 64 ≤ (m : Int) := by omega
      have l2 : (m : Int) ≤ (c : Int) := by omega
      have l3 : ¬ (c : Int) = (k : Int) * 64 := by omega
      have l4 : (0 : Int) ≤ (k : Int) * 64 := by omega
      have hr : wr.rangeAt g (o + k * 64) (U8 (sec xs k)) := sec_range (HX.out.later HR.out.below) hm hlt
      have HLk : Hid ((sec xs k).length = 64) := sec_length HL.out hlt
      have hat : ∀ (w : World) (a : Option Addr) (l c : Nat), 64 ≤ l → (Instr.arrayAt 99 (.slice a l c)).run Tryd.prog w = .ok (.pointer a) w := fun w a l c hl => run_arrayAt w 99 _ 64 _ l c Tryd.underlying99 hl
      have hat2 := fun w c => hat w (some ⟨g, o + k * 64, none⟩) (m - k * 64) c (by omega)
      have HRb : Hid (Bytes (sec xs k)) := HX.out.byte.sec k
      have HU : Hid (Ldn w ((wr.alloc (.cells (U8 (sec xs k)).toArray 99)).setCells q (k * 128) (U8 (sec xs k) ++ U8 (sec xs k))) p q n cap v (upk xs (k + 1)) (upk xs (k + 1))) := by
        have := (HR.out.later (below_alloc wr (.cells (U8 (sec xs k)).toArray 99))).set (sec xs k) HLk.out hlt
        rw [upk_step] at this
        exact this
      have hD := HR.out.later (below_alloc wr (.cells (U8 (sec xs k)).toArray 99))
      have t0 := hD.cell0
      have t1 : (wr.alloc (.cells (U8 (sec xs k)).toArray 99)).rangeAt wr.heap.size 0 (U8 (sec xs k)) := new_range wr _ 99
      have t2 : (wr.alloc (.cells (U8 (sec xs k)).toArray 99)).there q (k * 128) 128 := hD.pl.blk.there _ _ (by have := hD.pl.ncap; omega)
      have HNE : Hid (p ≠ q ∧ wr.heap.size ≠ q) := ⟨Blk.ne (t := 105) (sz := 2) ⟨_, hD.str, rfl⟩ hD.pl.blk (by decide), by have := HR.out.pl.blk.lt; omega⟩
      clear hat hm HR hD
      generalize sec xs k = b at *
      go_wp2_with (first | (refine wpList_load_mid (by rfl) 99 (.tmp 34) (by rfl) g (o + k * 64) (by rfl) (U8 b) _ hr Tryd.underlying99 rfl (by rw [size69, U8_length, HLk.out]) ?_) | (refine wpList_alloc69 (by rfl) (by rfl) ?_) | (refine wpList_store69 (by rfl) (.tmp 7) (.tmp 35) (by rfl) b (by rfl) (by rfl) HLk.out ?_) | fail)
      simp only [Act.put, List.setIfInBounds_toArray, List.set_cons_zero, List.set_cons_succ]
      obtain ⟨W, hW⟩ : ∃ W, wr.alloc (.cells (U8 b).toArray 99) = W := ⟨_, rfl⟩
      rw [hW] at t0 t1 t2 HU ⊢
      clear hW hr hat2 hmul l1 l2 l3 l4
      have i1 : (k : Int) < (n : Int) := by omega
      have i0 : (0 : Int) ≤ (k : Int) := by omega
      have k0 : (W.drew.setCells q (k * 128) (U8 b ++ U8 b)).cell? ⟨p, 0, none⟩ = some (.slice (some ⟨q, 0, none⟩) n cap) := by
        rw [World.cell?_setCells_out _ _ _ _ _ (fun e => absurd e HNE.out.1)]; exact t0
      have k1 : (W.drew.setCells q (k * 128) (U8 b ++ U8 b)).rangeAt wr.heap.size 0 (U8 b) := World.rangeAt_setCells_apart (w := W.drew) t1 _ _ _ (Or.inl HNE.out.2)
      have k2 : (W.drew.setCells q (k * 128) (U8 b ++ U8 b)).there q (k * 128) 128 := World.there_setCells (w := W.drew) t2 _ _ _
      refine wp_region_noPanic ?_
      refine wp_region_held_drew (S := (fun w' => w'.cell? ⟨p, 0, none⟩ = some (.slice (some ⟨q, 0, none⟩) n cap) ∧ w'.rangeAt wr.heap.size 0 (U8 b) ∧ w'.there q (k * 128) 128)) (by kernel_rfl) ⟨t0, t1, t2⟩ (fun hHeld => ?_)
      refine wpAnyH_take (i := 0) (v := ?v0) (by simp; rfl) (by kernel_rfl) (by kernel_rfl) (by kernel_rfl) (fun _ _ _ h => h) (Or.inl ⟨by rfl, ?y0⟩) hHeld ?r0
      case y0 => intro w hSw; obtain ⟨hSw, -, -⟩ := hSw; go_simp; with_reducible rfl
      simp only [Act.put, List.setIfInBounds_toArray, List.set_cons_zero, List.set_cons_succ]
      refine wpAnyH_take (i := 1) (v := ?v1) (by simp; rfl) (by kernel_rfl) (by kernel_rfl) (by kernel_rfl) (fun _ _ _ h => h) (Or.inl ⟨by rfl, ?y1⟩) hHeld ?r1
      case y1 => intro w hSw; obtain ⟨hSw, -, -⟩ := hSw; go_simp; with_reducible rfl
      simp only [Act.put, List.setIfInBounds_toArray, List.set_cons_zero, List.set_cons_succ]
      refine wpAnyH_take (i := 2) (v := ?v2) (by simp; rfl) (by kernel_rfl) (by kernel_rfl) (by kernel_rfl) (fun _ _ _ h => h) (Or.inl ⟨by rfl, ?y2⟩) hHeld ?r2
      case y2 => intro w hSw; obtain ⟨hSw, -, -⟩ := hSw; go_simp; with_reducible rfl
      simp only [Act.put, List.setIfInBounds_toArray, List.set_cons_zero, List.set_cons_succ]
      refine wpAnyH_take (i := 3) (v := ?v3) (by simp; rfl) (by kernel_rfl) (by kernel_rfl) (by kernel_rfl) (fun _ _ _ h => h) (Or.inl ⟨by rfl, ?y3⟩) hHeld ?r3
      case y3 => intro w hSw; obtain ⟨hSw, -, -⟩ := hSw; go_simp; with_reducible rfl
      simp only [Act.put, List.setIfInBounds_toArray, List.set_cons_zero, List.set_cons_succ]
      refine wpAnyH_take (i := 4) (v := ?v4) (by simp; rfl) (by kernel_rfl) (by kernel_rfl) (by kernel_rfl) (fun _ _ _ h => h) (Or.inl ⟨by rfl, ?y4⟩) hHeld ?r4
      case y4 => intro w hSw; obtain ⟨hSw, -, -⟩ := hSw; go_simp; with_reducible rfl
      simp only [Act.put, List.setIfInBounds_toArray, List.set_cons_zero, List.set_cons_succ]
      refine wpAnyH_take (i := 5) (v := _) (by simp; rfl) (by kernel_rfl) (by kernel_rfl) (by kernel_rfl) (fun _ _ _ h => h) (yieldsIf_load_mid (by rfl) 99 (.tmp 7) rfl wr.heap.size 0 rfl (U8 b) _ (fun _ h => h.2.1) Tryd.underlying99 rfl (by rw [size69, U8_length, HLk.out])) hHeld ?_
      simp only [Act.put, List.setIfInBounds_toArray, List.set_cons_zero, List.set_cons_succ]
      refine wpAnyH_take (i := 6) (v := _) (by simp; rfl) (by kernel_rfl) (by kernel_rfl) (by kernel_rfl) (fun _ _ _ h => h) (yieldsIf_load_mid (by rfl) 99 (.tmp 7) rfl wr.heap.size 0 rfl (U8 b) _ (fun _ h => h.2.1) Tryd.underlying99 rfl (by rw [size69, U8_length, HLk.out])) hHeld ?_
      simp only [Act.put, List.setIfInBounds_toArray, List.set_cons_zero, List.set_cons_succ]
      refine wpAnyH_take (i := 7) (v := _) (by simp; rfl) (by kernel_rfl) (by kernel_rfl) (by kernel_rfl) (fun _ _ _ h => h) (yields_build71 (by rfl) (.tmp 41) (.tmp 42) rfl b b rfl rfl HLk.out HLk.out) hHeld ?_
      simp only [Act.put, List.setIfInBounds_toArray, List.set_cons_zero, List.set_cons_succ]
      refine wpAnyH_take (i := 8) (v := ?v8) (by simp; rfl) (by kernel_rfl) (by kernel_rfl) (by kernel_rfl) (fun _ _ _ h => h) (Or.inl ⟨by rfl, ?y8⟩) hHeld ?r8
      case y8 => intro w hSw; clear hSw; go_simp; with_reducible rfl
      simp only [Act.put, List.setIfInBounds_toArray, List.set_cons_zero, List.set_cons_succ]
      refine wpAnyH_ready (rs := [9]) (by kernel_rfl) (by simp) ?_
      refine AllReadyH.cons (by simp; rfl) (fun K hK => ?_) AllReadyH.nil
      rw [if_pos (by rfl)]
      refine wp_store_mid 101 (.tmp 44) (.tmp 43) rfl q (k * 128) (U8 b ++ U8 b).toArray rfl rfl (by rw [List.size_toArray, List.length_append, U8_length, HLk.out]; exact t2) (by rw [size71, List.size_toArray, List.length_append, U8_length, HLk.out]) (all_oneCell_toArray (fun u hu => (List.mem_append.1 hu).elim (ones_u8 b u) (ones_u8 b u))) ?_
      rw [List.toList_toArray]
      refine hK.out _ _ ⟨k0, k1, k2⟩ (fun hHeld => ?_)
      clear hK K
      refine wpAnyH_done (by kernel_rfl) (NoPanic.normal ?_) _
      simp only [Act.put]
      rw [setCells_drew]
      clear k0 k1 k2 t0 t1 t2
      go_wp2
      go_roundw
      case rel => exact ⟨k + 1, by omega, by go_num, HU.out.later ⟨rfl, rfl, rfl, Nat.le_refl _, fun _ _ => rfl⟩⟩
      case measure => simp [intOf]; omega
    · obtain rfl : k = n := by omega
      have HF : Hid (Dsk wr (fun k => w.heap.size ≤ k) p k xs [] ∧ Below w.heap.size w wr) := by
        refine ⟨⟨q, cap, v, HR.out.str, HR.out.pl.congr (fun i hi => ?_) (fun i hi => ?_), HR.out.wt, HR.out.hp, HR.out.hq, HR.out.hv, hn1, hn2, HL.out, HX.out.byte, Fit.nil _⟩, HR.out.below⟩
        · simp [upk, hi]
        · simp [upk, hi, newest_nil]
      clear HR
      go_wp2
      go_ret2
      exact ⟨_, rfl, HF.out.1, HF.out.2⟩
end Go.Proofs.YtefnkjajjidfaaaDoor
namespace Go.Proofs.YtefnkjajjidfaaaDoor
open Go.RowKit
theorem own_shape {w : World} {base : Nat} {v : Value} {n : Nat} {xs : List Value} (h : w.ownsRow base 5 1 v n xs) (h0 : 0 < n) : ∃ g cap, v = .slice (some ⟨g, 0, none⟩) n cap ∧ n ≤ cap := by
  rcases h.2 with ⟨_, h2⟩ | ⟨g, cap, cur, h2, _, _, h3, _⟩
  · omega
  · exact ⟨g, cap, h2, h3⟩
theorem own_bin {w : World} {base g cap n : Nat} {xs : List Int} (h : w.ownsRow base 5 1 (.slice (some ⟨g, 0, none⟩) n cap) n (U8 xs)) (hb : Bytes xs) : BIn w (some ⟨g, 0, none⟩) n xs := by
  obtain ⟨p, c, e, hr, _⟩ := own_in h hb
  simp only [Value.slice.injEq] at e
  rw [e.1]
  exact hr
/-- a box of another kind stays while a row of bytes grows -/
theorem box_kept {w w' : World} {t : TypeId} {g : Nat} {cs : List Value} {base n : Nat} {v : Value} {xs : List Value} (hb : LAt t w g cs) (ho : w.ownsRow base 5 1 v n xs) (hg : w.grownBy w' v.ownBlock) (ht : t ≠ 5) : LAt t w' g cs := by
  refine (hg.block g hb.lt (fun e => ?_)).trans hb
  rcases ho.2 with ⟨rfl, _⟩ | ⟨g', cap, cur, rfl, _, h2, _⟩
  · simp [Value.ownBlock] at e
  · simp only [Value.ownBlock, Option.some.injEq] at e
    subst e
    unfold LAt at hb
    rw [hb] at h2
    simp only [Option.some.injEq, Obj.cells.injEq] at h2
    exact ht h2.2.1
theorem build_new (w : World) (s : Sup) : (Instr.build 117 #[(0, .agg (ccells s).toArray), (1, .int .u64 0), (2, .int .u64 1)]).run Tryd.prog w = .ok (.agg (scells (sup1 s)).toArray) w :=
  build29 w _ (sup1 s) (fill_all (sup1 s))
set_option maxHeartbeats 400000 in
set_option maxRecDepth 100000 in
theorem hnew_bad (s : Sup) (hc : ¬ MayC s) (w : World) :
    Calls Tryd.prog 27 #[.agg (ccells s).toArray] w fun e w' => e = .returned (.tuple #[.pointer none, .int .i64 3]) ∧ Below w.heap.size w w' := by
  have L1 : Hid (_) := CAt.load23 (LAt.new 39 w (ccells s))
  have HB : Hid (Below w.heap.size w (w.alloc (.cells (ccells s).toArray 39))) := below_alloc w _
  have U1 : Hid (_) := build_new (w.alloc (.cells (ccells s).toArray 39)) s
  have HC : Hid (chk (sup1 s) = 3) := (sup1_chk s).trans (cfg_no s hc)
  have HM : Hid (¬ May (sup1 s)) := fun h => hc h.1
  clear hc
  go_enter Tryd.func27, Tryd.ntmps27
  go_wp2_with ((with_reducible refine at_ops ?_); (first | (refine wpList_load_is (by rfl) 39 rfl rfl L1.out ?_) | (refine wpList_build_is (vs := [(0, .agg (ccells s).toArray), (1, .int .u64 0), (2, .int .u64 1)]) (by rfl) 117 rfl (by rfl) U1.out ?_)); simp only [Act.put, List.setIfInBounds_toArray, List.set_cons_zero, List.set_cons_succ])
  refine (encode_bad (sup1 s) HM.out _).mono ?_
  rintro e w1 ⟨rfl, b1⟩
  rw [HC.out]
  have HB1 : Hid (Below w.heap.size w w1) := below_then HB.out b1
  clear b1 HB L1 U1
  go_wp2_with fail
  go_ret2
  exact ⟨rfl, HB1.out⟩
set_option maxHeartbeats 2000000 in
set_option maxRecDepth 100000 in
theorem hnew_good (s : Sup) (hc : MayC s) (w : World) (ht : Tab w) :
    Calls Tryd.prog 27 #[.agg (ccells s).toArray] w fun e w' => ∃ p, e = .returned (.tuple #[.pointer (some ⟨p, 0, none⟩), .int .i64 0]) ∧ Dsk w' (fun k => w.heap.size ≤ k) p (cntS s) (newS s) [] ∧ Below w.heap.size w w' := by
  obtain ⟨i0, hi, hz0, hz1, hz2⟩ := info_parts info5
  have L1 : Hid (_) := CAt.load23 (LAt.new 39 w (ccells s))
  have HA : Hid (CAt (w.alloc (.cells (ccells s).toArray 39)) w.heap.size s) := LAt.new 39 w (ccells s)
  have HB : Hid (Below w.heap.size w (w.alloc (.cells (ccells s).toArray 39))) := below_alloc w _
  have U1 : Hid (_) := build_new (w.alloc (.cells (ccells s).toArray 39)) s
  have HC : Hid (MayC s) := hc
  have HT : Hid (Tab w) := ht
  obtain ⟨m, hm⟩ : ∃ m, m = s.bl.toNat := ⟨_, rfl⟩
  obtain ⟨l, hl⟩ : ∃ l, l = s.lc.toNat := ⟨_, rfl⟩
  have hb1 := hc.1
  have hl1 := hc.2.1
  have hmi : s.bl = (m : Int) := by omega
  have hli : s.lc = (l : Int) := by omega
  have hm1 : 1 ≤ m := by omega
  have hm2 : m ≤ 64 := by omega
  have hl0 : 2 ≤ l := by omega
  have hl2 : l ≤ 64 := by omega
  obtain ⟨K, hK⟩ : ∃ K, K = 64 * l := ⟨_, rfl⟩
  have HN : Hid (newS s = encS (sup1 s) ++ homes m ++ zs K ∧ 64 * (m + 1) + K = 64 * cntS s ∧ cntS s ≤ 4096) := by
    refine ⟨by unfold newS; rw [hK, hl, hm], ?_, ?_⟩
    · unfold cntS; omega
    · have := (cntS_bd hc).2; omega
  have hk3 : (l : Int) * 64 = (K : Int) := by omega
  have hk1 : 0 < K := by omega
  have hk2 : K ≤ 4096 := by omega
  have HCI : Hid (∀ w', CAt w' w.heap.size s → w'.cell? ⟨w.heap.size, 0, none⟩ = some (.int .i64 (m : Int)) ∧ w'.cell? ⟨w.heap.size, 1, none⟩ = some (.int .i64 (l : Int))) := by
    rw [← hmi, ← hli]; exact fun w' h => ⟨CAt.c0 h, CAt.c1 h⟩
  clear hc ht hm hl hb1 hl1 hmi hli hK
  go_enter Tryd.func27, Tryd.ntmps27
  go_wp2_with ((with_reducible refine at_ops ?_); (first | (refine wpList_load_is (by rfl) 39 rfl rfl L1.out ?_) | (refine wpList_build_is (vs := [(0, .agg (ccells s).toArray), (1, .int .u64 0), (2, .int .u64 1)]) (by rfl) 117 rfl (by rfl) U1.out ?_)); simp only [Act.put, List.setIfInBounds_toArray, List.set_cons_zero, List.set_cons_succ])
  refine (encode_good (sup1 s) (sup1_wf HC.out) (sup1_may HC.out) _ (HT.out.later HB.out)).mono ?_
  rintro e w1 ⟨g1, rfl, m1⟩
  have A1 : Hid (CAt w1 w.heap.size s) := LAt.later HA.out m1.below
  have B1 : Hid (Below w.heap.size w w1) := below_then HB.out m1.below
  have O1 : Hid (w1.ownsRow w.heap.size 5 1 (.slice (some ⟨g1, 0, none⟩) 64 64) 64 (U8 (encS (sup1 s)))) := own_mono m1.own HB.out.size
  clear m1 HA HB L1 U1
  have c0 := (HCI.out _ A1.out).1
  go_wp2_with fail
  clear c0
  go_loopw [4, 20] (fun v i wr => ∃ k : Nat, k ≤ m ∧ i = .int .i64 k ∧ Hid (CAt wr w.heap.size s ∧ wr.ownsRow w.heap.size 5 1 v (64 * (k + 1)) (U8 (encS (sup1 s) ++ homes k)) ∧ Below w.heap.size w wr)) (fun _ i _ => m - (intOf i).toNat)
  case atStart => exact ⟨0, Nat.zero_le _, rfl, A1.out, by simpa [homes] using O1.out, B1.out⟩
  case round =>
    obtain ⟨k, hk, rfl, HI⟩ := hrel
    clear A1 B1 O1
    have Ar : Hid (CAt wr w.heap.size s) := HI.out.1
    have Or : Hid (wr.ownsRow w.heap.size 5 1 u4 (64 * (k + 1)) (U8 (encS (sup1 s) ++ homes k))) := HI.out.2.1
    have Br : Hid (Below w.heap.size w wr) := HI.out.2.2
    clear HI
    by_cases hlt : k < m
    · have U2 : Hid (_) := buildV wr
      go_wp2_with ((with_reducible refine at_ops ?_); (refine wpList_build_is (vs := []) (by rfl) 30 rfl (by rfl) U2.out ?_); simp only [Act.put, List.setIfInBounds_toArray, List.set_cons_zero, List.set_cons_succ])
      refine (hencode_good (k : Int) (zs 32) ⟨by omega, by omega⟩ (zs_len 32) (zs_bytes 32) wr (HT.out.later Br.out)).mono ?_
      rintro e w2 ⟨g2, rfl, m2⟩
      have A2 : Hid (CAt w2 w.heap.size s) := LAt.later Ar.out m2.below
      have B2 : Hid (Below w.heap.size w w2) := below_then Br.out m2.below
      have O2 : Hid (w2.ownsRow w.heap.size 5 1 u4 (64 * (k + 1)) (U8 (encS (sup1 s) ++ homes k))) := own_later Or.out m2.below
      have X2 : Hid (BIn w2 (some ⟨g2, 0, none⟩) 64 (homeS (k : Int) (zs 32))) := m2.read
      have HL : Hid ((homeS (k : Int) (zs 32)).length = 64) := homeS_len _ (zs_len 32)
      have HX : Hid (U8 (encS (sup1 s) ++ homes (k + 1)) = U8 (encS (sup1 s) ++ homes k) ++ U8 (homeS (k : Int) (zs 32))) := by show _ = _; rw [homes_succ]; simp only [U8, List.map_append, List.append_assoc]
      clear m2 Ar Or Br U2
      generalize homeS (k : Int) (zs 32) = hs at *
      go_wp2_with (at_builtin; refine wpList_append_own _ rfl (.tmp 32) (.tmp 33) 41 rfl w.heap.size 5 i0 (.int .u8 0) 1 1 Tryd.underlying41 hi hz0 hz1 hz2 rfl (by decide) u4 (64 * (k + 1)) (U8 (encS (sup1 s) ++ homes k)) rfl O2.out ⟨g2, 0, none⟩ 64 64 (U8 hs) rfl (by rw [U8_length, HL.out]) X2.out.news (ones_u8 _) (by unfold maxLen; omega) (by omega) B2.out.size ?_)
      intro v3 w3 hown3 hgrow3 _
      have F3 : Hid (CAt w3 w.heap.size s ∧ w3.ownsRow w.heap.size 5 1 v3 (64 * (k + 1 + 1)) (U8 (encS (sup1 s) ++ homes (k + 1))) ∧ Below w.heap.size w w3) := by
        refine ⟨box_kept A2.out O2.out hgrow3 (by decide), ?_, B2.out.grown hgrow3 B2.out.size (fun g hg => (O2.out.lt g hg).1)⟩
        rw [HX.out, show 64 * (k + 1 + 1) = 64 * (k + 1) + 64 by omega]
        exact hown3
      clear hown3 hgrow3 A2 B2 O2 X2
      go_wp2_with fail
      go_roundw
      case rel => exact ⟨k + 1, by omega, by go_num, F3.out⟩
      case measure => simp [intOf]; omega
    · obtain rfl : m = k := by omega
      have c1 := (HCI.out _ Ar.out).2
      obtain ⟨g4, c4, rfl, -⟩ := own_shape Or.out (by omega)
      go_wp2_with (at_builtin; refine wpList_append_zeros_own _ rfl (.tmp 36) _ 41 3 rfl w.heap.size 5 i0 (.int .u8 0) 1 .i64 .i64 Tryd.underlying41 Tryd.underlying3 hi hz0 hz1 hz2 rfl rfl g4 (64 * (m + 1)) c4 (U8 (encS (sup1 s) ++ homes m)) rfl Or.out K rfl hk1 (by unfold maxLen; omega) (by omega) Br.out.size ?_)
      intro v5 w5 hown5 hgrow5
      have B5 : Hid (Below w.heap.size w w5) := Br.out.grown hgrow5 Br.out.size (fun k hk => (Or.out.lt k hk).1)
      have O5 : Hid (w5.ownsRow w.heap.size 5 1 v5 (64 * (m + 1) + K) (U8 (newS s))) := by
        show w5.ownsRow _ _ _ _ _ _
        rw [HN.out.1]
        simp only [U8, zs, List.map_append, List.map_replicate] at hown5 ⊢
        exact hown5
      clear hown5 hgrow5 Or Br Ar c1
      obtain ⟨g5, c5, rfl, hc5⟩ := own_shape O5.out (by omega)
      have X5 : Hid (BIn w5 (some ⟨g5, 0, none⟩) (64 * (m + 1) + K) (newS s)) := own_bin O5.out (newS_bytes HC.out)
      go_wp2_with fail
      refine (load_good g5 0 (64 * (m + 1) + K) c5 (cntS s) (newS s) w5 X5.out HN.out.2.1 hc5 (by unfold cntS; omega) HN.out.2.2).mono ?_
      rintro e w6 ⟨p, rfl, d6, b6⟩
      have F6 : Hid (Dsk w6 (fun k => w.heap.size ≤ k) p (cntS s) (newS s) [] ∧ Below w.heap.size w w6) := ⟨d6.mono (fun k _ hk => Nat.le_trans B5.out.size hk), below_then B5.out b6⟩
      clear d6 b6 X5 O5 B5
      go_wp2_with fail
      go_ret2
      exact ⟨p, rfl, F6.out.1, F6.out.2⟩
end Go.Proofs.YtefnkjajjidfaaaDoor
