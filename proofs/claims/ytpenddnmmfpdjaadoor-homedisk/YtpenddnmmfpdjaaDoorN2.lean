/-
  Contracts of layer 1, first part: isSize, number, bytes.Clone. Contracts of layer 1, second part: octet.Put. Contracts of layer 1, fourth part: octet.Pad, octet.Blank. Contracts of layer 1, fifth part: octet.Join. Byte slices beside the calls: strings of them, rows that a call owns, literals. Contracts of layer 2 that are called here: push, Of; and the document's Push, Of.
-/
import Derived.Test.YtpenddnmmfpdjaaDoorRows
import Derived.Test.YtpenddnmmfpdjaaDoorN1
import Derived.WalkKit
import Derived.WalkSpells
import Derived.WalkLawsBesides
import Derived.Laws.CopyOwn
import Derived.Deep.AppendLies
import Derived.Deep.QuietTactic
import Derived.BigQuiet
import Derived.Laws.BytesString
import Derived.Laws.BytesArg
import Derived.Laws.AppendOwn
import Derived.Laws.MakeOwn
import Derived.Laws.OwnMore
import Derived.Laws.AppendOwnNone
namespace Go.Proofs.YtpenddnmmfpdjaaDoor
open Go.RowKit
theorem info5 : (Tryd.prog.info? 5).map (fun i => (i.zero, i.size, i.bytes)) = some (some (.int .u8 0), 1, 1) := by kernel_rfl
theorem info3 : (Tryd.prog.info? 3).map (fun i => (i.zero, i.size, i.bytes)) = some (some (.int .i64 0), 1, 8) := by kernel_rfl
theorem info27 : (Tryd.prog.info? 80).map (fun i => (i.zero, i.size, i.bytes)) = some (some (.int .u64 0), 1, 8) := by kernel_rfl
/-- how a []byte lies that is read: n bytes, the numbers xs; where there is none: whatever the address -/
structure BIn (w : World) (p : Option Addr) (n : Nat) (xs : List Int) : Prop where
  len : xs.length = n
  byte : Bytes xs
  cells : 0 < n → ∃ b o, p = some ⟨b, o, none⟩ ∧ ∀ i, i < n → w.cell? ⟨b, o + i, none⟩ = some (.int .u8 (xs.getD i 0))
abbrev U8 (xs : List Int) : List Value := xs.map (Value.int .u8)
set_option maxHeartbeats 400000 in
set_option maxRecDepth 100000 in
theorem isSize_any (s : Int) (w : World) :
    Calls Tryd.prog 72 #[.int .i64 s] w fun e w' => e = .returned (.bool (decide (1 ≤ s ∧ s ≤ 8))) ∧ w = w' := by
  go_enter Tryd.func72, Tryd.ntmps72
  go_wp2
  all_goals go_ret
  all_goals (refine ⟨?_, rfl⟩; simp; omega)
set_option maxHeartbeats 1000000 in
set_option maxRecDepth 100000 in
theorem clone_at (a : Addr) (n c : Nat) (xs : List Int) (w : World) (hx : xs.length = n) (hbig : n ≤ 140737488355328) (hc : ∀ i, i < n → w.cell? (a.add i) = some (.int .u8 (xs.getD i 0))) :
    Calls Tryd.prog 44 #[.slice (some a) n c] w fun e w' => ∃ v', e = .returned v' ∧ w'.ownsRow w.heap.size 5 1 v' n (U8 xs) ∧ Below w.heap.size w w' := by
  obtain ⟨i0, hi, hz0, hz1, hz2⟩ := info_parts info5
  have q22 : ∀ (w : World) (a : Option Addr) (n c n' c' : Nat), (binOp .eql 24 (.slice a n c) (.slice none n' c')).run Tryd.prog w = .ok (.bool a.isNone) w := fun w a n c n' c' => Lib.run_eql_slice_nil w _ _ a n c n' c' Tryd.underlying24
  have A : Hid (∀ i, i < n → w.cell? (a.add i) = some (.int .u8 (xs.getD i 0))) := hc
  clear hc
  go_enter Tryd.func44, Tryd.ntmps44
  go_wp2_with (at_builtin; refine wpList_append_own _ rfl _ _ 24 rfl w.heap.size 5 i0 (.int .u8 0) 1 1 Tryd.underlying24 hi hz0 hz1 hz2 rfl (by decide) _ _ _ rfl (World.ownsRow_made w #[] 0 (Nat.le_refl _) (Nat.zero_le _) rfl) a n c (xs.map (Value.int .u8)) rfl ?qc1 ?qc2 ?qc3 ?qc4 ?qc5 ?qc6 ?_)
  case qc1 => simp; omega
  case qc2 =>
    intro j u hj
    have hjn : j < n := by
      have := (List.getElem?_eq_some_iff.1 hj).1
      simp at this
      omega
    refine Lib.cell?_alloc_some _ ?_
    rw [A.out j hjn]
    have e : (xs.map (Value.int .u8))[j]? = some (Value.int .u8 (xs.getD j 0)) := by simp [List.getD, List.getElem?_eq_getElem (show j < xs.length by omega)]
    rw [e] at hj
    exact hj
  case qc3 => intro u hu; obtain ⟨x, _, rfl⟩ := List.mem_map.1 hu; rfl
  case qc4 => unfold maxLen; omega
  case qc5 => omega
  case qc6 => simp
  intro v' w1 hown hgrow hnil
  go_wp2
  go_ret
  refine ⟨v', rfl, by simpa using hown, ?_⟩
  exact ((Below.refl _ w).alloc (Nat.le_refl _) _).grown hgrow (by simp) (by intro k hk; simp [Value.ownBlock] at hk; omega)
set_option maxHeartbeats 400000 in
set_option maxRecDepth 100000 in
theorem clone_nil (c : Nat) (w : World) :
    Calls Tryd.prog 44 #[.slice none 0 c] w fun e w' => e = .returned (.slice none 0 0) ∧ w = w' := by
  have q22 : ∀ (w : World) (a : Option Addr) (n c n' c' : Nat), (binOp .eql 24 (.slice a n c) (.slice none n' c')).run Tryd.prog w = .ok (.bool a.isNone) w := fun w a n c n' c' => Lib.run_eql_slice_nil w _ _ a n c n' c' Tryd.underlying24
  go_enter Tryd.func44, Tryd.ntmps44
  go_wp2
  go_ret
  exact ⟨rfl, rfl⟩
theorem BIn.at {w : World} {a : Addr} {n : Nat} {xs : List Int} (h : BIn w (some a) n xs) : ∀ i, i < n → w.cell? (a.add i) = some (.int .u8 (xs.getD i 0)) := by
  intro i hi
  obtain ⟨b, o, e, hc⟩ := h.cells (by omega)
  simp only [Option.some.injEq] at e
  subst e
  rw [Go.WideShapes.add_plain]
  exact hc i hi
theorem clone_any (p : Option Addr) (n c : Nat) (xs : List Int) (w : World) (h : BIn w p n xs) (hbig : n ≤ 140737488355328) :
    Calls Tryd.prog 44 #[.slice p n c] w fun e w' => ∃ v', e = .returned v' ∧ w'.ownsRow w.heap.size 5 1 v' n (U8 xs) ∧ Below w.heap.size w w' := by
  cases p with
  | some a => exact clone_at a n c xs w h.len hbig h.at
  | none =>
    have h0 : n = 0 := by
      by_cases hp : 0 < n
      · obtain ⟨b, o, e, _⟩ := h.cells hp; cases e
      · omega
    subst h0
    obtain rfl : xs = [] := List.eq_nil_of_length_eq_zero h.len
    refine (clone_nil c w).mono ?_
    rintro e w' ⟨rfl, hw⟩
    subst hw
    exact ⟨_, rfl, World.ownsRow_nil _ _ _ _, Below.refl _ _⟩
theorem BIn.take {w : World} {p : Option Addr} {n : Nat} {xs : List Int} (h : BIn w p n xs) (k : Nat) (hk : k ≤ n) : BIn w p k (xs.take k) := by
  refine ⟨by rw [List.length_take, h.len]; omega, h.byte.take k, fun hp => ?_⟩
  obtain ⟨b, o, e, hc⟩ := h.cells (by omega)
  refine ⟨b, o, e, fun i hi => ?_⟩
  rw [hc i (by omega)]
  simp [List.getD, hi]
theorem BIn.drop {w : World} {b o n : Nat} {xs : List Int} (h : BIn w (some ⟨b, o, none⟩) n xs) (k : Nat) (hk : k ≤ n) : BIn w (some ⟨b, o + k, none⟩) (n - k) (xs.drop k) := by
  refine ⟨by rw [List.length_drop, h.len], h.byte.drop k, fun hp => ?_⟩
  obtain ⟨b', o', e, hc⟩ := h.cells (by omega)
  simp only [Option.some.injEq, Addr.mk.injEq, and_true] at e
  obtain ⟨rfl, rfl⟩ := e
  refine ⟨_, _, rfl, fun i hi => ?_⟩
  rw [show o + k + i = o + (k + i) by omega, hc (k + i) (by omega)]
  simp [List.getD, List.getElem?_drop]
theorem BIn.drew {w : World} {p : Option Addr} {n : Nat} {xs : List Int} (h : BIn w p n xs) : BIn w.drew p n xs := ⟨h.len, h.byte, h.cells⟩
theorem BIn.empty {w : World} {p : Option Addr} : BIn w p 0 [] := ⟨rfl, Bytes.nil, fun h => by omega⟩
theorem below_undrew {B : Nat} {w w' : World} (h : Below B w.drew w') : Below B w w' := ⟨h.os, h.tape, h.output, h.size, h.block⟩
end Go.Proofs.YtpenddnmmfpdjaaDoor
namespace Go.Proofs.YtpenddnmmfpdjaaDoor
open Go.RowKit

set_option maxHeartbeats 400000 in
set_option maxRecDepth 100000 in
theorem put_input (n s : Int) (w : World) (hs : s < 1 ∨ 8 < s) :
    Calls Tryd.prog 58 #[.int .u64 n, .int .i64 s] w fun e w' => e = .returned (.tuple #[.slice none 0 0, .int .i64 2]) ∧ w = w' := by
  have hd : decide (1 ≤ s ∧ s ≤ 8) = false := decide_eq_false (by omega)
  go_enter Tryd.func58, Tryd.ntmps58
  go_wp2_with (go_at_call 72; refine (isSize_any _ _).mono ?_; rintro e w' ⟨rfl, rfl⟩)
  go_ret2
  exact ⟨rfl, rfl⟩

set_option maxHeartbeats 400000 in
set_option maxRecDepth 100000 in
theorem put_wide (n : Int) (k : Nat) (w : World) (_hn0 : 0 ≤ n) (hs : 1 ≤ k ∧ k ≤ 8) (hw : n / 256 ^ k ≠ 0) :
    Calls Tryd.prog 58 #[.int .u64 n, .int .i64 k] w fun e w' => e = .returned (.tuple #[.slice none 0 0, .int .i64 10]) ∧ w = w' := by
  have hd : decide (1 ≤ (k : Int) ∧ (k : Int) ≤ 8) = true := decide_eq_true (by omega)
  have hq := wide_yes n k hw
  clear hw
  go_enter Tryd.func58, Tryd.ntmps58
  go_wp2_with (go_at_call 72; refine (isSize_any _ _).mono ?_; rintro e w' ⟨rfl, rfl⟩)
  go_ret2
  exact ⟨rfl, rfl⟩

theorem made_filled (n : Int) (k : Nat) : (madeCells #[Value.int .u8 0] k).toList = U8 (filled (digits k n) 0) := by
  rw [filled_zero, digits_length, toList_madeCells_one]
  simp [U8]

set_option maxHeartbeats 1000000 in
set_option maxRecDepth 100000 in
theorem put_ok (n : Int) (k : Nat) (w : World) (_hn0 : 0 ≤ n) (hs : 1 ≤ k ∧ k ≤ 8) (hw : n / 256 ^ k = 0) :
    Calls Tryd.prog 58 #[.int .u64 n, .int .i64 k] w fun e w' => ∃ v', e = .returned (.tuple #[v', .int .i64 0]) ∧ w'.ownsRow w.heap.size 5 1 v' k (U8 (digits k n)) ∧ Below w.heap.size w w' := by
  obtain ⟨i0, hi, hz0, hz1, hz2⟩ := info_parts info5
  have hd : decide (1 ≤ (k : Int) ∧ (k : Int) ≤ 8) = true := decide_eq_true (by omega)
  have hq := wide_no n k hw
  clear hw
  go_enter Tryd.func58, Tryd.ntmps58
  go_wp2_with (first | (go_at_call 72; refine (isSize_any _ _).mono ?_; rintro e w' ⟨rfl, rfl⟩) | (at_make; refine wpList_make_full _ rfl _ _ 24 rfl w.heap.size 5 i0 (.int .u8 0) 1 Tryd.underlying24 hi hz0 hz1 .i64 .i64 _ _ k rfl rfl rfl rfl ?b2 ?b3 ?b4 ?_))
  case b2 => rw [hz2]; omega
  case b3 => unfold maxLen; omega
  case b4 => simp
  intro w1 hown hgrow
  rw [made_filled n k] at hown
  have hb := (Below.refl w.heap.size w).grown hgrow (Nat.le_refl _) (by intro k hk; cases hk)
  clear hgrow hq
  have HL : Hid ((digits k n).length = k) := digits_length k n
  go_wp2
  go_loopw [20] (fun i wr => ∃ j : Nat, j ≤ k ∧ i = .int .i64 j ∧ wr.ownsRow w.heap.size 5 1 (.slice (some ⟨w.heap.size, 0, none⟩) k k) k (U8 (filled (digits k n) j)) ∧ Below w.heap.size w wr) (fun i _ => k - (intOf i).toNat)
  case atStart => exact ⟨0, Nat.zero_le _, rfl, hown, hb⟩
  case round =>
    obtain ⟨j, hj, rfl, hown1, hb1⟩ := hrel
    by_cases hlt : j < k
    · have hdl : j < (digits k n).length := by rw [HL.out]; exact hlt
      have hst := hown1.stored j (.int .u8 ((digits k n)[j]))
      have hcell := hown1.cellAt j (by omega)
      have hlen : (U8 (filled (digits k n) j)).length = k := by simp [U8, filled_length _ _ (Nat.le_of_lt hdl), HL.out]
      obtain ⟨u, hu⟩ : ∃ u, wr.cell? ⟨w.heap.size, j, none⟩ = some u := ⟨_, by rw [hcell]; exact List.getElem?_eq_getElem (by omega)⟩
      have hfz := hown1.frozenAt j
      have HV : Hid (n / 2 ^ (8 * j) % 256 = (digits k n)[j]) := byte_of n k j hdl
      have HF : Hid ((U8 (filled (digits k n) j)).set j (.int .u8 ((digits k n)[j])) = U8 (filled (digits k n) (j + 1))) := by
        show _ = _
        rw [← filled_step _ _ hdl]
        simp [U8, List.map_set]
      have H1 := hst.1
      have H2 := hst.2
      rw [HF.out] at H1
      have HO : Hid (_) := H1
      have HG : Hid (_) := H2
      have HB : Hid (_) := hb1
      clear hst H1 H2 hcell hlen hown1 hb1 hown hb HF
      go_wp2
      go_roundw
      case rel =>
        rw [HV.out]
        exact ⟨j + 1, by omega, by go_num, HO.out, HB.out.grown HG.out (by have := HB.out.size; omega) (by intro q hq; simp at hq; omega)⟩
      case measure => simp [intOf]; omega
    · have hjk : j = k := by omega
      have HR := hown1
      rw [filled_all _ _ (by rw [HL.out]; omega)] at HR
      have HO : Hid (_) := HR
      have HB : Hid (_) := hb1
      clear HR hown1 hb1 hown hb hjk
      go_wp2
      go_ret2
      exact ⟨_, rfl, HO.out, HB.out⟩

theorem put_any (n s : Int) (w : World) (hn0 : 0 ≤ n) :
    Calls Tryd.prog 58 #[.int .u64 n, .int .i64 s] w fun e w' => ∃ v', e = .returned (.tuple #[v', .int .i64 (putS n s).2]) ∧
      w'.ownsRow w.heap.size 5 1 v' (putS n s).1.length (U8 (putS n s).1) ∧ Below w.heap.size w w' := by
  unfold putS
  by_cases hs : s < 1 ∨ 8 < s
  · rw [if_pos hs]
    refine (put_input n s w hs).mono ?_
    rintro e w' ⟨rfl, hw⟩
    subst hw
    exact ⟨_, rfl, World.ownsRow_nil _ _ _ _, Below.refl _ _⟩
  · rw [if_neg hs]
    obtain ⟨k, rfl⟩ := Int.eq_ofNat_of_zero_le (show 0 ≤ s by omega)
    rw [Int.toNat_natCast]
    by_cases hw : n / 256 ^ k ≠ 0
    · rw [if_pos hw]
      refine (put_wide n k w hn0 (by omega) hw).mono ?_
      rintro e w' ⟨rfl, hw⟩
      subst hw
      exact ⟨_, rfl, World.ownsRow_nil _ _ _ _, Below.refl _ _⟩
    · rw [if_neg hw]
      simp only [digits_length]
      exact put_ok n k w hn0 (by omega) (by simpa using hw)

end Go.Proofs.YtpenddnmmfpdjaaDoor
namespace Go.Proofs.YtpenddnmmfpdjaaDoor
open Go.RowKit

theorem size5 : (Tryd.prog.info? 5).map (·.size) = some 1 := by kernel_rfl

set_option maxHeartbeats 400000 in
set_option maxRecDepth 100000 in
theorem pad_input (p : Option Addr) (n c : Nat) (s : Int) (w : World) (hs : s < 0 ∨ 64 < s) :
    Calls Tryd.prog 33 #[.slice p n c, .int .i64 s] w fun e w' => e = .returned (.tuple #[.slice none 0 0, .int .i64 2]) ∧ w = w' := by
  rcases hs with hs | hs
  · go_enter Tryd.func33, Tryd.ntmps33
    go_wp2
    go_ret2
    exact ⟨rfl, rfl⟩
  · have hn : ¬ s < 0 := by omega
    go_enter Tryd.func33, Tryd.ntmps33
    go_wp2
    go_ret2
    exact ⟨rfl, rfl⟩

set_option maxHeartbeats 400000 in
set_option maxRecDepth 100000 in
theorem pad_wide (p : Option Addr) (n c : Nat) (k : Nat) (w : World) (hk : k ≤ 64) (hs : k < n) :
    Calls Tryd.prog 33 #[.slice p n c, .int .i64 k] w fun e w' => e = .returned (.tuple #[.slice none 0 0, .int .i64 10]) ∧ w = w' := by
  go_enter Tryd.func33, Tryd.ntmps33
  go_wp2
  go_ret2
  exact ⟨rfl, rfl⟩

/-- a row of n cells, all of them -/
theorem row_of_full {w : World} {base g n : Nat} {e : TypeId} {xs : List Value} (h : w.ownsRow base e 1 (.slice (some ⟨g, 0, none⟩) n n) n xs) : w.heap[g]? = some (.cells xs.toArray e (0, 0)) := by
  rcases h.2 with ⟨h', _⟩ | ⟨g', cap', cur, h', _, hg, _, _, hsz, htake⟩
  · simp at h'
  · simp only [Value.slice.injEq, Option.some.injEq, Addr.mk.injEq, and_true, true_and] at h'
    obtain ⟨rfl, rfl⟩ := h'
    rw [List.take_of_length_le (by simpa using Nat.le_of_eq hsz)] at htake
    rw [hg, ← htake]

theorem full_of_row {w : World} {base g n : Nat} {e : TypeId} {xs : List Value} (hb : base ≤ g) (hn : xs.length = n) (hm : n ≤ maxLen) (h : w.heap[g]? = some (.cells xs.toArray e (0, 0))) : w.ownsRow base e 1 (.slice (some ⟨g, 0, none⟩) n n) n xs :=
  ⟨by omega, .inr ⟨g, n, xs.toArray, rfl, hb, h, Nat.le_refl _, hm, by simpa using hn, by rw [Nat.mul_one, List.toList_toArray]; exact List.take_of_length_le (by omega)⟩⟩

theorem splice_pad (xs : List Int) (k : Nat) (_h : xs.length ≤ k) : splice (List.replicate k (Value.int .u8 0)) 0 (U8 xs) = U8 (xs ++ List.replicate (k - xs.length) 0) := by
  simp [splice, U8]

theorem ones_u8 (xs : List Int) : ∀ v ∈ U8 xs, v.oneCell' = true := by
  intro u hu; obtain ⟨x, _, rfl⟩ := List.mem_map.1 hu; rfl

theorem BIn.news {w : World} {a : Addr} {n : Nat} {xs : List Int} (h : BIn w (some a) n xs) : ∀ j u, (U8 xs)[j]? = some u → w.cell? (a.add j) = some u := by
  intro j u hj
  have hjn : j < xs.length := by
    have := (List.getElem?_eq_some_iff.1 hj).1
    simpa using this
  rw [h.at j (by have := h.len; omega), ← hj]
  simp [List.getD, List.getElem?_eq_getElem hjn]

theorem BIn.below {B : Nat} {w w' : World} {p : Option Addr} {n : Nat} {xs : List Int} (h : BIn w p n xs) (hb : Below B w w') (hp : ∀ a, p = some a → 0 < n → a.block < B) : BIn w' p n xs := by
  refine ⟨h.len, h.byte, fun h0 => ?_⟩
  obtain ⟨b, o, rfl, hc⟩ := h.cells h0
  refine ⟨b, o, rfl, fun i hi => ?_⟩
  rw [hb.cell (p := ⟨b, o + i, none⟩) (hp ⟨b, o, none⟩ rfl h0)]
  exact hc i hi

theorem BIn.lt {w : World} {a : Addr} {n : Nat} {xs : List Int} (h : BIn w (some a) n xs) (h0 : 0 < n) : a.block < w.heap.size := by
  obtain ⟨b, o, e, hc⟩ := h.cells h0
  simp only [Option.some.injEq] at e
  subst e
  exact World.block_lt_of_cell? w _ (hc 0 h0)

theorem BIn.later {w w' : World} {p : Option Addr} {n : Nat} {xs : List Int} (h : BIn w p n xs) (hb : Below w.heap.size w w') : BIn w' p n xs :=
  h.below hb (fun a e h0 => by subst e; exact h.lt h0)

set_option maxHeartbeats 1000000 in
set_option maxRecDepth 100000 in
theorem pad_ok (p : Option Addr) (n c : Nat) (xs : List Int) (k : Nat) (w : World) (hk : k ≤ 64) (hs : n ≤ k) (h : BIn w p n xs) :
    Calls Tryd.prog 33 #[.slice p n c, .int .i64 k] w fun e w' => ∃ v', e = .returned (.tuple #[v', .int .i64 0]) ∧ w'.ownsRow w.heap.size 5 1 v' k (U8 (xs ++ List.replicate (k - n) 0)) ∧ Below w.heap.size w w' := by
  obtain ⟨i0, hi, hz0, hz1, hz2⟩ := info_parts info5
  go_enter Tryd.func33, Tryd.ntmps33
  go_wp2_with (at_make; refine wpList_make_full _ rfl _ _ 24 rfl w.heap.size 5 i0 (.int .u8 0) 1 Tryd.underlying24 hi hz0 hz1 .i64 .i64 _ _ k rfl rfl rfl rfl ?b2 ?b3 ?b4 ?_)
  case b2 => rw [hz2]; omega
  case b3 => unfold maxLen; omega
  case b4 => simp
  intro w1 hown hgrow
  rw [toList_madeCells_one] at hown
  have hb := (Below.refl w.heap.size w).grown hgrow (Nat.le_refl _) (by intro k hk; cases hk)
  have hg := row_of_full hown
  have h1 := h.later hb
  have HG : Hid (_) := hg
  have HB : Hid (_) := hb
  have HH : Hid (BIn w1 p n xs) := h1
  clear hgrow hown hg hb h1
  have HN : Hid ((U8 xs).length = Nat.min n k) := by show _ = min n k; rw [Nat.min_eq_left hs]; simp [U8, HH.out.len]
  have HF : Hid (0 + (U8 xs).length ≤ (List.replicate k (Value.int .u8 0)).length) := by show _ ≤ _; simp [U8, HH.out.len]; omega
  have HP : Hid (0 < (U8 xs).length → some (⟨w.heap.size, 0, none⟩ : Addr) = some ⟨w.heap.size, 0, none⟩ ∧ ∃ ad, p = some ad ∧ ∀ j v, (U8 xs)[j]? = some v → w1.cell? (ad.add j) = some v) := by
    intro h0
    have h0' : 0 < n := by simpa [U8, HH.out.len] using h0
    obtain ⟨b, o, e, hc⟩ := HH.out.cells h0'
    refine ⟨rfl, ⟨b, o, none⟩, e, ?_⟩
    have h2 := HH.out
    rw [e] at h2
    exact h2.news
  go_wp2_with (refine wpList_copy_splice rfl (.tmp 19) (.tmp 20) 24 24 rfl 5 Tryd.underlying24 size5 (some ⟨w.heap.size, 0, none⟩) p k k n c rfl rfl w.heap.size 0 (List.replicate k (.int .u8 0)) 5 HG.out (U8 xs) HN.out HP.out HF.out (ones_u8 xs) w.heap.size w HB.out (Nat.le_refl _) ?_)
  intro w2 hg2 hb2
  go_wp2
  go_ret2
  refine ⟨_, rfl, full_of_row (Nat.le_refl _) ?_ ?_ ?_, hb2⟩
  · simp [U8, HH.out.len]; omega
  · unfold maxLen; omega
  · have := hg2.out
    rw [splice_pad xs k (by rw [HH.out.len]; exact hs), HH.out.len] at this
    exact this

theorem pad_any (p : Option Addr) (n c : Nat) (xs : List Int) (s : Int) (w : World) (h : BIn w p n xs) :
    Calls Tryd.prog 33 #[.slice p n c, .int .i64 s] w fun e w' => ∃ v', e = .returned (.tuple #[v', .int .i64 (padS xs s).2]) ∧
      w'.ownsRow w.heap.size 5 1 v' (padS xs s).1.length (U8 (padS xs s).1) ∧ Below w.heap.size w w' := by
  unfold padS
  by_cases hs : s < 0 ∨ 64 < s
  · rw [if_pos hs]
    refine (pad_input p n c s w hs).mono ?_
    rintro e w' ⟨rfl, rfl⟩
    exact ⟨_, rfl, World.ownsRow_nil _ _ _ _, Below.refl _ _⟩
  · rw [if_neg hs]
    obtain ⟨k, rfl⟩ := Int.eq_ofNat_of_zero_le (show 0 ≤ s by omega)
    rw [Int.toNat_natCast, h.len]
    by_cases hk : (k : Int) < n
    · rw [if_pos hk]
      refine (pad_wide p n c k w (by omega) (by omega)).mono ?_
      rintro e w' ⟨rfl, rfl⟩
      exact ⟨_, rfl, World.ownsRow_nil _ _ _ _, Below.refl _ _⟩
    · rw [if_neg hk]
      have e : (xs ++ List.replicate (k - n) 0).length = k := by simp [h.len]; omega
      rw [e]
      exact pad_ok p n c xs k w (by omega) (by omega) h

end Go.Proofs.YtpenddnmmfpdjaaDoor
namespace Go.Proofs.YtpenddnmmfpdjaaDoor
open Go.RowKit

/-- a value that is a []byte of these numbers -/
def SIn (w : World) (v : Value) (xs : List Int) : Prop := ∃ p n c, v = .slice p n c ∧ BIn w p n xs ∧ n ≤ c ∧ (p = none → c = 0)

/-- how a [][]byte lies that is read -/
structure PIn (w : World) (p : Option Addr) (n : Nat) (vs : List Value) (ls : List (List Int)) : Prop where
  len : vs.length = n
  len2 : ls.length = n
  cells : 0 < n → ∃ b o, p = some ⟨b, o, none⟩ ∧ ∀ i (h : i < vs.length), w.cell? ⟨b, o + i, none⟩ = some vs[i]
  parts : ∀ i (h : i < vs.length) (h2 : i < ls.length), SIn w vs[i] ls[i]

theorem SIn.later {w w' : World} {v : Value} {xs : List Int} (h : SIn w v xs) (hb : Below w.heap.size w w') : SIn w' v xs := by
  obtain ⟨p, n, c, rfl, h1, h2, h3⟩ := h
  exact ⟨p, n, c, rfl, h1.later hb, h2, h3⟩

theorem PIn.later {w w' : World} {p : Option Addr} {n : Nat} {vs : List Value} {ls : List (List Int)} (h : PIn w p n vs ls) (hb : Below w.heap.size w w') : PIn w' p n vs ls := by
  refine ⟨h.len, h.len2, fun h0 => ?_, fun i h1 h2 => (h.parts i h1 h2).later hb⟩
  obtain ⟨b, o, rfl, hc⟩ := h.cells h0
  refine ⟨b, o, rfl, fun i hi => ?_⟩
  rw [hb.cell (p := ⟨b, o + i, none⟩) (World.block_lt_of_cell? w ⟨b, o + i, none⟩ (hc i hi))]
  exact hc i hi

set_option maxHeartbeats 1000000 in
set_option maxRecDepth 100000 in
theorem join_pos (b o n c : Nat) (vs : List Value) (ls : List (List Int)) (w : World) (h : PIn w (some ⟨b, o, none⟩) n vs ls) (h0 : 0 < n) (hbig : ls.flatten.length ≤ 140737488355328) (hn : n ≤ 140737488355328) :
    Calls Tryd.prog 34 #[.slice (some ⟨b, o, none⟩) n c] w fun e w' => ∃ v', e = .returned v' ∧ w'.ownsRow w.heap.size 5 1 v' ls.flatten.length (U8 ls.flatten) ∧ Below w.heap.size w w' := by
  obtain ⟨i0, hi, hz0, hz1, hz2⟩ := info_parts info5
  have HV : Hid (vs.length = n) := h.len
  have HL : Hid (ls.length = n) := h.len2
  go_enter Tryd.func34, Tryd.ntmps34
  go_wp2
  go_loop [3, 11] (fun t i => ∃ k : Nat, k ≤ n ∧ i = .int .i64 k ∧ t = .int .i64 (flen ls k)) (fun _ i => n - (intOf i).toNat)
  case atStart => exact ⟨0, Nat.zero_le _, rfl, rfl⟩
  case round =>
    obtain ⟨k, hk, rfl, rfl⟩ := hrel
    have hfl := flen_le ls k
    by_cases hlt : k < n
    · have hkv : k < vs.length := by rw [HV.out]; exact hlt
      have hkl : k < ls.length := by rw [HL.out]; exact hlt
      obtain ⟨b', o', e, hc0⟩ := h.cells h0
      simp only [Option.some.injEq, Addr.mk.injEq, and_true] at e
      obtain ⟨rfl, rfl⟩ := e
      have hc := hc0 k hkv
      obtain ⟨p1, n1, c1, e1, h1, h2, h3⟩ := h.parts k hkv hkl
      rw [e1] at hc
      have hfl2 := flen_le ls (k + 1)
      have hsl : flen ls (k + 1) = flen ls k + n1 := by rw [flen_step ls k hkl, h1.len]
      have hs2 : flen ls k + n1 ≤ ls.flatten.length := by omega
      have HS : Hid (_) := hsl
      clear hc0 hsl hfl2 e1 h1 h2 h3
      go_wp2
      go_round
      case rel => exact ⟨k + 1, by omega, by go_num, by rw [HS.out]; go_num⟩
      case measure => simp [intOf]; omega
    · have hall : flen ls k = ls.flatten.length := by exact flen_all ls k (by rw [HL.out]; omega)
      have HA : Hid (_) := hall
      clear hall hfl
      rw [HA.out]
      clear HA
      generalize hT : ls.flatten.length = T at *
      have HT : Hid (ls.flatten.length = T) := hT
      clear hT
      go_wp2_with (at_make; refine wpList_make_own _ rfl _ _ 24 rfl w.heap.size 5 i0 (.int .u8 0) 1 Tryd.underlying24 hi hz0 hz1 .i64 .i64 _ T rfl rfl rfl (by rw [hz2]; omega) (by unfold maxLen; omega) (Nat.le_refl _) ?_)
      intro w1 hown hgrow
      have hb := (Below.refl w.heap.size w).grown hgrow (Nat.le_refl _) (by intro k hk; cases hk)
      clear hgrow
      go_wp2
      go_loopw [6, 24] (fun v i wr => ∃ k : Nat, k ≤ n ∧ i = .int .i64 k ∧ v = .slice (some ⟨w.heap.size, 0, none⟩) (flen ls k) T ∧
          wr.ownsRow w.heap.size 5 1 (.slice (some ⟨w.heap.size, 0, none⟩) (flen ls k) T) (flen ls k) (U8 (ls.take k).flatten) ∧ Below w.heap.size w wr) (fun _ i _ => n - (intOf i).toNat)
      case atStart => exact ⟨0, Nat.zero_le _, rfl, rfl, hown, hb⟩
      case round =>
        obtain ⟨j, hj, rfl, rfl, hownr, hbr⟩ := hrel
        have hfl := flen_le ls j
        rw [HT.out] at hfl
        by_cases hlt : j < n
        · have hkv : j < vs.length := by rw [HV.out]; exact hlt
          have hkl : j < ls.length := by rw [HL.out]; exact hlt
          have h' := h.later hbr
          obtain ⟨b', o', e, hc0⟩ := h'.cells h0
          simp only [Option.some.injEq, Addr.mk.injEq, and_true] at e
          obtain ⟨rfl, rfl⟩ := e
          have hc := hc0 j hkv
          obtain ⟨p1, n1, c1, e1, h1, h2, h3⟩ := h'.parts j hkv hkl
          rw [e1] at hc
          have hfl2 := flen_le ls (j + 1)
          rw [HT.out] at hfl2
          have hst := flat_step ls j hkl
          have hsl : flen ls (j + 1) = flen ls j + n1 := by rw [flen_step ls j hkl, h1.len]
          have hs2 : flen ls j + n1 ≤ T := by omega
          have HS : Hid (_) := hsl
          have HST : Hid (_) := hst
          have HB : Hid (_) := hbr
          have HO : Hid (wr.ownsRow w.heap.size 5 1 (.slice (some ⟨w.heap.size, 0, none⟩) (flen ls j) T) (flen ls j) (U8 (ls.take j).flatten)) := hownr
          have H1 : Hid (BIn wr p1 n1 ls[j]) := h1
          have HN : Hid ((U8 ls[j]).length = n1 * 1) := by show _ = _; simp [U8, h1.len]
          have HZ : Hid (p1 = none → n1 = 0 ∧ c1 = 0) := fun e => ⟨by have := h3 e; omega, h3 e⟩
          have HC : Hid (∀ ad, p1 = some ad → ∀ j' u, (U8 ls[j])[j']? = some u → wr.cell? (ad.add j') = some u) := fun ad e => by subst e; exact h1.news
          clear hc0 hst hsl hfl2 e1 h1 h2 h3 h' hownr hbr hb hown
          go_wp2_with (at_builtin; refine wpList_append_fits_any _ rfl (.tmp 28) (.tmp 29) 24 rfl w.heap.size 5 i0 1 Tryd.underlying24 hi hz1 w.heap.size _ T _ rfl HO.out p1 n1 c1 (U8 ls[j]) rfl HN.out HZ.out HC.out (ones_u8 _) hs2 ?_)
          intro w2 hown2 hgrow2
          have R : w2.ownsRow w.heap.size 5 1 (.slice (some ⟨w.heap.size, 0, none⟩) (flen ls (j + 1)) T) (flen ls (j + 1)) (U8 (ls.take (j + 1)).flatten) := by
            rw [HS.out, HST.out]
            simpa [U8] using hown2
          have RB := HB.out.grown hgrow2 (HB.out.size) (by intro q hq; simp at hq; omega)
          have HR : Hid (_) := R
          have HRB : Hid (_) := RB
          clear R RB hown2 hgrow2
          go_wp2
          go_roundw
          case rel => exact ⟨j + 1, by omega, by go_num, by rw [HS.out], HR.out, HRB.out⟩
          case measure => simp [intOf]; omega
        · have e : (ls.take j).flatten = ls.flatten := flat_all ls j (by rw [HL.out]; omega)
          have e2 : flen ls j = T := (flen_all ls j (by rw [HL.out]; omega)).trans HT.out
          rw [e, e2] at hownr
          rw [e2]
          have HB : Hid (_) := hbr
          have HO : Hid (wr.ownsRow w.heap.size 5 1 (.slice (some ⟨w.heap.size, 0, none⟩) T T) T (U8 ls.flatten)) := hownr
          clear hownr hbr hb hown e e2
          go_wp2
          go_ret
          refine ⟨_, rfl, ?_, HB.out⟩
          rw [HT.out]
          exact HO.out

set_option maxHeartbeats 1000000 in
set_option maxRecDepth 100000 in
theorem join_zero (p : Option Addr) (c : Nat) (w : World) :
    Calls Tryd.prog 34 #[.slice p 0 c] w fun e w' => ∃ v', e = .returned v' ∧ w'.ownsRow w.heap.size 5 1 v' 0 [] ∧ Below w.heap.size w w' := by
  obtain ⟨i0, hi, hz0, hz1, hz2⟩ := info_parts info5
  go_enter Tryd.func34, Tryd.ntmps34
  go_wp2
  refine wp_loop_rounds 1 ?_
  rw [rounds_succ]
  go_wp2_with (at_make; refine wpList_make_own _ rfl _ _ 24 rfl w.heap.size 5 i0 (.int .u8 0) 1 Tryd.underlying24 hi hz0 hz1 .i64 .i64 _ 0 rfl rfl rfl (by rw [hz2]; omega) (Nat.zero_le _) (Nat.le_refl _) ?_)
  intro w1 hown hgrow
  have hb := (Below.refl w.heap.size w).grown hgrow (Nat.le_refl _) (by intro k hk; cases hk)
  go_wp2
  refine wp_loop_rounds 1 ?_
  rw [rounds_succ]
  go_wp2
  go_ret
  exact ⟨_, rfl, hown, hb⟩

theorem join_any (p : Option Addr) (n c : Nat) (vs : List Value) (ls : List (List Int)) (w : World) (h : PIn w p n vs ls) (hbig : ls.flatten.length ≤ 140737488355328) (hn : n ≤ 140737488355328) :
    Calls Tryd.prog 34 #[.slice p n c] w fun e w' => ∃ v', e = .returned v' ∧ w'.ownsRow w.heap.size 5 1 v' ls.flatten.length (U8 ls.flatten) ∧ Below w.heap.size w w' := by
  by_cases h0 : 0 < n
  · obtain ⟨b, o, rfl, hc⟩ := h.cells h0
    exact join_pos b o n c vs ls w h h0 hbig hn
  · obtain rfl : n = 0 := by omega
    obtain rfl : ls = [] := List.eq_nil_of_length_eq_zero h.len2
    exact join_zero p c w

end Go.Proofs.YtpenddnmmfpdjaaDoor
namespace Go.Proofs.YtpenddnmmfpdjaaDoor
open Go.RowKit

/-- what is owned stays owned behind a call that turns nothing that was there -/
theorem own_later {w w' : World} {base : Nat} {e : TypeId} {size : Nat} {v : Value} {n : Nat} {xs : List Value} (h : w.ownsRow base e size v n xs) (hb : Below w.heap.size w w') : w'.ownsRow base e size v n xs := by
  refine ⟨h.1, ?_⟩
  rcases h.2 with hn | ⟨g, cap, cur, rfl, h1, hg, rest⟩
  · exact .inl hn
  · exact .inr ⟨g, cap, cur, rfl, h1, (hb.block g (Array.getElem?_eq_some_iff.1 hg).1).trans hg, rest⟩
theorem own_mono {w : World} {base base' : Nat} {e : TypeId} {size : Nat} {v : Value} {n : Nat} {xs : List Value} (h : w.ownsRow base e size v n xs) (hb : base' ≤ base) : w.ownsRow base' e size v n xs := by
  refine ⟨h.1, ?_⟩
  rcases h.2 with hn | ⟨g, cap, cur, rfl, h1, rest⟩
  · exact .inl hn
  · exact .inr ⟨g, cap, cur, rfl, Nat.le_trans hb h1, rest⟩
/-- string(b) of a []byte that lies so -/
theorem BIn.str {w : World} {p : Option Addr} {n : Nat} {xs : List Int} (h : BIn w p n xs) (c : Nat) :
    (convert 24 9 (.slice p n c)).run Tryd.prog w = .ok (.string (strOfNums xs)) w := by
  by_cases h0 : 0 < n
  · obtain ⟨b, o, rfl, hc⟩ := h.cells h0
    exact run_convert_bytes_arg w 24 5 Tryd.underlying24 Tryd.underlying5 b o n c xs h.len hc 9 Tryd.underlying9
  · obtain rfl : n = 0 := by omega
    obtain rfl : xs = [] := List.eq_nil_of_length_eq_zero h.len
    rw [run_convert_bytes_string w 24 9 5 _ 0 c Tryd.underlying24 Tryd.underlying5 Tryd.underlying9]
    cases p <;> simp [Conv.bytesToString, loadCells]
    all_goals rfl
/-- what is owned is read -/
theorem own_in {w : World} {base : Nat} {v : Value} {n : Nat} {xs : List Int} (h : w.ownsRow base 5 1 v n (U8 xs)) (hb : Bytes xs) : ∃ p c, v = .slice p n c ∧ BIn w p n xs ∧ n ≤ c ∧ (p = none → c = 0) ∧ c ≤ maxLen := by
  have hl : xs.length = n := by have := h.1; simpa [U8] using this
  rcases h.2 with ⟨rfl, rfl⟩ | ⟨g, cap, cur, rfl, h1, hg, hnc, hcm, hsz, htake⟩
  · exact ⟨none, 0, rfl, ⟨hl, hb, fun h0 => absurd h0 (Nat.lt_irrefl 0)⟩, Nat.le_refl _, fun _ => rfl, Nat.zero_le _⟩
  · refine ⟨_, cap, rfl, ⟨hl, hb, fun h0 => ⟨g, 0, rfl, fun i hi => ?_⟩⟩, hnc, (fun e => by cases e), hcm⟩
    have := h.cellAt i (by omega)
    rw [Nat.zero_add, this]
    simp [U8, List.getD, List.getElem?_eq_getElem (show i < xs.length by omega)]
theorem str_list (xs : List Int) : (strOfNums xs).toList = xs.map fun n => UInt8.ofNat n.toNat := by rw [ByteArray.toList_eq]; rfl
theorem bytes_of {xs : List Int} (h : xs.all (fun x => decide (0 ≤ x ∧ x < 256)) = true) : Bytes xs := by
  intro x hx
  have := List.all_eq_true.1 h x hx
  simpa using this
/-- a literal's block -/
theorem lit_in (w : World) (xs : List Int) (n : Nat) (hl : xs.length = n) (hb : Bytes xs) : BIn (w.alloc (.cells (U8 xs).toArray 5)) (some ⟨w.heap.size, 0, none⟩) n xs := by
  refine ⟨hl, hb, fun h0 => ⟨_, 0, rfl, fun i hi => ?_⟩⟩
  rw [Nat.zero_add, cell_of_row _ w.heap.size i (U8 xs).toArray 5 (0, 0) (heap_alloc_new w _)]
  simp [U8, List.getD, List.getElem?_eq_getElem (show i < xs.length by omega)]
theorem BIn.drewN {w : World} {p : Option Addr} {n : Nat} {xs : List Int} (h : BIn w p n xs) (j : Nat) : BIn (w.drewN j) p n xs := ⟨h.len, h.byte, h.cells⟩
theorem below_alloc (w : World) (o : Obj) : Below w.heap.size w (w.alloc o) := (Below.refl _ _).alloc (Nat.le_refl _) o
theorem below_of_alloc {w w' : World} {o : Obj} (h : Below (w.alloc o).heap.size (w.alloc o) w') : Below w.heap.size w w' := (below_alloc w o).trans (h.mono (by simp))
/-- one call behind another -/
theorem below_then {a b c : World} (h : Below a.heap.size a b) (k : Below b.heap.size b c) : Below a.heap.size a c := h.trans (k.mono h.size)
theorem str_inj {xs ys : List Int} (hx : Bytes xs) (hy : Bytes ys) (h : (strOfNums xs).toList = (strOfNums ys).toList) : xs = ys := by
  rw [str_list, str_list] at h
  have hl : xs.length = ys.length := by have := congrArg List.length h; simpa using this
  apply List.ext_getElem hl
  intro i h1 h2
  have e := congrArg (fun l : List UInt8 => l[i]?) h
  simp only [List.getElem?_map, List.getElem?_eq_getElem h1, List.getElem?_eq_getElem h2, Option.map_some, Option.some.injEq] at e
  have e2 := congrArg UInt8.toNat e
  have b1 := hx.at i h1
  have b2 := hy.at i h2
  simp only [UInt8.toNat_ofNat'] at e2
  omega
theorem str_eq (xs ys : List Int) (hx : Bytes xs) (hy : Bytes ys) : ((strOfNums xs).toList == (strOfNums ys).toList) = decide (xs = ys) := by
  by_cases e : xs = ys
  · subst e; simp
  · rw [decide_eq_false e, beq_eq_false_iff_ne]
    exact fun h => e (str_inj hx hy h)
theorem below_drawn {B : Nat} {w : World} (nq : Nat) : Below B w (w.drewN nq) := ⟨rfl, rfl, rfl, Nat.le_refl _, fun _ _ => rfl⟩
/-- how long a slice is -/
def lenOf : Value → Nat | .slice _ n _ => n | _ => 0
/-- 'append(out, x...)', out the call's own, x whatever: nil too -/
theorem wpList_append_ownany {P : Program} (w : World) {ops : Array Oper} {rest : List Oper} {o : Oper} {a : Act} {Q : Exit → Act → World → Prop} (hgd : o.guard = none) (s x : Operand) (t : TypeId)
    (ho : o.op = .call { callee := .builtin .append, args := #[s, x], argTypes := #[t, t] })
    (base : Nat) (e : TypeId) (i : TypeInfo) (z : Value) (size bytes : Nat) (ht : P.underlying t = some (.slice e)) (hi : P.info? e = some i) (hz : i.zero = some z)
    (hsize : i.size = size) (hby : i.bytes = bytes) (hzs : z.cells.size = size) (hsz : 0 < size)
    (v : Value) (n : Nat) (xs : List Value) (hs : a.eval s = v) (hown : w.ownsRow base e size v n xs)
    (ao : Option Addr) (m c : Nat) (news : List Value) (hx : a.eval x = .slice ao m c) (hnone : ao = none → m = 0 ∧ c = 0) (hl : news.length = m * size) (hnews : ∀ ad, ao = some ad → ∀ j u, news[j]? = some u → w.cell? (ad.add j) = some u) (h1 : ∀ u ∈ news, u.oneCell' = true)
    (h63 : n + m ≤ maxLen) (hbytes : (n + m) * bytes ≤ 140737488355328) (hbase : base ≤ w.heap.size)
    (h : ∀ v' w', w'.ownsRow base e size v' (n + m) (xs ++ news) → w.grownBy w' v.ownBlock → wpList P ops Q rest (a.put o.dst v') w') : wpList P ops Q (o :: rest) a w := by
  cases ao with
  | some ad => exact wpList_append_own w hgd s x t ho base e i z size bytes ht hi hz hsize hby hzs hsz v n xs hs hown ad m c news hx hl (hnews ad rfl) h1 h63 hbytes hbase fun v' w' a b _ => h v' w' a b
  | none =>
    obtain ⟨rfl, rfl⟩ := hnone rfl
    obtain rfl : news = [] := List.eq_nil_of_length_eq_zero (by simpa using hl)
    exact wpList_append_own_none hgd s x t ho base e i size ht hi v n xs hs hown hx (h v w (by simpa using hown) (World.grownBy.refl _ _))
end Go.Proofs.YtpenddnmmfpdjaaDoor
namespace Go.Proofs.YtpenddnmmfpdjaaDoor
open Go.RowKit

/-- the table lies where the program lays it -/
def Half (w : World) : Prop := ∀ i : Nat, i < 16 → w.cell? ⟨1, i, none⟩ = some (.int .u32 ((table.getD i 0 : Nat) : Int))
theorem Half.at {w : World} (h : Half w) (y : Nat) : w.cell? ⟨1, y % 16, none⟩ = some (.int .u32 ((table.getD (y % 16) 0 : Nat) : Int)) := h _ (Nat.mod_lt _ (by omega))
theorem table_lt (y : Nat) : table.getD (y % 16) 0 < 4294967296 := by
  rw [table_hn _ (Nat.mod_lt _ (by omega))]
  exact hn_lt _ _ (by omega)
/-- four halvings as the program makes them -/
theorem four_step (w : World) (ht : Half w) (y : Nat) (hy : y < 4294967296) : ∃ t : Nat, w.cell? ⟨1, y % 16, none⟩ = some (.int .u32 (t : Int)) ∧
    bits .xor .u32 ((y : Int) / 16) (t : Int) = ((hn 4 y : Nat) : Int) ∧ bits .and .u32 (y : Int) 15 = ((y % 16 : Nat) : Int) := by
  refine ⟨_, ht.at y, ?_, ?_⟩
  · rw [← hn_four, ← u32_xor_nat (y / 16) _ (by omega) (table_lt y)]
    rfl
  · have := u32_and_nat y 15 hy (by omega)
    rw [nat_mask4] at this
    exact this
set_option maxHeartbeats 400000 in
set_option maxRecDepth 100000 in
theorem push_any (x : Nat) (c : Int) (hx : x < 4294967296) (hc0 : 0 ≤ c) (hc1 : c < 256) (w : World) (ht : Half w) :
    Calls Tryd.prog 59 #[.int .u32 x, .int .u8 c] w fun e w' => e = .returned (.int .u32 (hn 8 (x ^^^ c.toNat) : Nat)) ∧ w = w' := by
  obtain ⟨y, hy⟩ : ∃ y, y = x ^^^ c.toNat := ⟨_, rfl⟩
  have hyl : y < 4294967296 := by rw [hy]; exact xor_lt _ _ hx (by omega)
  have h1 : bits .xor .u32 (x : Int) c = (y : Int) := by
    rw [hy, ← u32_xor_nat x c.toNat hx (by omega)]
    congr 1
    omega
  obtain ⟨t, ht1, ht2, ht3⟩ := four_step w ht y hyl
  obtain ⟨z, hz⟩ : ∃ z, z = hn 4 y := ⟨_, rfl⟩
  have hzl : z < 4294967296 := by rw [hz]; exact hn_lt _ _ hyl
  obtain ⟨s, hs1, hs2, hs3⟩ := four_step w ht z hzl
  rw [← hz] at ht2
  obtain ⟨r, hr⟩ : ∃ r, r = hn 4 z := ⟨_, rfl⟩
  rw [← hr] at hs2
  have HY : Hid (r = hn 8 (x ^^^ c.toNat)) := by
    show r = _
    rw [hr, hz, hy, ← hn_add]
  clear hy hz hr ht
  go_enter Tryd.func59, Tryd.ntmps59
  go_wp2
  go_ret
  refine ⟨?_, rfl⟩
  simp [HY.out]
theorem hn_next (k y : Nat) : hn (k + 1) y = hv (hn k y) := by rw [hn_add k 1]; rfl
theorem st_step (x : Nat) (xs : List Int) (k : Nat) (hk : k < xs.length) : st x (xs.take (k + 1)) = hn 8 (st x (xs.take k) ^^^ xs[k].toNat) := by
  rw [List.take_succ_eq_append_getElem hk, st_append]; rfl
theorem st_parts (x : Nat) (ls : List (List Int)) (k : Nat) (hk : k < ls.length) : st x (ls.take (k + 1)).flatten = st (st x (ls.take k).flatten) ls[k] := by
  rw [flat_step ls k hk, st_append]
theorem turn_all (x : Nat) (hx : x < 4294967296) : bits .xor .u32 IntKind.u32.max (x : Int) = ((x ^^^ 4294967295 : Nat) : Int) := by
  rw [Nat.xor_comm, ← u32_xor_nat 4294967295 x (by omega) hx]
  rfl
set_option maxHeartbeats 1000000 in
set_option maxRecDepth 100000 in
theorem of_pos (b o n c : Nat) (vs : List Value) (ls : List (List Int)) (w : World) (h : PIn w (some ⟨b, o, none⟩) n vs ls) (h0 : 0 < n) (hbig : ls.flatten.length ≤ 140737488355328) (hnb : n ≤ 140737488355328) (ht : Half w) :
    Calls Tryd.prog 36 #[.slice (some ⟨b, o, none⟩) n c] w fun e w' => e = .returned (.int .u32 (crc ls.flatten : Nat)) ∧ w = w' := by
  have HV : Hid (vs.length = n) := h.len
  have HL : Hid (ls.length = n) := h.len2
  have HT : Hid (Half w) := ht
  have HB : Hid (∀ l ∈ ls, Bytes l) := by
    intro l hl
    obtain ⟨i, hi, rfl⟩ := List.getElem_of_mem hl
    obtain ⟨p1, n1, c1, _, h1, _⟩ := h.parts i (by rw [h.len, ← h.len2]; exact hi) hi
    exact h1.byte
  have HF : Hid (∀ k, Bytes (ls.take k).flatten) := fun k => Bytes.flatten (fun l hl => HB.out l (List.mem_of_mem_take hl))
  have HBl : Hid (ls.flatten.length ≤ 140737488355328) := hbig
  clear ht hbig
  go_enter Tryd.func36, Tryd.ntmps36
  go_wp2
  go_loop [3, 10] (fun x i => ∃ k : Nat, k ≤ n ∧ i = .int .i64 k ∧ x = .int .u32 (st 4294967295 (ls.take k).flatten : Nat)) (fun _ i => n - (intOf i).toNat)
  case atStart => exact ⟨0, Nat.zero_le _, rfl, rfl⟩
  case round =>
    obtain ⟨k, hk, rfl, rfl⟩ := hrel
    have hlt0 := st_lt 4294967295 (ls.take k).flatten (by omega) (HF.out k)
    by_cases hlt : k < n
    · have hkv : k < vs.length := by rw [HV.out]; exact hlt
      have hkl : k < ls.length := by rw [HL.out]; exact hlt
      obtain ⟨b', o', e, hc0⟩ := h.cells h0
      simp only [Option.some.injEq, Addr.mk.injEq, and_true] at e
      obtain ⟨rfl, rfl⟩ := e
      have hc := hc0 k hkv
      obtain ⟨p1, n1, c1, e1, h1, h2, h3⟩ := h.parts k hkv hkl
      rw [e1] at hc
      have hfl2 := flen_le ls (k + 1)
      have hsl : flen ls (k + 1) = flen ls k + n1 := by rw [flen_step ls k hkl, h1.len]
      have hn1 : n1 ≤ 140737488355328 := by have := HBl.out; omega
      have HS : Hid (st 4294967295 (ls.take (k + 1)).flatten = st (st 4294967295 (ls.take k).flatten) ls[k]) := st_parts _ ls k hkl
      have HP : Hid (BIn w p1 n1 ls[k]) := h1
      have HK : Hid (Bytes ls[k]) := h1.byte
      obtain ⟨y, hy⟩ : ∃ y, y = st 4294967295 (ls.take k).flatten := ⟨_, rfl⟩
      obtain ⟨xs, hxs⟩ : ∃ xs, xs = ls[k] := ⟨_, rfl⟩
      rw [← hxs] at HP HK HS
      rw [← hy] at hlt0 HS ⊢
      clear hc0 hsl hfl2 e1 h1 h2 h3 hy hxs
      by_cases h1p : 0 < n1
      · obtain ⟨b1, o1, rfl, hcs⟩ := HP.out.cells h1p
        have HC : Hid (∀ i, i < n1 → w.cell? ⟨b1, o1 + i, none⟩ = some (.int .u8 (xs.getD i 0))) := hcs
        have HX : Hid (xs.length = n1) := HP.out.len
        clear hcs
        go_wp2
        go_loop [3, 16] (fun x i => ∃ j : Nat, j ≤ n1 ∧ i = .int .i64 j ∧ x = .int .u32 (st y (xs.take j) : Nat)) (fun _ i => n1 - (intOf i).toNat)
        case atStart => exact ⟨0, Nat.zero_le _, rfl, rfl⟩
        case round =>
          obtain ⟨j, hj, rfl, rfl⟩ := hrel
          have hlj := st_lt y (xs.take j) hlt0 (HK.out.take j)
          by_cases hjl : j < n1
          · have hcj := HC.out j hjl
            have hjx : j < xs.length := by rw [HX.out]; exact hjl
            have hb := HK.out.at j hjx
            have HJ : Hid (st y (xs.take (j + 1)) = hn 8 (st y (xs.take j) ^^^ xs[j].toNat)) := st_step y xs j hjx
            rw [show xs.getD j 0 = xs[j] by simp [List.getD, List.getElem?_eq_getElem hjx]] at hcj
            obtain ⟨z, hz⟩ : ∃ z, z = st y (xs.take j) := ⟨_, rfl⟩
            rw [← hz] at hlj HJ ⊢
            obtain ⟨q, hq⟩ : ∃ q, q = xs[j] := ⟨_, rfl⟩
            rw [← hq] at hb HJ hcj
            obtain ⟨hb0, hb1⟩ := hb
            clear hz hq
            go_wp2_with (go_at_call 59; refine (push_any z q hlj hb0 hb1 _ HT.out).mono ?_; rintro e w' ⟨rfl, rfl⟩)
            go_round
            case rel => exact ⟨j + 1, by omega, by go_num, by rw [HJ.out]⟩
            case measure => simp [intOf]; omega
          · have HA : Hid (xs.take j = xs) := List.take_of_length_le (by rw [HX.out]; omega)
            go_wp2
            go_round
            case rel => exact ⟨k + 1, by omega, by go_num, by rw [HS.out, HA.out]⟩
            case measure => simp [intOf]; omega
      · have hz1 : n1 = 0 := by omega
        subst hz1
        have HX : Hid (xs = []) := List.eq_nil_of_length_eq_zero HP.out.len
        go_wp2
        refine wp_loop_rounds 1 ?_
        rw [rounds_succ]
        go_wp2
        go_round
        case rel => exact ⟨k + 1, by omega, by go_num, by rw [HS.out, HX.out]; rfl⟩
        case measure => simp [intOf]; omega
    · have HA : Hid ((ls.take k).flatten = ls.flatten) := flat_all ls k (by rw [HL.out]; omega)
      go_wp2
      go_ret
      refine ⟨?_, rfl⟩
      have e := turn_all _ hlt0
      rw [HA.out] at e
      simp only [HA.out]
      rw [crc, ← e]
      rfl
set_option maxHeartbeats 400000 in
set_option maxRecDepth 100000 in
theorem of_zero (p : Option Addr) (c : Nat) (w : World) :
    Calls Tryd.prog 36 #[.slice p 0 c] w fun e w' => e = .returned (.int .u32 0) ∧ w = w' := by
  go_enter Tryd.func36, Tryd.ntmps36
  go_wp2
  refine wp_loop_rounds 1 ?_
  rw [rounds_succ]
  go_wp2
  go_ret
  exact ⟨rfl, rfl⟩
theorem of_parts (p : Option Addr) (n c : Nat) (vs : List Value) (ls : List (List Int)) (w : World) (h : PIn w p n vs ls) (hbig : ls.flatten.length ≤ 140737488355328) (hnb : n ≤ 140737488355328) (ht : Half w) :
    Calls Tryd.prog 36 #[.slice p n c] w fun e w' => e = .returned (.int .u32 (crc ls.flatten : Nat)) ∧ w = w' := by
  by_cases h0 : 0 < n
  · obtain ⟨b, o, rfl, hc⟩ := h.cells h0
    exact of_pos b o n c vs ls w h h0 hbig hnb ht
  · obtain rfl : n = 0 := by omega
    obtain rfl : ls = [] := List.eq_nil_of_length_eq_zero h.len2
    refine (of_zero p c w).mono ?_
    rintro e w' ⟨rfl, hw⟩
    exact ⟨by rw [show crc ([] : List (List Int)).flatten = 0 from rfl]; rfl, hw⟩
end Go.Proofs.YtpenddnmmfpdjaaDoor
