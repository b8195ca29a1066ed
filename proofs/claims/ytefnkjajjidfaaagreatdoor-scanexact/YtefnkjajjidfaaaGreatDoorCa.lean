/-
  Contracts of layer 1, first part: isSize, number, bytes.Clone.
-/
import Derived.Test.YtefnkjajjidfaaaGreatDoorRows
import Derived.Test.YtefnkjajjidfaaaGreatDoorMath
import Derived.WalkKit
import Derived.WalkSpells
import Derived.WalkLawsBesides
namespace Go.Proofs.YtefnkjajjidfaaaGreatDoor
open Go.RowKit

theorem info5 : (Tryz.prog.info? 5).map (fun i => (i.zero, i.size, i.bytes)) = some (some (.int .u8 0), 1, 1) := by kernel_rfl
theorem info3 : (Tryz.prog.info? 3).map (fun i => (i.zero, i.size, i.bytes)) = some (some (.int .i64 0), 1, 8) := by kernel_rfl
theorem info27 : (Tryz.prog.info? 31).map (fun i => (i.zero, i.size, i.bytes)) = some (some (.int .u64 0), 1, 8) := by kernel_rfl

/-- how a []byte lies that is read: n bytes, the numbers xs; where there is none: whatever the address -/
structure BIn (w : World) (p : Option Addr) (n : Nat) (xs : List Int) : Prop where
  len : xs.length = n
  byte : Bytes xs
  cells : 0 < n → ∃ b o, p = some ⟨b, o, none⟩ ∧ ∀ i, i < n → w.cell? ⟨b, o + i, none⟩ = some (.int .u8 (xs.getD i 0))

abbrev U8 (xs : List Int) : List Value := xs.map (Value.int .u8)

set_option maxHeartbeats 400000 in
set_option maxRecDepth 100000 in
theorem isSize_any (s : Int) (w : World) :
    Calls Tryz.prog 87 #[.int .i64 s] w fun e w' => e = .returned (.bool (decide (1 ≤ s ∧ s ≤ 8))) ∧ w = w' := by
  go_enter Tryz.func87, Tryz.ntmps87
  go_wp2
  all_goals go_ret
  all_goals (refine ⟨?_, rfl⟩; simp; omega)

set_option maxHeartbeats 400000 in
set_option maxRecDepth 100000 in
theorem number_pos (b o n c : Nat) (xs : List Int) (w : World) (hx : xs.length = n) (hn : n ≤ 8)
    (h : ∀ i, i < n → w.cell? ⟨b, o + i, none⟩ = some (.int .u8 (xs.getD i 0))) (hr : Bytes xs) :
    Calls Tryz.prog 100 #[.slice (some ⟨b, o, none⟩) n c] w fun e w' => e = .returned (.int .u64 (worth xs)) ∧ w = w' := by
  go_enter Tryz.func100, Tryz.ntmps100
  go_wp2
  go_loop [3, 8] (fun m i => ∃ k : Nat, k ≤ n ∧ i = .int .i64 k ∧ m = .int .u64 (worth (xs.take k))) (fun _ i => n - (intOf i).toNat)
  case atStart => exact ⟨0, Nat.zero_le _, rfl, rfl⟩
  case round =>
    obtain ⟨k, hk, rfl, rfl⟩ := hrel
    by_cases hlt : k < n
    · have hc := h k hlt
      have hkl : k < xs.length := by omega
      have hxk := hr.at k hkl
      have hzb := worth_bd (xs.take k) (hr.take k)
      have hzl : (xs.take k).length = k := by rw [List.length_take]; omega
      have HS : Hid (bits .or .u64 (worth (xs.take k)) (IntKind.u64.wrap (xs[k] * 2 ^ (8 * k))) = worth (xs.take (k + 1))) := by
        rw [hzl] at hzb
        show _ = _
        rw [worth_take_succ xs k hkl]
        exact or_step _ _ k (by omega) hzb.1 hzb.2 hxk.1 hxk.2
      clear hzb hzl
      go_wp2
      go_round
      case rel => exact ⟨k + 1, by omega, by go_num, by rw [HS.out]⟩
      case measure => simp [intOf]; omega
    · have he : xs.take k = xs := List.take_of_length_le (by omega)
      have HE : Hid (xs.take k = xs) := he
      clear he
      go_wp2
      go_ret
      refine ⟨?_, rfl⟩
      simp [HE.out]

set_option maxHeartbeats 400000 in
set_option maxRecDepth 100000 in
theorem number_zero (p : Option Addr) (c : Nat) (w : World) :
    Calls Tryz.prog 100 #[.slice p 0 c] w fun e w' => e = .returned (.int .u64 0) ∧ w = w' := by
  go_enter Tryz.func100, Tryz.ntmps100
  go_wp2
  refine wp_loop_rounds 1 ?_
  rw [rounds_succ]
  go_wp2
  go_ret
  exact ⟨rfl, rfl⟩

theorem number_any (p : Option Addr) (n c : Nat) (xs : List Int) (w : World) (hn : n ≤ 8) (h : BIn w p n xs) :
    Calls Tryz.prog 100 #[.slice p n c] w fun e w' => e = .returned (.int .u64 (worth xs)) ∧ w = w' := by
  by_cases h0 : 0 < n
  · obtain ⟨b, o, rfl, hc⟩ := h.cells h0
    exact number_pos b o n c xs w h.len hn hc h.byte
  · obtain rfl : n = 0 := by omega
    obtain rfl : xs = [] := List.eq_nil_of_length_eq_zero h.len
    exact number_zero p c w

set_option maxHeartbeats 1000000 in
set_option maxRecDepth 100000 in
theorem clone_at (a : Addr) (n c : Nat) (xs : List Int) (w : World) (hx : xs.length = n) (hbig : n ≤ 140737488355328) (hc : ∀ i, i < n → w.cell? (a.add i) = some (.int .u8 (xs.getD i 0))) :
    Calls Tryz.prog 49 #[.slice (some a) n c] w fun e w' => ∃ v', e = .returned v' ∧ w'.ownsRow w.heap.size 5 1 v' n (U8 xs) ∧ Below w.heap.size w w' := by
  obtain ⟨i0, hi, hz0, hz1, hz2⟩ := info_parts info5
  have q22 : ∀ (w : World) (a : Option Addr) (n c n' c' : Nat), (binOp .eql 24 (.slice a n c) (.slice none n' c')).run Tryz.prog w = .ok (.bool a.isNone) w := fun w a n c n' c' => Lib.run_eql_slice_nil w _ _ a n c n' c' Tryz.underlying24
  have A : Hid (∀ i, i < n → w.cell? (a.add i) = some (.int .u8 (xs.getD i 0))) := hc
  clear hc
  go_enter Tryz.func49, Tryz.ntmps49
  go_wp2_with (at_builtin; refine wpList_append_own _ rfl _ _ 24 rfl w.heap.size 5 i0 (.int .u8 0) 1 1 Tryz.underlying24 hi hz0 hz1 hz2 rfl (by decide) _ _ _ rfl (World.ownsRow_made w #[] 0 (Nat.le_refl _) (Nat.zero_le _) rfl) a n c (xs.map (Value.int .u8)) rfl ?qc1 ?qc2 ?qc3 ?qc4 ?qc5 ?qc6 ?_)
  case qc1 => simp; omega
  case qc2 =>
    intro j u hj
    have hjn : j < n := by
      have := (List.getElem?_eq_some_iff.1 hj).1
      simp at this
      omega
    refine Lib.cell?_alloc_some _ ?_
    rw [A.out j hjn]
    have e : (xs.map (Value.int .u8))[j]? = some (Value.int .u8 (xs.getD j 0)) := by simp [List.getD, List.getElem?_eq_getElem (show j < xs.length by omega)]
    rw [e] at hj
    exact hj
  case qc3 => intro u hu; obtain ⟨x, _, rfl⟩ := List.mem_map.1 hu; rfl
  case qc4 => unfold maxLen; omega
  case qc5 => omega
  case qc6 => simp
  intro v' w1 hown hgrow hnil
  go_wp2
  go_ret
  refine ⟨v', rfl, by simpa using hown, ?_⟩
  exact ((Below.refl _ w).alloc (Nat.le_refl _) _).grown hgrow (by simp) (by intro k hk; simp [Value.ownBlock] at hk; omega)

set_option maxHeartbeats 400000 in
set_option maxRecDepth 100000 in
theorem clone_nil (c : Nat) (w : World) :
    Calls Tryz.prog 49 #[.slice none 0 c] w fun e w' => e = .returned (.slice none 0 0) ∧ w = w' := by
  have q22 : ∀ (w : World) (a : Option Addr) (n c n' c' : Nat), (binOp .eql 24 (.slice a n c) (.slice none n' c')).run Tryz.prog w = .ok (.bool a.isNone) w := fun w a n c n' c' => Lib.run_eql_slice_nil w _ _ a n c n' c' Tryz.underlying24
  go_enter Tryz.func49, Tryz.ntmps49
  go_wp2
  go_ret
  exact ⟨rfl, rfl⟩

theorem BIn.at {w : World} {a : Addr} {n : Nat} {xs : List Int} (h : BIn w (some a) n xs) : ∀ i, i < n → w.cell? (a.add i) = some (.int .u8 (xs.getD i 0)) := by
  intro i hi
  obtain ⟨b, o, e, hc⟩ := h.cells (by omega)
  simp only [Option.some.injEq] at e
  subst e
  rw [Go.WideShapes.add_plain]
  exact hc i hi

theorem clone_any (p : Option Addr) (n c : Nat) (xs : List Int) (w : World) (h : BIn w p n xs) (hbig : n ≤ 140737488355328) :
    Calls Tryz.prog 49 #[.slice p n c] w fun e w' => ∃ v', e = .returned v' ∧ w'.ownsRow w.heap.size 5 1 v' n (U8 xs) ∧ Below w.heap.size w w' := by
  cases p with
  | some a => exact clone_at a n c xs w h.len hbig h.at
  | none =>
    have h0 : n = 0 := by
      by_cases hp : 0 < n
      · obtain ⟨b, o, e, _⟩ := h.cells hp; cases e
      · omega
    subst h0
    obtain rfl : xs = [] := List.eq_nil_of_length_eq_zero h.len
    refine (clone_nil c w).mono ?_
    rintro e w' ⟨rfl, hw⟩
    subst hw
    exact ⟨_, rfl, World.ownsRow_nil _ _ _ _, Below.refl _ _⟩

theorem BIn.take {w : World} {p : Option Addr} {n : Nat} {xs : List Int} (h : BIn w p n xs) (k : Nat) (hk : k ≤ n) : BIn w p k (xs.take k) := by
  refine ⟨by rw [List.length_take, h.len]; omega, h.byte.take k, fun hp => ?_⟩
  obtain ⟨b, o, e, hc⟩ := h.cells (by omega)
  refine ⟨b, o, e, fun i hi => ?_⟩
  rw [hc i (by omega)]
  simp [List.getD, hi]
theorem BIn.drop {w : World} {b o n : Nat} {xs : List Int} (h : BIn w (some ⟨b, o, none⟩) n xs) (k : Nat) (hk : k ≤ n) : BIn w (some ⟨b, o + k, none⟩) (n - k) (xs.drop k) := by
  refine ⟨by rw [List.length_drop, h.len], h.byte.drop k, fun hp => ?_⟩
  obtain ⟨b', o', e, hc⟩ := h.cells (by omega)
  simp only [Option.some.injEq, Addr.mk.injEq, and_true] at e
  obtain ⟨rfl, rfl⟩ := e
  refine ⟨_, _, rfl, fun i hi => ?_⟩
  rw [show o + k + i = o + (k + i) by omega, hc (k + i) (by omega)]
  simp [List.getD, List.getElem?_drop]
theorem BIn.drew {w : World} {p : Option Addr} {n : Nat} {xs : List Int} (h : BIn w p n xs) : BIn w.drew p n xs := ⟨h.len, h.byte, h.cells⟩
theorem BIn.empty {w : World} {p : Option Addr} : BIn w p 0 [] := ⟨rfl, Bytes.nil, fun h => by omega⟩
theorem below_undrew {B : Nat} {w w' : World} (h : Below B w.drew w') : Below B w w' := ⟨h.os, h.tape, h.output, h.size, h.block⟩

end Go.Proofs.YtefnkjajjidfaaaGreatDoor
