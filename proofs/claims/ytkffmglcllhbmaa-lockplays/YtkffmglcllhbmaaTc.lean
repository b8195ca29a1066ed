/-
  Layer 11: All, and what it gives, for every loop body.
-/
import Derived.RangeFuncNested
import Derived.RangeFuncBound
import Derived.RangeFuncBox
import Derived.RangeFuncCalls
import Derived.RangeFuncLeaves
import Derived.Shelf.Abstract
import Derived.Shelf.RegionOpen
import Derived.OwnWalkIn
import Derived.TacticsInMore
import Derived.LoopNIn
import Derived.LoopIn
import Derived.Laws.EntriesVeiled
import Derived.Test.YtkffmglcllhbmaaTb
namespace Go.Proofs.Ytkffmglcllhbmaa
open Go.RowKit Go.Shelf

attribute [local go_sem] Oper.semAt_some
/-- the value of a sequence that All handed back -/
abbrev seqV (B : Nat) : Value := .func (.func 69) #[] #[.pointer (some ⟨B, 0, none⟩)]
set_option maxHeartbeats 1000000 in
set_option maxRecDepth 100000 in
theorem all_is (p : Option Addr) (w : World) :
    Calls Try.prog 54 #[.pointer p] w fun e w' => e = .returned (seqV w.heap.size) ∧ w' = w.alloc (.cells #[.pointer p] 80) := by
  go_enter Try.func54, Try.ntmps54
  go_wp2
  go_ret
  exact ⟨rfl, rfl⟩
set_option maxRecDepth 100000 in
set_option maxHeartbeats 2000000 in
set_option maxRecDepth 100000 in
theorem all1_in (F : Fence) (n : Nat) (h7 : F.fn 69) (hro : F.round = none) (hn : 1 ≤ n) (l B Q n₀ b off len cap : Nat) (zs : List Int) (hzs : zs.length = len) (hreach : len ≤ 17592186044416) (hb : b < n₀) (J Jx : List Int → World → Prop)
    (hY : ∀ pre x W, x ∈ zs → J pre W → pre.length < len → YieldAt F (n - 1) Try.prog l #[.int .u64 x] W fun e W' =>
      (e = .returned (.bool true) ∧ J (pre ++ [x]) W' ∧ Below n₀ W W') ∨ (e = .returned (.bool false) ∧ Jx (pre ++ [x]) W'))
    (W : World) (hB : W.cell? ⟨B, 0, none⟩ = some (.pointer (some ⟨Q, 0, none⟩))) (hQ : W.cell? ⟨Q, 0, none⟩ = some (.slice (some ⟨b, off, none⟩) len cap)) (hc : ∀ j, j < len → W.cell? ⟨b, off + j, none⟩ = some (.int .u64 (zs.getD j 0))) (h0 : J [] W) :
    CallsIn F n Try.prog 69 #[.func (.yield l) #[] #[], .pointer (some ⟨B, 0, none⟩)] W fun e W' => (∃ v, e = .returned v) ∧
      ((∃ ys, ys = zs ∧ J ys W') ∨ (∃ pre, pre <+: zs ∧ Jx pre W')) := by
  refine callsIn_of_wp Try.func69 rfl h7 ?_ hro
  simp only [Try.ntmps69, List.size_toArray, List.length_cons, List.length_nil, Nat.reduceAdd, Nat.reduceSub, Array.replicate_succ, Array.replicate_zero, List.push_toArray, List.append_toArray, List.nil_append, List.cons_append]
  gi_wp2
  gi_loopw [12] (fun i wr => ∃ k : Nat, k ≤ len ∧ i = .int .i64 k ∧ J (upto zs k) wr ∧ Below n₀ W wr)
    (fun i _ => len - (intOf i).toNat)
  case atStart => exact ⟨0, Nat.zero_le _, rfl, h0, Below.refl _ _⟩
  case round =>
    obtain ⟨k, hk, rfl, hJs, hnx⟩ := hrel
    have hcx : k < len → wr.cell? ⟨b, off + k, none⟩ = some (.int .u64 (zs.getD k 0)) := fun h => (hnx.cell (p := ⟨b, off + k, none⟩) hb).trans (hc k h)
    by_cases hlt : k < len
    · obtain ⟨fn, tmps, assign, body, hy, hR⟩ := hY _ (zs.getD k 0) wr (by rw [List.getD, List.getElem?_eq_getElem (by omega)]; exact List.getElem_mem _) hJs (by rw [upto_length]; exact hlt)
      have hcx' := hcx hlt
      have HS : Hid (upto zs (k + 1) = upto zs k ++ [zs.getD k 0]) := upto_succ zs k
      have HP : Hid (upto zs (k + 1) <+: zs) := by show _ <+: _; rw [upto_take zs _ (by omega)]; exact List.take_prefix _ _
      clear hcx hc
      generalize zs.getD k 0 = x at *
      gi_wp2
      refine hR.mono ?_
      rintro e W3 (⟨rfl, hJ3, hk3⟩ | ⟨rfl, hJx3⟩)
      · gi_wp2
        go_roundw
        case rel => exact ⟨k + 1, by omega, by simp, by rw [HS.out]; exact hJ3, hnx.trans hk3⟩
        case measure => simp [intOf]; omega
      · gi_wp2
        refine bodyPost_ret (results_none rfl _ _ _) rfl ?_
        exact ⟨⟨_, rfl⟩, .inr ⟨_, by rw [← HS.out]; exact HP.out, hJx3⟩⟩
    · obtain rfl : k = len := by omega
      gi_wp2
      go_end0
      exact ⟨⟨_, rfl⟩, .inl ⟨_, by rw [← hzs]; exact upto_all zs, hJs⟩⟩
set_option maxRecDepth 100000 in
set_option maxHeartbeats 1000000 in
set_option maxRecDepth 100000 in
theorem all1_zero_in (F : Fence) (n : Nat) (h7 : F.fn 69) (hro : F.round = none) (l B Q : Nat) (p : Option Addr) (cap : Nat) (J : List Int → World → Prop) (W : World) (hB : W.cell? ⟨B, 0, none⟩ = some (.pointer (some ⟨Q, 0, none⟩))) (hQ : W.cell? ⟨Q, 0, none⟩ = some (.slice p 0 cap)) (h0 : J [] W) :
    CallsIn F n Try.prog 69 #[.func (.yield l) #[] #[], .pointer (some ⟨B, 0, none⟩)] W fun e W' => (∃ v, e = .returned v) ∧ J [] W' := by
  refine callsIn_of_wp Try.func69 rfl h7 ?_ hro
  simp only [Try.ntmps69, List.size_toArray, List.length_cons, List.length_nil, Nat.reduceAdd, Nat.reduceSub, Array.replicate_succ, Array.replicate_zero, List.push_toArray, List.append_toArray, List.nil_append, List.cons_append]
  gi_wp2
  gi_loopw [12] (fun i wr => i = .int .i64 0 ∧ J [] wr) (fun _ _ => 0)
  case atStart => exact ⟨rfl, h0⟩
  case round =>
    obtain ⟨rfl, hJs⟩ := hrel
    gi_wp2
    go_end0
    exact ⟨⟨_, rfl⟩, hJs⟩
set_option maxRecDepth 100000 in
set_option maxHeartbeats 1000000 in
set_option maxRecDepth 100000 in
theorem all1_nil_in (F : Fence) (n : Nat) (h7 : F.fn 69) (hro : F.round = none) (l B : Nat) (J : List Int → World → Prop) (W : World) (hB : W.cell? ⟨B, 0, none⟩ = some (.pointer none)) (h0 : J [] W) :
    CallsIn F n Try.prog 69 #[.func (.yield l) #[] #[], .pointer (some ⟨B, 0, none⟩)] W fun e W' => (∃ v, e = .returned v) ∧ J [] W' := by
  refine callsIn_of_wp Try.func69 rfl h7 ?_ hro
  simp only [Try.ntmps69, List.size_toArray, List.length_cons, List.length_nil, Nat.reduceAdd, Nat.reduceSub, Array.replicate_succ, Array.replicate_zero, List.push_toArray, List.append_toArray, List.nil_append, List.cons_append]
  gi_wp2
  refine bodyPost_ret (results_none rfl _ _ _) rfl ?_
  exact ⟨⟨_, rfl⟩, h0⟩
/-- what stands behind a queue's pointer: a queue with these tickets, or nil, an empty one -/
def Stands (w : World) (p : Option Addr) (zs : List Int) : Prop := (p = none ∧ zs = []) ∨ ∃ Q v m, p = some ⟨Q, 0, none⟩ ∧ QAt 101 w Q v zs m
theorem Stands.later {w w' : World} {p : Option Addr} {zs : List Int} (h : Stands w p zs) (hb : Below w.heap.size w w') : Stands w' p zs := by
  rcases h with h | ⟨Q, v, m, rfl, h⟩
  · exact .inl h
  · exact .inr ⟨Q, v, m, rfl, h.later hb⟩
/-- **What All gives**: all tickets, or a beginning of them, where a round has said 'no more'; as they stood when the loop begins, in memory below n₀ that no round turns. -/
theorem all_stops (F : Fence) (n : Nat) (h7 : F.fn 69) (hro : F.round = none) (hn : 1 ≤ n) (B n₀ : Nat) (p : Option Addr) (zs : List Int) (hreach : zs.length ≤ 100000) (w w₀ : World) (hB : B < w.heap.size) (hn₀ : n₀ ≤ w.heap.size) (hw₀ : Below n₀ w₀ w) (hz₀ : w₀.heap.size = n₀)
    (hc : w.cell? ⟨B, 0, none⟩ = some (.pointer p)) (hS : Stands w₀ p zs) :
    SeqStopsK F n Try.prog 69 #[.pointer (some ⟨B, 0, none⟩)] (fun x : Int => #[Value.int .u64 x]) (Below n₀) (fun ys => ys = zs) (fun pre => pre <+: zs) zs.length w := fun l J Jx W hW _ _ hY h0 => by
  have hc' := (hW.cell (p := ⟨B, 0, none⟩) hB).trans hc
  subst hz₀
  have hb0 : Below w₀.heap.size w₀ W := hw₀.trans (hW.mono hn₀)
  rcases hS.later hb0 with ⟨rfl, rfl⟩ | ⟨Q, v, m, rfl, hQ⟩
  · exact (all1_nil_in F n h7 hro l B J W hc' h0).mono fun e W' ⟨he, hj⟩ => ⟨he, .inl ⟨_, rfl, hj⟩⟩
  have hlt : ∀ g, blk v = some g → g < w₀.heap.size := by
    rcases hS with ⟨h, _⟩ | ⟨Q', v', m', e, hQ'⟩
    · cases h
    · simp only [Option.some.injEq, Addr.mk.injEq, and_true] at e
      subst e
      intro g hg
      have e2 := (hb0.block Q hQ'.lt).trans hQ'.st
      rw [hQ.st] at e2
      simp at e2
      rw [e2.1] at hg
      exact hQ'.row.lt hg
  obtain ⟨q, c, rfl, hI, _⟩ := hQ.row.form
  by_cases hp : 0 < zs.length
  · obtain ⟨b, off, rfl, hcs⟩ := hI.cells hp
    exact all1_in F n h7 hro hn l B Q w₀.heap.size b off zs.length c zs rfl (by omega) (hlt b rfl) J Jx (fun pre x W _ => hY pre x W) W hc' hQ.c0 hcs h0
  · obtain rfl : zs = [] := List.eq_nil_of_length_eq_zero (by omega)
    exact (all1_zero_in F n h7 hro l B Q q c J W hc' hQ.c0 h0).mono fun e W' ⟨he, hj⟩ => ⟨he, .inl ⟨_, rfl, hj⟩⟩
end Go.Proofs.Ytkffmglcllhbmaa
