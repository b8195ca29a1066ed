/-
  Contracts of layer 3, third part: the sequence that Span hands back, for every loop body.
-/
import Derived.RangeFuncNested
import Derived.RangeFuncBound
import Derived.RangeFuncCalls
import Derived.RangeFuncLeaves
import Derived.Shelf.Abstract
import Derived.Shelf.RegionOpen
import Derived.WalkKit
import Derived.OwnWalkIn
import Derived.TacticsInMore
import Derived.LoopNIn
import Derived.LoopIn
import Derived.Test.YtefnkjajjidfaaaGreatDoorGRa
namespace Go.Proofs.YtefnkjajjidfaaaGreatDoor.G
open Go.RowKit Go.Shelf

attribute [local go_sem] Oper.semAt_some
/-- The plain numbers of a list. -/
abbrev nums (l : List U64) : List Int := l.map (·.1)
/-- What a round keeps of a sequence's own: its two boxes lie as they lay. -/
structure Kept2 (Bt Be : Nat) (W W' : World) : Prop where
  t : W'.heap[Bt]? = W.heap[Bt]?
  e : W'.heap[Be]? = W.heap[Be]?
theorem Kept2.trans {Bt Be : Nat} {A B C : World} (h : Kept2 Bt Be A B) (k : Kept2 Bt Be B C) : Kept2 Bt Be A C := ⟨k.t.trans h.t, k.e.trans h.e⟩
theorem Kept2.refl (Bt Be : Nat) (W : World) : Kept2 Bt Be W W := ⟨rfl, rfl⟩
theorem Kept2.of_below {Bt Be n₀ : Nat} {W W' : World} (h : Below n₀ W W') (ht : Bt < n₀) (he : Be < n₀) : Kept2 Bt Be W W' := ⟨h.block _ ht, h.block _ he⟩
theorem Kept2.set {Bt Be b : Nat} (W : World) (v : Value) (ht : Bt ≠ b) (he : Be ≠ b) : Kept2 Bt Be W (W.setCell ⟨b, 0, none⟩ v) := ⟨Below.heap_setCell _ _ _ _ ht, Below.heap_setCell _ _ _ _ he⟩
theorem Kept2.alloc {Bt Be : Nat} (W : World) (o : Obj) (ht : Bt < W.heap.size) (he : Be < W.heap.size) : Kept2 Bt Be W (W.alloc o) := ⟨Below.heap_alloc _ _ _ ht, Below.heap_alloc _ _ _ he⟩
theorem Kept2.keeps {Bt Be : Nat} {w : World} (ht : Bt < w.heap.size) (he : Be < w.heap.size) (W : World) (l : Nat) (o o' : Obj) (hl : w.heap.size ≤ l) (_ : W.heap[l]? = some o) (_ : o.isCells = false) (_ : o.isWalk = false) : Kept2 Bt Be W (W.putObj l o') :=
  ⟨World.putObj_heap_other (by omega), World.putObj_heap_other (by omega)⟩
set_option maxRecDepth 100000 in
set_option maxHeartbeats 1000000 in
set_option maxRecDepth 100000 in
theorem span1_in (F : Fence) (n : Nat) (h23 : F.fn 46) (hro : F.round = none) (hn : 1 ≤ n) (l Bt Be : Nat) (t e : Int) (ht0 : 0 ≤ t) (ht1 : t < 18446744073709551616) (he0 : 0 ≤ e) (he1 : e < 18446744073709551616) (J Jx : List U64 → World → Prop)
    (hY : ∀ pre x W, J pre W → pre.length < spanN t e → YieldAt F (n - 1) Tryz.prog l #[.int .u64 x.1] W fun e W' =>
      (e = .returned (.bool true) ∧ J (pre ++ [x]) W' ∧ Kept2 Bt Be W W') ∨ (e = .returned (.bool false) ∧ Jx (pre ++ [x]) W'))
    (W : World) (hct : W.cell? ⟨Bt, 0, none⟩ = some (.int .u64 t)) (hce : W.cell? ⟨Be, 0, none⟩ = some (.int .u64 e)) (h0 : J [] W) :
    CallsIn F n Tryz.prog 46 #[.func (.yield l) #[] #[], .pointer (some ⟨Bt, 0, none⟩), .pointer (some ⟨Be, 0, none⟩)] W fun e' W' => (∃ v, e' = .returned v) ∧
      ((∃ ys, nums ys = spanI t e ∧ J ys W') ∨ (∃ pre, nums pre <+: spanI t e ∧ Jx pre W')) := by
  refine callsIn_of_wp Tryz.func46 rfl h23 ?_ hro
  simp only [Tryz.ntmps46, List.size_toArray, List.length_cons, List.length_nil, Nat.reduceAdd, Nat.reduceSub, Array.replicate_succ, Array.replicate_zero, List.push_toArray, List.append_toArray, List.nil_append, List.cons_append]
  gi_wp2
  gi_loopw [4] (fun p wr => ∃ (pre : List U64) (k : Nat), p = .int .u64 (t + k) ∧ k ≤ spanN t e ∧ Hid (nums pre = upto t k) ∧ wr.cell? ⟨Bt, 0, none⟩ = some (.int .u64 t) ∧ wr.cell? ⟨Be, 0, none⟩ = some (.int .u64 e) ∧ J pre wr)
    (fun p _ => spanN t e - (intOf p - t).toNat)
  case atStart =>
    exact ⟨[], 0, by simp, Nat.zero_le _, rfl, hct, hce, h0⟩
  case round =>
    obtain ⟨pre, k, rfl, hk, HP, hct, hce, hJs⟩ := hrel
    have hN : spanN t e = min 64 (e - t).toNat := rfl
    by_cases hlt : k < spanN t e
    · have w0 : IntKind.u64.wrap (t + (k : Int) - t) = k := by rw [show t + (k : Int) - t = k by omega]; exact wrap_u (by omega) (by omega)
      have w1 : IntKind.u64.wrap (t + (k : Int) + 1) = t + (k : Int) + 1 := wrap_u (by omega) (by omega)
      have c1 : t + (k : Int) < e := by omega
      have c2 : (k : Int) < 64 := by omega
      have hpl : pre.length = k := by have := congrArg List.length HP.out; simpa [upto_length] using this
      obtain ⟨fn, tmps, assign, body, hy, hR⟩ := hY pre ⟨t + (k : Int), by omega, by omega⟩ wr hJs (by omega)
      dsimp only at hy
      have HQ : Hid (nums (pre ++ [⟨t + (k : Int), by omega, by omega⟩]) = upto t (k + 1)) := by
        show _ = _
        rw [upto_succ, ← HP.out]; simp [nums]
      clear hN
      gi_wp2
      refine hR.mono ?_
      rintro e' W3 (⟨rfl, hJ3, hk3⟩ | ⟨rfl, hJx3⟩)
      · have hct3 : W3.cell? ⟨Bt, 0, none⟩ = some (.int .u64 t) := (World.cell?_of_block hk3.t).trans hct
        have hce3 : W3.cell? ⟨Be, 0, none⟩ = some (.int .u64 e) := (World.cell?_of_block hk3.e).trans hce
        gi_wp2
        go_roundw
        case rel => exact ⟨_, k + 1, by congr 1; omega, by omega, HQ, hct3, hce3, hJ3⟩
        case measure => simp only [intOf]; omega
      · gi_wp2
        refine bodyPost_ret (results_none rfl _ _ _) rfl ?_
        exact ⟨⟨_, rfl⟩, .inr ⟨_, by rw [HQ.out]; exact upto_prefix t e (k + 1) (by omega), hJx3⟩⟩
    · have hke : k = spanN t e := by omega
      have HE : Hid (nums pre = spanI t e) := by show _ = _; rw [HP.out, hke]; rfl
      have w0 : IntKind.u64.wrap (t + (k : Int) - t) = k := by rw [show t + (k : Int) - t = k by omega]; exact wrap_u (by omega) (by omega)
      by_cases c1 : t + (k : Int) < e
      · have c2 : ¬ (k : Int) < 64 := by omega
        clear hN
        gi_wp2
        go_end0
        exact ⟨⟨_, rfl⟩, .inl ⟨pre, HE.out, hJs⟩⟩
      · clear hN
        gi_wp2
        go_end0
        exact ⟨⟨_, rfl⟩, .inl ⟨pre, HE.out, hJs⟩⟩
/-- **The sequence that Span hands back**: all positions, or a beginning of them, where a round has said 'no more'. -/
theorem span_stops (F : Fence) (n : Nat) (h23 : F.fn 46) (hro : F.round = none) (hn : 1 ≤ n) (Bt Be : Nat) (t e : Int) (ht0 : 0 ≤ t) (ht1 : t < 18446744073709551616) (he0 : 0 ≤ e) (he1 : e < 18446744073709551616) (w : World)
    (bT : Boxed w Bt 31 (.int .u64 t)) (bE : Boxed w Be 31 (.int .u64 e)) :
    SeqStopsK F n Tryz.prog 46 #[.pointer (some ⟨Bt, 0, none⟩), .pointer (some ⟨Be, 0, none⟩)] (fun x : U64 => #[Value.int .u64 x.1]) (Kept2 Bt Be) (fun ys => nums ys = spanI t e) (fun pre => nums pre <+: spanI t e) (spanN t e) w := fun l J Jx W hW _ _ hY h0 =>
  span1_in F n h23 hro hn l Bt Be t e ht0 ht1 he0 he1 J Jx hY W ((hW.cell (p := ⟨Bt, 0, none⟩) bT.lt).trans bT.cell) ((hW.cell (p := ⟨Be, 0, none⟩) bE.lt).trans bE.cell) h0
end Go.Proofs.YtefnkjajjidfaaaGreatDoor.G
