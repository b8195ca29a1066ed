/-
  Layer 15: slices.Backward, slices.Min.
-/
import Derived.Test.YtkgjmejpbklabaaGreatN9
import Derived.RangeFuncNested
import Derived.RangeFuncBound
import Derived.RangeFuncBox
import Derived.RangeFuncLeaves
import Derived.RangeFuncCalls
import Derived.Shelf.Abstract
import Derived.Shelf.RegionOpen
import Derived.OwnWalkIn
import Derived.TacticsInMore
import Derived.LoopNIn
import Derived.LoopIn
import Derived.WalkKit
namespace Go.Proofs.YtkgjmejpbklabaaGreat
open Go.RowKit
open B (IIn I64)
open Go.Shelf

attribute [local go_sem] Oper.semAt_some
/-- what a round keeps: some blocks lie as they lay -/
def Kb (T : Nat → Prop) (W W' : World) : Prop := ∀ k, T k → W'.heap[k]? = W.heap[k]?
theorem Kb.trans {T : Nat → Prop} {A B C : World} (h : Kb T A B) (k : Kb T B C) : Kb T A C := fun i hi => (k i hi).trans (h i hi)
theorem Kb.put {T : Nat → Prop} {w : World} (hT : ∀ k, T k → k < w.heap.size) (W : World) (l : Nat) (o o' : Obj) (hl : w.heap.size ≤ l) (_ : W.heap[l]? = some o) (_ : o.isCells = false) (_ : o.isWalk = false) : Kb T W (W.putObj l o') := fun k hk => World.putObj_heap_other (by have := hT k hk; omega)
/-- the first k, from behind -/
def dwn (n k : Nat) : List Nat := (List.range k).map fun j => n - 1 - j
theorem dwn_succ (n k : Nat) : dwn n (k + 1) = dwn n k ++ [n - 1 - k] := by simp [dwn, List.range_succ]
theorem dwn_length (n k : Nat) : (dwn n k).length = k := by simp [dwn]
set_option maxHeartbeats 2000000 in
set_option maxRecDepth 100000 in
theorem bwd1_in (F : Fence) (n : Nat) (h45 : F.fn 85) (hro : F.round = none) (hn : 1 ≤ n) (l Bs b off m c : Nat) (p : Option Addr) (o : List Nat) (hz : m ≤ 9000) (hp : 0 < m → p = some ⟨b, off, none⟩) (J Jx : List Nat → World → Prop)
    (hY : ∀ (pre : List Nat) (x : Nat) (W : World), J pre W → pre.length < m → YieldAt F (n - 1) Tryz.prog l #[.int .i64 (x : Int), .int .i64 ((o.getD x 0 : Nat) : Int)] W fun e W' =>
      (e = .returned (.bool true) ∧ J (pre ++ [x]) W' ∧ Kb (fun k => k = Bs ∨ k = b) W W') ∨ (e = .returned (.bool false) ∧ Jx (pre ++ [x]) W'))
    (W : World) (hBs : W.cell? ⟨Bs, 0, none⟩ = some (.slice p m c)) (hc : ∀ j, j < m → W.cell? ⟨b, off + j, none⟩ = some (.int .i64 ((o.getD j 0 : Nat) : Int))) (h0 : J [] W) :
    CallsIn F n Tryz.prog 85 #[.func (.yield l) #[] #[], .pointer (some ⟨Bs, 0, none⟩)] W fun e W' => (∃ v, e = .returned v) ∧ ((∃ ys, ys = dwn m m ∧ J ys W') ∨ (∃ pre, True ∧ Jx pre W')) := by
  have HK0 : Hid (∀ W', Kb (fun k => k = Bs ∨ k = b) W W' → W'.cell? ⟨Bs, 0, none⟩ = some (.slice p m c) ∧ ∀ j, j < m → W'.cell? ⟨b, off + j, none⟩ = some (.int .i64 ((o.getD j 0 : Nat) : Int))) := fun W' hk => by
    refine ⟨?_, fun j hj => ?_⟩
    · rw [World.cell?_of_block (w := W) (w' := W') (a := ⟨Bs, 0, none⟩) (hk Bs (.inl rfl))]; exact hBs
    · rw [World.cell?_of_block (w := W) (w' := W') (a := ⟨b, off + j, none⟩) (hk b (.inr rfl))]; exact hc j hj
  clear hc
  refine callsIn_of_wp Tryz.func85 rfl h45 ?_ hro
  simp only [Tryz.ntmps85, List.size_toArray, List.length_cons, List.length_nil, Nat.reduceAdd, Nat.reduceSub, Array.replicate_succ, Array.replicate_zero, List.push_toArray, List.append_toArray, List.nil_append, List.cons_append]
  gi_wp2
  clear hBs
  gi_loopw [3] (fun i wr => ∃ t : Nat, t ≤ m ∧ i = .int .i64 ((t : Int) - 1) ∧ J (dwn m (m - t)) wr ∧ Hid (Kb (fun k => k = Bs ∨ k = b) W wr))
    (fun i _ => (intOf i + 1).toNat)
  case atStart => exact ⟨m, Nat.le_refl _, by simp, by rw [Nat.sub_self]; exact h0, fun _ _ => rfl⟩
  case round =>
    obtain ⟨t, hk, rfl, hJs, HK⟩ := hrel
    by_cases hlt : 0 < t
    · obtain ⟨s, rfl⟩ : ∃ s, t = s + 1 := ⟨t - 1, by omega⟩
      obtain rfl := hp (by omega)
      have HS : Hid (dwn m (m - s) = dwn m (m - (s + 1)) ++ [s]) := by
        have := dwn_succ m (m - (s + 1))
        rw [show m - (s + 1) + 1 = m - s by omega, show m - 1 - (m - (s + 1)) = s by omega] at this
        exact this
      rw [show ((s + 1 : Nat) : Int) - 1 = (s : Int) by omega]
      obtain ⟨fn, tmps, assign, body, hy, hR⟩ := hY _ s wr hJs (by rw [dwn_length]; omega)
      have hcb := (HK0.out wr HK.out).1
      have hcx := (HK0.out wr HK.out).2 s (by omega)
      clear hY HK0
      generalize o.getD s 0 = x at *
      gi_wp2
      refine hR.mono ?_
      rintro e W3 (⟨rfl, hJ3, hk3⟩ | ⟨rfl, hJx3⟩)
      · have HK3 : Hid (Kb (fun k => k = Bs ∨ k = b) W W3) := HK.out.trans hk3
        gi_wp2
        go_roundw
        case rel => exact ⟨s, by omega, rfl, by rw [HS.out]; exact hJ3, HK3⟩
        case measure => simp [intOf]
      · gi_wp2
        refine bodyPost_ret (results_none rfl _ _ _) rfl ?_
        exact ⟨⟨_, rfl⟩, .inr ⟨_, trivial, hJx3⟩⟩
    · obtain rfl : t = 0 := by omega
      gi_wp2
      go_end0
      exact ⟨⟨_, rfl⟩, .inl ⟨_, rfl, hJs⟩⟩
/-- the value of a sequence that slices.Backward handed back -/
abbrev seqB (Bs : Nat) : Value := .func (.func 85) #[] #[.pointer (some ⟨Bs, 0, none⟩)]
set_option maxHeartbeats 2000000 in
set_option maxRecDepth 100000 in
theorem bwd_is (p : Option Addr) (n c : Nat) (w : World) :
    Calls Tryz.prog 53 #[.slice p n c] w fun e w' => e = .returned (seqB w.heap.size) ∧ w' = w.alloc (.cells #[.slice p n c] 72) := by
  go_enter Tryz.func53, Tryz.ntmps53
  go_wp2
  go_ret
  exact ⟨rfl, rfl⟩
theorem bwd_stops (F : Fence) (n : Nat) (h7 : F.fn 85) (hro : F.round = none) (hn : 1 ≤ n) (Bs b off : Nat) (p : Option Addr) (m c : Nat) (o : List Nat) (hz : m ≤ 9000) (w : World) (hBs : Bs < w.heap.size) (hb : 0 < m → b < w.heap.size) (hp : 0 < m → p = some ⟨b, off, none⟩)
    (hc : w.cell? ⟨Bs, 0, none⟩ = some (.slice p m c)) (hcs : ∀ j, j < m → w.cell? ⟨b, off + j, none⟩ = some (.int .i64 ((o.getD j 0 : Nat) : Int))) :
    SeqStopsK F n Tryz.prog 85 #[.pointer (some ⟨Bs, 0, none⟩)] (fun x : Nat => #[Value.int .i64 (x : Int), .int .i64 ((o.getD x 0 : Nat) : Int)]) (Kb fun k => k = Bs ∨ k = b) (fun ys => ys = dwn m m) (fun _ => True) m w := fun l J Jx W hW _ _ hY h0 => by
  have hc' := (hW.cell (p := ⟨Bs, 0, none⟩) hBs).trans hc
  exact bwd1_in F n h7 hro hn l Bs b off m c p o hz hp J Jx hY W hc' (fun j hj => (hW.cell (p := ⟨b, off + j, none⟩) (hb (by omega))).trans (hcs j hj)) h0
set_option maxHeartbeats 2000000 in
set_option maxRecDepth 100000 in
theorem min_at {w : World} {p : Option Addr} {n c : Nat} {q : List Nat} (hq : q.length = n) (hI : IIn w p n (nz q)) (h0 : 0 < n) (hz : n ≤ 9000) :
    Calls Tryz.prog 55 #[.slice p n c] w fun e w' => ∃ m : Nat, e = .returned (.int .i64 (m : Int)) ∧ w' = w ∧ m ∈ q ∧ ∀ x ∈ q, m ≤ x := by
  obtain ⟨b, off, rfl, hcs⟩ := hI.cells h0
  have HC : Hid (∀ j, j < n → w.cell? ⟨b, off + j, none⟩ = some (.int .i64 ((q.getD j 0 : Nat) : Int))) := fun j hj => by rw [hcs j hj, nz_getD]
  have HQ : Hid (q.length = n) := hq
  have hc0 := HC.out 0 h0
  rw [Nat.add_zero] at hc0
  clear hcs hI hq
  have HM : Hid (q.getD 0 0 ∈ q ∧ ∀ j, j < 1 → q.getD 0 0 ≤ q.getD j 0) := ⟨by
    have := HQ.out
    rw [List.getD, List.getElem?_eq_getElem (by omega)]; exact List.getElem_mem _, fun j hj => by
    obtain rfl : j = 0 := by omega
    exact Nat.le_refl _⟩
  generalize q.getD 0 0 = m0 at *
  go_enter Tryz.func55, Tryz.ntmps55
  go_wp2_with fail
  go_loopw [3, 4] (fun v v2 W => ∃ (m i : Nat), v = .int .i64 (m : Int) ∧ v2 = .int .i64 (i : Int) ∧ 1 ≤ i ∧ i ≤ n ∧ Hid (W = w) ∧ Hid (m ∈ q ∧ ∀ j, j < i → m ≤ q.getD j 0)) (fun v v2 _ => n - (intV v2).toNat)
  case atStart => exact ⟨m0, 1, rfl, rfl, by omega, by omega, rfl, HM⟩
  case round =>
    obtain ⟨m, i, rfl, rfl, h1, hi, HW, HM⟩ := hrel
    obtain rfl := HW.out
    by_cases hin : i < n
    · have hc := HC.out i hin
      have HX : Hid (q.getD i 0 ∈ q) := by
        have := HQ.out
        show _ ∈ _
        rw [List.getD, List.getElem?_eq_getElem (by omega)]; exact List.getElem_mem _
      have HM2 : Hid (min m (q.getD i 0) ∈ q ∧ ∀ j, j < i + 1 → min m (q.getD i 0) ≤ q.getD j 0) := by
        refine ⟨?_, fun j hj => ?_⟩
        · rcases Nat.le_total m (q.getD i 0) with h | h
          · rw [Nat.min_eq_left h]; exact HM.out.1
          · rw [Nat.min_eq_right h]; exact HX.out
        · by_cases e : j = i
          · subst e; exact Nat.min_le_right _ _
          · exact Nat.le_trans (Nat.min_le_left _ _) (HM.out.2 j (by omega))
      generalize q.getD i 0 = x at *
      go_wp2_with fail
      go_roundw
      case rel => exact ⟨min m x, i + 1, by congr 1; omega, rfl, by omega, by omega, trivial, HM2⟩
      case measure => simp [intV]; omega
    · go_wp2_with fail
      go_ret
      refine ⟨m, rfl, rfl, HM.out.1, fun x hx => ?_⟩
      obtain ⟨j, hj, e⟩ := List.getElem_of_mem hx
      have := HM.out.2 j (by have := HQ.out; omega)
      rw [List.getD, List.getElem?_eq_getElem hj] at this
      simpa [e] using this
end Go.Proofs.YtkgjmejpbklabaaGreat
