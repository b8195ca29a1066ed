/-
  Layer 11: Len, First, leave, Put. Layer 11: All, and what it gives, for every loop body. Layer 11: Place. Layer 11: the laws' own 'same'; Take, Drop, Copy. A range over an iterator that ranges over another one itself. The library's contract of an iterator hands the loop's invariant on as one that abides new blocks and turns of walks; an iterator that holds a loop of its own turns that loop's record, too, and wants its record kept by the rounds that it asks for. So: a contract that says both (SeqIn), and the law of the loop over it (range_in).
-/
import Derived.Deep.RegionHeld3
import Derived.LaidMore
import Derived.Test.YtkgjmejpbklabaaGreatTa
import Derived.RangeFuncNested
import Derived.RangeFuncBound
import Derived.RangeFuncBox
import Derived.RangeFuncCalls
import Derived.RangeFuncLeaves
import Derived.Shelf.Abstract
import Derived.Shelf.RegionOpen
import Derived.OwnWalkIn
import Derived.TacticsInMore
import Derived.LoopNIn
import Derived.LoopIn
import Derived.Laws.EntriesVeiled
import Derived.Deep.MidRow
import Derived.Deep.QuietTactic
import Derived.BigQuiet
import Derived.WalkKit
namespace Go.Proofs.YtkgjmejpbklabaaGreat
open Go.RowKit
abbrev qp (Q : Nat) : Value := .pointer (some ⟨Q, 0, none⟩)
abbrev nilq : Value := .pointer none
theorem one_in (w : World) (t : Int) : UIn (w.alloc (.cells #[.int .u64 t] 44)) (some ⟨w.heap.size, 0, none⟩) 1 [t] := by
  refine ⟨rfl, fun _ => ⟨_, 0, rfl, fun i hi => ?_⟩⟩
  obtain rfl : i = 0 := by omega
  rw [cell_of_row _ w.heap.size 0 _ 44 (0, 0) (heap_alloc_new w _)]
  rfl
set_option maxHeartbeats 1000000 in
set_option maxRecDepth 100000 in
theorem len_at {w : World} {Q : Nat} {v : Value} {xs : List Int} {m : Int} (h : QAt 59 w Q v xs m) : Calls Tryz.prog 121 #[qp Q] w fun e w' => e = .returned (.int .i64 xs.length) ∧ w = w' := by
  obtain ⟨p, c, rfl, _, _⟩ := h.row.form
  have c0 := h.c0
  clear h
  go_enter Tryz.func121, Tryz.ntmps121
  go_wp2
  go_ret
  exact ⟨rfl, rfl⟩
set_option maxHeartbeats 1000000 in
set_option maxRecDepth 100000 in
theorem len_nil (w : World) : Calls Tryz.prog 121 #[nilq] w fun e w' => e = .returned (.int .i64 0) ∧ w = w' := by
  go_enter Tryz.func121, Tryz.ntmps121
  go_wp2
  go_ret
  exact ⟨rfl, rfl⟩
set_option maxHeartbeats 1000000 in
set_option maxRecDepth 100000 in
theorem first_nil (w : World) : Calls Tryz.prog 89 #[nilq] w fun e w' => e = .returned (.tuple #[.int .u64 0, .bool false]) ∧ w = w' := by
  go_enter Tryz.func89, Tryz.ntmps89
  go_wp2_with (go_at_call 121; refine (len_nil _).mono ?_; rintro e w' ⟨rfl, rfl⟩)
  go_ret2
  exact ⟨rfl, rfl⟩
set_option maxHeartbeats 1000000 in
set_option maxRecDepth 100000 in
theorem first_none {w : World} {Q : Nat} {v : Value} {m : Int} (h : QAt 59 w Q v [] m) : Calls Tryz.prog 89 #[qp Q] w fun e w' => e = .returned (.tuple #[.int .u64 0, .bool false]) ∧ w = w' := by
  go_enter Tryz.func89, Tryz.ntmps89
  go_wp2_with (go_at_call 121; refine (len_at h).mono ?_; rintro e w' ⟨rfl, rfl⟩)
  go_ret2
  exact ⟨rfl, rfl⟩
set_option maxHeartbeats 1000000 in
set_option maxRecDepth 100000 in
theorem first_some {w : World} {Q : Nat} {v : Value} {x : Int} {xs : List Int} {m : Int} (h : QAt 59 w Q v (x :: xs) m) : Calls Tryz.prog 89 #[qp Q] w fun e w' => e = .returned (.tuple #[.int .u64 x, .bool true]) ∧ w = w' := by
  have H : Hid (QAt 59 w Q v (x :: xs) m) := h
  obtain ⟨p, c, rfl, hI, _⟩ := h.row.form
  obtain ⟨b, o, rfl, hc⟩ := hI.cells (by simp)
  have cx : w.cell? ⟨b, o, none⟩ = some (.int .u64 x) := by have := hc 0 (by simp); simpa using this
  have c0 := h.c0
  have hz : (((x :: xs).length : Int) == 0) = false := by simp; omega
  have hp : 0 < (x :: xs).length := by simp
  clear h hc hI
  generalize (x :: xs).length = n at *
  go_enter Tryz.func89, Tryz.ntmps89
  go_wp2_with (go_at_call 121; refine (len_at H.out).mono ?_; rintro e w' ⟨rfl, rfl⟩)
  go_ret2
  exact ⟨rfl, rfl⟩
theorem Row.shape {w : World} {v : Value} {xs : List Int} (h : Row w v xs) : ∃ p n c, v = .slice p n c := by
  obtain ⟨p, c, e, _⟩ := h.form
  exact ⟨_, _, _, e⟩
theorem step_copy_kept {P : Program} {ops : Array Oper} {o : Oper} {a : Act} {w : World} {K : Act → World → Prop} {Q : Exit → Act → World → Prop} {E : Prop} (hgd : o.guard = none) (d s : Operand) (dT sT : TypeId)
    (ho : o.op = .call { callee := .builtin .copy, args := #[d, s], argTypes := #[dT, sT] }) (elem : TypeId) (hu : P.underlying dT = some (.slice elem)) (hsz : (P.info? elem).map (·.size) = some 1)
    (dp sp : Option Addr) (dLen dCap sLen sCap : Nat) (hd : a.eval d = .slice dp dLen dCap) (hs : a.eval s = .slice sp sLen sCap)
    (g off : Nat) (cur : Array Value) (t : TypeId) (hg : w.heap[g]? = some (.cells cur t (0, 0))) (cs : List Value) (hn : cs.length = Nat.min sLen dLen)
    (hpos : 0 < cs.length → dp = some ⟨g, off, none⟩ ∧ ∃ ad, sp = some ad ∧ ∀ j v, cs[j]? = some v → w.cell? (ad.add j) = some v)
    (hfit : off + cs.length ≤ cur.size) (h1 : ∀ v ∈ cs, v.oneCell' = true)
    (h : ∀ w', Hid (w'.heap[g]? = some (.cells (cur.toList.take off ++ cs ++ cur.toList.drop (off + cs.length)).toArray t (0, 0))) → Kept (· = g) w w' → K (a.put o.dst (goInt cs.length)) w') :
    if Region.wanted o (yielded ops a.tmps) = true then Oper.wp P o a w K Q else E := by
  have hw : Region.wanted o (yielded ops a.tmps) = true := by simp [Region.wanted, hgd]
  rw [if_pos hw]
  by_cases h0 : cs.length = 0
  · obtain rfl : cs = [] := List.eq_nil_of_length_eq_zero h0
    have hrun := run_copy_none (P := P) w dT sT o.type elem dp sp dLen dCap sLen sCap hu hsz (by simpa using hn.symm)
    unfold Oper.wp
    simp [execOp, ho, resolve, invoke, builtin, hd, hs, hrun, Result.andThen]
    exact h w (show _ = _ by simpa using hg) (Kept.refl _ _)
  · obtain ⟨rfl, ad, rfl, hsrc⟩ := hpos (by omega)
    have hrun := run_copy_row (P := P) w dT sT o.type elem g off dLen dCap ad sLen sCap cur t cs hu hsz hg hn hsrc hfit h1
    unfold Oper.wp
    simp [execOp, ho, resolve, invoke, builtin, hd, hs, hrun, Result.andThen]
    exact h _ (show _ = _ by simpa using setRow_heap w g _ _ t _ hg) (Kept.setRow _ _ _)
theorem leave_row {w' : World} {g o cap k : Nat} {cur : Array Value} {xs : List Int} (hk : k < xs.length) (hcap : xs.length ≤ cap) (hfit : o + cap ≤ cur.size) (hx : ∀ i, i < xs.length → cur[o + i]? = some (.int .u64 (xs.getD i 0)))
    (hg : w'.heap[g]? = some (.cells (cur.toList.take (o + 1) ++ V64 (xs.take k) ++ cur.toList.drop (o + 1 + (V64 (xs.take k)).length)).toArray 44 (0, 0))) :
    Row w' (.slice (some ⟨g, if cap = 1 then o else o + 1, none⟩) (xs.length - 1) (cap - 1)) (xs.eraseIdx k) := by
  have hl : (xs.eraseIdx k).length = xs.length - 1 := List.length_eraseIdx_of_lt hk
  have hlk : (V64 (xs.take k)).length = k := by simp; omega
  refine .inr ⟨g, _, cap - 1, _, by rw [hl], hg, by omega, ?_, ?_⟩
  · simp; split <;> omega
  · intro i hi
    have h1 : ¬ cap = 1 := by omega
    rw [if_neg h1, leave_at]
    have hlt : o + 1 ≤ cur.toList.length := by simp; omega
    simp only [List.getElem?_toArray, List.append_assoc]
    rw [List.getElem?_append_right (by simp; omega), List.length_take, Nat.min_eq_left hlt, show o + 1 + i - (o + 1) = i by omega]
    by_cases hik : i < k
    · rw [if_pos hik, List.getElem?_append_left (by omega)]
      simp [hik, List.getD, List.getElem?_eq_getElem (show i < xs.length by omega)]
    · rw [if_neg hik, List.getElem?_append_right (by omega), hlk, List.getElem?_drop, Array.getElem?_toList, show o + 1 + k + (i - k) = o + (i + 1) by omega]
      exact hx (i + 1) (by omega)
set_option maxHeartbeats 1000000 in
set_option maxRecDepth 100000 in
theorem leave_at_k {w : World} {Q : Nat} {v : Value} {xs : List Int} {m : Int} (h : QAt 59 w Q v xs m) (k : Nat) (hk : k < xs.length) (hn : xs.length ≤ 100000) :
    Calls Tryz.prog 90 #[qp Q, .int .i64 k] w fun e w' => e = .returned (.tuple #[]) ∧ ∃ v', QAt 59 w' Q v' (xs.eraseIdx k) m ∧ blk v' = blk v ∧ Kept (fun b => b = Q ∨ blk v = some b) w w' := by
  rcases h.row with ⟨rfl, rfl⟩ | ⟨g, o, cap, cur, rfl, hg, hcap, hfit, hx⟩
  · simp at hk
  have H : Hid (QAt 59 w Q (.slice (some ⟨g, o, none⟩) xs.length cap) xs m) := h
  have HG : Hid (w.heap[g]? = some (.cells cur 44 (0, 0))) := hg
  have HX : Hid (∀ i, i < xs.length → cur[o + i]? = some (.int .u64 (xs.getD i 0))) := hx
  have HF : Hid (o + cap ≤ cur.size) := hfit
  have hqn : Hid (g ≠ Q) := h.ne (by decide) rfl
  have c0 := h.c0
  have hk1 : IntKind.i64.wrap ((k : Int) + 1) = (k : Int) + 1 := by rw [IntKind.wrap_i64]; omega
  have n1 : (k : Int) + 1 ≤ (cap : Int) := by omega
  have n2 : (1 : Int) ≤ (k : Int) + 1 := by omega
  have n3 : (k : Int) ≤ (cap : Int) := by omega
  have n4 : (1 : Int) ≤ (xs.length : Int) := by omega
  have hks := hk
  clear h hg hx hfit
  go_enter Tryz.func90, Tryz.ntmps90
  go_wp2_with fail
  refine wp_region_noPanic ?_
  refine wp_region_held_drew (S := fun w' => w'.cell? ⟨Q, 0, none⟩ = some (.slice (some ⟨g, o, none⟩) xs.length cap)) (by kernel_rfl) c0 (fun hHeld => ?_)
  have D2 : Hid (Below w.heap.size w w.drew) := below_drawn 1
  generalize w.drew = wd at *
  refine wpAnyH_take (i := 0) (v := ?va1) (by simp; rfl) (by kernel_rfl) (by kernel_rfl) (by kernel_rfl) (fun _ _ _ h => h) (Or.inl ⟨by rfl, ?ya1⟩) hHeld ?ra1
  case ya1 => intro w hSw; clear hSw; go_simp; with_reducible rfl
  simp only [Act.put, List.setIfInBounds_toArray, List.set_cons_zero, List.set_cons_succ]
  refine wpAnyH_take (i := 1) (v := ?va2) (by simp; rfl) (by kernel_rfl) (by kernel_rfl) (by kernel_rfl) (fun _ _ _ h => h) (Or.inl ⟨by rfl, ?ya2⟩) hHeld ?ra2
  case ya2 => intro w hSw; clear hSw; go_simp; with_reducible rfl
  simp only [Act.put, List.setIfInBounds_toArray, List.set_cons_zero, List.set_cons_succ]
  refine wpAnyH_take (i := 2) (v := ?va3) (by simp; rfl) (by kernel_rfl) (by kernel_rfl) (by kernel_rfl) (fun _ _ _ h => h) (Or.inl ⟨by rfl, ?ya3⟩) hHeld ?ra3
  case ya3 => intro w hSw; clear hSw; go_simp; with_reducible rfl
  simp only [Act.put, List.setIfInBounds_toArray, List.set_cons_zero, List.set_cons_succ]
  refine wpAnyH_take (i := 3) (v := ?va4) (by simp; rfl) (by kernel_rfl) (by kernel_rfl) (by kernel_rfl) (fun _ _ _ h => h) (Or.inl ⟨by rfl, ?ya4⟩) hHeld ?ra4
  case ya4 => intro w hSw; have z := hSw; clear hSw; go_simp; with_reducible rfl
  simp only [Act.put, List.setIfInBounds_toArray, List.set_cons_zero, List.set_cons_succ]
  refine wpAnyH_take (i := 4) (v := ?va5) (by simp; rfl) (by kernel_rfl) (by kernel_rfl) (by kernel_rfl) (fun _ _ _ h => h) (Or.inl ⟨by rfl, ?ya5⟩) hHeld ?ra5
  case ya5 => intro w hSw; clear hSw; go_simp; with_reducible rfl
  simp only [Act.put, List.setIfInBounds_toArray, List.set_cons_zero, List.set_cons_succ]
  refine wpAnyH_take (i := 5) (v := ?va6) (by simp; rfl) (by kernel_rfl) (by kernel_rfl) (by kernel_rfl) (fun _ _ _ h => h) (Or.inl ⟨by rfl, ?ya6⟩) hHeld ?ra6
  case ya6 => intro w hSw; clear hSw; go_simp; with_reducible rfl
  simp only [Act.put, List.setIfInBounds_toArray, List.set_cons_zero, List.set_cons_succ]
  refine wpAnyH_take (i := 6) (v := ?va7) (by simp; rfl) (by kernel_rfl) (by kernel_rfl) (by kernel_rfl) (fun _ _ _ h => h) (Or.inl ⟨by rfl, ?ya7⟩) hHeld ?ra7
  case ya7 => intro w hSw; clear hSw; go_simp; with_reducible rfl
  simp only [Act.put, List.setIfInBounds_toArray, List.set_cons_zero, List.set_cons_succ]
  refine wpAnyH_take (i := 7) (v := ?va8) (by simp; rfl) (by kernel_rfl) (by kernel_rfl) (by kernel_rfl) (fun _ _ _ h => h) (Or.inl ⟨by rfl, ?ya8⟩) hHeld ?ra8
  case ya8 => intro w hSw; clear hSw; go_simp; with_reducible rfl
  simp only [Act.put, List.setIfInBounds_toArray, List.set_cons_zero, List.set_cons_succ]
  refine wpAnyH_take (i := 8) (v := ?va9) (by simp; rfl) (by kernel_rfl) (by kernel_rfl) (by kernel_rfl) (fun _ _ _ h => h) (Or.inl ⟨by rfl, ?ya9⟩) hHeld ?ra9
  case ya9 => intro w hSw; clear hSw; go_simp; with_reducible rfl
  simp only [Act.put, List.setIfInBounds_toArray, List.set_cons_zero, List.set_cons_succ]
  refine wpAnyH_take (i := 9) (v := ?va10) (by simp; rfl) (by kernel_rfl) (by kernel_rfl) (by kernel_rfl) (fun _ _ _ h => h) (Or.inl ⟨by rfl, ?ya10⟩) hHeld ?ra10
  case ya10 => intro w hSw; clear hSw; go_simp; with_reducible rfl
  simp only [Act.put, List.setIfInBounds_toArray, List.set_cons_zero, List.set_cons_succ]
  refine wpAnyH_take (i := 10) (v := ?va11) (by simp; rfl) (by kernel_rfl) (by kernel_rfl) (by kernel_rfl) (fun _ _ _ h => h) (Or.inl ⟨by rfl, ?ya11⟩) hHeld ?ra11
  case ya11 => intro w hSw; have z := hSw; clear hSw; go_simp; with_reducible rfl
  simp only [Act.put, List.setIfInBounds_toArray, List.set_cons_zero, List.set_cons_succ]
  refine wpAnyH_take (i := 11) (v := ?va12) (by simp; rfl) (by kernel_rfl) (by kernel_rfl) (by kernel_rfl) (fun _ _ _ h => h) (Or.inl ⟨by rfl, ?ya12⟩) hHeld ?ra12
  case ya12 => intro w hSw; clear hSw; go_simp; with_reducible rfl
  simp only [Act.put, List.setIfInBounds_toArray, List.set_cons_zero, List.set_cons_succ]
  refine wpAnyH_take (i := 12) (v := ?va13) (by simp; rfl) (by kernel_rfl) (by kernel_rfl) (by kernel_rfl) (fun _ _ _ h => h) (Or.inl ⟨by rfl, ?ya13⟩) hHeld ?ra13
  case ya13 => intro w hSw; clear hSw; go_simp; with_reducible rfl
  simp only [Act.put, List.setIfInBounds_toArray, List.set_cons_zero, List.set_cons_succ]
  refine wpAnyH_ready (rs := [13]) (by kernel_rfl) (by simp) ?_
  refine AllReadyH.cons (by simp; rfl) (fun Kc hKc => ?_) AllReadyH.nil
  have hgd : wd.heap[g]? = some (.cells cur 44 (0, 0)) := (D2.out.block g (H.out.row.lt rfl)).trans HG.out
  have hsrc : ∀ j u, (V64 (xs.take k))[j]? = some u → wd.cell? ((⟨g, o, none⟩ : Addr).add j) = some u := by
    intro j u hj
    have hjk : j < k := by have := (List.getElem?_eq_some_iff.1 hj).1; simp at this; omega
    rw [Addr.add_lit, cell_of_row _ g _ cur 44 (0, 0) hgd, HX.out j (by omega), ← hj]
    simp [hjk, List.getD, List.getElem?_eq_getElem (show j < xs.length by omega)]
  have hlk : (V64 (xs.take k)).length = k := by simp; omega
  refine step_copy_kept rfl (.tmp 10) (.tmp 16) 37 37 rfl 44 Tryz.underlying37 size26 _ _ k (cap - 1) k cap rfl rfl g (o + 1) cur 44 hgd (V64 (xs.take k)) (by rw [hlk]; simp) (fun h0 => ⟨if_neg (by omega), _, rfl, hsrc⟩) (by rw [hlk]; have := HF.out; omega) (ones_u64 _) ?_
  intro w3 hg3 hk3
  have K3 : Hid (Kept (· = g) wd w3) := hk3
  have HR : Hid (Row w3 (.slice (some ⟨g, if cap = 1 then o else o + 1, none⟩) (xs.length - 1) (cap - 1)) (xs.eraseIdx k)) := leave_row hk hcap HF.out HX.out hg3.out
  have HQ : Hid (w3.heap[Q]? = some (.cells #[.slice (some ⟨g, o, none⟩) xs.length cap, .int .u64 m] 59 (0, 0))) := (hk3.block Q (Nat.lt_of_lt_of_le H.out.lt D2.out.size) (fun e => hqn.out e.symm)).trans ((D2.out.block Q H.out.lt).trans H.out.st)
  have c3 : w3.cell? ⟨Q, 0, none⟩ = some (.slice (some ⟨g, o, none⟩) xs.length cap) := by rw [cell_of_row _ Q 0 _ 59 (0, 0) HQ.out]; rfl
  have f3 : w3.frozen? ⟨Q, 0, none⟩ = false := by simp [World.frozen?, HQ.out]
  clear hsrc hk3 hg3 hlk hgd
  refine hKc.out _ _ c3 (fun hHeld => ?_)
  clear hKc Kc hHeld c0
  refine wpAnyH_done (by kernel_rfl) (NoPanic.normal ?_) _
  have HK : Hid (∀ u, Kept (fun b => b = Q ∨ g = b) w (w3.setCell ⟨Q, 0, none⟩ u)) := fun u => ((Kept.of_below (fun b => b = Q ∨ g = b) D2.out).trans K3.out (fun x _ e => .inr e.symm)).trans (Kept.setCell Q 0 u) (fun x _ e => .inl e)
  by_cases hc1 : cap = 1
  · have HR1 : Hid (Row w3 (.slice (some ⟨g, o, none⟩) 0 0) (xs.eraseIdx k)) := by have := HR.out; rw [if_pos hc1, hc1, show xs.length - 1 = 0 by omega] at this; exact this
    subst hc1
    clear HR
    go_wp2_with fail
    go_end0
    exact ⟨rfl, _, QAt.set0 HQ.out HR1.out (fun g' e => by cases e; exact hqn.out), rfl, (HK.out _).wider fun x _ e => or_id e fun e => by rw [e]; rfl⟩
  · have HR1 : Hid (Row w3 (.slice (some ⟨g, o + 1, none⟩) (xs.length - 1) (cap - 1)) (xs.eraseIdx k)) := by have := HR.out; rw [if_neg hc1] at this; exact this
    clear HR
    go_wp2_with fail
    go_end0
    exact ⟨rfl, _, QAt.set0 HQ.out HR1.out (fun g' e => by cases e; exact hqn.out), rfl, (HK.out _).wider fun x _ e => or_id e fun e => by rw [e]; rfl⟩
set_option maxHeartbeats 1000000 in
set_option maxRecDepth 100000 in
theorem put_nil (t : Int) (w : World) : Calls Tryz.prog 60 #[nilq, .int .u64 t] w fun e w' => e = .returned (.int .i64 1) ∧ w = w' := by
  go_enter Tryz.func60, Tryz.ntmps60
  go_wp2
  go_ret
  exact ⟨rfl, rfl⟩
set_option maxHeartbeats 1000000 in
set_option maxRecDepth 100000 in
theorem put_low {w : World} {Q : Nat} {v : Value} {xs : List Int} {m : Int} (h : QAt 59 w Q v xs m) (t : Int) (ht : t ≤ m) : Calls Tryz.prog 60 #[qp Q, .int .u64 t] w fun e w' => e = .returned (.int .i64 110) ∧ w = w' := by
  have c1 := h.c1
  have hd := decide_eq_true ht
  clear h
  go_enter Tryz.func60, Tryz.ntmps60
  go_wp2
  go_ret
  exact ⟨rfl, rfl⟩
set_option maxHeartbeats 1000000 in
set_option maxRecDepth 100000 in
theorem put_high {w : World} {Q : Nat} {v : Value} {xs : List Int} {m : Int} (h : QAt 59 w Q v xs m) (t : Int) (ht : ¬ t ≤ m) (hn : xs.length < 100000) :
    Calls Tryz.prog 60 #[qp Q, .int .u64 t] w fun e w' => e = .returned (.int .i64 0) ∧ ∃ v', QAt 59 w' Q v' (xs ++ [t]) t ∧ Kept (fun b => b = Q ∨ blk v = some b) w w' ∧ (blk v' = blk v ∨ ∃ g, blk v' = some g ∧ w.heap.size ≤ g) := by
  have H : Hid (QAt 59 w Q v xs m) := h
  have c0 := h.c0
  have c1 := h.c1
  have hd := decide_eq_false ht
  clear h
  go_enter Tryz.func60, Tryz.ntmps60
  go_wp2_with (at_builtin; refine wpList_append_row _ rfl (.tmp 17) (.tmp 19) rfl v xs rfl (H.out.row.later (below_alloc w _)) (some ⟨w.heap.size, 0, none⟩) 1 1 [t] rfl (one_in w t) (by omega) ?_; intro v2 w2 r2 k2 b2; obtain ⟨p2, n2, cc2, hv2⟩ := r2.shape; have R2 : Hid (Row w2 v2 (xs ++ [t])) := r2; have K2 : Hid (Kept (fun b => blk v = some b) (w.alloc (.cells #[.int .u64 t] 44)) w2) := k2; have B2 : Hid (blk v2 = blk v ∨ ∃ g, blk v2 = some g ∧ (w.alloc (.cells #[.int .u64 t] 44)).heap.size ≤ g) := b2; have HQ : Hid (w2.heap[Q]? = some (.cells #[v, .int .u64 m] 59 (0, 0))) := (k2.block Q (by have := H.out.lt; simp; omega) (fun e => H.out.ne (by decide) e rfl)).trans (((below_alloc w (.cells #[.int .u64 t] 44)).block Q H.out.lt).trans H.out.st); have f2 : w2.frozen? ⟨Q, 0, none⟩ = false := (by simp [World.frozen?, HQ.out]); have c2 : w2.cell? ⟨Q, 0, none⟩ = some v := (by rw [cell_of_row _ Q 0 _ 59 (0, 0) HQ.out]; rfl); have f3 : w2.frozen? ⟨Q, 1, none⟩ = false := (by simp [World.frozen?, HQ.out]); have c3 : w2.cell? ⟨Q, 1, none⟩ = some (.int .u64 m) := (by rw [cell_of_row _ Q 1 _ 59 (0, 0) HQ.out]; rfl); clear r2 k2 b2; subst hv2)
  go_ret
  have hne : ∀ g, blk (.slice p2 n2 cc2) = some g → g ≠ Q := fun g hg => by
    have hl := H.out.lt
    rcases B2.out with e | ⟨g', e, hg'⟩
    · rw [e] at hg; exact H.out.ne (by decide) hg
    · rw [e] at hg; simp at hg hg'; omega
  have h1 := QAt.set1 (QAt.set0 HQ.out R2.out hne) (by decide) t
  refine ⟨rfl, _, h1, ?_, ?_⟩
  · refine (((Kept.of_below (fun b => b = Q ∨ blk v = some b) (below_alloc w (.cells #[.int .u64 t] 44))).trans K2.out (fun x _ e => .inr e)).trans (Kept.setCell Q 0 _) (fun x _ e => .inl e)).trans (Kept.setCell Q 1 _) (fun x _ e => .inl e)
  · rcases B2.out with e | ⟨g', e, hg'⟩
    · exact .inl e
    · exact .inr ⟨g', e, by simp at hg'; omega⟩
end Go.Proofs.YtkgjmejpbklabaaGreat
namespace Go.Proofs.YtkgjmejpbklabaaGreat
open Go.RowKit Go.Shelf

attribute [local go_sem] Oper.semAt_some
/-- the value of a sequence that All handed back -/
abbrev seqV (B : Nat) : Value := .func (.func 77) #[] #[.pointer (some ⟨B, 0, none⟩)]
set_option maxHeartbeats 1000000 in
set_option maxRecDepth 100000 in
theorem all_is (p : Option Addr) (w : World) :
    Calls Tryz.prog 45 #[.pointer p] w fun e w' => e = .returned (seqV w.heap.size) ∧ w' = w.alloc (.cells #[.pointer p] 57) := by
  go_enter Tryz.func45, Tryz.ntmps45
  go_wp2
  go_ret
  exact ⟨rfl, rfl⟩
set_option maxRecDepth 100000 in
set_option maxHeartbeats 2000000 in
set_option maxRecDepth 100000 in
theorem all1_in (F : Fence) (n : Nat) (h7 : F.fn 77) (hro : F.round = none) (hn : 1 ≤ n) (l B Q n₀ b off len cap : Nat) (zs : List Int) (hzs : zs.length = len) (hreach : len ≤ 17592186044416) (hb : b < n₀) (J Jx : List Int → World → Prop)
    (hY : ∀ pre x W, x ∈ zs → J pre W → pre.length < len → YieldAt F (n - 1) Tryz.prog l #[.int .u64 x] W fun e W' =>
      (e = .returned (.bool true) ∧ J (pre ++ [x]) W' ∧ Below n₀ W W') ∨ (e = .returned (.bool false) ∧ Jx (pre ++ [x]) W'))
    (W : World) (hB : W.cell? ⟨B, 0, none⟩ = some (.pointer (some ⟨Q, 0, none⟩))) (hQ : W.cell? ⟨Q, 0, none⟩ = some (.slice (some ⟨b, off, none⟩) len cap)) (hc : ∀ j, j < len → W.cell? ⟨b, off + j, none⟩ = some (.int .u64 (zs.getD j 0))) (h0 : J [] W) :
    CallsIn F n Tryz.prog 77 #[.func (.yield l) #[] #[], .pointer (some ⟨B, 0, none⟩)] W fun e W' => (∃ v, e = .returned v) ∧
      ((∃ ys, ys = zs ∧ J ys W') ∨ (∃ pre, pre <+: zs ∧ Jx pre W')) := by
  refine callsIn_of_wp Tryz.func77 rfl h7 ?_ hro
  simp only [Tryz.ntmps77, List.size_toArray, List.length_cons, List.length_nil, Nat.reduceAdd, Nat.reduceSub, Array.replicate_succ, Array.replicate_zero, List.push_toArray, List.append_toArray, List.nil_append, List.cons_append]
  gi_wp2
  gi_loopw [12] (fun i wr => ∃ k : Nat, k ≤ len ∧ i = .int .i64 k ∧ J (upto zs k) wr ∧ Below n₀ W wr)
    (fun i _ => len - (intOf i).toNat)
  case atStart => exact ⟨0, Nat.zero_le _, rfl, h0, Below.refl _ _⟩
  case round =>
    obtain ⟨k, hk, rfl, hJs, hnx⟩ := hrel
    have hcx : k < len → wr.cell? ⟨b, off + k, none⟩ = some (.int .u64 (zs.getD k 0)) := fun h => (hnx.cell (p := ⟨b, off + k, none⟩) hb).trans (hc k h)
    by_cases hlt : k < len
    · obtain ⟨fn, tmps, assign, body, hy, hR⟩ := hY _ (zs.getD k 0) wr (by rw [List.getD, List.getElem?_eq_getElem (by omega)]; exact List.getElem_mem _) hJs (by rw [upto_length]; exact hlt)
      have hcx' := hcx hlt
      have HS : Hid (upto zs (k + 1) = upto zs k ++ [zs.getD k 0]) := upto_succ zs k
      have HP : Hid (upto zs (k + 1) <+: zs) := by show _ <+: _; rw [upto_take zs _ (by omega)]; exact List.take_prefix _ _
      clear hcx hc
      generalize zs.getD k 0 = x at *
      gi_wp2
      refine hR.mono ?_
      rintro e W3 (⟨rfl, hJ3, hk3⟩ | ⟨rfl, hJx3⟩)
      · gi_wp2
        go_roundw
        case rel => exact ⟨k + 1, by omega, by simp, by rw [HS.out]; exact hJ3, hnx.trans hk3⟩
        case measure => simp [intOf]; omega
      · gi_wp2
        refine bodyPost_ret (results_none rfl _ _ _) rfl ?_
        exact ⟨⟨_, rfl⟩, .inr ⟨_, by rw [← HS.out]; exact HP.out, hJx3⟩⟩
    · obtain rfl : k = len := by omega
      gi_wp2
      go_end0
      exact ⟨⟨_, rfl⟩, .inl ⟨_, by rw [← hzs]; exact upto_all zs, hJs⟩⟩
set_option maxRecDepth 100000 in
set_option maxHeartbeats 1000000 in
set_option maxRecDepth 100000 in
theorem all1_zero_in (F : Fence) (n : Nat) (h7 : F.fn 77) (hro : F.round = none) (l B Q : Nat) (p : Option Addr) (cap : Nat) (J : List Int → World → Prop) (W : World) (hB : W.cell? ⟨B, 0, none⟩ = some (.pointer (some ⟨Q, 0, none⟩))) (hQ : W.cell? ⟨Q, 0, none⟩ = some (.slice p 0 cap)) (h0 : J [] W) :
    CallsIn F n Tryz.prog 77 #[.func (.yield l) #[] #[], .pointer (some ⟨B, 0, none⟩)] W fun e W' => (∃ v, e = .returned v) ∧ J [] W' := by
  refine callsIn_of_wp Tryz.func77 rfl h7 ?_ hro
  simp only [Tryz.ntmps77, List.size_toArray, List.length_cons, List.length_nil, Nat.reduceAdd, Nat.reduceSub, Array.replicate_succ, Array.replicate_zero, List.push_toArray, List.append_toArray, List.nil_append, List.cons_append]
  gi_wp2
  gi_loopw [12] (fun i wr => i = .int .i64 0 ∧ J [] wr) (fun _ _ => 0)
  case atStart => exact ⟨rfl, h0⟩
  case round =>
    obtain ⟨rfl, hJs⟩ := hrel
    gi_wp2
    go_end0
    exact ⟨⟨_, rfl⟩, hJs⟩
set_option maxRecDepth 100000 in
set_option maxHeartbeats 1000000 in
set_option maxRecDepth 100000 in
theorem all1_nil_in (F : Fence) (n : Nat) (h7 : F.fn 77) (hro : F.round = none) (l B : Nat) (J : List Int → World → Prop) (W : World) (hB : W.cell? ⟨B, 0, none⟩ = some (.pointer none)) (h0 : J [] W) :
    CallsIn F n Tryz.prog 77 #[.func (.yield l) #[] #[], .pointer (some ⟨B, 0, none⟩)] W fun e W' => (∃ v, e = .returned v) ∧ J [] W' := by
  refine callsIn_of_wp Tryz.func77 rfl h7 ?_ hro
  simp only [Tryz.ntmps77, List.size_toArray, List.length_cons, List.length_nil, Nat.reduceAdd, Nat.reduceSub, Array.replicate_succ, Array.replicate_zero, List.push_toArray, List.append_toArray, List.nil_append, List.cons_append]
  gi_wp2
  refine bodyPost_ret (results_none rfl _ _ _) rfl ?_
  exact ⟨⟨_, rfl⟩, h0⟩
/-- what stands behind a queue's pointer: a queue with these tickets, or nil, an empty one -/
def Stands (w : World) (p : Option Addr) (zs : List Int) : Prop := (p = none ∧ zs = []) ∨ ∃ Q v m, p = some ⟨Q, 0, none⟩ ∧ QAt 59 w Q v zs m
theorem Stands.later {w w' : World} {p : Option Addr} {zs : List Int} (h : Stands w p zs) (hb : Below w.heap.size w w') : Stands w' p zs := by
  rcases h with h | ⟨Q, v, m, rfl, h⟩
  · exact .inl h
  · exact .inr ⟨Q, v, m, rfl, h.later hb⟩
/-- **What All gives**: all tickets, or a beginning of them, where a round has said 'no more'; as they stood when the loop begins, in memory below n₀ that no round turns. -/
theorem all_stops (F : Fence) (n : Nat) (h7 : F.fn 77) (hro : F.round = none) (hn : 1 ≤ n) (B n₀ : Nat) (p : Option Addr) (zs : List Int) (hreach : zs.length ≤ 100000) (w w₀ : World) (hB : B < w.heap.size) (hn₀ : n₀ ≤ w.heap.size) (hw₀ : Below n₀ w₀ w) (hz₀ : w₀.heap.size = n₀)
    (hc : w.cell? ⟨B, 0, none⟩ = some (.pointer p)) (hS : Stands w₀ p zs) :
    SeqStopsK F n Tryz.prog 77 #[.pointer (some ⟨B, 0, none⟩)] (fun x : Int => #[Value.int .u64 x]) (Below n₀) (fun ys => ys = zs) (fun pre => pre <+: zs) zs.length w := fun l J Jx W hW _ _ hY h0 => by
  have hc' := (hW.cell (p := ⟨B, 0, none⟩) hB).trans hc
  subst hz₀
  have hb0 : Below w₀.heap.size w₀ W := hw₀.trans (hW.mono hn₀)
  rcases hS.later hb0 with ⟨rfl, rfl⟩ | ⟨Q, v, m, rfl, hQ⟩
  · exact (all1_nil_in F n h7 hro l B J W hc' h0).mono fun e W' ⟨he, hj⟩ => ⟨he, .inl ⟨_, rfl, hj⟩⟩
  have hlt : ∀ g, blk v = some g → g < w₀.heap.size := by
    rcases hS with ⟨h, _⟩ | ⟨Q', v', m', e, hQ'⟩
    · cases h
    · simp only [Option.some.injEq, Addr.mk.injEq, and_true] at e
      subst e
      intro g hg
      have e2 := (hb0.block Q hQ'.lt).trans hQ'.st
      rw [hQ.st] at e2
      simp at e2
      rw [e2.1] at hg
      exact hQ'.row.lt hg
  obtain ⟨q, c, rfl, hI, _⟩ := hQ.row.form
  by_cases hp : 0 < zs.length
  · obtain ⟨b, off, rfl, hcs⟩ := hI.cells hp
    exact all1_in F n h7 hro hn l B Q w₀.heap.size b off zs.length c zs rfl (by omega) (hlt b rfl) J Jx (fun pre x W _ => hY pre x W) W hc' hQ.c0 hcs h0
  · obtain rfl : zs = [] := List.eq_nil_of_length_eq_zero (by omega)
    exact (all1_zero_in F n h7 hro l B Q q c J W hc' hQ.c0 h0).mono fun e W' ⟨he, hj⟩ => ⟨he, .inl ⟨_, rfl, hj⟩⟩
end Go.Proofs.YtkgjmejpbklabaaGreat
namespace Go.Proofs.YtkgjmejpbklabaaGreat
open Go.RowKit Go.Shelf

attribute [local go_sem] Oper.semAt_some
theorem results_one {fn : Func} {p : Tmp} {ty : TypeId} {d : TypeDesc} (h : fn.results = #[.cell p ty]) (hu : Tryz.prog.underlying ty = some d) (hd : d.isRow = false) (tmps : Array Value) (w : World) (g : Nat) (v : Value)
    (hp : tmps.getD p undef = .pointer (some ⟨g, 0, none⟩)) (hc : w.cell? ⟨g, 0, none⟩ = some v) : (results fn tmps).run Tryz.prog w = .ok v w := by
  have hp' : tmps[p]?.getD undef = .pointer (some ⟨g, 0, none⟩) := by simpa using hp
  have hagg : (isAgg ty).run Tryz.prog w = .ok false w := by
    unfold isAgg
    rw [Sem.run_bind, run_underlying hu w]
    cases d <;> simp_all
  simp [results, h, hp', asAddr, loadVar, Sem.run_bind, hagg, go_sem, hc]
set_option maxRecDepth 100000 in
set_option maxHeartbeats 2000000 in
set_option maxRecDepth 100000 in
theorem place_any (p : Option Addr) (t : Int) (zs : List Int) (w : World) (hS : Stands w p zs) (hn : zs.length ≤ 100000) :
    Calls Tryz.prog 95 #[.pointer p, .int .u64 t] w fun e' w' => e' = .returned (.int .i64 (place zs t)) ∧ Below w.heap.size w w' := by
  refine (callsIn_wide (n := 9)).1 ?_
  refine callsIn_of_wp_marks Tryz.func95 rfl trivial ?_ rfl
  simp only [Tryz.ntmps95, List.size_toArray, List.length_cons, List.length_nil, Nat.reduceAdd, Nat.reduceSub, Array.replicate_succ, Array.replicate_zero, List.push_toArray, List.append_toArray, List.nil_append, List.cons_append]
  gi_wp2_with (first | (refine ⟨trivial, ?_⟩; gi_at_call 45; refine (callsIn_wide.2 (all_is _ _)).mono ?_; rintro e w' ⟨rfl, rfl⟩))
  have bT := (((Boxed.new w 44 (.int .u64 t)).alloc (.cells #[.int .i64 0] 3)).alloc (.cells #[.int .i64 0] 3)).alloc (.cells #[.pointer p] 57)
  have bR := ((Boxed.new (w.alloc (.cells #[.int .u64 t] 44)) 3 (.int .i64 0)).alloc (.cells #[.int .i64 0] 3)).alloc (.cells #[.pointer p] 57)
  have bA := (Boxed.new ((w.alloc (.cells #[.int .u64 t] 44)).alloc (.cells #[.int .i64 0] 3)) 3 (.int .i64 0)).alloc (.cells #[.pointer p] 57)
  have bB := Boxed.new (((w.alloc (.cells #[.int .u64 t] 44)).alloc (.cells #[.int .i64 0] 3)).alloc (.cells #[.int .i64 0] 3)) 57 (.pointer p)
  simp only [World.size_alloc] at bT bR bA bB
  have hB0 : Below w.heap.size w ((((w.alloc (.cells #[.int .u64 t] 44)).alloc (.cells #[.int .i64 0] 3)).alloc (.cells #[.int .i64 0] 3)).alloc (.cells #[.pointer p] 57)) := ((((Below.refl _ w).alloc (Nat.le_refl _) _).alloc (by simp) _).alloc (by simp; omega) _).alloc (by simp; omega) _
  have hsz : ((((w.alloc (.cells #[.int .u64 t] 44)).alloc (.cells #[.int .i64 0] 3)).alloc (.cells #[.int .i64 0] 3)).alloc (.cells #[.pointer p] 57)).heap.size = w.heap.size + 4 := by simp
  obtain ⟨W0, hW0⟩ : ∃ W0, ((((w.alloc (.cells #[.int .u64 t] 44)).alloc (.cells #[.int .i64 0] 3)).alloc (.cells #[.int .i64 0] 3)).alloc (.cells #[.pointer p] 57)) = W0 := ⟨_, rfl⟩
  rw [hW0] at bT bR bA bB hB0 hsz ⊢
  clear hW0
  refine wpIn_rangeFunc_ownG (F := Fence.wide) (n := 9) (P := Tryz.prog) rfl (by decide) (gf := 77) (lb := #[.pointer (some ⟨w.heap.size + 1 + 1 + 1, 0, none⟩)]) rfl trivial (enters_of Tryz.func77 (by kernel_rfl) rfl)
    (all_stops Fence.wide (9 - 1) trivial rfl (by decide) (w.heap.size + 1 + 1 + 1) w.heap.size p zs hn W0 w (by omega) (by omega) hB0 rfl bB.cell hS) belowK_t (belowK_b (by omega)) (Below.refl _ _) (fun _ => rfl)
    (fun pre W => (((t ∉ pre) ∧ (∃ y : Value, Boxed W (w.heap.size + 1) 3 y)) ∧ (Boxed W w.heap.size 44 (.int .u64 t) ∧ Boxed W (w.heap.size + 1 + 1) 3 (.int .i64 pre.length))) ∧ Below w.heap.size w W)
    (fun c pre W => ((c = .ret) ∧ (∃ (pre' : List Int), (pre = pre' ++ [t] ∧ t ∉ pre') ∧ Boxed W (w.heap.size + 1) 3 (.int .i64 pre'.length))) ∧ Below w.heap.size w W)
    (OwnFrom.and (OwnFrom.and (OwnFrom.and (ownFrom_pure _ _) (fun _ X Y row hs hg hr => by obtain ⟨y, hy⟩ := hs; exact ⟨y, boxed_own (w.heap.size + 1) 3 (fun (_ : Unit) => y) () X Y row hy hg (fun r e => (hr r e).2)⟩)) (OwnFrom.and (Own.from (boxed_own _ _ _) _) (Own.from (boxed_own (w.heap.size + 1 + 1) 3 (fun pre : List Int => Value.int .i64 pre.length)) _))) (ownFrom_below (Nat.le_refl _) (by omega)))
    (fun c => OwnFrom.and (OwnFrom.and (ownFrom_pure _ _) (fun _ X Y row hs hg hr => by obtain ⟨pre', hp, hy⟩ := hs; exact ⟨pre', hp, boxed_own (w.heap.size + 1) 3 (fun (_ : Unit) => Value.int .i64 pre'.length) () X Y row hy hg (fun r e => (hr r e).2)⟩)) (ownFrom_below (Nat.le_refl _) (by omega)))
    ⟨⟨⟨by simp, _, bR⟩, bT, bA⟩, hB0⟩
    (fun x => { tmps := #[.pointer p, .int .u64 t, undef, .pointer (some ⟨w.heap.size, 0, none⟩), .pointer (some ⟨w.heap.size + 1, 0, none⟩), .pointer (some ⟨w.heap.size + 1 + 1, 0, none⟩), .int .u64 x, .pointer p, seqV (w.heap.size + 1 + 1 + 1), .int .u64 x, undef, undef, undef, undef, undef, undef], defers := [] }) ?assign ?body ?done ?stop
  case assign =>
    intro l x W K hK
    gi_wp2
    exact hK
  case body =>
    rintro l pre x W ⟨⟨⟨hp, y, hy⟩, bT1, bA1⟩, hB1⟩ hlt
    have cT := bT1.cell
    have cA := bA1.cell
    have fA := bA1.frozen
    have cR := hy.cell
    have fR := hy.frozen
    have hlt' : pre.length < 100000 := by omega
    cases hz : (x == t)
    · have HP : Hid (t ∉ pre ++ [x]) := fun h => (List.mem_append.1 h).elim hp (fun e => by simp at e; subst e; simp at hz)
      have hw : IntKind.i64.wrap ((pre.length : Int) + 1) = (pre.length : Int) + 1 := by rw [IntKind.wrap_i64]; omega
      clear hp
      gi_wp2
      refine ⟨(KeepsOthers.setCell _ _ _).from _, (Below.refl _ _).setCell (p := ⟨w.heap.size + 1 + 1, 0, none⟩) (by simp; omega) _, ⟨⟨HP.out, _, hy.other (by omega) _⟩, bT1.other (by omega) _, ?_⟩, hB1.setCell (p := ⟨w.heap.size + 1 + 1, 0, none⟩) (by simp; omega) _⟩
      have := bA1.set (.int .i64 ((pre.length : Int) + 1))
      simpa using this
    · obtain rfl : x = t := by simpa using hz
      have HP : Hid (x ∉ pre) := hp
      clear hp
      gi_wp2
      exact ⟨(KeepsOthers.setCell _ _ _).from _, ⟨rfl, pre, ⟨rfl, HP.out⟩, hy.set _⟩, hB1.setCell (p := ⟨w.heap.size + 1, 0, none⟩) (by simp) _⟩
  case done =>
    rintro D ys W hD hSt ⟨⟨⟨hp, y, hy⟩, bT1, bA1⟩, hB1⟩ hK
    subst hSt
    have HP : Hid (t ∉ ys) := hp
    clear hp
    have cR := hy.cell
    have fR := hy.frozen
    gi_wp2
    have hK2 : (W.setCell ⟨w.heap.size + 1, 0, none⟩ (.int .i64 (-1))).heap[D]? = some (.deferred (some [])) := (Below.heap_setCell _ _ _ _ (by show D ≠ w.heap.size + 1; omega)).trans hK
    refine ⟨by simp, .inl ⟨_, _, rfl, run_takeDeferred hK2, ?_⟩⟩
    have b2 : Boxed ((W.setCell ⟨w.heap.size + 1, 0, none⟩ (.int .i64 (-1))).putObj D (.deferred none)) (w.heap.size + 1) 3 (.int .i64 (-1)) := (World.putObj_heap_other (by omega)).trans (hy.set _)
    refine ⟨_, results_one rfl Tryz.underlying3 rfl _ _ (w.heap.size + 1) _ rfl b2.cell, by rw [place_out HP.out], (hB1.setCell (p := ⟨w.heap.size + 1, 0, none⟩) (by simp) _).trans (belowK_b (w := w) (Nat.le_refl _) _ D _ _ (by omega) hK2 rfl rfl)⟩
  case stop =>
    rintro D c pre W hD hpre ⟨⟨rfl, pre', ⟨rfl, hx⟩, bX⟩, hB1⟩ hK
    obtain ⟨hin, hix⟩ := idxOf_pre pre' t zs hx hpre
    have HX : Hid (place zs t = pre'.length) := by show _ = _; rw [place_in hin, hix]
    gi_wp2
    refine ⟨by simp, .inl ⟨_, _, rfl, run_takeDeferred hK, ?_⟩⟩
    have b2 : Boxed (W.putObj D (.deferred none)) (w.heap.size + 1) 3 (.int .i64 pre'.length) := (World.putObj_heap_other (by omega)).trans bX
    exact ⟨_, results_one rfl Tryz.underlying3 rfl _ _ (w.heap.size + 1) _ rfl b2.cell, by rw [HX.out], hB1.trans (belowK_b (w := w) (Nat.le_refl _) W D _ _ (by omega) hK rfl rfl)⟩
end Go.Proofs.YtkgjmejpbklabaaGreat
namespace Go.Proofs.YtkgjmejpbklabaaGreat
open Go.RowKit
theorem getD_take {xs : List Int} {k : Nat} (h : k < xs.length) : xs.take (k + 1) = xs.take k ++ [xs.getD k 0] := by
  rw [List.take_succ_eq_append_getElem h]
  simp [List.getD, List.getElem?_eq_getElem h]
set_option maxHeartbeats 1000000 in
set_option maxRecDepth 100000 in
theorem take_nil (w : World) : Calls Tryz.prog 63 #[nilq] w fun e w' => e = .returned (.tuple #[.int .u64 0, .bool false]) ∧ w = w' := by
  go_enter Tryz.func63, Tryz.ntmps63
  go_wp2_with (go_at_call 89; refine (first_nil _).mono ?_; rintro e w' ⟨rfl, rfl⟩)
  go_ret2
  exact ⟨rfl, rfl⟩
set_option maxHeartbeats 1000000 in
set_option maxRecDepth 100000 in
theorem take_none {w : World} {Q : Nat} {v : Value} {m : Int} (h : QAt 59 w Q v [] m) : Calls Tryz.prog 63 #[qp Q] w fun e w' => e = .returned (.tuple #[.int .u64 0, .bool false]) ∧ w = w' := by
  go_enter Tryz.func63, Tryz.ntmps63
  go_wp2_with (go_at_call 89; refine (first_none h).mono ?_; rintro e w' ⟨rfl, rfl⟩)
  go_ret2
  exact ⟨rfl, rfl⟩
set_option maxHeartbeats 1000000 in
set_option maxRecDepth 100000 in
theorem take_some {w : World} {Q : Nat} {v : Value} {x : Int} {xs : List Int} {m : Int} (h : QAt 59 w Q v (x :: xs) m) (hn : (x :: xs).length ≤ 100000) :
    Calls Tryz.prog 63 #[qp Q] w fun e w' => e = .returned (.tuple #[.int .u64 x, .bool true]) ∧ ∃ v', QAt 59 w' Q v' xs m ∧ blk v' = blk v ∧ Kept (fun b => b = Q ∨ blk v = some b) w w' := by
  have H : Hid (QAt 59 w Q v (x :: xs) m) := h
  have HN : Hid ((x :: xs).length ≤ 100000) := hn
  clear h hn
  go_enter Tryz.func63, Tryz.ntmps63
  go_wp2_with (first | (go_at_call 89; refine (first_some H.out).mono ?_; rintro e w' ⟨rfl, rfl⟩) | (go_at_call 90; refine (leave_at_k H.out 0 (by simp) HN.out).mono ?_; rintro e w' ⟨rfl, v', h1, h2, h3⟩; have R1 : Hid (QAt 59 w' Q v' xs m ∧ blk v' = blk v ∧ Kept (fun b => b = Q ∨ blk v = some b) w w') := ⟨h1, h2, h3⟩; clear h1 h2 h3))
  go_ret2
  exact ⟨rfl, v', R1.out⟩
set_option maxHeartbeats 1000000 in
set_option maxRecDepth 100000 in
theorem drop_nil (t : Int) (w : World) : Calls Tryz.prog 72 #[nilq, .int .u64 t] w fun e w' => e = .returned (.int .i64 1) ∧ w = w' := by
  go_enter Tryz.func72, Tryz.ntmps72
  go_wp2
  go_ret
  exact ⟨rfl, rfl⟩
set_option maxHeartbeats 1000000 in
set_option maxRecDepth 100000 in
theorem drop_out {w : World} {Q : Nat} {v : Value} {xs : List Int} {m : Int} (h : QAt 59 w Q v xs m) (t : Int) (ht : t ∉ xs) (hn : xs.length ≤ 100000) : Calls Tryz.prog 72 #[qp Q, .int .u64 t] w fun e w' => e = .returned (.int .i64 110) ∧ Below w.heap.size w w' := by
  have HP : Hid (place xs t = -1) := place_out ht
  have HS : Hid (Stands w (some ⟨Q, 0, none⟩) xs) := .inr ⟨Q, v, m, rfl, h⟩
  clear h ht
  go_enter Tryz.func72, Tryz.ntmps72
  go_wp2_with (go_at_call 95; refine (place_any _ t xs w HS.out hn).mono ?_; rw [HP.out]; rintro e w' ⟨rfl, hb⟩; have HB : Hid (Below w.heap.size w w') := hb; clear hb)
  go_ret
  exact ⟨rfl, HB.out⟩
set_option maxHeartbeats 1000000 in
set_option maxRecDepth 100000 in
theorem drop_in {w : World} {Q : Nat} {v : Value} {xs : List Int} {m : Int} (h : QAt 59 w Q v xs m) (t : Int) (ht : t ∈ xs) (hn : xs.length ≤ 100000) :
    Calls Tryz.prog 72 #[qp Q, .int .u64 t] w fun e w' => e = .returned (.int .i64 0) ∧ ∃ v', QAt 59 w' Q v' (xs.erase t) m ∧ blk v' = blk v ∧ Kept (fun b => b = Q ∨ blk v = some b) w w' := by
  have HP : Hid (place xs t = (xs.idxOf t : Int)) := place_in ht
  have hk := List.idxOf_lt_length_of_mem ht
  have H : Hid (QAt 59 w Q v xs m) := h
  have HE : Hid (xs.eraseIdx (xs.idxOf t) = xs.erase t) := erase_idx xs t
  clear h ht
  generalize xs.idxOf t = k at *
  have hk1 : ((k : Int) == -1) = false := by rw [beq_eq_false_iff_ne]; omega
  go_enter Tryz.func72, Tryz.ntmps72
  go_wp2_with (first | (go_at_call 95; refine (place_any _ t xs w (.inr ⟨Q, v, m, rfl, H.out⟩) hn).mono ?_; rw [HP.out]; rintro e w1 ⟨rfl, hb⟩; have HB : Hid (Below w.heap.size w w1) := hb; clear hb) | (go_at_call 90; refine (leave_at_k (H.out.later HB.out) k hk hn).mono ?_; rintro e w' ⟨rfl, v', h1, h2, h3⟩; have R1 : Hid (QAt 59 w' Q v' (xs.eraseIdx k) m ∧ blk v' = blk v ∧ Kept (fun b => b = Q ∨ blk v = some b) w1 w') := ⟨h1, h2, h3⟩; clear h1 h2 h3))
  go_ret
  exact ⟨rfl, v', by rw [← HE.out]; exact R1.out.1, R1.out.2.1, (Kept.of_below _ HB.out).trans R1.out.2.2 fun _ _ e => e⟩
theorem empty_row (w : World) : Row (w.alloc (.cells #[] 44)) (.slice (some ⟨w.heap.size, 0, none⟩) 0 0) [] := .inr ⟨w.heap.size, 0, 0, #[], rfl, heap_alloc_new w _, Nat.le_refl _, Nat.le_refl _, fun i hi => by simp at hi⟩
end Go.Proofs.YtkgjmejpbklabaaGreat
namespace Go.Proofs.YtkgjmejpbklabaaGreat
open Go.RowKit Go.Shelf

/-- where no depth is asked, a round may be asked for from any depth, and from within another loop's round -/
theorem yield_deep {F : Fence} (hd : F.depth = none) {m : Nat} (m' l₁ : Nat) {P : Program} {l : Nat} {args : Array Value} {W : World} {R : Ending → World → Prop} (h : YieldAt F m P l args W R) : YieldAt (F.inRound l₁) m' P l args W R := by
  obtain ⟨fn, tmps, assign, body, hy, hf, hR⟩ := h
  exact ⟨fn, tmps, assign, body, hy, hf, fun c cs _ => hR c cs (fun d e => by rw [hd] at e; cases e)⟩

/-- the contract: the invariants abide whatever turns no cells from here on; a round keeps what is no cells and was laid from here on -/
def SeqIn {α : Type} (F : Fence) (n : Nat) (P : Program) (g : Nat) (lb : Array Value) (encs : α → Array Value) (Kp : World → World → Prop) (S Sp : List α → Prop) (N : Nat) (w : World) : Prop :=
  ∀ (l : Nat) (J Jx : List α → World → Prop) (W : World), Below w.heap.size w W → OwnFrom W.heap.size J → OwnFrom W.heap.size Jx →
    (∀ pre x V, J pre V → pre.length < N → YieldAt F (n - 1) P l (encs x) V fun e V' =>
      KeepsFrom W.heap.size V V' ∧ ((e = .returned (.bool true) ∧ J (pre ++ [x]) V' ∧ Kp V V') ∨ (e = .returned (.bool false) ∧ Jx (pre ++ [x]) V'))) →
    J [] W →
    CallsIn F n P g (#[.func (.yield l) #[] #[]] ++ lb) W fun e V => (∃ v, e = .returned v) ∧ ((∃ xs, S xs ∧ J xs V) ∨ (∃ pre, Sp pre ∧ Jx pre V))

/-- the two blocks that a loop lays: that of its rounds' deferred calls, and its record in this state -/
structure Laid2 (D : Nat) (r : Loop) (W : World) : Prop where
  rcd : W.heap[D + 1]? = some (.loop r)
  dfr : W.heap[D]? = some (.deferred (some []))
theorem Laid2.lt {D : Nat} {r : Loop} {W : World} (h : Laid2 D r W) : D + 1 < W.heap.size := (Array.getElem?_eq_some_iff.1 h.rcd).1
theorem Laid2.keeps {D : Nat} {r : Loop} {W W' : World} (h : Laid2 D r W) (hk : KeepsFrom D W W') : Laid2 D r W' := ⟨hk.same _ _ (by omega) h.rcd rfl, hk.same _ _ (Nat.le_refl _) h.dfr rfl⟩
theorem Laid2.put {D : Nat} {r : Loop} {W : World} (h : Laid2 D r W) (r' : Loop) : Laid2 D r' (W.putObj (D + 1) (.loop r')) := ⟨World.putObj_heap_same h.lt, (World.putObj_heap_other (by omega)).trans h.dfr⟩
theorem Laid2.own {D : Nat} {r : Loop} {β : Type} : OwnFrom (D + 2) (fun (_ : β) W => Laid2 D r W) := fun _ W W' row hs hg hr => by
  have e : ∀ k, k < D + 2 → k < W.heap.size → W'.heap[k]? = W.heap[k]? := fun k h1 h2 => hg.block k h2 fun e => by have := (hr k e.symm).1; omega
  have := hs.lt
  exact ⟨(e _ (by omega) (by omega)).trans hs.rcd, (e _ (by omega) (by omega)).trans hs.dfr⟩
theorem keeps_put (D : Nat) (W : World) (r' : Loop) : KeepsFrom (D + 2) W (W.putObj (D + 1) (.loop r')) :=
  ⟨by simp, fun _ _ hk h1 _ => (World.putObj_heap_other (by omega)).trans h1⟩
theorem keeps_more {B C : Nat} {W W' : World} (h : KeepsFrom B W W') (hb : B ≤ C) : KeepsFrom C W W' := ⟨h.size, fun k o hk => h.same k o (by omega)⟩

section
variable {F : Fence} {n : Nat} {P : Program}
/-- **the law** -/
theorem range_in {α : Type} {g : Operand} {ps : Array Tmp} {assign body : Code} {Q : Exit → Act → World → Prop} {a : Act} {w : World}
    (hro : F.round = none) (h1 : 1 ≤ n) {gf : Nat} {lb : Array Value} (hg : a.eval g = .func (.func gf) #[] lb) (hFg : F.fn gf) (eg : ∀ args w, (callFunc gf args).run P w = .ok (.enter gf args) w)
    {encs : α → Array Value} {Kp : World → World → Prop} {S Sp : List α → Prop} {N : Nat} {w0 : World} (hseq : SeqIn F (n - 1) P gf lb encs Kp S Sp N w0)
    (hKt : ∀ {A B C : World}, Kp A B → Kp B C → Kp A C) (hKb : ∀ (W : World) (l : Nat) (o o' : Obj), w.heap.size ≤ l → W.heap[l]? = some o → o.isCells = false → Kp W (W.putObj l o')) (hb0 : Below w0.heap.size w0 w) (hps : ∀ x, (encs x).size = ps.size)
    (I : List α → World → Prop) (Ix : Code → List α → World → Prop) (hI : OwnFrom w.heap.size I) (hIx : ∀ c, OwnFrom w.heap.size (Ix c)) (h0 : I [] w) (Ax : α → Act → World → Prop) (hAx : ∀ x a', OwnFrom w.heap.size (fun (_ : Unit) W => Ax x a' W))
    (hassign : ∀ (l : Nat) (pre : List α) (x : α) (W : World) (K : Act → World → Prop), I pre W → (∀ a' W', KeepsFrom w.heap.size W W' → Kp W W' → I pre W' → Ax x a' W' → K a' W') →
      assign.wpIn (F.inRound l) (n - 1 - 1) P (Exit.then K (fun _ _ _ => False)) { tmps := (ps.zip (encs x)).foldl (fun t (p, v) => t.setIfInBounds p v) a.tmps, defers := [] } W)
    (hbody : ∀ (l : Nat) (pre : List α) (x : α) (a' : Act) (W : World), I pre W → Ax x a' W → pre.length < N → body.wpIn (F.inRound l) (n - 1 - 1) P (ownPostG w.heap.size Kp I Ix (pre ++ [x]) W) a' W)
    (hdone : ∀ (D : Nat) (xs : List α) (W : World), w.heap.size ≤ D → S xs → I xs W → W.heap[D]? = some (.deferred (some [])) → Q .normal { a with defers := { target := .collected D, args := #[] } :: a.defers } W)
    (hstop : ∀ (D : Nat) (c : Code) (pre : List α) (W : World), w.heap.size ≤ D → Sp pre → Ix c pre W → W.heap[D]? = some (.deferred (some [])) → c.wpIn F n P Q { a with defers := { target := .collected D, args := #[] } :: a.defers } W) :
    (Code.rangeFunc g ps assign body).wpIn F n P Q a w := by
  obtain ⟨D, hD⟩ : ∃ D, D = w.heap.size := ⟨_, rfl⟩
  refine wpIn_rangeFunc fun fn hfn => ?_
  rw [hro]
  let rec0 : LoopState → Option Code → Loop := fun st pe => { state := st, pending := pe, fn, tmps := a.tmps, params := ps, assign, body, defers := w.heap.size }
  obtain ⟨V0, hV0⟩ : ∃ V, (w.alloc (.deferred (some []))).alloc (.loop (rec0 .ready none)) = V := ⟨_, rfl⟩
  have hs0 : V0.heap.size = D + 2 := by rw [← hV0, hD]; simp
  have L0 : Laid2 D (rec0 .ready none) V0 := by
    rw [← hV0, hD]
    refine ⟨?_, (Below.heap_alloc _ _ _ (by simp)).trans (World.alloc_heap_new w _)⟩
    have := World.alloc_heap_new (w.alloc (.deferred (some []))) (.loop (rec0 .ready none))
    rwa [World.size_alloc] at this
  have hb1 : Below w0.heap.size w0 V0 := by
    rw [← hV0]; exact hb0.trans ((((Below.refl _ w).alloc (Nat.le_refl _) _).alloc (by simp) _).mono hb0.size)
  refine ⟨D + 1, [{ target := .collected D, args := #[] }], V0, { target := .fn (.func gf) lb, args := #[.func (.yield (D + 1)) #[] #[]] }, V0, gf, #[.func (.yield (D + 1)) #[] #[]] ++ lb, V0, ?_, ?_, ?_, ?_, fun _ => h1, ?_⟩
  · rw [← hV0, hD]; exact run_enterLoop_outer _ _ _ _ _
  · simp only [resolve, hg]; simp [go_sem]
  · intro f' hf'; simp [Target.leads] at hf'; subst hf'; exact hFg
  · simp [invoke, go_sem, eg]
  have hIw : OwnFrom (D + 2) I := fun s A B row hs hg' hr => hI s A B row hs hg' fun r e => ⟨by have := (hr r e).1; omega, (hr r e).2⟩
  have hIxw : ∀ c, OwnFrom (D + 2) (Ix c) := fun c s A B row hs hg' hr => hIx c s A B row hs hg' fun r e => ⟨by have := (hr r e).1; omega, (hr r e).2⟩
  refine (hseq (D + 1) (fun pre W => I pre W ∧ Laid2 D (rec0 .ready none) W) (fun pre W => ∃ c, Ix c pre W ∧ Laid2 D (rec0 .done (some c)) W) V0 hb1 ?_ ?_ ?_ ⟨?_, L0⟩).mono ?_
  · rw [hs0]; exact OwnFrom.and hIw Laid2.own
  · rw [hs0]; intro s A B row hs hg' hr
    obtain ⟨c, hc, hl⟩ := hs
    exact ⟨c, hIxw c s A B row hc hg' hr, Laid2.own () A B row hl hg' hr⟩
  · rintro pre x W ⟨hi, hl⟩ hlen
    rw [hs0]
    refine ⟨fn, _, assign, body, run_yield hl.rcd (hps x), roundIn_of_wpIn hfn (hassign _ pre x W _ hi ?_)⟩
    intro a' Wa ka kpa hia hax
    rw [← hD] at ka
    have la := hl.keeps ka
    refine ⟨_, run_beginRound la.rcd rfl, ?_⟩
    have lb' := la.put { rec0 .ready none with state := .busy }
    refine wpIn_mono (hbody _ pre x a' _ (hI.putObj _ hia (by omega) la.rcd rfl) ((hAx x a').putObj (s := ()) _ hax (by omega) la.rcd rfl) hlen) ?_
    have fin : ∀ (jump : Option Code) (W3 : World), KeepsFrom w.heap.size (Wa.putObj (D + 1) (.loop { rec0 .ready none with state := .busy })) W3 →
        ∃ r, W3.heap[D + 1]? = some (.loop r) ∧ (Instr.endRound (D + 1) jump).run P W3 = .ok (.bool jump.isNone) (W3.putObj (D + 1) (.loop (rec0 (if jump.isNone then .ready else .done) jump))) ∧
        Laid2 D (rec0 (if jump.isNone then .ready else .done) jump) (W3.putObj (D + 1) (.loop (rec0 (if jump.isNone then .ready else .done) jump))) ∧
        KeepsFrom (D + 2) W (W3.putObj (D + 1) (.loop (rec0 (if jump.isNone then .ready else .done) jump))) := fun jump W3 k3 => by
      rw [← hD] at k3
      have l3 := lb'.keeps k3
      exact ⟨_, l3.rcd, run_endRound jump l3.rcd, l3.put _, (((keeps_more ka (by omega)).trans (keeps_put D _ _)).trans (keeps_more k3 (by omega))).trans (keeps_put D _ _)⟩
    rintro e a3 W3 hp
    cases e with
    | normal =>
      obtain ⟨k3, kp3, i3⟩ := hp
      obtain ⟨r, hr, e3, l3, kk⟩ := fin none W3 k3
      exact ⟨_, _, e3, kk, .inl ⟨rfl, ⟨hI.putObj _ i3 (by omega) hr rfl, l3⟩, hKt kpa (hKt (hKt (hKb _ _ _ _ (by omega) la.rcd rfl) kp3) (hKb _ _ _ _ (by omega) hr rfl))⟩⟩
    | ret =>
      obtain ⟨k3, i3⟩ := hp
      obtain ⟨r, hr, e3, l3, kk⟩ := fin (some .ret) W3 k3
      exact ⟨_, _, e3, kk, .inr ⟨rfl, .ret, (hIx _).putObj _ i3 (by omega) hr rfl, l3⟩⟩
    | exit id =>
      obtain ⟨k3, i3⟩ := hp
      obtain ⟨r, hr, e3, l3, kk⟩ := fin (some (.exit id)) W3 k3
      exact ⟨_, _, e3, kk, .inr ⟨rfl, .exit id, (hIx _).putObj _ i3 (by omega) hr rfl, l3⟩⟩
    | goto t =>
      obtain ⟨k3, i3⟩ := hp
      obtain ⟨r, hr, e3, l3, kk⟩ := fin (some (.goto t)) W3 k3
      exact ⟨_, _, e3, kk, .inr ⟨rfl, .goto t, (hIx _).putObj _ i3 (by omega) hr rfl, l3⟩⟩
    | panic ch => exact hp.elim
    | outgrown => exact hp.elim
  · rw [← hV0]; exact hI.alloc _ (hI.alloc _ h0)
  · rintro e W2 ⟨⟨v, rfl⟩, (⟨xs, hS, hi, hl⟩ | ⟨pre, hSp, c, hi, hl⟩)⟩
    · exact ⟨none, _, run_endLoop hl.rcd (by simp [rec0]), hdone _ xs _ (by omega) hS (hI.putObj _ hi (by omega) hl.rcd rfl) ((World.putObj_heap_other (by omega)).trans hl.dfr)⟩
    · exact ⟨some c, _, run_endLoop hl.rcd (by simp [rec0]), hstop _ c pre _ (by omega) hSp ((hIx c).putObj _ hi (by omega) hl.rcd rfl) ((World.putObj_heap_other (by omega)).trans hl.dfr)⟩
end
end Go.Proofs.YtkgjmejpbklabaaGreat
