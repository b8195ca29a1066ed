/-
  Layer 11: Len, First, leave, Put.
-/
import Derived.Deep.RegionHeld3
import Derived.LaidMore
import Derived.Test.YtkffmglcllhbmaaTa
namespace Go.Proofs.Ytkffmglcllhbmaa
open Go.RowKit
abbrev qp (Q : Nat) : Value := .pointer (some ⟨Q, 0, none⟩)
abbrev nilq : Value := .pointer none
theorem one_in (w : World) (t : Int) : UIn (w.alloc (.cells #[.int .u64 t] 30)) (some ⟨w.heap.size, 0, none⟩) 1 [t] := by
  refine ⟨rfl, fun _ => ⟨_, 0, rfl, fun i hi => ?_⟩⟩
  obtain rfl : i = 0 := by omega
  rw [cell_of_row _ w.heap.size 0 _ 30 (0, 0) (heap_alloc_new w _)]
  rfl
theorem Row.shape {w : World} {v : Value} {xs : List Int} (h : Row w v xs) : ∃ p n c, v = .slice p n c := by
  obtain ⟨p, c, e, _⟩ := h.form
  exact ⟨_, _, _, e⟩
theorem step_copy_kept {P : Program} {ops : Array Oper} {o : Oper} {a : Act} {w : World} {K : Act → World → Prop} {Q : Exit → Act → World → Prop} {E : Prop} (hgd : o.guard = none) (d s : Operand) (dT sT : TypeId)
    (ho : o.op = .call { callee := .builtin .copy, args := #[d, s], argTypes := #[dT, sT] }) (elem : TypeId) (hu : P.underlying dT = some (.slice elem)) (hsz : (P.info? elem).map (·.size) = some 1)
    (dp sp : Option Addr) (dLen dCap sLen sCap : Nat) (hd : a.eval d = .slice dp dLen dCap) (hs : a.eval s = .slice sp sLen sCap)
    (g off : Nat) (cur : Array Value) (t : TypeId) (hg : w.heap[g]? = some (.cells cur t (0, 0))) (cs : List Value) (hn : cs.length = Nat.min sLen dLen)
    (hpos : 0 < cs.length → dp = some ⟨g, off, none⟩ ∧ ∃ ad, sp = some ad ∧ ∀ j v, cs[j]? = some v → w.cell? (ad.add j) = some v)
    (hfit : off + cs.length ≤ cur.size) (h1 : ∀ v ∈ cs, v.oneCell' = true)
    (h : ∀ w', Hid (w'.heap[g]? = some (.cells (cur.toList.take off ++ cs ++ cur.toList.drop (off + cs.length)).toArray t (0, 0))) → Kept (· = g) w w' → K (a.put o.dst (goInt cs.length)) w') :
    if Region.wanted o (yielded ops a.tmps) = true then Oper.wp P o a w K Q else E := by
  have hw : Region.wanted o (yielded ops a.tmps) = true := by simp [Region.wanted, hgd]
  rw [if_pos hw]
  by_cases h0 : cs.length = 0
  · obtain rfl : cs = [] := List.eq_nil_of_length_eq_zero h0
    have hrun := run_copy_none (P := P) w dT sT o.type elem dp sp dLen dCap sLen sCap hu hsz (by simpa using hn.symm)
    unfold Oper.wp
    simp [execOp, ho, resolve, invoke, builtin, hd, hs, hrun, Result.andThen]
    exact h w (show _ = _ by simpa using hg) (Kept.refl _ _)
  · obtain ⟨rfl, ad, rfl, hsrc⟩ := hpos (by omega)
    have hrun := run_copy_row (P := P) w dT sT o.type elem g off dLen dCap ad sLen sCap cur t cs hu hsz hg hn hsrc hfit h1
    unfold Oper.wp
    simp [execOp, ho, resolve, invoke, builtin, hd, hs, hrun, Result.andThen]
    exact h _ (show _ = _ by simpa using setRow_heap w g _ _ t _ hg) (Kept.setRow _ _ _)
theorem leave_row {w' : World} {g o cap k : Nat} {cur : Array Value} {xs : List Int} (hk : k < xs.length) (hcap : xs.length ≤ cap) (hfit : o + cap ≤ cur.size) (hx : ∀ i, i < xs.length → cur[o + i]? = some (.int .u64 (xs.getD i 0)))
    (hg : w'.heap[g]? = some (.cells (cur.toList.take (o + 1) ++ V64 (xs.take k) ++ cur.toList.drop (o + 1 + (V64 (xs.take k)).length)).toArray 30 (0, 0))) :
    Row w' (.slice (some ⟨g, if cap = 1 then o else o + 1, none⟩) (xs.length - 1) (cap - 1)) (xs.eraseIdx k) := by
  have hl : (xs.eraseIdx k).length = xs.length - 1 := List.length_eraseIdx_of_lt hk
  have hlk : (V64 (xs.take k)).length = k := by simp; omega
  refine .inr ⟨g, _, cap - 1, _, by rw [hl], hg, by omega, ?_, ?_⟩
  · simp; split <;> omega
  · intro i hi
    have h1 : ¬ cap = 1 := by omega
    rw [if_neg h1, leave_at]
    have hlt : o + 1 ≤ cur.toList.length := by simp; omega
    simp only [List.getElem?_toArray, List.append_assoc]
    rw [List.getElem?_append_right (by simp; omega), List.length_take, Nat.min_eq_left hlt, show o + 1 + i - (o + 1) = i by omega]
    by_cases hik : i < k
    · rw [if_pos hik, List.getElem?_append_left (by omega)]
      simp [hik, List.getD, List.getElem?_eq_getElem (show i < xs.length by omega)]
    · rw [if_neg hik, List.getElem?_append_right (by omega), hlk, List.getElem?_drop, Array.getElem?_toList, show o + 1 + k + (i - k) = o + (i + 1) by omega]
      exact hx (i + 1) (by omega)
set_option maxHeartbeats 1000000 in
set_option maxRecDepth 100000 in
theorem leave_at_k {w : World} {Q : Nat} {v : Value} {xs : List Int} {m : Int} (h : QAt 101 w Q v xs m) (k : Nat) (hk : k < xs.length) (hn : xs.length ≤ 100000) :
    Calls Try.prog 56 #[qp Q, .int .i64 k] w fun e w' => e = .returned (.tuple #[]) ∧ ∃ v', QAt 101 w' Q v' (xs.eraseIdx k) m ∧ blk v' = blk v ∧ Kept (fun b => b = Q ∨ blk v = some b) w w' := by
  rcases h.row with ⟨rfl, rfl⟩ | ⟨g, o, cap, cur, rfl, hg, hcap, hfit, hx⟩
  · simp at hk
  have H : Hid (QAt 101 w Q (.slice (some ⟨g, o, none⟩) xs.length cap) xs m) := h
  have HG : Hid (w.heap[g]? = some (.cells cur 30 (0, 0))) := hg
  have HX : Hid (∀ i, i < xs.length → cur[o + i]? = some (.int .u64 (xs.getD i 0))) := hx
  have HF : Hid (o + cap ≤ cur.size) := hfit
  have hqn : Hid (g ≠ Q) := h.ne (by decide) rfl
  have c0 := h.c0
  have hk1 : IntKind.i64.wrap ((k : Int) + 1) = (k : Int) + 1 := by rw [IntKind.wrap_i64]; omega
  have n1 : (k : Int) + 1 ≤ (cap : Int) := by omega
  have n2 : (1 : Int) ≤ (k : Int) + 1 := by omega
  have n3 : (k : Int) ≤ (cap : Int) := by omega
  have n4 : (1 : Int) ≤ (xs.length : Int) := by omega
  have hks := hk
  clear h hg hx hfit
  go_enter Try.func56, Try.ntmps56
  go_wp2_with fail
  refine wp_region_noPanic ?_
  refine wp_region_held_drew (S := fun w' => w'.cell? ⟨Q, 0, none⟩ = some (.slice (some ⟨g, o, none⟩) xs.length cap)) (by kernel_rfl) c0 (fun hHeld => ?_)
  have D2 : Hid (Below w.heap.size w w.drew) := below_drawn 1
  generalize w.drew = wd at *
  refine wpAnyH_take (i := 0) (v := ?va1) (by simp; rfl) (by kernel_rfl) (by kernel_rfl) (by kernel_rfl) (fun _ _ _ h => h) (Or.inl ⟨by rfl, ?ya1⟩) hHeld ?ra1
  case ya1 => intro w hSw; clear hSw; go_simp; with_reducible rfl
  simp only [Act.put, List.setIfInBounds_toArray, List.set_cons_zero, List.set_cons_succ]
  refine wpAnyH_take (i := 1) (v := ?va2) (by simp; rfl) (by kernel_rfl) (by kernel_rfl) (by kernel_rfl) (fun _ _ _ h => h) (Or.inl ⟨by rfl, ?ya2⟩) hHeld ?ra2
  case ya2 => intro w hSw; clear hSw; go_simp; with_reducible rfl
  simp only [Act.put, List.setIfInBounds_toArray, List.set_cons_zero, List.set_cons_succ]
  refine wpAnyH_take (i := 2) (v := ?va3) (by simp; rfl) (by kernel_rfl) (by kernel_rfl) (by kernel_rfl) (fun _ _ _ h => h) (Or.inl ⟨by rfl, ?ya3⟩) hHeld ?ra3
  case ya3 => intro w hSw; clear hSw; go_simp; with_reducible rfl
  simp only [Act.put, List.setIfInBounds_toArray, List.set_cons_zero, List.set_cons_succ]
  refine wpAnyH_take (i := 3) (v := ?va4) (by simp; rfl) (by kernel_rfl) (by kernel_rfl) (by kernel_rfl) (fun _ _ _ h => h) (Or.inl ⟨by rfl, ?ya4⟩) hHeld ?ra4
  case ya4 => intro w hSw; have z := hSw; clear hSw; go_simp; with_reducible rfl
  simp only [Act.put, List.setIfInBounds_toArray, List.set_cons_zero, List.set_cons_succ]
  refine wpAnyH_take (i := 4) (v := ?va5) (by simp; rfl) (by kernel_rfl) (by kernel_rfl) (by kernel_rfl) (fun _ _ _ h => h) (Or.inl ⟨by rfl, ?ya5⟩) hHeld ?ra5
  case ya5 => intro w hSw; clear hSw; go_simp; with_reducible rfl
  simp only [Act.put, List.setIfInBounds_toArray, List.set_cons_zero, List.set_cons_succ]
  refine wpAnyH_take (i := 5) (v := ?va6) (by simp; rfl) (by kernel_rfl) (by kernel_rfl) (by kernel_rfl) (fun _ _ _ h => h) (Or.inl ⟨by rfl, ?ya6⟩) hHeld ?ra6
  case ya6 => intro w hSw; clear hSw; go_simp; with_reducible rfl
  simp only [Act.put, List.setIfInBounds_toArray, List.set_cons_zero, List.set_cons_succ]
  refine wpAnyH_take (i := 6) (v := ?va7) (by simp; rfl) (by kernel_rfl) (by kernel_rfl) (by kernel_rfl) (fun _ _ _ h => h) (Or.inl ⟨by rfl, ?ya7⟩) hHeld ?ra7
  case ya7 => intro w hSw; clear hSw; go_simp; with_reducible rfl
  simp only [Act.put, List.setIfInBounds_toArray, List.set_cons_zero, List.set_cons_succ]
  refine wpAnyH_take (i := 7) (v := ?va8) (by simp; rfl) (by kernel_rfl) (by kernel_rfl) (by kernel_rfl) (fun _ _ _ h => h) (Or.inl ⟨by rfl, ?ya8⟩) hHeld ?ra8
  case ya8 => intro w hSw; clear hSw; go_simp; with_reducible rfl
  simp only [Act.put, List.setIfInBounds_toArray, List.set_cons_zero, List.set_cons_succ]
  refine wpAnyH_take (i := 8) (v := ?va9) (by simp; rfl) (by kernel_rfl) (by kernel_rfl) (by kernel_rfl) (fun _ _ _ h => h) (Or.inl ⟨by rfl, ?ya9⟩) hHeld ?ra9
  case ya9 => intro w hSw; clear hSw; go_simp; with_reducible rfl
  simp only [Act.put, List.setIfInBounds_toArray, List.set_cons_zero, List.set_cons_succ]
  refine wpAnyH_take (i := 9) (v := ?va10) (by simp; rfl) (by kernel_rfl) (by kernel_rfl) (by kernel_rfl) (fun _ _ _ h => h) (Or.inl ⟨by rfl, ?ya10⟩) hHeld ?ra10
  case ya10 => intro w hSw; clear hSw; go_simp; with_reducible rfl
  simp only [Act.put, List.setIfInBounds_toArray, List.set_cons_zero, List.set_cons_succ]
  refine wpAnyH_take (i := 10) (v := ?va11) (by simp; rfl) (by kernel_rfl) (by kernel_rfl) (by kernel_rfl) (fun _ _ _ h => h) (Or.inl ⟨by rfl, ?ya11⟩) hHeld ?ra11
  case ya11 => intro w hSw; have z := hSw; clear hSw; go_simp; with_reducible rfl
  simp only [Act.put, List.setIfInBounds_toArray, List.set_cons_zero, List.set_cons_succ]
  refine wpAnyH_take (i := 11) (v := ?va12) (by simp; rfl) (by kernel_rfl) (by kernel_rfl) (by kernel_rfl) (fun _ _ _ h => h) (Or.inl ⟨by rfl, ?ya12⟩) hHeld ?ra12
  case ya12 => intro w hSw; clear hSw; go_simp; with_reducible rfl
  simp only [Act.put, List.setIfInBounds_toArray, List.set_cons_zero, List.set_cons_succ]
  refine wpAnyH_take (i := 12) (v := ?va13) (by simp; rfl) (by kernel_rfl) (by kernel_rfl) (by kernel_rfl) (fun _ _ _ h => h) (Or.inl ⟨by rfl, ?ya13⟩) hHeld ?ra13
  case ya13 => intro w hSw; clear hSw; go_simp; with_reducible rfl
  simp only [Act.put, List.setIfInBounds_toArray, List.set_cons_zero, List.set_cons_succ]
  refine wpAnyH_ready (rs := [13]) (by kernel_rfl) (by simp) ?_
  refine AllReadyH.cons (by simp; rfl) (fun Kc hKc => ?_) AllReadyH.nil
  have hgd : wd.heap[g]? = some (.cells cur 30 (0, 0)) := (D2.out.block g (H.out.row.lt rfl)).trans HG.out
  have hsrc : ∀ j u, (V64 (xs.take k))[j]? = some u → wd.cell? ((⟨g, o, none⟩ : Addr).add j) = some u := by
    intro j u hj
    have hjk : j < k := by have := (List.getElem?_eq_some_iff.1 hj).1; simp at this; omega
    rw [Addr.add_lit, cell_of_row _ g _ cur 30 (0, 0) hgd, HX.out j (by omega), ← hj]
    simp [hjk, List.getD, List.getElem?_eq_getElem (show j < xs.length by omega)]
  have hlk : (V64 (xs.take k)).length = k := by simp; omega
  refine step_copy_kept rfl (.tmp 10) (.tmp 16) 22 22 rfl 30 Try.underlying22 size26 _ _ k (cap - 1) k cap rfl rfl g (o + 1) cur 30 hgd (V64 (xs.take k)) (by rw [hlk]; simp) (fun h0 => ⟨if_neg (by omega), _, rfl, hsrc⟩) (by rw [hlk]; have := HF.out; omega) (ones_u64 _) ?_
  intro w3 hg3 hk3
  have K3 : Hid (Kept (· = g) wd w3) := hk3
  have HR : Hid (Row w3 (.slice (some ⟨g, if cap = 1 then o else o + 1, none⟩) (xs.length - 1) (cap - 1)) (xs.eraseIdx k)) := leave_row hk hcap HF.out HX.out hg3.out
  have HQ : Hid (w3.heap[Q]? = some (.cells #[.slice (some ⟨g, o, none⟩) xs.length cap, .int .u64 m] 101 (0, 0))) := (hk3.block Q (Nat.lt_of_lt_of_le H.out.lt D2.out.size) (fun e => hqn.out e.symm)).trans ((D2.out.block Q H.out.lt).trans H.out.st)
  have c3 : w3.cell? ⟨Q, 0, none⟩ = some (.slice (some ⟨g, o, none⟩) xs.length cap) := by rw [cell_of_row _ Q 0 _ 101 (0, 0) HQ.out]; rfl
  have f3 : w3.frozen? ⟨Q, 0, none⟩ = false := by simp [World.frozen?, HQ.out]
  clear hsrc hk3 hg3 hlk hgd
  refine hKc.out _ _ c3 (fun hHeld => ?_)
  clear hKc Kc hHeld c0
  refine wpAnyH_done (by kernel_rfl) (NoPanic.normal ?_) _
  have HK : Hid (∀ u, Kept (fun b => b = Q ∨ g = b) w (w3.setCell ⟨Q, 0, none⟩ u)) := fun u => ((Kept.of_below (fun b => b = Q ∨ g = b) D2.out).trans K3.out (fun x _ e => .inr e.symm)).trans (Kept.setCell Q 0 u) (fun x _ e => .inl e)
  by_cases hc1 : cap = 1
  · have HR1 : Hid (Row w3 (.slice (some ⟨g, o, none⟩) 0 0) (xs.eraseIdx k)) := by have := HR.out; rw [if_pos hc1, hc1, show xs.length - 1 = 0 by omega] at this; exact this
    subst hc1
    clear HR
    go_wp2_with fail
    go_end0
    exact ⟨rfl, _, QAt.set0 HQ.out HR1.out (fun g' e => by cases e; exact hqn.out), rfl, (HK.out _).wider fun x _ e => or_id e fun e => by rw [e]; rfl⟩
  · have HR1 : Hid (Row w3 (.slice (some ⟨g, o + 1, none⟩) (xs.length - 1) (cap - 1)) (xs.eraseIdx k)) := by have := HR.out; rw [if_neg hc1] at this; exact this
    clear HR
    go_wp2_with fail
    go_end0
    exact ⟨rfl, _, QAt.set0 HQ.out HR1.out (fun g' e => by cases e; exact hqn.out), rfl, (HK.out _).wider fun x _ e => or_id e fun e => by rw [e]; rfl⟩
set_option maxHeartbeats 1000000 in
set_option maxRecDepth 100000 in
theorem put_nil (t : Int) (w : World) : Calls Try.prog 43 #[nilq, .int .u64 t] w fun e w' => e = .returned (.int .i64 1) ∧ w = w' := by
  go_enter Try.func43, Try.ntmps43
  go_wp2
  go_ret
  exact ⟨rfl, rfl⟩
set_option maxHeartbeats 1000000 in
set_option maxRecDepth 100000 in
theorem put_low {w : World} {Q : Nat} {v : Value} {xs : List Int} {m : Int} (h : QAt 101 w Q v xs m) (t : Int) (ht : t ≤ m) : Calls Try.prog 43 #[qp Q, .int .u64 t] w fun e w' => e = .returned (.int .i64 110) ∧ w = w' := by
  have c1 := h.c1
  have hd := decide_eq_true ht
  clear h
  go_enter Try.func43, Try.ntmps43
  go_wp2
  go_ret
  exact ⟨rfl, rfl⟩
set_option maxHeartbeats 1000000 in
set_option maxRecDepth 100000 in
theorem put_high {w : World} {Q : Nat} {v : Value} {xs : List Int} {m : Int} (h : QAt 101 w Q v xs m) (t : Int) (ht : ¬ t ≤ m) (hn : xs.length < 100000) :
    Calls Try.prog 43 #[qp Q, .int .u64 t] w fun e w' => e = .returned (.int .i64 0) ∧ ∃ v', QAt 101 w' Q v' (xs ++ [t]) t ∧ Kept (fun b => b = Q ∨ blk v = some b) w w' ∧ (blk v' = blk v ∨ ∃ g, blk v' = some g ∧ w.heap.size ≤ g) := by
  have H : Hid (QAt 101 w Q v xs m) := h
  have c0 := h.c0
  have c1 := h.c1
  have hd := decide_eq_false ht
  clear h
  go_enter Try.func43, Try.ntmps43
  go_wp2_with (at_builtin; refine wpList_append_row _ rfl (.tmp 17) (.tmp 19) rfl v xs rfl (H.out.row.later (below_alloc w _)) (some ⟨w.heap.size, 0, none⟩) 1 1 [t] rfl (one_in w t) (by omega) ?_; intro v2 w2 r2 k2 b2; obtain ⟨p2, n2, cc2, hv2⟩ := r2.shape; have R2 : Hid (Row w2 v2 (xs ++ [t])) := r2; have K2 : Hid (Kept (fun b => blk v = some b) (w.alloc (.cells #[.int .u64 t] 30)) w2) := k2; have B2 : Hid (blk v2 = blk v ∨ ∃ g, blk v2 = some g ∧ (w.alloc (.cells #[.int .u64 t] 30)).heap.size ≤ g) := b2; have HQ : Hid (w2.heap[Q]? = some (.cells #[v, .int .u64 m] 101 (0, 0))) := (k2.block Q (by have := H.out.lt; simp; omega) (fun e => H.out.ne (by decide) e rfl)).trans (((below_alloc w (.cells #[.int .u64 t] 30)).block Q H.out.lt).trans H.out.st); have f2 : w2.frozen? ⟨Q, 0, none⟩ = false := (by simp [World.frozen?, HQ.out]); have c2 : w2.cell? ⟨Q, 0, none⟩ = some v := (by rw [cell_of_row _ Q 0 _ 101 (0, 0) HQ.out]; rfl); have f3 : w2.frozen? ⟨Q, 1, none⟩ = false := (by simp [World.frozen?, HQ.out]); have c3 : w2.cell? ⟨Q, 1, none⟩ = some (.int .u64 m) := (by rw [cell_of_row _ Q 1 _ 101 (0, 0) HQ.out]; rfl); clear r2 k2 b2; subst hv2)
  go_ret
  have hne : ∀ g, blk (.slice p2 n2 cc2) = some g → g ≠ Q := fun g hg => by
    have hl := H.out.lt
    rcases B2.out with e | ⟨g', e, hg'⟩
    · rw [e] at hg; exact H.out.ne (by decide) hg
    · rw [e] at hg; simp at hg hg'; omega
  have h1 := QAt.set1 (QAt.set0 HQ.out R2.out hne) (by decide) t
  refine ⟨rfl, _, h1, ?_, ?_⟩
  · refine (((Kept.of_below (fun b => b = Q ∨ blk v = some b) (below_alloc w (.cells #[.int .u64 t] 30))).trans K2.out (fun x _ e => .inr e)).trans (Kept.setCell Q 0 _) (fun x _ e => .inl e)).trans (Kept.setCell Q 1 _) (fun x _ e => .inl e)
  · rcases B2.out with e | ⟨g', e, hg'⟩
    · exact .inl e
    · exact .inr ⟨g', e, by simp at hg'; omega⟩
end Go.Proofs.Ytkffmglcllhbmaa
