/-
  Layer 11: the document's Drop, Take, Copy.
-/
import Derived.Test.YtmmmgknlbkckdaaTg
namespace Go.Proofs.Ytmmmgknlbkckdaa
open Go.RowKit


def without (xs : List Int) (t : Int) : List Int := xs.filter (· != t)
theorem without_nil (t : Int) : without [] t = [] := rfl
theorem without_hit {xs : List Int} {t : Int} {k : Nat} (hk : k < xs.length) (he : xs.getD k 0 = t) : without (xs.take (k + 1)) t = without (xs.take k) t := by
  rw [getD_take hk, he]; simp [without]
theorem without_miss {xs : List Int} {t : Int} {k : Nat} (hk : k < xs.length) (he : ¬ xs.getD k 0 = t) : without (xs.take (k + 1)) t = without (xs.take k) t ++ [xs.getD k 0] := by
  rw [getD_take hk]
  simp only [without, List.filter_append]
  congr 1
  have h2 : (xs.getD k 0 != t) = true := by rw [bne_iff_ne]; exact he
  rw [List.filter_cons, if_pos h2, List.filter_nil]
theorem without_le (xs : List Int) (t : Int) : (without xs t).length ≤ xs.length := List.length_filter_le _ _
/-- what Drop says -/
def said (xs : List Int) (t : Int) : Int := if t ∈ xs then 0 else 110
theorem said_nil (t : Int) : said [] t = 110 := rfl
theorem said_hit {xs : List Int} {t : Int} {k : Nat} (hk : k < xs.length) (he : xs.getD k 0 = t) : said (xs.take (k + 1)) t = 0 := by
  rw [getD_take hk, he]; simp [said]
theorem said_miss {xs : List Int} {t : Int} {k : Nat} (hk : k < xs.length) (he : ¬ xs.getD k 0 = t) : said (xs.take (k + 1)) t = said (xs.take k) t := by
  rw [getD_take hk]
  have h2 : ¬ t = xs.getD k 0 := fun e => he e.symm
  unfold said
  simp only [List.mem_append, List.mem_singleton, h2, or_false]

set_option maxHeartbeats 1000000 in
set_option maxRecDepth 100000 in
theorem rdrop_any {w : World} {Q : Nat} {v : Value} {xs : List Int} {m : Int} (h : QAt 44 w Q v xs m) (t : Int) (hn : xs.length ≤ 10000) :
    Calls Try.prog 24 #[qp Q, .int .u64 t] w fun e w' => e = .returned (.int .i64 (said xs t)) ∧ ∃ v', QAt 44 w' Q v' (without xs t) m ∧ (∀ g, blk v' = some g → w.heap.size ≤ g) ∧ Kept (· = Q) w w' := by
  obtain ⟨i0, hi, hz0, hz1, hz2⟩ := info_parts info26
  have hml : 10001 ≤ maxLen := by decide
  have H : Hid (QAt 44 w Q v xs m) := h
  obtain ⟨p, c, rfl, hI, _⟩ := h.row.form
  have HI : Hid (UIn w p xs.length xs) := hI
  clear h hI
  go_enter Try.func24, Try.ntmps24
  go_wp2
  go_loopw [5, 6, 7] (fun u e i wr => ∃ k : Nat, k ≤ xs.length ∧ i = .int .i64 k ∧ e = .int .i64 (said (xs.take k) t) ∧ Hid (wr.ownsRow w.heap.size 26 1 u (without (xs.take k) t).length (V64 (without (xs.take k) t))) ∧ Hid (Below w.heap.size w wr)) (fun _ _ i _ => xs.length - (intOf i).toNat)
  case atStart => exact ⟨0, Nat.zero_le _, rfl, rfl, World.ownsRow_nil _ _ _ _, Below.refl _ _⟩
  case round =>
    obtain ⟨k, hk, rfl, rfl, HO, HB⟩ := hrel
    have HQ : Hid (QAt 44 wr Q (.slice p xs.length c) xs m) := H.out.later HB.out
    have c0 := HQ.out.c0
    by_cases hlt : k < xs.length
    · obtain ⟨b, o, rfl, hc⟩ := (HI.out.later HB.out).cells (by omega)
      have h1 := hc k hlt
      have i1 : (k : Int) < (xs.length : Int) := by omega
      have hwl := without_le (xs.take k) t
      have hwk : (xs.take k).length = k := by simp; omega
      have A1 : Hid (xs.getD k 0 = t → without (xs.take (k + 1)) t = without (xs.take k) t ∧ said (xs.take (k + 1)) t = 0) := fun e => ⟨without_hit hlt e, said_hit hlt e⟩
      have A2 : Hid (¬ xs.getD k 0 = t → without (xs.take (k + 1)) t = without (xs.take k) t ++ [xs.getD k 0] ∧ said (xs.take (k + 1)) t = said (xs.take k) t) := fun e => ⟨without_miss hlt e, said_miss hlt e⟩
      generalize xs.getD k 0 = x at *
      generalize hW : without (xs.take k) t = ws at *
      generalize hW2 : without (xs.take (k + 1)) t = ws2 at *
      generalize hS : said (xs.take k) t = sd at *
      generalize hS2 : said (xs.take (k + 1)) t = sd2 at *
      have HW : Hid (without (xs.take (k + 1)) t = ws2 ∧ said (xs.take (k + 1)) t = sd2) := ⟨hW2, hS2⟩
      have hwn : ws.length ≤ 10000 := by omega
      clear hc hW hW2 hS hS2 hwl hwk
      cases hz : (x == t)
      · have hx : ¬ x = t := by simpa using hz
        obtain ⟨rfl, rfl⟩ := A2.out hx
        clear A1 A2
        go_wp2_with (at_builtin; (refine wpList_append_own _ rfl (.tmp 26) (.tmp 34) 22 rfl w.heap.size 26 i0 (.int .u64 0) 1 8 Try.underlying22 hi hz0 hz1 hz2 rfl (by decide) _ ws.length (V64 ws) rfl (HO.out.alloc _) ⟨wr.heap.size, 0, none⟩ 1 1 [.int .u64 x] rfl rfl (cell_one_new _ _ _) (one_u64 _) (by omega) (by omega) (by have := HB.out.size; simp; omega) ?_; intro v' w1 hown1 hgrow1 _; have R1 : Hid (w1.ownsRow w.heap.size 26 1 v' (ws ++ [x]).length (V64 (ws ++ [x]))) := (by have e := hown1; show World.ownsRow _ _ _ _ _ _ _; simpa [V64] using e); have R2 : Hid (Below w.heap.size w w1) := (HB.out.alloc HB.out.size _).grown hgrow1 (by have := HB.out.size; simp; omega) (fun g hg => (HO.out.lt g hg).1); clear hown1 hgrow1))
        go_roundw
        case rel => exact ⟨k + 1, by omega, by go_num, by rw [HW.out.2], by rw [HW.out.1]; exact R1, R2⟩
        case measure => simp [intOf]; omega
      · have hx : x = t := by simpa using hz
        obtain ⟨e1, e2⟩ := A1.out hx
        have E1 : Hid (without (xs.take (k + 1)) t = ws ∧ said (xs.take (k + 1)) t = 0) := ⟨HW.out.1.trans e1, HW.out.2.trans e2⟩
        clear A1 A2 e1 e2 HW
        go_wp2
        go_roundw
        case rel => exact ⟨k + 1, by omega, by go_num, by rw [E1.out.2], by rw [E1.out.1]; exact HO, HB⟩
        case measure => simp [intOf]; omega
    · obtain rfl : k = xs.length := by omega
      rw [List.take_length] at HO
      have hr := Row.own HO.out
      have HR : Hid (_) := hr
      obtain ⟨pu, nu, cu, rfl⟩ := hr.1.shape
      have f0 := HQ.out.free 0
      have HS : Hid (said (xs.take xs.length) t = said xs t) := by show _ = _; rw [List.take_length]
      clear hr
      go_wp2
      go_ret
      refine ⟨by rw [← HS.out]; rfl, _, QAt.set0 HQ.out.st HR.out.1 (fun g hg => by have := HR.out.2 g hg; have := H.out.lt; omega), HR.out.2, (Kept.of_below _ HB.out).trans (Kept.setCell Q 0 _) fun _ _ e => e⟩
set_option maxHeartbeats 1000000 in
set_option maxRecDepth 100000 in
theorem rtake_none {w : World} {Q : Nat} {v : Value} {m : Int} (h : QAt 44 w Q v [] m) : Calls Try.prog 23 #[qp Q] w fun e w' => e = .returned (.tuple #[.int .u64 0, .bool false]) ∧ w = w' := by
  go_enter Try.func23, Try.ntmps23
  go_wp2_with (go_at_call 21; refine (rfirst_none h).mono ?_; rintro e w' ⟨rfl, rfl⟩)
  go_ret2
  exact ⟨rfl, rfl⟩
set_option maxHeartbeats 1000000 in
set_option maxRecDepth 100000 in
theorem rtake_some {w : World} {Q : Nat} {v : Value} {x : Int} {xs : List Int} {m : Int} (h : QAt 44 w Q v (x :: xs) m) (hn : (x :: xs).length ≤ 10000) :
    Calls Try.prog 23 #[qp Q] w fun e w' => e = .returned (.tuple #[.int .u64 x, .bool true]) ∧ ∃ v', QAt 44 w' Q v' (without (x :: xs) x) m ∧ (∀ g, blk v' = some g → w.heap.size ≤ g) ∧ Kept (· = Q) w w' := by
  have H : Hid (QAt 44 w Q v (x :: xs) m) := h
  have HN : Hid ((x :: xs).length ≤ 10000) := hn
  clear h hn
  go_enter Try.func23, Try.ntmps23
  go_wp2_with (first | (go_at_call 21; refine (rfirst_some H.out).mono ?_; rintro e w' ⟨rfl, rfl⟩) | (go_at_call 24; refine (rdrop_any H.out x HN.out).mono ?_; rintro e w' ⟨rfl, v', h1, h2, h3⟩; have R1 : Hid (QAt 44 w' Q v' (without (x :: xs) x) m ∧ (∀ g, blk v' = some g → w.heap.size ≤ g) ∧ Kept (· = Q) w w') := ⟨h1, h2, h3⟩; clear h1 h2 h3))
  go_ret2
  exact ⟨rfl, v', R1.out⟩

theorem step_append_row {ops : Array Oper} {o : Oper} {a : Act} {w : World} {K : Act → World → Prop} {Q : Exit → Act → World → Prop} {E : Prop} (hgd : o.guard = none) (s x : Operand)
    (ho : o.op = .call { callee := .builtin .append, args := #[s, x], argTypes := #[22, 22] })
    (v : Value) (xs : List Int) (hs : a.eval s = v) (hrow : Row w v xs) (p : Option Addr) (m c : Nat) (ys : List Int) (hx : a.eval x = .slice p m c) (hy : UIn w p m ys) (hlen : xs.length + m ≤ 100000)
    (h : ∀ v' w', Row w' v' (xs ++ ys) → Kept (fun b => blk v = some b) w w' → (blk v' = blk v ∨ ∃ g, blk v' = some g ∧ w.heap.size ≤ g) → K (a.put o.dst v') w') :
    if Region.wanted o (yielded ops a.tmps) = true then Oper.wp Try.prog o a w K Q else E := by
  have hw : Region.wanted o (yielded ops a.tmps) = true := by simp [Region.wanted, hgd]
  rw [if_pos hw]
  obtain ⟨v', w', hr, h2, h3, h4⟩ := run_append_row w o.type v xs hrow p m c ys hy hlen
  unfold Oper.wp
  simp [execOp, ho, resolve, invoke, builtin, hs, hx, hr, Result.andThen]
  exact h v' w' h2 h3 h4

set_option maxHeartbeats 1000000 in
set_option maxRecDepth 100000 in
theorem rcopy_at {w : World} {Q : Nat} {v : Value} {xs : List Int} {m : Int} (h : QAt 44 w Q v xs m) (hn : xs.length ≤ 100000) :
    Calls Try.prog 25 #[qp Q] w fun e w' => ∃ Q' v', e = .returned (qp Q') ∧ QAt 44 w' Q' v' xs m ∧ w.heap.size ≤ Q' ∧ (∀ g, blk v' = some g → w.heap.size ≤ g) ∧ Below w.heap.size w w' := by
  have H : Hid (QAt 44 w Q v xs m) := h
  obtain ⟨p, c, rfl, hI, _⟩ := h.row.form
  have HC : Hid (∀ w', Below w.heap.size w w' → w'.cell? ⟨Q, 0, none⟩ = some (.slice p xs.length c) ∧ w'.cell? ⟨Q, 1, none⟩ = some (.int .u64 m)) := fun w' hb => ⟨(h.later hb).c0, (h.later hb).c1⟩
  have HI : Hid (UIn w p xs.length xs) := hI
  clear h hI
  go_enter Try.func25, Try.ntmps25
  go_wp2_with fail
  refine wp_region_noPanic ?_
  refine wp_region_held_drew (S := fun w' => Below w.heap.size w w') (by kernel_rfl) (below_drawn 1) (fun hHeld => ?_)
  have D : Hid (Below w.heap.size w w.drew) := hHeld
  generalize w.drew = wd at *
  refine wpAnyH_take (i := 1) (v := ?va1) (by simp; rfl) (by kernel_rfl) (by kernel_rfl) (by kernel_rfl) (fun _ _ _ h => h) (Or.inl ⟨by rfl, ?ya1⟩) hHeld ?ra1
  case ya1 => intro w hSw; clear hSw; go_simp; with_reducible rfl
  simp only [Act.put, List.setIfInBounds_toArray, List.set_cons_zero, List.set_cons_succ]
  refine wpAnyH_take (i := 2) (v := ?va2) (by simp; rfl) (by kernel_rfl) (by kernel_rfl) (by kernel_rfl) (fun _ _ _ h => h) (Or.inl ⟨by rfl, ?ya2⟩) hHeld ?ra2
  case ya2 => intro w hSw; clear hSw; go_simp; with_reducible rfl
  simp only [Act.put, List.setIfInBounds_toArray, List.set_cons_zero, List.set_cons_succ]
  refine wpAnyH_take (i := 3) (v := ?va3) (by simp; rfl) (by kernel_rfl) (by kernel_rfl) (by kernel_rfl) (fun _ _ _ h => h) (Or.inl ⟨by rfl, ?ya3⟩) hHeld ?ra3
  case ya3 => intro w hSw; clear hSw; go_simp; with_reducible rfl
  simp only [Act.put, List.setIfInBounds_toArray, List.set_cons_zero, List.set_cons_succ]
  refine wpAnyH_take (i := 4) (v := ?va4) (by simp; rfl) (by kernel_rfl) (by kernel_rfl) (by kernel_rfl) (fun _ _ _ h => h) (Or.inl ⟨by rfl, ?ya4⟩) hHeld ?ra4
  case ya4 => intro w hSw; have z := (HC.out w hSw).1; clear hSw; go_simp; with_reducible rfl
  simp only [Act.put, List.setIfInBounds_toArray, List.set_cons_zero, List.set_cons_succ]
  refine wpAnyH_take (i := 6) (v := ?va5) (by simp; rfl) (by kernel_rfl) (by kernel_rfl) (by kernel_rfl) (fun _ _ _ h => h) (Or.inl ⟨by rfl, ?ya5⟩) hHeld ?ra5
  case ya5 => intro w hSw; clear hSw; go_simp; with_reducible rfl
  simp only [Act.put, List.setIfInBounds_toArray, List.set_cons_zero, List.set_cons_succ]
  refine wpAnyH_take (i := 7) (v := ?va6) (by simp; rfl) (by kernel_rfl) (by kernel_rfl) (by kernel_rfl) (fun _ _ _ h => h) (Or.inl ⟨by rfl, ?ya6⟩) hHeld ?ra6
  case ya6 => intro w hSw; clear hSw; go_simp; with_reducible rfl
  simp only [Act.put, List.setIfInBounds_toArray, List.set_cons_zero, List.set_cons_succ]
  refine wpAnyH_take (i := 8) (v := ?va7) (by simp; rfl) (by kernel_rfl) (by kernel_rfl) (by kernel_rfl) (fun _ _ _ h => h) (Or.inl ⟨by rfl, ?ya7⟩) hHeld ?ra7
  case ya7 => intro w hSw; clear hSw; go_simp; with_reducible rfl
  simp only [Act.put, List.setIfInBounds_toArray, List.set_cons_zero, List.set_cons_succ]
  refine wpAnyH_take (i := 9) (v := ?va8) (by simp; rfl) (by kernel_rfl) (by kernel_rfl) (by kernel_rfl) (fun _ _ _ h => h) (Or.inl ⟨by rfl, ?ya8⟩) hHeld ?ra8
  case ya8 => intro w hSw; have z := (HC.out w hSw).2; clear hSw; go_simp; with_reducible rfl
  simp only [Act.put, List.setIfInBounds_toArray, List.set_cons_zero, List.set_cons_succ]
  refine wpAnyH_ready (rs := [0]) (by kernel_rfl) (by simp) ?_
  refine AllReadyH.cons (by simp; rfl) (fun Kc hKc => ?_) AllReadyH.nil
  go_simp
  have E1 : Hid (Row (wd.alloc (.cells #[] 26)) (.slice (some ⟨wd.heap.size, 0, none⟩) 0 0) [] ∧ Below w.heap.size w (wd.alloc (.cells #[] 26))) := ⟨empty_row wd, below_then D.out (below_alloc wd _)⟩
  have HH : Hid (w.heap.size ≤ wd.heap.size) := D.out.size
  refine hKc.out _ _ E1.out.2 (fun hHeld => ?_)
  clear hKc Kc
  generalize wd.alloc (.cells #[] 26) = wa at *
  refine wpAnyH_ready (rs := [5]) (by kernel_rfl) (by simp) ?_
  refine AllReadyH.cons (by simp; rfl) (fun Kc hKc => ?_) AllReadyH.nil
  refine step_append_row rfl (.tmp 3) (.tmp 7) rfl (.slice (some ⟨wd.heap.size, 0, none⟩) 0 0) [] rfl E1.out.1 p xs.length c xs rfl (HI.out.later E1.out.2) (by simpa using hn) ?_
  intro v1 w1 r1 k1 b1
  have R1 : Hid (Row w1 v1 xs ∧ Below w.heap.size w w1 ∧ ∀ g, blk v1 = some g → w.heap.size ≤ g) := by
    refine ⟨r1, k1.into E1.out.2 (fun b hb e => by have := HH.out; simp [blk] at e; omega) (Nat.le_refl _), fun g hg => ?_⟩
    rcases b1 with e | ⟨g', e, hg'⟩
    · rw [e] at hg; simp [blk] at hg; have := HH.out; omega
    · rw [e] at hg; cases hg; have := E1.out.2.size; omega
  obtain ⟨p1, n1, c1, hv1⟩ := r1.shape
  clear r1 k1 b1
  subst hv1
  refine hKc.out _ _ R1.out.2.1 (fun hHeld => ?_)
  clear hKc Kc
  simp only [Act.put, List.setIfInBounds_toArray, List.set_cons_zero, List.set_cons_succ]
  refine wpAnyH_take (i := 10) (v := ?va9) (by simp; rfl) (by kernel_rfl) (by kernel_rfl) (by kernel_rfl) (fun _ _ _ h => h) (Or.inl ⟨by rfl, ?ya9⟩) hHeld ?ra9
  case ya9 => intro w hSw; clear hSw; go_simp; with_reducible rfl
  simp only [Act.put, List.setIfInBounds_toArray, List.set_cons_zero, List.set_cons_succ]
  refine wpAnyH_ready (rs := [11]) (by kernel_rfl) (by simp) ?_
  refine AllReadyH.cons (by simp; rfl) (fun Kc hKc => ?_) AllReadyH.nil
  go_simp
  have R2 : Hid (QAt 44 (w1.alloc (.cells #[.slice p1 n1 c1, .int .u64 m] 44)) w1.heap.size (.slice p1 n1 c1) xs m ∧ w.heap.size ≤ w1.heap.size ∧ (∀ g, blk (.slice p1 n1 c1) = some g → w.heap.size ≤ g) ∧ Below w.heap.size w (w1.alloc (.cells #[.slice p1 n1 c1, .int .u64 m] 44))) := ⟨QAt.new w1 44 R1.out.1, R1.out.2.1.size, R1.out.2.2, below_then R1.out.2.1 (below_alloc w1 _)⟩
  refine hKc.out _ _ R2.out.2.2.2 (fun hHeld => ?_)
  clear hKc Kc R1
  generalize w1.alloc (.cells #[.slice p1 n1 c1, .int .u64 m] 44) = w2 at *
  refine wpAnyH_take (i := 12) (v := ?va10) (by simp; rfl) (by kernel_rfl) (by kernel_rfl) (by kernel_rfl) (fun _ _ _ h => h) (Or.inl ⟨by rfl, ?ya10⟩) hHeld ?ra10
  case ya10 => intro w hSw; clear hSw; go_simp; with_reducible rfl
  simp only [Act.put, List.setIfInBounds_toArray, List.set_cons_zero, List.set_cons_succ]
  refine wpAnyH_done (by kernel_rfl) (NoPanic.normal ?_) _
  go_wp2
  go_ret
  exact ⟨_, _, rfl, R2.out⟩
end Go.Proofs.Ytmmmgknlbkckdaa
