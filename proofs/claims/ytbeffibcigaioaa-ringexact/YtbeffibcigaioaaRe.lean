/-
  Contracts of layer 3, fifth part: the laws' own 'taken'.
-/
import Derived.Test.YtbeffibcigaioaaRc
import Derived.Maps.AppendAt
namespace Go.Proofs.Ytbeffibcigaioaa
open Go.RowKit Go.Shelf

attribute [local go_sem] Oper.semAt_some

theorem info22 : (Try.prog.info? 22).map (fun i => (i.zero, i.size, i.bytes)) = some (some (.int .u64 0), 1, 8) := by kernel_rfl

abbrev V64 (xs : List Int) : List Value := xs.map (Value.int .u64)

/-- The value of a sequence that Span handed back. -/
abbrev seqV (Bt Be : Nat) : Value := .func (.func 23) #[] #[.pointer (some ⟨Bt, 0, none⟩), .pointer (some ⟨Be, 0, none⟩)]

theorem seq_nil (Bt Be : Nat) (w : World) : (binOp BinOp.eql 27 (seqV Bt Be) .nilFunc).run Try.prog w = .ok (.bool false) w := by kernel_rfl

theorem take_of_pre {t e : Int} {pre : List U64} {k : Nat} (h : nums pre <+: spanI t e) (hl : pre.length = k) : nums pre = (spanI t e).take k := by
  have := List.prefix_iff_eq_take.1 h
  rw [this]
  congr 1
  simpa using hl

theorem take_of_all {t e : Int} {ys : List U64} {k : Nat} (h : nums ys = spanI t e) (hl : ys.length < k) : nums ys = (spanI t e).take k := by
  rw [← h, List.take_of_length_le]
  simp
  omega

set_option maxRecDepth 100000 in
set_option maxHeartbeats 2000000 in
theorem taken_some (Bt Be k : Nat) (t e : Int) (ht0 : 0 ≤ t) (ht1 : t < 18446744073709551616) (he0 : 0 ≤ e) (he1 : e < 18446744073709551616) (hk1 : 1 ≤ k) (hk2 : k ≤ 70) (w : World) (bT : Boxed w Bt 22 (.int .u64 t)) (bE : Boxed w Be 22 (.int .u64 e)) :
    Calls Try.prog 11 #[seqV Bt Be, .int .i64 k] w fun e' w' => ∃ v, e' = .returned (.tuple #[v, .bool true]) ∧ w'.ownsRow w.heap.size 22 1 v ((spanI t e).take k).length (V64 ((spanI t e).take k)) ∧ Below w.heap.size w w' := by
  obtain ⟨i0, hi, hz0, hz1, hz2⟩ := info_parts info22
  refine (callsIn_wide (n := 9)).1 ?_
  refine callsIn_of_wp_marks Try.func11 rfl trivial ?_ rfl
  simp only [Try.ntmps11, List.size_toArray, List.length_cons, List.length_nil, Nat.reduceAdd, Nat.reduceSub, Array.replicate_succ, Array.replicate_zero, List.push_toArray, List.append_toArray, List.nil_append, List.cons_append]
  have hnil := seq_nil Bt Be
  have hmin : ¬ (70 : Int) < (k : Int) := by omega
  have hge : ¬ (k : Int) < 1 := by omega
  gi_wp2
  have bK := (Boxed.new w 3 (.int .i64 k)).alloc (.cells #[.slice none 0 0] 24)
  have bL := Boxed.new (w.alloc (.cells #[.int .i64 k] 3)) 24 (.slice none 0 0)
  rw [World.size_alloc] at bL
  have bT0 := (bT.alloc (.cells #[.int .i64 k] 3)).alloc (.cells #[.slice none 0 0] 24)
  have bE0 := (bE.alloc (.cells #[.int .i64 k] 3)).alloc (.cells #[.slice none 0 0] 24)
  have hB0 : Below w.heap.size w ((w.alloc (.cells #[.int .i64 k] 3)).alloc (.cells #[.slice none 0 0] 24)) := ((Below.refl _ w).alloc (Nat.le_refl _) _).alloc (by simp) _
  have hsz : ((w.alloc (.cells #[.int .i64 k] 3)).alloc (.cells #[.slice none 0 0] 24)).heap.size = w.heap.size + 2 := by simp
  obtain ⟨W0, hW0⟩ : ∃ W0, ((w.alloc (.cells #[.int .i64 k] 3)).alloc (.cells #[.slice none 0 0] 24)) = W0 := ⟨_, rfl⟩
  rw [hW0] at bK bL bT0 bE0 hB0 hsz ⊢
  clear hW0
  have hbt := bT.lt
  have hbe := bE.lt
  refine wpIn_rangeFunc_ownG (F := Fence.wide) (n := 9) (P := Try.prog) rfl (by decide) (gf := 23) (lb := #[.pointer (some ⟨Bt, 0, none⟩), .pointer (some ⟨Be, 0, none⟩)]) rfl trivial (enters_of Try.func23 (by kernel_rfl) rfl)
    (span_stops Fence.wide (9 - 1) trivial rfl (by decide) Bt Be t e ht0 ht1 he0 he1 W0 bT0 bE0) Kept2.trans (Kept2.keeps (by omega) (by omega)) (Below.refl _ _) (fun _ => rfl)
    (fun pre W => (((∃ v, Boxed W (w.heap.size + 1) 24 v ∧ W.ownsRow w.heap.size 22 1 v pre.length (V64 (nums pre)) ∧ True) ∧ pre.length < k) ∧ Boxed W w.heap.size 3 (.int .i64 k)) ∧ Below w.heap.size w W)
    (fun c pre W => ((∃ v, Boxed W (w.heap.size + 1) 24 v ∧ W.ownsRow w.heap.size 22 1 v pre.length (V64 (nums pre)) ∧ True) ∧ (c = .exit 0 ∧ pre.length = k)) ∧ Below w.heap.size w W)
    (OwnFrom.and (OwnFrom.and (OwnFrom.and (Own.from (holdsRow_own w.heap.size (w.heap.size + 1) 24 22 1 (fun pre => pre.length) (fun pre => V64 (nums pre)) (fun _ _ => True)) _) (ownFrom_pure _ _)) (Own.from (boxed_own _ _ _) _)) (ownFrom_below (Nat.le_refl _) (by omega)))
    (fun c => OwnFrom.and (OwnFrom.and (Own.from (holdsRow_own w.heap.size (w.heap.size + 1) 24 22 1 (fun pre => pre.length) (fun pre => V64 (nums pre)) (fun _ _ => True)) _) (ownFrom_pure _ _)) (ownFrom_below (Nat.le_refl _) (by omega)))
    ⟨⟨⟨⟨_, bL, World.ownsRow_nil _ _ _ _, trivial⟩, hk1⟩, bK⟩, hB0⟩
    (fun x => { tmps := #[seqV Bt Be, .int .i64 k, undef, .pointer (some ⟨w.heap.size, 0, none⟩), .slice none 0 0, .bool false, .pointer (some ⟨w.heap.size + 1, 0, none⟩), .int .u64 x.1, seqV Bt Be, .bool false, .int .i64 k, .int .i64 k, .int .i64 k, .bool false, seqV Bt Be, .int .u64 x.1, undef, undef, undef, undef, undef, undef, undef, undef, undef], defers := [] }) ?assign ?body ?done ?stop
  case assign =>
    intro l x W K hK
    gi_wp2
    exact hK
  case body =>
    rintro l pre x W ⟨⟨⟨⟨v, hv, hrow, _⟩, hpl⟩, bK1⟩, hB⟩ hlt
    have hc := hv.cell
    have hle := hB.size
    have hml : 71 ≤ maxLen := by decide
    gi_wp2_with (gi_at_builtin; refine wpListIn_append_own _ rfl _ _ 24 rfl w.heap.size 22 i0 (.int .u64 0) 1 8 Try.underlying24 hi hz0 hz1 hz2 rfl (by decide) _ _ _ rfl (hrow.alloc _) ⟨W.heap.size, 0, none⟩ 1 1 [.int .u64 x.1] rfl rfl (cell_one_new _ _ _) (by simp [Value.oneCell']) (by omega) (by omega) (by simp; omega) ?_; intro v' w1 hown' hgrow _; obtain ⟨g', cap', rfl⟩ := ownsRow_succ hown'; obtain ⟨hv1, hv2, hr2, hk2, hb2⟩ := hv.appended (by decide) hrow hle (Nat.le_succ _) hown' hgrow; have hc1 := hv1.cell; have hf1 := hv1.frozen; have hc2 := hv2.cell; have bK2 := ((bK1.alloc _).kept hgrow (bK1.not_row (by decide) hrow)).other (show w.heap.size ≠ w.heap.size + 1 by omega) (.slice (some ⟨g', 0, none⟩) (pre.length + 1) cap'); have cK2 := bK2.cell)
    all_goals (rw [show V64 (nums pre) ++ [Value.int .u64 x.1] = V64 (nums (pre ++ [x])) by simp [V64, nums], show pre.length + 1 = (pre ++ [x]).length by simp] at hr2)
    · rename_i hend
      have hend' : (pre ++ [x]).length = k := by have := eq_of_beq hend; simp; omega
      exact ⟨hk2.from _, ⟨⟨_, hv2, by simpa using hr2, trivial⟩, rfl, hend'⟩, hB.trans hb2⟩
    · rename_i hend
      have hend' : (pre ++ [x]).length < k := by
        have h1 : ¬ ((pre.length : Int) + 1 = (k : Int)) := by simpa using hend
        simp; omega
      exact ⟨hk2.from _, Kept2.of_below hb2 hbt hbe, ⟨⟨⟨_, hv2, by simpa using hr2, trivial⟩, hend'⟩, bK2⟩, hB.trans hb2⟩
  case done =>
    rintro D ys W hD hS ⟨⟨⟨⟨v, hv, hrow, _⟩, hpl⟩, bK1⟩, hB⟩ hK
    have hc := hv.cell
    have HS : Hid (nums ys = (spanI t e).take k) := take_of_all hS hpl
    gi_wp2
    refine ⟨by simp, .inl ⟨_, _, rfl, run_takeDeferred hK, ?_⟩⟩
    exact ⟨_, results_tmp2 rfl _ _ _, v, rfl, by have := ownsRow_putObj hrow (.deferred none) hK rfl; rw [HS.out, show ys.length = (nums ys).length by simp, HS.out] at this; exact this, hB.trans (belowK_b (w := w) (Nat.le_refl _) W D _ _ (by omega) hK rfl rfl)⟩
  case stop =>
    rintro D c pre W hD hpre ⟨⟨⟨v, hv, hrow, _⟩, rfl, hpl⟩, hB⟩ hK
    have hc := hv.cell
    have HS : Hid (nums pre = (spanI t e).take k) := take_of_pre hpre hpl
    gi_wp2
    refine ⟨by simp, .inl ⟨_, _, rfl, run_takeDeferred hK, ?_⟩⟩
    exact ⟨_, results_tmp2 rfl _ _ _, v, rfl, by have := ownsRow_putObj hrow (.deferred none) hK rfl; rw [HS.out, show pre.length = (nums pre).length by simp, HS.out] at this; exact this, hB.trans (belowK_b (w := w) (Nat.le_refl _) W D _ _ (by omega) hK rfl rfl)⟩

set_option maxHeartbeats 400000 in
theorem taken_none (Bt Be : Nat) (w : World) :
    Calls Try.prog 11 #[seqV Bt Be, .int .i64 0] w fun e' w' => e' = .returned (.tuple #[.slice none 0 0, .bool true]) ∧ Below w.heap.size w w' := by
  have hnil := seq_nil Bt Be
  go_enter Try.func11, Try.ntmps11
  go_wp2
  go_ret2
  refine ⟨rfl, ?_⟩
  have h := ((Below.refl w.heap.size w).alloc (Nat.le_refl _) (.cells #[.int .i64 0] 3)).alloc (by simp) (.cells #[.slice none 0 0] 24)
  exact h

/-- taken: the first so many positions, as a list of its own. -/
theorem taken_any (Bt Be k : Nat) (t e : Int) (ht0 : 0 ≤ t) (ht1 : t < 18446744073709551616) (he0 : 0 ≤ e) (he1 : e < 18446744073709551616) (hk2 : k ≤ 70) (w : World) (bT : Boxed w Bt 22 (.int .u64 t)) (bE : Boxed w Be 22 (.int .u64 e)) :
    Calls Try.prog 11 #[seqV Bt Be, .int .i64 k] w fun e' w' => ∃ v, e' = .returned (.tuple #[v, .bool true]) ∧ w'.ownsRow w.heap.size 22 1 v ((spanI t e).take k).length (V64 ((spanI t e).take k)) ∧ Below w.heap.size w w' := by
  by_cases hk : 1 ≤ k
  · exact taken_some Bt Be k t e ht0 ht1 he0 he1 hk hk2 w bT bE
  · obtain rfl : k = 0 := by omega
    refine (taken_none Bt Be w).mono ?_
    rintro e' w' ⟨rfl, hb⟩
    exact ⟨_, rfl, World.ownsRow_nil _ _ _ _, hb⟩

end Go.Proofs.Ytbeffibcigaioaa
