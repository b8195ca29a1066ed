/-
  Layer 11: the laws' own 'listed'.
-/
import Derived.Test.YtmmmgknlbkckdaaTd
import Derived.Maps.AppendAt
import Derived.OneCell
import Derived.Laws.ResultCell
namespace Go.Proofs.Ytmmmgknlbkckdaa
open Go.RowKit Go.Shelf

attribute [local go_sem] Oper.semAt_some

theorem seq_nil (B : Nat) (w : World) : (binOp BinOp.eql 58 (seqV B) .nilFunc).run Try.prog w = .ok (.bool false) w := by kernel_rfl

/-- the first so many; all, where less than none is asked for -/
def firsts (most : Int) (zs : List Int) : List Int := if most < 0 then zs else zs.take most.toNat
theorem firsts_all (zs : List Int) : firsts (-1) zs = zs := rfl
theorem firsts_some (n : Nat) (zs : List Int) : firsts n zs = zs.take n := by simp [firsts]; omega
theorem firsts_of_all {most : Int} {zs : List Int} (h : most < 0 ∨ (zs.length : Int) ≤ most) : firsts most zs = zs := by
  unfold firsts
  split
  · rfl
  · rw [List.take_of_length_le (by omega)]
theorem firsts_of_pre {most : Int} {zs pre : List Int} (hp : pre <+: zs) (h0 : 0 ≤ most) (hl : ((pre.dropLast).length : Int) = most) : firsts most zs = pre.dropLast := by
  unfold firsts
  rw [if_neg (by omega)]
  have h2 : pre.dropLast <+: zs := (List.dropLast_prefix pre).trans hp
  have := List.prefix_iff_eq_take.1 h2
  rw [this]
  congr 1
  omega

theorem results_two {fn : Func} {p u : Tmp} {ty : TypeId} {d : TypeDesc} (h : fn.results = #[.cell p ty, .tmp u]) (hu : Try.prog.underlying ty = some d) (hd : d.isRow = false) (tmps : Array Value) (w : World) (g : Nat) (v : Value)
    (hp : tmps.getD p undef = .pointer (some ⟨g, 0, none⟩)) (hc : w.cell? ⟨g, 0, none⟩ = some v) : (results fn tmps).run Try.prog w = .ok (.tuple #[v, tmps.getD u undef]) w := by
  have hp' : tmps[p]?.getD undef = .pointer (some ⟨g, 0, none⟩) := by simpa using hp
  have hagg : (isAgg ty).run Try.prog w = .ok false w := by
    unfold isAgg
    rw [Sem.run_bind, run_underlying hu w]
    cases d <;> simp_all
  rw [results_cell_tmp h]
  simp [hp', asAddr, loadVar, Sem.run_bind, hagg, go_sem, hc]

/-- while it goes on -/
structure LI (n₀ : Nat) (w : World) (most : Int) (pre : List Int) (W : World) : Prop where
  hold : ∃ v, Boxed W (n₀ + 1) 22 v ∧ W.ownsRow n₀ 26 1 v pre.length (V64 pre) ∧ True
  few : most < 0 ∨ (pre.length : Int) ≤ most
  box : Boxed W n₀ 3 (.int .i64 most)
  below : Below n₀ w W
/-- where it was broken off -/
structure LX (n₀ : Nat) (w : World) (most : Int) (c : Code) (pre : List Int) (W : World) : Prop where
  hold : ∃ v, Boxed W (n₀ + 1) 22 v ∧ W.ownsRow n₀ 26 1 v pre.dropLast.length (V64 pre.dropLast) ∧ True
  code : c = .exit 0
  pos : 0 ≤ most
  len : (pre.dropLast.length : Int) = most
  below : Below n₀ w W
theorem LI.own {B : Nat} {w : World} {most : Int} (hB : w.heap.size ≤ B) : OwnFrom B (LI w.heap.size w most) := fun s X Y row hs hg hr => by
  have := (OwnFrom.and (OwnFrom.and (Own.from (holdsRow_own w.heap.size (w.heap.size + 1) 22 26 1 (fun pre : List Int => pre.length) (fun pre => V64 pre) (fun _ _ => True)) B) (Own.from (boxed_own w.heap.size 3 (fun _ => Value.int .i64 most)) B)) (ownFrom_below (w₀ := w) (Nat.le_refl _) hB)) s X Y row ⟨⟨hs.hold, hs.box⟩, hs.below⟩ hg hr
  exact ⟨this.1.1, hs.few, this.1.2, this.2⟩
theorem LX.own {B : Nat} {w : World} {most : Int} {c : Code} (hB : w.heap.size ≤ B) : OwnFrom B (LX w.heap.size w most c) := fun s X Y row hs hg hr => by
  have := (OwnFrom.and (Own.from (holdsRow_own w.heap.size (w.heap.size + 1) 22 26 1 (fun pre : List Int => pre.dropLast.length) (fun pre : List Int => V64 pre.dropLast) (fun _ _ => True)) B) (ownFrom_below (w₀ := w) (Nat.le_refl _) hB)) s X Y row ⟨hs.hold, hs.below⟩ hg hr
  exact ⟨this.1, hs.code, hs.pos, hs.len, this.2⟩

set_option maxRecDepth 100000 in
set_option maxHeartbeats 2000000 in
theorem listed_any (p : Option Addr) (most : Int) (zs : List Int) (w : World) (hS : Stands w p zs) (hn : zs.length ≤ 10000) :
    Calls Try.prog 9 #[.pointer p, .int .i64 most] w fun e' w' => ∃ v, e' = .returned (.tuple #[v, .bool true]) ∧ w'.ownsRow w.heap.size 26 1 v (firsts most zs).length (V64 (firsts most zs)) ∧ Below w.heap.size w w' := by
  obtain ⟨i0, hi, hz0, hz1, hz2⟩ := info_parts info26
  have hnil := seq_nil
  refine (callsIn_wide (n := 9)).1 ?_
  refine callsIn_of_wp_marks Try.func9 rfl trivial ?_ rfl
  simp only [Try.ntmps9, List.size_toArray, List.length_cons, List.length_nil, Nat.reduceAdd, Nat.reduceSub, Array.replicate_succ, Array.replicate_zero, List.push_toArray, List.append_toArray, List.nil_append, List.cons_append]
  gi_wp2_with (first | (refine ⟨trivial, ?_⟩; gi_at_call 18; refine (callsIn_wide.2 (all_is _ _)).mono ?_; rintro e w' ⟨rfl, rfl⟩))
  have bM := ((Boxed.new w 3 (.int .i64 most)).alloc (.cells #[.slice none 0 0] 22)).alloc (.cells #[.pointer p] 25)
  have bL := (Boxed.new (w.alloc (.cells #[.int .i64 most] 3)) 22 (.slice none 0 0)).alloc (.cells #[.pointer p] 25)
  have bB := Boxed.new ((w.alloc (.cells #[.int .i64 most] 3)).alloc (.cells #[.slice none 0 0] 22)) 25 (.pointer p)
  simp only [World.size_alloc] at bM bL bB
  have hB0 : Below w.heap.size w (((w.alloc (.cells #[.int .i64 most] 3)).alloc (.cells #[.slice none 0 0] 22)).alloc (.cells #[.pointer p] 25)) := (((Below.refl _ w).alloc (Nat.le_refl _) _).alloc (by simp) _).alloc (by simp; omega) _
  have hsz : (((w.alloc (.cells #[.int .i64 most] 3)).alloc (.cells #[.slice none 0 0] 22)).alloc (.cells #[.pointer p] 25)).heap.size = w.heap.size + 3 := by simp
  obtain ⟨W0, hW0⟩ : ∃ W0, (((w.alloc (.cells #[.int .i64 most] 3)).alloc (.cells #[.slice none 0 0] 22)).alloc (.cells #[.pointer p] 25)) = W0 := ⟨_, rfl⟩
  rw [hW0] at bM bL bB hB0 hsz ⊢
  clear hW0
  refine wpIn_rangeFunc_ownG (F := Fence.wide) (n := 9) (P := Try.prog) rfl (by decide) (gf := 26) (lb := #[.pointer (some ⟨w.heap.size + 1 + 1, 0, none⟩)]) rfl trivial (enters_of Try.func26 (by kernel_rfl) rfl)
    (all_stops Fence.wide (9 - 1) trivial rfl (by decide) (w.heap.size + 1 + 1) w.heap.size p zs (by omega) W0 w (by omega) (by omega) hB0 rfl bB.cell hS) belowK_t (belowK_b (by omega)) (Below.refl _ _) (fun _ => rfl)
    (LI w.heap.size w most) (LX w.heap.size w most) (LI.own (by omega)) (fun c => LX.own (by omega))
    ⟨⟨_, bL, World.ownsRow_nil _ _ _ _, trivial⟩, by simp; omega, bM, hB0⟩
    (fun x => { tmps := #[.pointer p, .int .i64 most, undef, .pointer (some ⟨w.heap.size, 0, none⟩), .pointer (some ⟨w.heap.size + 1, 0, none⟩), .bool false, seqV (w.heap.size + 1 + 1), .int .u64 x, .pointer p, seqV (w.heap.size + 1 + 1), seqV (w.heap.size + 1 + 1), .bool false, seqV (w.heap.size + 1 + 1), .int .u64 x, undef, undef, undef, undef, undef, undef, undef, undef, undef, undef, undef, undef, undef], defers := [] }) ?assign ?body ?done ?stop
  case assign =>
    intro l x W K hK
    gi_wp2
    exact hK
  case body =>
    rintro l pre x W ⟨⟨v, hv, hrow, _⟩, hpl, bM1, hB⟩ hlt
    have hc := hv.cell
    have cM := bM1.cell
    have hle := hB.size
    have hml : 10001 ≤ maxLen := by decide
    obtain ⟨pv, cv, rfl, _, _, _⟩ := (Row.own hrow).1.form
    by_cases h0 : 0 ≤ most
    · have hd := decide_eq_true h0
      by_cases h1 : most ≤ (pre.length : Int)
      · have hd1 := decide_eq_true h1
        have HL : Hid (0 ≤ most ∧ (pre.length : Int) = most) := ⟨h0, by omega⟩
        gi_wp2
        exact ⟨(KeepsOthers.refl W).from _, ⟨_, hv, by simpa using hrow, trivial⟩, rfl, HL.out.1, by simpa using HL.out.2, hB⟩
      · have hd1 := decide_eq_false h1
        have HL : Hid (most < 0 ∨ (((pre ++ [x]).length : Nat) : Int) ≤ most) := .inr (by simp; omega)
        gi_wp2_with (gi_at_builtin; refine wpListIn_append_own _ rfl _ _ 22 rfl w.heap.size 26 i0 (.int .u64 0) 1 8 Try.underlying22 hi hz0 hz1 hz2 rfl (by decide) _ _ _ rfl (hrow.alloc _) ⟨W.heap.size, 0, none⟩ 1 1 [.int .u64 x] rfl rfl (cell_one_new _ _ _) (by simp [Value.oneCell']) (by omega) (by omega) (by simp; omega) ?_; intro v' w1 hown' hgrow _; obtain ⟨g', cap', rfl⟩ := ownsRow_succ hown'; obtain ⟨hv1, hv2, hr2, hk2, hb2⟩ := hv.appended (by decide) hrow hle (Nat.le_succ _) hown' hgrow; have hc1 := hv1.cell; have hf1 := hv1.frozen; have hc2 := hv2.cell; have bM2 := ((bM1.alloc _).kept hgrow (bM1.not_row (by decide) hrow)).other (show w.heap.size ≠ w.heap.size + 1 by omega) (.slice (some ⟨g', 0, none⟩) (pre.length + 1) cap'))
        rw [show V64 pre ++ [Value.int .u64 x] = V64 (pre ++ [x]) by simp [V64], show pre.length + 1 = (pre ++ [x]).length by simp] at hr2
        exact ⟨hk2.from _, hb2, ⟨_, hv2, by simpa using hr2, trivial⟩, HL.out, bM2, hB.trans hb2⟩
    · have hd := decide_eq_false h0
      have HL : Hid (most < 0 ∨ (((pre ++ [x]).length : Nat) : Int) ≤ most) := .inl (by omega)
      gi_wp2_with (gi_at_builtin; refine wpListIn_append_own _ rfl _ _ 22 rfl w.heap.size 26 i0 (.int .u64 0) 1 8 Try.underlying22 hi hz0 hz1 hz2 rfl (by decide) _ _ _ rfl (hrow.alloc _) ⟨W.heap.size, 0, none⟩ 1 1 [.int .u64 x] rfl rfl (cell_one_new _ _ _) (by simp [Value.oneCell']) (by omega) (by omega) (by simp; omega) ?_; intro v' w1 hown' hgrow _; obtain ⟨g', cap', rfl⟩ := ownsRow_succ hown'; obtain ⟨hv1, hv2, hr2, hk2, hb2⟩ := hv.appended (by decide) hrow hle (Nat.le_succ _) hown' hgrow; have hc1 := hv1.cell; have hf1 := hv1.frozen; have hc2 := hv2.cell; have bM2 := ((bM1.alloc _).kept hgrow (bM1.not_row (by decide) hrow)).other (show w.heap.size ≠ w.heap.size + 1 by omega) (.slice (some ⟨g', 0, none⟩) (pre.length + 1) cap'))
      rw [show V64 pre ++ [Value.int .u64 x] = V64 (pre ++ [x]) by simp [V64], show pre.length + 1 = (pre ++ [x]).length by simp] at hr2
      exact ⟨hk2.from _, hb2, ⟨_, hv2, by simpa using hr2, trivial⟩, HL.out, bM2, hB.trans hb2⟩
  case done =>
    rintro D ys W hD hSt ⟨⟨v, hv, hrow, _⟩, hpl, bM1, hB⟩ hK
    subst hSt
    have HS : Hid (firsts most ys = ys) := firsts_of_all hpl
    obtain ⟨pv, cv, rfl, _, _, _⟩ := (Row.own hrow).1.form
    have hc := hv.cell
    have hf := hv.frozen
    gi_wp2
    have hK2 : (W.setCell ⟨w.heap.size + 1, 0, none⟩ (.slice pv ys.length cv)).heap[D]? = some (.deferred (some [])) := (Below.heap_setCell _ _ _ _ (by show D ≠ w.heap.size + 1; omega)).trans hK
    refine ⟨by simp, .inl ⟨_, _, rfl, run_takeDeferred hK2, ?_⟩⟩
    have b2 : Boxed ((W.setCell ⟨w.heap.size + 1, 0, none⟩ (.slice pv ys.length cv)).putObj D (.deferred none)) (w.heap.size + 1) 22 (.slice pv ys.length cv) := (World.putObj_heap_other (by omega)).trans (hv.set _)
    have hB2 := hB.setCell (p := ⟨w.heap.size + 1, 0, none⟩) (by simp) (.slice pv ys.length cv)
    refine ⟨_, results_two rfl Try.underlying22 rfl _ _ (w.heap.size + 1) _ rfl b2.cell, _, rfl, ?_, hB2.trans (belowK_b (w := w) (Nat.le_refl _) _ D _ _ (by omega) hK2 rfl rfl)⟩
    rw [HS.out]
    refine ownsRow_putObj ?_ (.deferred none) hK2 rfl
    exact ownsRow_setCell_other hrow (fun e => hv.not_row (by decide) hrow e.symm) _
  case stop =>
    rintro D c pre W hD hpre ⟨⟨v, hv, hrow, _⟩, rfl, h0, hpl, hB⟩ hK
    have HS : Hid (firsts most zs = pre.dropLast) := firsts_of_pre hpre h0 hpl
    obtain ⟨pv, cv, rfl, _, _, _⟩ := (Row.own hrow).1.form
    rw [List.length_dropLast] at hv hrow
    have hc := hv.cell
    have hf := hv.frozen
    gi_wp2
    have hK2 : (W.setCell ⟨w.heap.size + 1, 0, none⟩ (.slice pv (pre.length - 1) cv)).heap[D]? = some (.deferred (some [])) := (Below.heap_setCell _ _ _ _ (by show D ≠ w.heap.size + 1; omega)).trans hK
    refine ⟨by simp, .inl ⟨_, _, rfl, run_takeDeferred hK2, ?_⟩⟩
    have b2 : Boxed ((W.setCell ⟨w.heap.size + 1, 0, none⟩ (.slice pv (pre.length - 1) cv)).putObj D (.deferred none)) (w.heap.size + 1) 22 (.slice pv (pre.length - 1) cv) := (World.putObj_heap_other (by omega)).trans (hv.set _)
    have hB2 := hB.setCell (p := ⟨w.heap.size + 1, 0, none⟩) (by simp) (.slice pv (pre.length - 1) cv)
    refine ⟨_, results_two rfl Try.underlying22 rfl _ _ (w.heap.size + 1) _ rfl b2.cell, _, rfl, ?_, hB2.trans (belowK_b (w := w) (Nat.le_refl _) _ D _ _ (by omega) hK2 rfl rfl)⟩
    rw [HS.out]
    rw [List.length_dropLast]
    refine ownsRow_putObj ?_ (.deferred none) hK2 rfl
    exact ownsRow_setCell_other hrow (fun e => hv.not_row (by decide) hrow e.symm) _

end Go.Proofs.Ytmmmgknlbkckdaa
