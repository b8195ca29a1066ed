/-
  Layer 5: slices.Values, AppendSeq, Collect, Sorted, and the program's 'different'. Layer 5: slices.Collect, Sorted, and the program's 'different'. Layer 5: the program's Form and Is. Nothing more.
-/
import Derived.RangeFuncNested
import Derived.RangeFuncBound
import Derived.RangeFuncBox
import Derived.RangeFuncLeaves
import Derived.Shelf.Abstract
import Derived.OwnWalkIn
import Derived.TacticsInMore
import Derived.LoopNIn
import Derived.LoopIn
import Derived.Laws.EntriesVeiled
import Derived.Sort.OwnSortedInts
import Derived.Test.YtkgjmejpbklabaaGreatBa
import Derived.Test.YtkgjmejpbklabaaGreatSh
import Derived.Lib.OwnBridge
import Derived.Test.YtkgjmejpbklabaaGreatBRa
namespace Go.Proofs.YtkgjmejpbklabaaGreat.B
open Go.RowKit Go.Shelf

attribute [local go_sem] Oper.semAt_some
/-- what has come when k rounds are over -/
def upto (zs : List Int) (k : Nat) : List Int := (List.range k).map fun j => zs.getD j 0
theorem upto_succ (zs : List Int) (k : Nat) : upto zs (k + 1) = upto zs k ++ [zs.getD k 0] := by simp [upto, List.range_succ]
theorem upto_length (zs : List Int) (k : Nat) : (upto zs k).length = k := by simp [upto]
theorem upto_all (zs : List Int) : upto zs zs.length = zs := by
  apply List.ext_getElem
  · simp [upto]
  · intro i h1 h2
    simp [upto, List.getD, h2]
set_option maxRecDepth 100000 in
set_option maxHeartbeats 2000000 in
set_option maxRecDepth 100000 in
theorem values1_in (F : Fence) (n : Nat) (h7 : F.fn 123) (hro : F.round = none) (hn : 1 ≤ n) (l Bs n₀ b off len cap : Nat) (zs : List Int) (hreach : len ≤ 17592186044416) (hb : b < n₀) (J Jx : List Int → World → Prop)
    (hY : ∀ pre x W, J pre W → pre.length < len → YieldAt F (n - 1) Tryz.prog l #[.int .i64 x] W fun e W' =>
      (e = .returned (.bool true) ∧ J (pre ++ [x]) W' ∧ Below n₀ W W') ∨ (e = .returned (.bool false) ∧ Jx (pre ++ [x]) W'))
    (W : World) (hBs : W.cell? ⟨Bs, 0, none⟩ = some (.slice (some ⟨b, off, none⟩) len cap)) (hc : ∀ j, j < len → W.cell? ⟨b, off + j, none⟩ = some (.int .i64 (zs.getD j 0))) (h0 : J [] W) :
    CallsIn F n Tryz.prog 123 #[.func (.yield l) #[] #[], .pointer (some ⟨Bs, 0, none⟩)] W fun e W' => (∃ v, e = .returned v) ∧
      ((∃ ys, ys = upto zs len ∧ J ys W') ∨ (∃ pre, True ∧ Jx pre W')) := by
  refine callsIn_of_wp Tryz.func123 rfl h7 ?_ hro
  simp only [Tryz.ntmps123, List.size_toArray, List.length_cons, List.length_nil, Nat.reduceAdd, Nat.reduceSub, Array.replicate_succ, Array.replicate_zero, List.push_toArray, List.append_toArray, List.nil_append, List.cons_append]
  gi_wp2
  gi_loopw [7] (fun i wr => ∃ k : Nat, k ≤ len ∧ i = .int .i64 k ∧ J (upto zs k) wr ∧ Below n₀ W wr)
    (fun i _ => len - (intOf i).toNat)
  case atStart => exact ⟨0, Nat.zero_le _, rfl, h0, Below.refl _ _⟩
  case round =>
    obtain ⟨k, hk, rfl, hJs, hnx⟩ := hrel
    have hcx : k < len → wr.cell? ⟨b, off + k, none⟩ = some (.int .i64 (zs.getD k 0)) := fun h => (hnx.cell (p := ⟨b, off + k, none⟩) hb).trans (hc k h)
    by_cases hlt : k < len
    · obtain ⟨fn, tmps, assign, body, hy, hR⟩ := hY _ (zs.getD k 0) wr hJs (by rw [upto_length]; exact hlt)
      have hcx' := hcx hlt
      have HS : Hid (upto zs (k + 1) = upto zs k ++ [zs.getD k 0]) := upto_succ zs k
      clear hcx hc
      generalize zs.getD k 0 = x at *
      gi_wp2
      refine hR.mono ?_
      rintro e W3 (⟨rfl, hJ3, hk3⟩ | ⟨rfl, hJx3⟩)
      · gi_wp2
        go_roundw
        case rel => exact ⟨k + 1, by omega, by simp, by rw [HS.out]; exact hJ3, hnx.trans hk3⟩
        case measure => simp [intOf]; omega
      · gi_wp2
        refine bodyPost_ret (results_none rfl _ _ _) rfl ?_
        exact ⟨⟨_, rfl⟩, .inr ⟨_, trivial, hJx3⟩⟩
    · obtain rfl : k = len := by omega
      gi_wp2
      go_end0
      exact ⟨⟨_, rfl⟩, .inl ⟨_, rfl, hJs⟩⟩
set_option maxRecDepth 100000 in
set_option maxHeartbeats 1000000 in
set_option maxRecDepth 100000 in
theorem values1_zero_in (F : Fence) (n : Nat) (h7 : F.fn 123) (hro : F.round = none) (l Bs : Nat) (p : Option Addr) (cap : Nat) (J : List Int → World → Prop) (W : World) (hBs : W.cell? ⟨Bs, 0, none⟩ = some (.slice p 0 cap)) (h0 : J [] W) :
    CallsIn F n Tryz.prog 123 #[.func (.yield l) #[] #[], .pointer (some ⟨Bs, 0, none⟩)] W fun e W' => (∃ v, e = .returned v) ∧ J [] W' := by
  refine callsIn_of_wp Tryz.func123 rfl h7 ?_ hro
  simp only [Tryz.ntmps123, List.size_toArray, List.length_cons, List.length_nil, Nat.reduceAdd, Nat.reduceSub, Array.replicate_succ, Array.replicate_zero, List.push_toArray, List.append_toArray, List.nil_append, List.cons_append]
  gi_wp2
  gi_loopw [7] (fun i wr => i = .int .i64 0 ∧ J [] wr) (fun _ _ => 0)
  case atStart => exact ⟨rfl, h0⟩
  case round =>
    obtain ⟨rfl, hJs⟩ := hrel
    gi_wp2
    go_end0
    exact ⟨⟨_, rfl⟩, hJs⟩
/-- the value of a sequence that slices.Values handed back -/
abbrev seqV (Bs : Nat) : Value := .func (.func 123) #[] #[.pointer (some ⟨Bs, 0, none⟩)]
set_option maxHeartbeats 1000000 in
set_option maxRecDepth 100000 in
theorem values_is (p : Option Addr) (n c : Nat) (w : World) :
    Calls Tryz.prog 97 #[.slice p n c] w fun e w' => e = .returned (seqV w.heap.size) ∧ w' = w.alloc (.cells #[.slice p n c] 72) := by
  go_enter Tryz.func97, Tryz.ntmps97
  go_wp2
  go_ret
  exact ⟨rfl, rfl⟩
theorem values_stops (F : Fence) (n : Nat) (h7 : F.fn 123) (hro : F.round = none) (hn : 1 ≤ n) (Bs n₀ : Nat) (p : Option Addr) (m c : Nat) (zs : List Int) (hreach : m ≤ 17592186044416) (w : World) (hBs : Bs < w.heap.size) (hn₀ : n₀ ≤ w.heap.size)
    (hc : w.cell? ⟨Bs, 0, none⟩ = some (.slice p m c)) (hI : IIn w p m zs) (hlo : ∀ a, p = some a → 0 < m → a.block < n₀) :
    SeqStopsK F n Tryz.prog 123 #[.pointer (some ⟨Bs, 0, none⟩)] (fun x : Int => #[Value.int .i64 x]) (Below n₀) (fun ys => ys = zs) (fun _ => True) m w := fun l J Jx W hW _ _ hY h0 => by
  have hc' := (hW.cell (p := ⟨Bs, 0, none⟩) hBs).trans hc
  have hl := hI.len
  by_cases hp : 0 < m
  · obtain ⟨b, off, rfl, hcs⟩ := hI.cells hp
    have hb := hlo _ rfl hp
    refine (values1_in F n h7 hro hn l Bs n₀ b off m c zs hreach hb J Jx hY W hc' (fun j hj => (hW.cell (p := ⟨b, off + j, none⟩) (Nat.lt_of_lt_of_le hb hn₀)).trans (hcs j hj)) h0).mono ?_
    rintro e W' ⟨he, ⟨ys, rfl, hj⟩ | ⟨pre, _, hj⟩⟩
    · exact ⟨he, .inl ⟨_, by rw [← hl]; exact upto_all zs, hj⟩⟩
    · exact ⟨he, .inr ⟨_, trivial, hj⟩⟩
  · obtain rfl : m = 0 := by omega
    obtain rfl : zs = [] := List.eq_nil_of_length_eq_zero hl
    exact (values1_zero_in F n h7 hro l Bs p c J W hc' h0).mono fun e W' ⟨he, hj⟩ => ⟨he, .inl ⟨_, rfl, hj⟩⟩
set_option maxRecDepth 100000 in
set_option maxHeartbeats 2000000 in
set_option maxRecDepth 100000 in
theorem appendSeq_is (Bs : Nat) (p : Option Addr) (m c : Nat) (zs : List Int) (w : World) (hreach : m + 80 ≤ 17592186044416) (hBs : Bs < w.heap.size) (hc : w.cell? ⟨Bs, 0, none⟩ = some (.slice p m c)) (hI : IIn w p m zs) :
    Calls Tryz.prog 133 #[.slice none 0 0, seqV Bs] w fun e' w' => ∃ v, e' = .returned v ∧ w'.ownsRow w.heap.size 3 1 v zs.length (I64 zs) ∧ Below w.heap.size w w' := by
  obtain ⟨i0, hi, hz0, hz1, hz2⟩ := info_parts info3
  have hlo : ∀ a, p = some a → 0 < m → a.block < w.heap.size := fun a e h0 => by subst e; exact hI.lt h0
  refine (callsIn_wide (n := 9)).1 ?_
  refine callsIn_of_wp_marks Tryz.func133 rfl trivial ?_ rfl
  simp only [Tryz.ntmps133, List.size_toArray, List.length_cons, List.length_nil, Nat.reduceAdd, Nat.reduceSub, Array.replicate_succ, Array.replicate_zero, List.push_toArray, List.append_toArray, List.nil_append, List.cons_append]
  gi_wp2
  have bL := Boxed.new w 72 (.slice none 0 0)
  have hB0 : Below w.heap.size w (w.alloc (.cells #[.slice none 0 0] 72)) := below_alloc w _
  have hsz : (w.alloc (.cells #[.slice none 0 0] 72)).heap.size = w.heap.size + 1 := by simp
  have hc0 := (hB0.cell (p := ⟨Bs, 0, none⟩) hBs).trans hc
  have hI0 := hI.later hB0
  obtain ⟨W0, hW0⟩ : ∃ W0, (w.alloc (.cells #[.slice none 0 0] 72)) = W0 := ⟨_, rfl⟩
  rw [hW0] at bL hB0 hsz hc0 hI0 ⊢
  clear hW0
  refine wpIn_rangeFunc_ownG (F := Fence.wide) (n := 9) (P := Tryz.prog) rfl (by decide) (gf := 123) (lb := #[.pointer (some ⟨Bs, 0, none⟩)]) rfl trivial (enters_of Tryz.func123 (by kernel_rfl) rfl)
    (values_stops Fence.wide (9 - 1) trivial rfl (by decide) Bs w.heap.size p m c zs (by omega) W0 (by omega) (by omega) hc0 hI0 hlo) belowK_t (belowK_b (by omega)) (Below.refl _ _) (fun _ => rfl)
    (fun pre W => (∃ v, Boxed W w.heap.size 72 v ∧ W.ownsRow w.heap.size 3 1 v pre.length (I64 pre) ∧ True) ∧ Below w.heap.size w W)
    (fun _ _ _ => False)
    (OwnFrom.and (Own.from (holdsRow_own w.heap.size w.heap.size 72 3 1 (fun pre => pre.length) (fun pre => I64 pre) (fun _ _ => True)) _) (ownFrom_below (Nat.le_refl _) (by omega)))
    (fun _ _ _ _ _ hs _ _ => hs)
    ⟨⟨_, bL, World.ownsRow_nil _ _ _ _, trivial⟩, hB0⟩
    (fun x => { tmps := #[.slice none 0 0, seqV Bs, .pointer (some ⟨w.heap.size, 0, none⟩), undef, .slice none 0 0, .int .i64 x, seqV Bs, .int .i64 x, undef, undef, undef, undef, undef], defers := [] }) ?assign ?body ?done ?stop
  case assign =>
    intro l x W K hK
    gi_wp2
    exact hK
  case body =>
    rintro l pre x W ⟨⟨v, hv, hrow, _⟩, hB⟩ hlt
    have hc := hv.cell
    have hle := hB.size
    have hml : 140737488355328 ≤ maxLen := by decide
    gi_wp2_with (gi_at_builtin; refine wpListIn_append_own _ rfl _ _ 72 rfl w.heap.size 3 i0 (.int .i64 0) 1 8 Tryz.underlying72 hi hz0 hz1 hz2 rfl (by decide) _ _ _ rfl (hrow.alloc _) ⟨W.heap.size, 0, none⟩ 1 1 [.int .i64 x] rfl rfl (cell_one_new _ _ _) (by simp [Value.oneCell']) (by omega) (by omega) (by simp; omega) ?_; intro v' w1 hown' hgrow _; obtain ⟨g', cap', rfl⟩ := ownsRow_succ hown'; obtain ⟨hv1, hv2, hr2, hk2, hb2⟩ := hv.appended (by decide) hrow hle (Nat.le_refl _) hown' hgrow; have hc1 := hv1.cell; have hf1 := hv1.frozen; have hc2 := hv2.cell)
    rw [show I64 pre ++ [Value.int .i64 x] = I64 (pre ++ [x]) by simp [I64], show pre.length + 1 = (pre ++ [x]).length by simp] at hr2
    exact ⟨hk2.from _, hb2, ⟨_, hv2, by simpa using hr2, trivial⟩, hB.trans hb2⟩
  case done =>
    rintro D ys W hD hS ⟨⟨v, hv, hrow, _⟩, hB⟩ hK
    have hc := hv.cell
    have HS : Hid (ys = zs) := hS
    clear hS
    gi_wp2
    refine ⟨by simp, .inl ⟨_, _, rfl, run_takeDeferred hK, ?_⟩⟩
    exact ⟨_, results_tmp rfl _ _ _, v, rfl, by have := ownsRow_putObj hrow (.deferred none) hK rfl; rw [HS.out] at this; exact this, hB.trans (belowK_b (w := w) (Nat.le_refl _) W D _ _ (by omega) hK rfl rfl)⟩
  case stop =>
    rintro D c pre W hD hpre hF
    exact absurd hF (fun h => h)
end Go.Proofs.YtkgjmejpbklabaaGreat.B
namespace Go.Proofs.YtkgjmejpbklabaaGreat.B
open Go.RowKit Go.Shelf
theorem compact_up (zs : List Int) (hs : zs.Pairwise (· ≤ ·)) : ∀ m, m ≤ zs.length → Up (Lib.compactUpTo zs.toArray m) ∧ ∀ x, x ∈ Lib.compactUpTo zs.toArray m ↔ ∃ j, j < m ∧ zs.getD j 0 = x
  | 0, _ => by simp [Lib.compactUpTo]
  | m + 1, hm => by
    obtain ⟨h1, h2⟩ := compact_up zs hs m (by omega)
    have hd : ∀ j, j < zs.length → zs.toArray[j]! = zs.getD j 0 := fun j hj => by
      rw [getElem!_pos zs.toArray j (by simpa using hj)]
      simp [List.getD, List.getElem?_eq_getElem hj]
    have hle : ∀ i j, i ≤ j → j < zs.length → zs.getD i 0 ≤ zs.getD j 0 := fun i j hij hj => by
      rcases Nat.eq_or_lt_of_le hij with rfl | hlt
      · exact Int.le_refl _
      · have := (List.pairwise_iff_getElem.1 hs) i j (by omega) hj hlt
        simpa [List.getD, List.getElem?_eq_getElem hj, List.getElem?_eq_getElem (show i < zs.length by omega)] using this
    rw [Lib.compactUpTo_succ]
    by_cases hk : Lib.keeps zs.toArray m = true
    · rw [if_pos hk, hd m (by omega)]
      have hk' : m = 0 ∨ zs.getD m 0 ≠ zs.getD (m - 1) 0 := by
        have := of_decide_eq_true hk
        rwa [hd m (by omega), hd (m - 1) (by omega)] at this
      refine ⟨List.pairwise_append.2 ⟨h1, by simp, fun x hx y hy => ?_⟩, fun x => ?_⟩
      · obtain rfl := List.mem_singleton.1 hy
        obtain ⟨j, hj, rfl⟩ := (h2 x).1 hx
        have a1 := hle j (m - 1) (by omega) (by omega)
        have a2 := hle (m - 1) m (by omega) (by omega)
        rcases hk' with e | e
        · omega
        · omega
      · rw [List.mem_append, h2 x, List.mem_singleton]
        constructor
        · rintro (⟨j, hj, e⟩ | e)
          · exact ⟨j, by omega, e⟩
          · exact ⟨m, by omega, e.symm⟩
        · rintro ⟨j, hj, e⟩
          by_cases ej : j = m
          · subst ej; exact .inr e.symm
          · exact .inl ⟨j, by omega, e⟩
    · rw [if_neg hk, List.append_nil]
      have hk' : ¬ (m = 0 ∨ zs.getD m 0 ≠ zs.getD (m - 1) 0) := by
        intro h
        apply hk
        rw [Lib.keeps, hd m (by omega), hd (m - 1) (by omega)]
        exact decide_eq_true h
      refine ⟨h1, fun x => ?_⟩
      rw [h2 x]
      constructor
      · rintro ⟨j, hj, e⟩; exact ⟨j, by omega, e⟩
      · rintro ⟨j, hj, e⟩
        by_cases ej : j = m
        · subst ej
          refine ⟨j - 1, by omega, ?_⟩
          rw [← e]
          exact (Classical.not_not.1 fun c => hk' (.inr c)).symm
        · exact ⟨j, by omega, e⟩
theorem mem_getD {zs : List Int} {x : Int} : (∃ j, j < zs.length ∧ zs.getD j 0 = x) ↔ x ∈ zs := by
  constructor
  · rintro ⟨j, hj, rfl⟩
    rw [List.getD, List.getElem?_eq_getElem hj]
    exact List.getElem_mem hj
  · intro h
    obtain ⟨j, hj, rfl⟩ := List.getElem_of_mem h
    exact ⟨j, hj, by simp [List.getD, List.getElem?_eq_getElem hj]⟩
abbrev srt (zs : List Int) : List Int := zs.mergeSort fun x y => decide (x ≤ y)
theorem srt_perm (zs : List Int) : (srt zs).Perm zs := List.mergeSort_perm _ _
theorem srt_length (zs : List Int) : (srt zs).length = zs.length := (srt_perm zs).length_eq
theorem srt_sorted (zs : List Int) : (srt zs).Pairwise (· ≤ ·) := by
  have := List.pairwise_mergeSort (le := fun x y : Int => decide (x ≤ y)) (fun a b c h1 h2 => by simp at *; omega) (fun a b => by simp; omega) zs
  refine List.pairwise_iff_getElem.2 fun i j hi hj hij => ?_
  have h := (List.pairwise_iff_getElem.1 this) i j hi hj hij
  simpa using h
theorem compact_srt (zs : List Int) : Lib.compact (srt zs) = diffS zs := by
  obtain ⟨h1, h2⟩ := compact_up (srt zs) (srt_sorted zs) _ (Nat.le_refl _)
  refine diffS_eq h1 fun x => ?_
  have := h2 x
  rw [mem_getD] at this
  exact this.trans (srt_perm zs).mem_iff
set_option maxHeartbeats 1000000 in
set_option maxRecDepth 100000 in
theorem collect_is (Bs : Nat) (p : Option Addr) (m c : Nat) (zs : List Int) (w : World) (hreach : m + 80 ≤ 17592186044416) (hBs : Bs < w.heap.size) (hc : w.cell? ⟨Bs, 0, none⟩ = some (.slice p m c)) (hI : IIn w p m zs) :
    Calls Tryz.prog 122 #[seqV Bs] w fun e' w' => ∃ v, e' = .returned v ∧ w'.ownsRow w.heap.size 3 1 v zs.length (I64 zs) ∧ Below w.heap.size w w' := by
  go_enter Tryz.func122, Tryz.ntmps122
  go_wp2_with fail
  refine (appendSeq_is Bs p m c zs w hreach hBs hc hI).mono ?_
  rintro e w' ⟨v, rfl, ho, hb⟩
  have HO : Hid (w'.ownsRow w.heap.size 3 1 v zs.length (I64 zs) ∧ Below w.heap.size w w') := ⟨ho, hb⟩
  clear ho hb hc hI
  go_wp2
  go_ret
  exact ⟨v, rfl, HO.out.1, HO.out.2⟩
set_option maxHeartbeats 1000000 in
set_option maxRecDepth 100000 in
theorem sorted_is (Bs : Nat) (p : Option Addr) (m c : Nat) (zs : List Int) (w : World) (hreach : m + 80 ≤ 17592186044416) (hBs : Bs < w.heap.size) (hc : w.cell? ⟨Bs, 0, none⟩ = some (.slice p m c)) (hI : IIn w p m zs) :
    Calls Tryz.prog 96 #[seqV Bs] w fun e' w' => ∃ v, e' = .returned v ∧ w'.ownsRow w.heap.size 3 1 v zs.length (I64 (srt zs)) ∧ Below w.heap.size w w' := by
  have hl := hI.len
  go_enter Tryz.func96, Tryz.ntmps96
  go_wp2_with fail
  refine (collect_is Bs p m c zs w hreach hBs hc hI).mono ?_
  rintro e w1 ⟨v, rfl, ho, hb⟩
  clear hc hI
  rcases ho.2 with ⟨rfl, h0⟩ | ⟨g, cap, cur, rfl, hbase, hg, r1, r2, r3, r4⟩
  · obtain rfl : zs = [] := List.eq_nil_of_length_eq_zero h0
    have HO : Hid (w1.ownsRow w.heap.size 3 1 (.slice none 0 0) 0 (I64 []) ∧ Below w.heap.size w w1) := ⟨ho, hb⟩
    clear ho hb h0
    go_wp2_with fail
    refine (slices_Sort_int_none none 0 w1).mono ?_
    rintro e w2 ⟨rfl, rfl⟩
    go_wp2
    go_ret
    exact ⟨_, rfl, by simpa using HO.out.1, HO.out.2⟩
  · have hH : Sort.Holds (Value.int .i64) w1 g 0 zs.toArray := holds_of_blockI hg (by simpa [I64] using r4)
    have hgl : g < w1.heap.size := (Array.getElem?_eq_some_iff.1 hg).1
    have HR : Hid (∀ n os, (Sort.grow (Sort.putRow (Value.int .i64) (Sort.ahead w1 n) g 0 (srt zs).toArray) os).ownsRow w.heap.size 3 1 (.slice (some ⟨g, 0, none⟩) zs.length cap) zs.length (I64 (srt zs)) ∧ Below w.heap.size w (Sort.grow (Sort.putRow (Value.int .i64) (Sort.ahead w1 n) g 0 (srt zs).toArray) os)) := fun n os =>
      ⟨ownsRow_sortedI (srt_length zs) hbase hg r1 r2 r3, hb.grown (grownBy_sortedI _) hb.size (fun j hj => by cases hj; exact hbase)⟩
    have HS := slices_Sort_int g 0 cap zs w1 hH hgl (by omega)
    clear ho hb hH hgl hg r1 r2 r3 r4 hbase hl hreach
    go_wp2_with fail
    refine HS.mono ?_
    rintro e w2 ⟨rfl, n, os, hw2⟩
    have HR2 := HR.out n os
    rw [← hw2] at HR2
    have HR3 : Hid (w2.ownsRow w.heap.size 3 1 (.slice (some ⟨g, 0, none⟩) zs.length cap) zs.length (I64 (srt zs)) ∧ Below w.heap.size w w2) := HR2
    clear HR HR2 hw2 HS
    go_wp2
    go_ret
    exact ⟨_, rfl, HR3.out.1, HR3.out.2⟩
set_option maxHeartbeats 1000000 in
set_option maxRecDepth 100000 in
/-- the different numbers of a list, rising, in new memory -/
theorem different_is (p : Option Addr) (m c : Nat) (zs : List Int) (w : World) (hreach : m + 80 ≤ 17592186044416) (hI : IIn w p m zs) :
    Calls Tryz.prog 80 #[.slice p m c] w fun e' w' => ∃ q d, e' = .returned (.slice q (diffS zs).length d) ∧ Made w w' q (diffS zs).length d (diffS zs) := by
  have hlz := hI.len
  go_enter Tryz.func80, Tryz.ntmps80
  go_wp2_with fail
  refine (values_is p m c w).mono ?_
  rintro e w1 ⟨rfl, hw1⟩
  have hb1 : Below w.heap.size w w1 := by rw [hw1]; exact below_alloc w _
  have hs1 : w.heap.size < w1.heap.size := by rw [hw1]; simp
  have hc1 : w1.cell? ⟨w.heap.size, 0, none⟩ = some (.slice p m c) := by rw [hw1, cell_of_row _ w.heap.size 0 _ 72 (0, 0) (heap_alloc_new w _)]; rfl
  clear hw1
  go_wp2_with fail
  refine (sorted_is w.heap.size p m c zs w1 hreach hs1 hc1 (hI.later hb1)).mono ?_
  rintro e w2 ⟨v, rfl, ho, hb⟩
  have hb2 : Below w.heap.size w w2 := below_then hb1 hb
  have ho2 := own_mono ho (Nat.le_of_lt hs1)
  clear hb1 hs1 hc1 ho hb hI
  have hlen : (Lib.compact (srt zs)).length ≤ zs.length := by have := Lib.compact_length_le (srt zs); rwa [srt_length] at this
  rcases ho2.2 with ⟨rfl, h0⟩ | ⟨g, cap, cur, rfl, hbase, hg, r1, r2, r3, r4⟩
  · obtain rfl : zs = [] := List.eq_nil_of_length_eq_zero h0
    have HB : Hid (Below w.heap.size w w2) := hb2
    clear ho2 hb2 h0 hlen hlz
    go_wp2_with fail
    refine (slices_Compact_int_empty none 0 w2).mono ?_
    rintro e w3 ⟨rfl, rfl⟩
    go_wp2
    go_ret
    exact ⟨none, 0, rfl, made_nil w HB.out⟩
  · have hH : Sort.Holds (Value.int .i64) w2 g 0 (srt zs).toArray := holds_of_blockI hg (by simpa [I64, srt_length] using r4)
    have HS := slices_Compact_int g 0 cap (srt zs) w2 hH (by rw [srt_length]; omega) (by rw [srt_length]; exact r1)
    rw [srt_length, compact_srt] at HS
    have HR : Hid (∀ q, Made w (Sort.putRow (Value.int .i64) (Sort.ahead w2 q) g 0 (diffS zs ++ List.replicate (zs.length - (diffS zs).length) 0).toArray) (some ⟨g, 0, none⟩) (diffS zs).length cap (diffS zs)) := fun q => by
      have hld := diffS_length zs
      have h1 := Lib.ownsRow_putRow (q := q) (k := (diffS zs).length) (ys := diffS zs ++ List.replicate (zs.length - (diffS zs).length) 0) ho2 (by simp; omega) hld
      rw [List.take_left] at h1
      exact ⟨h1, Lib.below_putRow hb2 hbase⟩
    clear ho2 hb2 hH hg r1 r2 r3 r4 hbase hlen hlz hreach
    go_wp2_with fail
    refine HS.mono ?_
    rintro e w3 ⟨rfl, q, hw3⟩
    have HR2 := HR.out q
    rw [← hw3] at HR2
    have HR3 : Hid (Made w w3 (some ⟨g, 0, none⟩) (diffS zs).length cap (diffS zs)) := HR2
    clear HR HR2 hw3 HS
    go_wp2
    go_ret
    exact ⟨_, _, rfl, HR3.out⟩
end Go.Proofs.YtkgjmejpbklabaaGreat.B
namespace Go.Proofs.YtkgjmejpbklabaaGreat.B
open Go.RowKit
set_option maxHeartbeats 1000000 in
set_option maxRecDepth 100000 in
/-- Form -/
theorem form_is (p : Option Addr) (n c : Nat) (xs : List Int) (b m : Int) (F : List Int) (E : Int) (hF : formS xs b m = (F, E)) (w : World) (hreach : n + 80 ≤ 17592186044416) (hI : IIn w p n xs) :
    Calls Tryz.prog 46 #[.slice p n c, .int .i64 b, .int .i64 m] w fun e' w' => ∃ q d, e' = .returned (.tuple #[.slice q F.length d, .int .i64 E]) ∧ Made w w' q F.length d F := by
  have hlen := hI.len
  go_enter Tryz.func46, Tryz.ntmps46
  go_wp2_with fail
  refine (may_is b m w).mono ?_
  rintro e w1 ⟨rfl, rfl⟩
  cases h1 : mayS b m with
  | false =>
    unfold formS at hF
    rw [if_pos h1] at hF
    simp only [Prod.mk.injEq] at hF
    obtain ⟨rfl, rfl⟩ := hF
    clear hI
    go_wp2
    go_ret2
    exact ⟨none, 0, rfl, made_nil w (Below.refl _ _)⟩
  | true =>
    by_cases h0 : n = 0
    · subst h0
      obtain rfl : xs = [] := List.eq_nil_of_length_eq_zero hlen
      unfold formS at hF
      rw [if_neg (by rw [h1]; decide), if_pos rfl] at hF
      simp only [Prod.mk.injEq] at hF
      obtain ⟨rfl, rfl⟩ := hF
      clear hI
      go_wp2
      go_ret2
      exact ⟨none, 0, rfl, made_nil w (Below.refl _ _)⟩
    · have hne : xs ≠ [] := fun e => h0 (by rw [← hlen, e]; rfl)
      have hz : ((n : Int) == 0) = false := by simpa using h0
      go_wp2_with fail
      refine (below_is p n c xs b w hI (by omega)).mono ?_
      rintro e w1 ⟨rfl, rfl⟩
      clear hz
      cases h2 : belS xs b with
      | false =>
        unfold formS at hF
        rw [if_neg (by rw [h1]; decide), if_neg hne, if_pos h2] at hF
        simp only [Prod.mk.injEq] at hF
        obtain ⟨rfl, rfl⟩ := hF
        clear hI
        go_wp2
        go_ret2
        exact ⟨none, 0, rfl, made_nil w (Below.refl _ _)⟩
      | true =>
        go_wp2_with fail
        refine (different_is p n c xs w hreach hI).mono ?_
        rintro e w1 ⟨q, d, rfl, hM⟩
        have HM : Hid (Made w w1 q (diffS xs).length d (diffS xs)) := hM
        unfold formS at hF
        rw [if_neg (by rw [h1]; decide), if_neg hne, if_neg (by rw [h2]; decide)] at hF
        have hmay : 1 ≤ m := by have := of_decide_eq_true h1; omega
        clear hM hI hne h1 h2
        by_cases h3 : m < ((diffS xs).length : Int)
        · rw [if_pos h3] at hF
          simp only [Prod.mk.injEq] at hF
          obtain ⟨rfl, rfl⟩ := hF
          go_wp2
          go_ret2
          exact ⟨none, 0, rfl, made_nil w HM.out.below⟩
        · rw [if_neg h3] at hF
          simp only [Prod.mk.injEq] at hF
          obtain ⟨rfl, rfl⟩ := hF
          go_wp2
          go_ret2
          exact ⟨q, d, rfl, HM.out⟩
end Go.Proofs.YtkgjmejpbklabaaGreat.B
namespace Go.Proofs.YtkgjmejpbklabaaGreat
end Go.Proofs.YtkgjmejpbklabaaGreat
