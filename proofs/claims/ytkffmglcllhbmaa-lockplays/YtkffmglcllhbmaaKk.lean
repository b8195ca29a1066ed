/-
  Layer 14: append to rows of ones own; blocksOf, set.
-/
import Derived.Test.YtkffmglcllhbmaaKj
import Derived.Test.YtkffmglcllhbmaaLn
namespace Go.Proofs.Ytkffmglcllhbmaa
open Go.RowKit


theorem own_shape {w : World} {base : Nat} {e : TypeId} {size : Nat} {v : Value} {n : Nat} {xs : List Value} (h : w.ownsRow base e size v n xs) : ∃ p c, v = .slice p n c ∧ n ≤ c ∧ (p = none → c = 0) ∧ (∀ g, blk v = some g → base ≤ g ∧ g < w.heap.size ∧ kd w g = e) ∧ ∀ g, v.ownBlock = some g ↔ blk v = some g := by
  rcases h.2 with ⟨rfl, rfl⟩ | ⟨g, cap, cur, rfl, h1, hg, hnc, _⟩
  · exact ⟨none, 0, rfl, Nat.le_refl _, fun _ => rfl, fun g e => (by cases e), fun g => ⟨fun e => (by cases e), fun e => (by cases e)⟩⟩
  · refine ⟨_, cap, rfl, hnc, (fun e => by cases e), fun g' e => ?_, fun g' => Iff.rfl⟩
    cases e
    exact ⟨h1, (Array.getElem?_eq_some_iff.1 hg).1, kd_cells hg⟩
/-- append, onto a row of ours -/
theorem wpList_app {P : Program} {w : World} {ops : Array Oper} {rest : List Oper} {o : Oper} {a : Act} {Q : Exit → Act → World → Prop} (hgd : o.guard = none) (s x : Operand) (t : TypeId)
    (ho : o.op = .call { callee := .builtin .append, args := #[s, x], argTypes := #[t, t] })
    (e : TypeId) (i : TypeInfo) (z : Value) (bytes : Nat) (ht : P.underlying t = some (.slice e)) (hi : P.info? e = some i) (hz : i.zero = some z) (hsize : i.size = 1) (hby : i.bytes = bytes) (hzs : z.cells.size = 1)
    (w0 : World) (hb : Below w0.heap.size w0 w) (v : Value) (xs : List Value) (hs : a.eval s = v) (hown : w.ownsRow w0.heap.size e 1 v xs.length xs)
    (p : Option Addr) (m c : Nat) (news : List Value) (hx : a.eval x = .slice p m c) (hp : p = none → c = 0) (hmc : m ≤ c) (hl : news.length = m) (hnews : ∀ ad, p = some ad → ∀ j u, news[j]? = some u → w.cell? (ad.add j) = some u) (h1 : ∀ u ∈ news, u.oneCell' = true)
    (h63 : xs.length + m ≤ maxLen) (hbytes : (xs.length + m) * bytes ≤ 140737488355328)
    (h : ∀ p2 c2 w2, w2.ownsRow w0.heap.size e 1 (.slice p2 (xs ++ news).length c2) (xs ++ news).length (xs ++ news) → Below w0.heap.size w0 w2 → Kept (fun b => blk v = some b) w w2 → wpList P ops Q rest (a.put o.dst (.slice p2 (xs ++ news).length c2)) w2) : wpList P ops Q (o :: rest) a w := by
  refine B.wpList_append_any w hgd s x t ho w0.heap.size e i z bytes ht hi hz hsize hby hzs v xs.length xs hs hown p m c news hx hp hmc hl hnews h1 h63 hbytes hb.size ?_
  intro v2 w2 r2 k2
  obtain ⟨p1, c1, rfl, _, _, hg1, hi1⟩ := own_shape hown
  have r2' : w2.ownsRow w0.heap.size e 1 v2 (xs ++ news).length (xs ++ news) := by rw [List.length_append, hl]; exact r2
  obtain ⟨p2, c2, rfl, _⟩ := own_shape r2'
  have hk : Kept (fun b => blk (.slice p1 xs.length c1) = some b) w w2 := ⟨k2.os, k2.tape, k2.output, k2.size, fun b hb' hn => k2.block b hb' fun e => hn ((hi1 b).1 e.symm)⟩
  exact h p2 c2 w2 r2' (hk.into hb (fun b hb' e => by have := (hg1 b e).1; omega) (Nat.le_refl _)) hk
theorem lit_own (w : World) (base : Nat) (hb : base ≤ w.heap.size) (cs : List Value) (e : TypeId) (hm : cs.length ≤ maxLen) : (w.alloc (.cells cs.toArray e)).ownsRow base e 1 (.slice (some ⟨w.heap.size, 0, none⟩) cs.length cs.length) cs.length cs := ⟨by simp, .inr ⟨w.heap.size, cs.length, cs.toArray, rfl, hb, heap_alloc_new w _, Nat.le_refl _, hm, by simp, by simp⟩⟩
theorem one_news {w : World} (u : Value) (ty : TypeId) : ∀ ad, some (⟨w.heap.size, 0, none⟩ : Addr) = some ad → ∀ j u', [u][j]? = some u' → (w.alloc (.cells #[u] ty)).cell? (ad.add j) = some u' := fun ad e j u' hj => by
  cases e
  match j with
  | 0 => simp at hj; subst hj; rw [Go.WideShapes.add_plain, cell_of_row _ w.heap.size (0 + 0) _ ty (0, 0) (heap_alloc_new w _)]; rfl
  | j + 1 => simp at hj
set_option maxHeartbeats 2000000 in
set_option maxRecDepth 100000 in
theorem blocksOf_any (n : Int) (w : World) : Calls Try.prog 8 #[.int .i64 n] w fun e w' => ∃ N : Nat, e = .returned (.int .i64 N) ∧ (1 ≤ N ∧ N ≤ 9) ∧ w = w' := by
  have h1 : -9 < n.tmod 9 ∧ n.tmod 9 < 9 := by have := Int.tmod_lt_of_pos n (show (0 : Int) < 9 by omega); have := Int.lt_tmod_of_pos n (show (0 : Int) < 9 by omega); omega
  have e1 : wrap64 (n.tmod 9 + 9) = n.tmod 9 + 9 := by unfold wrap64; omega
  have h2 : 0 ≤ (n.tmod 9 + 9).tmod 9 ∧ (n.tmod 9 + 9).tmod 9 < 9 := ⟨Int.tmod_nonneg _ (by omega), Int.tmod_lt_of_pos _ (by omega)⟩
  obtain ⟨N, hN⟩ : ∃ N : Nat, (n.tmod 9 + 9).tmod 9 = (N : Int) := ⟨((n.tmod 9 + 9).tmod 9).toNat, by omega⟩
  have e2 : wrap64 (1 + (n.tmod 9 + 9).tmod 9) = ((N + 1 : Nat) : Int) := by unfold wrap64; omega
  clear h1
  go_enter Try.func8, Try.ntmps8
  go_wp2
  go_ret
  exact ⟨N + 1, by show Ending.returned (.int .i64 (1 + (N : Int))) = _; rw [show (1 + (N : Int)) = ((N + 1 : Nat) : Int) by omega], by omega, rfl⟩
set_option maxHeartbeats 2000000 in
set_option maxRecDepth 100000 in
theorem set_any (x : Int) (hx : U64 x) (N : Nat) (h1 : 1 ≤ N) (h9 : N ≤ 9) (w : World) : Calls Try.prog 32 #[.int .u64 x, .int .i64 N] w fun e w' => ∃ p c s, e = .returned (.slice p s.length c) ∧ w'.ownsRow w.heap.size 3 1 (.slice p s.length c) s.length (B.I64 s) ∧ Below w.heap.size w w' ∧ s ≠ [] ∧ s.Pairwise (· < ·) ∧ (∀ b ∈ s, 0 ≤ b ∧ b < N) := by
  obtain ⟨i0, hi, hz0, hz1, hz2⟩ := info_parts B.info3
  have hml : 1000 ≤ maxLen := by decide
  go_enter Try.func32, Try.ntmps32
  go_wp2
  go_loopw [5, 6] (fun v i wr => ∃ (k : Nat) (l : List Int), k ≤ N ∧ i = .int .i64 k ∧ (∃ p c, v = .slice p l.length c) ∧ Hid (wr.ownsRow w.heap.size 3 1 v l.length (B.I64 l) ∧ Below w.heap.size w wr ∧ l.Pairwise (· < ·) ∧ (∀ b ∈ l, 0 ≤ b ∧ b < k) ∧ l.length ≤ k)) (fun _ i _ => N - (intOf i).toNat)
  case atStart => exact ⟨0, [], Nat.zero_le _, rfl, ⟨none, 0, rfl⟩, World.ownsRow_nil _ _ _ _, Below.refl _ _, List.Pairwise.nil, by simp, by simp⟩
  case round =>
    obtain ⟨k, l, hk, rfl, ⟨p, c, rfl⟩, HW⟩ := hrel
    by_cases hlt : k < N
    · have hk64 : (k : Int) < 64 := by omega
      cases hc : (bits BinOp.and .u64 (x / 2 ^ k) 1 == 1)
      · go_wp2
        go_roundw
        case rel => exact ⟨k + 1, l, by omega, by go_num, ⟨p, c, rfl⟩, HW.out.1, HW.out.2.1, HW.out.2.2.1, fun b hb => by have := HW.out.2.2.2.1 b hb; omega, by have := HW.out.2.2.2.2; omega⟩
        case measure => simp [intOf]; omega
      · have HOA : Hid ((wr.alloc (.cells #[.int .i64 k] 3)).ownsRow w.heap.size 3 1 (.slice p l.length c) (B.I64 l).length (B.I64 l)) := by rw [B.I64_length]; exact B.own_later HW.out.1 (below_alloc _ _)
        have hll := HW.out.2.2.2.2
        go_wp2_with (at_builtin; refine wpList_app rfl (.tmp 17) (.tmp 19) 37 rfl 3 i0 (.int .i64 0) 8 Try.underlying37 hi hz0 hz1 hz2 rfl w (below_then HW.out.2.1 (below_alloc _ _)) (.slice p l.length c) (B.I64 l) rfl HOA.out (some ⟨wr.heap.size, 0, none⟩) 1 1 [.int .i64 k] rfl (fun e => by cases e) (by decide) rfl (one_news _ _) (B.one_i64 _) (by rw [B.I64_length]; omega) (by rw [B.I64_length]; omega) ?_; intro p2 c2 w2 o2 b2 _; have H2 : Hid (w2.ownsRow w.heap.size 3 1 (.slice p2 (l ++ [(k : Int)]).length c2) (l ++ [(k : Int)]).length (B.I64 (l ++ [(k : Int)])) ∧ Below w.heap.size w w2) := ⟨(by simpa [B.I64] using o2), b2⟩; clear o2 b2)
        go_roundw
        case rel =>
          refine ⟨k + 1, l ++ [(k : Int)], by omega, by go_num, ⟨p2, c2, by simp⟩, by have := H2.out.1; simpa using this, H2.out.2, ?_, ?_, by simp; omega⟩
          · rw [List.pairwise_append]
            refine ⟨HW.out.2.2.1, List.pairwise_singleton _ _, fun y hy z hz => ?_⟩
            simp at hz; have := HW.out.2.2.2.1 y hy; omega
          · intro b hb
            rcases List.mem_append.1 hb with hb | hb
            · have := HW.out.2.2.2.1 b hb; omega
            · simp at hb; omega
        case measure => simp [intOf]; omega
    · obtain rfl : k = N := by omega
      by_cases hl : l = []
      · subst hl
        have hzz : (([] : List Int).length : Int) = 0 := rfl
        have HY : Hid (wrap64 (x.tmod k) = x.tmod k ∧ 0 ≤ x.tmod k ∧ x.tmod k < k) := by
          have h2 := u64_iff.1 hx
          have h3 := Int.tmod_nonneg (k : Int) h2.1
          have h4 := Int.tmod_lt_of_pos x (show (0 : Int) < k by omega)
          exact ⟨by unfold wrap64; omega, h3, h4⟩
        go_wp2
        go_ret
        refine ⟨some ⟨wr.heap.size, 0, none⟩, 1, [wrap64 (x.tmod k)], rfl, lit_own wr w.heap.size HW.out.2.1.size [.int .i64 (wrap64 (x.tmod k))] 3 (Nat.le_trans (show 1 ≤ 1000 by decide) hml), below_then HW.out.2.1 (below_alloc _ _), by simp, List.pairwise_singleton _ _, fun b hb => ?_⟩
        simp only [List.mem_singleton] at hb
        rw [hb, HY.out.1]
        exact HY.out.2
      · have hpos : 0 < l.length := List.length_pos_iff.2 hl
        have hz : ((l.length : Int) == 0) = false := by rw [beq_eq_false_iff_ne]; omega
        go_wp2
        go_ret
        exact ⟨p, c, l, rfl, HW.out.1, HW.out.2.1, hl, HW.out.2.2.1, HW.out.2.2.2.1⟩
end Go.Proofs.Ytkffmglcllhbmaa
