/-
  Layer 7, the program's functions, first part: within, Config, Check, numbers, put.
-/
import Derived.Test.YtefnkjajjidfaaaGreatDoorKa
import Derived.Laws.Small
import Derived.Laws.Cover1
namespace Go.Proofs.YtefnkjajjidfaaaGreatDoor
open Go.RowKit
set_option maxHeartbeats 400000 in
set_option maxRecDepth 100000 in
theorem within_any (n a b : Int) (w : World) :
    Calls Tryz.prog 65 #[.int .i64 n, .int .i64 a, .int .i64 b] w fun e w' => e = .returned (.bool (decide (a ≤ n ∧ n ≤ b))) ∧ w = w' := by
  go_enter Tryz.func65, Tryz.ntmps65
  go_wp2
  all_goals go_ret
  all_goals (refine ⟨?_, rfl⟩; simp; try omega)
theorem at_ops {P : Program} {ops : Array Oper} {rest : List Oper} {o : Oper} {a : Act} {w : World} {Q : Exit → Act → World → Prop} (h : wpList P ops Q (o :: rest) a w) : wpList P ops Q (o :: rest) a w := h
/-- 'min' of three numbers -/
theorem wpList_min3 {P : Program} {ops : Array Oper} {rest : List Oper} {o : Oper} {a : Act} {w : World} {Q : Exit → Act → World → Prop} (hgd : o.guard = none) (x y z : Operand) (t : TypeId)
    (ho : o.op = .call { callee := .builtin .min, args := #[x, y, z], argTypes := #[t, t, t] }) (p q r m : Int) (hx : a.eval x = .int .i64 p) (hy : a.eval y = .int .i64 q) (hz : a.eval z = .int .i64 r)
    (hm : (if r < (if q < p then q else p) then r else (if q < p then q else p)) = m) (h : wpList P ops Q rest (a.put o.dst (.int .i64 m)) w) : wpList P ops Q (o :: rest) a w := by
  refine wpList_plain hgd fun K hK => ?_
  subst hm
  unfold Oper.wp
  simp [execOp, ho, resolve, invoke, builtin, hx, hy, hz, run_min_int3, Result.andThen]
  exact hK _ _ h
theorem cfg_yes (s : Sup) (h : MayC s) : cfg s = 0 := if_pos h
theorem cfg_no (s : Sup) (h : ¬ MayC s) : cfg s = 3 := if_neg h
theorem top_min (s : Sup) : (s.mr ≤ mrTop s.bl s.lc) ↔ s.mr ≤ 16 ∧ s.mr ≤ s.bl ∧ s.mr ≤ s.lc - 1 := by
  unfold mrTop; split <;> split <;> omega
set_option maxHeartbeats 1000000 in
set_option maxRecDepth 100000 in
theorem config_any (s : Sup) (w : World) :
    Calls Tryz.prog 42 #[.agg (ccells s).toArray] w fun e w' => e = .returned (.int .i64 (cfg s)) ∧ Below w.heap.size w w' := by
  have hA : CAt (w.alloc (.cells (ccells s).toArray 23)) w.heap.size s := LAt.new 23 w (ccells s)
  have c0 := CAt.c0 hA
  have c1 := CAt.c1 hA
  have c2 := CAt.c2 hA
  have c3 := CAt.c3 hA
  have c4 := CAt.c4 hA
  have HB : Hid (Below w.heap.size w (w.alloc (.cells (ccells s).toArray 23))) := below_alloc w _
  clear hA
  go_enter Tryz.func42, Tryz.ntmps42
  have HC1 : Hid (MayC s → cfg s = 0) := cfg_yes s
  have HC0 : Hid (¬ MayC s → cfg s = 3) := cfg_no s
  go_wp2_with fail
  refine (within_any s.bl 1 64 _).mono ?_
  rintro e w1 ⟨rfl, rfl⟩
  by_cases h1 : 1 ≤ s.bl ∧ s.bl ≤ 64
  · rw [decide_eq_true h1]
    go_wp2_with fail
    refine (within_any s.lc 2 64 _).mono ?_
    rintro e w1 ⟨rfl, rfl⟩
    by_cases h2 : 2 ≤ s.lc ∧ s.lc ≤ 64
    · rw [decide_eq_true h2]
      have h2a := h2.1
      have h2b := h2.2
      go_wp2_with ((with_reducible refine at_ops ?_); refine wpList_min3 rfl _ _ _ _ rfl 16 s.bl (s.lc - 1) (mrTop s.bl s.lc) rfl rfl rfl rfl ?_; simp only [Act.put, List.setIfInBounds_toArray, List.set_cons_zero, List.set_cons_succ])
      refine (within_any s.mr 1 (mrTop s.bl s.lc) _).mono ?_
      rintro e w1 ⟨rfl, rfl⟩
      by_cases h3 : 1 ≤ s.mr ∧ s.mr ≤ mrTop s.bl s.lc
      · rw [decide_eq_true h3]
        go_wp2_with fail
        refine (within_any s.hi 1 s.lc _).mono ?_
        rintro e w1 ⟨rfl, rfl⟩
        by_cases h4 : 1 ≤ s.hi ∧ s.hi ≤ s.lc
        · rw [decide_eq_true h4]
          go_wp2_with fail
          refine (within_any s.cl 1 8 _).mono ?_
          rintro e w1 ⟨rfl, rfl⟩
          by_cases h5 : 1 ≤ s.cl ∧ s.cl ≤ 8
          · rw [decide_eq_true h5]
            have HE := HC1.out ⟨h1, h2, ⟨h3.1, (top_min s).1 h3.2⟩, h4, h5⟩
            go_wp2_with fail
            go_ret
            exact ⟨by rw [HE]; rfl, HB.out⟩
          · rw [decide_eq_false h5]
            have HE := HC0.out (fun h => h5 h.2.2.2.2)
            go_wp2_with fail
            go_ret
            exact ⟨by rw [HE]; rfl, HB.out⟩
        · rw [decide_eq_false h4]
          have HE := HC0.out (fun h => h4 h.2.2.2.1)
          go_wp2_with fail
          go_ret
          exact ⟨by rw [HE]; rfl, HB.out⟩
      · rw [decide_eq_false h3]
        have HE := HC0.out (fun h => h3 ⟨h.2.2.1.1, (top_min s).2 h.2.2.1.2⟩)
        go_wp2_with fail
        go_ret
        exact ⟨by rw [HE]; rfl, HB.out⟩
    · rw [decide_eq_false h2]
      have HE := HC0.out (fun h => h2 h.2.1)
      go_wp2_with fail
      go_ret
      exact ⟨by rw [HE]; rfl, HB.out⟩
  · rw [decide_eq_false h1]
    have HE := HC0.out (fun h => h1 h.1)
    go_wp2_with fail
    go_ret
    exact ⟨by rw [HE]; rfl, HB.out⟩
theorem chk_c (s : Sup) (h : ¬ MayC s) : chk s = 3 := by unfold chk; rw [if_neg h]
theorem chk_t (s : Sup) (h1 : MayC s) (h : ¬ MayT s) : chk s = 70 := by unfold chk; rw [if_pos h1, if_neg h]
set_option maxHeartbeats 1000000 in
set_option maxRecDepth 100000 in
theorem check_any (s : Sup) (w : World) :
    Calls Tryz.prog 50 #[.agg (scells s).toArray] w fun e w' => e = .returned (.int .i64 (chk s)) ∧ Below w.heap.size w w' := by
  have HA : Hid (SAt 81 (w.alloc (.cells (scells s).toArray 81)) w.heap.size s) := LAt.new 81 w (scells s)
  have L1 : Hid (_) := SAt.load23 HA.out
  have HB : Hid (Below w.heap.size w (w.alloc (.cells (scells s).toArray 81))) := below_alloc w _
  go_enter Tryz.func50, Tryz.ntmps50
  go_wp2_with (refine wpList_load_is (by rfl) 23 rfl rfl L1.out ?_)
  refine (config_any s _).mono ?_
  rintro e w1 ⟨rfl, b1⟩
  have HA1 : Hid (SAt 81 w1 w.heap.size s) := LAt.later HA.out b1
  have HB1 : Hid (Below w.heap.size w w1) := below_then HB.out b1
  have c5 := SAt.c5 HA1.out
  have c6 := SAt.c6 HA1.out
  clear b1 HA HB L1
  by_cases hc : MayC s
  · rw [cfg_yes s hc]
    by_cases ht : MayT s
    · have h1 := ht.1
      have h2 := ht.2.1
      have h3 := ht.2.2
      have HE : Hid (chk s = 0) := chk_yes s ⟨hc, ht⟩
      clear hc ht
      go_wp2
      go_ret
      exact ⟨by rw [HE.out]; rfl, HB1.out⟩
    · have HE : Hid (chk s = 70) := chk_t s hc ht
      have ht' : 4611686018427387904 < s.tail ∨ s.life < 1 ∨ 4611686018427387904 < s.life := by simp only [MayT] at ht; omega
      clear hc ht
      rcases ht' with h | h | h
      · go_wp2
        go_ret
        exact ⟨by rw [HE.out]; rfl, HB1.out⟩
      · go_wp2
        all_goals go_ret
        all_goals exact ⟨by rw [HE.out]; rfl, HB1.out⟩
      · go_wp2
        all_goals go_ret
        all_goals exact ⟨by rw [HE.out]; rfl, HB1.out⟩
  · rw [cfg_no s hc]
    have HE : Hid (chk s = 3) := chk_c s hc
    clear hc
    go_wp2_with fail
    go_ret
    exact ⟨by rw [HE.out]; rfl, HB1.out⟩
/-- what a call that makes a list of bytes hands back -/
structure Made (w w' : World) (p : Option Addr) (n c : Nat) (xs : List Int) : Prop where
  own : w'.ownsRow w.heap.size 5 1 (.slice p n c) n (U8 xs)
  read : BIn w' p n xs
  le : n ≤ c
  nil : p = none → c = 0
  below : Below w.heap.size w w'
theorem made_of {w w' : World} {v : Value} {n : Nat} {xs : List Int} (ho : w'.ownsRow w.heap.size 5 1 v n (U8 xs)) (hx : Bytes xs) (hb : Below w.heap.size w w') : ∃ p c, v = .slice p n c ∧ Made w w' p n c xs := by
  obtain ⟨p, c, rfl, h, hc, hp, _⟩ := own_in ho hx
  exact ⟨p, c, rfl, ⟨ho, h, hc, hp, hb⟩⟩
set_option maxHeartbeats 400000 in
set_option maxRecDepth 100000 in
theorem rput_any (n : Int) (k : Nat) (w : World) (hn0 : 0 ≤ n) (hk : 1 ≤ k ∧ k ≤ 8) (hn : n / 256 ^ k = 0) :
    Calls Tryz.prog 53 #[.int .u64 n, .int .i64 k] w fun e w' => ∃ p c, e = .returned (.slice p k c) ∧ Made w w' p k c (digits k n) := by
  go_enter Tryz.func53, Tryz.ntmps53
  go_wp2_with fail
  refine (put_ok n k w hn0 hk hn).mono ?_
  rintro e w1 ⟨v, rfl, ho, hb⟩
  obtain ⟨p, c, rfl, hm⟩ := made_of ho (digits_bytes k n) hb
  clear ho hb hn
  go_wp2_with fail
  go_ret
  exact ⟨p, c, rfl, hm⟩
end Go.Proofs.YtefnkjajjidfaaaGreatDoor
