/-
  Layer 11: a queue of one's own; awake; TicketNone.
-/
import Derived.Test.YtmmmgknlbkckdaaTh
namespace Go.Proofs.Ytmmmgknlbkckdaa
open Go.RowKit


/-- a queue of one's own, in memory made since w0; nothing that lay then has turned -/
structure OQ (w0 w : World) (Q : Nat) (v : Value) (xs : List Int) (m : Int) : Prop where
  at' : QAt 28 w Q v xs m
  lo : w0.heap.size ≤ Q
  row : ∀ g, blk v = some g → w0.heap.size ≤ g
  below : Below w0.heap.size w0 w
variable {w0 w : World} {Q : Nat} {v : Value} {xs : List Int} {m : Int}
theorem OQ.later {w' : World} (h : OQ w0 w Q v xs m) (hb : Below w.heap.size w w') : OQ w0 w' Q v xs m := ⟨h.at'.later hb, h.lo, h.row, h.below.trans (hb.mono h.below.size)⟩
theorem OQ.stands (h : OQ w0 w Q v xs m) : Stands w (some ⟨Q, 0, none⟩) xs := .inr ⟨Q, v, m, rfl, h.at'⟩
theorem OQ.new (w : World) : OQ w (w.alloc (.cells #[.slice none 0 0, .int .u64 0] 28)) w.heap.size (.slice none 0 0) [] 0 := ⟨QAt.new w 28 (Row.empty w), Nat.le_refl _, (fun g e => by cases e), below_alloc w _⟩
theorem OQ.turn {w' : World} {v' : Value} {ys : List Int} {m' : Int} (h : OQ w0 w Q v xs m) (hq : QAt 28 w' Q v' ys m') (hk : Kept (fun b => b = Q ∨ blk v = some b) w w') (hv : blk v' = blk v ∨ ∃ g, blk v' = some g ∧ w.heap.size ≤ g) : OQ w0 w' Q v' ys m' := by
  refine ⟨hq, h.lo, fun g hg => ?_, hk.into h.below (fun b hb e => ?_) (Nat.le_refl _)⟩
  · rcases hv with e | ⟨g', e, hg'⟩
    · rw [e] at hg; exact h.row g hg
    · rw [e] at hg; cases hg; have := h.below.size; omega
  · rcases e with e | e
    · have := h.lo; omega
    · have := h.row b e; omega
theorem oput_low (h : OQ w0 w Q v xs m) (t : Int) (ht : t ≤ m) : Calls Try.prog 7 #[qp Q, .int .u64 t] w fun e w' => e = .returned (.int .i64 110) ∧ w = w' := put_low h.at' t ht
theorem oput_high (h : OQ w0 w Q v xs m) (t : Int) (ht : ¬ t ≤ m) (hn : xs.length < 100000) : Calls Try.prog 7 #[qp Q, .int .u64 t] w fun e w' => e = .returned (.int .i64 0) ∧ ∃ v', OQ w0 w' Q v' (xs ++ [t]) t := by
  refine (put_high h.at' t ht hn).mono ?_
  rintro e w' ⟨rfl, v', h1, h2, h3⟩
  exact ⟨rfl, v', h.turn h1 h2 h3⟩
theorem otake_some {x : Int} (h : OQ w0 w Q v (x :: xs) m) (hn : (x :: xs).length ≤ 100000) : Calls Try.prog 8 #[qp Q] w fun e w' => e = .returned (.tuple #[.int .u64 x, .bool true]) ∧ ∃ v', OQ w0 w' Q v' xs m ∧ Kept (fun b => b = Q ∨ blk v = some b) w w' := by
  refine (take_some h.at' hn).mono ?_
  rintro e w' ⟨rfl, v', h1, h2, h3⟩
  exact ⟨rfl, v', h.turn h1 h3 (.inl h2), h3⟩
/-- listed: as it is read -/
theorem olisted (p : Option Addr) (most : Int) (zs : List Int) (w : World) (hS : Stands w p zs) (hn : zs.length ≤ 10000) : Calls Try.prog 9 #[.pointer p, .int .i64 most] w fun e' w' => ∃ q c, e' = .returned (.tuple #[.slice q (firsts most zs).length c, .bool true]) ∧ UIn w' q (firsts most zs).length (firsts most zs) ∧ (∀ a, q = some a → w.heap.size ≤ a.block) ∧ Below w.heap.size w w' := by
  refine (listed_any p most zs w hS hn).mono ?_
  rintro e w' ⟨v, rfl, hr, hb⟩
  have h2 := Row.own hr
  obtain ⟨q, c, rfl, hI, _⟩ := h2.1.form
  exact ⟨q, c, rfl, hI, fun a e => h2.2 _ (by rw [e]; rfl), hb⟩
theorem UIn.far {w w' : World} {p : Option Addr} {n : Nat} {xs : List Int} {S : Nat → Prop} (h : UIn w p n xs) (hk : Kept S w w') (hS : ∀ a, p = some a → ¬ S a.block) : UIn w' p n xs := by
  refine ⟨h.len, fun h0 => ?_⟩
  obtain ⟨b, o, rfl, hc⟩ := h.cells h0
  refine ⟨b, o, rfl, fun i hi => ?_⟩
  rw [World.cell?_of_block (w := w) (a := ⟨b, o + i, none⟩) (hk.block b (h.lt h0) (hS _ rfl))]
  exact hc i hi
theorem lit_in (w : World) (xs : List Int) (n : Nat) (hl : xs.length = n) : UIn (w.alloc (.cells (V64 xs).toArray 26)) (some ⟨w.heap.size, 0, none⟩) n xs := by
  refine ⟨hl, fun h0 => ⟨_, 0, rfl, fun i hi => ?_⟩⟩
  rw [Nat.zero_add, cell_of_row _ w.heap.size i (V64 xs).toArray 26 (0, 0) (heap_alloc_new w _)]
  simp [V64, List.getD, List.getElem?_eq_getElem (show i < xs.length by omega)]

set_option maxHeartbeats 1000000 in
set_option maxRecDepth 100000 in
theorem awake_any (w : World) : Calls Try.prog 6 #[] w fun e w' => e = .returned (.bool true) ∧ Below w.heap.size w w' := by
  obtain ⟨wa, hwa⟩ : ∃ x, x = w.alloc (.cells #[.slice none 0 0, .int .u64 0] 28) := ⟨_, rfl⟩
  have Q0 : Hid (OQ w wa w.heap.size (.slice none 0 0) [] 0) := by rw [hwa]; exact OQ.new w
  have ew := hwa.symm
  clear hwa
  go_enter Try.func6, Try.ntmps6
  go_wp2_with fail
  refine (oput_high Q0.out 3 (by decide) (by decide)).mono ?_
  rintro e w1 ⟨rfl, v1, q1⟩
  have Q1 : Hid (OQ w w1 w.heap.size v1 [3] 3) := q1
  clear q1 ew
  go_wp2_with fail
  refine (oput_high Q1.out 7 (by decide) (by decide)).mono ?_
  rintro e w2 ⟨rfl, v2, q2⟩
  have Q2 : Hid (OQ w w2 w.heap.size v2 [3, 7] 7) := q2
  clear q2
  go_wp2_with fail
  refine (oput_high Q2.out 9 (by decide) (by decide)).mono ?_
  rintro e w3 ⟨rfl, v3, q3⟩
  have Q3 : Hid (OQ w w3 w.heap.size v3 [3, 7, 9] 9) := q3
  clear q3
  go_wp2_with fail
  refine (oput_low Q3.out 4 (by decide)).mono ?_
  rintro e w3' ⟨rfl, rfl⟩
  go_wp2_with fail
  refine (olisted _ (-1) [3, 7, 9] w3 Q3.out.stands (by decide)).mono ?_
  rintro e w4 ⟨q, c, rfl, hI, hq, hb⟩
  rw [firsts_all] at hI
  have hl3 : (firsts (-1) [3, 7, 9]).length = 3 := rfl
  have I4 : Hid (UIn w4 q 3 [3, 7, 9] ∧ ∀ a, q = some a → w3.heap.size ≤ a.block) := ⟨hI, hq⟩
  have Q4 : Hid (OQ w w4 w.heap.size v3 [3, 7, 9] 9) := Q3.out.later hb
  clear hI hq hb
  rw [hl3]
  clear hl3
  go_wp2_with fail
  refine (otake_some Q4.out (by decide)).mono ?_
  rintro e w5 ⟨rfl, v5, q5, k5⟩
  have Q5 : Hid (OQ w w5 w.heap.size v5 [7, 9] 9) := q5
  have I5 : Hid (UIn w5 q 3 [3, 7, 9]) := I4.out.1.far k5 (fun a e s => by
    have h1 := I4.out.2 a e
    rcases s with s | s
    · have := Q3.out.at'.lt; omega
    · have := Q3.out.at'.row.lt s; omega)
  clear q5 k5
  go_wp2_with fail
  refine (same_any _ _ 3 c 3 3 [3, 7, 9] [3, 7, 9] _ (I5.out.later (below_alloc w5 _)) (lit_in w5 [3, 7, 9] 3 rfl) (by decide)).mono ?_
  rintro e w6 ⟨rfl, b6⟩
  have Q6 : Hid (OQ w w6 w.heap.size v5 [7, 9] 9) := (Q5.out.later (below_alloc w5 _)).later b6
  clear b6
  go_wp2_with fail
  refine (place_any _ 9 [7, 9] w6 Q6.out.stands (by decide)).mono ?_
  rw [show place [7, 9] 9 = 1 by decide]
  rintro e w7 ⟨rfl, b7⟩
  have Q7 : Hid (OQ w w7 w.heap.size v5 [7, 9] 9) := Q6.out.later b7
  clear b7
  go_wp2_with fail
  go_ret
  exact ⟨rfl, Q7.out.below⟩

theorem Stands.nil (w : World) : Stands w none [] := .inl ⟨rfl, rfl⟩
set_option maxHeartbeats 1000000 in
set_option maxRecDepth 100000 in
theorem ticketNone_any (w : World) : Calls Try.prog 4 #[] w fun e w' => e = .returned (.bool true) ∧ Below w.heap.size w w' := by
  go_enter Try.func4, Try.ntmps4
  go_wp2_with fail
  refine (olisted none (-1) [] w (Stands.nil w) (by decide)).mono ?_
  rintro e w1 ⟨q, c, rfl, _, _, hb⟩
  have hl3 : (firsts (-1) []).length = 0 := rfl
  have B1 : Hid (Below w.heap.size w w1) := hb
  clear hb
  rw [hl3]
  clear hl3
  go_wp2_with fail
  refine (first_nil w1).mono ?_
  rintro e w1' ⟨rfl, rfl⟩
  go_wp2_with fail
  refine (take_nil w1).mono ?_
  rintro e w1' ⟨rfl, rfl⟩
  go_wp2_with fail
  refine (put_nil 1 w1).mono ?_
  rintro e w1' ⟨rfl, rfl⟩
  go_wp2_with fail
  refine (drop_nil 1 w1).mono ?_
  rintro e w1' ⟨rfl, rfl⟩
  go_wp2_with fail
  refine (len_nil w1).mono ?_
  rintro e w1' ⟨rfl, rfl⟩
  go_wp2_with fail
  refine (place_any none 1 [] w1 (Stands.nil w1) (by decide)).mono ?_
  rw [show place [] 1 = -1 by decide]
  rintro e w2 ⟨rfl, b2⟩
  have B2 : Hid (Below w.heap.size w w2) := below_then B1.out b2
  clear b2
  go_wp2_with fail
  refine (copy_nil w2).mono ?_
  rintro e w2' ⟨rfl, rfl⟩
  go_wp2_with fail
  refine (awake_any w2).mono ?_
  rintro e w3 ⟨rfl, b3⟩
  have B3 : Hid (Below w.heap.size w w3) := below_then B2.out b3
  clear b3
  go_wp2_with fail
  go_ret
  exact ⟨rfl, B3.out⟩
end Go.Proofs.Ytmmmgknlbkckdaa
