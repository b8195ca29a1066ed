/-
  Layer 5: the contracts as the statements call them; awake.
-/
import Derived.Test.YtcmcifihhlfnbaaEa
import Derived.Test.YtcmcifihhlfnbaaEb
namespace Go.Proofs.Ytcmcifihhlfnbaa
open Go.RowKit

theorem Made.from {w w' : World} {o : Obj} {p : Option Addr} {n c : Nat} {xs : List Int} (h : Made (w.alloc o) w' p n c xs) : Made w w' p n c xs := ⟨own_mono h.own (by simp), below_then (below_alloc w o) h.below⟩

/-- Same of the same numbers -/
theorem same_eq (p q : Option Addr) (n c m d : Nat) (xs : List Int) (w : World) (hx : IIn w p n xs) (hy : IIn w q m xs) (hn : n + 80 ≤ 17592186044416) :
    Calls Try.prog 12 #[.slice p n c, .slice q m d] w fun e w' => e = .returned (.bool true) ∧ Below w.heap.size w w' := by
  refine (same_is p q n c m d xs xs w hx hy (by omega)).mono ?_
  rintro e w' ⟨rfl, hb⟩
  exact ⟨by simp, hb⟩
theorem same_lit (p : Option Addr) (n c : Nat) (xs : List Int) (w : World) (hx : IIn w p n xs) (hn : n + 80 ≤ 17592186044416) :
    Calls Try.prog 12 #[.slice p n c, .slice (some ⟨w.heap.size, 0, none⟩) n n] (w.alloc (.cells (I64 xs).toArray 3)) fun e w' => e = .returned (.bool true) ∧ Below w.heap.size w w' := by
  refine (same_eq p _ n c n n xs _ (hx.later (below_alloc w _)) (lit_in w xs n hx.len) hn).mono ?_
  rintro e w' ⟨rfl, hb⟩
  exact ⟨rfl, below_then (below_alloc w _) hb⟩
theorem form_lit (xs : List Int) (n : Nat) (b m : Int) (F : List Int) (E : Int) (hl : xs.length = n) (hF : formS xs b m = (F, E)) (w : World) (hn : n + 80 ≤ 17592186044416) :
    Calls Try.prog 8 #[.slice (some ⟨w.heap.size, 0, none⟩) n n, .int .i64 b, .int .i64 m] (w.alloc (.cells (I64 xs).toArray 3)) fun e' w' => ∃ q d, e' = .returned (.tuple #[.slice q F.length d, .int .i64 E]) ∧ Made w w' q F.length d F := by
  refine (form_is _ n n xs b m F E hF _ hn (lit_in w xs n hl)).mono ?_
  rintro e w' ⟨q, d, rfl, hM⟩
  exact ⟨q, d, rfl, hM.from⟩
theorem next_lit (xs : List Int) (n : Nat) (d : Int) (x : Int) (ok : Bool) (hl : xs.length = n) (hx : nextS xs d = (x, ok)) (w : World) :
    Calls Try.prog 9 #[.slice (some ⟨w.heap.size, 0, none⟩) n n, .int .i64 d] (w.alloc (.cells (I64 xs).toArray 3)) fun e w' => e = .returned (.tuple #[.int .i64 x, .bool ok]) ∧ Below w.heap.size w w' := by
  refine (next_is _ n n xs d _ (lit_in w xs n hl)).mono ?_
  rintro e w' ⟨rfl, rfl⟩
  exact ⟨by rw [hx], below_alloc w _⟩
theorem is_lit (xs : List Int) (n : Nat) (ok : Bool) (hl : xs.length = n) (hx : isS xs = ok) (w : World) (hn : n + 80 ≤ 17592186044416) :
    Calls Try.prog 10 #[.slice (some ⟨w.heap.size, 0, none⟩) n n] (w.alloc (.cells (I64 xs).toArray 3)) fun e w' => e = .returned (.bool ok) ∧ Below w.heap.size w w' := by
  refine (is_is _ n n xs _ (lit_in w xs n hl) (Nat.le_refl _) (by omega)).mono ?_
  rintro e w' ⟨rfl, rfl⟩
  exact ⟨by rw [hx], below_alloc w _⟩
theorem has_lit (xs : List Int) (n : Nat) (b : Int) (ok : Bool) (hl : xs.length = n) (hx : hasS xs b = ok) (w : World) (hn : n + 80 ≤ 17592186044416) :
    Calls Try.prog 14 #[.slice (some ⟨w.heap.size, 0, none⟩) n n, .int .i64 b] (w.alloc (.cells (I64 xs).toArray 3)) fun e w' => e = .returned (.bool ok) ∧ Below w.heap.size w w' := by
  refine (has_is _ n n xs b _ (lit_in w xs n hl) (by omega)).mono ?_
  rintro e w' ⟨rfl, rfl⟩
  exact ⟨by rw [hx], below_alloc w _⟩
theorem both_lits (xs ys : List Int) (n m : Nat) (Z : List Int) (hl : xs.length = n) (hl2 : ys.length = m) (hZ : bothS xs ys = Z) (w : World) (hn : n + 80 ≤ 17592186044416) (hm : m + 80 ≤ 17592186044416) :
    Calls Try.prog 13 #[.slice (some ⟨w.heap.size, 0, none⟩) n n, .slice (some ⟨w.heap.size + 1, 0, none⟩) m m] ((w.alloc (.cells (I64 xs).toArray 3)).alloc (.cells (I64 ys).toArray 3)) fun e' w' => ∃ q d, e' = .returned (.slice q Z.length d) ∧ Made w w' q Z.length d Z := by
  have hy := lit_in (w.alloc (.cells (I64 xs).toArray 3)) ys m hl2
  rw [World.size_alloc] at hy
  refine (both_is _ _ n n m m xs ys _ hn hm ((lit_in w xs n hl).later (below_alloc _ _)) hy).mono ?_
  rintro e w' ⟨q, d, rfl, hM⟩
  rw [hZ] at hM ⊢
  exact ⟨q, d, rfl, hM.from.from⟩
/-- Both of a list and a literal -/
theorem both_lit (p : Option Addr) (n c : Nat) (xs ys : List Int) (m : Nat) (hl : ys.length = m) (w : World) (hx : IIn w p n xs) (hn : n + 80 ≤ 17592186044416) (hm : m + 80 ≤ 17592186044416) :
    Calls Try.prog 13 #[.slice p n c, .slice (some ⟨w.heap.size, 0, none⟩) m m] (w.alloc (.cells (I64 ys).toArray 3)) fun e' w' => ∃ q d, e' = .returned (.slice q (bothS xs ys).length d) ∧ Made w w' q (bothS xs ys).length d (bothS xs ys) := by
  refine (both_is p _ n c m m xs ys _ hn hm (hx.later (below_alloc _ _)) (lit_in w ys m hl)).mono ?_
  rintro e w' ⟨q, d, rfl, hM⟩
  exact ⟨q, d, rfl, hM.from⟩

set_option maxRecDepth 100000 in
set_option maxHeartbeats 4000000 in
theorem awake_is (w0 : World) : Calls Try.prog 7 #[] w0 fun e w' => e = .returned (.bool true) ∧ Below w0.heap.size w0 w' := by
  go_enter Try.func7, Try.ntmps7
  go_wp2_with fail
  refine (form_lit [3, 1, 3, 0] 4 4 3 [0, 1, 3] 0 rfl (by decide) w0 (by decide)).mono ?_
  rintro e w1 ⟨q1, d1, rfl, h1⟩
  have H1 : Hid (Made w0 w1 q1 3 d1 [0, 1, 3]) := h1
  have b1 : Below w0.heap.size w0 w1 := h1.below
  clear h1
  go_wp2_with fail
  refine (next_lit [0, 1, 3] 3 2 3 true rfl (by decide) w1).mono ?_
  rintro e w2 ⟨rfl, k2⟩
  have r2 := H1.out.read.later k2
  have b2 := below_then b1 k2
  clear H1 b1 k2
  go_wp2_with fail
  refine (same_lit q1 3 d1 [0, 1, 3] w2 r2 (by decide)).mono ?_
  rintro e w3 ⟨rfl, k3⟩
  have b3 := below_then b2 k3
  clear b2 k3 r2
  go_wp2_with fail
  refine (both_lits [5, 1, 5] [2, 5, 1] 3 3 [1, 5] rfl rfl (by decide) w3 (by decide) (by decide)).mono ?_
  rintro e w4 ⟨q4, d4, rfl, h4⟩
  have b4 := below_then b3 h4.below
  have r4 := h4.read
  clear b3 h4
  go_wp2_with fail
  refine (same_lit q4 2 d4 [1, 5] w4 r4 (by decide)).mono ?_
  rintro e w5 ⟨rfl, k5⟩
  have b5 := below_then b4 k5
  clear b4 k5 r4
  go_wp2_with fail
  refine (is_lit [0, 1, 3] 3 true rfl (by decide) w5 (by decide)).mono ?_
  rintro e w6 ⟨rfl, k6⟩
  have b6 := below_then b5 k6
  clear b5 k6
  go_wp2_with fail
  refine (is_lit [1, 1] 2 false rfl (by decide) w6 (by decide)).mono ?_
  rintro e w7 ⟨rfl, k7⟩
  have b7 := below_then b6 k7
  clear b6 k7
  go_wp2_with fail
  refine (has_lit [2] 1 2 true rfl (by decide) w7 (by decide)).mono ?_
  rintro e w8 ⟨rfl, k8⟩
  have b8 := below_then b7 k8
  clear b7 k8
  go_wp2_with fail
  refine (has_lit [2] 1 3 false rfl (by decide) w8 (by decide)).mono ?_
  rintro e w9 ⟨rfl, k9⟩
  have HB : Hid (Below w0.heap.size w0 w9) := below_then b8 k9
  clear b8 k9
  go_wp2
  go_ret
  exact ⟨rfl, HB.out⟩

end Go.Proofs.Ytcmcifihhlfnbaa
