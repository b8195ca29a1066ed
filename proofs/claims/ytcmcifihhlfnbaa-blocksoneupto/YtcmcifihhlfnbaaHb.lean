/-
  Layer 5: the contracts as the longer statements call them.
-/
import Derived.Test.YtcmcifihhlfnbaaHa
import Derived.Test.YtcmcifihhlfnbaaFa
import Derived.Test.YtcmcifihhlfnbaaFb
import Derived.Test.YtcmcifihhlfnbaaFc
import Derived.Test.YtcmcifihhlfnbaaNc
namespace Go.Proofs.Ytcmcifihhlfnbaa
open Go.RowKit

theorem both_x (p q : Option Addr) (n c m d : Nat) (xs ys Z : List Int) (hZ : bothS xs ys = Z) (w : World) (hx : IIn w p n xs) (hy : IIn w q m ys) (hn : n + 80 ≤ 17592186044416) (hm : m + 80 ≤ 17592186044416) :
    Calls Try.prog 13 #[.slice p n c, .slice q m d] w fun e' w' => ∃ r k, e' = .returned (.slice r Z.length k) ∧ Made w w' r Z.length k Z := by
  subst hZ
  exact both_is p q n c m d xs ys w hn hm hx hy
theorem rboth_x (p q : Option Addr) (n c m d : Nat) (xs ys Z : List Int) (hZ : bothS xs ys = Z) (w : World) (hx : IIn w p n xs) (hy : IIn w q m ys) (hn : n + 80 ≤ 17592186044416) (hm : m + 80 ≤ 17592186044416) :
    Calls Try.prog 20 #[.slice p n c, .slice q m d] w fun e' w' => ∃ r k, e' = .returned (.slice r Z.length k) ∧ Made w w' r Z.length k Z := by
  subst hZ
  exact rboth_is p q n c m d xs ys w hn hm hx hy
theorem next_x (p : Option Addr) (n c : Nat) (xs : List Int) (d x : Int) (ok : Bool) (hx : nextS xs d = (x, ok)) (w : World) (h : IIn w p n xs) :
    Calls Try.prog 9 #[.slice p n c, .int .i64 d] w fun e w' => e = .returned (.tuple #[.int .i64 x, .bool ok]) ∧ Below w.heap.size w w' := by
  refine (next_is p n c xs d w h).mono ?_
  rintro e w' ⟨rfl, rfl⟩
  exact ⟨by rw [hx], Below.refl _ _⟩
theorem rnext_x (p : Option Addr) (n c : Nat) (xs : List Int) (d x : Int) (ok : Bool) (hx : nextS xs d = (x, ok)) (w : World) (h : IIn w p n xs) :
    Calls Try.prog 21 #[.slice p n c, .int .i64 d] w fun e w' => e = .returned (.tuple #[.int .i64 x, .bool ok]) ∧ Below w.heap.size w w' := by
  refine (rnext_is p n c xs d w h).mono ?_
  rintro e w' ⟨rfl, rfl⟩
  exact ⟨by rw [hx], Below.refl _ _⟩
theorem is_x (p : Option Addr) (n c : Nat) (xs : List Int) (ok : Bool) (hx : isS xs = ok) (w : World) (h : IIn w p n xs) (hnc : n ≤ c) (hn : n + 80 ≤ 17592186044416) :
    Calls Try.prog 10 #[.slice p n c] w fun e w' => e = .returned (.bool ok) ∧ Below w.heap.size w w' := by
  refine (is_is p n c xs w h hnc (by omega)).mono ?_
  rintro e w' ⟨rfl, rfl⟩
  exact ⟨by rw [hx], Below.refl _ _⟩
theorem ris_x (p : Option Addr) (n c : Nat) (xs : List Int) (ok : Bool) (hx : isS xs = ok) (w : World) (h : IIn w p n xs) (hn : n + 80 ≤ 17592186044416) :
    Calls Try.prog 22 #[.slice p n c] w fun e w' => e = .returned (.bool ok) ∧ Below w.heap.size w w' := by
  refine (ris_is p n c xs w h (by omega)).mono ?_
  rintro e w' ⟨rfl, hb⟩
  exact ⟨by rw [hx], hb⟩
theorem has_x (p : Option Addr) (n c : Nat) (xs : List Int) (b : Int) (ok : Bool) (hx : hasS xs b = ok) (w : World) (h : IIn w p n xs) (hn : n + 80 ≤ 17592186044416) :
    Calls Try.prog 14 #[.slice p n c, .int .i64 b] w fun e w' => e = .returned (.bool ok) ∧ Below w.heap.size w w' := by
  refine (has_is p n c xs b w h (by omega)).mono ?_
  rintro e w' ⟨rfl, rfl⟩
  exact ⟨by rw [hx], Below.refl _ _⟩
theorem rhas_x (p : Option Addr) (n c : Nat) (xs : List Int) (b : Int) (ok : Bool) (hx : hasS xs b = ok) (w : World) (h : IIn w p n xs) (hn : n + 80 ≤ 17592186044416) :
    Calls Try.prog 23 #[.slice p n c, .int .i64 b] w fun e w' => e = .returned (.bool ok) ∧ Below w.heap.size w w' := by
  refine (rhas_is p n c xs b w h (by omega)).mono ?_
  rintro e w' ⟨rfl, rfl⟩
  exact ⟨by rw [hx], Below.refl _ _⟩
theorem both_lit_x (p : Option Addr) (n c : Nat) (xs ys Z : List Int) (m : Nat) (hl : ys.length = m) (hZ : bothS xs ys = Z) (w : World) (hx : IIn w p n xs) (hn : n + 80 ≤ 17592186044416) (hm : m + 80 ≤ 17592186044416) :
    Calls Try.prog 13 #[.slice p n c, .slice (some ⟨w.heap.size, 0, none⟩) m m] (w.alloc (.cells (I64 ys).toArray 3)) fun e' w' => ∃ q d, e' = .returned (.slice q Z.length d) ∧ Made w w' q Z.length d Z := by
  subst hZ
  exact both_lit p n c xs ys m hl w hx hn hm

/-- turn -/
theorem turn_x (B g n cap : Nat) (xs T : List Int) (hT : turnS xs = T) (w : World) (h : Room w B g n cap xs) (hn : n + 80 ≤ 17592186044416) :
    Calls Try.prog 11 #[.slice (some ⟨g, 0, none⟩) n cap] w fun e w' => e = .returned (.tuple #[]) ∧ Room w' B g n cap T ∧ w.grownBy w' (some g) := by
  subst hT
  refine (turn_is B g (n + 2) cap n cap xs [7777, 8888] w h.own h.len hn).mono ?_
  rintro e w' ⟨rfl, ho, hg⟩
  exact ⟨rfl, ⟨ho, (turnS_length xs).trans h.len, h.cap2⟩, hg⟩
theorem Room.turn {w w' : World} {B g gt n cap : Nat} {ss : List Int} (h : Room w B g n cap ss) (hg : w.grownBy w' (some gt)) (hne : gt ≠ g) : Room w' B g n cap ss :=
  ⟨h.own.kept hg (.inr fun e => hne (by simp only [Value.ownBlock, Option.some.injEq] at e; exact e.symm)), h.len, h.cap2⟩
theorem Made.seg {w w' : World} {p : Option Addr} {n c : Nat} {xs : List Int} (h : Made w w' p n c xs) (hn : n + 80 ≤ 17592186044416) : Seg w' w.heap.size w'.heap.size (p, n, c) := Seg.made h.own h.below hn
theorem Room.room {w : World} {B g n cap : Nat} {ss : List Int} (h : Room w B g n cap ss) : n ≤ cap := by have := h.cap2; omega

end Go.Proofs.Ytcmcifihhlfnbaa
