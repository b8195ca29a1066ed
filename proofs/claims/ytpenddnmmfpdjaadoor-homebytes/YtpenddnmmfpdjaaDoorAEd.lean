/-
  Contracts as the statements on lists call them.
-/
import Derived.Test.YtpenddnmmfpdjaaDoorAEb
namespace Go.Proofs.YtpenddnmmfpdjaaDoor
open Go.RowKit
/-- a list with marked room behind it, in a block of its own from B on -/
structure RoomAt (w : World) (B g n cap : Nat) (xs : List Int) : Prop where
  own : w.ownsRow B 5 1 (.slice (some ⟨g, 0, none⟩) (n + 2) cap) (n + 2) (U8 (xs ++ [90, 165]))
  len : xs.length = n
  byte : Bytes xs
  cap2 : n + 2 ≤ cap
theorem RoomAt.later {w w' : World} {B g n cap : Nat} {xs : List Int} (h : RoomAt w B g n cap xs) (hb : Below w.heap.size w w') : RoomAt w' B g n cap xs := ⟨own_later h.own hb, h.len, h.byte, h.cap2⟩
theorem RoomAt.read {w : World} {B g n cap : Nat} {xs : List Int} (h : RoomAt w B g n cap xs) : BIn w (some ⟨g, 0, none⟩) n xs := (roomy_in h.own h.len h.byte).1
theorem RoomAt.at {w : World} {B g n cap : Nat} {xs : List Int} (h : RoomAt w B g n cap xs) : B ≤ g ∧ g < w.heap.size := h.own.lt g rfl
theorem roomy_x (p : Option Addr) (n c : Nat) (xs : List Int) (w : World) (h : BIn w p n xs) (hp : p = none → c = 0) (hnc : n ≤ c) (hbig : n + 80 ≤ 140737488355328) :
    Calls Tryd.prog 24 #[.slice p n c] w fun e w' => ∃ g cap, e = .returned (.slice (some ⟨g, 0, none⟩) n cap) ∧ RoomAt w' w.heap.size g n cap xs ∧ Below w.heap.size w w' := by
  refine (roomy_any p n c xs w h hp hnc hbig).mono ?_
  rintro e w' ⟨g, cap, rfl, ho, hc, hb⟩
  exact ⟨g, cap, rfl, ⟨ho, h.len, h.byte, hc⟩, hb⟩
theorem held_x (B g n cap d : Nat) (q : Option Addr) (xs : List Int) (w : World) (hr : RoomAt w B g n cap xs) (hbig : n + 80 ≤ 140737488355328) (hw : BIn w q n xs) :
    Calls Tryd.prog 25 #[.slice (some ⟨g, 0, none⟩) n cap, .slice q n d] w fun e w' => e = .returned (.bool true) ∧ Below w.heap.size w w' := by
  obtain ⟨h1, h2, h3⟩ := roomy_in hr.own hr.len hr.byte
  refine (held_any g n cap d q xs w h1 h2 h3 hr.cap2 hbig hw).mono ?_
  rintro e w' ⟨rfl, nq, rfl⟩
  exact ⟨rfl, below_drawn nq⟩
theorem turnA_room (xs : List Int) (n : Nat) (h : xs.length = n) : turnA n (xs ++ [90, 165]) = xs.map flip ++ [90, 165] := by
  subst h
  simp [turnA]
theorem turn_x (B g n cap : Nat) (xs : List Int) (w : World) (hr : RoomAt w B g n cap xs) (hbig : n + 80 ≤ 140737488355328) :
    Calls Tryd.prog 26 #[.slice (some ⟨g, 0, none⟩) n cap] w fun e w' => e = .returned (.tuple #[]) ∧ RoomAt w' B g n cap (xs.map flip) ∧ w.grownBy w' (some g) := by
  refine (turn_any B g n (n + 2) cap (xs ++ [90, 165]) w hr.own (by omega) (by omega)).mono ?_
  rintro e w' ⟨rfl, ho, hg⟩
  rw [turnA_room xs n hr.len] at ho
  refine ⟨rfl, ⟨ho, by rw [List.length_map, hr.len], fun x hx => ?_, hr.cap2⟩, hg⟩
  obtain ⟨y, hy, rfl⟩ := List.mem_map.1 hx
  exact flip_byte y (hr.byte y hy)
/-- what lies behind the block that is turned is as it was -/
theorem Seg.turn {w w' : World} {B T g : Nat} {r : Trip} (h : Seg w B T r) (hg : w.grownBy w' (some g)) (hlt : g < B) : Seg w' B T r := by
  obtain ⟨xs, hx⟩ := h.own
  refine ⟨⟨xs, hx.kept hg ?_⟩, h.lt, h.le, h.size⟩
  cases hv : (valA r).ownBlock with
  | none => left; rfl
  | some k =>
    right
    have := (hx.lt k hv).1
    intro e
    simp only [Option.some.injEq] at e
    omega
theorem own_x (p : Option Addr) (n c : Nat) (xs : List Int) (w : World) (h : BIn w p n xs) (hp : p = none → c = 0) (hnc : n ≤ c) (hbig : n + 80 ≤ 140737488355328) :
    Calls Tryd.prog 12 #[.slice p n c] w fun e w' => ∃ p' c', e = .returned (.slice p' n c') ∧ MadeA w w' p' n c' xs := by
  refine (own_any p n c xs w h hp hnc (by omega)).mono ?_
  rintro e w' ⟨v, rfl, ho, hb⟩
  obtain ⟨p', c', rfl, hm⟩ := made_ofA ho h.byte hb hbig
  exact ⟨p', c', rfl, hm⟩
theorem apart5 (w : World) (B : Nat) (p1 p2 p3 p4 p5 : Option Addr) (n1 n2 n3 n4 n5 c1 c2 c3 c4 c5 : Nat) (hB : B ≤ w.heap.size) (h : Chain w B [(p1, n1, c1), (p2, n2, c2), (p3, n3, c3), (p4, n4, c4), (p5, n5, c5)]) :
    Calls Tryd.prog 27 #[.slice (some ⟨w.heap.size, 0, none⟩) 5 5] (w.alloc (.cells #[.slice p1 n1 c1, .slice p2 n2 c2, .slice p3 n3 c3, .slice p4 n4 c4, .slice p5 n5 c5] 24)) fun e w' => e = .returned (.bool true) ∧ Below B w w' :=
  apart_list w B [(p1, n1, c1), (p2, n2, c2), (p3, n3, c3), (p4, n4, c4), (p5, n5, c5)] 5 rfl hB (by omega) (by omega) h
end Go.Proofs.YtpenddnmmfpdjaaDoor
