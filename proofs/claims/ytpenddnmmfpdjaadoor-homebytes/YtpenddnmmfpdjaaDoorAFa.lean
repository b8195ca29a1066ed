/-
  The statement OctetPuts: its walk.
-/
import Derived.Test.YtpenddnmmfpdjaaDoorADd
namespace Go.Proofs.YtpenddnmmfpdjaaDoor
open Go.RowKit
/-- a []byte that a call has made, seen as a value: it is read, it lies in memory of its own -/
structure MadeA (w w' : World) (p : Option Addr) (n c : Nat) (xs : List Int) : Prop where
  read : BIn w' p n xs
  seg : Seg w' w.heap.size w'.heap.size (p, n, c)
  below : Below w.heap.size w w'
  cap : n ≤ c
  nil : p = none → c = 0
theorem made_ofA {w w' : World} {v : Value} {n : Nat} {xs : List Int} (ho : w'.ownsRow w.heap.size 5 1 v n (U8 xs)) (hx : Bytes xs) (hb : Below w.heap.size w w') (hn : n + 80 ≤ 140737488355328) : ∃ p c, v = .slice p n c ∧ MadeA w w' p n c xs := by
  obtain ⟨p, c, rfl, h, hc, hp, _⟩ := own_in ho hx
  exact ⟨p, c, rfl, ⟨h, Seg.made ho hb hn, hb, hc, hp⟩⟩
theorem apart3 (w : World) (B : Nat) (p1 p2 p3 : Option Addr) (n1 n2 n3 c1 c2 c3 : Nat) (hB : B ≤ w.heap.size) (h : Chain w B [(p1, n1, c1), (p2, n2, c2), (p3, n3, c3)]) :
    Calls Tryd.prog 27 #[.slice (some ⟨w.heap.size, 0, none⟩) 3 3] (w.alloc (.cells #[.slice p1 n1 c1, .slice p2 n2 c2, .slice p3 n3 c3] 24)) fun e w' => e = .returned (.bool true) ∧ Below B w w' :=
  apart_list w B [(p1, n1, c1), (p2, n2, c2), (p3, n3, c3)] 3 rfl hB (by omega) (by omega) h
end Go.Proofs.YtpenddnmmfpdjaaDoor
