/-
  Apart, of lists that were made one behind the other.
-/
import Derived.Test.YtpenddnmmfpdjaaDoorADc
namespace Go.Proofs.YtpenddnmmfpdjaaDoor
open Go.RowKit
abbrev Trip := Option Addr × Nat × Nat
def valA (r : Trip) : Value := .slice r.1 r.2.1 r.2.2
/-- a list whose row lies from block B on and ahead of block T -/
structure Seg (w : World) (B T : Nat) (r : Trip) : Prop where
  own : ∃ xs, w.ownsRow B 5 1 (valA r) r.2.1 xs
  lt : ∀ a, r.1 = some a → a.block < T
  le : B ≤ T
  size : r.2.1 + 80 ≤ 140737488355328
def Chain (w : World) : Nat → List Trip → Prop
  | _, [] => True
  | B, r :: rest => ∃ T, Seg w B T r ∧ Chain w T rest
theorem Seg.later {w w' : World} {B T : Nat} {r : Trip} (h : Seg w B T r) (hb : Below w.heap.size w w') : Seg w' B T r := by
  obtain ⟨xs, hx⟩ := h.own
  exact ⟨⟨xs, own_later hx hb⟩, h.lt, h.le, h.size⟩
/-- what a call has made -/
theorem Seg.made {w w' : World} {p : Option Addr} {n c : Nat} {xs : List Value} (h : w'.ownsRow w.heap.size 5 1 (.slice p n c) n xs) (hb : Below w.heap.size w w') (hn : n + 80 ≤ 140737488355328) : Seg w' w.heap.size w'.heap.size (p, n, c) := by
  refine ⟨⟨xs, h⟩, fun a ha => ?_, hb.size, hn⟩
  have ha' : p = some a := ha
  exact (h.lt a.block (by rw [ha']; rfl)).2
theorem Seg.at {w : World} {B T : Nat} {r : Trip} (h : Seg w B T r) {a : Addr} (ha : r.1 = some a) : B ≤ a.block := by
  obtain ⟨xs, hx⟩ := h.own
  exact (hx.lt a.block (by unfold valA; rw [ha]; rfl)).1
theorem Chain.up {w : World} : ∀ {rs : List Trip} {B B' : Nat}, Chain w B rs → B' ≤ B → Chain w B' rs
  | [], _, _, _, _ => trivial
  | r :: rest, B, B', ⟨T, h, hc⟩, hB => by
    obtain ⟨xs, hx⟩ := h.own
    exact ⟨T, ⟨⟨xs, own_mono hx hB⟩, h.lt, Nat.le_trans hB h.le, h.size⟩, hc⟩
theorem Chain.get {w : World} : ∀ {rs : List Trip} {B : Nat}, Chain w B rs → ∀ i (h : i < rs.length), (∃ xs, w.ownsRow B 5 1 (valA rs[i]) rs[i].2.1 xs) ∧ rs[i].2.1 + 80 ≤ 140737488355328
  | [], _, _, i, h => absurd h (Nat.not_lt_zero _)
  | r :: rest, B, ⟨T, hs, hc⟩, 0, _ => ⟨hs.own, hs.size⟩
  | r :: rest, B, ⟨T, hs, hc⟩, i + 1, h => by
    have := Chain.get (hc.up hs.le) i (by simpa using h)
    simpa using this
theorem Chain.lower {w : World} : ∀ {rs : List Trip} {B : Nat}, Chain w B rs → ∀ i (h : i < rs.length) a, rs[i].1 = some a → B ≤ a.block
  | [], _, _, i, h, _, _ => absurd h (Nat.not_lt_zero _)
  | r :: rest, B, ⟨T, hs, hc⟩, 0, _, a, ha => hs.at ha
  | r :: rest, B, ⟨T, hs, hc⟩, i + 1, h, a, ha => Nat.le_trans hs.le (Chain.lower hc i (by simpa using h) a (by simpa using ha))
theorem Chain.apart {w : World} : ∀ {rs : List Trip} {B : Nat}, Chain w B rs → ∀ i j (hi : i < rs.length) (hj : j < rs.length) a b, i < j → rs[i].1 = some a → rs[j].1 = some b → a.block < b.block
  | [], _, _, i, _, h, _, _, _, _, _, _ => absurd h (Nat.not_lt_zero _)
  | r :: rest, B, ⟨T, hs, hc⟩, i, 0, _, _, _, _, h, _, _ => absurd h (Nat.not_lt_zero _)
  | r :: rest, B, ⟨T, hs, hc⟩, 0, j + 1, _, hj, a, b, _, ha, hb => Nat.lt_of_lt_of_le (hs.lt a ha) (hc.lower j (by simpa using hj) b (by simpa using hb))
  | r :: rest, B, ⟨T, hs, hc⟩, i + 1, j + 1, hi, hj, a, b, h, ha, hb =>
    hc.apart i j (by simpa using hi) (by simpa using hj) a b (by omega) (by simpa using ha) (by simpa using hb)
theorem Chain.later {w w' : World} : ∀ {rs : List Trip} {B : Nat}, Chain w B rs → Below w.heap.size w w' → Chain w' B rs
  | [], _, _, _ => trivial
  | _ :: _, _, ⟨T, hs, hc⟩, hb => ⟨T, hs.later hb, hc.later hb⟩
def vp (rs : List Trip) (i : Nat) : Option Addr := (rs.getD i (none, 0, 0)).1
def vn (rs : List Trip) (i : Nat) : Nat := (rs.getD i (none, 0, 0)).2.1
def vc (rs : List Trip) (i : Nat) : Nat := (rs.getD i (none, 0, 0)).2.2
theorem getD_at (rs : List Trip) (i : Nat) (h : i < rs.length) : rs.getD i (none, 0, 0) = rs[i] := by simp [List.getD, List.getElem?_eq_getElem h]
theorem fam_of (w : World) (B : Nat) (rs : List Trip) (hB : B ≤ w.heap.size) (hlen : rs.length ≤ 50) (h : Chain w B rs) :
    Fam (w.alloc (.cells (rs.map valA).toArray 24)) B w.heap.size rs.length (vp rs) (vn rs) (vc rs) := by
  have h' := h.later (below_alloc w (.cells (rs.map valA).toArray 24))
  refine ⟨hlen, fun i hi => ?_, ⟨_, heap_alloc_new w _⟩, fun i hi => ?_, fun i j a b hi hj hne ha hb => ?_, fun i hi => ?_, Nat.le_trans hB (by simp)⟩
  · rw [cell_of_row _ w.heap.size i _ 24 (0, 0) (heap_alloc_new w _)]
    simp [vp, vn, vc, valA, List.getD, List.getElem?_eq_getElem hi]
  · simp only [vp, vn, vc, getD_at rs i hi]
    exact (h'.get i hi).1
  · rw [vp, getD_at rs i hi] at ha
    rw [vp, getD_at rs j hj] at hb
    rcases Nat.lt_or_gt_of_ne hne with hlt | hlt
    · exact Nat.ne_of_lt (h.apart i j hi hj a b hlt ha hb)
    · exact Nat.ne_of_gt (h.apart j i hj hi b a hlt hb ha)
  · simp only [vn, getD_at rs i hi]
    exact (h'.get i hi).2
/-- Apart of lists that were made from block B on: true, and nothing below B has turned; nor any block that is none of the lists' own -/
theorem apart_list (w : World) (B : Nat) (rs : List Trip) (n : Nat) (hn : rs.length = n) (hB : B ≤ w.heap.size) (h0 : 0 < n) (hlen : n ≤ 50) (h : Chain w B rs) :
    Calls Tryd.prog 27 #[.slice (some ⟨w.heap.size, 0, none⟩) n n] (w.alloc (.cells (rs.map valA).toArray 24)) fun e w' => e = .returned (.bool true) ∧ Below B w w' := by
  subst hn
  refine (apart_any _ B w.heap.size rs.length rs.length (vp rs) (vn rs) (vc rs) (fam_of w B rs hB hlen h) h0).mono ?_
  rintro e w' ⟨rfl, hf⟩
  refine ⟨rfl, ⟨hf.os, hf.tape, hf.output, Nat.le_trans (by simp) hf.size, fun k hk => ?_⟩⟩
  rw [hf.block k (by simp; omega) fun i a hi ha e => ?_, Below.heap_alloc w _ k (by omega)]
  rw [vp, getD_at rs i hi] at ha
  have := h.lower i hi a ha
  omega
end Go.Proofs.YtpenddnmmfpdjaaDoor
