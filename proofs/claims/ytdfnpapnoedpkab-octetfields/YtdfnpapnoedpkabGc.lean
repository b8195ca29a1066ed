/-
  The statement OctetFields: what its walk needs beside.
-/
import Derived.Test.YtdfnpapnoedpkabGb
import Derived.Test.YtdfnpapnoedpkabNc
import Derived.Test.YtdfnpapnoedpkabFc
namespace Go.Proofs.Ytdfnpapnoedpkab
open Go.RowKit

theorem N.Seg.wider {w : World} {B T T' : Nat} {r : N.Trip} (h : N.Seg w B T r) (hT : T ≤ T') : N.Seg w B T' r := ⟨h.own, fun a ha => Nat.lt_of_lt_of_le (h.lt a ha) hT, Nat.le_trans h.le hT, h.size⟩

theorem N.Seg.turn {w w' : World} {B T g : Nat} {r : N.Trip} (h : N.Seg w B T r) (hg : w.grownBy w' (some g)) (hlt : g < B) : N.Seg w' B T r := by
  obtain ⟨xs, hx⟩ := h.own
  refine ⟨⟨xs, hx.kept hg ?_⟩, h.lt, h.le, h.size⟩
  cases hv : (N.val r).ownBlock with
  | none => left; rfl
  | some k =>
    right
    have := (hx.lt k hv).1
    intro e
    simp only [Option.some.injEq] at e
    omega

/-- what turns no block of numbers leaves the lists of numbers as they were -/
theorem N.Seg.frame {w w' : World} {B T : Nat} {r : N.Trip} (h : N.Seg w B T r) (hk : ∀ (k : Nat) cs, w.heap[k]? = some (Obj.cells cs 44 (0, 0)) → w'.heap[k]? = w.heap[k]?) : N.Seg w' B T r := by
  obtain ⟨xs, hx⟩ := h.own
  refine ⟨⟨xs, hx.1, ?_⟩, h.lt, h.le, h.size⟩
  rcases hx.2 with hn | ⟨g, cap, cur, e, h1, hg, rest⟩
  · exact .inl hn
  · exact .inr ⟨g, cap, cur, e, h1, (hk g cur hg).trans hg, rest⟩

theorem N.Chain.frame {w w' : World} (hk : ∀ (k : Nat) cs, w.heap[k]? = some (Obj.cells cs 44 (0, 0)) → w'.heap[k]? = w.heap[k]?) : ∀ {rs : List N.Trip} {B : Nat}, N.Chain w B rs → N.Chain w' B rs
  | [], _, _ => trivial
  | _ :: _, _, ⟨T, hs, hc⟩ => ⟨T, hs.frame hk, N.Chain.frame hk hc⟩

/-- Apart turns no block of numbers -/
theorem apart_frame (w : World) (B : Nat) (rs : List Trip) (n : Nat) (hn : rs.length = n) (hB : B ≤ w.heap.size) (h0 : 0 < n) (hlen : n ≤ 50) (h : Chain w B rs) :
    Calls Try.prog 14 #[.slice (some ⟨w.heap.size, 0, none⟩) n n] (w.alloc (.cells (rs.map val).toArray 22)) fun e w' => e = .returned (.bool true) ∧ Below B w w' ∧ ∀ (k : Nat) cs, w.heap[k]? = some (Obj.cells cs 44 (0, 0)) → w'.heap[k]? = w.heap[k]? := by
  subst hn
  refine (apart_any _ B w.heap.size rs.length rs.length (vp rs) (vn rs) (vc rs) (fam_of w B rs hB hlen h) h0).mono ?_
  rintro e w' ⟨rfl, hf⟩
  refine ⟨rfl, ⟨hf.os, hf.tape, hf.output, Nat.le_trans (by simp) hf.size, fun k hk => ?_⟩, fun k cs hk => ?_⟩
  · rw [hf.block k (by simp; omega) fun i a hi ha e => ?_, Below.heap_alloc w _ k (by omega)]
    rw [vp, getD_at rs i hi] at ha
    have := h.lower i hi a ha
    omega
  · have hlt := (Array.getElem?_eq_some_iff.1 hk).1
    rw [hf.block k (by simp; omega) fun i a hi ha e => ?_, Below.heap_alloc w _ k hlt]
    rw [vp, getD_at rs i hi] at ha
    obtain ⟨xs, hx⟩ := (h.get i hi).1
    rcases own_at hx with ⟨h1, _⟩ | ⟨g, cs2, h1, _, hg⟩
    · rw [ha] at h1; cases h1
    · rw [ha] at h1
      simp only [Option.some.injEq] at h1
      subst h1
      simp only at e
      subst e
      rw [hk] at hg
      simp at hg

theorem apart5f (w : World) (B : Nat) (p1 p2 p3 p4 p5 : Option Addr) (n1 n2 n3 n4 n5 c1 c2 c3 c4 c5 : Nat) (hB : B ≤ w.heap.size) (h : Chain w B [(p1, n1, c1), (p2, n2, c2), (p3, n3, c3), (p4, n4, c4), (p5, n5, c5)]) :
    Calls Try.prog 14 #[.slice (some ⟨w.heap.size, 0, none⟩) 5 5] (w.alloc (.cells #[.slice p1 n1 c1, .slice p2 n2 c2, .slice p3 n3 c3, .slice p4 n4 c4, .slice p5 n5 c5] 22)) fun e w' => e = .returned (.bool true) ∧ Below B w w' ∧ ∀ (k : Nat) cs, w.heap[k]? = some (Obj.cells cs 44 (0, 0)) → w'.heap[k]? = w.heap[k]? :=
  apart_frame w B [(p1, n1, c1), (p2, n2, c2), (p3, n3, c3), (p4, n4, c4), (p5, n5, c5)] 5 rfl hB (by omega) (by omega) h

theorem apartN5 (w : World) (B : Nat) (p1 p2 p3 p4 p5 : Option Addr) (n1 n2 n3 n4 n5 c1 c2 c3 c4 c5 : Nat) (hB : B ≤ w.heap.size) (h : N.Chain w B [(p1, n1, c1), (p2, n2, c2), (p3, n3, c3), (p4, n4, c4), (p5, n5, c5)]) :
    Calls Try.prog 15 #[.slice (some ⟨w.heap.size, 0, none⟩) 5 5] (w.alloc (.cells #[.slice p1 n1 c1, .slice p2 n2 c2, .slice p3 n3 c3, .slice p4 n4 c4, .slice p5 n5 c5] 25)) fun e w' => e = .returned (.bool true) ∧ Below B w w' :=
  N.apart_list w B [(p1, n1, c1), (p2, n2, c2), (p3, n3, c3), (p4, n4, c4), (p5, n5, c5)] 5 rfl hB (by omega) (by omega) h

/-- a []uint64 that a call has made -/
structure MadeN (w w' : World) (p : Option Addr) (n c : Nat) (xs : List Int) : Prop where
  read : IIn w' .u64 p n xs
  seg : N.Seg w' w.heap.size w'.heap.size (p, n, c)

theorem fieldsS_len (xs ss : List Int) (hx : Bytes xs) : (fieldsS xs ss).1.length ≤ ss.length ∧ Bytes (fieldsS xs ss).2.1 ∧ (fieldsS xs ss).2.1.length ≤ xs.length := by
  unfold fieldsS
  by_cases h1 : ∃ s ∈ ss, s < 1 ∨ 8 < s
  · rw [if_pos h1]; exact ⟨by simp, Bytes.nil, by simp⟩
  · rw [if_neg h1]
    by_cases h2 : xs.length < (ss.map Int.toNat).sum
    · rw [if_pos h2]; exact ⟨by simp, Bytes.nil, by simp⟩
    · rw [if_neg h2]; exact ⟨by simp [nums_length], hx.drop _, by simp⟩

theorem fields_x (p q : Option Addr) (n c m d : Nat) (xs ss : List Int) (NS X : List Int) (er : Int) (hS : fieldsS xs ss = (NS, X, er)) (w : World) (hx : BIn w p n xs) (hi : IIn w .i64 q m ss) (hnc : n ≤ c) (hp : p = none → c = 0) (hbig : n + 80 ≤ 140737488355328) (hm : m + 80 ≤ 17592186044416) :
    Calls Try.prog 8 #[.slice p n c, .slice q m d] w fun e w' => ∃ p1 c1 p2 c2, e = .returned (.tuple #[.slice p1 NS.length c1, .slice p2 X.length c2, .int .i64 er]) ∧ MadeN w w' p1 NS.length c1 NS ∧ Made w w' p2 X.length c2 X := by
  have hl := fieldsS_len xs ss hx.byte
  refine (fields_any p q n c m d xs ss w hx hi hnc hp (by omega) (by omega)).mono ?_
  rintro e w' ⟨v1, v2, rfl, ho1, ho2, hb⟩
  rw [hS] at *
  simp only at hl ho1 ho2
  have hl1 := hl.1
  have hl2 := hl.2.2
  rw [hi.len] at hl1
  rw [hx.len] at hl2
  obtain ⟨p1, c1, rfl, h1, _⟩ := own_in64 ho1
  obtain ⟨p2, c2, rfl, h2⟩ := made_of ho2 hl.2.1 hb (by omega)
  exact ⟨p1, c1, p2, c2, rfl, ⟨h1, N.Seg.made ho1 hb (by omega)⟩, h2⟩

theorem fields_lit (w : World) : Calls Try.prog 8 #[.slice (some ⟨w.heap.size, 0, none⟩) 3 3, .slice (some ⟨w.heap.size + 1, 0, none⟩) 2 2] ((w.alloc (.cells #[.int .u8 9, .int .u8 9, .int .u8 9] 5)).alloc (.cells #[.int .i64 1, .int .i64 1] 3)) fun e w' =>
    ∃ p1 c1 p2 c2, e = .returned (.tuple #[.slice p1 2 c1, .slice p2 1 c2, .int .i64 0]) ∧ MadeN w w' p1 2 c1 [9, 9] ∧ Made w w' p2 1 c2 [9] := by
  have h1 := (lit_in w [9, 9, 9] 3 rfl (bytes_of (by decide))).later (below_alloc _ (.cells #[.int .i64 1, .int .i64 1] 3))
  have h2 := lit_in64 (w.alloc (.cells #[.int .u8 9, .int .u8 9, .int .u8 9] 5)) .i64 3 [1, 1] 2 rfl
  rw [World.size_alloc] at h2
  refine (fields_x _ _ 3 3 2 2 [9, 9, 9] [1, 1] [9, 9] [9] 0 (by decide) _ h1 h2 (by omega) (fun e => by cases e) (by omega) (by omega)).mono ?_
  rintro e w' ⟨p1, c1, p2, c2, rfl, a, b⟩
  have hs : w.heap.size ≤ ((w.alloc (.cells #[.int .u8 9, .int .u8 9, .int .u8 9] 5)).alloc (.cells #[.int .i64 1, .int .i64 1] 3)).heap.size := by simp; omega
  obtain ⟨xs, hx⟩ := a.seg.own
  obtain ⟨ys, hy⟩ := b.seg.own
  exact ⟨p1, c1, p2, c2, rfl, ⟨a.read, ⟨⟨xs, own_mono hx hs⟩, a.seg.lt, Nat.le_trans hs a.seg.le, a.seg.size⟩⟩, ⟨b.read, ⟨⟨ys, own_mono hy hs⟩, b.seg.lt, Nat.le_trans hs b.seg.le, b.seg.size⟩, below_of_alloc (below_of_alloc b.below), b.cap, b.nil⟩⟩

theorem same_x (p q : Option Addr) (n c d : Nat) (xs : List Int) (w : World) (hx : IIn w .u64 p n xs) (hy : IIn w .u64 q n xs) (hn : n + 80 ≤ 17592186044416) :
    Calls Try.prog 9 #[.slice p n c, .slice q n d] w fun e w' => e = .returned (.bool true) ∧ Below w.heap.size w w' := by
  refine (same_any p q n c n d xs xs w hx hy (by omega)).mono ?_
  rintro e w' ⟨rfl, nq, rfl⟩
  exact ⟨by simp, below_drawn nq⟩

theorem RoomS.turn {w w' : World} {B g gt n cap : Nat} {ss : List Int} (h : RoomS w B g n cap ss) (hg : w.grownBy w' (some gt)) (hne : gt ≠ g) : RoomS w' B g n cap ss :=
  ⟨h.own.kept hg (.inr (by simp only [Value.ownBlock, ne_eq, Option.some.injEq]; exact fun e => hne e.symm)), h.len, h.cap2⟩

end Go.Proofs.Ytdfnpapnoedpkab
