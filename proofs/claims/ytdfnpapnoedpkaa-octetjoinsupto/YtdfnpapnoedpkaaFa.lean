/-
  The statement OctetPuts: its walk.
-/
import Derived.Test.YtdfnpapnoedpkaaDd
import Derived.Test.YtdfnpapnoedpkaaEa
namespace Go.Proofs.Ytdfnpapnoedpkaa
open Go.RowKit

theorem putS_bytes (n s : Int) : Bytes (putS n s).1 ∧ (putS n s).1.length ≤ 8 := by
  unfold putS
  by_cases hs : s < 1 ∨ 8 < s
  · rw [if_pos hs]; exact ⟨Bytes.nil, by simp⟩
  · rw [if_neg hs]
    by_cases hw : n / 256 ^ s.toNat ≠ 0
    · rw [if_pos hw]; exact ⟨Bytes.nil, by simp⟩
    · rw [if_neg hw]; exact ⟨digits_bytes _ _, by simp only [digits_length]; omega⟩

/-- a []byte that a call has made, seen as a value: it is read, it lies in memory of its own -/
structure Made (w w' : World) (p : Option Addr) (n c : Nat) (xs : List Int) : Prop where
  read : BIn w' p n xs
  seg : Seg w' w.heap.size w'.heap.size (p, n, c)
  below : Below w.heap.size w w'
  cap : n ≤ c
  nil : p = none → c = 0

theorem made_of {w w' : World} {v : Value} {n : Nat} {xs : List Int} (ho : w'.ownsRow w.heap.size 5 1 v n (U8 xs)) (hx : Bytes xs) (hb : Below w.heap.size w w') (hn : n + 80 ≤ 140737488355328) : ∃ p c, v = .slice p n c ∧ Made w w' p n c xs := by
  obtain ⟨p, c, rfl, h, hc, hp, _⟩ := own_in ho hx
  exact ⟨p, c, rfl, ⟨h, Seg.made ho hb hn, hb, hc, hp⟩⟩

theorem put_x (n s : Int) (X : List Int) (er : Int) (h : putS n s = (X, er)) (w : World) (h0 : 0 ≤ n) :
    Calls Try.prog 10 #[.int .u64 n, .int .i64 s] w fun e w' => ∃ p c, e = .returned (.tuple #[.slice p X.length c, .int .i64 er]) ∧ Made w w' p X.length c X := by
  have hx := putS_bytes n s
  refine (put_any n s w h0).mono ?_
  rintro e w' ⟨v, rfl, ho, hb⟩
  rw [h] at *
  have hl : X.length ≤ 8 := hx.2
  obtain ⟨p, c, rfl, hm⟩ := made_of ho hx.1 hb (by simp only; omega)
  exact ⟨p, c, rfl, hm⟩

theorem rput_x (n s : Int) (X : List Int) (er : Int) (h : putS n s = (X, er)) (w : World) (h0 : 0 ≤ n) (h1 : n ≤ 18446744073709551615) :
    Calls Try.prog 15 #[.int .u64 n, .int .i64 s] w fun e w' => ∃ p c, e = .returned (.tuple #[.slice p X.length c, .int .i64 er]) ∧ Made w w' p X.length c X := by
  have hx := putS_bytes n s
  refine (rput_any n s w h0 h1).mono ?_
  rintro e w' ⟨v, rfl, ho, hb⟩
  rw [h] at *
  have hl : X.length ≤ 8 := hx.2
  obtain ⟨p, c, rfl, hm⟩ := made_of ho hx.1 hb (by simp only; omega)
  exact ⟨p, c, rfl, hm⟩

theorem apart3 (w : World) (B : Nat) (p1 p2 p3 : Option Addr) (n1 n2 n3 c1 c2 c3 : Nat) (hB : B ≤ w.heap.size) (h : Chain w B [(p1, n1, c1), (p2, n2, c2), (p3, n3, c3)]) :
    Calls Try.prog 16 #[.slice (some ⟨w.heap.size, 0, none⟩) 3 3] (w.alloc (.cells #[.slice p1 n1 c1, .slice p2 n2 c2, .slice p3 n3 c3] 23)) fun e w' => e = .returned (.bool true) ∧ Below B w w' :=
  apart_list w B [(p1, n1, c1), (p2, n2, c2), (p3, n3, c3)] 3 rfl hB (by omega) (by omega) h

set_option maxHeartbeats 2000000 in
theorem octetPuts_any (n s o : Int) (w : World) (hn0 : 0 ≤ n) (hn1 : n ≤ 18446744073709551615) (ho0 : 0 ≤ o) :
    Calls Try.prog 5 #[.int .u64 n, .int .i64 s, .int .u64 o] w fun e w' => e = .returned (.bool true) ∧ Below w.heap.size w w' := by
  obtain ⟨X, er, hX⟩ : ∃ X er, putS n s = (X, er) := ⟨_, _, rfl⟩
  obtain ⟨Y, er2, hY⟩ : ∃ X er, putS o 8 = (X, er) := ⟨_, _, rfl⟩
  have HX : Hid (putS n s = (X, er)) := hX
  have HY : Hid (putS o 8 = (Y, er2)) := hY
  clear hX hY
  go_enter Try.func5, Try.ntmps5
  go_wp2_with fail
  refine (awake_any _).mono ?_
  rintro e w1 ⟨rfl, hb1⟩
  go_wp2_with fail
  refine (rput_x n s X er HX.out _ hn0 hn1).mono ?_
  rintro e w2 ⟨p2, c2, rfl, m2⟩
  go_wp2_with fail
  refine (put_x n s X er HX.out _ hn0).mono ?_
  rintro e w3 ⟨p3, c3, rfl, m3⟩
  have s3 := m3.read.str c3
  have s2 := (m2.read.later m3.below).str c2
  go_wp2_with fail
  clear s3 s2
  refine (put_x n s X er HX.out _ hn0).mono ?_
  rintro e w4 ⟨p4, c4, rfl, m4⟩
  have s4 := m4.read.str c4
  have s2 := ((m2.read.later m3.below).later m4.below).str c2
  go_wp2_with fail
  clear s4 s2
  refine (put_x o 8 Y er2 HY.out _ ho0).mono ?_
  rintro e w5 ⟨p5, c5, rfl, m5⟩
  have s3 := ((m3.read.later m4.below).later m5.below).str c3
  have s4 := (m4.read.later m5.below).str c4
  have s2 := (((m2.read.later m3.below).later m4.below).later m5.below).str c2
  have HC : Hid (Chain w5 w2.heap.size [(p3, X.length, c3), (p4, X.length, c4), (p5, Y.length, c5)]) :=
    ⟨_, (m3.seg.later m4.below).later m5.below, _, m4.seg.later m5.below, _, m5.seg, trivial⟩
  have hz2 := below_then (below_then hb1 m2.below) (below_then (below_then m3.below m4.below) m5.below)
  have hz3 := Nat.le_trans hb1.size m2.below.size
  have hz4 := Nat.le_trans (Nat.le_trans m3.below.size m4.below.size) m5.below.size
  have HZ2 : Hid (Below w.heap.size w w5) := hz2
  clear hz2
  go_wp2_with fail
  clear s3 s4 s2
  refine (apart3 w5 w2.heap.size p3 p4 p5 _ _ _ c3 c4 c5 hz4 HC.out).mono ?_
  rintro e w6 ⟨rfl, hb6⟩
  go_wp2
  go_ret
  exact ⟨rfl, HZ2.out.trans (hb6.mono hz3)⟩

end Go.Proofs.Ytdfnpapnoedpkaa
