/-
  The statement OctetPads: its walk.
-/
import Derived.Test.YtdfnpapnoedpkaaEd
namespace Go.Proofs.Ytdfnpapnoedpkaa
open Go.RowKit

theorem Seg.wider {w : World} {B T T' : Nat} {r : Trip} (h : Seg w B T r) (hT : T ≤ T') : Seg w B T' r := ⟨h.own, fun a ha => Nat.lt_of_lt_of_le (h.lt a ha) hT, Nat.le_trans h.le hT, h.size⟩

theorem size_later {w w' : World} (h : Below w.heap.size w w') : w.heap.size ≤ w'.heap.size := h.size

set_option maxRecDepth 100000 in
set_option maxHeartbeats 4000000 in
theorem octetPads_any (p : Option Addr) (n c : Nat) (xs : List Int) (s : Int) (w : World) (h : BIn w p n xs) (hnc : n ≤ c) (hp : p = none → c = 0) (hbig : n + 80 ≤ 140737488355328) :
    Calls Try.prog 8 #[.slice p n c, .int .i64 s] w fun e w' => e = .returned (.bool true) ∧ Below w.heap.size w w' := by
  obtain ⟨X, er, hX⟩ : ∃ X er, padS xs s = (X, er) := ⟨_, _, rfl⟩
  obtain ⟨Y, er2, hY⟩ : ∃ X er, padS (xs.map flip) s = (X, er) := ⟨_, _, rfl⟩
  obtain ⟨Z, er3, hZ⟩ : ∃ X er, padS [3] 64 = (X, er) := ⟨_, _, rfl⟩
  have HX : Hid (padS xs s = (X, er)) := hX
  have HY : Hid (padS (xs.map flip) s = (Y, er2)) := hY
  have HZ : Hid (padS [3] 64 = (Z, er3)) := hZ
  have HP : Hid (p = none → c = 0) := hp
  clear hX hY hZ hp
  have hml : n ≤ maxLen := by unfold maxLen; omega
  go_enter Try.func8, Try.ntmps8
  go_wp2_with fail
  refine (awake_any _).mono ?_
  rintro e w1 ⟨rfl, hb1⟩
  have b1 := h.later hb1
  go_wp2_with fail
  refine (rpad_x p n c xs s X er HX.out _ b1 HP.out).mono ?_
  rintro e w2 ⟨p2, c2, rfl, m2⟩
  have b2 := b1.later m2.below
  go_wp2_with fail
  refine (roomy_x p n c xs _ b2 HP.out hnc hbig).mono ?_
  rintro e w3 ⟨g, cap, rfl, r3, hb3⟩
  go_wp2_with fail
  refine (pad_x _ n cap xs s X er HX.out _ r3.read).mono ?_
  rintro e w4 ⟨p4, c4, rfl, m4⟩
  have s4 := m4.read.str c4
  have s2 := ((m2.read.later hb3).later m4.below).str c2
  have r4 := r3.later m4.below
  go_wp2_with fail
  clear s4 s2
  refine (pad_x _ n cap xs s X er HX.out _ r4.read).mono ?_
  rintro e w5 ⟨p5, c5, rfl, m5⟩
  have s5 := m5.read.str c5
  have s2 := (((m2.read.later hb3).later m4.below).later m5.below).str c2
  have r5 := r4.later m5.below
  go_wp2_with fail
  clear s5 s2
  refine (pad_x _ 1 1 [3] 64 Z er3 HZ.out _ (lit_in w5 [3] 1 rfl (bytes_of (by decide)))).mono ?_
  rintro e w6 ⟨p6, c6, rfl, m6⟩
  have hb6 := below_of_alloc m6.below
  have r6 := r5.later hb6
  go_wp2_with fail
  refine (pad_x _ n cap xs s X er HX.out _ r6.read).mono ?_
  rintro e w7 ⟨p7, c7, rfl, m7⟩
  have s7 := m7.read.str c7
  have s4 := (((m4.read.later m5.below).later hb6).later m7.below).str c4
  have s5 := ((m5.read.later hb6).later m7.below).str c5
  have s2 := (((((m2.read.later hb3).later m4.below).later m5.below).later hb6).later m7.below).str c2
  have r7 := r6.later m7.below
  have b7 := (((((b2.later hb3).later m4.below).later m5.below).later hb6).later m7.below)
  go_wp2_with fail
  clear s7 s4 s5 s2
  refine (held_x _ g n cap c p xs _ r7 hbig b7).mono ?_
  rintro e w8 ⟨rfl, hb8⟩
  have r8 := r7.later hb8
  go_wp2_with fail
  refine (turn_x _ g n cap xs _ r8 hbig).mono ?_
  rintro e w9 ⟨rfl, r9, hg9⟩
  go_wp2_with fail
  refine (own_x _ n cap (xs.map flip) _ r9.read (fun e => by cases e) (by have := r9.cap2; omega) hbig).mono ?_
  rintro e w10 ⟨p10, c10, rfl, m10⟩
  go_wp2_with fail
  refine (rpad_x _ n c10 (xs.map flip) s Y er2 HY.out _ m10.read m10.nil).mono ?_
  rintro e w11 ⟨p11, c11, rfl, m11⟩
  have r11 := (r9.later m10.below).later m11.below
  go_wp2_with fail
  refine (pad_x _ n cap (xs.map flip) s Y er2 HY.out _ r11.read).mono ?_
  rintro e w12 ⟨p12, c12, rfl, m12⟩
  have r12 := r11.later m12.below
  have s12 := m12.read.str c12
  have s11 := (m11.read.later m12.below).str c11
  have hbT : Below w.heap.size w w12 := by
    have q1 := below_then (below_then (below_then (below_then (below_then (below_then (below_then hb1 m2.below) hb3) m4.below) m5.below) hb6) m7.below) hb8
    have q2 : Below w.heap.size w w9 := q1.grown hg9 q1.size (by intro k hk; simp only [Option.some.injEq] at hk; have := r3.at.1; have := m2.below.size; have := hb1.size; omega)
    have q3 := below_then (below_then m10.below m11.below) m12.below
    exact q2.trans (q3.mono q2.size)
  have hgl := r3.at.2
  have z3 := m4.below.size
  have z4 := m5.below.size
  have z5 := hb6.size
  have z6 := m7.below.size
  have z7 := hb8.size
  have z8 := hg9.size
  have z9 := m10.below.size
  have z10 := m11.below.size
  have z11 := m12.below.size
  have HC : Hid (Chain w12 w3.heap.size [(p4, X.length, c4), (p5, X.length, c5), (p6, Z.length, c6), (p7, X.length, c7), (p12, Y.length, c12)]) := by
    refine ⟨w4.heap.size, ?_, (w5.alloc (.cells (U8 [3]).toArray 5)).heap.size, ?_, w6.heap.size, ?_, w11.heap.size, ?_, w12.heap.size, m12.seg, trivial⟩
    · exact ((((((((m4.seg.later m5.below).later hb6).later m7.below).later hb8).turn hg9 hgl).later m10.below).later m11.below).later m12.below)
    · exact (((((((m5.seg.later hb6).later m7.below).later hb8).turn hg9 (by omega)).later m10.below).later m11.below).later m12.below).wider (by simp)
    · exact ((((((m6.seg.later m7.below).later hb8).turn hg9 (by simp; omega)).later m10.below).later m11.below).later m12.below)
    · exact (((((m7.seg.later hb8).turn hg9 (by omega)).later m10.below).later m11.below).later m12.below).wider (by omega)
  have HT : Hid (Below w.heap.size w w12) := hbT
  have HR : Hid (RoomAt w12 w2.heap.size g n cap (xs.map flip)) := r12
  have hq3 : w3.heap.size ≤ w12.heap.size := by omega
  have hq0 : w.heap.size ≤ w3.heap.size := by have := hb1.size; have := m2.below.size; have := hb3.size; omega
  clear hbT r12 r11 r9 r8 r7 r6 r5 r4 r3 m2 m4 m5 m6 m7 m10 m11 m12 hb1 hb3 hb6 hb8 hg9 b1 b2 b7 z3 z4 z5 z6 z7 z8 z9 z10 z11 hgl h
  go_wp2_with fail
  refine (blank_any _ n cap (xs.map flip) _ hml HR.out.read).mono ?_
  rintro e w13 ⟨rfl, rfl⟩
  go_wp2_with fail
  refine (rblank_any _ n cap (xs.map flip) _ hml HR.out.read).mono ?_
  rintro e w13 ⟨rfl, rfl⟩
  go_wp2_with fail
  clear s12 s11
  refine (apart5 w12 w3.heap.size p4 p5 p6 p7 p12 _ _ _ _ _ c4 c5 c6 c7 c12 hq3 HC.out).mono ?_
  rintro e w14 ⟨rfl, hb14⟩
  go_wp2
  go_ret
  exact ⟨rfl, HT.out.trans (hb14.mono hq0)⟩

end Go.Proofs.Ytdfnpapnoedpkaa
