/-
  The statement OctetTakes: its walk.
-/
import Derived.Test.YtdfnpapnoedpkaaEe
import Derived.Test.YtdfnpapnoedpkaaFc
namespace Go.Proofs.Ytdfnpapnoedpkaa
open Go.RowKit

set_option maxRecDepth 100000 in
set_option maxHeartbeats 4000000 in
theorem octetTakes_any (p : Option Addr) (n c : Nat) (xs : List Int) (s : Int) (q : Option Addr) (m d : Nat) (ys : List Int) (w : World) (h : BIn w p n xs) (hnc : n ≤ c) (hp : p = none → c = 0) (hbig : n + 80 ≤ 140737488355328)
    (hy : BIn w q m ys) (hmd : m ≤ d) (hq : q = none → d = 0) (hbig2 : m + 80 ≤ 140737488355328) :
    Calls Try.prog 6 #[.slice p n c, .int .i64 s, .slice q m d] w fun e w' => e = .returned (.bool true) ∧ Below w.heap.size w w' := by
  obtain ⟨N, X, er, hX⟩ : ∃ N X er, takeS xs s = (N, X, er) := ⟨_, _, _, rfl⟩
  obtain ⟨N2, Y, er2, hY⟩ : ∃ N X er, takeS (xs.map flip) s = (N, X, er) := ⟨_, _, _, rfl⟩
  obtain ⟨N3, Z, er3, hZ⟩ : ∃ N X er, takeS ys 1 = (N, X, er) := ⟨_, _, _, rfl⟩
  have HX : Hid (takeS xs s = (N, X, er)) := hX
  have HY : Hid (takeS (xs.map flip) s = (N2, Y, er2)) := hY
  have HZ : Hid (takeS ys 1 = (N3, Z, er3)) := hZ
  have HP : Hid (p = none → c = 0) := hp
  have HQ : Hid (q = none → d = 0) := hq
  clear hX hY hZ hp hq
  go_enter Try.func6, Try.ntmps6
  go_wp2_with fail
  refine (awake_any _).mono ?_
  rintro e w1 ⟨rfl, hb1⟩
  have b1 := h.later hb1
  go_wp2_with fail
  refine (rtake_x p n c xs s N X er HX.out _ b1 hnc hbig).mono ?_
  rintro e w2 ⟨p2, c2, rfl, m2⟩
  have b2 := b1.later m2.below
  go_wp2_with fail
  refine (roomy_x p n c xs _ b2 HP.out hnc hbig).mono ?_
  rintro e w3 ⟨g, cap, rfl, r3, hb3⟩
  have hcap : n ≤ cap := by have := r3.cap2; omega
  go_wp2_with fail
  refine (take_x _ n cap xs s N X er HX.out _ r3.read hcap hbig).mono ?_
  rintro e w4 ⟨p4, c4, rfl, m4⟩
  have s4 := m4.read.str c4
  have s2 := ((m2.read.later hb3).later m4.below).str c2
  have r4 := r3.later m4.below
  go_wp2_with fail
  clear s4 s2
  refine (take_x _ n cap xs s N X er HX.out _ r4.read hcap hbig).mono ?_
  rintro e w5 ⟨p5, c5, rfl, m5⟩
  have s5 := m5.read.str c5
  have s2 := (((m2.read.later hb3).later m4.below).later m5.below).str c2
  have r5 := r4.later m5.below
  have y5 := ((((hy.later hb1).later m2.below).later hb3).later m4.below).later m5.below
  go_wp2_with fail
  clear s5 s2
  refine (roomy_x q m d ys _ y5 HQ.out hmd hbig2).mono ?_
  rintro e w6 ⟨g6, cap6, rfl, r6o, hb6⟩
  have hcap6 : m ≤ cap6 := by have := r6o.cap2; omega
  go_wp2_with fail
  refine (take_x _ m cap6 ys 1 N3 Z er3 HZ.out _ r6o.read hcap6 hbig2).mono ?_
  rintro e w7 ⟨p7, c7, rfl, m7⟩
  have r7 := (r5.later hb6).later m7.below
  go_wp2_with fail
  refine (take_x _ n cap xs s N X er HX.out _ r7.read hcap hbig).mono ?_
  rintro e w8 ⟨p8, c8, rfl, m8⟩
  have s8 := m8.read.str c8
  have s4 := ((((m4.read.later m5.below).later hb6).later m7.below).later m8.below).str c4
  have s5 := (((m5.read.later hb6).later m7.below).later m8.below).str c5
  have s2 := ((((((m2.read.later hb3).later m4.below).later m5.below).later hb6).later m7.below).later m8.below).str c2
  have r8 := r7.later m8.below
  have b8 := ((((((b2.later hb3).later m4.below).later m5.below).later hb6).later m7.below).later m8.below)
  go_wp2_with fail
  clear s8 s4 s5 s2
  refine (held_x _ g n cap c p xs _ r8 hbig b8).mono ?_
  rintro e w9 ⟨rfl, hb9⟩
  have r9 := r8.later hb9
  go_wp2_with fail
  refine (turn_x _ g n cap xs _ r9 hbig).mono ?_
  rintro e w10 ⟨rfl, r10, hg10⟩
  go_wp2_with fail
  refine (own_x _ n cap (xs.map flip) _ r10.read (fun e => by cases e) hcap hbig).mono ?_
  rintro e w11 ⟨p11, c11, rfl, m11⟩
  go_wp2_with fail
  refine (rtake_x _ n c11 (xs.map flip) s N2 Y er2 HY.out _ m11.read m11.cap hbig).mono ?_
  rintro e w12 ⟨p12, c12, rfl, m12⟩
  have r12 := (r10.later m11.below).later m12.below
  go_wp2_with fail
  refine (take_x _ n cap (xs.map flip) s N2 Y er2 HY.out _ r12.read hcap hbig).mono ?_
  rintro e w13 ⟨p13, c13, rfl, m13⟩
  have s13 := m13.read.str c13
  have s12 := (m12.read.later m13.below).str c12
  have hbT : Below w.heap.size w w13 := by
    have q1 := below_then (below_then (below_then (below_then (below_then (below_then (below_then (below_then hb1 m2.below) hb3) m4.below) m5.below) hb6) m7.below) m8.below) hb9
    have q2 : Below w.heap.size w w10 := q1.grown hg10 q1.size (by intro k hk; simp only [Option.some.injEq] at hk; have := r3.at.1; have := m2.below.size; have := hb1.size; omega)
    have q3 := below_then (below_then m11.below m12.below) m13.below
    exact q2.trans (q3.mono q2.size)
  have hgl := r3.at.2
  have z3 := m4.below.size
  have z4 := m5.below.size
  have z5 := hb6.size
  have z6 := m7.below.size
  have z7 := m8.below.size
  have z8 := hb9.size
  have z9 := hg10.size
  have z10 := m11.below.size
  have z11 := m12.below.size
  have z12 := m13.below.size
  have HC : Hid (Chain w13 w3.heap.size [(p4, X.length, c4), (p5, X.length, c5), (p7, Z.length, c7), (p8, X.length, c8), (p13, Y.length, c13)]) := by
    refine ⟨w4.heap.size, ?_, w6.heap.size, ?_, w7.heap.size, ?_, w12.heap.size, ?_, w13.heap.size, m13.seg, trivial⟩
    · exact (((((((((m4.seg.later m5.below).later hb6).later m7.below).later m8.below).later hb9).turn hg10 hgl).later m11.below).later m12.below).later m13.below)
    · exact ((((((((m5.seg.later hb6).later m7.below).later m8.below).later hb9).turn hg10 (by omega)).later m11.below).later m12.below).later m13.below).wider z5
    · exact ((((((m7.seg.later m8.below).later hb9).turn hg10 (by omega)).later m11.below).later m12.below).later m13.below)
    · exact (((((m8.seg.later hb9).turn hg10 (by omega)).later m11.below).later m12.below).later m13.below).wider (by omega)
  have HT : Hid (Below w.heap.size w w13) := hbT
  have hq3 : w3.heap.size ≤ w13.heap.size := by omega
  have hq0 : w.heap.size ≤ w3.heap.size := by have := hb1.size; have := m2.below.size; have := hb3.size; omega
  clear hbT r12 r10 r9 r8 r7 r5 r4 r3 r6o m2 m4 m5 m7 m8 m11 m12 m13 hb1 hb3 hb6 hb9 hg10 b1 b2 b8 y5 z3 z4 z5 z6 z7 z8 z9 z10 z11 z12 hgl h hy
  go_wp2_with fail
  clear s13 s12
  refine (apart5 w13 w3.heap.size p4 p5 p7 p8 p13 _ _ _ _ _ c4 c5 c7 c8 c13 hq3 HC.out).mono ?_
  rintro e w14 ⟨rfl, hb14⟩
  go_wp2
  go_ret
  exact ⟨rfl, HT.out.trans (hb14.mono hq0)⟩

end Go.Proofs.Ytdfnpapnoedpkaa
