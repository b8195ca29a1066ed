/-
  SumNames walked.
-/
import Derived.Test.YtaencchobpgogaaDoorSd
namespace Go.Proofs.YtaencchobpgogaaDoor
open Go.RowKit

theorem call_of1 (w : World) (ht : Tab w) (x : Int) (hx : 0 ≤ x ∧ x < 256) (r : Nat) (hr : crc [x] = r) (s : Nat) (hs : w.heap.size = s) : Calls Tryd.prog 10 #[.slice (some ⟨s + 1, 0, none⟩) 1 1]
    ((w.alloc (.cells #[.int .u8 x] 5)).alloc (.cells #[.slice (some ⟨s, 0, none⟩) 1 1] 25)) fun e w' => e = .returned (.int .u32 r) ∧ Below w.heap.size w w' := by
  subst hs hr
  have := of_one (w.alloc (.cells #[.int .u8 x] 5)) _ 1 1 [x] (lit_in w [x] 1 rfl (Bytes.cons hx Bytes.nil)) (Nat.le_refl _) (fun e => by cases e) (by omega) (ht.alloc _)
  simp only [World.size_alloc] at this
  refine this.mono ?_
  rintro e w' ⟨rfl, rfl⟩
  exact ⟨rfl, below_of_alloc (below_alloc _ _)⟩

theorem call_ofabc (w : World) (ht : Tab w) (s : Nat) (hs : w.heap.size = s) : Calls Tryd.prog 10 #[.slice (some ⟨s + 1 + 1, 0, none⟩) 2 2]
    (((w.alloc (.cells #[.int .u8 97] 5 (1, 2))).alloc (.cells #[.int .u8 98, .int .u8 99] 5 (2, 3))).alloc (.cells #[.slice (some ⟨s, 0, none⟩) 1 1, .slice (some ⟨s + 1, 0, none⟩) 2 2] 25)) fun e w' =>
    e = .returned (.int .u32 891568578) ∧ Below w.heap.size w w' := by
  subst hs
  have g1 := lit_mark w [97] 1 (1, 2) rfl (bytes_of (by decide))
  have g2 := lit_mark (w.alloc (.cells #[.int .u8 97] 5 (1, 2))) [98, 99] 2 (2, 3) rfl (bytes_of (by decide))
  have g1' := g1.later (below_alloc (w.alloc (.cells #[.int .u8 97] 5 (1, 2))) (.cells #[.int .u8 98, .int .u8 99] 5 (2, 3)))
  have := of_two ((w.alloc (.cells #[.int .u8 97] 5 (1, 2))).alloc (.cells #[.int .u8 98, .int .u8 99] 5 (2, 3))) (some ⟨w.heap.size, 0, none⟩) (some ⟨w.heap.size + 1, 0, none⟩) 1 1 2 2 [97] [98, 99] g1' (Nat.le_refl _) (fun e => by cases e) (by simpa using g2) (Nat.le_refl _) (fun e => by cases e) (by omega) ((ht.alloc _).alloc _)
  rw [show crc ([97] ++ [98, 99]) = 891568578 by kernel_rfl] at this
  simp only [World.size_alloc] at this
  refine this.mono ?_
  rintro e w' ⟨rfl, rfl⟩
  exact ⟨rfl, below_of_alloc (below_of_alloc (below_alloc _ _))⟩

theorem call_ofT (w : World) (ht : Tab w) (xs : List Int) (n : Nat) (C : Array Value) (hC : (U8 xs).toArray = C) (fr : Nat × Nat) (hn : xs.length = n) (hx : Bytes xs) (hnb : n ≤ 100) (r : Nat) (hr : crc xs = r) (s : Nat) (hs : w.heap.size = s) : Calls Tryd.prog 10 #[.slice (some ⟨s + 1, 0, none⟩) 1 1]
    ((w.alloc (.cells C 5 fr)).alloc (.cells #[.slice (some ⟨s, 0, none⟩) n n] 25)) fun e w' => e = .returned (.int .u32 r) ∧ Below w.heap.size w w' := by
  subst hs hr hC
  have := of_one (w.alloc (.cells (U8 xs).toArray 5 fr)) _ n n xs (lit_mark w xs n fr hn hx) (Nat.le_refl _) (fun e => by cases e) (by omega) (ht.alloc _)
  simp only [World.size_alloc] at this
  refine this.mono ?_
  rintro e w' ⟨rfl, rfl⟩
  exact ⟨rfl, below_of_alloc (below_alloc _ _)⟩

theorem call_join (w : World) (a b : Nat) (n : Int) (r : Nat) (e0 : Int) (h : joinS a b n = (r, e0)) (ha : a < 4294967296) (hb : b < 4294967296) (hn : n < 9223372036854775808) :
    Calls Tryd.prog 11 #[.int .u32 a, .int .u32 b, .int .i64 n] w fun e w' => e = .returned (.tuple #[.int .u32 r, .int .i64 e0]) ∧ w = w' := by
  have := join_any a b n ha hb hn w
  rw [h] at this
  exact this
theorem call_turned (w : World) (ht : Tab w) (n i x : Int) (r : Nat) (e0 : Int) (h : turnS n i x = (r, e0)) (hn1 : -9223372036854775808 ≤ n) (hn2 : n < 9223372036854775808) (hi1 : -9223372036854775808 ≤ i) (hi2 : i < 9223372036854775808) (hx0 : 0 ≤ x) (hx1 : x < 256) :
    Calls Tryd.prog 12 #[.int .i64 n, .int .i64 i, .int .u8 x] w fun e w' => e = .returned (.tuple #[.int .u32 r, .int .i64 e0]) ∧ w = w' := by
  have := turned_any n i x hn1 hn2 hi1 hi2 hx0 hx1 w ht
  rw [h] at this
  exact this

set_option maxHeartbeats 1000000 in
theorem sumNames_any (w : World) (ht : Tab w) : Calls Tryd.prog 3 #[] w fun e w' => e = .returned (.bool true) ∧ Below w.heap.size w w' := by
  have HT : Hid (Tab w) := ht
  clear ht
  go_enter Tryd.func3, Tryd.ntmps3
  go_wp2_with fail
  refine (fixed_any _ HT.out).mono ?_
  rintro e w1 ⟨rfl, hb1⟩
  have HB1 : Hid (Below w.heap.size w w1) := hb1
  clear hb1
  go_wp2_with fail
  refine (call_of1 w1 (HT.out.later HB1.out) 0 (by omega) 3523407757 (by kernel_rfl) w1.heap.size rfl).mono ?_
  rintro e w2 ⟨rfl, hb2⟩
  have HB2 : Hid (Below w.heap.size w w2) := below_then HB1.out hb2
  clear hb2
  go_wp2_with fail
  refine (call_of1 w2 (HT.out.later HB2.out) 255 (by omega) 4278190080 (by kernel_rfl) w2.heap.size rfl).mono ?_
  rintro e w3 ⟨rfl, hb3⟩
  have HB3 : Hid (Below w.heap.size w w3) := below_then HB2.out hb3
  clear hb3
  have q1 := conv_const w3 #[.int .u8 97] 1 w3.heap.size rfl
  have q2 := conv_const (w3.alloc (.cells #[.int .u8 97] 5 (1, 2))) #[.int .u8 98, .int .u8 99] 2 (w3.heap.size + 1) (by simp)
  go_wp2_with fail
  clear q1 q2
  refine (call_ofabc w3 (HT.out.later HB3.out) w3.heap.size rfl).mono ?_
  rintro e w4 ⟨rfl, hb4⟩
  have HB4 : Hid (Below w.heap.size w w4) := below_then HB3.out hb4
  clear hb4
  go_wp2_with fail
  refine (call_join w4 0 7 0 7 0 (by decide) (by omega) (by omega) (by omega)).mono ?_
  rintro e w' ⟨rfl, rfl⟩
  go_wp2_with fail
  refine (call_join w4 99 0 0 99 0 (by decide) (by omega) (by omega) (by omega)).mono ?_
  rintro e w' ⟨rfl, rfl⟩
  have q1 := conv_const w4 T5 5 w4.heap.size rfl
  go_wp2_with fail
  clear q1
  refine (call_ofT w4 (HT.out.later HB4.out) [49, 50, 51, 52, 53] 5 T5 rfl (5, 6) rfl (bytes_of (by decide)) (by omega) 3421846044 (by kernel_rfl) w4.heap.size rfl).mono ?_
  rintro e w5 ⟨rfl, hb5⟩
  have HB5 : Hid (Below w.heap.size w w5) := below_then HB4.out hb5
  clear hb5
  have q1 := conv_const w5 T4 4 w5.heap.size rfl
  go_wp2_with fail
  clear q1
  refine (call_ofT w5 (HT.out.later HB5.out) [54, 55, 56, 57] 4 T4 rfl (4, 5) rfl (bytes_of (by decide)) (by omega) 2646261639 (by kernel_rfl) w5.heap.size rfl).mono ?_
  rintro e w6 ⟨rfl, hb6⟩
  have HB6 : Hid (Below w.heap.size w w6) := below_then HB5.out hb6
  clear hb6
  go_wp2_with fail
  refine (call_join w6 3421846044 2646261639 4 3421780262 0 (by kernel_rfl) (by omega) (by omega) (by omega)).mono ?_
  rintro e w' ⟨rfl, rfl⟩
  go_wp2_with fail
  refine (call_turned w6 (HT.out.later HB6.out) 2 0 0 0 0 (by decide) (by omega) (by omega) (by omega) (by omega) (by omega) (by omega)).mono ?_
  rintro e w' ⟨rfl, rfl⟩
  go_wp2_with fail
  refine (call_turned w6 (HT.out.later HB6.out) 2 2 1 0 2 (by decide) (by omega) (by omega) (by omega) (by omega) (by omega) (by omega)).mono ?_
  rintro e w' ⟨rfl, rfl⟩
  go_wp2_with fail
  refine (call_turned w6 (HT.out.later HB6.out) 0 0 1 0 2 (by decide) (by omega) (by omega) (by omega) (by omega) (by omega) (by omega)).mono ?_
  rintro e w' ⟨rfl, rfl⟩
  go_wp2_with fail
  go_ret
  exact ⟨rfl, HB6.out⟩
end Go.Proofs.YtaencchobpgogaaDoor
