/-
  Of over parts that were laid side by side just ahead of the call; 'fixed'.
-/
import Derived.Test.YtaencchobpgogaaDoorSc
import Derived.Lib.SlBytesConst
namespace Go.Proofs.YtaencchobpgogaaDoor
open Go.RowKit

theorem Tab.later {w w' : World} (h : Tab w) (hb : Below w.heap.size w w') : Tab w' := fun i hi => by
  have hc := h i hi
  rw [hb.cell (p := ⟨0, i, none⟩) (World.block_lt_of_cell? w _ hc)]
  exact hc
theorem Tab.alloc {w : World} (h : Tab w) (o : Obj) : Tab (w.alloc o) := h.later (below_alloc w o)

theorem of_vals (W : World) (C : List Value) (ls : List (List Int)) (n : Nat) (hC : C.length = n) (hL : ls.length = n) (hp : ∀ i (h : i < C.length) (h2 : i < ls.length), SIn W C[i] ls[i])
    (hbig : ls.flatten.length ≤ 140737488355328) (hnb : n ≤ 140737488355328) (ht : Tab W) :
    Calls Tryd.prog 10 #[.slice (some ⟨W.heap.size, 0, none⟩) n n] (W.alloc (.cells C.toArray 25)) fun e w' => e = .returned (.int .u32 (crc ls.flatten : Nat)) ∧ W.alloc (.cells C.toArray 25) = w' := by
  have hbA := below_alloc W (.cells C.toArray 25)
  have hP : PIn (W.alloc (.cells C.toArray 25)) (some ⟨W.heap.size, 0, none⟩) n C ls := by
    refine ⟨hC, hL, fun _ => ⟨_, 0, rfl, fun i hi => ?_⟩, fun i h1 h2 => (hp i h1 h2).later hbA⟩
    rw [Nat.zero_add, cell_of_row _ W.heap.size i C.toArray 25 (0, 0) (Go.heap_alloc_new W _)]
    simp [List.getElem?_eq_getElem hi]
  exact of_parts _ n n C ls _ hP hbig hnb (ht.alloc _)

theorem of_one (W : World) (p : Option Addr) (n c : Nat) (xs : List Int) (h : BIn W p n xs) (hnc : n ≤ c) (hp : p = none → c = 0) (hbig : n ≤ 140737488355328) (ht : Tab W) :
    Calls Tryd.prog 10 #[.slice (some ⟨W.heap.size, 0, none⟩) 1 1] (W.alloc (.cells #[.slice p n c] 25)) fun e w' => e = .returned (.int .u32 (crc xs : Nat)) ∧ W.alloc (.cells #[.slice p n c] 25) = w' := by
  have e : [xs].flatten = xs := by simp
  have := of_vals W [.slice p n c] [xs] 1 rfl rfl (fun i h1 h2 => by match i, h1, h2 with | 0, _, _ => exact ⟨p, n, c, rfl, h, hnc, hp⟩) (by rw [e, h.len]; exact hbig) (by omega) ht
  rw [e] at this
  exact this

theorem of_two (W : World) (p q : Option Addr) (n c m d : Nat) (xs ys : List Int) (h : BIn W p n xs) (hnc : n ≤ c) (hp : p = none → c = 0) (h' : BIn W q m ys) (hmd : m ≤ d) (hq : q = none → d = 0) (hbig : n + m ≤ 140737488355328) (ht : Tab W) :
    Calls Tryd.prog 10 #[.slice (some ⟨W.heap.size, 0, none⟩) 2 2] (W.alloc (.cells #[.slice p n c, .slice q m d] 25)) fun e w' => e = .returned (.int .u32 (crc (xs ++ ys) : Nat)) ∧ W.alloc (.cells #[.slice p n c, .slice q m d] 25) = w' := by
  have e : [xs, ys].flatten = xs ++ ys := by simp
  have := of_vals W [.slice p n c, .slice q m d] [xs, ys] 2 rfl rfl (fun i h1 h2 => by
    match i, h1, h2 with
    | 0, _, _ => exact ⟨p, n, c, rfl, h, hnc, hp⟩
    | 1, _, _ => exact ⟨q, m, d, rfl, h', hmd, hq⟩) (by rw [e, List.length_append, h.len, h'.len]; exact hbig) (by omega) ht
  rw [e] at this
  exact this

theorem of_three (W : World) (p q r : Option Addr) (n c m d l f : Nat) (xs ys zs : List Int) (h : BIn W p n xs) (hnc : n ≤ c) (hp : p = none → c = 0) (h' : BIn W q m ys) (hmd : m ≤ d) (hq : q = none → d = 0) (h'' : BIn W r l zs) (hlf : l ≤ f) (hr : r = none → f = 0) (hbig : n + m + l ≤ 140737488355328) (ht : Tab W) :
    Calls Tryd.prog 10 #[.slice (some ⟨W.heap.size, 0, none⟩) 3 3] (W.alloc (.cells #[.slice p n c, .slice q m d, .slice r l f] 25)) fun e w' => e = .returned (.int .u32 (crc (xs ++ ys ++ zs) : Nat)) ∧ W.alloc (.cells #[.slice p n c, .slice q m d, .slice r l f] 25) = w' := by
  have e : [xs, ys, zs].flatten = xs ++ ys ++ zs := by simp
  have := of_vals W [.slice p n c, .slice q m d, .slice r l f] [xs, ys, zs] 3 rfl rfl (fun i h1 h2 => by
    match i, h1, h2 with
    | 0, _, _ => exact ⟨p, n, c, rfl, h, hnc, hp⟩
    | 1, _, _ => exact ⟨q, m, d, rfl, h', hmd, hq⟩
    | 2, _, _ => exact ⟨r, l, f, rfl, h'', hlf, hr⟩) (by rw [e, List.length_append, List.length_append, h.len, h'.len, h''.len]; exact hbig) (by omega) ht
  rw [e] at this
  exact this

theorem call_j1 (w : World) : Calls Tryd.prog 11 #[.int .u32 1, .int .u32 0, .int .i64 1] w fun e w' => e = .returned (.tuple #[.int .u32 1996959894, .int .i64 0]) ∧ w = w' := by
  have := join_any 1 0 1 (by omega) (by omega) (by omega) w
  rw [show joinS 1 0 1 = (1996959894, 0) by decide] at this
  exact this
theorem call_j2 (w : World) : Calls Tryd.prog 11 #[.int .u32 1, .int .u32 2, .int .i64 (-1)] w fun e w' => e = .returned (.tuple #[.int .u32 0, .int .i64 2]) ∧ w = w' := by
  have := join_any 1 2 (-1) (by omega) (by omega) (by omega) w
  rw [show joinS 1 2 (-1) = (0, 2) by decide] at this
  exact this
theorem call_t1 (w : World) (ht : Tab w) : Calls Tryd.prog 12 #[.int .i64 1, .int .i64 0, .int .u8 1] w fun e w' => e = .returned (.tuple #[.int .u32 1996959894, .int .i64 0]) ∧ w = w' := by
  have := turned_any 1 0 1 (by omega) (by omega) (by omega) (by omega) (by omega) (by omega) w ht
  rw [show turnS 1 0 1 = (1996959894, 0) by decide] at this
  exact this

/-- the bytes of a constant text, marked behind -/
theorem lit_mark (w : World) (xs : List Int) (n : Nat) (fr : Nat × Nat) (hl : xs.length = n) (hb : Bytes xs) : BIn (w.alloc (.cells (U8 xs).toArray 5 fr)) (some ⟨w.heap.size, 0, none⟩) n xs := by
  refine ⟨hl, hb, fun _ => ⟨_, 0, rfl, fun i hi => ?_⟩⟩
  rw [Nat.zero_add, cell_of_row _ w.heap.size i (U8 xs).toArray 5 fr (Go.heap_alloc_new w _)]
  simp [U8, List.getD, List.getElem?_eq_getElem (show i < xs.length by omega)]

abbrev T5 : Array Value := #[.int .u8 49, .int .u8 50, .int .u8 51, .int .u8 52, .int .u8 53]
abbrev T4 : Array Value := #[.int .u8 54, .int .u8 55, .int .u8 56, .int .u8 57]

theorem conv_const (w : World) (C : Array Value) (n : Nat) (s : Nat) (hs : w.heap.size = s) :
    (convert 25 25 (.slice (some ⟨s, 0, none⟩) n n)).run Tryd.prog (w.alloc (.cells C 5)) = .ok (.slice (some ⟨s, 0, none⟩) n n) (w.alloc (.cells C 5 (C.size, C.size + 1))) := by
  subst hs
  exact Lib.run_convert_bytes_const w 25 5 C n n Tryd.underlying25 Tryd.underlying5

theorem call_of9 (w : World) (ht : Tab w) : Calls Tryd.prog 10 #[.slice (some ⟨w.heap.size + 1 + 1, 0, none⟩) 2 2]
    (((w.alloc (.cells T5 5 (5, 6))).alloc (.cells T4 5 (4, 5))).alloc (.cells #[.slice (some ⟨w.heap.size, 0, none⟩) 5 5, .slice (some ⟨w.heap.size + 1, 0, none⟩) 4 4] 25)) fun e w' =>
    e = .returned (.int .u32 3421780262) ∧ Below w.heap.size w w' := by
  have g1 := lit_mark w [49, 50, 51, 52, 53] 5 (5, 6) rfl (bytes_of (by decide))
  have g2 := lit_mark (w.alloc (.cells T5 5 (5, 6))) [54, 55, 56, 57] 4 (4, 5) rfl (bytes_of (by decide))
  have g1' := g1.later (below_alloc (w.alloc (.cells T5 5 (5, 6))) (.cells T4 5 (4, 5)))
  have := of_two ((w.alloc (.cells T5 5 (5, 6))).alloc (.cells T4 5 (4, 5))) (some ⟨w.heap.size, 0, none⟩) (some ⟨w.heap.size + 1, 0, none⟩) 5 5 4 4 [49, 50, 51, 52, 53] [54, 55, 56, 57] g1' (Nat.le_refl _) (fun e => by cases e) (by simpa using g2) (Nat.le_refl _) (fun e => by cases e) (by omega) ((ht.alloc _).alloc _)
  rw [show crc ([49, 50, 51, 52, 53] ++ [54, 55, 56, 57]) = 3421780262 by kernel_rfl] at this
  simp only [World.size_alloc] at this
  refine this.mono ?_
  rintro e w' ⟨rfl, rfl⟩
  exact ⟨rfl, below_of_alloc (below_of_alloc (below_alloc _ _))⟩

set_option maxHeartbeats 1000000 in
theorem fixed_any (w : World) (ht : Tab w) : Calls Tryd.prog 9 #[] w fun e w' => e = .returned (.bool true) ∧ Below w.heap.size w w' := by
  have HT : Hid (Tab w) := ht
  clear ht
  go_enter Tryd.func9, Tryd.ntmps9
  go_wp2_with fail
  refine (call_j1 _).mono ?_
  rintro e w' ⟨rfl, rfl⟩
  go_wp2_with fail
  refine (call_t1 _ HT.out).mono ?_
  rintro e w' ⟨rfl, rfl⟩
  go_wp2_with fail
  refine (call_j2 _).mono ?_
  rintro e w' ⟨rfl, rfl⟩
  go_wp2_with fail
  refine (of_zero _ _ _).mono ?_
  rintro e w' ⟨rfl, rfl⟩
  have q1 := conv_const w T5 5 w.heap.size rfl
  have q2 := conv_const (w.alloc (.cells T5 5 (5, 6))) T4 4 (w.heap.size + 1) (by simp)
  go_wp2_with fail
  clear q1 q2
  refine (call_of9 w HT.out).mono ?_
  rintro e w1 ⟨rfl, hb⟩
  have HB : Hid (Below w.heap.size w w1) := hb
  clear hb
  go_wp2_with fail
  go_ret
  exact ⟨rfl, HB.out⟩
end Go.Proofs.YtaencchobpgogaaDoor
