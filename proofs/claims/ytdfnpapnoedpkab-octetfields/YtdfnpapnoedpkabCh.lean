/-
  Contracts of layer 1, eighth part: wicketlaw01.awake.
-/
import Derived.Test.YtdfnpapnoedpkabCb
import Derived.Test.YtdfnpapnoedpkabCc
import Derived.Test.YtdfnpapnoedpkabCe
import Derived.Test.YtdfnpapnoedpkabCg
namespace Go.Proofs.Ytdfnpapnoedpkab
open Go.RowKit

theorem str_list (xs : List Int) : (strOfNums xs).toList = xs.map fun n => UInt8.ofNat n.toNat := by rw [ByteArray.toList_eq]; rfl

theorem bytes_of {xs : List Int} (h : xs.all (fun x => decide (0 ≤ x ∧ x < 256)) = true) : Bytes xs := by
  intro x hx
  have := List.all_eq_true.1 h x hx
  simpa using this

/-- a literal's block -/
theorem lit_in (w : World) (xs : List Int) (n : Nat) (hl : xs.length = n) (hb : Bytes xs) : BIn (w.alloc (.cells (U8 xs).toArray 5)) (some ⟨w.heap.size, 0, none⟩) n xs := by
  refine ⟨hl, hb, fun h0 => ⟨_, 0, rfl, fun i hi => ?_⟩⟩
  rw [Nat.zero_add, cell_of_row _ w.heap.size i (U8 xs).toArray 5 (0, 0) (heap_alloc_new w _)]
  simp [U8, List.getD, List.getElem?_eq_getElem (show i < xs.length by omega)]

theorem lit_in64 (w : World) (k : IntKind) (t : TypeId) (xs : List Int) (n : Nat) (hl : xs.length = n) : IIn (w.alloc (.cells (xs.map (Value.int k)).toArray t)) k (some ⟨w.heap.size, 0, none⟩) n xs := by
  refine ⟨hl, fun h0 => ⟨_, 0, rfl, fun i hi => ?_⟩⟩
  rw [Nat.zero_add, cell_of_row _ w.heap.size i (xs.map (Value.int k)).toArray t (0, 0) (heap_alloc_new w _)]
  simp [List.getElem?_eq_getElem hi]

theorem BIn.drewN {w : World} {p : Option Addr} {n : Nat} {xs : List Int} (h : BIn w p n xs) (j : Nat) : BIn (w.drewN j) p n xs := ⟨h.len, h.byte, h.cells⟩
theorem below_alloc (w : World) (o : Obj) : Below w.heap.size w (w.alloc o) := (Below.refl _ _).alloc (Nat.le_refl _) o
theorem below_of_alloc {w w' : World} {o : Obj} (h : Below (w.alloc o).heap.size (w.alloc o) w') : Below w.heap.size w w' := (below_alloc w o).trans (h.mono (by simp))

theorem a_put (w : World) : Calls Try.prog 16 #[.int .u64 258, .int .i64 4] w fun e w' => ∃ p c, e = .returned (.tuple #[.slice p 4 c, .int .i64 0]) ∧ BIn w' p 4 [2, 1, 0, 0] ∧ Below w.heap.size w w' := by
  refine (put_any 258 4 w (by omega)).mono ?_
  rintro e w' ⟨v, rfl, ho, hb⟩
  rw [show putS 258 4 = ([2, 1, 0, 0], 0) from by decide] at *
  obtain ⟨p, c, rfl, h, _⟩ := own_in ho (bytes_of (by decide))
  exact ⟨p, c, rfl, h, hb⟩

theorem a_take (w : World) : Calls Try.prog 17 #[.slice (some ⟨w.heap.size, 0, none⟩) 3 3, .int .i64 2] (w.alloc (.cells #[.int .u8 2, .int .u8 1, .int .u8 7] 5)) fun e w' =>
    ∃ p c, e = .returned (.tuple #[.int .u64 258, .slice p 1 c, .int .i64 0]) ∧ BIn w' p 1 [7] ∧ Below w.heap.size w w' := by
  refine (take_any _ 3 3 [2, 1, 7] 2 _ (lit_in w [2, 1, 7] 3 rfl (bytes_of (by decide))) (by omega) (by omega)).mono ?_
  rintro e w' ⟨v, rfl, ho, hb⟩
  rw [show takeS [2, 1, 7] 2 = (258, [7], 0) from by decide] at *
  obtain ⟨p, c, rfl, h, _⟩ := own_in ho (bytes_of (by decide))
  exact ⟨p, c, rfl, h, below_of_alloc hb⟩

theorem a_fields (w : World) : Calls Try.prog 8 #[.slice (some ⟨w.heap.size, 0, none⟩) 4 4, .slice (some ⟨w.heap.size + 1, 0, none⟩) 2 2] ((w.alloc (.cells #[.int .u8 1, .int .u8 2, .int .u8 0, .int .u8 3] 5)).alloc (.cells #[.int .i64 1, .int .i64 2] 3)) fun e w' =>
    ∃ p1 c1 p2 c2, e = .returned (.tuple #[.slice p1 2 c1, .slice p2 1 c2, .int .i64 0]) ∧ IIn w' .u64 p1 2 [1, 2] ∧ BIn w' p2 1 [3] ∧ Below w.heap.size w w' := by
  have h1 := (lit_in w [1, 2, 0, 3] 4 rfl (bytes_of (by decide))).later (below_alloc _ (.cells #[.int .i64 1, .int .i64 2] 3))
  have h2 := lit_in64 (w.alloc (.cells #[.int .u8 1, .int .u8 2, .int .u8 0, .int .u8 3] 5)) .i64 3 [1, 2] 2 rfl
  rw [World.size_alloc] at h2
  refine (fields_any _ _ 4 4 2 2 [1, 2, 0, 3] [1, 2] _ h1 h2 (by omega) (fun e => by cases e) (by omega) (by omega)).mono ?_
  rintro e w' ⟨v1, v2, rfl, ho1, ho2, hb⟩
  rw [show fieldsS [1, 2, 0, 3] [1, 2] = ([1, 2], [3], 0) from by decide] at *
  obtain ⟨p, c, rfl, h, _⟩ := own_in64 ho1
  obtain ⟨p2, c2, rfl, h2, _⟩ := own_in ho2 (bytes_of (by decide))
  exact ⟨p, c, p2, c2, rfl, h, h2, below_of_alloc (below_of_alloc hb)⟩

theorem a_pad (w : World) : Calls Try.prog 18 #[.slice (some ⟨w.heap.size, 0, none⟩) 1 1, .int .i64 3] (w.alloc (.cells #[.int .u8 1] 5)) fun e w' =>
    ∃ p c, e = .returned (.tuple #[.slice p 3 c, .int .i64 0]) ∧ BIn w' p 3 [1, 0, 0] ∧ Below w.heap.size w w' := by
  refine (pad_any _ 1 1 [1] 3 _ (lit_in w [1] 1 rfl (bytes_of (by decide)))).mono ?_
  rintro e w' ⟨v, rfl, ho, hb⟩
  rw [show padS [1] 3 = ([1, 0, 0], 0) from by decide] at *
  obtain ⟨p, c, rfl, h, _⟩ := own_in ho (bytes_of (by decide))
  exact ⟨p, c, rfl, h, below_of_alloc hb⟩

theorem a_join (w : World) (O : Obj) (nq : Nat) : Calls Try.prog 19 #[.slice (some ⟨w.heap.size + 1 + 1 + 1, 0, none⟩) 3 3]
    (((((w.alloc O).alloc (.cells #[.int .u8 1] 5)).alloc (.cells #[.int .u8 2] 5)).alloc (.cells #[.slice (some ⟨w.heap.size + 1, 0, none⟩) 1 1, .slice none 0 0, .slice (some ⟨w.heap.size + 1 + 1, 0, none⟩) 1 1] 22)).drewN nq) fun e w' =>
    ∃ p c, e = .returned (.slice p 2 c) ∧ BIn w' p 2 [1, 2] ∧ Below w.heap.size w w' := by
  have g1 := lit_in (w.alloc O) [1] 1 rfl (bytes_of (by decide))
  have g2 := lit_in ((w.alloc O).alloc (.cells #[.int .u8 1] 5)) [2] 1 rfl (bytes_of (by decide))
  obtain ⟨W, hW⟩ : ∃ W, W = ((w.alloc O).alloc (.cells #[.int .u8 1] 5)).alloc (.cells #[.int .u8 2] 5) := ⟨_, rfl⟩
  have hb2 : Below ((w.alloc O).alloc (.cells #[.int .u8 1] 5)).heap.size ((w.alloc O).alloc (.cells #[.int .u8 1] 5)) W := by rw [hW]; exact below_alloc _ _
  have hbW : Below w.heap.size w W := by rw [hW]; exact below_of_alloc (below_of_alloc (below_alloc _ _))
  have g1W : BIn W (some ⟨w.heap.size + 1, 0, none⟩) 1 [1] := by have := g1.later hb2; simpa using this
  have g2W : BIn W (some ⟨w.heap.size + 1 + 1, 0, none⟩) 1 [2] := by rw [hW]; simpa using g2
  have hsz : W.heap.size = w.heap.size + 1 + 1 + 1 := by rw [hW]; simp
  rw [← hW, ← hsz]
  clear hW g1 g2 hb2
  obtain ⟨C, hC⟩ : ∃ C : List Value, C = [.slice (some ⟨w.heap.size + 1, 0, none⟩) 1 1, .slice none 0 0, .slice (some ⟨w.heap.size + 1 + 1, 0, none⟩) 1 1] := ⟨_, rfl⟩
  have hbA := below_alloc W (.cells C.toArray 22)
  have hP : PIn ((W.alloc (.cells C.toArray 22)).drewN nq) (some ⟨W.heap.size, 0, none⟩) 3 C [[1], [], [2]] := by
    refine ⟨by rw [hC]; rfl, rfl, fun _ => ⟨_, 0, rfl, fun i hi => ?_⟩, fun i h1 h2 => ?_⟩
    · show (W.alloc (.cells C.toArray 22)).cell? _ = _
      rw [Nat.zero_add, cell_of_row _ W.heap.size i C.toArray 22 (0, 0) (heap_alloc_new W _)]
      simp [List.getElem?_eq_getElem hi]
    · subst hC
      match i, h1, h2 with
      | 0, _, _ => exact ⟨_, 1, 1, rfl, (g1W.later hbA).drewN nq, Nat.le_refl _, fun e => by cases e⟩
      | 1, _, _ => exact ⟨none, 0, 0, rfl, BIn.empty, Nat.le_refl _, fun _ => rfl⟩
      | 2, _, _ => exact ⟨_, 1, 1, rfl, (g2W.later hbA).drewN nq, Nat.le_refl _, fun e => by cases e⟩
  rw [show (#[.slice (some ⟨w.heap.size + 1, 0, none⟩) 1 1, .slice none 0 0, .slice (some ⟨w.heap.size + 1 + 1, 0, none⟩) 1 1] : Array Value) = C.toArray by rw [hC]]
  refine (join_any _ 3 3 C [[1], [], [2]] _ hP (by decide) (by omega)).mono ?_
  rintro e w' ⟨v, rfl, ho, hb⟩
  obtain ⟨p, c, rfl, h, _⟩ := own_in ho (bytes_of (by decide))
  have hb' : Below (W.alloc (.cells C.toArray 22)).heap.size (W.alloc (.cells C.toArray 22)) w' := ⟨hb.os, hb.tape, hb.output, hb.size, hb.block⟩
  exact ⟨p, c, rfl, h, hbW.trans ((below_of_alloc hb').mono (by omega))⟩

theorem a_blank (w : World) (xs : List Int) (n : Nat) (hl : xs.length = n) (hx : Bytes xs) (hn : n ≤ maxLen) : Calls Try.prog 20 #[.slice (some ⟨w.heap.size, 0, none⟩) n n] (w.alloc (.cells (U8 xs).toArray 5)) fun e w' =>
    e = .returned (.bool (blankS xs)) ∧ w.alloc (.cells (U8 xs).toArray 5) = w' := blank_any _ n n xs _ hn (lit_in w xs n hl hx)

set_option maxHeartbeats 1000000 in
theorem awake_any (w : World) : Calls Try.prog 4 #[] w fun e w' => e = .returned (.bool true) ∧ Below w.heap.size w w' := by
  go_enter Try.func4, Try.ntmps4
  go_wp2_with fail
  refine (a_put _).mono ?_
  rintro e w1 ⟨p1, c1, rfl, h1, hb1⟩
  go_wp2_with fail
  refine (a_take _).mono ?_
  rintro e w2 ⟨p2, c2, rfl, h2, hb2⟩
  go_wp2_with fail
  refine (a_fields _).mono ?_
  rintro e w3 ⟨p3, c3, p4, c4, rfl, h3, h4, hb3⟩
  go_wp2_with fail
  refine (a_pad _).mono ?_
  rintro e w4 ⟨p5, c5, rfl, h5, hb4⟩
  have k1 := (((h1.later hb2).later hb3).later hb4).str c1
  have k2 := ((h2.later hb3).later hb4).str c2
  have k5 := h5.str c5
  have t1 : (strOfNums [2, 1, 0, 0]).toList = [2, 1, 0, 0] := by rw [str_list]; rfl
  have t2 : (strOfNums [7]).toList = [7] := by rw [str_list]; rfl
  have t5 : (strOfNums [1, 0, 0]).toList = [1, 0, 0] := by rw [str_list]; rfl
  go_wp2_with fail
  clear k1 k2 k5 t1 t2 t5
  have hs := lit_in64 w4 .u64 44 [1, 2] 2 rfl
  have hba := below_alloc w4 (.cells #[Value.int IntKind.u64 1, Value.int IntKind.u64 2] 44)
  refine (same_any _ _ _ _ _ _ [1, 2] [1, 2] _ ?_ ?_ (by omega)).mono ?_
  · exact (h3.later hb4).later hba
  · exact hs
  rintro e w5 ⟨rfl, nq, rfl⟩
  have ht : decide (([1, 2] : List Int) = [1, 2]) = true := by decide
  have k4 := (((h4.later hb4).later hba).drewN nq).str c4
  have t4 : (strOfNums [3]).toList = [3] := by rw [str_list]; rfl
  have ad : ∀ W j o, (World.drewN W j).alloc o = (W.alloc o).drewN j := fun _ _ _ => rfl
  go_wp2_with fail
  clear k4 t4 ad ht hs
  refine (a_join w4 _ nq).mono ?_
  rintro e w6 ⟨p6, c6, rfl, h6, hb6⟩
  have k6 := h6.str c6
  have t6 : (strOfNums [1, 2]).toList = [1, 2] := by rw [str_list]; rfl
  go_wp2_with fail
  refine (a_blank w6 [0, 0] 2 rfl (bytes_of (by decide)) (by decide)).mono ?_
  rintro e w7 ⟨rfl, rfl⟩
  have z1 : blankS [0, 0] = true := by decide
  go_wp2_with fail
  clear k6 t6
  rw [← World.size_alloc w6 (Obj.cells #[Value.int IntKind.u8 0, Value.int IntKind.u8 0] 5)]
  refine (a_blank _ [0, 1] 2 rfl (bytes_of (by decide)) (by decide)).mono ?_
  rintro e w7 ⟨rfl, rfl⟩
  have z2 : blankS [0, 1] = false := by decide
  go_wp2
  go_ret
  refine ⟨rfl, ?_⟩
  have hq : Below w4.heap.size w4 ((w6.alloc (.cells (U8 [0, 0]).toArray 5)).alloc (.cells (U8 [0, 1]).toArray 5)) :=
    hb6.trans (((below_alloc w6 _).mono hb6.size).trans ((below_alloc _ _).mono (by have := hb6.size; simp; omega)))
  exact hb1.trans ((hb2.mono hb1.size).trans ((hb3.mono (by have := hb1.size; have := hb2.size; omega)).trans ((hb4.mono (by have := hb1.size; have := hb2.size; have := hb3.size; omega)).trans (hq.mono (by have := hb1.size; have := hb2.size; have := hb3.size; have := hb4.size; omega)))))
end Go.Proofs.Ytdfnpapnoedpkab
