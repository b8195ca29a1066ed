/-
  The statement OctetNames: its walk.
-/
import Derived.Test.YtdfnpapnoedpkaaCh
namespace Go.Proofs.Ytdfnpapnoedpkaa
open Go.RowKit

theorem n_put1 (w : World) : Calls Try.prog 10 #[.int .u64 256, .int .i64 1] w fun e w' => ∃ p c, e = .returned (.tuple #[.slice p 0 c, .int .i64 10]) ∧ Below w.heap.size w w' := by
  refine (put_any 256 1 w (by omega)).mono ?_
  rintro e w' ⟨v, rfl, ho, hb⟩
  rw [show putS 256 1 = ([], 10) from by decide] at *
  obtain ⟨p, c, rfl, _⟩ := own_in ho Bytes.nil
  exact ⟨p, c, rfl, hb⟩
theorem n_put2 (w : World) : Calls Try.prog 10 #[.int .u64 0, .int .i64 9] w fun e w' => ∃ p c, e = .returned (.tuple #[.slice p 0 c, .int .i64 2]) ∧ Below w.heap.size w w' := by
  refine (put_any 0 9 w (by omega)).mono ?_
  rintro e w' ⟨v, rfl, ho, hb⟩
  rw [show putS 0 9 = ([], 2) from by decide] at *
  obtain ⟨p, c, rfl, _⟩ := own_in ho Bytes.nil
  exact ⟨p, c, rfl, hb⟩
theorem n_take1 (w : World) : Calls Try.prog 11 #[.slice (some ⟨w.heap.size, 0, none⟩) 1 1, .int .i64 2] (w.alloc (.cells #[.int .u8 2] 5)) fun e w' =>
    ∃ p c, e = .returned (.tuple #[.int .u64 0, .slice p 0 c, .int .i64 11]) ∧ Below w.heap.size w w' := by
  refine (take_any _ 1 1 [2] 2 _ (lit_in w [2] 1 rfl (bytes_of (by decide))) (by omega) (by omega)).mono ?_
  rintro e w' ⟨v, rfl, ho, hb⟩
  rw [show takeS [2] 2 = (0, [], 11) from by decide] at *
  obtain ⟨p, c, rfl, _⟩ := own_in ho Bytes.nil
  exact ⟨p, c, rfl, below_of_alloc hb⟩
theorem n_take2 (w : World) : Calls Try.prog 11 #[.slice none 0 0, .int .i64 9] w fun e w' =>
    ∃ p c, e = .returned (.tuple #[.int .u64 0, .slice p 0 c, .int .i64 2]) ∧ Below w.heap.size w w' := by
  refine (take_any none 0 0 [] 9 _ BIn.empty (by omega) (by omega)).mono ?_
  rintro e w' ⟨v, rfl, ho, hb⟩
  rw [show takeS [] 9 = (0, [], 2) from by decide] at *
  obtain ⟨p, c, rfl, _⟩ := own_in ho Bytes.nil
  exact ⟨p, c, rfl, hb⟩
theorem n_fields (w : World) (x y : Int) (er : Int) (hf : fieldsS [1] [x, y] = ([], [], er)) : Calls Try.prog 12 #[.slice (some ⟨w.heap.size, 0, none⟩) 1 1, .slice (some ⟨w.heap.size + 1, 0, none⟩) 2 2] ((w.alloc (.cells #[.int .u8 1] 5)).alloc (.cells #[.int .i64 x, .int .i64 y] 3)) fun e w' =>
    ∃ p1 c1 p2 c2, e = .returned (.tuple #[.slice p1 0 c1, .slice p2 0 c2, .int .i64 er]) ∧ Below w.heap.size w w' := by
  have h1 := (lit_in w [1] 1 rfl (bytes_of (by decide))).later (below_alloc _ (.cells #[.int .i64 x, .int .i64 y] 3))
  have h2 := lit_in64 (w.alloc (.cells #[.int .u8 1] 5)) .i64 3 [x, y] 2 rfl
  rw [World.size_alloc] at h2
  refine (fields_any _ _ 1 1 2 2 [1] [x, y] _ h1 h2 (by omega) (fun e => by cases e) (by omega) (by omega)).mono ?_
  rintro e w' ⟨v1, v2, rfl, ho1, ho2, hb⟩
  rw [hf] at *
  obtain ⟨p, c, rfl, h, _⟩ := own_in64 ho1
  obtain ⟨p2, c2, rfl, h2, _⟩ := own_in ho2 Bytes.nil
  exact ⟨p, c, p2, c2, rfl, below_of_alloc (below_of_alloc hb)⟩
theorem n_pad1 (w : World) : Calls Try.prog 13 #[.slice (some ⟨w.heap.size, 0, none⟩) 2 2, .int .i64 1] (w.alloc (.cells #[.int .u8 1, .int .u8 2] 5)) fun e w' =>
    ∃ p c, e = .returned (.tuple #[.slice p 0 c, .int .i64 10]) ∧ Below w.heap.size w w' := by
  refine (pad_any _ 2 2 [1, 2] 1 _ (lit_in w [1, 2] 2 rfl (bytes_of (by decide)))).mono ?_
  rintro e w' ⟨v, rfl, ho, hb⟩
  rw [show padS [1, 2] 1 = ([], 10) from by decide] at *
  obtain ⟨p, c, rfl, _⟩ := own_in ho Bytes.nil
  exact ⟨p, c, rfl, below_of_alloc hb⟩
theorem n_pad2 (w : World) : Calls Try.prog 13 #[.slice none 0 0, .int .i64 65] w fun e w' =>
    ∃ p c, e = .returned (.tuple #[.slice p 0 c, .int .i64 2]) ∧ Below w.heap.size w w' := by
  refine (pad_any none 0 0 [] 65 _ BIn.empty).mono ?_
  rintro e w' ⟨v, rfl, ho, hb⟩
  rw [show padS [] 65 = ([], 2) from by decide] at *
  obtain ⟨p, c, rfl, _⟩ := own_in ho Bytes.nil
  exact ⟨p, c, rfl, hb⟩

/-- one call behind another -/
theorem below_then {a b c : World} (h : Below a.heap.size a b) (k : Below b.heap.size b c) : Below a.heap.size a c := h.trans (k.mono h.size)

set_option maxHeartbeats 1000000 in
theorem octetNames_any (w : World) : Calls Try.prog 3 #[] w fun e w' => e = .returned (.bool true) ∧ Below w.heap.size w w' := by
  go_enter Try.func3, Try.ntmps3
  go_wp2_with fail
  refine (awake_any _).mono ?_
  rintro e w1 ⟨rfl, hb1⟩
  go_wp2_with fail
  refine (n_put1 _).mono ?_
  rintro e w2 ⟨p1, c1, rfl, hb2⟩
  go_wp2_with fail
  refine (n_put2 _).mono ?_
  rintro e w3 ⟨p2, c2, rfl, hb3⟩
  go_wp2_with fail
  refine (n_take1 _).mono ?_
  rintro e w4 ⟨p3, c3, rfl, hb4⟩
  go_wp2_with fail
  refine (n_take2 _).mono ?_
  rintro e w5 ⟨p4, c4, rfl, hb5⟩
  go_wp2_with fail
  refine (n_fields _ 9 1 2 (by decide)).mono ?_
  rintro e w6 ⟨p5, c5, p6, c6, rfl, hb6⟩
  go_wp2_with fail
  refine (n_fields _ 1 1 11 (by decide)).mono ?_
  rintro e w7 ⟨p7, c7, p8, c8, rfl, hb7⟩
  go_wp2_with fail
  refine (n_pad1 _).mono ?_
  rintro e w8 ⟨p9, c9, rfl, hb8⟩
  go_wp2_with fail
  refine (n_pad2 _).mono ?_
  rintro e w9 ⟨p10, c10, rfl, hb9⟩
  have hall := below_then (below_then (below_then (below_then (below_then (below_then (below_then (below_then hb1 hb2) hb3) hb4) hb5) hb6) hb7) hb8) hb9
  clear hb1 hb2 hb3 hb4 hb5 hb6 hb7 hb8 hb9
  go_wp2
  go_ret
  exact ⟨rfl, hall⟩

end Go.Proofs.Ytdfnpapnoedpkaa
