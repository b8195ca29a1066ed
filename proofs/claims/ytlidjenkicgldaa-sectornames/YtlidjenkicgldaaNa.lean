/-
  The statement SectorNames: its walk.
-/
import Derived.Test.YtlidjenkicgldaaMa
namespace Go.Proofs.Ytlidjenkicgldaa
open Go.RowKit

set_option maxRecDepth 10000 in
set_option maxHeartbeats 4000000 in
theorem names_any (w : World) : Calls Try.prog 3 #[] w fun e w' => e = .returned (.bool true) ∧ Below w.heap.size w w' := by
  obtain ⟨i0, hi, hz0, hz1, hz2⟩ := info_parts info5
  have hmk : ∀ w, ∃ ob, (Instr.makeSlice 23 (.int .i64 262208) (.int .i64 262208)).run Try.prog w = .ok (.slice (some ⟨w.heap.size, 0, none⟩) 262208 262208) (w.alloc ob) := fun w =>
    ⟨_, run_make (P := Try.prog) w 23 5 i0 _ Try.underlying23 hi hz0 .i64 .i64 262208 262208 (by omega) (by omega) (by rw [hz2]; omega) (by omega)⟩
  go_enter Try.func3, Try.ntmps3
  go_wp2_with fail
  refine (read_nil 0 w).mono ?_
  rintro e w1 ⟨rfl, rfl⟩
  go_wp2_with fail
  refine (flush_nil w).mono ?_
  rintro e w1 ⟨rfl, rfl⟩
  go_wp2_with fail
  refine (crash_nil _ _).mono ?_
  rintro e w1 ⟨rfl, rfl⟩
  have HB : Hid (Below w.heap.size w (w.alloc (.cells #[.int .i64 0] 3))) := below_alloc w _
  generalize w.alloc (.cells #[.int .i64 0] 3) = W1 at *
  go_wp2_with fail
  refine (write_nil 0 _ _).mono ?_
  rintro e w1 ⟨rfl, rfl⟩
  go_wp2_with fail
  refine (len_nil _).mono ?_
  rintro e w1 ⟨rfl, rfl⟩
  go_wp2_with fail
  refine (waiting_nil _).mono ?_
  rintro e w1 ⟨rfl, rfl⟩
  go_wp2_with fail
  refine (image_nil _).mono ?_
  rintro e w1 ⟨rfl, rfl⟩
  go_wp2_with fail
  refine (copy_nil _).mono ?_
  rintro e w1 ⟨rfl, rfl⟩
  go_wp2_with fail
  have hl := lit_ints W1 [0, -1, 4097, 1099511627776] 4 rfl
  obtain ⟨b, o, e0, hc⟩ := hl.cells (by omega)
  simp only [Option.some.injEq, Addr.mk.injEq, and_true] at e0
  obtain ⟨rfl, rfl⟩ := e0
  have c0 := hc 0 (by omega)
  have c1 := hc 1 (by omega)
  have c2 := hc 2 (by omega)
  have c3 := hc 3 (by omega)
  simp only [List.map_cons, List.map_nil, List.getD_cons_zero, List.getD_cons_succ, Nat.zero_add] at c0 c1 c2 c3
  have HB2 : Hid (Below w.heap.size w (W1.alloc (.cells #[.int .i64 0, .int .i64 (-1), .int .i64 4097, .int .i64 1099511627776] 3))) := HB.out.alloc HB.out.size _
  clear hl hc HB
  generalize W1.alloc (.cells #[.int .i64 0, .int .i64 (-1), .int .i64 4097, .int .i64 1099511627776] 3) = W2 at *
  refine wp_loop_rounds 5 ?_
  rw [rounds_succ]
  go_wp2_with (first | (go_at_call 15; refine (new_bad _ _ (by omega)).mono ?_; rintro e w1 ⟨rfl, rfl⟩) | fail)
  rw [rounds_succ]
  go_wp2_with (first | (go_at_call 15; refine (new_bad _ _ (by omega)).mono ?_; rintro e w1 ⟨rfl, rfl⟩) | fail)
  rw [rounds_succ]
  go_wp2_with (first | (go_at_call 15; refine (new_bad _ _ (by omega)).mono ?_; rintro e w1 ⟨rfl, rfl⟩) | fail)
  rw [rounds_succ]
  go_wp2_with (first | (go_at_call 15; refine (new_bad _ _ (by omega)).mono ?_; rintro e w1 ⟨rfl, rfl⟩) | fail)
  rw [rounds_succ]
  go_wp2_with fail
  clear c0 c1 c2 c3
  refine (new_good 4096 W2 (by omega) (by omega)).mono ?_
  rintro e W3 ⟨p, rfl, hd, hb3⟩
  go_wp2_with fail
  refine (len_any hd).mono ?_
  rintro e w1 ⟨rfl, rfl⟩
  have HB3 : Hid (Below w.heap.size w W3) := below_then HB2.out hb3
  obtain ⟨ob, hob⟩ := hmk W3
  clear hd hb3 HB2 hmk
  go_wp2_with fail
  clear hob
  refine (load_bad _ 262208 262208 _ (by omega) (by omega) (by omega)).mono ?_
  rintro e w1 ⟨rfl, rfl⟩
  have HB4 : Hid (Below w.heap.size w (W3.alloc ob)) := HB3.out.alloc HB3.out.size _
  generalize W3.alloc ob = W4 at *
  go_wp2_with fail
  refine (load_bad none 0 0 _ (by omega) (by omega) (by omega)).mono ?_
  rintro e w1 ⟨rfl, rfl⟩
  go_wp2_with fail
  refine (awake_any _).mono ?_
  rintro e W5 ⟨rfl, hb5⟩
  have HB5 : Hid (Below w.heap.size w W5) := below_then HB4.out hb5
  clear hb5
  go_wp2
  go_ret
  exact ⟨rfl, HB5.out⟩
end Go.Proofs.Ytlidjenkicgldaa
