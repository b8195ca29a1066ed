/-
  Contracts of layer 4, first part: refuses, Len, bytes.Clone, New, Read.
-/
import Derived.Test.YtefnkjajjidfaaaGreatDoorDKa
import Derived.Deep.RegionHeld3
namespace Go.Proofs.YtefnkjajjidfaaaGreatDoor
open Go.RowKit
theorem info71 : (Tryz.prog.info? 118).map (fun i => (i.zero, i.size, i.bytes)) = some (some (.agg (List.replicate 128 (Value.int .u8 0)).toArray), 128, 128) := by kernel_rfl
theorem info80 : (Tryz.prog.info? 121).map (fun i => (i.zero, i.size, i.bytes)) = some (some (.agg (.int .i64 0 :: List.replicate 64 (Value.int .u8 0)).toArray), 65, 72) := by kernel_rfl
theorem size69 : (Tryz.prog.info? 116).map (·.size) = some 64 := by kernel_rfl
theorem size71 : (Tryz.prog.info? 118).map (·.size) = some 128 := by kernel_rfl
theorem size80 : (Tryz.prog.info? 121).map (·.size) = some 65 := by kernel_rfl
/-- what 'refuses' tells -/
def refS (n : Nat) (i : Int) : Int := if 0 ≤ i ∧ i < n then 0 else 40
set_option maxHeartbeats 400000 in
set_option maxRecDepth 100000 in
theorem refuses_nil (i : Int) (w : World) : Calls Tryz.prog 38 #[.pointer none, .int .i64 i] w fun e w' => e = .returned (.int .i64 1) ∧ w = w' := by
  go_enter Tryz.func38, Tryz.ntmps38
  go_wp2
  go_ret
  exact ⟨rfl, rfl⟩
set_option maxHeartbeats 1000000 in
set_option maxRecDepth 100000 in
theorem refuses_any (i : Int) (w : World) (p n : Nat) (q cap : Nat) (h0 : w.cell? ⟨p, 0, none⟩ = some (.slice (some ⟨q, 0, none⟩) n cap)) :
    Calls Tryz.prog 38 #[.pointer (some ⟨p, 0, none⟩), .int .i64 i] w fun e w' => e = .returned (.int .i64 (refS n i)) ∧ w = w' := by
  obtain ⟨r, hr⟩ : ∃ r, Hid (refS n i = r) := ⟨_, rfl⟩
  rw [hr.out]
  by_cases c1 : i < 0
  · have e : r = 40 := by rw [← hr.out, refS, if_neg (by omega)]
    subst e
    go_enter Tryz.func38, Tryz.ntmps38
    go_wp2
    go_ret
    exact ⟨rfl, rfl⟩
  · by_cases c2 : (n : Int) ≤ i
    · have e : r = 40 := by rw [← hr.out, refS, if_neg (by omega)]
      subst e
      go_enter Tryz.func38, Tryz.ntmps38
      go_wp2
      go_ret
      exact ⟨rfl, rfl⟩
    · have e : r = 0 := by rw [← hr.out, refS, if_pos (by omega)]
      subst e
      go_enter Tryz.func38, Tryz.ntmps38
      go_wp2
      go_ret
      exact ⟨rfl, rfl⟩
set_option maxHeartbeats 400000 in
set_option maxRecDepth 100000 in
theorem len_nil (w : World) : Calls Tryz.prog 43 #[.pointer none] w fun e w' => e = .returned (.int .i64 0) ∧ w = w' := by
  go_enter Tryz.func43, Tryz.ntmps43
  go_wp2
  go_ret
  exact ⟨rfl, rfl⟩
set_option maxHeartbeats 400000 in
set_option maxRecDepth 100000 in
theorem len_any {w : World} {S : Nat → Prop} {p n : Nat} {d : List Int} {ws : List Wr} (h : Dsk w S p n d ws) : Calls Tryz.prog 43 #[.pointer (some ⟨p, 0, none⟩)] w fun e w' => e = .returned (.int .i64 n) ∧ w = w' := by
  obtain ⟨q, cap, v, h⟩ := h
  have h0 := h.cell0
  clear h
  go_enter Tryz.func43, Tryz.ntmps43
  go_wp2
  go_ret
  exact ⟨rfl, rfl⟩
/-- of bytes that lie so: a list of its own -/
theorem clone_range (g o n c : Nat) (xs : List Int) (w : World) (hx : xs.length = n) (hbig : n ≤ 140737488355328) (hr : w.rangeAt g o (U8 xs)) :
    Calls Tryz.prog 49 #[.slice (some ⟨g, o, none⟩) n c] w fun e w' => ∃ v', e = .returned v' ∧ w'.ownsRow w.heap.size 5 1 v' n (U8 xs) ∧ Below w.heap.size w w' :=
  clone_at _ n c xs w hx hbig (fun i hi => by
    rw [Addr.add_mid]
    refine hr i _ ?_
    simp [U8, List.getD, List.getElem?_eq_getElem (show i < xs.length by omega)])
theorem made_rep (m : Nat) (v : Value) (hm : 0 < m) (n : Nat) : madeCells (List.replicate m v).toArray n = (List.replicate n v).toArray := by
  apply Array.ext
  · simp [size_madeCells]
  · intro i h1 h2
    have h3 : i % m < m := Nat.mod_lt _ hm
    simp [madeCells, h3]
theorem zeros_range (n : Nat) : madeCells (List.replicate 128 (Value.int .u8 0)).toArray n = (List.replicate n (Value.int .u8 0)).toArray := made_rep 128 _ (by omega) n
theorem sec_zeros (n i : Nat) (hi : i < n) : sec (List.replicate (64 * n) 0) i = List.replicate 64 0 := by
  simp only [sec, List.drop_replicate, List.take_replicate]
  congr 1; omega
theorem new_pl (w : World) (n : Nat) (hn : n ≤ 4096) : Pl (w.alloc (.cells (List.replicate (n * 128) (Value.int .u8 0)).toArray 118)) w.heap.size n n (sec (List.replicate (64 * n) 0)) (newest [] (List.replicate (64 * n) 0)) := by
  have hb := heap_alloc_new w (.cells (List.replicate (n * 128) (Value.int .u8 0)).toArray 118)
  have hr : ∀ o, o + 64 ≤ n * 128 → (w.alloc (.cells (List.replicate (n * 128) (Value.int .u8 0)).toArray 118)).rangeAt w.heap.size o (U8 (List.replicate 64 0)) := fun o ho j v hv => by
    rw [U8, List.map_replicate, List.getElem?_replicate] at hv
    rw [cell_of_row _ _ _ _ 118 (0, 0) hb, List.getElem?_toArray, List.getElem?_replicate]
    split at hv
    · rw [if_pos (by omega)]; exact hv
    · cases hv
  refine ⟨⟨_, hb, by simp⟩, Nat.le_refl _, by unfold maxLen; omega, fun i hi => ?_, fun i hi => ?_, fun i hi => ?_, fun i hi => ?_⟩
  · rw [sec_zeros n i hi]; simp
  · rw [newest_nil, sec_zeros n i hi]; simp
  · rw [sec_zeros n i hi]; exact hr _ (by omega)
  · rw [newest_nil, sec_zeros n i hi]; exact hr _ (by omega)
set_option maxHeartbeats 1000000 in
set_option maxRecDepth 100000 in
theorem new_bad (i : Int) (w : World) (h : i < 1 ∨ 4096 < i) : Calls Tryz.prog 37 #[.int .i64 i] w fun e w' => e = .returned (.tuple #[.pointer none, .int .i64 2]) ∧ w = w' := by
  rcases h with h | h
  · go_enter Tryz.func37, Tryz.ntmps37
    go_wp2
    go_ret2
    exact ⟨rfl, rfl⟩
  · have c1 : ¬ i < 1 := by omega
    go_enter Tryz.func37, Tryz.ntmps37
    go_wp2
    go_ret2
    exact ⟨rfl, rfl⟩
set_option maxHeartbeats 1000000 in
set_option maxRecDepth 100000 in
theorem new_good (n : Nat) (w : World) (h1 : 1 ≤ n) (h2 : n ≤ 4096) : Calls Tryz.prog 37 #[.int .i64 n] w fun e w' => ∃ p, e = .returned (.tuple #[.pointer (some ⟨p, 0, none⟩), .int .i64 0]) ∧ Dsk w' (fun k => w.heap.size ≤ k) p n (List.replicate (64 * n) 0) [] ∧ Below w.heap.size w w' := by
  obtain ⟨i0, hi, hz0, hz1, hz2⟩ := info_parts info71
  have hmk := run_make (P := Tryz.prog) w 111 118 i0 _ Tryz.underlying111 hi hz0 .i64 .i64 (n : Int) (n : Int) (by omega) (Int.le_refl _) (by rw [hz2]; omega) (by omega)
  rw [hz1] at hmk
  simp only [Int.toNat_natCast, Value.cells] at hmk
  rw [zeros_range] at hmk
  have c1 : ¬ (n : Int) < 1 := by omega
  have c2 : ¬ (4096 : Int) < (n : Int) := by omega
  have HP : Hid (Pl (w.alloc (.cells (List.replicate (n * 128) (Value.int .u8 0)).toArray 118)) w.heap.size n n (sec (List.replicate (64 * n) 0)) (newest [] (List.replicate (64 * n) 0))) := new_pl w n h2
  obtain ⟨o, ho⟩ : ∃ o, Obj.cells (List.replicate (n * 128) (Value.int .u8 0)).toArray 118 = o := ⟨_, rfl⟩
  rw [ho] at HP hmk
  clear ho
  go_enter Tryz.func37, Tryz.ntmps37
  go_wp2
  go_ret2
  have hb2 := below_alloc (w.alloc o) (Obj.cells #[Value.slice (some ⟨w.heap.size, 0, none⟩) n n, Value.slice none 0 0] 114)
  refine ⟨w.heap.size + 1, rfl, ⟨w.heap.size, n, .slice none 0 0, ?_⟩, below_of_alloc hb2⟩
  refine ⟨heap_alloc2_new w o _, HP.out.same (hb2.block _ (by simp)), World.ownsRow_nil _ _ _ _, Nat.le_succ _, Nat.le_refl _, fun k hk => (by simp [Value.ownBlock] at hk), h1, h2, by simp, Bytes.rep _ _ (by omega), Fit.nil _⟩
set_option maxHeartbeats 1000000 in
set_option maxRecDepth 100000 in
theorem read_nil (i : Int) (w : World) : Calls Tryz.prog 44 #[.pointer none, .int .i64 i] w fun e w' => e = .returned (.tuple #[.slice none 0 0, .int .i64 1]) ∧ w = w' := by
  go_enter Tryz.func44, Tryz.ntmps44
  go_wp2_with fail
  refine (refuses_nil i w).mono ?_
  rintro e w1 ⟨rfl, rfl⟩
  go_wp2
  go_ret2
  exact ⟨rfl, rfl⟩
set_option maxHeartbeats 1000000 in
set_option maxRecDepth 100000 in
theorem read_bad {w : World} {S : Nat → Prop} {p n : Nat} {d : List Int} {ws : List Wr} (h : Dsk w S p n d ws) (i : Int) (hi : i < 0 ∨ (n : Int) ≤ i) : Calls Tryz.prog 44 #[.pointer (some ⟨p, 0, none⟩), .int .i64 i] w fun e w' => e = .returned (.tuple #[.slice none 0 0, .int .i64 40]) ∧ w = w' := by
  obtain ⟨q, cap, v, h⟩ := h
  have h0 := h.cell0
  clear h
  go_enter Tryz.func44, Tryz.ntmps44
  go_wp2_with fail
  refine (refuses_any i w p n q cap h0).mono ?_
  rintro e w1 ⟨rfl, rfl⟩
  rw [refS, if_neg (by omega)]
  go_wp2
  go_ret2
  exact ⟨rfl, rfl⟩
set_option maxHeartbeats 1000000 in
set_option maxRecDepth 100000 in
theorem read_good {w : World} {S : Nat → Prop} {p n : Nat} {d : List Int} {ws : List Wr} (h : Dsk w S p n d ws) (i : Nat) (hi : i < n) : Calls Tryz.prog 44 #[.pointer (some ⟨p, 0, none⟩), .int .i64 i] w fun e w' => ∃ v, e = .returned (.tuple #[v, .int .i64 0]) ∧ w'.ownsRow w.heap.size 5 1 v 64 (U8 (newest ws d i)) ∧ Below w.heap.size w w' := by
  obtain ⟨q, cap, v, h⟩ := h
  have h0 := h.cell0
  have HN : Hid (w.rangeAt q (i * 128 + 64) (U8 (newest ws d i)) ∧ (newest ws d i).length = 64) := ⟨h.pl.new i hi, h.pl.nl i hi⟩
  clear h
  go_enter Tryz.func44, Tryz.ntmps44
  go_wp2_with fail
  refine (refuses_any i w p n q cap h0).mono ?_
  rintro e w1 ⟨rfl, rfl⟩
  rw [refS, if_pos (by omega)]
  go_wp2_with fail
  refine (clone_range q (i * 128 + 64) 64 64 (newest ws d i) w HN.out.2 (by omega) HN.out.1).mono ?_
  rintro e w1 ⟨v1, rfl, hown, hb⟩
  go_wp2
  go_ret2
  exact ⟨v1, rfl, hown, hb⟩
end Go.Proofs.YtefnkjajjidfaaaGreatDoor
