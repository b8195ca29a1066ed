/-
  Layer 15: unreached, and the library's slices.Repeat of one number.
-/
import Derived.Test.YtkgjmejpbklabaaGb
import Derived.Laws.CopyRow
import Derived.Laws.OwnMore
import Derived.Laws.Bits64b
namespace Go.Proofs.Ytkgjmejpbklabaa
open Go.RowKit

open B (IIn I64)

set_option maxHeartbeats 2000000 in
set_option maxRecDepth 100000 in
theorem mul64_is (n : Nat) (hn : n ≤ 9000) (w : World) : Calls Try.prog 71 #[.int .u64 1, .int .u64 (n : Int)] w fun e w' => e = .returned (.tuple #[.int .u64 0, .int .u64 (n : Int)]) ∧ w = w' := by
  have h1 : bits .and .u64 (n : Int) 4294967295 = (n : Int) := by
    have := bits_and_u64_nat n 4294967295 (by omega) (by omega)
    rw [show ((4294967295 : Nat) : Int) = 4294967295 from rfl] at this
    rw [this, show (4294967295 : Nat) = 2 ^ 32 - 1 from rfl, Nat.and_two_pow_sub_one_eq_mod]
    omega
  have h2 : bits .and .u64 1 4294967295 = 1 := by decide
  have h3 : bits .and .u64 0 4294967295 = 0 := by decide
  have h4 : (n : Int) / 4294967296 = 0 := by omega
  go_enter Try.func71, Try.ntmps71
  go_wp2_with fail
  go_ret2
  exact ⟨rfl, rfl⟩
set_option maxHeartbeats 2000000 in
set_option maxRecDepth 100000 in
theorem mul_is (n : Nat) (hn : n ≤ 9000) (w : World) : Calls Try.prog 47 #[.int .u64 1, .int .u64 (n : Int)] w fun e w' => e = .returned (.tuple #[.int .u64 0, .int .u64 (n : Int)]) ∧ w = w' := by
  go_enter Try.func47, Try.ntmps47
  go_wp2_with (go_at_call 71; refine (mul64_is n hn _).mono ?_; rintro e w' ⟨rfl, rfl⟩)
  go_ret2
  exact ⟨rfl, rfl⟩

theorem sizeI : (Try.prog.info? 3).map (·.size) = some 1 := by kernel_rfl
/-- k of n numbers are laid -/
def Rp (x : Int) (n k : Nat) : List Value := List.replicate k (Value.int .i64 x) ++ List.replicate (n - k) (Value.int .i64 0)
theorem Rp.len {x : Int} {n k : Nat} (h : k ≤ n) : (Rp x n k).length = n := by simp [Rp]; omega
theorem Rp.more {x : Int} {n k m : Nat} : ((Rp x n k).take k ++ List.replicate m (Value.int .i64 x) ++ (Rp x n k).drop (k + m)) = Rp x n (k + m) := by
  unfold Rp
  rw [List.take_left' (by simp), List.drop_append, List.drop_of_length_le (by simp), List.nil_append, List.length_replicate, show k + m - k = m by omega, List.drop_replicate, show n - k - m = n - (k + m) by omega, List.replicate_append_replicate]

/-- 'make' of n elements of one cell -/
theorem make_run {t e : TypeId} {z : Value} {i : TypeInfo} (ht : Try.prog.underlying t = some (.slice e)) (hi : Try.prog.info? e = some i) (hz : i.zero = some z) (hs : i.size = 1) (hzc : z.cells = #[z]) (hb : i.bytes ≤ 100) (w : World) (n : Nat) (hn : n ≤ 10000) :
    (Instr.makeSlice t (.int .i64 (n : Int)) (.int .i64 (n : Int))).run Try.prog w = .ok (.slice (some ⟨w.heap.size, 0, none⟩) n n) (w.alloc (.cells (List.replicate n z).toArray e)) := by
  have hm : (i.bytes : Int) * (n : Int) ≤ 281474976710656 := by
    have : i.bytes * n ≤ 100 * 10000 := Nat.mul_le_mul hb hn
    have h2 : ((i.bytes * n : Nat) : Int) ≤ ((100 * 10000 : Nat) : Int) := by omega
    rw [Int.natCast_mul] at h2
    omega
  have := run_make (P := Try.prog) w t e i z ht hi hz .i64 .i64 (n : Int) (n : Int) (by omega) (Int.le_refl _) hm (by omega)
  rw [Int.toNat_natCast] at this
  rw [this, hs, hzc, Nat.mul_one]
  have e1 : madeCells #[z] n = (List.replicate n z).toArray := by rw [← toList_madeCells_one z n]
  rw [e1]
theorem make_ints (w : World) (n : Nat) (hn : n ≤ 10000) : (Instr.makeSlice 34 (.int .i64 (n : Int)) (.int .i64 (n : Int))).run Try.prog w = .ok (.slice (some ⟨w.heap.size, 0, none⟩) n n) (w.alloc (.cells (List.replicate n (Value.int .i64 0)).toArray 3)) := by
  obtain ⟨i0, hi, h0, h1, h2⟩ := info_parts B.info3
  exact make_run Try.underlying34 hi h0 h1 rfl (by omega) w n hn
theorem make_bools (w : World) (n : Nat) (hn : n ≤ 10000) : (Instr.makeSlice 75 (.int .i64 (n : Int)) (.int .i64 (n : Int))).run Try.prog w = .ok (.slice (some ⟨w.heap.size, 0, none⟩) n n) (w.alloc (.cells (List.replicate n (Value.bool false)).toArray 4)) := by
  obtain ⟨i0, hi, h0, h1, h2⟩ := info_parts O.infoB
  exact make_run Try.underlying75 hi h0 h1 rfl (by omega) w n hn
theorem make_intss (w : World) (n : Nat) (hn : n ≤ 10000) : (Instr.makeSlice 54 (.int .i64 (n : Int)) (.int .i64 (n : Int))).run Try.prog w = .ok (.slice (some ⟨w.heap.size, 0, none⟩) n n) (w.alloc (.cells (List.replicate n (Value.slice none 0 0)).toArray 34)) := by
  obtain ⟨i0, hi, h0, h1, h2⟩ := info_parts O.infoS
  exact make_run Try.underlying54 hi h0 h1 rfl (by omega) w n hn
/-- a row that was just made -/
theorem own_all (w : World) (e : TypeId) (xs : List Value) (n : Nat) (hl : xs.length = n) (hn : n ≤ 10000) {base : Nat} (hb : base ≤ w.heap.size) : (w.alloc (.cells xs.toArray e)).ownsRow base e 1 (.slice (some ⟨w.heap.size, 0, none⟩) n n) n xs :=
  ⟨by omega, .inr ⟨w.heap.size, n, xs.toArray, rfl, hb, heap_alloc_new w _, Nat.le_refl _, Nat.le_trans hn (by decide), by simp [hl], by simp [← hl]⟩⟩

set_option maxHeartbeats 2000000 in
set_option maxRecDepth 100000 in
theorem repeat_at {w : World} {b n : Nat} {x : Int} (hx : w.cell? ⟨b, 0, none⟩ = some (.int .i64 x)) (hn : n ≤ 9000) :
    Calls Try.prog 37 #[.slice (some ⟨b, 0, none⟩) 1 1, .int .i64 (n : Int)] w fun e w' => e = .returned (.slice (some ⟨w.heap.size, 0, none⟩) n n) ∧ RowKit.Below w.heap.size w w' ∧ w'.ownsRow w.heap.size 3 1 (.slice (some ⟨w.heap.size, 0, none⟩) n n) n (List.replicate n (Value.int .i64 x)) := by
  have hb : b < w.heap.size := World.block_lt_of_cell? w _ hx
  have hmk := make_ints w n (by omega)
  obtain ⟨W1, hW1⟩ : ∃ W, W = w.alloc (.cells (List.replicate n (Value.int .i64 0)).toArray 3) := ⟨_, rfl⟩
  rw [← hW1] at hmk
  have hB1 : RowKit.Below w.heap.size w W1 := by rw [hW1]; exact below_alloc _ _
  have hg1 : W1.heap[w.heap.size]? = some (.cells (Rp x n 0).toArray 3 (0, 0)) := by rw [hW1]; simpa [Rp] using heap_alloc_new w (.cells (List.replicate n (Value.int .i64 0)).toArray 3)
  have hcp : ∃ W2 k, (Builtin.copy_ #[34, 34] 3 #[.slice (some ⟨w.heap.size, 0, none⟩) n n, .slice (some ⟨b, 0, none⟩) 1 1]).run Try.prog W1 = .ok (.int .i64 ((k : Nat) : Int)) W2 ∧ k ≤ n ∧ (0 < n → 0 < k) ∧ RowKit.Below w.heap.size w W2 ∧ W2.heap[w.heap.size]? = some (.cells (Rp x n k).toArray 3 (0, 0)) := by
    by_cases h0 : n = 0
    · subst h0
      exact ⟨W1, 0, run_copy_none (P := Try.prog) W1 34 34 3 3 _ _ 0 0 1 1 Try.underlying34 sizeI rfl, Nat.le_refl _, fun h => h, hB1, hg1⟩
    · refine ⟨_, 1, run_copy_row (P := Try.prog) W1 34 34 3 3 w.heap.size 0 n n ⟨b, 0, none⟩ 1 1 _ 3 [.int .i64 x] Try.underlying34 sizeI hg1 (by show 1 = min 1 n; omega) (fun j v hj => ?_) (by simp [Rp]; omega) (by simp [Value.oneCell']), by omega, fun _ => by omega, ?_, ?_⟩
      · have : j = 0 := by
          have := (List.getElem?_eq_some_iff.1 hj).1
          simpa using this
        subst this
        simp at hj; subst hj
        rw [Go.WideShapes.add_plain, hB1.cell (p := ⟨b, 0 + 0, none⟩) hb]; exact hx
      · exact below_setRow hB1 (Nat.le_refl _) _
      · rw [setRow_heap W1 w.heap.size _ _ 3 _ hg1]
        have := Rp.more (x := x) (n := n) (k := 0) (m := 1)
        simp only [Nat.zero_add] at this
        simp only [← this]
        simp
  obtain ⟨W2, k0, hcp, hk0, hk1, hB2, hg2⟩ := hcp
  have HB2 : Hid (RowKit.Below w.heap.size w W2) := hB2
  have HG2 : Hid (W2.heap[w.heap.size]? = some (.cells (Rp x n k0).toArray 3 (0, 0))) := hg2
  clear hW1 hB1 hg1 hB2 hg2
  go_enter Try.func37, Try.ntmps37
  go_wp2_with (go_at_call 47; refine (mul_is n hn _).mono ?_; rintro e w' ⟨rfl, hw⟩; subst hw)
  clear hmk hcp hx
  go_loopw [8] (fun v W => ∃ k : Nat, v = .int .i64 (k : Int) ∧ k ≤ n ∧ (0 < n → 0 < k) ∧ Hid (RowKit.Below w.heap.size w W) ∧ Hid (W.heap[w.heap.size]? = some (.cells (Rp x n k).toArray 3 (0, 0)))) (fun v _ => n - (intV v).toNat)
  case atStart => exact ⟨k0, rfl, hk0, hk1, HB2, HG2⟩
  case round =>
    obtain ⟨k, rfl, hkn, hkp, HB, HG⟩ := hrel
    by_cases hk : k < n
    · have hk1 := hkp (by omega)
      have hcp : ∃ W3 m, (Builtin.copy_ #[34, 34] 3 #[.slice (some ⟨w.heap.size, k, none⟩) (n - k) (n - k), .slice (some ⟨w.heap.size, 0, none⟩) k n]).run Try.prog wr.drew = .ok (.int .i64 ((m : Nat) : Int)) W3 ∧ 0 < m ∧ k + m ≤ n ∧ RowKit.Below w.heap.size w W3 ∧ W3.heap[w.heap.size]? = some (.cells (Rp x n (k + m)).toArray 3 (0, 0)) := by
        have hg : wr.drew.heap[w.heap.size]? = some (.cells (Rp x n k).toArray 3 (0, 0)) := HG.out
        have hsrc : ∀ j v, (List.replicate (min k (n - k)) (Value.int .i64 x))[j]? = some v → wr.drew.cell? ((⟨w.heap.size, 0, none⟩ : Addr).add j) = some v := fun j v hj => by
          have hj' := (List.getElem?_eq_some_iff.1 hj).1
          rw [List.length_replicate] at hj'
          rw [List.getElem?_replicate, if_pos hj'] at hj
          cases hj
          rw [Go.WideShapes.add_plain, cell_of_row _ _ _ _ 3 (0, 0) hg]
          simp only [List.getElem?_toArray, Rp]
          rw [List.getElem?_append_left (by simp; omega), List.getElem?_replicate, if_pos (by omega)]
        have h := run_copy_row (P := Try.prog) wr.drew 34 34 3 3 w.heap.size k (n - k) (n - k) ⟨w.heap.size, 0, none⟩ k n _ 3 (List.replicate (min k (n - k)) (.int .i64 x)) Try.underlying34 sizeI hg (by rw [List.length_replicate, Nat.min_comm]; exact Nat.min_comm _ _) hsrc (by simp [Rp]; omega) (fun v hv => by rw [List.eq_of_mem_replicate hv]; rfl)
        rw [List.length_replicate] at h
        refine ⟨_, min k (n - k), h, by omega, by omega, below_setRow (HB.out.trans (below_dr _ _ 1)) (Nat.le_refl _) _, ?_⟩
        rw [setRow_heap _ w.heap.size _ _ 3 _ hg]
        simp only [Rp.more]
      obtain ⟨W3, m, hcp, hm, hkm, hB3, hg3⟩ := hcp
      have HB3 : Hid (RowKit.Below w.heap.size w W3) := hB3
      have HG3 : Hid (W3.heap[w.heap.size]? = some (.cells (Rp x n (k + m)).toArray 3 (0, 0))) := hg3
      clear hB3 hg3
      go_wp2_with fail
      go_region
      go_wp2_with fail
      go_roundw
      case rel => exact ⟨k + m, by congr 1, by omega, fun _ => by omega, HB3, HG3⟩
      case measure => simp [intV]; omega
    · go_wp2_with fail
      go_ret
      have hke : k = n := by omega
      subst hke
      refine ⟨rfl, HB.out, by simp, .inr ⟨w.heap.size, k, _, rfl, Nat.le_refl _, HG.out, Nat.le_refl _, Nat.le_trans (show k ≤ 10000 by omega) (by decide), by simp [Rp], by simp [Rp]⟩⟩

theorem I64_rep (n x : Nat) : List.replicate n (Value.int .i64 (x : Int)) = I64 (nz (List.replicate n x)) := by simp [I64, nz]
set_option maxHeartbeats 2000000 in
set_option maxRecDepth 100000 in
theorem unreached_at {w : World} {tv : Value} {p : Option Addr} {n c : Nat} (hn : n ≤ 9000) :
    Calls Try.prog 23 #[.agg #[tv, .slice p n c]] w fun e w' => ∃ g, e = .returned (.slice (some ⟨g, 0, none⟩) n n) ∧ RowKit.Below w.heap.size w w' ∧ w'.ownsRow w.heap.size 3 1 (.slice (some ⟨g, 0, none⟩) n n) n (I64 (nz (List.replicate n NW))) := by
  have hc : ((w.alloc (Obj.cells #[tv, .slice p n c] 56)).alloc (Obj.cells #[Value.int .i64 9223372036854775807] 3)).cell? ⟨w.heap.size + 1, 0, none⟩ = some (.int .i64 9223372036854775807) := by
    simp
  have HC : Hid (∀ w', w' = ((w.alloc (Obj.cells #[tv, .slice p n c] 56)).alloc (Obj.cells #[Value.int .i64 9223372036854775807] 3)) → w'.cell? ⟨w.heap.size + 1, 0, none⟩ = some (.int .i64 9223372036854775807)) := fun w' e => by rw [e]; exact hc
  clear hc
  go_enter Try.func23, Try.ntmps23
  go_wp2_with fail
  refine (repeat_at (HC.out _ rfl) hn).mono ?_
  rintro e w' ⟨rfl, hb, ho⟩
  have HB : Hid (RowKit.Below w.heap.size w w') := (below_then (below_alloc w _) (below_alloc _ _)).trans (hb.mono (by simp; omega))
  have HO : Hid (w'.ownsRow w.heap.size 3 1 (.slice (some ⟨w.heap.size + 2, 0, none⟩) n n) n (List.replicate n (Value.int .i64 9223372036854775807))) := by
    have h2 := B.own_mono ho (base' := w.heap.size) (by simp; omega)
    rw [show ((w.alloc (Obj.cells #[tv, .slice p n c] 56)).alloc (Obj.cells #[Value.int .i64 9223372036854775807] 3)).heap.size = w.heap.size + 2 by simp] at h2
    exact h2
  clear hb ho
  go_wp2_with fail
  go_ret
  refine ⟨w.heap.size + 2, by simp, HB.out, ?_⟩
  rw [← I64_rep]
  exact HO.out
end Go.Proofs.Ytkgjmejpbklabaa
