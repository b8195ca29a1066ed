/-
  Layer 15, the library's sort at []uint64: a row that a call may turn, and the comparison. Layer 15, the library's sort at []uint64: insertionSort. Layer 15, the library's sort at []uint64: siftDown, heapSort, reverseRange. Layer 15, the library's sort at []uint64: order2, median, choosePivot.
-/
import Derived.Test.YtkgjmejpbklabaaGreatRows
import Derived.Sort.AssemblyPlain
import Derived.Sort.Grow
import Derived.CellFam
import Derived.BigGuard
import Derived.BigCall
import Derived.Deep.Draws
import Derived.Deep.QuietTactic
import Derived.BigQuiet
import Derived.WalkKit
import Derived.BigRegion
namespace Go.Proofs.YtkgjmejpbklabaaGreat
open Go.RowKit
open Go.Sort
/-- a number as it lies -/
abbrev uE : Int → Value := Value.int .u64
def intV : Value → Int
  | .int _ q => q
  | _ => 0
/-- W is w, but that the row at (b, o) holds d; and what was made since -/
def SR (b o : Nat) (w : World) (d : Array Int) (W : World) : Prop := RowKit.Below w.heap.size (putRow uE w b o d) W
theorem SR.self {b o : Nat} {w : World} {d : Array Int} (h : Holds uE w b o d) : SR b o w d w := by
  unfold SR; rw [putRow_self _ _ _ _ _ h]; exact RowKit.Below.refl _ _
theorem SR.draws {b o : Nat} {w W : World} {d : Array Int} (h : SR b o w d W) (q : Nat) : SR b o w d (W.drewN q) := h.trans ⟨rfl, rfl, rfl, Nat.le_refl _, fun _ _ => rfl⟩
theorem SR.size {b o : Nat} {w W : World} {d : Array Int} (h : SR b o w d W) : w.heap.size ≤ W.heap.size := by
  have := RowKit.Below.size h
  simpa using this
theorem SR.alloc {b o : Nat} {w W : World} {d : Array Int} (h : SR b o w d W) (ob : Obj) : SR b o w d (W.alloc ob) := RowKit.Below.alloc h h.size ob
theorem SR.put {b o : Nat} {w W : World} {d : Array Int} (h : SR b o w d W) {p : Addr} (hp : w.heap.size ≤ p.block) (u : Value) : SR b o w d (W.setCell p u) := RowKit.Below.setCell h hp u
theorem SR.new {b o : Nat} {w W W' : World} {d : Array Int} (h : SR b o w d W) (h2 : RowKit.Below w.heap.size W W') : SR b o w d W' := RowKit.Below.trans h h2
theorem SR.cell {b o : Nat} {w W : World} {d0 d : Array Int} (h : SR b o w d W) (h0 : Holds uE w b o d0) (hb : b < w.heap.size) (hs : d.size = d0.size) (t : Nat) (ht : t < d0.size) :
    W.cell? ⟨b, o + t, none⟩ = some (.int .u64 d[t]!) := by
  rw [RowKit.Below.cell h hb]; exact cell?_putRow _ _ _ _ d0 d h0 hs t (by omega)
theorem SR.frz {b o : Nat} {w W : World} {d0 d : Array Int} (h : SR b o w d W) (h0 : Holds uE w b o d0) (hb : b < w.heap.size) (t : Nat) (ht : t < d0.size) :
    W.frozen? ⟨b, o + t, none⟩ = false := by
  rw [RowKit.Below.frozen h hb, frozen?_putRow]; exact (h0 t ht).2
theorem SR.holds {b o : Nat} {w W : World} {d0 d : Array Int} (h : SR b o w d W) (h0 : Holds uE w b o d0) (hb : b < w.heap.size) (hs : d.size = d0.size) : Holds uE W b o d := fun j hj =>
  ⟨h.cell h0 hb hs j (by omega), h.frz h0 hb j (by omega)⟩
/-- the same done to two worlds that agree on the blocks of the first -/
theorem below_mapBlock {n b : Nat} {v W : World} (h : RowKit.Below n v W) (f : Array Value → Array Value) : RowKit.Below n (mapBlock v b f) (mapBlock W b f) := by
  refine ⟨h.os, h.tape, h.output, by simpa [mapBlock] using h.size, fun k hk => ?_⟩
  have e := h.block k hk
  simp only [mapBlock, Array.getElem?_modify, e]
theorem SR.trans {b o : Nat} {w W W' : World} {d d' : Array Int} (h : SR b o w d W) (h2 : SR b o W d' W') (hs : d'.size = d.size) : SR b o w d' W' := by
  have h3 : RowKit.Below w.heap.size (putRow uE (putRow uE w b o d) b o d') (putRow uE W b o d') := below_mapBlock h _
  rw [putRow_putRow _ _ _ _ _ _ hs] at h3
  exact h3.trans (h2.mono h.size)
theorem SR.set {b o : Nat} {w W : World} {d : Array Int} (h : SR b o w d W) (i : Nat) (hi : i < d.size) (x : Int) : SR b o w (d.setIfInBounds i x) (W.setCell ⟨b, o + i, none⟩ (.int .u64 x)) := by
  have h3 : RowKit.Below w.heap.size ((putRow uE w b o d).setCell ⟨b, o + i, none⟩ (uE x)) (W.setCell ⟨b, o + i, none⟩ (uE x)) := by
    rw [setCell_eq, setCell_eq]; exact below_mapBlock h _
  rw [putRow_set _ _ _ _ _ _ _ hi] at h3
  exact h3
/-- two places are exchanged -/
theorem SR.swap {b o : Nat} {w W : World} {d : Array Int} (h : SR b o w d W) (i j : Nat) (hi : i < d.size) (hj : j < d.size) :
    SR b o w (swp d i j) ((W.setCell ⟨b, o + i, none⟩ (.int .u64 d[j]!)).setCell ⟨b, o + j, none⟩ (.int .u64 d[i]!)) :=
  (h.set i hi _).set j (by simpa using hj) _
/-- .. where they are one -/
theorem SR.swap1 {b o : Nat} {w W : World} {d : Array Int} (h : SR b o w d W) (i : Nat) (hi : i < d.size) :
    SR b o w (swp d i i) (W.setCell ⟨b, o + i, none⟩ (.int .u64 d[i]!)) := by
  have := (h.set i hi d[i]!)
  have e : swp d i i = d.setIfInBounds i d[i]! := by simp [swp]
  rw [e]; exact this
theorem SR.swapG {b o : Nat} {w W : World} {d : Array Int} (h : SR b o w d W) {G : Nat → Int} (hG : ∀ t, G t = d[t]!) (q i j : Nat) (hi : i < d.size) (hj : j < d.size) :
    SR b o w (swp d i j) (((W.drewN q).setCell ⟨b, o + i, none⟩ (.int .u64 (G j))).setCell ⟨b, o + j, none⟩ (.int .u64 (G i))) := by
  rw [hG, hG]; exact (h.draws q).swap i j hi hj
theorem SR.swapD {b o : Nat} {w W : World} {d : Array Int} (h : SR b o w d W) {G : Nat → Int} (hG : ∀ t, G t = d[t]!) (i j : Nat) (hi : i < d.size) (hj : j < d.size) :
    SR b o w (swp d i j) ((W.setCell ⟨b, o + i, none⟩ (.int .u64 (G j))).setCell ⟨b, o + j, none⟩ (.int .u64 (G i))).drew := by
  rw [hG, hG]; exact (h.swap i j hi hj).draws 1
/-- another block -/
theorem SR.other {b o : Nat} {w W : World} {d : Array Int} (h : SR b o w d W) {k : Nat} (hk : k < w.heap.size) (hne : k ≠ b) : W.heap[k]? = w.heap[k]? := by
  rw [RowKit.Below.block h k hk]
  simp [putRow, mapBlock, Array.getElem?_modify, Ne.symm hne]

/-! ### cmp.Less -/
set_option maxHeartbeats 2000000 in
set_option maxRecDepth 100000 in
theorem nan_is (x : Int) (w : World) : Calls Tryz.prog 129 #[.int .u64 x] w fun e w' => e = .returned (.bool false) ∧ w' = w := by
  go_enter Tryz.func129, Tryz.ntmps129
  go_wp2
  go_ret
  exact ⟨by simp, rfl⟩
set_option maxHeartbeats 2000000 in
set_option maxRecDepth 100000 in
theorem less_is (x y : Int) (w : World) : Calls Tryz.prog 104 #[.int .u64 x, .int .u64 y] w fun e w' => e = .returned (.bool (ltInt x y)) ∧ w' = w := by
  go_enter Tryz.func104, Tryz.ntmps104
  go_wp2_with (go_at_call 129; refine (nan_is _ _).mono ?_; rintro e w' ⟨rfl, rfl⟩)
  go_ret
  exact ⟨rfl, rfl⟩
end Go.Proofs.YtkgjmejpbklabaaGreat
namespace Go.Proofs.YtkgjmejpbklabaaGreat
open Go.RowKit
open Go.Sort
theorem insIn_go {a j : Nat} {d : Array Int} (hj : a < j) (hl : ltInt d[j]! d[j - 1]! = true) : insInner ltInt a j d = insInner ltInt a (j - 1) (swp d j (j - 1)) := by
  cases j with
  | zero => omega
  | succ k => simp only [insInner, Nat.add_sub_cancel] at hl ⊢; simp [hj, hl]
theorem insIn_end {a j : Nat} {d : Array Int} (h : a < j → ltInt d[j]! d[j - 1]! = false) : insInner ltInt a j d = d := by
  cases j with
  | zero => rfl
  | succ k =>
    by_cases hj : a < k + 1
    · have := h hj
      simp only [Nat.add_sub_cancel] at this
      simp [insInner, this]
    · simp [insInner, hj]
theorem insOut_go {a b i : Nat} {d : Array Int} (h : i < b) : insOuter ltInt a b i d = insOuter ltInt a b (i + 1) (insInner ltInt a i d) := by rw [insOuter, if_pos h]
theorem insOut_end {a b i : Nat} {d : Array Int} (h : ¬ i < b) : insOuter ltInt a b i d = d := by rw [insOuter, if_neg h]
set_option maxHeartbeats 2000000 in
set_option maxRecDepth 100000 in
theorem insertion_at {blk off cap a b : Nat} {d : Array Int} {w : World} (hH : Holds uE w blk off d) (hk : blk < w.heap.size) (hab : a ≤ b) (hb : b ≤ d.size) (hz : d.size < 4611686018427387904) :
    Calls Tryz.prog 98 #[.slice (some ⟨blk, off, none⟩) d.size cap, .int .i64 a, .int .i64 b] w fun e w' => e = .returned (.tuple #[]) ∧ SR blk off w (insertionSort ltInt d a b) w' := by
  go_enter Tryz.func98, Tryz.ntmps98
  go_wp2
  go_loopw [6] (fun v W => ∃ (i : Nat) (D : Array Int), v = .int .i64 i ∧ (a < i ∧ i ≤ b + 1) ∧ D.size = d.size ∧ Hid (SR blk off w D W) ∧ Hid (insOuter ltInt a b i D = insOuter ltInt a b (a + 1) d)) (fun v _ => b + 1 - (intV v).toNat)
  case atStart => exact ⟨a + 1, d, by go_num, by omega, rfl, SR.self hH, rfl⟩
  case round =>
    obtain ⟨i, D, rfl, hi, hs, HS, HO⟩ := hrel
    go_wp2
    · have hib : i < b := by assumption
      go_loopw [7] (fun v W => ∃ (j : Nat) (F : Array Int), v = .int .i64 j ∧ (a ≤ j ∧ j ≤ i) ∧ F.size = d.size ∧ Hid (SR blk off w F W) ∧ Hid (insInner ltInt a j F = insInner ltInt a i D)) (fun v _ => (intV v).toNat)
      case atStart => exact ⟨i, D, rfl, by omega, hs, HS, rfl⟩
      case round =>
        obtain ⟨j, F, rfl, hj, hsF, HF, HI⟩ := hrel
        obtain ⟨G, HG⟩ : ∃ G : Nat → Int, Hid (∀ t, G t = F[t]!) := ⟨fun t => F[t]!, fun _ => rfl⟩
        have hcw : ∀ t, t < d.size → wr.cell? ⟨blk, off + t, none⟩ = some (.int .u64 (G t)) := fun t ht => by rw [HG.out]; exact HF.out.cell hH hk hsF t ht
        have hfw : ∀ t, t < d.size → wr.frozen? ⟨blk, off + t, none⟩ = false := fun t ht => HF.out.frz hH hk t ht
        have OUT : Hid ((a < j → ltInt (G j) (G (j - 1)) = false) → insOuter ltInt a b (i + 1) F = insOuter ltInt a b (a + 1) d) := fun h => by
          rw [← HO.out, insOut_go hib, ← HI.out, insIn_end (fun h2 => by rw [← HG.out, ← HG.out]; exact h h2)]
        go_wp2
        by_cases hja : a < j
        · go_quiet (first | (go_at_call 104; refine Calls.quiet_of_same (less_is _ _ _)))
          go_wp2
          · have hl : ltInt (G j) (G (j - 1)) = true := by assumption
            go_region
            all_goals go_wp2
            go_roundw
            case rel =>
              refine ⟨j - 1, swp F j (j - 1), by congr 1; omega, by omega, by rw [size_swp]; exact hsF, ?_, ?_⟩
              · exact HF.out.swapG HG.out _ j (j - 1) (by omega) (by omega)
              · show _ = _
                rw [← HI.out, insIn_go hja (by rw [← HG.out, ← HG.out]; exact hl)]
            case measure => simp [intV]; omega
          · have hl : ltInt (G j) (G (j - 1)) = false := by assumption
            go_roundw
            case rel => exact ⟨i + 1, F, by go_num, by omega, hsF, HF.out.draws nq, OUT.out fun _ => hl⟩
            case measure => simp [intV]; omega
        · go_quiet (first | (go_at_call 104; refine Calls.quiet_of_same (less_is _ _ _)))
          go_wp2
          go_roundw
          case rel => exact ⟨i + 1, F, by go_num, by omega, hsF, HF.out.draws nq, OUT.out fun h => absurd h hja⟩
          case measure => simp [intV]; omega
    · have hge : ¬ i < b := by assumption
      go_end0
      exact ⟨rfl, by unfold insertionSort; rw [← HO.out, insOut_end hge]; exact HS.out⟩
end Go.Proofs.YtkgjmejpbklabaaGreat
namespace Go.Proofs.YtkgjmejpbklabaaGreat
open Go.RowKit
open Go.Sort
/-- which child is looked at -/
def Kid (hi first root : Nat) (d : Array Int) (c : Nat) : Prop :=
  (c = 2 * root + 2 ∧ 2 * root + 2 < hi ∧ ltInt d[first + (2 * root + 1)]! d[first + (2 * root + 1) + 1]! = true) ∨ (c = 2 * root + 1 ∧ (2 * root + 2 < hi → ltInt d[first + (2 * root + 1)]! d[first + (2 * root + 1) + 1]! = false))
theorem sift_none {hi first root : Nat} {d : Array Int} (h : hi ≤ 2 * root + 1) : siftDown ltInt hi first root d = d := by rw [siftDown, dif_pos h]
theorem sift_stop {hi first root c : Nat} {d : Array Int} (h : ¬ hi ≤ 2 * root + 1) (hc : Kid hi first root d c) (hl : ltInt d[first + root]! d[first + c]! = false) : siftDown ltInt hi first root d = d := by
  rw [siftDown, dif_neg h]
  rcases hc with ⟨rfl, h1, h2⟩ | ⟨rfl, h1⟩
  · rw [if_pos (by simp [h1, h2]), if_pos (by simp [hl])]
  · rw [if_neg, if_pos (by simp [hl])]
    intro hc
    simp only [Bool.and_eq_true, decide_eq_true_eq] at hc
    rw [h1 (by omega)] at hc; simp at hc
theorem sift_go {hi first root c : Nat} {d : Array Int} (h : ¬ hi ≤ 2 * root + 1) (hc : Kid hi first root d c) (hl : ltInt d[first + root]! d[first + c]! = true) :
    siftDown ltInt hi first root d = siftDown ltInt hi first c (swp d (first + root) (first + c)) := by
  rw [siftDown, dif_neg h]
  rcases hc with ⟨rfl, h1, h2⟩ | ⟨rfl, h1⟩
  · rw [if_pos (by simp [h1, h2]), if_neg (by simp [hl]), dif_pos h1]
  · rw [if_neg, if_neg (by simp [hl])]
    intro hc
    simp only [Bool.and_eq_true, decide_eq_true_eq] at hc
    rw [h1 (by omega)] at hc; simp at hc
theorem Kid.lt {hi first root c : Nat} {d : Array Int} (h : ¬ hi ≤ 2 * root + 1) (hc : Kid hi first root d c) : c < hi ∧ root < c ∧ c ≤ 2 * root + 2 := by
  rcases hc with ⟨rfl, h1, h2⟩ | ⟨rfl, h1⟩ <;> omega
set_option maxHeartbeats 2000000 in
set_option maxRecDepth 100000 in
theorem sift_at {blk off cap lo hi first : Nat} {d : Array Int} {w : World} (hH : Holds uE w blk off d) (hk : blk < w.heap.size) (hlo : lo ≤ hi) (hb : first + hi ≤ d.size) (hz : d.size < 2305843009213693952) :
    Calls Tryz.prog 124 #[.slice (some ⟨blk, off, none⟩) d.size cap, .int .i64 lo, .int .i64 hi, .int .i64 first] w fun e w' => e = .returned (.tuple #[]) ∧ SR blk off w (siftDown ltInt hi first lo d) w' := by
  go_enter Tryz.func124, Tryz.ntmps124
  go_wp2
  go_loopw [8] (fun v W => ∃ (r : Nat) (D : Array Int), v = .int .i64 r ∧ r ≤ hi ∧ D.size = d.size ∧ Hid (SR blk off w D W) ∧ Hid (siftDown ltInt hi first r D = siftDown ltInt hi first lo d)) (fun v _ => hi - (intV v).toNat)
  case atStart => exact ⟨lo, d, rfl, hlo, rfl, SR.self hH, rfl⟩
  case round =>
    obtain ⟨r, D, rfl, hr, hs, HS, HO⟩ := hrel
    obtain ⟨G, HG⟩ : ∃ G : Nat → Int, Hid (∀ t, G t = D[t]!) := ⟨fun t => D[t]!, fun _ => rfl⟩
    have hcw : ∀ t, t < d.size → wr.cell? ⟨blk, off + t, none⟩ = some (.int .u64 (G t)) := fun t ht => by rw [HG.out]; exact HS.out.cell hH hk hs t ht
    have hfw : ∀ t, t < d.size → wr.frozen? ⟨blk, off + t, none⟩ = false := fun t ht => HS.out.frz hH hk t ht
    by_cases hn : hi ≤ 2 * r + 1
    · go_wp2
      go_end0
      exact ⟨rfl, by rw [← HO.out, sift_none hn]; exact HS.out⟩
    · have rest : ∀ (c : Nat), Hid (Kid hi first r D c) → Hid (c < hi ∧ r < c ∧ c ≤ 2 * r + 2) := fun c h => Kid.lt hn h.out
      have hI : 2 * (r : Int) + 1 < (hi : Int) := by omega
      have hJ : (first : Int) + (hi : Int) ≤ (d.size : Int) := by omega
      by_cases hc2 : 2 * r + 2 < hi
      · have hd : decide (2 * (r : Int) + 1 + 1 < (hi : Int)) = true := decide_eq_true (by omega)
        have hd2 : 2 * (r : Int) + 1 + 1 < (hi : Int) := by omega
        go_wp2
        go_quiet (first | (go_at_call 104; refine Calls.quiet_of_same (less_is _ _ _)))
        go_wp2
        · have hl : ltInt (G (first + 2 * r + 1)) (G (first + 2 * r + 2)) = true := by assumption
          obtain ⟨c, hc⟩ : ∃ c, c = 2 * r + 2 := ⟨_, rfl⟩
          have HK : Hid (Kid hi first r D c) := .inl ⟨hc, hc2, by rw [← HG.out, ← HG.out]; exact hl⟩
          rw [show (2 * (r : Int) + 1 + 1) = (c : Int) by omega]
          clear hc hd hd2 hl
          have hcl := (rest c HK).out
          have hcI : (first : Int) + (c : Int) < (d.size : Int) := by omega
          have hrI : (first : Int) + (r : Int) < (d.size : Int) := by omega
          have hcN : first + c < d.size := by omega
          have hrN : first + r < d.size := by omega
          have hcr : r < c := by omega
          obtain ⟨W2, hW2⟩ : ∃ W2, W2 = wr.drewN nq := ⟨_, rfl⟩
          have HS2 : Hid (SR blk off w D W2) := by rw [hW2]; exact HS.out.draws _
          rw [← hW2]
          clear rest hcw hfw HS hW2 nq
          have hcw2 : ∀ t, t < d.size → W2.cell? ⟨blk, off + t, none⟩ = some (.int .u64 (G t)) := fun t ht => by rw [HG.out]; exact HS2.out.cell hH hk hs t ht
          have hfw2 : ∀ t, t < d.size → W2.frozen? ⟨blk, off + t, none⟩ = false := fun t ht => HS2.out.frz hH hk t ht
          go_quiet (first | (go_at_call 104; refine Calls.quiet_of_same (less_is _ _ _)))
          go_wp2
          all_goals first
            | (have hl0 : (!ltInt (G (first + r)) (G (first + c))) = true := by assumption
               have hl : ltInt (G (first + r)) (G (first + c)) = false := by simpa using hl0
               (try simp only [Exit.inBlock, Exit.then])
               refine bodyPost_ret (results_none rfl _ _ _) rfl ?_
               exact ⟨rfl, by rw [← HO.out, sift_stop hn HK.out (by rw [← HG.out, ← HG.out]; exact hl)]; exact HS2.out.draws _⟩)
            | (have hl0 : (!ltInt (G (first + r)) (G (first + c))) = false := by assumption
               have hl : ltInt (G (first + r)) (G (first + c)) = true := by simpa using hl0
               go_region
               all_goals go_wp2
               go_roundw
               case rel =>
                 refine ⟨c, swp D (first + r) (first + c), rfl, by omega, by rw [size_swp]; exact hs, ?_, ?_⟩
                 · exact HS2.out.swapG HG.out _ (first + r) (first + c) (by omega) (by omega)
                 · show _ = _
                   rw [← HO.out, sift_go hn HK.out (by rw [← HG.out, ← HG.out]; exact hl)]
               case measure => simp [intV]; omega)
        · have hl : ltInt (G (first + 2 * r + 1)) (G (first + 2 * r + 2)) = false := by assumption
          obtain ⟨c, hc⟩ : ∃ c, c = 2 * r + 1 := ⟨_, rfl⟩
          have HK : Hid (Kid hi first r D c) := .inr ⟨hc, fun _ => by rw [← HG.out, ← HG.out]; exact hl⟩
          rw [show (2 * (r : Int) + 1) = (c : Int) by omega]
          clear hc hd hd2 hl
          have hcl := (rest c HK).out
          have hcI : (first : Int) + (c : Int) < (d.size : Int) := by omega
          have hrI : (first : Int) + (r : Int) < (d.size : Int) := by omega
          have hcN : first + c < d.size := by omega
          have hrN : first + r < d.size := by omega
          have hcr : r < c := by omega
          obtain ⟨W2, hW2⟩ : ∃ W2, W2 = wr.drewN nq := ⟨_, rfl⟩
          have HS2 : Hid (SR blk off w D W2) := by rw [hW2]; exact HS.out.draws _
          rw [← hW2]
          clear rest hcw hfw HS hW2 nq
          have hcw2 : ∀ t, t < d.size → W2.cell? ⟨blk, off + t, none⟩ = some (.int .u64 (G t)) := fun t ht => by rw [HG.out]; exact HS2.out.cell hH hk hs t ht
          have hfw2 : ∀ t, t < d.size → W2.frozen? ⟨blk, off + t, none⟩ = false := fun t ht => HS2.out.frz hH hk t ht
          go_quiet (first | (go_at_call 104; refine Calls.quiet_of_same (less_is _ _ _)))
          go_wp2
          all_goals first
            | (have hl0 : (!ltInt (G (first + r)) (G (first + c))) = true := by assumption
               have hl : ltInt (G (first + r)) (G (first + c)) = false := by simpa using hl0
               (try simp only [Exit.inBlock, Exit.then])
               refine bodyPost_ret (results_none rfl _ _ _) rfl ?_
               exact ⟨rfl, by rw [← HO.out, sift_stop hn HK.out (by rw [← HG.out, ← HG.out]; exact hl)]; exact HS2.out.draws _⟩)
            | (have hl0 : (!ltInt (G (first + r)) (G (first + c))) = false := by assumption
               have hl : ltInt (G (first + r)) (G (first + c)) = true := by simpa using hl0
               go_region
               all_goals go_wp2
               go_roundw
               case rel =>
                 refine ⟨c, swp D (first + r) (first + c), rfl, by omega, by rw [size_swp]; exact hs, ?_, ?_⟩
                 · exact HS2.out.swapG HG.out _ (first + r) (first + c) (by omega) (by omega)
                 · show _ = _
                   rw [← HO.out, sift_go hn HK.out (by rw [← HG.out, ← HG.out]; exact hl)]
               case measure => simp [intV]; omega)
      · have hd : decide (2 * (r : Int) + 1 + 1 < (hi : Int)) = false := decide_eq_false (by omega)
        go_wp2
        go_quiet (first | (go_at_call 104; refine Calls.quiet_of_same (less_is _ _ _)))
        go_wp2
        obtain ⟨c, hc⟩ : ∃ c, c = 2 * r + 1 := ⟨_, rfl⟩
        have HK : Hid (Kid hi first r D c) := .inr ⟨hc, fun h => absurd h hc2⟩
        rw [show (2 * (r : Int) + 1) = (c : Int) by omega]
        clear hc hd
        have hcl := (rest c HK).out
        have hcI : (first : Int) + (c : Int) < (d.size : Int) := by omega
        have hrI : (first : Int) + (r : Int) < (d.size : Int) := by omega
        have hcN : first + c < d.size := by omega
        have hrN : first + r < d.size := by omega
        have hcr : r < c := by omega
        obtain ⟨W2, hW2⟩ : ∃ W2, W2 = wr.drewN nq := ⟨_, rfl⟩
        have HS2 : Hid (SR blk off w D W2) := by rw [hW2]; exact HS.out.draws _
        rw [← hW2]
        clear rest hcw hfw HS hW2 nq
        have hcw2 : ∀ t, t < d.size → W2.cell? ⟨blk, off + t, none⟩ = some (.int .u64 (G t)) := fun t ht => by rw [HG.out]; exact HS2.out.cell hH hk hs t ht
        have hfw2 : ∀ t, t < d.size → W2.frozen? ⟨blk, off + t, none⟩ = false := fun t ht => HS2.out.frz hH hk t ht
        go_quiet (first | (go_at_call 104; refine Calls.quiet_of_same (less_is _ _ _)))
        go_wp2
        all_goals first
          | (have hl0 : (!ltInt (G (first + r)) (G (first + c))) = true := by assumption
             have hl : ltInt (G (first + r)) (G (first + c)) = false := by simpa using hl0
             (try simp only [Exit.inBlock, Exit.then])
             refine bodyPost_ret (results_none rfl _ _ _) rfl ?_
             exact ⟨rfl, by rw [← HO.out, sift_stop hn HK.out (by rw [← HG.out, ← HG.out]; exact hl)]; exact HS2.out.draws _⟩)
          | (have hl0 : (!ltInt (G (first + r)) (G (first + c))) = false := by assumption
             have hl : ltInt (G (first + r)) (G (first + c)) = true := by simpa using hl0
             go_region
             all_goals go_wp2
             go_roundw
             case rel =>
               refine ⟨c, swp D (first + r) (first + c), rfl, by omega, by rw [size_swp]; exact hs, ?_, ?_⟩
               · exact HS2.out.swapG HG.out _ (first + r) (first + c) (by omega) (by omega)
               · show _ = _
                 rw [← HO.out, sift_go hn HK.out (by rw [← HG.out, ← HG.out]; exact hl)]
             case measure => simp [intV]; omega)
theorem sift_n {blk off cap lo hi first n : Nat} {d : Array Int} {w : World} (hN : d.size = n) (hH : Holds uE w blk off d) (hk : blk < w.heap.size) (hlo : lo ≤ hi) (hb : first + hi ≤ n) (hz : n < 2305843009213693952) :
    Calls Tryz.prog 124 #[.slice (some ⟨blk, off, none⟩) n cap, .int .i64 lo, .int .i64 hi, .int .i64 first] w fun e w' => e = .returned (.tuple #[]) ∧ SR blk off w (siftDown ltInt hi first lo d) w' := by
  subst hN; exact sift_at hH hk hlo hb hz
theorem build_go {hi first k : Nat} {d : Array Int} : heapBuild ltInt hi first (k + 1) d = heapBuild ltInt hi first k (siftDown ltInt hi first k d) := rfl
theorem pop_go {first k : Nat} {d : Array Int} : heapPop ltInt first (k + 1) d = heapPop ltInt first k (siftDown ltInt k first 0 (swp d first (first + k))) := rfl
theorem sift_size {hi first root : Nat} {d : Array Int} : (siftDown ltInt hi first root d).size = d.size := by
  suffices h : ∀ (n root : Nat) (d : Array Int), hi - root ≤ n → (siftDown ltInt hi first root d).size = d.size from h _ root d (Nat.le_refl _)
  intro n
  induction n with
  | zero => intro root d h; rw [sift_none (by omega)]
  | succ n ih =>
    intro root d h
    by_cases h0 : hi ≤ 2 * root + 1
    · rw [sift_none h0]
    · have hc : ∃ c, Kid hi first root d c := by
        by_cases h1 : 2 * root + 2 < hi ∧ ltInt d[first + (2 * root + 1)]! d[first + (2 * root + 1) + 1]! = true
        · exact ⟨_, .inl ⟨rfl, h1.1, h1.2⟩⟩
        · refine ⟨_, .inr ⟨rfl, fun h2 => ?_⟩⟩
          cases h3 : ltInt d[first + (2 * root + 1)]! d[first + (2 * root + 1) + 1]! with
          | false => rfl
          | true => exact absurd ⟨h2, h3⟩ h1
      obtain ⟨c, hc⟩ := hc
      have := hc.lt h0
      cases hl : ltInt d[first + root]! d[first + c]! with
      | false => rw [sift_stop h0 hc hl]
      | true => rw [sift_go h0 hc hl, ih c _ (by omega), size_swp]
set_option maxHeartbeats 2000000 in
set_option maxRecDepth 100000 in
theorem heap_at {blk off cap a b : Nat} {d : Array Int} {w : World} (hH : Holds uE w blk off d) (hk : blk < w.heap.size) (hab : a < b) (hb : b ≤ d.size) (hz : d.size < 2305843009213693952) :
    Calls Tryz.prog 99 #[.slice (some ⟨blk, off, none⟩) d.size cap, .int .i64 a, .int .i64 b] w fun e w' => e = .returned (.tuple #[]) ∧ SR blk off w (heapSort ltInt d a b) w' := by
  obtain ⟨n, hn⟩ : ∃ n, n = b - a := ⟨_, rfl⟩
  have hn0 : 0 < n := by omega
  have hnb : a + n = b := by omega
  have HE : Hid (heapSort ltInt d a b = heapPop ltInt a n (heapBuild ltInt n a ((n - 1) / 2 + 1) d)) := by
    show _ = _
    unfold heapSort; rw [hn]
  clear hn
  go_enter Tryz.func99, Tryz.ntmps99
  go_wp2
  rw [show ((b : Int) - (a : Int)) = (n : Int) by omega]
  go_loopw [9] (fun v W => ∃ (k : Nat) (D : Array Int), v = .int .i64 ((k : Int) - 1) ∧ k ≤ (n - 1) / 2 + 1 ∧ D.size = d.size ∧ Hid (SR blk off w D W) ∧ Hid (heapBuild ltInt n a k D = heapBuild ltInt n a ((n - 1) / 2 + 1) d)) (fun v _ => (intV v + 1).toNat)
  case atStart => exact ⟨(n - 1) / 2 + 1, d, by congr 1; omega, Nat.le_refl _, rfl, SR.self hH, rfl⟩
  case round =>
    obtain ⟨k, D, rfl, hkn, hs, HS, HO⟩ := hrel
    cases k with
    | zero =>
      go_wp2
      have HB : Hid (heapBuild ltInt n a ((n - 1) / 2 + 1) d = D) := by show _ = _; rw [← HO.out]; rfl
      clear HO
      rw [show (((0 : Nat) : Int) - 1) = -1 from rfl]
      go_loopw [10] (fun v W => ∃ (k : Nat) (F : Array Int), v = .int .i64 ((k : Int) - 1) ∧ k ≤ n ∧ F.size = d.size ∧ Hid (SR blk off w F W) ∧ Hid (heapPop ltInt a k F = heapPop ltInt a n D)) (fun v _ => (intV v + 1).toNat)
      case atStart => exact ⟨n, D, rfl, Nat.le_refl _, hs, HS, rfl⟩
      case round =>
        obtain ⟨k, F, rfl, hkn2, hs2, HF, HO⟩ := hrel
        cases k with
        | zero =>
          go_wp2
          go_end0
          exact ⟨rfl, by rw [HE.out, HB.out, ← HO.out]; exact HF.out⟩
        | succ k =>
          obtain ⟨G, HG⟩ : ∃ G : Nat → Int, Hid (∀ t, G t = F[t]!) := ⟨fun t => F[t]!, fun _ => rfl⟩
          have hcw : ∀ t, t < d.size → wr.cell? ⟨blk, off + t, none⟩ = some (.int .u64 (G t)) := fun t ht => by rw [HG.out]; exact HF.out.cell hH hk hs2 t ht
          have hfw : ∀ t, t < d.size → wr.frozen? ⟨blk, off + t, none⟩ = false := fun t ht => HF.out.frz hH hk t ht
          rw [show ((k + 1 : Nat) : Int) - 1 = (k : Int) by omega]
          have hk1 : a + k < d.size := by omega
          have hk2 : (a : Int) + (k : Int) < (d.size : Int) := by omega
          have hk3 : a < d.size := by omega
          go_wp2
          by_cases hk0 : k = 0
          · subst hk0
            go_region
            have HW : Hid (SR blk off w (swp F a (a + 0)) ((wr.setCell ⟨blk, off + a, none⟩ (Value.int .u64 (G (a)))).setCell ⟨blk, off + (a), none⟩ (Value.int .u64 (G a))).drew) := HF.out.swapD HG.out a (a + 0) (by omega) (by omega)
            generalize ((wr.setCell ⟨blk, off + a, none⟩ (Value.int .u64 (G (a)))).setCell ⟨blk, off + (a), none⟩ (Value.int .u64 (G a))).drew = W2 at HW ⊢
            have hs3 : (swp F a (a + 0)).size = d.size := by rw [size_swp]; exact hs2
            go_wp2_with (go_at_call 124; refine (sift_n (lo := 0) (hi := 0) hs3 (HW.out.holds hH hk hs3) (Nat.lt_of_lt_of_le hk HW.out.size) (by omega) (by omega) (by omega)).mono ?_; rintro e w' ⟨rfl, h1⟩; have H1 : Hid (SR blk off W2 (siftDown ltInt 0 a 0 (swp F a (a + 0))) w') := h1; clear h1)
            go_roundw
            case rel => exact ⟨0, siftDown ltInt 0 a 0 (swp F a (a + 0)), rfl, by omega, by rw [sift_size]; exact hs3, HW.out.trans H1.out sift_size, by show _ = _; rw [← HO.out, pop_go]⟩
            case measure => simp [intV]
          · go_region
            have HW : Hid (SR blk off w (swp F a (a + k)) ((wr.setCell ⟨blk, off + a, none⟩ (Value.int .u64 (G (a + k)))).setCell ⟨blk, off + (a + k), none⟩ (Value.int .u64 (G a))).drew) := HF.out.swapD HG.out a (a + k) (by omega) (by omega)
            generalize ((wr.setCell ⟨blk, off + a, none⟩ (Value.int .u64 (G (a + k)))).setCell ⟨blk, off + (a + k), none⟩ (Value.int .u64 (G a))).drew = W2 at HW ⊢
            have hs3 : (swp F a (a + k)).size = d.size := by rw [size_swp]; exact hs2
            go_wp2_with (go_at_call 124; refine (sift_n (lo := 0) hs3 (HW.out.holds hH hk hs3) (Nat.lt_of_lt_of_le hk HW.out.size) (by omega) (by omega) (by omega)).mono ?_; rintro e w' ⟨rfl, h1⟩; have H1 : Hid (SR blk off W2 (siftDown ltInt k a 0 (swp F a (a + k))) w') := h1; clear h1)
            go_roundw
            case rel => exact ⟨k, siftDown ltInt k a 0 (swp F a (a + k)), rfl, by omega, by rw [sift_size]; exact hs3, HW.out.trans H1.out sift_size, by show _ = _; rw [← HO.out, pop_go]⟩
            case measure => simp [intV]
    | succ k =>
      rw [show ((k + 1 : Nat) : Int) - 1 = (k : Int) by omega]
      go_wp2_with (go_at_call 124; refine (sift_n hs (HS.out.holds hH hk hs) (Nat.lt_of_lt_of_le hk HS.out.size) (by omega) (by omega) (by omega)).mono ?_; rintro e w' ⟨rfl, h1⟩; have H1 : Hid (SR blk off wr (siftDown ltInt n a k D) w') := h1; clear h1)
      go_roundw
      case rel => exact ⟨k, siftDown ltInt n a k D, rfl, by omega, by rw [sift_size]; exact hs, HS.out.trans H1.out sift_size, by show _ = _; rw [← HO.out, build_go]⟩
      case measure => simp [intV]
end Go.Proofs.YtkgjmejpbklabaaGreat
namespace Go.Proofs.YtkgjmejpbklabaaGreat
open Go.RowKit
open Go.Sort
theorem below_dr (n : Nat) (w : World) (q : Nat) : RowKit.Below n w (w.drewN q) := ⟨rfl, rfl, rfl, Nat.le_refl _, fun _ _ => rfl⟩
/-- a number in a block of its own -/
def Bx (sb : Nat) (s : Nat) (w : World) : Prop := w.heap[sb]? = some (.cells #[.int .i64 (s : Int)] 3 (0, 0))
theorem Bx.cell {sb s : Nat} {w : World} (h : Bx sb s w) : w.cell? ⟨sb, 0, none⟩ = some (.int .i64 (s : Int)) := by simp [World.cell?, show w.heap[sb]? = _ from h]
theorem Bx.frz {sb s : Nat} {w : World} (h : Bx sb s w) : w.frozen? ⟨sb, 0, none⟩ = false := by simp [World.frozen?, show w.heap[sb]? = _ from h]
theorem Bx.put {sb s : Nat} {w : World} (h : Bx sb s w) (s' : Nat) : Bx sb s' (w.setCell ⟨sb, 0, none⟩ (.int .i64 (s' : Int))) := by
  unfold Bx at h ⊢
  have hlt : sb < w.heap.size := (Array.getElem?_eq_some_iff.1 h).1
  simp [World.setCell, Array.getElem?_modify, h]
theorem Bx.new (w : World) (s : Nat) : Bx w.heap.size s (w.alloc (Obj.cells #[Value.int .i64 (s : Int)] 3)) := by
  unfold Bx World.alloc
  rw [Array.getElem?_push_size]
theorem Bx.draws {sb s : Nat} {w : World} (h : Bx sb s w) (q : Nat) : Bx sb s (w.drewN q) := h
theorem holds_later {blk off sb : Nat} {d : Array Int} {w w' : World} (h : Holds uE w blk off d) (hk : blk < sb) (hb : RowKit.Below sb w w') : Holds uE w' blk off d := fun j hj =>
  ⟨by rw [hb.cell hk]; exact (h j hj).1, by rw [hb.frozen hk]; exact (h j hj).2⟩
theorem fam {blk off n : Nat} {d : Array Int} {w : World} (hN : d.size = n) (h : Holds uE w blk off d) : ∃ G : Nat → Int, (∀ t, t < n → w.cell? ⟨blk, off + t, none⟩ = some (.int .u64 (G t))) ∧ (∀ t, t < n → w.frozen? ⟨blk, off + t, none⟩ = false) ∧ Hid (∀ t, G t = d[t]!) :=
  ⟨fun t => d[t]!, fun t ht => (h t (by omega)).1, fun t ht => (h t (by omega)).2, fun _ => rfl⟩
set_option maxHeartbeats 2000000 in
set_option maxRecDepth 100000 in
theorem order2_at {blk off cap n a b sb s : Nat} {d : Array Int} {w : World} (hN : d.size = n) (hH : Holds uE w blk off d) (hB : Bx sb s w) (ha : a < n) (hb : b < n) (hs : s < 1000) :
    Calls Tryz.prog 134 #[.slice (some ⟨blk, off, none⟩) n cap, .int .i64 a, .int .i64 b, .pointer (some ⟨sb, 0, none⟩)] w fun e w' =>
      e = .returned (.tuple #[.int .i64 ((order2 ltInt d a b s).1 : Nat), .int .i64 ((order2 ltInt d a b s).2.1 : Nat)]) ∧ RowKit.Below sb w w' ∧ Bx sb (order2 ltInt d a b s).2.2 w' := by
  obtain ⟨G, hcw, hfw, HG⟩ := fam hN hH
  have hcs := hB.cell
  have hfs := hB.frz
  have HB : Hid (Bx sb s w) := hB
  clear hB hH
  go_enter Tryz.func134, Tryz.ntmps134
  go_wp2
  go_quiet (first | (go_at_call 104; refine Calls.quiet_of_same (less_is _ _ _)))
  go_wp2
  · have hl : ltInt (G b) (G a) = true := by assumption
    go_ret2
    rw [HG.out, HG.out] at hl
    refine ⟨by simp [order2, hl], ?_, ?_⟩
    · exact ((below_dr sb w nq).setCell (Nat.le_refl _) _)
    · have := (HB.out.draws nq).put (s + 1)
      simpa [order2, hl] using this
  · have hl : ltInt (G b) (G a) = false := by assumption
    go_ret2
    rw [HG.out, HG.out] at hl
    refine ⟨by simp [order2, hl], below_dr sb w nq, ?_⟩
    simpa [order2, hl] using HB.out.draws nq
theorem order2_le {d : Array Int} {a b s n : Nat} (ha : a < n) (hb : b < n) : (order2 ltInt d a b s).1 < n ∧ (order2 ltInt d a b s).2.1 < n ∧ (order2 ltInt d a b s).2.2 ≤ s + 1 := by
  unfold order2; split <;> simp <;> omega
set_option maxHeartbeats 2000000 in
set_option maxRecDepth 100000 in
theorem median_at {blk off cap n a b c sb s : Nat} {d : Array Int} {w : World} (hN : d.size = n) (hH : Holds uE w blk off d) (hk : blk < sb) (hB : Bx sb s w) (ha : a < n) (hb : b < n) (hc : c < n) (hs : s < 900) :
    Calls Tryz.prog 128 #[.slice (some ⟨blk, off, none⟩) n cap, .int .i64 a, .int .i64 b, .int .i64 c, .pointer (some ⟨sb, 0, none⟩)] w fun e w' =>
      e = .returned (.int .i64 ((median ltInt d a b c s).1 : Nat)) ∧ RowKit.Below sb w w' ∧ Bx sb (median ltInt d a b c s).2 w' := by
  have HE : Hid (median ltInt d a b c s = ((order2 ltInt d (order2 ltInt d a b s).1 (order2 ltInt d (order2 ltInt d a b s).2.1 c (order2 ltInt d a b s).2.2).1 (order2 ltInt d (order2 ltInt d a b s).2.1 c (order2 ltInt d a b s).2.2).2.2).2.1, (order2 ltInt d (order2 ltInt d a b s).1 (order2 ltInt d (order2 ltInt d a b s).2.1 c (order2 ltInt d a b s).2.2).1 (order2 ltInt d (order2 ltInt d a b s).2.1 c (order2 ltInt d a b s).2.2).2.2).2.2)) := rfl
  generalize median ltInt d a b c s = M at HE ⊢
  have l1 := order2_le (d := d) (s := s) ha hb
  have HC1 : Hid (∀ w, Holds uE w blk off d → Bx sb s w → _) := fun w h1 h2 => @order2_at blk off cap n a b sb s d w hN h1 h2 ha hb (by omega)
  generalize order2 ltInt d a b s = r1 at HE l1 HC1
  obtain ⟨a1, b1, s1⟩ := r1
  have l2 := order2_le (d := d) (s := s1) (a := b1) (b := c) l1.2.1 hc
  have HC2 : Hid (∀ w, Holds uE w blk off d → Bx sb s1 w → _) := fun w h1 h2 => @order2_at blk off cap n b1 c sb s1 d w hN h1 h2 l1.2.1 hc (by have := l1.2.2; simp only at this; omega)
  simp only at HE l1 HC1 l2 HC2
  generalize order2 ltInt d b1 c s1 = r2 at HE l2 HC2
  obtain ⟨b2, c2, s2⟩ := r2
  simp only at HE l2 HC2
  have HC3 : Hid (∀ w, Holds uE w blk off d → Bx sb s2 w → _) := fun w h1 h2 => @order2_at blk off cap n a1 b2 sb s2 d w hN h1 h2 l1.1 l2.1 (by omega)
  generalize order2 ltInt d a1 b2 s2 = r3 at HE HC3
  obtain ⟨a3, b3, s3⟩ := r3
  simp only at HE HC3
  have HH : Hid (Holds uE w blk off d) := hH
  have HB : Hid (Bx sb s w) := hB
  clear hH hB l1 l2
  go_enter Tryz.func128, Tryz.ntmps128
  go_wp2_with fail
  refine (HC1.out w HH.out HB.out).mono ?_
  rintro e w1 ⟨rfl, hb1, hx1⟩
  have H1 : Hid (RowKit.Below sb w w1 ∧ Bx sb s1 w1) := ⟨hb1, hx1⟩
  clear hb1 hx1
  go_wp2_with fail
  refine (HC2.out w1 (holds_later HH.out hk H1.out.1) H1.out.2).mono ?_
  rintro e w2 ⟨rfl, hb2, hx2⟩
  have H2 : Hid (RowKit.Below sb w w2 ∧ Bx sb s2 w2) := ⟨H1.out.1.trans hb2, hx2⟩
  clear hb2 hx2
  go_wp2_with fail
  refine (HC3.out w2 (holds_later HH.out hk H2.out.1) H2.out.2).mono ?_
  rintro e w3 ⟨rfl, hb3, hx3⟩
  have H3 : Hid (RowKit.Below sb w w3 ∧ Bx sb s3 w3) := ⟨H2.out.1.trans hb3, hx3⟩
  clear hb3 hx3
  go_wp2_with fail
  go_ret
  rw [HE.out]
  exact ⟨rfl, H3.out.1, H3.out.2⟩
theorem median_le {d : Array Int} {a b c s n : Nat} (ha : a < n) (hb : b < n) (hc : c < n) : (median ltInt d a b c s).1 < n ∧ (median ltInt d a b c s).2 ≤ s + 3 := by
  have l1 := order2_le (d := d) (s := s) ha hb
  have l2 := order2_le (d := d) (s := (order2 ltInt d a b s).2.2) l1.2.1 hc
  have l3 := order2_le (d := d) (s := (order2 ltInt d (order2 ltInt d a b s).2.1 c (order2 ltInt d a b s).2.2).2.2) l1.1 l2.1
  exact ⟨l3.2.1, by have := l3.2.2; have := l2.2.2; have := l1.2.2; simp only [median]; omega⟩
set_option maxHeartbeats 2000000 in
set_option maxRecDepth 100000 in
theorem medadj_at {blk off cap n a sb s : Nat} {d : Array Int} {w : World} (hN : d.size = n) (hH : Holds uE w blk off d) (hk : blk < sb) (hB : Bx sb s w) (ha : 0 < a) (hb : a + 1 < n) (hz : n < 2305843009213693952) (hs : s < 900) :
    Calls Tryz.prog 127 #[.slice (some ⟨blk, off, none⟩) n cap, .int .i64 a, .pointer (some ⟨sb, 0, none⟩)] w fun e w' =>
      e = .returned (.int .i64 ((medianAdjacent ltInt d a s).1 : Nat)) ∧ RowKit.Below sb w w' ∧ Bx sb (medianAdjacent ltInt d a s).2 w' := by
  have HC := @median_at blk off cap n (a - 1) a (a + 1) sb s d w hN hH hk hB (by omega) (by omega) (by omega) hs
  have HC : Hid (Calls _ _ _ _ _) := HC
  clear hH hB
  go_enter Tryz.func127, Tryz.ntmps127
  go_wp2_with fail
  rw [show (a : Int) - 1 = ((a - 1 : Nat) : Int) by omega, show (a : Int) + 1 = ((a + 1 : Nat) : Int) by omega]
  refine (HC.out).mono ?_
  rintro e w1 ⟨rfl, hb1, hx1⟩
  have H1 : Hid (RowKit.Below sb w w1 ∧ Bx sb (medianAdjacent ltInt d a s).2 w1) := ⟨hb1, hx1⟩
  clear hb1 hx1
  go_wp2_with fail
  go_ret
  exact ⟨rfl, H1.out.1, H1.out.2⟩
theorem medadj_le {d : Array Int} {a s n : Nat} (hb : a + 1 < n) : (medianAdjacent ltInt d a s).1 < n ∧ (medianAdjacent ltInt d a s).2 ≤ s + 3 := median_le (by omega) (by omega) hb
/-- a hint as a number -/
def hintN : Hint → Int
  | .unknown => 0
  | .increasing => 1
  | .decreasing => 2
def cpR (d : Array Int) (l i j k : Nat) : Nat × Nat :=
  if l ≥ 50 then median ltInt d (medianAdjacent ltInt d i 0).1 (medianAdjacent ltInt d j (medianAdjacent ltInt d i 0).2).1 (medianAdjacent ltInt d k (medianAdjacent ltInt d j (medianAdjacent ltInt d i 0).2).2).1 (medianAdjacent ltInt d k (medianAdjacent ltInt d j (medianAdjacent ltInt d i 0).2).2).2 else median ltInt d i j k 0
def cpH (M : Nat × Nat) : Nat × Hint := (M.1, if M.2 = 0 then Hint.increasing else if M.2 = 12 then Hint.decreasing else Hint.unknown)
theorem cp_is {d : Array Int} {a b : Nat} (h : b - a ≥ 8) : choosePivot ltInt d a b = cpH (cpR d (b - a) (a + (b - a) / 4 * 1) (a + (b - a) / 4 * 2) (a + (b - a) / 4 * 3)) := by
  unfold choosePivot cpH cpR
  simp only [if_pos h]
set_option maxHeartbeats 2000000 in
set_option maxRecDepth 100000 in
theorem pivot_at {blk off cap n a b : Nat} {d : Array Int} {w : World} (hN : d.size = n) (hH : Holds uE w blk off d) (hk : blk < w.heap.size) (hab : a + 8 ≤ b) (hb : b ≤ n) (hz : n < 2305843009213693952) :
    Calls Tryz.prog 101 #[.slice (some ⟨blk, off, none⟩) n cap, .int .i64 a, .int .i64 b] w fun e w' =>
      e = .returned (.tuple #[.int .i64 ((choosePivot ltInt d a b).1 : Nat), .int .i64 (hintN (choosePivot ltInt d a b).2)]) ∧ RowKit.Below w.heap.size w w' := by
  obtain ⟨l, hl⟩ : ∃ l, l = b - a := ⟨_, rfl⟩
  have hl8 : 8 ≤ l := by omega
  have hlb : a + l = b := by omega
  clear hl
  obtain ⟨i, hi⟩ : ∃ i, i = a + l / 4 * 1 := ⟨_, rfl⟩
  obtain ⟨j, hj⟩ : ∃ j, j = a + l / 4 * 2 := ⟨_, rfl⟩
  obtain ⟨k, hk3⟩ : ∃ k, k = a + l / 4 * 3 := ⟨_, rfl⟩
  have HE : Hid (choosePivot ltInt d a b = cpH (cpR d l i j k)) := by
    show _ = _
    rw [cp_is (by omega), show b - a = l by omega, ← hi, ← hj, ← hk3]
  generalize choosePivot ltInt d a b = CP at HE ⊢
  have hi1 : 0 < i ∧ i + 1 < n := by omega
  have hj1 : 0 < j ∧ j + 1 < n := by omega
  have hk1 : 0 < k ∧ k + 1 < n := by omega
  have hiI : (a : Int) + ((b : Int) - (a : Int)) / 4 = (i : Int) := by omega
  have hjI : (a : Int) + ((b : Int) - (a : Int)) / 4 * 2 = (j : Int) := by omega
  have hkI : (a : Int) + ((b : Int) - (a : Int)) / 4 * 3 = (k : Int) := by omega
  have hlI : (b : Int) - (a : Int) = (l : Int) := by omega
  have HJ : Hid ((a : Int) + ((b : Int) - (a : Int)) / 4 = (i : Int) ∧ (a : Int) + ((b : Int) - (a : Int)) / 4 * 2 = (j : Int) ∧ (a : Int) + ((b : Int) - (a : Int)) / 4 * 3 = (k : Int) ∧ (b : Int) - (a : Int) = (l : Int)) := ⟨hiI, hjI, hkI, hlI⟩
  clear hi hj hk3 hiI hjI hkI hlI
  have HH : Hid (Holds uE (w.alloc (Obj.cells #[Value.int IntKind.i64 0] 3)) blk off d) := holds_later hH hk ((RowKit.Below.refl _ w).alloc (Nat.le_refl _) _)
  have HB : Hid (Bx w.heap.size 0 (w.alloc (Obj.cells #[Value.int IntKind.i64 0] 3))) := Bx.new w 0
  have HL : Hid (RowKit.Below w.heap.size w (w.alloc (Obj.cells #[Value.int IntKind.i64 0] 3))) := (RowKit.Below.refl _ w).alloc (Nat.le_refl _) _
  clear hH
  go_enter Tryz.func101, Tryz.ntmps101
  by_cases hl50 : l ≥ 50
  · unfold cpR at HE
    simp only [if_pos hl50] at HE
    have hl50I : 50 ≤ (b : Int) - (a : Int) := by have := HJ.out; omega
    have hl8I : 8 ≤ (b : Int) - (a : Int) := by omega
    go_wp2_with fail
    rw [HJ.out.1, HJ.out.2.1, HJ.out.2.2.1]
    have L1 := medadj_le (d := d) (s := 0) hi1.2
    have L2 := medadj_le (d := d) (s := (medianAdjacent ltInt d i 0).2) hj1.2
    have L3 := medadj_le (d := d) (s := (medianAdjacent ltInt d j (medianAdjacent ltInt d i 0).2).2) hk1.2
    refine (medadj_at hN HH.out hk HB.out hi1.1 hi1.2 hz (by omega)).mono ?_
    rintro e w1 ⟨rfl, hb1, hx1⟩
    have H1 : Hid (RowKit.Below w.heap.size w w1 ∧ Bx w.heap.size _ w1 ∧ Holds uE w1 blk off d) := ⟨HL.out.trans hb1, hx1, holds_later HH.out hk hb1⟩
    clear hb1 hx1
    go_wp2_with fail
    refine (medadj_at hN H1.out.2.2 hk H1.out.2.1 hj1.1 hj1.2 hz (by omega)).mono ?_
    rintro e w2 ⟨rfl, hb2, hx2⟩
    have H2 : Hid (RowKit.Below w.heap.size w w2 ∧ Bx w.heap.size _ w2 ∧ Holds uE w2 blk off d) := ⟨H1.out.1.trans hb2, hx2, holds_later H1.out.2.2 hk hb2⟩
    clear hb2 hx2
    go_wp2_with fail
    refine (medadj_at hN H2.out.2.2 hk H2.out.2.1 hk1.1 hk1.2 hz (by omega)).mono ?_
    rintro e w3 ⟨rfl, hb3, hx3⟩
    have H3 : Hid (RowKit.Below w.heap.size w w3 ∧ Bx w.heap.size _ w3 ∧ Holds uE w3 blk off d) := ⟨H2.out.1.trans hb3, hx3, holds_later H2.out.2.2 hk hb3⟩
    clear hb3 hx3
    go_wp2_with fail
    refine (median_at hN H3.out.2.2 hk H3.out.2.1 L1.1 L2.1 L3.1 (by omega)).mono ?_
    rintro e w4 ⟨rfl, hb4, hx4⟩
    have HX : Hid (RowKit.Below w.heap.size w w4 ∧ Bx w.heap.size _ w4) := ⟨H3.out.1.trans hb4, hx4⟩
    clear hb4 hx4 L1 L2 L3 H1 H2 H3
    have hcs := HX.out.2.cell
    have HX2 : Hid (RowKit.Below w.heap.size w w4) := HX.out.1
    clear HX
    generalize median ltInt d (medianAdjacent ltInt d i 0).1 (medianAdjacent ltInt d j (medianAdjacent ltInt d i 0).2).1 (medianAdjacent ltInt d k (medianAdjacent ltInt d j (medianAdjacent ltInt d i 0).2).2).1 (medianAdjacent ltInt d k (medianAdjacent ltInt d j (medianAdjacent ltInt d i 0).2).2).2 = M at hcs HE ⊢
    by_cases e0 : M.2 = 0
    · have HE : Hid (CP = (M.1, Hint.increasing)) := by show _ = _; rw [HE.out]; unfold cpH; rw [if_pos e0]
      rw [e0] at hcs
      have hcs : w4.cell? ⟨w.heap.size, 0, none⟩ = some (.int .i64 0) := hcs
      clear e0
      go_wp2_with fail
      go_ret2
      rw [HE.out]
      exact ⟨rfl, HX2.out⟩
    · by_cases e1 : M.2 = 12
      · have HE : Hid (CP = (M.1, Hint.decreasing)) := by show _ = _; rw [HE.out]; unfold cpH; rw [if_neg e0, if_pos e1]
        rw [e1] at hcs
        have hcs : w4.cell? ⟨w.heap.size, 0, none⟩ = some (.int .i64 12) := hcs
        clear e0 e1
        go_wp2_with fail
        go_ret2
        rw [HE.out]
        exact ⟨rfl, HX2.out⟩
      · have e0I : ¬ (M.2 : Int) = 0 := by omega
        have e1I : ¬ (M.2 : Int) = 12 := by omega
        have HE : Hid (CP = (M.1, Hint.unknown)) := by show _ = _; rw [HE.out]; unfold cpH; rw [if_neg e0, if_neg e1]
        clear e0 e1
        go_wp2_with fail
        go_ret2
        rw [HE.out]
        exact ⟨rfl, HX2.out⟩
  · unfold cpR at HE
    simp only [if_neg hl50] at HE
    have hl50I : ¬ 50 ≤ (b : Int) - (a : Int) := by have := HJ.out; omega
    have hl8I : 8 ≤ (b : Int) - (a : Int) := by have := HJ.out; omega
    go_wp2_with fail
    rw [HJ.out.1, HJ.out.2.1, HJ.out.2.2.1]
    refine (median_at hN HH.out hk HB.out (by omega) (by omega) (by omega) (by omega)).mono ?_
    rintro e w4 ⟨rfl, hb4, hx4⟩
    have HX : Hid (RowKit.Below w.heap.size w w4 ∧ Bx w.heap.size _ w4) := ⟨HL.out.trans hb4, hx4⟩
    clear hb4 hx4
    have hcs := HX.out.2.cell
    have HX2 : Hid (RowKit.Below w.heap.size w w4) := HX.out.1
    clear HX
    generalize median ltInt d i j k 0 = M at hcs HE ⊢
    by_cases e0 : M.2 = 0
    · have HE : Hid (CP = (M.1, Hint.increasing)) := by show _ = _; rw [HE.out]; unfold cpH; rw [if_pos e0]
      rw [e0] at hcs
      have hcs : w4.cell? ⟨w.heap.size, 0, none⟩ = some (.int .i64 0) := hcs
      clear e0
      go_wp2_with fail
      go_ret2
      rw [HE.out]
      exact ⟨rfl, HX2.out⟩
    · by_cases e1 : M.2 = 12
      · have HE : Hid (CP = (M.1, Hint.decreasing)) := by show _ = _; rw [HE.out]; unfold cpH; rw [if_neg e0, if_pos e1]
        rw [e1] at hcs
        have hcs : w4.cell? ⟨w.heap.size, 0, none⟩ = some (.int .i64 12) := hcs
        clear e0 e1
        go_wp2_with fail
        go_ret2
        rw [HE.out]
        exact ⟨rfl, HX2.out⟩
      · have e0I : ¬ (M.2 : Int) = 0 := by omega
        have e1I : ¬ (M.2 : Int) = 12 := by omega
        have HE : Hid (CP = (M.1, Hint.unknown)) := by show _ = _; rw [HE.out]; unfold cpH; rw [if_neg e0, if_neg e1]
        clear e0 e1
        go_wp2_with fail
        go_ret2
        rw [HE.out]
        exact ⟨rfl, HX2.out⟩
end Go.Proofs.YtkgjmejpbklabaaGreat
