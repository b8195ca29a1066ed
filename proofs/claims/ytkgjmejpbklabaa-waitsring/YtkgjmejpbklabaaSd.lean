/-
  Layer 15, the library's sort at []uint64: order2, median, choosePivot.
-/
import Derived.Test.YtkgjmejpbklabaaSa
namespace Go.Proofs.Ytkgjmejpbklabaa
open Go.RowKit

open Go.Sort

theorem below_dr (n : Nat) (w : World) (q : Nat) : RowKit.Below n w (w.drewN q) := ⟨rfl, rfl, rfl, Nat.le_refl _, fun _ _ => rfl⟩
/-- a number in a block of its own -/
def Bx (sb : Nat) (s : Nat) (w : World) : Prop := w.heap[sb]? = some (.cells #[.int .i64 (s : Int)] 3 (0, 0))
theorem Bx.cell {sb s : Nat} {w : World} (h : Bx sb s w) : w.cell? ⟨sb, 0, none⟩ = some (.int .i64 (s : Int)) := by simp [World.cell?, show w.heap[sb]? = _ from h]
theorem Bx.frz {sb s : Nat} {w : World} (h : Bx sb s w) : w.frozen? ⟨sb, 0, none⟩ = false := by simp [World.frozen?, show w.heap[sb]? = _ from h]
theorem Bx.put {sb s : Nat} {w : World} (h : Bx sb s w) (s' : Nat) : Bx sb s' (w.setCell ⟨sb, 0, none⟩ (.int .i64 (s' : Int))) := by
  unfold Bx at h ⊢
  have hlt : sb < w.heap.size := (Array.getElem?_eq_some_iff.1 h).1
  simp [World.setCell, Array.getElem?_modify, h]
theorem Bx.new (w : World) (s : Nat) : Bx w.heap.size s (w.alloc (Obj.cells #[Value.int .i64 (s : Int)] 3)) := by
  unfold Bx World.alloc
  rw [Array.getElem?_push_size]
theorem Bx.draws {sb s : Nat} {w : World} (h : Bx sb s w) (q : Nat) : Bx sb s (w.drewN q) := h
theorem holds_later {blk off sb : Nat} {d : Array Int} {w w' : World} (h : Holds uE w blk off d) (hk : blk < sb) (hb : RowKit.Below sb w w') : Holds uE w' blk off d := fun j hj =>
  ⟨by rw [hb.cell hk]; exact (h j hj).1, by rw [hb.frozen hk]; exact (h j hj).2⟩
theorem fam {blk off n : Nat} {d : Array Int} {w : World} (hN : d.size = n) (h : Holds uE w blk off d) : ∃ G : Nat → Int, (∀ t, t < n → w.cell? ⟨blk, off + t, none⟩ = some (.int .u64 (G t))) ∧ (∀ t, t < n → w.frozen? ⟨blk, off + t, none⟩ = false) ∧ Hid (∀ t, G t = d[t]!) :=
  ⟨fun t => d[t]!, fun t ht => (h t (by omega)).1, fun t ht => (h t (by omega)).2, fun _ => rfl⟩

set_option maxHeartbeats 2000000 in
set_option maxRecDepth 100000 in
theorem order2_at {blk off cap n a b sb s : Nat} {d : Array Int} {w : World} (hN : d.size = n) (hH : Holds uE w blk off d) (hB : Bx sb s w) (ha : a < n) (hb : b < n) (hs : s < 1000) :
    Calls Try.prog 81 #[.slice (some ⟨blk, off, none⟩) n cap, .int .i64 a, .int .i64 b, .pointer (some ⟨sb, 0, none⟩)] w fun e w' =>
      e = .returned (.tuple #[.int .i64 ((order2 ltInt d a b s).1 : Nat), .int .i64 ((order2 ltInt d a b s).2.1 : Nat)]) ∧ RowKit.Below sb w w' ∧ Bx sb (order2 ltInt d a b s).2.2 w' := by
  obtain ⟨G, hcw, hfw, HG⟩ := fam hN hH
  have hcs := hB.cell
  have hfs := hB.frz
  have HB : Hid (Bx sb s w) := hB
  clear hB hH
  go_enter Try.func81, Try.ntmps81
  go_wp2
  go_quiet (first | (go_at_call 55; refine Calls.quiet_of_same (less_is _ _ _)))
  go_wp2
  · have hl : ltInt (G b) (G a) = true := by assumption
    go_ret2
    rw [HG.out, HG.out] at hl
    refine ⟨by simp [order2, hl], ?_, ?_⟩
    · exact ((below_dr sb w nq).setCell (Nat.le_refl _) _)
    · have := (HB.out.draws nq).put (s + 1)
      simpa [order2, hl] using this
  · have hl : ltInt (G b) (G a) = false := by assumption
    go_ret2
    rw [HG.out, HG.out] at hl
    refine ⟨by simp [order2, hl], below_dr sb w nq, ?_⟩
    simpa [order2, hl] using HB.out.draws nq
theorem order2_le {d : Array Int} {a b s n : Nat} (ha : a < n) (hb : b < n) : (order2 ltInt d a b s).1 < n ∧ (order2 ltInt d a b s).2.1 < n ∧ (order2 ltInt d a b s).2.2 ≤ s + 1 := by
  unfold order2; split <;> simp <;> omega
set_option maxHeartbeats 2000000 in
set_option maxRecDepth 100000 in
theorem median_at {blk off cap n a b c sb s : Nat} {d : Array Int} {w : World} (hN : d.size = n) (hH : Holds uE w blk off d) (hk : blk < sb) (hB : Bx sb s w) (ha : a < n) (hb : b < n) (hc : c < n) (hs : s < 900) :
    Calls Try.prog 76 #[.slice (some ⟨blk, off, none⟩) n cap, .int .i64 a, .int .i64 b, .int .i64 c, .pointer (some ⟨sb, 0, none⟩)] w fun e w' =>
      e = .returned (.int .i64 ((median ltInt d a b c s).1 : Nat)) ∧ RowKit.Below sb w w' ∧ Bx sb (median ltInt d a b c s).2 w' := by
  have HE : Hid (median ltInt d a b c s = ((order2 ltInt d (order2 ltInt d a b s).1 (order2 ltInt d (order2 ltInt d a b s).2.1 c (order2 ltInt d a b s).2.2).1 (order2 ltInt d (order2 ltInt d a b s).2.1 c (order2 ltInt d a b s).2.2).2.2).2.1, (order2 ltInt d (order2 ltInt d a b s).1 (order2 ltInt d (order2 ltInt d a b s).2.1 c (order2 ltInt d a b s).2.2).1 (order2 ltInt d (order2 ltInt d a b s).2.1 c (order2 ltInt d a b s).2.2).2.2).2.2)) := rfl
  generalize median ltInt d a b c s = M at HE ⊢
  have l1 := order2_le (d := d) (s := s) ha hb
  have HC1 : Hid (∀ w, Holds uE w blk off d → Bx sb s w → _) := fun w h1 h2 => @order2_at blk off cap n a b sb s d w hN h1 h2 ha hb (by omega)
  generalize order2 ltInt d a b s = r1 at HE l1 HC1
  obtain ⟨a1, b1, s1⟩ := r1
  have l2 := order2_le (d := d) (s := s1) (a := b1) (b := c) l1.2.1 hc
  have HC2 : Hid (∀ w, Holds uE w blk off d → Bx sb s1 w → _) := fun w h1 h2 => @order2_at blk off cap n b1 c sb s1 d w hN h1 h2 l1.2.1 hc (by have := l1.2.2; simp only at this; omega)
  simp only at HE l1 HC1 l2 HC2
  generalize order2 ltInt d b1 c s1 = r2 at HE l2 HC2
  obtain ⟨b2, c2, s2⟩ := r2
  simp only at HE l2 HC2
  have HC3 : Hid (∀ w, Holds uE w blk off d → Bx sb s2 w → _) := fun w h1 h2 => @order2_at blk off cap n a1 b2 sb s2 d w hN h1 h2 l1.1 l2.1 (by omega)
  generalize order2 ltInt d a1 b2 s2 = r3 at HE HC3
  obtain ⟨a3, b3, s3⟩ := r3
  simp only at HE HC3
  have HH : Hid (Holds uE w blk off d) := hH
  have HB : Hid (Bx sb s w) := hB
  clear hH hB l1 l2
  go_enter Try.func76, Try.ntmps76
  go_wp2_with fail
  refine (HC1.out w HH.out HB.out).mono ?_
  rintro e w1 ⟨rfl, hb1, hx1⟩
  have H1 : Hid (RowKit.Below sb w w1 ∧ Bx sb s1 w1) := ⟨hb1, hx1⟩
  clear hb1 hx1
  go_wp2_with fail
  refine (HC2.out w1 (holds_later HH.out hk H1.out.1) H1.out.2).mono ?_
  rintro e w2 ⟨rfl, hb2, hx2⟩
  have H2 : Hid (RowKit.Below sb w w2 ∧ Bx sb s2 w2) := ⟨H1.out.1.trans hb2, hx2⟩
  clear hb2 hx2
  go_wp2_with fail
  refine (HC3.out w2 (holds_later HH.out hk H2.out.1) H2.out.2).mono ?_
  rintro e w3 ⟨rfl, hb3, hx3⟩
  have H3 : Hid (RowKit.Below sb w w3 ∧ Bx sb s3 w3) := ⟨H2.out.1.trans hb3, hx3⟩
  clear hb3 hx3
  go_wp2_with fail
  go_ret
  rw [HE.out]
  exact ⟨rfl, H3.out.1, H3.out.2⟩
theorem median_le {d : Array Int} {a b c s n : Nat} (ha : a < n) (hb : b < n) (hc : c < n) : (median ltInt d a b c s).1 < n ∧ (median ltInt d a b c s).2 ≤ s + 3 := by
  have l1 := order2_le (d := d) (s := s) ha hb
  have l2 := order2_le (d := d) (s := (order2 ltInt d a b s).2.2) l1.2.1 hc
  have l3 := order2_le (d := d) (s := (order2 ltInt d (order2 ltInt d a b s).2.1 c (order2 ltInt d a b s).2.2).2.2) l1.1 l2.1
  exact ⟨l3.2.1, by have := l3.2.2; have := l2.2.2; have := l1.2.2; simp only [median]; omega⟩
set_option maxHeartbeats 2000000 in
set_option maxRecDepth 100000 in
theorem medadj_at {blk off cap n a sb s : Nat} {d : Array Int} {w : World} (hN : d.size = n) (hH : Holds uE w blk off d) (hk : blk < sb) (hB : Bx sb s w) (ha : 0 < a) (hb : a + 1 < n) (hz : n < 2305843009213693952) (hs : s < 900) :
    Calls Try.prog 75 #[.slice (some ⟨blk, off, none⟩) n cap, .int .i64 a, .pointer (some ⟨sb, 0, none⟩)] w fun e w' =>
      e = .returned (.int .i64 ((medianAdjacent ltInt d a s).1 : Nat)) ∧ RowKit.Below sb w w' ∧ Bx sb (medianAdjacent ltInt d a s).2 w' := by
  have HC := @median_at blk off cap n (a - 1) a (a + 1) sb s d w hN hH hk hB (by omega) (by omega) (by omega) hs
  have HC : Hid (Calls _ _ _ _ _) := HC
  clear hH hB
  go_enter Try.func75, Try.ntmps75
  go_wp2_with fail
  rw [show (a : Int) - 1 = ((a - 1 : Nat) : Int) by omega, show (a : Int) + 1 = ((a + 1 : Nat) : Int) by omega]
  refine (HC.out).mono ?_
  rintro e w1 ⟨rfl, hb1, hx1⟩
  have H1 : Hid (RowKit.Below sb w w1 ∧ Bx sb (medianAdjacent ltInt d a s).2 w1) := ⟨hb1, hx1⟩
  clear hb1 hx1
  go_wp2_with fail
  go_ret
  exact ⟨rfl, H1.out.1, H1.out.2⟩
theorem medadj_le {d : Array Int} {a s n : Nat} (hb : a + 1 < n) : (medianAdjacent ltInt d a s).1 < n ∧ (medianAdjacent ltInt d a s).2 ≤ s + 3 := median_le (by omega) (by omega) hb
/-- a hint as a number -/
def hintN : Hint → Int
  | .unknown => 0
  | .increasing => 1
  | .decreasing => 2
def cpR (d : Array Int) (l i j k : Nat) : Nat × Nat :=
  if l ≥ 50 then median ltInt d (medianAdjacent ltInt d i 0).1 (medianAdjacent ltInt d j (medianAdjacent ltInt d i 0).2).1 (medianAdjacent ltInt d k (medianAdjacent ltInt d j (medianAdjacent ltInt d i 0).2).2).1 (medianAdjacent ltInt d k (medianAdjacent ltInt d j (medianAdjacent ltInt d i 0).2).2).2 else median ltInt d i j k 0
def cpH (M : Nat × Nat) : Nat × Hint := (M.1, if M.2 = 0 then Hint.increasing else if M.2 = 12 then Hint.decreasing else Hint.unknown)
theorem cp_is {d : Array Int} {a b : Nat} (h : b - a ≥ 8) : choosePivot ltInt d a b = cpH (cpR d (b - a) (a + (b - a) / 4 * 1) (a + (b - a) / 4 * 2) (a + (b - a) / 4 * 3)) := by
  unfold choosePivot cpH cpR
  simp only [if_pos h]
set_option maxHeartbeats 2000000 in
set_option maxRecDepth 100000 in
theorem pivot_at {blk off cap n a b : Nat} {d : Array Int} {w : World} (hN : d.size = n) (hH : Holds uE w blk off d) (hk : blk < w.heap.size) (hab : a + 8 ≤ b) (hb : b ≤ n) (hz : n < 2305843009213693952) :
    Calls Try.prog 52 #[.slice (some ⟨blk, off, none⟩) n cap, .int .i64 a, .int .i64 b] w fun e w' =>
      e = .returned (.tuple #[.int .i64 ((choosePivot ltInt d a b).1 : Nat), .int .i64 (hintN (choosePivot ltInt d a b).2)]) ∧ RowKit.Below w.heap.size w w' := by
  obtain ⟨l, hl⟩ : ∃ l, l = b - a := ⟨_, rfl⟩
  have hl8 : 8 ≤ l := by omega
  have hlb : a + l = b := by omega
  clear hl
  obtain ⟨i, hi⟩ : ∃ i, i = a + l / 4 * 1 := ⟨_, rfl⟩
  obtain ⟨j, hj⟩ : ∃ j, j = a + l / 4 * 2 := ⟨_, rfl⟩
  obtain ⟨k, hk3⟩ : ∃ k, k = a + l / 4 * 3 := ⟨_, rfl⟩
  have HE : Hid (choosePivot ltInt d a b = cpH (cpR d l i j k)) := by
    show _ = _
    rw [cp_is (by omega), show b - a = l by omega, ← hi, ← hj, ← hk3]
  generalize choosePivot ltInt d a b = CP at HE ⊢
  have hi1 : 0 < i ∧ i + 1 < n := by omega
  have hj1 : 0 < j ∧ j + 1 < n := by omega
  have hk1 : 0 < k ∧ k + 1 < n := by omega
  have hiI : (a : Int) + ((b : Int) - (a : Int)) / 4 = (i : Int) := by omega
  have hjI : (a : Int) + ((b : Int) - (a : Int)) / 4 * 2 = (j : Int) := by omega
  have hkI : (a : Int) + ((b : Int) - (a : Int)) / 4 * 3 = (k : Int) := by omega
  have hlI : (b : Int) - (a : Int) = (l : Int) := by omega
  have HJ : Hid ((a : Int) + ((b : Int) - (a : Int)) / 4 = (i : Int) ∧ (a : Int) + ((b : Int) - (a : Int)) / 4 * 2 = (j : Int) ∧ (a : Int) + ((b : Int) - (a : Int)) / 4 * 3 = (k : Int) ∧ (b : Int) - (a : Int) = (l : Int)) := ⟨hiI, hjI, hkI, hlI⟩
  clear hi hj hk3 hiI hjI hkI hlI
  have HH : Hid (Holds uE (w.alloc (Obj.cells #[Value.int IntKind.i64 0] 3)) blk off d) := holds_later hH hk ((RowKit.Below.refl _ w).alloc (Nat.le_refl _) _)
  have HB : Hid (Bx w.heap.size 0 (w.alloc (Obj.cells #[Value.int IntKind.i64 0] 3))) := Bx.new w 0
  have HL : Hid (RowKit.Below w.heap.size w (w.alloc (Obj.cells #[Value.int IntKind.i64 0] 3))) := (RowKit.Below.refl _ w).alloc (Nat.le_refl _) _
  clear hH
  go_enter Try.func52, Try.ntmps52
  by_cases hl50 : l ≥ 50
  · unfold cpR at HE
    simp only [if_pos hl50] at HE
    have hl50I : 50 ≤ (b : Int) - (a : Int) := by have := HJ.out; omega
    have hl8I : 8 ≤ (b : Int) - (a : Int) := by omega
    go_wp2_with fail
    rw [HJ.out.1, HJ.out.2.1, HJ.out.2.2.1]
    have L1 := medadj_le (d := d) (s := 0) hi1.2
    have L2 := medadj_le (d := d) (s := (medianAdjacent ltInt d i 0).2) hj1.2
    have L3 := medadj_le (d := d) (s := (medianAdjacent ltInt d j (medianAdjacent ltInt d i 0).2).2) hk1.2
    refine (medadj_at hN HH.out hk HB.out hi1.1 hi1.2 hz (by omega)).mono ?_
    rintro e w1 ⟨rfl, hb1, hx1⟩
    have H1 : Hid (RowKit.Below w.heap.size w w1 ∧ Bx w.heap.size _ w1 ∧ Holds uE w1 blk off d) := ⟨HL.out.trans hb1, hx1, holds_later HH.out hk hb1⟩
    clear hb1 hx1
    go_wp2_with fail
    refine (medadj_at hN H1.out.2.2 hk H1.out.2.1 hj1.1 hj1.2 hz (by omega)).mono ?_
    rintro e w2 ⟨rfl, hb2, hx2⟩
    have H2 : Hid (RowKit.Below w.heap.size w w2 ∧ Bx w.heap.size _ w2 ∧ Holds uE w2 blk off d) := ⟨H1.out.1.trans hb2, hx2, holds_later H1.out.2.2 hk hb2⟩
    clear hb2 hx2
    go_wp2_with fail
    refine (medadj_at hN H2.out.2.2 hk H2.out.2.1 hk1.1 hk1.2 hz (by omega)).mono ?_
    rintro e w3 ⟨rfl, hb3, hx3⟩
    have H3 : Hid (RowKit.Below w.heap.size w w3 ∧ Bx w.heap.size _ w3 ∧ Holds uE w3 blk off d) := ⟨H2.out.1.trans hb3, hx3, holds_later H2.out.2.2 hk hb3⟩
    clear hb3 hx3
    go_wp2_with fail
    refine (median_at hN H3.out.2.2 hk H3.out.2.1 L1.1 L2.1 L3.1 (by omega)).mono ?_
    rintro e w4 ⟨rfl, hb4, hx4⟩
    have HX : Hid (RowKit.Below w.heap.size w w4 ∧ Bx w.heap.size _ w4) := ⟨H3.out.1.trans hb4, hx4⟩
    clear hb4 hx4 L1 L2 L3 H1 H2 H3
    have hcs := HX.out.2.cell
    have HX2 : Hid (RowKit.Below w.heap.size w w4) := HX.out.1
    clear HX
    generalize median ltInt d (medianAdjacent ltInt d i 0).1 (medianAdjacent ltInt d j (medianAdjacent ltInt d i 0).2).1 (medianAdjacent ltInt d k (medianAdjacent ltInt d j (medianAdjacent ltInt d i 0).2).2).1 (medianAdjacent ltInt d k (medianAdjacent ltInt d j (medianAdjacent ltInt d i 0).2).2).2 = M at hcs HE ⊢
    by_cases e0 : M.2 = 0
    · have HE : Hid (CP = (M.1, Hint.increasing)) := by show _ = _; rw [HE.out]; unfold cpH; rw [if_pos e0]
      rw [e0] at hcs
      have hcs : w4.cell? ⟨w.heap.size, 0, none⟩ = some (.int .i64 0) := hcs
      clear e0
      go_wp2_with fail
      go_ret2
      rw [HE.out]
      exact ⟨rfl, HX2.out⟩
    · by_cases e1 : M.2 = 12
      · have HE : Hid (CP = (M.1, Hint.decreasing)) := by show _ = _; rw [HE.out]; unfold cpH; rw [if_neg e0, if_pos e1]
        rw [e1] at hcs
        have hcs : w4.cell? ⟨w.heap.size, 0, none⟩ = some (.int .i64 12) := hcs
        clear e0 e1
        go_wp2_with fail
        go_ret2
        rw [HE.out]
        exact ⟨rfl, HX2.out⟩
      · have e0I : ¬ (M.2 : Int) = 0 := by omega
        have e1I : ¬ (M.2 : Int) = 12 := by omega
        have HE : Hid (CP = (M.1, Hint.unknown)) := by show _ = _; rw [HE.out]; unfold cpH; rw [if_neg e0, if_neg e1]
        clear e0 e1
        go_wp2_with fail
        go_ret2
        rw [HE.out]
        exact ⟨rfl, HX2.out⟩
  · unfold cpR at HE
    simp only [if_neg hl50] at HE
    have hl50I : ¬ 50 ≤ (b : Int) - (a : Int) := by have := HJ.out; omega
    have hl8I : 8 ≤ (b : Int) - (a : Int) := by have := HJ.out; omega
    go_wp2_with fail
    rw [HJ.out.1, HJ.out.2.1, HJ.out.2.2.1]
    refine (median_at hN HH.out hk HB.out (by omega) (by omega) (by omega) (by omega)).mono ?_
    rintro e w4 ⟨rfl, hb4, hx4⟩
    have HX : Hid (RowKit.Below w.heap.size w w4 ∧ Bx w.heap.size _ w4) := ⟨HL.out.trans hb4, hx4⟩
    clear hb4 hx4
    have hcs := HX.out.2.cell
    have HX2 : Hid (RowKit.Below w.heap.size w w4) := HX.out.1
    clear HX
    generalize median ltInt d i j k 0 = M at hcs HE ⊢
    by_cases e0 : M.2 = 0
    · have HE : Hid (CP = (M.1, Hint.increasing)) := by show _ = _; rw [HE.out]; unfold cpH; rw [if_pos e0]
      rw [e0] at hcs
      have hcs : w4.cell? ⟨w.heap.size, 0, none⟩ = some (.int .i64 0) := hcs
      clear e0
      go_wp2_with fail
      go_ret2
      rw [HE.out]
      exact ⟨rfl, HX2.out⟩
    · by_cases e1 : M.2 = 12
      · have HE : Hid (CP = (M.1, Hint.decreasing)) := by show _ = _; rw [HE.out]; unfold cpH; rw [if_neg e0, if_pos e1]
        rw [e1] at hcs
        have hcs : w4.cell? ⟨w.heap.size, 0, none⟩ = some (.int .i64 12) := hcs
        clear e0 e1
        go_wp2_with fail
        go_ret2
        rw [HE.out]
        exact ⟨rfl, HX2.out⟩
      · have e0I : ¬ (M.2 : Int) = 0 := by omega
        have e1I : ¬ (M.2 : Int) = 12 := by omega
        have HE : Hid (CP = (M.1, Hint.unknown)) := by show _ = _; rw [HE.out]; unfold cpH; rw [if_neg e0, if_neg e1]
        clear e0 e1
        go_wp2_with fail
        go_ret2
        rw [HE.out]
        exact ⟨rfl, HX2.out⟩
end Go.Proofs.Ytkgjmejpbklabaa
