/-
  Layer 4: the statements' own 'awake'.
-/
import Derived.Test.YtlidjenkicgldaaLg
namespace Go.Proofs.Ytlidjenkicgldaa
open Go.RowKit

/-- 64 bytes of one kind, the first k written -/
def fillk (x : Int) (k : Nat) : List Int := List.replicate k x ++ List.replicate (64 - k) 0
theorem fillk_zero (x : Int) : fillk x 0 = List.replicate 64 0 := by simp [fillk]
theorem fillk_all (x : Int) : fillk x 64 = List.replicate 64 x := by simp [fillk]
theorem fillk_step (x : Int) (k : Nat) (hk : k < 64) : (fillk x k).set k x = fillk x (k + 1) := by
  unfold fillk
  rw [List.set_append_right _ _ (by simp), show k - (List.replicate k x).length = 0 by simp, show 64 - k = (64 - (k + 1)) + 1 by omega, List.replicate_succ, List.set_cons_zero, List.replicate_succ', List.append_assoc]
  rfl
theorem fillk_length (x : Int) (k : Nat) (hk : k ≤ 64) : (fillk x k).length = 64 := by simp [fillk]; omega

/-- a block of bytes, whole -/
def BRow (w : World) (g : Nat) (xs : List Int) : Prop := w.heap[g]? = some (.cells (U8 xs).toArray 5 (0, 0))
theorem BRow.same {w w' : World} {g : Nat} {xs : List Int} (h : BRow w g xs) (e : w'.heap[g]? = w.heap[g]?) : BRow w' g xs := e.trans h
theorem BRow.lt {w : World} {g : Nat} {xs : List Int} (h : BRow w g xs) : g < w.heap.size := (Array.getElem?_eq_some_iff.1 h).1
theorem BRow.later {w w' : World} {g : Nat} {xs : List Int} (h : BRow w g xs) (hb : Below w.heap.size w w') : BRow w' g xs := h.same (hb.block g h.lt)
theorem BRow.kept {w w' : World} {S : Nat → Prop} {g : Nat} {xs : List Int} (h : BRow w g xs) (hb : Kept S w w') (hs : ¬ S g) : BRow w' g xs := h.same (hb.block g h.lt hs)
theorem BRow.cell {w : World} {g k : Nat} {xs : List Int} (h : BRow w g xs) (hk : k < xs.length) : w.cell? ⟨g, k, none⟩ = some (.int .u8 xs[k]) := by
  rw [cell_of_row _ _ _ _ _ _ h]; simp [hk]
theorem BRow.free {w : World} {g : Nat} {xs : List Int} (h : BRow w g xs) (k : Nat) : w.frozen? ⟨g, k, none⟩ = false := frozen_of_row _ _ _ _ 5 h
theorem BRow.put {w : World} {g : Nat} {xs : List Int} (h : BRow w g xs) (k : Nat) (x : Int) : BRow (w.setCell ⟨g, k, none⟩ (.int .u8 x)) g (xs.set k x) := by
  have := setCell_row (cs := U8 xs) h k (.int .u8 x)
  unfold BRow
  rw [this]
  simp [U8, List.map_set]
theorem BRow.other {w : World} {g g' k : Nat} {xs : List Int} (h : BRow w g xs) (v : Value) (hne : g ≠ g') : BRow (w.setCell ⟨g', k, none⟩ v) g xs := h.same (heap_setCell_other _ _ _ _ hne)
theorem BRow.bin {w : World} {g n : Nat} {xs : List Int} (h : BRow w g xs) (hn : xs.length = n) (hb : Bytes xs) : BIn w (some ⟨g, 0, none⟩) n xs :=
  ⟨hn, hb, fun _ => ⟨g, 0, rfl, fun i hi => by rw [Nat.zero_add, h.cell (by omega)]; simp [List.getD, List.getElem?_eq_getElem (show i < xs.length by omega)]⟩⟩

theorem lit_ints (w : World) (xs : List Int) (n : Nat) (hl : xs.length = n) : IIn (w.alloc (.cells (xs.map (Value.int .i64)).toArray 3)) (some ⟨w.heap.size, 0, none⟩) n xs := by
  refine ⟨hl, fun h0 => ⟨_, 0, rfl, fun i hi => ?_⟩⟩
  rw [Nat.zero_add, cell_of_row _ w.heap.size i _ 3 (0, 0) (heap_alloc_new w _)]
  simp [List.getD, List.getElem?_eq_getElem (show i < xs.length by omega)]

theorem awake_settle : settle (keepsK [2, 0, 2, 9, -1]) [⟨0, List.replicate 64 1⟩, ⟨0, List.replicate 64 2⟩, ⟨1, List.replicate 64 3⟩] (List.replicate 128 0) = List.replicate 64 1 ++ List.replicate 64 3 := by
  simp [settle, setl, keepsK, put]

theorem str_cat (a b : List Int) : ((strOfNums (a ++ b)).toList == (strOfNums a ++ strOfNums b).toList) = true := by
  rw [beq_iff_eq, str_list, ByteArray.toList_eq, ByteArray.data_append]
  simp [strOfNums]

theorem three_rows (w : World) (ob : Obj) : let W := ((w.alloc ob).alloc ob).alloc ob
    Below w.heap.size w W ∧ W.heap.size = w.heap.size + 3 ∧ ∀ j, w.heap.size ≤ j → j < w.heap.size + 3 → W.heap[j]? = some ob := by
  refine ⟨(((Below.refl _ w).alloc (Nat.le_refl _) _).alloc (by simp) _).alloc (by simp; omega) _, by simp, fun j h1 h2 => ?_⟩
  show (((w.heap.push ob).push ob).push ob)[j]? = some ob
  rw [Array.getElem?_push, Array.getElem?_push, Array.getElem?_push]
  simp only [Array.size_push]
  by_cases c1 : j = w.heap.size + 1 + 1
  · rw [if_pos c1]
  · rw [if_neg c1]
    by_cases c2 : j = w.heap.size + 1
    · rw [if_pos c2]
    · rw [if_neg c2, if_pos (by omega)]

set_option maxRecDepth 10000 in
set_option maxHeartbeats 4000000 in
theorem awake_any (w : World) : Calls Try.prog 17 #[] w fun e w' => e = .returned (.bool true) ∧ Below w.heap.size w w' := by
  obtain ⟨i0, hi, hz0, hz1, hz2⟩ := info_parts info5
  have hmk : ∀ w, (Instr.makeSlice 23 (.int .i64 64) (.int .i64 64)).run Try.prog w = .ok (.slice (some ⟨w.heap.size, 0, none⟩) 64 64) (w.alloc (.cells (List.replicate 64 (Value.int .u8 0)).toArray 5)) := fun w => by
    have := run_make (P := Try.prog) w 23 5 i0 _ Try.underlying23 hi hz0 .i64 .i64 64 64 (by omega) (by omega) (by rw [hz2]; omega) (by omega)
    rw [hz1] at this
    exact this.trans (by rw [show (64 : Int).toNat * 1 = 64 from rfl]; exact congrArg (fun c => Result.ok _ (w.alloc (.cells c 5))) (made_rep 1 (Value.int .u8 0) (by omega) 64))
  obtain ⟨ob, hob⟩ : ∃ ob, Obj.cells (List.replicate 64 (Value.int .u8 0)).toArray 5 = ob := ⟨_, rfl⟩
  have HZ : Hid (∀ (W : World) (j : Nat) (x : Int), W.heap[j]? = some ob → BRow W j (fillk x 0)) := fun W j x h => by
    unfold BRow; rw [h, ← hob, fillk_zero, U8, List.map_replicate]
  rw [hob] at hmk
  clear hob
  go_enter Try.func17, Try.ntmps17
  go_wp2_with fail
  refine (new_good 2 w (by omega) (by omega)).mono ?_
  rintro e w1 ⟨p, rfl, hd, hb1⟩
  go_wp2_with fail
  refine (len_any hd).mono ?_
  rintro e w2 ⟨rfl, rfl⟩
  have HD1 : Hid (Dsk w1 (fun k => w.heap.size ≤ k) p 2 (List.replicate (64 * 2) 0) [] ∧ Below w.heap.size w w1) := ⟨hd, hb1⟩
  clear hd hb1
  go_wp2
  refine Code.wp_mono (Q := fun e a W => ∃ g1 g2 g3 : Nat, e = .normal ∧ Hid (Below w1.heap.size w1 W ∧ (w1.heap.size ≤ g1 ∧ w1.heap.size ≤ g2 ∧ w1.heap.size ≤ g3 ∧ g1 ≠ g2 ∧ g1 ≠ g3 ∧ g2 ≠ g3) ∧ BRow W g1 (fillk 1 0) ∧ BRow W g2 (fillk 2 0) ∧ BRow W g3 (fillk 3 0)) ∧ a = { tmps := #[Value.bool false, Value.pointer (some ⟨p, 0, none⟩), Value.int .i64 0, Value.slice (some ⟨g1, 0, none⟩) 64 64, Value.slice (some ⟨g2, 0, none⟩) 64 64, Value.slice (some ⟨g3, 0, none⟩) 64 64, undef, undef, undef, undef, undef, undef, undef, undef, Value.tuple #[Value.pointer (some ⟨p, 0, none⟩), Value.int .i64 0], Value.tuple #[Value.pointer (some ⟨p, 0, none⟩), Value.int .i64 0], Value.pointer (some ⟨p, 0, none⟩), Value.int .i64 0, Value.pointer (some ⟨p, 0, none⟩), Value.bool false, Value.bool false, Value.int .i64 0, Value.bool false, Value.bool false, Value.bool false, Value.pointer (some ⟨p, 0, none⟩), Value.int .i64 2, Value.bool false, Value.bool false, Value.slice (some ⟨g1, 0, none⟩) 64 64, Value.slice (some ⟨g2, 0, none⟩) 64 64, Value.slice (some ⟨g3, 0, none⟩) 64 64, undef, undef, undef, undef, undef, undef, undef, undef, undef, undef, undef, undef, undef, undef, undef, undef, undef, undef, undef, undef, undef, undef, undef, undef, undef, undef, undef, undef, undef, undef, undef, undef, undef, undef, undef, undef, undef, undef, undef, undef, undef, undef, undef, undef, undef, undef, undef, undef, undef, undef, undef, undef, undef, undef, undef, undef, undef, undef, undef, undef, undef, undef, undef, undef, undef, undef, undef, undef, undef, undef, undef, undef, undef, undef, undef], defers := [] }) ?_ ?_
  rotate_left
  · go_region
    all_goals (obtain ⟨r1, r2, r3⟩ := three_rows w1 ob)
    all_goals refine ⟨_, _, _, rfl, ?_, rfl⟩
    all_goals exact ⟨⟨r1.os, r1.tape, r1.output, r1.size, r1.block⟩, by omega, HZ.out _ _ _ (r3 _ (by omega) (by omega)), HZ.out _ _ _ (r3 _ (by omega) (by omega)), HZ.out _ _ _ (r3 _ (by omega) (by omega))⟩
  rintro e a W ⟨g1, g2, g3, rfl, HF, rfl⟩
  clear hmk HZ
  go_wp2
  go_loopw [34] (fun i wr => ∃ k : Nat, k ≤ 64 ∧ i = .int .i64 k ∧ Hid (Below w1.heap.size w1 wr ∧ BRow wr g1 (fillk 1 k) ∧ BRow wr g2 (fillk 2 k) ∧ BRow wr g3 (fillk 3 k))) (fun i _ => 64 - (intOf i).toNat)
  case atStart => exact ⟨0, by omega, rfl, HF.out.1, HF.out.2.2⟩
  case round =>
    obtain ⟨k, hkm, rfl, HR⟩ := hrel
    have HN : Hid (w1.heap.size ≤ g1 ∧ w1.heap.size ≤ g2 ∧ w1.heap.size ≤ g3 ∧ g1 ≠ g2 ∧ g1 ≠ g3 ∧ g2 ≠ g3) := HF.out.2.1
    clear HF
    by_cases hlt : k < 64
    · obtain ⟨hb, r1, r2, r3⟩ := HR.out
      have hl1 := fillk_length 1 k (by omega)
      have hl2 := fillk_length 2 k (by omega)
      have hl3 := fillk_length 3 k (by omega)
      have c1 := r1.cell (k := k) (by omega)
      have f1 := r1.free k
      have q1 := r1.put k 1
      have q2 := r2.other (g' := g1) (k := k) (.int .u8 1) (by have := HN.out; omega)
      have q3 := r3.other (g' := g1) (k := k) (.int .u8 1) (by have := HN.out; omega)
      have c2 := q2.cell (k := k) (by omega)
      have f2 := q2.free k
      have s1 := q1.other (g' := g2) (k := k) (.int .u8 2) (by have := HN.out; omega)
      have s2 := q2.put k 2
      have s3 := q3.other (g' := g2) (k := k) (.int .u8 2) (by have := HN.out; omega)
      have c3 := s3.cell (k := k) (by omega)
      have f3 := s3.free k
      have HU : Hid (Below w1.heap.size w1 (((wr.setCell ⟨g1, k, none⟩ (.int .u8 1)).setCell ⟨g2, k, none⟩ (.int .u8 2)).setCell ⟨g3, k, none⟩ (.int .u8 3)) ∧ BRow (((wr.setCell ⟨g1, k, none⟩ (.int .u8 1)).setCell ⟨g2, k, none⟩ (.int .u8 2)).setCell ⟨g3, k, none⟩ (.int .u8 3)) g1 (fillk 1 (k + 1)) ∧ BRow (((wr.setCell ⟨g1, k, none⟩ (.int .u8 1)).setCell ⟨g2, k, none⟩ (.int .u8 2)).setCell ⟨g3, k, none⟩ (.int .u8 3)) g2 (fillk 2 (k + 1)) ∧ BRow (((wr.setCell ⟨g1, k, none⟩ (.int .u8 1)).setCell ⟨g2, k, none⟩ (.int .u8 2)).setCell ⟨g3, k, none⟩ (.int .u8 3)) g3 (fillk 3 (k + 1))) := by
        refine ⟨((hb.setCell HN.out.1 _).setCell HN.out.2.1 _).setCell HN.out.2.2.1 _, ?_, ?_, ?_⟩
        · rw [← fillk_step 1 k hlt]; exact s1.other _ (by have := HN.out; omega)
        · rw [← fillk_step 2 k hlt]; exact s2.other _ (by have := HN.out; omega)
        · rw [← fillk_step 3 k hlt]; exact s3.put k 3
      clear q1 q2 q3 s1 s2 s3 r1 r2 r3 hb HR
      generalize (fillk 1 k)[k] = y1 at c1
      generalize (fillk 2 k)[k] = y2 at c2
      generalize (fillk 3 k)[k] = y3 at c3
      clear hl1 hl2 hl3
      go_wp2
      go_roundw
      case rel => exact ⟨k + 1, by omega, by go_num, HU.out⟩
      case measure => simp [intOf]; omega
    · obtain rfl : k = 64 := by omega
      obtain ⟨hb, r1, r2, r3⟩ := HR.out
      rw [fillk_all] at r1 r2 r3
      clear HR
      obtain ⟨w0, hw0⟩ : ∃ w0, w0 = wr := ⟨_, rfl⟩
      subst hw0
      have hsz := HD1.out.2.size
      -- what the disk's blocks are from here on
      have hd0 : Dsk w0 (fun k => w.heap.size ≤ k ∧ (k < w1.heap.size ∨ w0.heap.size ≤ k)) p 2 (List.replicate 128 0) [] := (HD1.out.1.mono (T := fun k => w.heap.size ≤ k ∧ (k < w1.heap.size ∨ w0.heap.size ≤ k)) (fun k hk hs => ⟨hs, .inl hk⟩)).later hb
      have hS1 : ∀ g, w1.heap.size ≤ g → g < w0.heap.size → ¬ (w.heap.size ≤ g ∧ (g < w1.heap.size ∨ w0.heap.size ≤ g)) := fun g h1 h2 h3 => by omega
      have n1 := hS1 g1 HN.out.1 r1.lt
      have n2 := hS1 g2 HN.out.2.1 r2.lt
      have n3 := hS1 g3 HN.out.2.2.1 r3.lt
      have hS2 : ∀ {W : World}, w0.heap.size ≤ W.heap.size → ∀ k, k < W.heap.size ∨ True → More (fun k => w.heap.size ≤ k ∧ (k < w1.heap.size ∨ w0.heap.size ≤ k)) W k → (w.heap.size ≤ k ∧ (k < w1.heap.size ∨ w0.heap.size ≤ k)) := fun {W} hW k _ h => by
        have := hb.size
        rcases h with h | h
        · exact h
        · exact ⟨by omega, .inr (by omega)⟩
      obtain ⟨S, hS⟩ : ∃ S : Nat → Prop, S = fun k => w.heap.size ≤ k ∧ (k < w1.heap.size ∨ w0.heap.size ≤ k) := ⟨_, rfl⟩
      have HSb : Hid (∀ k, S k → w.heap.size ≤ k) := fun k h => by rw [hS] at h; exact h.1
      rw [← hS] at hd0 hS2
      have m1 : ¬ S g1 := by rw [hS]; exact n1
      have m2 : ¬ S g2 := by rw [hS]; exact n2
      have m3 : ¬ S g3 := by rw [hS]; exact n3
      have HB0 : Hid (Below w.heap.size w w0) := below_then HD1.out.2 hb
      have HN3 : Hid (¬ S g1 ∧ ¬ S g2 ∧ ¬ S g3) := ⟨m1, m2, m3⟩
      have HS2 : Hid (∀ {W : World}, w0.heap.size ≤ W.heap.size → ∀ k, More S W k → S k) := fun {W} hW k h => by have h' := hS2 hW k (.inr trivial) h; rw [hS]; exact h'
      clear hS2 n1 n2 n3 m1 m2 m3 hS1 HN HD1 hS hsz hb
      have hK := HSb.out
      go_wp2_with fail
      refine (write_good hd0 0 (by omega) (some ⟨g1, 0, none⟩) 64 (List.replicate 64 1) (r1.bin (by simp) (Bytes.rep _ _ (by omega))) (by simp)).mono ?_
      rintro e wa ⟨rfl, hda, hka⟩
      have sa := hka.size
      replace hda := hda.mono (T := S) (fun k _ h => HS2.out (Nat.le_refl _) k h)
      replace r1 := r1.kept hka HN3.out.1
      replace r2 := r2.kept hka HN3.out.2.1
      replace r3 := r3.kept hka HN3.out.2.2
      have b1 : Below w.heap.size w wa := HB0.out.trans (hka.below HB0.out.size hK)
      clear hka hd0
      go_wp2_with fail
      refine (write_good hda 0 (by omega) (some ⟨g2, 0, none⟩) 64 (List.replicate 64 2) (r2.bin (by simp) (Bytes.rep _ _ (by omega))) (by simp)).mono ?_
      rintro e wb ⟨rfl, hdb, hkb⟩
      have sb := hkb.size
      replace hdb := hdb.mono (T := S) (fun k _ h => HS2.out sa k h)
      replace r1 := r1.kept hkb HN3.out.1
      replace r2 := r2.kept hkb HN3.out.2.1
      replace r3 := r3.kept hkb HN3.out.2.2
      have b2 : Below w.heap.size w wb := b1.trans (hkb.below b1.size hK)
      clear hkb hda b1
      go_wp2_with fail
      refine (write_good hdb 1 (by omega) (some ⟨g3, 0, none⟩) 64 (List.replicate 64 3) (r3.bin (by simp) (Bytes.rep _ _ (by omega))) (by simp)).mono ?_
      rintro e wc ⟨rfl, hdc, hkc⟩
      have sc := hkc.size
      replace hdc := hdc.mono (T := fun k => S k ∧ k < wc.heap.size) (fun k hk h => ⟨HS2.out (by omega) k h, hk⟩)
      replace r1 := r1.kept hkc HN3.out.1
      replace r2 := r2.kept hkc HN3.out.2.1
      replace r3 := r3.kept hkc HN3.out.2.2
      have b3 : Below w.heap.size w wc := b2.trans (hkc.below b2.size hK)
      clear hkc hdb b2
      simp only [List.nil_append, List.cons_append] at hdc
      go_wp2_with fail
      refine (read_good hdc 0 (by omega)).mono ?_
      rintro e wd ⟨v, rfl, hown, hbd⟩
      replace hdc := hdc.later hbd
      replace r1 := r1.later hbd
      replace r2 := r2.later hbd
      replace r3 := r3.later hbd
      have b4 : Below w.heap.size w wd := below_then b3 hbd
      clear b3
      have e2 : newest [⟨0, List.replicate 64 1⟩, ⟨0, List.replicate 64 2⟩, ⟨1, List.replicate 64 3⟩] (List.replicate 128 0) 0 = List.replicate 64 2 := by simp [newest, newk]
      rw [e2] at hown
      go_wp2_with fail
      have hbe : Below wd.heap.size wd (wd.alloc (.cells #[.int .i64 2, .int .i64 0, .int .i64 2, .int .i64 9, .int .i64 (-1)] 3)) := below_alloc wd _
      refine (crash_any (hdc.later hbe) (by simp) _ 5 5 [2, 0, 2, 9, -1] (lit_ints wd [2, 0, 2, 9, -1] 5 rfl) (by omega)).mono ?_
      rintro e we ⟨rfl, hde, hke⟩
      rw [awake_settle] at hde
      replace r1 := (r1.later hbe).kept hke (fun h => HN3.out.1 h.1)
      replace r2 := (r2.later hbe).kept hke (fun h => HN3.out.2.1 h.1)
      replace r3 := (r3.later hbe).kept hke (fun h => HN3.out.2.2 h.1)
      have b5 : Below w.heap.size w we := (below_then b4 hbe).trans (hke.below (below_then b4 hbe).size (fun k h => hK k h.1))
      have hown2 : we.ownsRow wc.heap.size 5 1 v 64 (U8 (List.replicate 64 2)) := own_same (own_later hown hbe) (fun k hk => hke.block k ((own_ownBlk (own_later hown hbe) hk).elim fun _ hb => hb.lt) (fun h => by have := (hown.lt k hk).1; omega))
      obtain ⟨pv, cv, rfl, hin, _⟩ := own_in hown2 (Bytes.rep _ _ (by omega))
      have HDE : Hid (Dsk we (fun k => S k ∧ k < wc.heap.size) p 2 (List.replicate 64 1 ++ List.replicate 64 3) []) := hde
      have HB5 : Hid (Below w.heap.size w we) := b5
      have HR : Hid (BRow we g1 (List.replicate 64 1) ∧ BRow we g2 (List.replicate 64 2) ∧ BRow we g3 (List.replicate 64 3) ∧ BIn we pv 64 (List.replicate 64 2)) := ⟨r1, r2, r3, hin⟩
      clear hde b5 b4 r1 r2 r3 hin hown hown2 hke hbe hdc e2 hbd hK sa sb sc HS2 HN3 HB0 HSb
      obtain ⟨X1, hX1⟩ : ∃ X, X = List.replicate 64 (1 : Int) := ⟨_, rfl⟩
      obtain ⟨X2, hX2⟩ : ∃ X, X = List.replicate 64 (2 : Int) := ⟨_, rfl⟩
      obtain ⟨X3, hX3⟩ : ∃ X, X = List.replicate 64 (3 : Int) := ⟨_, rfl⟩
      have HB : Hid ((X1.length = 64 ∧ X2.length = 64 ∧ X3.length = 64) ∧ Bytes X1 ∧ Bytes X2 ∧ Bytes X3) := by { rw [hX1, hX2, hX3]; exact ⟨by simp, Bytes.rep _ _ (by omega), Bytes.rep _ _ (by omega), Bytes.rep _ _ (by omega)⟩ }
      rw [← hX1, ← hX2, ← hX3] at HR
      rw [← hX1, ← hX3] at HDE
      clear hX1 hX2 hX3
      go_wp2
      have z1 := (HR.out.1.bin (n := 64) HB.out.1.1 HB.out.2.1).drew.str 64
      have z2 := (HR.out.2.1.bin (n := 64) HB.out.1.2.1 HB.out.2.2.1).drew.str 64
      have z3 := (HR.out.2.2.1.bin (n := 64) HB.out.1.2.2 HB.out.2.2.2).drew.str 64
      have z4 := HR.out.2.2.2.drew.str cv
      refine wp_region_noPanic ?_
      refine wp_region_held_drew (S := (fun w' => Sem.run Try.prog (convert 23 9 (Value.slice (some ⟨g1, 0, none⟩) 64 64)) w' = Result.ok (Value.string (strOfNums (X1))) w' ∧ Sem.run Try.prog (convert 23 9 (Value.slice (some ⟨g2, 0, none⟩) 64 64)) w' = Result.ok (Value.string (strOfNums (X2))) w' ∧ Sem.run Try.prog (convert 23 9 (Value.slice (some ⟨g3, 0, none⟩) 64 64)) w' = Result.ok (Value.string (strOfNums (X3))) w' ∧ Sem.run Try.prog (convert 23 9 (Value.slice pv 64 cv)) w' = Result.ok (Value.string (strOfNums (X2))) w')) (by kernel_rfl) ⟨z1, z2, z3, z4⟩ (fun hHeld => ?_)
      clear z1 z2 z3 z4
      refine wpAnyH_take (i := 0) (v := ?v0) (by simp; rfl) (by kernel_rfl) (by kernel_rfl) (by kernel_rfl) (fun _ _ _ h => h) (Or.inl ⟨by rfl, ?y0⟩) hHeld ?r0
      case y0 => intro w hSw; clear hSw; go_simp; with_reducible rfl
      simp only [Act.put, List.setIfInBounds_toArray, List.set_cons_zero, List.set_cons_succ]
      refine wpAnyH_take (i := 1) (v := ?v1) (by simp; rfl) (by kernel_rfl) (by kernel_rfl) (by kernel_rfl) (fun _ _ _ h => h) (Or.inl ⟨by rfl, ?y1⟩) hHeld ?r1
      case y1 => intro w hSw; clear hSw; go_simp; with_reducible rfl
      simp only [Act.put, List.setIfInBounds_toArray, List.set_cons_zero, List.set_cons_succ]
      refine wpAnyH_take (i := 2) (v := ?v2) (by simp; rfl) (by kernel_rfl) (by kernel_rfl) (by kernel_rfl) (fun _ _ _ h => h) (Or.inl ⟨by rfl, ?y2⟩) hHeld ?r2
      case y2 => intro w hSw; clear hSw; go_simp; with_reducible rfl
      simp only [Act.put, List.setIfInBounds_toArray, List.set_cons_zero, List.set_cons_succ]
      refine wpAnyH_take (i := 3) (v := ?v3) (by simp; rfl) (by kernel_rfl) (by kernel_rfl) (by kernel_rfl) (fun _ _ _ h => h) (Or.inl ⟨by rfl, ?y3⟩) hHeld ?r3
      case y3 => intro w hSw; clear hSw; go_simp; with_reducible rfl
      simp only [Act.put, List.setIfInBounds_toArray, List.set_cons_zero, List.set_cons_succ]
      refine wpAnyH_take (i := 4) (v := ?v4) (by simp; rfl) (by kernel_rfl) (by kernel_rfl) (by kernel_rfl) (fun _ _ _ h => h) (Or.inl ⟨by rfl, ?y4⟩) hHeld ?r4
      case y4 => intro w hSw; clear hSw; go_simp; with_reducible rfl
      simp only [Act.put, List.setIfInBounds_toArray, List.set_cons_zero, List.set_cons_succ]
      refine wpAnyH_take (i := 5) (v := ?v5) (by simp; rfl) (by kernel_rfl) (by kernel_rfl) (by kernel_rfl) (fun _ _ _ h => h) (Or.inl ⟨by rfl, ?y5⟩) hHeld ?r5
      case y5 => intro w hSw; clear hSw; go_simp; with_reducible rfl
      simp only [Act.put, List.setIfInBounds_toArray, List.set_cons_zero, List.set_cons_succ]
      refine wpAnyH_take (i := 6) (v := ?v6) (by simp; rfl) (by kernel_rfl) (by kernel_rfl) (by kernel_rfl) (fun _ _ _ h => h) (Or.inl ⟨by rfl, ?y6⟩) hHeld ?r6
      case y6 => intro w hSw; clear hSw; go_simp; with_reducible rfl
      simp only [Act.put, List.setIfInBounds_toArray, List.set_cons_zero, List.set_cons_succ]
      refine wpAnyH_take (i := 7) (v := ?v7) (by simp; rfl) (by kernel_rfl) (by kernel_rfl) (by kernel_rfl) (fun _ _ _ h => h) (Or.inl ⟨by rfl, ?y7⟩) hHeld ?r7
      case y7 => intro w hSw; clear hSw; go_simp; with_reducible rfl
      simp only [Act.put, List.setIfInBounds_toArray, List.set_cons_zero, List.set_cons_succ]
      refine wpAnyH_take (i := 8) (v := ?v8) (by simp; rfl) (by kernel_rfl) (by kernel_rfl) (by kernel_rfl) (fun _ _ _ h => h) (Or.inl ⟨by rfl, ?y8⟩) hHeld ?r8
      case y8 => intro w hSw; clear hSw; go_simp; with_reducible rfl
      simp only [Act.put, List.setIfInBounds_toArray, List.set_cons_zero, List.set_cons_succ]
      refine wpAnyH_take (i := 9) (v := ?v9) (by simp; rfl) (by kernel_rfl) (by kernel_rfl) (by kernel_rfl) (fun _ _ _ h => h) (Or.inl ⟨by rfl, ?y9⟩) hHeld ?r9
      case y9 => intro w hSw; clear hSw; go_simp; with_reducible rfl
      simp only [Act.put, List.setIfInBounds_toArray, List.set_cons_zero, List.set_cons_succ]
      refine wpAnyH_take (i := 10) (v := ?v10) (by simp; rfl) (by kernel_rfl) (by kernel_rfl) (by kernel_rfl) (fun _ _ _ h => h) (Or.inl ⟨by rfl, ?y10⟩) hHeld ?r10
      case y10 => intro w hSw; clear hSw; go_simp; with_reducible rfl
      simp only [Act.put, List.setIfInBounds_toArray, List.set_cons_zero, List.set_cons_succ]
      refine wpAnyH_take (i := 11) (v := ?v11) (by simp; rfl) (by kernel_rfl) (by kernel_rfl) (by kernel_rfl) (fun _ _ _ h => h) (Or.inl ⟨by rfl, ?y11⟩) hHeld ?r11
      case y11 => intro w hSw; clear hSw; go_simp; with_reducible rfl
      simp only [Act.put, List.setIfInBounds_toArray, List.set_cons_zero, List.set_cons_succ]
      refine wpAnyH_take (i := 12) (v := ?v12) (by simp; rfl) (by kernel_rfl) (by kernel_rfl) (by kernel_rfl) (fun _ _ _ h => h) (Or.inl ⟨by rfl, ?y12⟩) hHeld ?r12
      case y12 => intro w hSw; clear hSw; go_simp; with_reducible rfl
      simp only [Act.put, List.setIfInBounds_toArray, List.set_cons_zero, List.set_cons_succ]
      refine wpAnyH_take (i := 13) (v := ?v13) (by simp; rfl) (by kernel_rfl) (by kernel_rfl) (by kernel_rfl) (fun _ _ _ h => h) (Or.inl ⟨by rfl, ?y13⟩) hHeld ?r13
      case y13 => intro w hSw; clear hSw; go_simp; with_reducible rfl
      simp only [Act.put, List.setIfInBounds_toArray, List.set_cons_zero, List.set_cons_succ]
      refine wpAnyH_take (i := 14) (v := ?v14) (by simp; rfl) (by kernel_rfl) (by kernel_rfl) (by kernel_rfl) (fun _ _ _ h => h) (Or.inl ⟨by rfl, ?y14⟩) hHeld ?r14
      case y14 => intro w hSw; clear hSw; go_simp; with_reducible rfl
      simp only [Act.put, List.setIfInBounds_toArray, List.set_cons_zero, List.set_cons_succ]
      refine wpAnyH_take (i := 15) (v := ?v15) (by simp; rfl) (by kernel_rfl) (by kernel_rfl) (by kernel_rfl) (fun _ _ _ h => h) (Or.inl ⟨by rfl, ?y15⟩) hHeld ?r15
      case y15 => intro w hSw; clear hSw; go_simp; with_reducible rfl
      simp only [Act.put, List.setIfInBounds_toArray, List.set_cons_zero, List.set_cons_succ]
      refine wpAnyH_take (i := 16) (v := ?v16) (by simp; rfl) (by kernel_rfl) (by kernel_rfl) (by kernel_rfl) (fun _ _ _ h => h) (Or.inl ⟨by rfl, ?y16⟩) hHeld ?r16
      case y16 => intro w hSw; obtain ⟨z1, z2, z3, z4⟩ := hSw; go_simp; with_reducible rfl
      simp only [Act.put, List.setIfInBounds_toArray, List.set_cons_zero, List.set_cons_succ]
      refine wpAnyH_take (i := 17) (v := ?v17) (by simp; rfl) (by kernel_rfl) (by kernel_rfl) (by kernel_rfl) (fun _ _ _ h => h) (Or.inl ⟨by rfl, ?y17⟩) hHeld ?r17
      case y17 => intro w hSw; clear hSw; go_simp; with_reducible rfl
      simp only [Act.put, List.setIfInBounds_toArray, List.set_cons_zero, List.set_cons_succ]
      refine wpAnyH_take (i := 18) (v := ?v18) (by simp; rfl) (by kernel_rfl) (by kernel_rfl) (by kernel_rfl) (fun _ _ _ h => h) (Or.inl ⟨by rfl, ?y18⟩) hHeld ?r18
      case y18 => intro w hSw; obtain ⟨z1, z2, z3, z4⟩ := hSw; go_simp; with_reducible rfl
      simp only [Act.put, List.setIfInBounds_toArray, List.set_cons_zero, List.set_cons_succ]
      refine wpAnyH_take (i := 19) (v := ?v19) (by simp; rfl) (by kernel_rfl) (by kernel_rfl) (by kernel_rfl) (fun _ _ _ h => h) (Or.inl ⟨by rfl, ?y19⟩) hHeld ?r19
      case y19 => intro w hSw; clear hSw; go_simp; with_reducible rfl
      simp only [Act.put, List.setIfInBounds_toArray, List.set_cons_zero, List.set_cons_succ]
      refine wpAnyH_take (i := 20) (v := ?v20) (by simp; rfl) (by kernel_rfl) (by kernel_rfl) (by kernel_rfl) (fun _ _ _ h => h) (Or.inl ⟨by rfl, ?y20⟩) hHeld ?r20
      case y20 => intro w hSw; clear hSw; go_simp; with_reducible rfl
      simp only [Act.put, List.setIfInBounds_toArray, List.set_cons_zero, List.set_cons_succ]
      refine wpAnyH_take (i := 21) (v := ?v21) (by simp; rfl) (by kernel_rfl) (by kernel_rfl) (by kernel_rfl) (fun _ _ _ h => h) (Or.inl ⟨by rfl, ?y21⟩) hHeld ?r21
      case y21 => intro w hSw; clear hSw; go_simp; with_reducible rfl
      simp only [Act.put, List.setIfInBounds_toArray, List.set_cons_zero, List.set_cons_succ]
      refine wpAnyH_take (i := 22) (v := ?v22) (by simp; rfl) (by kernel_rfl) (by kernel_rfl) (by kernel_rfl) (fun _ _ _ h => h) (Or.inl ⟨by rfl, ?y22⟩) hHeld ?r22
      case y22 => intro w hSw; clear hSw; go_simp; with_reducible rfl
      simp only [Act.put, List.setIfInBounds_toArray, List.set_cons_zero, List.set_cons_succ]
      refine wpAnyH_take (i := 23) (v := ?v23) (by simp; rfl) (by kernel_rfl) (by kernel_rfl) (by kernel_rfl) (fun _ _ _ h => h) (Or.inl ⟨by rfl, ?y23⟩) hHeld ?r23
      case y23 => intro w hSw; clear hSw; go_simp; with_reducible rfl
      simp only [Act.put, List.setIfInBounds_toArray, List.set_cons_zero, List.set_cons_succ]
      refine wpAnyH_take (i := 24) (v := ?v24) (by simp; rfl) (by kernel_rfl) (by kernel_rfl) (by kernel_rfl) (fun _ _ _ h => h) (Or.inl ⟨by rfl, ?y24⟩) hHeld ?r24
      case y24 => intro w hSw; clear hSw; go_simp; with_reducible rfl
      simp only [Act.put, List.setIfInBounds_toArray, List.set_cons_zero, List.set_cons_succ]
      refine wpAnyH_take (i := 25) (v := ?v25) (by simp; rfl) (by kernel_rfl) (by kernel_rfl) (by kernel_rfl) (fun _ _ _ h => h) (Or.inl ⟨by rfl, ?y25⟩) hHeld ?r25
      case y25 => intro w hSw; clear hSw; go_simp; with_reducible rfl
      simp only [Act.put, List.setIfInBounds_toArray, List.set_cons_zero, List.set_cons_succ]
      refine wpAnyH_take (i := 26) (v := ?v26) (by simp; rfl) (by kernel_rfl) (by kernel_rfl) (by kernel_rfl) (fun _ _ _ h => h) (Or.inl ⟨by rfl, ?y26⟩) hHeld ?r26
      case y26 => intro w hSw; clear hSw; go_simp; with_reducible rfl
      simp only [Act.put, List.setIfInBounds_toArray, List.set_cons_zero, List.set_cons_succ]
      refine wpAnyH_take (i := 27) (v := ?v27) (by simp; rfl) (by kernel_rfl) (by kernel_rfl) (by kernel_rfl) (fun _ _ _ h => h) (Or.inl ⟨by rfl, ?y27⟩) hHeld ?r27
      case y27 => intro w hSw; clear hSw; go_simp; with_reducible rfl
      simp only [Act.put, List.setIfInBounds_toArray, List.set_cons_zero, List.set_cons_succ]
      refine wpAnyH_take (i := 28) (v := ?v28) (by simp; rfl) (by kernel_rfl) (by kernel_rfl) (by kernel_rfl) (fun _ _ _ h => h) (Or.inl ⟨by rfl, ?y28⟩) hHeld ?r28
      case y28 => intro w hSw; clear hSw; go_simp; with_reducible rfl
      simp only [Act.put, List.setIfInBounds_toArray, List.set_cons_zero, List.set_cons_succ]
      refine wpAnyH_take (i := 29) (v := ?v29) (by simp; rfl) (by kernel_rfl) (by kernel_rfl) (by kernel_rfl) (fun _ _ _ h => h) (Or.inl ⟨by rfl, ?y29⟩) hHeld ?r29
      case y29 => intro w hSw; clear hSw; go_simp; with_reducible rfl
      simp only [Act.put, List.setIfInBounds_toArray, List.set_cons_zero, List.set_cons_succ]
      refine wpAnyH_take (i := 30) (v := ?v30) (by simp; rfl) (by kernel_rfl) (by kernel_rfl) (by kernel_rfl) (fun _ _ _ h => h) (Or.inl ⟨by rfl, ?y30⟩) hHeld ?r30
      case y30 => intro w hSw; clear hSw; go_simp; with_reducible rfl
      simp only [Act.put, List.setIfInBounds_toArray, List.set_cons_zero, List.set_cons_succ]
      refine wpAnyH_take (i := 33) (v := ?v33) (by simp; rfl) (by kernel_rfl) (by kernel_rfl) (by kernel_rfl) (fun _ _ _ h => h) (Or.inl ⟨by rfl, ?y33⟩) hHeld ?r33
      case y33 => intro w hSw; clear hSw; go_simp; with_reducible rfl
      simp only [Act.put, List.setIfInBounds_toArray, List.set_cons_zero, List.set_cons_succ]
      refine wpAnyH_take (i := 34) (v := ?v34) (by simp; rfl) (by kernel_rfl) (by kernel_rfl) (by kernel_rfl) (fun _ _ _ h => h) (Or.inl ⟨by rfl, ?y34⟩) hHeld ?r34
      case y34 => intro w hSw; obtain ⟨z1, z2, z3, z4⟩ := hSw; go_simp; with_reducible rfl
      simp only [Act.put, List.setIfInBounds_toArray, List.set_cons_zero, List.set_cons_succ]
      refine wpAnyH_take (i := 35) (v := ?v35) (by simp; rfl) (by kernel_rfl) (by kernel_rfl) (by kernel_rfl) (fun _ _ _ h => h) (Or.inl ⟨by rfl, ?y35⟩) hHeld ?r35
      case y35 => intro w hSw; clear hSw; go_simp; with_reducible rfl
      simp only [Act.put, List.setIfInBounds_toArray, List.set_cons_zero, List.set_cons_succ]
      refine wpAnyH_take (i := 36) (v := ?v36) (by simp; rfl) (by kernel_rfl) (by kernel_rfl) (by kernel_rfl) (fun _ _ _ h => h) (Or.inl ⟨by rfl, ?y36⟩) hHeld ?r36
      case y36 => intro w hSw; obtain ⟨z1, z2, z3, z4⟩ := hSw; go_simp; with_reducible rfl
      simp only [Act.put, List.setIfInBounds_toArray, List.set_cons_zero, List.set_cons_succ]
      have l1 : (strOfNums X1).size = 64 := (strOfNums_size X1).trans HB.out.1.1
      have l3 : (strOfNums X3).size = 64 := (strOfNums_size X3).trans HB.out.1.2.2
      refine wpAnyH_take (i := 37) (v := ?v37) (by simp; rfl) (by kernel_rfl) (by kernel_rfl) (by kernel_rfl) (fun _ _ _ h => h) (Or.inl ⟨by rfl, ?y37⟩) hHeld ?r37
      case y37 => intro w hSw; clear hSw; go_simp; with_reducible rfl
      simp only [Act.put, List.setIfInBounds_toArray, List.set_cons_zero, List.set_cons_succ]
      refine wpAnyH_ready (rs := [31]) (by kernel_rfl) (by simp) ?_
      refine AllReadyH.cons (by simp; rfl) (fun K hK => ?_) AllReadyH.nil
      go_simp
      refine (image_any (HDE.out.later (w' := we.drew) ⟨rfl, rfl, rfl, Nat.le_refl _, fun _ _ => rfl⟩)).mono ?_
      rintro e wf ⟨vi, rfl, hown, hbf⟩
      have hbf' : Below we.heap.size we wf := ⟨hbf.os, hbf.tape, hbf.output, hbf.size, hbf.block⟩
      obtain ⟨pi, ci, rfl, hini, _⟩ := own_in hown (HB.out.2.1.append HB.out.2.2.2)
      have z5 := hini.str ci
      have z1 := ((HR.out.1.later hbf').bin (n := 64) HB.out.1.1 HB.out.2.1).str 64
      have z2 := ((HR.out.2.1.later hbf').bin (n := 64) HB.out.1.2.1 HB.out.2.2.1).str 64
      have z3 := ((HR.out.2.2.1.later hbf').bin (n := 64) HB.out.1.2.2 HB.out.2.2.2).str 64
      have z4 := (HR.out.2.2.2.later hbf').str cv
      refine hK.out _ _ ⟨z1, z2, z3, z4⟩ (fun hHeld => ?_)
      clear hK K
      refine wpAnyH_ready (rs := [32]) (by kernel_rfl) (by simp) ?_
      refine AllReadyH.cons (by simp; rfl) (fun K hK => ?_) AllReadyH.nil
      go_simp
      refine hK.out _ _ ⟨z1, z2, z3, z4⟩ (fun hHeld => ?_)
      clear hK K
      have zc := str_cat X1 X3
      clear z1 z2 z3 z4 z5
      refine wpAnyH_take (i := 38) (v := ?v38) (by simp; rfl) (by kernel_rfl) (by kernel_rfl) (by kernel_rfl) (fun _ _ _ h => h) (Or.inl ⟨by rfl, ?y38⟩) hHeld ?r38
      case y38 => intro w hSw; clear hSw; go_simp; with_reducible rfl
      simp only [Act.put, List.setIfInBounds_toArray, List.set_cons_zero, List.set_cons_succ]
      refine wpAnyH_take (i := 39) (v := ?v39) (by simp; rfl) (by kernel_rfl) (by kernel_rfl) (by kernel_rfl) (fun _ _ _ h => h) (Or.inl ⟨by rfl, ?y39⟩) hHeld ?r39
      case y39 => intro w hSw; clear hSw; go_simp; with_reducible rfl
      simp only [Act.put, List.setIfInBounds_toArray, List.set_cons_zero, List.set_cons_succ]
      refine wpAnyH_take (i := 40) (v := ?v40) (by simp; rfl) (by kernel_rfl) (by kernel_rfl) (by kernel_rfl) (fun _ _ _ h => h) (Or.inl ⟨by rfl, ?y40⟩) hHeld ?r40
      case y40 => intro w hSw; clear hSw; go_simp; with_reducible rfl
      simp only [Act.put, List.setIfInBounds_toArray, List.set_cons_zero]
      refine wpAnyH_done (by kernel_rfl) (NoPanic.normal ?_) _
      clear zc l1 l3
      go_wp2
      go_ret
      exact ⟨rfl, below_then HB5.out hbf'⟩
end Go.Proofs.Ytlidjenkicgldaa
