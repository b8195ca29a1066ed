/-
  SuperForged walked.
-/
import Derived.Test.YtcfofoddfhbkcaaDoorTc
import Derived.BigRegion
namespace Go.Proofs.YtcfofoddfhbkcaaDoor
open Go.RowKit

/-- a row of bytes, one of them written -/
theorem own_put {w : World} {B g n c k : Nat} {xs : List Int} (h : w.ownsRow B 5 1 (.slice (some ⟨g, 0, none⟩) n c) n (U8 xs)) (hb : Bytes xs) (hl : xs.length = n) (v : Int) (h0 : 0 ≤ v) (h1 : v < 256) :
    (w.setCell ⟨g, k, none⟩ (.int .u8 v)).ownsRow B 5 1 (.slice (some ⟨g, 0, none⟩) n c) n (U8 (xs.set k v)) ∧ Bytes (xs.set k v) ∧ (xs.set k v).length = n := by
  have hs := (h.stored k (.int .u8 v)).1
  rw [show (U8 xs).set k (.int .u8 v) = U8 (xs.set k v) by simp [U8, List.map_set]] at hs
  refine ⟨hs, fun y hy => ?_, by rw [List.length_set]; exact hl⟩
  rcases List.mem_or_eq_of_mem_set hy with hy | rfl
  · exact hb y hy
  · exact ⟨h0, h1⟩

set_option maxHeartbeats 8000000 in
set_option maxRecDepth 100000 in
theorem superForged_any (s : Sup) (hw : s.Wf) (A X : Int) (hX0 : 0 ≤ X) (hX1 : X < 256) (w : World) (ht : Tab w) :
    Calls Tryd.prog 8 #[.agg (scells s).toArray, .int .i64 A, .int .u8 X] w fun e w' => e = .returned (.bool true) ∧ Below w.heap.size w w' := by
  have HT : Hid (Tab w) := ht
  have HW : Hid (s.Wf) := hw
  have R0 : Hid (SAt 26 (w.alloc (.cells (scells s).toArray 26)) w.heap.size s) := LAt.new 26 w _
  have B0 : Hid (Below w.heap.size w (w.alloc (.cells (scells s).toArray 26))) := below_alloc w _
  have hs0 : w.heap.size + 1 = (w.alloc (.cells (scells s).toArray 26)).heap.size := by simp
  clear ht hw
  have L0 : Hid (_) := SAt.load26 R0.out
  go_enter Tryd.func8, Tryd.ntmps8
  go_wp2_with ((with_reducible refine at_ops ?_); (first | (refine wpList_load_is (by rfl) 26 rfl rfl L0.out ?_)); simp only [Act.put, List.setIfInBounds_toArray, List.set_cons_zero, List.set_cons_succ])
  generalize w.alloc (.cells (scells s).toArray 26) = w0 at *
  refine (laid_any s HW.out w0).mono ?_
  rintro e w1 ⟨g, c, rfl, m1⟩
  have hg1 : w.heap.size < g := by have := (m1.own.lt g rfl).1; omega
  have hc64 := m1.le
  have O1 : Hid (w1.ownsRow w.heap.size 5 1 (.slice (some ⟨g, 0, none⟩) 64 c) 64 (U8 (encS s))) := own_mono m1.own B0.out.size
  have R1 : Hid (SAt 26 w1 w.heap.size s) := LAt.later R0.out m1.below
  have B1 : Hid (Below w.heap.size w w1) := below_then B0.out m1.below
  clear m1 R0 B0 L0 hs0
  obtain ⟨q, i, hi1, hi2, hi3, hi4, hi5, hi6⟩ := place A 60 (by omega)
  have hi1' : A.tmod 60 = q := hi1
  have hi4' : (q + 60).tmod 60 = (i : Int) := hi4
  have hi2' : -60 < q := hi2
  have hi3' : q < 60 := hi3
  clear hi1 hi2 hi3 hi4 hi5
  have hiY : i < (encS s).length := by rw [encS_len]; omega
  have hb := (encS_bytes s).at i hiY
  have hcY : w1.cell? ⟨g, i, none⟩ = some (.int .u8 (encS s)[i]) := by
    rw [O1.out.cellAt i (by omega)]
    simp [U8, List.getElem?_eq_getElem hiY]
  have hfz := O1.out.frozenAt i
  have hv := u8_xor (encS s)[i] X hb.1 hb.2 hX0 hX1
  have hvl : (encS s)[i].toNat ^^^ X.toNat < 256 := Nat.xor_lt_two_pow (n := 8) (by omega) (by omega)
  obtain ⟨v, hv2⟩ : ∃ v, v = bits .xor .u8 (encS s)[i] X := ⟨_, rfl⟩
  have hp := own_put (k := i) O1.out (encS_bytes s) (encS_len s) v (by rw [hv2, hv]; omega) (by rw [hv2, hv]; omega)
  obtain ⟨Y, hY⟩ : ∃ Y, Y = (encS s).set i v := ⟨_, rfl⟩
  rw [← hY] at hp
  obtain ⟨w2, hw2⟩ : ∃ x, x = w1.setCell ⟨g, i, none⟩ (.int .u8 v) := ⟨_, rfl⟩
  have O2 : Hid (w2.ownsRow w.heap.size 5 1 (.slice (some ⟨g, 0, none⟩) 64 c) 64 (U8 Y) ∧ Bytes Y ∧ Y.length = 64) := by rw [hw2]; exact hp
  have R2 : Hid (SAt 26 w2 w.heap.size s) := by rw [hw2]; exact LAt.setO R1.out i _ (by omega)
  have B2 : Hid (Below w.heap.size w w2) := by rw [hw2]; exact B1.out.setCell (by show _ ≤ g; omega) _
  have e1 : bits .xor .u8 (encS s)[i] X = v := hv2.symm
  have e2 : w1.setCell ⟨g, i, none⟩ (.int .u8 v) = w2 := hw2.symm
  generalize (encS s)[i] = z at *
  have c1 : (60 : Int) ≤ (c : Int) := by omega
  have c0 : ¬ c = 0 := by omega
  have i64' : (i : Int) < 64 := by omega
  clear hv hvl hv2 hp hY hw2 hb hiY O1 R1 B1
  go_wp2_with fail
  clear hcY hfz e1 e2 hi1' hi4' hi2' hi3'
  have T2 : Hid (BIn w2 (some ⟨g, 0, none⟩) 60 (Y.take 60)) := (own_bin O2.out.1 O2.out.2.1).take 60 (by omega)
  refine (refSum_pos g 0 60 c _ w2 T2.out (by omega) (by omega)).mono ?_
  rintro e wz ⟨rfl, rfl⟩
  have hcl := crc_lt (Y.take 60) (O2.out.2.1.take 60)
  generalize crc (Y.take 60) = C at *
  clear T2
  go_wp2_with fail
  go_loopw [10] (fun k wr => ∃ (j : Nat) (Y : List Int), j ≤ 4 ∧ k = .int .i64 j ∧ Hid ((wr.ownsRow w.heap.size 5 1 (.slice (some ⟨g, 0, none⟩) 64 c) 64 (U8 Y) ∧ Bytes Y ∧ Y.length = 64) ∧ SAt 26 wr w.heap.size s ∧ Below w.heap.size w wr)) (fun k _ => 4 - (intOf k).toNat)
  case atStart => exact ⟨0, Y, by omega, rfl, O2.out, R2.out, B2.out⟩
  case round =>
    obtain ⟨j, Z, hj, rfl, HR⟩ := hrel
    clear O2 R2 B2
    obtain ⟨w8, hw8⟩ : ∃ w8, w8 = wr := ⟨_, rfl⟩
    subst hw8
    by_cases hlt : j < 4
    · obtain ⟨d, hd⟩ : ∃ d, d = (C : Int) / 2 ^ (8 * j) % 256 := ⟨_, rfl⟩
      have hp := own_put (k := 60 + j) HR.out.1.1 HR.out.1.2.1 HR.out.1.2.2 d (by omega) (by omega)
      have hjY : 60 + j < Z.length := by rw [HR.out.1.2.2]; omega
      have hcY : w8.cell? ⟨g, 60 + j, none⟩ = some (.int .u8 Z[60 + j]) := by
        rw [HR.out.1.1.cellAt (60 + j) (by omega)]
        simp [U8, List.getElem?_eq_getElem hjY]
      have hfz := HR.out.1.1.frozenAt (60 + j)
      obtain ⟨w9, hw9⟩ : ∃ x, x = w8.setCell ⟨g, 60 + j, none⟩ (.int .u8 d) := ⟨_, rfl⟩
      have HZ : Hid ((w9.ownsRow w.heap.size 5 1 (.slice (some ⟨g, 0, none⟩) 64 c) 64 (U8 (Z.set (60 + j) d)) ∧ Bytes (Z.set (60 + j) d) ∧ (Z.set (60 + j) d).length = 64) ∧ SAt 26 w9 w.heap.size s ∧ Below w.heap.size w w9) := by
        refine ⟨by rw [hw9]; exact hp, by rw [hw9]; exact LAt.setO HR.out.2.1 (60 + j) _ (by omega), by rw [hw9]; exact HR.out.2.2.setCell (by show _ ≤ g; omega) _⟩
      have e9 : w8.setCell ⟨g, 60 + j, none⟩ (.int .u8 d) = w9 := hw9.symm
      have ed : (C : Int) / 2 ^ (8 * j) % 256 = d := hd.symm
      generalize Z[60 + j] = z at *
      generalize Z.set (60 + j) d = Z' at *
      have i1 : (60 : Int) + (j : Int) < 64 := by omega
      clear hp hw9 hd HR hjY
      go_wp2_with fail
      clear hcY hfz e9 ed
      go_roundw
      case rel => exact ⟨j + 1, Z', by omega, by go_num, HZ.out⟩
      case measure => simp [intOf]; omega
    · have SB8 : Hid (SB w8 (some ⟨g, 0, none⟩) 64 c Z) := ⟨own_bin HR.out.1.1 HR.out.1.2.1, hc64, fun e => by cases e⟩
      have R8 : Hid (SAt 26 w8 w.heap.size s) := HR.out.2.1
      have B8 : Hid (Below w.heap.size w w8) := HR.out.2.2
      clear HR
      go_wp2_with fail
      refine (superDecodes_any _ 64 c Z w8 SB8.out (by omega) (HT.out.later B8.out)).mono ?_
      rintro e w9 ⟨rfl, b9⟩
      have R9 : Hid (SAt 26 w9 w.heap.size s) := LAt.later R8.out b9
      have B9 : Hid (Below w.heap.size w w9) := below_then B8.out b9
      have L9 : Hid (_) := SAt.load26 R9.out
      clear b9 R8 B8 SB8
      go_wp2_with ((with_reducible refine at_ops ?_); (first | (refine wpList_load_is (by rfl) 26 rfl rfl L9.out ?_)); simp only [Act.put, List.setIfInBounds_toArray, List.set_cons_zero, List.set_cons_succ])
      refine (laid_any s HW.out w9).mono ?_
      rintro e w10 ⟨g10, c10, rfl, m10⟩
      have SB10 : Hid (SB w10 (some ⟨g10, 0, none⟩) 64 c10 (encS s)) := ⟨m10.read, m10.le, m10.nil⟩
      have B10 : Hid (Below w.heap.size w w10) := below_then B9.out m10.below
      clear m10 R9 B9 L9
      go_wp2_with fail
      refine (superDecodes_any _ 64 c10 _ w10 SB10.out (by omega) (HT.out.later B10.out)).mono ?_
      rintro e w11 ⟨rfl, b11⟩
      have B11 : Hid (Below w.heap.size w w11) := below_then B10.out b11
      clear b11
      go_wp2_with fail
      go_ret
      exact ⟨by simp, B11.out⟩
end Go.Proofs.YtcfofoddfhbkcaaDoor
