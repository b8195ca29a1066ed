/-
  Layer 5: slices.Collect, Sorted, and the program's 'different'.
-/
import Derived.Lib.OwnBridge
import Derived.Test.YtnbegddpgmejnaaGreatDa
namespace Go.Proofs.YtnbegddpgmejnaaGreat.B
open Go.RowKit Go.Shelf
theorem compact_up (zs : List Int) (hs : zs.Pairwise (· ≤ ·)) : ∀ m, m ≤ zs.length → Up (Lib.compactUpTo zs.toArray m) ∧ ∀ x, x ∈ Lib.compactUpTo zs.toArray m ↔ ∃ j, j < m ∧ zs.getD j 0 = x
  | 0, _ => by simp [Lib.compactUpTo]
  | m + 1, hm => by
    obtain ⟨h1, h2⟩ := compact_up zs hs m (by omega)
    have hd : ∀ j, j < zs.length → zs.toArray[j]! = zs.getD j 0 := fun j hj => by
      rw [getElem!_pos zs.toArray j (by simpa using hj)]
      simp [List.getD, List.getElem?_eq_getElem hj]
    have hle : ∀ i j, i ≤ j → j < zs.length → zs.getD i 0 ≤ zs.getD j 0 := fun i j hij hj => by
      rcases Nat.eq_or_lt_of_le hij with rfl | hlt
      · exact Int.le_refl _
      · have := (List.pairwise_iff_getElem.1 hs) i j (by omega) hj hlt
        simpa [List.getD, List.getElem?_eq_getElem hj, List.getElem?_eq_getElem (show i < zs.length by omega)] using this
    rw [Lib.compactUpTo_succ]
    by_cases hk : Lib.keeps zs.toArray m = true
    · rw [if_pos hk, hd m (by omega)]
      have hk' : m = 0 ∨ zs.getD m 0 ≠ zs.getD (m - 1) 0 := by
        have := of_decide_eq_true hk
        rwa [hd m (by omega), hd (m - 1) (by omega)] at this
      refine ⟨List.pairwise_append.2 ⟨h1, by simp, fun x hx y hy => ?_⟩, fun x => ?_⟩
      · obtain rfl := List.mem_singleton.1 hy
        obtain ⟨j, hj, rfl⟩ := (h2 x).1 hx
        have a1 := hle j (m - 1) (by omega) (by omega)
        have a2 := hle (m - 1) m (by omega) (by omega)
        rcases hk' with e | e
        · omega
        · omega
      · rw [List.mem_append, h2 x, List.mem_singleton]
        constructor
        · rintro (⟨j, hj, e⟩ | e)
          · exact ⟨j, by omega, e⟩
          · exact ⟨m, by omega, e.symm⟩
        · rintro ⟨j, hj, e⟩
          by_cases ej : j = m
          · subst ej; exact .inr e.symm
          · exact .inl ⟨j, by omega, e⟩
    · rw [if_neg hk, List.append_nil]
      have hk' : ¬ (m = 0 ∨ zs.getD m 0 ≠ zs.getD (m - 1) 0) := by
        intro h
        apply hk
        rw [Lib.keeps, hd m (by omega), hd (m - 1) (by omega)]
        exact decide_eq_true h
      refine ⟨h1, fun x => ?_⟩
      rw [h2 x]
      constructor
      · rintro ⟨j, hj, e⟩; exact ⟨j, by omega, e⟩
      · rintro ⟨j, hj, e⟩
        by_cases ej : j = m
        · subst ej
          refine ⟨j - 1, by omega, ?_⟩
          rw [← e]
          exact (Classical.not_not.1 fun c => hk' (.inr c)).symm
        · exact ⟨j, by omega, e⟩
theorem mem_getD {zs : List Int} {x : Int} : (∃ j, j < zs.length ∧ zs.getD j 0 = x) ↔ x ∈ zs := by
  constructor
  · rintro ⟨j, hj, rfl⟩
    rw [List.getD, List.getElem?_eq_getElem hj]
    exact List.getElem_mem hj
  · intro h
    obtain ⟨j, hj, rfl⟩ := List.getElem_of_mem h
    exact ⟨j, hj, by simp [List.getD, List.getElem?_eq_getElem hj]⟩
abbrev srt (zs : List Int) : List Int := zs.mergeSort fun x y => decide (x ≤ y)
theorem srt_perm (zs : List Int) : (srt zs).Perm zs := List.mergeSort_perm _ _
theorem srt_length (zs : List Int) : (srt zs).length = zs.length := (srt_perm zs).length_eq
theorem srt_sorted (zs : List Int) : (srt zs).Pairwise (· ≤ ·) := by
  have := List.pairwise_mergeSort (le := fun x y : Int => decide (x ≤ y)) (fun a b c h1 h2 => by simp at *; omega) (fun a b => by simp; omega) zs
  refine List.pairwise_iff_getElem.2 fun i j hi hj hij => ?_
  have h := (List.pairwise_iff_getElem.1 this) i j hi hj hij
  simpa using h
theorem compact_srt (zs : List Int) : Lib.compact (srt zs) = diffS zs := by
  obtain ⟨h1, h2⟩ := compact_up (srt zs) (srt_sorted zs) _ (Nat.le_refl _)
  refine diffS_eq h1 fun x => ?_
  have := h2 x
  rw [mem_getD] at this
  exact this.trans (srt_perm zs).mem_iff
set_option maxHeartbeats 1000000 in
set_option maxRecDepth 100000 in
theorem collect_is (Bs : Nat) (p : Option Addr) (m c : Nat) (zs : List Int) (w : World) (hreach : m + 80 ≤ 17592186044416) (hBs : Bs < w.heap.size) (hc : w.cell? ⟨Bs, 0, none⟩ = some (.slice p m c)) (hI : IIn w p m zs) :
    Calls Tryz.prog 85 #[seqV Bs] w fun e' w' => ∃ v, e' = .returned v ∧ w'.ownsRow w.heap.size 3 1 v zs.length (I64 zs) ∧ Below w.heap.size w w' := by
  go_enter Tryz.func85, Tryz.ntmps85
  go_wp2_with fail
  refine (appendSeq_is Bs p m c zs w hreach hBs hc hI).mono ?_
  rintro e w' ⟨v, rfl, ho, hb⟩
  have HO : Hid (w'.ownsRow w.heap.size 3 1 v zs.length (I64 zs) ∧ Below w.heap.size w w') := ⟨ho, hb⟩
  clear ho hb hc hI
  go_wp2
  go_ret
  exact ⟨v, rfl, HO.out.1, HO.out.2⟩
set_option maxHeartbeats 1000000 in
set_option maxRecDepth 100000 in
theorem sorted_is (Bs : Nat) (p : Option Addr) (m c : Nat) (zs : List Int) (w : World) (hreach : m + 80 ≤ 17592186044416) (hBs : Bs < w.heap.size) (hc : w.cell? ⟨Bs, 0, none⟩ = some (.slice p m c)) (hI : IIn w p m zs) :
    Calls Tryz.prog 81 #[seqV Bs] w fun e' w' => ∃ v, e' = .returned v ∧ w'.ownsRow w.heap.size 3 1 v zs.length (I64 (srt zs)) ∧ Below w.heap.size w w' := by
  have hl := hI.len
  go_enter Tryz.func81, Tryz.ntmps81
  go_wp2_with fail
  refine (collect_is Bs p m c zs w hreach hBs hc hI).mono ?_
  rintro e w1 ⟨v, rfl, ho, hb⟩
  clear hc hI
  rcases ho.2 with ⟨rfl, h0⟩ | ⟨g, cap, cur, rfl, hbase, hg, r1, r2, r3, r4⟩
  · obtain rfl : zs = [] := List.eq_nil_of_length_eq_zero h0
    have HO : Hid (w1.ownsRow w.heap.size 3 1 (.slice none 0 0) 0 (I64 []) ∧ Below w.heap.size w w1) := ⟨ho, hb⟩
    clear ho hb h0
    go_wp2_with fail
    refine (slices_Sort_int_none none 0 w1).mono ?_
    rintro e w2 ⟨rfl, rfl⟩
    go_wp2
    go_ret
    exact ⟨_, rfl, by simpa using HO.out.1, HO.out.2⟩
  · have hH : Sort.Holds (Value.int .i64) w1 g 0 zs.toArray := holds_of_blockI hg (by simpa [I64] using r4)
    have hgl : g < w1.heap.size := (Array.getElem?_eq_some_iff.1 hg).1
    have HR : Hid (∀ n os, (Sort.grow (Sort.putRow (Value.int .i64) (Sort.ahead w1 n) g 0 (srt zs).toArray) os).ownsRow w.heap.size 3 1 (.slice (some ⟨g, 0, none⟩) zs.length cap) zs.length (I64 (srt zs)) ∧ Below w.heap.size w (Sort.grow (Sort.putRow (Value.int .i64) (Sort.ahead w1 n) g 0 (srt zs).toArray) os)) := fun n os =>
      ⟨ownsRow_sortedI (srt_length zs) hbase hg r1 r2 r3, hb.grown (grownBy_sortedI _) hb.size (fun j hj => by cases hj; exact hbase)⟩
    have HS := slices_Sort_int g 0 cap zs w1 hH hgl (by omega)
    clear ho hb hH hgl hg r1 r2 r3 r4 hbase hl hreach
    go_wp2_with fail
    refine HS.mono ?_
    rintro e w2 ⟨rfl, n, os, hw2⟩
    have HR2 := HR.out n os
    rw [← hw2] at HR2
    have HR3 : Hid (w2.ownsRow w.heap.size 3 1 (.slice (some ⟨g, 0, none⟩) zs.length cap) zs.length (I64 (srt zs)) ∧ Below w.heap.size w w2) := HR2
    clear HR HR2 hw2 HS
    go_wp2
    go_ret
    exact ⟨_, rfl, HR3.out.1, HR3.out.2⟩
set_option maxHeartbeats 1000000 in
set_option maxRecDepth 100000 in
/-- the different numbers of a list, rising, in new memory -/
theorem different_is (p : Option Addr) (m c : Nat) (zs : List Int) (w : World) (hreach : m + 80 ≤ 17592186044416) (hI : IIn w p m zs) :
    Calls Tryz.prog 71 #[.slice p m c] w fun e' w' => ∃ q d, e' = .returned (.slice q (diffS zs).length d) ∧ Made w w' q (diffS zs).length d (diffS zs) := by
  have hlz := hI.len
  go_enter Tryz.func71, Tryz.ntmps71
  go_wp2_with fail
  refine (values_is p m c w).mono ?_
  rintro e w1 ⟨rfl, hw1⟩
  have hb1 : Below w.heap.size w w1 := by rw [hw1]; exact below_alloc w _
  have hs1 : w.heap.size < w1.heap.size := by rw [hw1]; simp
  have hc1 : w1.cell? ⟨w.heap.size, 0, none⟩ = some (.slice p m c) := by rw [hw1, cell_of_row _ w.heap.size 0 _ 43 (0, 0) (heap_alloc_new w _)]; rfl
  clear hw1
  go_wp2_with fail
  refine (sorted_is w.heap.size p m c zs w1 hreach hs1 hc1 (hI.later hb1)).mono ?_
  rintro e w2 ⟨v, rfl, ho, hb⟩
  have hb2 : Below w.heap.size w w2 := below_then hb1 hb
  have ho2 := own_mono ho (Nat.le_of_lt hs1)
  clear hb1 hs1 hc1 ho hb hI
  have hlen : (Lib.compact (srt zs)).length ≤ zs.length := by have := Lib.compact_length_le (srt zs); rwa [srt_length] at this
  rcases ho2.2 with ⟨rfl, h0⟩ | ⟨g, cap, cur, rfl, hbase, hg, r1, r2, r3, r4⟩
  · obtain rfl : zs = [] := List.eq_nil_of_length_eq_zero h0
    have HB : Hid (Below w.heap.size w w2) := hb2
    clear ho2 hb2 h0 hlen hlz
    go_wp2_with fail
    refine (slices_Compact_int_empty none 0 w2).mono ?_
    rintro e w3 ⟨rfl, rfl⟩
    go_wp2
    go_ret
    exact ⟨none, 0, rfl, made_nil w HB.out⟩
  · have hH : Sort.Holds (Value.int .i64) w2 g 0 (srt zs).toArray := holds_of_blockI hg (by simpa [I64, srt_length] using r4)
    have HS := slices_Compact_int g 0 cap (srt zs) w2 hH (by rw [srt_length]; omega) (by rw [srt_length]; exact r1)
    rw [srt_length, compact_srt] at HS
    have HR : Hid (∀ q, Made w (Sort.putRow (Value.int .i64) (Sort.ahead w2 q) g 0 (diffS zs ++ List.replicate (zs.length - (diffS zs).length) 0).toArray) (some ⟨g, 0, none⟩) (diffS zs).length cap (diffS zs)) := fun q => by
      have hld := diffS_length zs
      have h1 := Lib.ownsRow_putRow (q := q) (k := (diffS zs).length) (ys := diffS zs ++ List.replicate (zs.length - (diffS zs).length) 0) ho2 (by simp; omega) hld
      rw [List.take_left] at h1
      exact ⟨h1, Lib.below_putRow hb2 hbase⟩
    clear ho2 hb2 hH hg r1 r2 r3 r4 hbase hlen hlz hreach
    go_wp2_with fail
    refine HS.mono ?_
    rintro e w3 ⟨rfl, q, hw3⟩
    have HR2 := HR.out q
    rw [← hw3] at HR2
    have HR3 : Hid (Made w w3 (some ⟨g, 0, none⟩) (diffS zs).length cap (diffS zs)) := HR2
    clear HR HR2 hw3 HS
    go_wp2
    go_ret
    exact ⟨_, _, rfl, HR3.out⟩
end Go.Proofs.YtnbegddpgmejnaaGreat.B
