/-
  Layer 15: rows of one's own sorted and compacted.
-/
import Derived.Test.YtkgjmejpbklabaaGl
import Derived.Test.YtkgjmejpbklabaaGs
import Derived.Test.YtkgjmejpbklabaaSh
import Derived.Test.YtkgjmejpbklabaaSm
import Derived.Lib.OwnBridge
import Derived.Sort.OwnSortedInts
namespace Go.Proofs.Ytkgjmejpbklabaa
open Go.RowKit

open B (IIn I64)
open Go.Shelf Go.Sort

theorem compact_up (zs : List Int) (hs : zs.Pairwise (· ≤ ·)) : ∀ m, m ≤ zs.length → (Lib.compactUpTo zs.toArray m).Pairwise (· < ·) ∧ ∀ x, x ∈ Lib.compactUpTo zs.toArray m ↔ ∃ j, j < m ∧ zs.getD j 0 = x
  | 0, _ => by simp [Lib.compactUpTo]
  | m + 1, hm => by
    obtain ⟨h1, h2⟩ := compact_up zs hs m (by omega)
    have hd : ∀ j, j < zs.length → zs.toArray[j]! = zs.getD j 0 := fun j hj => by
      rw [getElem!_pos zs.toArray j (by simpa using hj)]
      simp [List.getD, List.getElem?_eq_getElem hj]
    have hle : ∀ i j, i ≤ j → j < zs.length → zs.getD i 0 ≤ zs.getD j 0 := fun i j hij hj => by
      rcases Nat.eq_or_lt_of_le hij with rfl | hlt
      · exact Int.le_refl _
      · have := (List.pairwise_iff_getElem.1 hs) i j (by omega) hj hlt
        simpa [List.getD, List.getElem?_eq_getElem hj, List.getElem?_eq_getElem (show i < zs.length by omega)] using this
    rw [Lib.compactUpTo_succ]
    by_cases hk : Lib.keeps zs.toArray m = true
    · rw [if_pos hk, hd m (by omega)]
      have hk' : m = 0 ∨ zs.getD m 0 ≠ zs.getD (m - 1) 0 := by
        have := of_decide_eq_true hk
        rwa [hd m (by omega), hd (m - 1) (by omega)] at this
      refine ⟨List.pairwise_append.2 ⟨h1, by simp, fun x hx y hy => ?_⟩, fun x => ?_⟩
      · obtain rfl := List.mem_singleton.1 hy
        obtain ⟨j, hj, rfl⟩ := (h2 x).1 hx
        have a1 := hle j (m - 1) (by omega) (by omega)
        have a2 := hle (m - 1) m (by omega) (by omega)
        rcases hk' with e | e
        · omega
        · omega
      · rw [List.mem_append, h2 x, List.mem_singleton]
        constructor
        · rintro (⟨j, hj, e⟩ | e)
          · exact ⟨j, by omega, e⟩
          · exact ⟨m, by omega, e.symm⟩
        · rintro ⟨j, hj, e⟩
          by_cases ej : j = m
          · subst ej; exact .inr e.symm
          · exact .inl ⟨j, by omega, e⟩
    · rw [if_neg hk, List.append_nil]
      have hk' : ¬ (m = 0 ∨ zs.getD m 0 ≠ zs.getD (m - 1) 0) := by
        intro h
        apply hk
        rw [Lib.keeps, hd m (by omega), hd (m - 1) (by omega)]
        exact decide_eq_true h
      refine ⟨h1, fun x => ?_⟩
      rw [h2 x]
      constructor
      · rintro ⟨j, hj, e⟩; exact ⟨j, by omega, e⟩
      · rintro ⟨j, hj, e⟩
        by_cases ej : j = m
        · subst ej
          refine ⟨j - 1, by omega, ?_⟩
          rw [← e]
          exact (Classical.not_not.1 fun c => hk' (.inr c)).symm
        · exact ⟨j, by omega, e⟩

theorem mem_getD {zs : List Int} {x : Int} : (∃ j, j < zs.length ∧ zs.getD j 0 = x) ↔ x ∈ zs := by
  constructor
  · rintro ⟨j, hj, rfl⟩
    rw [List.getD, List.getElem?_eq_getElem hj]
    exact List.getElem_mem hj
  · intro h
    obtain ⟨j, hj, rfl⟩ := List.getElem_of_mem h
    exact ⟨j, hj, by simp [List.getD, List.getElem?_eq_getElem hj]⟩

abbrev srt (zs : List Int) : List Int := zs.mergeSort fun x y => decide (x ≤ y)
theorem srt_perm (zs : List Int) : (srt zs).Perm zs := List.mergeSort_perm _ _
theorem srt_length (zs : List Int) : (srt zs).length = zs.length := (srt_perm zs).length_eq
theorem srt_sorted (zs : List Int) : (srt zs).Pairwise (· ≤ ·) := by
  have := List.pairwise_mergeSort (le := fun x y : Int => decide (x ≤ y)) (fun a b c h1 h2 => by simp at *; omega) (fun a b => by simp; omega) zs
  refine List.pairwise_iff_getElem.2 fun i j hi hj hij => ?_
  have h := (List.pairwise_iff_getElem.1 this) i j hi hj hij
  simpa using h

abbrev U64 (xs : List Int) : List Value := xs.map (Value.int .u64)
theorem U64_get {xs : List Int} {i : Nat} (h : i < xs.length) : (U64 xs)[i]? = some (.int .u64 (xs.getD i 0)) := by simp [U64, List.getD, h]
theorem kept_grown {w w' : World} {g : Nat} (h : w.grownBy w' (some g)) : Kept (· = g) w w' := ⟨h.os, h.tape, h.output, h.size, fun k hk hn => h.block k hk fun e => hn (by cases e; rfl)⟩
theorem kept_putRow {α : Type} [Inhabited α] {enc : α → Value} {w : World} {g q : Nat} {d : Array α} : Kept (· = g) w (Sort.putRow enc (Sort.ahead w q) g 0 d) := by
  refine ⟨rfl, rfl, rfl, by simp [putRow, mapBlock, Sort.ahead], fun k hk hn => ?_⟩
  simp [putRow, mapBlock, Sort.ahead, Array.getElem?_modify, Ne.symm hn]

theorem sortI_own {w : World} {base n c : Nat} {p : Option Addr} {zs : List Int} (h : w.ownsRow base 3 1 (.slice p n c) n (I64 zs)) (hz : n ≤ 10000) :
    Calls Try.prog 32 #[.slice p n c] w fun e w' => e = .returned (.tuple #[]) ∧ Kept (fun b => (Value.slice p n c).ownBlock = some b) w w' ∧ w'.ownsRow base 3 1 (.slice p n c) n (I64 (srt zs)) := by
  have hl : zs.length = n := by have := h.1; rw [B.I64_length] at this; omega
  rcases h.2 with ⟨e, h0⟩ | ⟨g, cap, cur, e, hbase, hg, r1, r2, r3, r4⟩
  · cases e
    obtain rfl : zs = [] := List.eq_nil_of_length_eq_zero hl
    refine (B.slices_Sort_int_none none 0 w).mono ?_
    rintro e w2 ⟨rfl, rfl⟩
    exact ⟨rfl, Kept.refl _ _, by simpa using h⟩
  · cases e
    subst hl
    have hH : Sort.Holds (Value.int .i64) w g 0 zs.toArray := holds_of_blockI hg (by simpa [I64] using r4)
    have hgl : g < w.heap.size := (Array.getElem?_eq_some_iff.1 hg).1
    refine (B.slices_Sort_int g 0 c zs w hH hgl (by omega)).mono ?_
    rintro e w2 ⟨rfl, n, os, rfl⟩
    exact ⟨rfl, (kept_grown (grownBy_sortedI _)).wider fun k _ e => by rw [e]; rfl, ownsRow_sortedI (srt_length zs) hbase hg r1 r2 r3⟩
theorem compactI_own {w : World} {base n c : Nat} {p : Option Addr} {zs : List Int} (h : w.ownsRow base 3 1 (.slice p n c) n (I64 zs)) (hz : n ≤ 10000) :
    Calls Try.prog 33 #[.slice p n c] w fun e w' => e = .returned (.slice p (Lib.compact zs).length c) ∧ Kept (fun b => (Value.slice p n c).ownBlock = some b) w w' ∧ w'.ownsRow base 3 1 (.slice p (Lib.compact zs).length c) (Lib.compact zs).length (I64 (Lib.compact zs)) := by
  have hl : zs.length = n := by have := h.1; rw [B.I64_length] at this; omega
  rcases h.2 with ⟨e, h0⟩ | ⟨g, cap, cur, e, hbase, hg, r1, r2, r3, r4⟩
  · cases e
    obtain rfl : zs = [] := List.eq_nil_of_length_eq_zero hl
    refine (B.slices_Compact_int_empty none 0 w).mono ?_
    rintro e w2 ⟨rfl, rfl⟩
    exact ⟨rfl, Kept.refl _ _, World.ownsRow_nil _ _ _ _⟩
  · cases e
    subst hl
    have hH : Sort.Holds (Value.int .i64) w g 0 zs.toArray := holds_of_blockI hg (by simpa [I64] using r4)
    have hle := Lib.compact_length_le zs
    refine (B.slices_Compact_int g 0 c zs w hH (by omega) r1).mono ?_
    rintro e w2 ⟨rfl, q, rfl⟩
    refine ⟨rfl, (kept_putRow (g := g)).wider (fun k _ e => by rw [e]; rfl), ?_⟩
    have h1 := Lib.ownsRow_putRow (q := q) (k := (Lib.compact zs).length) (ys := Lib.compact zs ++ List.replicate (zs.length - (Lib.compact zs).length) 0) h (by simp; omega) hle
    rw [List.take_left] at h1
    exact h1
/-- the different ones of a list of places, rising -/
def difN (row : List Nat) : List Nat := (Lib.compact (srt (nz row))).map Int.toNat
theorem difN_is (row : List Nat) : nz (difN row) = Lib.compact (srt (nz row)) ∧ (difN row).Pairwise (· < ·) ∧ (∀ v, v ∈ difN row ↔ v ∈ row) ∧ (difN row).length ≤ row.length := by
  obtain ⟨h1, h2⟩ := compact_up (srt (nz row)) (srt_sorted _) _ (Nat.le_refl _)
  have hm : ∀ x, x ∈ Lib.compact (srt (nz row)) ↔ x ∈ nz row := fun x => by
    have := h2 x
    rw [mem_getD] at this
    exact this.trans (srt_perm _).mem_iff
  have hpos : ∀ x, x ∈ Lib.compact (srt (nz row)) → 0 ≤ x := fun x hx => by
    obtain ⟨y, _, e⟩ := List.mem_map.1 ((hm x).1 hx)
    omega
  have hup : (Lib.compact (srt (nz row))).Pairwise (· < ·) := h1
  have hle : (Lib.compact (srt (nz row))).length ≤ row.length := by
    have := Lib.compact_length_le (srt (nz row))
    rw [srt_length, nz_length] at this
    exact this
  unfold difN
  generalize Lib.compact (srt (nz row)) = L at *
  refine ⟨?_, ?_, fun v => ?_, by simpa using hle⟩
  · unfold nz
    rw [List.map_map]
    have : ∀ x ∈ L, ((fun x : Nat => (x : Int)) ∘ Int.toNat) x = x := fun x hx => by
      have := hpos x hx
      simp; omega
    exact (List.map_congr_left this).trans (List.map_id' L)
  · rw [List.pairwise_map]
    rw [List.pairwise_iff_getElem] at hup ⊢
    intro i j hi hj hij
    have := hup i j hi hj hij
    have := hpos _ (List.getElem_mem hi)
    omega
  · constructor
    · intro hv
      obtain ⟨x, hx, e⟩ := List.mem_map.1 hv
      obtain ⟨y, hy, e2⟩ := List.mem_map.1 ((hm x).1 hx)
      rwa [show v = y by omega]
    · intro hv
      exact List.mem_map.2 ⟨(v : Int), (hm _).2 (List.mem_map.2 ⟨v, hv, rfl⟩), by simp⟩

/-! ### []uint64 -/
theorem sortU_own {w : World} {base n c g : Nat} {zs : List Int} (h : w.ownsRow base 25 1 (.slice (some ⟨g, 0, none⟩) n c) n (U64 zs)) (hz : n ≤ 10000) :
    Calls Try.prog 29 #[.slice (some ⟨g, 0, none⟩) n c] w fun e w' => e = .returned (.tuple #[]) ∧ Kept (· = g) w w' ∧ ∃ R, R.Perm zs ∧ R.Pairwise (· ≤ ·) ∧ w'.ownsRow base 25 1 (.slice (some ⟨g, 0, none⟩) n c) n (U64 R) := by
  have hl : zs.length = n := by have := h.1; simp [U64] at this; omega
  obtain ⟨g', c', e, -, hgl, -, -, -, hH⟩ := Lib.holds_of_ownsRow h (by simp)
  cases e
  refine (sort_at (cap := c) (by simpa using hl) hH hgl (by omega)).mono ?_
  rintro e w' ⟨rfl, R, h1, h2, h3⟩
  have hRl : R.toList.length = n := by rw [h1.length_eq]; simpa using hl
  refine ⟨rfl, ⟨h3.os, h3.tape, h3.output, h3.size, fun k hk hn => h3.other hk hn⟩, R.toList, by simpa using h1, h2, ?_⟩
  have h4 := Lib.ownsRow_putRow (q := 0) (k := n) (ys := R.toList) h hRl (Nat.le_refl _)
  rw [List.take_of_length_le (by omega)] at h4
  have h5 : (putRow uE w g 0 R).ownsRow base 25 1 (.slice (some ⟨g, 0, none⟩) n c) n (U64 R.toList) := h4
  exact O.own_later h5 (RowKit.Below.mono h3 (by simp [putRow, mapBlock]))
theorem compactU_own {w : World} {base n c g : Nat} {zs : List Int} (h : w.ownsRow base 25 1 (.slice (some ⟨g, 0, none⟩) n c) n (U64 zs)) (hz : n ≤ 10000) (hs : zs.Pairwise (· ≤ ·)) :
    Calls Try.prog 30 #[.slice (some ⟨g, 0, none⟩) n c] w fun e w' => ∃ ts : List Int, e = .returned (.slice (some ⟨g, 0, none⟩) ts.length c) ∧ Kept (· = g) w w' ∧ w'.ownsRow base 25 1 (.slice (some ⟨g, 0, none⟩) ts.length c) ts.length (U64 ts) ∧ ts.Pairwise (· < ·) ∧ (∀ x, x ∈ ts ↔ x ∈ zs) ∧ ts.length ≤ n := by
  have hl : zs.length = n := by have := h.1; simp [U64] at this; omega
  obtain ⟨g', c', e, -, hgl, hcap, -, -, hH⟩ := Lib.holds_of_ownsRow h (by simp)
  cases e
  refine (compact_at (cap := c) (by simpa using hl) hH (by omega) hcap).mono ?_
  rintro e w' ⟨rfl, h3⟩
  have hsz : zs.toArray.size = zs.length := by simp
  rw [hsz] at h3 ⊢
  obtain ⟨h1, h2⟩ := compact_up zs hs _ (Nat.le_refl _)
  have hle : (Lib.compactUpTo zs.toArray zs.length).length ≤ zs.length := Lib.compact_length_le zs
  generalize Lib.compactUpTo zs.toArray zs.length = ts at *
  refine ⟨ts, rfl, ⟨h3.os, h3.tape, h3.output, h3.size, fun k hk hn => h3.other hk hn⟩, ?_, h1, fun x => ?_, by omega⟩
  · have h4 := Lib.ownsRow_putRow (q := 0) (k := ts.length) (ys := ts ++ List.replicate (zs.length - ts.length) 0) h (by simp; omega) (by omega)
    rw [List.take_left] at h4
    have h5 : (putRow uE w g 0 (ts ++ List.replicate (zs.length - ts.length) 0).toArray).ownsRow base 25 1 (.slice (some ⟨g, 0, none⟩) ts.length c) ts.length (U64 ts) := h4
    exact O.own_later h5 (RowKit.Below.mono h3 (by simp [putRow, mapBlock]))
  · have := h2 x
    rw [mem_getD] at this
    exact this
end Go.Proofs.Ytkgjmejpbklabaa
