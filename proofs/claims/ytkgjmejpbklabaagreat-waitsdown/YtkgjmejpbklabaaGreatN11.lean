/-
  Layer 15: rows of one's own sorted and compacted. Layer 15: nearest. Layer 15: slices.BinarySearch of []uint64; place. Layer 15: edges; the graph of edges, first part.
-/
import Derived.Test.YtkgjmejpbklabaaGreatGl
import Derived.Test.YtkgjmejpbklabaaGreatN5
import Derived.Test.YtkgjmejpbklabaaGreatSh
import Derived.Test.YtkgjmejpbklabaaGreatN8
import Derived.Lib.OwnBridge
import Derived.Sort.OwnSortedInts
import Derived.Test.YtkgjmejpbklabaaGreatN10
namespace Go.Proofs.YtkgjmejpbklabaaGreat
open Go.RowKit
open B (IIn I64)
open Go.Shelf Go.Sort
theorem compact_up (zs : List Int) (hs : zs.Pairwise (· ≤ ·)) : ∀ m, m ≤ zs.length → (Lib.compactUpTo zs.toArray m).Pairwise (· < ·) ∧ ∀ x, x ∈ Lib.compactUpTo zs.toArray m ↔ ∃ j, j < m ∧ zs.getD j 0 = x
  | 0, _ => by simp [Lib.compactUpTo]
  | m + 1, hm => by
    obtain ⟨h1, h2⟩ := compact_up zs hs m (by omega)
    have hd : ∀ j, j < zs.length → zs.toArray[j]! = zs.getD j 0 := fun j hj => by
      rw [getElem!_pos zs.toArray j (by simpa using hj)]
      simp [List.getD, List.getElem?_eq_getElem hj]
    have hle : ∀ i j, i ≤ j → j < zs.length → zs.getD i 0 ≤ zs.getD j 0 := fun i j hij hj => by
      rcases Nat.eq_or_lt_of_le hij with rfl | hlt
      · exact Int.le_refl _
      · have := (List.pairwise_iff_getElem.1 hs) i j (by omega) hj hlt
        simpa [List.getD, List.getElem?_eq_getElem hj, List.getElem?_eq_getElem (show i < zs.length by omega)] using this
    rw [Lib.compactUpTo_succ]
    by_cases hk : Lib.keeps zs.toArray m = true
    · rw [if_pos hk, hd m (by omega)]
      have hk' : m = 0 ∨ zs.getD m 0 ≠ zs.getD (m - 1) 0 := by
        have := of_decide_eq_true hk
        rwa [hd m (by omega), hd (m - 1) (by omega)] at this
      refine ⟨List.pairwise_append.2 ⟨h1, by simp, fun x hx y hy => ?_⟩, fun x => ?_⟩
      · obtain rfl := List.mem_singleton.1 hy
        obtain ⟨j, hj, rfl⟩ := (h2 x).1 hx
        have a1 := hle j (m - 1) (by omega) (by omega)
        have a2 := hle (m - 1) m (by omega) (by omega)
        rcases hk' with e | e
        · omega
        · omega
      · rw [List.mem_append, h2 x, List.mem_singleton]
        constructor
        · rintro (⟨j, hj, e⟩ | e)
          · exact ⟨j, by omega, e⟩
          · exact ⟨m, by omega, e.symm⟩
        · rintro ⟨j, hj, e⟩
          by_cases ej : j = m
          · subst ej; exact .inr e.symm
          · exact .inl ⟨j, by omega, e⟩
    · rw [if_neg hk, List.append_nil]
      have hk' : ¬ (m = 0 ∨ zs.getD m 0 ≠ zs.getD (m - 1) 0) := by
        intro h
        apply hk
        rw [Lib.keeps, hd m (by omega), hd (m - 1) (by omega)]
        exact decide_eq_true h
      refine ⟨h1, fun x => ?_⟩
      rw [h2 x]
      constructor
      · rintro ⟨j, hj, e⟩; exact ⟨j, by omega, e⟩
      · rintro ⟨j, hj, e⟩
        by_cases ej : j = m
        · subst ej
          refine ⟨j - 1, by omega, ?_⟩
          rw [← e]
          exact (Classical.not_not.1 fun c => hk' (.inr c)).symm
        · exact ⟨j, by omega, e⟩
theorem mem_getD {zs : List Int} {x : Int} : (∃ j, j < zs.length ∧ zs.getD j 0 = x) ↔ x ∈ zs := by
  constructor
  · rintro ⟨j, hj, rfl⟩
    rw [List.getD, List.getElem?_eq_getElem hj]
    exact List.getElem_mem hj
  · intro h
    obtain ⟨j, hj, rfl⟩ := List.getElem_of_mem h
    exact ⟨j, hj, by simp [List.getD, List.getElem?_eq_getElem hj]⟩
abbrev srt (zs : List Int) : List Int := zs.mergeSort fun x y => decide (x ≤ y)
theorem srt_perm (zs : List Int) : (srt zs).Perm zs := List.mergeSort_perm _ _
theorem srt_length (zs : List Int) : (srt zs).length = zs.length := (srt_perm zs).length_eq
theorem srt_sorted (zs : List Int) : (srt zs).Pairwise (· ≤ ·) := by
  have := List.pairwise_mergeSort (le := fun x y : Int => decide (x ≤ y)) (fun a b c h1 h2 => by simp at *; omega) (fun a b => by simp; omega) zs
  refine List.pairwise_iff_getElem.2 fun i j hi hj hij => ?_
  have h := (List.pairwise_iff_getElem.1 this) i j hi hj hij
  simpa using h
abbrev U64 (xs : List Int) : List Value := xs.map (Value.int .u64)
theorem U64_get {xs : List Int} {i : Nat} (h : i < xs.length) : (U64 xs)[i]? = some (.int .u64 (xs.getD i 0)) := by simp [U64, List.getD, h]
theorem kept_grown {w w' : World} {g : Nat} (h : w.grownBy w' (some g)) : Kept (· = g) w w' := ⟨h.os, h.tape, h.output, h.size, fun k hk hn => h.block k hk fun e => hn (by cases e; rfl)⟩
theorem kept_putRow {α : Type} [Inhabited α] {enc : α → Value} {w : World} {g q : Nat} {d : Array α} : Kept (· = g) w (Sort.putRow enc (Sort.ahead w q) g 0 d) := by
  refine ⟨rfl, rfl, rfl, by simp [putRow, mapBlock, Sort.ahead], fun k hk hn => ?_⟩
  simp [putRow, mapBlock, Sort.ahead, Array.getElem?_modify, Ne.symm hn]
theorem sortI_own {w : World} {base n c : Nat} {p : Option Addr} {zs : List Int} (h : w.ownsRow base 3 1 (.slice p n c) n (I64 zs)) (hz : n ≤ 10000) :
    Calls Tryz.prog 51 #[.slice p n c] w fun e w' => e = .returned (.tuple #[]) ∧ Kept (fun b => (Value.slice p n c).ownBlock = some b) w w' ∧ w'.ownsRow base 3 1 (.slice p n c) n (I64 (srt zs)) := by
  have hl : zs.length = n := by have := h.1; rw [B.I64_length] at this; omega
  rcases h.2 with ⟨e, h0⟩ | ⟨g, cap, cur, e, hbase, hg, r1, r2, r3, r4⟩
  · cases e
    obtain rfl : zs = [] := List.eq_nil_of_length_eq_zero hl
    refine (B.slices_Sort_int_none none 0 w).mono ?_
    rintro e w2 ⟨rfl, rfl⟩
    exact ⟨rfl, Kept.refl _ _, by simpa using h⟩
  · cases e
    subst hl
    have hH : Sort.Holds (Value.int .i64) w g 0 zs.toArray := holds_of_blockI hg (by simpa [I64] using r4)
    have hgl : g < w.heap.size := (Array.getElem?_eq_some_iff.1 hg).1
    refine (B.slices_Sort_int g 0 c zs w hH hgl (by omega)).mono ?_
    rintro e w2 ⟨rfl, n, os, rfl⟩
    exact ⟨rfl, (kept_grown (grownBy_sortedI _)).wider fun k _ e => by rw [e]; rfl, ownsRow_sortedI (srt_length zs) hbase hg r1 r2 r3⟩
theorem compactI_own {w : World} {base n c : Nat} {p : Option Addr} {zs : List Int} (h : w.ownsRow base 3 1 (.slice p n c) n (I64 zs)) (hz : n ≤ 10000) :
    Calls Tryz.prog 52 #[.slice p n c] w fun e w' => e = .returned (.slice p (Lib.compact zs).length c) ∧ Kept (fun b => (Value.slice p n c).ownBlock = some b) w w' ∧ w'.ownsRow base 3 1 (.slice p (Lib.compact zs).length c) (Lib.compact zs).length (I64 (Lib.compact zs)) := by
  have hl : zs.length = n := by have := h.1; rw [B.I64_length] at this; omega
  rcases h.2 with ⟨e, h0⟩ | ⟨g, cap, cur, e, hbase, hg, r1, r2, r3, r4⟩
  · cases e
    obtain rfl : zs = [] := List.eq_nil_of_length_eq_zero hl
    refine (B.slices_Compact_int_empty none 0 w).mono ?_
    rintro e w2 ⟨rfl, rfl⟩
    exact ⟨rfl, Kept.refl _ _, World.ownsRow_nil _ _ _ _⟩
  · cases e
    subst hl
    have hH : Sort.Holds (Value.int .i64) w g 0 zs.toArray := holds_of_blockI hg (by simpa [I64] using r4)
    have hle := Lib.compact_length_le zs
    refine (B.slices_Compact_int g 0 c zs w hH (by omega) r1).mono ?_
    rintro e w2 ⟨rfl, q, rfl⟩
    refine ⟨rfl, (kept_putRow (g := g)).wider (fun k _ e => by rw [e]; rfl), ?_⟩
    have h1 := Lib.ownsRow_putRow (q := q) (k := (Lib.compact zs).length) (ys := Lib.compact zs ++ List.replicate (zs.length - (Lib.compact zs).length) 0) h (by simp; omega) hle
    rw [List.take_left] at h1
    exact h1
/-- the different ones of a list of places, rising -/
def difN (row : List Nat) : List Nat := (Lib.compact (srt (nz row))).map Int.toNat
theorem difN_is (row : List Nat) : nz (difN row) = Lib.compact (srt (nz row)) ∧ (difN row).Pairwise (· < ·) ∧ (∀ v, v ∈ difN row ↔ v ∈ row) ∧ (difN row).length ≤ row.length := by
  obtain ⟨h1, h2⟩ := compact_up (srt (nz row)) (srt_sorted _) _ (Nat.le_refl _)
  have hm : ∀ x, x ∈ Lib.compact (srt (nz row)) ↔ x ∈ nz row := fun x => by
    have := h2 x
    rw [mem_getD] at this
    exact this.trans (srt_perm _).mem_iff
  have hpos : ∀ x, x ∈ Lib.compact (srt (nz row)) → 0 ≤ x := fun x hx => by
    obtain ⟨y, _, e⟩ := List.mem_map.1 ((hm x).1 hx)
    omega
  have hup : (Lib.compact (srt (nz row))).Pairwise (· < ·) := h1
  have hle : (Lib.compact (srt (nz row))).length ≤ row.length := by
    have := Lib.compact_length_le (srt (nz row))
    rw [srt_length, nz_length] at this
    exact this
  unfold difN
  generalize Lib.compact (srt (nz row)) = L at *
  refine ⟨?_, ?_, fun v => ?_, by simpa using hle⟩
  · unfold nz
    rw [List.map_map]
    have : ∀ x ∈ L, ((fun x : Nat => (x : Int)) ∘ Int.toNat) x = x := fun x hx => by
      have := hpos x hx
      simp; omega
    exact (List.map_congr_left this).trans (List.map_id' L)
  · rw [List.pairwise_map]
    rw [List.pairwise_iff_getElem] at hup ⊢
    intro i j hi hj hij
    have := hup i j hi hj hij
    have := hpos _ (List.getElem_mem hi)
    omega
  · constructor
    · intro hv
      obtain ⟨x, hx, e⟩ := List.mem_map.1 hv
      obtain ⟨y, hy, e2⟩ := List.mem_map.1 ((hm x).1 hx)
      rwa [show v = y by omega]
    · intro hv
      exact List.mem_map.2 ⟨(v : Int), (hm _).2 (List.mem_map.2 ⟨v, hv, rfl⟩), by simp⟩

/-! ### []uint64 -/
theorem sortU_own {w : World} {base n c g : Nat} {zs : List Int} (h : w.ownsRow base 44 1 (.slice (some ⟨g, 0, none⟩) n c) n (U64 zs)) (hz : n ≤ 10000) :
    Calls Tryz.prog 48 #[.slice (some ⟨g, 0, none⟩) n c] w fun e w' => e = .returned (.tuple #[]) ∧ Kept (· = g) w w' ∧ ∃ R, R.Perm zs ∧ R.Pairwise (· ≤ ·) ∧ w'.ownsRow base 44 1 (.slice (some ⟨g, 0, none⟩) n c) n (U64 R) := by
  have hl : zs.length = n := by have := h.1; simp [U64] at this; omega
  obtain ⟨g', c', e, -, hgl, -, -, -, hH⟩ := Lib.holds_of_ownsRow h (by simp)
  cases e
  refine (sort_at (cap := c) (by simpa using hl) hH hgl (by omega)).mono ?_
  rintro e w' ⟨rfl, R, h1, h2, h3⟩
  have hRl : R.toList.length = n := by rw [h1.length_eq]; simpa using hl
  refine ⟨rfl, ⟨h3.os, h3.tape, h3.output, h3.size, fun k hk hn => h3.other hk hn⟩, R.toList, by simpa using h1, h2, ?_⟩
  have h4 := Lib.ownsRow_putRow (q := 0) (k := n) (ys := R.toList) h hRl (Nat.le_refl _)
  rw [List.take_of_length_le (by omega)] at h4
  have h5 : (putRow uE w g 0 R).ownsRow base 44 1 (.slice (some ⟨g, 0, none⟩) n c) n (U64 R.toList) := h4
  exact O.own_later h5 (RowKit.Below.mono h3 (by simp [putRow, mapBlock]))
theorem compactU_own {w : World} {base n c g : Nat} {zs : List Int} (h : w.ownsRow base 44 1 (.slice (some ⟨g, 0, none⟩) n c) n (U64 zs)) (hz : n ≤ 10000) (hs : zs.Pairwise (· ≤ ·)) :
    Calls Tryz.prog 49 #[.slice (some ⟨g, 0, none⟩) n c] w fun e w' => ∃ ts : List Int, e = .returned (.slice (some ⟨g, 0, none⟩) ts.length c) ∧ Kept (· = g) w w' ∧ w'.ownsRow base 44 1 (.slice (some ⟨g, 0, none⟩) ts.length c) ts.length (U64 ts) ∧ ts.Pairwise (· < ·) ∧ (∀ x, x ∈ ts ↔ x ∈ zs) ∧ ts.length ≤ n := by
  have hl : zs.length = n := by have := h.1; simp [U64] at this; omega
  obtain ⟨g', c', e, -, hgl, hcap, -, -, hH⟩ := Lib.holds_of_ownsRow h (by simp)
  cases e
  refine (compact_at (cap := c) (by simpa using hl) hH (by omega) hcap).mono ?_
  rintro e w' ⟨rfl, h3⟩
  have hsz : zs.toArray.size = zs.length := by simp
  rw [hsz] at h3 ⊢
  obtain ⟨h1, h2⟩ := compact_up zs hs _ (Nat.le_refl _)
  have hle : (Lib.compactUpTo zs.toArray zs.length).length ≤ zs.length := Lib.compact_length_le zs
  generalize Lib.compactUpTo zs.toArray zs.length = ts at *
  refine ⟨ts, rfl, ⟨h3.os, h3.tape, h3.output, h3.size, fun k hk hn => h3.other hk hn⟩, ?_, h1, fun x => ?_, by omega⟩
  · have h4 := Lib.ownsRow_putRow (q := 0) (k := ts.length) (ys := ts ++ List.replicate (zs.length - ts.length) 0) h (by simp; omega) (by omega)
    rw [List.take_left] at h4
    have h5 : (putRow uE w g 0 (ts ++ List.replicate (zs.length - ts.length) 0).toArray).ownsRow base 44 1 (.slice (some ⟨g, 0, none⟩) ts.length c) ts.length (U64 ts) := h4
    exact O.own_later h5 (RowKit.Below.mono h3 (by simp [putRow, mapBlock]))
  · have := h2 x
    rw [mem_getD] at this
    exact this
end Go.Proofs.YtkgjmejpbklabaaGreat
namespace Go.Proofs.YtkgjmejpbklabaaGreat
open Go.RowKit
open B (IIn I64)
set_option maxHeartbeats 2000000 in
set_option maxRecDepth 100000 in
theorem nanI_is (x : Int) (w : World) : Calls Tryz.prog 88 #[.int .i64 x] w fun e w' => e = .returned (.bool false) ∧ w' = w := by
  go_enter Tryz.func88, Tryz.ntmps88
  go_wp2
  go_ret
  exact ⟨by simp, rfl⟩
/-- less, equal, greater -/
def cmpS (x y : Int) : Int := if x < y then -1 else if y < x then 1 else 0
set_option maxHeartbeats 2000000 in
set_option maxRecDepth 100000 in
theorem cmp_is (x y : Int) (w : World) : Calls Tryz.prog 59 #[.int .i64 x, .int .i64 y] w fun e w' => e = .returned (.int .i64 (cmpS x y)) ∧ w' = w := by
  have H : Hid (∀ z, ((x < y ∧ z = -1) ∨ (¬ x < y ∧ y < x ∧ z = 1) ∨ (¬ x < y ∧ ¬ y < x ∧ z = 0)) → cmpS x y = z) := fun z h => by
    unfold cmpS
    rcases h with ⟨h1, rfl⟩ | ⟨h1, h2, rfl⟩ | ⟨h1, h2, rfl⟩ <;> simp [*]
  go_enter Tryz.func59, Tryz.ntmps59
  by_cases h1 : x < y
  · go_wp2_with (go_at_call 88; refine (nanI_is _ _).mono ?_; rintro e w' ⟨rfl, rfl⟩)
    go_ret
    exact ⟨by rw [H.out _ (.inl ⟨h1, rfl⟩)]; rfl, rfl⟩
  · by_cases h2 : y < x
    · go_wp2_with (go_at_call 88; refine (nanI_is _ _).mono ?_; rintro e w' ⟨rfl, rfl⟩)
      go_ret
      exact ⟨by rw [H.out _ (.inr (.inl ⟨h1, h2, rfl⟩))]; rfl, rfl⟩
    · go_wp2_with (go_at_call 88; refine (nanI_is _ _).mono ?_; rintro e w' ⟨rfl, rfl⟩)
      go_ret
      exact ⟨by rw [H.out _ (.inr (.inr ⟨h1, h2, rfl⟩))]; rfl, rfl⟩
set_option maxHeartbeats 2000000 in
set_option maxRecDepth 100000 in
theorem near1_at {w : World} {b5 fb N c : Nat} {u v : Int} {a b : Nat} (hb : w.cell? ⟨b5, 0, none⟩ = some (.slice (some ⟨fb, 0, none⟩) N c)) (ha : a < N) (hbN : b < N) (hca : w.cell? ⟨fb, a, none⟩ = some (.int .i64 u)) (hcb : w.cell? ⟨fb, b, none⟩ = some (.int .i64 v)) :
    Calls Tryz.prog 58 #[.int .i64 (a : Int), .int .i64 (b : Int), .pointer (some ⟨b5, 0, none⟩)] w fun e w' => e = .returned (.int .i64 (cmpS u v)) ∧ RowKit.Below w.heap.size w w' := by
  go_enter Tryz.func58, Tryz.ntmps58
  go_wp2
  go_quiet (first | (go_at_call 59; refine Calls.quiet_of_same (cmp_is _ _ _)))
  go_wp2
  go_ret
  exact ⟨rfl, below_dr _ _ _⟩
/-- the first of the least, of the first i -/
def Fm (g : Nat → Nat) (q : List Nat) (m i : Nat) : Prop := ∃ j, j < i ∧ q[j]? = some m ∧ (∀ k x, k < i → q[k]? = some x → g m ≤ g x) ∧ (∀ k x, k < j → q[k]? = some x → g m < g x)
theorem Fm.start {g : Nat → Nat} {q : List Nat} {m : Nat} (h : q[0]? = some m) : Fm g q m 1 := ⟨0, by omega, h, fun k x hk hx => by
  obtain rfl : k = 0 := by omega
  rw [h] at hx; cases hx; exact Nat.le_refl _, fun k x hk => by omega⟩
theorem Fm.keep {g : Nat → Nat} {q : List Nat} {m i y : Nat} (h : Fm g q m i) (hy : q[i]? = some y) (hl : ¬ g y < g m) : Fm g q m (i + 1) := by
  obtain ⟨j, h1, h2, h3, h4⟩ := h
  refine ⟨j, by omega, h2, fun k x hk hx => ?_, h4⟩
  by_cases e : k = i
  · subst e; rw [hy] at hx; cases hx; omega
  · exact h3 k x (by omega) hx
theorem Fm.turn {g : Nat → Nat} {q : List Nat} {m i y : Nat} (h : Fm g q m i) (hy : q[i]? = some y) (hl : g y < g m) : Fm g q y (i + 1) := by
  obtain ⟨j, h1, h2, h3, h4⟩ := h
  refine ⟨i, by omega, hy, fun k x hk hx => ?_, fun k x hk hx => ?_⟩
  · by_cases e : k = i
    · subst e; rw [hy] at hx; cases hx; exact Nat.le_refl _
    · have := h3 k x (by omega) hx; omega
  · have := h3 k x hk hx; omega
theorem cmpS_lt (x y : Int) : cmpS x y < 0 ↔ x < y := by
  unfold cmpS
  by_cases h : x < y
  · simp [h]
  · by_cases h2 : y < x <;> simp [h, h2]
abbrev nearV (b5 : Nat) : Value := .func (.func 58) #[] #[.pointer (some ⟨b5, 0, none⟩)]
set_option maxHeartbeats 2000000 in
set_option maxRecDepth 100000 in
theorem minfunc_at {w : World} {p : Option Addr} {n c b5 fb N cf bF : Nat} {q f : List Nat} (hq : q.length = n) (hI : IIn w p n (nz q)) (h0 : 0 < n) (hz : n ≤ 9000) (hl : ∀ x ∈ q, x < N) (hb : VBx w b5 (.slice (some ⟨fb, 0, none⟩) N cf) 72) (hF : w.ownsRow bF 3 1 (.slice (some ⟨fb, 0, none⟩) N cf) N (I64 (nz f))) :
    Calls Tryz.prog 57 #[.slice p n c, nearV b5] w fun e w' => ∃ m : Nat, e = .returned (.int .i64 (m : Int)) ∧ RowKit.Below w.heap.size w w' ∧ Fm (fun x => f.getD x 0) q m n := by
  obtain ⟨b, off, rfl, hcs⟩ := hI.cells h0
  have hfl : f.length = N := by have := hF.1; rw [B.I64_length, nz_length] at this; omega
  have hblt : b < w.heap.size := hI.lt (a := ⟨b, off, none⟩) h0
  have HC : Hid (∀ W, RowKit.Below w.heap.size w W → (∀ j, j < n → W.cell? ⟨b, off + j, none⟩ = some (.int .i64 ((q.getD j 0 : Nat) : Int))) ∧ W.cell? ⟨b5, 0, none⟩ = some (.slice (some ⟨fb, 0, none⟩) N cf) ∧ ∀ x, x < N → W.cell? ⟨fb, x, none⟩ = some (.int .i64 ((f.getD x 0 : Nat) : Int))) := fun W hW => by
    refine ⟨fun j hj => ?_, (hb.later hW).c, fun x hx => O.own_cell (O.own_later hF hW) (nzI_get (by omega))⟩
    rw [hW.cell (p := ⟨b, off + j, none⟩) hblt, hcs j hj, nz_getD]
  have HQ : Hid (∀ j, j < n → q[j]? = some (q.getD j 0) ∧ q.getD j 0 < N) := fun j hj => by
    have h1 : q[j]? = some (q.getD j 0) := by rw [List.getD, List.getElem?_eq_getElem (by omega)]; rfl
    exact ⟨h1, hl _ (List.mem_of_getElem? h1)⟩
  have hc0 := (HC.out w (RowKit.Below.refl _ _)).1 0 h0
  rw [Nat.add_zero] at hc0
  have HM0 : Hid (Fm (fun x => f.getD x 0) q (q.getD 0 0) 1 ∧ q.getD 0 0 < N) := ⟨Fm.start (HQ.out 0 h0).1, (HQ.out 0 h0).2⟩
  clear hcs hI hq hfl hb hF hl
  generalize q.getD 0 0 = m0 at *
  go_enter Tryz.func57, Tryz.ntmps57
  go_wp2_with fail
  clear hc0
  go_loopw [5, 6] (fun v v2 W => ∃ (m i : Nat), v = .int .i64 (m : Int) ∧ v2 = .int .i64 (i : Int) ∧ 1 ≤ i ∧ i ≤ n ∧ Hid (RowKit.Below w.heap.size w W) ∧ Hid (Fm (fun x => f.getD x 0) q m i ∧ m < N)) (fun v v2 _ => n - (intV v2).toNat)
  case atStart => exact ⟨m0, 1, rfl, rfl, by omega, by omega, RowKit.Below.refl _ _, HM0⟩
  case round =>
    obtain ⟨m, i, rfl, rfl, h1, hi, HB, HM⟩ := hrel
    by_cases hin : i < n
    · obtain ⟨hca, hcb, hcf⟩ := HC.out wr HB.out
      have hci := hca i hin
      have HCI : Hid (∀ W, RowKit.Below w.heap.size w W → W.cell? ⟨b, off + i, none⟩ = some (.int .i64 ((q.getD i 0 : Nat) : Int))) := fun W hW => (HC.out W hW).1 i hin
      obtain ⟨hqi, hqN⟩ := HQ.out i hin
      have HQI : Hid (q[i]? = some (q.getD i 0) ∧ q.getD i 0 < N) := ⟨hqi, hqN⟩
      have hcy := hcf _ hqN
      have hcm := hcf m HM.out.2
      have HCALL := near1_at hcb hqN HM.out.2 hcy hcm
      have HCL : Hid _ := HCALL
      clear HCALL hca hcf hqi hqN hcy hcm hcb
      generalize q.getD i 0 = y at *
      go_wp2_with fail
      refine Calls.mono HCL.out ?_
      rintro e w' ⟨rfl, hb'⟩
      have HB' : Hid (RowKit.Below w.heap.size w w') := HB.out.trans (hb'.mono HB.out.size)
      have hci' := HCI.out w' HB'.out
      clear HCL hb' hci
      have HCM : Hid (cmpS ((f.getD y 0 : Nat) : Int) ((f.getD m 0 : Nat) : Int) < 0 ↔ f.getD y 0 < f.getD m 0) := by
        show _ ↔ _
        rw [cmpS_lt]; omega
      generalize cmpS ((f.getD y 0 : Nat) : Int) ((f.getD m 0 : Nat) : Int) = cc at *
      by_cases hcc : cc < 0
      · have HM2 : Hid (Fm (fun x => f.getD x 0) q y (i + 1) ∧ y < N) := ⟨HM.out.1.turn HQI.out.1 (HCM.out.1 hcc), HQI.out.2⟩
        go_wp2_with fail
        go_roundw
        case rel => exact ⟨y, i + 1, rfl, rfl, by omega, by omega, HB', HM2⟩
        case measure => simp [intV]; omega
      · have HM2 : Hid (Fm (fun x => f.getD x 0) q m (i + 1) ∧ m < N) := ⟨HM.out.1.keep HQI.out.1 (fun h => hcc (HCM.out.2 h)), HM.out.2⟩
        go_wp2_with fail
        go_roundw
        case rel => exact ⟨m, i + 1, rfl, rfl, by omega, by omega, HB', HM2⟩
        case measure => simp [intV]; omega
    · go_wp2_with fail
      go_ret
      exact ⟨m, rfl, HB.out, by have := HM.out.1; rwa [show i = n by omega] at this⟩
theorem up_nodup {l : List Nat} (h : l.Pairwise (· < ·)) : l.Nodup := by
  unfold List.Nodup
  rw [List.pairwise_iff_getElem] at *
  intro i j hi hj hij
  have := h i j hi hj hij
  omega
set_option maxHeartbeats 2000000 in
set_option maxRecDepth 100000 in
theorem nearest_at {S : Nat → Prop} {w : World} {tv : Value} {g n cg : Nat} {nx : List (List Nat)} {fb cf bF x : Nat} {f : List Nat} (hn : nx.length = n) (hz : n ≤ 9000) (hNX : NIn S w (.slice (some ⟨g, 0, none⟩) n cg) nx) (hwf : ∀ i v, v ∈ nx.getD i [] → v < n) (hup : ∀ i, (nx.getD i []).Pairwise (· < ·)) (hx : x < n) (h0 : nx.getD x [] ≠ [])
    (hF : w.ownsRow bF 3 1 (.slice (some ⟨fb, 0, none⟩) n cf) n (I64 (nz f))) :
    Calls Tryz.prog 29 #[.agg #[tv, .slice (some ⟨g, 0, none⟩) n cg], .int .i64 (x : Int), .slice (some ⟨fb, 0, none⟩) n cf] w fun e w' => ∃ y : Nat, e = .returned (.int .i64 (y : Int)) ∧ RowKit.Below w.heap.size w w' ∧ Ed nx x y ∧ (∀ z, Ed nx x z → fg f y ≤ fg f z) ∧ ∀ z, Ed nx x z → fg f z = fg f y → y ≤ z := by
  obtain ⟨W1, eW1⟩ : ∃ W1, (w.alloc (Obj.cells #[tv, .slice (some ⟨g, 0, none⟩) n cg] 70)).alloc (Obj.cells #[Value.slice (some ⟨fb, 0, none⟩) n cf] 72) = W1 := ⟨_, rfl⟩
  have hB : RowKit.Below w.heap.size w W1 := by rw [← eW1]; exact below_then (below_alloc w _) (below_alloc _ _)
  have hG : GBx W1 w.heap.size tv (.slice (some ⟨g, 0, none⟩) n cg) := by rw [← eW1]; exact (GBx.new w _ _).later (below_alloc _ _)
  have hV : VBx W1 (w.heap.size + 1) (.slice (some ⟨fb, 0, none⟩) n cf) 72 := by
    rw [← eW1]
    have := VBx.new (w.alloc (Obj.cells #[tv, .slice (some ⟨g, 0, none⟩) n cg] 70)) (.slice (some ⟨fb, 0, none⟩) n cf) 72
    rw [World.size_alloc] at this
    exact this
  obtain ⟨pr, kr, hcr, hir⟩ := NIn.at (hNX.later hB) x (by omega)
  have hfl : f.length = n := by have := hF.1; rw [B.I64_length, nz_length] at this; omega
  have hnd : (nx.getD x []).Nodup := up_nodup (hup x)
  have hl9 : (nx.getD x []).length ≤ 9000 := by
    have := nodup_lt (n := n) hnd fun v hv => hwf x v hv
    omega
  have HCL : Hid _ := minfunc_at (c := kr) rfl hir (List.length_pos_iff.2 h0) hl9 (hwf x) hV (O.own_later hF hB)
  have HFG : Hid (∀ z, Ed nx x z → fg f z = f.getD z 0) := fun z hz => by
    have := hwf x z hz
    show f.getD z NW = f.getD z 0
    simp [List.getD, List.getElem?_eq_getElem (show z < f.length by omega)]
  have hc1 := hG.c1
  have HEQ : Hid (W1 = (w.alloc (Obj.cells #[tv, .slice (some ⟨g, 0, none⟩) n cg] 70)).alloc (Obj.cells #[Value.slice (some ⟨fb, 0, none⟩) n cf] 72)) := eW1.symm
  have HB : Hid (RowKit.Below w.heap.size w W1) := hB
  have HUP : Hid ((nx.getD x []).Pairwise (· < ·)) := hup x
  clear eW1 hB hir hV hnd hup hwf hF hfl h0 hNX
  obtain ⟨rl, hrl⟩ : ∃ rl, (nx.getD x []).length = rl := ⟨_, rfl⟩
  have HRL : Hid ((nx.getD x []).length = rl) := hrl
  rw [hrl] at hcr hl9 HCL
  clear hrl
  go_enter Tryz.func29, Tryz.ntmps29
  go_upto_region 1 with fail
  rw [← HEQ.out]
  clear HEQ
  go_wp2_with fail
  refine Calls.mono HCL.out ?_
  rintro e w' ⟨m, rfl, hb, hm⟩
  have HM : Hid (Fm (fun x => f.getD x 0) (nx.getD x []) m rl) := hm
  have HB2 : Hid (RowKit.Below w.heap.size w w') := below_then HB.out hb
  clear hm hb HCL
  go_wp2_with fail
  go_ret
  obtain ⟨j, h1, h2, h3, h4⟩ := HM.out
  have hed : Ed nx x m := List.mem_of_getElem? h2
  refine ⟨m, rfl, HB2.out, hed, fun z hz => ?_, fun z hz e => ?_⟩
  · rw [HFG.out m hed, HFG.out z hz]
    obtain ⟨k, hk, ek⟩ := List.getElem_of_mem (show z ∈ nx.getD x [] from hz)
    exact h3 k z (by have := HRL.out; omega) (by rw [List.getElem?_eq_getElem hk, ek])
  · rw [HFG.out m hed, HFG.out z hz] at e
    obtain ⟨k, hk, ek⟩ := List.getElem_of_mem (show z ∈ nx.getD x [] from hz)
    have hjk : ¬ k < j := fun hc => by
      have := h4 k z hc (by rw [List.getElem?_eq_getElem hk, ek])
      simp only at this; omega
    by_cases ejk : k = j
    · subst ejk
      rw [List.getElem?_eq_getElem hk] at h2
      cases h2; omega
    · have hj : j < (nx.getD x []).length := (List.getElem?_eq_some_iff.1 h2).1
      have := (List.pairwise_iff_getElem.1 HUP.out) j k hj hk (by omega)
      rw [List.getElem?_eq_getElem hj] at h2
      cases h2
      rw [ek] at this; omega
end Go.Proofs.YtkgjmejpbklabaaGreat
namespace Go.Proofs.YtkgjmejpbklabaaGreat
open Go.RowKit
open B (IIn I64)
open Go.Sort
/-- tickets, by their places -/
def TC (w : World) (tb : Nat) (ts : List Int) : Prop := ∀ j, j < ts.length → w.cell? ⟨tb, j, none⟩ = some (.int .u64 (ts.getD j 0))
set_option maxHeartbeats 2000000 in
set_option maxRecDepth 100000 in
theorem nanS_is (x : Int) (w : World) : Calls Tryz.prog 109 #[.int .u64 x] w fun e w' => e = .returned (.bool false) ∧ w' = w := by
  go_enter Tryz.func109, Tryz.ntmps109
  go_wp2
  go_ret
  exact ⟨by simp, rfl⟩
theorem up_lt {ts : List Int} (h : ts.Pairwise (· < ·)) {J h' : Nat} {x : Int} (hJ : ts[J]? = some x) (hh : h' < ts.length) : ltInt (ts.getD h' 0) x = decide (h' < J) := by
  rw [List.pairwise_iff_getElem] at h
  obtain ⟨hj, e⟩ := List.getElem?_eq_some_iff.1 hJ
  have hd : ts.getD h' 0 = ts[h'] := by simp [List.getD, List.getElem?_eq_getElem hh]
  rw [hd, ← e]
  unfold ltInt
  by_cases hc : h' < J
  · have := h h' J hh hj hc
    simp [hc, this]
  · have : ¬ ts[h'] < ts[J] := by
      by_cases e2 : h' = J
      · subst e2; omega
      · have := h J h' hj hh (by omega); omega
    simp [hc, this]
set_option maxHeartbeats 2000000 in
set_option maxRecDepth 100000 in
theorem bsearch_at {w : World} {tb n c J : Nat} {ts : List Int} {x : Int} (hn : ts.length = n) (hz : n ≤ 10000) (hT : TC w tb ts) (hup : ts.Pairwise (· < ·)) (hJ : ts[J]? = some x) :
    Calls Tryz.prog 83 #[.slice (some ⟨tb, 0, none⟩) n c, .int .u64 x] w fun e w' => e = .returned (.tuple #[.int .i64 (J : Int), .bool true]) ∧ w' = w := by
  have hJn : J < n := by rw [← hn]; exact (List.getElem?_eq_some_iff.1 hJ).1
  have HT : Hid (∀ j, j < n → w.cell? ⟨tb, j, none⟩ = some (.int .u64 (ts.getD j 0))) := fun j hj => hT j (by omega)
  have HL : Hid (∀ j, j < n → ltInt (ts.getD j 0) x = decide (j < J)) := fun j hj => up_lt hup hJ (by omega)
  have HX : Hid (ts.getD J 0 = x) := by show _ = _; simp [List.getD, hJ]
  clear hT hup hn hJ
  go_enter Tryz.func83, Tryz.ntmps83
  go_wp2_with fail
  go_loopw [7, 8] (fun v v2 W => ∃ (i j : Nat), v = .int .i64 (i : Int) ∧ v2 = .int .i64 (j : Int) ∧ i ≤ J ∧ J ≤ j ∧ j ≤ n ∧ Hid (W = w)) (fun v v2 _ => (intV v2).toNat - (intV v).toNat)
  case atStart => exact ⟨0, n, rfl, rfl, by omega, by omega, by omega, rfl⟩
  case round =>
    obtain ⟨i, j, rfl, rfl, h1, h2, h3, HW⟩ := hrel
    obtain rfl := HW.out
    clear HW
    by_cases hij : i < j
    · have hch := HT.out ((i + j) / 2) (by omega)
      have hlt := HL.out ((i + j) / 2) (by omega)
      generalize ts.getD ((i + j) / 2) 0 = y at *
      by_cases hlJ : (i + j) / 2 < J
      · rw [decide_eq_true hlJ] at hlt
        go_wp2_with (go_at_call 104; refine (less_is _ _ _).mono ?_; rintro e w' ⟨rfl, rfl⟩)
        go_roundw
        case rel => exact ⟨(i + j) / 2 + 1, j, by congr 1, rfl, by omega, by omega, by omega, trivial⟩
        case measure => simp [intV]; omega
      · rw [decide_eq_false hlJ] at hlt
        go_wp2_with (go_at_call 104; refine (less_is _ _ _).mono ?_; rintro e w' ⟨rfl, rfl⟩)
        go_roundw
        case rel => exact ⟨i, (i + j) / 2, rfl, by congr 1, by omega, by omega, by omega, trivial⟩
        case measure => simp [intV]; omega
    · obtain rfl : i = J := by omega
      obtain rfl : i = j := by omega
      have hcJ := HT.out i hJn
      rw [HX.out] at hcJ
      go_wp2_with (go_at_call 109; refine (nanS_is _ _).mono ?_; rintro e w' ⟨rfl, rfl⟩)
      go_ret2
      exact ⟨rfl, rfl⟩
set_option maxHeartbeats 2000000 in
set_option maxRecDepth 100000 in
theorem gplace_at {w : World} {tb n c J nn nc : Nat} {np : Option Addr} {ts : List Int} {x : Int} (hn : ts.length = n) (hz : n ≤ 10000) (hT : TC w tb ts) (hup : ts.Pairwise (· < ·)) (hJ : ts[J]? = some x) :
    Calls Tryz.prog 50 #[.agg #[.slice (some ⟨tb, 0, none⟩) n c, .slice np nn nc], .int .u64 x] w fun e w' => e = .returned (.int .i64 (J : Int)) ∧ RowKit.Below w.heap.size w w' := by
  have hB : RowKit.Below w.heap.size w (w.alloc (Obj.cells #[Value.slice (some ⟨tb, 0, none⟩) n c, .slice np nn nc] 70)) := below_alloc w _
  have hT' : TC (w.alloc (Obj.cells #[Value.slice (some ⟨tb, 0, none⟩) n c, .slice np nn nc] 70)) tb ts := fun j hj => by
    have := hT j hj
    exact (hB.cell (p := ⟨tb, j, none⟩) (World.block_lt_of_cell? w _ this)).trans this
  have HCL : Hid _ := bsearch_at (c := c) hn hz hT' hup hJ
  have HB : Hid (RowKit.Below w.heap.size w (w.alloc (Obj.cells #[Value.slice (some ⟨tb, 0, none⟩) n c, .slice np nn nc] 70))) := hB
  clear hT' hT hup hJ hB
  go_enter Tryz.func50, Tryz.ntmps50
  go_wp2_with fail
  refine Calls.mono HCL.out ?_
  rintro e w' ⟨rfl, rfl⟩
  clear HCL
  go_wp2_with fail
  go_ret
  exact ⟨rfl, HB.out⟩
end Go.Proofs.YtkgjmejpbklabaaGreat
namespace Go.Proofs.YtkgjmejpbklabaaGreat
open Go.RowKit
open B (IIn I64)
/-- an edge -/
structure Eg where
  f : Int
  t : Int
  y : Int
  b : Int
def Eg.pr (e : Eg) : Int × Int := (e.f, e.t)
abbrev egs (es : List Eg) : List (Int × Int) := es.map Eg.pr
abbrev noEg : Eg := ⟨0, 0, 0, 0⟩
abbrev ecells (e : Eg) : List Value := [.int .u64 e.f, .int .u64 e.t, .int .i64 e.y, .int .i64 e.b]
def ecs (es : List Eg) : List Value := es.flatMap ecells
theorem ecs_len (es : List Eg) : (ecs es).length = es.length * 4 := by
  induction es with
  | nil => rfl
  | cons e es ih => simp only [ecs, List.flatMap_cons, List.length_append, List.length_cons, List.length_nil] at ih ⊢; omega
theorem ecs_at : ∀ (es : List Eg) (j : Nat), j < es.length → (ecs es)[j * 4]? = some (.int .u64 (es.getD j noEg).f) ∧ (ecs es)[j * 4 + 1]? = some (.int .u64 (es.getD j noEg).t) ∧ (ecs es)[j * 4 + 2]? = some (.int .i64 (es.getD j noEg).y) ∧ (ecs es)[j * 4 + 3]? = some (.int .i64 (es.getD j noEg).b)
  | [], j, h => by simp at h
  | e :: es, 0, _ => by simp [ecs]
  | e :: es, j + 1, h => by
    have ih := ecs_at es j (by simpa using h)
    have e0 : ecs (e :: es) = ecells e ++ ecs es := rfl
    have e1 : ∀ k, (ecs (e :: es))[(j + 1) * 4 + k]? = (ecs es)[j * 4 + k]? := fun k => by
      rw [e0, List.getElem?_append_right (by simp; omega)]
      congr 1
      simp; omega
    have e2 : (e :: es).getD (j + 1) noEg = es.getD j noEg := by simp [List.getD]
    rw [e2]
    refine ⟨?_, ?_, ?_, ?_⟩
    · have := e1 0; simp only [Nat.add_zero] at this; rw [this]; exact ih.1
    · rw [e1 1]; exact ih.2.1
    · rw [e1 2]; exact ih.2.2.1
    · rw [e1 3]; exact ih.2.2.2
/-- edges that are read -/
structure EIn (w : World) (p : Option Addr) (n : Nat) (es : List Eg) : Prop where
  len : es.length = n
  cells : 0 < n → ∃ b o, p = some ⟨b, o, none⟩ ∧ ∀ j, j < n → w.cell? ⟨b, o + j * 4, none⟩ = some (.int .u64 (es.getD j noEg).f) ∧ w.cell? ⟨b, o + j * 4 + 1, none⟩ = some (.int .u64 (es.getD j noEg).t) ∧ w.cell? ⟨b, o + j * 4 + 2, none⟩ = some (.int .i64 (es.getD j noEg).y) ∧ w.cell? ⟨b, o + j * 4 + 3, none⟩ = some (.int .i64 (es.getD j noEg).b)
theorem EIn.keep {w w' : World} {p : Option Addr} {n : Nat} {es : List Eg} (h : EIn w p n es) (hk : ∀ a, p = some a → 0 < n → w'.heap[a.block]? = w.heap[a.block]?) : EIn w' p n es := by
  refine ⟨h.len, fun h0 => ?_⟩
  obtain ⟨b, o, rfl, hc⟩ := h.cells h0
  refine ⟨b, o, rfl, fun j hj => ?_⟩
  have hb : ∀ k, w'.cell? ⟨b, k, none⟩ = w.cell? ⟨b, k, none⟩ := fun k => World.cell?_of_block (w := w) (w' := w') (a := ⟨b, k, none⟩) (hk ⟨b, o, none⟩ rfl h0)
  rw [hb, hb, hb, hb]
  exact hc j hj
theorem EIn.lt {w : World} {a : Addr} {n : Nat} {es : List Eg} (h : EIn w (some a) n es) (h0 : 0 < n) : a.block < w.heap.size := by
  obtain ⟨b, o, e, hc⟩ := h.cells h0
  cases e
  exact World.block_lt_of_cell? w _ (hc 0 h0).1
theorem EIn.later {w w' : World} {p : Option Addr} {n : Nat} {es : List Eg} (h : EIn w p n es) (hb : RowKit.Below w.heap.size w w') : EIn w' p n es := h.keep fun a e h0 => by subst e; exact hb.block _ (h.lt h0)
theorem EIn.far {S : Nat → Prop} {w w' : World} {p : Option Addr} {n : Nat} {es : List Eg} (h : EIn w p n es) (hk : Kept S w w') (hS : ∀ a, p = some a → 0 < n → ¬ S a.block) : EIn w' p n es := h.keep fun a e h0 => by
  have h1 := hS a e h0
  subst e; exact hk.block _ (h.lt h0) h1
theorem EIn.take {w : World} {p : Option Addr} {n k : Nat} {es : List Eg} (h : EIn w p n es) (hk : k ≤ n) : EIn w p k (es.take k) := by
  refine ⟨by rw [List.length_take, h.len]; omega, fun h0 => ?_⟩
  obtain ⟨b, o, rfl, hc⟩ := h.cells (by omega)
  refine ⟨b, o, rfl, fun j hj => ?_⟩
  have e : (es.take k).getD j noEg = es.getD j noEg := by simp [List.getD, hj]
  rw [e]
  exact hc j (by omega)
theorem EIn.of_own {w : World} {base n c : Nat} {p : Option Addr} {es : List Eg} (h : w.ownsRow base 46 4 (.slice p n c) n (ecs es)) : EIn w p n es := by
  have hl : es.length = n := by have := h.1; rw [ecs_len] at this; omega
  refine ⟨hl, fun h0 => ?_⟩
  rcases h.2 with ⟨_, hv⟩ | ⟨g, cap, cur, e, _⟩
  · omega
  · cases e
    refine ⟨g, 0, rfl, fun j hj => ?_⟩
    have hc := fun i u hi => h.cells (g := g) rfl i u hi
    have ha := ecs_at es j (by omega)
    simp only [Go.WideShapes.add_plain] at hc
    refine ⟨?_, ?_, ?_, ?_⟩
    · exact hc _ _ ha.1
    · have := hc _ _ ha.2.1; rw [Nat.add_assoc]; exact this
    · have := hc _ _ ha.2.2.1; rw [Nat.add_assoc]; exact this
    · have := hc _ _ ha.2.2.2; rw [Nat.add_assoc]; exact this
namespace O
section
variable {w w' : World} {base : Nat} {t e : TypeId} {bytes : Nat} {v : Value} {n : Nat} {xs : List Value}
/-- 'append' of two elements, made just now -/
theorem wpList_two {ops : Array Oper} {rest : List Oper} {o : Oper} {A : Act} {Q : Exit → Act → World → Prop} (hgd : o.guard = none) (s x : Operand) (E : ElT t e 1 bytes)
    (ho : o.op = .call { callee := .builtin .append, args := #[s, x], argTypes := #[t, t] }) (hs : A.eval s = v) (h : w.ownsRow base e 1 v n xs)
    (u u' : Value) {z : Nat} (hx : A.eval x = .slice (some ⟨z, 0, none⟩) 2 2) (hz : w.heap.size = z) (h1 : u.oneCell' = true) (h2 : u'.oneCell' = true) (hn : n + 2 ≤ 10000) (hb : base ≤ w.heap.size)
    (hK : ∀ g c w', w'.ownsRow base e 1 (.slice (some ⟨g, 0, none⟩) (n + 2) c) (n + 2) (xs ++ [u, u']) → Kept (fun b => v.ownBlock = some b) w w' → wpList Tryz.prog ops Q rest (A.put o.dst (.slice (some ⟨g, 0, none⟩) (n + 2) c)) w') : wpList Tryz.prog ops Q (o :: rest) A (w.alloc (.cells #[u, u'] e)) := by
  subst hz
  have hO : (w.alloc (.cells [u, u'].toArray e)).ownsRow 0 e 1 (.slice (some ⟨w.heap.size, 0, none⟩) 2 2) 2 [u, u'] := own_all w e [u, u'] 2 rfl (by omega) (Nat.zero_le _)
  refine wpList_own_any hgd s x E ho hs (own_later h (below_alloc w _)) hx hO (fun y hy => by simp at hy; rcases hy with rfl | rfl <;> assumption) hn (by simp; omega) ?_
  intro v' w' h3 h4 h5
  obtain ⟨g, c, e1, -⟩ := own_some h3 (by omega)
  subst e1
  exact hK g c w' h3 ((Kept.of_below _ (below_alloc w _)).trans h4 fun _ _ hx => hx)
end
end O
theorem make_u64s (w : World) (m : Nat) (hm : m ≤ 10000) : (Instr.makeSlice 37 (.int .i64 0) (.int .i64 (m : Int))).run Tryz.prog w = .ok (.slice (some ⟨w.heap.size, 0, none⟩) 0 m) (w.alloc (.cells (List.replicate m (Value.int .u64 0)).toArray 44)) := by
  obtain ⟨i0, hi, h0, h1, h2⟩ := info_parts info26
  have hmm : (i0.bytes : Int) * (m : Int) ≤ 281474976710656 := by rw [h2]; omega
  have := run_make (P := Tryz.prog) w 37 44 i0 (.int .u64 0) Tryz.underlying37 hi h0 .i64 .i64 0 (m : Int) (by omega) (by omega) hmm (by omega)
  rw [Int.toNat_natCast] at this
  rw [this, h1]
  have e1 : madeCells #[Value.int .u64 0] m = (List.replicate m (Value.int .u64 0)).toArray := by rw [← toList_madeCells_one (Value.int .u64 0) m]
  simp [Value.cells, e1]
theorem own_cap (w : World) (m : Nat) (hm : m ≤ 10000) {base : Nat} (hb : base ≤ w.heap.size) : (w.alloc (.cells (List.replicate m (Value.int .u64 0)).toArray 44)).ownsRow base 44 1 (.slice (some ⟨w.heap.size, 0, none⟩) 0 m) 0 [] :=
  ⟨by simp, .inr ⟨w.heap.size, m, _, rfl, hb, heap_alloc_new w _, by omega, Nat.le_trans hm (by decide), by simp, by simp⟩⟩
/-- one list is another one now -/
theorem Rws.turn {w w' : World} {base g n : Nat} {vs : List Value} {bk : List (List Nat)} (h : Rws w base g n vs bk) {i : Nat} {row : List Nat} (hi : i < n) {v' : Value} (ho : w'.ownsRow base 3 1 v' row.length (I64 (nz row)))
    (hk : Kept (fun b => (vs.getD i nils).ownBlock = some b) w w') (hv : ∀ b, v'.ownBlock = some b → (vs.getD i nils).ownBlock = some b ∨ w.heap.size ≤ b) :
    w'.ownsRow base 72 1 (.slice (some ⟨g, 0, none⟩) n n) n vs ∧ Rws (w'.setCell ⟨g, i, none⟩ v') base g n (vs.set i v') (bk.set i row) := by
  have hg : ∀ j, j < n → (vs.getD j nils).ownBlock ≠ some g := fun j hj hc => O.own_ne (h.row j hj) h.top (by decide) hc rfl
  have ht : w'.ownsRow base 72 1 (.slice (some ⟨g, 0, none⟩) n n) n vs := O.own_far h.top hk fun b hb hc => hg i hi (by simp [Value.ownBlock] at hb; rw [hb]; exact hc)
  have hs : Kept (· = g) w' (w'.setCell ⟨g, i, none⟩ v') := Kept.setCell g i v'
  have hvg : v'.ownBlock ≠ some g := fun hc => O.own_ne ho ht (by decide) hc rfl
  have e1 : ∀ j, (vs.set i v').getD j nils = if i = j then v' else vs.getD j nils := fun j => by
    rw [getD_set]
    by_cases hj : i = j
    · rw [if_pos ⟨hj, by rw [h.lv]; exact hi⟩, if_pos hj]
    · rw [if_neg (fun hc => hj hc.1), if_neg hj]
  have e2 : ∀ j, (bk.set i row).getD j [] = if i = j then row else bk.getD j [] := fun j => by
    rw [getD_set]
    by_cases hj : i = j
    · rw [if_pos ⟨hj, by rw [h.lb]; exact hi⟩, if_pos hj]
    · rw [if_neg (fun hc => hj hc.1), if_neg hj]
  refine ⟨ht, by simp [h.lv], by simp [h.lb], O.own_set ht rfl i v', fun j hj => ?_, fun j l b hj hl h1 h2 => ?_⟩
  · rw [e1, e2]
    by_cases hij : i = j
    · rw [if_pos hij, if_pos hij]
      exact O.own_far ho hs fun b hb e => hvg (e ▸ hb)
    · rw [if_neg hij, if_neg hij]
      refine O.own_far (O.own_far (h.row j hj) hk fun b hb hc => hij (h.apart i j b hi hj hc hb)) hs fun b hb e => hg j hj (e ▸ hb)
  · rw [e1] at h1 h2
    have old : ∀ m, m < n → i ≠ m → (vs.getD m nils).ownBlock = some b → v'.ownBlock = some b → False := fun m hm hne h3 h4 => by
      rcases hv b h4 with h5 | h5
      · exact hne (h.apart i m b hi hm h5 h3)
      · have := ((h.row m hm).lt b h3).2; omega
    by_cases hij : i = j
    · rw [if_pos hij] at h1
      by_cases hil : i = l
      · rw [← hij, hil]
      · rw [if_neg hil] at h2
        exact (old l hl hil h2 h1).elim
    · rw [if_neg hij] at h1
      by_cases hil : i = l
      · rw [if_pos hil] at h2
        exact (old j hj hij h1 h2).elim
      · rw [if_neg hil] at h2
        exact h.apart j l b hj hl h1 h2
end Go.Proofs.YtkgjmejpbklabaaGreat
