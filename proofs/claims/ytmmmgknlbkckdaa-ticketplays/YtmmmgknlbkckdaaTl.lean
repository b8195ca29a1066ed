/-
  Layer 11: the calls of a step, as the pair sees them.
-/
import Derived.Test.YtmmmgknlbkckdaaTk
namespace Go.Proofs.Ytmmmgknlbkckdaa
open Go.RowKit


variable {w0 w w' : World} {P : Nat} {Q : Nat → Nat} {v : Nat → Value} {X : Nat → List Int} {Y : Nat → Int} {kv : Value} {ks : List (Nat × Nat)} {n j : Nat} {xs : List Int} {m : Int}
def putX (xs : List Int) (m t : Int) : List Int := if t ≤ m then xs else xs ++ [t]
def putY (m t : Int) : Int := if t ≤ m then m else t
def putR (m t : Int) : Int := if t ≤ m then 110 else 0
theorem Up.putX {xs : List Int} {m : Int} (h : Up xs m) (t : Int) : Up (putX xs m t) (putY m t) := by
  unfold Go.Proofs.Ytmmmgknlbkckdaa.putX putY
  split
  · exact h
  · exact h.put (by omega)
theorem putX_len (xs : List Int) (m t : Int) : (putX xs m t).length ≤ xs.length + 1 := by
  unfold putX; split <;> simp
theorem put_at {v : Value} {Q : Nat} (h : QAt 28 w Q v xs m) (t : Int) (hn : xs.length < 100000) :
    Calls Try.prog 7 #[qp Q, .int .u64 t] w fun e w' => e = .returned (.int .i64 (putR m t)) ∧ ∃ v', QAt 28 w' Q v' (putX xs m t) (putY m t) ∧ Kept (fun b => b = Q ∨ blk v = some b) w w' ∧ (blk v' = blk v ∨ ∃ g, blk v' = some g ∧ w.heap.size ≤ g) := by
  unfold putR putX putY
  by_cases ht : t ≤ m
  · simp only [if_pos ht]
    refine (put_low h t ht).mono ?_
    rintro e w' ⟨rfl, rfl⟩
    exact ⟨rfl, v, h, Kept.refl _ _, .inl rfl⟩
  · simp only [if_neg ht]
    exact put_high h t ht hn
theorem rput_at {v : Value} {Q : Nat} (h : QAt 44 w Q v xs m) (t : Int) (hn : xs.length < 100000) :
    Calls Try.prog 20 #[qp Q, .int .u64 t] w fun e w' => e = .returned (.int .i64 (putR m t)) ∧ ∃ v', QAt 44 w' Q v' (putX xs m t) (putY m t) ∧ Kept (fun b => b = Q ∨ blk v = some b) w w' ∧ (blk v' = blk v ∨ ∃ g, blk v' = some g ∧ w.heap.size ≤ g) := by
  unfold putR putX putY
  by_cases ht : t ≤ m
  · simp only [if_pos ht]
    refine (rput_low h t ht).mono ?_
    rintro e w' ⟨rfl, rfl⟩
    exact ⟨rfl, v, h, Kept.refl _ _, .inl rfl⟩
  · simp only [if_neg ht]
    exact rput_high h t ht hn
theorem new_or {a : Option Nat} {v' : Value} {N : Nat} (h : blk v' = a ∨ ∃ g, blk v' = some g ∧ N ≤ g) : blk v' = a ∨ ∀ g, blk v' = some g → N ≤ g := by
  rcases h with h | ⟨g, e, hg⟩
  · exact .inl h
  · exact .inr fun g' e' => by rw [e] at e'; cases e'; exact hg
theorem sput (h : St w0 w P Q v X Y kv ks n) (hn : n ≤ 1000) (hj : j < 2) (t : Int) :
    Calls Try.prog 7 #[qp (Q j), .int .u64 t] w fun e w' => e = .returned (.int .i64 (putR (Y j) t)) ∧ Half w0 w' P Q X Y kv ks n j (putX (X j) (Y j) t) (putY (Y j) t) ∧ K51 w w' := by
  have hl := h.len j hj
  refine (put_at (h.at' hj) t (by omega)).mono ?_
  rintro e w' ⟨rfl, v', h1, h2, h3⟩
  refine ⟨rfl, h.half ((h.up j hj).putX t) (by have := putX_len (X j) (Y j) t; omega) (h.ps.turn (by omega) (by rw [qty_lo hj]; exact h1) h2 (new_or h3)), h.ps.k51 (by omega) h2⟩
theorem hrput (h : Half w0 w P Q X Y kv ks n j xs m) (hn : n ≤ 1000) (hj : j < 2) (t : Int) (hx : xs = putX (X j) (Y j) t) (hm : m = putY (Y j) t) :
    Calls Try.prog 20 #[qp (Q (j + 2)), .int .u64 t] w fun e w' => e = .returned (.int .i64 (putR (Y j) t)) ∧ Next w0 w' P (n + 1) ∧ K51 w w' := by
  have hl := h.len j hj
  obtain ⟨v, hp, hq⟩ := h.rat hj
  refine (rput_at hq t (by omega)).mono ?_
  rintro e w' ⟨rfl, v', h1, h2, h3⟩
  rw [← hx, ← hm] at h1
  exact ⟨rfl, h.next hj (hp.turn (by omega) (by rw [qty_hi hj]; exact h1) h2 (new_or h3)), hp.k51 (by omega) h2⟩
theorem sdrop (h : St w0 w P Q v X Y kv ks n) (hn : n ≤ 1000) (hj : j < 2) (t : Int) :
    Calls Try.prog 13 #[qp (Q j), .int .u64 t] w fun e w' => e = .returned (.int .i64 (said (X j) t)) ∧ Half w0 w' P Q X Y kv ks n j ((X j).erase t) (Y j) ∧ K51 w w' := by
  have hl := h.len j hj
  have hle : ((X j).erase t).length ≤ n + 1 := by have := List.length_erase_le (a := t) (l := X j); omega
  by_cases ht : t ∈ X j
  · refine (drop_in (h.at' hj) t ht (by omega)).mono ?_
    rintro e w' ⟨rfl, v', h1, h2, h3⟩
    exact ⟨by simp [said, ht], h.half ((h.up j hj).erase t) hle (h.ps.turn (by omega) (by rw [qty_lo hj]; exact h1) h3 (.inl h2)), h.ps.k51 (by omega) h3⟩
  · refine (drop_out (h.at' hj) t ht (by omega)).mono ?_
    rintro e w' ⟨rfl, hb⟩
    have hq := (h.at' hj).later hb
    refine ⟨by simp [said, ht], h.half ((h.up j hj).erase t) hle (h.ps.turn (v' := v j) (by omega) (by rw [qty_lo hj, List.erase_of_not_mem ht]; exact hq) (Kept.of_below _ hb) (.inl rfl)), K51.of_below hb⟩
theorem kept_wide {a b : World} {R : Nat} {o : Option Nat} (h : Kept (· = R) a b) : Kept (fun x => x = R ∨ o = some x) a b := h.wider fun _ _ e => .inl e
theorem hrdrop (h : Half w0 w P Q X Y kv ks n j xs m) (hn : n ≤ 1000) (hj : j < 2) (t : Int) (hx : xs = (X j).erase t) (hm : m = Y j) :
    Calls Try.prog 24 #[qp (Q (j + 2)), .int .u64 t] w fun e w' => e = .returned (.int .i64 (said (X j) t)) ∧ Next w0 w' P (n + 1) ∧ K51 w w' := by
  have hl := h.len j hj
  obtain ⟨v, hp, hq⟩ := h.rat hj
  refine (rdrop_any hq t (by omega)).mono ?_
  rintro e w' ⟨rfl, v', h1, h2, h3⟩
  rw [without, (h.up j hj).filter, ← hx, ← hm] at h1
  exact ⟨rfl, h.next hj (hp.turn (by omega) (by rw [qty_hi hj]; exact h1) (kept_wide h3) (.inr h2)), hp.k51 (by omega) (kept_wide h3)⟩
def hdv (xs : List Int) : Int := xs.headD 0
def nonE (xs : List Int) : Bool := !xs.isEmpty
theorem sfirst (h : St w0 w P Q v X Y kv ks n) (hj : j < 2) : Calls Try.prog 12 #[qp (Q j)] w fun e w' => e = .returned (.tuple #[.int .u64 (hdv (X j)), .bool (nonE (X j))]) ∧ w = w' := by
  have hq := h.at' hj
  rcases list_parts (X j) with e | ⟨x, ys, e⟩
  · rw [e] at hq ⊢; exact first_none hq
  · rw [e] at hq ⊢; exact first_some hq
theorem srfirst (h : St w0 w P Q v X Y kv ks n) (hj : j < 2) : Calls Try.prog 21 #[qp (Q (j + 2))] w fun e w' => e = .returned (.tuple #[.int .u64 (hdv (X j)), .bool (nonE (X j))]) ∧ w = w' := by
  have hq := h.rat hj
  rcases list_parts (X j) with e | ⟨x, ys, e⟩
  · rw [e] at hq ⊢; exact rfirst_none hq
  · rw [e] at hq ⊢; exact rfirst_some hq
theorem stake (h : St w0 w P Q v X Y kv ks n) (hn : n ≤ 1000) (hj : j < 2) :
    Calls Try.prog 8 #[qp (Q j)] w fun e w' => e = .returned (.tuple #[.int .u64 (hdv (X j)), .bool (nonE (X j))]) ∧ Half w0 w' P Q X Y kv ks n j (X j).tail (Y j) := by
  have hl := h.len j hj
  have hle : (X j).tail.length ≤ n + 1 := by simp; omega
  have hu : Up (X j).tail (Y j) := (h.up j hj).sub (List.tail_sublist _)
  have hq := h.at' hj
  rcases list_parts (X j) with e | ⟨x, ys, e⟩
  · have hq' := hq
    rw [e] at hq
    refine (take_none hq).mono ?_
    rintro e' w' ⟨rfl, rfl⟩
    refine ⟨by rw [e]; rfl, h.half hu hle (h.ps.turn (v' := v j) (by omega) (by rw [qty_lo hj]; have : (X j).tail = X j := by rw [e]; rfl
                                                                                rw [this]; exact hq') (Kept.refl _ _) (.inl rfl))⟩
  · rw [e] at hq
    refine (take_some hq (by rw [← e]; omega)).mono ?_
    rintro e' w' ⟨rfl, v', h1, h2, h3⟩
    refine ⟨by rw [e]; rfl, h.half hu hle (h.ps.turn (by omega) (by rw [qty_lo hj, e]; exact h1) h3 (.inl h2))⟩
theorem hrtake (h : Half w0 w P Q X Y kv ks n j xs m) (hn : n ≤ 1000) (hj : j < 2) (hx : xs = (X j).tail) (hm : m = Y j) :
    Calls Try.prog 23 #[qp (Q (j + 2))] w fun e w' => e = .returned (.tuple #[.int .u64 (hdv (X j)), .bool (nonE (X j))]) ∧ Next w0 w' P (n + 1) := by
  have hl := h.len j hj
  obtain ⟨v, hp, hq⟩ := h.rat hj
  have hu := h.up j hj
  rcases list_parts (X j) with e | ⟨x, ys, e⟩
  · have hq' := hq
    rw [e] at hq
    refine (rtake_none hq).mono ?_
    rintro e' w' ⟨rfl, rfl⟩
    have e2 : xs = X j := by rw [hx, e]; rfl
    exact ⟨by rw [e]; rfl, h.next hj (hp.turn (v' := v (j + 2)) (by omega) (by rw [qty_hi hj, e2, hm]; exact hq') (Kept.refl _ _) (.inl rfl))⟩
  · rw [e] at hq
    refine (rtake_some hq (by rw [← e]; omega)).mono ?_
    rintro e' w' ⟨rfl, v', h1, h2, h3⟩
    rw [e] at hu
    rw [without, hu.filter, List.erase_cons_head, show ys = xs by rw [hx, e]; rfl, ← hm] at h1
    exact ⟨by rw [e]; rfl, h.next hj (hp.turn (by omega) (by rw [qty_hi hj]; exact h1) (kept_wide h3) (.inr h2))⟩
theorem slen (h : St w0 w P Q v X Y kv ks n) (hj : j < 2) : Calls Try.prog 10 #[qp (Q j)] w fun e w' => e = .returned (.int .i64 (X j).length) ∧ w = w' := len_at (h.at' hj)
theorem splace (h : St w0 w P Q v X Y kv ks n) (hn : n ≤ 1000) (hj : j < 2) (t : Int) : Calls Try.prog 11 #[qp (Q j), .int .u64 t] w fun e w' => e = .returned (.int .i64 (place (X j) t)) ∧ Below w.heap.size w w' := place_any _ t (X j) w (h.stands hj) (by have := h.len j hj; omega)
theorem srplace (h : St w0 w P Q v X Y kv ks n) (hn : n ≤ 1000) (hj : j < 2) (t : Int) : Calls Try.prog 22 #[qp (Q (j + 2)), .int .u64 t] w fun e w' => e = .returned (.int .i64 (place (X j) t)) ∧ w = w' := rplace_any (h.rat hj) t (by have := h.len j hj; omega)
theorem slisted (h : St w0 w P Q v X Y kv ks n) (hn : n ≤ 1000) (hj : j < 2) (most : Int) : Calls Try.prog 9 #[qp (Q j), .int .i64 most] w fun e' w' => ∃ q c, e' = .returned (.tuple #[.slice q (firsts most (X j)).length c, .bool true]) ∧ UIn w' q (firsts most (X j)).length (firsts most (X j)) ∧ Below w.heap.size w w' := by
  refine (olisted _ most (X j) w (h.stands hj) (by have := h.len j hj; omega)).mono ?_
  rintro e w' ⟨q, c, rfl, hI, _, hb⟩
  exact ⟨q, c, rfl, hI, hb⟩

def sl2 (x : Int) : Nat := ((x.tmod 2 + 2) % 2).toNat
theorem sl2_is (x : Int) : (x.tmod 2 + 2) % 2 = ((sl2 x : Nat) : Int) := by unfold sl2; omega
theorem sl2_lt (x : Int) : sl2 x < 2 := by unfold sl2; omega
theorem tmod2 (x : Int) : -2 < x.tmod 2 ∧ x.tmod 2 < 2 := by
  by_cases h : 0 ≤ x
  · rw [Int.tmod_eq_emod_of_nonneg h]; omega
  · rw [show x = -(-x) by omega, Int.neg_tmod, Int.tmod_eq_emod_of_nonneg (show 0 ≤ -x by omega)]; omega
def sl5 (x : Int) : Nat := ((x.tmod 5 + 5) % 5).toNat
theorem sl5_is (x : Int) : (x.tmod 5 + 5) % 5 = ((sl5 x : Nat) : Int) := by unfold sl5; omega
theorem sl5_lt (x : Int) : sl5 x < 5 := by unfold sl5; omega
theorem tmod5 (x : Int) : -5 < x.tmod 5 ∧ x.tmod 5 < 5 := by
  by_cases h : 0 ≤ x
  · rw [Int.tmod_eq_emod_of_nonneg h]; omega
  · rw [show x = -(-x) by omega, Int.neg_tmod, Int.tmod_eq_emod_of_nonneg (show 0 ≤ -x by omega)]; omega
/-- a step's cells -/
abbrev ocells (kd wh t N : Int) : Array Value := #[.int .i64 kd, .int .i64 wh, .int .u64 t, .int .i64 N]
theorem ocell {B : Nat} {kd wh t N : Int} (h : w.heap[B]? = some (.cells (ocells kd wh t N) 51 (0, 0))) : w.cell? ⟨B, 0, none⟩ = some (.int .i64 kd) ∧ w.cell? ⟨B, 1, none⟩ = some (.int .i64 wh) ∧ w.cell? ⟨B, 2, none⟩ = some (.int .u64 t) ∧ w.cell? ⟨B, 3, none⟩ = some (.int .i64 N) := by
  refine ⟨?_, ?_, ?_, ?_⟩
  · rw [cell_of_row _ B 0 _ 51 (0, 0) h]; rfl
  · rw [cell_of_row _ B 1 _ 51 (0, 0) h]; rfl
  · rw [cell_of_row _ B 2 _ 51 (0, 0) h]; rfl
  · rw [cell_of_row _ B 3 _ 51 (0, 0) h]; rfl
end Go.Proofs.Ytmmmgknlbkckdaa
