/-
  Ring: plain mathematics: slots, owners and spans over Int. Imports nothing.
-/
namespace Go.Proofs.YtefnkjajjidfaaaGreatDoor.G

/-- A capacity that may be. -/
abbrev Cap (n : Int) : Prop := 2 ≤ n ∧ n ≤ 64


def slotS (p n : Int) : Int × Int := if Cap n then (if p > 4611686018427387968 then (0, 31) else (p % n, 0)) else (0, 2)
def usedS (t e n : Int) : Int × Int := if Cap n then (if t > 4611686018427387904 then (0, 31) else if e < t ∨ n < e - t then (0, 30) else (e - t, 0)) else (0, 2)
def nextS (e n : Int) : Int × Int := if Cap n then (if e > 4611686018427387904 - n then (0, 31) else (e + n, 0)) else (0, 2)
/-- The one position from t on, below t + n, that has the slot s. -/
def own (s t n : Int) : Int := t + (s - t) % n
def ownerS (s t n : Int) : Int × Int := if Cap n ∧ 0 ≤ s ∧ s < n then (if t > 4611686018427387904 then (0, 31) else (own s t n, 0)) else (0, 2)

theorem own_ge (s t n : Int) (hn : 0 < n) : t ≤ own s t n := by
  have := Int.emod_nonneg (s - t) (Int.ne_of_gt hn); unfold own; omega
theorem own_lt (s t n : Int) (hn : 0 < n) : own s t n < t + n := by
  have := Int.emod_lt_of_pos (s - t) hn; unfold own; omega
theorem own_slot (s t n : Int) (_hn : 0 < n) (h0 : 0 ≤ s) (h1 : s < n) : own s t n % n = s := by
  unfold own
  rw [Int.add_emod_emod, show t + (s - t) = s by omega]
  exact Int.emod_eq_of_lt h0 h1
/-- Two positions of one lap with one slot are one. -/
theorem lap_inj (n p q : Int) (hn : 0 < n) (h : p % n = q % n) (h1 : p < q + n) (h2 : q < p + n) : p = q := by
  have hd : (p - q) % n = 0 := by rw [Int.sub_emod, h]; simp
  have h3 := Int.emod_add_mul_ediv (p - q) n
  rw [hd] at h3
  have h4 : (p - q) / n = 0 := by
    rcases Int.lt_trichotomy ((p - q) / n) 0 with h | h | h
    · exfalso
      have : n * ((p - q) / n) ≤ n * (-1) := Int.mul_le_mul_of_nonneg_left (by omega) (by omega)
      omega
    · exact h
    · exfalso
      have : n * 1 ≤ n * ((p - q) / n) := Int.mul_le_mul_of_nonneg_left (by omega) (by omega)
      omega
  rw [h4] at h3
  omega
theorem own_unique (s t n p : Int) (hn : 0 < n) (h0 : 0 ≤ s) (h1 : s < n) (hp : p % n = s) (h2 : t ≤ p) (h3 : p < t + n) : own s t n = p :=
  lap_inj n _ _ hn (by rw [own_slot s t n hn h0 h1, hp]) (by have := own_lt s t n hn; omega) (by have := own_ge s t n hn; omega)
theorem own_of_slot (t n p : Int) (hn : 0 < n) (h2 : t ≤ p) (h3 : p < t + n) : own (p % n) t n = p :=
  own_unique _ _ _ _ hn (Int.emod_nonneg _ (by omega)) (Int.emod_lt_of_pos _ hn) rfl h2 h3

/-- The numbers of 64 bits. -/
abbrev U64 := { x : Int // 0 ≤ x ∧ x < 18446744073709551616 }

/-- How many positions a span has. -/
def spanN (t e : Int) : Nat := min 64 (e - t).toNat
/-- The positions of a span. -/
def spanI (t e : Int) : List Int := (List.range (spanN t e)).map fun (i : Nat) => t + (i : Int)

theorem spanI_length (t e : Int) : (spanI t e).length = spanN t e := by simp [spanI]
theorem spanI_get (t e : Int) (i : Nat) (h : i < spanN t e) : (spanI t e)[i]? = some (t + (i : Int)) := by
  simp [spanI, h]
theorem spanI_mem (t e x : Int) (h : x ∈ spanI t e) : t ≤ x ∧ x < e ∧ x < t + 64 := by
  simp only [spanI, List.mem_map, List.mem_range] at h
  obtain ⟨i, hi, rfl⟩ := h
  unfold spanN at hi
  omega
theorem spanN_le (t e : Int) : spanN t e ≤ 64 := by unfold spanN; omega
theorem mem_spanI (t e x : Int) (h1 : t ≤ x) (h2 : x < e) (h3 : x < t + 64) : x ∈ spanI t e := by
  simp only [spanI, List.mem_map, List.mem_range]
  exact ⟨(x - t).toNat, by unfold spanN; omega, by omega⟩

/-- The first so many positions. -/
def upto (t : Int) (k : Nat) : List Int := (List.range k).map fun (i : Nat) => t + (i : Int)
theorem upto_succ (t : Int) (k : Nat) : upto t (k + 1) = upto t k ++ [t + (k : Int)] := by simp [upto, List.range_succ]
theorem upto_length (t : Int) (k : Nat) : (upto t k).length = k := by simp [upto]
theorem upto_span (t e : Int) : upto t (spanN t e) = spanI t e := rfl
theorem upto_prefix (t e : Int) (k : Nat) (h : k ≤ spanN t e) : upto t k <+: spanI t e := by
  unfold upto spanI
  obtain ⟨m, hm⟩ := Nat.exists_eq_add_of_le h
  rw [hm, List.range_add, List.map_append]
  exact List.prefix_append _ _

/-- A walk over a lap that stops at the first position with a slot stops at the owner. -/
theorem prefix_owner (s t n : Int) (hn : Cap n) (h0 : 0 ≤ s) (h1 : s < n) (pre : List Int) (x : Int) (hp : (pre ++ [x]) <+: spanI t (t + n)) (hx : x % n = s) : x = own s t n := by
  have hm : x ∈ spanI t (t + n) := hp.subset (by simp)
  have := spanI_mem _ _ _ hm
  exact (own_unique s t n x (by have := hn.1; omega) h0 h1 hx this.1 this.2.1).symm
theorem owner_in (s t n : Int) (hn : Cap n) : own s t n ∈ spanI t (t + n) := by
  have h1 := own_ge s t n (by have := hn.1; omega)
  have h2 := own_lt s t n (by have := hn.1; omega)
  have := hn.2
  exact mem_spanI _ _ _ h1 h2 (by omega)

end Go.Proofs.YtefnkjajjidfaaaGreatDoor.G
