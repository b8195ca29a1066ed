/-
  Layer 13: the document's Form.
-/
import Derived.Test.YtnbegddpgmejnaaGreatOa
namespace Go.Proofs.YtnbegddpgmejnaaGreat
open Go.RowKit

namespace B
/-- the numbers below k that stand in a list -/
def picks (xs : List Int) (k : Nat) : List Int := ((List.range k).map Int.ofNat).filter fun x => hasS xs x
theorem picks_succ (xs : List Int) (k : Nat) : picks xs (k + 1) = picks xs k ++ (if hasS xs k = true then [(k : Int)] else []) := by
  unfold picks
  rw [List.range_succ, List.map_append, List.filter_append]
  congr 1
  by_cases h : hasS xs k = true
  · rw [if_pos h]
    simp [h]
  · rw [if_neg h]
    simp [h]
theorem mem_picks (xs : List Int) (k : Nat) (x : Int) : x ∈ picks xs k ↔ 0 ≤ x ∧ x < k ∧ x ∈ xs := by
  unfold picks
  rw [List.mem_filter, hasS_iff, List.mem_map]
  constructor
  · rintro ⟨⟨j, hj, rfl⟩, h⟩
    have := List.mem_range.1 hj
    exact ⟨Int.natCast_nonneg j, Int.ofNat_lt.2 this, h⟩
  · rintro ⟨h1, h2, h3⟩
    exact ⟨⟨x.toNat, List.mem_range.2 (by omega), Int.toNat_of_nonneg h1⟩, h3⟩
theorem up_picks (xs : List Int) : ∀ k, Up (picks xs k)
  | 0 => by simp [picks]
  | k + 1 => by
    rw [picks_succ]
    refine List.pairwise_append.2 ⟨up_picks xs k, ?_, fun x hx y hy => ?_⟩
    · split <;> simp
    · have := (mem_picks xs k x).1 hx
      split at hy
      · obtain rfl := List.mem_singleton.1 hy
        omega
      · cases hy
theorem picks_length (xs : List Int) : ∀ k, (picks xs k).length ≤ k
  | 0 => by simp [picks]
  | k + 1 => by
    have := picks_length xs k
    rw [picks_succ, List.length_append]
    split <;> simp <;> omega
theorem belS_false {xs : List Int} {b : Int} (h : ¬ ∀ x ∈ xs, 0 ≤ x ∧ x < b) : belS xs b = false := decide_eq_false h
theorem belS_true {xs : List Int} {b : Int} (h : ∀ x ∈ xs, 0 ≤ x ∧ x < b) : belS xs b = true := decide_eq_true h
theorem picks_diff {xs : List Int} {k : Nat} (h : belS xs k = true) : picks xs k = diffS xs := by
  have h' := of_decide_eq_true h
  exact diffS_eq (up_picks xs k) fun x => by
    rw [mem_picks]
    exact ⟨fun a => a.2.2, fun a => ⟨(h' x a).1, (h' x a).2, a⟩⟩


theorem info3' : (Tryz.prog.info? 3).map (fun i => (i.zero, i.size, i.bytes)) = some (some (.int .i64 0), 1, 8) := info3
set_option maxHeartbeats 2000000 in
set_option maxRecDepth 100000 in
theorem rform_may (p : Option Addr) (n c : Nat) (xs : List Int) (K M : Nat) (F : List Int) (E : Int) (hF : formS xs K M = (F, E)) (w : World) (hreach : n ≤ 1000) (hI : IIn w p n xs) (hmay : mayS K M = true) :
    Calls Tryz.prog 76 #[.slice p n c, .int .i64 K, .int .i64 M] w fun e' w' => ∃ q d, e' = .returned (.tuple #[.slice q F.length d, .int .i64 E]) ∧ Made w w' q F.length d F := by
  obtain ⟨i0, hi, hz0, hz1, hz2⟩ := info_parts info3
  have hlen := hI.len
  have h := of_decide_eq_true hmay
  have a1 : 1 ≤ K := by omega
  have a2 : K ≤ 64 := by omega
  have a3 : 1 ≤ M := by omega
  have a4 : M ≤ 16 := by omega
  have a5 : M ≤ K := by omega
  unfold formS at hF
  rw [if_neg (by rw [hmay]; decide)] at hF
  clear hmay h
  have HI : Hid (IIn w p n xs) := hI
  clear hI
  go_enter Tryz.func76, Tryz.ntmps76
  by_cases h0 : n = 0
  · subst h0
    obtain rfl : xs = [] := List.eq_nil_of_length_eq_zero hlen
    rw [if_pos rfl] at hF
    simp only [Prod.mk.injEq] at hF
    obtain ⟨rfl, rfl⟩ := hF
    go_wp2
    go_ret2
    exact ⟨none, 0, rfl, made_nil w (Below.refl _ _)⟩
  · have hne : xs ≠ [] := fun e => h0 (by rw [← hlen, e]; rfl)
    have hz : ((n : Int) == 0) = false := by simpa using h0
    rw [if_neg hne] at hF
    have HF : Hid ((if belS xs K = false then (([] : List Int), (51 : Int)) else if (M : Int) < ((diffS xs).length : Int) then ([], 52) else (diffS xs, 0)) = (F, E)) := hF
    have HL : Hid (xs.length = n) := hlen
    clear hF hne hlen
    go_wp2_with fail
    go_loop [8] (fun i => ∃ k : Nat, k ≤ n ∧ i = .int .i64 k ∧ Hid (∀ j, j < k → 0 ≤ xs.getD j 0 ∧ xs.getD j 0 < K)) (fun i => n - (intOf i).toNat)
    case atStart => exact ⟨0, Nat.zero_le _, rfl, fun j hj => absurd hj (Nat.not_lt_zero _)⟩
    case round =>
      obtain ⟨k, hk, rfl, HT⟩ := hrel
      by_cases hlt : k < n
      · obtain ⟨b', o, rfl, hcs⟩ := HI.out.cells (by omega)
        have hc := hcs k hlt
        have HN : Hid ((0 ≤ xs.getD k 0 ∧ xs.getD k 0 < (K : Int)) → ∀ j, j < k + 1 → 0 ≤ xs.getD j 0 ∧ xs.getD j 0 < K) := fun e => bel_step HT.out e
        have HY : Hid (¬ (0 ≤ xs.getD k 0 ∧ xs.getD k 0 < (K : Int)) → F = [] ∧ E = 51) := fun e => by
          have := HF.out
          rw [if_pos (belS_false (bel_not (by rw [HL.out]; exact hlt) e))] at this
          simp only [Prod.mk.injEq] at this
          exact ⟨this.1.symm, this.2.symm⟩
        clear hcs HT
        generalize xs.getD k 0 = x at *
        by_cases h1 : x < 0
        · obtain ⟨rfl, rfl⟩ := HY.out (by omega)
          clear HN HY
          go_wp2
          go_ret2
          exact ⟨none, 0, rfl, made_nil w (Below.refl _ _)⟩
        · by_cases h2 : x < (K : Int)
          · have E : Hid (∀ j, j < k + 1 → 0 ≤ xs.getD j 0 ∧ xs.getD j 0 < K) := HN.out (by omega)
            clear HN HY
            go_wp2
            go_round
            case rel => exact ⟨k + 1, by omega, by go_num, E⟩
            case measure => simp [intOf]; omega
          · obtain ⟨rfl, rfl⟩ := HY.out (by omega)
            clear HN HY
            go_wp2
            go_ret2
            exact ⟨none, 0, rfl, made_nil w (Below.refl _ _)⟩
      · obtain rfl : k = n := by omega
        have hbel : belS xs K = true := belS_true (bel_all fun j hj => HT.out j (by rw [← HL.out]; exact hj))
        have HP : Hid (picks xs K = diffS xs) := picks_diff hbel
        have HG : Hid ((if (M : Int) < ((picks xs K).length : Int) then (([] : List Int), (52 : Int)) else (picks xs K, 0)) = (F, E)) := by
          have := HF.out
          rw [if_neg (by rw [hbel]; decide)] at this
          show _ = _
          rw [HP.out]
          exact this
        clear HT HF hbel HP
        go_wp2_with fail
        go_loopw [9, 10] (fun v i wr => ∃ j : Nat, j ≤ K ∧ i = .int .i64 j ∧ wr.ownsRow w.heap.size 3 1 v (picks xs j).length (I64 (picks xs j)) ∧ Below w.heap.size w wr) (fun _ i _ => K - (intOf i).toNat)
        case atStart => exact ⟨0, Nat.zero_le _, rfl, World.ownsRow_nil _ _ _ _, Below.refl _ _⟩
        case round =>
          obtain ⟨j, hj, rfl, hO, hB⟩ := hrel
          obtain ⟨q, d, rfl, _⟩ := ints_in hO
          have HO : Hid (wr.ownsRow w.heap.size 3 1 (.slice q (picks xs j).length d) (picks xs j).length (I64 (picks xs j))) := hO
          have HB : Hid (Below w.heap.size w wr) := hB
          clear hO hB
          obtain ⟨wo, hwo⟩ : ∃ wo, wo = wr := ⟨_, rfl⟩
          subst hwo
          by_cases hjk : j < K
          · have i1 : (j : Int) < (K : Int) := by omega
            have hpl := picks_length xs j
            have HS : Hid (picks xs (j + 1) = picks xs j ++ (if hasS xs j = true then [(j : Int)] else [])) := picks_succ xs j
            have HI2 : Hid (IIn wo p k xs) := HI.out.later HB.out
            go_wp2_with fail
            go_loopw [9, 11] (fun v i wr => ∃ x : Nat, x ≤ k ∧ v = .slice q (picks xs j).length d ∧ i = .int .i64 x ∧ wr = wo ∧ Hid (∀ y, y < x → xs.getD y 0 ≠ (j : Int))) (fun _ i _ => k - (intOf i).toNat)
            case atStart => exact ⟨0, Nat.zero_le _, rfl, rfl, rfl, fun y hy => absurd hy (Nat.not_lt_zero _)⟩
            case round =>
              obtain ⟨x, hx, rfl, rfl, rfl, HX⟩ := hrel
              by_cases hxk : x < k
              · obtain ⟨b', o, rfl, hcs⟩ := HI2.out.cells (by omega)
                have hc := hcs x hxk
                have i2 : (x : Int) < (k : Int) := by omega
                have HN : Hid (¬ xs.getD x 0 = (j : Int) → ∀ y, y < x + 1 → xs.getD y 0 ≠ (j : Int)) := fun e => not_snoc HX.out rfl e
                have HY : Hid (xs.getD x 0 = (j : Int) → hasS xs j = true) := fun e => has_at (by rw [HL.out]; exact hxk) e
                clear hcs HX
                generalize xs.getD x 0 = z at *
                cases hzz : (z == (j : Int))
                · have hzn : ¬ z = (j : Int) := by simpa using hzz
                  have E : Hid (∀ y, y < x + 1 → xs.getD y 0 ≠ (j : Int)) := HN.out hzn
                  clear HN HY
                  go_wp2_with fail
                  go_roundw
                  case rel => exact ⟨x + 1, by omega, by trivial, by go_num, by trivial, E⟩
                  case measure => simp [intOf]; omega
                · have hh : hasS xs j = true := HY.out (by simpa using hzz)
                  rw [hh] at HS
                  clear HN HY hh
                  go_wp2_with (at_builtin; refine wpList_append_own _ rfl (.tmp 51) (.tmp 53) 43 rfl w.heap.size 3 i0 (.int .i64 0) 1 8 Tryz.underlying43 hi hz0 hz1 hz2 rfl (by decide) _ (picks xs j).length (I64 (picks xs j)) rfl (HO.out.alloc _) ⟨_, 0, none⟩ 1 1 [.int .i64 (j : Int)] rfl rfl (cell_one_new _ _ _) (one_i64 _) (by unfold maxLen; omega) (by omega) (by have := HB.out.size; simp; omega) ?_)
                  intro v' w3 hown hgrow _
                  have HO3 : Hid (w3.ownsRow w.heap.size 3 1 v' (picks xs (j + 1)).length (I64 (picks xs (j + 1)))) := by
                    have e : I64 (picks xs (j + 1)) = I64 (picks xs j) ++ [Value.int .i64 (j : Int)] := by rw [HS.out]; simp [I64]
                    show w3.ownsRow _ _ _ _ _ _
                    rw [e, HS.out]
                    simpa using hown
                  have HW3 : Hid (Below w.heap.size w w3) := (HB.out.alloc HB.out.size _).grown hgrow (by have := HB.out.size; simp; omega) (fun k hk => (HO.out.lt k hk).1)
                  clear hown hgrow HO HB
                  go_wp2_with fail
                  go_roundw
                  case rel => exact ⟨j + 1, by omega, by go_num, HO3.out, HW3.out⟩
                  case measure => simp [intOf]; omega
              · obtain rfl : x = k := by omega
                have hh : hasS xs j = false := has_none fun y hy => HX.out y (by rw [← HL.out]; exact hy)
                rw [hh] at HS
                have HO3 : Hid (wr.ownsRow w.heap.size 3 1 (.slice q (picks xs j).length d) (picks xs (j + 1)).length (I64 (picks xs (j + 1)))) := by
                  have e : picks xs (j + 1) = picks xs j := by rw [HS.out]; simp
                  rw [e]
                  exact HO.out
                go_wp2_with fail
                go_roundw
                case rel => exact ⟨j + 1, by omega, by go_num, HO3.out, HB.out⟩
                case measure => simp [intOf]; omega
          · obtain rfl : j = K := by omega
            by_cases h3 : (M : Int) < ((picks xs j).length : Int)
            · have := HG.out
              rw [if_pos h3] at this
              simp only [Prod.mk.injEq] at this
              obtain ⟨rfl, rfl⟩ := this
              go_wp2
              go_ret2
              exact ⟨none, 0, rfl, made_nil w HB.out⟩
            · have := HG.out
              rw [if_neg h3] at this
              simp only [Prod.mk.injEq] at this
              obtain ⟨rfl, rfl⟩ := this
              go_wp2
              go_ret2
              exact ⟨q, d, rfl, HO.out, HB.out⟩
/-- the document's Form -/
theorem rform_is (p : Option Addr) (n c : Nat) (xs : List Int) (b m : Int) (w : World) (hreach : n ≤ 1000) (hI : IIn w p n xs) (h : mayS b m = true) :
    Calls Tryz.prog 76 #[.slice p n c, .int .i64 b, .int .i64 m] w fun e' w' => ∃ q d, e' = .returned (.tuple #[.slice q (formS xs b m).1.length d, .int .i64 (formS xs b m).2]) ∧ Made w w' q (formS xs b m).1.length d (formS xs b m).1 := by
  have a := of_decide_eq_true h
  obtain ⟨K, rfl⟩ := Int.eq_ofNat_of_zero_le (show 0 ≤ b by omega)
  obtain ⟨M, rfl⟩ := Int.eq_ofNat_of_zero_le (show 0 ≤ m by omega)
  exact rform_may p n c xs K M _ _ rfl w hreach hI h
theorem rform_f (p : Option Addr) (n c : Nat) (xs f : List Int) (E b m : Int) (hf : formS xs b m = (f, E)) (w : World) (hreach : n ≤ 1000) (hI : IIn w p n xs) (h : mayS b m = true) :
    Calls Tryz.prog 76 #[.slice p n c, .int .i64 b, .int .i64 m] w fun e' w' => ∃ q d, e' = .returned (.tuple #[.slice q f.length d, .int .i64 E]) ∧ Made w w' q f.length d f := by
  have := rform_is p n c xs b m w hreach hI h
  rw [hf] at this
  exact this
end B
end Go.Proofs.YtnbegddpgmejnaaGreat
