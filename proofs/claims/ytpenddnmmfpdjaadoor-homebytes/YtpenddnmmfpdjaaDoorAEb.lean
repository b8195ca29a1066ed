/-
  Contracts of the statements' own helpers: Own, Roomy, Held, Turn.
-/
import Derived.Test.YtpenddnmmfpdjaaDoorAFa
import Derived.Laws.AppendOwnNone
import Derived.Deep.RegionHeld3
namespace Go.Proofs.YtpenddnmmfpdjaaDoor
open Go.RowKit
set_option maxHeartbeats 1000000 in
set_option maxRecDepth 100000 in
theorem own_some (a : Addr) (n c : Nat) (xs : List Int) (w : World) (h : BIn w (some a) n xs) (hbig : n ≤ 140737488355328) :
    Calls Tryd.prog 12 #[.slice (some a) n c] w fun e w' => ∃ v', e = .returned v' ∧ w'.ownsRow w.heap.size 5 1 v' n (U8 xs) ∧ Below w.heap.size w w' := by
  obtain ⟨i0, hi, hz0, hz1, hz2⟩ := info_parts info5
  have HH : Hid (BIn w (some a) n xs) := h
  clear h
  have HN : Hid (∀ j u, (U8 xs)[j]? = some u → (w.alloc (.cells #[] 5)).cell? (a.add j) = some u) := (HH.out.later (below_alloc w _)).news
  go_enter Tryd.func12, Tryd.ntmps12
  go_wp2_with (at_builtin; refine wpList_append_own _ rfl _ _ 24 rfl w.heap.size 5 i0 (.int .u8 0) 1 1 Tryd.underlying24 hi hz0 hz1 hz2 rfl (by decide) _ _ _ rfl (World.ownsRow_made w #[] 0 (Nat.le_refl _) (Nat.zero_le _) rfl) a n c (U8 xs) rfl (by simp [U8, HH.out.len]) HN.out (ones_u8 xs) (by unfold maxLen; omega) (by omega) (by simp) ?_)
  intro v' w1 hown hgrow hnil
  go_wp2
  go_ret
  refine ⟨v', rfl, by simpa using hown, ?_⟩
  exact ((Below.refl _ w).alloc (Nat.le_refl _) _).grown hgrow (by simp) (by intro k hk; simp [Value.ownBlock] at hk; omega)
set_option maxHeartbeats 1000000 in
set_option maxRecDepth 100000 in
theorem own_none (w : World) :
    Calls Tryd.prog 12 #[.slice none 0 0] w fun e w' => ∃ v', e = .returned v' ∧ w'.ownsRow w.heap.size 5 1 v' 0 [] ∧ Below w.heap.size w w' := by
  obtain ⟨i0, hi, hz0, hz1, hz2⟩ := info_parts info5
  have HM : Hid ((w.alloc (.cells #[] 5)).ownsRow w.heap.size 5 1 (.slice (some ⟨w.heap.size, 0, none⟩) 0 0) 0 []) := World.ownsRow_made w #[] 0 (Nat.le_refl _) (Nat.zero_le _) rfl
  go_enter Tryd.func12, Tryd.ntmps12
  go_wp2_with (at_builtin; refine wpList_append_own_none rfl _ _ 24 rfl w.heap.size 5 i0 1 Tryd.underlying24 hi _ 0 [] rfl HM.out rfl ?_)
  go_ret
  exact ⟨_, rfl, HM.out, below_alloc _ _⟩
theorem own_any (p : Option Addr) (n c : Nat) (xs : List Int) (w : World) (h : BIn w p n xs) (hp : p = none → c = 0) (hnc : n ≤ c) (hbig : n ≤ 140737488355328) :
    Calls Tryd.prog 12 #[.slice p n c] w fun e w' => ∃ v', e = .returned v' ∧ w'.ownsRow w.heap.size 5 1 v' n (U8 xs) ∧ Below w.heap.size w w' := by
  cases p with
  | some a => exact own_some a n c xs w h hbig
  | none =>
    obtain rfl := hp rfl
    obtain rfl : n = 0 := by omega
    obtain rfl : xs = [] := List.eq_nil_of_length_eq_zero h.len
    exact own_none w
set_option maxHeartbeats 1000000 in
set_option maxRecDepth 100000 in
theorem roomy_any (p : Option Addr) (n c : Nat) (xs : List Int) (w : World) (h : BIn w p n xs) (hp : p = none → c = 0) (hnc : n ≤ c) (hbig : n + 80 ≤ 140737488355328) :
    Calls Tryd.prog 24 #[.slice p n c] w fun e w' => ∃ g cap, e = .returned (.slice (some ⟨g, 0, none⟩) n cap) ∧ w'.ownsRow w.heap.size 5 1 (.slice (some ⟨g, 0, none⟩) (n + 2) cap) (n + 2) (U8 (xs ++ [90, 165])) ∧ n + 2 ≤ cap ∧ Below w.heap.size w w' := by
  obtain ⟨i0, hi, hz0, hz1, hz2⟩ := info_parts info5
  go_enter Tryd.func24, Tryd.ntmps24
  go_wp2_with fail
  refine (own_any p n c xs w h hp hnc (by omega)).mono ?_
  rintro e w1 ⟨v, rfl, hown, hb⟩
  have HO : Hid (w1.ownsRow w.heap.size 5 1 v n (U8 xs)) := hown
  have HB : Hid (Below w.heap.size w w1) := hb
  clear hown hb h
  have HN : Hid (∀ j u, (U8 [90, 165])[j]? = some u → (w1.alloc (.cells #[.int .u8 90, .int .u8 165] 5)).cell? ((⟨w1.heap.size, 0, none⟩ : Addr).add j) = some u) := (lit_in w1 [90, 165] 2 rfl (bytes_of (by decide))).news
  go_wp2_with (at_builtin; refine wpList_append_lies _ rfl (.tmp 4) (.tmp 5) 24 rfl w.heap.size 5 i0 (.int .u8 0) 1 1 Tryd.underlying24 hi hz0 hz1 hz2 rfl (by omega) v n (U8 xs) rfl (HO.out.alloc _) ⟨w1.heap.size, 0, none⟩ 2 2 (U8 [90, 165]) rfl rfl HN.out (ones_u8 _) (by omega) (by unfold maxLen; omega) (by omega) (by have := HB.out.size; simp; omega) _ rfl ?_)
  intro g cap w2 hown2 hgrow2 hat hlt
  have hcap : n + 2 ≤ cap := by
    rcases hown2.2 with ⟨h1, _⟩ | ⟨g', cap', cur, h1, _, _, h2, _⟩
    · cases h1
    · simp only [Value.slice.injEq] at h1
      omega
  have HO2 : Hid (w2.ownsRow w.heap.size 5 1 (.slice (some ⟨g, 0, none⟩) (n + 2) cap) (n + 2) (U8 (xs ++ [90, 165]))) := by
    have e : U8 (xs ++ [90, 165]) = U8 xs ++ U8 [90, 165] := by simp [U8]
    rw [e]
    exact hown2
  have HB2 : Hid (Below w.heap.size w w2) := (HB.out.alloc HB.out.size _).grown hgrow2 (by have := HB.out.size; simp; omega) (fun k hk => (HO.out.lt k hk).1)
  clear hown2 hgrow2 hat hlt HO HB
  have hc1 : (n : Int) ≤ (cap : Int) := by omega
  have hc0 : ¬ cap = 0 := by omega
  go_wp2
  go_ret
  exact ⟨g, cap, rfl, HO2.out, hcap, HB2.out⟩
/-- what Roomy has made is read -/
theorem roomy_in {w : World} {B g n cap : Nat} {xs : List Int} (h : w.ownsRow B 5 1 (.slice (some ⟨g, 0, none⟩) (n + 2) cap) (n + 2) (U8 (xs ++ [90, 165]))) (hl : xs.length = n) (hx : Bytes xs) :
    BIn w (some ⟨g, 0, none⟩) n xs ∧ w.cell? ⟨g, n, none⟩ = some (.int .u8 90) ∧ w.cell? ⟨g, n + 1, none⟩ = some (.int .u8 165) := by
  have hc : ∀ i, i < n + 2 → w.cell? ⟨g, i, none⟩ = (U8 (xs ++ [90, 165]))[i]? := fun i hi => h.cellAt i (by omega)
  refine ⟨⟨hl, hx, fun h0 => ⟨g, 0, rfl, fun i hi => ?_⟩⟩, ?_, ?_⟩
  · rw [Nat.zero_add, hc i (by omega)]
    have hix : i < xs.length := by omega
    simp [U8, List.getD, List.getElem?_append_left, hix]
  · rw [hc n (by omega), ← hl]
    simp [U8]
  · rw [hc (n + 1) (by omega), ← hl]
    simp [U8]
set_option maxHeartbeats 2000000 in
set_option maxRecDepth 100000 in
theorem held_any (g n cap d : Nat) (q : Option Addr) (xs : List Int) (w : World) (hin : BIn w (some ⟨g, 0, none⟩) n xs) (h90 : w.cell? ⟨g, n, none⟩ = some (.int .u8 90)) (h165 : w.cell? ⟨g, n + 1, none⟩ = some (.int .u8 165))
    (hcap : n + 2 ≤ cap) (hbig : n + 80 ≤ 140737488355328) (hw : BIn w q n xs) :
    Calls Tryd.prog 25 #[.slice (some ⟨g, 0, none⟩) n cap, .slice q n d] w fun e w' => e = .returned (.bool true) ∧ ∃ nq, w' = w.drewN nq := by
  have hc1 : (n : Int) + 2 ≤ (cap : Int) := by omega
  have hc0 : ¬ cap = 0 := by omega
  have hc2 : (n : Int) ≤ (cap : Int) := by omega
  have hc3 : (0 : Int) ≤ (n : Int) := by omega
  have hc4 : (n : Int) < (n : Int) + 2 := by omega
  have hc5 : (n : Int) + 1 < (n : Int) + 2 := by omega
  have hc6 : (0 : Int) ≤ (n : Int) + 1 := by omega
  have hwr : IntKind.i64.wrap ((n : Int) + 1) = (n : Int) + 1 := by
    simp only [IntKind.wrap, IntKind.bits, IntKind.signed]
    simp
    omega
  have z1 := hin.drew.str cap
  have z2 := hw.drew.str d
  have c1 : w.drew.cell? ⟨g, n, none⟩ = some (.int .u8 90) := h90
  have c2 : w.drew.cell? ⟨g, n + 1, none⟩ = some (.int .u8 165) := h165
  clear hin hw h90 h165
  go_enter Tryd.func25, Tryd.ntmps25
  go_wp2
  go_region_held3 (fun w' => Sem.run Tryd.prog (convert 24 9 (Value.slice (some ⟨g, 0, none⟩) n cap)) w' = Result.ok (Value.string (strOfNums xs)) w' ∧ Sem.run Tryd.prog (convert 24 9 (Value.slice q n d)) w' = Result.ok (Value.string (strOfNums xs)) w' ∧ w'.cell? ⟨g, n, none⟩ = some (.int .u8 90) ∧ w'.cell? ⟨g, n + 1, none⟩ = some (.int .u8 165)) (exact ⟨z1, z2, c1, c2⟩) (fail)
  go_wp2
  go_ret
  exact ⟨rfl, 1, rfl⟩
/-- a byte with its lowest bit turned -/
def flip (x : Int) : Int := bits .xor .u8 x 1
/-- the first n of them turned -/
def turnA (n : Nat) (X : List Int) : List Int := (X.take n).map flip ++ X.drop n
theorem flip_byte (x : Int) (h : 0 ≤ x ∧ x < 256) : 0 ≤ flip x ∧ flip x < 256 := by
  unfold flip
  rw [u8_xor x 1 h.1 h.2 (by omega) (by omega)]
  have h1 : x.toNat < 2 ^ 8 := by omega
  have := Nat.xor_lt_two_pow h1 (show (1 : Int).toNat < 2 ^ 8 by decide)
  omega
theorem turnA_length (n : Nat) (X : List Int) : (turnA n X).length = X.length := by
  simp [turnA]
  omega
theorem turnA_zero (X : List Int) : turnA 0 X = X := by simp [turnA]
theorem turnA_step (X : List Int) (k : Nat) (hk : k < X.length) : (turnA k X).set k (flip X[k]) = turnA (k + 1) X := by
  unfold turnA
  rw [List.set_append_right _ _ (by simp; omega), List.take_succ_eq_append_getElem hk]
  have e : k - ((X.take k).map flip).length = 0 := by simp; omega
  rw [e, List.drop_eq_getElem_cons hk, List.set_cons_zero, List.map_append, List.map_cons, List.map_nil, List.append_assoc]
  rfl
theorem turnA_get (X : List Int) (k j : Nat) (hj : j < X.length) (hjk : k ≤ j) (h : j < (turnA k X).length) : (turnA k X)[j] = X[j] := by
  simp only [turnA]
  rw [List.getElem_append_right (by simp; omega), List.getElem_drop]
  congr 1
  simp
  omega
set_option maxHeartbeats 1000000 in
set_option maxRecDepth 100000 in
theorem turn_any (B g n N cap : Nat) (X : List Int) (w : World) (hown : w.ownsRow B 5 1 (.slice (some ⟨g, 0, none⟩) N cap) N (U8 X)) (hn : n ≤ N) (hbig : N ≤ 140737488355328) :
    Calls Tryd.prog 26 #[.slice (some ⟨g, 0, none⟩) n cap] w fun e w' => e = .returned (.tuple #[]) ∧ w'.ownsRow B 5 1 (.slice (some ⟨g, 0, none⟩) N cap) N (U8 (turnA n X)) ∧ w.grownBy w' (some g) := by
  have HL : Hid (X.length = N) := by show _ = _; have := own_lenA hown; simpa [U8] using this
  have H0 : Hid (w.ownsRow B 5 1 (.slice (some ⟨g, 0, none⟩) N cap) N (U8 X)) := hown
  clear hown
  go_enter Tryd.func26, Tryd.ntmps26
  go_wp2
  go_loopw [2] (fun i wr => ∃ k : Nat, k ≤ n ∧ i = .int .i64 k ∧ wr.ownsRow B 5 1 (.slice (some ⟨g, 0, none⟩) N cap) N (U8 (turnA k X)) ∧ w.grownBy wr (some g)) (fun i _ => n - (intOf i).toNat)
  case atStart => exact ⟨0, Nat.zero_le _, rfl, by rw [turnA_zero]; exact H0.out, World.grownBy.refl _ _⟩
  case round =>
    obtain ⟨k, hk, rfl, ho, hg⟩ := hrel
    by_cases hlt : k < n
    · have hkX : k < X.length := by rw [HL.out]; omega
      have hkT : k < (turnA k X).length := by rw [turnA_length]; exact hkX
      have hcell := ho.cellAt k (by omega)
      have hc : wr.cell? ⟨g, k, none⟩ = some (.int .u8 X[k]) := by
        rw [hcell]
        simp only [U8, List.getElem?_map, List.getElem?_eq_getElem hkT, Option.map_some, turnA_get X k k hkX (Nat.le_refl _) hkT]
      have hfz := ho.frozenAt k
      have hst := ho.stored k (.int .u8 (flip X[k]))
      have hset : (U8 (turnA k X)).set k (.int .u8 (flip X[k])) = U8 (turnA (k + 1) X) := by
        rw [← turnA_step X k hkX]
        simp [U8, List.map_set]
      rw [hset] at hst
      have HS1 : Hid ((wr.setCell ⟨g, k, none⟩ (.int .u8 (flip X[k]))).ownsRow B 5 1 (.slice (some ⟨g, 0, none⟩) N cap) N (U8 (turnA (k + 1) X))) := hst.1
      have HS2 : Hid (w.grownBy (wr.setCell ⟨g, k, none⟩ (.int .u8 (flip X[k]))) (some g)) := by
        have h2 := hst.2
        exact ⟨h2.os.trans hg.os, h2.tape.trans hg.tape, h2.output.trans hg.output, Nat.le_trans hg.size h2.size, fun q hq hne => (h2.block q (Nat.lt_of_lt_of_le hq hg.size) hne).trans (hg.block q hq hne)⟩
      have HFl : Hid (bits .xor .u8 X[k] 1 = flip X[k]) := rfl
      clear hst hset hcell ho hg hkT
      generalize X[k] = x at *
      go_wp2
      go_roundw
      case rel => exact ⟨k + 1, by omega, by go_num, HS1.out, HS2.out⟩
      case measure => simp [intOf]; omega
    · obtain rfl : n = k := by omega
      have HO : Hid (wr.ownsRow B 5 1 (.slice (some ⟨g, 0, none⟩) N cap) N (U8 (turnA n X))) := ho
      have HG : Hid (w.grownBy wr (some g)) := hg
      clear ho hg
      go_wp2
      go_end0
      exact ⟨rfl, HO.out, HG.out⟩
end Go.Proofs.YtpenddnmmfpdjaaDoor
