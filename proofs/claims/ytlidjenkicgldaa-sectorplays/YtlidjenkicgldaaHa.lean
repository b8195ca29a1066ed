/-
  Contracts of the statements' own helpers: own, marked, held.
-/
import Derived.Test.YtlidjenkicgldaaMa
import Derived.Laws.AppendOwnNone
import Derived.Deep.RegionHeld3
namespace Go.Proofs.Ytlidjenkicgldaa
open Go.RowKit

set_option maxHeartbeats 1000000 in
theorem ownb_some (a : Addr) (n c : Nat) (xs : List Int) (w : World) (h : BIn w (some a) n xs) (hbig : n ≤ 140737488355328) :
    Calls Try.prog 20 #[.slice (some a) n c] w fun e w' => ∃ v', e = .returned v' ∧ w'.ownsRow w.heap.size 5 1 v' n (U8 xs) ∧ Below w.heap.size w w' := by
  obtain ⟨i0, hi, hz0, hz1, hz2⟩ := info_parts info5
  have HH : Hid (BIn w (some a) n xs) := h
  clear h
  have HN : Hid (∀ j u, (U8 xs)[j]? = some u → (w.alloc (.cells #[] 5)).cell? (a.add j) = some u) := (HH.out.later (below_alloc w _)).news
  go_enter Try.func20, Try.ntmps20
  go_wp2_with (at_builtin; refine wpList_append_own _ rfl _ _ 23 rfl w.heap.size 5 i0 (.int .u8 0) 1 1 Try.underlying23 hi hz0 hz1 hz2 rfl (by decide) _ _ _ rfl (World.ownsRow_made w #[] 0 (Nat.le_refl _) (Nat.zero_le _) rfl) a n c (U8 xs) rfl (by simp [U8, HH.out.len]) HN.out (ones_u8 xs) (by unfold maxLen; omega) (by omega) (by simp) ?_)
  intro v' w1 hown hgrow hnil
  go_wp2
  go_ret
  refine ⟨v', rfl, by simpa using hown, ?_⟩
  exact ((Below.refl _ w).alloc (Nat.le_refl _) _).grown hgrow (by simp) (by intro k hk; simp [Value.ownBlock] at hk; omega)

set_option maxHeartbeats 1000000 in
theorem ownb_none (w : World) :
    Calls Try.prog 20 #[.slice none 0 0] w fun e w' => ∃ v', e = .returned v' ∧ w'.ownsRow w.heap.size 5 1 v' 0 [] ∧ Below w.heap.size w w' := by
  obtain ⟨i0, hi, hz0, hz1, hz2⟩ := info_parts info5
  have HM : Hid ((w.alloc (.cells #[] 5)).ownsRow w.heap.size 5 1 (.slice (some ⟨w.heap.size, 0, none⟩) 0 0) 0 []) := World.ownsRow_made w #[] 0 (Nat.le_refl _) (Nat.zero_le _) rfl
  go_enter Try.func20, Try.ntmps20
  go_wp2_with (at_builtin; refine wpList_append_ownb_none rfl _ _ 23 rfl w.heap.size 5 i0 1 Try.underlying23 hi _ 0 [] rfl HM.out rfl ?_)
  go_ret
  exact ⟨_, rfl, HM.out, below_alloc _ _⟩

theorem ownb_any (p : Option Addr) (n c : Nat) (xs : List Int) (w : World) (h : BIn w p n xs) (hp : p = none → c = 0) (hnc : n ≤ c) (hbig : n ≤ 140737488355328) :
    Calls Try.prog 20 #[.slice p n c] w fun e w' => ∃ v', e = .returned v' ∧ w'.ownsRow w.heap.size 5 1 v' n (U8 xs) ∧ Below w.heap.size w w' := by
  cases p with
  | some a => exact ownb_some a n c xs w h hbig
  | none =>
    obtain rfl := hp rfl
    obtain rfl : n = 0 := by omega
    obtain rfl : xs = [] := List.eq_nil_of_length_eq_zero h.len
    exact ownb_none w

set_option maxHeartbeats 1000000 in
theorem marked_any (p : Option Addr) (n c : Nat) (xs : List Int) (w : World) (h : BIn w p n xs) (hp : p = none → c = 0) (hnc : n ≤ c) (hbig : n + 80 ≤ 140737488355328) :
    Calls Try.prog 21 #[.slice p n c] w fun e w' => ∃ g cap, e = .returned (.slice (some ⟨g, 0, none⟩) n cap) ∧ w'.ownsRow w.heap.size 5 1 (.slice (some ⟨g, 0, none⟩) (n + 2) cap) (n + 2) (U8 (xs ++ [90, 90])) ∧ n + 2 ≤ cap ∧ Below w.heap.size w w' := by
  obtain ⟨i0, hi, hz0, hz1, hz2⟩ := info_parts info5
  go_enter Try.func21, Try.ntmps21
  go_wp2_with fail
  refine (ownb_any p n c xs w h hp hnc (by omega)).mono ?_
  rintro e w1 ⟨v, rfl, hown, hb⟩
  have HO : Hid (w1.ownsRow w.heap.size 5 1 v n (U8 xs)) := hown
  have HB : Hid (Below w.heap.size w w1) := hb
  clear hown hb h
  have HN : Hid (∀ j u, (U8 [90, 90])[j]? = some u → (w1.alloc (.cells #[.int .u8 90, .int .u8 90] 5)).cell? ((⟨w1.heap.size, 0, none⟩ : Addr).add j) = some u) := (lit_in w1 [90, 90] 2 rfl (bytes_of (by decide))).news
  go_wp2_with (at_builtin; refine wpList_append_lies _ rfl (.tmp 5) (.tmp 6) 23 rfl w.heap.size 5 i0 (.int .u8 0) 1 1 Try.underlying23 hi hz0 hz1 hz2 rfl (by omega) v n (U8 xs) rfl (HO.out.alloc _) ⟨w1.heap.size, 0, none⟩ 2 2 (U8 [90, 90]) rfl rfl HN.out (ones_u8 _) (by omega) (by unfold maxLen; omega) (by omega) (by have := HB.out.size; simp; omega) _ rfl ?_)
  intro g cap w2 hown2 hgrow2 hat hlt
  have hcap : n + 2 ≤ cap := by
    rcases hown2.2 with ⟨h1, _⟩ | ⟨g', cap', cur, h1, _, _, h2, _⟩
    · cases h1
    · simp only [Value.slice.injEq] at h1
      omega
  have HO2 : Hid (w2.ownsRow w.heap.size 5 1 (.slice (some ⟨g, 0, none⟩) (n + 2) cap) (n + 2) (U8 (xs ++ [90, 90]))) := by
    have e : U8 (xs ++ [90, 90]) = U8 xs ++ U8 [90, 90] := by simp [U8]
    rw [e]
    exact hown2
  have HB2 : Hid (Below w.heap.size w w2) := (HB.out.alloc HB.out.size _).grown hgrow2 (by have := HB.out.size; simp; omega) (fun k hk => (HO.out.lt k hk).1)
  clear hown2 hgrow2 hat hlt HO HB
  have hc1 : (n : Int) ≤ (cap : Int) := by omega
  have hc0 : ¬ cap = 0 := by omega
  go_wp2
  go_ret
  exact ⟨g, cap, rfl, HO2.out, hcap, HB2.out⟩

/-- what Roomy has made is read -/
theorem marked_in {w : World} {B g n cap : Nat} {xs : List Int} (h : w.ownsRow B 5 1 (.slice (some ⟨g, 0, none⟩) (n + 2) cap) (n + 2) (U8 (xs ++ [90, 90]))) (hl : xs.length = n) (hx : Bytes xs) :
    BIn w (some ⟨g, 0, none⟩) n xs ∧ w.cell? ⟨g, n, none⟩ = some (.int .u8 90) ∧ w.cell? ⟨g, n + 1, none⟩ = some (.int .u8 90) := by
  have hc : ∀ i, i < n + 2 → w.cell? ⟨g, i, none⟩ = (U8 (xs ++ [90, 90]))[i]? := fun i hi => h.cellAt i (by omega)
  refine ⟨⟨hl, hx, fun h0 => ⟨g, 0, rfl, fun i hi => ?_⟩⟩, ?_, ?_⟩
  · rw [Nat.zero_add, hc i (by omega)]
    have hix : i < xs.length := by omega
    simp [U8, List.getD, List.getElem?_append_left, hix]
  · rw [hc n (by omega), ← hl]
    simp [U8]
  · rw [hc (n + 1) (by omega), ← hl]
    simp [U8]

set_option maxHeartbeats 2000000 in
theorem held_any (g n cap d : Nat) (q : Option Addr) (xs : List Int) (w : World) (hin : BIn w (some ⟨g, 0, none⟩) n xs) (h90 : w.cell? ⟨g, n, none⟩ = some (.int .u8 90)) (h165 : w.cell? ⟨g, n + 1, none⟩ = some (.int .u8 90))
    (hcap : n + 2 ≤ cap) (hbig : n + 80 ≤ 140737488355328) (hw : BIn w q n xs) :
    Calls Try.prog 23 #[.slice (some ⟨g, 0, none⟩) n cap, .slice q n d] w fun e w' => e = .returned (.bool true) ∧ ∃ nq, w' = w.drewN nq := by
  have hc1 : (n : Int) + 2 ≤ (cap : Int) := by omega
  have hc0 : ¬ cap = 0 := by omega
  have hc2 : (n : Int) ≤ (cap : Int) := by omega
  have hc3 : (0 : Int) ≤ (n : Int) := by omega
  have hc4 : (n : Int) < (n : Int) + 2 := by omega
  have hc5 : (n : Int) + 1 < (n : Int) + 2 := by omega
  have hc6 : (0 : Int) ≤ (n : Int) + 1 := by omega
  have hwr : IntKind.i64.wrap ((n : Int) + 1) = (n : Int) + 1 := by
    simp only [IntKind.wrap, IntKind.bits, IntKind.signed]
    simp
    omega
  have z1 := hin.drew.str cap
  have z2 := hw.drew.str d
  have c1 : w.drew.cell? ⟨g, n, none⟩ = some (.int .u8 90) := h90
  have c2 : w.drew.cell? ⟨g, n + 1, none⟩ = some (.int .u8 90) := h165
  clear hin hw h90 h165
  go_enter Try.func23, Try.ntmps23
  go_wp2
  go_region_held3 (fun w' => Sem.run Try.prog (convert 23 9 (Value.slice (some ⟨g, 0, none⟩) n cap)) w' = Result.ok (Value.string (strOfNums xs)) w' ∧ Sem.run Try.prog (convert 23 9 (Value.slice q n d)) w' = Result.ok (Value.string (strOfNums xs)) w' ∧ w'.cell? ⟨g, n, none⟩ = some (.int .u8 90) ∧ w'.cell? ⟨g, n + 1, none⟩ = some (.int .u8 90)) (exact ⟨z1, z2, c1, c2⟩) (fail)
  go_wp2
  go_ret
  exact ⟨rfl, 1, rfl⟩


/-- what marked has made, whole -/
theorem marked_row {w : World} {B g n cap : Nat} {xs : List Int} (h : w.ownsRow B 5 1 (.slice (some ⟨g, 0, none⟩) (n + 2) cap) (n + 2) (U8 (xs ++ [90, 90]))) : Blk w g 5 cap ∧ B ≤ g := by
  have := own_blk h
  rw [Nat.mul_one] at this
  exact ⟨this.1, this.2.2.2⟩
end Go.Proofs.Ytlidjenkicgldaa
