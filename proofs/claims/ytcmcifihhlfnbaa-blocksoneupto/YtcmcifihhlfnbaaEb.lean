/-
  Layer 5: the program's Both.
-/
import Derived.Test.YtcmcifihhlfnbaaDb
namespace Go.Proofs.Ytcmcifihhlfnbaa
open Go.RowKit

def slen : Value → Nat
  | .slice _ n _ => n
  | _ => 0

theorem IIn.head {w : World} {p : Option Addr} {n : Nat} {x : Int} {xs : List Int} (h : IIn w p (n + 1) (x :: xs)) : ∃ b o, p = some ⟨b, o, none⟩ ∧ b < w.heap.size ∧ w.cell? ⟨b, o, none⟩ = some (.int .i64 x) ∧ IIn w (some ⟨b, o + 1, none⟩) n xs := by
  obtain ⟨b, o, rfl, hc⟩ := h.cells (by omega)
  refine ⟨b, o, rfl, h.lt (by omega), hc 0 (by omega), by simpa using h.len, fun _ => ⟨b, o + 1, rfl, fun i hi => ?_⟩⟩
  have := hc (i + 1) (by omega)
  rw [show o + (i + 1) = o + 1 + i by omega] at this
  exact this
/-- the rest of a list, as a slice of it lies -/
theorem IIn.rest {w : World} {b o n c : Nat} {xs : List Int} (h : IIn w (some ⟨b, o + 1, none⟩) n xs) (hc : n + 1 ≤ c) : IIn w (if c = 1 then some ⟨b, o, none⟩ else some ⟨b, o + 1, none⟩) n xs := by
  by_cases e : c = 1
  · obtain rfl : n = 0 := by omega
    exact ⟨h.len, fun h0 => absurd h0 (Nat.lt_irrefl 0)⟩
  · rw [if_neg e]; exact h
theorem IIn.shape {w : World} {p : Option Addr} {n : Nat} {xs : List Int} (h : IIn w p (n + 1) xs) : ∃ x s, xs = x :: s := by
  cases xs with
  | nil => have := h.len; simp at this
  | cons x s => exact ⟨x, s, rfl⟩

set_option maxRecDepth 100000 in
set_option maxHeartbeats 4000000 in
/-- Both -/
theorem both_is (p q : Option Addr) (n c m d : Nat) (xs ys : List Int) (w : World) (hn : n + 80 ≤ 17592186044416) (hm : m + 80 ≤ 17592186044416) (hx : IIn w p n xs) (hy : IIn w q m ys) :
    Calls Try.prog 13 #[.slice p n c, .slice q m d] w fun e' w' => ∃ r k, e' = .returned (.slice r (bothS xs ys).length k) ∧ Made w w' r (bothS xs ys).length k (bothS xs ys) := by
  obtain ⟨i0, hi, hz0, hz1, hz2⟩ := info_parts info3
  have hlA : (diffS xs).length + 80 ≤ 17592186044416 := by have := diffS_length xs; have := hx.len; omega
  have HMD : Hid (meet (diffS xs) (diffS ys) = bothS xs ys) := meet_diff xs ys
  go_enter Try.func13, Try.ntmps13
  go_wp2_with fail
  refine (different_is p n c xs w hn hx).mono ?_
  rintro e w1 ⟨pa, ca, rfl, hA⟩
  go_wp2_with fail
  refine (different_is q m d ys w1 hm (hy.later hA.below)).mono ?_
  rintro e w2 ⟨pb, cb, rfl, hB⟩
  have HA : Hid (IIn w2 pa (diffS xs).length (diffS xs)) := hA.read.later hB.below
  have HB : Hid (IIn w2 pb (diffS ys).length (diffS ys)) := hB.read
  have ra := hA.room.1
  have rb := hB.room.1
  have H02 : Hid (Below w.heap.size w w2) := below_then hA.below hB.below
  clear hA hB hx hy hn hm
  obtain ⟨A, hAe⟩ : ∃ A, diffS xs = A := ⟨_, rfl⟩
  obtain ⟨B, hBe⟩ : ∃ B, diffS ys = B := ⟨_, rfl⟩
  rw [hAe] at hlA ra HMD HA ⊢
  rw [hBe] at rb HMD HB ⊢
  clear hAe hBe
  go_wp2
  go_loopw [0, 1, 5] (fun va vb v wr => ∃ (pa pb : Option Addr) (na nb ca cb : Nat) (A' B' acc : List Int), va = .slice pa na ca ∧ vb = .slice pb nb cb ∧ na ≤ ca ∧ nb ≤ cb ∧ Hid (IIn w2 pa na A') ∧ Hid (IIn w2 pb nb B') ∧ Hid (acc ++ meet A' B' = bothS xs ys) ∧ acc.length + na ≤ A.length ∧ Hid (wr.ownsRow w2.heap.size 3 1 v acc.length (I64 acc)) ∧ Hid (Below w2.heap.size w2 wr))
    (fun va vb _ _ => slen va + slen vb)
  case atStart => exact ⟨pa, pb, _, _, ca, cb, A, B, [], rfl, rfl, ra, rb, HA, HB, HMD, by simp, World.ownsRow_nil _ _ _ _, Below.refl _ _⟩
  case round =>
    obtain ⟨pa, pb, na, nb, ca, cb, A', B', acc, rfl, rfl, ra, rb, HA, HB, HM, hacc, HO, HW⟩ := hrel
    by_cases hna : na = 0
    · subst hna
      obtain rfl : A' = [] := List.eq_nil_of_length_eq_zero HA.out.len
      have E : Hid (acc = bothS xs ys) := by have := HM.out; rw [meet_nil_left, List.append_nil] at this; exact this
      obtain ⟨r, k, rfl, hM⟩ := made_of (w := w) (own_mono HO.out H02.out.size) (H02.out.trans (HW.out.mono H02.out.size))
      have HR : Hid (Made w wr r acc.length k acc) := hM
      clear hM HA HB HM HO HW
      go_wp2
      go_ret
      exact ⟨r, k, by rw [← E.out]; rfl, by rw [← E.out]; exact HR.out⟩
    · by_cases hnb : nb = 0
      · subst hnb
        obtain rfl : B' = [] := List.eq_nil_of_length_eq_zero HB.out.len
        have E : Hid (acc = bothS xs ys) := by have := HM.out; rw [meet_nil_right, List.append_nil] at this; exact this
        obtain ⟨r, k, rfl, hM⟩ := made_of (w := w) (own_mono HO.out H02.out.size) (H02.out.trans (HW.out.mono H02.out.size))
        have HR : Hid (Made w wr r acc.length k acc) := hM
        have i1 : (0 : Int) < (na : Int) := by omega
        clear hM HA HB HM HO HW
        go_wp2
        go_ret
        exact ⟨r, k, by rw [← E.out]; rfl, by rw [← E.out]; exact HR.out⟩
      · obtain ⟨na, rfl⟩ : ∃ N, na = N + 1 := ⟨na - 1, by omega⟩
        obtain ⟨nb, rfl⟩ : ∃ N, nb = N + 1 := ⟨nb - 1, by omega⟩
        obtain ⟨x, s, rfl⟩ := HA.out.shape
        obtain ⟨y, t, rfl⟩ := HB.out.shape
        obtain ⟨ba, oa, rfl, la, cxa, hta⟩ := HA.out.head
        obtain ⟨bb, ob, rfl, lb, cxb, htb⟩ := HB.out.head
        have ca1 : wr.cell? ⟨ba, oa, none⟩ = some (.int .i64 x) := (HW.out.cell (p := ⟨ba, oa, none⟩) la).trans cxa
        have cb1 : wr.cell? ⟨bb, ob, none⟩ = some (.int .i64 y) := (HW.out.cell (p := ⟨bb, ob, none⟩) lb).trans cxb
        have HTA : Hid (IIn w2 (some ⟨ba, oa + 1, none⟩) na s) := hta
        have HTB : Hid (IIn w2 (some ⟨bb, ob + 1, none⟩) nb t) := htb
        have i1 : (0 : Int) < (na : Int) + 1 := by omega
        have i2 : (0 : Int) < (nb : Int) + 1 := by omega
        have i3 : (1 : Int) ≤ (na : Int) + 1 := by omega
        have i4 : (1 : Int) ≤ (nb : Int) + 1 := by omega
        have j1 : (na : Int) + 1 ≤ (ca : Int) := by omega
        have j2 : (nb : Int) + 1 ≤ (cb : Int) := by omega
        clear hta htb cxa cxb
        by_cases hlt : x < y
        · have HM2 : Hid (acc ++ meet s (y :: t) = bothS xs ys) := by have := HM.out; rw [meet_lt s t hlt] at this; exact this
          clear HM
          go_wp2
          go_quiet (fail)
          go_wp2
          go_roundw
          case rel => exact ⟨_, _, na, nb + 1, ca - 1, cb, s, y :: t, acc, rfl, rfl, by omega, rb, HTA.out.rest ra, HB, HM2, by omega, HO.out, HW.out.trans (below_drawn nq)⟩
          case measure => simp [slen]
        · by_cases hgt : y < x
          · have HM2 : Hid (acc ++ meet (x :: s) t = bothS xs ys) := by have := HM.out; rw [meet_gt s t hgt] at this; exact this
            clear HM
            go_wp2
            go_quiet (fail)
            go_wp2
            go_quiet (fail)
            go_wp2
            go_roundw
            case rel => exact ⟨_, _, na + 1, nb, ca, cb - 1, x :: s, t, acc, rfl, rfl, ra, by omega, HA, HTB.out.rest rb, HM2, hacc, HO.out, HW.out.trans (below_drawn _)⟩
            case measure => simp [slen]
          · obtain rfl : x = y := by omega
            have HM2 : Hid ((acc ++ [x]) ++ meet s t = bothS xs ys) := by have := HM.out; rw [meet_eq] at this; show _ = _; rw [← this]; simp
            obtain ⟨pv, cv, rfl, _⟩ := ints_in HO.out
            clear HM
            go_wp2
            go_quiet (fail)
            go_wp2
            go_quiet (fail)
            go_wp2_with (at_builtin; refine wpList_append_own _ rfl (.tmp 18) (.tmp 22) 23 rfl w2.heap.size 3 i0 (.int .i64 0) 1 8 Try.underlying23 hi hz0 hz1 hz2 rfl (by decide) _ acc.length (I64 acc) rfl (HO.out.alloc _) ⟨_, 0, none⟩ 1 1 [.int .i64 x] rfl rfl (cell_one_new _ _ _) (one_i64 _) (by unfold maxLen; omega) (by omega) (by have := HW.out.size; simp; omega) ?_)
            intro v' w3 hown hgrow _
            have HO3 : Hid (w3.ownsRow w2.heap.size 3 1 v' (acc ++ [x]).length (I64 (acc ++ [x]))) := by
              have e : I64 (acc ++ [x]) = I64 acc ++ [Value.int .i64 x] := by simp [I64]
              rw [e, List.length_append]
              exact hown
            have HW3 : Hid (Below w2.heap.size w2 w3) := by
              have hd : ∀ j, Below w2.heap.size w2 (wr.drewN j) := fun j => HW.out.trans (below_drawn j)
              exact ((hd _).alloc (hd _).size _).grown hgrow (by have := HW.out.size; simp; omega) (fun k hk => (HO.out.lt k hk).1)
            clear hown hgrow HO HW
            go_wp2
            go_quiet (fail)
            go_wp2
            go_roundw
            case rel => exact ⟨_, _, na, nb, ca - 1, cb - 1, s, t, acc ++ [x], rfl, rfl, by omega, by omega, HTA.out.rest ra, HTB.out.rest rb, HM2, by simp; omega, HO3.out, HW3.out.trans (below_drawn _)⟩
            case measure => simp [slen]; omega

end Go.Proofs.Ytcmcifihhlfnbaa
