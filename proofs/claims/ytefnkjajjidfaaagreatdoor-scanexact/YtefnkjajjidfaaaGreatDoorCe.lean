/-
  Contracts of layer 1, fifth part: octet.Join.
-/
import Derived.Test.YtefnkjajjidfaaaGreatDoorCd
namespace Go.Proofs.YtefnkjajjidfaaaGreatDoor
open Go.RowKit

/-- a value that is a []byte of these numbers -/
def SIn (w : World) (v : Value) (xs : List Int) : Prop := ∃ p n c, v = .slice p n c ∧ BIn w p n xs ∧ n ≤ c ∧ (p = none → c = 0)

/-- how a [][]byte lies that is read -/
structure PIn (w : World) (p : Option Addr) (n : Nat) (vs : List Value) (ls : List (List Int)) : Prop where
  len : vs.length = n
  len2 : ls.length = n
  cells : 0 < n → ∃ b o, p = some ⟨b, o, none⟩ ∧ ∀ i (h : i < vs.length), w.cell? ⟨b, o + i, none⟩ = some vs[i]
  parts : ∀ i (h : i < vs.length) (h2 : i < ls.length), SIn w vs[i] ls[i]

theorem SIn.later {w w' : World} {v : Value} {xs : List Int} (h : SIn w v xs) (hb : Below w.heap.size w w') : SIn w' v xs := by
  obtain ⟨p, n, c, rfl, h1, h2, h3⟩ := h
  exact ⟨p, n, c, rfl, h1.later hb, h2, h3⟩

theorem PIn.later {w w' : World} {p : Option Addr} {n : Nat} {vs : List Value} {ls : List (List Int)} (h : PIn w p n vs ls) (hb : Below w.heap.size w w') : PIn w' p n vs ls := by
  refine ⟨h.len, h.len2, fun h0 => ?_, fun i h1 h2 => (h.parts i h1 h2).later hb⟩
  obtain ⟨b, o, rfl, hc⟩ := h.cells h0
  refine ⟨b, o, rfl, fun i hi => ?_⟩
  rw [hb.cell (p := ⟨b, o + i, none⟩) (World.block_lt_of_cell? w ⟨b, o + i, none⟩ (hc i hi))]
  exact hc i hi

set_option maxHeartbeats 1000000 in
set_option maxRecDepth 100000 in
theorem join_pos (b o n c : Nat) (vs : List Value) (ls : List (List Int)) (w : World) (h : PIn w (some ⟨b, o, none⟩) n vs ls) (h0 : 0 < n) (hbig : ls.flatten.length ≤ 140737488355328) (hn : n ≤ 140737488355328) :
    Calls Tryz.prog 54 #[.slice (some ⟨b, o, none⟩) n c] w fun e w' => ∃ v', e = .returned v' ∧ w'.ownsRow w.heap.size 5 1 v' ls.flatten.length (U8 ls.flatten) ∧ Below w.heap.size w w' := by
  obtain ⟨i0, hi, hz0, hz1, hz2⟩ := info_parts info5
  have HV : Hid (vs.length = n) := h.len
  have HL : Hid (ls.length = n) := h.len2
  go_enter Tryz.func54, Tryz.ntmps54
  go_wp2
  go_loop [3, 11] (fun t i => ∃ k : Nat, k ≤ n ∧ i = .int .i64 k ∧ t = .int .i64 (flen ls k)) (fun _ i => n - (intOf i).toNat)
  case atStart => exact ⟨0, Nat.zero_le _, rfl, rfl⟩
  case round =>
    obtain ⟨k, hk, rfl, rfl⟩ := hrel
    have hfl := flen_le ls k
    by_cases hlt : k < n
    · have hkv : k < vs.length := by rw [HV.out]; exact hlt
      have hkl : k < ls.length := by rw [HL.out]; exact hlt
      obtain ⟨b', o', e, hc0⟩ := h.cells h0
      simp only [Option.some.injEq, Addr.mk.injEq, and_true] at e
      obtain ⟨rfl, rfl⟩ := e
      have hc := hc0 k hkv
      obtain ⟨p1, n1, c1, e1, h1, h2, h3⟩ := h.parts k hkv hkl
      rw [e1] at hc
      have hfl2 := flen_le ls (k + 1)
      have hsl : flen ls (k + 1) = flen ls k + n1 := by rw [flen_step ls k hkl, h1.len]
      have hs2 : flen ls k + n1 ≤ ls.flatten.length := by omega
      have HS : Hid (_) := hsl
      clear hc0 hsl hfl2 e1 h1 h2 h3
      go_wp2
      go_round
      case rel => exact ⟨k + 1, by omega, by go_num, by rw [HS.out]; go_num⟩
      case measure => simp [intOf]; omega
    · have hall : flen ls k = ls.flatten.length := by exact flen_all ls k (by rw [HL.out]; omega)
      have HA : Hid (_) := hall
      clear hall hfl
      rw [HA.out]
      clear HA
      generalize hT : ls.flatten.length = T at *
      have HT : Hid (ls.flatten.length = T) := hT
      clear hT
      go_wp2_with (at_make; refine wpList_make_own _ rfl _ _ 24 rfl w.heap.size 5 i0 (.int .u8 0) 1 Tryz.underlying24 hi hz0 hz1 .i64 .i64 _ T rfl rfl rfl (by rw [hz2]; omega) (by unfold maxLen; omega) (Nat.le_refl _) ?_)
      intro w1 hown hgrow
      have hb := (Below.refl w.heap.size w).grown hgrow (Nat.le_refl _) (by intro k hk; cases hk)
      clear hgrow
      go_wp2
      go_loopw [6, 24] (fun v i wr => ∃ k : Nat, k ≤ n ∧ i = .int .i64 k ∧ v = .slice (some ⟨w.heap.size, 0, none⟩) (flen ls k) T ∧
          wr.ownsRow w.heap.size 5 1 (.slice (some ⟨w.heap.size, 0, none⟩) (flen ls k) T) (flen ls k) (U8 (ls.take k).flatten) ∧ Below w.heap.size w wr) (fun _ i _ => n - (intOf i).toNat)
      case atStart => exact ⟨0, Nat.zero_le _, rfl, rfl, hown, hb⟩
      case round =>
        obtain ⟨j, hj, rfl, rfl, hownr, hbr⟩ := hrel
        have hfl := flen_le ls j
        rw [HT.out] at hfl
        by_cases hlt : j < n
        · have hkv : j < vs.length := by rw [HV.out]; exact hlt
          have hkl : j < ls.length := by rw [HL.out]; exact hlt
          have h' := h.later hbr
          obtain ⟨b', o', e, hc0⟩ := h'.cells h0
          simp only [Option.some.injEq, Addr.mk.injEq, and_true] at e
          obtain ⟨rfl, rfl⟩ := e
          have hc := hc0 j hkv
          obtain ⟨p1, n1, c1, e1, h1, h2, h3⟩ := h'.parts j hkv hkl
          rw [e1] at hc
          have hfl2 := flen_le ls (j + 1)
          rw [HT.out] at hfl2
          have hst := flat_step ls j hkl
          have hsl : flen ls (j + 1) = flen ls j + n1 := by rw [flen_step ls j hkl, h1.len]
          have hs2 : flen ls j + n1 ≤ T := by omega
          have HS : Hid (_) := hsl
          have HST : Hid (_) := hst
          have HB : Hid (_) := hbr
          have HO : Hid (wr.ownsRow w.heap.size 5 1 (.slice (some ⟨w.heap.size, 0, none⟩) (flen ls j) T) (flen ls j) (U8 (ls.take j).flatten)) := hownr
          have H1 : Hid (BIn wr p1 n1 ls[j]) := h1
          have HN : Hid ((U8 ls[j]).length = n1 * 1) := by show _ = _; simp [U8, h1.len]
          have HZ : Hid (p1 = none → n1 = 0 ∧ c1 = 0) := fun e => ⟨by have := h3 e; omega, h3 e⟩
          have HC : Hid (∀ ad, p1 = some ad → ∀ j' u, (U8 ls[j])[j']? = some u → wr.cell? (ad.add j') = some u) := fun ad e => by subst e; exact h1.news
          clear hc0 hst hsl hfl2 e1 h1 h2 h3 h' hownr hbr hb hown
          go_wp2_with (at_builtin; refine wpList_append_fits_any _ rfl (.tmp 28) (.tmp 29) 24 rfl w.heap.size 5 i0 1 Tryz.underlying24 hi hz1 w.heap.size _ T _ rfl HO.out p1 n1 c1 (U8 ls[j]) rfl HN.out HZ.out HC.out (ones_u8 _) hs2 ?_)
          intro w2 hown2 hgrow2
          have R : w2.ownsRow w.heap.size 5 1 (.slice (some ⟨w.heap.size, 0, none⟩) (flen ls (j + 1)) T) (flen ls (j + 1)) (U8 (ls.take (j + 1)).flatten) := by
            rw [HS.out, HST.out]
            simpa [U8] using hown2
          have RB := HB.out.grown hgrow2 (HB.out.size) (by intro q hq; simp at hq; omega)
          have HR : Hid (_) := R
          have HRB : Hid (_) := RB
          clear R RB hown2 hgrow2
          go_wp2
          go_roundw
          case rel => exact ⟨j + 1, by omega, by go_num, by rw [HS.out], HR.out, HRB.out⟩
          case measure => simp [intOf]; omega
        · have e : (ls.take j).flatten = ls.flatten := flat_all ls j (by rw [HL.out]; omega)
          have e2 : flen ls j = T := (flen_all ls j (by rw [HL.out]; omega)).trans HT.out
          rw [e, e2] at hownr
          rw [e2]
          have HB : Hid (_) := hbr
          have HO : Hid (wr.ownsRow w.heap.size 5 1 (.slice (some ⟨w.heap.size, 0, none⟩) T T) T (U8 ls.flatten)) := hownr
          clear hownr hbr hb hown e e2
          go_wp2
          go_ret
          refine ⟨_, rfl, ?_, HB.out⟩
          rw [HT.out]
          exact HO.out

set_option maxHeartbeats 1000000 in
set_option maxRecDepth 100000 in
theorem join_zero (p : Option Addr) (c : Nat) (w : World) :
    Calls Tryz.prog 54 #[.slice p 0 c] w fun e w' => ∃ v', e = .returned v' ∧ w'.ownsRow w.heap.size 5 1 v' 0 [] ∧ Below w.heap.size w w' := by
  obtain ⟨i0, hi, hz0, hz1, hz2⟩ := info_parts info5
  go_enter Tryz.func54, Tryz.ntmps54
  go_wp2
  refine wp_loop_rounds 1 ?_
  rw [rounds_succ]
  go_wp2_with (at_make; refine wpList_make_own _ rfl _ _ 24 rfl w.heap.size 5 i0 (.int .u8 0) 1 Tryz.underlying24 hi hz0 hz1 .i64 .i64 _ 0 rfl rfl rfl (by rw [hz2]; omega) (Nat.zero_le _) (Nat.le_refl _) ?_)
  intro w1 hown hgrow
  have hb := (Below.refl w.heap.size w).grown hgrow (Nat.le_refl _) (by intro k hk; cases hk)
  go_wp2
  refine wp_loop_rounds 1 ?_
  rw [rounds_succ]
  go_wp2
  go_ret
  exact ⟨_, rfl, hown, hb⟩

theorem join_any (p : Option Addr) (n c : Nat) (vs : List Value) (ls : List (List Int)) (w : World) (h : PIn w p n vs ls) (hbig : ls.flatten.length ≤ 140737488355328) (hn : n ≤ 140737488355328) :
    Calls Tryz.prog 54 #[.slice p n c] w fun e w' => ∃ v', e = .returned v' ∧ w'.ownsRow w.heap.size 5 1 v' ls.flatten.length (U8 ls.flatten) ∧ Below w.heap.size w w' := by
  by_cases h0 : 0 < n
  · obtain ⟨b, o, rfl, hc⟩ := h.cells h0
    exact join_pos b o n c vs ls w h h0 hbig hn
  · obtain rfl : n = 0 := by omega
    obtain rfl : ls = [] := List.eq_nil_of_length_eq_zero h.len2
    exact join_zero p c w

end Go.Proofs.YtefnkjajjidfaaaGreatDoor
