/-
  Contracts of the document's answers: wicketref01.Join.
-/
import Derived.Test.YtdfnpapnoedpkaaEe
namespace Go.Proofs.Ytdfnpapnoedpkaa
open Go.RowKit

set_option maxHeartbeats 1000000 in
theorem rjoin_pos (b o n c : Nat) (vs : List Value) (ls : List (List Int)) (w : World) (h : PIn w (some ⟨b, o, none⟩) n vs ls) (h0 : 0 < n) (hbig : ls.flatten.length ≤ 140737488355328) (hn : n ≤ 140737488355328) :
    Calls Try.prog 22 #[.slice (some ⟨b, o, none⟩) n c] w fun e w' => ∃ v', e = .returned v' ∧ w'.ownsRow w.heap.size 5 1 v' ls.flatten.length (U8 ls.flatten) ∧ Below w.heap.size w w' := by
  obtain ⟨i0, hi, hz0, hz1, hz2⟩ := info_parts info5
  have HV : Hid (vs.length = n) := h.len
  have HL : Hid (ls.length = n) := h.len2
  have HH : Hid (PIn w (some ⟨b, o, none⟩) n vs ls) := h
  generalize hT : ls.flatten.length = T at *
  have HT : Hid (ls.flatten.length = T) := hT
  clear hT h
  go_enter Try.func22, Try.ntmps22
  go_wp2
  go_loopw [3, 4] (fun v i wr => ∃ k : Nat, k ≤ n ∧ i = .int .i64 k ∧ wr.ownsRow w.heap.size 5 1 v (flen ls k) (U8 (ls.take k).flatten) ∧ Below w.heap.size w wr) (fun _ i _ => n - (intOf i).toNat)
  case atStart => exact ⟨0, Nat.zero_le _, rfl, World.ownsRow_nil _ _ _ _, Below.refl _ _⟩
  case round =>
    obtain ⟨j, hj, rfl, hownr, hbr⟩ := hrel
    have hfl := flen_le ls j
    rw [HT.out] at hfl
    by_cases hlt : j < n
    · have hkv : j < vs.length := by rw [HV.out]; exact hlt
      have hkl : j < ls.length := by rw [HL.out]; exact hlt
      have h' := HH.out.later hbr
      obtain ⟨b', o', e, hc0⟩ := h'.cells h0
      simp only [Option.some.injEq, Addr.mk.injEq, and_true] at e
      obtain ⟨rfl, rfl⟩ := e
      have hc := hc0 j hkv
      obtain ⟨p1, n1, c1, e1, h1, h2, h3⟩ := h'.parts j hkv hkl
      rw [e1] at hc
      have hfl2 := flen_le ls (j + 1)
      rw [HT.out] at hfl2
      have hst := flat_step ls j hkl
      have hsl : flen ls (j + 1) = flen ls j + n1 := by rw [flen_step ls j hkl, h1.len]
      have hs2 : flen ls j + n1 ≤ T := by omega
      have HS : Hid (flen ls (j + 1) = flen ls j + n1) := hsl
      have HST : Hid ((ls.take (j + 1)).flatten = (ls.take j).flatten ++ ls[j]) := hst
      have HB : Hid (Below w.heap.size w wr) := hbr
      have HO : Hid (wr.ownsRow w.heap.size 5 1 u3 (flen ls j) (U8 (ls.take j).flatten)) := hownr
      have HN : Hid ((U8 ls[j]).length = n1 * 1) := by show _ = _; simp [U8, h1.len]
      have HZ : Hid (p1 = none → n1 = 0 ∧ c1 = 0) := fun e => ⟨by have := h3 e; omega, h3 e⟩
      have HC : Hid (∀ ad, p1 = some ad → ∀ j' u, (U8 ls[j])[j']? = some u → wr.cell? (ad.add j') = some u) := fun ad e => by subst e; exact h1.news
      clear hc0 hst hsl hfl2 e1 h1 h2 h3 h' hownr hbr
      go_wp2_with (at_builtin; refine wpList_append_ownany _ rfl (.tmp 11) (.tmp 15) 23 rfl w.heap.size 5 i0 (.int .u8 0) 1 1 Try.underlying23 hi hz0 hz1 hz2 rfl (by decide) u3 (flen ls j) (U8 (ls.take j).flatten) rfl HO.out p1 n1 c1 (U8 ls[j]) rfl HZ.out HN.out HC.out (ones_u8 _) (by unfold maxLen; omega) (by omega) HB.out.size ?_)
      intro v2 w2 hown2 hgrow2
      have HR : Hid (w2.ownsRow w.heap.size 5 1 v2 (flen ls (j + 1)) (U8 (ls.take (j + 1)).flatten)) := by
        show World.ownsRow _ _ _ _ _ _ _
        rw [HS.out, HST.out]
        simpa [U8] using hown2
      have HRB : Hid (Below w.heap.size w w2) := HB.out.grown hgrow2 HB.out.size (fun g hg => (HO.out.lt g hg).1)
      clear hown2 hgrow2 HO HB
      go_wp2
      go_roundw
      case rel => exact ⟨j + 1, by omega, by go_num, HR.out, HRB.out⟩
      case measure => simp [intOf]; omega
    · have e : (ls.take j).flatten = ls.flatten := flat_all ls j (by rw [HL.out]; omega)
      have e2 : flen ls j = T := (flen_all ls j (by rw [HL.out]; omega)).trans HT.out
      rw [e, e2] at hownr
      have HB : Hid (Below w.heap.size w wr) := hbr
      have HO : Hid (wr.ownsRow w.heap.size 5 1 u3 T (U8 ls.flatten)) := hownr
      clear hownr hbr e e2
      go_wp2
      go_ret
      exact ⟨_, rfl, HO.out, HB.out⟩

set_option maxHeartbeats 400000 in
theorem rjoin_zero (p : Option Addr) (c : Nat) (w : World) :
    Calls Try.prog 22 #[.slice p 0 c] w fun e w' => e = .returned (.slice none 0 0) ∧ w = w' := by
  go_enter Try.func22, Try.ntmps22
  go_wp2
  refine wp_loop_rounds 1 ?_
  rw [rounds_succ]
  go_wp2
  go_ret
  exact ⟨rfl, rfl⟩

theorem rjoin_any (p : Option Addr) (n c : Nat) (vs : List Value) (ls : List (List Int)) (w : World) (h : PIn w p n vs ls) (hbig : ls.flatten.length ≤ 140737488355328) (hn : n ≤ 140737488355328) :
    Calls Try.prog 22 #[.slice p n c] w fun e w' => ∃ v', e = .returned v' ∧ w'.ownsRow w.heap.size 5 1 v' ls.flatten.length (U8 ls.flatten) ∧ Below w.heap.size w w' := by
  by_cases h0 : 0 < n
  · obtain ⟨b, o, rfl, hc⟩ := h.cells h0
    exact rjoin_pos b o n c vs ls w h h0 hbig hn
  · obtain rfl : n = 0 := by omega
    obtain rfl : ls = [] := List.eq_nil_of_length_eq_zero h.len2
    refine (rjoin_zero p c w).mono ?_
    rintro e w' ⟨rfl, rfl⟩
    exact ⟨_, rfl, World.ownsRow_nil _ _ _ _, Below.refl _ _⟩

theorem PIn.bytes {w : World} {p : Option Addr} {n : Nat} {vs : List Value} {ls : List (List Int)} (h : PIn w p n vs ls) : ∀ l ∈ ls, Bytes l := by
  intro l hl
  obtain ⟨i, hi, rfl⟩ := List.getElem_of_mem hl
  obtain ⟨p1, n1, c1, _, h1, _⟩ := h.parts i (by rw [h.len, ← h.len2]; exact hi) hi
  exact h1.byte

theorem join_x (p : Option Addr) (n c : Nat) (vs : List Value) (ls : List (List Int)) (X : List Int) (hX : ls.flatten = X) (w : World) (h : PIn w p n vs ls) (hbig : X.length + 80 ≤ 140737488355328) (hn : n ≤ 140737488355328) :
    Calls Try.prog 14 #[.slice p n c] w fun e w' => ∃ p' c', e = .returned (.slice p' X.length c') ∧ Made w w' p' X.length c' X := by
  refine (join_any p n c vs ls w h (by rw [hX]; omega) hn).mono ?_
  rintro e w' ⟨v, rfl, ho, hb⟩
  rw [hX] at ho
  obtain ⟨p', c', rfl, hm⟩ := made_of ho (by rw [← hX]; exact Bytes.flatten h.bytes) hb hbig
  exact ⟨p', c', rfl, hm⟩

theorem rjoin_x (p : Option Addr) (n c : Nat) (vs : List Value) (ls : List (List Int)) (X : List Int) (hX : ls.flatten = X) (w : World) (h : PIn w p n vs ls) (hbig : X.length + 80 ≤ 140737488355328) (hn : n ≤ 140737488355328) :
    Calls Try.prog 22 #[.slice p n c] w fun e w' => ∃ p' c', e = .returned (.slice p' X.length c') ∧ Made w w' p' X.length c' X := by
  refine (rjoin_any p n c vs ls w h (by rw [hX]; omega) hn).mono ?_
  rintro e w' ⟨v, rfl, ho, hb⟩
  rw [hX] at ho
  obtain ⟨p', c', rfl, hm⟩ := made_of ho (by rw [← hX]; exact Bytes.flatten h.bytes) hb hbig
  exact ⟨p', c', rfl, hm⟩

end Go.Proofs.Ytdfnpapnoedpkaa
