/-
  Contracts of the document's answers: wicketref01.Put.
-/
import Derived.Test.YtdfnpapnoedpkaaCi
namespace Go.Proofs.Ytdfnpapnoedpkaa
open Go.RowKit

set_option maxHeartbeats 400000 in
theorem rput_input (n s : Int) (w : World) (hs : s < 1 ∨ 8 < s) :
    Calls Try.prog 15 #[.int .u64 n, .int .i64 s] w fun e w' => e = .returned (.tuple #[.slice none 0 0, .int .i64 2]) ∧ w = w' := by
  rcases hs with hs | hs
  · go_enter Try.func15, Try.ntmps15
    go_wp2
    go_ret2
    exact ⟨rfl, rfl⟩
  · have hn : ¬ s < 1 := by omega
    go_enter Try.func15, Try.ntmps15
    go_wp2
    go_ret2
    exact ⟨rfl, rfl⟩

theorem div_step (n : Int) (j : Nat) : n / 256 ^ j / 256 = n / 256 ^ (j + 1) := by
  rw [Int.pow_succ, Int.ediv_ediv_of_nonneg (Int.le_of_lt (pow_pos j))]
theorem div_bd (n : Int) (j : Nat) (h0 : 0 ≤ n) : 0 ≤ n / 256 ^ j ∧ n / 256 ^ j ≤ n :=
  ⟨Int.ediv_nonneg h0 (Int.le_of_lt (pow_pos j)), Int.ediv_le_self _ h0⟩

set_option maxHeartbeats 1000000 in
theorem rput_run (n : Int) (k : Nat) (w : World) (h0 : 0 ≤ n) (h1 : n ≤ 18446744073709551615) (hs : 1 ≤ k ∧ k ≤ 8) (er : Int) (res : List Int) (HR0 : Hid (n / 256 ^ k = 0 → er = 0 ∧ res = digits k n)) (HR9 : Hid (n / 256 ^ k ≠ 0 → er = 10 ∧ res = [])) :
    Calls Try.prog 15 #[.int .u64 n, .int .i64 k] w fun e w' => ∃ v', e = .returned (.tuple #[v', .int .i64 er]) ∧
      w'.ownsRow w.heap.size 5 1 v' res.length (U8 res) ∧ Below w.heap.size w w' := by
  obtain ⟨i0, hi, hz0, hz1, hz2⟩ := info_parts info5
  have HL : Hid ((digits k n).length = k) := digits_length k n
  go_enter Try.func15, Try.ntmps15
  go_wp2
  go_loopw [0, 6, 7] (fun q v i wr => ∃ j : Nat, j ≤ k ∧ i = .int .i64 j ∧ q = .int .u64 (n / 256 ^ j) ∧ wr.ownsRow w.heap.size 5 1 v j (U8 ((digits k n).take j)) ∧ Below w.heap.size w wr) (fun _ _ i _ => k - (intOf i).toNat)
  case atStart => exact ⟨0, Nat.zero_le _, rfl, by simp, World.ownsRow_nil _ _ _ _, Below.refl _ _⟩
  case round =>
    obtain ⟨j, hj, rfl, rfl, hown, hb⟩ := hrel
    have hbd := div_bd n j h0
    by_cases hlt : j < k
    · have hjl : j < (digits k n).length := by rw [HL.out]; exact hlt
      have hg := digits_get k n j hjl
      have hst := div_step n j
      obtain ⟨q, hq⟩ : ∃ q, q = n / 256 ^ j := ⟨_, rfl⟩
      rw [← hq] at hbd hg hst ⊢
      have HS : Hid (q / 256 = n / 256 ^ (j + 1)) := hst
      have HG : Hid ((digits k n)[j] = q % 256) := hg
      have HO : Hid (wr.ownsRow w.heap.size 5 1 u6 j (U8 ((digits k n).take j))) := hown
      have HB : Hid (Below w.heap.size w wr) := hb
      clear hq hst hg hown hb
      have hq1 : q ≤ 18446744073709551615 := by omega
      go_wp2_with (at_builtin; refine wpList_append_own _ rfl (.tmp 19) (.tmp 23) 23 rfl w.heap.size 5 i0 (.int .u8 0) 1 1 Try.underlying23 hi hz0 hz1 hz2 rfl (by decide) u6 j (U8 ((digits k n).take j)) rfl (HO.out.alloc _) ⟨wr.heap.size, 0, none⟩ 1 1 [.int .u8 (q % 256)] rfl rfl (cell_one_new _ _ _) (by intro u hu; obtain rfl := List.mem_singleton.1 hu; rfl) (by unfold maxLen; omega) (by omega) (by have := HB.out.size; simp; omega) ?_)
      intro v' w1 hown1 hgrow1 _
      have R1 : w1.ownsRow w.heap.size 5 1 v' (j + 1) (U8 ((digits k n).take (j + 1))) := by
        rw [List.take_succ_eq_append_getElem hjl, HG.out]
        simpa [U8] using hown1
      have R2 : Below w.heap.size w w1 := (HB.out.alloc HB.out.size _).grown hgrow1 (by have := HB.out.size; simp; omega) (fun g hg => (HO.out.lt g hg).1)
      have HR1 : Hid (w1.ownsRow w.heap.size 5 1 v' (j + 1) (U8 ((digits k n).take (j + 1)))) := R1
      have HR2 : Hid (Below w.heap.size w w1) := R2
      clear hown1 hgrow1 R1 R2 HO HB
      go_wp2
      go_roundw
      case rel => exact ⟨j + 1, by omega, by go_num, by rw [HS.out], HR1.out, HR2.out⟩
      case measure => simp [intOf]; omega
    · obtain rfl : k = j := by omega
      rw [List.take_of_length_le (by rw [HL.out]; exact Nat.le_refl _)] at hown
      have HO : Hid (wr.ownsRow w.heap.size 5 1 u6 k (U8 (digits k n))) := hown
      have HB : Hid (Below w.heap.size w wr) := hb
      clear hown hb
      obtain ⟨q, hq⟩ : ∃ q, q = n / 256 ^ k := ⟨_, rfl⟩
      have HQ : Hid (q = n / 256 ^ k) := hq
      rw [← hq] at hbd ⊢
      clear hq
      cases hz : (q != 0)
      · have e : n / 256 ^ k = 0 := by rw [← HQ.out]; simpa using hz
        obtain ⟨e1, e2⟩ := HR0.out e
        have HE1 : Hid (er = 0) := e1
        have HE2 : Hid (res = digits k n) := e2
        clear e e1 e2
        go_wp2
        go_ret2
        refine ⟨u6, by rw [HE1.out]; rfl, ?_, HB.out⟩
        rw [HE2.out, HL.out]
        exact HO.out
      · have e : n / 256 ^ k ≠ 0 := by rw [← HQ.out]; simpa using hz
        obtain ⟨e1, e2⟩ := HR9.out e
        have HE1 : Hid (er = 10) := e1
        have HE2 : Hid (res = []) := e2
        clear e e1 e2
        go_wp2
        go_ret2
        refine ⟨.slice none 0 0, by rw [HE1.out]; rfl, ?_, HB.out⟩
        rw [HE2.out]
        exact World.ownsRow_nil _ _ _ _

theorem rput_any (n s : Int) (w : World) (h0 : 0 ≤ n) (h1 : n ≤ 18446744073709551615) :
    Calls Try.prog 15 #[.int .u64 n, .int .i64 s] w fun e w' => ∃ v', e = .returned (.tuple #[v', .int .i64 (putS n s).2]) ∧
      w'.ownsRow w.heap.size 5 1 v' (putS n s).1.length (U8 (putS n s).1) ∧ Below w.heap.size w w' := by
  unfold putS
  by_cases hs : s < 1 ∨ 8 < s
  · rw [if_pos hs]
    refine (rput_input n s w hs).mono ?_
    rintro e w' ⟨rfl, rfl⟩
    exact ⟨_, rfl, World.ownsRow_nil _ _ _ _, Below.refl _ _⟩
  · rw [if_neg hs]
    obtain ⟨k, rfl⟩ := Int.eq_ofNat_of_zero_le (show 0 ≤ s by omega)
    rw [Int.toNat_natCast]
    by_cases hw : n / 256 ^ k ≠ 0
    · rw [if_pos hw]
      exact rput_run n k w h0 h1 (by omega) 10 [] (fun e => absurd e hw) (fun _ => ⟨rfl, rfl⟩)
    · rw [if_neg hw]
      exact rput_run n k w h0 h1 (by omega) 0 (digits k n) (fun _ => ⟨rfl, rfl⟩) (fun e => absurd e hw)

end Go.Proofs.Ytdfnpapnoedpkaa
