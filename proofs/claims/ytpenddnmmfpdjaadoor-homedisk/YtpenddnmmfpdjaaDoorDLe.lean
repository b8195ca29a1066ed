/-
  Contracts of layer 4, fifth part: Image, Copy, Load.
-/
import Derived.Test.YtpenddnmmfpdjaaDoorDLd
namespace Go.Proofs.YtpenddnmmfpdjaaDoor
open Go.RowKit
set_option maxHeartbeats 400000 in
set_option maxRecDepth 100000 in
theorem image_nil (w : World) : Calls Tryd.prog 20 #[.pointer none] w fun e w' => e = .returned (.slice none 0 0) ∧ w = w' := by
  go_enter Tryd.func20, Tryd.ntmps20
  go_wp2
  go_ret
  exact ⟨rfl, rfl⟩
set_option maxHeartbeats 2000000 in
set_option maxRecDepth 100000 in
theorem image_any {w : World} {S : Nat → Prop} {p n : Nat} {d : List Int} {ws : List Wr} (h : Dsk w S p n d ws) :
    Calls Tryd.prog 20 #[.pointer (some ⟨p, 0, none⟩)] w fun e w' => ∃ v, e = .returned v ∧ w'.ownsRow w.heap.size 5 1 v (64 * n) (U8 d) ∧ Below w.heap.size w w' := by
  obtain ⟨i0, hi, hz0, hz1, hz2⟩ := info_parts info5
  obtain ⟨q, cap, v, h⟩ := h
  have h0 := h.cell0
  have HH : Hid (PD w S p n d ws q cap v) := h
  have hn2 := h.n2
  have hmul : IntKind.i64.wrap ((n : Int) * 64) = (n : Int) * 64 := by rw [IntKind.wrap_i64]; omega
  clear h
  have hmk := run_make (P := Tryd.prog) w 24 5 i0 _ Tryd.underlying24 hi hz0 .i64 .i64 0 ((n : Int) * 64) (by omega) (by omega) (by rw [hz2]; omega) (by omega)
  rw [hz1, show ((n : Int) * 64).toNat = n * 64 by omega] at hmk
  simp only [Int.toNat_zero, Nat.mul_one, Value.cells] at hmk
  have HO : Hid ((w.alloc (.cells (madeCells #[.int .u8 0] (n * 64)) 5)).ownsRow w.heap.size 5 1 (.slice (some ⟨w.heap.size, 0, none⟩) 0 (n * 64)) 0 []) := World.ownsRow_made w _ (n * 64) (Nat.le_refl _) (by unfold maxLen; omega) (by rw [size_madeCells]; omega)
  obtain ⟨ob, hob⟩ : ∃ ob, Obj.cells (madeCells #[.int .u8 0] (n * 64)) 5 = ob := ⟨_, rfl⟩
  rw [hob] at hmk HO
  clear hob
  have HB : Hid (Below w.heap.size w (w.alloc ob)) := below_alloc w ob
  have h0' : (w.alloc ob).cell? ⟨p, 0, none⟩ = some (.slice (some ⟨q, 0, none⟩) n cap) := (HB.out.cell (p := ⟨p, 0, none⟩) HH.out.blk.lt).trans h0
  go_enter Tryd.func20, Tryd.ntmps20
  go_wp2
  clear hmk hmul
  generalize w.alloc ob = W0 at *
  go_loopw [3, 19] (fun b i wr => ∃ k : Nat, k ≤ n ∧ i = .int .i64 k ∧ Hid (wr.ownsRow w.heap.size 5 1 b (64 * k) (U8 (d.take (64 * k))) ∧ Below w.heap.size w wr)) (fun _ i _ => n - (intOf i).toNat)
  case atStart => exact ⟨0, by omega, rfl, by simpa using HO.out, HB.out⟩
  case round =>
    obtain ⟨k, hkm, rfl, HR⟩ := hrel
    clear HO HB h0'
    by_cases hlt : k < n
    · have c0 : wr.cell? ⟨p, 0, none⟩ = some (.slice (some ⟨q, 0, none⟩) n cap) := (HR.out.2.cell (p := ⟨p, 0, none⟩) HH.out.blk.lt).trans h0
      have HN : Hid (∀ j u, (U8 (sec d k))[j]? = some u → wr.cell? ((⟨q, k * 128, none⟩ : Addr).add j) = some u) := fun j u hu => by
        rw [Addr.add_mid]
        exact rangeAt_same (HH.out.pl.dur k hlt) (HR.out.2.block q HH.out.pl.blk.lt) j u hu
      have HL : Hid ((sec d k).length = 64) := HH.out.pl.dl k hlt
      obtain ⟨bp, bc, rfl, _⟩ := own_slice HR.out.1
      go_wp2_with (at_builtin; refine wpList_append_own _ rfl (.tmp 22) (.tmp 30) 24 rfl w.heap.size 5 i0 (.int .u8 0) 1 1 Tryd.underlying24 hi hz0 hz1 hz2 rfl (by omega) _ (64 * k) _ rfl HR.out.1 ⟨q, k * 128, none⟩ 64 64 (U8 (sec d k)) rfl (by rw [U8_length]; exact HL.out) HN.out (ones_u8 _) (by unfold maxLen; omega) (by omega) HR.out.2.size ?_; intro v' w1 hown hgrow _; have HO1 : Hid (w1.ownsRow w.heap.size 5 1 v' (64 * (k + 1)) (U8 (d.take (64 * (k + 1)))) ∧ Below w.heap.size w w1) := ⟨by rw [sec_step, show 64 * (k + 1) = 64 * k + 64 by omega, show U8 (d.take (64 * k) ++ sec d k) = U8 (d.take (64 * k)) ++ U8 (sec d k) from List.map_append]; exact hown, HR.out.2.grown hgrow HR.out.2.size (fun j hj => (HR.out.1.lt j hj).1)⟩; clear hown hgrow HN)
      go_roundw
      case rel => exact ⟨k + 1, by omega, by go_num, HO1.out⟩
      case measure => simp [intOf]; omega
    · obtain rfl : k = n := by omega
      have HE : Hid (d.take (64 * k) = d) := List.take_of_length_le (by rw [HH.out.dl]; omega)
      go_wp2
      go_ret
      exact ⟨_, rfl, by have := HR.out.1; rw [HE.out] at this; exact this, HR.out.2⟩
end Go.Proofs.YtpenddnmmfpdjaaDoor
