/-
  Contracts of layer 2 that are called here: push, Of; and the document's Push, Of.
-/
import Derived.Test.YtefnkjajjidfaaaGreatDoorCg
import Derived.Test.YtefnkjajjidfaaaGreatDoorCrc
import Derived.WalkKit
import Derived.WalkSpells
import Derived.WalkLawsBesides
namespace Go.Proofs.YtefnkjajjidfaaaGreatDoor
open Go.RowKit

/-- the table lies where the program lays it -/
def Half (w : World) : Prop := ∀ i : Nat, i < 16 → w.cell? ⟨1, i, none⟩ = some (.int .u32 ((table.getD i 0 : Nat) : Int))
theorem Half.at {w : World} (h : Half w) (y : Nat) : w.cell? ⟨1, y % 16, none⟩ = some (.int .u32 ((table.getD (y % 16) 0 : Nat) : Int)) := h _ (Nat.mod_lt _ (by omega))
theorem table_lt (y : Nat) : table.getD (y % 16) 0 < 4294967296 := by
  rw [table_hn _ (Nat.mod_lt _ (by omega))]
  exact hn_lt _ _ (by omega)
/-- four halvings as the program makes them -/
theorem four_step (w : World) (ht : Half w) (y : Nat) (hy : y < 4294967296) : ∃ t : Nat, w.cell? ⟨1, y % 16, none⟩ = some (.int .u32 (t : Int)) ∧
    bits .xor .u32 ((y : Int) / 16) (t : Int) = ((hn 4 y : Nat) : Int) ∧ bits .and .u32 (y : Int) 15 = ((y % 16 : Nat) : Int) := by
  refine ⟨_, ht.at y, ?_, ?_⟩
  · rw [← hn_four, ← u32_xor_nat (y / 16) _ (by omega) (table_lt y)]
    rfl
  · have := u32_and_nat y 15 hy (by omega)
    rw [nat_mask4] at this
    exact this
set_option maxHeartbeats 400000 in
set_option maxRecDepth 100000 in
theorem push_any (x : Nat) (c : Int) (hx : x < 4294967296) (hc0 : 0 ≤ c) (hc1 : c < 256) (w : World) (ht : Half w) :
    Calls Tryz.prog 73 #[.int .u32 x, .int .u8 c] w fun e w' => e = .returned (.int .u32 (hn 8 (x ^^^ c.toNat) : Nat)) ∧ w = w' := by
  obtain ⟨y, hy⟩ : ∃ y, y = x ^^^ c.toNat := ⟨_, rfl⟩
  have hyl : y < 4294967296 := by rw [hy]; exact xor_lt _ _ hx (by omega)
  have h1 : bits .xor .u32 (x : Int) c = (y : Int) := by
    rw [hy, ← u32_xor_nat x c.toNat hx (by omega)]
    congr 1
    omega
  obtain ⟨t, ht1, ht2, ht3⟩ := four_step w ht y hyl
  obtain ⟨z, hz⟩ : ∃ z, z = hn 4 y := ⟨_, rfl⟩
  have hzl : z < 4294967296 := by rw [hz]; exact hn_lt _ _ hyl
  obtain ⟨s, hs1, hs2, hs3⟩ := four_step w ht z hzl
  rw [← hz] at ht2
  obtain ⟨r, hr⟩ : ∃ r, r = hn 4 z := ⟨_, rfl⟩
  rw [← hr] at hs2
  have HY : Hid (r = hn 8 (x ^^^ c.toNat)) := by
    show r = _
    rw [hr, hz, hy, ← hn_add]
  clear hy hz hr ht
  go_enter Tryz.func73, Tryz.ntmps73
  go_wp2
  go_ret
  refine ⟨?_, rfl⟩
  simp [HY.out]
theorem hn_next (k y : Nat) : hn (k + 1) y = hv (hn k y) := by rw [hn_add k 1]; rfl
theorem st_step (x : Nat) (xs : List Int) (k : Nat) (hk : k < xs.length) : st x (xs.take (k + 1)) = hn 8 (st x (xs.take k) ^^^ xs[k].toNat) := by
  rw [List.take_succ_eq_append_getElem hk, st_append]; rfl
theorem st_parts (x : Nat) (ls : List (List Int)) (k : Nat) (hk : k < ls.length) : st x (ls.take (k + 1)).flatten = st (st x (ls.take k).flatten) ls[k] := by
  rw [flat_step ls k hk, st_append]
theorem turn_all (x : Nat) (hx : x < 4294967296) : bits .xor .u32 IntKind.u32.max (x : Int) = ((x ^^^ 4294967295 : Nat) : Int) := by
  rw [Nat.xor_comm, ← u32_xor_nat 4294967295 x (by omega) hx]
  rfl
set_option maxHeartbeats 1000000 in
set_option maxRecDepth 100000 in
theorem of_pos (b o n c : Nat) (vs : List Value) (ls : List (List Int)) (w : World) (h : PIn w (some ⟨b, o, none⟩) n vs ls) (h0 : 0 < n) (hbig : ls.flatten.length ≤ 140737488355328) (hnb : n ≤ 140737488355328) (ht : Half w) :
    Calls Tryz.prog 55 #[.slice (some ⟨b, o, none⟩) n c] w fun e w' => e = .returned (.int .u32 (crc ls.flatten : Nat)) ∧ w = w' := by
  have HV : Hid (vs.length = n) := h.len
  have HL : Hid (ls.length = n) := h.len2
  have HT : Hid (Half w) := ht
  have HB : Hid (∀ l ∈ ls, Bytes l) := by
    intro l hl
    obtain ⟨i, hi, rfl⟩ := List.getElem_of_mem hl
    obtain ⟨p1, n1, c1, _, h1, _⟩ := h.parts i (by rw [h.len, ← h.len2]; exact hi) hi
    exact h1.byte
  have HF : Hid (∀ k, Bytes (ls.take k).flatten) := fun k => Bytes.flatten (fun l hl => HB.out l (List.mem_of_mem_take hl))
  have HBl : Hid (ls.flatten.length ≤ 140737488355328) := hbig
  clear ht hbig
  go_enter Tryz.func55, Tryz.ntmps55
  go_wp2
  go_loop [3, 10] (fun x i => ∃ k : Nat, k ≤ n ∧ i = .int .i64 k ∧ x = .int .u32 (st 4294967295 (ls.take k).flatten : Nat)) (fun _ i => n - (intOf i).toNat)
  case atStart => exact ⟨0, Nat.zero_le _, rfl, rfl⟩
  case round =>
    obtain ⟨k, hk, rfl, rfl⟩ := hrel
    have hlt0 := st_lt 4294967295 (ls.take k).flatten (by omega) (HF.out k)
    by_cases hlt : k < n
    · have hkv : k < vs.length := by rw [HV.out]; exact hlt
      have hkl : k < ls.length := by rw [HL.out]; exact hlt
      obtain ⟨b', o', e, hc0⟩ := h.cells h0
      simp only [Option.some.injEq, Addr.mk.injEq, and_true] at e
      obtain ⟨rfl, rfl⟩ := e
      have hc := hc0 k hkv
      obtain ⟨p1, n1, c1, e1, h1, h2, h3⟩ := h.parts k hkv hkl
      rw [e1] at hc
      have hfl2 := flen_le ls (k + 1)
      have hsl : flen ls (k + 1) = flen ls k + n1 := by rw [flen_step ls k hkl, h1.len]
      have hn1 : n1 ≤ 140737488355328 := by have := HBl.out; omega
      have HS : Hid (st 4294967295 (ls.take (k + 1)).flatten = st (st 4294967295 (ls.take k).flatten) ls[k]) := st_parts _ ls k hkl
      have HP : Hid (BIn w p1 n1 ls[k]) := h1
      have HK : Hid (Bytes ls[k]) := h1.byte
      obtain ⟨y, hy⟩ : ∃ y, y = st 4294967295 (ls.take k).flatten := ⟨_, rfl⟩
      obtain ⟨xs, hxs⟩ : ∃ xs, xs = ls[k] := ⟨_, rfl⟩
      rw [← hxs] at HP HK HS
      rw [← hy] at hlt0 HS ⊢
      clear hc0 hsl hfl2 e1 h1 h2 h3 hy hxs
      by_cases h1p : 0 < n1
      · obtain ⟨b1, o1, rfl, hcs⟩ := HP.out.cells h1p
        have HC : Hid (∀ i, i < n1 → w.cell? ⟨b1, o1 + i, none⟩ = some (.int .u8 (xs.getD i 0))) := hcs
        have HX : Hid (xs.length = n1) := HP.out.len
        clear hcs
        go_wp2
        go_loop [3, 16] (fun x i => ∃ j : Nat, j ≤ n1 ∧ i = .int .i64 j ∧ x = .int .u32 (st y (xs.take j) : Nat)) (fun _ i => n1 - (intOf i).toNat)
        case atStart => exact ⟨0, Nat.zero_le _, rfl, rfl⟩
        case round =>
          obtain ⟨j, hj, rfl, rfl⟩ := hrel
          have hlj := st_lt y (xs.take j) hlt0 (HK.out.take j)
          by_cases hjl : j < n1
          · have hcj := HC.out j hjl
            have hjx : j < xs.length := by rw [HX.out]; exact hjl
            have hb := HK.out.at j hjx
            have HJ : Hid (st y (xs.take (j + 1)) = hn 8 (st y (xs.take j) ^^^ xs[j].toNat)) := st_step y xs j hjx
            rw [show xs.getD j 0 = xs[j] by simp [List.getD, List.getElem?_eq_getElem hjx]] at hcj
            obtain ⟨z, hz⟩ : ∃ z, z = st y (xs.take j) := ⟨_, rfl⟩
            rw [← hz] at hlj HJ ⊢
            obtain ⟨q, hq⟩ : ∃ q, q = xs[j] := ⟨_, rfl⟩
            rw [← hq] at hb HJ hcj
            obtain ⟨hb0, hb1⟩ := hb
            clear hz hq
            go_wp2_with (go_at_call 73; refine (push_any z q hlj hb0 hb1 _ HT.out).mono ?_; rintro e w' ⟨rfl, rfl⟩)
            go_round
            case rel => exact ⟨j + 1, by omega, by go_num, by rw [HJ.out]⟩
            case measure => simp [intOf]; omega
          · have HA : Hid (xs.take j = xs) := List.take_of_length_le (by rw [HX.out]; omega)
            go_wp2
            go_round
            case rel => exact ⟨k + 1, by omega, by go_num, by rw [HS.out, HA.out]⟩
            case measure => simp [intOf]; omega
      · have hz1 : n1 = 0 := by omega
        subst hz1
        have HX : Hid (xs = []) := List.eq_nil_of_length_eq_zero HP.out.len
        go_wp2
        refine wp_loop_rounds 1 ?_
        rw [rounds_succ]
        go_wp2
        go_round
        case rel => exact ⟨k + 1, by omega, by go_num, by rw [HS.out, HX.out]; rfl⟩
        case measure => simp [intOf]; omega
    · have HA : Hid ((ls.take k).flatten = ls.flatten) := flat_all ls k (by rw [HL.out]; omega)
      go_wp2
      go_ret
      refine ⟨?_, rfl⟩
      have e := turn_all _ hlt0
      rw [HA.out] at e
      simp only [HA.out]
      rw [crc, ← e]
      rfl
set_option maxHeartbeats 400000 in
set_option maxRecDepth 100000 in
theorem of_zero (p : Option Addr) (c : Nat) (w : World) :
    Calls Tryz.prog 55 #[.slice p 0 c] w fun e w' => e = .returned (.int .u32 0) ∧ w = w' := by
  go_enter Tryz.func55, Tryz.ntmps55
  go_wp2
  refine wp_loop_rounds 1 ?_
  rw [rounds_succ]
  go_wp2
  go_ret
  exact ⟨rfl, rfl⟩
theorem of_parts (p : Option Addr) (n c : Nat) (vs : List Value) (ls : List (List Int)) (w : World) (h : PIn w p n vs ls) (hbig : ls.flatten.length ≤ 140737488355328) (hnb : n ≤ 140737488355328) (ht : Half w) :
    Calls Tryz.prog 55 #[.slice p n c] w fun e w' => e = .returned (.int .u32 (crc ls.flatten : Nat)) ∧ w = w' := by
  by_cases h0 : 0 < n
  · obtain ⟨b, o, rfl, hc⟩ := h.cells h0
    exact of_pos b o n c vs ls w h h0 hbig hnb ht
  · obtain rfl : n = 0 := by omega
    obtain rfl : ls = [] := List.eq_nil_of_length_eq_zero h.len2
    refine (of_zero p c w).mono ?_
    rintro e w' ⟨rfl, hw⟩
    exact ⟨by rw [show crc ([] : List (List Int)).flatten = 0 from rfl]; rfl, hw⟩
end Go.Proofs.YtefnkjajjidfaaaGreatDoor
