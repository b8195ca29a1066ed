/-
  Contracts of layer 2, first part: halve, push.
-/
import Derived.Test.YtaencchobpgogaaDoorRows
import Derived.Test.YtaencchobpgogaaDoorCrc
import Derived.Laws.BitsAllLaws
import Derived.Laws.Bits64
import Derived.Below
import Derived.WalkKit
import Derived.WalkSpells
import Derived.WalkLawsBesides
namespace Go.Proofs.YtaencchobpgogaaDoor
open Go.RowKit

/-- the table lies where the program lays it -/
def Tab (w : World) : Prop := ∀ i : Nat, i < 16 → w.cell? ⟨0, i, none⟩ = some (.int .u32 ((table.getD i 0 : Nat) : Int))

set_option maxHeartbeats 400000 in
theorem halve_any (x : Nat) (hx : x < 4294967296) (w : World) :
    Calls Tryd.prog 27 #[.int .u32 x] w fun e w' => e = .returned (.int .u32 (hv x : Nat)) ∧ w = w' := by
  have h1 : bits .and .u32 (x : Int) 1 = ((x % 2 : Nat) : Int) := by
    have := u32_and_nat x 1 hx (by omega)
    rw [nat_mask1] at this
    exact this
  go_enter Tryd.func27, Tryd.ntmps27
  go_wp2
  all_goals go_ret
  all_goals (refine ⟨?_, rfl⟩; rename_i hc; simp only [beq_iff_eq, beq_eq_false_iff_ne, ne_eq] at hc; simp)
  · have h2 := u32_xor_nat (x / 2) 3988292384 (by omega) (by omega)
    have e : hv x = x / 2 ^^^ 3988292384 := by unfold hv; rw [if_pos (by omega)]
    rw [e, ← h2]
    rfl
  · have e : hv x = x / 2 := by unfold hv; rw [if_neg (by omega), Nat.xor_zero]
    rw [e]
    rfl

theorem Tab.at {w : World} (h : Tab w) (y : Nat) : w.cell? ⟨0, y % 16, none⟩ = some (.int .u32 ((table.getD (y % 16) 0 : Nat) : Int)) := h _ (Nat.mod_lt _ (by omega))

theorem table_lt (y : Nat) : table.getD (y % 16) 0 < 4294967296 := by
  rw [table_hn _ (Nat.mod_lt _ (by omega))]
  exact hn_lt _ _ (by omega)

/-- four halvings as the program makes them -/
theorem four_step (w : World) (ht : Tab w) (y : Nat) (hy : y < 4294967296) : ∃ t : Nat, w.cell? ⟨0, y % 16, none⟩ = some (.int .u32 (t : Int)) ∧
    bits .xor .u32 ((y : Int) / 16) (t : Int) = ((hn 4 y : Nat) : Int) ∧ bits .and .u32 (y : Int) 15 = ((y % 16 : Nat) : Int) := by
  refine ⟨_, ht.at y, ?_, ?_⟩
  · rw [← hn_four, ← u32_xor_nat (y / 16) _ (by omega) (table_lt y)]
    rfl
  · have := u32_and_nat y 15 hy (by omega)
    rw [nat_mask4] at this
    exact this

set_option maxHeartbeats 400000 in
theorem push_any (x : Nat) (c : Int) (hx : x < 4294967296) (hc0 : 0 ≤ c) (hc1 : c < 256) (w : World) (ht : Tab w) :
    Calls Tryd.prog 20 #[.int .u32 x, .int .u8 c] w fun e w' => e = .returned (.int .u32 (hn 8 (x ^^^ c.toNat) : Nat)) ∧ w = w' := by
  obtain ⟨y, hy⟩ : ∃ y, y = x ^^^ c.toNat := ⟨_, rfl⟩
  have hyl : y < 4294967296 := by rw [hy]; exact xor_lt _ _ hx (by omega)
  have h1 : bits .xor .u32 (x : Int) c = (y : Int) := by
    rw [hy, ← u32_xor_nat x c.toNat hx (by omega)]
    congr 1
    omega
  obtain ⟨t, ht1, ht2, ht3⟩ := four_step w ht y hyl
  obtain ⟨z, hz⟩ : ∃ z, z = hn 4 y := ⟨_, rfl⟩
  have hzl : z < 4294967296 := by rw [hz]; exact hn_lt _ _ hyl
  obtain ⟨s, hs1, hs2, hs3⟩ := four_step w ht z hzl
  rw [← hz] at ht2
  obtain ⟨r, hr⟩ : ∃ r, r = hn 4 z := ⟨_, rfl⟩
  rw [← hr] at hs2
  have HY : Hid (r = hn 8 (x ^^^ c.toNat)) := by
    show r = _
    rw [hr, hz, hy, ← hn_add]
  clear hy hz hr ht
  go_enter Tryd.func20, Tryd.ntmps20
  go_wp2
  go_ret
  refine ⟨?_, rfl⟩
  simp [HY.out]

end Go.Proofs.YtaencchobpgogaaDoor
