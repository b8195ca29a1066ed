/-
  wicketlaw02.Apart.
-/
import Derived.Test.YtndildimnanlpaaDoorJb
namespace Go.Proofs.YtndildimnanlpaaDoor
open Go.RowKit

theorem info25s : (Tryd.prog.info? 25).map (fun i => (i.zero, i.size, i.bytes)) = some (some (.slice none 0 0), 1, 24) := by kernel_rfl

theorem one_u8 (x : Int) : ∀ u ∈ [Value.int .u8 x], u.oneCell' = true := by
  intro u hu; obtain rfl := List.mem_singleton.1 hu; rfl
theorem one_slice (p : Option Addr) (n c : Nat) : ∀ u ∈ [Value.slice p n c], u.oneCell' = true := by
  intro u hu; obtain rfl := List.mem_singleton.1 hu; rfl

set_option maxRecDepth 100000 in
set_option maxHeartbeats 4000000 in
theorem apart_any (w : World) (B L m cL : Nat) (vp : Nat → Option Addr) (vn vc : Nat → Nat) (hF : Fam w B L m vp vn vc) (hm0 : 0 < m) :
    Calls Tryd.prog 16 #[.slice (some ⟨L, 0, none⟩) m cL] w fun e w' => e = .returned (.bool true) ∧ Fr m vp w w' := by
  have hfew := hF.few
  have HF : Hid (Fam w B L m vp vn vc) := hF
  clear hF
  go_enter Tryd.func16, Tryd.ntmps16
  go_wp2
  go_loopw [3] (fun i wr => ∃ a : Nat, a ≤ m ∧ i = .int .i64 a ∧ Mark w wr B m vp vn vc a 0) (fun i _ => m - (intOf i).toNat)
  case atStart => exact ⟨0, Nat.zero_le _, rfl, HF.out.start⟩
  case round =>
    obtain ⟨i, hi, rfl, hM⟩ := hrel
    by_cases hlt : i < m
    · have hc := HF.out.cell_L hM.fr i hlt
      have hn := HF.out.size i hlt
      have HM : Hid (Mark w wr B m vp vn vc i 0) := hM
      clear hM
      go_wp2
      go_loopw [4] (fun k wr => ∃ b : Nat, b ≤ vn i ∧ k = .int .i64 b ∧ Mark w wr B m vp vn vc i b) (fun k _ => vn i - (intOf k).toNat)
      case atStart => exact ⟨0, Nat.zero_le _, rfl, HM.out⟩
      case round =>
        obtain ⟨k, hk, rfl, hM2⟩ := hrel
        have hc2 := HF.out.cell_L hM2.fr i hlt
        clear hc HM
        by_cases hlk : k < vn i
        · obtain ⟨g, hg, ⟨u, hu⟩, hfz, hM3⟩ := hM2.store HF.out hlt hlk
          rw [hg] at hc2
          have h8 : ((i : Int) + 1) % 256 = (i : Int) + 1 := by omega
          have HM3 : Hid (Mark w (wr.setCell ⟨g, k, none⟩ (.int .u8 ((i : Int) + 1))) B m vp vn vc i (k + 1)) := hM3
          clear hM2 hM3 hg
          go_wp2
          go_roundw
          case rel => exact ⟨k + 1, by omega, by go_num, HM3.out⟩
          case measure => simp [intOf]; omega
        · have HM3 : Hid (Mark w wr B m vp vn vc (i + 1) 0) := hM2.next (by omega)
          clear hM2
          go_wp2
          go_roundw
          case rel => exact ⟨i + 1, by omega, by go_num, HM3.out⟩
          case measure => simp [intOf]; omega
    · obtain rfl : m = i := by omega
      have HG : Hid (Grow w wr B m vp vn vc 0 none 0 (.slice none 0 0) []) := hM.grow HF.out.base
      clear hM
      obtain ⟨i5, hi5, hz50, hz51, hz52⟩ := info_parts info5
      obtain ⟨i23, hi23, hz230, hz231, hz232⟩ := info_parts info25s
      go_wp2
      go_loopw [5, 6] (fun v i wr => ∃ (a : Nat) (LL : List Value), a ≤ m ∧ i = .int .i64 a ∧ LL.length = a ∧ Grow w wr B m vp vn vc a none 0 v LL) (fun _ i _ => m - (intOf i).toNat)
      case atStart => exact ⟨0, [], Nat.zero_le _, rfl, rfl, HG.out⟩
      case round =>
        obtain ⟨i, LL, hi, rfl, hL, hG⟩ := hrel
        clear HG
        have HLL : Hid (LL.length = i) := hL
        clear hL
        by_cases hlt2 : i < m
        · have hc := HF.out.cell_L hG.fr i hlt2
          have hn := HF.out.size i hlt2
          obtain ⟨hG2, hx, hfar⟩ := hG.begin HF.out hlt2
          have hO := Own.begin (w := w) hlt2 hx hfar
          have HG2 : Hid (Grow w wr B m vp vn vc (i + 1) (Value.slice (vp i) (vn i) (vc i)).ownBlock (vn i) u5 LL) := hG2
          have HX : Hid (wr.ownsRow B 5 1 (.slice (vp i) (vn i) (vc i)) (vn i) (rep (vn i) ((i : Int) + 1))) := hx
          have HO : Hid (Own w wr B m vp (i + 1) (Value.slice (vp i) (vn i) (vc i)).ownBlock) := hO
          clear hG hG2 hx hfar hO
          go_wp2
          go_loopw [7, 8] (fun x k wr => ∃ (b : Nat), b ≤ 16 ∧ k = .int .i64 b ∧ Grow w wr B m vp vn vc (i + 1) x.ownBlock (vn i + b) u5 LL ∧
              Own w wr B m vp (i + 1) x.ownBlock ∧ wr.ownsRow B 5 1 x (vn i + b) (rep (vn i + b) ((i : Int) + 1))) (fun _ k _ => 16 - (intOf k).toNat)
          case atStart => exact ⟨0, by omega, rfl, HG2.out, HO.out, HX.out⟩
          case round =>
            obtain ⟨b, hb, rfl, hG3, hO3, hX3⟩ := hrel
            clear HG2 HX HO hc
            have HG3 : Hid (Grow w wr B m vp vn vc (i + 1) u7.ownBlock (vn i + b) u5 LL) := hG3
            have HO3 : Hid (Own w wr B m vp (i + 1) u7.ownBlock) := hO3
            have HX3 : Hid (wr.ownsRow B 5 1 u7 (vn i + b) (rep (vn i + b) ((i : Int) + 1))) := hX3
            have HBs : Hid (B ≤ wr.heap.size) := hG3.base
            clear hG3 hO3 hX3
            by_cases hb80 : b < 16
            · have h8 : ((i : Int) + 1) % 256 = (i : Int) + 1 := by omega
              go_wp2_with (at_builtin; refine wpList_append_kept _ rfl (.tmp 49) (.tmp 53) 25 rfl B 5 i5 (.int .u8 0) 1 Tryd.underlying25 hi5 hz50 hz51 hz52 rfl u7 (vn i + b) (rep (vn i + b) ((i : Int) + 1)) rfl (HX3.out.alloc _) ⟨wr.heap.size, 0, none⟩ 1 1 [.int .u8 ((i : Int) + 1)] rfl rfl (cell_one_new _ _ _) (one_u8 _) (by omega) (by unfold maxLen; omega) (by omega) (by have := HBs.out; simp; omega) ?_)
              intro g cap w1 hown hgrow hat hgl hkeep
              have R := (HG3.out.alloc (.cells #[.int .u8 ((i : Int) + 1)] 5)).append HF.out (HO3.out.alloc _) hown hgrow (by simpa using hat) hkeep
              have HXn : Hid (w1.ownsRow B 5 1 (.slice (some ⟨g, 0, none⟩) (vn i + (b + 1)) cap) (vn i + (b + 1)) (rep (vn i + (b + 1)) ((i : Int) + 1))) := by
                have e : rep (vn i + b) ((i : Int) + 1) ++ [Value.int .u8 ((i : Int) + 1)] = rep (vn i + (b + 1)) ((i : Int) + 1) := List.replicate_succ'.symm
                rw [e] at hown
                exact hown
              have HR1 : Hid (Grow w w1 B m vp vn vc (i + 1) (some g) (vn i + (b + 1)) u5 LL) := R.1
              have HR2 : Hid (Own w w1 B m vp (i + 1) (some g)) := R.2
              clear hown hgrow hat hgl hkeep R HG3 HO3 HX3 HBs h8
              go_wp2
              go_roundw
              case rel => exact ⟨b + 1, by omega, by go_num, HR1.out, HR2.out, HXn.out⟩
              case measure => simp [intOf]; omega
            · obtain rfl : 16 = b := by omega
              obtain ⟨g, cap, hu7, _, _⟩ := World.ownsRow.form HX3.out (by omega)
              subst hu7
              have hlb : LL.length ≤ 900 := by have := HLL.out; omega
              have HS : Hid (w.heap.size ≤ wr.heap.size) := HG3.out.fr.size
              go_wp2_with (at_builtin; refine wpList_append_kept _ rfl (.tmp 55) (.tmp 57) 45 rfl w.heap.size 25 i23 (.slice none 0 0) 24 Tryd.underlying45 hi23 hz230 hz231 hz232 rfl u5 LL.length LL rfl (HG3.out.long.alloc _) ⟨wr.heap.size, 0, none⟩ 1 1 [.slice (some ⟨g, 0, none⟩) (vn i + 16) cap] rfl rfl (cell_one_new _ _ _) (one_slice _ _ _) (by omega) (by unfold maxLen; omega) (by omega) (by have := HS.out; simp; omega) ?_)
              intro g2 cap2 w2 hown2 hgrow2 _ _ _
              have R2 := (HG3.out.alloc (.cells #[.slice (some ⟨g, 0, none⟩) (vn i + 16) cap] 25)).enter (HO3.out.alloc _) (HX3.out.alloc _) (by omega) (by omega) HLL.out hown2 hgrow2
              have HQ1 : Hid (Grow w w2 B m vp vn vc (i + 1) none 0 (.slice (some ⟨g2, 0, none⟩) (LL.length + 1) cap2) (LL ++ [.slice (some ⟨g, 0, none⟩) (vn i + 16) cap])) := R2.1.next
              clear hown2 hgrow2 R2 HG3 HO3 HX3 HS HBs
              go_wp2
              go_roundw
              case rel => exact ⟨i + 1, LL ++ [.slice (some ⟨g, 0, none⟩) (vn i + 16) cap], by omega, by go_num, by rw [List.length_append, HLL.out]; rfl, HQ1.out⟩
              case measure => simp [intOf]; omega
        · obtain rfl : m = i := by omega
          obtain ⟨gV, capV, hV, _, _⟩ := World.ownsRow.form hG.long (by rw [HLL.out]; omega)
          rw [HLL.out] at hV
          subst hV
          have HLong : Hid (wr.ownsRow w.heap.size 25 1 (.slice (some ⟨gV, 0, none⟩) m capV) m LL) := by have := hG.long; rw [HLL.out] at this; exact this
          have HE : Hid (∀ q (h : q < LL.length), Entry wr m vp vn m none 0 q LL[q]) := hG.entry
          have HR : Hid (∀ j a, j < m → vp j = some a → Watch wr none 0 a.block 0 (vn j) ((j : Int) + 1)) := hG.rows
          have HFr : Hid (Fr m vp w wr) := hG.fr
          clear hG
          go_wp2
          go_loop [9] (fun i => ∃ a : Nat, a ≤ m ∧ i = .int .i64 a) (fun i => m - (intOf i).toNat)
          case atStart => exact ⟨0, Nat.zero_le _, rfl⟩
          case round =>
            obtain ⟨i, hi3, rfl⟩ := hrel
            by_cases hlt3 : i < m
            · have hc := HF.out.cell_L HFr.out i hlt3
              have hn := HF.out.size i hlt3
              have hq : i < LL.length := by rw [HLL.out]; exact hlt3
              have hcl := HLong.out.cellAt i (by omega)
              rw [List.getElem?_eq_getElem hq] at hcl
              obtain ⟨b, len, cap, e, h1, h2, h3, _⟩ := HE.out i hq
              rw [e] at hcl
              have HW : Hid (Watch wr none 0 b 0 len ((i : Int) + 1)) := h3
              clear e h3 hq
              go_wp2
              go_loop [10] (fun k => ∃ b : Nat, b ≤ len ∧ k = .int .i64 b) (fun k => len - (intOf k).toNat)
              case atStart => exact ⟨0, Nat.zero_le _, rfl⟩
              case round =>
                obtain ⟨k, hk, rfl⟩ := hrel
                by_cases hlk : k < len
                · have hcell := HW.out.cells k (Nat.zero_le _) hlk
                  have h8 : ((i : Int) + 1) % 256 = (i : Int) + 1 := by omega
                  by_cases hkv : k < vn i
                  · obtain ⟨g, hg⟩ := HF.out.shape i hlt3 (by omega)
                    have hcell2 := (HR.out i _ hlt3 hg).cells k (Nat.zero_le _) hkv
                    rw [hg] at hc
                    simp only at hcell2
                    clear hg
                    go_wp2
                    go_round
                    case rel => exact ⟨k + 1, by omega, by go_num⟩
                    case measure => simp [intOf]; omega
                  · go_wp2
                    go_round
                    case rel => exact ⟨k + 1, by omega, by go_num⟩
                    case measure => simp [intOf]; omega
                · go_wp2
                  go_round
                  case rel => exact ⟨i + 1, by omega, by go_num⟩
                  case measure => simp [intOf]; omega
            · go_wp2
              go_ret
              exact ⟨rfl, HFr.out⟩

end Go.Proofs.YtndildimnanlpaaDoor
