/-
  wicketlaw05.Apart.
-/
import Derived.Test.YthgkdpniaednaaaBNa
namespace Go.Proofs.Ythgkdpniaednaaa.B
open Go.RowKit
theorem info23 : (Try.prog.info? 22).map (fun i => (i.zero, i.size, i.bytes)) = some (some (.slice none 0 0), 1, 24) := by kernel_rfl
theorem one_slice (p : Option Addr) (n c : Nat) : ∀ u ∈ [Value.slice p n c], u.oneCell' = true := by
  intro u hu; obtain rfl := List.mem_singleton.1 hu; rfl
set_option maxRecDepth 100000 in
set_option maxHeartbeats 4000000 in
set_option maxRecDepth 100000 in
theorem apart_any (w : World) (B L m cL : Nat) (vp : Nat → Option Addr) (vn vc : Nat → Nat) (hF : Fam w B L m vp vn vc) (hm0 : 0 < m) :
    Calls Try.prog 22 #[.slice (some ⟨L, 0, none⟩) m cL] w fun e w' => e = .returned (.bool true) ∧ Fr m vp w w' := by
  have hfew := hF.few
  have HF : Hid (Fam w B L m vp vn vc) := hF
  clear hF
  go_enter Try.func22, Try.ntmps22
  go_wp2
  go_loopw [3] (fun i wr => ∃ a : Nat, a ≤ m ∧ i = .int .i64 a ∧ Mark w wr B m vp vn vc a 0) (fun i _ => m - (intOf i).toNat)
  case atStart => exact ⟨0, Nat.zero_le _, rfl, HF.out.start⟩
  case round =>
    obtain ⟨i, hi, rfl, hM⟩ := hrel
    by_cases hlt : i < m
    · have hc := HF.out.cell_L hM.fr i hlt
      have hn := HF.out.size i hlt
      have HM : Hid (Mark w wr B m vp vn vc i 0) := hM
      clear hM
      go_wp2
      go_loopw [4] (fun k wr => ∃ b : Nat, b ≤ vn i ∧ k = .int .i64 b ∧ Mark w wr B m vp vn vc i b) (fun k _ => vn i - (intOf k).toNat)
      case atStart => exact ⟨0, Nat.zero_le _, rfl, HM.out⟩
      case round =>
        obtain ⟨k, hk, rfl, hM2⟩ := hrel
        have hc2 := HF.out.cell_L hM2.fr i hlt
        clear hc HM
        by_cases hlk : k < vn i
        · obtain ⟨g, hg, ⟨u, hu⟩, hfz, hM3⟩ := hM2.store HF.out hlt hlk
          rw [hg] at hc2
          have HM3 : Hid (Mark w (wr.setCell ⟨g, k, none⟩ (.int .i64 (-1 - (i : Int)))) B m vp vn vc i (k + 1)) := hM3
          clear hM2 hM3 hg
          go_wp2
          go_roundw
          case rel => exact ⟨k + 1, by omega, by go_num, HM3.out⟩
          case measure => simp [intOf]; omega
        · have HM3 : Hid (Mark w wr B m vp vn vc (i + 1) 0) := hM2.next (by omega)
          clear hM2
          go_wp2
          go_roundw
          case rel => exact ⟨i + 1, by omega, by go_num, HM3.out⟩
          case measure => simp [intOf]; omega
    · obtain rfl : m = i := by omega
      have HG : Hid (Grow w wr B m vp vn vc 0 none 0 (.slice none 0 0) []) := hM.grow HF.out.base
      clear hM
      obtain ⟨i5, hi5, hz50, hz51, hz52⟩ := info_parts info3
      obtain ⟨i23, hi23, hz230, hz231, hz232⟩ := info_parts info23
      go_wp2
      go_loopw [5, 6] (fun v i wr => ∃ (a : Nat) (LL : List Value), a ≤ m ∧ i = .int .i64 a ∧ LL.length = 17 * a ∧ Grow w wr B m vp vn vc a none 0 v LL) (fun _ i _ => m - (intOf i).toNat)
      case atStart => exact ⟨0, [], Nat.zero_le _, rfl, rfl, HG.out⟩
      case round =>
        obtain ⟨i, LL, hi, rfl, hL, hG⟩ := hrel
        clear HG
        have HLL : Hid (LL.length = 17 * i) := hL
        clear hL
        by_cases hlt2 : i < m
        · have hc := HF.out.cell_L hG.fr i hlt2
          have hn := HF.out.size i hlt2
          obtain ⟨hG2, ⟨xs, hx⟩, hfar⟩ := hG.begin HF.out hlt2
          have hO := Own.begin (w := w) hlt2 hx hfar
          have HG2 : Hid (Grow w wr B m vp vn vc (i + 1) (Value.slice (vp i) (vn i) (vc i)).ownBlock (vn i) u5 LL) := hG2
          have HX : Hid (wr.ownsRow B 3 1 (.slice (vp i) (vn i) (vc i)) (vn i) xs) := hx
          have HO : Hid (Own w wr B m vp (i + 1) (Value.slice (vp i) (vn i) (vc i)).ownBlock) := hO
          clear hG hG2 hx hfar hO
          go_wp2
          go_loopw [5, 7, 8] (fun v x k wr => ∃ (b : Nat) (LL ys : List Value), b ≤ 80 ∧ k = .int .i64 b ∧ Hid (LL.length = 17 * i + min b 16) ∧ Grow w wr B m vp vn vc (i + 1) x.ownBlock (vn i + b) v LL ∧
              Own w wr B m vp (i + 1) x.ownBlock ∧ Hid (ys.length = vn i) ∧ wr.ownsRow B 3 1 x (vn i + b) (ys ++ rep b (-1001 - (i : Int)))) (fun _ _ k _ => 80 - (intOf k).toNat)
          case atStart => exact ⟨0, LL, xs, by omega, rfl, by show _ = _; rw [HLL.out]; omega, HG2.out, HO.out, own_len HX.out, by simpa [rep] using HX.out⟩
          case round =>
            obtain ⟨b, LL2, ys, hb, rfl, HL2, hG3, hO3, HY, hX3⟩ := hrel
            clear HG2 HX HO hc HLL
            have HG3 : Hid (Grow w wr B m vp vn vc (i + 1) u7.ownBlock (vn i + b) u5 LL2) := hG3
            have HO3 : Hid (Own w wr B m vp (i + 1) u7.ownBlock) := hO3
            have HX3 : Hid (wr.ownsRow B 3 1 u7 (vn i + b) (ys ++ rep b (-1001 - (i : Int)))) := hX3
            have HBs : Hid (B ≤ wr.heap.size) := hG3.base
            clear hG3 hO3 hX3
            by_cases hb80 : b < 80
            · go_wp2_with (at_builtin; refine wpList_append_kept _ rfl (.tmp 51) (.tmp 54) 22 rfl B 3 i5 (.int .i64 0) 8 Try.underlying22 hi5 hz50 hz51 hz52 rfl u7 (vn i + b) (ys ++ rep b (-1001 - (i : Int))) rfl (HX3.out.alloc _) ⟨wr.heap.size, 0, none⟩ 1 1 [.int .i64 (-1001 - (i : Int))] rfl rfl (cell_one_new _ _ _) (one_i64 _) (by omega) (by unfold maxLen; omega) (by omega) (by have := HBs.out; simp; omega) ?_)
              intro g cap w1 hown hgrow hat hgl hkeep
              have R := (HG3.out.alloc (.cells #[.int .i64 (-1001 - (i : Int))] 3)).append HF.out (HO3.out.alloc _) hown hgrow (by simpa using hat) hkeep
              have HXn : Hid (w1.ownsRow B 3 1 (.slice (some ⟨g, 0, none⟩) (vn i + (b + 1)) cap) (vn i + (b + 1)) (ys ++ rep (b + 1) (-1001 - (i : Int)))) := by
                have e : rep b (-1001 - (i : Int)) ++ [Value.int .i64 (-1001 - (i : Int))] = rep (b + 1) (-1001 - (i : Int)) := List.replicate_succ'.symm
                rw [e] at hown
                exact hown
              have HR1 : Hid (Grow w w1 B m vp vn vc (i + 1) (some g) (vn i + (b + 1)) u5 LL2) := R.1
              have HR2 : Hid (Own w w1 B m vp (i + 1) (some g)) := R.2
              clear hown hgrow hat hgl hkeep R HG3 HO3 HX3 HBs
              by_cases hb16 : b < 16
              · have hll : LL2.length = 17 * i + b := by rw [HL2.out]; omega
                have hlb : LL2.length ≤ 9000 := by omega
                have HLL2 : Hid (LL2.length = 17 * i + b) := hll
                clear hll
                have HS : Hid (w.heap.size ≤ w1.heap.size) := HR1.out.fr.size
                go_wp2_with (at_builtin; refine wpList_append_kept _ rfl (.tmp 58) (.tmp 60) 49 rfl w.heap.size 22 i23 (.slice none 0 0) 24 Try.underlying49 hi23 hz230 hz231 hz232 rfl u5 LL2.length LL2 rfl (HR1.out.long.alloc _) ⟨w1.heap.size, 0, none⟩ 1 1 [.slice (some ⟨g, 0, none⟩) (vn i + b + 1) cap] rfl rfl (cell_one_new _ _ _) (one_slice _ _ _) (by omega) (by unfold maxLen; omega) (by omega) (by have := HS.out; simp; omega) ?_)
                intro g2 cap2 w2 hown2 hgrow2 _ _ _
                have e9 : vn i + (b + 1) - vn i = b + 1 := by omega
                have R2 := (HR1.out.alloc (.cells #[.slice (some ⟨g, 0, none⟩) (vn i + b + 1) cap] 22)).enter (HR2.out.alloc _) (xs := ys) (by rw [e9]; exact HXn.out.alloc _) HY.out (by omega) (by omega) (by rw [HLL2.out]; omega) hown2 hgrow2
                rw [e9] at R2
                have HQ1 : Hid (Grow w w2 B m vp vn vc (i + 1) (some g) (vn i + (b + 1)) (.slice (some ⟨g2, 0, none⟩) (LL2.length + 1) cap2) (LL2 ++ [.slice (some ⟨g, 0, none⟩) (vn i + b + 1) cap])) := R2.1
                have HQ2 : Hid (Own w w2 B m vp (i + 1) (some g)) := R2.2.1
                have HQ3 : Hid (w2.ownsRow B 3 1 (.slice (some ⟨g, 0, none⟩) (vn i + (b + 1)) cap) (vn i + (b + 1)) (ys ++ rep (b + 1) (-1001 - (i : Int)))) := R2.2.2
                clear hown2 hgrow2 R2 HR1 HR2 HXn HS e9
                go_wp2
                go_roundw
                case rel =>
                  have hlen : Hid ((LL2 ++ [Value.slice (some ⟨g, 0, none⟩) (vn i + b + 1) cap]).length = 17 * i + min (b + 1) 16) := by show _ = _; rw [List.length_append, HLL2.out]; simp only [List.length_singleton]; omega
                  exact ⟨b + 1, LL2 ++ [Value.slice (some ⟨g, 0, none⟩) (vn i + b + 1) cap], ys, by omega, by go_num, hlen, HQ1.out, HQ2.out, HY, HQ3.out⟩
                case measure => simp [intOf]; omega
              · go_wp2
                go_roundw
                case rel => exact ⟨b + 1, LL2, ys, by omega, by go_num, by show _ = _; rw [HL2.out]; omega, HR1.out, HR2.out, HY, HXn.out⟩
                case measure => simp [intOf]; omega
            · obtain rfl : 80 = b := by omega
              obtain ⟨g, cap, hu7, _, _⟩ := World.ownsRow.form HX3.out (by omega)
              subst hu7
              have hll : LL2.length = 17 * i + 16 := by rw [HL2.out]; omega
              have hlb : LL2.length ≤ 9000 := by omega
              have HLL2 : Hid (LL2.length = 17 * i + 16) := hll
              clear hll
              have HS : Hid (w.heap.size ≤ wr.heap.size) := HG3.out.fr.size
              go_wp2_with (at_builtin; refine wpList_append_kept _ rfl (.tmp 62) (.tmp 64) 49 rfl w.heap.size 22 i23 (.slice none 0 0) 24 Try.underlying49 hi23 hz230 hz231 hz232 rfl u5 LL2.length LL2 rfl (HG3.out.long.alloc _) ⟨wr.heap.size, 0, none⟩ 1 1 [.slice (some ⟨g, 0, none⟩) (vn i + 80) cap] rfl rfl (cell_one_new _ _ _) (one_slice _ _ _) (by omega) (by unfold maxLen; omega) (by omega) (by have := HS.out; simp; omega) ?_)
              intro g2 cap2 w2 hown2 hgrow2 _ _ _
              have e9 : vn i + 80 - vn i = 80 := by omega
              have R2 := (HG3.out.alloc (.cells #[.slice (some ⟨g, 0, none⟩) (vn i + 80) cap] 22)).enter (HO3.out.alloc _) (xs := ys) (by rw [e9]; exact HX3.out.alloc _) HY.out (by omega) (by omega) (by rw [HLL2.out]; omega) hown2 hgrow2
              have HQ1 : Hid (Grow w w2 B m vp vn vc (i + 1) none 0 (.slice (some ⟨g2, 0, none⟩) (LL2.length + 1) cap2) (LL2 ++ [.slice (some ⟨g, 0, none⟩) (vn i + 80) cap])) := R2.1.next
              clear hown2 hgrow2 R2 HG3 HO3 HX3 HS e9 HBs
              go_wp2
              go_roundw
              case rel => exact ⟨i + 1, LL2 ++ [.slice (some ⟨g, 0, none⟩) (vn i + 80) cap], by omega, by go_num, by rw [List.length_append, HLL2.out]; simp only [List.length_singleton]; omega, HQ1.out⟩
              case measure => simp [intOf]; omega
        · obtain rfl : m = i := by omega
          obtain ⟨gV, capV, hV, _, _⟩ := World.ownsRow.form hG.long (by rw [HLL.out]; omega)
          rw [HLL.out] at hV
          subst hV
          have HLong : Hid (wr.ownsRow w.heap.size 22 1 (.slice (some ⟨gV, 0, none⟩) (17 * m) capV) (17 * m) LL) := by have := hG.long; rw [HLL.out] at this; exact this
          have HE : Hid (∀ q (h : q < LL.length), Entry wr m vp vn m none 0 q LL[q]) := hG.entry
          have HR : Hid (∀ j a, j < m → vp j = some a → Watch wr none 0 a.block 0 (vn j) (-1 - (j : Int))) := hG.rows
          have HFr : Hid (Fr m vp w wr) := hG.fr
          clear hG
          go_wp2
          go_loop [9] (fun i => ∃ a : Nat, a ≤ m ∧ i = .int .i64 a) (fun i => m - (intOf i).toNat)
          case atStart => exact ⟨0, Nat.zero_le _, rfl⟩
          case round =>
            obtain ⟨i, hi3, rfl⟩ := hrel
            by_cases hlt3 : i < m
            · have hc := HF.out.cell_L HFr.out i hlt3
              have hn := HF.out.size i hlt3
              go_wp2
              go_loop [10] (fun k => ∃ b : Nat, b ≤ vn i ∧ k = .int .i64 b) (fun k => vn i - (intOf k).toNat)
              case atStart => exact ⟨0, Nat.zero_le _, rfl⟩
              case round =>
                obtain ⟨k, hk, rfl⟩ := hrel
                by_cases hlk : k < vn i
                · obtain ⟨g, hg⟩ := HF.out.shape i hlt3 (by omega)
                  have hcell := (HR.out i _ hlt3 hg).cells k (Nat.zero_le _) hlk
                  rw [hg] at hc
                  simp only at hcell
                  clear hg
                  go_wp2
                  go_round
                  case rel => exact ⟨k + 1, by omega, by go_num⟩
                  case measure => simp [intOf]; omega
                · go_wp2
                  go_loop [11] (fun k => ∃ b : Nat, b ≤ 17 ∧ k = .int .i64 b) (fun k => 17 - (intOf k).toNat)
                  case atStart => exact ⟨0, Nat.zero_le _, rfl⟩
                  case round =>
                    obtain ⟨g, hg, rfl⟩ := hrel
                    by_cases hlg : g < 17
                    · have hq : 17 * i + g < LL.length := by rw [HLL.out]; omega
                      have hcl := HLong.out.cellAt (17 * i + g) (by omega)
                      rw [List.getElem?_eq_getElem hq] at hcl
                      obtain ⟨b, len, cap, e, h1, h2, h3, _⟩ := HE.out (17 * i + g) hq
                      have hqi : (17 * i + g) / 17 = i := by omega
                      rw [hqi] at h1 h3
                      rw [e] at hcl
                      have HW : Hid (Watch wr none 0 b (vn i) len (-1001 - (i : Int))) := h3
                      clear e h3 hqi hq
                      go_wp2
                      go_loop [13] (fun k => ∃ b : Nat, vn i ≤ b ∧ b ≤ len ∧ k = .int .i64 b) (fun k => len - (intOf k).toNat)
                      case atStart => exact ⟨vn i, Nat.le_refl _, h1, rfl⟩
                      case round =>
                        obtain ⟨y, hy1, hy2, rfl⟩ := hrel
                        by_cases hly : y < len
                        · have hcell := HW.out.cells y hy1 hly
                          go_wp2
                          go_round
                          case rel => exact ⟨y + 1, by omega, by omega, by go_num⟩
                          case measure => simp [intOf]; omega
                        · go_wp2
                          go_round
                          case rel => exact ⟨g + 1, by omega, by go_num⟩
                          case measure => simp [intOf]; omega
                    · go_wp2
                      go_round
                      case rel => exact ⟨i + 1, by omega, by go_num⟩
                      case measure => simp [intOf]; omega
            · go_wp2
              go_ret
              exact ⟨rfl, HFr.out⟩
end Go.Proofs.Ythgkdpniaednaaa.B
