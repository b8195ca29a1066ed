/-
  The statements' own helpers: Apart.
-/
import Derived.Test.YtlidjenkicgldaaTb
namespace Go.Proofs.Ytlidjenkicgldaa
open Go.RowKit

theorem info23 : (Try.prog.info? 23).map (fun i => (i.zero, i.size, i.bytes)) = some (some (.slice none 0 0), 1, 24) := by kernel_rfl
theorem one_u8 (x : Int) : ∀ u ∈ [Value.int .u8 x], u.oneCell' = true := by
  intro u hu; obtain rfl := List.mem_singleton.1 hu; rfl
theorem one_slice (p : Option Addr) (n c : Nat) : ∀ u ∈ [Value.slice p n c], u.oneCell' = true := by
  intro u hu; obtain rfl := List.mem_singleton.1 hu; rfl

theorem Gr.alloc {w wr : World} {B g : Nat} {ws : List Wr} {vs : List Value} {i r : Nat} {V : Value} {LL : List Value} (h : Gr w wr B g ws.length vs i (some r) V LL) (hr5 : ∃ sz, Blk wr r 5 sz) (o : Obj) : Gr w (wr.alloc o) B g ws.length vs i (some r) V LL := by
  obtain ⟨sz, hb⟩ := hr5
  refine h.step (((Below.refl _ _)).alloc (Nat.le_trans h.hB h.bw) _) (by simp) (fun k hk _ => Below.heap_alloc _ _ _ hk) (fun k e => ?_) (fun k e => ?_) (fun b e => .inl e)
  · simp only [Option.some.injEq] at e
    subst e
    have hbk := Below.heap_alloc wr o r hb.lt
    refine ⟨?_, fun j _ => World.cell?_of_block (w := wr) (a := ⟨r, j, none⟩) hbk⟩
    obtain ⟨cs, hcs, _⟩ := hb
    exact ⟨cs, hbk.trans hcs⟩
  · simp only [Option.some.injEq] at e
    subst e
    exact ⟨sz, hb⟩

set_option maxRecDepth 100000 in
set_option maxHeartbeats 8000000 in
theorem apart_any {w : World} {B g : Nat} {ws : List Wr} {vs : List Value} (hT : Told w B g ws vs) (hB : B ≤ w.heap.size) (hm : ws.length ≤ 200) :
    Calls Try.prog 40 #[.slice (some ⟨g, 0, none⟩) ws.length ws.length] w fun e w' => e = .returned (.bool true) ∧ Below B w w' := by
  have HT : Hid (Told w B g ws vs) := hT
  clear hT
  go_enter Try.func40, Try.ntmps40
  go_wp2
  go_loopw [13] (fun v wr => ∃ i : Nat, i ≤ ws.length ∧ v = .int .i64 i ∧ Hid (Ph w wr B g ws.length vs i 0)) (fun v _ => ws.length - (intOf v).toNat)
  case atStart => exact ⟨0, Nat.zero_le _, rfl, HT.out.start⟩
  case round =>
    obtain ⟨i, hi, rfl, HP⟩ := hrel
    by_cases hlt : i < ws.length
    · have d1 := HP.out.data i hlt
      go_wp2
      clear d1
      go_loopw [22] (fun v wr => ∃ k : Nat, k ≤ 64 ∧ v = .int .i64 k ∧ Hid (Ph w wr B g ws.length vs i k)) (fun v _ => 64 - (intOf v).toNat)
      case atStart => exact ⟨0, Nat.zero_le _, rfl, HP.out⟩
      case round =>
        obtain ⟨k, hk, rfl, HQ⟩ := hrel
        clear HP
        by_cases hlk : k < 64
        · have d1 := HQ.out.data i hlt
          obtain ⟨⟨u, hu⟩, hf, hN⟩ := HQ.out.store HT.out hlt hlk
          have HN : Hid (Ph w (wr.setCell ⟨gOf vs i, k, none⟩ (.int .u8 ((i : Int) + 1))) B g ws.length vs i (k + 1)) := hN
          have h8 : ((i : Int) + 1) % 256 = (i : Int) + 1 := by omega
          clear hN HQ
          go_wp2
          go_roundw
          case rel => exact ⟨k + 1, by omega, by go_num, HN.out⟩
          case measure => simp [intOf]; omega
        · obtain rfl : k = 64 := by omega
          obtain ⟨⟨u, hu⟩, hf, hN⟩ := HQ.out.next HT.out hlt
          have HN : Hid (Ph w (wr.setCell ⟨g, i * 2, none⟩ (.int .i64 (-(i : Int)))) B g ws.length vs (i + 1) 0) := hN
          clear hN HQ
          go_wp2
          go_roundw
          case rel => exact ⟨i + 1, by omega, by go_num, HN.out⟩
          case measure => simp [intOf]; omega
    · obtain rfl : i = ws.length := by omega
      have HG0 : Hid (Gr w wr B g ws.length vs 0 none (.slice none 0 0) []) := HP.out.grow hB
      clear HP
      obtain ⟨i5, hi5, hz50, hz51, hz52⟩ := info_parts info5
      obtain ⟨i23, hi23, hz230, hz231, hz232⟩ := info_parts info23
      go_wp2
      go_loopw [5, 45] (fun V v wr => ∃ (i : Nat) (LL : List Value), i ≤ ws.length ∧ v = .int .i64 i ∧ Hid (LL.length = i ∧ Gr w wr B g ws.length vs i none V LL)) (fun _ v _ => ws.length - (intOf v).toNat)
      case atStart => exact ⟨0, [], Nat.zero_le _, rfl, rfl, HG0.out⟩
      case round =>
        obtain ⟨i, LL, hi, rfl, HG⟩ := hrel
        clear HG0
        by_cases hlt2 : i < ws.length
        · have d1 := HG.out.2.data i hlt2
          have HG2 : Hid (Gr w wr B g ws.length vs (i + 1) (some (gOf vs i)) u5 LL ∧ wr.ownsRow B 5 1 (.slice (some ⟨gOf vs i, 0, none⟩) 64 (cOf vs i)) 64 (rep 64 ((i : Int) + 1))) := ⟨HG.out.2.begin HT.out hlt2, HG.out.2.todo i (Nat.le_refl _) hlt2⟩
          have HLL : Hid (LL.length = i) := HG.out.1
          clear HG
          go_wp2
          clear d1
          go_loopw [7, 8] (fun x v wr => ∃ (b r cap : Nat), b ≤ 70 ∧ v = .int .i64 b ∧ x = .slice (some ⟨r, 0, none⟩) (64 + b) cap ∧ Hid (Gr w wr B g ws.length vs (i + 1) (some r) u5 LL ∧ wr.ownsRow B 5 1 (.slice (some ⟨r, 0, none⟩) (64 + b) cap) (64 + b) (rep (64 + b) ((i : Int) + 1)))) (fun _ v _ => 70 - (intOf v).toNat)
          case atStart => exact ⟨0, _, _, by omega, rfl, rfl, HG2.out⟩
          case round =>
            obtain ⟨b, r, cap, hb, rfl, rfl, HQ⟩ := hrel
            clear HG2
            by_cases hb70 : b < 70
            · have h8 : ((i : Int) + 1) % 256 = (i : Int) + 1 := by omega
              have hBs : B ≤ wr.heap.size := Nat.le_trans HQ.out.1.hB HQ.out.1.bw
              go_wp2_with (at_builtin; refine wpList_append_kept _ rfl (.tmp 57) (.tmp 61) 23 rfl B 5 i5 (.int .u8 0) 1 Try.underlying23 hi5 hz50 hz51 hz52 rfl _ (64 + b) (rep (64 + b) ((i : Int) + 1)) rfl (HQ.out.2.alloc _) ⟨wr.heap.size, 0, none⟩ 1 1 [.int .u8 ((i : Int) + 1)] rfl rfl (cell_one_new _ _ _) (one_u8 _) (by omega) (by unfold maxLen; omega) (by omega) (by simp; omega) ?_)
              intro g2 cap2 w1 hown hgrow hat hgl hkeep
              have hb5 : ∃ sz, Blk wr r 5 sz := ⟨_, (own_blk HQ.out.2).1⟩
              have hA := HQ.out.1.alloc hb5 (.cells #[.int .u8 ((i : Int) + 1)] 5)
              have hb5' : ∃ sz, Blk (wr.alloc (.cells #[.int .u8 ((i : Int) + 1)] 5)) r 5 sz := hb5.elim fun sz h => ⟨sz, h.same (Below.heap_alloc _ _ _ h.lt)⟩
              have hrB : B ≤ r := (own_blk HQ.out.2).2.2.2
              have hG1 : Gr w w1 B g ws.length vs (i + 1) (some g2) u5 LL := by
                refine hA.step ((Below.refl _ _).grown hgrow (by simp; omega) (fun k hk => by simp only [Value.ownBlock, Option.some.injEq] at hk; omega)) hgrow.size (fun k hk hne => hgrow.block k hk hne) (fun k e => ?_) (fun k e => ?_) (fun b' e => ?_)
                · obtain ⟨k1, k2⟩ := hkeep k e
                  exact ⟨k1, fun j hj => k2 j (by omega)⟩
                · simp only [Option.some.injEq] at e
                  subst e
                  exact hb5'
                · simp only [Option.some.injEq] at e
                  subst e
                  exact or_map hat (fun h => h) (fun h => by rw [h]; simp)
              have HU : Hid (Gr w w1 B g ws.length vs (i + 1) (some g2) u5 LL ∧ w1.ownsRow B 5 1 (.slice (some ⟨g2, 0, none⟩) (64 + (b + 1)) cap2) (64 + (b + 1)) (rep (64 + (b + 1)) ((i : Int) + 1))) := by
                refine ⟨hG1, ?_⟩
                have e : rep (64 + b) ((i : Int) + 1) ++ [Value.int .u8 ((i : Int) + 1)] = rep (64 + (b + 1)) ((i : Int) + 1) := List.replicate_succ'.symm
                rw [e] at hown
                exact hown
              clear hown hgrow hat hgl hkeep hA hb5 hb5' hG1 HQ
              go_wp2
              go_roundw
              case rel => exact ⟨b + 1, g2, cap2, by omega, by go_num, rfl, HU⟩
              case measure => simp [intOf]; omega
            · obtain rfl : b = 70 := by omega
              have HS : Hid (w.heap.size ≤ wr.heap.size) := HQ.out.1.bw
              have hlb : LL.length ≤ 200 := by rw [HLL.out]; omega
              go_wp2_with (at_builtin; refine wpList_append_own _ rfl (.tmp 63) (.tmp 65) 56 rfl w.heap.size 23 i23 (.slice none 0 0) 1 24 Try.underlying56 hi23 hz230 hz231 hz232 rfl (by omega) u5 LL.length LL rfl (HQ.out.1.alloc ⟨_, (own_blk HQ.out.2).1⟩ _).long ⟨wr.heap.size, 0, none⟩ 1 1 [.slice (some ⟨r, 0, none⟩) (64 + 70) cap] rfl rfl (cell_one_new _ _ _) (one_slice _ _ _) (by unfold maxLen; omega) (by omega) (by have := HS.out; simp; omega) ?_)
              intro V2 w2 hown2 hgrow2 _
              have hA := HQ.out.1.alloc ⟨_, (own_blk HQ.out.2).1⟩ (.cells #[.slice (some ⟨r, 0, none⟩) (64 + 70) cap] 23)
              have hM : MkR (wr.alloc (.cells #[.slice (some ⟨r, 0, none⟩) (64 + 70) cap] 23)) r 134 ((i : Int) + 1) := (MkR.of HQ.out.2).same (Below.heap_alloc _ _ _ (MkR.of HQ.out.2).lt)
              have HU : Hid ((LL ++ [Value.slice (some ⟨r, 0, none⟩) 134 cap]).length = i + 1 ∧ Gr w w2 B g ws.length vs (i + 1) none V2 (LL ++ [.slice (some ⟨r, 0, none⟩) 134 cap])) := ⟨by rw [List.length_append, HLL.out]; rfl, hA.enter HLL.out hM hown2 hgrow2⟩
              clear hown2 hgrow2 hA hM HQ
              go_wp2
              go_roundw
              case rel => exact ⟨i + 1, _, by omega, by go_num, HU⟩
              case measure => simp [intOf]; omega
        · obtain rfl : i = ws.length := by omega
          have HE : Hid (Gr w wr B g ws.length vs ws.length none u5 LL ∧ LL.length = ws.length) := ⟨HG.out.2, HG.out.1⟩
          obtain ⟨pV, cV, hV, _⟩ := own_slice HG.out.2.long
          subst hV
          clear HG
          go_wp2
          go_loop [70] (fun v => ∃ i : Nat, i ≤ ws.length ∧ v = .int .i64 i) (fun v => ws.length - (intOf v).toNat)
          case atStart => exact ⟨0, Nat.zero_le _, rfl⟩
          case round =>
            obtain ⟨i, hi3, rfl⟩ := hrel
            by_cases hlt3 : i < ws.length
            · have hiL : i < LL.length := by rw [HE.out.2]; exact hlt3
              obtain ⟨b, c, e1, e2, _, _⟩ := HE.out.1.entry i hiL
              obtain ⟨_, _, e3, _, e4⟩ := own_slice HE.out.1.long
              simp only [Value.slice.injEq, true_and] at e3
              cases pV with
              | none =>
                have h0 := HE.out.1.long.2
                rcases h0 with ⟨_, h0⟩ | ⟨_, _, _, h0, _⟩
                · omega
                · simp at h0
              | some aV =>
                obtain ⟨gV, rfl⟩ := e4 aV e3.1.symm
                have hcl := own_range HE.out.1.long i _ (List.getElem?_eq_getElem hiL)
                rw [Nat.zero_add, e1] at hcl
                have d1 := HE.out.1.data i hlt3
                have d0 := HE.out.1.sect i hlt3
                have HM1 : Hid (MkR wr b 134 ((i : Int) + 1)) := e2
                have HM2 : Hid (MkR wr (gOf vs i) 64 ((i : Int) + 1)) := HE.out.1.marks i hlt3
                have h8 : ((i : Int) + 1) % 256 = (i : Int) + 1 := by omega
                clear e1 e2 e3 e4
                go_wp2
                go_loop [78] (fun v => ∃ k : Nat, k ≤ 134 ∧ v = .int .i64 k) (fun v => 134 - (intOf v).toNat)
                case atStart => exact ⟨0, Nat.zero_le _, rfl⟩
                case round =>
                  obtain ⟨k, hk, rfl⟩ := hrel
                  by_cases hk4 : k < 134
                  · have m1 := HM1.out.2 k hk4
                    by_cases hk6 : k < 64
                    · have m2 := HM2.out.2 k hk6
                      go_wp2
                      go_round
                      case rel => exact ⟨k + 1, by omega, by go_num⟩
                      case measure => simp [intOf]; omega
                    · go_wp2
                      go_round
                      case rel => exact ⟨k + 1, by omega, by go_num⟩
                      case measure => simp [intOf]; omega
                  · go_wp2
                    go_round
                    case rel => exact ⟨i + 1, by omega, by go_num⟩
                    case measure => simp [intOf]; omega
            · go_wp2
              go_ret
              exact ⟨rfl, HE.out.1.below⟩
end Go.Proofs.Ytlidjenkicgldaa
