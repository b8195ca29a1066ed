/-
  Layer 11: TicketPlays.
-/
import Derived.Test.YtmmmgknlbkckdaaTv
import Derived.Test.YtmmmgknlbkckdaaTx
import Derived.Deep.RegionHeld3
import Derived.LaidMore
import Derived.BigQuiet
namespace Go.Proofs.Ytmmmgknlbkckdaa
open Go.RowKit

open Go.Shelf
attribute [local go_sem] Oper.semAt_some
/-- what is read where a kept sequence is held against the document's list -/
structure Facts (w : World) (l kb a P R : Nat) (u v : Value) : Prop where
  h1 : w.cell? ⟨l, 0, none⟩ = some u
  h2 : w.cell? ⟨kb, 0, none⟩ = some (.int .i64 a)
  h3 : w.cell? ⟨P, 2 + a, none⟩ = some (qp R)
  h4 : w.cell? ⟨R, 0, none⟩ = some v

set_option maxRecDepth 100000 in
set_option maxHeartbeats 8000000 in
theorem ticketPlays_any (p : Option Addr) (n c : Nat) (f : Nat → OpV) (w : World) (hp : ScIn w p n f) (hn : n ≤ 9223372036854775807) :
    Calls Try.prog 5 #[.slice p n c] w fun e w' => e = .returned (.bool true) ∧ Below w.heap.size w w' := by
  have HP : Hid (ScIn w p n f) := hp
  clear hp
  refine (callsIn_wide (n := 9)).1 ?_
  refine callsIn_of_wp_marks Try.func5 rfl trivial ?_ rfl
  simp only [Try.ntmps5, List.size_toArray, List.length_cons, List.length_nil, Nat.reduceAdd, Nat.reduceSub, Array.replicate_succ, Array.replicate_zero, List.push_toArray, List.append_toArray, List.nil_append, List.cons_append]
  refine wpIn_wide.2 ?_
  go_wp2_with fail
  refine (awake_any w).mono ?_
  rintro e wa ⟨rfl, ba⟩
  have BA : Hid (Below w.heap.size w wa) := ba
  clear ba
  go_wp2_with fail
  have N1 : Hid (Next wa (((((wa.alloc (qnew 28)).alloc (qnew 28)).alloc (qnew 44)).alloc (qnew 44)).alloc (.cells #[qp wa.heap.size, qp (wa.heap.size + 1), qp (wa.heap.size + 1 + 1), qp (wa.heap.size + 1 + 1 + 1), .slice none 0 0] 48)) (wa.heap.size + 1 + 1 + 1 + 1) 0) := Next.start wa
  revert N1
  generalize (((((wa.alloc (qnew 28)).alloc (qnew 28)).alloc (qnew 44)).alloc (qnew 44)).alloc (.cells #[qp wa.heap.size, qp (wa.heap.size + 1), qp (wa.heap.size + 1 + 1), qp (wa.heap.size + 1 + 1 + 1), .slice none 0 0] 48)) = w1
  generalize wa.heap.size + 1 + 1 + 1 + 1 = P
  intro N1
  go_loopw [4] (fun i wr => ∃ k : Nat, k ≤ n ∧ k ≤ 60 ∧ i = .int .i64 k ∧ Hid (Next wa wr P k)) (fun i _ => 60 - (intOf i).toNat)
  case atStart => exact ⟨0, Nat.zero_le _, Nat.zero_le _, rfl, N1⟩
  case round =>
    clear N1
    obtain ⟨k, hkn, hk60, rfl, NK⟩ := hrel
    by_cases hgo : k < n ∧ k < 60
    · obtain ⟨h1, h2⟩ := hgo
      have i1 : (k : Int) < (n : Int) := by omega
      have i2 : (k : Int) < 60 := by omega
      have BW : Hid (Below w.heap.size w wr) := by
        obtain ⟨Q, v, X, Y, kv, ks, h⟩ := NK.out
        exact below_then BA.out h.ps.below
      obtain ⟨b, o, rfl, hc⟩ := (HP.out.later BW.out).cells (by omega)
      have HL : Hid ((Instr.loadAt 51 (.pointer (some ⟨b, o + k * 4, none⟩))).run Try.prog wr = .ok (.agg #[.int .i64 (f k).kd, .int .i64 (f k).wh, .int .u64 (f k).t, .int .i64 (f k).N]) wr) := load51 (hc k h1)
      clear hc BW
      generalize f k = op at *
      have hrw : IntKind.i64.wrap ((k : Int) + 1) = (k : Int) + 1 := by rw [IntKind.wrap_i64]; omega
      go_wp2_with ((with_reducible refine at_ops ?_); refine wpList_load_is (by rfl) 51 rfl rfl HL.out ?_; simp only [Act.put, List.setIfInBounds_toArray, List.set_cons_zero, List.set_cons_succ])
      refine (plays_any NK.out (by omega) op.kd op.wh op.t op.N).mono ?_
      rintro e w2 ⟨rfl, n2⟩
      have N2 : Hid (Next wa w2 P (k + 1)) := n2
      clear n2 NK HL
      go_wp2_with fail
      go_roundw
      case rel => exact ⟨k + 1, by omega, by omega, by go_num, N2⟩
      case measure => simp [intOf]; omega
    · have hst : Hid (k = k) := rfl
      obtain ⟨Q, vv, X, Y, kv, ks, st⟩ := NK.out
      have S1 : Hid (St wa wr P Q vv X Y kv ks k) := st
      clear NK st hst
      by_cases i1 : (k : Int) < (n : Int)
      · have i2 : ¬ (k : Int) < 60 := by omega
        clear hgo
        go_wp2_with fail
        go_loopw [5] (fun i wx => ∃ j : Nat, j ≤ 2 ∧ i = .int .i64 j ∧ Hid (St wa wx P Q vv X Y kv ks k)) (fun i _ => 2 - (intOf i).toNat)
        case atStart => exact ⟨0, Nat.zero_le _, rfl, S1⟩
        case round =>
          clear S1
          obtain ⟨j, hj2, rfl, S2⟩ := hrel
          by_cases hj : j < 2
          · have c0 := S2.out.ps.cq hj
            have j1 : (j : Int) < 2 := by omega
            have hrw : IntKind.i64.wrap ((j : Int) + 1) = (j : Int) + 1 := by rw [IntKind.wrap_i64]; omega
            have hlen : (X j).length ≤ 1000 := by have := S2.out.len j hj; omega
            go_wp2_with fail
            refine (slisted S2.out (by omega) hj (-1)).mono ?_
            rintro e w3 ⟨q1, c1, rfl, hI, hb⟩
            rw [firsts_all] at hI ⊢
            have I1 : Hid (UIn w3 q1 (X j).length (X j)) := hI
            have S3 : Hid (St wa w3 P Q vv X Y kv ks k) := S2.out.later hb
            have cr := S3.out.ps.cr hj
            obtain ⟨pl, cl, hcl, hIL, _⟩ := S3.out.rl hj
            have IL : Hid (UIn w3 pl (X j).length (X j)) := hIL
            clear hI hb S2 c0 hIL
            go_wp2_with fail
            refine (same_any q1 pl _ c1 _ cl (X j) (X j) w3 I1.out IL.out (by omega)).mono ?_
            rintro e w4 ⟨rfl, b4⟩
            have S4 : Hid (St wa w4 P Q vv X Y kv ks k) := S3.out.later b4
            clear b4 S3 cr hcl
            rw [show decide (X j = X j) = true by simp]
            go_wp2_with fail
            go_roundw
            case rel => exact ⟨j + 1, by omega, by go_num, S4⟩
            case measure => simp [intOf]; omega
          · have j1 : ¬ (j : Int) < 2 := by omega
            obtain ⟨pk, ck, rfl, hK⟩ := KIn.of S2.out.ps.kept
            have KI : Hid (KIn wr pk ks) := hK
            have c4 := S2.out.ps.ck
            have hkl : ks.length ≤ 60 := by have := S2.out.klen; omega
            clear hK
            go_wp2_with fail
            clear c4 j1 hj hj2
            refine wp_loop (Fr3 wa wr P (.slice pk ks.length ck) ks.length) (fun a' _ => m3 ks.length a') ?_ ?_
            · exact ⟨0, [], Nat.zero_le _, Below.refl _ _, Marks.nil _ _, rfl, rfl, rfl, rfl, rfl, rfl⟩
            intro a3 wx hI
            obtain ⟨r, ds, hr, BL, MK, hsz, h3, h76, h77, h78, hds⟩ := hI
            have hfr := frame_slots a3 hsz
            rw [h3, h76, h77, h78, hds] at hfr
            rw [m3_is h78, hfr]
            clear hsz h3 h76 h77 h78 hds hfr
            by_cases hlt : r < ks.length
            · obtain ⟨g, rfl, ca, cb⟩ := (KI.out.later BL.out).cells r hlt
              obtain ⟨a, b, hx⟩ : ∃ a b, ks[r] = (a, b) := ⟨_, _, rfl⟩
              rw [hx] at ca cb
              have hmem : (a, b) ∈ ks := by rw [← hx]; exact List.getElem_mem hlt
              have SX : Hid (St wa wx P Q vv X Y (.slice (some ⟨g, 0, none⟩) ks.length ck) ks k) := S2.out.later BL.out
              have ha2 : a < 2 := (SX.out.ps.box _ hmem).1
              have BX : Hid (Boxed wx b 25 (qp (Q a))) := (SX.out.ps.box _ hmem).2
              have HL : Hid ((Instr.loadAt 55 (.pointer (some ⟨g, r * 2, none⟩))).run Try.prog wx = .ok (.agg #[.int .i64 (a : Nat), seqV b]) wx) := load55 ca cb
              have HA : Hid ((Instr.alloc 55 true (.tuple #[])).run Try.prog wx = .ok (.pointer (some ⟨wx.heap.size, 0, none⟩)) (wx.alloc (.cells #[.int .i64 0, .nilFunc] 55))) := alloc55 wx
              have HT : Hid ((Instr.storeAt 55 (.pointer (some ⟨wx.heap.size, 0, none⟩)) (.agg #[.int .i64 (a : Nat), seqV b])).run Try.prog (wx.alloc (.cells #[.int .i64 0, .nilFunc] 55)) = .ok () (wx.alloc (.cells #[.int .i64 (a : Nat), seqV b] 55))) := store55 wx _ _
              have r1 : (r : Int) < (ks.length : Int) := by omega
              clear ca cb hx hmem
              go_wp2_with ((with_reducible refine at_ops ?_); first | (refine wpList_load_is (by rfl) 55 rfl rfl HL.out ?_; simp only [Act.put, List.setIfInBounds_toArray, List.set_cons_zero, List.set_cons_succ]) | (refine wpList_alloc_is (by rfl) 55 rfl HA.out ?_; simp only [Act.put, List.setIfInBounds_toArray, List.set_cons_zero, List.set_cons_succ]) | (refine wpList_store_is (by rfl) 55 rfl rfl rfl HT.out ?_; simp only [Act.put]))
              clear HL HA HT
              have B9 : Hid (Below wx.heap.size wx (wx.alloc (.cells #[.int .i64 (a : Nat), seqV b] 55))) := below_alloc wx _
              have K9 : Hid ((wx.alloc (.cells #[.int .i64 (a : Nat), seqV b] 55)).heap[wx.heap.size]? = some (.cells #[.int .i64 (a : Nat), seqV b] 55 (0, 0))) := heap_alloc_new wx _
              obtain ⟨kb, hkb⟩ : ∃ kb, kb = wx.heap.size := ⟨_, rfl⟩
              revert B9 K9
              generalize wx.alloc (.cells #[.int .i64 (a : Nat), seqV b] 55) = w9
              intro B9 K9
              have S9 : Hid (St wa w9 P Q vv X Y (.slice (some ⟨g, 0, none⟩) ks.length ck) ks k) := SX.out.later B9.out
              have X9 : Hid (Boxed w9 b 25 (qp (Q a))) := (B9.out.block b BX.out.lt).trans BX.out
              have M9 : Hid (Marks wa.heap.size w9 ds) := MK.out.later B9.out
              have L9 : Hid (Below wr.heap.size wr w9) := below_then BL.out B9.out
              clear BX SX MK BL B9
              rw [← hkb] at K9 ⊢
              clear hkb
              refine wp_loop (Fr4 wa w9 P kb (.slice (some ⟨g, 0, none⟩) ks.length ck) ks.length r) (fun a' _ => m4 a') ?_ ?_
              · exact ⟨0, ds, Nat.zero_le _, Below.refl _ _, M9, rfl, rfl, rfl, rfl, rfl, rfl, rfl, rfl⟩
              clear M9 ds
              intro a4 wy hI
              obtain ⟨c, ds, hc, BY, MY, hsz, h3, h9, h76, h77, h78, h82, hds⟩ := hI
              have hfr := frame_slots a4 hsz
              rw [h3, h9, h76, h77, h78, h82, hds] at hfr
              rw [m4_is h82, hfr]
              clear hsz h3 h9 h76 h77 h78 h82 hds hfr
              by_cases hc2 : c < 2
              · have SY : Hid (St wa wy P Q vv X Y (.slice (some ⟨g, 0, none⟩) ks.length ck) ks k) := S9.out.later BY.out
                have XY : Hid (Boxed wy b 25 (qp (Q a))) := (BY.out.block b X9.out.lt).trans X9.out
                have KY : Hid (wy.heap[kb]? = some (.cells #[.int .i64 (a : Nat), seqV b] 55 (0, 0))) := (BY.out.block kb (Array.getElem?_eq_some_iff.1 K9.out).1).trans K9.out
                have k1 : (wy.alloc (.cells #[.slice none 0 0] 22)).cell? ⟨kb, 1, none⟩ = some (seqV b) := by
                  rw [cell_of_row _ kb 1 _ 55 (0, 0) (((below_alloc wy _).block kb (Array.getElem?_eq_some_iff.1 KY.out).1).trans KY.out)]
                  rfl
                have c1 : (c : Int) < 2 := by omega
                go_wp2_with fail
                refine (wpIn_wide (n := 9)).1 ?_
                have bL := Boxed.new wy 22 (.slice none 0 0)
                have hB0 : Below wy.heap.size wy (wy.alloc (.cells #[.slice none 0 0] 22)) := below_alloc wy _
                have hs0 : (wy.alloc (.cells #[.slice none 0 0] 22)).heap.size = wy.heap.size + 1 := by simp
                have bB : Boxed (wy.alloc (.cells #[.slice none 0 0] 22)) b 25 (qp (Q a)) := XY.out.alloc _
                clear k1
                obtain ⟨W0, hW0⟩ : ∃ W0, wy.alloc (.cells #[.slice none 0 0] 22) = W0 := ⟨_, rfl⟩
                rw [hW0] at bL hB0 hs0 bB ⊢
                clear hW0
                have hxa : (X a).length ≤ 1000 := by have := SY.out.len a ha2; omega
                have hbl := bB.lt
                refine wpIn_rangeFunc_ownG (F := Fence.wide) (n := 9) (P := Try.prog) rfl (by decide) (gf := 26) (lb := #[.pointer (some ⟨b, 0, none⟩)]) rfl trivial (enters_of Try.func26 (by kernel_rfl) rfl)
                  (all_stops Fence.wide (9 - 1) trivial rfl (by decide) b wy.heap.size (some ⟨Q a, 0, none⟩) (X a) (by omega) W0 wy hbl (by omega) hB0 rfl bB.cell (SY.out.stands ha2)) belowK_t (belowK_b (by omega)) (Below.refl _ _) (fun _ => rfl)
                  (LJ wy.heap.size wy) (fun _ _ _ => False) (LJ.own (by omega)) (fun _ _ _ _ _ hs => hs.elim) ⟨⟨_, bL, World.ownsRow_nil _ _ _ _, trivial⟩, hB0⟩
                  (fun x => { tmps := #[slotAt a4 0, slotAt a4 1, slotAt a4 2, qp P, slotAt a4 4, slotAt a4 5, slotAt a4 6, slotAt a4 7, slotAt a4 8, .pointer (some ⟨kb, 0, none⟩), .pointer (some ⟨wy.heap.size, 0, none⟩), .int .u64 x, slotAt a4 12, slotAt a4 13, slotAt a4 14, slotAt a4 15, slotAt a4 16, slotAt a4 17, slotAt a4 18, slotAt a4 19, slotAt a4 20, slotAt a4 21, slotAt a4 22, slotAt a4 23, slotAt a4 24, slotAt a4 25, slotAt a4 26, slotAt a4 27, slotAt a4 28, slotAt a4 29, slotAt a4 30, slotAt a4 31, slotAt a4 32, slotAt a4 33, slotAt a4 34, slotAt a4 35, slotAt a4 36, slotAt a4 37, slotAt a4 38, slotAt a4 39, slotAt a4 40, slotAt a4 41, slotAt a4 42, slotAt a4 43, slotAt a4 44, slotAt a4 45, slotAt a4 46, slotAt a4 47, slotAt a4 48, slotAt a4 49, slotAt a4 50, slotAt a4 51, slotAt a4 52, slotAt a4 53, slotAt a4 54, slotAt a4 55, slotAt a4 56, slotAt a4 57, slotAt a4 58, slotAt a4 59, slotAt a4 60, slotAt a4 61, slotAt a4 62, slotAt a4 63, slotAt a4 64, slotAt a4 65, slotAt a4 66, slotAt a4 67, slotAt a4 68, slotAt a4 69, slotAt a4 70, slotAt a4 71, slotAt a4 72, slotAt a4 73, slotAt a4 74, slotAt a4 75, .slice (some ⟨g, 0, none⟩) ks.length ck, .int .i64 ks.length, .int .i64 r, slotAt a4 79, slotAt a4 80, slotAt a4 81, .int .i64 c, .bool true, .pointer (some ⟨kb, 1, none⟩), seqV b, .int .u64 x, slotAt a4 87, slotAt a4 88, slotAt a4 89, slotAt a4 90, slotAt a4 91, slotAt a4 92, slotAt a4 93, slotAt a4 94, slotAt a4 95, slotAt a4 96, slotAt a4 97, slotAt a4 98, slotAt a4 99, slotAt a4 100, slotAt a4 101, slotAt a4 102, slotAt a4 103, slotAt a4 104, slotAt a4 105], defers := [] }) ?assign ?body ?done ?stop
                case assign =>
                  intro l x W K hK
                  gi_wp2
                  exact hK
                case body =>
                  rintro l pre x W ⟨⟨v, hv, hrow, _⟩, hB⟩ hlt
                  have hc := hv.cell
                  have hle := hB.size
                  have hml : 10001 ≤ maxLen := by decide
                  obtain ⟨i0, hi, hz0, hz1, hz2⟩ := info_parts info26
                  obtain ⟨pv, cv, rfl, _, _, _⟩ := (Row.own hrow).1.form
                  have hpl : pre.length ≤ 1000 := by omega
                  gi_wp2_with (gi_at_builtin; refine wpListIn_append_own _ rfl _ _ 22 rfl wy.heap.size 26 i0 (.int .u64 0) 1 8 Try.underlying22 hi hz0 hz1 hz2 rfl (by decide) _ _ _ rfl (hrow.alloc _) ⟨W.heap.size, 0, none⟩ 1 1 [.int .u64 x] rfl rfl (cell_one_new _ _ _) (by simp [Value.oneCell']) (by omega) (by omega) (by simp; omega) ?_; intro v' w1 hown' hgrow _; obtain ⟨g', cap', rfl⟩ := ownsRow_succ hown'; obtain ⟨hv1, hv2, hr2, hk2, hb2⟩ := hv.appended (by decide) hrow hle (Nat.le_refl _) hown' hgrow; have hc1 := hv1.cell; have hf1 := hv1.frozen; have hc2 := hv2.cell)
                  rw [show V64 pre ++ [Value.int .u64 x] = V64 (pre ++ [x]) by simp [V64], show pre.length + 1 = (pre ++ [x]).length by simp] at hr2
                  exact ⟨hk2.from _, hb2, ⟨_, hv2, by simpa using hr2, trivial⟩, hB.trans hb2⟩
                case stop =>
                  rintro D c pre W hD hpre hF
                  exact hF.elim
                case done =>
                  rintro D ys W hD hSt ⟨⟨v, hv, hrow, _⟩, hB⟩ hK
                  subst hSt
                  have MW : Hid (Marks wa.heap.size W (D :: ds)) := MY.out.cons hB (by omega) SY.out.ps.below.size hK
                  have SW : Hid (St wa W P Q vv X Y (.slice (some ⟨g, 0, none⟩) ks.length ck) ks k) := SY.out.later hB
                  have KW : Hid (W.heap[kb]? = some (.cells #[.int .i64 (a : Nat), seqV b] 55 (0, 0))) := (hB.block kb (Array.getElem?_eq_some_iff.1 KY.out).1).trans KY.out
                  have BW : Hid (Below w9.heap.size w9 W) := below_then BY.out hB
                  obtain ⟨pv, cv, rfl, hIV, _, _⟩ := (Row.own hrow).1.form
                  have HV : Hid (Boxed W wy.heap.size 22 (.slice pv (X a).length cv)) := hv
                  have IV0 : Hid (UIn W pv (X a).length (X a)) := hIV
                  clear hv hrow hB hK hIV bL hB0 bB MY SY KY BY XY hbl
                  have a1 : (a : Int) < 2 := by omega
                  go_wp2_with fail
                  have hd := below_drawn (B := W.heap.size) (w := W) 1
                  have MX : Hid (Marks wa.heap.size W.drew (D :: ds)) := MW.out.later hd
                  have SX : Hid (St wa W.drew P Q vv X Y (.slice (some ⟨g, 0, none⟩) ks.length ck) ks k) := SW.out.later hd
                  have KX : Hid (W.drew.heap[kb]? = some (.cells #[.int .i64 (a : Nat), seqV b] 55 (0, 0))) := KW.out
                  have BX : Hid (Below w9.heap.size w9 W.drew) := below_then BW.out hd
                  have HX : Hid (Boxed W.drew wy.heap.size 22 (.slice pv (X a).length cv)) := HV.out
                  have IV : Hid (UIn W.drew pv (X a).length (X a)) := IV0.out.later hd
                  clear MW SW KW BW HV IV0 hd
                  refine wp_region_noPanic ?_
                  refine wp_region_held_drew (S := fun w' => Below W.drew.heap.size W.drew w') (by kernel_rfl) (Below.refl _ _) (fun hHeld => ?_)
                  generalize W.drew = we at *
                  obtain ⟨pl, cl, hcl, hIL, _⟩ := SX.out.rl ha2
                  have IL : Hid (UIn we pl (X a).length (X a)) := hIL
                  have FC : Hid (∀ w', Below we.heap.size we w' → Facts w' wy.heap.size kb a P (Q (a + 2)) (.slice pv (X a).length cv) (.slice pl (X a).length cl)) := fun w' hb => ⟨Boxed.cell (t := 22) (show Boxed w' wy.heap.size 22 (.slice pv (X a).length cv) from (hb.block _ HX.out.lt).trans HX.out), by rw [cell_of_row _ kb 0 _ 55 (0, 0) ((hb.block kb (Array.getElem?_eq_some_iff.1 KX.out).1).trans KX.out)]; rfl, (SX.out.later hb).ps.cr ha2, (hb.cell (p := ⟨Q (a + 2), 0, none⟩) (World.block_lt_of_cell? we _ hcl)).trans hcl⟩
                  clear hcl hIL
                  refine wpAnyH_take (i := 0) (v := ?va1) (by simp; rfl) (by kernel_rfl) (by kernel_rfl) (by kernel_rfl) (fun _ _ _ h => h) (Or.inl ⟨by rfl, ?ya1⟩) hHeld ?ra1
                  case ya1 => intro w hSw; have z := (FC.out w hSw).h1; clear hSw; go_simp; with_reducible rfl
                  simp only [Act.put, List.setIfInBounds_toArray, List.set_cons_zero, List.set_cons_succ]
                  refine wpAnyH_take (i := 1) (v := ?va2) (by simp; rfl) (by kernel_rfl) (by kernel_rfl) (by kernel_rfl) (fun _ _ _ h => h) (Or.inl ⟨by rfl, ?ya2⟩) hHeld ?ra2
                  case ya2 => intro w hSw; clear hSw; go_simp; with_reducible rfl
                  simp only [Act.put, List.setIfInBounds_toArray, List.set_cons_zero, List.set_cons_succ]
                  refine wpAnyH_take (i := 2) (v := ?va3) (by simp; rfl) (by kernel_rfl) (by kernel_rfl) (by kernel_rfl) (fun _ _ _ h => h) (Or.inl ⟨by rfl, ?ya3⟩) hHeld ?ra3
                  case ya3 => intro w hSw; clear hSw; go_simp; with_reducible rfl
                  simp only [Act.put, List.setIfInBounds_toArray, List.set_cons_zero, List.set_cons_succ]
                  refine wpAnyH_take (i := 3) (v := ?va4) (by simp; rfl) (by kernel_rfl) (by kernel_rfl) (by kernel_rfl) (fun _ _ _ h => h) (Or.inl ⟨by rfl, ?ya4⟩) hHeld ?ra4
                  case ya4 => intro w hSw; have z := (FC.out w hSw).h2; clear hSw; go_simp; with_reducible rfl
                  simp only [Act.put, List.setIfInBounds_toArray, List.set_cons_zero, List.set_cons_succ]
                  refine wpAnyH_take (i := 4) (v := ?va5) (by simp; rfl) (by kernel_rfl) (by kernel_rfl) (by kernel_rfl) (fun _ _ _ h => h) (Or.inl ⟨by rfl, ?ya5⟩) hHeld ?ra5
                  case ya5 => intro w hSw; clear hSw; go_simp; with_reducible rfl
                  simp only [Act.put, List.setIfInBounds_toArray, List.set_cons_zero, List.set_cons_succ]
                  refine wpAnyH_take (i := 5) (v := ?va6) (by simp; rfl) (by kernel_rfl) (by kernel_rfl) (by kernel_rfl) (fun _ _ _ h => h) (Or.inl ⟨by rfl, ?ya6⟩) hHeld ?ra6
                  case ya6 => intro w hSw; clear hSw; go_simp; with_reducible rfl
                  simp only [Act.put, List.setIfInBounds_toArray, List.set_cons_zero, List.set_cons_succ]
                  refine wpAnyH_take (i := 6) (v := ?va7) (by simp; rfl) (by kernel_rfl) (by kernel_rfl) (by kernel_rfl) (fun _ _ _ h => h) (Or.inl ⟨by rfl, ?ya7⟩) hHeld ?ra7
                  case ya7 => intro w hSw; clear hSw; go_simp; with_reducible rfl
                  simp only [Act.put, List.setIfInBounds_toArray, List.set_cons_zero, List.set_cons_succ]
                  refine wpAnyH_take (i := 7) (v := ?va8) (by simp; rfl) (by kernel_rfl) (by kernel_rfl) (by kernel_rfl) (fun _ _ _ h => h) (Or.inl ⟨by rfl, ?ya8⟩) hHeld ?ra8
                  case ya8 => intro w hSw; have z := (FC.out w hSw).h3; clear hSw; go_simp; with_reducible rfl
                  simp only [Act.put, List.setIfInBounds_toArray, List.set_cons_zero, List.set_cons_succ]
                  refine wpAnyH_take (i := 8) (v := ?va9) (by simp; rfl) (by kernel_rfl) (by kernel_rfl) (by kernel_rfl) (fun _ _ _ h => h) (Or.inl ⟨by rfl, ?ya9⟩) hHeld ?ra9
                  case ya9 => intro w hSw; clear hSw; go_simp; with_reducible rfl
                  simp only [Act.put, List.setIfInBounds_toArray, List.set_cons_zero, List.set_cons_succ]
                  refine wpAnyH_take (i := 9) (v := ?va10) (by simp; rfl) (by kernel_rfl) (by kernel_rfl) (by kernel_rfl) (fun _ _ _ h => h) (Or.inl ⟨by rfl, ?ya10⟩) hHeld ?ra10
                  case ya10 => intro w hSw; clear hSw; go_simp; with_reducible rfl
                  simp only [Act.put, List.setIfInBounds_toArray, List.set_cons_zero, List.set_cons_succ]
                  refine wpAnyH_take (i := 10) (v := ?va11) (by simp; rfl) (by kernel_rfl) (by kernel_rfl) (by kernel_rfl) (fun _ _ _ h => h) (Or.inl ⟨by rfl, ?ya11⟩) hHeld ?ra11
                  case ya11 => intro w hSw; have z := (FC.out w hSw).h4; clear hSw; go_simp; with_reducible rfl
                  simp only [Act.put, List.setIfInBounds_toArray, List.set_cons_zero, List.set_cons_succ]
                  refine wpAnyH_ready (rs := [11]) (by kernel_rfl) (by simp) ?_
                  refine AllReadyH.cons (by simp; rfl) (fun Kc hKc => ?_) AllReadyH.nil
                  go_simp
                  refine (same_any pv pl _ cv _ cl (X a) (X a) we IV.out IL.out (by omega)).mono ?_
                  rintro e w5 ⟨rfl, b5⟩
                  have B5 : Hid (Below we.heap.size we w5) := b5
                  clear b5
                  refine hKc.out _ _ B5.out (fun hHeld => ?_)
                  clear hKc Kc
                  rw [show decide (X a = X a) = true by simp]
                  refine wpAnyH_take (i := 12) (v := ?va12) (by simp; rfl) (by kernel_rfl) (by kernel_rfl) (by kernel_rfl) (fun _ _ _ h => h) (Or.inl ⟨by rfl, ?ya12⟩) hHeld ?ra12
                  case ya12 => intro w hSw; clear hSw; go_simp; with_reducible rfl
                  simp only [Act.put, List.setIfInBounds_toArray, List.set_cons_zero, List.set_cons_succ]
                  clear hHeld
                  refine wpAnyH_done (by kernel_rfl) (NoPanic.normal ?_) _
                  have hrw : IntKind.i64.wrap ((c : Int) + 1) = (c : Int) + 1 := by rw [IntKind.wrap_i64]; omega
                  go_wp2_with fail
                  refine ⟨⟨c + 1, D :: ds, by omega, below_then BX.out B5.out, MX.out.later B5.out, rfl, rfl, rfl, rfl, rfl, rfl, rfl, rfl⟩, ?_⟩
                  rw [m4_is (c := c + 1) rfl]
                  omega
              · have c1 : ¬ (c : Int) < 2 := by omega
                have BW : Hid (Below wr.heap.size wr wy) := below_then L9.out BY.out
                have hrw : IntKind.i64.wrap ((r : Int) + 1) = (r : Int) + 1 := by rw [IntKind.wrap_i64]; omega
                go_wp2_with fail
                refine ⟨⟨r + 1, ds, by omega, BW, MY, rfl, rfl, rfl, rfl, rfl, rfl⟩, ?_⟩
                rw [m3_is (r := r + 1) rfl]
                omega
            · have r1 : ¬ (r : Int) < (ks.length : Int) := by omega
              have BF : Hid (Below wa.heap.size wa wx) := below_then S2.out.ps.below BL.out
              go_wp2_with fail
              exact leaves_marks wa rfl ds wx MK.out BF.out fun w' hb => ⟨_, results_tmp rfl _ _ _, rfl, below_then BA.out hb⟩
      · clear hgo
        go_wp2_with fail
        go_loopw [5] (fun i wx => ∃ j : Nat, j ≤ 2 ∧ i = .int .i64 j ∧ Hid (St wa wx P Q vv X Y kv ks k)) (fun i _ => 2 - (intOf i).toNat)
        case atStart => exact ⟨0, Nat.zero_le _, rfl, S1⟩
        case round =>
          clear S1
          obtain ⟨j, hj2, rfl, S2⟩ := hrel
          by_cases hj : j < 2
          · have c0 := S2.out.ps.cq hj
            have j1 : (j : Int) < 2 := by omega
            have hrw : IntKind.i64.wrap ((j : Int) + 1) = (j : Int) + 1 := by rw [IntKind.wrap_i64]; omega
            have hlen : (X j).length ≤ 1000 := by have := S2.out.len j hj; omega
            go_wp2_with fail
            refine (slisted S2.out (by omega) hj (-1)).mono ?_
            rintro e w3 ⟨q1, c1, rfl, hI, hb⟩
            rw [firsts_all] at hI ⊢
            have I1 : Hid (UIn w3 q1 (X j).length (X j)) := hI
            have S3 : Hid (St wa w3 P Q vv X Y kv ks k) := S2.out.later hb
            have cr := S3.out.ps.cr hj
            obtain ⟨pl, cl, hcl, hIL, _⟩ := S3.out.rl hj
            have IL : Hid (UIn w3 pl (X j).length (X j)) := hIL
            clear hI hb S2 c0 hIL
            go_wp2_with fail
            refine (same_any q1 pl _ c1 _ cl (X j) (X j) w3 I1.out IL.out (by omega)).mono ?_
            rintro e w4 ⟨rfl, b4⟩
            have S4 : Hid (St wa w4 P Q vv X Y kv ks k) := S3.out.later b4
            clear b4 S3 cr hcl
            rw [show decide (X j = X j) = true by simp]
            go_wp2_with fail
            go_roundw
            case rel => exact ⟨j + 1, by omega, by go_num, S4⟩
            case measure => simp [intOf]; omega
          · have j1 : ¬ (j : Int) < 2 := by omega
            obtain ⟨pk, ck, rfl, hK⟩ := KIn.of S2.out.ps.kept
            have KI : Hid (KIn wr pk ks) := hK
            have c4 := S2.out.ps.ck
            have hkl : ks.length ≤ 60 := by have := S2.out.klen; omega
            clear hK
            go_wp2_with fail
            clear c4 j1 hj hj2
            refine wp_loop (Fr3 wa wr P (.slice pk ks.length ck) ks.length) (fun a' _ => m3 ks.length a') ?_ ?_
            · exact ⟨0, [], Nat.zero_le _, Below.refl _ _, Marks.nil _ _, rfl, rfl, rfl, rfl, rfl, rfl⟩
            intro a3 wx hI
            obtain ⟨r, ds, hr, BL, MK, hsz, h3, h76, h77, h78, hds⟩ := hI
            have hfr := frame_slots a3 hsz
            rw [h3, h76, h77, h78, hds] at hfr
            rw [m3_is h78, hfr]
            clear hsz h3 h76 h77 h78 hds hfr
            by_cases hlt : r < ks.length
            · obtain ⟨g, rfl, ca, cb⟩ := (KI.out.later BL.out).cells r hlt
              obtain ⟨a, b, hx⟩ : ∃ a b, ks[r] = (a, b) := ⟨_, _, rfl⟩
              rw [hx] at ca cb
              have hmem : (a, b) ∈ ks := by rw [← hx]; exact List.getElem_mem hlt
              have SX : Hid (St wa wx P Q vv X Y (.slice (some ⟨g, 0, none⟩) ks.length ck) ks k) := S2.out.later BL.out
              have ha2 : a < 2 := (SX.out.ps.box _ hmem).1
              have BX : Hid (Boxed wx b 25 (qp (Q a))) := (SX.out.ps.box _ hmem).2
              have HL : Hid ((Instr.loadAt 55 (.pointer (some ⟨g, r * 2, none⟩))).run Try.prog wx = .ok (.agg #[.int .i64 (a : Nat), seqV b]) wx) := load55 ca cb
              have HA : Hid ((Instr.alloc 55 true (.tuple #[])).run Try.prog wx = .ok (.pointer (some ⟨wx.heap.size, 0, none⟩)) (wx.alloc (.cells #[.int .i64 0, .nilFunc] 55))) := alloc55 wx
              have HT : Hid ((Instr.storeAt 55 (.pointer (some ⟨wx.heap.size, 0, none⟩)) (.agg #[.int .i64 (a : Nat), seqV b])).run Try.prog (wx.alloc (.cells #[.int .i64 0, .nilFunc] 55)) = .ok () (wx.alloc (.cells #[.int .i64 (a : Nat), seqV b] 55))) := store55 wx _ _
              have r1 : (r : Int) < (ks.length : Int) := by omega
              clear ca cb hx hmem
              go_wp2_with ((with_reducible refine at_ops ?_); first | (refine wpList_load_is (by rfl) 55 rfl rfl HL.out ?_; simp only [Act.put, List.setIfInBounds_toArray, List.set_cons_zero, List.set_cons_succ]) | (refine wpList_alloc_is (by rfl) 55 rfl HA.out ?_; simp only [Act.put, List.setIfInBounds_toArray, List.set_cons_zero, List.set_cons_succ]) | (refine wpList_store_is (by rfl) 55 rfl rfl rfl HT.out ?_; simp only [Act.put]))
              clear HL HA HT
              have B9 : Hid (Below wx.heap.size wx (wx.alloc (.cells #[.int .i64 (a : Nat), seqV b] 55))) := below_alloc wx _
              have K9 : Hid ((wx.alloc (.cells #[.int .i64 (a : Nat), seqV b] 55)).heap[wx.heap.size]? = some (.cells #[.int .i64 (a : Nat), seqV b] 55 (0, 0))) := heap_alloc_new wx _
              obtain ⟨kb, hkb⟩ : ∃ kb, kb = wx.heap.size := ⟨_, rfl⟩
              revert B9 K9
              generalize wx.alloc (.cells #[.int .i64 (a : Nat), seqV b] 55) = w9
              intro B9 K9
              have S9 : Hid (St wa w9 P Q vv X Y (.slice (some ⟨g, 0, none⟩) ks.length ck) ks k) := SX.out.later B9.out
              have X9 : Hid (Boxed w9 b 25 (qp (Q a))) := (B9.out.block b BX.out.lt).trans BX.out
              have M9 : Hid (Marks wa.heap.size w9 ds) := MK.out.later B9.out
              have L9 : Hid (Below wr.heap.size wr w9) := below_then BL.out B9.out
              clear BX SX MK BL B9
              rw [← hkb] at K9 ⊢
              clear hkb
              refine wp_loop (Fr4 wa w9 P kb (.slice (some ⟨g, 0, none⟩) ks.length ck) ks.length r) (fun a' _ => m4 a') ?_ ?_
              · exact ⟨0, ds, Nat.zero_le _, Below.refl _ _, M9, rfl, rfl, rfl, rfl, rfl, rfl, rfl, rfl⟩
              clear M9 ds
              intro a4 wy hI
              obtain ⟨c, ds, hc, BY, MY, hsz, h3, h9, h76, h77, h78, h82, hds⟩ := hI
              have hfr := frame_slots a4 hsz
              rw [h3, h9, h76, h77, h78, h82, hds] at hfr
              rw [m4_is h82, hfr]
              clear hsz h3 h9 h76 h77 h78 h82 hds hfr
              by_cases hc2 : c < 2
              · have SY : Hid (St wa wy P Q vv X Y (.slice (some ⟨g, 0, none⟩) ks.length ck) ks k) := S9.out.later BY.out
                have XY : Hid (Boxed wy b 25 (qp (Q a))) := (BY.out.block b X9.out.lt).trans X9.out
                have KY : Hid (wy.heap[kb]? = some (.cells #[.int .i64 (a : Nat), seqV b] 55 (0, 0))) := (BY.out.block kb (Array.getElem?_eq_some_iff.1 K9.out).1).trans K9.out
                have k1 : (wy.alloc (.cells #[.slice none 0 0] 22)).cell? ⟨kb, 1, none⟩ = some (seqV b) := by
                  rw [cell_of_row _ kb 1 _ 55 (0, 0) (((below_alloc wy _).block kb (Array.getElem?_eq_some_iff.1 KY.out).1).trans KY.out)]
                  rfl
                have c1 : (c : Int) < 2 := by omega
                go_wp2_with fail
                refine (wpIn_wide (n := 9)).1 ?_
                have bL := Boxed.new wy 22 (.slice none 0 0)
                have hB0 : Below wy.heap.size wy (wy.alloc (.cells #[.slice none 0 0] 22)) := below_alloc wy _
                have hs0 : (wy.alloc (.cells #[.slice none 0 0] 22)).heap.size = wy.heap.size + 1 := by simp
                have bB : Boxed (wy.alloc (.cells #[.slice none 0 0] 22)) b 25 (qp (Q a)) := XY.out.alloc _
                clear k1
                obtain ⟨W0, hW0⟩ : ∃ W0, wy.alloc (.cells #[.slice none 0 0] 22) = W0 := ⟨_, rfl⟩
                rw [hW0] at bL hB0 hs0 bB ⊢
                clear hW0
                have hxa : (X a).length ≤ 1000 := by have := SY.out.len a ha2; omega
                have hbl := bB.lt
                refine wpIn_rangeFunc_ownG (F := Fence.wide) (n := 9) (P := Try.prog) rfl (by decide) (gf := 26) (lb := #[.pointer (some ⟨b, 0, none⟩)]) rfl trivial (enters_of Try.func26 (by kernel_rfl) rfl)
                  (all_stops Fence.wide (9 - 1) trivial rfl (by decide) b wy.heap.size (some ⟨Q a, 0, none⟩) (X a) (by omega) W0 wy hbl (by omega) hB0 rfl bB.cell (SY.out.stands ha2)) belowK_t (belowK_b (by omega)) (Below.refl _ _) (fun _ => rfl)
                  (LJ wy.heap.size wy) (fun _ _ _ => False) (LJ.own (by omega)) (fun _ _ _ _ _ hs => hs.elim) ⟨⟨_, bL, World.ownsRow_nil _ _ _ _, trivial⟩, hB0⟩
                  (fun x => { tmps := #[slotAt a4 0, slotAt a4 1, slotAt a4 2, qp P, slotAt a4 4, slotAt a4 5, slotAt a4 6, slotAt a4 7, slotAt a4 8, .pointer (some ⟨kb, 0, none⟩), .pointer (some ⟨wy.heap.size, 0, none⟩), .int .u64 x, slotAt a4 12, slotAt a4 13, slotAt a4 14, slotAt a4 15, slotAt a4 16, slotAt a4 17, slotAt a4 18, slotAt a4 19, slotAt a4 20, slotAt a4 21, slotAt a4 22, slotAt a4 23, slotAt a4 24, slotAt a4 25, slotAt a4 26, slotAt a4 27, slotAt a4 28, slotAt a4 29, slotAt a4 30, slotAt a4 31, slotAt a4 32, slotAt a4 33, slotAt a4 34, slotAt a4 35, slotAt a4 36, slotAt a4 37, slotAt a4 38, slotAt a4 39, slotAt a4 40, slotAt a4 41, slotAt a4 42, slotAt a4 43, slotAt a4 44, slotAt a4 45, slotAt a4 46, slotAt a4 47, slotAt a4 48, slotAt a4 49, slotAt a4 50, slotAt a4 51, slotAt a4 52, slotAt a4 53, slotAt a4 54, slotAt a4 55, slotAt a4 56, slotAt a4 57, slotAt a4 58, slotAt a4 59, slotAt a4 60, slotAt a4 61, slotAt a4 62, slotAt a4 63, slotAt a4 64, slotAt a4 65, slotAt a4 66, slotAt a4 67, slotAt a4 68, slotAt a4 69, slotAt a4 70, slotAt a4 71, slotAt a4 72, slotAt a4 73, slotAt a4 74, slotAt a4 75, .slice (some ⟨g, 0, none⟩) ks.length ck, .int .i64 ks.length, .int .i64 r, slotAt a4 79, slotAt a4 80, slotAt a4 81, .int .i64 c, .bool true, .pointer (some ⟨kb, 1, none⟩), seqV b, .int .u64 x, slotAt a4 87, slotAt a4 88, slotAt a4 89, slotAt a4 90, slotAt a4 91, slotAt a4 92, slotAt a4 93, slotAt a4 94, slotAt a4 95, slotAt a4 96, slotAt a4 97, slotAt a4 98, slotAt a4 99, slotAt a4 100, slotAt a4 101, slotAt a4 102, slotAt a4 103, slotAt a4 104, slotAt a4 105], defers := [] }) ?assign ?body ?done ?stop
                case assign =>
                  intro l x W K hK
                  gi_wp2
                  exact hK
                case body =>
                  rintro l pre x W ⟨⟨v, hv, hrow, _⟩, hB⟩ hlt
                  have hc := hv.cell
                  have hle := hB.size
                  have hml : 10001 ≤ maxLen := by decide
                  obtain ⟨i0, hi, hz0, hz1, hz2⟩ := info_parts info26
                  obtain ⟨pv, cv, rfl, _, _, _⟩ := (Row.own hrow).1.form
                  have hpl : pre.length ≤ 1000 := by omega
                  gi_wp2_with (gi_at_builtin; refine wpListIn_append_own _ rfl _ _ 22 rfl wy.heap.size 26 i0 (.int .u64 0) 1 8 Try.underlying22 hi hz0 hz1 hz2 rfl (by decide) _ _ _ rfl (hrow.alloc _) ⟨W.heap.size, 0, none⟩ 1 1 [.int .u64 x] rfl rfl (cell_one_new _ _ _) (by simp [Value.oneCell']) (by omega) (by omega) (by simp; omega) ?_; intro v' w1 hown' hgrow _; obtain ⟨g', cap', rfl⟩ := ownsRow_succ hown'; obtain ⟨hv1, hv2, hr2, hk2, hb2⟩ := hv.appended (by decide) hrow hle (Nat.le_refl _) hown' hgrow; have hc1 := hv1.cell; have hf1 := hv1.frozen; have hc2 := hv2.cell)
                  rw [show V64 pre ++ [Value.int .u64 x] = V64 (pre ++ [x]) by simp [V64], show pre.length + 1 = (pre ++ [x]).length by simp] at hr2
                  exact ⟨hk2.from _, hb2, ⟨_, hv2, by simpa using hr2, trivial⟩, hB.trans hb2⟩
                case stop =>
                  rintro D c pre W hD hpre hF
                  exact hF.elim
                case done =>
                  rintro D ys W hD hSt ⟨⟨v, hv, hrow, _⟩, hB⟩ hK
                  subst hSt
                  have MW : Hid (Marks wa.heap.size W (D :: ds)) := MY.out.cons hB (by omega) SY.out.ps.below.size hK
                  have SW : Hid (St wa W P Q vv X Y (.slice (some ⟨g, 0, none⟩) ks.length ck) ks k) := SY.out.later hB
                  have KW : Hid (W.heap[kb]? = some (.cells #[.int .i64 (a : Nat), seqV b] 55 (0, 0))) := (hB.block kb (Array.getElem?_eq_some_iff.1 KY.out).1).trans KY.out
                  have BW : Hid (Below w9.heap.size w9 W) := below_then BY.out hB
                  obtain ⟨pv, cv, rfl, hIV, _, _⟩ := (Row.own hrow).1.form
                  have HV : Hid (Boxed W wy.heap.size 22 (.slice pv (X a).length cv)) := hv
                  have IV0 : Hid (UIn W pv (X a).length (X a)) := hIV
                  clear hv hrow hB hK hIV bL hB0 bB MY SY KY BY XY hbl
                  have a1 : (a : Int) < 2 := by omega
                  go_wp2_with fail
                  have hd := below_drawn (B := W.heap.size) (w := W) 1
                  have MX : Hid (Marks wa.heap.size W.drew (D :: ds)) := MW.out.later hd
                  have SX : Hid (St wa W.drew P Q vv X Y (.slice (some ⟨g, 0, none⟩) ks.length ck) ks k) := SW.out.later hd
                  have KX : Hid (W.drew.heap[kb]? = some (.cells #[.int .i64 (a : Nat), seqV b] 55 (0, 0))) := KW.out
                  have BX : Hid (Below w9.heap.size w9 W.drew) := below_then BW.out hd
                  have HX : Hid (Boxed W.drew wy.heap.size 22 (.slice pv (X a).length cv)) := HV.out
                  have IV : Hid (UIn W.drew pv (X a).length (X a)) := IV0.out.later hd
                  clear MW SW KW BW HV IV0 hd
                  refine wp_region_noPanic ?_
                  refine wp_region_held_drew (S := fun w' => Below W.drew.heap.size W.drew w') (by kernel_rfl) (Below.refl _ _) (fun hHeld => ?_)
                  generalize W.drew = we at *
                  obtain ⟨pl, cl, hcl, hIL, _⟩ := SX.out.rl ha2
                  have IL : Hid (UIn we pl (X a).length (X a)) := hIL
                  have FC : Hid (∀ w', Below we.heap.size we w' → Facts w' wy.heap.size kb a P (Q (a + 2)) (.slice pv (X a).length cv) (.slice pl (X a).length cl)) := fun w' hb => ⟨Boxed.cell (t := 22) (show Boxed w' wy.heap.size 22 (.slice pv (X a).length cv) from (hb.block _ HX.out.lt).trans HX.out), by rw [cell_of_row _ kb 0 _ 55 (0, 0) ((hb.block kb (Array.getElem?_eq_some_iff.1 KX.out).1).trans KX.out)]; rfl, (SX.out.later hb).ps.cr ha2, (hb.cell (p := ⟨Q (a + 2), 0, none⟩) (World.block_lt_of_cell? we _ hcl)).trans hcl⟩
                  clear hcl hIL
                  refine wpAnyH_take (i := 0) (v := ?vaz1) (by simp; rfl) (by kernel_rfl) (by kernel_rfl) (by kernel_rfl) (fun _ _ _ h => h) (Or.inl ⟨by rfl, ?yaz1⟩) hHeld ?raz1
                  case yaz1 => intro w hSw; have z := (FC.out w hSw).h1; clear hSw; go_simp; with_reducible rfl
                  simp only [Act.put, List.setIfInBounds_toArray, List.set_cons_zero, List.set_cons_succ]
                  refine wpAnyH_take (i := 1) (v := ?vaz2) (by simp; rfl) (by kernel_rfl) (by kernel_rfl) (by kernel_rfl) (fun _ _ _ h => h) (Or.inl ⟨by rfl, ?yaz2⟩) hHeld ?raz2
                  case yaz2 => intro w hSw; clear hSw; go_simp; with_reducible rfl
                  simp only [Act.put, List.setIfInBounds_toArray, List.set_cons_zero, List.set_cons_succ]
                  refine wpAnyH_take (i := 2) (v := ?vaz3) (by simp; rfl) (by kernel_rfl) (by kernel_rfl) (by kernel_rfl) (fun _ _ _ h => h) (Or.inl ⟨by rfl, ?yaz3⟩) hHeld ?raz3
                  case yaz3 => intro w hSw; clear hSw; go_simp; with_reducible rfl
                  simp only [Act.put, List.setIfInBounds_toArray, List.set_cons_zero, List.set_cons_succ]
                  refine wpAnyH_take (i := 3) (v := ?vaz4) (by simp; rfl) (by kernel_rfl) (by kernel_rfl) (by kernel_rfl) (fun _ _ _ h => h) (Or.inl ⟨by rfl, ?yaz4⟩) hHeld ?raz4
                  case yaz4 => intro w hSw; have z := (FC.out w hSw).h2; clear hSw; go_simp; with_reducible rfl
                  simp only [Act.put, List.setIfInBounds_toArray, List.set_cons_zero, List.set_cons_succ]
                  refine wpAnyH_take (i := 4) (v := ?vaz5) (by simp; rfl) (by kernel_rfl) (by kernel_rfl) (by kernel_rfl) (fun _ _ _ h => h) (Or.inl ⟨by rfl, ?yaz5⟩) hHeld ?raz5
                  case yaz5 => intro w hSw; clear hSw; go_simp; with_reducible rfl
                  simp only [Act.put, List.setIfInBounds_toArray, List.set_cons_zero, List.set_cons_succ]
                  refine wpAnyH_take (i := 5) (v := ?vaz6) (by simp; rfl) (by kernel_rfl) (by kernel_rfl) (by kernel_rfl) (fun _ _ _ h => h) (Or.inl ⟨by rfl, ?yaz6⟩) hHeld ?raz6
                  case yaz6 => intro w hSw; clear hSw; go_simp; with_reducible rfl
                  simp only [Act.put, List.setIfInBounds_toArray, List.set_cons_zero, List.set_cons_succ]
                  refine wpAnyH_take (i := 6) (v := ?vaz7) (by simp; rfl) (by kernel_rfl) (by kernel_rfl) (by kernel_rfl) (fun _ _ _ h => h) (Or.inl ⟨by rfl, ?yaz7⟩) hHeld ?raz7
                  case yaz7 => intro w hSw; clear hSw; go_simp; with_reducible rfl
                  simp only [Act.put, List.setIfInBounds_toArray, List.set_cons_zero, List.set_cons_succ]
                  refine wpAnyH_take (i := 7) (v := ?vaz8) (by simp; rfl) (by kernel_rfl) (by kernel_rfl) (by kernel_rfl) (fun _ _ _ h => h) (Or.inl ⟨by rfl, ?yaz8⟩) hHeld ?raz8
                  case yaz8 => intro w hSw; have z := (FC.out w hSw).h3; clear hSw; go_simp; with_reducible rfl
                  simp only [Act.put, List.setIfInBounds_toArray, List.set_cons_zero, List.set_cons_succ]
                  refine wpAnyH_take (i := 8) (v := ?vaz9) (by simp; rfl) (by kernel_rfl) (by kernel_rfl) (by kernel_rfl) (fun _ _ _ h => h) (Or.inl ⟨by rfl, ?yaz9⟩) hHeld ?raz9
                  case yaz9 => intro w hSw; clear hSw; go_simp; with_reducible rfl
                  simp only [Act.put, List.setIfInBounds_toArray, List.set_cons_zero, List.set_cons_succ]
                  refine wpAnyH_take (i := 9) (v := ?vaz10) (by simp; rfl) (by kernel_rfl) (by kernel_rfl) (by kernel_rfl) (fun _ _ _ h => h) (Or.inl ⟨by rfl, ?yaz10⟩) hHeld ?raz10
                  case yaz10 => intro w hSw; clear hSw; go_simp; with_reducible rfl
                  simp only [Act.put, List.setIfInBounds_toArray, List.set_cons_zero, List.set_cons_succ]
                  refine wpAnyH_take (i := 10) (v := ?vaz11) (by simp; rfl) (by kernel_rfl) (by kernel_rfl) (by kernel_rfl) (fun _ _ _ h => h) (Or.inl ⟨by rfl, ?yaz11⟩) hHeld ?raz11
                  case yaz11 => intro w hSw; have z := (FC.out w hSw).h4; clear hSw; go_simp; with_reducible rfl
                  simp only [Act.put, List.setIfInBounds_toArray, List.set_cons_zero, List.set_cons_succ]
                  refine wpAnyH_ready (rs := [11]) (by kernel_rfl) (by simp) ?_
                  refine AllReadyH.cons (by simp; rfl) (fun Kc hKc => ?_) AllReadyH.nil
                  go_simp
                  refine (same_any pv pl _ cv _ cl (X a) (X a) we IV.out IL.out (by omega)).mono ?_
                  rintro e w5 ⟨rfl, b5⟩
                  have B5 : Hid (Below we.heap.size we w5) := b5
                  clear b5
                  refine hKc.out _ _ B5.out (fun hHeld => ?_)
                  clear hKc Kc
                  rw [show decide (X a = X a) = true by simp]
                  refine wpAnyH_take (i := 12) (v := ?vaz12) (by simp; rfl) (by kernel_rfl) (by kernel_rfl) (by kernel_rfl) (fun _ _ _ h => h) (Or.inl ⟨by rfl, ?yaz12⟩) hHeld ?raz12
                  case yaz12 => intro w hSw; clear hSw; go_simp; with_reducible rfl
                  simp only [Act.put, List.setIfInBounds_toArray, List.set_cons_zero, List.set_cons_succ]
                  clear hHeld
                  refine wpAnyH_done (by kernel_rfl) (NoPanic.normal ?_) _
                  have hrw : IntKind.i64.wrap ((c : Int) + 1) = (c : Int) + 1 := by rw [IntKind.wrap_i64]; omega
                  go_wp2_with fail
                  refine ⟨⟨c + 1, D :: ds, by omega, below_then BX.out B5.out, MX.out.later B5.out, rfl, rfl, rfl, rfl, rfl, rfl, rfl, rfl⟩, ?_⟩
                  rw [m4_is (c := c + 1) rfl]
                  omega
              · have c1 : ¬ (c : Int) < 2 := by omega
                have BW : Hid (Below wr.heap.size wr wy) := below_then L9.out BY.out
                have hrw : IntKind.i64.wrap ((r : Int) + 1) = (r : Int) + 1 := by rw [IntKind.wrap_i64]; omega
                go_wp2_with fail
                refine ⟨⟨r + 1, ds, by omega, BW, MY, rfl, rfl, rfl, rfl, rfl, rfl⟩, ?_⟩
                rw [m3_is (r := r + 1) rfl]
                omega
            · have r1 : ¬ (r : Int) < (ks.length : Int) := by omega
              have BF : Hid (Below wa.heap.size wa wx) := below_then S2.out.ps.below BL.out
              go_wp2_with fail
              exact leaves_marks wa rfl ds wx MK.out BF.out fun w' hb => ⟨_, results_tmp rfl _ _ _, rfl, below_then BA.out hb⟩
end Go.Proofs.Ytmmmgknlbkckdaa
