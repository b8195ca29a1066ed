/-
  SumParts walked.
-/
import Derived.Test.YtaencchobpgogaaDoorXe
namespace Go.Proofs.YtaencchobpgogaaDoor
open Go.RowKit

theorem flat_small : ∀ (xs : List (List Int)), (∀ l ∈ xs, l.length ≤ 3000) → xs.flatten.length ≤ 3000 * xs.length
  | [], _ => by simp
  | l :: r, h => by
    have h1 := h l List.mem_cons_self
    have h2 := flat_small r (fun y hy => h y (List.mem_cons_of_mem _ hy))
    simp only [List.flatten_cons, List.length_append, List.length_cons]
    omega

set_option maxRecDepth 100000 in
set_option maxHeartbeats 8000000 in
theorem parts_loop (p : Option Addr) (n c : Nat) (vs : List Value) (ls : List (List Int)) (w : World) (hP : PIn w p n vs ls) (hnb : n ≤ 140737488355328) (ht : Tab w) :
    Calls Tryd.prog 7 #[.slice p n c] w fun e w' => e = .returned (.bool true) ∧ Below w.heap.size w w' := by
  obtain ⟨i25, hi25, hz250, hz251, hz252⟩ := info_parts info25
  obtain ⟨i0, hi, hz0, hz1, hz2⟩ := info_parts info5
  have HT : Hid (Tab w) := ht
  have HP : Hid (PIn w p n vs ls) := hP
  clear ht hP
  go_enter Tryd.func7, Tryd.ntmps7
  go_wp2_with fail
  refine (fixed_any _ HT.out).mono ?_
  rintro e w1 ⟨rfl, hb⟩
  have B1 : Hid (Below w.heap.size w w1) := hb
  clear hb
  go_wp2_with fail
  refine (cut_any p n c vs ls w1 (HP.out.later B1.out) hnb).mono ?_
  rintro e w2 ⟨q, k, d, us, xs, rfl, hQ, hk, hsm, hb⟩
  have B2 : Hid (Below w.heap.size w w2) := below_then B1.out hb
  have HQ : Hid (PIn w2 q k us xs) := hQ
  have HSM : Hid (∀ l ∈ xs, l.length ≤ 3000) := hsm
  have HUl : Hid (us.length = k) := hQ.len
  have HXl : Hid (xs.length = k) := hQ.len2
  have hfl : xs.flatten.length ≤ 120000 := by
    have := flat_small xs hsm
    rw [hQ.len2] at this
    omega
  have HFL : Hid (∀ j, flen xs j ≤ 120000) := fun j => Nat.le_trans (flen_le xs j) hfl
  have HFl : Hid (xs.flatten.length ≤ 120000) := hfl
  have HBx : Hid (Bytes xs.flatten) := Bytes.flatten (fun l hl => by
    obtain ⟨i, hi, rfl⟩ := List.getElem_of_mem hl
    obtain ⟨p1, n1, c1, _, h1, _⟩ := hQ.parts i (by rw [hQ.len, ← hQ.len2]; exact hi) hi
    exact h1.byte)
  clear hb hQ hsm hfl HP B1
  have T2 : Hid (Tab w2) := HT.out.later B2.out
  by_cases hk0 : 0 < k
  · obtain ⟨b, o, rfl, _⟩ := HQ.out.cells hk0
    go_wp2
    go_loopw [3, 4, 5] (fun v tx i wr => ∃ (j : Nat) (gs : List (Nat × Nat)), j ≤ k ∧ i = .int .i64 j ∧ L1 w2 wr v tx j gs xs) (fun _ _ i _ => k - (intOf i).toNat)
    case atStart => exact ⟨0, [], Nat.zero_le _, rfl, L1.start w2 xs⟩
    case round =>
      obtain ⟨j, gs, hj, rfl, hL⟩ := hrel
      have HL : Hid (L1 w2 wr u3 u4 j gs xs) := hL
      clear hL
      by_cases hlt : j < k
      · have hju : j < us.length := by rw [HUl.out]; exact hlt
        have hjx : j < xs.length := by rw [HXl.out]; exact hlt
        obtain ⟨b', o', e, hcs⟩ := HQ.out.cells hk0
        simp only [Option.some.injEq, Addr.mk.injEq, and_true] at e
        obtain ⟨rfl, rfl⟩ := e
        have hc2 := hcs j hju
        obtain ⟨p1, n1, c1, e1, f1, f2, f3⟩ := HQ.out.parts j hju hjx
        rw [e1] at hc2
        have hl3 : xs[j].length ≤ 3000 := HSM.out _ (List.getElem_mem hjx)
        obtain rfl : xs[j].length = n1 := f1.len
        have HF2 : Hid (SB w2 p1 xs[j].length c1 xs[j]) := ⟨f1, f2, f3⟩
        have HC2 : Hid (∀ w' : World, Below w2.heap.size w2 w' → w'.cell? ⟨b, o + j, none⟩ = some (.slice p1 xs[j].length c1)) := fun w' hb' => by
          rw [hb'.cell (p := ⟨b, o + j, none⟩) (World.block_lt_of_cell? w2 _ hc2)]
          exact hc2
        clear hcs e1 f1 f2 f3 hc2
        have hc := HC2.out wr HL.out.below
        have HF : Hid (SB wr p1 xs[j].length c1 xs[j]) := HF2.out.later HL.out.below
        have HTL : Hid ((xs.take j).length = j) := by show _ = _; rw [List.length_take]; omega
        have hfj := HFL.out j
        go_wp2_with fail
        refine (roomy_any p1 _ c1 xs[j] _ HF.out hl3).mono ?_
        rintro e w3 ⟨g, cap, rfl, r3, hb3⟩
        have HR3 : Hid (RoomAt w3 wr.heap.size g xs[j].length cap xs[j]) := r3
        have HB3 : Hid (Below wr.heap.size wr w3) := hb3
        have HS3 : Hid (w2.heap.size ≤ w3.heap.size) := Nat.le_trans HL.out.below.size hb3.size
        have HO : Hid (w3.ownsRow w2.heap.size 25 1 u3 j (List.zipWith ent gs (xs.take j))) := by
          have := own_later HL.out.ins.row hb3
          rw [HTL.out] at this
          exact this
        clear r3 hb3
        go_wp2_with (at_builtin; refine wpList_append_own _ rfl (.tmp 20) (.tmp 26) 38 rfl w2.heap.size 25 i25 (.slice none 0 0) 1 24 Tryd.underlying38 hi25 hz250 hz251 hz252 rfl (by decide) u3 j (List.zipWith ent gs (xs.take j)) rfl (HO.out.alloc _) ⟨w3.heap.size, 0, none⟩ 1 1 [.slice (some ⟨g, 0, none⟩) xs[j].length cap] rfl rfl (cell_one_new _ _ _) (one_slice _ _ _) (by unfold maxLen; omega) (by omega) (by have := HS3.out; simp; omega) ?_)
        intro v' w4 hown4 hgrow4 _
        have HM : Hid (Ins w4 w2.heap.size v' (gs ++ [(g, cap)]) (xs.take (j + 1)) ∧ w4.ownsRow w2.heap.size 5 1 u4 (flen xs j) (U8 (xs.take j).flatten) ∧
            (∀ i (h : i < (gs ++ [(g, cap)]).length), u4.ownBlock ≠ some (gs ++ [(g, cap)])[i].1 ∧ (gs ++ [(g, cap)])[i].1 < w4.heap.size) ∧ Below w2.heap.size w2 w4) := HL.out.mine hjx HB3.out HR3.out hown4 hgrow4
        clear hown4 hgrow4 hc HO HR3 HB3 HS3 HL HF
        have hc := HC2.out w4 HM.out.2.2.2
        have HF : Hid (SB w4 p1 xs[j].length c1 xs[j]) := HF2.out.later HM.out.2.2.2
        have HN : Hid (∀ ad, p1 = some ad → ∀ i u, (U8 xs[j])[i]? = some u → w4.cell? (ad.add i) = some u) := by
          intro ad had
          have := HF.out.inn
          rw [had] at this
          exact this.news
        have HLn : Hid ((U8 xs[j]).length = xs[j].length * 1) := by show _ = _; rw [List.length_map, Nat.mul_one]
        have HNn : Hid (p1 = none → xs[j].length = 0 ∧ c1 = 0) := fun h => by have := HF.out.nil h; have := HF.out.le; omega
        have HSz : Hid (w2.heap.size ≤ w4.heap.size) := HM.out.2.2.2.size
        obtain ⟨TX, hTX⟩ : ∃ TX, TX = U8 (xs.take j).flatten := ⟨_, rfl⟩
        have HTX : Hid (TX = U8 (xs.take j).flatten) := hTX
        have HOT : Hid (w4.ownsRow w2.heap.size 5 1 u4 (flen xs j) TX) := by
          show World.ownsRow _ _ _ _ _ _ _
          rw [hTX]
          exact HM.out.2.1
        clear hTX
        go_wp2_with (at_builtin; refine wpList_append_at _ rfl (.tmp 28) (.tmp 32) 25 rfl w2.heap.size 5 i0 (.int .u8 0) 1 1 Tryd.underlying25 hi hz0 hz1 hz2 rfl (by decide) u4 (flen xs j) TX rfl HOT.out p1 xs[j].length c1 (U8 xs[j]) rfl HNn.out HLn.out HN.out (ones_u8 _) (by unfold maxLen; omega) (by omega) HSz.out ?_)
        intro tx' w5 hown5 hgrow5 hat5
        rw [HTX.out] at hown5
        have HN5 : Hid (L1 w2 w5 v' tx' (j + 1) (gs ++ [(g, cap)]) xs) := L1.next hjx HM.out.1 HM.out.2.1 HM.out.2.2.1 HM.out.2.2.2 hown5 hgrow5 hat5
        clear hown5 hgrow5 hat5 hc HM HN HLn HNn HSz HF
        go_wp2
        go_roundw
        case rel => exact ⟨j + 1, gs ++ [(g, cap)], by omega, by go_num, HN5.out⟩
        case measure => simp [intOf]; omega
      · obtain rfl : k = j := by omega
        obtain ⟨w3, hw3⟩ : ∃ w3, w3 = wr := ⟨_, rfl⟩
        subst hw3
        have hI := HL.out.ins
        rw [List.take_of_length_le (by rw [HXl.out]; exact Nat.le_refl _)] at hI
        have hTx := HL.out.text
        rw [flen_all xs k (by rw [HXl.out]; exact Nat.le_refl _), flat_all xs k (by rw [HXl.out]; exact Nat.le_refl _)] at hTx
        obtain ⟨pv, cv, hv, hPv⟩ := hI.pin
        rw [HXl.out] at hv hPv
        subst hv
        obtain ⟨bV, oV, rfl, _⟩ := hPv.cells hk0
        obtain ⟨pt, ct, htx, hBt, hlt', hnt, _⟩ := own_in hTx HBx.out
        subst htx
        have HI3 : Hid (Ins w3 w2.heap.size (.slice (some ⟨bV, oV, none⟩) k cv) gs xs) := hI
        have HPv : Hid (PIn w3 (some ⟨bV, oV, none⟩) k (List.zipWith ent gs xs) xs) := hPv
        have HBt : Hid (BIn w3 pt xs.flatten.length xs.flatten) := hBt
        have HNt : Hid (pt = none → ct = 0) := hnt
        have HLt : Hid (xs.flatten.length ≤ ct) := hlt'
        have B3 : Hid (Below w2.heap.size w2 w3) := HL.out.below
        have T3 : Hid (Tab w3) := T2.out.later HL.out.below
        have HGl : Hid (gs.length = k) := by show _ = _; rw [hI.len, HXl.out]
        clear hI hTx hPv hBt hlt' hnt HL
        have hfx := HFl.out
        obtain ⟨LX, hLX⟩ : ∃ LX, LX = xs.flatten.length := ⟨_, rfl⟩
        rw [← hLX] at HBt HLt hfx ⊢
        have HLX : Hid (LX = xs.flatten.length) := hLX
        clear hLX
        go_wp2_with fail
        refine (refOf_any pt LX ct xs.flatten w3 HBt.out (by omega)).mono ?_
        rintro e w' ⟨rfl, rfl⟩
        obtain ⟨R, hR⟩ : ∃ R, R = crc xs.flatten := ⟨_, rfl⟩
        have HR : Hid (R = crc xs.flatten) := hR
        rw [← hR]
        clear hR
        go_wp2_with fail
        refine (of_parts _ k cv _ xs w3 HPv.out (by rw [← HLX.out]; omega) (by omega) T3.out).mono ?_
        rintro e w' ⟨rfl, rfl⟩
        rw [← HR.out]
        go_wp2_with fail
        refine (of_one w3 pt LX ct xs.flatten HBt.out HLt.out HNt.out (by omega) T3.out).mono ?_
        rintro e w' ⟨rfl, rfl⟩
        rw [← HR.out]
        have B34 : Hid (Below w3.heap.size w3 (w3.alloc (.cells #[.slice pt LX ct] 25))) := below_alloc _ _
        generalize w3.alloc (.cells #[.slice pt LX ct] 25) = w4 at *
        go_wp2_with fail
        refine (of_parts _ k cv _ xs w4 (HPv.out.later B34.out) (by rw [← HLX.out]; omega) (by omega) (T3.out.later B34.out)).mono ?_
        rintro e w' ⟨rfl, rfl⟩
        rw [← HR.out]
        have HI4 : Hid (Ins w4 w2.heap.size (.slice (some ⟨bV, oV, none⟩) k cv) gs xs) := HI3.out.later B34.out
        have B4 : Hid (Below w2.heap.size w2 w4) := below_then B3.out B34.out
        have HG4 : Hid (∀ i (h : i < gs.length), gs[i].1 < w4.heap.size) := fun i h => (HI4.out.room i h (by rw [← HI4.out.len]; exact h)).at.2
        clear HI3 HPv HBt HNt HLt B3 B34 T3
        go_wp2_with fail
        have H24 : Hid (w2.heap.size ≤ w4.heap.size) := B4.out.size
        go_loopw [7, 8] (fun ov i wr => ∃ j : Nat, j ≤ k ∧ i = .int .i64 j ∧ L2 w2 w4 wr (.slice (some ⟨bV, oV, none⟩) k cv) ov j gs xs (bL j xs)) (fun _ i _ => k - (intOf i).toNat)
        case atStart => exact ⟨0, Nat.zero_le _, rfl, L2.start HI4.out B4.out⟩
        case round =>
          obtain ⟨j, hjk, rfl, hL⟩ := hrel
          obtain ⟨w5, hw5⟩ : ∃ w5, w5 = wr := ⟨_, rfl⟩
          subst hw5
          obtain ⟨ov, hov⟩ : ∃ ov, ov = u7 := ⟨_, rfl⟩
          subst hov
          have HL : Hid (L2 w2 w4 w5 (.slice (some ⟨bV, oV, none⟩) k cv) ov j gs xs (bL j xs)) := hL
          clear hL
          by_cases hlt2 : j < k
          · have hju : j < us.length := by rw [HUl.out]; exact hlt2
            have hjx : j < xs.length := by rw [HXl.out]; exact hlt2
            have hjg : j < gs.length := by rw [HGl.out]; exact hlt2
            have hjb : j < (bL j xs).length := by rw [bL_length]; exact hjx
            have hbg : (bL j xs)[j] = xs[j] := bL_get j xs hjx hjb
            obtain ⟨b', o', e, hcs⟩ := HQ.out.cells hk0
            simp only [Option.some.injEq, Addr.mk.injEq, and_true] at e
            obtain ⟨rfl, rfl⟩ := e
            have hc2 := hcs j hju
            obtain ⟨p1, n1, c1, e1, f1, f2, f3⟩ := HQ.out.parts j hju hjx
            rw [e1] at hc2
            have hl3 : xs[j].length ≤ 3000 := HSM.out _ (List.getElem_mem hjx)
            obtain rfl : xs[j].length = n1 := f1.len
            have d2 : w5.drew.cell? ⟨b, o + j, none⟩ = some (.slice p1 xs[j].length c1) := by
              show w5.cell? _ = _
              rw [HL.out.below.cell (p := ⟨b, o + j, none⟩) (World.block_lt_of_cell? w2 _ hc2)]
              exact hc2
            have HF1 : Hid (BIn w5.drew p1 xs[j].length xs[j]) := (f1.later HL.out.below).drew
            have d1 : w5.drew.cell? ⟨bV, oV + j, none⟩ = some (.slice (some ⟨gs[j].1, 0, none⟩) xs[j].length gs[j].2) := by
              have := HL.out.cell j hjg hjb
              rw [hbg] at this
              exact this
            have hroom := HL.out.ins.room j hjg hjb
            rw [hbg] at hroom
            obtain ⟨r1, r2, r3, r4⟩ := roomy_in hroom.own hroom.len hroom.byte
            have hcap := hroom.cap2
            have HQ1 : Hid (BIn w5.drew (some ⟨gs[j].1, 0, none⟩) xs[j].length xs[j]) := r1.drew
            have HQ2 : Hid (w5.drew.cell? ⟨gs[j].1, xs[j].length, none⟩ = some (.int .u8 77)) := r2
            have HQ3 : Hid (w5.drew.cell? ⟨gs[j].1, xs[j].length + 1, none⟩ = some (.int .u8 78)) := r3
            have HQ4 : Hid (w5.drew.cell? ⟨gs[j].1, xs[j].length + 2, none⟩ = some (.int .u8 79)) := r4
            have i1 : (j : Int) < (k : Int) := by omega
            have i00 : (0 : Int) ≤ (j : Int) := by omega
            have HBS : Hid ((bL j xs).set j (bp 0 xs[j]) = bL j xs) := bL_same j xs hjx
            have HBN : Hid ((bL j xs).set j (bl xs[j]) = bL (j + 1) xs) := bL_step j xs hjx
            have HBX : Hid (Bytes xs[j]) := f1.byte
            have hfj := HFL.out j
            clear hcs e1 f1 f2 f3 hc2 hroom r1 r2 r3 r4 hbg
            go_wp2
            go_region_held3 (fun w' => w'.cell? ⟨bV, oV + j, none⟩ = some (.slice (some ⟨gs[j].1, 0, none⟩) xs[j].length gs[j].2) ∧ w'.cell? ⟨b, o + j, none⟩ = some (.slice p1 xs[j].length c1)) (exact ⟨d1, d2⟩) (first | (go_at_call 17; refine (whole_any gs[j].1 xs[j].length gs[j].2 c1 p1 xs[j] _ HQ1.out HQ2.out HQ3.out HQ4.out hcap hl3 HF1.out).mono ?_; rintro e w' ⟨rfl, rfl⟩))
            have HL6 : Hid (L2 w2 w4 w5.drew (.slice (some ⟨bV, oV, none⟩) k cv) ov j gs xs ((bL j xs).set j (bp 0 xs[j]))) := by
              show L2 _ _ _ _ _ _ _ _ _
              rw [HBS.out]
              exact HL.out.drew
            clear HL d1 d2 HQ1 HQ2 HQ3 HQ4 HF1
            generalize w5.drew = w6 at *
            go_wp2
            go_loopw [9] (fun c wr => ∃ m : Nat, m ≤ xs[j].length ∧ c = .int .i64 m ∧ Hid (L2 w2 w4 wr (.slice (some ⟨bV, oV, none⟩) k cv) ov j gs xs ((bL j xs).set j (bp m xs[j])))) (fun c _ => xs[j].length - (intOf c).toNat)
            case atStart => exact ⟨0, Nat.zero_le _, rfl, HL6⟩
            case round =>
              obtain ⟨m, hm, rfl, HM⟩ := hrel
              clear HL6
              obtain ⟨w7, hw7⟩ : ∃ w7, w7 = wr := ⟨_, rfl⟩
              subst hw7
              have hjs : j < ((bL j xs).set j (bp m xs[j])).length := by rw [List.length_set]; exact hjb
              have hgm : ((bL j xs).set j (bp m xs[j]))[j] = bp m xs[j] := set_len _ _ _ hjs
              have dV : w7.cell? ⟨bV, oV + j, none⟩ = some (.slice (some ⟨gs[j].1, 0, none⟩) xs[j].length gs[j].2) := by
                have := HM.out.cell j hjg hjs
                rw [hgm, bp_length] at this
                exact this
              by_cases hml : m < xs[j].length
              · have hmb : m < (bp m xs[j]).length := by rw [bp_length]; exact hml
                have hroom := HM.out.ins.room j hjg hjs
                rw [hgm] at hroom
                have hcm : w7.cell? ⟨gs[j].1, m, none⟩ = some (.int .u8 xs[j][m]) := by
                  have hb := roomy_in hroom.own hroom.len hroom.byte
                  obtain ⟨b7, o7, e7, hc7⟩ := hb.1.cells (by omega)
                  simp only [Option.some.injEq, Addr.mk.injEq, and_true] at e7
                  obtain ⟨rfl, rfl⟩ := e7
                  have := hc7 m hmb
                  rw [Nat.zero_add] at this
                  rw [this]
                  simp [List.getD, List.getElem?_eq_getElem hmb, bp_get xs[j] m hml hmb]
                have hfz := hroom.own.frozenAt m
                have hby := HBX.out.at m hml
                have HST : Hid (L2 w2 w4 (w7.setCell ⟨gs[j].1, m, none⟩ (.int .u8 (bump xs[j][m] m))).drew (.slice (some ⟨bV, oV, none⟩) k cv) ov j gs xs ((bL j xs).set j (bp (m + 1) xs[j]))) := by
                  have := HM.out.store HG4.out j hjg hjs m (by rw [hgm]; exact hmb) (bump xs[j][m] m) (bump_byte _ _)
                  rw [hgm, set_set, bp_step xs[j] m hml] at this
                  exact this
                have HBU : Hid ((xs[j][m] + (m : Int) + 1) % 256 = bump xs[j][m] m) := rfl
                clear hroom HM hgm
                obtain ⟨hby0, hby1⟩ := hby
                have mi : (m : Int) < (xs[j].length : Int) := by omega
                have mi0 : (0 : Int) ≤ (m : Int) := by omega
                go_wp2
                go_region
                rw [HBU.out]
                generalize (w7.setCell ⟨gs[j].1, m, none⟩ (.int .u8 (bump xs[j][m] m))).drew = w8 at *
                clear hcm hfz dV
                go_wp2
                go_roundw
                case rel => exact ⟨m + 1, by omega, by go_num, HST⟩
                case measure => simp [intOf]; omega
              · have hroom := HM.out.ins.room j hjg hjs
                rw [hgm] at hroom
                have HM8 : Hid (L2 w2 w4 w7 (.slice (some ⟨bV, oV, none⟩) k cv) ov j gs xs (bL (j + 1) xs)) := by
                  have := HM.out
                  rw [bp_all xs[j] m (by omega), HBN.out] at this
                  exact this
                rw [bp_all xs[j] m (by omega), bl_length] at hroom
                have hb := (roomy_in hroom.own hroom.len hroom.byte).1
                have HN : Hid (∀ i u, (U8 (bl xs[j]))[i]? = some u → w7.cell? ((⟨gs[j].1, 0, none⟩ : Addr).add i) = some u) := hb.news
                have HLn : Hid ((U8 (bl xs[j])).length = xs[j].length * 1) := by show _ = _; rw [List.length_map, bl_length, Nat.mul_one]
                obtain ⟨TX, hTX⟩ : ∃ TX, TX = U8 ((xs.take j).map bl).flatten := ⟨_, rfl⟩
                have HTX : Hid (TX = U8 ((xs.take j).map bl).flatten) := hTX
                have HOT : Hid (w7.ownsRow w4.heap.size 5 1 ov (flen xs j) TX) := by
                  show World.ownsRow _ _ _ _ _ _ _
                  rw [hTX]
                  exact HM8.out.other
                have HSz : Hid (w4.heap.size ≤ w7.heap.size) := HM8.out.size
                clear hTX hroom hb HM hgm
                obtain ⟨NB, hNB⟩ : ∃ NB, NB = U8 (bl xs[j]) := ⟨_, rfl⟩
                have HNB : Hid (NB = U8 (bl xs[j])) := hNB
                have H1B : Hid (∀ u ∈ NB, u.oneCell' = true) := by
                  show ∀ u ∈ NB, _
                  rw [hNB]
                  exact ones_u8 _
                rw [← hNB] at HN HLn
                clear hNB
                go_wp2_with (at_builtin; refine wpList_append_own _ rfl (.tmp 95) (.tmp 99) 25 rfl w4.heap.size 5 i0 (.int .u8 0) 1 1 Tryd.underlying25 hi hz0 hz1 hz2 rfl (by decide) ov (flen xs j) TX rfl HOT.out ⟨gs[j].1, 0, none⟩ xs[j].length gs[j].2 NB rfl HLn.out HN.out H1B.out (by unfold maxLen; omega) (by omega) HSz.out ?_)
                intro ov' w9 hown9 hgrow9 _
                rw [HTX.out, HNB.out] at hown9
                have HN9 : Hid (L2 w2 w4 w9 (.slice (some ⟨bV, oV, none⟩) k cv) ov' (j + 1) gs xs (bL (j + 1) xs)) := HM8.out.next HG4.out hjx H24.out hown9 hgrow9
                clear hown9 hgrow9 HM8 HOT HN HLn HSz dV
                go_wp2
                go_roundw
                case rel => exact ⟨j + 1, by omega, by go_num, HN9.out⟩
                case measure => simp [intOf]; omega
          · obtain rfl : j = k := by omega
            have hI := HL.out.ins
            rw [bL_all xs j (by rw [HXl.out]; exact Nat.le_refl _)] at hI
            have hO := HL.out.other
            rw [flen_all xs j (by rw [HXl.out]; exact Nat.le_refl _), List.take_of_length_le (by rw [HXl.out]; exact Nat.le_refl _), ← flat_bl_len xs] at hO
            obtain ⟨pv', cv', hv', hPv'⟩ := hI.pin
            have hml : (xs.map bl).length = j := by rw [List.length_map, HXl.out]
            rw [hml] at hv' hPv'
            simp only [Value.slice.injEq] at hv'
            obtain ⟨rfl, _, rfl⟩ := hv'
            obtain ⟨po, co, hov, hBo, hlo, hno, _⟩ := own_in hO (flat_bl_bytes xs)
            subst hov
            have HPv' : Hid (PIn w5 (some ⟨bV, oV, none⟩) j (List.zipWith ent gs (xs.map bl)) (xs.map bl)) := hPv'
            have HBo : Hid (BIn w5 po (xs.map bl).flatten.length (xs.map bl).flatten) := hBo
            have HLo : Hid ((xs.map bl).flatten.length ≤ 120000) := by
              show _ ≤ _
              rw [flat_bl_len]
              exact HFl.out
            have BB : Hid (Below w.heap.size w w5) := below_then B2.out HL.out.below
            have T5 : Hid (Tab w5) := T2.out.later HL.out.below
            clear hI hO hPv' hBo hlo hno HL hml
            obtain ⟨F, hF⟩ : ∃ F, F = (xs.map bl).flatten := ⟨_, rfl⟩
            have HF : Hid (F = (xs.map bl).flatten) := hF
            rw [← hF] at HBo HLo ⊢
            clear hF
            go_wp2_with fail
            refine (of_parts _ j cv _ (xs.map bl) w5 HPv'.out (by rw [← HF.out]; have := HLo.out; omega) (by omega) T5.out).mono ?_
            rintro e w' ⟨rfl, rfl⟩
            rw [← HF.out]
            go_wp2_with fail
            refine (refOf_any po F.length co F w5 HBo.out (by have := HLo.out; omega)).mono ?_
            rintro e w' ⟨rfl, rfl⟩
            go_wp2_with fail
            go_ret
            exact ⟨by simp, BB.out⟩
  · obtain rfl : k = 0 := by omega
    clear HFL HFl HBx HSM HQ HUl HXl
    go_wp2
    refine wp_loop_rounds 1 ?_
    rw [rounds_succ]
    go_wp2_with fail
    refine (refOf_zero none 0 w2).mono ?_
    rintro e w' ⟨rfl, rfl⟩
    go_wp2_with fail
    refine (of_zero none 0 w2).mono ?_
    rintro e w' ⟨rfl, rfl⟩
    go_wp2_with fail
    refine (of_one w2 none 0 0 [] BIn.empty (Nat.le_refl _) (fun _ => rfl) (by omega) T2.out).mono ?_
    rintro e w' ⟨rfl, rfl⟩
    have B34 : Hid (Below w2.heap.size w2 (w2.alloc (.cells #[.slice none 0 0] 25))) := below_alloc _ _
    generalize w2.alloc (.cells #[.slice none 0 0] 25) = w4 at *
    have hz : (crc ([] : List Int) : Int) = 0 := rfl
    rw [hz]
    clear hz
    go_wp2_with fail
    refine (of_zero none 0 w4).mono ?_
    rintro e w' ⟨rfl, rfl⟩
    go_wp2_with fail
    refine wp_loop_rounds 1 ?_
    rw [rounds_succ]
    go_wp2_with fail
    refine (of_zero none 0 w4).mono ?_
    rintro e w' ⟨rfl, rfl⟩
    go_wp2_with fail
    refine (refOf_zero none 0 w4).mono ?_
    rintro e w' ⟨rfl, rfl⟩
    go_wp2_with fail
    go_ret
    exact ⟨by simp, below_then B2.out B34.out⟩
end Go.Proofs.YtaencchobpgogaaDoor
