/-
  The statement OctetJoins: its walk at more than fifty parts, and at none.
-/
import Derived.Test.YtdfnpapnoedpkaaFd
namespace Go.Proofs.Ytdfnpapnoedpkaa
open Go.RowKit

set_option maxRecDepth 100000 in
set_option maxHeartbeats 8000000 in
theorem joinsB (b o n0 c : Nat) (vs : List Value) (ls : List (List Int)) (w : World) (hP : PIn w (some ⟨b, o, none⟩) 50 vs ls) (hn0 : 50 < n0) (hnc : n0 ≤ c) (hbig : ls.flatten.length + 80 ≤ 140737488355328) :
    Calls Try.prog 7 #[.slice (some ⟨b, o, none⟩) n0 c] w fun e w' => e = .returned (.bool true) ∧ Below w.heap.size w w' := by
  obtain ⟨n, hn⟩ : ∃ n, n = 50 := ⟨_, rfl⟩
  have h0 : 0 < n := by omega
  have h50 : n ≤ 50 := by omega
  have hg50 : (50 : Int) < (n0 : Int) := by omega
  have hc50 : (50 : Int) ≤ (c : Int) := by omega
  have hc0 : ¬ c = 0 := by omega
  obtain ⟨X, hX⟩ : ∃ X, ls.flatten = X := ⟨_, rfl⟩
  have hbx : X.length + 80 ≤ 140737488355328 := by rw [← hX]; exact hbig
  have hxml : X.length ≤ maxLen := by unfold maxLen; omega
  have HX : Hid (ls.flatten = X) := hX
  have HP : Hid (PIn w (some ⟨b, o, none⟩) 50 vs ls) := hP
  rw [← hn] at HP
  have HV : Hid (vs.length = n) := HP.out.len
  have HL : Hid (ls.length = n) := HP.out.len2
  have HE : Hid (∀ k (h : k < ls.length), ls[k].length + 80 ≤ 140737488355328) := by
    intro k hk
    have h1 := flen_step ls k hk
    have h2 := flen_le ls (k + 1)
    omega
  obtain ⟨i23, hi23, hz230, hz231, hz232⟩ := info_parts info23
  clear hX hP hbig
  go_enter Try.func7, Try.ntmps7
  go_wp2_with fail
  rw [← hn]
  clear hn hg50 hc50
  refine (awake_any _).mono ?_
  rintro e w1 ⟨rfl, hb1⟩
  have HP1 : Hid (PIn w1 (some ⟨b, o, none⟩) n vs ls) := HP.out.later hb1
  go_wp2_with fail
  refine (rjoin_x _ n c vs ls X HX.out _ HP1.out hbx (by omega)).mono ?_
  rintro e w2 ⟨p2, c2, rfl, m2⟩
  have HP2 : Hid (PIn w2 (some ⟨b, o, none⟩) n vs ls) := HP1.out.later m2.below
  have HM2 : Hid (Made w1 w2 p2 X.length c2 X) := m2
  have HB2 : Hid (Below w.heap.size w w2) := below_then hb1 m2.below
  have HN2 : Hid (p2 = none → c2 = 0) := m2.nil
  have hcx2 : X.length ≤ c2 := m2.cap
  clear m2 hb1 HP HP1
  go_wp2
  go_loopw [4, 5] (fun v i wr => ∃ (k : Nat) (gs : List (Nat × Nat)), k ≤ n ∧ i = .int .i64 k ∧ Ins wr w2.heap.size v gs (ls.take k) ∧ Below w2.heap.size w2 wr) (fun _ i _ => n - (intOf i).toNat)
  case atStart => exact ⟨0, [], Nat.zero_le _, rfl, by rw [List.take_zero]; exact Ins.nil _ _, Below.refl _ _⟩
  case round =>
    obtain ⟨k, gs, hk, rfl, hI, hbr⟩ := hrel
    have HI : Hid (Ins wr w2.heap.size u4 gs (ls.take k)) := hI
    have HBr : Hid (Below w2.heap.size w2 wr) := hbr
    clear hI hbr
    by_cases hlt : k < n
    · have hkv : k < vs.length := by rw [HV.out]; exact hlt
      have hkl : k < ls.length := by rw [HL.out]; exact hlt
      have hPr := HP2.out.later HBr.out
      obtain ⟨b', o', e, hc0'⟩ := hPr.cells h0
      simp only [Option.some.injEq, Addr.mk.injEq, and_true] at e
      obtain ⟨rfl, rfl⟩ := e
      have hc := hc0' k hkv
      obtain ⟨p1, n1, c1, e1, f1, f2, f3⟩ := hPr.parts k hkv hkl
      rw [e1] at hc
      have hlk := HE.out k hkl
      obtain rfl : ls[k].length = n1 := f1.len
      have HF1 : Hid (BIn wr p1 ls[k].length ls[k]) := f1
      have HF3 : Hid (p1 = none → c1 = 0) := f3
      have htl : (ls.take k).length = k := by rw [List.length_take]; omega
      have HTL : Hid ((ls.take k).length = k) := htl
      have HTS : Hid (ls.take k ++ [ls[k]] = ls.take (k + 1)) := (List.take_succ_eq_append_getElem hkl).symm
      clear hc0' e1 f1 f3 hPr htl
      go_wp2_with fail
      refine (roomy_x p1 _ c1 ls[k] _ HF1.out HF3.out f2 hlk).mono ?_
      rintro e w3 ⟨g, cap, rfl, r3, hb3⟩
      have HR3 : Hid (RoomAt w3 wr.heap.size g ls[k].length cap ls[k]) := r3
      have HB3 : Hid (Below wr.heap.size wr w3) := hb3
      have HS3 : Hid (w2.heap.size ≤ w3.heap.size) := Nat.le_trans HBr.out.size hb3.size
      clear r3 hb3
      have HO : Hid (w3.ownsRow w2.heap.size 23 1 u4 k (List.zipWith ent gs (ls.take k))) := by
        have := own_later HI.out.row HB3.out
        rw [HTL.out] at this
        exact this
      go_wp2_with (at_builtin; refine wpList_append_own _ rfl (.tmp 29) (.tmp 35) 39 rfl w2.heap.size 23 i23 (.slice none 0 0) 1 24 Try.underlying39 hi23 hz230 hz231 hz232 rfl (by decide) u4 k (List.zipWith ent gs (ls.take k)) rfl (HO.out.alloc _) ⟨w3.heap.size, 0, none⟩ 1 1 [.slice (some ⟨g, 0, none⟩) ls[k].length cap] rfl rfl (cell_one_new _ _ _) (one_slice _ _ _) (by unfold maxLen; omega) (by omega) (by have := HS3.out; simp; omega) ?_)
      intro v' w4 hown4 hgrow4 _
      have R := HI.out.push HBr.out.size HB3.out HR3.out (by rw [HTL.out]; exact hown4) hgrow4
      rw [HTS.out] at R
      have HR : Hid (Ins w4 w2.heap.size v' (gs ++ [(g, cap)]) (ls.take (k + 1))) := R
      have HRB : Hid (Below w2.heap.size w2 w4) := (below_then HBr.out HB3.out |>.alloc HS3.out _).grown hgrow4 (by have := HS3.out; simp; omega) (fun q hq => (HI.out.row.lt q hq).1)
      clear R hown4 hgrow4 HO HR3 HB3 HS3 HI HBr
      go_wp2
      go_roundw
      case rel => exact ⟨k + 1, gs ++ [(g, cap)], by omega, by go_num, HR.out, HRB.out⟩
      case measure => simp [intOf]; omega
    · obtain rfl : n = k := by omega
      obtain ⟨w3, hw3⟩ : ∃ w3, w3 = wr := ⟨_, rfl⟩
      subst hw3
      have hI := HI.out
      rw [List.take_of_length_le (by rw [HL.out]; exact Nat.le_refl _)] at hI
      obtain ⟨pv, cv, hv, hPv⟩ := hI.pin
      rw [HL.out] at hv hPv
      subst hv
      obtain ⟨bV, oV, rfl, _⟩ := hPv.cells h0
      have HI3 : Hid (Ins w3 w2.heap.size (.slice (some ⟨bV, oV, none⟩) n cv) gs ls) := hI
      have HPv : Hid (PIn w3 (some ⟨bV, oV, none⟩) n (List.zipWith ent gs ls) ls) := hPv
      have HT3 : Hid (Below w.heap.size w w3) := HB2.out.trans (HBr.out.mono HB2.out.size)
      have HW3 : Hid (BIn w3 p2 X.length X) := HM2.out.read.later HBr.out
      have HP3 : Hid (PIn w3 (some ⟨b, o, none⟩) n vs ls) := HP2.out.later HBr.out
      have HG3 : Hid (w2.heap.size ≤ w3.heap.size) := HBr.out.size
      have HGL : Hid (gs.length = n) := by show _ = _; rw [hI.len, HL.out]
      clear hI hPv HI
      go_wp2_with fail
      refine (join_x _ n cv _ ls X HX.out _ HPv.out hbx (by omega)).mono ?_
      rintro e w4 ⟨p4, c4, rfl, m4⟩
      have s4 := m4.read.str c4
      have s2 := (HW3.out.later m4.below).str c2
      go_wp2_with fail
      refine (blank_any _ X.length c4 X _ hxml m4.read).mono ?_
      rintro e w' ⟨rfl, rfl⟩
      go_wp2_with fail
      refine (rblank_any _ X.length c2 X _ hxml (HW3.out.later m4.below)).mono ?_
      rintro e w' ⟨rfl, rfl⟩
      go_wp2_with fail
      clear s4 s2
      refine (join_x _ n cv _ ls X HX.out _ (HPv.out.later m4.below) hbx (by omega)).mono ?_
      rintro e w5 ⟨p5, c5, rfl, m5⟩
      have s5 := m5.read.str c5
      have s2 := ((HW3.out.later m4.below).later m5.below).str c2
      go_wp2_with fail
      clear s5 s2
      refine (join_78 w5).mono ?_
      rintro e w6 ⟨p6, c6, rfl, B6, hB6, g6, hb6⟩
      go_wp2_with fail
      refine (join_x _ n cv _ ls X HX.out _ (((HPv.out.later m4.below).later m5.below).later hb6) hbx (by omega)).mono ?_
      rintro e w7 ⟨p7, c7, rfl, m7⟩
      have s4 := (((m4.read.later m5.below).later hb6).later m7.below).str c4
      have s5 := ((m5.read.later hb6).later m7.below).str c5
      have s7 := m7.read.str c7
      have s2 := ((((HW3.out.later m4.below).later m5.below).later hb6).later m7.below).str c2
      have hbAll := below_then (below_then (below_then m4.below m5.below) hb6) m7.below
      have HC7 : Hid (Four w7 w3.heap.size w4.heap.size B6 w6.heap.size w7.heap.size (p4, X.length, c4) (p5, X.length, c5) (p6, 2, c6) (p7, X.length, c7)) := by
        exact ⟨((m4.seg.later m5.below).later hb6).later m7.below, (((m5.seg.later hb6).later m7.below).wider hB6), g6.later m7.below, m7.seg⟩
      have HA7 : Hid (Below w3.heap.size w3 w7) := hbAll
      clear hbAll m4 m5 m7 g6 hb6
      go_wp2
      clear s4 s5 s7 s2
      go_loopw [10] (fun i wq => ∃ k : Nat, k ≤ n ∧ i = .int .i64 k ∧ Below w7.heap.size w7 wq) (fun i _ => n - (intOf i).toNat)
      case atStart => exact ⟨0, Nat.zero_le _, rfl, Below.refl _ _⟩
      case round =>
        obtain ⟨j, hj, rfl, hbq⟩ := hrel
        have HB7 : Hid (Below w7.heap.size w7 wr) := hbq
        have HBq : Hid (Below w3.heap.size w3 wr) := below_then HA7.out hbq
        clear hbq
        by_cases hlj : j < n
        · have hjv : j < vs.length := by rw [HV.out]; exact hlj
          have hjl : j < ls.length := by rw [HL.out]; exact hlj
          have hjg : j < gs.length := by rw [HGL.out]; exact hlj
          have hjz : j < (List.zipWith ent gs ls).length := by rw [HPv.out.len]; exact hlj
          have hPq := HP3.out.later HBq.out
          obtain ⟨b', o', e, hcc⟩ := hPq.cells h0
          simp only [Option.some.injEq, Addr.mk.injEq, and_true] at e
          obtain ⟨rfl, rfl⟩ := e
          have hc2' := hcc j hjv
          obtain ⟨p1, n1, c1, e1, f1, f2, f3⟩ := hPq.parts j hjv hjl
          rw [e1] at hc2'
          obtain rfl : ls[j].length = n1 := f1.len
          have hVq := HPv.out.later HBq.out
          obtain ⟨b', o', e, hcc2⟩ := hVq.cells h0
          simp only [Option.some.injEq, Addr.mk.injEq, and_true] at e
          obtain ⟨rfl, rfl⟩ := e
          have hc1' := hcc2 j hjz
          rw [List.getElem_zipWith] at hc1'
          have hroom := (HI3.out.later HBq.out).room j hjg hjl
          obtain ⟨q1, q2, q3⟩ := roomy_in hroom.own hroom.len hroom.byte
          have hcap2 := hroom.cap2
          have hlk := HE.out j hjl
          have HQ1 : Hid (BIn wr.drew (some ⟨gs[j].1, 0, none⟩) ls[j].length ls[j]) := q1.drew
          have HQ2 : Hid (wr.drew.cell? ⟨gs[j].1, ls[j].length, none⟩ = some (.int .u8 90)) := q2
          have HQ3 : Hid (wr.drew.cell? ⟨gs[j].1, ls[j].length + 1, none⟩ = some (.int .u8 165)) := q3
          have HF1 : Hid (BIn wr.drew p1 ls[j].length ls[j]) := f1.drew
          have d1 : wr.drew.cell? ⟨bV, oV + j, none⟩ = some (.slice (some ⟨gs[j].1, 0, none⟩) ls[j].length gs[j].2) := hc1'
          have d2 : wr.drew.cell? ⟨b, o + j, none⟩ = some (.slice p1 ls[j].length c1) := hc2'
          have i1 : (j : Int) < (n : Int) := by omega
          have i0 : (0 : Int) ≤ (j : Int) := by omega
          clear hcc hcc2 hPq hVq hroom q1 q2 q3 f1 f2 f3 e1 hc1' hc2'
          generalize gs[j].1 = gg at *
          generalize gs[j].2 = gc at *
          go_wp2
          go_region_held3 (fun w' => w'.cell? ⟨bV, oV + j, none⟩ = some (.slice (some ⟨gg, 0, none⟩) ls[j].length gc) ∧ w'.cell? ⟨b, o + j, none⟩ = some (.slice p1 ls[j].length c1)) (exact ⟨d1, d2⟩) (first | (go_at_call 19; refine (held_any gg ls[j].length gc c1 p1 ls[j] _ HQ1.out HQ2.out HQ3.out hcap2 hlk HF1.out).mono ?_; rintro e w' ⟨rfl, nq, rfl⟩))
          go_wp2
          go_roundw
          case rel => exact ⟨j + 1, by omega, by go_num, HB7.out.trans ⟨rfl, rfl, rfl, Nat.le_refl _, fun _ _ => rfl⟩⟩
          case measure => simp [intOf]; omega
        · obtain rfl : n = j := by omega
          obtain ⟨w8, hw8⟩ : ∃ w8, w8 = wr := ⟨_, rfl⟩
          subst hw8
          have HI8 : Hid (Ins w8 w2.heap.size (.slice (some ⟨bV, oV, none⟩) n cv) gs (turnL 0 ls)) := by
            show Ins _ _ _ _ _
            rw [turnL_zero]
            exact HI3.out.later HBq.out
          have HW8 : Hid (BIn w8 p2 X.length X) := HW3.out.later HBq.out
          have HC8 : Hid (Four w8 w3.heap.size w4.heap.size B6 w6.heap.size w7.heap.size (p4, X.length, c4) (p5, X.length, c5) (p6, 2, c6) (p7, X.length, c7)) := HC7.out.later HB7.out
          have HT8 : Hid (Below w.heap.size w w8) := below_then HT3.out HBq.out
          have HS8 : Hid (w7.heap.size ≤ w8.heap.size) := HB7.out.size
          have HS37 : Hid (w3.heap.size ≤ w7.heap.size) := HA7.out.size
          have HRg : Hid (∀ i (h : i < gs.length), w2.heap.size ≤ gs[i].1 ∧ gs[i].1 < w3.heap.size) := fun i h => (HI3.out.room i h (by rw [HL.out, ← HGL.out]; exact h)).at
          have HP2b : Hid (∀ a, p2 = some a → a.block < w2.heap.size) := HM2.out.seg.lt
          have HT2 : Hid (w.heap.size ≤ w2.heap.size) := HB2.out.size
          clear HI3 HW3 HC7 HT3 HA7 HBq HB7 HPv HP3 HP2 HM2 HBr HB2
          go_wp2
          go_loopw [11] (fun i wq => ∃ k : Nat, k ≤ n ∧ i = .int .i64 k ∧ Ins wq w2.heap.size (.slice (some ⟨bV, oV, none⟩) n cv) gs (turnL k ls) ∧ BIn wq p2 X.length X ∧ Four wq w3.heap.size w4.heap.size B6 w6.heap.size w7.heap.size (p4, X.length, c4) (p5, X.length, c5) (p6, 2, c6) (p7, X.length, c7) ∧ Below w.heap.size w wq ∧ w7.heap.size ≤ wq.heap.size) (fun i _ => n - (intOf i).toNat)
          case atStart => exact ⟨0, Nat.zero_le _, rfl, HI8.out, HW8.out, HC8.out, HT8.out, HS8.out⟩
          case round =>
            obtain ⟨k, hk, rfl, hI, hW, hC, hT, hS⟩ := hrel
            have HI : Hid (Ins wr w2.heap.size (.slice (some ⟨bV, oV, none⟩) n cv) gs (turnL k ls)) := hI
            have HW : Hid (BIn wr p2 X.length X) := hW
            have HC : Hid (Four wr w3.heap.size w4.heap.size B6 w6.heap.size w7.heap.size (p4, X.length, c4) (p5, X.length, c5) (p6, 2, c6) (p7, X.length, c7)) := hC
            have HT : Hid (Below w.heap.size w wr) := hT
            have HS : Hid (w7.heap.size ≤ wr.heap.size) := hS
            clear hI hW hC hT hS HI8 HW8 HC8 HT8 HS8
            by_cases hlk : k < n
            · have hkl : k < ls.length := by rw [HL.out]; exact hlk
              have hkg : k < gs.length := by rw [HGL.out]; exact hlk
              have hkt : k < (turnL k ls).length := by rw [turnL_length]; exact hkl
              have hroom := HI.out.room k hkg hkt
              have hget := turnL_get k k ls hkt hkl
              rw [if_neg (Nat.lt_irrefl _)] at hget
              rw [hget] at hroom
              have hcell := HI.out.cell k hkg hkt
              rw [hget] at hcell
              have hcell' : wr.cell? ⟨bV, oV + k, none⟩ = some (.slice (some ⟨gs[k].1, 0, none⟩) ls[k].length gs[k].2) := hcell
              have hle := HE.out k hkl
              have hgk := HRg.out k hkg
              have HRm : Hid (RoomAt wr w2.heap.size gs[k].1 ls[k].length gs[k].2 ls[k]) := hroom
              clear hroom hget hcell hkt
              have i1 : (k : Int) < (n : Int) := by omega
              go_wp2_with fail
              refine (turn_x w2.heap.size gs[k].1 ls[k].length gs[k].2 ls[k] _ HRm.out hle).mono ?_
              rintro e wt ⟨rfl, rt, hgt⟩
              have HJ1 : Hid (Ins wt w2.heap.size (.slice (some ⟨bV, oV, none⟩) n cv) gs (turnL (k + 1) ls)) := HI.out.turn hkg hkl rt hgt
              have HJ2 : Hid (BIn wt p2 X.length X) := HW.out.turn hgt (fun a ha _ => by have := HP2b.out a ha; omega)
              have HJ3 : Hid (Four wt w3.heap.size w4.heap.size B6 w6.heap.size w7.heap.size (p4, X.length, c4) (p5, X.length, c5) (p6, 2, c6) (p7, X.length, c7)) := HC.out.turn hgt hgk.2
              have HJ4 : Hid (Below w.heap.size w wt) := HT.out.grown hgt HT.out.size (by intro q hq; simp only [Option.some.injEq] at hq; have := HT2.out; omega)
              have HJ5 : Hid (w7.heap.size ≤ wt.heap.size) := Nat.le_trans HS.out hgt.size
              clear rt hgt HI HW HC HT HS HRm hcell'
              go_wp2
              go_roundw
              case rel => exact ⟨k + 1, by omega, by go_num, HJ1.out, HJ2.out, HJ3.out, HJ4.out, HJ5.out⟩
              case measure => simp [intOf]; omega
            · obtain rfl : n = k := by omega
              obtain ⟨w9, hw9⟩ : ∃ w9, w9 = wr := ⟨_, rfl⟩
              subst hw9
              have hI := HI.out
              rw [show turnL n ls = ls.map (fun l => l.map flip) from by rw [← HL.out]; exact turnL_all ls] at hI
              have HI9 : Hid (Ins w9 w2.heap.size (.slice (some ⟨bV, oV, none⟩) n cv) gs (ls.map (fun l => l.map flip))) := hI
              have HXf : Hid ((ls.map (fun l => l.map flip)).flatten = X.map flip) := by show _ = _; rw [turnL_flat, HX.out]
              have hxl : (X.map flip).length = X.length := by simp
              have HXl : Hid ((X.map flip).length = X.length) := hxl
              clear hI HI hxl
              go_wp2_with fail
              refine (own_any p2 X.length c2 X _ HW.out HN2.out hcx2 (by omega)).mono ?_
              rintro e w10 ⟨v10, rfl, ho10, hb10⟩
              go_wp2_with fail
              refine (turn_own w9.heap.size v10 X.length X _ ho10 (by omega)).mono ?_
              rintro e w11 ⟨rfl, ho11, hg11⟩
              have hb11 : Below w9.heap.size w9 w11 := hb10.grown hg11 hb10.size (fun q hq => (ho10.lt q hq).1)
              obtain ⟨p11, c11, e11, r11, _⟩ := own_in ho11 (fun x hx => by obtain ⟨y, hy, rfl⟩ := List.mem_map.1 hx; exact flip_byte y (HW.out.byte y hy))
              subst e11
              obtain ⟨pq, cq, eq, hPq⟩ := (HI9.out.later hb11).pin
              simp only [List.length_map, HL.out, Value.slice.injEq] at eq
              obtain ⟨rfl, _, rfl⟩ := eq
              rw [List.length_map, HL.out] at hPq
              have HPq : Hid (PIn w11 (some ⟨bV, oV, none⟩) n (List.zipWith ent gs (ls.map (fun l => l.map flip))) (ls.map (fun l => l.map flip))) := hPq
              have HR11 : Hid (BIn w11 p11 X.length (X.map flip)) := r11
              have HB11 : Hid (Below w9.heap.size w9 w11) := hb11
              clear hPq r11 ho10 hb10 ho11 hg11 hb11
              go_wp2_with fail
              refine (join_x _ n cv _ _ (X.map flip) HXf.out _ HPq.out (by rw [HXl.out]; exact hbx) (by omega)).mono ?_
              rintro e w12 ⟨p12, c12, rfl, m12⟩
              rw [HXl.out] at *
              have s12 := m12.read.str c12
              have s11 := (HR11.out.later m12.below).str c11
              have hz9 : w3.heap.size ≤ w9.heap.size := Nat.le_trans HS37.out HS.out
              have hz11 := HB11.out.size
              have hz12 := m12.below.size
              have hz7 : w7.heap.size ≤ w11.heap.size := Nat.le_trans HS.out hz11
              have HCf : Hid (Chain w12 w3.heap.size [(p4, X.length, c4), (p5, X.length, c5), (p6, 2, c6), (p7, X.length, c7), (p12, X.length, c12)]) :=
                ((HC.out.later HB11.out).later m12.below).chain hz7 m12.seg
              have HTf : Hid (Below w.heap.size w w12) := (HT.out.trans (HB11.out.mono HT.out.size)).trans (m12.below.mono (Nat.le_trans HT.out.size hz11))
              have hq3 : w3.heap.size ≤ w12.heap.size := by omega
              have hq0 : w.heap.size ≤ w3.heap.size := Nat.le_trans HT2.out HG3.out
              clear m12 HB11 HR11 HPq HI9 HC HT HS HW
              go_wp2_with fail
              clear s12 s11
              refine (apart5 w12 w3.heap.size p4 p5 p6 p7 p12 _ _ _ _ _ c4 c5 c6 c7 c12 hq3 HCf.out).mono ?_
              rintro e w14 ⟨rfl, hb14⟩
              go_wp2
              go_ret
              exact ⟨rfl, HTf.out.trans (hb14.mono hq0)⟩

set_option maxRecDepth 100000 in
set_option maxHeartbeats 4000000 in
theorem joinsZ (p : Option Addr) (c : Nat) (w : World) :
    Calls Try.prog 7 #[.slice p 0 c] w fun e w' => e = .returned (.bool true) ∧ Below w.heap.size w w' := by
  have HP : Hid (∀ (w : World) (q : Option Addr), PIn w q 0 [] []) := fun w q => ⟨rfl, rfl, fun h => absurd h (Nat.lt_irrefl 0), fun i h => absurd h (Nat.not_lt_zero _)⟩
  obtain ⟨X, hX⟩ : ∃ X : List Int, ([] : List (List Int)).flatten = X := ⟨_, rfl⟩
  have hbx : X.length + 80 ≤ 140737488355328 := by rw [← hX]; decide
  have hml : X.length ≤ maxLen := by unfold maxLen; omega
  have hbt : Bytes X := by rw [← hX]; exact Bytes.nil
  have HMF : Hid (X.map flip = X) := by show _ = _; rw [← hX]; rfl
  have HX : Hid (([] : List (List Int)).flatten = X) := hX
  clear hX
  go_enter Try.func7, Try.ntmps7
  go_wp2_with fail
  refine (awake_any _).mono ?_
  rintro e w1 ⟨rfl, hb1⟩
  go_wp2_with fail
  refine (rjoin_x p 0 c [] [] X HX.out _ (HP.out _ _) hbx (by omega)).mono ?_
  rintro e w2 ⟨p2, c2, rfl, m2⟩
  have hc2 := m2.cap
  have hn2 := m2.nil
  go_wp2
  refine wp_loop_rounds 1 ?_
  rw [rounds_succ]
  go_wp2_with fail
  refine (join_x none 0 0 [] [] X HX.out _ (HP.out _ _) hbx (by omega)).mono ?_
  rintro e w4 ⟨p4, c4, rfl, m4⟩
  have s4 := m4.read.str c4
  have s2 := (m2.read.later m4.below).str c2
  go_wp2_with fail
  refine (blank_any _ X.length c4 X _ hml m4.read).mono ?_
  rintro e w' ⟨rfl, rfl⟩
  go_wp2_with fail
  refine (rblank_any _ X.length c2 X _ hml (m2.read.later m4.below)).mono ?_
  rintro e w' ⟨rfl, rfl⟩
  go_wp2_with fail
  clear s4 s2
  refine (join_x none 0 0 [] [] X HX.out _ (HP.out _ _) hbx (by omega)).mono ?_
  rintro e w5 ⟨p5, c5, rfl, m5⟩
  have s5 := m5.read.str c5
  have s2 := ((m2.read.later m4.below).later m5.below).str c2
  go_wp2_with fail
  clear s5 s2
  refine (join_78 w5).mono ?_
  rintro e w6 ⟨p6, c6, rfl, B6, hB6, g6, hb6⟩
  go_wp2_with fail
  refine (join_x none 0 0 [] [] X HX.out _ (HP.out _ _) hbx (by omega)).mono ?_
  rintro e w7 ⟨p7, c7, rfl, m7⟩
  have s4 := (((m4.read.later m5.below).later hb6).later m7.below).str c4
  have s5 := ((m5.read.later hb6).later m7.below).str c5
  have s7 := m7.read.str c7
  have r2 := (((m2.read.later m4.below).later m5.below).later hb6).later m7.below
  have s2 := r2.str c2
  go_wp2
  clear s4 s5 s7 s2
  refine wp_loop_rounds 1 ?_
  rw [rounds_succ]
  go_wp2
  refine wp_loop_rounds 1 ?_
  rw [rounds_succ]
  go_wp2_with fail
  refine (own_any p2 X.length c2 X _ r2 hn2 hc2 (by omega)).mono ?_
  rintro e w10 ⟨v10, rfl, ho10, hb10⟩
  go_wp2_with fail
  refine (turn_own w7.heap.size v10 X.length X _ ho10 (by omega)).mono ?_
  rintro e w11 ⟨rfl, ho11, hg11⟩
  have hb11 : Below w7.heap.size w7 w11 := hb10.grown hg11 hb10.size (fun q hq => (ho10.lt q hq).1)
  rw [HMF.out] at ho11
  obtain ⟨p11, c11, e11, r11, _⟩ := own_in ho11 hbt
  subst e11
  clear ho10 ho11 hb10 hg11
  go_wp2_with fail
  refine (join_x none 0 0 [] [] X HX.out _ (HP.out _ _) hbx (by omega)).mono ?_
  rintro e w12 ⟨p12, c12, rfl, m12⟩
  have s12 := m12.read.str c12
  have s11 := (r11.later m12.below).str c11
  have HCf : Hid (Chain w12 w2.heap.size [(p4, X.length, c4), (p5, X.length, c5), (p6, 2, c6), (p7, X.length, c7), (p12, X.length, c12)]) := by
    have h4 : Four w7 w2.heap.size w4.heap.size B6 w6.heap.size w7.heap.size (p4, X.length, c4) (p5, X.length, c5) (p6, 2, c6) (p7, X.length, c7) := ⟨((m4.seg.later m5.below).later hb6).later m7.below, (((m5.seg.later hb6).later m7.below).wider hB6), g6.later m7.below, m7.seg⟩
    exact ((h4.later hb11).later m12.below).chain hb11.size m12.seg
  have q1 := below_then (below_then (below_then (below_then m4.below m5.below) hb6) m7.below) (below_then hb11 m12.below)
  have HTf : Hid (Below w.heap.size w w12) := below_then (below_then hb1 m2.below) q1
  have hq3 : w2.heap.size ≤ w12.heap.size := q1.size
  have hq0 : w.heap.size ≤ w2.heap.size := (below_then hb1 m2.below).size
  clear m2 m4 m5 m7 m12 hb1 hb6 hb11 g6 r2 r11 q1
  go_wp2_with fail
  clear s12 s11
  refine (apart5 w12 w2.heap.size p4 p5 p6 p7 p12 _ _ _ _ _ c4 c5 c6 c7 c12 hq3 HCf.out).mono ?_
  rintro e w14 ⟨rfl, hb14⟩
  go_wp2
  go_ret
  exact ⟨rfl, HTf.out.trans (hb14.mono hq0)⟩

end Go.Proofs.Ytdfnpapnoedpkaa
