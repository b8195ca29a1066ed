/-
  Layer 4: plays: Write.
-/
import Derived.Test.YtlidjenkicgldaaUc
import Derived.BigQuiet
namespace Go.Proofs.Ytlidjenkicgldaa
open Go.RowKit

set_option maxRecDepth 100000 in
set_option maxHeartbeats 8000000 in
theorem plays_write {w : World} {B P n K : Nat} (h : St w B P n K) (hK : K ≤ 100) (W N : Int) (pd pk : Option Addr) (ld cd lk ck : Nat) (xs : List Int) (hxs : BIn w pd ld xs) (hpd : pd = none → cd = 0) (hld : ld ≤ cd) (hbig : ld ≤ 140737488351232) :
    Calls Try.prog 26 #[.pointer (some ⟨P, 0, none⟩), .agg #[.int .i64 2, .int .i64 W, .int .i64 N, .slice pd ld cd, .slice pk lk ck]] w fun e0 w' => e0 = .returned (.bool true) ∧ St w' B P n (K + 1) ∧ Below B w w' := by
  obtain ⟨i5, hi5, hz50, hz51, hz52⟩ := info_parts info5
  have HDa : Hid (BIn w pd ld xs) := hxs
  clear hxs
  obtain ⟨R, x, y, e, u, m, hp, hu, hm, hB⟩ := h
  have t2 := tmod2 W
  have e2 := sl2_is W
  have l2 := sl2_lt W
  go_enter Try.func26, Try.ntmps26
  go_wp2
  rw [e2]
  have HH0 : Hid (Pr w R B P x y n e u e u m) := hp
  have HBx : Hid (Below w.heap.size w (w.alloc (.cells #[.int .i64 2, .int .i64 W, .int .i64 N, .slice pd ld cd, .slice pk lk ck] 61)) ∧ (w.alloc (.cells #[.int .i64 2, .int .i64 W, .int .i64 N, .slice pd ld cd, .slice pk lk ck] 61)).heap[w.heap.size]? = some (.cells #[.int .i64 2, .int .i64 W, .int .i64 N, .slice pd ld cd, .slice pk lk ck] 61 (0, 0))) := ⟨below_alloc w _, heap_alloc_new w _⟩
  have HZ : Hid (R w.heap.size = 0) := hp.hi _ (Nat.le_refl _)
  clear hp t2 e2
  revert HBx l2
  generalize sl2 W = i
  generalize w.alloc (.cells #[.int .i64 2, .int .i64 W, .int .i64 N, .slice pd ld cd, .slice pk lk ck] 61) = w1
  intro l2 HBx
  have HH1 : Hid (Pr w1 R B P x y n e u e u m) := HH0.out.later HBx.out.1
  have HBo : Hid (Box w1 w.heap.size 2 W N (.slice pd ld cd) (.slice pk lk ck)) := HBx.out.2
  have s1 := HBx.out.1.size
  have HB1 : Hid (Below w.heap.size w w1) := HBx.out.1
  have hul : (u i).length ≤ 100 := by have := hu i l2; omega
  clear HBx HH0
  have c0 := HH1.out.cx i l2
  have c1 := HH1.out.cy i l2
  have d0 : w1.drew.cell? ⟨P, i, none⟩ = some (.pointer (some ⟨x i, 0, none⟩)) := c0
  have d1 : w1.drew.cell? ⟨P, 2 + i, none⟩ = some (.pointer (some ⟨y i, 0, none⟩)) := c1
  go_quiet (fail)
  have HH : Hid (Pr (w1.drewN nq) R B P x y n e u e u m) := HH1.out.later (below_drawn nq)
  have HX : Hid (Box (w1.drewN nq) w.heap.size 2 W N (.slice pd ld cd) (.slice pk lk ck)) := HBo.out.later (below_drawn nq)
  have HB2 : Hid (Below w.heap.size w (w1.drewN nq)) := below_then HB1.out (below_drawn nq)
  have hs2 : w.heap.size ≤ (w1.drewN nq).heap.size := s1
  clear c0 c1 d0 d1 HH1 HBo HB1 s1
  revert HH HX HB2 hs2
  generalize w1.drewN nq = w2
  intro HH HX HB2 hs2
  have hB2 : B ≤ w2.heap.size := by omega
  obtain ⟨b0, b1, b2, b3, b4⟩ := HX.out.at
  have HDa2 : Hid (BIn w2 pd ld xs) := HDa.out.later HB2.out
  go_wp2_with fail
  refine (ownb_any pd ld cd xs w2 HDa2.out hpd hld (by omega)).mono ?_
  rintro e1 w3 ⟨vb, rfl, hob, hb3⟩
  have HO : Hid (w3.ownsRow w2.heap.size 5 1 vb ld (U8 xs) ∧ Bytes xs ∧ Below w2.heap.size w2 w3) := ⟨hob, HDa.out.byte, hb3⟩
  clear hob hb3 HDa HDa2 b0 b1 b2 b3 b4
  go_wp2
  go_loopw [16] (fun v wr => ∃ (J : Nat) (ys : List Int), Hid (wr.ownsRow w2.heap.size 5 1 v J (U8 ys) ∧ Bytes ys ∧ Below w2.heap.size w2 wr) ∧ (J ≤ ld ∨ J ≤ 64)) (fun v _ => 64 - lenOf v)
  case atStart => exact ⟨ld, xs, ⟨HO.out.1, HO.out.2.1, HO.out.2.2⟩, .inl (Nat.le_refl _)⟩
  case round =>
    obtain ⟨J, ys, HR, hJ⟩ := hrel
    obtain ⟨pv, cv, rfl, _⟩ := own_slice HR.out.1
    clear HO
    have hJb : J ≤ 140737488351232 := by omega
    obtain ⟨b0, b1, b2, b3, b4⟩ := (HX.out.later HR.out.2.2).at
    by_cases hgo : J < 64 ∧ 0 ≤ W
    · have q1 : (J : Int) < 64 := by omega
      have q2 : (0 : Int) ≤ W := hgo.2
      have hJ64 := hgo.1
      clear hgo
      have hs := HR.out.2.2.size
      go_wp2_with (at_builtin; refine wpList_append_own _ rfl (.tmp 131) (.tmp 132) 23 rfl w2.heap.size 5 i5 (.int .u8 0) 1 1 Try.underlying23 hi5 hz50 hz51 hz52 rfl (by omega) _ J (U8 ys) rfl (HR.out.1.alloc _) ⟨wr.heap.size, 0, none⟩ 1 1 (U8 [0]) rfl rfl (cell_one_new _ _ _) (ones_u8 _) (by unfold maxLen; omega) (by omega) (by simp; omega) ?_)
      intro v' w5 hown hgrow _
      have HU : Hid (w5.ownsRow w2.heap.size 5 1 v' (J + 1) (U8 (ys ++ [0])) ∧ Bytes (ys ++ [0]) ∧ Below w2.heap.size w2 w5) := ⟨by rw [show U8 (ys ++ [0]) = U8 ys ++ U8 [0] from List.map_append]; exact hown, HR.out.2.1.append (Bytes.cons (by omega) Bytes.nil), (HR.out.2.2.alloc hs _).grown hgrow (by simp; omega) (fun j hj => (HR.out.1.lt j hj).1)⟩
      obtain ⟨pv2, cv2, rfl, _⟩ := own_slice hown
      clear hown hgrow b0 b1 b2 b3 b4 HR
      go_wp2
      go_roundw
      case rel => exact ⟨J + 1, _, HU, by omega⟩
      case measure => simp [lenOf]; omega
    · have HI : Hid (BIn wr pv J ys ∧ J ≤ cv ∧ (pv = none → cv = 0)) := own_bin HR.out.1 HR.out.2.1
      have HOb : Hid (wr.ownsRow w2.heap.size 5 1 (.slice pv J cv) J (U8 ys) ∧ Bytes ys ∧ Below w2.heap.size w2 wr) := HR.out
      clear HR
      have HHr : Hid (Pr wr R B P x y n e u e u m) := HH.out.later HOb.out.2.2
      have HXr : Hid (Box wr w.heap.size 2 W N (.slice pd ld cd) (.slice pk lk ck)) := HX.out.later HOb.out.2.2
      have hsr := HOb.out.2.2.size
      by_cases hJ64 : J < 64
      · have q1 : (J : Int) < 64 := by omega
        have q2 : ¬ (0 : Int) ≤ W := fun c => hgo ⟨hJ64, c⟩
        clear hgo
        go_wp2_with fail
        refine (marked_any pv J cv ys wr HI.out.1 HI.out.2.2 HI.out.2.1 (by omega)).mono ?_
        rintro e1 w4 ⟨gm, cm, rfl, hmo, hcm, hb4⟩
        obtain ⟨hinm, h90, h91⟩ := marked_in hmo HI.out.1.len HOb.out.2.1
        have hmr := marked_row hmo
        have HM : Hid (BIn w4 (some ⟨gm, 0, none⟩) J ys ∧ w4.cell? ⟨gm, J, none⟩ = some (.int .u8 90) ∧ w4.cell? ⟨gm, J + 1, none⟩ = some (.int .u8 90) ∧ Blk w4 gm 5 cm) := ⟨hinm, h90, h91, hmr.1⟩
        have hgm := hmr.2
        have hgl := hmr.1.lt
        have HI4 : Hid (BIn w4 pv J ys) := HI.out.1.later hb4
        have HX4 : Hid (Box w4 w.heap.size 2 W N (.slice pd ld cd) (.slice pk lk ck)) := HXr.out.later hb4
        have HB4 : Hid (Below w2.heap.size w2 w4) := below_then HOb.out.2.2 hb4
        have hs4 := hb4.size
        have HH4 : Hid (Pr w4 (at2 R gm 8) B P x y n e u e u m) := HH.out.mark HB4.out (by omega) hgl (by omega)
        have HRm : Hid (at2 R gm 8 gm = 8 ∧ (∀ a, pv = some a → at2 R gm 8 a.block = 0 ∧ a.block < w4.heap.size) ∧ at2 R gm 8 w.heap.size = 0) := ⟨at2_same _ _ _, fun a ea => by subst ea; obtain ⟨p0, c0, e0, _, hq⟩ := own_slice HOb.out.1; simp only [Value.slice.injEq] at e0; obtain ⟨g0, rfl⟩ := hq a e0.1.symm; have hg0 := own_blk HOb.out.1; have hgl0 := hg0.1.lt; exact ⟨(at2_other _ _ _ _ (by show g0 ≠ gm; omega)).trans (HH.out.hi g0 hg0.2.2.2), by show g0 < _; omega⟩, (at2_other _ _ _ _ (by have := HX.out.lt; omega)).trans HZ.out⟩
        clear hmo hb4 hinm h90 h91 hmr HI HHr HXr HOb b0 b1 b2 b3 b4
        generalize at2 R gm 8 = Rm at HH4 HRm
        obtain ⟨b0, b1, b2, b3, b4⟩ := HX4.out.at
        go_wp2_with fail
        refine (write_is (HH4.out.dsk i l2) N (some ⟨gm, 0, none⟩) J cm ys HM.out.1 (by omega)).mono ?_
        rintro e1 w5 ⟨rfl, hd5, hk5⟩
        have hP5 := HH4.out.setD l2 hk5 hd5 (by omega)
        have hs5 := hk5.size
        have ns : ∀ k, (Rm k = 0 ∨ Rm k = 8) → ¬ (Rm k = 1 + i) := fun k hk => by omega
        have HX5 : Hid (Box w5 w.heap.size 2 W N (.slice pd ld cd) (.slice pk lk ck)) := HX4.out.same (hk5.block _ HX4.out.lt (ns _ (.inl HRm.out.2.2)))
        have HI5 : Hid (BIn w5 pv J ys) := HI4.out.kept hk5 (fun a ea => ns _ (.inl (HRm.out.2.1 a ea).1))
        have e5 := hk5.block gm hgl (ns _ (.inr HRm.out.1))
        have HM5 : Hid (BIn w5 (some ⟨gm, 0, none⟩) J ys ∧ w5.cell? ⟨gm, J, none⟩ = some (.int .u8 90) ∧ w5.cell? ⟨gm, J + 1, none⟩ = some (.int .u8 90) ∧ Blk w5 gm 5 cm) := ⟨HM.out.1.kept hk5 (fun a ea => by cases ea; exact ns _ (.inr HRm.out.1)), (cell_same e5).trans HM.out.2.1, (cell_same e5).trans HM.out.2.2.1, HM.out.2.2.2.same e5⟩
        have HB5 : Hid (Below B w2 w5) := (HB4.out.mono hB2).trans (HH4.out.kb (by omega) (by omega) hk5)
        have HP5 : Hid (Pr w5 (up Rm w4.heap.size w5.heap.size (1 + i)) B P x y n (at2 e i (e i)) (at2 u i (wrU n (u i) N ys)) e u m) := hP5
        have HR5 : Hid (up Rm w4.heap.size w5.heap.size (1 + i) gm = 8 ∧ (∀ a, pv = some a → up Rm w4.heap.size w5.heap.size (1 + i) a.block = 0)) := ⟨(up_lo hgl).trans HRm.out.1, fun a ea => (up_lo (HRm.out.2.1 a ea).2).trans (HRm.out.2.1 a ea).1⟩
        clear hd5 hk5 hP5 ns HX4 HI4 HM e5 HB4 HH4 HRm b0 b1 b2 b3 b4
        generalize up Rm w4.heap.size w5.heap.size (1 + i) = R5 at HP5 HR5
        obtain ⟨b0, b1, b2, b3, b4⟩ := HX5.out.at
        go_wp2_with fail
        refine (rwrite_is (HP5.out.ref i l2) N pv J cv ys HI5.out (by omega)).mono ?_
        rintro e1 w6 ⟨rfl, hd6, hk6⟩
        have hP6 := HP5.out.setR l2 hk6 hd6 (by omega)
        have hs6 := hk6.size
        have ns : ∀ k, (R5 k = 0 ∨ R5 k = 8) → ¬ (R5 k = 3 + i) := fun k hk => by omega
        have e6 := hk6.block gm (by omega) (ns _ (.inr HR5.out.1))
        have HI6 : Hid (BIn w6 pv J ys) := HI5.out.kept hk6 (fun a ea => ns _ (.inl (HR5.out.2 a ea)))
        have HM6 : Hid (BIn w6 (some ⟨gm, 0, none⟩) J ys ∧ w6.cell? ⟨gm, J, none⟩ = some (.int .u8 90) ∧ w6.cell? ⟨gm, J + 1, none⟩ = some (.int .u8 90) ∧ Blk w6 gm 5 cm) := ⟨HM5.out.1.kept hk6 (fun a ea => by cases ea; exact ns _ (.inr HR5.out.1)), (cell_same e6).trans HM5.out.2.1, (cell_same e6).trans HM5.out.2.2.1, HM5.out.2.2.2.same e6⟩
        have HP6 : Hid (∃ R6, Pr w6 R6 B P x y n (at2 e i (e i)) (at2 u i (wrU n (u i) N ys)) (at2 e i (e i)) (at2 u i (wrU n (u i) N ys)) m ∧ R6 gm = 8) := ⟨_, hP6, (up_lo (by omega)).trans HR5.out.1⟩
        have HB6 : Hid (Below B w2 w6) := HB5.out.trans (HP5.out.kb (by omega) (by omega) hk6)
        clear hd6 hk6 hP6 ns HX5 HI5 HM5 e6 HB5 HP5 HR5 b0 b1 b2 b3 b4
        go_wp2_with fail
        refine (held_any gm J cm cv pv ys w6 HM6.out.1 HM6.out.2.1 HM6.out.2.2.1 hcm (by omega) HI6.out).mono ?_
        rintro e1 w7 ⟨rfl, nq, rfl⟩
        obtain ⟨R6, hP6, hR6⟩ := HP6.out
        have HP7 : Hid (Pr (w6.drewN nq) R6 B P x y n (at2 e i (e i)) (at2 u i (wrU n (u i) N ys)) (at2 e i (e i)) (at2 u i (wrU n (u i) N ys)) m ∧ R6 gm = 8) := ⟨hP6.later (below_drawn nq), hR6⟩
        have HM7 : Hid (Blk (w6.drewN nq) gm 5 cm) := HM6.out.2.2.2
        have HB7 : Hid (Below B w2 (w6.drewN nq)) := HB6.out.trans (below_drawn nq)
        have hs7 : w6.heap.size ≤ (w6.drewN nq).heap.size := Nat.le_refl _
        clear hP6 hR6 HP6 HM6 HI6 HB6
        revert HP7 HM7 HB7 hs7
        generalize w6.drewN nq = w7
        intro HP7 HM7 HB7 hs7
        go_wp2
        go_loopw [155] (fun v wr => ∃ k : Nat, k ≤ J ∧ v = .int .i64 k ∧ Hid (Kept (fun q => q = gm) w7 wr ∧ Blk wr gm 5 cm)) (fun v _ => J - (intOf v).toNat)
        case atStart => exact ⟨0, Nat.zero_le _, rfl, Kept.refl _ _, HM7.out⟩
        case round =>
          obtain ⟨k, hk, rfl, HR⟩ := hrel
          by_cases hlt : k < J
          · obtain ⟨v0, hv0⟩ := HR.out.2.some k (by omega)
            have hf := HR.out.2.free k
            have HN : Hid (Kept (fun q => q = gm) w7 (wr.setCell ⟨gm, k, none⟩ (.int .u8 69)) ∧ Blk (wr.setCell ⟨gm, k, none⟩ (.int .u8 69)) gm 5 cm) := ⟨HR.out.1.setCell (fun _ => rfl) _, HR.out.2.setCell _⟩
            clear HR
            go_wp2
            go_roundw
            case rel => exact ⟨k + 1, by omega, by go_num, HN.out⟩
            case measure => simp [intOf]; omega
          · have hge : B ≤ gm := by omega
            have HPf : Hid (Pr wr R6 B P x y n (at2 e i (e i)) (at2 u i (wrU n (u i) N ys)) (at2 e i (e i)) (at2 u i (wrU n (u i) N ys)) m) := HP7.out.1.scratch HR.out.1 HP7.out.2
            have HBf : Hid (Below B w wr) := (HB2.out.mono hB).trans (HB7.out.trans (HR.out.1.below (by omega) (fun k hk => by omega)))
            have hsf := HR.out.1.size
            clear HR
            go_wp2
            go_ret
            refine ⟨rfl, ⟨R6, x, y, _, _, m, HPf.out, fun j hj => ?_, by omega, by omega⟩, HBf.out⟩
            have h1 := hu j hj
            unfold at2; split
            · rename_i ej; subst ej; have := wrU_length n (u j) N ys; omega
            · omega
      · have q1 : ¬ (J : Int) < 64 := by omega
        clear hgo
        go_wp2_with fail
        refine (marked_any pv J cv ys wr HI.out.1 HI.out.2.2 HI.out.2.1 (by omega)).mono ?_
        rintro e1 w4 ⟨gm, cm, rfl, hmo, hcm, hb4⟩
        obtain ⟨hinm, h90, h91⟩ := marked_in hmo HI.out.1.len HOb.out.2.1
        have hmr := marked_row hmo
        have HM : Hid (BIn w4 (some ⟨gm, 0, none⟩) J ys ∧ w4.cell? ⟨gm, J, none⟩ = some (.int .u8 90) ∧ w4.cell? ⟨gm, J + 1, none⟩ = some (.int .u8 90) ∧ Blk w4 gm 5 cm) := ⟨hinm, h90, h91, hmr.1⟩
        have hgm := hmr.2
        have hgl := hmr.1.lt
        have HI4 : Hid (BIn w4 pv J ys) := HI.out.1.later hb4
        have HX4 : Hid (Box w4 w.heap.size 2 W N (.slice pd ld cd) (.slice pk lk ck)) := HXr.out.later hb4
        have HB4 : Hid (Below w2.heap.size w2 w4) := below_then HOb.out.2.2 hb4
        have hs4 := hb4.size
        have HH4 : Hid (Pr w4 (at2 R gm 8) B P x y n e u e u m) := HH.out.mark HB4.out (by omega) hgl (by omega)
        have HRm : Hid (at2 R gm 8 gm = 8 ∧ (∀ a, pv = some a → at2 R gm 8 a.block = 0 ∧ a.block < w4.heap.size) ∧ at2 R gm 8 w.heap.size = 0) := ⟨at2_same _ _ _, fun a ea => by subst ea; obtain ⟨p0, c0, e0, _, hq⟩ := own_slice HOb.out.1; simp only [Value.slice.injEq] at e0; obtain ⟨g0, rfl⟩ := hq a e0.1.symm; have hg0 := own_blk HOb.out.1; have hgl0 := hg0.1.lt; exact ⟨(at2_other _ _ _ _ (by show g0 ≠ gm; omega)).trans (HH.out.hi g0 hg0.2.2.2), by show g0 < _; omega⟩, (at2_other _ _ _ _ (by have := HX.out.lt; omega)).trans HZ.out⟩
        clear hmo hb4 hinm h90 h91 hmr HI HHr HXr HOb b0 b1 b2 b3 b4
        generalize at2 R gm 8 = Rm at HH4 HRm
        obtain ⟨b0, b1, b2, b3, b4⟩ := HX4.out.at
        go_wp2_with fail
        refine (write_is (HH4.out.dsk i l2) N (some ⟨gm, 0, none⟩) J cm ys HM.out.1 (by omega)).mono ?_
        rintro e1 w5 ⟨rfl, hd5, hk5⟩
        have hP5 := HH4.out.setD l2 hk5 hd5 (by omega)
        have hs5 := hk5.size
        have ns : ∀ k, (Rm k = 0 ∨ Rm k = 8) → ¬ (Rm k = 1 + i) := fun k hk => by omega
        have HX5 : Hid (Box w5 w.heap.size 2 W N (.slice pd ld cd) (.slice pk lk ck)) := HX4.out.same (hk5.block _ HX4.out.lt (ns _ (.inl HRm.out.2.2)))
        have HI5 : Hid (BIn w5 pv J ys) := HI4.out.kept hk5 (fun a ea => ns _ (.inl (HRm.out.2.1 a ea).1))
        have e5 := hk5.block gm hgl (ns _ (.inr HRm.out.1))
        have HM5 : Hid (BIn w5 (some ⟨gm, 0, none⟩) J ys ∧ w5.cell? ⟨gm, J, none⟩ = some (.int .u8 90) ∧ w5.cell? ⟨gm, J + 1, none⟩ = some (.int .u8 90) ∧ Blk w5 gm 5 cm) := ⟨HM.out.1.kept hk5 (fun a ea => by cases ea; exact ns _ (.inr HRm.out.1)), (cell_same e5).trans HM.out.2.1, (cell_same e5).trans HM.out.2.2.1, HM.out.2.2.2.same e5⟩
        have HB5 : Hid (Below B w2 w5) := (HB4.out.mono hB2).trans (HH4.out.kb (by omega) (by omega) hk5)
        have HP5 : Hid (Pr w5 (up Rm w4.heap.size w5.heap.size (1 + i)) B P x y n (at2 e i (e i)) (at2 u i (wrU n (u i) N ys)) e u m) := hP5
        have HR5 : Hid (up Rm w4.heap.size w5.heap.size (1 + i) gm = 8 ∧ (∀ a, pv = some a → up Rm w4.heap.size w5.heap.size (1 + i) a.block = 0)) := ⟨(up_lo hgl).trans HRm.out.1, fun a ea => (up_lo (HRm.out.2.1 a ea).2).trans (HRm.out.2.1 a ea).1⟩
        clear hd5 hk5 hP5 ns HX4 HI4 HM e5 HB4 HH4 HRm b0 b1 b2 b3 b4
        generalize up Rm w4.heap.size w5.heap.size (1 + i) = R5 at HP5 HR5
        obtain ⟨b0, b1, b2, b3, b4⟩ := HX5.out.at
        go_wp2_with fail
        refine (rwrite_is (HP5.out.ref i l2) N pv J cv ys HI5.out (by omega)).mono ?_
        rintro e1 w6 ⟨rfl, hd6, hk6⟩
        have hP6 := HP5.out.setR l2 hk6 hd6 (by omega)
        have hs6 := hk6.size
        have ns : ∀ k, (R5 k = 0 ∨ R5 k = 8) → ¬ (R5 k = 3 + i) := fun k hk => by omega
        have e6 := hk6.block gm (by omega) (ns _ (.inr HR5.out.1))
        have HI6 : Hid (BIn w6 pv J ys) := HI5.out.kept hk6 (fun a ea => ns _ (.inl (HR5.out.2 a ea)))
        have HM6 : Hid (BIn w6 (some ⟨gm, 0, none⟩) J ys ∧ w6.cell? ⟨gm, J, none⟩ = some (.int .u8 90) ∧ w6.cell? ⟨gm, J + 1, none⟩ = some (.int .u8 90) ∧ Blk w6 gm 5 cm) := ⟨HM5.out.1.kept hk6 (fun a ea => by cases ea; exact ns _ (.inr HR5.out.1)), (cell_same e6).trans HM5.out.2.1, (cell_same e6).trans HM5.out.2.2.1, HM5.out.2.2.2.same e6⟩
        have HP6 : Hid (∃ R6, Pr w6 R6 B P x y n (at2 e i (e i)) (at2 u i (wrU n (u i) N ys)) (at2 e i (e i)) (at2 u i (wrU n (u i) N ys)) m ∧ R6 gm = 8) := ⟨_, hP6, (up_lo (by omega)).trans HR5.out.1⟩
        have HB6 : Hid (Below B w2 w6) := HB5.out.trans (HP5.out.kb (by omega) (by omega) hk6)
        clear hd6 hk6 hP6 ns HX5 HI5 HM5 e6 HB5 HP5 HR5 b0 b1 b2 b3 b4
        go_wp2_with fail
        refine (held_any gm J cm cv pv ys w6 HM6.out.1 HM6.out.2.1 HM6.out.2.2.1 hcm (by omega) HI6.out).mono ?_
        rintro e1 w7 ⟨rfl, nq, rfl⟩
        obtain ⟨R6, hP6, hR6⟩ := HP6.out
        have HP7 : Hid (Pr (w6.drewN nq) R6 B P x y n (at2 e i (e i)) (at2 u i (wrU n (u i) N ys)) (at2 e i (e i)) (at2 u i (wrU n (u i) N ys)) m ∧ R6 gm = 8) := ⟨hP6.later (below_drawn nq), hR6⟩
        have HM7 : Hid (Blk (w6.drewN nq) gm 5 cm) := HM6.out.2.2.2
        have HB7 : Hid (Below B w2 (w6.drewN nq)) := HB6.out.trans (below_drawn nq)
        have hs7 : w6.heap.size ≤ (w6.drewN nq).heap.size := Nat.le_refl _
        clear hP6 hR6 HP6 HM6 HI6 HB6
        revert HP7 HM7 HB7 hs7
        generalize w6.drewN nq = w7
        intro HP7 HM7 HB7 hs7
        go_wp2
        go_loopw [155] (fun v wr => ∃ k : Nat, k ≤ J ∧ v = .int .i64 k ∧ Hid (Kept (fun q => q = gm) w7 wr ∧ Blk wr gm 5 cm)) (fun v _ => J - (intOf v).toNat)
        case atStart => exact ⟨0, Nat.zero_le _, rfl, Kept.refl _ _, HM7.out⟩
        case round =>
          obtain ⟨k, hk, rfl, HR⟩ := hrel
          by_cases hlt : k < J
          · obtain ⟨v0, hv0⟩ := HR.out.2.some k (by omega)
            have hf := HR.out.2.free k
            have HN : Hid (Kept (fun q => q = gm) w7 (wr.setCell ⟨gm, k, none⟩ (.int .u8 69)) ∧ Blk (wr.setCell ⟨gm, k, none⟩ (.int .u8 69)) gm 5 cm) := ⟨HR.out.1.setCell (fun _ => rfl) _, HR.out.2.setCell _⟩
            clear HR
            go_wp2
            go_roundw
            case rel => exact ⟨k + 1, by omega, by go_num, HN.out⟩
            case measure => simp [intOf]; omega
          · have hge : B ≤ gm := by omega
            have HPf : Hid (Pr wr R6 B P x y n (at2 e i (e i)) (at2 u i (wrU n (u i) N ys)) (at2 e i (e i)) (at2 u i (wrU n (u i) N ys)) m) := HP7.out.1.scratch HR.out.1 HP7.out.2
            have HBf : Hid (Below B w wr) := (HB2.out.mono hB).trans (HB7.out.trans (HR.out.1.below (by omega) (fun k hk => by omega)))
            have hsf := HR.out.1.size
            clear HR
            go_wp2
            go_ret
            refine ⟨rfl, ⟨R6, x, y, _, _, m, HPf.out, fun j hj => ?_, by omega, by omega⟩, HBf.out⟩
            have h1 := hu j hj
            unfold at2; split
            · rename_i ej; subst ej; have := wrU_length n (u j) N ys; omega
            · omega
end Go.Proofs.Ytlidjenkicgldaa
