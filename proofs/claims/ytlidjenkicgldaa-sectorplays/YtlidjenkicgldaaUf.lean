/-
  Layer 4: plays: Image.
-/
import Derived.Test.YtlidjenkicgldaaUc
import Derived.BigQuiet
namespace Go.Proofs.Ytlidjenkicgldaa
open Go.RowKit

theorem quiet_eq {P : Program} {f : FuncId} {args : Array Value} {w : World} {n : Nat} {v : Value} (h : Calls P f args (w.drewN n) fun e w' => e = .returned v ∧ w.drewN n = w') : Calls P f args (w.drewN n) fun e w'' => e = .returned v ∧ ∃ m, w'' = w.drewN m :=
  h.mono fun _ _ ⟨he, hm⟩ => ⟨he, n, hm.symm⟩

set_option maxRecDepth 100000 in
set_option maxHeartbeats 8000000 in
theorem plays_image {w : World} {B P n K : Nat} (h : St w B P n K) (hK : K ≤ 100) (W N : Int) (pd pk : Option Addr) (ld cd lk ck : Nat) :
    Calls Try.prog 26 #[.pointer (some ⟨P, 0, none⟩), .agg #[.int .i64 6, .int .i64 W, .int .i64 N, .slice pd ld cd, .slice pk lk ck]] w fun e0 w' => e0 = .returned (.bool true) ∧ St w' B P n (K + 1) ∧ Below B w w' := by
  obtain ⟨R, x, y, e, u, m, hp, hu, hm, hB⟩ := h
  have t2 := tmod2 W
  have e2 := sl2_is W
  have l2 := sl2_lt W
  go_enter Try.func26, Try.ntmps26
  go_wp2
  rw [e2]
  have HH0 : Hid (Pr w R B P x y n e u e u m) := hp
  have HBx : Hid (Below w.heap.size w (w.alloc (.cells #[.int .i64 6, .int .i64 W, .int .i64 N, .slice pd ld cd, .slice pk lk ck] 61)) ∧ (w.alloc (.cells #[.int .i64 6, .int .i64 W, .int .i64 N, .slice pd ld cd, .slice pk lk ck] 61)).heap[w.heap.size]? = some (.cells #[.int .i64 6, .int .i64 W, .int .i64 N, .slice pd ld cd, .slice pk lk ck] 61 (0, 0))) := ⟨below_alloc w _, heap_alloc_new w _⟩
  clear hp t2 e2
  revert HBx l2
  generalize sl2 W = i
  generalize w.alloc (.cells #[.int .i64 6, .int .i64 W, .int .i64 N, .slice pd ld cd, .slice pk lk ck] 61) = w1
  intro l2 HBx
  have HH1 : Hid (Pr w1 R B P x y n e u e u m) := HH0.out.later HBx.out.1
  have HBo : Hid (Box w1 w.heap.size 6 W N (.slice pd ld cd) (.slice pk lk ck)) := HBx.out.2
  have s1 := HBx.out.1.size
  have HB1 : Hid (Below w.heap.size w w1) := HBx.out.1
  have hul : (u i).length ≤ 100 := by have := hu i l2; omega
  clear HBx HH0
  have c0 := HH1.out.cx i l2
  have c1 := HH1.out.cy i l2
  have d0 : w1.drew.cell? ⟨P, i, none⟩ = some (.pointer (some ⟨x i, 0, none⟩)) := c0
  have d1 : w1.drew.cell? ⟨P, 2 + i, none⟩ = some (.pointer (some ⟨y i, 0, none⟩)) := c1
  go_quiet (fail)
  have HH : Hid (Pr (w1.drewN nq) R B P x y n e u e u m) := HH1.out.later (below_drawn nq)
  have HX : Hid (Box (w1.drewN nq) w.heap.size 6 W N (.slice pd ld cd) (.slice pk lk ck)) := HBo.out.later (below_drawn nq)
  have HB2 : Hid (Below w.heap.size w (w1.drewN nq)) := below_then HB1.out (below_drawn nq)
  have hs2 : w.heap.size ≤ (w1.drewN nq).heap.size := s1
  clear c0 c1 d0 d1 HH1 HBo HB1 s1
  revert HH HX HB2 hs2
  generalize w1.drewN nq = w2
  intro HH HX HB2 hs2
  have hB2 : B ≤ w2.heap.size := by omega
  obtain ⟨b0, b1, b2, b3, b4⟩ := HX.out.at
  have HD : Hid (Dsk w2 (fun k => R k = 1 + i) (x i) n (e i) (u i)) := HH.out.dsk i l2
  obtain ⟨HY, hn2⟩ : Hid (Bytes (e i)) ∧ n ≤ 4096 := by
    obtain ⟨_, _, _, hd⟩ := HD.out
    exact ⟨hd.db, hd.n2⟩
  go_wp2_with fail
  refine (image_any HD.out).mono ?_
  rintro e1 w3 ⟨va, rfl, hoa, hb3⟩
  obtain ⟨qa, ca, rfl, _⟩ := own_slice hoa
  go_wp2_with fail
  refine (image_any (HD.out.later hb3)).mono ?_
  rintro e1 w4 ⟨vg, rfl, hog, hb4⟩
  obtain ⟨qg, cg, rfl, _⟩ := own_slice hog
  clear b0 b1 b2 b3 b4 HX
  obtain ⟨gr, Lr, cr, vr, vsr, hrd⟩ := ((HH.out.ref i l2).later hb3).later hb4
  have HRf : Hid (Ref w4 (fun k => R k = 3 + i) (y i) n (e i) (u i)) := ⟨gr, Lr, cr, vr, vsr, hrd⟩
  have HDk : Hid (Dsk w4 (fun k => R k = 1 + i) (x i) n (e i) (u i)) := (HD.out.later hb3).later hb4
  have r0 := hrd.cell0
  have z1 : ∀ j, (convert 23 9 (.slice qa (64 * n) ca)).run Try.prog (w4.drewN j) = .ok (.string (strOfNums (e i))) (w4.drewN j) := fun j => ((own_bin (own_later hoa hb4) HY.out).1.drewN j).str ca
  have z2 : ∀ j, (convert 23 9 (.slice qg (64 * n) cg)).run Try.prog (w4.drewN j) = .ok (.string (strOfNums (e i))) (w4.drewN j) := fun j => ((own_bin hog HY.out).1.drewN j).str cg
  have z3 : ∀ j, (convert 23 9 (.slice (some ⟨gr, 0, none⟩) Lr cr)).run Try.prog (w4.drewN j) = .ok (.string (strOfNums (e i))) (w4.drewN j) := fun j => ((own_bin hrd.dur HY.out).1.drewN j).str cr
  have HO : Hid (Below w2.heap.size w2 w3 ∧ Below w3.heap.size w3 w4 ∧ w3.ownsRow w2.heap.size 5 1 (.slice qa (64 * n) ca) (64 * n) (U8 (e i)) ∧ w4.ownsRow w3.heap.size 5 1 (.slice qg (64 * n) cg) (64 * n) (U8 (e i))) := ⟨hb3, hb4, hoa, hog⟩
  have hs3 := hb3.size
  have hs4 := hb4.size
  clear hoa hog hb3 hb4 hrd
  go_wp2_with fail
  go_quiet (first | (go_at_call 11; refine quiet_eq (len_any (HDk.out.later (below_drawn _)))) | (go_at_call 41; refine quiet_eq (rlen_any (HRf.out.later (below_drawn _)))))
  clear z1 z2 z3 r0
  have HO5 : Hid (Below w3.heap.size w3 (w4.drewN nq) ∧ (w4.drewN nq).ownsRow w3.heap.size 5 1 (.slice qg (64 * n) cg) (64 * n) (U8 (e i))) := ⟨HO.out.2.1.trans (below_drawn nq), own_later HO.out.2.2.2 (below_drawn nq)⟩
  have hs5 : w4.heap.size ≤ (w4.drewN nq).heap.size := Nat.le_refl _
  clear HRf HDk
  revert HO5 hs5
  generalize w4.drewN nq = w5
  intro HO5 hs5
  obtain ⟨L, hL⟩ : ∃ L, L = 64 * n := ⟨_, rfl⟩
  go_wp2
  go_loopw [329] (fun v wr => ∃ k : Nat, k ≤ 64 * n ∧ v = .int .i64 k ∧ Hid (Below w3.heap.size w5 wr ∧ ∀ g, qg = some ⟨g, 0, none⟩ → Blk wr g 5 cg)) (fun v _ => 64 * n - (intOf v).toNat)
  case atStart => exact ⟨0, Nat.zero_le _, rfl, Below.refl _ _, fun g eg => ((own_bytes HO5.out.2).2 g eg).1⟩
  case round =>
    obtain ⟨k, hk, rfl, HR⟩ := hrel
    by_cases hlt : k < 64 * n
    · obtain ⟨g, rfl⟩ := (own_bytes HO5.out.2).1 (by omega)
      have hbk := HR.out.2 g rfl
      obtain ⟨_, hg3, hLc⟩ := (own_bytes HO5.out.2).2 g rfl
      obtain ⟨v0, hv0⟩ := hbk.some k (by omega)
      have hf := hbk.free k
      have HN : Hid (Below w3.heap.size w5 (wr.setCell ⟨g, k, none⟩ (.int .u8 70)) ∧ ∀ g', (some ⟨g, 0, none⟩ : Option Addr) = some ⟨g', 0, none⟩ → Blk (wr.setCell ⟨g, k, none⟩ (.int .u8 70)) g' 5 cg) := ⟨HR.out.1.setCell (by simpa using hg3) _, fun g' eg => by cases eg; exact hbk.setCell _⟩
      clear hbk HR
      go_wp2
      go_roundw
      case rel => exact ⟨k + 1, by omega, by go_num, HN.out⟩
      case measure => simp [intOf]; omega
    · have hb3r : Below w3.heap.size w3 wr := HO5.out.1.trans HR.out.1
      have hb2r : Below w2.heap.size w2 wr := below_then HO.out.1 hb3r
      have hsr := hb2r.size
      go_wp2_with fail
      refine (tells_any (HH.out.later hb2r) qa (64 * n) ca (e i) (TIn.of (own_later HO.out.2.2.1 hb3r) HY.out (fun k hk => HH.out.hi k hk)) (by omega) (by omega) (by omega)).mono ?_
      rintro e1 w6 ⟨rfl, ⟨R', hP'⟩, hb6⟩
      have HP : Hid (Pr w6 R' B P x y n e u e u (m + 1)) := hP'
      have HB6 : Hid (Below B w w6) := ((HB2.out.mono hB).trans (hb2r.mono hB2)).trans hb6
      have hs6 := hb6.size
      clear hP' hb6 hb2r hb3r
      go_wp2
      go_ret
      exact ⟨rfl, ⟨R', x, y, e, u, m + 1, HP.out, fun j hj => Nat.le_succ_of_le (hu j hj), by omega, by omega⟩, HB6.out⟩
end Go.Proofs.Ytlidjenkicgldaa
