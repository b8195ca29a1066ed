/-
  Layer 17: a step: none, the list.
-/
import Derived.Test.YthcpnfelnonhnaaDoorTd
namespace Go.Proofs.YthcpnfelnonhnaaDoor
open Go.RowKit

namespace W
def sl2 (x : Int) : Nat := ((x.tmod 2 + 2) % 2).toNat
theorem sl2_is (x : Int) : (x.tmod 2 + 2) % 2 = ((sl2 x : Nat) : Int) := by unfold sl2; omega
theorem sl2_lt (x : Int) : sl2 x < 2 := by unfold sl2; omega
theorem tmod2 (x : Int) : -2 < x.tmod 2 ∧ x.tmod 2 < 2 := ⟨by have := Int.lt_tmod_of_pos x (show (0 : Int) < 2 by decide); omega, Int.tmod_lt_of_pos x (by decide)⟩
theorem St.mono {w0 w : World} {P a a' : Nat} {n : Int} (h : St w0 w P n a) (ha : a ≤ a') : St w0 w P n a' := by
  obtain ⟨T, G, L, s, p, g, h, hs⟩ := h
  obtain ⟨v4, us4, v5, us5, ls, e4, e5, hl⟩ := hs.ls
  obtain ⟨Q, v, v6, v7, v8, bs, os, rs, hc, e6, e7, e8, h1, h2, h3, h4⟩ := hs.cs
  exact ⟨T, G, L, s, p, g, h, ⟨hs.ok, fun j hj => ⟨(hs.gen j hj).1, by have := (hs.gen j hj).2; omega⟩, hs.ref, ⟨v4, us4, v5, us5, ls, e4, e5, by omega, hl.2⟩, ⟨Q, v, v6, v7, v8, bs, os, rs, hc, e6, e7, e8, h1, h2, by omega, h4⟩⟩⟩
theorem lat_p {t : TypeId} {w : World} {g : Nat} {x : En} (h : LAt t w g (ecells x)) (hx : x.v.length = 32) : w.cell? ⟨g, 33, none⟩ = some (.int .u64 x.p) := by rw [LAt.cell h]; simpa using ecells_p hx
section
variable {w0 w : World} {P a : Nat} {n : Int}
set_option maxHeartbeats 2000000 in
set_option maxRecDepth 100000 in
theorem plays_none (h : St w0 w P n a) (_hT : Tab w0) (_ha : a ≤ 8000) (kd wh bk : Int) {ps : Int} (_hps : 0 ≤ ps ∧ ps < 18446744073709551616) {pi pl : Option Addr} {mi ci ml cl : Nat} {l : List Im} {E : List En} (_hI : MIn w0 pi mi l) (_hmi : mi * 40 ≤ 140737488351232) (_hE : EIn w0 pl ml E) (_hml : ml * 48 ≤ 140737488351232) (h1 : kd ≠ 1) (h2 : kd ≠ 2) (h3 : kd ≠ 3) (h4 : kd ≠ 4) (h5 : kd ≠ 5) (h6 : kd ≠ 6) :
    Calls Tryd.prog 9 #[.pointer (some ⟨P, 0, none⟩), .agg #[.int .i64 kd, .int .i64 wh, .int .i64 bk, .int .u64 ps, .slice pi mi ci, .slice pl ml cl]] w fun e w' => e = .returned (.bool true) ∧ St w0 w' P n (a + 1) := by
  obtain ⟨w1, hw1⟩ : ∃ w1, w.alloc (.cells #[.int .i64 kd, .int .i64 wh, .int .i64 bk, .int .u64 ps, .slice pi mi ci, .slice pl ml cl] 48) = w1 := ⟨_, rfl⟩
  obtain ⟨bo, hbo⟩ : ∃ bo, w.heap.size = bo := ⟨_, rfl⟩
  have B1 : Below w.heap.size w w1 := by rw [← hw1]; exact below_alloc w _
  have HO1 : Hid (w1.heap[bo]? = some (.cells #[.int .i64 kd, .int .i64 wh, .int .i64 bk, .int .u64 ps, .slice pi mi ci, .slice pl ml cl] 48 (0, 0))) := by rw [← hw1, ← hbo]; exact heap_alloc_new w _
  have t2 := tmod2 wh
  have s2 := sl2_is wh
  have l2 := sl2_lt wh
  obtain ⟨T, G, L, s, p, g, hP, hs⟩ := h
  obtain ⟨R, vr, er⟩ := hs.ref (sl2 wh) l2
  obtain ⟨Q, v, v6, v7, v8, bs, os, rs, hc, e6, e7, e8, hos, hrs, hbs, hks⟩ := hs.cs
  have ec := hc (sl2 wh) l2
  have HEC : Hid (T (sl2 wh) = .cac (Q (sl2 wh)) n (v (sl2 wh)) (L (sl2 wh)) (nxR (s (sl2 wh)) (p (sl2 wh)))) := ec
  have HER : Hid (T (sl2 wh + 2) = .ref R n vr (L (sl2 wh)) (s (sl2 wh)) (p (sl2 wh))) := er
  have HSH : Hid (Sh T n L s p g a) := hs
  have HP1 : Hid (PS w0 w1 P (pcs T g) T G) := hP.later B1
  have HOB : Hid (w0.heap.size ≤ bo ∧ ¬ G bo ∧ bo ≠ P ∧ ∀ i, i < 15 → i ≠ 14 → ¬ (T i).foot bo) := ⟨by rw [← hbo]; exact hP.below.size, fun hg => by have := hP.fam.glt bo hg; omega, fun e => by have := hP.plt; omega, fun i hi _ hf => by have := Th.lt (hP.fam.at' i hi) hf; omega⟩
  have HO : Hid (∀ W : World, W.heap[bo]? = some (.cells #[.int .i64 kd, .int .i64 wh, .int .i64 bk, .int .u64 ps, .slice pi mi ci, .slice pl ml cl] 48 (0, 0)) → W.cell? ⟨bo, 0, none⟩ = some (.int .i64 kd) ∧ W.cell? ⟨bo, 2, none⟩ = some (.int .i64 bk) ∧ W.cell? ⟨bo, 3, none⟩ = some (.int .u64 ps) ∧ W.cell? ⟨bo, 4, none⟩ = some (.slice pi mi ci) ∧ W.cell? ⟨bo, 5, none⟩ = some (.slice pl ml cl)) := fun W hW => ⟨by rw [cell_of_row _ bo 0 _ 48 (0, 0) hW]; rfl, by rw [cell_of_row _ bo 2 _ 48 (0, 0) hW]; rfl, by rw [cell_of_row _ bo 3 _ 48 (0, 0) hW]; rfl, by rw [cell_of_row _ bo 4 _ 48 (0, 0) hW]; rfl, by rw [cell_of_row _ bo 5 _ 48 (0, 0) hW]; rfl⟩
  have k1 : w1.cell? ⟨bo, 1, none⟩ = some (.int .i64 wh) := by rw [cell_of_row _ bo 1 _ 48 (0, 0) HO1.out]; rfl
  have c1 : ∀ t, (w1.drewN t).cell? ⟨P, sl2 wh, none⟩ = some (.pointer (some ⟨Q (sl2 wh), 0, none⟩)) := fun t => by
    have := HP1.out.c (j := sl2 wh) (by omega)
    rw [ec] at this
    exact this
  have c2 : ∀ t, (w1.drewN t).cell? ⟨P, 2 + sl2 wh, none⟩ = some (.pointer (some ⟨R, 0, none⟩)) := fun t => by
    have := HP1.out.c (j := sl2 wh + 2) (by omega)
    rw [er, Nat.add_comm] at this
    exact this
  have HPt : Hid (∀ t, PS w0 (w1.drewN t) P (pcs T g) T G) := fun t => HP1.out.later (below_drawn _)
  have HOt : Hid (∀ t, (w1.drewN t).heap[bo]? = some (.cells #[.int .i64 kd, .int .i64 wh, .int .i64 bk, .int .u64 ps, .slice pi mi ci, .slice pl ml cl] 48 (0, 0))) := fun t => HO1.out
  clear hP hs B1 er ec hc hks hos hrs hbs
  go_enter Tryd.func9, Tryd.ntmps9
  have j0 : (0 : Int) ≤ ((sl2 wh : Nat) : Int) := by omega
  have j1 : ((sl2 wh : Nat) : Int) < 2 := by omega
  go_wp2_with fail
  rw [s2]
  clear k1 s2 t2
  generalize sl2 wh = j at *
  go_quiet (fail)
  have HPD : Hid (PS w0 (w1.drewN nq) P (pcs T g) T G) := HPt.out nq
  have HOD : Hid ((w1.drewN nq).heap[bo]? = some (.cells #[.int .i64 kd, .int .i64 wh, .int .i64 bk, .int .u64 ps, .slice pi mi ci, .slice pl ml cl] 48 (0, 0))) := HOt.out nq
  clear c1 c2 HPt HOt HP1 HO1 hw1 hbo
  generalize w1.drewN nq = wD at *
  have o0 := (HO.out wD HOD.out).1
  have o2 := (HO.out wD HOD.out).2.1
  have HST : Hid (St w0 wD P n a) := ⟨T, G, L, s, p, g, HPD.out, HSH.out⟩
  have b1 : (kd == 1) = false := by simp [h1]
  have b2 : (kd == 2) = false := by simp [h2]
  have b3 : (kd == 3) = false := by simp [h3]
  have b4 : (kd == 4) = false := by simp [h4]
  have b5 : (kd == 5) = false := by simp [h5]
  have b6 : (kd == 6) = false := by simp [h6]
  go_wp2
  go_ret
  exact ⟨rfl, HST.out.mono (by omega)⟩
set_option maxHeartbeats 2000000 in
set_option maxRecDepth 100000 in
theorem plays_get (h : St w0 w P n a) (_hT : Tab w0) (_ha : a ≤ 8000) (wh bk : Int) {ps : Int} (_hps : 0 ≤ ps ∧ ps < 18446744073709551616) {pi pl : Option Addr} {mi ci ml cl : Nat} {l : List Im} {E : List En} (_hI : MIn w0 pi mi l) (_hmi : mi * 40 ≤ 140737488351232) (_hE : EIn w0 pl ml E) (_hml : ml * 48 ≤ 140737488351232) :
    Calls Tryd.prog 9 #[.pointer (some ⟨P, 0, none⟩), .agg #[.int .i64 2, .int .i64 wh, .int .i64 bk, .int .u64 ps, .slice pi mi ci, .slice pl ml cl]] w fun e w' => e = .returned (.bool true) ∧ St w0 w' P n (a + 1) := by
  obtain ⟨w1, hw1⟩ : ∃ w1, w.alloc (.cells #[.int .i64 2, .int .i64 wh, .int .i64 bk, .int .u64 ps, .slice pi mi ci, .slice pl ml cl] 48) = w1 := ⟨_, rfl⟩
  obtain ⟨bo, hbo⟩ : ∃ bo, w.heap.size = bo := ⟨_, rfl⟩
  have B1 : Below w.heap.size w w1 := by rw [← hw1]; exact below_alloc w _
  have HO1 : Hid (w1.heap[bo]? = some (.cells #[.int .i64 2, .int .i64 wh, .int .i64 bk, .int .u64 ps, .slice pi mi ci, .slice pl ml cl] 48 (0, 0))) := by rw [← hw1, ← hbo]; exact heap_alloc_new w _
  have t2 := tmod2 wh
  have s2 := sl2_is wh
  have l2 := sl2_lt wh
  obtain ⟨T, G, L, s, p, g, hP, hs⟩ := h
  obtain ⟨R, vr, er⟩ := hs.ref (sl2 wh) l2
  obtain ⟨Q, v, v6, v7, v8, bs, os, rs, hc, e6, e7, e8, hos, hrs, hbs, hks⟩ := hs.cs
  have ec := hc (sl2 wh) l2
  have HEC : Hid (T (sl2 wh) = .cac (Q (sl2 wh)) n (v (sl2 wh)) (L (sl2 wh)) (nxR (s (sl2 wh)) (p (sl2 wh)))) := ec
  have HER : Hid (T (sl2 wh + 2) = .ref R n vr (L (sl2 wh)) (s (sl2 wh)) (p (sl2 wh))) := er
  have HSH : Hid (Sh T n L s p g a) := hs
  have HP1 : Hid (PS w0 w1 P (pcs T g) T G) := hP.later B1
  have HOB : Hid (w0.heap.size ≤ bo ∧ ¬ G bo ∧ bo ≠ P ∧ ∀ i, i < 15 → i ≠ 14 → ¬ (T i).foot bo) := ⟨by rw [← hbo]; exact hP.below.size, fun hg => by have := hP.fam.glt bo hg; omega, fun e => by have := hP.plt; omega, fun i hi _ hf => by have := Th.lt (hP.fam.at' i hi) hf; omega⟩
  have HO : Hid (∀ W : World, W.heap[bo]? = some (.cells #[.int .i64 2, .int .i64 wh, .int .i64 bk, .int .u64 ps, .slice pi mi ci, .slice pl ml cl] 48 (0, 0)) → W.cell? ⟨bo, 0, none⟩ = some (.int .i64 2) ∧ W.cell? ⟨bo, 2, none⟩ = some (.int .i64 bk) ∧ W.cell? ⟨bo, 3, none⟩ = some (.int .u64 ps) ∧ W.cell? ⟨bo, 4, none⟩ = some (.slice pi mi ci) ∧ W.cell? ⟨bo, 5, none⟩ = some (.slice pl ml cl)) := fun W hW => ⟨by rw [cell_of_row _ bo 0 _ 48 (0, 0) hW]; rfl, by rw [cell_of_row _ bo 2 _ 48 (0, 0) hW]; rfl, by rw [cell_of_row _ bo 3 _ 48 (0, 0) hW]; rfl, by rw [cell_of_row _ bo 4 _ 48 (0, 0) hW]; rfl, by rw [cell_of_row _ bo 5 _ 48 (0, 0) hW]; rfl⟩
  have k1 : w1.cell? ⟨bo, 1, none⟩ = some (.int .i64 wh) := by rw [cell_of_row _ bo 1 _ 48 (0, 0) HO1.out]; rfl
  have c1 : ∀ t, (w1.drewN t).cell? ⟨P, sl2 wh, none⟩ = some (.pointer (some ⟨Q (sl2 wh), 0, none⟩)) := fun t => by
    have := HP1.out.c (j := sl2 wh) (by omega)
    rw [ec] at this
    exact this
  have c2 : ∀ t, (w1.drewN t).cell? ⟨P, 2 + sl2 wh, none⟩ = some (.pointer (some ⟨R, 0, none⟩)) := fun t => by
    have := HP1.out.c (j := sl2 wh + 2) (by omega)
    rw [er, Nat.add_comm] at this
    exact this
  have HPt : Hid (∀ t, PS w0 (w1.drewN t) P (pcs T g) T G) := fun t => HP1.out.later (below_drawn _)
  have HOt : Hid (∀ t, (w1.drewN t).heap[bo]? = some (.cells #[.int .i64 2, .int .i64 wh, .int .i64 bk, .int .u64 ps, .slice pi mi ci, .slice pl ml cl] 48 (0, 0))) := fun t => HO1.out
  clear hP hs B1 er ec hc hks hos hrs hbs
  go_enter Tryd.func9, Tryd.ntmps9
  have j0 : (0 : Int) ≤ ((sl2 wh : Nat) : Int) := by omega
  have j1 : ((sl2 wh : Nat) : Int) < 2 := by omega
  go_wp2_with fail
  rw [s2]
  clear k1 s2 t2
  generalize sl2 wh = j at *
  go_quiet (fail)
  have HPD : Hid (PS w0 (w1.drewN nq) P (pcs T g) T G) := HPt.out nq
  have HOD : Hid ((w1.drewN nq).heap[bo]? = some (.cells #[.int .i64 2, .int .i64 wh, .int .i64 bk, .int .u64 ps, .slice pi mi ci, .slice pl ml cl] 48 (0, 0))) := HOt.out nq
  clear c1 c2 HPt HOt HP1 HO1 hw1 hbo
  generalize w1.drewN nq = wD at *
  have o0 := (HO.out wD HOD.out).1
  have o2 := (HO.out wD HOD.out).2.1
  have HST : Hid (St w0 wD P n a) := ⟨T, G, L, s, p, g, HPD.out, HSH.out⟩
  obtain ⟨hok, hpp, hsp⟩ := HSH.out.ok j l2
  have HOK : Hid (Okc n (L j) (nxR (s j) (p j))) := hok
  have HA : Hid (CAt wD (Q j) n (v j) (L j) (nxR (s j) (p j))) := HPD.out.cac (j := j) (by omega) HEC.out
  have HR : Hid (RAt wD R n vr (L j) (s j) (p j)) := HPD.out.ref (j := j + 2) (by omega) HER.out
  have HL1 : Hid (lasV (nxR (s j) (p j)) = p j ∧ lasB (nxR (s j) (p j)) = s j) := by
    cases hs' : s j with
    | false => have := hsp hs'; rw [this]; exact ⟨by simp [nxR, lasV], by simp [nxR, lasB]⟩
    | true =>
      have := hpp.1
      exact ⟨by unfold lasV nxR; rw [if_pos rfl, if_neg (by omega)]; omega, by unfold lasB nxR; rw [if_pos rfl]; simp; omega⟩
  have hnx0 := hok.nx0; have hnx1 := hok.nx1
  obtain ⟨pr, cr, hvr, -, -⟩ := HR.out.ein hok.wf
  subst hvr
  have HGL : Hid ((getV (L j) bk).v.length = 32) := getV_len hok.wf bk
  clear hok hpp hsp
  go_wp2_with fail
  refine (get_at HA.out HOK.out bk).mono ?_
  rintro e w2 ⟨rfl, b2⟩
  have HX : Hid ((Instr.alloc 57 true (.tuple #[])).run Tryd.prog w2 = .ok (.pointer (some ⟨w2.heap.size, 0, none⟩)) (w2.alloc (.cells (ecells en0).toArray 57))) := allocE etC w2
  have HY : Hid ((Instr.storeAt 57 (.pointer (some ⟨w2.heap.size, 0, none⟩)) (.agg (ecells (getV (L j) bk)).toArray)).run Tryd.prog (w2.alloc (.cells (ecells en0).toArray 57)) = .ok () (w2.alloc (.cells (ecells (getV (L j) bk)).toArray 57))) := store_newE etC w2 _ HGL.out
  obtain ⟨w3, hw3⟩ : ∃ w3, w2.alloc (.cells (ecells (getV (L j) bk)).toArray 57) = w3 := ⟨_, rfl⟩
  obtain ⟨bx, hbx⟩ : ∃ bx, w2.heap.size = bx := ⟨_, rfl⟩
  have HB3 : Hid (Below wD.heap.size wD w3) := by rw [← hw3]; exact below_then b2 (below_alloc _ _)
  have HL3 : Hid (LAt 57 w3 bx (ecells (getV (L j) bk))) := by rw [← hw3, ← hbx]; exact LAt.new _ _ _
  rw [hw3, hbx] at HY
  rw [hbx] at HX
  have o2' : w3.cell? ⟨bo, 2, none⟩ = some (.int .i64 bk) := (HO.out w3 ((HB3.out.block bo (Array.getElem?_eq_some_iff.1 HOD.out).1).trans HOD.out)).2.1
  clear b2 hw3 hbx o0 o2
  go_wp2_with ((with_reducible refine at_ops ?_); (first | ((refine wpList_alloc_is (by rfl) 57 rfl HX.out ?_); simp only [Act.put, List.setIfInBounds_toArray, List.set_cons_zero, List.set_cons_succ]) | ((refine wpList_store_is (by rfl) 57 rfl rfl rfl HY.out ?_); simp only [Act.put])))
  refine (rget_at (HR.out.later HB3.out) HOK.out.wf HOK.out.few bk).mono ?_
  rintro e w4 ⟨rfl, b4⟩
  have HX4 : Hid ((Instr.alloc 75 true (.tuple #[])).run Tryd.prog w4 = .ok (.pointer (some ⟨w4.heap.size, 0, none⟩)) (w4.alloc (.cells (ecells en0).toArray 75))) := allocE etR w4
  have HY4 : Hid ((Instr.storeAt 75 (.pointer (some ⟨w4.heap.size, 0, none⟩)) (.agg (ecells (getV (L j) bk)).toArray)).run Tryd.prog (w4.alloc (.cells (ecells en0).toArray 75)) = .ok () (w4.alloc (.cells (ecells (getV (L j) bk)).toArray 75))) := store_newE etR w4 _ HGL.out
  obtain ⟨w5, hw5⟩ : ∃ w5, w4.alloc (.cells (ecells (getV (L j) bk)).toArray 75) = w5 := ⟨_, rfl⟩
  obtain ⟨by', hby⟩ : ∃ by', w4.heap.size = by' := ⟨_, rfl⟩
  have b45 : Below w4.heap.size w4 w5 := by rw [← hw5]; exact below_alloc _ _
  have HB35 : Hid (Below w3.heap.size w3 w5) := below_then b4 b45
  have HL5 : Hid (LAt 75 w5 by' (ecells (getV (L j) bk))) := by rw [← hw5, ← hby]; exact LAt.new _ _ _
  rw [hw5, hby] at HY4
  rw [hby] at HX4
  have HB5 : Hid (Below wD.heap.size wD w5) := below_then HB3.out HB35.out
  clear b4 hw5 hby b45 o2' HX HY
  go_wp2_with ((with_reducible refine at_ops ?_); (first | ((refine wpList_alloc_is (by rfl) 75 rfl HX4.out ?_); simp only [Act.put, List.setIfInBounds_toArray, List.set_cons_zero, List.set_cons_succ]) | ((refine wpList_store_is (by rfl) 75 rfl rfl rfl HY4.out ?_); simp only [Act.put])))
  refine (last_at (HA.out.later HB5.out) hnx0 hnx1).mono ?_
  rintro e w6 ⟨rfl, rfl⟩
  rw [HL1.out.1, HL1.out.2]
  have hd : Below w6.heap.size w6 w6.drew := below_drawn 1
  have HBW : Hid (Below wD.heap.size wD w6.drew) := below_then HB5.out hd
  have HLx : Hid (LAt 57 w6.drew bx (ecells (getV (L j) bk))) := LAt.later (LAt.later HL3.out HB35.out) hd
  have HLy : Hid (LAt 75 w6.drew by' (ecells (getV (L j) bk))) := LAt.later HL5.out hd
  have HRC : Hid (∀ W, Below w6.drew.heap.size w6.drew W → W.cell? ⟨R, 1, none⟩ = some (.slice pr (L j).length cr) ∧ W.cell? ⟨R, 2, none⟩ = some (.bool (s j)) ∧ W.cell? ⟨R, 3, none⟩ = some (.int .u64 (p j))) := fun W hW => ⟨(HR.out.later (below_then HBW.out hW)).c1, (HR.out.later (below_then HBW.out hW)).c2, (HR.out.later (below_then HBW.out hW)).c3⟩
  have HEQ : Hid (∀ W, (binOp .eql 57 (.agg (ecells (getV (L j) bk)).toArray) (.agg (ecells (getV (L j) bk)).toArray)).run Tryd.prog W = .ok (.bool true) W) := fun W => by rw [eqlE etC W _ _ HGL.out HGL.out, (enB_iff _ _).2 rfl]
  clear hd HB3 HB35 HB5 HL3 HL5 HX4 HY4
  generalize hX : getV (L j) bk = X at *
  generalize getB (L j) bk = bX at *
  go_wp2_with fail
  refine wp_region_noPanic ?_
  refine wp_region_held_drew (S := fun W => Below w6.drew.heap.size w6.drew W) (by kernel_rfl) (Below.refl _ _) (fun hHeld => ?_)
  generalize w6.drew = wE at *
  refine wpAnyH_take (i := 0) (v := ?va1) (by simp; rfl) (by kernel_rfl) (by kernel_rfl) (by kernel_rfl) (fun _ _ _ h => h) (Or.inl ⟨by rfl, ?ya1⟩) hHeld ?ra1
  case ya1 => intro w hSw; clear hSw; go_simp; with_reducible rfl
  simp only [Act.put, List.setIfInBounds_toArray, List.set_cons_zero, List.set_cons_succ]
  refine wpAnyH_take (i := 1) (v := ?va2) (by simp; rfl) (by kernel_rfl) (by kernel_rfl) (by kernel_rfl) (fun _ _ _ h => h) (Or.inl ⟨by rfl, ?ya2⟩) hHeld ?ra2
  case ya2 => intro w hSw; clear hSw; go_simp; with_reducible rfl
  simp only [Act.put, List.setIfInBounds_toArray, List.set_cons_zero, List.set_cons_succ]
  refine wpAnyH_take (i := 2) (v := ?va3) (by simp; rfl) (by kernel_rfl) (by kernel_rfl) (by kernel_rfl) (fun _ _ _ h => h) (Or.inl ⟨by rfl, ?ya3⟩) hHeld ?ra3
  case ya3 => intro w hSw; clear hSw; go_simp; with_reducible rfl
  simp only [Act.put, List.setIfInBounds_toArray, List.set_cons_zero, List.set_cons_succ]
  refine wpAnyH_take (i := 3) (v := ?va4) (by simp; rfl) (by kernel_rfl) (by kernel_rfl) (by kernel_rfl) (fun _ _ _ h => h) (Or.inl ⟨by rfl, ?ya4⟩) hHeld ?ra4
  case ya4 => intro w hSw; clear hSw; go_simp; with_reducible rfl
  simp only [Act.put, List.setIfInBounds_toArray, List.set_cons_zero, List.set_cons_succ]
  refine wpAnyH_take (i := 4) (v := _) (by simp; rfl) (by kernel_rfl) (by kernel_rfl) (by kernel_rfl) (fun _ _ _ h => h) (yields_load_is (x := .tmp 13) (p := .pointer (some ⟨bx, 0, none⟩)) (v := .agg (ecells X).toArray) (by rfl) 57 rfl rfl (fun W hW => LAt.loadE etC (LAt.later HLx.out hW) HGL.out)) hHeld ?_
  simp only [Act.put, List.setIfInBounds_toArray, List.set_cons_zero, List.set_cons_succ]
  refine wpAnyH_take (i := 5) (v := ?va5) (by simp; rfl) (by kernel_rfl) (by kernel_rfl) (by kernel_rfl) (fun _ _ _ h => h) (Or.inl ⟨by rfl, ?ya5⟩) hHeld ?ra5
  case ya5 => intro w hSw; clear hSw; go_simp; with_reducible rfl
  simp only [Act.put, List.setIfInBounds_toArray, List.set_cons_zero, List.set_cons_succ]
  refine wpAnyH_take (i := 6) (v := ?va6) (by simp; rfl) (by kernel_rfl) (by kernel_rfl) (by kernel_rfl) (fun _ _ _ h => h) (Or.inl ⟨by rfl, ?ya6⟩) hHeld ?ra6
  case ya6 => intro w hSw; have z := LAt.cell (LAt.later HLy.out hSw) 0; have z' : w.cell? ⟨by', 0, none⟩ = some (.int .i64 X.b) := z; clear hSw z; go_simp; with_reducible rfl
  simp only [Act.put, List.setIfInBounds_toArray, List.set_cons_zero, List.set_cons_succ]
  refine wpAnyH_take (i := 7) (v := ?va7) (by simp; rfl) (by kernel_rfl) (by kernel_rfl) (by kernel_rfl) (fun _ _ _ h => h) (Or.inl ⟨by rfl, ?ya7⟩) hHeld ?ra7
  case ya7 => intro w hSw; clear hSw; go_simp; with_reducible rfl
  simp only [Act.put, List.setIfInBounds_toArray, List.set_cons_zero, List.set_cons_succ]
  refine wpAnyH_take (i := 8) (v := _) (by simp; rfl) (by kernel_rfl) (by kernel_rfl) (by kernel_rfl) (fun _ _ _ h => h) (yields_load_is (x := .tmp 107) (p := .pointer (some ⟨by', 1, none⟩)) (v := .agg (U8 X.v).toArray) (by rfl) 52 rfl rfl (fun W hW => LAt.loadEv (LAt.later HLy.out hW) HGL.out)) hHeld ?_
  simp only [Act.put, List.setIfInBounds_toArray, List.set_cons_zero, List.set_cons_succ]
  refine wpAnyH_take (i := 9) (v := ?va8) (by simp; rfl) (by kernel_rfl) (by kernel_rfl) (by kernel_rfl) (fun _ _ _ h => h) (Or.inl ⟨by rfl, ?ya8⟩) hHeld ?ra8
  case ya8 => intro w hSw; clear hSw; go_simp; with_reducible rfl
  simp only [Act.put, List.setIfInBounds_toArray, List.set_cons_zero, List.set_cons_succ]
  refine wpAnyH_take (i := 10) (v := ?va9) (by simp; rfl) (by kernel_rfl) (by kernel_rfl) (by kernel_rfl) (fun _ _ _ h => h) (Or.inl ⟨by rfl, ?ya9⟩) hHeld ?ra9
  case ya9 => intro w hSw; have z' := lat_p (LAt.later HLy.out hSw) HGL.out; clear hSw; go_simp; with_reducible rfl
  simp only [Act.put, List.setIfInBounds_toArray, List.set_cons_zero, List.set_cons_succ]
  refine wpAnyH_take (i := 11) (v := _) (by simp; rfl) (by kernel_rfl) (by kernel_rfl) (by kernel_rfl) (fun _ _ _ h => h) (yields_build_is (vs := [(0, .int .i64 X.b), (1, .agg (U8 X.v).toArray), (2, .int .u64 X.p)]) (by rfl) 57 rfl (by rfl) (fun w => buildE etC w X.b X.v X.p HGL.out)) hHeld ?_
  simp only [Act.put, List.setIfInBounds_toArray, List.set_cons_zero, List.set_cons_succ]
  refine wpAnyH_take (i := 12) (v := _) (by simp; rfl) (by kernel_rfl) (by kernel_rfl) (by kernel_rfl) (fun _ _ _ h => h) (yields_eql_is (by rfl) 57 rfl rfl rfl etC.eqg HEQ.out) hHeld ?_
  simp only [Act.put, List.setIfInBounds_toArray, List.set_cons_zero, List.set_cons_succ]
  refine wpAnyH_take (i := 13) (v := ?va10) (by simp; rfl) (by kernel_rfl) (by kernel_rfl) (by kernel_rfl) (fun _ _ _ h => h) (Or.inl ⟨by rfl, ?ya10⟩) hHeld ?ra10
  case ya10 => intro w hSw; clear hSw; go_simp; with_reducible rfl
  simp only [Act.put, List.setIfInBounds_toArray, List.set_cons_zero, List.set_cons_succ]
  refine wpAnyH_take (i := 14) (v := ?va11) (by simp; rfl) (by kernel_rfl) (by kernel_rfl) (by kernel_rfl) (fun _ _ _ h => h) (Or.inl ⟨by rfl, ?ya11⟩) hHeld ?ra11
  case ya11 => intro w hSw; clear hSw; go_simp; with_reducible rfl
  simp only [Act.put, List.setIfInBounds_toArray, List.set_cons_zero, List.set_cons_succ]
  refine wpAnyH_take (i := 15) (v := ?va12) (by simp; rfl) (by kernel_rfl) (by kernel_rfl) (by kernel_rfl) (fun _ _ _ h => h) (Or.inl ⟨by rfl, ?ya12⟩) hHeld ?ra12
  case ya12 => intro w hSw; clear hSw; go_simp; with_reducible rfl
  simp only [Act.put, List.setIfInBounds_toArray, List.set_cons_zero, List.set_cons_succ]
  refine wpAnyH_take (i := 16) (v := ?va13) (by simp; rfl) (by kernel_rfl) (by kernel_rfl) (by kernel_rfl) (fun _ _ _ h => h) (Or.inl ⟨by rfl, ?ya13⟩) hHeld ?ra13
  case ya13 => intro w hSw; clear hSw; go_simp; with_reducible rfl
  simp only [Act.put, List.setIfInBounds_toArray, List.set_cons_zero, List.set_cons_succ]
  refine wpAnyH_take (i := 17) (v := ?va14) (by simp; rfl) (by kernel_rfl) (by kernel_rfl) (by kernel_rfl) (fun _ _ _ h => h) (Or.inl ⟨by rfl, ?ya14⟩) hHeld ?ra14
  case ya14 => intro w hSw; clear hSw; go_simp; with_reducible rfl
  simp only [Act.put, List.setIfInBounds_toArray, List.set_cons_zero, List.set_cons_succ]
  refine wpAnyH_take (i := 18) (v := ?va15) (by simp; rfl) (by kernel_rfl) (by kernel_rfl) (by kernel_rfl) (fun _ _ _ h => h) (Or.inl ⟨by rfl, ?ya15⟩) hHeld ?ra15
  case ya15 => intro w hSw; clear hSw; go_simp; with_reducible rfl
  simp only [Act.put, List.setIfInBounds_toArray, List.set_cons_zero, List.set_cons_succ]
  refine wpAnyH_take (i := 19) (v := ?va16) (by simp; rfl) (by kernel_rfl) (by kernel_rfl) (by kernel_rfl) (fun _ _ _ h => h) (Or.inl ⟨by rfl, ?ya16⟩) hHeld ?ra16
  case ya16 => intro w hSw; obtain ⟨z1, z2, z3⟩ := HRC.out w hSw; clear hSw; go_simp; with_reducible rfl
  simp only [Act.put, List.setIfInBounds_toArray, List.set_cons_zero, List.set_cons_succ]
  refine wpAnyH_take (i := 20) (v := ?va17) (by simp; rfl) (by kernel_rfl) (by kernel_rfl) (by kernel_rfl) (fun _ _ _ h => h) (Or.inl ⟨by rfl, ?ya17⟩) hHeld ?ra17
  case ya17 => intro w hSw; clear hSw; go_simp; with_reducible rfl
  simp only [Act.put, List.setIfInBounds_toArray, List.set_cons_zero, List.set_cons_succ]
  refine wpAnyH_take (i := 21) (v := ?va18) (by simp; rfl) (by kernel_rfl) (by kernel_rfl) (by kernel_rfl) (fun _ _ _ h => h) (Or.inl ⟨by rfl, ?ya18⟩) hHeld ?ra18
  case ya18 => intro w hSw; clear hSw; go_simp; with_reducible rfl
  simp only [Act.put, List.setIfInBounds_toArray, List.set_cons_zero, List.set_cons_succ]
  refine wpAnyH_take (i := 22) (v := ?va19) (by simp; rfl) (by kernel_rfl) (by kernel_rfl) (by kernel_rfl) (fun _ _ _ h => h) (Or.inl ⟨by rfl, ?ya19⟩) hHeld ?ra19
  case ya19 => intro w hSw; clear hSw; go_simp; with_reducible rfl
  simp only [Act.put, List.setIfInBounds_toArray, List.set_cons_zero, List.set_cons_succ]
  refine wpAnyH_take (i := 23) (v := ?va20) (by simp; rfl) (by kernel_rfl) (by kernel_rfl) (by kernel_rfl) (fun _ _ _ h => h) (Or.inl ⟨by rfl, ?ya20⟩) hHeld ?ra20
  case ya20 => intro w hSw; clear hSw; go_simp; with_reducible rfl
  simp only [Act.put, List.setIfInBounds_toArray, List.set_cons_zero, List.set_cons_succ]
  refine wpAnyH_take (i := 24) (v := ?va21) (by simp; rfl) (by kernel_rfl) (by kernel_rfl) (by kernel_rfl) (fun _ _ _ h => h) (Or.inl ⟨by rfl, ?ya21⟩) hHeld ?ra21
  case ya21 => intro w hSw; clear hSw; go_simp; with_reducible rfl
  simp only [Act.put, List.setIfInBounds_toArray, List.set_cons_zero, List.set_cons_succ]
  refine wpAnyH_take (i := 25) (v := ?va22) (by simp; rfl) (by kernel_rfl) (by kernel_rfl) (by kernel_rfl) (fun _ _ _ h => h) (Or.inl ⟨by rfl, ?ya22⟩) hHeld ?ra22
  case ya22 => intro w hSw; clear hSw; go_simp; with_reducible rfl
  simp only [Act.put, List.setIfInBounds_toArray, List.set_cons_zero, List.set_cons_succ]
  refine wpAnyH_take (i := 26) (v := ?va23) (by simp; rfl) (by kernel_rfl) (by kernel_rfl) (by kernel_rfl) (fun _ _ _ h => h) (Or.inl ⟨by rfl, ?ya23⟩) hHeld ?ra23
  case ya23 => intro w hSw; clear hSw; go_simp; with_reducible rfl
  simp only [Act.put, List.setIfInBounds_toArray, List.set_cons_zero, List.set_cons_succ]
  refine wpAnyH_take (i := 27) (v := ?va24) (by simp; rfl) (by kernel_rfl) (by kernel_rfl) (by kernel_rfl) (fun _ _ _ h => h) (Or.inl ⟨by rfl, ?ya24⟩) hHeld ?ra24
  case ya24 => intro w hSw; obtain ⟨z1, z2, z3⟩ := HRC.out w hSw; clear hSw; go_simp; with_reducible rfl
  simp only [Act.put, List.setIfInBounds_toArray, List.set_cons_zero, List.set_cons_succ]
  refine wpAnyH_take (i := 28) (v := ?va25) (by simp; rfl) (by kernel_rfl) (by kernel_rfl) (by kernel_rfl) (fun _ _ _ h => h) (Or.inl ⟨by rfl, ?ya25⟩) hHeld ?ra25
  case ya25 => intro w hSw; clear hSw; go_simp; with_reducible rfl
  simp only [Act.put, List.setIfInBounds_toArray, List.set_cons_zero, List.set_cons_succ]
  refine wpAnyH_take (i := 29) (v := ?va26) (by simp; rfl) (by kernel_rfl) (by kernel_rfl) (by kernel_rfl) (fun _ _ _ h => h) (Or.inl ⟨by rfl, ?ya26⟩) hHeld ?ra26
  case ya26 => intro w hSw; clear hSw; go_simp; with_reducible rfl
  simp only [Act.put, List.setIfInBounds_toArray, List.set_cons_zero, List.set_cons_succ]
  refine wpAnyH_take (i := 30) (v := ?va27) (by simp; rfl) (by kernel_rfl) (by kernel_rfl) (by kernel_rfl) (fun _ _ _ h => h) (Or.inl ⟨by rfl, ?ya27⟩) hHeld ?ra27
  case ya27 => intro w hSw; clear hSw; go_simp; with_reducible rfl
  simp only [Act.put, List.setIfInBounds_toArray, List.set_cons_zero, List.set_cons_succ]
  refine wpAnyH_take (i := 31) (v := ?va28) (by simp; rfl) (by kernel_rfl) (by kernel_rfl) (by kernel_rfl) (fun _ _ _ h => h) (Or.inl ⟨by rfl, ?ya28⟩) hHeld ?ra28
  case ya28 => intro w hSw; clear hSw; go_simp; with_reducible rfl
  simp only [Act.put, List.setIfInBounds_toArray, List.set_cons_zero, List.set_cons_succ]
  refine wpAnyH_take (i := 33) (v := ?va29) (by simp; rfl) (by kernel_rfl) (by kernel_rfl) (by kernel_rfl) (fun _ _ _ h => h) (Or.inl ⟨by rfl, ?ya29⟩) hHeld ?ra29
  case ya29 => intro w hSw; clear hSw; go_simp; with_reducible rfl
  simp only [Act.put, List.setIfInBounds_toArray, List.set_cons_zero, List.set_cons_succ]
  refine wpAnyH_take (i := 34) (v := ?va30) (by simp; rfl) (by kernel_rfl) (by kernel_rfl) (by kernel_rfl) (fun _ _ _ h => h) (Or.inl ⟨by rfl, ?ya30⟩) hHeld ?ra30
  case ya30 => intro w hSw; clear hSw; go_simp; with_reducible rfl
  simp only [Act.put, List.setIfInBounds_toArray, List.set_cons_zero, List.set_cons_succ]
  refine wpAnyH_take (i := 35) (v := ?va31) (by simp; rfl) (by kernel_rfl) (by kernel_rfl) (by kernel_rfl) (fun _ _ _ h => h) (Or.inl ⟨by rfl, ?ya31⟩) hHeld ?ra31
  case ya31 => intro w hSw; clear hSw; go_simp; with_reducible rfl
  simp only [Act.put, List.setIfInBounds_toArray, List.set_cons_zero, List.set_cons_succ]
  refine wpAnyH_take (i := 36) (v := ?va32) (by simp; rfl) (by kernel_rfl) (by kernel_rfl) (by kernel_rfl) (fun _ _ _ h => h) (Or.inl ⟨by rfl, ?ya32⟩) hHeld ?ra32
  case ya32 => intro w hSw; obtain ⟨z1, z2, z3⟩ := HRC.out w hSw; clear hSw; go_simp; with_reducible rfl
  simp only [Act.put, List.setIfInBounds_toArray, List.set_cons_zero, List.set_cons_succ]
  refine wpAnyH_take (i := 37) (v := ?va33) (by simp; rfl) (by kernel_rfl) (by kernel_rfl) (by kernel_rfl) (fun _ _ _ h => h) (Or.inl ⟨by rfl, ?ya33⟩) hHeld ?ra33
  case ya33 => intro w hSw; clear hSw; go_simp; with_reducible rfl
  simp only [Act.put, List.setIfInBounds_toArray, List.set_cons_zero, List.set_cons_succ]
  refine wpAnyH_ready (rs := [32]) (by kernel_rfl) (by simp) ?_
  refine AllReadyH.cons (by simp; rfl) (fun Kc hKc => ?_) AllReadyH.nil
  go_simp
  refine (len_at (HA.out.later (below_then HBW.out hHeld))).mono ?_
  rintro e w7 ⟨rfl, rfl⟩
  refine hKc.out _ _ hHeld (fun hHeld => ?_)
  clear hKc Kc
  refine wpAnyH_take (i := 38) (v := ?va34) (by simp; rfl) (by kernel_rfl) (by kernel_rfl) (by kernel_rfl) (fun _ _ _ h => h) (Or.inl ⟨by rfl, ?ya34⟩) hHeld ?ra34
  case ya34 => intro w hSw; clear hSw; go_simp; with_reducible rfl
  simp only [Act.put, List.setIfInBounds_toArray, List.set_cons_zero, List.set_cons_succ]
  refine wpAnyH_take (i := 39) (v := ?va35) (by simp; rfl) (by kernel_rfl) (by kernel_rfl) (by kernel_rfl) (fun _ _ _ h => h) (Or.inl ⟨by rfl, ?ya35⟩) hHeld ?ra35
  case ya35 => intro w hSw; clear hSw; go_simp; with_reducible rfl
  simp only [Act.put, List.setIfInBounds_toArray, List.set_cons_zero, List.set_cons_succ]
  refine wpAnyH_take (i := 40) (v := ?va36) (by simp; rfl) (by kernel_rfl) (by kernel_rfl) (by kernel_rfl) (fun _ _ _ h => h) (Or.inl ⟨by rfl, ?ya36⟩) hHeld ?ra36
  case ya36 => intro w hSw; clear hSw; go_simp; with_reducible rfl
  simp only [Act.put, List.setIfInBounds_toArray, List.set_cons_zero, List.set_cons_succ]
  clear hHeld
  refine wpAnyH_done (by kernel_rfl) (NoPanic.normal ?_) _
  go_wp2
  go_ret
  exact ⟨by simp, (HST.out.later HBW.out).mono (by omega)⟩
end
end W
end Go.Proofs.YthcpnfelnonhnaaDoor
