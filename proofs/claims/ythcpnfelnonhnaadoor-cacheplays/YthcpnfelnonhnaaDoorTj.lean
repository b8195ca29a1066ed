/-
  Layer 17: every step.
-/
import Derived.Test.YthcpnfelnonhnaaDoorTi
import Derived.Test.YthcpnfelnonhnaaDoorTc
namespace Go.Proofs.YthcpnfelnonhnaaDoor
open Go.RowKit

namespace W
section
variable {w0 w : World} {P a : Nat} {n : Int}
set_option maxHeartbeats 2000000 in
set_option maxRecDepth 100000 in
theorem plays_list (h : St w0 w P n a) (hT : Tab w0) (ha : a ≤ 8000) (wh bk : Int) {ps : Int} (_hps : 0 ≤ ps ∧ ps < 18446744073709551616) {pi pl : Option Addr} {mi ci ml cl : Nat} {l : List Im} {E : List En} (_hI : MIn w0 pi mi l) (_hmi : mi * 40 ≤ 140737488351232) (_hE : EIn w0 pl ml E) (_hml : ml * 48 ≤ 140737488351232) :
    Calls Tryd.prog 9 #[.pointer (some ⟨P, 0, none⟩), .agg #[.int .i64 3, .int .i64 wh, .int .i64 bk, .int .u64 ps, .slice pi mi ci, .slice pl ml cl]] w fun e w' => e = .returned (.bool true) ∧ St w0 w' P n (a + 1) := by
  obtain ⟨w1, hw1⟩ : ∃ w1, w.alloc (.cells #[.int .i64 3, .int .i64 wh, .int .i64 bk, .int .u64 ps, .slice pi mi ci, .slice pl ml cl] 48) = w1 := ⟨_, rfl⟩
  obtain ⟨bo, hbo⟩ : ∃ bo, w.heap.size = bo := ⟨_, rfl⟩
  have B1 : Below w.heap.size w w1 := by rw [← hw1]; exact below_alloc w _
  have HO1 : Hid (w1.heap[bo]? = some (.cells #[.int .i64 3, .int .i64 wh, .int .i64 bk, .int .u64 ps, .slice pi mi ci, .slice pl ml cl] 48 (0, 0))) := by rw [← hw1, ← hbo]; exact heap_alloc_new w _
  have t2 := tmod2 wh
  have s2 := sl2_is wh
  have l2 := sl2_lt wh
  obtain ⟨T, G, L, s, p, g, hP, hs⟩ := h
  obtain ⟨R, vr, er⟩ := hs.ref (sl2 wh) l2
  obtain ⟨Q, v, v6, v7, v8, bs, os, rs, hc, e6, e7, e8, hos, hrs, hbs, hks⟩ := hs.cs
  have ec := hc (sl2 wh) l2
  have HEC : Hid (T (sl2 wh) = .cac (Q (sl2 wh)) n (v (sl2 wh)) (L (sl2 wh)) (nxR (s (sl2 wh)) (p (sl2 wh)))) := ec
  have HER : Hid (T (sl2 wh + 2) = .ref R n vr (L (sl2 wh)) (s (sl2 wh)) (p (sl2 wh))) := er
  have HSH : Hid (Sh T n L s p g a) := hs
  have HP1 : Hid (PS w0 w1 P (pcs T g) T G) := hP.later B1
  have HOB : Hid (w0.heap.size ≤ bo ∧ ¬ G bo ∧ bo ≠ P ∧ ∀ i, i < 15 → i ≠ 14 → ¬ (T i).foot bo) := ⟨by rw [← hbo]; exact hP.below.size, fun hg => by have := hP.fam.glt bo hg; omega, fun e => by have := hP.plt; omega, fun i hi _ hf => by have := Th.lt (hP.fam.at' i hi) hf; omega⟩
  have HO : Hid (∀ W : World, W.heap[bo]? = some (.cells #[.int .i64 3, .int .i64 wh, .int .i64 bk, .int .u64 ps, .slice pi mi ci, .slice pl ml cl] 48 (0, 0)) → W.cell? ⟨bo, 0, none⟩ = some (.int .i64 3) ∧ W.cell? ⟨bo, 2, none⟩ = some (.int .i64 bk) ∧ W.cell? ⟨bo, 3, none⟩ = some (.int .u64 ps) ∧ W.cell? ⟨bo, 4, none⟩ = some (.slice pi mi ci) ∧ W.cell? ⟨bo, 5, none⟩ = some (.slice pl ml cl)) := fun W hW => ⟨by rw [cell_of_row _ bo 0 _ 48 (0, 0) hW]; rfl, by rw [cell_of_row _ bo 2 _ 48 (0, 0) hW]; rfl, by rw [cell_of_row _ bo 3 _ 48 (0, 0) hW]; rfl, by rw [cell_of_row _ bo 4 _ 48 (0, 0) hW]; rfl, by rw [cell_of_row _ bo 5 _ 48 (0, 0) hW]; rfl⟩
  have k1 : w1.cell? ⟨bo, 1, none⟩ = some (.int .i64 wh) := by rw [cell_of_row _ bo 1 _ 48 (0, 0) HO1.out]; rfl
  have c1 : ∀ t, (w1.drewN t).cell? ⟨P, sl2 wh, none⟩ = some (.pointer (some ⟨Q (sl2 wh), 0, none⟩)) := fun t => by
    have := HP1.out.c (j := sl2 wh) (by omega)
    rw [ec] at this
    exact this
  have c2 : ∀ t, (w1.drewN t).cell? ⟨P, 2 + sl2 wh, none⟩ = some (.pointer (some ⟨R, 0, none⟩)) := fun t => by
    have := HP1.out.c (j := sl2 wh + 2) (by omega)
    rw [er, Nat.add_comm] at this
    exact this
  have HPt : Hid (∀ t, PS w0 (w1.drewN t) P (pcs T g) T G) := fun t => HP1.out.later (below_drawn _)
  have HOt : Hid (∀ t, (w1.drewN t).heap[bo]? = some (.cells #[.int .i64 3, .int .i64 wh, .int .i64 bk, .int .u64 ps, .slice pi mi ci, .slice pl ml cl] 48 (0, 0))) := fun t => HO1.out
  clear hP hs B1 er ec hc hks hos hrs hbs
  go_enter Tryd.func9, Tryd.ntmps9
  have j0 : (0 : Int) ≤ ((sl2 wh : Nat) : Int) := by omega
  have j1 : ((sl2 wh : Nat) : Int) < 2 := by omega
  go_wp2_with fail
  rw [s2]
  clear k1 s2 t2
  generalize sl2 wh = j at *
  go_quiet (fail)
  have HPD : Hid (PS w0 (w1.drewN nq) P (pcs T g) T G) := HPt.out nq
  have HOD : Hid ((w1.drewN nq).heap[bo]? = some (.cells #[.int .i64 3, .int .i64 wh, .int .i64 bk, .int .u64 ps, .slice pi mi ci, .slice pl ml cl] 48 (0, 0))) := HOt.out nq
  clear c1 c2 HPt HOt HP1 HO1 hw1 hbo
  generalize w1.drewN nq = wD at *
  have o0 := (HO.out wD HOD.out).1
  have o2 := (HO.out wD HOD.out).2.1
  have HST : Hid (St w0 wD P n a) := ⟨T, G, L, s, p, g, HPD.out, HSH.out⟩
  have hj : j < 2 := l2
  go_wp2_with fail
  refine (asks_any HST.out hT hj ha bk).mono ?_
  rintro e w2 ⟨rfl, hS⟩
  have HS : Hid (St w0 w2 P n (a + 1)) := hS
  clear hS
  go_wp2
  go_ret
  exact ⟨rfl, HS.out⟩
theorem plays_any (h : St w0 w P n a) (hT : Tab w0) (ha : a ≤ 8000) (kd wh bk : Int) {ps : Int} (hps : 0 ≤ ps ∧ ps < 18446744073709551616) {pi pl : Option Addr} {mi ci ml cl : Nat} {l : List Im} {E : List En} (hI : MIn w0 pi mi l) (hmi : mi * 40 ≤ 140737488351232) (hE : EIn w0 pl ml E) (hml : ml * 48 ≤ 140737488351232) :
    Calls Tryd.prog 9 #[.pointer (some ⟨P, 0, none⟩), .agg #[.int .i64 kd, .int .i64 wh, .int .i64 bk, .int .u64 ps, .slice pi mi ci, .slice pl ml cl]] w fun e w' => e = .returned (.bool true) ∧ St w0 w' P n (a + 1) := by
  by_cases k1 : kd = 1
  · subst k1; exact plays_put h hT ha wh bk hps hI hmi hE hml
  by_cases k2 : kd = 2
  · subst k2; exact plays_get h hT ha wh bk hps hI hmi hE hml
  by_cases k3 : kd = 3
  · subst k3; exact plays_list h hT ha wh bk hps hI hmi hE hml
  by_cases k4 : kd = 4
  · subst k4; exact plays_drop h hT ha wh bk hps hI hmi hE hml
  by_cases k5 : kd = 5
  · subst k5; exact plays_gone h hT ha wh bk hps hI hmi hE hml
  by_cases k6 : kd = 6
  · subst k6; exact plays_copy h hT ha wh bk hps hI hmi hE hml
  exact plays_none h hT ha kd wh bk hps hI hmi hE hml k1 k2 k3 k4 k5 k6
end
/-- a step as it lies -/
structure OpV where
  kd : Int
  wh : Int
  bk : Int
  ps : Int
  pi : Option Addr
  mi : Nat
  ci : Nat
  l : List Im
  pl : Option Addr
  ml : Nat
  cl : Nat
  E : List En
def OpV.val (o : OpV) : List Value := [.int .i64 o.kd, .int .i64 o.wh, .int .i64 o.bk, .int .u64 o.ps, .slice o.pi o.mi o.ci, .slice o.pl o.ml o.cl]
structure OpV.In (w : World) (o : OpV) : Prop where
  ps : 0 ≤ o.ps ∧ o.ps < 18446744073709551616
  im : MIn w o.pi o.mi o.l
  imb : o.mi * 40 ≤ 140737488351232
  en : EIn w o.pl o.ml o.E
  enb : o.ml * 48 ≤ 140737488351232
/-- how a script lies -/
structure ScIn (w : World) (p : Option Addr) (n : Nat) (f : Nat → OpV) : Prop where
  cells : 0 < n → ∃ b o, p = some ⟨b, o, none⟩ ∧ ∀ i, i < n → w.rangeAt b (o + i * 6) (f i).val
  ops : ∀ i, i < n → (f i).In w
theorem size_op : (Tryd.prog.info? 48).map (·.size) = some 6 := by kernel_rfl
theorem load_op {w : World} {b o : Nat} {v : OpV} (h : w.rangeAt b o v.val) : (Instr.loadAt 48 (.pointer (some ⟨b, o, none⟩))).run Tryd.prog w = .ok (.agg v.val.toArray) w := run_loadAt_mid w b o 48 v.val _ h Tryd.underlying48 rfl size_op
end W
end Go.Proofs.YthcpnfelnonhnaaDoor
