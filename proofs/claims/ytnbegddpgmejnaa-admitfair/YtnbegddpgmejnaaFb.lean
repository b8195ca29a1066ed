/-
  Layer 13: does.
-/
import Derived.Test.YtnbegddpgmejnaaFa
namespace Go.Proofs.Ytnbegddpgmejnaa
open Go.RowKit


theorem IIn_take {w : World} {p : Option Addr} {m j : Nat} {xs : List Int} (h : B.IIn w p m xs) (hj : j ≤ m) : B.IIn w p j (xs.take j) := by
  refine ⟨by rw [List.length_take, h.len]; omega, fun h0 => ?_⟩
  obtain ⟨b, o, rfl, hc⟩ := h.cells (by omega)
  refine ⟨b, o, rfl, fun i hi => ?_⟩
  rw [hc i (by omega)]
  simp [List.getD, hi]
/-- a step, and its set -/
structure OpV where
  kd : Int
  wh : Int
  p : Option Addr
  m : Nat
  c : Nat
  t : Int
  k : Int
abbrev ocells (o : OpV) : Array Value := #[.int .i64 o.kd, .int .i64 o.wh, .slice o.p o.m o.c, .int .u64 o.t, .int .i64 o.k]
structure OpOk (w : World) (o : OpV) (xs : List Int) : Prop where
  i : B.IIn w o.p o.m xs
  mc : o.m ≤ o.c
  nl : o.p = none → o.c = 0
  u : L.U64 o.t
  mm : o.m ≤ 9223372036854775807
theorem OpOk.later {w w' : World} {o : OpV} {xs : List Int} (h : OpOk w o xs) (hb : Below w.heap.size w w') : OpOk w' o xs := ⟨h.i.later hb, h.mc, h.nl, h.u, h.mm⟩
def Ad.stS (a : Ad) (kd : Int) (xs : List Int) (t k : Int) : Ad := if kd = 1 then a.begS (xs.take 100) else if kd = 2 then a.entS else if kd = 3 then a.appS t else if kd = 4 then a.donS t else if kd = 5 then a.leaS t else if kd = 6 then a.freS k else a
def Ad.stE (a : Ad) (kd : Int) (xs : List Int) (t k : Int) : Int := if kd = 1 then a.begE (xs.take 100) else if kd = 2 then a.entE else if kd = 3 then a.appE t else if kd = 4 then a.donE t else if kd = 5 then a.leaE t else if kd = 6 then a.freE k else 0
def Ad.stT (a : Ad) (kd : Int) (xs : List Int) : Int := if kd = 1 then a.begT (xs.take 100) else if kd = 2 then a.entT else 0
/-- a line has gone on -/
structure Gone (w w' : World) (F : Ft) (n : Nat) (a' : Ad) (F' : Ft) : Prop where
  pl : PL w' F' (n + 2) a'
  q : F'.Q = F.Q
  new : ∀ b, F'.has b → F.has b ∨ w.heap.size ≤ b
  g : ∀ b, F'.G b → F.G b ∨ w.heap.size ≤ b
  kept : Kept F.has w w'
section
variable {w0 w w' : World} {F F' : Ft} {n : Nat} {a a' : Ad} {o : OpV} {xs : List Int}
theorem Gone.ahead (hb : Below w0.heap.size w0 w) (h : Gone w w' F n a' F') : Gone w0 w' F n a' F' :=
  ⟨h.pl, h.q, fun b hb' => or_id (h.new b hb') (fun e => Nat.le_trans hb.size e), fun b hb' => or_id (h.g b hb') (fun e => Nat.le_trans hb.size e), (Kept.of_below _ hb).trans h.kept (fun _ _ e => e)⟩
set_option maxHeartbeats 4000000 in
set_option maxRecDepth 100000 in
theorem does_enter (h : PL w F n a) (hn : n < 9000) (hN : a.next ≤ 1000) (ho : OpOk w o xs) (hk : o.kd = 2) : Calls Try.prog 24 #[qp F.Q, .agg (ocells o)] w fun e w' => ∃ F', e = .returned (.tuple #[.int .i64 (a.stE o.kd xs o.t o.k), .int .u64 (a.stT o.kd xs)]) ∧ Gone w w' F n (a.stS o.kd xs o.t o.k) F' := by
  have hc : ∀ o', (w.alloc (.cells (ocells o) 51)).cell? ⟨w.heap.size, o', none⟩ = (ocells o)[o']? := fun o' => cell_of_row _ w.heap.size o' _ 51 (0, 0) (heap_alloc_new w _)
  have hb1 : Hid (Below w.heap.size w (w.alloc (.cells (ocells o) 51))) := below_alloc w _
  have H1 : Hid (PL (w.alloc (.cells (ocells o) 51)) F n a) := h.later (below_alloc w _)
  have HE : Hid (a.stE o.kd xs o.t o.k = a.entE ∧ a.stT o.kd xs = a.entT ∧ a.stS o.kd xs o.t o.k = a.entS) := by rw [hk]; exact ⟨rfl, rfl, rfl⟩
  have hu := ho.u
  obtain ⟨kd, wh, p, m, c, t, k⟩ := o
  simp only at hk
  subst hk
  clear h ho
  go_enter Try.func24, Try.ntmps24
  go_wp2_with (go_at_call 11; refine (enter_at H1.out (by omega) hN).mono ?_; rintro e w2 ⟨q, d, v1', v2', rfl, g1, g2, g3, g4, g5⟩; have HR : Hid (PL w2 { F with v1 := v1', v2 := v2' } (n + 1) a.entS ∧ blk v1' = blk F.v1 ∧ (blk v2' = blk F.v2 ∨ ∃ g, blk v2' = some g ∧ (w.alloc (.cells (ocells ⟨2, wh, p, m, c, t, k⟩) 51)).heap.size ≤ g) ∧ Kept F.has (w.alloc (.cells (ocells ⟨2, wh, p, m, c, t, k⟩) 51)) w2) := ⟨g2, g3, g4, g5⟩; clear g1 g2 g3 g4 g5)
  go_ret2
  refine ⟨{ F with v1 := v1', v2 := v2' }, by rw [HE.out.1, HE.out.2.1]; rfl, ?_⟩
  rw [HE.out.2.2]
  exact Gone.ahead hb1.out ⟨HR.out.1.mono (by omega), rfl, fun b hb => Ft.has_new (F := F) (G := F.G) (.inl HR.out.2.1) HR.out.2.2.1 b hb, fun b hb => .inl hb, HR.out.2.2.2⟩
set_option maxHeartbeats 4000000 in
set_option maxRecDepth 100000 in
theorem does_append (h : PL w F n a) (hn : n < 9000) (_hN : a.next ≤ 1000) (ho : OpOk w o xs) (hk : o.kd = 3) : Calls Try.prog 24 #[qp F.Q, .agg (ocells o)] w fun e w' => ∃ F', e = .returned (.tuple #[.int .i64 (a.stE o.kd xs o.t o.k), .int .u64 (a.stT o.kd xs)]) ∧ Gone w w' F n (a.stS o.kd xs o.t o.k) F' := by
  have hc : ∀ o', (w.alloc (.cells (ocells o) 51)).cell? ⟨w.heap.size, o', none⟩ = (ocells o)[o']? := fun o' => cell_of_row _ w.heap.size o' _ 51 (0, 0) (heap_alloc_new w _)
  have hb1 : Hid (Below w.heap.size w (w.alloc (.cells (ocells o) 51))) := below_alloc w _
  have H1 : Hid (PL (w.alloc (.cells (ocells o) 51)) F n a) := h.later (below_alloc w _)
  have HE : Hid (a.stE o.kd xs o.t o.k = a.appE o.t ∧ a.stT o.kd xs = 0 ∧ a.stS o.kd xs o.t o.k = a.appS o.t) := by rw [hk]; exact ⟨rfl, rfl, rfl⟩
  have hu := ho.u
  obtain ⟨kd, wh, p, m, c, t, k⟩ := o
  simp only at hk
  subst hk
  clear h ho
  go_enter Try.func24, Try.ntmps24
  go_wp2_with (go_at_call 15; refine (append_at H1.out (by omega) hu).mono ?_; rintro e w2 ⟨rfl, g1, g2⟩; have HR : Hid (PL w2 F (n + 1) (a.appS t) ∧ Kept F.has (w.alloc (.cells (ocells ⟨3, wh, p, m, c, t, k⟩) 51)) w2) := ⟨g1, g2⟩; clear g1 g2)
  go_ret2
  refine ⟨F, by rw [HE.out.1, HE.out.2.1]; rfl, ?_⟩
  rw [HE.out.2.2]
  exact Gone.ahead hb1.out ⟨HR.out.1.mono (by omega), rfl, fun b hb => .inl hb, fun b hb => .inl hb, HR.out.2⟩
set_option maxHeartbeats 4000000 in
set_option maxRecDepth 100000 in
theorem does_done (h : PL w F n a) (hn : n < 9000) (hN : a.next ≤ 1000) (ho : OpOk w o xs) (hk : o.kd = 4) : Calls Try.prog 24 #[qp F.Q, .agg (ocells o)] w fun e w' => ∃ F', e = .returned (.tuple #[.int .i64 (a.stE o.kd xs o.t o.k), .int .u64 (a.stT o.kd xs)]) ∧ Gone w w' F n (a.stS o.kd xs o.t o.k) F' := by
  have hc : ∀ o', (w.alloc (.cells (ocells o) 51)).cell? ⟨w.heap.size, o', none⟩ = (ocells o)[o']? := fun o' => cell_of_row _ w.heap.size o' _ 51 (0, 0) (heap_alloc_new w _)
  have hb1 : Hid (Below w.heap.size w (w.alloc (.cells (ocells o) 51))) := below_alloc w _
  have H1 : Hid (PL (w.alloc (.cells (ocells o) 51)) F n a) := h.later (below_alloc w _)
  have HE : Hid (a.stE o.kd xs o.t o.k = a.donE o.t ∧ a.stT o.kd xs = 0 ∧ a.stS o.kd xs o.t o.k = a.donS o.t) := by rw [hk]; exact ⟨rfl, rfl, rfl⟩
  have hu := ho.u
  obtain ⟨kd, wh, p, m, c, t, k⟩ := o
  simp only at hk
  subst hk
  clear h ho
  go_enter Try.func24, Try.ntmps24
  go_wp2_with (go_at_call 17; refine (done_at H1.out (by omega) hN hu).mono ?_; rintro e w2 ⟨rfl, v', g1, g2, g3⟩; have HR : Hid (PL w2 { F with v2 := v' } (n + 2) (a.donS t) ∧ blk v' = blk F.v2 ∧ Kept F.has (w.alloc (.cells (ocells ⟨4, wh, p, m, c, t, k⟩) 51)) w2) := ⟨g1, g2, g3⟩; clear g1 g2 g3)
  go_ret2
  refine ⟨{ F with v2 := v' }, by rw [HE.out.1, HE.out.2.1]; rfl, ?_⟩
  rw [HE.out.2.2]
  exact Gone.ahead hb1.out ⟨HR.out.1, rfl, fun b hb => .inl ((Ft.has_v2 HR.out.2.1 b).1 hb), fun b hb => .inl hb, HR.out.2.2⟩
set_option maxHeartbeats 4000000 in
set_option maxRecDepth 100000 in
theorem does_leave (h : PL w F n a) (hn : n < 9000) (hN : a.next ≤ 1000) (ho : OpOk w o xs) (hk : o.kd = 5) : Calls Try.prog 24 #[qp F.Q, .agg (ocells o)] w fun e w' => ∃ F', e = .returned (.tuple #[.int .i64 (a.stE o.kd xs o.t o.k), .int .u64 (a.stT o.kd xs)]) ∧ Gone w w' F n (a.stS o.kd xs o.t o.k) F' := by
  have hc : ∀ o', (w.alloc (.cells (ocells o) 51)).cell? ⟨w.heap.size, o', none⟩ = (ocells o)[o']? := fun o' => cell_of_row _ w.heap.size o' _ 51 (0, 0) (heap_alloc_new w _)
  have hb1 : Hid (Below w.heap.size w (w.alloc (.cells (ocells o) 51))) := below_alloc w _
  have H1 : Hid (PL (w.alloc (.cells (ocells o) 51)) F n a) := h.later (below_alloc w _)
  have HE : Hid (a.stE o.kd xs o.t o.k = a.leaE o.t ∧ a.stT o.kd xs = 0 ∧ a.stS o.kd xs o.t o.k = a.leaS o.t) := by rw [hk]; exact ⟨rfl, rfl, rfl⟩
  have hu := ho.u
  obtain ⟨kd, wh, p, m, c, t, k⟩ := o
  simp only at hk
  subst hk
  clear h ho
  go_enter Try.func24, Try.ntmps24
  go_wp2_with (go_at_call 16; refine (leave_at1 H1.out (by omega) hN hu).mono ?_; rintro e w2 ⟨rfl, v', g1, g2, g3⟩; have HR : Hid (PL w2 { F with v2 := v' } (n + 2) (a.leaS t) ∧ blk v' = blk F.v2 ∧ Kept F.has (w.alloc (.cells (ocells ⟨5, wh, p, m, c, t, k⟩) 51)) w2) := ⟨g1, g2, g3⟩; clear g1 g2 g3)
  go_ret2
  refine ⟨{ F with v2 := v' }, by rw [HE.out.1, HE.out.2.1]; rfl, ?_⟩
  rw [HE.out.2.2]
  exact Gone.ahead hb1.out ⟨HR.out.1, rfl, fun b hb => .inl ((Ft.has_v2 HR.out.2.1 b).1 hb), fun b hb => .inl hb, HR.out.2.2⟩
set_option maxHeartbeats 4000000 in
set_option maxRecDepth 100000 in
theorem does_freed (h : PL w F n a) (_hn : n < 9000) (_hN : a.next ≤ 1000) (ho : OpOk w o xs) (hk : o.kd = 6) : Calls Try.prog 24 #[qp F.Q, .agg (ocells o)] w fun e w' => ∃ F', e = .returned (.tuple #[.int .i64 (a.stE o.kd xs o.t o.k), .int .u64 (a.stT o.kd xs)]) ∧ Gone w w' F n (a.stS o.kd xs o.t o.k) F' := by
  have hc : ∀ o', (w.alloc (.cells (ocells o) 51)).cell? ⟨w.heap.size, o', none⟩ = (ocells o)[o']? := fun o' => cell_of_row _ w.heap.size o' _ 51 (0, 0) (heap_alloc_new w _)
  have hb1 : Hid (Below w.heap.size w (w.alloc (.cells (ocells o) 51))) := below_alloc w _
  have H1 : Hid (PL (w.alloc (.cells (ocells o) 51)) F n a) := h.later (below_alloc w _)
  have HE : Hid (a.stE o.kd xs o.t o.k = a.freE o.k ∧ a.stT o.kd xs = 0 ∧ a.stS o.kd xs o.t o.k = a.freS o.k) := by rw [hk]; exact ⟨rfl, rfl, rfl⟩
  have hu := ho.u
  obtain ⟨kd, wh, p, m, c, t, k⟩ := o
  simp only at hk
  subst hk
  clear h ho
  go_enter Try.func24, Try.ntmps24
  go_wp2_with (go_at_call 19; refine (freed_at H1.out k).mono ?_; rintro e w2 ⟨rfl, g1, g2⟩; have HR : Hid (PL w2 F (n + 1) (a.freS k) ∧ Kept F.has (w.alloc (.cells (ocells ⟨6, wh, p, m, c, t, k⟩) 51)) w2) := ⟨g1, g2⟩; clear g1 g2)
  go_ret2
  refine ⟨F, by rw [HE.out.1, HE.out.2.1]; rfl, ?_⟩
  rw [HE.out.2.2]
  exact Gone.ahead hb1.out ⟨HR.out.1.mono (by omega), rfl, fun b hb => .inl hb, fun b hb => .inl hb, HR.out.2⟩
set_option maxHeartbeats 4000000 in
set_option maxRecDepth 100000 in
theorem does_none (h : PL w F n a) (k1 : o.kd ≠ 1) (k2 : o.kd ≠ 2) (k3 : o.kd ≠ 3) (k4 : o.kd ≠ 4) (k5 : o.kd ≠ 5) (k6 : o.kd ≠ 6) : Calls Try.prog 24 #[qp F.Q, .agg (ocells o)] w fun e w' => ∃ F', e = .returned (.tuple #[.int .i64 (a.stE o.kd xs o.t o.k), .int .u64 (a.stT o.kd xs)]) ∧ Gone w w' F n (a.stS o.kd xs o.t o.k) F' := by
  have hc : ∀ o', (w.alloc (.cells (ocells o) 51)).cell? ⟨w.heap.size, o', none⟩ = (ocells o)[o']? := fun o' => cell_of_row _ w.heap.size o' _ 51 (0, 0) (heap_alloc_new w _)
  have hb1 : Hid (Below w.heap.size w (w.alloc (.cells (ocells o) 51))) := below_alloc w _
  have H1 : Hid (PL (w.alloc (.cells (ocells o) 51)) F n a) := h.later (below_alloc w _)
  have HE : Hid (a.stE o.kd xs o.t o.k = 0 ∧ a.stT o.kd xs = 0 ∧ a.stS o.kd xs o.t o.k = a) := ⟨by simp [Ad.stE, k1, k2, k3, k4, k5, k6], by simp [Ad.stT, k1, k2], by simp [Ad.stS, k1, k2, k3, k4, k5, k6]⟩
  obtain ⟨kd, wh, p, m, c, t, k⟩ := o
  simp only at k1 k2 k3 k4 k5 k6
  have b1 : (kd == 1) = false := by simpa using k1
  have b2 : (kd == 2) = false := by simpa using k2
  have b3 : (kd == 3) = false := by simpa using k3
  have b4 : (kd == 4) = false := by simpa using k4
  have b5 : (kd == 5) = false := by simpa using k5
  have b6 : (kd == 6) = false := by simpa using k6
  clear h
  go_enter Try.func24, Try.ntmps24
  go_wp2
  go_ret2
  refine ⟨by rw [HE.out.1, HE.out.2.1]; rfl, F, ?_⟩
  rw [HE.out.2.2]
  exact Gone.ahead hb1.out ⟨H1.out.mono (by omega), rfl, fun b hb => .inl hb, fun b hb => .inl hb, Kept.refl _ _⟩
set_option maxHeartbeats 4000000 in
set_option maxRecDepth 100000 in
theorem does_begin (h : PL w F n a) (hn : n < 9000) (hN : a.next ≤ 1000) (hG : ∀ g, F.G g → g < w.heap.size) (ho : OpOk w o xs) (hk : o.kd = 1) : Calls Try.prog 24 #[qp F.Q, .agg (ocells o)] w fun e w' => ∃ F', e = .returned (.tuple #[.int .i64 (a.stE o.kd xs o.t o.k), .int .u64 (a.stT o.kd xs)]) ∧ Gone w w' F n (a.stS o.kd xs o.t o.k) F' := by
  have hc : ∀ o', (w.alloc (.cells (ocells o) 51)).cell? ⟨w.heap.size, o', none⟩ = (ocells o)[o']? := fun o' => cell_of_row _ w.heap.size o' _ 51 (0, 0) (heap_alloc_new w _)
  have hb1 : Hid (Below w.heap.size w (w.alloc (.cells (ocells o) 51))) := below_alloc w _
  have H1 : Hid (PL (w.alloc (.cells (ocells o) 51)) F n a) := h.later (below_alloc w _)
  have HE : Hid (a.stE o.kd xs o.t o.k = a.begE (xs.take 100) ∧ a.stT o.kd xs = a.begT (xs.take 100) ∧ a.stS o.kd xs o.t o.k = a.begS (xs.take 100)) := by rw [hk]; exact ⟨rfl, rfl, rfl⟩
  have hj : min o.m 100 ≤ o.m ∧ min o.m 100 ≤ 100 := by omega
  have HIt : Hid (B.IIn w o.p (min o.m 100) (xs.take 100)) := by
    have e : xs.take 100 = xs.take (min o.m 100) := by rw [← ho.i.len, List.take_eq_take_iff]; omega
    rw [e]
    exact IIn_take ho.i hj.1
  have hmin : min (o.m : Int) 100 = ((min o.m 100 : Nat) : Int) := by omega
  have HP : Hid ((o.p = none → o.c = 0) ∧ min o.m 100 ≤ o.c) := ⟨ho.nl, by have := ho.mc; omega⟩
  have hmc := ho.mc
  obtain ⟨kd, wh, p, m, c, t, k⟩ := o
  simp only at hk hj hmin hmc
  obtain ⟨j, hjj⟩ : ∃ j, min m 100 = j := ⟨_, rfl⟩
  simp only [hjj] at hj hmin HIt HP
  subst hk
  have HLo : Hid ((∀ b, F.has b → b < w.heap.size) ∧ ∀ g, F.G g → g < w.heap.size) := ⟨fun b hb => h.lt hb, hG⟩
  clear h ho hjj hG
  have HO : Hid (PL ((w.alloc (.cells (ocells ⟨1, wh, p, m, c, t, k⟩) 51)).alloc (.cells #[] 3)) F n a ∧ B.IIn ((w.alloc (.cells (ocells ⟨1, wh, p, m, c, t, k⟩) 51)).alloc (.cells #[] 3)) p j (xs.take 100)) := ⟨H1.out.later (below_alloc _ _), (HIt.out.later hb1.out).later (below_alloc _ _)⟩
  have HE0 := empty_own (w.alloc (.cells (ocells ⟨1, wh, p, m, c, t, k⟩) 51))
  have hc2 : (w.alloc (.cells (ocells ⟨1, wh, p, m, c, t, k⟩) 51)).heap.size = w.heap.size + 1 := by simp
  have HO0 : Hid (((w.alloc (.cells (ocells ⟨1, wh, p, m, c, t, k⟩) 51)).alloc (.cells #[] 3)).ownsRow (w.heap.size + 1) 3 1 (.slice (some ⟨w.heap.size + 1, 0, none⟩) 0 0) 0 []) := by rw [← hc2]; exact HE0
  clear HE0
  go_enter Try.func24, Try.ntmps24
  go_wp2_with (at_builtin; refine wpList_append_i _ rfl (.tmp 18) (.tmp 25) rfl (w.heap.size + 1) (.slice (some ⟨w.heap.size + 1, 0, none⟩) 0 0) [] rfl HO0.out p j c (xs.take 100) rfl HO.out.2 HP.out.1 HP.out.2 (by simp; omega) (by simp) ?_; intro v2 w2 ho2 hk2)
  have hP2 : Hid (PL w2 F n a) := HO.out.1.far hk2 (fun b hb e => by have h1 := HLo.out.1 b hb; have e2 : w.heap.size + 1 = b := Option.some.inj e; omega) (fun g hg _ e => by have h1 := HLo.out.2 g hg; have e2 : w.heap.size + 1 = g := Option.some.inj e; omega)
  have hb2 : Hid (Below w.heap.size w w2) := hk2.into (below_then (below_alloc w _) (below_alloc _ _)) (fun b hb e => by have e2 : w.heap.size + 1 = b := Option.some.inj e; omega) (Nat.le_refl _)
  obtain ⟨q, d, rfl, hI2, -⟩ := B.ints_in ho2
  have HI2 : Hid (B.IIn w2 q ([] ++ xs.take 100).length (xs.take 100)) := hI2
  clear ho2 hk2 hI2
  go_wp2_with (go_at_call 8; refine (begin_at hP2.out (by omega) hN HI2.out (by simp; omega)).mono ?_; rintro e w3 ⟨q', d', v', rfl, g1, g2, g3, g4⟩; have HR : Hid (PL w3 { F with v1 := v', G := fun b => F.G b ∨ w2.heap.size ≤ b } (n + 1) (a.begS (xs.take 100)) ∧ (blk v' = blk F.v1 ∨ ∃ g, blk v' = some g ∧ w2.heap.size ≤ g) ∧ Kept F.has w2 w3) := ⟨g2, g3, g4⟩; clear g1 g2 g3 g4)
  go_ret2
  refine ⟨{ F with v1 := v', G := fun b => F.G b ∨ w2.heap.size ≤ b }, by rw [HE.out.1, HE.out.2.1]; rfl, ?_⟩
  rw [HE.out.2.2]
  exact Gone.ahead hb2.out ⟨HR.out.1.mono (by omega), rfl, fun b hb => Ft.has_new (F := F) (v2' := F.v2) HR.out.2.1 (.inl rfl) b hb, fun b hb => hb, HR.out.2.2⟩
theorem does_at (h : PL w F n a) (hn : n < 9000) (hN : a.next ≤ 1000) (hG : ∀ g, F.G g → g < w.heap.size) (ho : OpOk w o xs) : Calls Try.prog 24 #[qp F.Q, .agg (ocells o)] w fun e w' => ∃ F', e = .returned (.tuple #[.int .i64 (a.stE o.kd xs o.t o.k), .int .u64 (a.stT o.kd xs)]) ∧ Gone w w' F n (a.stS o.kd xs o.t o.k) F' := by
  by_cases k1 : o.kd = 1
  · exact does_begin h hn hN hG ho k1
  by_cases k2 : o.kd = 2
  · exact does_enter h hn hN ho k2
  by_cases k3 : o.kd = 3
  · exact does_append h hn hN ho k3
  by_cases k4 : o.kd = 4
  · exact does_done h hn hN ho k4
  by_cases k5 : o.kd = 5
  · exact does_leave h hn hN ho k5
  by_cases k6 : o.kd = 6
  · exact does_freed h hn hN ho k6
  exact does_none h k1 k2 k3 k4 k5 k6
end
end Go.Proofs.Ytnbegddpgmejnaa
