/-
  Layer 13: first, Waiting: what goes through the line.
-/
import Derived.Test.YtnbegddpgmejnaaGreatAb
namespace Go.Proofs.YtnbegddpgmejnaaGreat
open Go.RowKit


open Go.Shelf
attribute [local go_sem] Oper.semAt_some
abbrev enc2 : TV → Array Value := fun x => #[.int .u64 x.t, x.val]
/-- what standing hands back, at this pointer -/
def Sq (w : World) (lp : Option Addr) (S Sp : List TV → Prop) (N : Nat) : Prop := ∀ Bl W, Below w.heap.size w W → Boxed W Bl 26 (.pointer lp) → SeqIn Fence.wide 8 Tryz.prog 77 #[.pointer (some ⟨Bl, 0, none⟩)] enc2 (KP w.heap.size) S Sp N W
theorem PL.sq {w : World} {F : Ft} {k : Nat} {a : Ad} (h : PL w F k a) (hN : a.next ≤ 1000) (m : Int → Option Value) (hm : VMp w F.mb k m) (hms : ∀ t v, m t = some v → ∃ p n c, v = .slice p n c) :
    Sq w (some ⟨F.Q, 0, none⟩) (fun xs => xs.map TV.two = its m (wt a.W)) (fun pre => pre.map TV.two <+: its m (wt a.W)) (wt a.W).length := fun Bl W hb hl => stand1_in 8 (by decide) h hN m hm hms Bl hb hl
set_option maxRecDepth 100000 in
set_option maxHeartbeats 1000000 in
theorem nil_sq (w : World) : Sq w none (fun xs => xs = []) (fun _ => False) 0 := fun Bl W hb hl => by
  intro l J Jx V hV hJ hJx hY h0
  have HJA : Hid (J [] (V.alloc (.cells #[.func (.yield l) #[] #[]] 117))) := own_below hJ h0 (below_alloc V _)
  have hc := ((Boxed.alloc ((hV.block Bl hl.lt).trans hl) (.cells #[.func (.yield l) #[] #[]] 117) : Boxed (V.alloc (.cells #[.func (.yield l) #[] #[]] 117)) Bl 26 (.pointer none))).cell
  refine callsIn_of_wp Tryz.func77 rfl trivial ?_ rfl
  simp only [Tryz.ntmps77, List.size_toArray, List.length_cons, List.length_nil, Nat.reduceAdd, Nat.reduceSub, Array.replicate_succ, Array.replicate_zero, List.push_toArray, List.append_toArray, List.nil_append, List.cons_append]
  clear hY h0
  gi_wp2
  refine bodyPost_ret (results_none rfl _ _ _) rfl ?_
  exact ⟨⟨_, rfl⟩, .inl ⟨[], rfl, HJA.out⟩⟩
set_option maxHeartbeats 1000000 in
set_option maxRecDepth 100000 in
theorem standing_is (p : Option Addr) (w : World) :
    Calls Tryz.prog 66 #[.pointer p] w fun e w' => e = .returned (.func (.func 77) #[] #[.pointer (some ⟨w.heap.size, 0, none⟩)]) ∧ w' = w.alloc (.cells #[.pointer p] 26) := by
  go_enter Tryz.func66, Tryz.ntmps66
  go_wp2
  go_ret
  exact ⟨rfl, rfl⟩
theorem results_three {fn : Func} {p u q : Tmp} (h : fn.results = #[.cell p 44, .cell u 43, .cell q 4]) (tmps : Array Value) (w : World) (g1 g2 g3 : Nat) (v1 v2 v3 : Value)
    (h1 : tmps.getD p undef = .pointer (some ⟨g1, 0, none⟩)) (h2 : tmps.getD u undef = .pointer (some ⟨g2, 0, none⟩)) (h3 : tmps.getD q undef = .pointer (some ⟨g3, 0, none⟩)) (c1 : w.cell? ⟨g1, 0, none⟩ = some v1) (c2 : w.cell? ⟨g2, 0, none⟩ = some v2) (c3 : w.cell? ⟨g3, 0, none⟩ = some v3) :
    (results fn tmps).run Tryz.prog w = .ok (.tuple #[v1, v2, v3]) w := by
  rw [Array.getD_eq_getD_getElem?] at h1 h2 h3
  simp only [results, h]
  simp [Sem.run_bind, Result.andThen, h1, h2, h3, loadVar, isAgg, asAddr, go_sem, c1, c2, c3]
theorem below_set3 {w V : World} (hB : Below w.heap.size w V) {a b c : Nat} (ha : w.heap.size ≤ a) (hb : w.heap.size ≤ b) (hc : w.heap.size ≤ c) (x y z : Value) : Below w.heap.size w (((V.setCell ⟨a, 0, none⟩ x).setCell ⟨b, 0, none⟩ y).setCell ⟨c, 0, none⟩ z) :=
  ((hB.setCell (p := ⟨a, 0, none⟩) (by simpa using ha) x).setCell (p := ⟨b, 0, none⟩) (by simpa using hb) y).setCell (p := ⟨c, 0, none⟩) (by simpa using hc) z
theorem keeps_set3 (B : Nat) (V : World) (a b c : Nat) (x y z : Value) : KeepsFrom B V (((V.setCell ⟨a, 0, none⟩ x).setCell ⟨b, 0, none⟩ y).setCell ⟨c, 0, none⟩ z) := (((KeepsOthers.setCell _ _ _).trans (KeepsOthers.setCell _ _ _)).trans (KeepsOthers.setCell _ _ _)).from _
set_option maxRecDepth 100000 in
set_option maxHeartbeats 4000000 in
theorem first_seq {w : World} {lp : Option Addr} {S Sp : List TV → Prop} {N : Nat} (h : Sq w lp S Sp N) :
    Calls Tryz.prog 48 #[.pointer lp] w fun e w' => Below w.heap.size w w' ∧ ((S [] ∧ e = .returned (.tuple #[.int .u64 0, nils, .bool false])) ∨ ∃ x : TV, Sp [x] ∧ e = .returned (.tuple #[.int .u64 x.t, x.val, .bool true])) := by
  refine (callsIn_wide (n := 9)).1 ?_
  refine callsIn_of_wp_marks Tryz.func48 rfl trivial ?_ rfl
  simp only [Tryz.ntmps48, List.size_toArray, List.length_cons, List.length_nil, Nat.reduceAdd, Nat.reduceSub, Array.replicate_succ, Array.replicate_zero, List.push_toArray, List.append_toArray, List.nil_append, List.cons_append]
  gi_wp2_with (refine ⟨trivial, ?_⟩; gi_at_call 66; refine (callsIn_wide.2 (standing_is _ _)).mono ?_; rintro e w' ⟨rfl, rfl⟩)
  have b1 : Hid (Boxed ((((w.alloc (.cells #[.int .u64 0] 44)).alloc (.cells #[nils] 43)).alloc (.cells #[.bool false] 4)).alloc (.cells #[.pointer lp] 26)) w.heap.size 44 (.int .u64 0)) := (((Boxed.new w 44 (.int .u64 0)).alloc _).alloc _).alloc _
  have b2 : Hid (Boxed ((((w.alloc (.cells #[.int .u64 0] 44)).alloc (.cells #[nils] 43)).alloc (.cells #[.bool false] 4)).alloc (.cells #[.pointer lp] 26)) (w.heap.size + 1) 43 nils) := by
    have := ((Boxed.new (w.alloc (.cells #[.int .u64 0] 44)) 43 nils).alloc (.cells #[.bool false] 4)).alloc (.cells #[.pointer lp] 26)
    rwa [World.size_alloc] at this
  have b3 : Hid (Boxed ((((w.alloc (.cells #[.int .u64 0] 44)).alloc (.cells #[nils] 43)).alloc (.cells #[.bool false] 4)).alloc (.cells #[.pointer lp] 26)) (w.heap.size + 1 + 1) 4 (.bool false)) := by
    have := (Boxed.new ((w.alloc (.cells #[.int .u64 0] 44)).alloc (.cells #[nils] 43)) 4 (.bool false)).alloc (.cells #[.pointer lp] 26)
    rwa [World.size_alloc, World.size_alloc] at this
  have b4 : Hid (Boxed ((((w.alloc (.cells #[.int .u64 0] 44)).alloc (.cells #[nils] 43)).alloc (.cells #[.bool false] 4)).alloc (.cells #[.pointer lp] 26)) (w.heap.size + 1 + 1 + 1) 26 (.pointer lp)) := by
    have := Boxed.new (((w.alloc (.cells #[.int .u64 0] 44)).alloc (.cells #[nils] 43)).alloc (.cells #[.bool false] 4)) 26 (.pointer lp)
    rwa [World.size_alloc, World.size_alloc, World.size_alloc] at this
  have hB0 : Hid (Below w.heap.size w ((((w.alloc (.cells #[.int .u64 0] 44)).alloc (.cells #[nils] 43)).alloc (.cells #[.bool false] 4)).alloc (.cells #[.pointer lp] 26))) := ((((Below.refl w.heap.size w).alloc (Nat.le_refl _) _).alloc (by simp) _).alloc (by simp; omega) _).alloc (by simp; omega) _
  have hsz : ((((w.alloc (.cells #[.int .u64 0] 44)).alloc (.cells #[nils] 43)).alloc (.cells #[.bool false] 4)).alloc (.cells #[.pointer lp] 26)).heap.size = w.heap.size + 4 := by simp
  obtain ⟨W0, hW0⟩ : ∃ x, ((((w.alloc (.cells #[.int .u64 0] 44)).alloc (.cells #[nils] 43)).alloc (.cells #[.bool false] 4)).alloc (.cells #[.pointer lp] 26)) = x := ⟨_, rfl⟩
  rw [hW0] at b1 b2 b3 b4 hB0 hsz ⊢
  clear hW0
  refine range_in (F := Fence.wide) (n := 9) (P := Tryz.prog) rfl (by decide) (gf := 77) (lb := #[.pointer (some ⟨w.heap.size + 1 + 1 + 1, 0, none⟩)]) rfl trivial (enters_of Tryz.func77 (by kernel_rfl) rfl)
    (h (w.heap.size + 1 + 1 + 1) W0 hB0.out b4.out) KP.trans (fun W l o o' hl h hc => KP.putObj W l o o' (by omega) h hc) (Below.refl _ _) (fun _ => rfl)
    (fun pre W => pre = [] ∧ (Boxed W w.heap.size 44 (.int .u64 0) ∧ (Boxed W (w.heap.size + 1) 43 nils ∧ (Boxed W (w.heap.size + 1 + 1) 4 (.bool false) ∧ Below w.heap.size w W))))
    (fun c pre W => c = .ret ∧ ∃ x : TV, pre = [x] ∧ (Boxed W w.heap.size 44 (.int .u64 x.t) ∧ (Boxed W (w.heap.size + 1) 43 x.val ∧ (Boxed W (w.heap.size + 1 + 1) 4 (.bool true) ∧ Below w.heap.size w W))))
    ?hI ?hIx ⟨rfl, b1.out, b2.out, b3.out, hB0.out⟩
    (fun x a' W => a' = { tmps := #[.pointer lp, undef, .pointer (some ⟨w.heap.size, 0, none⟩), .pointer (some ⟨w.heap.size + 1, 0, none⟩), .pointer (some ⟨w.heap.size + 1 + 1, 0, none⟩), .int .u64 x.t, x.val, .pointer lp, .func (.func 77) #[] #[.pointer (some ⟨w.heap.size + 1 + 1 + 1, 0, none⟩)], .int .u64 x.t, x.val, undef, undef], defers := [] })
    (fun x a' => ownFrom_pure _ _) ?assign ?body ?done ?stop
  case hI =>
    exact OwnFrom.and (ownFrom_pure _ _) (OwnFrom.and (own_box _ _ _ _) (OwnFrom.and (own_box _ _ _ _) (OwnFrom.and (own_box _ _ _ _) (ownFrom_below (Nat.le_refl _) (by omega)))))
  case hIx =>
    rintro c s V V' row ⟨hc, x, h0, h1, h2, h3, h4⟩ hg hr
    exact ⟨hc, x, h0, own_box (β := Unit) _ _ _ _ () V V' row h1 hg hr, own_box (β := Unit) _ _ _ _ () V V' row h2 hg hr, own_box (β := Unit) _ _ _ _ () V V' row h3 hg hr, ownFrom_below (β := Unit) (Nat.le_refl _) (show w.heap.size ≤ W0.heap.size by omega) () V V' row h4 hg hr⟩
  case assign =>
    rintro l1 pre x V K hI hK
    have HI : Hid (_) := hI
    clear hI
    gi_wp2
    exact hK _ _ ((KeepsOthers.refl V).from _) (KP.below (Below.refl _ _) HI.out.2.2.2.2.size) HI.out rfl
  case body =>
    rintro l1 pre x a' V ⟨rfl, h1, h2, h3, h4⟩ rfl hlt
    have H1 : Hid (Boxed V w.heap.size 44 (.int .u64 0)) := h1
    have H2 : Hid (Boxed V (w.heap.size + 1) 43 nils) := h2
    have H3 : Hid (Boxed V (w.heap.size + 1 + 1) 4 (.bool false)) := h3
    have H4 : Hid (Below w.heap.size w V) := h4
    have c1 := h1.cell
    have f1 := h1.frozen
    have e2 := (h2.other (show w.heap.size + 1 ≠ w.heap.size by omega) (.int .u64 x.t))
    have c2 := e2.cell
    have f2 := e2.frozen
    have e3 := (h3.other (show w.heap.size + 1 + 1 ≠ w.heap.size by omega) (.int .u64 x.t)).other (show w.heap.size + 1 + 1 ≠ w.heap.size + 1 by omega) x.val
    have c3 := e3.cell
    have f3 := e3.frozen
    clear h1 h2 h3 h4
    have HX : Hid (∃ y : TV, [] ++ [x] = [y] ∧ (Boxed (((V.setCell ⟨w.heap.size, 0, none⟩ (.int .u64 x.t)).setCell ⟨w.heap.size + 1, 0, none⟩ x.val).setCell ⟨w.heap.size + 1 + 1, 0, none⟩ (.bool true)) w.heap.size 44 (.int .u64 y.t) ∧ (Boxed (((V.setCell ⟨w.heap.size, 0, none⟩ (.int .u64 x.t)).setCell ⟨w.heap.size + 1, 0, none⟩ x.val).setCell ⟨w.heap.size + 1 + 1, 0, none⟩ (.bool true)) (w.heap.size + 1) 43 y.val ∧ (Boxed (((V.setCell ⟨w.heap.size, 0, none⟩ (.int .u64 x.t)).setCell ⟨w.heap.size + 1, 0, none⟩ x.val).setCell ⟨w.heap.size + 1 + 1, 0, none⟩ (.bool true)) (w.heap.size + 1 + 1) 4 (.bool true) ∧ Below w.heap.size w (((V.setCell ⟨w.heap.size, 0, none⟩ (.int .u64 x.t)).setCell ⟨w.heap.size + 1, 0, none⟩ x.val).setCell ⟨w.heap.size + 1 + 1, 0, none⟩ (.bool true)))))) :=
      ⟨x, rfl, ((H1.out.set _).other (by omega) _).other (by omega) _, (e2.set _).other (by omega) _, e3.set _, below_set3 H4.out (Nat.le_refl _) (by omega) (by omega) _ _ _⟩
    clear e2 e3
    gi_wp2
    exact ⟨keeps_set3 _ _ _ _ _ _ _ _, rfl, HX.out⟩
  case done =>
    rintro Dd ys V hD hS ⟨rfl, h1, h2, h3, h4⟩ hK
    have H1 : Hid (Boxed V w.heap.size 44 (.int .u64 0)) := h1
    have H4 : Hid (Below w.heap.size w V) := h4
    have HS : Hid (S []) := hS
    have c1 := h1.cell
    have f1 := h1.frozen
    have e2 := (h2.other (show w.heap.size + 1 ≠ w.heap.size by omega) (.int .u64 0))
    have c2 := e2.cell
    have f2 := e2.frozen
    have e3 := (h3.other (show w.heap.size + 1 + 1 ≠ w.heap.size by omega) (.int .u64 0)).other (show w.heap.size + 1 + 1 ≠ w.heap.size + 1 by omega) nils
    have c3 := e3.cell
    have f3 := e3.frozen
    have E2 : Hid (_) := (e2.set nils).other (show w.heap.size + 1 ≠ w.heap.size + 1 + 1 by omega) (.bool false)
    have E1 : Hid (_) := ((H1.out.set (.int .u64 0)).other (show w.heap.size ≠ w.heap.size + 1 by omega) nils).other (show w.heap.size ≠ w.heap.size + 1 + 1 by omega) (.bool false)
    have E3 : Hid (_) := e3.set (.bool false)
    clear h1 h2 h3 h4 hS e2 e3
    gi_wp2
    have hK2 := (((KeepsOthers.setCell V ⟨w.heap.size, 0, none⟩ (.int .u64 0)).trans (KeepsOthers.setCell _ ⟨w.heap.size + 1, 0, none⟩ nils)).trans (KeepsOthers.setCell _ ⟨w.heap.size + 1 + 1, 0, none⟩ (.bool false))).same Dd _ hK rfl
    have b6 := below_set3 H4.out (Nat.le_refl _) (show w.heap.size ≤ w.heap.size + 1 by omega) (show w.heap.size ≤ w.heap.size + 1 + 1 by omega) (.int .u64 0) nils (.bool false)
    refine ⟨by simp, .inl ⟨_, _, rfl, run_takeDeferred hK2, ?_⟩⟩
    refine ⟨_, results_three Tryz.results48 _ _ w.heap.size (w.heap.size + 1) (w.heap.size + 1 + 1) _ _ _ (by rfl) (by rfl) (by rfl) (Boxed.cell ((World.putObj_heap_other (by omega)).trans E1.out)) (Boxed.cell ((World.putObj_heap_other (by omega)).trans E2.out)) (Boxed.cell ((World.putObj_heap_other (by omega)).trans E3.out)), b6.trans (belowK_b (w := w) (Nat.le_refl _) _ Dd _ _ (by omega) hK2 rfl rfl), .inl ⟨HS.out, rfl⟩⟩
  case stop =>
    rintro Dd c pre V hD hpre ⟨rfl, x, rfl, h1, h2, h3, h4⟩ hK
    have HS : Hid (Sp [x]) := hpre
    have H1 : Hid (_) := h1
    have H2 : Hid (_) := h2
    have H3 : Hid (_) := h3
    have H4 : Hid (Below w.heap.size w V) := h4
    clear h1 h2 h3 h4 hpre
    gi_wp2
    refine ⟨by simp, .inl ⟨_, _, rfl, run_takeDeferred hK, ?_⟩⟩
    refine ⟨_, results_three Tryz.results48 _ _ w.heap.size (w.heap.size + 1) (w.heap.size + 1 + 1) _ _ _ (by rfl) (by rfl) (by rfl) (Boxed.cell ((World.putObj_heap_other (by omega)).trans H1.out)) (Boxed.cell ((World.putObj_heap_other (by omega)).trans H2.out)) (Boxed.cell ((World.putObj_heap_other (by omega)).trans H3.out)), H4.out.trans (belowK_b (w := w) (Nat.le_refl _) _ Dd _ _ (by omega) hK rfl rfl), .inr ⟨x, HS.out, rfl⟩⟩
/-- what the rounds have made of the list -/
def Got (n₀ B N : Nat) (pre : List TV) (W : World) : Prop := ∃ v, Boxed W B 62 v ∧ W.ownsRow n₀ 44 1 v pre.length (V64 (pre.map TV.t)) ∧ pre.length ≤ N
theorem own_got (n₀ B N C : Nat) : OwnFrom C (Got n₀ B N) :=
  Own.from (holdsRow_own (β := List TV) n₀ B 62 44 1 (fun pre => pre.length) (fun pre => V64 (pre.map TV.t)) (fun pre _ => pre.length ≤ N)) C
set_option maxRecDepth 100000 in
set_option maxHeartbeats 4000000 in
theorem waiting_seq {w : World} {lp : Option Addr} {S Sp : List TV → Prop} {N : Nat} (h : Sq w lp S Sp N) (hN : N ≤ 1000) :
    Calls Tryz.prog 42 #[.pointer lp] w fun e w' => ∃ v xs, S xs ∧ e = .returned v ∧ w'.ownsRow w.heap.size 44 1 v xs.length (V64 (xs.map TV.t)) ∧ Below w.heap.size w w' := by
  obtain ⟨i0, hi, hz0, hz1, hz2⟩ := info_parts info26
  refine (callsIn_wide (n := 9)).1 ?_
  refine callsIn_of_wp_marks Tryz.func42 rfl trivial ?_ rfl
  simp only [Tryz.ntmps42, List.size_toArray, List.length_cons, List.length_nil, Nat.reduceAdd, Nat.reduceSub, Array.replicate_succ, Array.replicate_zero, List.push_toArray, List.append_toArray, List.nil_append, List.cons_append]
  gi_wp2_with (refine ⟨trivial, ?_⟩; gi_at_call 66; refine (callsIn_wide.2 (standing_is _ _)).mono ?_; rintro e w' ⟨rfl, rfl⟩)
  have b1 : Hid (Boxed ((w.alloc (.cells #[nils] 62)).alloc (.cells #[.pointer lp] 26)) w.heap.size 62 nils) := (Boxed.new w 62 nils).alloc _
  have b4 : Hid (Boxed ((w.alloc (.cells #[nils] 62)).alloc (.cells #[.pointer lp] 26)) (w.heap.size + 1) 26 (.pointer lp)) := by
    have := Boxed.new (w.alloc (.cells #[nils] 62)) 26 (.pointer lp)
    rwa [World.size_alloc] at this
  have hB0 : Hid (Below w.heap.size w ((w.alloc (.cells #[nils] 62)).alloc (.cells #[.pointer lp] 26))) := ((Below.refl w.heap.size w).alloc (Nat.le_refl _) _).alloc (by simp) _
  have hsz : ((w.alloc (.cells #[nils] 62)).alloc (.cells #[.pointer lp] 26)).heap.size = w.heap.size + 2 := by simp
  obtain ⟨W0, hW0⟩ : ∃ x, ((w.alloc (.cells #[nils] 62)).alloc (.cells #[.pointer lp] 26)) = x := ⟨_, rfl⟩
  rw [hW0] at b1 b4 hB0 hsz ⊢
  clear hW0
  refine range_in (F := Fence.wide) (n := 9) (P := Tryz.prog) rfl (by decide) (gf := 77) (lb := #[.pointer (some ⟨w.heap.size + 1, 0, none⟩)]) rfl trivial (enters_of Tryz.func77 (by kernel_rfl) rfl)
    (h (w.heap.size + 1) W0 hB0.out b4.out) KP.trans (fun W l o o' hl h hc => KP.putObj W l o o' (by omega) h hc) (Below.refl _ _) (fun _ => rfl)
    (fun pre W => Got w.heap.size w.heap.size N pre W ∧ Below w.heap.size w W)
    (fun c pre W => False)
    ?hI ?hIx ⟨⟨_, b1.out, World.ownsRow_nil _ _ _ _, Nat.zero_le _⟩, hB0.out⟩
    (fun x a' W => a' = { tmps := #[.pointer lp, undef, nils, .pointer (some ⟨w.heap.size, 0, none⟩), .int .u64 x.t, .pointer lp, .func (.func 77) #[] #[.pointer (some ⟨w.heap.size + 1, 0, none⟩)], .int .u64 x.t, x.val, undef, undef, undef, undef, undef], defers := [] })
    (fun x a' => ownFrom_pure _ _) ?assign ?body ?done ?stop
  case hI => exact OwnFrom.and (own_got _ _ _ _) (ownFrom_below (Nat.le_refl _) (by omega))
  case hIx => exact fun c => ownFrom_pure _ _
  case assign =>
    rintro l1 pre x V K hI hK
    have HI : Hid (_) := hI
    clear hI
    gi_wp2
    exact hK _ _ ((KeepsOthers.refl V).from _) (KP.below (Below.refl _ _) HI.out.2.size) HI.out rfl
  case body =>
    rintro l1 pre x a' W ⟨⟨v, hv, hrow, hpN⟩, hB⟩ rfl hlt
    have hc := hv.cell
    have hle := hB.size
    have hml : 10001 ≤ maxLen := by decide
    obtain ⟨pv, cv, rfl, _, _, _⟩ := (Row.own hrow).1.form
    rw [List.length_map] at hv hrow hc
    gi_wp2_with (gi_at_builtin; refine wpListIn_append_own _ rfl _ _ 62 rfl w.heap.size 44 i0 (.int .u64 0) 1 8 Tryz.underlying62 hi hz0 hz1 hz2 rfl (by decide) _ _ _ rfl (hrow.alloc _) ⟨W.heap.size, 0, none⟩ 1 1 [.int .u64 x.t] rfl rfl (cell_one_new _ _ _) (by simp [Value.oneCell']) (by omega) (by omega) (by simp; omega) ?_; intro v' w1 hown' hgrow _; obtain ⟨g', cap', rfl⟩ := ownsRow_succ hown'; obtain ⟨hv1, hv2, hr2, hk2, hb2⟩ := hv.appended (by decide) hrow hle (Nat.le_refl _) hown' hgrow; have hc1 := hv1.cell; have hf1 := hv1.frozen; have hc2 := hv2.cell)
    have hKP : KP w.heap.size W (w1.setCell ⟨w.heap.size, 0, none⟩ (.slice (some ⟨g', 0, none⟩) (pre.length + 1) cap')) := by
      refine ⟨hb2, fun j u t' ht hb => ?_⟩
      refine ((hb.alloc _).kept hgrow (hb.not_row (by rcases ht with rfl | rfl | rfl <;> decide) hrow)).other ?_ _
      rintro rfl
      have := hb.symm.trans hv
      simp only [Option.some.injEq, Obj.cells.injEq] at this
      rcases ht with rfl | rfl | rfl <;> exact absurd this.2.1 (by decide)
    refine ⟨hk2.from _, hKP, ⟨_, hv2, ?_, ?_⟩, hB.trans hb2⟩
    · rw [show V64 ((pre ++ [x]).map TV.t) = V64 (pre.map TV.t) ++ [Value.int .u64 x.t] by simp [V64], show (pre ++ [x]).length = pre.length + 1 by simp]
      exact hr2
    · simp; omega
  case done =>
    rintro Dd ys V hD hS ⟨⟨v, hv, hrow, hpN⟩, hB⟩ hK
    obtain ⟨pv, cv, rfl, _, _, _⟩ := (Row.own hrow).1.form
    rw [List.length_map] at hv hrow
    have c1 := hv.cell
    have HS : Hid (S ys) := hS
    have HR : Hid (V.ownsRow w.heap.size 44 1 (.slice pv ys.length cv) ys.length (V64 (ys.map TV.t))) := hrow
    have HB : Hid (Below w.heap.size w V) := hB
    clear hS hrow hB hv
    gi_wp2
    refine ⟨by simp, .inl ⟨_, _, rfl, run_takeDeferred hK, ?_⟩⟩
    exact ⟨_, by simp [results, Tryz.results42, go_sem], _, ys, HS.out, rfl, ownsRow_putObj HR.out (.deferred none) hK rfl, HB.out.trans (belowK_b (w := w) (Nat.le_refl _) _ Dd _ _ (by omega) hK rfl rfl)⟩
  case stop =>
    rintro Dd c pre V hD hpre hf hK
    exact hf.elim
end Go.Proofs.YtnbegddpgmejnaaGreat
