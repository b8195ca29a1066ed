/-
  Layer 15: behind. Layer 15: Of.
-/
import Derived.Test.YtkgjmejpbklabaaGreatN20
import Derived.Test.YtkgjmejpbklabaaGreatN12
import Derived.Test.YtkgjmejpbklabaaGreatZa
import Derived.Test.YtkgjmejpbklabaaGreatHb
import Derived.BigRegion
import Derived.Deep.Cut
namespace Go.Proofs.YtkgjmejpbklabaaGreat
open Go.RowKit
open M (Ad wt it)
open K (Lk tix qS)
theorem wrap_small {x : Int} (h0 : 0 ≤ x) (h1 : x ≤ 100000) : IntKind.i64.wrap x = x := by
  rw [IntKind.wrap_i64]; omega
theorem cell_lt {W : World} {b o : Nat} {x : Value} (h : W.cell? ⟨b, o, none⟩ = some x) : b < W.heap.size := by
  apply Classical.byContradiction
  intro hc
  have : W.heap[b]? = none := Array.getElem?_eq_none (by omega)
  simp [World.cell?, this] at h
theorem cell_far {S : Nat → Prop} {W W' : World} {b o : Nat} {x : Value} (h : W.cell? ⟨b, o, none⟩ = some x) (hk : Kept S W W') (hS : ¬ S b) : W'.cell? ⟨b, o, none⟩ = some x := by
  rw [World.cell?_of_block (w := W) (w' := W') (a := ⟨b, o, none⟩) (hk.block b (cell_lt h) hS)]
  exact h
theorem UIn.far2 {S : Nat → Prop} {w w' : World} {p : Option Addr} {n : Nat} {xs : List Int} (h : UIn w p n xs) (hk : Kept S w w') (hS : ∀ a, p = some a → 0 < n → ¬ S a.block) : UIn w' p n xs := by
  refine ⟨h.len, fun h0 => ?_⟩
  obtain ⟨b, o, rfl, hc⟩ := h.cells h0
  exact ⟨b, o, rfl, fun j hj => cell_far (hc j hj) hk (hS _ rfl h0)⟩
set_option maxHeartbeats 2000000 in
set_option maxRecDepth 100000 in
theorem behind_at {w : World} {base n c : Nat} {p : Option Addr} {E : List Eg} (ho : w.ownsRow base 46 4 (.slice p n c) n (ecs E)) (hb : base ≤ w.heap.size) {q : Option Addr} {m d : Nat} {l : List Int} (hU : UIn w q m l) (hq : ∀ ad, q = some ad → 0 < m → ¬ (Value.slice p n c).ownBlock = some ad.block) (hn : n + m ≤ 9000) (y b : Int) :
    Calls Tryz.prog 21 #[.slice p n c, .slice q m d, .int .i64 y, .int .i64 b] w fun e w' => ∃ (p' : Option Addr) (c' : Nat), e = .returned (.slice p' (n + (m - 1)) c') ∧ w'.ownsRow base 46 4 (.slice p' (n + (m - 1)) c') (n + (m - 1)) (ecs (E ++ bhd y b l)) ∧ Kept (fun z => (Value.slice p n c).ownBlock = some z) w w' ∧ ∀ g, (Value.slice p' (n + (m - 1)) c').ownBlock = some g → (Value.slice p n c).ownBlock = some g ∨ w.heap.size ≤ g := by
  have HU : Hid (UIn w q m l) := hU
  have HL : Hid (l.length = m) := hU.len
  have HQ : Hid (∀ ad, q = some ad → 0 < m → ¬ (Value.slice p n c).ownBlock = some ad.block) := hq
  have HO : Hid (w.ownsRow base 46 4 (.slice p n c) n (ecs E)) := ho
  have HB : Hid (base ≤ w.heap.size) := hb
  clear hU hq ho hb
  go_enter Tryz.func21, Tryz.ntmps21
  go_wp2_with fail
  go_loopw [0, 9] (fun v0 v W => ∃ (j : Nat) (p' : Option Addr) (c' : Nat), v0 = .slice p' (n + j) c' ∧ v = .int .i64 ((j : Int) + 1) ∧ j ≤ m - 1 ∧ Hid (W.ownsRow base 46 4 (.slice p' (n + j) c') (n + j) (ecs (E ++ (bhd y b l).take j))) ∧ Hid (Kept (fun z => (Value.slice p n c).ownBlock = some z) w W) ∧ Hid (∀ g, (Value.slice p' (n + j) c').ownBlock = some g → (Value.slice p n c).ownBlock = some g ∨ w.heap.size ≤ g)) (fun v0 v _ => m - (intV v).toNat)
  case atStart => exact ⟨0, p, c, rfl, rfl, by omega, by simpa using HO, Kept.refl _ _, fun g hg => .inl hg⟩
  case round =>
    obtain ⟨j, p', c', rfl, rfl, hj, HOj, HKj, HVj⟩ := hrel
    by_cases hjm : j + 1 < m
    · obtain ⟨qb, qo, eq, hcs⟩ := HU.out.cells (by omega)
      subst eq
      have hqS : ¬ (Value.slice p n c).ownBlock = some qb := HQ.out _ rfl (by omega)
      have hql : qb < w.heap.size := cell_lt (hcs 0 (by omega))
      have hqR : ¬ (Value.slice p' (n + j) c').ownBlock = some qb := fun e => by
        rcases HVj.out qb e with h1 | h1
        · exact hqS h1
        · omega
      have hc1 : wr.cell? ⟨qb, qo + (j + 1), none⟩ = some (.int .u64 (l.getD (j + 1) 0)) := cell_far (hcs (j + 1) (by omega)) HKj.out hqS
      have hc0 : wr.cell? ⟨qb, qo + j, none⟩ = some (.int .u64 (l.getD j 0)) := cell_far (hcs j (by omega)) HKj.out hqS
      have HTA : Hid (ecs (E ++ (bhd y b l).take (j + 1)) = ecs (E ++ (bhd y b l).take j) ++ [.int .u64 (l.getD (j + 1) 0), .int .u64 (l.getD j 0), .int .i64 y, .int .i64 b]) := by
        show _ = _
        rw [bhd_take y b l (by have := HL.out; omega), ← List.append_assoc, ecs_snoc]
      have hS0 : wr.drew.cell? ⟨qb, qo + (j + 1), none⟩ = some (.int .u64 (l.getD (j + 1) 0)) ∧ wr.drew.cell? ⟨qb, qo + j, none⟩ = some (.int .u64 (l.getD j 0)) := ⟨hc1, hc0⟩
      have HOE : Hid (wr.drew.ownsRow base 46 4 (.slice p' (n + j) c') (n + j) (ecs (E ++ (bhd y b l).take j))) := O.own_later HOj.out (below_dr _ _ 1)
      have HSZ : Hid (base ≤ wr.drew.heap.size) := by
        have h1 := HB.out
        have h2 := HKj.out.size
        show base ≤ wr.heap.size
        omega
      have HK1 : Hid (Kept (fun z => (Value.slice p n c).ownBlock = some z) w wr.drew) := HKj.out.trans (Kept.of_below (fun _ => False) (below_dr _ _ 1)) fun _ _ h => h.elim
      clear hcs hc0 hc1 HOj HKj
      generalize l.getD (j + 1) 0 = tx at *
      generalize l.getD j 0 = ty at *
      go_wp2_with fail
      refine wp_region_noPanic ?_
      refine wp_region_held_drew (S := fun W : World => W.cell? ⟨qb, qo + (j + 1), none⟩ = some (.int .u64 tx) ∧ W.cell? ⟨qb, qo + j, none⟩ = some (.int .u64 ty)) (by kernel_rfl) hS0 (fun hHeld => ?_)
      clear hS0
      generalize wr.drew = we at *
      have HC0 : Hid (we.cell? ⟨qb, qo + (j + 1), none⟩ = some (.int .u64 tx) ∧ we.cell? ⟨qb, qo + j, none⟩ = some (.int .u64 ty)) := hHeld
      have hj1 : (j : Int) + 1 - 1 = (j : Int) := by omega
      have hp1 : 0 ≤ (j : Int) + 1 := by omega
      have hp2 : (j : Int) < (m : Int) := by omega
      have hwj : IntKind.i64.wrap (j : Int) = (j : Int) := wrap_small (by omega) (by omega)
      refine wpAnyH_take (i := 0) (v := ?va1) (by simp; rfl) (by kernel_rfl) (by kernel_rfl) (by kernel_rfl) (fun _ _ _ h => h) (Or.inl ⟨by rfl, ?ya1⟩) hHeld ?ra1
      case ya1 => intro w hSw; clear hSw; go_simp; with_reducible rfl
      simp only [Act.put, List.setIfInBounds_toArray, List.set_cons_zero, List.set_cons_succ]
      refine wpAnyH_take (i := 1) (v := ?va2) (by simp; rfl) (by kernel_rfl) (by kernel_rfl) (by kernel_rfl) (fun _ _ _ h => h) (Or.inl ⟨by rfl, ?ya2⟩) hHeld ?ra2
      case ya2 => intro w hSw; clear hSw; go_simp; with_reducible rfl
      simp only [Act.put, List.setIfInBounds_toArray, List.set_cons_zero, List.set_cons_succ]
      refine wpAnyH_take (i := 2) (v := ?va3) (by simp; rfl) (by kernel_rfl) (by kernel_rfl) (by kernel_rfl) (fun _ _ _ h => h) (Or.inl ⟨by rfl, ?ya3⟩) hHeld ?ra3
      case ya3 => intro w hSw; clear hSw; go_simp; with_reducible rfl
      simp only [Act.put, List.setIfInBounds_toArray, List.set_cons_zero, List.set_cons_succ]
      refine wpAnyH_take (i := 3) (v := ?va4) (by simp; rfl) (by kernel_rfl) (by kernel_rfl) (by kernel_rfl) (fun _ _ _ h => h) (Or.inl ⟨by rfl, ?ya4⟩) hHeld ?ra4
      case ya4 => intro w hSw; clear hSw; go_simp; with_reducible rfl
      simp only [Act.put, List.setIfInBounds_toArray, List.set_cons_zero, List.set_cons_succ]
      refine wpAnyH_take (i := 4) (v := ?va5) (by simp; rfl) (by kernel_rfl) (by kernel_rfl) (by kernel_rfl) (fun _ _ _ h => h) (Or.inl ⟨by rfl, ?ya5⟩) hHeld ?ra5
      case ya5 => intro w hSw; obtain ⟨z1, z2⟩ := hSw; go_simp; with_reducible rfl
      simp only [Act.put, List.setIfInBounds_toArray, List.set_cons_zero, List.set_cons_succ]
      refine wpAnyH_take (i := 5) (v := ?va6) (by simp; rfl) (by kernel_rfl) (by kernel_rfl) (by kernel_rfl) (fun _ _ _ h => h) (Or.inl ⟨by rfl, ?ya6⟩) hHeld ?ra6
      case ya6 => intro w hSw; clear hSw; go_simp; with_reducible rfl
      simp only [Act.put, List.setIfInBounds_toArray, List.set_cons_zero, List.set_cons_succ]
      refine wpAnyH_take (i := 6) (v := ?va7) (by simp; rfl) (by kernel_rfl) (by kernel_rfl) (by kernel_rfl) (fun _ _ _ h => h) (Or.inl ⟨by rfl, ?ya7⟩) hHeld ?ra7
      case ya7 => intro w hSw; clear hSw; go_simp; with_reducible rfl
      simp only [Act.put, List.setIfInBounds_toArray, List.set_cons_zero, List.set_cons_succ]
      refine wpAnyH_take (i := 7) (v := ?va8) (by simp; rfl) (by kernel_rfl) (by kernel_rfl) (by kernel_rfl) (fun _ _ _ h => h) (Or.inl ⟨by rfl, ?ya8⟩) hHeld ?ra8
      case ya8 => intro w hSw; clear hSw; go_simp; with_reducible rfl
      simp only [Act.put, List.setIfInBounds_toArray, List.set_cons_zero, List.set_cons_succ]
      refine wpAnyH_take (i := 8) (v := ?va9) (by simp; rfl) (by kernel_rfl) (by kernel_rfl) (by kernel_rfl) (fun _ _ _ h => h) (Or.inl ⟨by rfl, ?ya9⟩) hHeld ?ra9
      case ya9 => intro w hSw; clear hSw; go_simp; with_reducible rfl
      simp only [Act.put, List.setIfInBounds_toArray, List.set_cons_zero, List.set_cons_succ]
      refine wpAnyH_take (i := 9) (v := ?va10) (by simp; rfl) (by kernel_rfl) (by kernel_rfl) (by kernel_rfl) (fun _ _ _ h => h) (Or.inl ⟨by rfl, ?ya10⟩) hHeld ?ra10
      case ya10 => intro w hSw; obtain ⟨z1, z2⟩ := hSw; go_simp; with_reducible rfl
      simp only [Act.put, List.setIfInBounds_toArray, List.set_cons_zero, List.set_cons_succ]
      refine wpAnyH_take (i := 10) (v := ?va11) (by simp; rfl) (by kernel_rfl) (by kernel_rfl) (by kernel_rfl) (fun _ _ _ h => h) (Or.inl ⟨by rfl, ?ya11⟩) hHeld ?ra11
      case ya11 => intro w hSw; clear hSw; go_simp; with_reducible rfl
      simp only [Act.put, List.setIfInBounds_toArray, List.set_cons_zero, List.set_cons_succ]
      refine wpAnyH_take (i := 11) (v := ?va12) (by simp; rfl) (by kernel_rfl) (by kernel_rfl) (by kernel_rfl) (fun _ _ _ h => h) (Or.inl ⟨by rfl, ?ya12⟩) hHeld ?ra12
      case ya12 => intro w hSw; clear hSw; go_simp; with_reducible rfl
      simp only [Act.put, List.setIfInBounds_toArray, List.set_cons_zero, List.set_cons_succ]
      refine wpAnyH_take (i := 12) (v := ?va13) (by simp; rfl) (by kernel_rfl) (by kernel_rfl) (by kernel_rfl) (fun _ _ _ h => h) (Or.inl ⟨by rfl, ?ya13⟩) hHeld ?ra13
      case ya13 => intro w hSw; clear hSw; go_simp; with_reducible rfl
      simp only [Act.put, List.setIfInBounds_toArray, List.set_cons_zero, List.set_cons_succ]
      refine wpAnyH_ready (rs := [13]) (by kernel_rfl) (by simp) ?_
      refine AllReadyH.cons (by simp; rfl) (fun Kc hKc => ?_) AllReadyH.nil
      go_simp
      have SA : (fun W : World => W.cell? ⟨qb, qo + (j + 1), none⟩ = some (.int .u64 tx) ∧ W.cell? ⟨qb, qo + j, none⟩ = some (.int .u64 ty)) (we.alloc (Obj.cells #[.int .u64 tx, .int .u64 ty, .int .i64 y, .int .i64 b] 46)) := ⟨cell_far hHeld.1 (Kept.of_below (fun _ => False) (below_alloc we _)) (fun h => h), cell_far hHeld.2 (Kept.of_below (fun _ => False) (below_alloc we _)) (fun h => h)⟩
      refine hKc.out _ _ SA (fun _ => ?_)
      clear hHeld hKc Kc
      have hHeld := SA
      clear SA

      refine wpAnyH_ready (rs := [14]) (by kernel_rfl) (by simp) ?_
      refine AllReadyH.cons (by simp; rfl) (fun Kc hKc => ?_) AllReadyH.nil
      have HOW : Hid ((we.alloc (Obj.cells #[.int .u64 tx, .int .u64 ty, .int .i64 y, .int .i64 b] 46)).ownsRow base 46 4 (Value.slice p' (n + j) c') (n + j) (ecs (E ++ (bhd y b l).take j))) := O.own_later HOE.out (below_alloc we _)
      refine O.step_own_any (v := (Value.slice p' (n + j) c')) (u := .slice (some ⟨we.heap.size, 0, none⟩) 1 1) (n := (n + j)) (m := 1) (base := base) (base' := 0) rfl (.tmp 16) (.tmp 29) O.elE rfl rfl HOW.out rfl (O.own_one (base := 0) (e := 46) (size := 4) (cs := [.int .u64 tx, .int .u64 ty, .int .i64 y, .int .i64 b]) we rfl (Nat.zero_le _)) (fun y hy => by simp at hy; rcases hy with rfl | rfl | rfl | rfl <;> rfl) (by omega) (by have := HSZ.out; simp; omega) ?_
      intro v5 w5 ho5 hk5 hv5
      obtain ⟨g5, c5, e5, -, -, -⟩ := O.own_some ho5 (by omega)
      subst e5
      have HO5 : Hid (w5.ownsRow base 46 4 (.slice (some ⟨g5, 0, none⟩) ((n + j) + 1) c5) ((n + j) + 1) ((ecs (E ++ (bhd y b l).take j)) ++ [.int .u64 tx, .int .u64 ty, .int .i64 y, .int .i64 b])) := ho5
      have HK5 : Hid (Kept (fun z => (Value.slice p' (n + j) c').ownBlock = some z) we w5) := (Kept.of_below _ (below_alloc we _)).trans hk5 fun _ _ h => h
      have HV5 : Hid ((Value.slice p' (n + j) c').ownBlock = some g5 ∨ we.heap.size ≤ g5) := by
        rcases hv5 with e | e
        · exact .inl e.symm
        · right
          simp only [World.size_alloc, Value.ownBlock, Option.some.injEq] at e
          omega
      clear ho5 hk5 hv5 HOW
      have SA : (fun W : World => W.cell? ⟨qb, qo + (j + 1), none⟩ = some (.int .u64 tx) ∧ W.cell? ⟨qb, qo + j, none⟩ = some (.int .u64 ty)) w5 := ⟨cell_far HC0.out.1 HK5.out hqR, cell_far HC0.out.2 HK5.out hqR⟩
      refine hKc.out _ _ SA (fun _ => ?_)
      clear hHeld hKc Kc
      have hHeld := SA
      clear SA
      try simp only [Act.put, List.setIfInBounds_toArray, List.set_cons_zero, List.set_cons_succ]

      refine wpAnyH_take (i := 15) (v := ?va14) (by simp; rfl) (by kernel_rfl) (by kernel_rfl) (by kernel_rfl) (fun _ _ _ h => h) (Or.inl ⟨by rfl, ?ya14⟩) hHeld ?ra14
      case ya14 => intro w hSw; clear hSw; go_simp; with_reducible rfl
      simp only [Act.put, List.setIfInBounds_toArray, List.set_cons_zero]
      refine wpAnyH_done (by kernel_rfl) (NoPanic.normal ?_) _
      clear hHeld

      have HK6 : Hid (Kept (fun z => (Value.slice p n c).ownBlock = some z) w w5) := HK1.out.trans HK5.out fun z hz e => by
        rcases HVj.out z e with h1 | h1
        · exact h1
        · omega
      have HV6 : Hid (∀ g, (Value.slice (some ⟨g5, 0, none⟩) (n + j + 1) c5).ownBlock = some g → (Value.slice p n c).ownBlock = some g ∨ w.heap.size ≤ g) := fun g hg => by
        simp only [Value.ownBlock, Option.some.injEq] at hg
        subst hg
        rcases HV5.out with h1 | h1
        · exact HVj.out _ h1
        · exact .inr (Nat.le_trans HK1.out.size h1)
      clear hj1 hwj hp1 hp2 HC0 HOE HSZ HK1 HK5 HV5
      go_wp2_with fail
      go_roundw
      case rel =>
        refine ⟨j + 1, some ⟨g5, 0, none⟩, c5, rfl, by go_num, by omega, ?_, HK6, HV6⟩
        rw [HTA.out]
        exact HO5
      case measure => simp [intV]; omega
    · have hj' : j = m - 1 := by omega
      have HF : Hid ((bhd y b l).take j = bhd y b l) := by
        show _ = _
        rw [List.take_of_length_le]
        rw [bhd_len, HL.out]; omega
      rw [HF.out] at HOj
      rw [hj'] at HOj HVj ⊢
      clear hj' hjm hj
      go_wp2_with fail
      go_ret
      exact ⟨p', c', rfl, HOj.out, HKj.out, HVj.out⟩
end Go.Proofs.YtkgjmejpbklabaaGreat
namespace Go.Proofs.YtkgjmejpbklabaaGreat
open Go.RowKit
open M (Ad wt it)
open K (Lk tix qS)
namespace O
section
variable {w w' : World} {base : Nat} {t e : TypeId} {bytes : Nat} {v : Value} {n : Nat} {xs : List Value}
/-- 'append' of one element of some cells, made just now; where the row lies then -/
theorem wpList_agg2 {ops : Array Oper} {rest : List Oper} {o : Oper} {A : Act} {Q : Exit → Act → World → Prop} {size : Nat} (hgd : o.guard = none) (s x : Operand) (E : ElT t e size bytes)
    (ho : o.op = .call { callee := .builtin .append, args := #[s, x], argTypes := #[t, t] }) (hs : A.eval s = v) (h : w.ownsRow base e size v n xs)
    (cs : List Value) {z : Nat} (hx : A.eval x = .slice (some ⟨z, 0, none⟩) 1 1) (hz : w.heap.size = z) (hl : cs.length = 1 * size) (h1 : ∀ y ∈ cs, y.oneCell' = true) (hn : n + 1 ≤ 10000) (hb : base ≤ w.heap.size)
    (hK : ∀ g c w', w'.ownsRow base e size (.slice (some ⟨g, 0, none⟩) (n + 1) c) (n + 1) (xs ++ cs) → Kept (fun b => v.ownBlock = some b) w w' → (v.ownBlock = some g ∨ w.heap.size ≤ g) → wpList Tryz.prog ops Q rest (A.put o.dst (.slice (some ⟨g, 0, none⟩) (n + 1) c)) w') : wpList Tryz.prog ops Q (o :: rest) A (w.alloc (.cells cs.toArray e)) := by
  subst hz
  refine wpList_own_any hgd s x E ho hs (own_later h (below_alloc w _)) hx (own_one (base := 0) (e := e) w hl (Nat.zero_le _)) h1 hn (by simp; omega) ?_
  intro v' w' h3 h4 h5
  obtain ⟨g, c, e1, -⟩ := own_some h3 (by omega)
  subst e1
  refine hK g c w' h3 ((Kept.of_below _ (below_alloc w _)).trans h4 fun _ _ hx => hx) ?_
  rcases h5 with e | e
  · exact .inl e.symm
  · right
    simp only [World.size_alloc, Value.ownBlock, Option.some.injEq] at e
    omega
end
end O
theorem bhd_row {y b : Int} {l : List Int} {m : Nat} (h : l.length = m) : (bhd y b l).length = m - 1 := by rw [bhd_len, h]
set_option maxHeartbeats 2000000 in
set_option maxRecDepth 100000 in
theorem of_at {w0 w : World} {Q R n m : Nat} {a : Ad} {k : Lk} {laid : List Int} {v : Value} (h : Rs w0 w Q R n a k laid m v) (hr : Rm a k laid) (hx : a.next ≤ 100) (hn : n ≤ 10000) :
    Calls Tryz.prog 8 #[qp Q, qp R] w fun e w' => ∃ (p : Option Addr) (N c : Nat), e = .returned (.tuple #[.slice p N c, .int .i64 0]) ∧ w'.ownsRow w.heap.size 46 4 (.slice p N c) N (ecs (ofR a k 64)) ∧ N ≤ 6600 ∧ RowKit.Below w.heap.size w w' := by
  have HS : Hid (Rs w0 w Q R n a k laid m v) := h
  have hW : (wt a.W).length ≤ 100 := by have := hr.la.wlen; simp only [wt, List.length_map]; omega
  have hI : (it a.I).length ≤ 100 := by have := hr.la.ilen; simp only [it, List.length_map]; omega
  have HQ : Hid (∀ b : Int, (qS k.L b).length ≤ 100) := fun b => by
    have h1 := (K.qS_sub k.L b).length_le
    rw [hr.tx] at h1
    have := hr.len
    omega
  clear h hr
  go_enter Tryz.func8, Tryz.ntmps8
  go_wp2_with fail
  refine (r_waiting HS.out (by omega)).mono ?_
  rintro e w1 ⟨ql, cl, rfl, hol, -, hb1⟩
  obtain ⟨Lw, hLw⟩ : ∃ Lw, (wt a.W).length = Lw := ⟨_, rfl⟩
  have HLW : Hid ((wt a.W).length = Lw) := hLw
  rw [hLw] at hol hW ⊢
  have HUW : Hid (∀ W, RowKit.Below w1.heap.size w1 W → UIn W ql Lw (wt a.W)) := fun W hW => (uin_of_own hol).later hW
  have HUB : Hid (∀ ad, ql = some ad → 0 < Lw → ad.block < w1.heap.size) := fun ad e h0 => by
    subst e
    have := uin_of_own hol
    exact this.lt h0
  have HB1 : Hid (RowKit.Below w.heap.size w w1) := hb1
  have hsw1 : w.heap.size ≤ w1.heap.size := hb1.size
  clear hol hb1 hLw
  go_wp2_with fail
  refine (behind_at (base := w.heap.size) (p := none) (n := 0) (c := 0) (E := []) (World.ownsRow_nil _ _ _ _) HB1.out.size (HUW.out w1 (RowKit.Below.refl _ _)) (fun ad _ _ e => by cases e) (by omega) 1 (-1)).mono ?_
  rintro e w2 ⟨p2, c2, rfl, ho2, hk2, hv2⟩
  have HB12 : Hid (RowKit.Below w1.heap.size w1 w2) := hk2.below fun b _ e => by cases e
  have HB2 : Hid (RowKit.Below w.heap.size w w2) := below_then HB1.out HB12.out
  have HO2 : Hid (w2.ownsRow w.heap.size 46 4 (.slice p2 (0 + (Lw - 1)) c2) (0 + (Lw - 1)) (ecs (bhd 1 (-1) (wt a.W)))) := by
    have := ho2
    rw [List.nil_append] at this
    exact this
  have HV2 : Hid (∀ g, (Value.slice p2 (0 + (Lw - 1)) c2).ownBlock = some g → w1.heap.size ≤ g) := fun g hg => by
    rcases hv2 g hg with e | e
    · cases e
    · exact e
  clear ho2 hk2 hv2
  obtain ⟨N2, hN2⟩ : ∃ N2, 0 + (Lw - 1) = N2 := ⟨_, rfl⟩
  have hN2' : N2 ≤ 100 := by omega
  have hs12 : w1.heap.size ≤ w2.heap.size := HB12.out.size
  rw [hN2] at HO2 HV2 ⊢
  clear hN2
  have HUW2 : Hid (∀ W, RowKit.Below w2.heap.size w2 W → UIn W ql Lw (wt a.W)) := fun W hW => HUW.out W (below_then HB12.out hW)
  clear HUW HB12 HB1
  by_cases hp : 0 < Lw
  · go_wp2_with fail
    refine (r_fits (HS.out.later HB2.out) (by omega)).mono ?_
    rintro e w3 ⟨rfl, -, hb3⟩
    have HB3 : Hid (RowKit.Below w.heap.size w w3) := below_then HB2.out hb3
    have HO3 : Hid (w3.ownsRow w.heap.size 46 4 (.slice p2 N2 c2) N2 (ecs (bhd 1 (-1) (wt a.W)))) := O.own_later HO2.out hb3
    have HUW3 : Hid (UIn w3 ql Lw (wt a.W)) := HUW2.out w3 hb3
    have hs23 : w2.heap.size ≤ w3.heap.size := hb3.size
    cases hfit : a.fits with
    | true =>
      obtain ⟨X, eX⟩ : ∃ X, bhd 1 (-1) (wt a.W) = X := ⟨_, rfl⟩
      have HX : Hid (X ++ qE (fun b => qS k.L (b : Int)) 64 = ofR a k 64) := by
        show _ = _
        unfold ofR ofS
        rw [if_neg (fun hc => by rw [hfit] at hc; cases hc.2), ← eX, List.append_nil]
      rw [eX] at HO3
      have HOX := HO3
      have HBX := HB3
      obtain ⟨px, cx, Nx, e1, e2, e3⟩ : ∃ px cx Nx, px = p2 ∧ cx = c2 ∧ Nx = N2 := ⟨_, _, _, rfl, rfl, rfl⟩
      subst e1 e2 e3
      clear hb3 HO2 HB2 HUW2 HUW3 HV2 eX hfit HO3 HB3
      go_wp2_with fail
      go_loopw [7, 45] (fun v7 v W => ∃ (b N : Nat) (p : Option Addr) (c : Nat), v7 = .slice p N c ∧ v = .int .i64 (b : Int) ∧ b ≤ 64 ∧ N ≤ 200 + b * 100 ∧ Hid (W.ownsRow w.heap.size 46 4 (.slice p N c) N (ecs (X ++ qE (fun b => qS k.L (b : Int)) b))) ∧ Hid (RowKit.Below w.heap.size w W)) (fun v7 v _ => 64 - (intV v).toNat)
      case atStart => exact ⟨0, Nx, px, cx, rfl, rfl, by omega, by omega, by simpa [qE] using HOX, HBX⟩
      case round =>
        clear HOX HBX
        obtain ⟨b, N, p, c, rfl, rfl, hb, hN, HO, HB⟩ := hrel
        by_cases hb64 : b < 64
        · go_wp2_with fail
          refine (r_queue (HS.out.later HB.out) hn (b : Int)).mono ?_
          rintro e w5 ⟨qq, cq, rfl, hoq, -, hb5⟩
          have hql := HQ.out (b : Int)
          have HO5 : Hid (w5.ownsRow w.heap.size 46 4 (.slice p N c) N (ecs (X ++ qE (fun b => qS k.L (b : Int)) b))) := O.own_later HO.out hb5
          have HU5 : Hid (UIn w5 qq (qS k.L (b : Int)).length (qS k.L (b : Int))) := uin_of_own hoq
          have HQB : Hid (∀ ad, qq = some ad → 0 < (qS k.L (b : Int)).length → ¬ (Value.slice p N c).ownBlock = some ad.block) := fun ad e h0 e2 => by
            subst e
            have h1 := (hoq.lt ad.block rfl).1
            have h2 := (HO.out.lt _ e2).2
            omega
          have HB5 : Hid (RowKit.Below w.heap.size w w5) := below_then HB.out hb5
          clear hoq hb5 HO HB
          obtain ⟨Lq, hLq⟩ : ∃ Lq, (qS k.L (b : Int)).length = Lq := ⟨_, rfl⟩
          rw [hLq] at HU5 HQB hql ⊢
          clear hLq
          go_wp2_with fail
          refine (behind_at HO5.out HB5.out.size HU5.out HQB.out (by omega) 3 (b : Int)).mono ?_
          rintro e w6 ⟨p6, c6, rfl, ho6, hk6, -⟩
          have HO6 : Hid (w6.ownsRow w.heap.size 46 4 (.slice p6 (N + (Lq - 1)) c6) (N + (Lq - 1)) (ecs (X ++ qE (fun b => qS k.L (b : Int)) (b + 1)))) := by
            have := ho6
            rw [List.append_assoc, ← qE_succ] at this
            exact this
          have HB6 : Hid (RowKit.Below w.heap.size w w6) := hk6.into HB5.out (fun z hz e => by have := (HO5.out.lt z e).1; omega) (Nat.le_refl _)
          clear ho6 hk6 HO5 HU5 HQB HB5
          obtain ⟨N6, hN6⟩ : ∃ N6, N + (Lq - 1) = N6 := ⟨_, rfl⟩
          have hN7 : N6 ≤ 200 + (b + 1) * 100 := by omega
          rw [hN6] at HO6 ⊢
          clear hN6
          go_wp2_with fail
          go_roundw
          case rel => exact ⟨b + 1, N6, p6, c6, rfl, by go_num, by omega, hN7, HO6, HB6⟩
          case measure => simp [intV]; omega
        · obtain rfl : b = 64 := by omega
          rw [HX.out] at HO
          go_wp2_with fail
          go_ret2
          exact ⟨p, N, c, rfl, HO.out, by omega, HB.out⟩

    | false =>
      have HX : Hid (bhd 1 (-1) (wt a.W) ++ rmE ((wt a.W).getD 0 0) (it a.I) ++ qE (fun b => qS k.L (b : Int)) 64 = ofR a k 64) := by
        show _ = _
        unfold ofR ofS
        rw [if_pos ⟨by have := HLW.out; omega, hfit⟩]
      clear hb3 HO2 HB2 HUW2 hfit
      go_wp2_with fail
      refine (r_in (HS.out.later HB3.out) (by omega)).mono ?_
      rintro e w4 ⟨qi, ci, rfl, hoi, -, hb4⟩
      obtain ⟨Li, hLi⟩ : ∃ Li, (it a.I).length = Li := ⟨_, rfl⟩
      have HLI : Hid ((it a.I).length = Li) := hLi
      rw [hLi] at hoi hI ⊢
      clear hLi
      have HUI : Hid (UIn w4 qi Li (it a.I)) := uin_of_own hoi
      have HIB : Hid (∀ ad, qi = some ad → w3.heap.size ≤ ad.block ∧ ad.block < w4.heap.size) := fun ad e => by subst e; exact hoi.lt ad.block rfl
      have HB4 : Hid (RowKit.Below w.heap.size w w4) := below_then HB3.out hb4
      have HO4 : Hid (w4.ownsRow w.heap.size 46 4 (.slice p2 N2 c2) N2 (ecs (bhd 1 (-1) (wt a.W)))) := O.own_later HO3.out hb4
      have HUW4 : Hid (UIn w4 ql Lw (wt a.W)) := HUW3.out.later hb4
      have HV4 : Hid (∀ g, (Value.slice p2 N2 c2).ownBlock = some g → w1.heap.size ≤ g ∧ g < w3.heap.size) := fun g hg => ⟨HV2.out g hg, (HO3.out.lt g hg).2⟩
      have hs34 : w3.heap.size ≤ w4.heap.size := hb4.size
      have hsw : w.heap.size ≤ w4.heap.size := HB4.out.size
      clear hoi hb4 HB3 HO3 HUW3 HV2
      generalize w1.heap.size = s1 at *
      generalize w3.heap.size = s3 at *
      generalize hs4 : w4.heap.size = s4 at *
      generalize (bhd 1 (-1) (wt a.W)) = X0 at *
      go_wp2_with fail
      go_loopw [7, 32] (fun v7 v W => ∃ (j : Nat) (p : Option Addr) (c : Nat), v7 = .slice p (N2 + j) c ∧ v = .int .i64 (j : Int) ∧ j ≤ Li ∧ Hid (W.ownsRow w.heap.size 46 4 (.slice p (N2 + j) c) (N2 + j) (ecs (X0 ++ (rmE ((wt a.W).getD 0 0) (it a.I)).take j))) ∧ Hid (Kept (fun z => s1 ≤ z ∧ (z < s3 ∨ s4 ≤ z)) w4 W) ∧ Hid (∀ g, (Value.slice p (N2 + j) c).ownBlock = some g → s1 ≤ g ∧ (g < s3 ∨ s4 ≤ g))) (fun v7 v _ => Li - (intV v).toNat)
      case atStart => exact ⟨0, p2, c2, rfl, rfl, by omega, by simpa using HO4, Kept.refl _ _, fun g hg => ⟨(HV4.out g hg).1, .inl (HV4.out g hg).2⟩⟩
      case round =>
        clear HO4 HV4
        obtain ⟨j, p, c, rfl, rfl, hj, HO, HK, HV⟩ := hrel
        have HBW : Hid (RowKit.Below w.heap.size w wr) := HK.out.into HB4.out (fun z hz e => by omega) (Nat.le_refl _)
        by_cases hjl : j < Li
        · have HUi : Hid (UIn wr qi Li (it a.I)) := HUI.out.far2 HK.out fun ad e h0 hz => by have := HIB.out ad e; omega
          have HUw : Hid (UIn wr ql Lw (wt a.W)) := HUW4.out.far2 HK.out fun ad e h0 hz => by have := HUB.out ad e h0; omega
          obtain ⟨ib, io, ei, hci⟩ := HUi.out.cells (by omega)
          obtain ⟨lb, lo, el, hcl⟩ := HUw.out.cells (by omega)
          subst ei el
          have h1 := hci j hjl
          have h2 := hcl 0 hp
          rw [Nat.add_zero] at h2
          have HTA : Hid (ecs (X0 ++ (rmE ((wt a.W).getD 0 0) (it a.I)).take (j + 1)) = ecs (X0 ++ (rmE ((wt a.W).getD 0 0) (it a.I)).take j) ++ [.int .u64 ((wt a.W).getD 0 0), .int .u64 ((it a.I).getD j 0), .int .i64 2, .int .i64 (-1)]) := by
            have hj' : j < (it a.I).length := by have := HLI.out; omega
            have e1 : (rmE ((wt a.W).getD 0 0) (it a.I))[j]? = some ⟨(wt a.W).getD 0 0, (it a.I).getD j 0, 2, -1⟩ := by
              simp [rmE, List.getD, List.getElem?_eq_getElem hj']
            show _ = _
            rw [List.take_add_one, e1, ← List.append_assoc]
            exact ecs_snoc _ _
          have hsz : w.heap.size ≤ wr.heap.size := HBW.out.size
          clear hci hcl HUi HUw
          generalize (it a.I).getD j 0 = ti at *
          generalize (wt a.W).getD 0 0 = tw at *
          go_wp2_with (at_builtin; refine O.wpList_agg2 (w := wr) rfl (.tmp 36) (.tmp 42) O.elE rfl rfl HO.out [Value.int .u64 tw, .int .u64 ti, .int .i64 2, .int .i64 (-1)] rfl rfl rfl (fun y hy => by simp at hy; rcases hy with rfl | rfl | rfl | rfl <;> rfl) (by omega) hsz ?_; intro g5 c5 w5 ho hk hv; have HO5 : Hid (w5.ownsRow w.heap.size 46 4 (.slice (some ⟨g5, 0, none⟩) (N2 + j + 1) c5) (N2 + j + 1) (ecs (X0 ++ (rmE tw (it a.I)).take j) ++ [Value.int .u64 tw, .int .u64 ti, .int .i64 2, .int .i64 (-1)])) := ho; have HK5 : Hid (Kept (fun b => (Value.slice p (N2 + j) c).ownBlock = some b) wr w5) := hk; have HV5 : Hid ((Value.slice p (N2 + j) c).ownBlock = some g5 ∨ wr.heap.size ≤ g5) := hv; clear ho hk hv)
          have HK6 : Hid (Kept (fun z => s1 ≤ z ∧ (z < s3 ∨ s4 ≤ z)) w4 w5) := HK.out.trans HK5.out fun z _ e => HV.out z e
          have HV6 : Hid (∀ g, (Value.slice (some ⟨g5, 0, none⟩) (N2 + j + 1) c5).ownBlock = some g → s1 ≤ g ∧ (g < s3 ∨ s4 ≤ g)) := fun g hg => by
            simp only [Value.ownBlock, Option.some.injEq] at hg
            subst hg
            rcases HV5.out with e | e
            · exact HV.out _ e
            · have := HK.out.size; omega
          clear HK5 HV5
          go_roundw
          case rel =>
            refine ⟨j + 1, some ⟨g5, 0, none⟩, c5, rfl, by go_num, by omega, ?_, HK6, HV6⟩
            rw [HTA.out]
            exact HO5
          case measure => simp [intV]; omega
        · obtain rfl : j = Li := by omega
          have HF : Hid ((rmE ((wt a.W).getD 0 0) (it a.I)).take j = rmE ((wt a.W).getD 0 0) (it a.I)) := by
            show _ = _
            rw [List.take_of_length_le]
            simp only [rmE, List.length_map]; rw [HLI.out]; exact Nat.le_refl _
          rw [HF.out] at HO
          obtain ⟨X, eX⟩ : ∃ X, X0 ++ rmE ((wt a.W).getD 0 0) (it a.I) = X := ⟨_, rfl⟩
          rw [eX] at HO HX
          have HOX := HO
          have HBX := HBW
          obtain ⟨px, cx, Nx, e1, e2, e3⟩ : ∃ px cx Nx, px = p ∧ cx = c ∧ Nx = N2 + j := ⟨_, _, _, rfl, rfl, rfl⟩
          rw [← e3] at HOX ⊢
          have hNx : Nx ≤ 200 := by omega
          subst e1 e2
          clear e3 HO HBW HK HV HF eX HUI HUW4 HIB HUB HB4
          go_wp2_with fail
          go_loopw [7, 45] (fun v7 v W => ∃ (b N : Nat) (p : Option Addr) (c : Nat), v7 = .slice p N c ∧ v = .int .i64 (b : Int) ∧ b ≤ 64 ∧ N ≤ 200 + b * 100 ∧ Hid (W.ownsRow w.heap.size 46 4 (.slice p N c) N (ecs (X ++ qE (fun b => qS k.L (b : Int)) b))) ∧ Hid (RowKit.Below w.heap.size w W)) (fun v7 v _ => 64 - (intV v).toNat)
          case atStart => exact ⟨0, Nx, px, cx, rfl, rfl, by omega, by omega, by simpa [qE] using HOX, HBX⟩
          case round =>
            clear HOX HBX
            obtain ⟨b, N, p, c, rfl, rfl, hb, hN, HO, HB⟩ := hrel
            by_cases hb64 : b < 64
            · go_wp2_with fail
              refine (r_queue (HS.out.later HB.out) hn (b : Int)).mono ?_
              rintro e w5 ⟨qq, cq, rfl, hoq, -, hb5⟩
              have hql := HQ.out (b : Int)
              have HO5 : Hid (w5.ownsRow w.heap.size 46 4 (.slice p N c) N (ecs (X ++ qE (fun b => qS k.L (b : Int)) b))) := O.own_later HO.out hb5
              have HU5 : Hid (UIn w5 qq (qS k.L (b : Int)).length (qS k.L (b : Int))) := uin_of_own hoq
              have HQB : Hid (∀ ad, qq = some ad → 0 < (qS k.L (b : Int)).length → ¬ (Value.slice p N c).ownBlock = some ad.block) := fun ad e h0 e2 => by
                subst e
                have h1 := (hoq.lt ad.block rfl).1
                have h2 := (HO.out.lt _ e2).2
                omega
              have HB5 : Hid (RowKit.Below w.heap.size w w5) := below_then HB.out hb5
              clear hoq hb5 HO HB
              obtain ⟨Lq, hLq⟩ : ∃ Lq, (qS k.L (b : Int)).length = Lq := ⟨_, rfl⟩
              rw [hLq] at HU5 HQB hql ⊢
              clear hLq
              go_wp2_with fail
              refine (behind_at HO5.out HB5.out.size HU5.out HQB.out (by omega) 3 (b : Int)).mono ?_
              rintro e w6 ⟨p6, c6, rfl, ho6, hk6, -⟩
              have HO6 : Hid (w6.ownsRow w.heap.size 46 4 (.slice p6 (N + (Lq - 1)) c6) (N + (Lq - 1)) (ecs (X ++ qE (fun b => qS k.L (b : Int)) (b + 1)))) := by
                have := ho6
                rw [List.append_assoc, ← qE_succ] at this
                exact this
              have HB6 : Hid (RowKit.Below w.heap.size w w6) := hk6.into HB5.out (fun z hz e => by have := (HO5.out.lt z e).1; omega) (Nat.le_refl _)
              clear ho6 hk6 HO5 HU5 HQB HB5
              obtain ⟨N6, hN6⟩ : ∃ N6, N + (Lq - 1) = N6 := ⟨_, rfl⟩
              have hN7 : N6 ≤ 200 + (b + 1) * 100 := by omega
              rw [hN6] at HO6 ⊢
              clear hN6
              go_wp2_with fail
              go_roundw
              case rel => exact ⟨b + 1, N6, p6, c6, rfl, by go_num, by omega, hN7, HO6, HB6⟩
              case measure => simp [intV]; omega
            · obtain rfl : b = 64 := by omega
              rw [HX.out] at HO
              go_wp2_with fail
              go_ret2
              exact ⟨p, N, c, rfl, HO.out, by omega, HB.out⟩

  · obtain ⟨X, eX⟩ : ∃ X, bhd 1 (-1) (wt a.W) = X := ⟨_, rfl⟩
    have HX : Hid (X ++ qE (fun b => qS k.L (b : Int)) 64 = ofR a k 64) := by
      show _ = _
      unfold ofR ofS
      rw [if_neg (fun hc => by have := HLW.out; omega), ← eX, List.append_nil]
    rw [eX] at HO2
    have HOX := HO2
    have HBX := HB2
    obtain ⟨px, cx, Nx, e1, e2, e3⟩ : ∃ px cx Nx, px = p2 ∧ cx = c2 ∧ Nx = N2 := ⟨_, _, _, rfl, rfl, rfl⟩
    subst e1 e2 e3
    clear HO2 HB2 HUW2 HV2 eX
    go_wp2_with fail
    go_loopw [7, 45] (fun v7 v W => ∃ (b N : Nat) (p : Option Addr) (c : Nat), v7 = .slice p N c ∧ v = .int .i64 (b : Int) ∧ b ≤ 64 ∧ N ≤ 200 + b * 100 ∧ Hid (W.ownsRow w.heap.size 46 4 (.slice p N c) N (ecs (X ++ qE (fun b => qS k.L (b : Int)) b))) ∧ Hid (RowKit.Below w.heap.size w W)) (fun v7 v _ => 64 - (intV v).toNat)
    case atStart => exact ⟨0, Nx, px, cx, rfl, rfl, by omega, by omega, by simpa [qE] using HOX, HBX⟩
    case round =>
      clear HOX HBX
      obtain ⟨b, N, p, c, rfl, rfl, hb, hN, HO, HB⟩ := hrel
      by_cases hb64 : b < 64
      · go_wp2_with fail
        refine (r_queue (HS.out.later HB.out) hn (b : Int)).mono ?_
        rintro e w5 ⟨qq, cq, rfl, hoq, -, hb5⟩
        have hql := HQ.out (b : Int)
        have HO5 : Hid (w5.ownsRow w.heap.size 46 4 (.slice p N c) N (ecs (X ++ qE (fun b => qS k.L (b : Int)) b))) := O.own_later HO.out hb5
        have HU5 : Hid (UIn w5 qq (qS k.L (b : Int)).length (qS k.L (b : Int))) := uin_of_own hoq
        have HQB : Hid (∀ ad, qq = some ad → 0 < (qS k.L (b : Int)).length → ¬ (Value.slice p N c).ownBlock = some ad.block) := fun ad e h0 e2 => by
          subst e
          have h1 := (hoq.lt ad.block rfl).1
          have h2 := (HO.out.lt _ e2).2
          omega
        have HB5 : Hid (RowKit.Below w.heap.size w w5) := below_then HB.out hb5
        clear hoq hb5 HO HB
        obtain ⟨Lq, hLq⟩ : ∃ Lq, (qS k.L (b : Int)).length = Lq := ⟨_, rfl⟩
        rw [hLq] at HU5 HQB hql ⊢
        clear hLq
        go_wp2_with fail
        refine (behind_at HO5.out HB5.out.size HU5.out HQB.out (by omega) 3 (b : Int)).mono ?_
        rintro e w6 ⟨p6, c6, rfl, ho6, hk6, -⟩
        have HO6 : Hid (w6.ownsRow w.heap.size 46 4 (.slice p6 (N + (Lq - 1)) c6) (N + (Lq - 1)) (ecs (X ++ qE (fun b => qS k.L (b : Int)) (b + 1)))) := by
          have := ho6
          rw [List.append_assoc, ← qE_succ] at this
          exact this
        have HB6 : Hid (RowKit.Below w.heap.size w w6) := hk6.into HB5.out (fun z hz e => by have := (HO5.out.lt z e).1; omega) (Nat.le_refl _)
        clear ho6 hk6 HO5 HU5 HQB HB5
        obtain ⟨N6, hN6⟩ : ∃ N6, N + (Lq - 1) = N6 := ⟨_, rfl⟩
        have hN7 : N6 ≤ 200 + (b + 1) * 100 := by omega
        rw [hN6] at HO6 ⊢
        clear hN6
        go_wp2_with fail
        go_roundw
        case rel => exact ⟨b + 1, N6, p6, c6, rfl, by go_num, by omega, hN7, HO6, HB6⟩
        case measure => simp [intV]; omega
      · obtain rfl : b = 64 := by omega
        rw [HX.out] at HO
        go_wp2_with fail
        go_ret2
        exact ⟨p, N, c, rfl, HO.out, by omega, HB.out⟩
end Go.Proofs.YtkgjmejpbklabaaGreat
