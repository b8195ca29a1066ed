/-
  Layer 15: the document's Of.
-/
import Derived.Test.YtkgjmejpbklabaaGreatN21
namespace Go.Proofs.YtkgjmejpbklabaaGreat
open Go.RowKit
open M (Ad wt it)
open K (Lk tix qS)
/-- memory below is not written -/
theorem below_of {W W' : World} {s : Nat} {e : TypeId} {size n : Nat} {v : Value} {xs : List Value} (hk : Kept (fun z => v.ownBlock = some z) W W') (ho : W.ownsRow s e size v n xs) : RowKit.Below (min s W.heap.size) W W' := ⟨hk.os, hk.tape, hk.output, hk.size, fun b hb => hk.block b (by omega) fun e => by have := (ho.lt b e).1; omega⟩
theorem cell_low {W W' : World} {s b o : Nat} {x : Value} (h : W.cell? ⟨b, o, none⟩ = some x) (hb : RowKit.Below (min s W.heap.size) W W') (hs : b < s) : W'.cell? ⟨b, o, none⟩ = some x := by
  have hl := cell_lt h
  rw [World.cell?_of_block (w := W) (w' := W') (a := ⟨b, o, none⟩) (hb.block b (by omega))]
  exact h
/-- queues that are read -/
def QIn (w : World) (g nb : Nat) (q : Nat → List Int) : Prop := ∀ b, b < nb → ∃ p c, w.cell? ⟨g, b, none⟩ = some (.slice p (q b).length c) ∧ UIn w p (q b).length (q b)
theorem QIn.later {w w' : World} {g nb : Nat} {q : Nat → List Int} (h : QIn w g nb q) (hb : RowKit.Below w.heap.size w w') : QIn w' g nb q := fun b hn => by
  obtain ⟨p, c, h1, h2⟩ := h b hn
  exact ⟨p, c, (hb.cell (p := ⟨g, b, none⟩) (cell_lt h1)).trans h1, h2.later hb⟩
set_option maxHeartbeats 2000000 in
set_option maxRecDepth 100000 in
theorem rof_at {w : World} {ql qi qq : Option Addr} {Lw cl Li ci nb cq : Nat} {Wt It : List Int} {q : Nat → List Int} (fits : Bool) (hL : UIn w ql Lw Wt) (hI : UIn w qi Li It) (hQ : 0 < nb → ∃ g, qq = some ⟨g, 0, none⟩ ∧ QIn w g nb q) (hLw : Lw ≤ 100) (hLi : Li ≤ 100) (hnb : nb ≤ 64) (hql : ∀ b, (q b).length ≤ 100) :
    Calls Tryz.prog 16 #[.slice ql Lw cl, .bool fits, .slice qi Li ci, .slice qq nb cq] w fun e w' => ∃ (p : Option Addr) (N c : Nat), e = .returned (.slice p N c) ∧ w'.ownsRow w.heap.size 100 4 (.slice p N c) N (ecs (ofS Wt fits It q nb)) ∧ RowKit.Below w.heap.size w w' := by
  have HL : Hid (∀ W, RowKit.Below w.heap.size w W → UIn W ql Lw Wt) := fun W hW => hL.later hW
  have HI : Hid (∀ W, RowKit.Below w.heap.size w W → UIn W qi Li It) := fun W hW => hI.later hW
  have HQ : Hid (∀ W, RowKit.Below w.heap.size w W → 0 < nb → ∃ g, qq = some ⟨g, 0, none⟩ ∧ QIn W g nb q) := fun W hW h0 => by
    obtain ⟨g, e, h1⟩ := hQ h0
    exact ⟨g, e, h1.later hW⟩
  have HQB : Hid (∀ g, qq = some ⟨g, 0, none⟩ → 0 < nb → g < w.heap.size) := fun g e h0 => by
    obtain ⟨g', e', h1⟩ := hQ h0
    rw [e] at e'
    cases e'
    obtain ⟨p, c, h2, _⟩ := h1 0 h0
    exact cell_lt h2
  have HLL : Hid (Wt.length = Lw) := hL.len
  have HIL : Hid (It.length = Li) := hI.len
  have HQL : Hid (∀ b, (q b).length ≤ 100) := hql
  clear hL hI hQ hql
  go_enter Tryz.func16, Tryz.ntmps16
  go_wp2_with fail
  go_loopw [9, 10] (fun v9 v W => ∃ (j : Nat) (p' : Option Addr) (c' : Nat), v9 = .slice p' j c' ∧ v = .int .i64 ((j : Int) + 1) ∧ j ≤ Lw - 1 ∧ Hid (W.ownsRow w.heap.size 100 4 (.slice p' j c') j (ecs ((bhd 1 (-1) Wt).take j))) ∧ Hid (RowKit.Below w.heap.size w W)) (fun v9 v _ => Lw - (intV v).toNat)
  case atStart => exact ⟨0, none, 0, rfl, rfl, by omega, World.ownsRow_nil _ _ _ _, RowKit.Below.refl _ _⟩
  case round =>
    obtain ⟨j, p', c', rfl, rfl, hj, HOj, HBj⟩ := hrel
    by_cases hjm : j + 1 < Lw
    · obtain ⟨qb, qo, eq, hcs⟩ := (HL.out wr HBj.out).cells (by omega)
      have hqw : qb < w.heap.size := by
        have hu0 := HL.out w (RowKit.Below.refl _ _)
        rw [eq] at hu0
        exact hu0.lt (by omega)
      subst eq
      have hc1 : wr.drew.cell? ⟨qb, qo + (j + 1), none⟩ = some (.int .u64 (Wt.getD (j + 1) 0)) := hcs (j + 1) (by omega)
      have hc0 : wr.drew.cell? ⟨qb, qo + j, none⟩ = some (.int .u64 (Wt.getD j 0)) := hcs j (by omega)
      have HTA : Hid (ecs ((bhd 1 (-1) Wt).take (j + 1)) = ecs ((bhd 1 (-1) Wt).take j) ++ [.int .u64 (Wt.getD (j + 1) 0), .int .u64 (Wt.getD j 0), .int .i64 1, .int .i64 (-1)]) := by
        show _ = _
        rw [bhd_take 1 (-1) Wt (by have := HLL.out; omega), ecs_snoc]
      have HOE : Hid (wr.drew.ownsRow w.heap.size 100 4 (.slice p' j c') j (ecs ((bhd 1 (-1) Wt).take j))) := O.own_later HOj.out (below_dr _ _ 1)
      have HBE : Hid (RowKit.Below w.heap.size w wr.drew) := HBj.out.trans (below_dr _ _ 1)
      have HSZ : Hid (w.heap.size ≤ wr.drew.heap.size) := HBE.out.size
      have hlow1 : qb < w.heap.size := hqw
      have hlow2 : qb < w.heap.size := hqw
      clear hcs HOj HBj hqw
      generalize Wt.getD (j + 1) 0 = tx at *
      generalize Wt.getD j 0 = ty at *
      go_wp2_with fail
      refine wp_region_noPanic ?_
      refine wp_region_held_drew (S := (fun W : World => W.cell? ⟨qb, qo + (j + 1), none⟩ = some (.int .u64 tx) ∧ W.cell? ⟨qb, qo + j, none⟩ = some (.int .u64 ty))) (by kernel_rfl) ⟨hc1, hc0⟩ (fun hHeld => ?_)
      clear hc0 hc1
      generalize wr.drew = we at *
      have HC0 : Hid (we.cell? ⟨qb, qo + (j + 1), none⟩ = some (.int .u64 tx) ∧ we.cell? ⟨qb, qo + j, none⟩ = some (.int .u64 ty)) := hHeld
      have hj1 : (j : Int) + 1 - 1 = (j : Int) := by omega
      have hp1 : 0 ≤ (j : Int) + 1 := by omega
      have hp2 : (j : Int) < (Lw : Int) := by omega
      have hwj : IntKind.i64.wrap (j : Int) = (j : Int) := wrap_small (by omega) (by omega)
      refine wpAnyH_take (i := 0) (v := ?va1) (by simp; rfl) (by kernel_rfl) (by kernel_rfl) (by kernel_rfl) (fun _ _ _ h => h) (Or.inl ⟨by rfl, ?ya1⟩) hHeld ?ra1
      case ya1 => intro w hSw; clear hSw; go_simp; with_reducible rfl
      simp only [Act.put, List.setIfInBounds_toArray, List.set_cons_zero, List.set_cons_succ]
      refine wpAnyH_take (i := 1) (v := ?va2) (by simp; rfl) (by kernel_rfl) (by kernel_rfl) (by kernel_rfl) (fun _ _ _ h => h) (Or.inl ⟨by rfl, ?ya2⟩) hHeld ?ra2
      case ya2 => intro w hSw; clear hSw; go_simp; with_reducible rfl
      simp only [Act.put, List.setIfInBounds_toArray, List.set_cons_zero, List.set_cons_succ]
      refine wpAnyH_take (i := 2) (v := ?va3) (by simp; rfl) (by kernel_rfl) (by kernel_rfl) (by kernel_rfl) (fun _ _ _ h => h) (Or.inl ⟨by rfl, ?ya3⟩) hHeld ?ra3
      case ya3 => intro w hSw; clear hSw; go_simp; with_reducible rfl
      simp only [Act.put, List.setIfInBounds_toArray, List.set_cons_zero, List.set_cons_succ]
      refine wpAnyH_take (i := 3) (v := ?va4) (by simp; rfl) (by kernel_rfl) (by kernel_rfl) (by kernel_rfl) (fun _ _ _ h => h) (Or.inl ⟨by rfl, ?ya4⟩) hHeld ?ra4
      case ya4 => intro w hSw; clear hSw; go_simp; with_reducible rfl
      simp only [Act.put, List.setIfInBounds_toArray, List.set_cons_zero, List.set_cons_succ]
      refine wpAnyH_take (i := 4) (v := ?va5) (by simp; rfl) (by kernel_rfl) (by kernel_rfl) (by kernel_rfl) (fun _ _ _ h => h) (Or.inl ⟨by rfl, ?ya5⟩) hHeld ?ra5
      case ya5 => intro w hSw; obtain ⟨z1, z2⟩ := hSw; go_simp; with_reducible rfl
      simp only [Act.put, List.setIfInBounds_toArray, List.set_cons_zero, List.set_cons_succ]
      refine wpAnyH_take (i := 5) (v := ?va6) (by simp; rfl) (by kernel_rfl) (by kernel_rfl) (by kernel_rfl) (fun _ _ _ h => h) (Or.inl ⟨by rfl, ?ya6⟩) hHeld ?ra6
      case ya6 => intro w hSw; clear hSw; go_simp; with_reducible rfl
      simp only [Act.put, List.setIfInBounds_toArray, List.set_cons_zero, List.set_cons_succ]
      refine wpAnyH_take (i := 6) (v := ?va7) (by simp; rfl) (by kernel_rfl) (by kernel_rfl) (by kernel_rfl) (fun _ _ _ h => h) (Or.inl ⟨by rfl, ?ya7⟩) hHeld ?ra7
      case ya7 => intro w hSw; clear hSw; go_simp; with_reducible rfl
      simp only [Act.put, List.setIfInBounds_toArray, List.set_cons_zero, List.set_cons_succ]
      refine wpAnyH_take (i := 7) (v := ?va8) (by simp; rfl) (by kernel_rfl) (by kernel_rfl) (by kernel_rfl) (fun _ _ _ h => h) (Or.inl ⟨by rfl, ?ya8⟩) hHeld ?ra8
      case ya8 => intro w hSw; clear hSw; go_simp; with_reducible rfl
      simp only [Act.put, List.setIfInBounds_toArray, List.set_cons_zero, List.set_cons_succ]
      refine wpAnyH_take (i := 8) (v := ?va9) (by simp; rfl) (by kernel_rfl) (by kernel_rfl) (by kernel_rfl) (fun _ _ _ h => h) (Or.inl ⟨by rfl, ?ya9⟩) hHeld ?ra9
      case ya9 => intro w hSw; clear hSw; go_simp; with_reducible rfl
      simp only [Act.put, List.setIfInBounds_toArray, List.set_cons_zero, List.set_cons_succ]
      refine wpAnyH_take (i := 9) (v := ?va10) (by simp; rfl) (by kernel_rfl) (by kernel_rfl) (by kernel_rfl) (fun _ _ _ h => h) (Or.inl ⟨by rfl, ?ya10⟩) hHeld ?ra10
      case ya10 => intro w hSw; obtain ⟨z1, z2⟩ := hSw; go_simp; with_reducible rfl
      simp only [Act.put, List.setIfInBounds_toArray, List.set_cons_zero, List.set_cons_succ]
      refine wpAnyH_take (i := 10) (v := ?va11) (by simp; rfl) (by kernel_rfl) (by kernel_rfl) (by kernel_rfl) (fun _ _ _ h => h) (Or.inl ⟨by rfl, ?ya11⟩) hHeld ?ra11
      case ya11 => intro w hSw; clear hSw; go_simp; with_reducible rfl
      simp only [Act.put, List.setIfInBounds_toArray, List.set_cons_zero, List.set_cons_succ]
      refine wpAnyH_ready (rs := [11]) (by kernel_rfl) (by simp) ?_
      refine AllReadyH.cons (by simp; rfl) (fun Kc hKc => ?_) AllReadyH.nil
      go_simp
      have SA : (fun W : World => W.cell? ⟨qb, qo + (j + 1), none⟩ = some (.int .u64 tx) ∧ W.cell? ⟨qb, qo + j, none⟩ = some (.int .u64 ty)) (we.alloc (Obj.cells #[.int .u64 tx, .int .u64 ty, .int .i64 1, .int .i64 (-1)] 100)) := ⟨cell_far hHeld.1 (Kept.of_below (fun _ => False) (below_alloc we _)) (fun h => h), cell_far hHeld.2 (Kept.of_below (fun _ => False) (below_alloc we _)) (fun h => h)⟩
      refine hKc.out _ _ SA (fun _ => ?_)
      clear hHeld hKc Kc
      have hHeld := SA
      clear SA

      refine wpAnyH_ready (rs := [12]) (by kernel_rfl) (by simp) ?_
      refine AllReadyH.cons (by simp; rfl) (fun Kc hKc => ?_) AllReadyH.nil
      have HOW : Hid ((we.alloc (Obj.cells #[.int .u64 tx, .int .u64 ty, .int .i64 1, .int .i64 (-1)] 100)).ownsRow w.heap.size 100 4 (Value.slice p' j c') j (ecs ((bhd 1 (-1) Wt).take j))) := O.own_later HOE.out (below_alloc we _)
      refine O.step_own_any (v := (Value.slice p' j c')) (u := .slice (some ⟨we.heap.size, 0, none⟩) 1 1) (n := j) (m := 1) (base := w.heap.size) (base' := 0) rfl (.tmp 20) (.tmp 31) O.elR rfl rfl HOW.out rfl (O.own_one (base := 0) (e := 100) (size := 4) (cs := [.int .u64 tx, .int .u64 ty, .int .i64 1, .int .i64 (-1)]) we rfl (Nat.zero_le _)) (fun y hy => by simp at hy; rcases hy with rfl | rfl | rfl | rfl <;> rfl) (by omega) (by have := HSZ.out; simp; omega) ?_
      intro v5 w5 ho5 hk5 hv5
      obtain ⟨g5, c5, e5, -, -, -⟩ := O.own_some ho5 (by omega)
      subst e5
      have HO5 : Hid (w5.ownsRow w.heap.size 100 4 (.slice (some ⟨g5, 0, none⟩) (j + 1) c5) (j + 1) ((ecs ((bhd 1 (-1) Wt).take j)) ++ [.int .u64 tx, .int .u64 ty, .int .i64 1, .int .i64 (-1)])) := ho5
      have HK5 : Hid (Kept (fun z => (Value.slice p' j c').ownBlock = some z) we w5) := (Kept.of_below _ (below_alloc we _)).trans hk5 fun _ _ h => h
      have HV5 : Hid ((Value.slice p' j c').ownBlock = some g5 ∨ we.heap.size ≤ g5) := by
        rcases hv5 with e | e
        · exact .inl e.symm
        · right
          simp only [World.size_alloc, Value.ownBlock, Option.some.injEq] at e
          omega
      clear ho5 hk5 hv5 HOW
      have SA : (fun W : World => W.cell? ⟨qb, qo + (j + 1), none⟩ = some (.int .u64 tx) ∧ W.cell? ⟨qb, qo + j, none⟩ = some (.int .u64 ty)) w5 := ⟨(cell_low HC0.out.1 (below_of HK5.out HOE.out) hlow1), (cell_low HC0.out.2 (below_of HK5.out HOE.out) hlow2)⟩
      refine hKc.out _ _ SA (fun _ => ?_)
      clear hHeld hKc Kc
      have hHeld := SA
      clear SA
      try simp only [Act.put, List.setIfInBounds_toArray, List.set_cons_zero, List.set_cons_succ]

      refine wpAnyH_take (i := 13) (v := ?va12) (by simp; rfl) (by kernel_rfl) (by kernel_rfl) (by kernel_rfl) (fun _ _ _ h => h) (Or.inl ⟨by rfl, ?ya12⟩) hHeld ?ra12
      case ya12 => intro w hSw; clear hSw; go_simp; with_reducible rfl
      simp only [Act.put, List.setIfInBounds_toArray, List.set_cons_zero, List.set_cons_succ]
      refine wpAnyH_done (by kernel_rfl) (NoPanic.normal ?_) _
      clear hHeld

      have HB6 : Hid (RowKit.Below w.heap.size w w5) := HK5.out.into HBE.out (fun b hb e => by have := (HOE.out.lt b e).1; omega) (Nat.le_refl _)
      clear hj1 hwj hp1 hp2 HC0 HOE HSZ HBE HK5 HV5
      go_wp2_with fail
      go_roundw
      case rel =>
        refine ⟨j + 1, some ⟨g5, 0, none⟩, c5, rfl, by go_num, by omega, ?_, HB6⟩
        rw [HTA.out]
        exact HO5
      case measure => simp [intV]; omega
    · have HF : Hid ((bhd 1 (-1) Wt).take j = bhd 1 (-1) Wt) := by
        show _ = _
        rw [List.take_of_length_le]
        rw [bhd_len, HLL.out]; omega
      rw [HF.out] at HOj
      obtain ⟨X0, eX0⟩ : ∃ X0, bhd 1 (-1) Wt = X0 := ⟨_, rfl⟩
      rw [eX0] at HOj
      have hj100 : j ≤ 100 := by omega
      by_cases hp : 0 < Lw
      · cases fits with
        | true =>
          have HX : Hid (X0 ++ qE q nb = ofS Wt true It q nb) := by
            show _ = _
            unfold ofS
            rw [if_neg (fun hc => by cases hc.2), eX0, List.append_nil]
          obtain ⟨X, eX⟩ : ∃ X, X0 = X := ⟨_, rfl⟩
          rw [eX] at HOj HX
          have HOX := HOj
          have HBX := HBj
          obtain ⟨px, cx, Nx, e1, e2, e3⟩ : ∃ px cx Nx, px = p' ∧ cx = c' ∧ Nx = j := ⟨_, _, _, rfl, rfl, rfl⟩
          subst e1 e2 e3
          clear HOj HBj HF eX eX0
          go_wp2_with fail
          go_loopw [9, 12] (fun v9 v W => ∃ (b N : Nat) (p : Option Addr) (c : Nat), v9 = .slice p N c ∧ v = .int .i64 (b : Int) ∧ b ≤ nb ∧ N ≤ 200 + b * 100 ∧ Hid (W.ownsRow w.heap.size 100 4 (.slice p N c) N (ecs (X ++ qE q b))) ∧ Hid (RowKit.Below w.heap.size w W)) (fun v9 v _ => nb - (intV v).toNat)
          case atStart => exact ⟨0, Nx, px, cx, rfl, rfl, by omega, by omega, by simpa [qE] using HOX, HBX⟩
          case round =>
            clear HOX HBX
            obtain ⟨b, N, p, c, rfl, rfl, hb, hN, HO, HB⟩ := hrel
            by_cases hbn : b < nb
            · obtain ⟨gq, eqq, hqin⟩ := HQ.out wr HB.out (by omega)
              have hgw : gq < w.heap.size := HQB.out gq eqq (by omega)
              subst eqq
              have hLq := HQL.out b
              have HQA : Hid (∀ W, RowKit.Below w.heap.size w W → ∃ pz cz, W.cell? ⟨gq, b, none⟩ = some (.slice pz (q b).length cz) ∧ UIn W pz (q b).length (q b)) := fun W hW => by
                obtain ⟨g', e', h1⟩ := HQ.out W hW (by omega)
                cases e'
                exact h1 b hbn
              obtain ⟨pz, cz, hcz, -⟩ := HQA.out w (RowKit.Below.refl _ _)
              have HQC : Hid (∀ W, RowKit.Below w.heap.size w W → W.cell? ⟨gq, b, none⟩ = some (.slice pz (q b).length cz) ∧ UIn W pz (q b).length (q b)) := fun W hW => by
                obtain ⟨pz', cz', h1, h2⟩ := HQA.out W hW
                have h3 := (hW.cell (p := ⟨gq, b, none⟩) (cell_lt hcz)).trans hcz
                rw [h1] at h3
                simp only [Option.some.injEq, Value.slice.injEq, true_and] at h3
                obtain ⟨rfl, rfl⟩ := h3
                exact ⟨h1, h2⟩
              have HTB : Hid (∀ jj, jj + 1 < (q b).length → ecs (X ++ qE q b ++ (bhd 3 b (q b)).take (jj + 1)) = ecs (X ++ qE q b ++ (bhd 3 b (q b)).take jj) ++ [.int .u64 ((q b).getD (jj + 1) 0), .int .u64 ((q b).getD jj 0), .int .i64 3, .int .i64 (b : Int)]) := fun jj hjj => by
                rw [bhd_take 3 b (q b) hjj, ← List.append_assoc, ecs_snoc]
              have HTE : Hid (∀ jj, ¬ jj + 1 < (q b).length → X ++ qE q b ++ (bhd 3 b (q b)).take jj = X ++ qE q (b + 1)) := fun jj hjj => by
                rw [List.take_of_length_le (by rw [bhd_len]; omega), List.append_assoc, ← qE_succ]
              have HO0 : Hid (wr.ownsRow w.heap.size 100 4 (.slice p N c) N (ecs (X ++ qE q b ++ (bhd 3 b (q b)).take 0))) := by
                have := HO.out
                rw [List.take_zero, List.append_nil]
                exact this
              clear hqin HQA hcz HO
              go_wp2_with fail
              go_loopw [9, 13] (fun v9 v W => ∃ (jj : Nat) (p : Option Addr) (c : Nat), v9 = .slice p (N + jj) c ∧ v = .int .i64 ((jj : Int) + 1) ∧ jj ≤ (q b).length - 1 ∧ Hid (W.ownsRow w.heap.size 100 4 (.slice p (N + jj) c) (N + jj) (ecs (X ++ qE q b ++ (bhd 3 b (q b)).take jj))) ∧ Hid (RowKit.Below w.heap.size w W)) (fun v9 v _ => (q b).length - (intV v).toNat)
              case atStart => exact ⟨0, p, c, rfl, rfl, by omega, HO0, HB⟩
              case round =>
                clear HO0 HB
                obtain ⟨jj, p, c, rfl, rfl, hjj, HO, HB⟩ := hrel
                obtain ⟨hcz, huz⟩ := HQC.out wr HB.out
                by_cases hjl : jj + 1 < (q b).length
                · obtain ⟨qb, qo, eq, hcs⟩ := huz.cells (by omega)
                  have hqw : qb < w.heap.size := by
                    have hu0 := (HQC.out w (RowKit.Below.refl _ _)).2
                    rw [eq] at hu0
                    exact hu0.lt (by omega)
                  subst eq
                  have hc1 : wr.drew.cell? ⟨qb, qo + (jj + 1), none⟩ = some (.int .u64 ((q b).getD (jj + 1) 0)) := hcs (jj + 1) (by omega)
                  have hc0 : wr.drew.cell? ⟨qb, qo + jj, none⟩ = some (.int .u64 ((q b).getD jj 0)) := hcs jj (by omega)
                  have hcd : wr.drew.cell? ⟨gq, b, none⟩ = some (.slice (some ⟨qb, qo, none⟩) (q b).length cz) := hcz
                  have HTA : Hid (_ = _) := HTB.out jj hjl
                  have HOE : Hid (wr.drew.ownsRow w.heap.size 100 4 (.slice p (N + jj) c) (N + jj) (ecs (X ++ qE q b ++ (bhd 3 b (q b)).take jj))) := O.own_later HO.out (below_dr _ _ 1)
                  have HBE : Hid (RowKit.Below w.heap.size w wr.drew) := HB.out.trans (below_dr _ _ 1)
                  have HSZ : Hid (w.heap.size ≤ wr.drew.heap.size) := HBE.out.size
                  have hlow1 : gq < w.heap.size := hgw
                  have hlow2 : qb < w.heap.size := hqw
                  clear hcs HO HB hqw
                  generalize (q b).getD (jj + 1) 0 = tx at *
                  generalize (q b).getD jj 0 = ty at *
                  obtain ⟨Lq, eLq⟩ : ∃ Lq, (q b).length = Lq := ⟨_, rfl⟩
                  have HLQ : Hid ((q b).length = Lq) := eLq
                  rw [eLq] at hcz hcd hjl hLq hjj
                  clear eLq
                  go_wp2_with fail
                  clear hcz
                  refine wp_region_noPanic ?_
                  refine wp_region_held_drew (S := (fun W : World => W.cell? ⟨gq, b, none⟩ = some (.slice (some ⟨qb, qo, none⟩) Lq cz) ∧ W.cell? ⟨qb, qo + (jj + 1), none⟩ = some (.int .u64 tx) ∧ W.cell? ⟨qb, qo + jj, none⟩ = some (.int .u64 ty))) (by kernel_rfl) ⟨hcd, hc1, hc0⟩ (fun hHeld => ?_)
                  clear hc0 hc1 hcd
                  generalize wr.drew = we at *
                  have HC0 : Hid (we.cell? ⟨gq, b, none⟩ = some (.slice (some ⟨qb, qo, none⟩) Lq cz) ∧ we.cell? ⟨qb, qo + (jj + 1), none⟩ = some (.int .u64 tx) ∧ we.cell? ⟨qb, qo + jj, none⟩ = some (.int .u64 ty)) := hHeld
                  have hj1 : (jj : Int) + 1 - 1 = (jj : Int) := by omega
                  have hp1 : 0 ≤ (jj : Int) + 1 := by omega
                  have hp2 : (jj : Int) < (Lq : Int) := by omega
                  have hp3 : (jj : Int) + 1 < (Lq : Int) := by omega
                  have hp4 : (b : Int) < (nb : Int) := by omega
                  have hwj : IntKind.i64.wrap (jj : Int) = (jj : Int) := wrap_small (by omega) (by omega)
                  refine wpAnyH_take (i := 0) (v := ?va13) (by simp; rfl) (by kernel_rfl) (by kernel_rfl) (by kernel_rfl) (fun _ _ _ h => h) (Or.inl ⟨by rfl, ?ya13⟩) hHeld ?ra13
                  case ya13 => intro w hSw; clear hSw; go_simp; with_reducible rfl
                  simp only [Act.put, List.setIfInBounds_toArray, List.set_cons_zero, List.set_cons_succ]
                  refine wpAnyH_take (i := 1) (v := ?va14) (by simp; rfl) (by kernel_rfl) (by kernel_rfl) (by kernel_rfl) (fun _ _ _ h => h) (Or.inl ⟨by rfl, ?ya14⟩) hHeld ?ra14
                  case ya14 => intro w hSw; clear hSw; go_simp; with_reducible rfl
                  simp only [Act.put, List.setIfInBounds_toArray, List.set_cons_zero, List.set_cons_succ]
                  refine wpAnyH_take (i := 2) (v := ?va15) (by simp; rfl) (by kernel_rfl) (by kernel_rfl) (by kernel_rfl) (fun _ _ _ h => h) (Or.inl ⟨by rfl, ?ya15⟩) hHeld ?ra15
                  case ya15 => intro w hSw; clear hSw; go_simp; with_reducible rfl
                  simp only [Act.put, List.setIfInBounds_toArray, List.set_cons_zero, List.set_cons_succ]
                  refine wpAnyH_take (i := 3) (v := ?va16) (by simp; rfl) (by kernel_rfl) (by kernel_rfl) (by kernel_rfl) (fun _ _ _ h => h) (Or.inl ⟨by rfl, ?ya16⟩) hHeld ?ra16
                  case ya16 => intro w hSw; clear hSw; go_simp; with_reducible rfl
                  simp only [Act.put, List.setIfInBounds_toArray, List.set_cons_zero, List.set_cons_succ]
                  refine wpAnyH_take (i := 4) (v := ?va17) (by simp; rfl) (by kernel_rfl) (by kernel_rfl) (by kernel_rfl) (fun _ _ _ h => h) (Or.inl ⟨by rfl, ?ya17⟩) hHeld ?ra17
                  case ya17 => intro w hSw; obtain ⟨z1, z2, z3⟩ := hSw; go_simp; with_reducible rfl
                  simp only [Act.put, List.setIfInBounds_toArray, List.set_cons_zero, List.set_cons_succ]
                  refine wpAnyH_take (i := 5) (v := ?va18) (by simp; rfl) (by kernel_rfl) (by kernel_rfl) (by kernel_rfl) (fun _ _ _ h => h) (Or.inl ⟨by rfl, ?ya18⟩) hHeld ?ra18
                  case ya18 => intro w hSw; clear hSw; go_simp; with_reducible rfl
                  simp only [Act.put, List.setIfInBounds_toArray, List.set_cons_zero, List.set_cons_succ]
                  refine wpAnyH_take (i := 6) (v := ?va19) (by simp; rfl) (by kernel_rfl) (by kernel_rfl) (by kernel_rfl) (fun _ _ _ h => h) (Or.inl ⟨by rfl, ?ya19⟩) hHeld ?ra19
                  case ya19 => intro w hSw; clear hSw; go_simp; with_reducible rfl
                  simp only [Act.put, List.setIfInBounds_toArray, List.set_cons_zero, List.set_cons_succ]
                  refine wpAnyH_take (i := 7) (v := ?va20) (by simp; rfl) (by kernel_rfl) (by kernel_rfl) (by kernel_rfl) (fun _ _ _ h => h) (Or.inl ⟨by rfl, ?ya20⟩) hHeld ?ra20
                  case ya20 => intro w hSw; obtain ⟨z1, z2, z3⟩ := hSw; go_simp; with_reducible rfl
                  simp only [Act.put, List.setIfInBounds_toArray, List.set_cons_zero, List.set_cons_succ]
                  refine wpAnyH_take (i := 8) (v := ?va21) (by simp; rfl) (by kernel_rfl) (by kernel_rfl) (by kernel_rfl) (fun _ _ _ h => h) (Or.inl ⟨by rfl, ?ya21⟩) hHeld ?ra21
                  case ya21 => intro w hSw; clear hSw; go_simp; with_reducible rfl
                  simp only [Act.put, List.setIfInBounds_toArray, List.set_cons_zero, List.set_cons_succ]
                  refine wpAnyH_take (i := 9) (v := ?va22) (by simp; rfl) (by kernel_rfl) (by kernel_rfl) (by kernel_rfl) (fun _ _ _ h => h) (Or.inl ⟨by rfl, ?ya22⟩) hHeld ?ra22
                  case ya22 => intro w hSw; clear hSw; go_simp; with_reducible rfl
                  simp only [Act.put, List.setIfInBounds_toArray, List.set_cons_zero, List.set_cons_succ]
                  refine wpAnyH_take (i := 10) (v := ?va23) (by simp; rfl) (by kernel_rfl) (by kernel_rfl) (by kernel_rfl) (fun _ _ _ h => h) (Or.inl ⟨by rfl, ?ya23⟩) hHeld ?ra23
                  case ya23 => intro w hSw; clear hSw; go_simp; with_reducible rfl
                  simp only [Act.put, List.setIfInBounds_toArray, List.set_cons_zero, List.set_cons_succ]
                  refine wpAnyH_take (i := 11) (v := ?va24) (by simp; rfl) (by kernel_rfl) (by kernel_rfl) (by kernel_rfl) (fun _ _ _ h => h) (Or.inl ⟨by rfl, ?ya24⟩) hHeld ?ra24
                  case ya24 => intro w hSw; obtain ⟨z1, z2, z3⟩ := hSw; go_simp; with_reducible rfl
                  simp only [Act.put, List.setIfInBounds_toArray, List.set_cons_zero, List.set_cons_succ]
                  refine wpAnyH_take (i := 12) (v := ?va25) (by simp; rfl) (by kernel_rfl) (by kernel_rfl) (by kernel_rfl) (fun _ _ _ h => h) (Or.inl ⟨by rfl, ?ya25⟩) hHeld ?ra25
                  case ya25 => intro w hSw; clear hSw; go_simp; with_reducible rfl
                  simp only [Act.put, List.setIfInBounds_toArray, List.set_cons_zero, List.set_cons_succ]
                  refine wpAnyH_take (i := 13) (v := ?va26) (by simp; rfl) (by kernel_rfl) (by kernel_rfl) (by kernel_rfl) (fun _ _ _ h => h) (Or.inl ⟨by rfl, ?ya26⟩) hHeld ?ra26
                  case ya26 => intro w hSw; clear hSw; go_simp; with_reducible rfl
                  simp only [Act.put, List.setIfInBounds_toArray, List.set_cons_zero, List.set_cons_succ]
                  refine wpAnyH_take (i := 14) (v := ?va27) (by simp; rfl) (by kernel_rfl) (by kernel_rfl) (by kernel_rfl) (fun _ _ _ h => h) (Or.inl ⟨by rfl, ?ya27⟩) hHeld ?ra27
                  case ya27 => intro w hSw; clear hSw; go_simp; with_reducible rfl
                  simp only [Act.put, List.setIfInBounds_toArray, List.set_cons_zero, List.set_cons_succ]
                  refine wpAnyH_take (i := 15) (v := ?va28) (by simp; rfl) (by kernel_rfl) (by kernel_rfl) (by kernel_rfl) (fun _ _ _ h => h) (Or.inl ⟨by rfl, ?ya28⟩) hHeld ?ra28
                  case ya28 => intro w hSw; obtain ⟨z1, z2, z3⟩ := hSw; go_simp; with_reducible rfl
                  simp only [Act.put, List.setIfInBounds_toArray, List.set_cons_zero, List.set_cons_succ]
                  refine wpAnyH_take (i := 16) (v := ?va29) (by simp; rfl) (by kernel_rfl) (by kernel_rfl) (by kernel_rfl) (fun _ _ _ h => h) (Or.inl ⟨by rfl, ?ya29⟩) hHeld ?ra29
                  case ya29 => intro w hSw; clear hSw; go_simp; with_reducible rfl
                  simp only [Act.put, List.setIfInBounds_toArray, List.set_cons_zero, List.set_cons_succ]
                  refine wpAnyH_take (i := 17) (v := ?va30) (by simp; rfl) (by kernel_rfl) (by kernel_rfl) (by kernel_rfl) (fun _ _ _ h => h) (Or.inl ⟨by rfl, ?ya30⟩) hHeld ?ra30
                  case ya30 => intro w hSw; clear hSw; go_simp; with_reducible rfl
                  simp only [Act.put, List.setIfInBounds_toArray, List.set_cons_zero, List.set_cons_succ]
                  refine wpAnyH_ready (rs := [18]) (by kernel_rfl) (by simp) ?_
                  refine AllReadyH.cons (by simp; rfl) (fun Kc hKc => ?_) AllReadyH.nil
                  go_simp
                  have SA : (fun W : World => W.cell? ⟨gq, b, none⟩ = some (.slice (some ⟨qb, qo, none⟩) Lq cz) ∧ W.cell? ⟨qb, qo + (jj + 1), none⟩ = some (.int .u64 tx) ∧ W.cell? ⟨qb, qo + jj, none⟩ = some (.int .u64 ty)) (we.alloc (Obj.cells #[.int .u64 tx, .int .u64 ty, .int .i64 3, .int .i64 (b : Int)] 100)) := ⟨cell_far hHeld.1 (Kept.of_below (fun _ => False) (below_alloc we _)) (fun h => h), cell_far hHeld.2.1 (Kept.of_below (fun _ => False) (below_alloc we _)) (fun h => h), cell_far hHeld.2.2 (Kept.of_below (fun _ => False) (below_alloc we _)) (fun h => h)⟩
                  refine hKc.out _ _ SA (fun _ => ?_)
                  clear hHeld hKc Kc
                  have hHeld := SA
                  clear SA

                  refine wpAnyH_ready (rs := [19]) (by kernel_rfl) (by simp) ?_
                  refine AllReadyH.cons (by simp; rfl) (fun Kc hKc => ?_) AllReadyH.nil
                  have HOW : Hid ((we.alloc (Obj.cells #[.int .u64 tx, .int .u64 ty, .int .i64 3, .int .i64 (b : Int)] 100)).ownsRow w.heap.size 100 4 (Value.slice p (N + jj) c) (N + jj) (ecs (X ++ qE q b ++ (bhd 3 b (q b)).take jj))) := O.own_later HOE.out (below_alloc we _)
                  refine O.step_own_any (v := (Value.slice p (N + jj) c)) (u := .slice (some ⟨we.heap.size, 0, none⟩) 1 1) (n := (N + jj)) (m := 1) (base := w.heap.size) (base' := 0) rfl (.tmp 72) (.tmp 90) O.elR rfl rfl HOW.out rfl (O.own_one (base := 0) (e := 100) (size := 4) (cs := [.int .u64 tx, .int .u64 ty, .int .i64 3, .int .i64 (b : Int)]) we rfl (Nat.zero_le _)) (fun y hy => by simp at hy; rcases hy with rfl | rfl | rfl | rfl <;> rfl) (by omega) (by have := HSZ.out; simp; omega) ?_
                  intro v5 w5 ho5 hk5 hv5
                  obtain ⟨g5, c5, e5, -, -, -⟩ := O.own_some ho5 (by omega)
                  subst e5
                  have HO5 : Hid (w5.ownsRow w.heap.size 100 4 (.slice (some ⟨g5, 0, none⟩) ((N + jj) + 1) c5) ((N + jj) + 1) ((ecs (X ++ qE q b ++ (bhd 3 b (q b)).take jj)) ++ [.int .u64 tx, .int .u64 ty, .int .i64 3, .int .i64 (b : Int)])) := ho5
                  have HK5 : Hid (Kept (fun z => (Value.slice p (N + jj) c).ownBlock = some z) we w5) := (Kept.of_below _ (below_alloc we _)).trans hk5 fun _ _ h => h
                  have HV5 : Hid ((Value.slice p (N + jj) c).ownBlock = some g5 ∨ we.heap.size ≤ g5) := by
                    rcases hv5 with e | e
                    · exact .inl e.symm
                    · right
                      simp only [World.size_alloc, Value.ownBlock, Option.some.injEq] at e
                      omega
                  clear ho5 hk5 hv5 HOW
                  have SA : (fun W : World => W.cell? ⟨gq, b, none⟩ = some (.slice (some ⟨qb, qo, none⟩) Lq cz) ∧ W.cell? ⟨qb, qo + (jj + 1), none⟩ = some (.int .u64 tx) ∧ W.cell? ⟨qb, qo + jj, none⟩ = some (.int .u64 ty)) w5 := ⟨(cell_low HC0.out.1 (below_of HK5.out HOE.out) hlow1), (cell_low HC0.out.2.1 (below_of HK5.out HOE.out) hlow2), (cell_low HC0.out.2.2 (below_of HK5.out HOE.out) hlow2)⟩
                  refine hKc.out _ _ SA (fun _ => ?_)
                  clear hHeld hKc Kc
                  have hHeld := SA
                  clear SA
                  try simp only [Act.put, List.setIfInBounds_toArray, List.set_cons_zero, List.set_cons_succ]

                  refine wpAnyH_take (i := 20) (v := ?va31) (by simp; rfl) (by kernel_rfl) (by kernel_rfl) (by kernel_rfl) (fun _ _ _ h => h) (Or.inl ⟨by rfl, ?ya31⟩) hHeld ?ra31
                  case ya31 => intro w hSw; clear hSw; go_simp; with_reducible rfl
                  simp only [Act.put, List.setIfInBounds_toArray, List.set_cons_zero, List.set_cons_succ]
                  refine wpAnyH_done (by kernel_rfl) (NoPanic.normal ?_) _
                  clear hHeld
                  have HB6 : Hid (RowKit.Below w.heap.size w w5) := HK5.out.into HBE.out (fun z hz e => by have := (HOE.out.lt z e).1; omega) (Nat.le_refl _)
                  clear hj1 hwj hp1 hp2 hp3 hp4 HC0 HOE HSZ HBE HK5 HV5
                  go_wp2_with fail
                  go_roundw
                  case rel =>
                    refine ⟨jj + 1, some ⟨g5, 0, none⟩, c5, rfl, by go_num, by rw [HLQ.out]; omega, ?_, HB6⟩
                    rw [HTA.out]
                    exact HO5
                  case measure => rw [HLQ.out]; simp [intV]; omega
                · have HE1 : Hid (_ = _) := HTE.out jj hjl
                  rw [HE1.out] at HO
                  obtain ⟨N6, hN6⟩ : ∃ N6, N + jj = N6 := ⟨_, rfl⟩
                  have hN7 : N6 ≤ 200 + (b + 1) * 100 := by omega
                  rw [hN6] at HO ⊢
                  clear hN6 HTB HTE
                  go_wp2_with fail
                  go_roundw
                  case rel => exact ⟨b + 1, N6, p, c, rfl, by go_num, by omega, hN7, HO, HB⟩
                  case measure => simp [intV]; omega
            · obtain rfl : b = nb := by omega
              rw [HX.out] at HO
              go_wp2_with fail
              go_ret
              exact ⟨p, N, c, rfl, HO.out, HB.out⟩

        | false =>
          have HX0 : Hid (X0 ++ rmE (Wt.getD 0 0) It ++ qE q nb = ofS Wt false It q nb) := by
            show _ = _
            unfold ofS
            rw [if_pos ⟨by have := HLL.out; omega, rfl⟩, eX0]
          clear HF eX0
          go_wp2_with fail
          go_loopw [9, 11] (fun v9 v W => ∃ (i : Nat) (p : Option Addr) (c : Nat), v9 = .slice p (j + i) c ∧ v = .int .i64 (i : Int) ∧ i ≤ Li ∧ Hid (W.ownsRow w.heap.size 100 4 (.slice p (j + i) c) (j + i) (ecs (X0 ++ (rmE (Wt.getD 0 0) It).take i))) ∧ Hid (RowKit.Below w.heap.size w W)) (fun v9 v _ => Li - (intV v).toNat)
          case atStart => exact ⟨0, p', c', rfl, rfl, by omega, by simpa using HOj, HBj⟩
          case round =>
            clear HOj HBj
            obtain ⟨i, p, c, rfl, rfl, hi, HO, HB⟩ := hrel
            by_cases hil : i < Li
            · obtain ⟨lb, lo, el, hcl⟩ := (HL.out wr HB.out).cells (by omega)
              obtain ⟨ib, io, ei, hci⟩ := (HI.out wr HB.out).cells (by omega)
              have hlow1 : lb < w.heap.size := by
                have hu0 := HL.out w (RowKit.Below.refl _ _)
                rw [el] at hu0
                exact hu0.lt (by omega)
              have hlow2 : ib < w.heap.size := by
                have hu0 := HI.out w (RowKit.Below.refl _ _)
                rw [ei] at hu0
                exact hu0.lt (by omega)
              subst el ei
              have hc1 : wr.drew.cell? ⟨lb, lo, none⟩ = some (.int .u64 (Wt.getD 0 0)) := by
                have := hcl 0 hp
                rw [Nat.add_zero] at this
                exact this
              have hc0 : wr.drew.cell? ⟨ib, io + i, none⟩ = some (.int .u64 (It.getD i 0)) := hci i hil
              have HTA : Hid (ecs (X0 ++ (rmE (Wt.getD 0 0) It).take (i + 1)) = ecs (X0 ++ (rmE (Wt.getD 0 0) It).take i) ++ [.int .u64 (Wt.getD 0 0), .int .u64 (It.getD i 0), .int .i64 2, .int .i64 (-1)]) := by
                have hj' : i < It.length := by have := HIL.out; omega
                have e1 : (rmE (Wt.getD 0 0) It)[i]? = some ⟨Wt.getD 0 0, It.getD i 0, 2, -1⟩ := by
                  simp [rmE, List.getD, List.getElem?_eq_getElem hj']
                show _ = _
                rw [List.take_add_one, e1, ← List.append_assoc]
                exact ecs_snoc _ _
              have HOE : Hid (wr.drew.ownsRow w.heap.size 100 4 (.slice p (j + i) c) (j + i) (ecs (X0 ++ (rmE (Wt.getD 0 0) It).take i))) := O.own_later HO.out (below_dr _ _ 1)
              have HBE : Hid (RowKit.Below w.heap.size w wr.drew) := HB.out.trans (below_dr _ _ 1)
              have HSZ : Hid (w.heap.size ≤ wr.drew.heap.size) := HBE.out.size
              clear hcl hci HO HB
              generalize Wt.getD 0 0 = tx at *
              generalize It.getD i 0 = ty at *
              go_wp2_with fail
              refine wp_region_noPanic ?_
              refine wp_region_held_drew (S := (fun W : World => W.cell? ⟨lb, lo, none⟩ = some (.int .u64 tx) ∧ W.cell? ⟨ib, io + i, none⟩ = some (.int .u64 ty))) (by kernel_rfl) ⟨hc1, hc0⟩ (fun hHeld => ?_)
              clear hc0 hc1
              generalize wr.drew = we at *
              have HC0 : Hid (we.cell? ⟨lb, lo, none⟩ = some (.int .u64 tx) ∧ we.cell? ⟨ib, io + i, none⟩ = some (.int .u64 ty)) := hHeld
              have hp1 : (0 : Int) < (Lw : Int) := by omega
              have hp2 : (i : Int) < (Li : Int) := by omega
              refine wpAnyH_take (i := 0) (v := ?va32) (by simp; rfl) (by kernel_rfl) (by kernel_rfl) (by kernel_rfl) (fun _ _ _ h => h) (Or.inl ⟨by rfl, ?ya32⟩) hHeld ?ra32
              case ya32 => intro w hSw; clear hSw; go_simp; with_reducible rfl
              simp only [Act.put, List.setIfInBounds_toArray, List.set_cons_zero, List.set_cons_succ]
              refine wpAnyH_take (i := 1) (v := ?va33) (by simp; rfl) (by kernel_rfl) (by kernel_rfl) (by kernel_rfl) (fun _ _ _ h => h) (Or.inl ⟨by rfl, ?ya33⟩) hHeld ?ra33
              case ya33 => intro w hSw; clear hSw; go_simp; with_reducible rfl
              simp only [Act.put, List.setIfInBounds_toArray, List.set_cons_zero, List.set_cons_succ]
              refine wpAnyH_take (i := 2) (v := ?va34) (by simp; rfl) (by kernel_rfl) (by kernel_rfl) (by kernel_rfl) (fun _ _ _ h => h) (Or.inl ⟨by rfl, ?ya34⟩) hHeld ?ra34
              case ya34 => intro w hSw; clear hSw; go_simp; with_reducible rfl
              simp only [Act.put, List.setIfInBounds_toArray, List.set_cons_zero, List.set_cons_succ]
              refine wpAnyH_take (i := 3) (v := ?va35) (by simp; rfl) (by kernel_rfl) (by kernel_rfl) (by kernel_rfl) (fun _ _ _ h => h) (Or.inl ⟨by rfl, ?ya35⟩) hHeld ?ra35
              case ya35 => intro w hSw; obtain ⟨z1, z2⟩ := hSw; go_simp; with_reducible rfl
              simp only [Act.put, List.setIfInBounds_toArray, List.set_cons_zero, List.set_cons_succ]
              refine wpAnyH_take (i := 4) (v := ?va36) (by simp; rfl) (by kernel_rfl) (by kernel_rfl) (by kernel_rfl) (fun _ _ _ h => h) (Or.inl ⟨by rfl, ?ya36⟩) hHeld ?ra36
              case ya36 => intro w hSw; clear hSw; go_simp; with_reducible rfl
              simp only [Act.put, List.setIfInBounds_toArray, List.set_cons_zero, List.set_cons_succ]
              refine wpAnyH_take (i := 5) (v := ?va37) (by simp; rfl) (by kernel_rfl) (by kernel_rfl) (by kernel_rfl) (fun _ _ _ h => h) (Or.inl ⟨by rfl, ?ya37⟩) hHeld ?ra37
              case ya37 => intro w hSw; clear hSw; go_simp; with_reducible rfl
              simp only [Act.put, List.setIfInBounds_toArray, List.set_cons_zero, List.set_cons_succ]
              refine wpAnyH_take (i := 6) (v := ?va38) (by simp; rfl) (by kernel_rfl) (by kernel_rfl) (by kernel_rfl) (fun _ _ _ h => h) (Or.inl ⟨by rfl, ?ya38⟩) hHeld ?ra38
              case ya38 => intro w hSw; clear hSw; go_simp; with_reducible rfl
              simp only [Act.put, List.setIfInBounds_toArray, List.set_cons_zero, List.set_cons_succ]
              refine wpAnyH_take (i := 7) (v := ?va39) (by simp; rfl) (by kernel_rfl) (by kernel_rfl) (by kernel_rfl) (fun _ _ _ h => h) (Or.inl ⟨by rfl, ?ya39⟩) hHeld ?ra39
              case ya39 => intro w hSw; obtain ⟨z1, z2⟩ := hSw; go_simp; with_reducible rfl
              simp only [Act.put, List.setIfInBounds_toArray, List.set_cons_zero, List.set_cons_succ]
              refine wpAnyH_take (i := 8) (v := ?va40) (by simp; rfl) (by kernel_rfl) (by kernel_rfl) (by kernel_rfl) (fun _ _ _ h => h) (Or.inl ⟨by rfl, ?ya40⟩) hHeld ?ra40
              case ya40 => intro w hSw; clear hSw; go_simp; with_reducible rfl
              simp only [Act.put, List.setIfInBounds_toArray, List.set_cons_zero, List.set_cons_succ]
              refine wpAnyH_ready (rs := [9]) (by kernel_rfl) (by simp) ?_
              refine AllReadyH.cons (by simp; rfl) (fun Kc hKc => ?_) AllReadyH.nil
              go_simp
              have SA : (fun W : World => W.cell? ⟨lb, lo, none⟩ = some (.int .u64 tx) ∧ W.cell? ⟨ib, io + i, none⟩ = some (.int .u64 ty)) (we.alloc (Obj.cells #[.int .u64 tx, .int .u64 ty, .int .i64 2, .int .i64 (-1)] 100)) := ⟨cell_far hHeld.1 (Kept.of_below (fun _ => False) (below_alloc we _)) (fun h => h), cell_far hHeld.2 (Kept.of_below (fun _ => False) (below_alloc we _)) (fun h => h)⟩
              refine hKc.out _ _ SA (fun _ => ?_)
              clear hHeld hKc Kc
              have hHeld := SA
              clear SA

              refine wpAnyH_ready (rs := [10]) (by kernel_rfl) (by simp) ?_
              refine AllReadyH.cons (by simp; rfl) (fun Kc hKc => ?_) AllReadyH.nil
              have HOW : Hid ((we.alloc (Obj.cells #[.int .u64 tx, .int .u64 ty, .int .i64 2, .int .i64 (-1)] 100)).ownsRow w.heap.size 100 4 (Value.slice p (j + i) c) (j + i) (ecs (X0 ++ (rmE tx It).take i))) := O.own_later HOE.out (below_alloc we _)
              refine O.step_own_any (v := (Value.slice p (j + i) c)) (u := .slice (some ⟨we.heap.size, 0, none⟩) 1 1) (n := (j + i)) (m := 1) (base := w.heap.size) (base' := 0) rfl (.tmp 46) (.tmp 55) O.elR rfl rfl HOW.out rfl (O.own_one (base := 0) (e := 100) (size := 4) (cs := [.int .u64 tx, .int .u64 ty, .int .i64 2, .int .i64 (-1)]) we rfl (Nat.zero_le _)) (fun y hy => by simp at hy; rcases hy with rfl | rfl | rfl | rfl <;> rfl) (by omega) (by have := HSZ.out; simp; omega) ?_
              intro v5 w5 ho5 hk5 hv5
              obtain ⟨g5, c5, e5, -, -, -⟩ := O.own_some ho5 (by omega)
              subst e5
              have HO5 : Hid (w5.ownsRow w.heap.size 100 4 (.slice (some ⟨g5, 0, none⟩) ((j + i) + 1) c5) ((j + i) + 1) ((ecs (X0 ++ (rmE tx It).take i)) ++ [.int .u64 tx, .int .u64 ty, .int .i64 2, .int .i64 (-1)])) := ho5
              have HK5 : Hid (Kept (fun z => (Value.slice p (j + i) c).ownBlock = some z) we w5) := (Kept.of_below _ (below_alloc we _)).trans hk5 fun _ _ h => h
              have HV5 : Hid ((Value.slice p (j + i) c).ownBlock = some g5 ∨ we.heap.size ≤ g5) := by
                rcases hv5 with e | e
                · exact .inl e.symm
                · right
                  simp only [World.size_alloc, Value.ownBlock, Option.some.injEq] at e
                  omega
              clear ho5 hk5 hv5 HOW
              have SA : (fun W : World => W.cell? ⟨lb, lo, none⟩ = some (.int .u64 tx) ∧ W.cell? ⟨ib, io + i, none⟩ = some (.int .u64 ty)) w5 := ⟨(cell_low HC0.out.1 (below_of HK5.out HOE.out) hlow1), (cell_low HC0.out.2 (below_of HK5.out HOE.out) hlow2)⟩
              refine hKc.out _ _ SA (fun _ => ?_)
              clear hHeld hKc Kc
              have hHeld := SA
              clear SA
              try simp only [Act.put, List.setIfInBounds_toArray, List.set_cons_zero, List.set_cons_succ]

              refine wpAnyH_take (i := 11) (v := ?va41) (by simp; rfl) (by kernel_rfl) (by kernel_rfl) (by kernel_rfl) (fun _ _ _ h => h) (Or.inl ⟨by rfl, ?ya41⟩) hHeld ?ra41
              case ya41 => intro w hSw; clear hSw; go_simp; with_reducible rfl
              simp only [Act.put, List.setIfInBounds_toArray, List.set_cons_zero, List.set_cons_succ]
              refine wpAnyH_done (by kernel_rfl) (NoPanic.normal ?_) _
              clear hHeld

              have HB6 : Hid (RowKit.Below w.heap.size w w5) := HK5.out.into HBE.out (fun b hb e => by have := (HOE.out.lt b e).1; omega) (Nat.le_refl _)
              clear hp1 hp2 HC0 HOE HSZ HBE HK5 HV5
              go_wp2_with fail
              go_roundw
              case rel =>
                refine ⟨i + 1, some ⟨g5, 0, none⟩, c5, rfl, by go_num, by omega, ?_, HB6⟩
                rw [HTA.out]
                exact HO5
              case measure => simp [intV]; omega
            · obtain rfl : i = Li := by omega
              have HF : Hid ((rmE (Wt.getD 0 0) It).take i = rmE (Wt.getD 0 0) It) := by
                show _ = _
                rw [List.take_of_length_le]
                simp only [rmE, List.length_map]; rw [HIL.out]; exact Nat.le_refl _
              rw [HF.out] at HO
              obtain ⟨X, eX⟩ : ∃ X, X0 ++ rmE (Wt.getD 0 0) It = X := ⟨_, rfl⟩
              rw [eX] at HO HX0
              have HX := HX0
              have HOX := HO
              have HBX := HB
              obtain ⟨px, cx, Nx, e1, e2, e3⟩ : ∃ px cx Nx, px = p ∧ cx = c ∧ Nx = j + i := ⟨_, _, _, rfl, rfl, rfl⟩
              rw [← e3] at HOX ⊢
              have hNx : Nx ≤ 200 := by omega
              subst e1 e2
              clear e3 HO HB HF eX HX0
              go_wp2_with fail
              go_loopw [9, 12] (fun v9 v W => ∃ (b N : Nat) (p : Option Addr) (c : Nat), v9 = .slice p N c ∧ v = .int .i64 (b : Int) ∧ b ≤ nb ∧ N ≤ 200 + b * 100 ∧ Hid (W.ownsRow w.heap.size 100 4 (.slice p N c) N (ecs (X ++ qE q b))) ∧ Hid (RowKit.Below w.heap.size w W)) (fun v9 v _ => nb - (intV v).toNat)
              case atStart => exact ⟨0, Nx, px, cx, rfl, rfl, by omega, by omega, by simpa [qE] using HOX, HBX⟩
              case round =>
                clear HOX HBX
                obtain ⟨b, N, p, c, rfl, rfl, hb, hN, HO, HB⟩ := hrel
                by_cases hbn : b < nb
                · obtain ⟨gq, eqq, hqin⟩ := HQ.out wr HB.out (by omega)
                  have hgw : gq < w.heap.size := HQB.out gq eqq (by omega)
                  subst eqq
                  have hLq := HQL.out b
                  have HQA : Hid (∀ W, RowKit.Below w.heap.size w W → ∃ pz cz, W.cell? ⟨gq, b, none⟩ = some (.slice pz (q b).length cz) ∧ UIn W pz (q b).length (q b)) := fun W hW => by
                    obtain ⟨g', e', h1⟩ := HQ.out W hW (by omega)
                    cases e'
                    exact h1 b hbn
                  obtain ⟨pz, cz, hcz, -⟩ := HQA.out w (RowKit.Below.refl _ _)
                  have HQC : Hid (∀ W, RowKit.Below w.heap.size w W → W.cell? ⟨gq, b, none⟩ = some (.slice pz (q b).length cz) ∧ UIn W pz (q b).length (q b)) := fun W hW => by
                    obtain ⟨pz', cz', h1, h2⟩ := HQA.out W hW
                    have h3 := (hW.cell (p := ⟨gq, b, none⟩) (cell_lt hcz)).trans hcz
                    rw [h1] at h3
                    simp only [Option.some.injEq, Value.slice.injEq, true_and] at h3
                    obtain ⟨rfl, rfl⟩ := h3
                    exact ⟨h1, h2⟩
                  have HTB : Hid (∀ jj, jj + 1 < (q b).length → ecs (X ++ qE q b ++ (bhd 3 b (q b)).take (jj + 1)) = ecs (X ++ qE q b ++ (bhd 3 b (q b)).take jj) ++ [.int .u64 ((q b).getD (jj + 1) 0), .int .u64 ((q b).getD jj 0), .int .i64 3, .int .i64 (b : Int)]) := fun jj hjj => by
                    rw [bhd_take 3 b (q b) hjj, ← List.append_assoc, ecs_snoc]
                  have HTE : Hid (∀ jj, ¬ jj + 1 < (q b).length → X ++ qE q b ++ (bhd 3 b (q b)).take jj = X ++ qE q (b + 1)) := fun jj hjj => by
                    rw [List.take_of_length_le (by rw [bhd_len]; omega), List.append_assoc, ← qE_succ]
                  have HO0 : Hid (wr.ownsRow w.heap.size 100 4 (.slice p N c) N (ecs (X ++ qE q b ++ (bhd 3 b (q b)).take 0))) := by
                    have := HO.out
                    rw [List.take_zero, List.append_nil]
                    exact this
                  clear hqin HQA hcz HO
                  go_wp2_with fail
                  go_loopw [9, 13] (fun v9 v W => ∃ (jj : Nat) (p : Option Addr) (c : Nat), v9 = .slice p (N + jj) c ∧ v = .int .i64 ((jj : Int) + 1) ∧ jj ≤ (q b).length - 1 ∧ Hid (W.ownsRow w.heap.size 100 4 (.slice p (N + jj) c) (N + jj) (ecs (X ++ qE q b ++ (bhd 3 b (q b)).take jj))) ∧ Hid (RowKit.Below w.heap.size w W)) (fun v9 v _ => (q b).length - (intV v).toNat)
                  case atStart => exact ⟨0, p, c, rfl, rfl, by omega, HO0, HB⟩
                  case round =>
                    clear HO0 HB
                    obtain ⟨jj, p, c, rfl, rfl, hjj, HO, HB⟩ := hrel
                    obtain ⟨hcz, huz⟩ := HQC.out wr HB.out
                    by_cases hjl : jj + 1 < (q b).length
                    · obtain ⟨qb, qo, eq, hcs⟩ := huz.cells (by omega)
                      have hqw : qb < w.heap.size := by
                        have hu0 := (HQC.out w (RowKit.Below.refl _ _)).2
                        rw [eq] at hu0
                        exact hu0.lt (by omega)
                      subst eq
                      have hc1 : wr.drew.cell? ⟨qb, qo + (jj + 1), none⟩ = some (.int .u64 ((q b).getD (jj + 1) 0)) := hcs (jj + 1) (by omega)
                      have hc0 : wr.drew.cell? ⟨qb, qo + jj, none⟩ = some (.int .u64 ((q b).getD jj 0)) := hcs jj (by omega)
                      have hcd : wr.drew.cell? ⟨gq, b, none⟩ = some (.slice (some ⟨qb, qo, none⟩) (q b).length cz) := hcz
                      have HTA : Hid (_ = _) := HTB.out jj hjl
                      have HOE : Hid (wr.drew.ownsRow w.heap.size 100 4 (.slice p (N + jj) c) (N + jj) (ecs (X ++ qE q b ++ (bhd 3 b (q b)).take jj))) := O.own_later HO.out (below_dr _ _ 1)
                      have HBE : Hid (RowKit.Below w.heap.size w wr.drew) := HB.out.trans (below_dr _ _ 1)
                      have HSZ : Hid (w.heap.size ≤ wr.drew.heap.size) := HBE.out.size
                      have hlow1 : gq < w.heap.size := hgw
                      have hlow2 : qb < w.heap.size := hqw
                      clear hcs HO HB hqw
                      generalize (q b).getD (jj + 1) 0 = tx at *
                      generalize (q b).getD jj 0 = ty at *
                      obtain ⟨Lq, eLq⟩ : ∃ Lq, (q b).length = Lq := ⟨_, rfl⟩
                      have HLQ : Hid ((q b).length = Lq) := eLq
                      rw [eLq] at hcz hcd hjl hLq hjj
                      clear eLq
                      go_wp2_with fail
                      clear hcz
                      refine wp_region_noPanic ?_
                      refine wp_region_held_drew (S := (fun W : World => W.cell? ⟨gq, b, none⟩ = some (.slice (some ⟨qb, qo, none⟩) Lq cz) ∧ W.cell? ⟨qb, qo + (jj + 1), none⟩ = some (.int .u64 tx) ∧ W.cell? ⟨qb, qo + jj, none⟩ = some (.int .u64 ty))) (by kernel_rfl) ⟨hcd, hc1, hc0⟩ (fun hHeld => ?_)
                      clear hc0 hc1 hcd
                      generalize wr.drew = we at *
                      have HC0 : Hid (we.cell? ⟨gq, b, none⟩ = some (.slice (some ⟨qb, qo, none⟩) Lq cz) ∧ we.cell? ⟨qb, qo + (jj + 1), none⟩ = some (.int .u64 tx) ∧ we.cell? ⟨qb, qo + jj, none⟩ = some (.int .u64 ty)) := hHeld
                      have hj1 : (jj : Int) + 1 - 1 = (jj : Int) := by omega
                      have hp1 : 0 ≤ (jj : Int) + 1 := by omega
                      have hp2 : (jj : Int) < (Lq : Int) := by omega
                      have hp3 : (jj : Int) + 1 < (Lq : Int) := by omega
                      have hp4 : (b : Int) < (nb : Int) := by omega
                      have hwj : IntKind.i64.wrap (jj : Int) = (jj : Int) := wrap_small (by omega) (by omega)
                      refine wpAnyH_take (i := 0) (v := ?va42) (by simp; rfl) (by kernel_rfl) (by kernel_rfl) (by kernel_rfl) (fun _ _ _ h => h) (Or.inl ⟨by rfl, ?ya42⟩) hHeld ?ra42
                      case ya42 => intro w hSw; clear hSw; go_simp; with_reducible rfl
                      simp only [Act.put, List.setIfInBounds_toArray, List.set_cons_zero, List.set_cons_succ]
                      refine wpAnyH_take (i := 1) (v := ?va43) (by simp; rfl) (by kernel_rfl) (by kernel_rfl) (by kernel_rfl) (fun _ _ _ h => h) (Or.inl ⟨by rfl, ?ya43⟩) hHeld ?ra43
                      case ya43 => intro w hSw; clear hSw; go_simp; with_reducible rfl
                      simp only [Act.put, List.setIfInBounds_toArray, List.set_cons_zero, List.set_cons_succ]
                      refine wpAnyH_take (i := 2) (v := ?va44) (by simp; rfl) (by kernel_rfl) (by kernel_rfl) (by kernel_rfl) (fun _ _ _ h => h) (Or.inl ⟨by rfl, ?ya44⟩) hHeld ?ra44
                      case ya44 => intro w hSw; clear hSw; go_simp; with_reducible rfl
                      simp only [Act.put, List.setIfInBounds_toArray, List.set_cons_zero, List.set_cons_succ]
                      refine wpAnyH_take (i := 3) (v := ?va45) (by simp; rfl) (by kernel_rfl) (by kernel_rfl) (by kernel_rfl) (fun _ _ _ h => h) (Or.inl ⟨by rfl, ?ya45⟩) hHeld ?ra45
                      case ya45 => intro w hSw; clear hSw; go_simp; with_reducible rfl
                      simp only [Act.put, List.setIfInBounds_toArray, List.set_cons_zero, List.set_cons_succ]
                      refine wpAnyH_take (i := 4) (v := ?va46) (by simp; rfl) (by kernel_rfl) (by kernel_rfl) (by kernel_rfl) (fun _ _ _ h => h) (Or.inl ⟨by rfl, ?ya46⟩) hHeld ?ra46
                      case ya46 => intro w hSw; obtain ⟨z1, z2, z3⟩ := hSw; go_simp; with_reducible rfl
                      simp only [Act.put, List.setIfInBounds_toArray, List.set_cons_zero, List.set_cons_succ]
                      refine wpAnyH_take (i := 5) (v := ?va47) (by simp; rfl) (by kernel_rfl) (by kernel_rfl) (by kernel_rfl) (fun _ _ _ h => h) (Or.inl ⟨by rfl, ?ya47⟩) hHeld ?ra47
                      case ya47 => intro w hSw; clear hSw; go_simp; with_reducible rfl
                      simp only [Act.put, List.setIfInBounds_toArray, List.set_cons_zero, List.set_cons_succ]
                      refine wpAnyH_take (i := 6) (v := ?va48) (by simp; rfl) (by kernel_rfl) (by kernel_rfl) (by kernel_rfl) (fun _ _ _ h => h) (Or.inl ⟨by rfl, ?ya48⟩) hHeld ?ra48
                      case ya48 => intro w hSw; clear hSw; go_simp; with_reducible rfl
                      simp only [Act.put, List.setIfInBounds_toArray, List.set_cons_zero, List.set_cons_succ]
                      refine wpAnyH_take (i := 7) (v := ?va49) (by simp; rfl) (by kernel_rfl) (by kernel_rfl) (by kernel_rfl) (fun _ _ _ h => h) (Or.inl ⟨by rfl, ?ya49⟩) hHeld ?ra49
                      case ya49 => intro w hSw; obtain ⟨z1, z2, z3⟩ := hSw; go_simp; with_reducible rfl
                      simp only [Act.put, List.setIfInBounds_toArray, List.set_cons_zero, List.set_cons_succ]
                      refine wpAnyH_take (i := 8) (v := ?va50) (by simp; rfl) (by kernel_rfl) (by kernel_rfl) (by kernel_rfl) (fun _ _ _ h => h) (Or.inl ⟨by rfl, ?ya50⟩) hHeld ?ra50
                      case ya50 => intro w hSw; clear hSw; go_simp; with_reducible rfl
                      simp only [Act.put, List.setIfInBounds_toArray, List.set_cons_zero, List.set_cons_succ]
                      refine wpAnyH_take (i := 9) (v := ?va51) (by simp; rfl) (by kernel_rfl) (by kernel_rfl) (by kernel_rfl) (fun _ _ _ h => h) (Or.inl ⟨by rfl, ?ya51⟩) hHeld ?ra51
                      case ya51 => intro w hSw; clear hSw; go_simp; with_reducible rfl
                      simp only [Act.put, List.setIfInBounds_toArray, List.set_cons_zero, List.set_cons_succ]
                      refine wpAnyH_take (i := 10) (v := ?va52) (by simp; rfl) (by kernel_rfl) (by kernel_rfl) (by kernel_rfl) (fun _ _ _ h => h) (Or.inl ⟨by rfl, ?ya52⟩) hHeld ?ra52
                      case ya52 => intro w hSw; clear hSw; go_simp; with_reducible rfl
                      simp only [Act.put, List.setIfInBounds_toArray, List.set_cons_zero, List.set_cons_succ]
                      refine wpAnyH_take (i := 11) (v := ?va53) (by simp; rfl) (by kernel_rfl) (by kernel_rfl) (by kernel_rfl) (fun _ _ _ h => h) (Or.inl ⟨by rfl, ?ya53⟩) hHeld ?ra53
                      case ya53 => intro w hSw; obtain ⟨z1, z2, z3⟩ := hSw; go_simp; with_reducible rfl
                      simp only [Act.put, List.setIfInBounds_toArray, List.set_cons_zero, List.set_cons_succ]
                      refine wpAnyH_take (i := 12) (v := ?va54) (by simp; rfl) (by kernel_rfl) (by kernel_rfl) (by kernel_rfl) (fun _ _ _ h => h) (Or.inl ⟨by rfl, ?ya54⟩) hHeld ?ra54
                      case ya54 => intro w hSw; clear hSw; go_simp; with_reducible rfl
                      simp only [Act.put, List.setIfInBounds_toArray, List.set_cons_zero, List.set_cons_succ]
                      refine wpAnyH_take (i := 13) (v := ?va55) (by simp; rfl) (by kernel_rfl) (by kernel_rfl) (by kernel_rfl) (fun _ _ _ h => h) (Or.inl ⟨by rfl, ?ya55⟩) hHeld ?ra55
                      case ya55 => intro w hSw; clear hSw; go_simp; with_reducible rfl
                      simp only [Act.put, List.setIfInBounds_toArray, List.set_cons_zero, List.set_cons_succ]
                      refine wpAnyH_take (i := 14) (v := ?va56) (by simp; rfl) (by kernel_rfl) (by kernel_rfl) (by kernel_rfl) (fun _ _ _ h => h) (Or.inl ⟨by rfl, ?ya56⟩) hHeld ?ra56
                      case ya56 => intro w hSw; clear hSw; go_simp; with_reducible rfl
                      simp only [Act.put, List.setIfInBounds_toArray, List.set_cons_zero, List.set_cons_succ]
                      refine wpAnyH_take (i := 15) (v := ?va57) (by simp; rfl) (by kernel_rfl) (by kernel_rfl) (by kernel_rfl) (fun _ _ _ h => h) (Or.inl ⟨by rfl, ?ya57⟩) hHeld ?ra57
                      case ya57 => intro w hSw; obtain ⟨z1, z2, z3⟩ := hSw; go_simp; with_reducible rfl
                      simp only [Act.put, List.setIfInBounds_toArray, List.set_cons_zero, List.set_cons_succ]
                      refine wpAnyH_take (i := 16) (v := ?va58) (by simp; rfl) (by kernel_rfl) (by kernel_rfl) (by kernel_rfl) (fun _ _ _ h => h) (Or.inl ⟨by rfl, ?ya58⟩) hHeld ?ra58
                      case ya58 => intro w hSw; clear hSw; go_simp; with_reducible rfl
                      simp only [Act.put, List.setIfInBounds_toArray, List.set_cons_zero, List.set_cons_succ]
                      refine wpAnyH_take (i := 17) (v := ?va59) (by simp; rfl) (by kernel_rfl) (by kernel_rfl) (by kernel_rfl) (fun _ _ _ h => h) (Or.inl ⟨by rfl, ?ya59⟩) hHeld ?ra59
                      case ya59 => intro w hSw; clear hSw; go_simp; with_reducible rfl
                      simp only [Act.put, List.setIfInBounds_toArray, List.set_cons_zero, List.set_cons_succ]
                      refine wpAnyH_ready (rs := [18]) (by kernel_rfl) (by simp) ?_
                      refine AllReadyH.cons (by simp; rfl) (fun Kc hKc => ?_) AllReadyH.nil
                      go_simp
                      have SA : (fun W : World => W.cell? ⟨gq, b, none⟩ = some (.slice (some ⟨qb, qo, none⟩) Lq cz) ∧ W.cell? ⟨qb, qo + (jj + 1), none⟩ = some (.int .u64 tx) ∧ W.cell? ⟨qb, qo + jj, none⟩ = some (.int .u64 ty)) (we.alloc (Obj.cells #[.int .u64 tx, .int .u64 ty, .int .i64 3, .int .i64 (b : Int)] 100)) := ⟨cell_far hHeld.1 (Kept.of_below (fun _ => False) (below_alloc we _)) (fun h => h), cell_far hHeld.2.1 (Kept.of_below (fun _ => False) (below_alloc we _)) (fun h => h), cell_far hHeld.2.2 (Kept.of_below (fun _ => False) (below_alloc we _)) (fun h => h)⟩
                      refine hKc.out _ _ SA (fun _ => ?_)
                      clear hHeld hKc Kc
                      have hHeld := SA
                      clear SA

                      refine wpAnyH_ready (rs := [19]) (by kernel_rfl) (by simp) ?_
                      refine AllReadyH.cons (by simp; rfl) (fun Kc hKc => ?_) AllReadyH.nil
                      have HOW : Hid ((we.alloc (Obj.cells #[.int .u64 tx, .int .u64 ty, .int .i64 3, .int .i64 (b : Int)] 100)).ownsRow w.heap.size 100 4 (Value.slice p (N + jj) c) (N + jj) (ecs (X ++ qE q b ++ (bhd 3 b (q b)).take jj))) := O.own_later HOE.out (below_alloc we _)
                      refine O.step_own_any (v := (Value.slice p (N + jj) c)) (u := .slice (some ⟨we.heap.size, 0, none⟩) 1 1) (n := (N + jj)) (m := 1) (base := w.heap.size) (base' := 0) rfl (.tmp 72) (.tmp 90) O.elR rfl rfl HOW.out rfl (O.own_one (base := 0) (e := 100) (size := 4) (cs := [.int .u64 tx, .int .u64 ty, .int .i64 3, .int .i64 (b : Int)]) we rfl (Nat.zero_le _)) (fun y hy => by simp at hy; rcases hy with rfl | rfl | rfl | rfl <;> rfl) (by omega) (by have := HSZ.out; simp; omega) ?_
                      intro v5 w5 ho5 hk5 hv5
                      obtain ⟨g5, c5, e5, -, -, -⟩ := O.own_some ho5 (by omega)
                      subst e5
                      have HO5 : Hid (w5.ownsRow w.heap.size 100 4 (.slice (some ⟨g5, 0, none⟩) ((N + jj) + 1) c5) ((N + jj) + 1) ((ecs (X ++ qE q b ++ (bhd 3 b (q b)).take jj)) ++ [.int .u64 tx, .int .u64 ty, .int .i64 3, .int .i64 (b : Int)])) := ho5
                      have HK5 : Hid (Kept (fun z => (Value.slice p (N + jj) c).ownBlock = some z) we w5) := (Kept.of_below _ (below_alloc we _)).trans hk5 fun _ _ h => h
                      have HV5 : Hid ((Value.slice p (N + jj) c).ownBlock = some g5 ∨ we.heap.size ≤ g5) := by
                        rcases hv5 with e | e
                        · exact .inl e.symm
                        · right
                          simp only [World.size_alloc, Value.ownBlock, Option.some.injEq] at e
                          omega
                      clear ho5 hk5 hv5 HOW
                      have SA : (fun W : World => W.cell? ⟨gq, b, none⟩ = some (.slice (some ⟨qb, qo, none⟩) Lq cz) ∧ W.cell? ⟨qb, qo + (jj + 1), none⟩ = some (.int .u64 tx) ∧ W.cell? ⟨qb, qo + jj, none⟩ = some (.int .u64 ty)) w5 := ⟨(cell_low HC0.out.1 (below_of HK5.out HOE.out) hlow1), (cell_low HC0.out.2.1 (below_of HK5.out HOE.out) hlow2), (cell_low HC0.out.2.2 (below_of HK5.out HOE.out) hlow2)⟩
                      refine hKc.out _ _ SA (fun _ => ?_)
                      clear hHeld hKc Kc
                      have hHeld := SA
                      clear SA
                      try simp only [Act.put, List.setIfInBounds_toArray, List.set_cons_zero, List.set_cons_succ]

                      refine wpAnyH_take (i := 20) (v := ?va60) (by simp; rfl) (by kernel_rfl) (by kernel_rfl) (by kernel_rfl) (fun _ _ _ h => h) (Or.inl ⟨by rfl, ?ya60⟩) hHeld ?ra60
                      case ya60 => intro w hSw; clear hSw; go_simp; with_reducible rfl
                      simp only [Act.put, List.setIfInBounds_toArray, List.set_cons_zero, List.set_cons_succ]
                      refine wpAnyH_done (by kernel_rfl) (NoPanic.normal ?_) _
                      clear hHeld
                      have HB6 : Hid (RowKit.Below w.heap.size w w5) := HK5.out.into HBE.out (fun z hz e => by have := (HOE.out.lt z e).1; omega) (Nat.le_refl _)
                      clear hj1 hwj hp1 hp2 hp3 hp4 HC0 HOE HSZ HBE HK5 HV5
                      go_wp2_with fail
                      go_roundw
                      case rel =>
                        refine ⟨jj + 1, some ⟨g5, 0, none⟩, c5, rfl, by go_num, by rw [HLQ.out]; omega, ?_, HB6⟩
                        rw [HTA.out]
                        exact HO5
                      case measure => rw [HLQ.out]; simp [intV]; omega
                    · have HE1 : Hid (_ = _) := HTE.out jj hjl
                      rw [HE1.out] at HO
                      obtain ⟨N6, hN6⟩ : ∃ N6, N + jj = N6 := ⟨_, rfl⟩
                      have hN7 : N6 ≤ 200 + (b + 1) * 100 := by omega
                      rw [hN6] at HO ⊢
                      clear hN6 HTB HTE
                      go_wp2_with fail
                      go_roundw
                      case rel => exact ⟨b + 1, N6, p, c, rfl, by go_num, by omega, hN7, HO, HB⟩
                      case measure => simp [intV]; omega
                · obtain rfl : b = nb := by omega
                  rw [HX.out] at HO
                  go_wp2_with fail
                  go_ret
                  exact ⟨p, N, c, rfl, HO.out, HB.out⟩

      · have HX : Hid (X0 ++ qE q nb = ofS Wt fits It q nb) := by
          show _ = _
          unfold ofS
          rw [if_neg (fun hc => by have := HLL.out; omega), eX0, List.append_nil]
        obtain ⟨X, eX⟩ : ∃ X, X0 = X := ⟨_, rfl⟩
        rw [eX] at HOj HX
        have HOX := HOj
        have HBX := HBj
        obtain ⟨px, cx, Nx, e1, e2, e3⟩ : ∃ px cx Nx, px = p' ∧ cx = c' ∧ Nx = j := ⟨_, _, _, rfl, rfl, rfl⟩
        subst e1 e2 e3
        clear HOj HBj HF eX eX0
        go_wp2_with fail
        go_loopw [9, 12] (fun v9 v W => ∃ (b N : Nat) (p : Option Addr) (c : Nat), v9 = .slice p N c ∧ v = .int .i64 (b : Int) ∧ b ≤ nb ∧ N ≤ 200 + b * 100 ∧ Hid (W.ownsRow w.heap.size 100 4 (.slice p N c) N (ecs (X ++ qE q b))) ∧ Hid (RowKit.Below w.heap.size w W)) (fun v9 v _ => nb - (intV v).toNat)
        case atStart => exact ⟨0, Nx, px, cx, rfl, rfl, by omega, by omega, by simpa [qE] using HOX, HBX⟩
        case round =>
          clear HOX HBX
          obtain ⟨b, N, p, c, rfl, rfl, hb, hN, HO, HB⟩ := hrel
          by_cases hbn : b < nb
          · obtain ⟨gq, eqq, hqin⟩ := HQ.out wr HB.out (by omega)
            have hgw : gq < w.heap.size := HQB.out gq eqq (by omega)
            subst eqq
            have hLq := HQL.out b
            have HQA : Hid (∀ W, RowKit.Below w.heap.size w W → ∃ pz cz, W.cell? ⟨gq, b, none⟩ = some (.slice pz (q b).length cz) ∧ UIn W pz (q b).length (q b)) := fun W hW => by
              obtain ⟨g', e', h1⟩ := HQ.out W hW (by omega)
              cases e'
              exact h1 b hbn
            obtain ⟨pz, cz, hcz, -⟩ := HQA.out w (RowKit.Below.refl _ _)
            have HQC : Hid (∀ W, RowKit.Below w.heap.size w W → W.cell? ⟨gq, b, none⟩ = some (.slice pz (q b).length cz) ∧ UIn W pz (q b).length (q b)) := fun W hW => by
              obtain ⟨pz', cz', h1, h2⟩ := HQA.out W hW
              have h3 := (hW.cell (p := ⟨gq, b, none⟩) (cell_lt hcz)).trans hcz
              rw [h1] at h3
              simp only [Option.some.injEq, Value.slice.injEq, true_and] at h3
              obtain ⟨rfl, rfl⟩ := h3
              exact ⟨h1, h2⟩
            have HTB : Hid (∀ jj, jj + 1 < (q b).length → ecs (X ++ qE q b ++ (bhd 3 b (q b)).take (jj + 1)) = ecs (X ++ qE q b ++ (bhd 3 b (q b)).take jj) ++ [.int .u64 ((q b).getD (jj + 1) 0), .int .u64 ((q b).getD jj 0), .int .i64 3, .int .i64 (b : Int)]) := fun jj hjj => by
              rw [bhd_take 3 b (q b) hjj, ← List.append_assoc, ecs_snoc]
            have HTE : Hid (∀ jj, ¬ jj + 1 < (q b).length → X ++ qE q b ++ (bhd 3 b (q b)).take jj = X ++ qE q (b + 1)) := fun jj hjj => by
              rw [List.take_of_length_le (by rw [bhd_len]; omega), List.append_assoc, ← qE_succ]
            have HO0 : Hid (wr.ownsRow w.heap.size 100 4 (.slice p N c) N (ecs (X ++ qE q b ++ (bhd 3 b (q b)).take 0))) := by
              have := HO.out
              rw [List.take_zero, List.append_nil]
              exact this
            clear hqin HQA hcz HO
            go_wp2_with fail
            go_loopw [9, 13] (fun v9 v W => ∃ (jj : Nat) (p : Option Addr) (c : Nat), v9 = .slice p (N + jj) c ∧ v = .int .i64 ((jj : Int) + 1) ∧ jj ≤ (q b).length - 1 ∧ Hid (W.ownsRow w.heap.size 100 4 (.slice p (N + jj) c) (N + jj) (ecs (X ++ qE q b ++ (bhd 3 b (q b)).take jj))) ∧ Hid (RowKit.Below w.heap.size w W)) (fun v9 v _ => (q b).length - (intV v).toNat)
            case atStart => exact ⟨0, p, c, rfl, rfl, by omega, HO0, HB⟩
            case round =>
              clear HO0 HB
              obtain ⟨jj, p, c, rfl, rfl, hjj, HO, HB⟩ := hrel
              obtain ⟨hcz, huz⟩ := HQC.out wr HB.out
              by_cases hjl : jj + 1 < (q b).length
              · obtain ⟨qb, qo, eq, hcs⟩ := huz.cells (by omega)
                have hqw : qb < w.heap.size := by
                  have hu0 := (HQC.out w (RowKit.Below.refl _ _)).2
                  rw [eq] at hu0
                  exact hu0.lt (by omega)
                subst eq
                have hc1 : wr.drew.cell? ⟨qb, qo + (jj + 1), none⟩ = some (.int .u64 ((q b).getD (jj + 1) 0)) := hcs (jj + 1) (by omega)
                have hc0 : wr.drew.cell? ⟨qb, qo + jj, none⟩ = some (.int .u64 ((q b).getD jj 0)) := hcs jj (by omega)
                have hcd : wr.drew.cell? ⟨gq, b, none⟩ = some (.slice (some ⟨qb, qo, none⟩) (q b).length cz) := hcz
                have HTA : Hid (_ = _) := HTB.out jj hjl
                have HOE : Hid (wr.drew.ownsRow w.heap.size 100 4 (.slice p (N + jj) c) (N + jj) (ecs (X ++ qE q b ++ (bhd 3 b (q b)).take jj))) := O.own_later HO.out (below_dr _ _ 1)
                have HBE : Hid (RowKit.Below w.heap.size w wr.drew) := HB.out.trans (below_dr _ _ 1)
                have HSZ : Hid (w.heap.size ≤ wr.drew.heap.size) := HBE.out.size
                have hlow1 : gq < w.heap.size := hgw
                have hlow2 : qb < w.heap.size := hqw
                clear hcs HO HB hqw
                generalize (q b).getD (jj + 1) 0 = tx at *
                generalize (q b).getD jj 0 = ty at *
                obtain ⟨Lq, eLq⟩ : ∃ Lq, (q b).length = Lq := ⟨_, rfl⟩
                have HLQ : Hid ((q b).length = Lq) := eLq
                rw [eLq] at hcz hcd hjl hLq hjj
                clear eLq
                go_wp2_with fail
                clear hcz
                refine wp_region_noPanic ?_
                refine wp_region_held_drew (S := (fun W : World => W.cell? ⟨gq, b, none⟩ = some (.slice (some ⟨qb, qo, none⟩) Lq cz) ∧ W.cell? ⟨qb, qo + (jj + 1), none⟩ = some (.int .u64 tx) ∧ W.cell? ⟨qb, qo + jj, none⟩ = some (.int .u64 ty))) (by kernel_rfl) ⟨hcd, hc1, hc0⟩ (fun hHeld => ?_)
                clear hc0 hc1 hcd
                generalize wr.drew = we at *
                have HC0 : Hid (we.cell? ⟨gq, b, none⟩ = some (.slice (some ⟨qb, qo, none⟩) Lq cz) ∧ we.cell? ⟨qb, qo + (jj + 1), none⟩ = some (.int .u64 tx) ∧ we.cell? ⟨qb, qo + jj, none⟩ = some (.int .u64 ty)) := hHeld
                have hj1 : (jj : Int) + 1 - 1 = (jj : Int) := by omega
                have hp1 : 0 ≤ (jj : Int) + 1 := by omega
                have hp2 : (jj : Int) < (Lq : Int) := by omega
                have hp3 : (jj : Int) + 1 < (Lq : Int) := by omega
                have hp4 : (b : Int) < (nb : Int) := by omega
                have hwj : IntKind.i64.wrap (jj : Int) = (jj : Int) := wrap_small (by omega) (by omega)
                refine wpAnyH_take (i := 0) (v := ?va61) (by simp; rfl) (by kernel_rfl) (by kernel_rfl) (by kernel_rfl) (fun _ _ _ h => h) (Or.inl ⟨by rfl, ?ya61⟩) hHeld ?ra61
                case ya61 => intro w hSw; clear hSw; go_simp; with_reducible rfl
                simp only [Act.put, List.setIfInBounds_toArray, List.set_cons_zero, List.set_cons_succ]
                refine wpAnyH_take (i := 1) (v := ?va62) (by simp; rfl) (by kernel_rfl) (by kernel_rfl) (by kernel_rfl) (fun _ _ _ h => h) (Or.inl ⟨by rfl, ?ya62⟩) hHeld ?ra62
                case ya62 => intro w hSw; clear hSw; go_simp; with_reducible rfl
                simp only [Act.put, List.setIfInBounds_toArray, List.set_cons_zero, List.set_cons_succ]
                refine wpAnyH_take (i := 2) (v := ?va63) (by simp; rfl) (by kernel_rfl) (by kernel_rfl) (by kernel_rfl) (fun _ _ _ h => h) (Or.inl ⟨by rfl, ?ya63⟩) hHeld ?ra63
                case ya63 => intro w hSw; clear hSw; go_simp; with_reducible rfl
                simp only [Act.put, List.setIfInBounds_toArray, List.set_cons_zero, List.set_cons_succ]
                refine wpAnyH_take (i := 3) (v := ?va64) (by simp; rfl) (by kernel_rfl) (by kernel_rfl) (by kernel_rfl) (fun _ _ _ h => h) (Or.inl ⟨by rfl, ?ya64⟩) hHeld ?ra64
                case ya64 => intro w hSw; clear hSw; go_simp; with_reducible rfl
                simp only [Act.put, List.setIfInBounds_toArray, List.set_cons_zero, List.set_cons_succ]
                refine wpAnyH_take (i := 4) (v := ?va65) (by simp; rfl) (by kernel_rfl) (by kernel_rfl) (by kernel_rfl) (fun _ _ _ h => h) (Or.inl ⟨by rfl, ?ya65⟩) hHeld ?ra65
                case ya65 => intro w hSw; obtain ⟨z1, z2, z3⟩ := hSw; go_simp; with_reducible rfl
                simp only [Act.put, List.setIfInBounds_toArray, List.set_cons_zero, List.set_cons_succ]
                refine wpAnyH_take (i := 5) (v := ?va66) (by simp; rfl) (by kernel_rfl) (by kernel_rfl) (by kernel_rfl) (fun _ _ _ h => h) (Or.inl ⟨by rfl, ?ya66⟩) hHeld ?ra66
                case ya66 => intro w hSw; clear hSw; go_simp; with_reducible rfl
                simp only [Act.put, List.setIfInBounds_toArray, List.set_cons_zero, List.set_cons_succ]
                refine wpAnyH_take (i := 6) (v := ?va67) (by simp; rfl) (by kernel_rfl) (by kernel_rfl) (by kernel_rfl) (fun _ _ _ h => h) (Or.inl ⟨by rfl, ?ya67⟩) hHeld ?ra67
                case ya67 => intro w hSw; clear hSw; go_simp; with_reducible rfl
                simp only [Act.put, List.setIfInBounds_toArray, List.set_cons_zero, List.set_cons_succ]
                refine wpAnyH_take (i := 7) (v := ?va68) (by simp; rfl) (by kernel_rfl) (by kernel_rfl) (by kernel_rfl) (fun _ _ _ h => h) (Or.inl ⟨by rfl, ?ya68⟩) hHeld ?ra68
                case ya68 => intro w hSw; obtain ⟨z1, z2, z3⟩ := hSw; go_simp; with_reducible rfl
                simp only [Act.put, List.setIfInBounds_toArray, List.set_cons_zero, List.set_cons_succ]
                refine wpAnyH_take (i := 8) (v := ?va69) (by simp; rfl) (by kernel_rfl) (by kernel_rfl) (by kernel_rfl) (fun _ _ _ h => h) (Or.inl ⟨by rfl, ?ya69⟩) hHeld ?ra69
                case ya69 => intro w hSw; clear hSw; go_simp; with_reducible rfl
                simp only [Act.put, List.setIfInBounds_toArray, List.set_cons_zero, List.set_cons_succ]
                refine wpAnyH_take (i := 9) (v := ?va70) (by simp; rfl) (by kernel_rfl) (by kernel_rfl) (by kernel_rfl) (fun _ _ _ h => h) (Or.inl ⟨by rfl, ?ya70⟩) hHeld ?ra70
                case ya70 => intro w hSw; clear hSw; go_simp; with_reducible rfl
                simp only [Act.put, List.setIfInBounds_toArray, List.set_cons_zero, List.set_cons_succ]
                refine wpAnyH_take (i := 10) (v := ?va71) (by simp; rfl) (by kernel_rfl) (by kernel_rfl) (by kernel_rfl) (fun _ _ _ h => h) (Or.inl ⟨by rfl, ?ya71⟩) hHeld ?ra71
                case ya71 => intro w hSw; clear hSw; go_simp; with_reducible rfl
                simp only [Act.put, List.setIfInBounds_toArray, List.set_cons_zero, List.set_cons_succ]
                refine wpAnyH_take (i := 11) (v := ?va72) (by simp; rfl) (by kernel_rfl) (by kernel_rfl) (by kernel_rfl) (fun _ _ _ h => h) (Or.inl ⟨by rfl, ?ya72⟩) hHeld ?ra72
                case ya72 => intro w hSw; obtain ⟨z1, z2, z3⟩ := hSw; go_simp; with_reducible rfl
                simp only [Act.put, List.setIfInBounds_toArray, List.set_cons_zero, List.set_cons_succ]
                refine wpAnyH_take (i := 12) (v := ?va73) (by simp; rfl) (by kernel_rfl) (by kernel_rfl) (by kernel_rfl) (fun _ _ _ h => h) (Or.inl ⟨by rfl, ?ya73⟩) hHeld ?ra73
                case ya73 => intro w hSw; clear hSw; go_simp; with_reducible rfl
                simp only [Act.put, List.setIfInBounds_toArray, List.set_cons_zero, List.set_cons_succ]
                refine wpAnyH_take (i := 13) (v := ?va74) (by simp; rfl) (by kernel_rfl) (by kernel_rfl) (by kernel_rfl) (fun _ _ _ h => h) (Or.inl ⟨by rfl, ?ya74⟩) hHeld ?ra74
                case ya74 => intro w hSw; clear hSw; go_simp; with_reducible rfl
                simp only [Act.put, List.setIfInBounds_toArray, List.set_cons_zero, List.set_cons_succ]
                refine wpAnyH_take (i := 14) (v := ?va75) (by simp; rfl) (by kernel_rfl) (by kernel_rfl) (by kernel_rfl) (fun _ _ _ h => h) (Or.inl ⟨by rfl, ?ya75⟩) hHeld ?ra75
                case ya75 => intro w hSw; clear hSw; go_simp; with_reducible rfl
                simp only [Act.put, List.setIfInBounds_toArray, List.set_cons_zero, List.set_cons_succ]
                refine wpAnyH_take (i := 15) (v := ?va76) (by simp; rfl) (by kernel_rfl) (by kernel_rfl) (by kernel_rfl) (fun _ _ _ h => h) (Or.inl ⟨by rfl, ?ya76⟩) hHeld ?ra76
                case ya76 => intro w hSw; obtain ⟨z1, z2, z3⟩ := hSw; go_simp; with_reducible rfl
                simp only [Act.put, List.setIfInBounds_toArray, List.set_cons_zero, List.set_cons_succ]
                refine wpAnyH_take (i := 16) (v := ?va77) (by simp; rfl) (by kernel_rfl) (by kernel_rfl) (by kernel_rfl) (fun _ _ _ h => h) (Or.inl ⟨by rfl, ?ya77⟩) hHeld ?ra77
                case ya77 => intro w hSw; clear hSw; go_simp; with_reducible rfl
                simp only [Act.put, List.setIfInBounds_toArray, List.set_cons_zero, List.set_cons_succ]
                refine wpAnyH_take (i := 17) (v := ?va78) (by simp; rfl) (by kernel_rfl) (by kernel_rfl) (by kernel_rfl) (fun _ _ _ h => h) (Or.inl ⟨by rfl, ?ya78⟩) hHeld ?ra78
                case ya78 => intro w hSw; clear hSw; go_simp; with_reducible rfl
                simp only [Act.put, List.setIfInBounds_toArray, List.set_cons_zero, List.set_cons_succ]
                refine wpAnyH_ready (rs := [18]) (by kernel_rfl) (by simp) ?_
                refine AllReadyH.cons (by simp; rfl) (fun Kc hKc => ?_) AllReadyH.nil
                go_simp
                have SA : (fun W : World => W.cell? ⟨gq, b, none⟩ = some (.slice (some ⟨qb, qo, none⟩) Lq cz) ∧ W.cell? ⟨qb, qo + (jj + 1), none⟩ = some (.int .u64 tx) ∧ W.cell? ⟨qb, qo + jj, none⟩ = some (.int .u64 ty)) (we.alloc (Obj.cells #[.int .u64 tx, .int .u64 ty, .int .i64 3, .int .i64 (b : Int)] 100)) := ⟨cell_far hHeld.1 (Kept.of_below (fun _ => False) (below_alloc we _)) (fun h => h), cell_far hHeld.2.1 (Kept.of_below (fun _ => False) (below_alloc we _)) (fun h => h), cell_far hHeld.2.2 (Kept.of_below (fun _ => False) (below_alloc we _)) (fun h => h)⟩
                refine hKc.out _ _ SA (fun _ => ?_)
                clear hHeld hKc Kc
                have hHeld := SA
                clear SA

                refine wpAnyH_ready (rs := [19]) (by kernel_rfl) (by simp) ?_
                refine AllReadyH.cons (by simp; rfl) (fun Kc hKc => ?_) AllReadyH.nil
                have HOW : Hid ((we.alloc (Obj.cells #[.int .u64 tx, .int .u64 ty, .int .i64 3, .int .i64 (b : Int)] 100)).ownsRow w.heap.size 100 4 (Value.slice p (N + jj) c) (N + jj) (ecs (X ++ qE q b ++ (bhd 3 b (q b)).take jj))) := O.own_later HOE.out (below_alloc we _)
                refine O.step_own_any (v := (Value.slice p (N + jj) c)) (u := .slice (some ⟨we.heap.size, 0, none⟩) 1 1) (n := (N + jj)) (m := 1) (base := w.heap.size) (base' := 0) rfl (.tmp 72) (.tmp 90) O.elR rfl rfl HOW.out rfl (O.own_one (base := 0) (e := 100) (size := 4) (cs := [.int .u64 tx, .int .u64 ty, .int .i64 3, .int .i64 (b : Int)]) we rfl (Nat.zero_le _)) (fun y hy => by simp at hy; rcases hy with rfl | rfl | rfl | rfl <;> rfl) (by omega) (by have := HSZ.out; simp; omega) ?_
                intro v5 w5 ho5 hk5 hv5
                obtain ⟨g5, c5, e5, -, -, -⟩ := O.own_some ho5 (by omega)
                subst e5
                have HO5 : Hid (w5.ownsRow w.heap.size 100 4 (.slice (some ⟨g5, 0, none⟩) ((N + jj) + 1) c5) ((N + jj) + 1) ((ecs (X ++ qE q b ++ (bhd 3 b (q b)).take jj)) ++ [.int .u64 tx, .int .u64 ty, .int .i64 3, .int .i64 (b : Int)])) := ho5
                have HK5 : Hid (Kept (fun z => (Value.slice p (N + jj) c).ownBlock = some z) we w5) := (Kept.of_below _ (below_alloc we _)).trans hk5 fun _ _ h => h
                have HV5 : Hid ((Value.slice p (N + jj) c).ownBlock = some g5 ∨ we.heap.size ≤ g5) := by
                  rcases hv5 with e | e
                  · exact .inl e.symm
                  · right
                    simp only [World.size_alloc, Value.ownBlock, Option.some.injEq] at e
                    omega
                clear ho5 hk5 hv5 HOW
                have SA : (fun W : World => W.cell? ⟨gq, b, none⟩ = some (.slice (some ⟨qb, qo, none⟩) Lq cz) ∧ W.cell? ⟨qb, qo + (jj + 1), none⟩ = some (.int .u64 tx) ∧ W.cell? ⟨qb, qo + jj, none⟩ = some (.int .u64 ty)) w5 := ⟨(cell_low HC0.out.1 (below_of HK5.out HOE.out) hlow1), (cell_low HC0.out.2.1 (below_of HK5.out HOE.out) hlow2), (cell_low HC0.out.2.2 (below_of HK5.out HOE.out) hlow2)⟩
                refine hKc.out _ _ SA (fun _ => ?_)
                clear hHeld hKc Kc
                have hHeld := SA
                clear SA
                try simp only [Act.put, List.setIfInBounds_toArray, List.set_cons_zero, List.set_cons_succ]

                refine wpAnyH_take (i := 20) (v := ?va79) (by simp; rfl) (by kernel_rfl) (by kernel_rfl) (by kernel_rfl) (fun _ _ _ h => h) (Or.inl ⟨by rfl, ?ya79⟩) hHeld ?ra79
                case ya79 => intro w hSw; clear hSw; go_simp; with_reducible rfl
                simp only [Act.put, List.setIfInBounds_toArray, List.set_cons_zero, List.set_cons_succ]
                refine wpAnyH_done (by kernel_rfl) (NoPanic.normal ?_) _
                clear hHeld
                have HB6 : Hid (RowKit.Below w.heap.size w w5) := HK5.out.into HBE.out (fun z hz e => by have := (HOE.out.lt z e).1; omega) (Nat.le_refl _)
                clear hj1 hwj hp1 hp2 hp3 hp4 HC0 HOE HSZ HBE HK5 HV5
                go_wp2_with fail
                go_roundw
                case rel =>
                  refine ⟨jj + 1, some ⟨g5, 0, none⟩, c5, rfl, by go_num, by rw [HLQ.out]; omega, ?_, HB6⟩
                  rw [HTA.out]
                  exact HO5
                case measure => rw [HLQ.out]; simp [intV]; omega
              · have HE1 : Hid (_ = _) := HTE.out jj hjl
                rw [HE1.out] at HO
                obtain ⟨N6, hN6⟩ : ∃ N6, N + jj = N6 := ⟨_, rfl⟩
                have hN7 : N6 ≤ 200 + (b + 1) * 100 := by omega
                rw [hN6] at HO ⊢
                clear hN6 HTB HTE
                go_wp2_with fail
                go_roundw
                case rel => exact ⟨b + 1, N6, p, c, rfl, by go_num, by omega, hN7, HO, HB⟩
                case measure => simp [intV]; omega
          · obtain rfl : b = nb := by omega
            rw [HX.out] at HO
            go_wp2_with fail
            go_ret
            exact ⟨p, N, c, rfl, HO.out, HB.out⟩
end Go.Proofs.YtkgjmejpbklabaaGreat
