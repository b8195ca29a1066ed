/-
  brought from the sector seat.
-/
import Derived.Test.YtmcpjokbkkfgfaaGreatDoorT19
import Derived.Test.YtmcpjokbkkfgfaaGreatDoorT17
import Derived.Test.YtmcpjokbkkfgfaaGreatDoorT11
import Derived.BigQuiet
namespace Go.Proofs.YtmcpjokbkkfgfaaGreatDoor
open Go.RowKit

theorem four_later {w w' : World} {a1 a2 a3 a4 : Addr} {u1 u2 u3 u4 : Value} (h : w.cell? a1 = some u1 ∧ w.cell? a2 = some u2 ∧ w.cell? a3 = some u3 ∧ w.cell? a4 = some u4) (hb : Below w.heap.size w w') : w'.cell? a1 = some u1 ∧ w'.cell? a2 = some u2 ∧ w'.cell? a3 = some u3 ∧ w'.cell? a4 = some u4 :=
  ⟨(hb.cell (World.block_lt_of_cell? w _ h.1)).trans h.1, (hb.cell (World.block_lt_of_cell? w _ h.2.1)).trans h.2.1, (hb.cell (World.block_lt_of_cell? w _ h.2.2.1)).trans h.2.2.1, (hb.cell (World.block_lt_of_cell? w _ h.2.2.2)).trans h.2.2.2⟩
/-- what stands while the writes are copied: c the new disk, its first k writes -/
structure RCp (w wr : World) (c n : Nat) (d : List Int) (ws : List Wr) (k : Nat) : Prop where
  below : Below w.heap.size w wr
  ref : Ref wr (fun j => w.heap.size ≤ j) c n d (ws.take k)
set_option maxHeartbeats 8000000 in
set_option maxRecDepth 100000 in
theorem rcopy_any {w : World} {S : Nat → Prop} {p n : Nat} {d : List Int} {ws : List Wr} (h : Ref w S p n d ws) (hk : ws.length ≤ 100000) :
    Calls Tryz.prog 32 #[.pointer (some ⟨p, 0, none⟩)] w fun e w' => ∃ c, e = .returned (.pointer (some ⟨c, 0, none⟩)) ∧ Ref w' (fun j => w.heap.size ≤ j) c n d ws ∧ Below w.heap.size w w' := by
  obtain ⟨i5, hi5, hz50, hz51, hz52⟩ := info_parts info5
  obtain ⟨i85, hi85, hz850, hz851, hz852⟩ := info_parts info85
  obtain ⟨g, L, cap, v, vs, h⟩ := h
  have s0 : (w.alloc (.cells #[] 5)).cell? ⟨p, 0, none⟩ = some (.slice (some ⟨g, 0, none⟩) L cap) := (h.later (below_alloc w _)).cell0
  have HH : Hid (RD w S p n d ws g L cap v vs) := h
  have hL1 : 0 < L := by have := h.hL; have := h.n1; omega
  have hL2 : L ≤ 262144 := by have := h.hL; have := h.n2; omega
  have HN : Hid (∀ j u, (U8 d)[j]? = some u → (w.alloc (.cells #[] 5)).cell? ((⟨g, 0, none⟩ : Addr).add j) = some u) := fun j u hu => by
    have hr := own_range (h.later (below_alloc w (.cells #[] 5))).dur j u hu
    rw [Addr.add_mid]; exact hr
  have HL : Hid ((U8 d).length = L * 1) := by show _ = _; have := h.dur.1; omega
  clear h
  go_enter Tryz.func32, Tryz.ntmps32
  go_wp2_with (at_builtin; refine wpList_append_lies _ rfl (.tmp 5) (.tmp 9) 51 rfl w.heap.size 5 i5 (.int .u8 0) 1 1 Tryz.underlying51 hi5 hz50 hz51 hz52 rfl (by omega) _ 0 [] rfl (World.ownsRow_made w #[] 0 (Nat.le_refl _) (Nat.zero_le _) rfl) ⟨g, 0, none⟩ L cap (U8 d) rfl HL.out HN.out (ones_u8 _) hL1 (by unfold maxLen; omega) (by omega) (by simp) _ rfl ?_)
  intro g1 c1 w1 hown hgrow hat hlt
  try simp only [Nat.zero_add, List.nil_append] at hown ⊢
  have hb : Below w.heap.size w w1 := ((Below.refl _ w).alloc (Nat.le_refl _) _).grown hgrow (by simp) (by intro k hk; simp [Value.ownBlock] at hk; omega)
  have HF : Hid (RCp w (w1.alloc (.cells #[.slice (some ⟨g1, 0, none⟩) L c1, .slice none 0 0] 79)) w1.heap.size n d ws 0) := by
    obtain ⟨f1, f2⟩ := ref_fin hb hown HH.out.hL HH.out.n1 HH.out.n2 HH.out.db
    exact ⟨f2, by rw [List.take_zero]; exact f1⟩
  clear hown hgrow hat hlt hb s0 HN
  go_wp2
  generalize w1.alloc (.cells #[.slice (some ⟨g1, 0, none⟩) L c1, .slice none 0 0] 79) = W1 at *
  generalize w1.heap.size = c at *
  go_loopw [4] (fun i wr => ∃ k : Nat, k ≤ ws.length ∧ i = .int .i64 k ∧ Hid (RCp w wr c n d ws k)) (fun i _ => ws.length - (intOf i).toNat)
  case atStart => exact ⟨0, by omega, rfl, HF.out⟩
  case round =>
    obtain ⟨k, hkl, rfl, HQ⟩ := hrel
    clear HF
    have h1 := HH.out.later HQ.out.below
    have s1 := h1.cell1
    by_cases hlt : k < ws.length
    · obtain ⟨gv, cv, gb, cb, rfl, t1, t2, t3, _⟩ := h1.at k hlt
      obtain ⟨gc, Lc, capc, vc, vsc, hc⟩ := HQ.out.ref
      have q1 := hc.cell1
      have HXi := HH.out.fit.at k hlt
      have HTk : Hid (ws.take (k + 1) = ws.take k ++ [⟨ws[k].s, ws[k].b⟩]) := by show _ = _; rw [List.take_succ_eq_append_getElem hlt]
      have HTl : Hid ((ws.take k).length = k) := by show _ = _; rw [List.length_take]; omega
      have hTb : (ws.take k).length ≤ 100000 := by rw [HTl.out]; omega
      obtain ⟨T, hT⟩ : ∃ T, ws.take k = T := ⟨_, rfl⟩
      rw [hT] at hc HTk HTl hTb
      clear hT
      obtain ⟨pvc, cvc, rfl, _⟩ := own_slice hc.wr
      generalize ws[k] = X at *
      have HC : Hid (RD wr (fun j => w.heap.size ≤ j) c n d T gc Lc capc (.slice pvc T.length cvc) vsc) := hc
      have HT3 : Hid (BIn wr (some ⟨gb, 0, none⟩) 64 X.b) := t3
      have HP : Hid (RD wr S p n d ws g L cap (.slice (some ⟨gv, 0, none⟩) ws.length cv) vs) := h1
      have i1 : (k : Int) < (ws.length : Int) := by omega
      have i0' : (0 : Int) ≤ (k : Int) := by omega
      have hszw := HQ.out.below.size
      clear t3 hc h1
      go_wp2
      have r1 : (wr.alloc (.cells #[] 5)).drew.cell? ⟨c, 1, none⟩ = some (.slice pvc T.length cvc) := (HC.out.later (below_alloc wr _)).cell1
      refine wp_region_noPanic ?_
      refine wp_region_last 28 (fun w' => w'.cell? ⟨c, 1, none⟩ = some (.slice pvc T.length cvc) ∧ w'.cell? ⟨p, 1, none⟩ = some (.slice (some ⟨gv, 0, none⟩) ws.length cv) ∧ w'.cell? ⟨gv, k * 2, none⟩ = some (.int .i64 (X.s : Int)) ∧ w'.cell? ⟨gv, k * 2 + 1, none⟩ = some (.slice (some ⟨gb, 0, none⟩) 64 cb)) (by kernel_rfl) ?_
      have hHeld : wr.drew.cell? ⟨c, 1, none⟩ = some (.slice pvc T.length cvc) ∧ wr.drew.cell? ⟨p, 1, none⟩ = some (.slice (some ⟨gv, 0, none⟩) ws.length cv) ∧ wr.drew.cell? ⟨gv, k * 2, none⟩ = some (.int .i64 (X.s : Int)) ∧ wr.drew.cell? ⟨gv, k * 2 + 1, none⟩ = some (.slice (some ⟨gb, 0, none⟩) 64 cb) := ⟨q1, s1, t1, t2⟩
      have H4 : Hid (wr.cell? ⟨c, 1, none⟩ = some (.slice pvc T.length cvc) ∧ wr.cell? ⟨p, 1, none⟩ = some (.slice (some ⟨gv, 0, none⟩) ws.length cv) ∧ wr.cell? ⟨gv, k * 2, none⟩ = some (.int .i64 (X.s : Int)) ∧ wr.cell? ⟨gv, k * 2 + 1, none⟩ = some (.slice (some ⟨gb, 0, none⟩) 64 cb)) := ⟨q1, s1, t1, t2⟩
      clear q1 s1 t1 t2 r1
      refine wpAnyL_take (i := 0) (v := ?v0) (by simp; rfl) (by kernel_rfl) (by kernel_rfl) (by kernel_rfl) (by kernel_rfl) (fun _ _ _ h => h) (Or.inl ⟨by rfl, ?y0⟩) hHeld ?r0
      case y0 => intro w hSw; clear hSw; go_simp; with_reducible rfl
      simp only [Act.put, List.setIfInBounds_toArray, List.set_cons_zero, List.set_cons_succ]
      refine wpAnyL_take (i := 1) (v := ?v1) (by simp; rfl) (by kernel_rfl) (by kernel_rfl) (by kernel_rfl) (by kernel_rfl) (fun _ _ _ h => h) (Or.inl ⟨by rfl, ?y1⟩) hHeld ?r1
      case y1 => intro w hSw; clear hSw; go_simp; with_reducible rfl
      simp only [Act.put, List.setIfInBounds_toArray, List.set_cons_zero, List.set_cons_succ]
      refine wpAnyL_take (i := 2) (v := ?v2) (by simp; rfl) (by kernel_rfl) (by kernel_rfl) (by kernel_rfl) (by kernel_rfl) (fun _ _ _ h => h) (Or.inl ⟨by rfl, ?y2⟩) hHeld ?r2
      case y2 => intro w hSw; clear hSw; go_simp; with_reducible rfl
      simp only [Act.put, List.setIfInBounds_toArray, List.set_cons_zero, List.set_cons_succ]
      refine wpAnyL_take (i := 3) (v := ?v3) (by simp; rfl) (by kernel_rfl) (by kernel_rfl) (by kernel_rfl) (by kernel_rfl) (fun _ _ _ h => h) (Or.inl ⟨by rfl, ?y3⟩) hHeld ?r3
      case y3 => intro w hSw; clear hSw; go_simp; with_reducible rfl
      simp only [Act.put, List.setIfInBounds_toArray, List.set_cons_zero, List.set_cons_succ]
      refine wpAnyL_take (i := 4) (v := ?v4) (by simp; rfl) (by kernel_rfl) (by kernel_rfl) (by kernel_rfl) (by kernel_rfl) (fun _ _ _ h => h) (Or.inl ⟨by rfl, ?y4⟩) hHeld ?r4
      case y4 => intro w hSw; obtain ⟨z1, z2, z3, z4⟩ := hSw; go_simp; with_reducible rfl
      simp only [Act.put, List.setIfInBounds_toArray, List.set_cons_zero, List.set_cons_succ]
      refine wpAnyL_take (i := 5) (v := ?v5) (by simp; rfl) (by kernel_rfl) (by kernel_rfl) (by kernel_rfl) (by kernel_rfl) (fun _ _ _ h => h) (Or.inl ⟨by rfl, ?y5⟩) hHeld ?r5
      case y5 => intro w hSw; clear hSw; go_simp; with_reducible rfl
      simp only [Act.put, List.setIfInBounds_toArray, List.set_cons_zero, List.set_cons_succ]
      refine wpAnyL_take (i := 6) (v := ?v6) (by simp; rfl) (by kernel_rfl) (by kernel_rfl) (by kernel_rfl) (by kernel_rfl) (fun _ _ _ h => h) (Or.inl ⟨by rfl, ?y6⟩) hHeld ?r6
      case y6 => intro w hSw; clear hSw; go_simp; with_reducible rfl
      simp only [Act.put, List.setIfInBounds_toArray, List.set_cons_zero, List.set_cons_succ]
      refine wpAnyL_take (i := 7) (v := ?v7) (by simp; rfl) (by kernel_rfl) (by kernel_rfl) (by kernel_rfl) (by kernel_rfl) (fun _ _ _ h => h) (Or.inl ⟨by rfl, ?y7⟩) hHeld ?r7
      case y7 => intro w hSw; clear hSw; go_simp; with_reducible rfl
      simp only [Act.put, List.setIfInBounds_toArray, List.set_cons_zero, List.set_cons_succ]
      refine wpAnyL_take (i := 8) (v := ?v8) (by simp; rfl) (by kernel_rfl) (by kernel_rfl) (by kernel_rfl) (by kernel_rfl) (fun _ _ _ h => h) (Or.inl ⟨by rfl, ?y8⟩) hHeld ?r8
      case y8 => intro w hSw; obtain ⟨z1, z2, z3, z4⟩ := hSw; go_simp; with_reducible rfl
      simp only [Act.put, List.setIfInBounds_toArray, List.set_cons_zero, List.set_cons_succ]
      refine wpAnyL_take (i := 9) (v := ?v9) (by simp; rfl) (by kernel_rfl) (by kernel_rfl) (by kernel_rfl) (by kernel_rfl) (fun _ _ _ h => h) (Or.inl ⟨by rfl, ?y9⟩) hHeld ?r9
      case y9 => intro w hSw; clear hSw; go_simp; with_reducible rfl
      simp only [Act.put, List.setIfInBounds_toArray, List.set_cons_zero, List.set_cons_succ]
      refine wpAnyL_take (i := 10) (v := ?v10) (by simp; rfl) (by kernel_rfl) (by kernel_rfl) (by kernel_rfl) (by kernel_rfl) (fun _ _ _ h => h) (Or.inl ⟨by rfl, ?y10⟩) hHeld ?r10
      case y10 => intro w hSw; clear hSw; go_simp; with_reducible rfl
      simp only [Act.put, List.setIfInBounds_toArray, List.set_cons_zero, List.set_cons_succ]
      refine wpAnyL_take (i := 11) (v := ?v11) (by simp; rfl) (by kernel_rfl) (by kernel_rfl) (by kernel_rfl) (by kernel_rfl) (fun _ _ _ h => h) (Or.inl ⟨by rfl, ?y11⟩) hHeld ?r11
      case y11 => intro w hSw; clear hSw; go_simp; with_reducible rfl
      simp only [Act.put, List.setIfInBounds_toArray, List.set_cons_zero, List.set_cons_succ]
      refine wpAnyL_take (i := 12) (v := ?v12) (by simp; rfl) (by kernel_rfl) (by kernel_rfl) (by kernel_rfl) (by kernel_rfl) (fun _ _ _ h => h) (Or.inl ⟨by rfl, ?y12⟩) hHeld ?r12
      case y12 => intro w hSw; obtain ⟨z1, z2, z3, z4⟩ := hSw; go_simp; with_reducible rfl
      simp only [Act.put, List.setIfInBounds_toArray, List.set_cons_zero, List.set_cons_succ]
      refine wpAnyL_take (i := 14) (v := ?v14) (by simp; rfl) (by kernel_rfl) (by kernel_rfl) (by kernel_rfl) (by kernel_rfl) (fun _ _ _ h => h) (Or.inl ⟨by rfl, ?y14⟩) hHeld ?r14
      case y14 => intro w hSw; clear hSw; go_simp; with_reducible rfl
      simp only [Act.put, List.setIfInBounds_toArray, List.set_cons_zero, List.set_cons_succ]
      refine wpAnyL_take (i := 15) (v := ?v15) (by simp; rfl) (by kernel_rfl) (by kernel_rfl) (by kernel_rfl) (by kernel_rfl) (fun _ _ _ h => h) (Or.inl ⟨by rfl, ?y15⟩) hHeld ?r15
      case y15 => intro w hSw; clear hSw; go_simp; with_reducible rfl
      simp only [Act.put, List.setIfInBounds_toArray, List.set_cons_zero, List.set_cons_succ]
      refine wpAnyL_take (i := 16) (v := ?v16) (by simp; rfl) (by kernel_rfl) (by kernel_rfl) (by kernel_rfl) (by kernel_rfl) (fun _ _ _ h => h) (Or.inl ⟨by rfl, ?y16⟩) hHeld ?r16
      case y16 => intro w hSw; clear hSw; go_simp; with_reducible rfl
      simp only [Act.put, List.setIfInBounds_toArray, List.set_cons_zero, List.set_cons_succ]
      refine wpAnyL_take (i := 17) (v := ?v17) (by simp; rfl) (by kernel_rfl) (by kernel_rfl) (by kernel_rfl) (by kernel_rfl) (fun _ _ _ h => h) (Or.inl ⟨by rfl, ?y17⟩) hHeld ?r17
      case y17 => intro w hSw; obtain ⟨z1, z2, z3, z4⟩ := hSw; go_simp; with_reducible rfl
      simp only [Act.put, List.setIfInBounds_toArray, List.set_cons_zero, List.set_cons_succ]
      refine wpAnyL_take (i := 18) (v := ?v18) (by simp; rfl) (by kernel_rfl) (by kernel_rfl) (by kernel_rfl) (by kernel_rfl) (fun _ _ _ h => h) (Or.inl ⟨by rfl, ?y18⟩) hHeld ?r18
      case y18 => intro w hSw; clear hSw; go_simp; with_reducible rfl
      simp only [Act.put, List.setIfInBounds_toArray, List.set_cons_zero, List.set_cons_succ]
      refine wpAnyL_take (i := 19) (v := ?v19) (by simp; rfl) (by kernel_rfl) (by kernel_rfl) (by kernel_rfl) (by kernel_rfl) (fun _ _ _ h => h) (Or.inl ⟨by rfl, ?y19⟩) hHeld ?r19
      case y19 => intro w hSw; clear hSw; go_simp; with_reducible rfl
      simp only [Act.put, List.setIfInBounds_toArray, List.set_cons_zero, List.set_cons_succ]
      refine wpAnyL_take (i := 20) (v := ?v20) (by simp; rfl) (by kernel_rfl) (by kernel_rfl) (by kernel_rfl) (by kernel_rfl) (fun _ _ _ h => h) (Or.inl ⟨by rfl, ?y20⟩) hHeld ?r20
      case y20 => intro w hSw; clear hSw; go_simp; with_reducible rfl
      simp only [Act.put, List.setIfInBounds_toArray, List.set_cons_zero, List.set_cons_succ]
      refine wpAnyL_take (i := 21) (v := ?v21) (by simp; rfl) (by kernel_rfl) (by kernel_rfl) (by kernel_rfl) (by kernel_rfl) (fun _ _ _ h => h) (Or.inl ⟨by rfl, ?y21⟩) hHeld ?r21
      case y21 => intro w hSw; obtain ⟨z1, z2, z3, z4⟩ := hSw; go_simp; with_reducible rfl
      simp only [Act.put, List.setIfInBounds_toArray, List.set_cons_zero, List.set_cons_succ]
      refine wpAnyL_ready (rs := [13]) (by kernel_rfl) (by simp) ?_
      refine AllReadyL.cons (by simp; rfl) (fun K hK => ?_) AllReadyL.nil
      go_simp
      have hH6 : (wr.alloc (.cells #[] 5)).drew.cell? ⟨c, 1, none⟩ = some (.slice pvc T.length cvc) ∧ (wr.alloc (.cells #[] 5)).drew.cell? ⟨p, 1, none⟩ = some (.slice (some ⟨gv, 0, none⟩) ws.length cv) ∧ (wr.alloc (.cells #[] 5)).drew.cell? ⟨gv, k * 2, none⟩ = some (.int .i64 (X.s : Int)) ∧ (wr.alloc (.cells #[] 5)).drew.cell? ⟨gv, k * 2 + 1, none⟩ = some (.slice (some ⟨gb, 0, none⟩) 64 cb) := four_later hHeld (w' := (wr.alloc (.cells #[] 5)).drew) ⟨rfl, rfl, rfl, by show wr.heap.size ≤ (wr.alloc _).heap.size; simp, fun k hk => Below.heap_alloc _ _ _ hk⟩
      refine hK.out _ _ (fun _ => hH6) ?_
      clear hK K hHeld
      have hHeld := hH6
      refine wpAnyL_ready (rs := [22]) (by kernel_rfl) (by simp) ?_
      refine AllReadyL.cons (by simp; rfl) (fun K hK => ?_) AllReadyL.nil
      refine step_append_lies _ rfl (.tmp 35) (.tmp 43) 51 rfl wr.heap.size 5 i5 (.int .u8 0) 1 1 Tryz.underlying51 hi5 hz50 hz51 hz52 rfl (by omega) _ 0 [] rfl (World.ownsRow_made wr #[] 0 (Nat.le_refl _) (Nat.zero_le _) rfl) ⟨gb, 0, none⟩ 64 cb (U8 X.b) rfl (by rw [U8_length]; exact HXi.2.1) ((HT3.out.later (below_alloc wr _)).news) (ones_u8 _) (by omega) (by unfold maxLen; omega) (by omega) (by simp) _ rfl ?_
      intro g2 cap2 w2 hown2 hgrow2 hat2 hlt2
      simp only [Nat.zero_add, List.nil_append] at hown2 ⊢
      have hb2 : Below wr.heap.size wr w2 := ((Below.refl _ wr).alloc (Nat.le_refl _) (.cells #[] 5)).trans ⟨hgrow2.os, hgrow2.tape, hgrow2.output, hgrow2.size, fun k hk => hgrow2.block k (Nat.lt_of_lt_of_le hk (by show _ ≤ (wr.alloc _).heap.size; simp)) (fun e => by have e' : k = wr.heap.size := Option.some.inj e; omega)⟩
      have hH8 := four_later (w := wr) (w' := w2) H4.out hb2
      refine hK.out _ _ (fun _ => hH8) ?_
      clear hK K hHeld hH6 hgrow2 hat2 hlt2
      have hHeld := hH8
      simp only [Act.put, List.setIfInBounds_toArray, List.set_cons_zero, List.set_cons_succ]
      refine wpAnyL_take (i := 23) (v := ?v23) (by simp; rfl) (by kernel_rfl) (by kernel_rfl) (by kernel_rfl) (by kernel_rfl) (fun _ _ _ h => h) (Or.inl ⟨by rfl, ?y23⟩) hHeld ?r23
      case y23 => intro w hSw; clear hSw; go_simp; with_reducible rfl
      simp only [Act.put, List.setIfInBounds_toArray, List.set_cons_zero, List.set_cons_succ]
      refine wpAnyL_ready (rs := [24]) (by kernel_rfl) (by simp) ?_
      refine AllReadyL.cons (by simp; rfl) (fun K hK => ?_) AllReadyL.nil
      go_simp
      have hb3 : Below wr.heap.size wr (w2.alloc (.cells #[.int .i64 (X.s : Int), .slice (some ⟨g2, 0, none⟩) 64 cap2] 129)) := hb2.alloc hb2.size _
      have hHA := four_later (w := w2) hHeld (below_alloc w2 (.cells #[.int .i64 (X.s : Int), .slice (some ⟨g2, 0, none⟩) 64 cap2] 129))
      refine hK.out _ _ (fun _ => hHA) ?_
      clear hK K hHeld hH8
      have hHeld := hHA
      refine wpAnyL_ready (rs := [25]) (by kernel_rfl) (by simp) ?_
      refine AllReadyL.cons (by simp; rfl) (fun K hK => ?_) AllReadyL.nil
      have hz2' := hb2.size
      refine step_append_lies _ rfl (.tmp 26) (.tmp 46) 77 rfl 0 129 i85 (.agg #[.int .i64 0, .slice none 0 0]) 2 32 Tryz.underlying77 hi85 hz850 hz851 hz852 rfl (by omega) _ T.length (ZC T vsc) rfl (HC.out.later hb3).wr ⟨w2.heap.size, 0, none⟩ 1 1 [.int .i64 (X.s : Int), .slice (some ⟨g2, 0, none⟩) 64 cap2] rfl rfl ?_ (by simp [Value.oneCell']) (by omega) (by unfold maxLen; omega) (by omega) (Nat.zero_le _) _ rfl ?_
      · intro j u hu
        have e := new_range w2 [.int .i64 (X.s : Int), .slice (some ⟨g2, 0, none⟩) 64 cap2] 129 j u hu
        rw [Addr.add_mid]
        exact e
      intro g4 cap4 w4 hown4 hgrow4 hat4 hlt4
      obtain ⟨f1, f2, f3, f4⟩ := rwrite_fin HC.out hb3 (hown2.alloc _) hown4 hgrow4 (or_map hat4 id (fun e => by rw [e]; simp; omega)) HXi.1 HXi.2.1 HXi.2.2
      have hS4 : w4.cell? ⟨c, 1, none⟩ = some (.slice pvc T.length cvc) ∧ w4.cell? ⟨p, 1, none⟩ = some (.slice (some ⟨gv, 0, none⟩) ws.length cv) ∧ w4.cell? ⟨gv, k * 2, none⟩ = some (.int .i64 (X.s : Int)) ∧ w4.cell? ⟨gv, k * 2 + 1, none⟩ = some (.slice (some ⟨gb, 0, none⟩) 64 cb) := by
        have hne : ∀ j : Nat, j < w.heap.size → some j ≠ (Value.slice pvc T.length cvc).ownBlock := fun j hj e => by have : w.heap.size ≤ j := HC.out.sv j e.symm; omega
        have hpw : p < w.heap.size := HH.out.blk.lt
        have hgw : gv < w.heap.size := (own_blk HH.out.wr).1.lt
        have hsz3 : (w2.alloc (.cells #[.int .i64 (X.s : Int), .slice (some ⟨g2, 0, none⟩) 64 cap2] 129)).heap.size = w2.heap.size + 1 := by simp
        exact ⟨f1, (hgrow4.cell_far ⟨p, 1, none⟩ (by show p < _; omega) (hne p hpw)).trans hHeld.2.1, (hgrow4.cell_far ⟨gv, k * 2, none⟩ (by show gv < _; omega) (hne gv hgw)).trans hHeld.2.2.1, (hgrow4.cell_far ⟨gv, k * 2 + 1, none⟩ (by show gv < _; omega) (hne gv hgw)).trans hHeld.2.2.2⟩
      refine hK.out _ _ (fun _ => hS4) ?_
      clear hK K hHeld hHA hgrow4 hat4 hlt4 hown4
      have HU : Hid (RCp w (w4.setCell ⟨c, 1, none⟩ (.slice (some ⟨g4, 0, none⟩) (T.length + 1) cap4)) c n d ws (k + 1)) := by
        refine ⟨HQ.out.below.trans (f4.below hszw (fun j h => h)), ?_⟩
        rw [HTk.out]
        exact f3.mono (fun j _ h => h.elim id (fun h => by omega))
      clear f3 f4
      simp only [Act.put, List.setIfInBounds_toArray, List.set_cons_zero, List.set_cons_succ]
      refine wpAnyL_ready (rs := [26]) (by kernel_rfl) (by simp) ?_
      refine AllReadyL.cons (by simp; rfl) (fun K hK => ?_) AllReadyL.nil
      go_simp
      refine hK.out _ _ (fun _ => hS4) ?_
      clear hK K
      refine wpAnyL_ready (rs := [27]) (by kernel_rfl) (by simp) ?_
      refine AllReadyL.cons (by simp; rfl) (fun K hK => ?_) AllReadyL.nil
      go_simp
      refine hK.out _ _ (fun _ => hS4) ?_
      clear hK K
      refine wpAnyL_ready (rs := [28]) (by kernel_rfl) (by simp) ?_
      refine AllReadyL.cons (by simp; rfl) (fun K hK => ?_) AllReadyL.nil
      go_simp
      refine hK.out _ _ (fun h => absurd rfl h) ?_
      clear hK K
      refine wpAnyL_done (by kernel_rfl) (NoPanic.normal ?_) _
      clear f1 f2 hS4
      go_wp2
      go_roundw
      case rel => exact ⟨k + 1, by omega, by go_num, HU⟩
      case measure => simp [intOf]; omega
    · obtain rfl : k = ws.length := by omega
      have HD : Hid (Ref wr (fun j => w.heap.size ≤ j) c n d ws ∧ Below w.heap.size w wr) := ⟨by have := HQ.out.ref; rw [List.take_of_length_le (Nat.le_refl _)] at this; exact this, HQ.out.below⟩
      obtain ⟨pv, cv, rfl, _⟩ := own_slice HH.out.wr
      clear HQ h1
      go_wp2
      go_ret
      exact ⟨_, rfl, HD.out.1, HD.out.2⟩
end Go.Proofs.YtmcpjokbkkfgfaaGreatDoor

/-
  brought from the sector seat.
-/
namespace Go.Proofs.YtmcpjokbkkfgfaaGreatDoor
open Go.RowKit

set_option maxHeartbeats 1000000 in
set_option maxRecDepth 100000 in
theorem rnew_bad (i : Int) (w : World) (h : i < 1 ∨ 4096 < i) : Calls Tryz.prog 6 #[.int .i64 i] w fun e w' => e = .returned (.tuple #[.pointer none, .int .i64 2]) ∧ w = w' := by
  rcases h with h | h
  · go_enter Tryz.func6, Tryz.ntmps6
    go_wp2
    go_ret2
    exact ⟨rfl, rfl⟩
  · have c1 : ¬ i < 1 := by omega
    go_enter Tryz.func6, Tryz.ntmps6
    go_wp2
    go_ret2
    exact ⟨rfl, rfl⟩
set_option maxHeartbeats 1000000 in
set_option maxRecDepth 100000 in
theorem rnew_good (n : Nat) (w : World) (h1 : 1 ≤ n) (h2 : n ≤ 4096) : Calls Tryz.prog 6 #[.int .i64 n] w fun e w' => ∃ p, e = .returned (.tuple #[.pointer (some ⟨p, 0, none⟩), .int .i64 0]) ∧ Ref w' (fun k => w.heap.size ≤ k) p n (List.replicate (64 * n) 0) [] ∧ Below w.heap.size w w' := by
  obtain ⟨i0, hi, hz0, hz1, hz2⟩ := info_parts info5
  have hmul : IntKind.i64.wrap ((n : Int) * 64) = (n : Int) * 64 := by rw [IntKind.wrap_i64]; omega
  have hmk := run_make (P := Tryz.prog) w 51 5 i0 _ Tryz.underlying51 hi hz0 .i64 .i64 ((n : Int) * 64) ((n : Int) * 64) (by omega) (Int.le_refl _) (by rw [hz2]; omega) (by omega)
  rw [hz1, show ((n : Int) * 64).toNat = n * 64 by omega] at hmk
  simp only [Nat.mul_one, Value.cells] at hmk
  have HO : Hid ((w.alloc (.cells (madeCells #[.int .u8 0] (n * 64)) 5)).ownsRow w.heap.size 5 1 (.slice (some ⟨w.heap.size, 0, none⟩) (n * 64) (n * 64)) (n * 64) (U8 (List.replicate (64 * n) 0))) := by
    refine full_of_row (Nat.le_refl _) (by simp; omega) (by unfold maxLen; omega) ?_
    rw [heap_alloc_new, U8, List.map_replicate]
    exact congrArg (fun c => some (Obj.cells c 5 (0, 0))) ((made_rep 1 (Value.int .u8 0) (by omega) (n * 64)).trans (by rw [Nat.mul_comm]))
  obtain ⟨ob, hob⟩ : ∃ ob, Obj.cells (madeCells #[.int .u8 0] (n * 64)) 5 = ob := ⟨_, rfl⟩
  rw [hob] at hmk HO
  clear hob
  have c1 : ¬ (n : Int) < 1 := by omega
  have c2 : ¬ (4096 : Int) < (n : Int) := by omega
  go_enter Tryz.func6, Tryz.ntmps6
  go_wp2
  go_ret2
  obtain ⟨f1, f2⟩ := ref_fin (n := n) (below_alloc w ob) HO.out (by omega) h1 h2 (Bytes.rep _ _ (by omega))
  rw [World.size_alloc] at f1
  exact ⟨_, rfl, f1, f2⟩
end Go.Proofs.YtmcpjokbkkfgfaaGreatDoor

/-
  Layer 9, the document's log: how it lies; Used, Sector, may.
-/
namespace Go.Proofs.YtmcpjokbkkfgfaaGreatDoor
open Go.RowKit


/-- the document's log: as the program's, but that the last image's block stays where a transaction is done -/
abbrev wb (g : Lg) (b : Int) : Lg := { g with last := b }
abbrev HAt (w : World) (L : Nat) (dp : Option Addr) (g : Lg) (b : Int) : Prop := LAt 85 w L (lcells dp (wb g b))
section
variable {w : World} {L : Nat} {dp : Option Addr} {g : Lg} {b : Int}
theorem HAt.c0 (h : HAt w L dp g b) : w.cell? ⟨L, 0, none⟩ = some (.pointer dp) := LAt.cell h 0
theorem HAt.c1 (h : HAt w L dp g b) : w.cell? ⟨L, 1, none⟩ = some (.int .i64 g.c.bl) := LAt.cell h 1
theorem HAt.c2 (h : HAt w L dp g b) : w.cell? ⟨L, 2, none⟩ = some (.int .i64 g.c.lc) := LAt.cell h 2
theorem HAt.c3 (h : HAt w L dp g b) : w.cell? ⟨L, 3, none⟩ = some (.int .i64 g.c.mr) := LAt.cell h 3
theorem HAt.c6 (h : HAt w L dp g b) : w.cell? ⟨L, 6, none⟩ = some (.int .u64 g.life) := LAt.cell h 6
theorem HAt.c7 (h : HAt w L dp g b) : w.cell? ⟨L, 7, none⟩ = some (.int .u64 g.tail) := LAt.cell h 7
theorem HAt.c8 (h : HAt w L dp g b) : w.cell? ⟨L, 8, none⟩ = some (.int .u64 g.fin) := LAt.cell h 8
theorem HAt.c9 (h : HAt w L dp g b) : w.cell? ⟨L, 9, none⟩ = some (.int .u64 g.mark) := LAt.cell h 9
theorem HAt.c10 (h : HAt w L dp g b) : w.cell? ⟨L, 10, none⟩ = some (.int .i64 g.imgs) := LAt.cell h 10
theorem HAt.c11 (h : HAt w L dp g b) : w.cell? ⟨L, 11, none⟩ = some (.int .i64 b) := LAt.cell h 11
theorem HAt.free (h : HAt w L dp g b) (j : Nat) : w.frozen? ⟨L, j, none⟩ = false := frozen_of_row w L j _ 85 h
theorem HAt.rangeC (h : HAt w L dp g b) : w.rangeAt L 1 (ccells g.c) := fun j v hv => by
  have hj : j < 5 := by
    have := (List.getElem?_eq_some_iff.1 hv).1
    simpa [ccells] using this
  rw [LAt.cell h (1 + j)]
  rw [← hv]
  match j with
  | 0 => rfl
  | 1 => rfl
  | 2 => rfl
  | 3 => rfl
  | 4 => rfl
  | j + 5 => omega
theorem HAt.loadC (h : HAt w L dp g b) : (Instr.loadAt 23 (.pointer (some ⟨L, 1, none⟩))).run Tryz.prog w = .ok (.agg (ccells g.c).toArray) w :=
  run_loadAt_mid w L 1 23 (ccells g.c) _ (HAt.rangeC h) Tryz.underlying23 rfl (by rw [size23]; rfl)
theorem HAt.setF (h : HAt w L dp g b) (x : Int) : HAt (w.setCell ⟨L, 8, none⟩ (.int .u64 x)) L dp { g with fin := x } b := LAt.set h 8 _
theorem HAt.setT (h : HAt w L dp g b) (x : Int) : HAt (w.setCell ⟨L, 7, none⟩ (.int .u64 x)) L dp { g with tail := x } b := LAt.set h 7 _
theorem HAt.setM (h : HAt w L dp g b) (x : Int) : HAt (w.setCell ⟨L, 9, none⟩ (.int .u64 x)) L dp { g with mark := x } b := LAt.set h 9 _
theorem HAt.setI (h : HAt w L dp g b) (x : Int) : HAt (w.setCell ⟨L, 10, none⟩ (.int .i64 x)) L dp { g with imgs := x } b := LAt.set h 10 _
theorem HAt.setB (h : HAt w L dp g b) (x : Int) : HAt (w.setCell ⟨L, 11, none⟩ (.int .i64 x)) L dp g x := LAt.set h 11 _
theorem HAt.setD (h : HAt w L dp g b) (q : Option Addr) : HAt (w.setCell ⟨L, 0, none⟩ (.pointer q)) L q g b := LAt.set h 0 _
end
/-- **the document's log with its disk** -/
structure RL (w : World) (S : Nat → Prop) (L p : Nat) (d : List Int) (ws : List Wr) (g : Lg) (b : Int) : Prop where
  log : HAt w L (some ⟨p, 0, none⟩) g b
  dsk : Ref w (fun k => S k ∧ k ≠ L) p g.sz d ws
  sl : S L
  ok : g.Ok
  bk : 0 < g.imgs → b = g.last
section
variable {w w' : World} {S T : Nat → Prop} {L p : Nat} {d : List Int} {ws : List Wr} {g : Lg} {b : Int}
theorem RL.later (h : RL w S L p d ws g b) (hb : Below w.heap.size w w') : RL w' S L p d ws g b := ⟨LAt.later h.log hb, h.dsk.later hb, h.sl, h.ok, h.bk⟩
theorem RL.kept (h : RL w S L p d ws g b) (hk : Kept T w w') (hd : ∀ k, S k → T k → False) : RL w' S L p d ws g b :=
  ⟨(hk.block L (LAt.lt h.log) (fun t => hd L h.sl t)).trans h.log, h.dsk.kept hk (fun k s t => hd k s.1 t), h.sl, h.ok, h.bk⟩
theorem RL.mono (h : RL w S L p d ws g b) (hs : ∀ k, k < w.heap.size → S k → T k) : RL w T L p d ws g b :=
  ⟨h.log, h.dsk.mono fun k hk s => ⟨hs k hk s.1, s.2⟩, hs L (LAt.lt h.log) h.sl, h.ok, h.bk⟩
/-- the disk has been turned, the log has not -/
theorem RL.wrote (h : RL w S L p d ws g b) {d' : List Int} {ws' : List Wr} (hd : Ref w' (More (fun k => S k ∧ k ≠ L) w) p g.sz d' ws') (hk : Kept (fun k => S k ∧ k ≠ L) w w') : RL w' (More S w) L p d' ws' g b ∧ Kept S w w' := by
  have hL := LAt.lt h.log
  refine ⟨⟨(hk.block L hL (fun t => t.2 rfl)).trans h.log, hd.mono fun k _ s => ?_, .inl h.sl, h.ok, h.bk⟩, ⟨hk.os, hk.tape, hk.output, hk.size, fun k h1 h2 => hk.block k h1 fun t => h2 t.1⟩⟩
  rcases s with s | s
  · exact ⟨.inl s.1, s.2⟩
  · exact ⟨.inr s, by omega⟩
theorem RL.flushed (h : RL w S L p d ws g b) {d' : List Int} {ws' : List Wr} (hd : Ref w' (fun k => S k ∧ k ≠ L) p g.sz d' ws') (hk : Kept (fun k => S k ∧ k ≠ L) w w') : RL w' S L p d' ws' g b ∧ Kept S w w' := by
  have hL := LAt.lt h.log
  exact ⟨⟨(hk.block L hL (fun t => t.2 rfl)).trans h.log, hd, h.sl, h.ok, h.bk⟩, ⟨hk.os, hk.tape, hk.output, hk.size, fun k h1 h2 => hk.block k h1 fun t => h2 t.1⟩⟩
/-- a cell of the log has been stored -/
theorem RL.set (h : RL w S L p d ws g b) (j : Nat) (v : Value) {g' : Lg} {b' : Int} (hg : HAt (w.setCell ⟨L, j, none⟩ v) L (some ⟨p, 0, none⟩) g' b') (hc : g'.c = g.c) (ok : g'.Ok) (bk : 0 < g'.imgs → b' = g'.last) : RL (w.setCell ⟨L, j, none⟩ v) S L p d ws g' b' := by
  have hz : g'.sz = g.sz := by unfold Lg.sz; rw [hc]
  refine ⟨hg, ?_, h.sl, ok, bk⟩
  rw [hz]
  exact h.dsk.kept (T := fun k => k = L) ⟨rfl, rfl, rfl, by simp [World.setCell], fun k _ hk => heap_setCell_other w ⟨L, j, none⟩ k v hk⟩ (fun k s t => s.2 t)
end
theorem lcs_cell {w : World} {L : Nat} {dp : Option Addr} {g : Lg} {b : Int} (h : HAt w L dp g b) : ∀ w', Below w.heap.size w w' → HAt w' L dp g b := fun _ hb => LAt.later h hb
set_option maxHeartbeats 1000000 in
set_option maxRecDepth 100000 in
theorem rused_at {w : World} {L : Nat} {dp : Option Addr} {g : Lg} {b : Int} (h : HAt w L dp g b) (ok : g.Ok) : Calls Tryz.prog 60 #[.pointer (some ⟨L, 0, none⟩)] w fun e w' => e = .returned (.int .i64 (g.fin - g.tail)) ∧ Below w.heap.size w w' := by
  have HG : Hid (HAt w L dp g b) := h
  have hn : 0 ≤ g.fin - g.tail ∧ g.fin - g.tail ≤ 64 := by have := ok.tm; have := ok.mf; have := ok.us; have := ok.cf.2.1; omega
  have k1 : IntKind.u64.wrap (g.fin - g.tail) = g.fin - g.tail := G.wrap_u hn.1 (by omega)
  have k2 : IntKind.i64.wrap (g.fin - g.tail) = g.fin - g.tail := by rw [IntKind.wrap_i64]; omega
  clear h ok
  go_enter Tryz.func60, Tryz.ntmps60
  go_wp2_with fail
  refine wp_region_noPanic ?_
  refine wp_region_held_drew (S := fun w' => Below w.heap.size w w') (by kernel_rfl) (below_drawn 1) (fun hHeld => ?_)
  have D : Hid (Below w.heap.size w w.drew) := hHeld
  generalize w.drew = wd at *
  refine wpAnyH_take (i := 0) (v := ?va1) (by simp; rfl) (by kernel_rfl) (by kernel_rfl) (by kernel_rfl) (fun _ _ _ h => h) (Or.inl ⟨by rfl, ?ya1⟩) hHeld ?ra1
  case ya1 => intro w hSw; clear hSw; go_simp; with_reducible rfl
  simp only [Act.put, List.setIfInBounds_toArray, List.set_cons_zero, List.set_cons_succ]
  refine wpAnyH_take (i := 1) (v := ?va2) (by simp; rfl) (by kernel_rfl) (by kernel_rfl) (by kernel_rfl) (fun _ _ _ h => h) (Or.inl ⟨by rfl, ?ya2⟩) hHeld ?ra2
  case ya2 => intro w hSw; clear hSw; go_simp; with_reducible rfl
  simp only [Act.put, List.setIfInBounds_toArray, List.set_cons_zero, List.set_cons_succ]
  refine wpAnyH_take (i := 2) (v := ?va3) (by simp; rfl) (by kernel_rfl) (by kernel_rfl) (by kernel_rfl) (fun _ _ _ h => h) (Or.inl ⟨by rfl, ?ya3⟩) hHeld ?ra3
  case ya3 => intro w hSw; clear hSw; go_simp; with_reducible rfl
  simp only [Act.put, List.setIfInBounds_toArray, List.set_cons_zero, List.set_cons_succ]
  refine wpAnyH_take (i := 3) (v := ?va4) (by simp; rfl) (by kernel_rfl) (by kernel_rfl) (by kernel_rfl) (fun _ _ _ h => h) (Or.inl ⟨by rfl, ?ya4⟩) hHeld ?ra4
  case ya4 => intro w hSw; have z := HAt.c8 (LAt.later HG.out hSw); clear hSw; go_simp; with_reducible rfl
  simp only [Act.put, List.setIfInBounds_toArray, List.set_cons_zero, List.set_cons_succ]
  refine wpAnyH_take (i := 4) (v := ?va5) (by simp; rfl) (by kernel_rfl) (by kernel_rfl) (by kernel_rfl) (fun _ _ _ h => h) (Or.inl ⟨by rfl, ?ya5⟩) hHeld ?ra5
  case ya5 => intro w hSw; clear hSw; go_simp; with_reducible rfl
  simp only [Act.put, List.setIfInBounds_toArray, List.set_cons_zero, List.set_cons_succ]
  refine wpAnyH_take (i := 5) (v := ?va6) (by simp; rfl) (by kernel_rfl) (by kernel_rfl) (by kernel_rfl) (fun _ _ _ h => h) (Or.inl ⟨by rfl, ?ya6⟩) hHeld ?ra6
  case ya6 => intro w hSw; clear hSw; go_simp; with_reducible rfl
  simp only [Act.put, List.setIfInBounds_toArray, List.set_cons_zero, List.set_cons_succ]
  refine wpAnyH_take (i := 6) (v := ?va7) (by simp; rfl) (by kernel_rfl) (by kernel_rfl) (by kernel_rfl) (fun _ _ _ h => h) (Or.inl ⟨by rfl, ?ya7⟩) hHeld ?ra7
  case ya7 => intro w hSw; clear hSw; go_simp; with_reducible rfl
  simp only [Act.put, List.setIfInBounds_toArray, List.set_cons_zero, List.set_cons_succ]
  refine wpAnyH_take (i := 7) (v := ?va8) (by simp; rfl) (by kernel_rfl) (by kernel_rfl) (by kernel_rfl) (fun _ _ _ h => h) (Or.inl ⟨by rfl, ?ya8⟩) hHeld ?ra8
  case ya8 => intro w hSw; have z := HAt.c7 (LAt.later HG.out hSw); clear hSw; go_simp; with_reducible rfl
  simp only [Act.put, List.setIfInBounds_toArray, List.set_cons_zero, List.set_cons_succ]
  refine wpAnyH_take (i := 8) (v := ?va9) (by simp; rfl) (by kernel_rfl) (by kernel_rfl) (by kernel_rfl) (fun _ _ _ h => h) (Or.inl ⟨by rfl, ?ya9⟩) hHeld ?ra9
  case ya9 => intro w hSw; clear hSw; go_simp; with_reducible rfl
  simp only [Act.put, List.setIfInBounds_toArray, List.set_cons_zero, List.set_cons_succ]
  refine wpAnyH_take (i := 9) (v := ?va10) (by simp; rfl) (by kernel_rfl) (by kernel_rfl) (by kernel_rfl) (fun _ _ _ h => h) (Or.inl ⟨by rfl, ?ya10⟩) hHeld ?ra10
  case ya10 => intro w hSw; clear hSw; go_simp; with_reducible rfl
  simp only [Act.put, List.setIfInBounds_toArray, List.set_cons_zero, List.set_cons_succ]
  refine wpAnyH_take (i := 10) (v := ?va11) (by simp; rfl) (by kernel_rfl) (by kernel_rfl) (by kernel_rfl) (fun _ _ _ h => h) (Or.inl ⟨by rfl, ?ya11⟩) hHeld ?ra11
  case ya11 => intro w hSw; clear hSw; go_simp; with_reducible rfl
  simp only [Act.put, List.setIfInBounds_toArray, List.set_cons_zero, List.set_cons_succ]
  clear hHeld
  refine wpAnyH_done (by kernel_rfl) (NoPanic.normal ?_) _
  go_wp2
  go_ret
  exact ⟨rfl, D.out⟩
set_option maxHeartbeats 1000000 in
set_option maxRecDepth 100000 in
theorem rsector_at {w : World} {L : Nat} {dp : Option Addr} {g : Lg} {b : Int} (h : HAt w L dp g b) (ok : g.Ok) (p : Int) (h0 : 0 ≤ p) : Calls Tryz.prog 56 #[.pointer (some ⟨L, 0, none⟩), .int .u64 p] w fun e w' => e = .returned (.int .i64 (secN g p)) ∧ Below w.heap.size w w' := by
  have HG : Hid (HAt w L dp g b) := h
  have HN : Hid (secN g p = 1 + g.c.bl + p % g.c.lc) := rfl
  have hb := ok.cf.1
  have hl := ok.cf.2.1
  have hm0 := Int.emod_nonneg p (show g.c.lc ≠ 0 by omega)
  have hm1 := Int.emod_lt_of_pos p (show 0 < g.c.lc by omega)
  have k0 : IntKind.u64.wrap g.c.lc = g.c.lc := G.wrap_u (by omega) (by omega)
  have k1 : IntKind.i64.wrap (1 + g.c.bl) = 1 + g.c.bl := by rw [IntKind.wrap_i64]; omega
  have k2 : IntKind.i64.wrap (1 + g.c.bl + p % g.c.lc) = 1 + g.c.bl + p % g.c.lc := by rw [IntKind.wrap_i64]; omega
  have k3 : IntKind.i64.wrap (p % g.c.lc) = p % g.c.lc := by rw [IntKind.wrap_i64]; omega
  have k4 : p.tmod g.c.lc = p % g.c.lc := Int.tmod_eq_emod_of_nonneg h0
  have k5 : IntKind.u64.wrap (p % g.c.lc) = p % g.c.lc := G.wrap_u (by omega) (by omega)
  have k6 : ¬ g.c.lc = 0 := by omega
  clear h ok
  go_enter Tryz.func56, Tryz.ntmps56
  go_wp2_with fail
  refine wp_region_noPanic ?_
  refine wp_region_held_drew (S := fun w' => Below w.heap.size w w') (by kernel_rfl) (below_drawn 1) (fun hHeld => ?_)
  have D : Hid (Below w.heap.size w w.drew) := hHeld
  generalize w.drew = wd at *
  refine wpAnyH_take (i := 0) (v := ?va12) (by simp; rfl) (by kernel_rfl) (by kernel_rfl) (by kernel_rfl) (fun _ _ _ h => h) (Or.inl ⟨by rfl, ?ya12⟩) hHeld ?ra12
  case ya12 => intro w hSw; clear hSw; go_simp; with_reducible rfl
  simp only [Act.put, List.setIfInBounds_toArray, List.set_cons_zero, List.set_cons_succ]
  refine wpAnyH_take (i := 1) (v := ?va13) (by simp; rfl) (by kernel_rfl) (by kernel_rfl) (by kernel_rfl) (fun _ _ _ h => h) (Or.inl ⟨by rfl, ?ya13⟩) hHeld ?ra13
  case ya13 => intro w hSw; clear hSw; go_simp; with_reducible rfl
  simp only [Act.put, List.setIfInBounds_toArray, List.set_cons_zero, List.set_cons_succ]
  refine wpAnyH_take (i := 2) (v := ?va14) (by simp; rfl) (by kernel_rfl) (by kernel_rfl) (by kernel_rfl) (fun _ _ _ h => h) (Or.inl ⟨by rfl, ?ya14⟩) hHeld ?ra14
  case ya14 => intro w hSw; clear hSw; go_simp; with_reducible rfl
  simp only [Act.put, List.setIfInBounds_toArray, List.set_cons_zero, List.set_cons_succ]
  refine wpAnyH_take (i := 3) (v := ?va15) (by simp; rfl) (by kernel_rfl) (by kernel_rfl) (by kernel_rfl) (fun _ _ _ h => h) (Or.inl ⟨by rfl, ?ya15⟩) hHeld ?ra15
  case ya15 => intro w hSw; clear hSw; go_simp; with_reducible rfl
  simp only [Act.put, List.setIfInBounds_toArray, List.set_cons_zero, List.set_cons_succ]
  refine wpAnyH_take (i := 4) (v := ?va16) (by simp; rfl) (by kernel_rfl) (by kernel_rfl) (by kernel_rfl) (fun _ _ _ h => h) (Or.inl ⟨by rfl, ?ya16⟩) hHeld ?ra16
  case ya16 => intro w hSw; have z := HAt.c1 (LAt.later HG.out hSw); clear hSw; go_simp; with_reducible rfl
  simp only [Act.put, List.setIfInBounds_toArray, List.set_cons_zero, List.set_cons_succ]
  refine wpAnyH_take (i := 5) (v := ?va17) (by simp; rfl) (by kernel_rfl) (by kernel_rfl) (by kernel_rfl) (fun _ _ _ h => h) (Or.inl ⟨by rfl, ?ya17⟩) hHeld ?ra17
  case ya17 => intro w hSw; clear hSw; go_simp; with_reducible rfl
  simp only [Act.put, List.setIfInBounds_toArray, List.set_cons_zero, List.set_cons_succ]
  refine wpAnyH_take (i := 6) (v := ?va18) (by simp; rfl) (by kernel_rfl) (by kernel_rfl) (by kernel_rfl) (fun _ _ _ h => h) (Or.inl ⟨by rfl, ?ya18⟩) hHeld ?ra18
  case ya18 => intro w hSw; clear hSw; go_simp; with_reducible rfl
  simp only [Act.put, List.setIfInBounds_toArray, List.set_cons_zero, List.set_cons_succ]
  refine wpAnyH_take (i := 7) (v := ?va19) (by simp; rfl) (by kernel_rfl) (by kernel_rfl) (by kernel_rfl) (fun _ _ _ h => h) (Or.inl ⟨by rfl, ?ya19⟩) hHeld ?ra19
  case ya19 => intro w hSw; clear hSw; go_simp; with_reducible rfl
  simp only [Act.put, List.setIfInBounds_toArray, List.set_cons_zero, List.set_cons_succ]
  refine wpAnyH_take (i := 8) (v := ?va20) (by simp; rfl) (by kernel_rfl) (by kernel_rfl) (by kernel_rfl) (fun _ _ _ h => h) (Or.inl ⟨by rfl, ?ya20⟩) hHeld ?ra20
  case ya20 => intro w hSw; clear hSw; go_simp; with_reducible rfl
  simp only [Act.put, List.setIfInBounds_toArray, List.set_cons_zero, List.set_cons_succ]
  refine wpAnyH_take (i := 9) (v := ?va21) (by simp; rfl) (by kernel_rfl) (by kernel_rfl) (by kernel_rfl) (fun _ _ _ h => h) (Or.inl ⟨by rfl, ?ya21⟩) hHeld ?ra21
  case ya21 => intro w hSw; clear hSw; go_simp; with_reducible rfl
  simp only [Act.put, List.setIfInBounds_toArray, List.set_cons_zero, List.set_cons_succ]
  refine wpAnyH_take (i := 10) (v := ?va22) (by simp; rfl) (by kernel_rfl) (by kernel_rfl) (by kernel_rfl) (fun _ _ _ h => h) (Or.inl ⟨by rfl, ?ya22⟩) hHeld ?ra22
  case ya22 => intro w hSw; clear hSw; go_simp; with_reducible rfl
  simp only [Act.put, List.setIfInBounds_toArray, List.set_cons_zero, List.set_cons_succ]
  refine wpAnyH_take (i := 11) (v := ?va23) (by simp; rfl) (by kernel_rfl) (by kernel_rfl) (by kernel_rfl) (fun _ _ _ h => h) (Or.inl ⟨by rfl, ?ya23⟩) hHeld ?ra23
  case ya23 => intro w hSw; have z := HAt.c2 (LAt.later HG.out hSw); clear hSw; go_simp; with_reducible rfl
  simp only [Act.put, List.setIfInBounds_toArray, List.set_cons_zero, List.set_cons_succ]
  refine wpAnyH_take (i := 12) (v := ?va24) (by simp; rfl) (by kernel_rfl) (by kernel_rfl) (by kernel_rfl) (fun _ _ _ h => h) (Or.inl ⟨by rfl, ?ya24⟩) hHeld ?ra24
  case ya24 => intro w hSw; clear hSw; go_simp; with_reducible rfl
  simp only [Act.put, List.setIfInBounds_toArray, List.set_cons_zero, List.set_cons_succ]
  refine wpAnyH_take (i := 13) (v := ?va25) (by simp; rfl) (by kernel_rfl) (by kernel_rfl) (by kernel_rfl) (fun _ _ _ h => h) (Or.inl ⟨by rfl, ?ya25⟩) hHeld ?ra25
  case ya25 => intro w hSw; clear hSw; go_simp; with_reducible rfl
  simp only [Act.put, List.setIfInBounds_toArray, List.set_cons_zero, List.set_cons_succ]
  refine wpAnyH_take (i := 14) (v := ?va26) (by simp; rfl) (by kernel_rfl) (by kernel_rfl) (by kernel_rfl) (fun _ _ _ h => h) (Or.inl ⟨by rfl, ?ya26⟩) hHeld ?ra26
  case ya26 => intro w hSw; clear hSw; go_simp; with_reducible rfl
  simp only [Act.put, List.setIfInBounds_toArray, List.set_cons_zero, List.set_cons_succ]
  refine wpAnyH_take (i := 15) (v := ?va27) (by simp; rfl) (by kernel_rfl) (by kernel_rfl) (by kernel_rfl) (fun _ _ _ h => h) (Or.inl ⟨by rfl, ?ya27⟩) hHeld ?ra27
  case ya27 => intro w hSw; clear hSw; go_simp; with_reducible rfl
  simp only [Act.put, List.setIfInBounds_toArray, List.set_cons_zero, List.set_cons_succ]
  refine wpAnyH_take (i := 16) (v := ?va28) (by simp; rfl) (by kernel_rfl) (by kernel_rfl) (by kernel_rfl) (fun _ _ _ h => h) (Or.inl ⟨by rfl, ?ya28⟩) hHeld ?ra28
  case ya28 => intro w hSw; clear hSw; go_simp; with_reducible rfl
  simp only [Act.put, List.setIfInBounds_toArray, List.set_cons_zero, List.set_cons_succ]
  clear hHeld
  refine wpAnyH_done (by kernel_rfl) (NoPanic.normal ?_) _
  go_wp2
  go_ret
  exact ⟨by rw [HN.out]; rfl, D.out⟩
end Go.Proofs.YtmcpjokbkkfgfaaGreatDoor

/-
  Layer 6: the document's Check, put, Encode.
-/
namespace Go.Proofs.YtmcpjokbkkfgfaaGreatDoor.R
open Go.RowKit
/-- the goal is a list of operations: a law is tried there alone -/
theorem at_seq {P : Program} {ops : Array Oper} {rest : List Oper} {o : Oper} {a : Act} {w : World} {Q : Exit → Act → World → Prop} (h : wpList P ops Q (o :: rest) a w) : wpList P ops Q (o :: rest) a w := h
theorem chk_both (r : Rec) : chk r = if (decide (r.pos ≤ 4611686018427387904) && (imageB r || commitB r)) = true then 0 else 60 := rfl
def commitR (r : Rec) : Bool := r.kind == 2 && (r.block == 0 && (decide (r.val = zs 32) && (decide (0 ≤ r.images) && decide (r.images ≤ 16))))
theorem commitR_eq (r : Rec) : commitR r = commitB r := by
  unfold commitR commitB
  cases (r.kind == 2) <;> cases (r.block == 0) <;> cases (decide (r.val = zs 32)) <;> cases (decide (0 ≤ r.images)) <;> cases (decide (r.images ≤ 16)) <;> rfl
set_option maxHeartbeats 2000000 in
set_option maxRecDepth 100000 in
theorem refCheck_any (r : Rec) (hv : r.val.length = 32) (w : World) :
    Calls Tryz.prog 101 #[.agg (rcells r).toArray] w fun e w' => e = .returned (.int .i64 (chk r)) ∧ Below w.heap.size w w' := by
  have hA := RAt.new 87 w r
  have c0 := hA.c0
  have c1 := hA.c1
  have c2 := hA.c2
  have c4 := hA.c35 hv
  have L3 : Hid (_) := hA.load24 hv
  have B3 : Hid (_) := build24 (w.alloc (.cells (rcells r).toArray 87))
  have Q3 : Hid (_) := eql24 (w.alloc (.cells (rcells r).toArray 87)) r.val (zs 32) hv (zs_len 32)
  have HB : Hid (Below w.heap.size w (w.alloc (.cells (rcells r).toArray 87))) := below_alloc w _
  have HK : Hid (chk r = if (decide (r.pos ≤ 4611686018427387904) && (imageB r || commitR r)) = true then 0 else 60) := by show _ = _; rw [commitR_eq]; rfl
  clear hA hv
  go_enter Tryz.func101, Tryz.ntmps101
  go_wp2_with ((with_reducible refine at_seq ?_); (first | (refine wpList_load_is (by rfl) 49 rfl rfl L3.out ?_) | (refine wpList_build_is (vs := []) (by rfl) 49 rfl (by rfl) B3.out ?_) | (refine wpList_eql_is (by rfl) 49 rfl rfl rfl eqg24 Q3.out ?_)); simp only [Act.put, List.setIfInBounds_toArray, List.set_cons_zero, List.set_cons_succ])
  all_goals go_ret
  all_goals (refine ⟨?_, HB.out⟩)
  all_goals (rw [HK.out]; clear c0 c1 c2 c4 L3 B3 Q3 HB HK; unfold imageB commitR; simp_all <;> (intros; omega))
end Go.Proofs.YtmcpjokbkkfgfaaGreatDoor.R
