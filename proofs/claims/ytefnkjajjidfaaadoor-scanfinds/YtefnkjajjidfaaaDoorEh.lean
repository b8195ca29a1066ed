/-
  Layer 10, the functions: Newest.
-/
import Derived.Test.YtefnkjajjidfaaaDoorEg
namespace Go.Proofs.YtefnkjajjidfaaaDoor
open Go.RowKit Go.Maps


theorem lastV_wf {l : List Im} (h : ImsWf l) {b : Int} (hb : b ∈ blks l) : (lastV l b).length = 32 ∧ Bytes (lastV l b) ∧ i64 b := by
  induction l with
  | nil => cases hb
  | cons x xs ih =>
    by_cases c : b ∈ blks xs
    · rw [lastV_in c]; exact ih (fun y hy => h y (List.mem_cons.2 (.inr hy))) c
    · have e : b = x.b := (List.mem_cons.1 (show b ∈ x.b :: blks xs from hb)).resolve_right c
      rw [e] at c ⊢
      rw [lastV_new c]
      have := h x (List.mem_cons.2 (.inl rfl))
      exact ⟨this.len, this.byte, this.b⟩
theorem sizeT : (Tryd.prog.info? 33).map (·.size) = some 2 := by kernel_rfl
theorem allocT (w : World) : (Instr.alloc 33 true (.tuple #[])).run Tryd.prog w = .ok (.pointer (some ⟨w.heap.size, 0, none⟩)) (w.alloc (.cells ([.int .u64 0, .slice none 0 0] : List Value).toArray 33)) := by
  simp only [Instr.alloc, Sem.run_bind, zv 33 _ zeroT, Result.andThen_ok]
  simp [newVar, newRow, Value.cells]
theorem store_newT (w : World) (p : Int) (q : Option Addr) (n m : Nat) : (Instr.storeAt 33 (.pointer (some ⟨w.heap.size, 0, none⟩)) (.agg #[.int .u64 p, .slice q n m])).run Tryd.prog (w.alloc (.cells ([.int .u64 0, .slice none 0 0] : List Value).toArray 33)) = .ok () (w.alloc (.cells #[.int .u64 p, .slice q n m] 33)) := by
  have := (LAt.new 33 w [.int .u64 0, .slice none 0 0]).store (ds := [.int .u64 p, .slice q n m]) sizeT rfl (all_oneCell_toArray fun v hv => by
    simp only [List.mem_cons, List.not_mem_nil, or_false] at hv
    rcases hv with rfl | rfl <;> rfl)
  rw [setRow_alloc] at this
  exact this
/-- a transaction's two cells, read -/
theorem load_tx {w : World} {b o : Nat} {p : Int} {u : Value} (h0 : w.cell? ⟨b, o, none⟩ = some (.int .u64 p)) (h1 : w.cell? ⟨b, o + 1, none⟩ = some u) : (Instr.loadAt 33 (.pointer (some ⟨b, o, none⟩))).run Tryd.prog w = .ok (.agg #[.int .u64 p, u]) w := by
  refine run_loadAt_mid w b o 33 [.int .u64 p, u] _ (fun j v hv => ?_) Tryd.underlying33 rfl sizeT
  have hj : j < 2 := (List.getElem?_eq_some_iff.1 hv).1
  have : j = 0 ∨ j = 1 := by omega
  rcases this with rfl | rfl
  · exact h0.trans hv
  · exact h1.trans hv
theorem take_flat (l : List TX) {k : Nat} {t : TX} (h : l[k]? = some t) : flat (l.take (k + 1)) = flat (l.take k) ++ t.ims := by
  have hk := (List.getElem?_eq_some_iff.1 h).1
  have e : l.take (k + 1) = l.take k ++ [t] := by
    rw [List.take_add_one, h]; rfl
  rw [e, flat_snoc]
theorem flat_le (l : List TX) (k : Nat) : (flat (l.take k)).length ≤ (flat l).length := by
  have e : flat l = flat (l.take k) ++ flat (l.drop k) := by
    have := List.take_append_drop k l
    simp only [flat]
    rw [← List.flatMap_append, this]
  rw [e, List.length_append]; omega
theorem flat_bd {l : List TX} {k : Nat} {t : TX} (h : l[k]? = some t) (j : Nat) : (flat (l.take k)).length + (t.ims.take j).length ≤ (flat l).length := by
  have h1 := flat_le l (k + 1)
  rw [take_flat l h, List.length_append] at h1
  have h2 : (t.ims.take j).length ≤ t.ims.length := by rw [List.length_take]; omega
  omega
theorem flat_take_wf {l : List TX} (h : TxsWf l) (k : Nat) : ImsWf (flat (l.take k)) := flat_wf fun t ht => h t (List.mem_of_mem_take ht)

set_option maxHeartbeats 4000000 in
set_option maxRecDepth 100000 in
theorem newest_any (q : Option Addr) (n c : Nat) (txs : List TX) (w : World) (h : XIn w q n txs) (hwf : TxsWf txs) (hn : n ≤ 2000000) (hf : (flat txs).length ≤ 2000000) :
    Calls Tryd.prog 9 #[.slice q n c] w fun e w' => ∃ v, e = .returned v ∧ IOwn w' w.heap.size v (nwS (flat txs)) ∧ Below w.heap.size w w' := by
  have hmm := @run_makeMap Tryd.prog
  have HX : Hid (XIn w q n txs) := h
  have HW : Hid (TxsWf txs) := hwf
  have HF : Hid ((flat txs).length ≤ 2000000) := hf
  have hlen : txs.length = n := h.len
  clear h hwf hf
  go_enter Tryd.func9, Tryd.ntmps9
  go_wp2
  go_loopw [14] (fun i wr => ∃ k : Nat, k ≤ n ∧ i = .int .i64 k ∧ Hid (wr.ownsMap Tryd.prog 3 RV w.heap.size (flat (txs.take k)).length (mapD (flat (txs.take k))) ∧ Below w.heap.size w wr)) (fun i _ => n - (intOf i).toNat)
  case atStart => exact ⟨0, Nat.zero_le _, rfl, World.ownsMap_made _ _ _ _, (Below.refl _ _).alloc (Nat.le_refl _) _⟩
  case round =>
    obtain ⟨k, hk, rfl, HI⟩ := hrel
    by_cases hlt : k < n
    · obtain ⟨t, htk⟩ : ∃ t, txs[k]? = some t := ⟨_, List.getElem?_eq_getElem (by omega)⟩
      have HXr : XIn wr q n txs := HX.out.later HI.out.2
      obtain ⟨g, o, rfl, hcell⟩ := HXr.cells (by omega)
      obtain ⟨q2, c2, e0, e1, mi, m1, m2⟩ := hcell k t htk
      have hm : t.ims.length ≤ 2000000 := by have := flat_bd htk t.ims.length; rw [List.take_length] at this; have := HF.out; omega
      have L17 : Hid (_) := load_tx e0 e1
      have A5 : Hid (_) := allocT wr
      have T5 : Hid (_) := store_newT wr t.p q2 t.ims.length c2
      obtain ⟨w5, hw5⟩ : ∃ y, y = wr.alloc (.cells #[.int .u64 t.p, .slice q2 t.ims.length c2] 33) := ⟨_, rfl⟩
      have l5 : LAt 33 w5 wr.heap.size [.int .u64 t.p, .slice q2 t.ims.length c2] := by rw [hw5]; exact LAt.new 33 wr _
      have c51 : w5.cell? ⟨wr.heap.size, 1, none⟩ = some (.slice q2 t.ims.length c2) := LAt.cell l5 1
      rw [← hw5] at T5
      have HM : Hid (∀ W, Below w.heap.size w W → MIn W q2 t.ims.length t.ims) := by
        intro W hW
        obtain ⟨g', o', e', hcell'⟩ := (HX.out.later hW).cells (by omega)
        obtain ⟨q3, c3, f0, f1, mi3, -, -⟩ := hcell' k t htk
        cases e'
        have f2 := (HX.out.cells (by omega))
        obtain ⟨g4, o4, e4, hc4⟩ := f2
        cases e4
        obtain ⟨q5, c5, k0, k1, -, -, -⟩ := hc4 k t htk
        have a1 : wr.cell? ⟨g, o + k * 2 + 1, none⟩ = some (.slice q5 t.ims.length c5) := (HI.out.2.cell (p := ⟨g, o + k * 2 + 1, none⟩) (World.block_lt_of_cell? w _ k1)).trans k1
        have a2 : W.cell? ⟨g, o + k * 2 + 1, none⟩ = some (.slice q5 t.ims.length c5) := (hW.cell (p := ⟨g, o + k * 2 + 1, none⟩) (World.block_lt_of_cell? w _ k1)).trans k1
        rw [e1] at a1
        rw [f1] at a2
        cases a1; cases a2
        exact mi3
      have I5 : Hid (w5.ownsMap Tryd.prog 3 RV w.heap.size (flat (txs.take k)).length (mapD (flat (txs.take k))) ∧ Below w.heap.size w w5) := by
        rw [hw5]; exact ⟨HI.out.1.alloc _, HI.out.2.alloc HI.out.2.size _⟩
      clear HXr hcell e0 e1 mi hw5 l5 HI
      go_wp2_with ((with_reducible refine at_ops ?_); (first | (refine wpList_load_is (by rfl) 33 rfl rfl L17.out ?_) | (refine wpList_alloc_is (by rfl) 33 rfl A5.out ?_) | (refine wpList_store_is (by rfl) 33 rfl rfl rfl T5.out ?_)); simp only [Act.put, List.setIfInBounds_toArray, List.set_cons_zero, List.set_cons_succ])
      clear L17 A5 T5 c51
      go_loopw [21] (fun i wr => ∃ j : Nat, j ≤ t.ims.length ∧ i = .int .i64 j ∧ Hid (wr.ownsMap Tryd.prog 3 RV w.heap.size ((flat (txs.take k)).length + j) (mapD (flat (txs.take k) ++ t.ims.take j)) ∧ Below w.heap.size w wr)) (fun i _ => t.ims.length - (intOf i).toNat)
      case atStart => exact ⟨0, Nat.zero_le _, rfl, by simpa using I5.out.1, I5.out.2⟩
      case round =>
        obtain ⟨j, hj, rfl, HJ⟩ := hrel
        clear I5
        by_cases hjl : j < t.ims.length
        · obtain ⟨x, hx⟩ : ∃ x, t.ims[j]? = some x := ⟨_, List.getElem?_eq_getElem hjl⟩
          have mi := HM.out _ HJ.out.2
          have hxw := mi.wf x (List.mem_of_getElem? hx)
          obtain ⟨g2, o2, rfl, -⟩ := mi.cells (by omega)
          have L24 : Hid (_) := mi.load hx
          have A7 : Hid (_) := allocI wr
          have T7 : Hid (_) := store_newI wr x hxw.len
          obtain ⟨w7, hw7⟩ : ∃ y, y = wr.alloc (.cells (icells x).toArray 32) := ⟨_, rfl⟩
          have l7 : LAt 32 w7 wr.heap.size (icells x) := by rw [hw7]; exact LAt.new 32 wr _
          have c70 : w7.cell? ⟨wr.heap.size, 0, none⟩ = some (.int .i64 x.b) := LAt.cell l7 0
          have LV : Hid (_) := LAt.loadIv l7 hxw.len
          rw [← hw7] at T7
          have O7 : Hid (w7.ownsMap Tryd.prog 3 RV w.heap.size ((flat (txs.take k)).length + j) (mapD (flat (txs.take k) ++ t.ims.take j)) ∧ Below w.heap.size w w7) := by
            rw [hw7]; exact ⟨HJ.out.1.alloc _, HJ.out.2.alloc HJ.out.2.size _⟩
          have hkey : keyOf Tryd.prog 3 (.int .i64 x.b) = some (kI x.b) := keyOf_int_mk Tryd.underlying3 (WalkArith.wf_i64 (by have := hxw.b; unfold i64 at this; omega))
          have hroom : (flat (txs.take k)).length + j < maxLen := by
            have h1 := flat_bd htk j; rw [List.length_take] at h1; have := HF.out
            have h65 : (3000000 : Nat) ≤ maxLen := by decide
            omega
          have HD : Hid (mapD (flat (txs.take k) ++ t.ims.take (j + 1)) = (mapD (flat (txs.take k) ++ t.ims.take j)).put (kI x.b) (hV x.v)) := by
            show _ = _
            rw [List.take_add_one, hx, ← List.append_assoc]; exact mapD_snoc _ x
          clear mi hw7 l7 HJ
          go_wp2_with ((with_reducible refine at_ops ?_); (first | (refine wpList_load_is (by rfl) 32 rfl rfl L24.out ?_; simp only [Act.put, List.setIfInBounds_toArray, List.set_cons_zero, List.set_cons_succ]) | (refine wpList_load_is (by rfl) 30 rfl rfl LV.out ?_; simp only [Act.put, List.setIfInBounds_toArray, List.set_cons_zero, List.set_cons_succ]) | (refine wpList_alloc_is (by rfl) 32 rfl A7.out ?_; simp only [Act.put, List.setIfInBounds_toArray, List.set_cons_zero, List.set_cons_succ]) | (refine wpList_store_is (by rfl) 32 rfl rfl rfl T7.out ?_; simp only [Act.put]) | (refine wpList_mapUpdate_own _ rfl _ _ _ 82 rfl 3 30 law3 Tryd.underlying82 RV w.heap.size ((flat (txs.take k)).length + j) _ rfl O7.out.1 hroom (.int .i64 x.b) (.agg (U8 x.v).toArray) (kI x.b) rfl rfl hkey (hV x.v) [] rfl ?_; intro w8 hown8 hgrow8; simp only [Act.put])))
          have F8 : Hid (w8.ownsMap Tryd.prog 3 RV w.heap.size ((flat (txs.take k)).length + (j + 1)) (mapD (flat (txs.take k) ++ t.ims.take (j + 1))) ∧ Below w.heap.size w w8) := by
            rw [HD.out]; exact ⟨hown8, O7.out.2.grown hgrow8 O7.out.2.size fun r hr => by cases hr; exact Nat.le_refl _⟩
          clear hown8 hgrow8
          go_wp2_with fail
          go_roundw
          case rel => exact ⟨j + 1, by omega, by go_num, F8.out⟩
          case measure => simp [intOf]; omega
        · obtain rfl : j = t.ims.length := by omega
          have F8 : Hid (wr.ownsMap Tryd.prog 3 RV w.heap.size (flat (txs.take (k + 1))).length (mapD (flat (txs.take (k + 1)))) ∧ Below w.heap.size w wr) := by
            show _ ∧ _
            rw [take_flat txs htk, List.length_append]
            have := HJ.out
            rw [List.take_length] at this
            exact this
          clear HJ
          go_wp2_with fail
          go_roundw
          case rel => exact ⟨k + 1, by omega, by go_num, F8.out⟩
          case measure => simp [intOf]; omega
    · obtain rfl : n = k := by omega
      have HO : Hid (wr.ownsMap Tryd.prog 3 RV w.heap.size (flat txs).length (mapD (flat txs)) ∧ Below w.heap.size w wr) := by
        show _ ∧ _
        have := HI.out
        rw [← hlen, List.take_length] at this
        exact this
      clear HI
      go_wp2_with fail
      refine (keys_any (some w.heap.size) wr).mono ?_
      rintro e w1 ⟨rfl, rfl⟩
      go_wp2_with fail
      have hsz := HO.out.1.size_le
      refine (sorted_any w.heap.size _ (mapD (flat txs)) RV wr HO.out.1 (by have := HF.out; have h65 : (3000000 : Nat) ≤ maxLen := (by decide); omega) (by have := HF.out; omega)).mono ?_
      rintro e w2 ⟨v2, ss, rfl, hS, hrow, hb2⟩
      obtain ⟨up, mem⟩ := sorted_up (HO.out.1.tidy law3) hS
      obtain ⟨Ks, hKs⟩ : ∃ Ks, (ss.mergeSort fun x y => decide (x ≤ y)) = Ks := ⟨_, rfl⟩
      have hl2 : Ks.length = ss.length := by rw [← hKs]; exact List.length_mergeSort ss
      have hle : ss.length ≤ 2000000 := by
        have h1 := hS.length_eq
        have h2 : (intKeys (mapD (flat txs))).length = Maps.size (mapD (flat txs)) := by
          obtain ⟨es, e', -⟩ := mapD_es (flat txs)
          rw [e']; simp [intKeys, Maps.size]
        have := HF.out; omega
      rw [hKs] at up mem hrow
      have HUp : Hid (Ks.Pairwise (· < ·) ∧ ∀ b, b ∈ Ks ↔ b ∈ blks (flat txs)) := ⟨up, mem⟩
      rw [← hl2] at hrow hle
      have HO2 : Hid (w2.ownsMap Tryd.prog 3 RV w.heap.size (flat txs).length (mapD (flat txs)) ∧ Below w.heap.size w w2) := by
        refine ⟨HO.out.1.kept (row := none) ⟨hb2.os, hb2.tape, hb2.output, hb2.size, fun k hk _ => hb2.block k hk⟩ (by simp), HO.out.2.trans (hb2.mono HO.out.2.size)⟩
      have HR2 : Hid (w2.ownsRow wr.heap.size 3 1 v2 Ks.length (Ks.map encZ)) := hrow
      obtain ⟨q2, c2, rfl, hcell2⟩ : ∃ q2 c2, v2 = .slice q2 Ks.length c2 ∧ (0 < Ks.length → ∃ g, q2 = some ⟨g, 0, none⟩) := by
        rcases hrow.2 with ⟨e, e2⟩ | ⟨g, cap, cur, e, -⟩
        · exact ⟨none, 0, by rw [e, e2], fun h => by omega⟩
        · exact ⟨_, cap, e, fun _ => ⟨g, rfl⟩⟩
      obtain ⟨B2, hB2⟩ : ∃ B2, B2 = wr.heap.size := ⟨_, rfl⟩
      rw [← hB2] at HR2
      clear hB2
      clear HO hsz up mem hS hrow hb2 hKs hl2
      obtain ⟨B3, hB3⟩ : ∃ B3, B3 = w2.heap.size := ⟨_, rfl⟩
      have hB30 : w.heap.size ≤ B3 := by rw [hB3]; exact HO2.out.2.size
      go_wp2_with fail
      go_loopw [8, 36] (fun out i wr' => ∃ j : Nat, j ≤ Ks.length ∧ i = .int .i64 j ∧ Hid (IOwn wr' B3 out ((Ks.take j).map fun b => (⟨b, lastV (flat txs) b⟩ : Im)) ∧ wr'.ownsMap Tryd.prog 3 RV w.heap.size (flat txs).length (mapD (flat txs)) ∧ wr'.ownsRow B2 3 1 (.slice q2 Ks.length c2) Ks.length (Ks.map encZ) ∧ Below w.heap.size w wr' ∧ B3 ≤ wr'.heap.size)) (fun _ i _ => Ks.length - (intOf i).toNat)
      case atStart => exact ⟨0, Nat.zero_le _, rfl, World.ownsRow_nil _ _ _ _, HO2.out.1, HR2.out, HO2.out.2, by omega⟩
      case round =>
        obtain ⟨j, hj, rfl, HJ⟩ := hrel
        clear HO2 HR2
        by_cases hjl : j < Ks.length
        · obtain ⟨g2, rfl⟩ := hcell2 (by omega)
          obtain ⟨b, hb⟩ : ∃ b, Ks[j]? = some b := ⟨_, List.getElem?_eq_getElem hjl⟩
          have hbm : b ∈ blks (flat txs) := (HUp.out.2 b).1 (List.mem_of_getElem? hb)
          obtain ⟨lw1, lw2, lw3⟩ := lastV_wf (flat_wf HW.out) hbm
          have ck : wr.cell? ⟨g2, j, none⟩ = some (.int .i64 b) := by
            have := HJ.out.2.2.1.cells (g := g2) rfl j (.int .i64 b) (by rw [List.getElem?_map, hb]; rfl)
            rw [Addr.add_mid, Nat.zero_add] at this; exact this
          have LK : Hid (_) := look_at HJ.out.2.1 hbm lw3
          have UI : Hid (_) := buildI wr b (lastV (flat txs) b) lw1
          have SI : Hid (_) := build_im wr ⟨b, lastV (flat txs) b⟩ lw1
          have hlj : ((Ks.take j).map fun b => (⟨b, lastV (flat txs) b⟩ : Im)).length = j := by rw [List.length_map, List.length_take]; omega
          obtain ⟨i0, hi0, hz0, hz1, hz2⟩ := info_parts infoI
          have h65 : (3000000 : Nat) ≤ maxLen := by decide
          obtain ⟨v', w4, hrun, hown', hgrow, -⟩ := run_append_own (P := Tryd.prog) (wr.alloc (.cells (icells ⟨b, lastV (flat txs) b⟩).toArray 32)) B3 26 26 32 i0 _ 33 40 Tryd.underlying26 hi0 hz0 hz1 hz2 rfl (by decide) u8 _ _ (HJ.out.1.alloc _) ⟨wr.heap.size, 0, none⟩ 1 1 (icells ⟨b, lastV (flat txs) b⟩) (by rw [icells_len lw1]) (fun j u hu => by
            rw [Addr.add_mid, Nat.zero_add, LAt.cell (LAt.new 32 wr (icells ⟨b, lastV (flat txs) b⟩)) j]; exact hu) (icells_ones _) (by omega) (by omega) (by have := HJ.out.2.2.2.2; simp; omega)
          have AP : Hid (_) := hrun
          have F4 : Hid (IOwn w4 B3 v' ((Ks.take (j + 1)).map fun b => (⟨b, lastV (flat txs) b⟩ : Im)) ∧ w4.ownsMap Tryd.prog 3 RV w.heap.size (flat txs).length (mapD (flat txs)) ∧ w4.ownsRow B2 3 1 (.slice (some ⟨g2, 0, none⟩) Ks.length c2) Ks.length (Ks.map encZ) ∧ Below w.heap.size w w4 ∧ B3 ≤ w4.heap.size) := by
            have hr := HJ.out.1
            refine ⟨?_, ?_, ?_, ?_, ?_⟩
            · rw [List.take_add_one, hb]
              show IOwn w4 B3 v' (((Ks.take j) ++ [b]).map _)
              rw [List.map_append, List.map_cons, List.map_nil, IOwn, IC_snoc, List.length_append, List.length_singleton]
              exact hown'
            · refine (HJ.out.2.1.alloc _).kept hgrow fun e => ?_
              have := (hr.lt _ e.symm).1
              rcases hr.2 with ⟨e1, _⟩ | ⟨g5, cap5, cur5, e1, e2, e3, _⟩
              · rw [e1] at e; cases e
              · rw [e1] at e
                simp only [Value.ownBlock, Option.some.injEq] at e
                obtain ⟨es, clk, hm, -⟩ := HJ.out.2.1
                rw [e, e3] at hm; cases hm
            · exact (HJ.out.2.2.1.alloc _).kept hgrow (own_ne HJ.out.2.2.1 hr (by decide))
            · exact (HJ.out.2.2.2.1.alloc HJ.out.2.2.2.1.size _).grown hgrow (by have := HJ.out.2.2.2.1.size; simp; omega) fun r er => Nat.le_trans hB30 (hr.lt r er).1
            · have := hgrow.size; have := HJ.out.2.2.2.2; simp at *; omega
          clear hrun hown' hgrow HJ hlj
          go_wp2_with ((with_reducible refine at_ops ?_); (first | (refine wpList_lookup_is (u1 := .map (some w.heap.size)) (u2 := .int .i64 b) (by rfl) 82 rfl rfl rfl LK.out ?_) | (refine wpList_build_is (vs := [(0, .int .i64 b), (1, .agg (U8 (lastV (flat txs) b)).toArray)]) (by rfl) 32 rfl (by rfl) UI.out ?_) | (refine wpList_slice_is (u := .agg (icells ⟨b, lastV (flat txs) b⟩).toArray) (by rfl) 26 rfl rfl SI.out ?_) | (refine wpList_append_is (u1 := u8) (u2 := .slice (some ⟨wr.heap.size, 0, none⟩) 1 1) (by rfl) rfl rfl rfl rfl AP.out ?_)); simp only [Act.put, List.setIfInBounds_toArray, List.set_cons_zero, List.set_cons_succ])
          go_roundw
          case rel => exact ⟨j + 1, by omega, by go_num, F4.out⟩
          case measure => simp [intOf]; omega
        · obtain rfl : j = Ks.length := by omega
          go_wp2_with fail
          go_ret
          have := HJ.out.1
          rw [List.take_length, nw_eq (flat txs) Ks HUp.out.1 HUp.out.2] at this
          exact ⟨_, rfl, own_at this (fun g hg => Nat.le_trans hB30 (this.lt g hg).1) rfl, HJ.out.2.2.2.1⟩
end Go.Proofs.YtefnkjajjidfaaaDoor
