import Derived.Test.YtdadpepfpiimgaaGreatDoorZ14
set_option maxHeartbeats 20000000
set_option maxRecDepth 100000
namespace Go.Proofs.YtdadpepfpiimgaaGreatDoor
open Go.RowKit Go.Maps
theorem lastV_wf {l : List Im} (h : ImsWf l) {b : Int} (hb : b ∈ blks l) : (lastV l b).length = 32 ∧ Bytes (lastV l b) ∧ i64 b := by
  induction l with
  | nil => cases hb
  | cons x xs ih =>
    by_cases c : b ∈ blks xs
    · rw [lastV_in c]; exact ih (fun y hy => h y (List.mem_cons.2 (.inr hy))) c
    · have e : b = x.b := (List.mem_cons.1 (show b ∈ x.b :: blks xs from hb)).resolve_right c
      rw [e] at c ⊢
      rw [lastV_new c]
      have := h x (List.mem_cons.2 (.inl rfl))
      exact ⟨this.len, this.byte, this.b⟩
theorem sizeT : (Tryz.prog.info? 207).map (·.size) = some 2 := by kernel_rfl
theorem allocT (w : World) : (Instr.alloc 207 true (.tuple #[])).run Tryz.prog w = .ok (.pointer (some ⟨w.heap.size, 0, none⟩)) (w.alloc (.cells ([.int .u64 0, .slice none 0 0] : List Value).toArray 207)) := by
  simp only [Instr.alloc, Sem.run_bind, zv 207 _ zeroT, Result.andThen_ok]
  simp [newVar, newRow, Value.cells]
theorem store_newT (w : World) (p : Int) (q : Option Addr) (n m : Nat) : (Instr.storeAt 207 (.pointer (some ⟨w.heap.size, 0, none⟩)) (.agg #[.int .u64 p, .slice q n m])).run Tryz.prog (w.alloc (.cells ([.int .u64 0, .slice none 0 0] : List Value).toArray 207)) = .ok () (w.alloc (.cells #[.int .u64 p, .slice q n m] 207)) := by
  have := (LAt.new 207 w [.int .u64 0, .slice none 0 0]).store (ds := [.int .u64 p, .slice q n m]) sizeT rfl (all_oneCell_toArray fun v hv => by
    simp only [List.mem_cons, List.not_mem_nil, or_false] at hv
    rcases hv with rfl | rfl <;> rfl)
  rw [setRow_alloc] at this
  exact this
theorem load_tx {w : World} {b o : Nat} {p : Int} {u : Value} (h0 : w.cell? ⟨b, o, none⟩ = some (.int .u64 p)) (h1 : w.cell? ⟨b, o + 1, none⟩ = some u) : (Instr.loadAt 207 (.pointer (some ⟨b, o, none⟩))).run Tryz.prog w = .ok (.agg #[.int .u64 p, u]) w := by
  refine run_loadAt_mid w b o 207 [.int .u64 p, u] _ (fun j v hv => ?_) Tryz.underlying207 rfl sizeT
  have hj : j < 2 := (List.getElem?_eq_some_iff.1 hv).1
  have : j = 0 ∨ j = 1 := by omega
  rcases this with rfl | rfl
  · exact h0.trans hv
  · exact h1.trans hv
theorem take_flat (l : List TX) {k : Nat} {t : TX} (h : l[k]? = some t) : flat (l.take (k + 1)) = flat (l.take k) ++ t.ims := by
  have hk := (List.getElem?_eq_some_iff.1 h).1
  have e : l.take (k + 1) = l.take k ++ [t] := by
    rw [List.take_add_one, h]; rfl
  rw [e, flat_snoc]
theorem flat_le (l : List TX) (k : Nat) : (flat (l.take k)).length ≤ (flat l).length := by
  have e : flat l = flat (l.take k) ++ flat (l.drop k) := by
    have := List.take_append_drop k l
    simp only [flat]
    rw [← List.flatMap_append, this]
  rw [e, List.length_append]; omega
theorem flat_bd {l : List TX} {k : Nat} {t : TX} (h : l[k]? = some t) (j : Nat) : (flat (l.take k)).length + (t.ims.take j).length ≤ (flat l).length := by
  have h1 := flat_le l (k + 1)
  rw [take_flat l h, List.length_append] at h1
  have h2 : (t.ims.take j).length ≤ t.ims.length := by rw [List.length_take]; omega
  omega
set_option maxHeartbeats 4000000 in
set_option maxRecDepth 100000 in
theorem newest_any (q : Option Addr) (n c : Nat) (txs : List TX) (w : World) (h : XIn w q n txs) (hwf : TxsWf txs) (hn : n ≤ 2000000) (hf : (flat txs).length ≤ 2000000) :
    Calls Tryz.prog 77 #[.slice q n c] w fun e w' => ∃ v, e = .returned v ∧ IOwn w' w.heap.size v (nwS (flat txs)) ∧ Below w.heap.size w w' := by
  have hmm := @run_makeMap Tryz.prog
  have HX : Hid (XIn w q n txs) := h
  have HW : Hid (TxsWf txs) := hwf
  have HF : Hid ((flat txs).length ≤ 2000000) := hf
  have hlen : txs.length = n := h.len
  clear h hwf hf
  go_enter Tryz.func77, Tryz.ntmps77
  go_wp2
  go_loopw [14] (fun i wr => ∃ k : Nat, k ≤ n ∧ i = .int .i64 k ∧ Hid (wr.ownsMap Tryz.prog 3 RV w.heap.size (flat (txs.take k)).length (mapD (flat (txs.take k))) ∧ Below w.heap.size w wr)) (fun i _ => n - (intOf i).toNat)
  case atStart => exact ⟨0, Nat.zero_le _, rfl, World.ownsMap_made _ _ _ _, (Below.refl _ _).alloc (Nat.le_refl _) _⟩
  case round =>
    obtain ⟨k, hk, rfl, HI⟩ := hrel
    by_cases hlt : k < n
    · obtain ⟨t, htk⟩ : ∃ t, txs[k]? = some t := ⟨_, List.getElem?_eq_getElem (by omega)⟩
      have HXr : XIn wr q n txs := HX.out.later HI.out.2
      obtain ⟨g, o, rfl, hcell⟩ := HXr.cells (by omega)
      obtain ⟨q2, c2, e0, e1, mi, m1, m2⟩ := hcell k t htk
      have hm : t.ims.length ≤ 2000000 := by have := flat_bd htk t.ims.length; rw [List.take_length] at this; have := HF.out; omega
      have L17 : Hid (_) := load_tx e0 e1
      have A5 : Hid (_) := allocT wr
      have T5 : Hid (_) := store_newT wr t.p q2 t.ims.length c2
      obtain ⟨w5, hw5⟩ : ∃ y, y = wr.alloc (.cells #[.int .u64 t.p, .slice q2 t.ims.length c2] 207) := ⟨_, rfl⟩
      have l5 : LAt 207 w5 wr.heap.size [.int .u64 t.p, .slice q2 t.ims.length c2] := by rw [hw5]; exact LAt.new 207 wr _
      have c51 : w5.cell? ⟨wr.heap.size, 1, none⟩ = some (.slice q2 t.ims.length c2) := LAt.cell l5 1
      rw [← hw5] at T5
      have HM : Hid (∀ W, Below w.heap.size w W → MIn W q2 t.ims.length t.ims) := by
        intro W hW
        obtain ⟨g', o', e', hcell'⟩ := (HX.out.later hW).cells (by omega)
        obtain ⟨q3, c3, f0, f1, mi3, -, -⟩ := hcell' k t htk
        cases e'
        have f2 := (HX.out.cells (by omega))
        obtain ⟨g4, o4, e4, hc4⟩ := f2
        cases e4
        obtain ⟨q5, c5, k0, k1, -, -, -⟩ := hc4 k t htk
        have a1 : wr.cell? ⟨g, o + k * 2 + 1, none⟩ = some (.slice q5 t.ims.length c5) := (HI.out.2.cell (p := ⟨g, o + k * 2 + 1, none⟩) (World.block_lt_of_cell? w _ k1)).trans k1
        have a2 : W.cell? ⟨g, o + k * 2 + 1, none⟩ = some (.slice q5 t.ims.length c5) := (hW.cell (p := ⟨g, o + k * 2 + 1, none⟩) (World.block_lt_of_cell? w _ k1)).trans k1
        rw [e1] at a1
        rw [f1] at a2
        cases a1; cases a2
        exact mi3
      have I5 : Hid (w5.ownsMap Tryz.prog 3 RV w.heap.size (flat (txs.take k)).length (mapD (flat (txs.take k))) ∧ Below w.heap.size w w5) := by
        rw [hw5]; exact ⟨HI.out.1.alloc _, HI.out.2.alloc HI.out.2.size _⟩
      clear HXr hcell e0 e1 mi hw5 l5 HI
      go_wp2_with ((with_reducible refine at_ops ?_); (first | (refine wpList_load_is (by rfl) 207 rfl rfl L17.out ?_) | (refine wpList_alloc_is (by rfl) 207 rfl A5.out ?_) | (refine wpList_store_is (by rfl) 207 rfl rfl rfl T5.out ?_)); simp only [Act.put, List.setIfInBounds_toArray, List.set_cons_zero, List.set_cons_succ])
      clear L17 A5 T5 c51
      go_loopw [21] (fun i wr => ∃ j : Nat, j ≤ t.ims.length ∧ i = .int .i64 j ∧ Hid (wr.ownsMap Tryz.prog 3 RV w.heap.size ((flat (txs.take k)).length + j) (mapD (flat (txs.take k) ++ t.ims.take j)) ∧ Below w.heap.size w wr)) (fun i _ => t.ims.length - (intOf i).toNat)
      case atStart => exact ⟨0, Nat.zero_le _, rfl, by simpa using I5.out.1, I5.out.2⟩
      case round =>
        obtain ⟨j, hj, rfl, HJ⟩ := hrel
        clear I5
        by_cases hjl : j < t.ims.length
        · obtain ⟨x, hx⟩ : ∃ x, t.ims[j]? = some x := ⟨_, List.getElem?_eq_getElem hjl⟩
          have mi := HM.out _ HJ.out.2
          have hxw := mi.wf x (List.mem_of_getElem? hx)
          obtain ⟨g2, o2, rfl, -⟩ := mi.cells (by omega)
          have L24 : Hid (_) := mi.load hx
          have A7 : Hid (_) := allocI wr
          have T7 : Hid (_) := store_newI wr x hxw.len
          obtain ⟨w7, hw7⟩ : ∃ y, y = wr.alloc (.cells (icells x).toArray 155) := ⟨_, rfl⟩
          have l7 : LAt 155 w7 wr.heap.size (icells x) := by rw [hw7]; exact LAt.new 155 wr _
          have c70 : w7.cell? ⟨wr.heap.size, 0, none⟩ = some (.int .i64 x.b) := LAt.cell l7 0
          have LV : Hid (_) := LAt.loadIv l7 hxw.len
          rw [← hw7] at T7
          have O7 : Hid (w7.ownsMap Tryz.prog 3 RV w.heap.size ((flat (txs.take k)).length + j) (mapD (flat (txs.take k) ++ t.ims.take j)) ∧ Below w.heap.size w w7) := by
            rw [hw7]; exact ⟨HJ.out.1.alloc _, HJ.out.2.alloc HJ.out.2.size _⟩
          have hkey : keyOf Tryz.prog 3 (.int .i64 x.b) = some (kI x.b) := keyOf_int_mk Tryz.underlying3 (WalkArith.wf_i64 (by have := hxw.b; unfold i64 at this; omega))
          have hroom : (flat (txs.take k)).length + j < maxLen := by
            have h1 := flat_bd htk j; rw [List.length_take] at h1; have := HF.out
            have h65 : (3000000 : Nat) ≤ maxLen := by decide
            omega
          have HD : Hid (mapD (flat (txs.take k) ++ t.ims.take (j + 1)) = (mapD (flat (txs.take k) ++ t.ims.take j)).put (kI x.b) (hV x.v)) := by
            show _ = _
            rw [List.take_add_one, hx, ← List.append_assoc]; exact mapD_snoc _ x
          clear mi hw7 l7 HJ
          go_wp2_with ((with_reducible refine at_ops ?_); (first | (refine wpList_load_is (by rfl) 155 rfl rfl L24.out ?_; simp only [Act.put, List.setIfInBounds_toArray, List.set_cons_zero, List.set_cons_succ]) | (refine wpList_load_is (by rfl) 39 rfl rfl LV.out ?_; simp only [Act.put, List.setIfInBounds_toArray, List.set_cons_zero, List.set_cons_succ]) | (refine wpList_alloc_is (by rfl) 155 rfl A7.out ?_; simp only [Act.put, List.setIfInBounds_toArray, List.set_cons_zero, List.set_cons_succ]) | (refine wpList_store_is (by rfl) 155 rfl rfl rfl T7.out ?_; simp only [Act.put]) | (refine wpList_mapUpdate_own _ rfl _ _ _ 208 rfl 3 39 law3 Tryz.underlying208 RV w.heap.size ((flat (txs.take k)).length + j) _ rfl O7.out.1 hroom (.int .i64 x.b) (.agg (U8 x.v).toArray) (kI x.b) rfl rfl hkey (hV x.v) [] rfl ?_; intro w8 hown8 hgrow8; simp only [Act.put])))
          have F8 : Hid (w8.ownsMap Tryz.prog 3 RV w.heap.size ((flat (txs.take k)).length + (j + 1)) (mapD (flat (txs.take k) ++ t.ims.take (j + 1))) ∧ Below w.heap.size w w8) := by
            rw [HD.out]; exact ⟨hown8, O7.out.2.grown hgrow8 O7.out.2.size fun r hr => by cases hr; exact Nat.le_refl _⟩
          clear hown8 hgrow8
          go_wp2_with fail
          go_roundw
          case rel => exact ⟨j + 1, by omega, by go_num, F8.out⟩
          case measure => simp [intOf]; omega
        · obtain rfl : j = t.ims.length := by omega
          have F8 : Hid (wr.ownsMap Tryz.prog 3 RV w.heap.size (flat (txs.take (k + 1))).length (mapD (flat (txs.take (k + 1)))) ∧ Below w.heap.size w wr) := by
            show _ ∧ _
            rw [take_flat txs htk, List.length_append]
            have := HJ.out
            rw [List.take_length] at this
            exact this
          clear HJ
          go_wp2_with fail
          go_roundw
          case rel => exact ⟨k + 1, by omega, by go_num, F8.out⟩
          case measure => simp [intOf]; omega
    · obtain rfl : n = k := by omega
      have HO : Hid (wr.ownsMap Tryz.prog 3 RV w.heap.size (flat txs).length (mapD (flat txs)) ∧ Below w.heap.size w wr) := by
        show _ ∧ _
        have := HI.out
        rw [← hlen, List.take_length] at this
        exact this
      clear HI
      go_wp2_with fail
      refine (keys_any (some w.heap.size) wr).mono ?_
      rintro e w1 ⟨rfl, rfl⟩
      go_wp2_with fail
      have hsz := HO.out.1.size_le
      refine (sorted_any w.heap.size _ (mapD (flat txs)) RV wr HO.out.1 (by have := HF.out; have h65 : (3000000 : Nat) ≤ maxLen := (by decide); omega) (by have := HF.out; omega)).mono ?_
      rintro e w2 ⟨v2, ss, rfl, hS, hrow, hb2⟩
      obtain ⟨up, mem⟩ := sorted_up (HO.out.1.tidy law3) hS
      obtain ⟨Ks, hKs⟩ : ∃ Ks, (ss.mergeSort fun x y => decide (x ≤ y)) = Ks := ⟨_, rfl⟩
      have hl2 : Ks.length = ss.length := by rw [← hKs]; exact List.length_mergeSort ss
      have hle : ss.length ≤ 2000000 := by
        have h1 := hS.length_eq
        have h2 : (intKeys (mapD (flat txs))).length = Maps.size (mapD (flat txs)) := by
          obtain ⟨es, e', -⟩ := mapD_es (flat txs)
          rw [e']; simp [intKeys, Maps.size]
        have := HF.out; omega
      rw [hKs] at up mem hrow
      have HUp : Hid (Ks.Pairwise (· < ·) ∧ ∀ b, b ∈ Ks ↔ b ∈ blks (flat txs)) := ⟨up, mem⟩
      rw [← hl2] at hrow hle
      have HO2 : Hid (w2.ownsMap Tryz.prog 3 RV w.heap.size (flat txs).length (mapD (flat txs)) ∧ Below w.heap.size w w2) := by
        refine ⟨HO.out.1.kept (row := none) ⟨hb2.os, hb2.tape, hb2.output, hb2.size, fun k hk _ => hb2.block k hk⟩ (by simp), HO.out.2.trans (hb2.mono HO.out.2.size)⟩
      have HR2 : Hid (w2.ownsRow wr.heap.size 3 1 v2 Ks.length (Ks.map encZ)) := hrow
      obtain ⟨q2, c2, rfl, hcell2⟩ : ∃ q2 c2, v2 = .slice q2 Ks.length c2 ∧ (0 < Ks.length → ∃ g, q2 = some ⟨g, 0, none⟩) := by
        rcases hrow.2 with ⟨e, e2⟩ | ⟨g, cap, cur, e, -⟩
        · exact ⟨none, 0, by rw [e, e2], fun h => by omega⟩
        · exact ⟨_, cap, e, fun _ => ⟨g, rfl⟩⟩
      obtain ⟨B2, hB2⟩ : ∃ B2, B2 = wr.heap.size := ⟨_, rfl⟩
      rw [← hB2] at HR2
      clear hB2
      clear HO hsz up mem hS hrow hb2 hKs hl2
      obtain ⟨B3, hB3⟩ : ∃ B3, B3 = w2.heap.size := ⟨_, rfl⟩
      have hB30 : w.heap.size ≤ B3 := by rw [hB3]; exact HO2.out.2.size
      go_wp2_with fail
      go_loopw [8, 36] (fun out i wr' => ∃ j : Nat, j ≤ Ks.length ∧ i = .int .i64 j ∧ Hid (IOwn wr' B3 out ((Ks.take j).map fun b => (⟨b, lastV (flat txs) b⟩ : Im)) ∧ wr'.ownsMap Tryz.prog 3 RV w.heap.size (flat txs).length (mapD (flat txs)) ∧ wr'.ownsRow B2 3 1 (.slice q2 Ks.length c2) Ks.length (Ks.map encZ) ∧ Below w.heap.size w wr' ∧ B3 ≤ wr'.heap.size)) (fun _ i _ => Ks.length - (intOf i).toNat)
      case atStart => exact ⟨0, Nat.zero_le _, rfl, World.ownsRow_nil _ _ _ _, HO2.out.1, HR2.out, HO2.out.2, by omega⟩
      case round =>
        obtain ⟨j, hj, rfl, HJ⟩ := hrel
        clear HO2 HR2
        by_cases hjl : j < Ks.length
        · obtain ⟨g2, rfl⟩ := hcell2 (by omega)
          obtain ⟨b, hb⟩ : ∃ b, Ks[j]? = some b := ⟨_, List.getElem?_eq_getElem hjl⟩
          have hbm : b ∈ blks (flat txs) := (HUp.out.2 b).1 (List.mem_of_getElem? hb)
          obtain ⟨lw1, lw2, lw3⟩ := lastV_wf (flat_wf HW.out) hbm
          have ck : wr.cell? ⟨g2, j, none⟩ = some (.int .i64 b) := by
            have := HJ.out.2.2.1.cells (g := g2) rfl j (.int .i64 b) (by rw [List.getElem?_map, hb]; rfl)
            rw [Addr.add_mid, Nat.zero_add] at this; exact this
          have LK : Hid (_) := look_at HJ.out.2.1 hbm lw3
          have UI : Hid (_) := buildI wr b (lastV (flat txs) b) lw1
          have SI : Hid (_) := build_im wr ⟨b, lastV (flat txs) b⟩ lw1
          have hlj : ((Ks.take j).map fun b => (⟨b, lastV (flat txs) b⟩ : Im)).length = j := by rw [List.length_map, List.length_take]; omega
          obtain ⟨i0, hi0, hz0, hz1, hz2⟩ := info_parts infoI
          have h65 : (3000000 : Nat) ≤ maxLen := by decide
          obtain ⟨v', w4, hrun, hown', hgrow, -⟩ := run_append_own (P := Tryz.prog) (wr.alloc (.cells (icells ⟨b, lastV (flat txs) b⟩).toArray 155)) B3 92 92 155 i0 _ 33 40 Tryz.underlying92 hi0 hz0 hz1 hz2 rfl (by decide) u8 _ _ (HJ.out.1.alloc _) ⟨wr.heap.size, 0, none⟩ 1 1 (icells ⟨b, lastV (flat txs) b⟩) (by rw [icells_len lw1]) (fun j u hu => by
            rw [Addr.add_mid, Nat.zero_add, LAt.cell (LAt.new 155 wr (icells ⟨b, lastV (flat txs) b⟩)) j]; exact hu) (icells_ones _) (by omega) (by omega) (by have := HJ.out.2.2.2.2; simp; omega)
          have AP : Hid (_) := hrun
          have F4 : Hid (IOwn w4 B3 v' ((Ks.take (j + 1)).map fun b => (⟨b, lastV (flat txs) b⟩ : Im)) ∧ w4.ownsMap Tryz.prog 3 RV w.heap.size (flat txs).length (mapD (flat txs)) ∧ w4.ownsRow B2 3 1 (.slice (some ⟨g2, 0, none⟩) Ks.length c2) Ks.length (Ks.map encZ) ∧ Below w.heap.size w w4 ∧ B3 ≤ w4.heap.size) := by
            have hr := HJ.out.1
            refine ⟨?_, ?_, ?_, ?_, ?_⟩
            · rw [List.take_add_one, hb]
              show IOwn w4 B3 v' (((Ks.take j) ++ [b]).map _)
              rw [List.map_append, List.map_cons, List.map_nil, IOwn, IC_snoc, List.length_append, List.length_singleton]
              exact hown'
            · refine (HJ.out.2.1.alloc _).kept hgrow fun e => ?_
              have := (hr.lt _ e.symm).1
              rcases hr.2 with ⟨e1, _⟩ | ⟨g5, cap5, cur5, e1, e2, e3, _⟩
              · rw [e1] at e; cases e
              · rw [e1] at e
                simp only [Value.ownBlock, Option.some.injEq] at e
                obtain ⟨es, clk, hm, -⟩ := HJ.out.2.1
                rw [e, e3] at hm; cases hm
            · exact (HJ.out.2.2.1.alloc _).kept hgrow (own_ne HJ.out.2.2.1 hr (by decide))
            · exact (HJ.out.2.2.2.1.alloc HJ.out.2.2.2.1.size _).grown hgrow (by have := HJ.out.2.2.2.1.size; simp; omega) fun r er => Nat.le_trans hB30 (hr.lt r er).1
            · have := hgrow.size; have := HJ.out.2.2.2.2; simp at *; omega
          clear hrun hown' hgrow HJ hlj
          go_wp2_with ((with_reducible refine at_ops ?_); (first | (refine wpList_lookup_is (u1 := .map (some w.heap.size)) (u2 := .int .i64 b) (by rfl) 208 rfl rfl rfl LK.out ?_) | (refine wpList_build_is (vs := [(0, .int .i64 b), (1, .agg (U8 (lastV (flat txs) b)).toArray)]) (by rfl) 155 rfl (by rfl) UI.out ?_) | (refine wpList_slice_is (u := .agg (icells ⟨b, lastV (flat txs) b⟩).toArray) (by rfl) 92 rfl rfl SI.out ?_) | (refine wpList_append_is (u1 := u8) (u2 := .slice (some ⟨wr.heap.size, 0, none⟩) 1 1) (by rfl) rfl rfl rfl rfl AP.out ?_)); simp only [Act.put, List.setIfInBounds_toArray, List.set_cons_zero, List.set_cons_succ])
          go_roundw
          case rel => exact ⟨j + 1, by omega, by go_num, F4.out⟩
          case measure => simp [intOf]; omega
        · obtain rfl : j = Ks.length := by omega
          go_wp2_with fail
          go_ret
          have := HJ.out.1
          rw [List.take_length, nw_eq (flat txs) Ks HUp.out.1 HUp.out.2] at this
          exact ⟨_, rfl, own_at this (fun g hg => Nat.le_trans hB30 (this.lt g hg).1) rfl, HJ.out.2.2.2.1⟩
end Go.Proofs.YtdadpepfpiimgaaGreatDoor
namespace Go.Proofs.YtdadpepfpiimgaaGreatDoor
open Go.RowKit Go.Shelf
attribute [local go_sem] Oper.semAt_some
theorem own_one {w : World} {B : Nat} {e : TypeId} {sz n : Nat} {v : Value} {xs : List Value} (h : w.ownsRow B e sz v n xs) : v.oneCell' = true := by
  rcases h.2 with ⟨rfl, _⟩ | ⟨g, cap, cur, rfl, _⟩ <;> rfl
theorem lat_not_row {w : World} {k B : Nat} {t e : TypeId} {sz n : Nat} {v : Value} {xs cs : List Value} (h : LAt t w k cs) (hte : t ≠ e) (hr : w.ownsRow B e sz v n xs) : v.ownBlock ≠ some k := fun e' => by
  rcases hr.2 with ⟨rfl, _⟩ | ⟨g, cap, cur, rfl, _, hg, _⟩
  · cases e'
  · simp only [Value.ownBlock, Option.some.injEq] at e'
    subst e'
    rw [show w.heap[g]? = _ from h] at hg
    cases hg
    exact hte rfl
theorem grownBy_setRow (w : World) (k : Nat) (cs : Array Value) : w.grownBy (w.setRow k cs) (some k) := ⟨rfl, rfl, rfl, by rw [size_setRow]; exact Nat.le_refl _, fun j _ hj => setRow_other w k j cs (fun e => hj (by rw [e]))⟩
theorem RdM.fin {w V : World} {Bd Bc Br Bl Bo Bt Be Bx : Nat} {dp : Option Addr} {c : Sup} {t l e : Int} {s : Sc} {v cv : Value} {vs : List Value} (h : RdM w V Bd Bc Br Bl Bo Bt Be dp c t l e s v vs cv Bx) {D : Nat} (hD : Br < D) (hD2 : w.heap.size ≤ D) (hK : V.heap[D]? = some (.deferred (some []))) (hr0 : w.heap.size ≤ Br) : (V.setRow Br (gcells t l s.fin v).toArray).heap[D]? = some (.deferred (some [])) ∧ LAt 165 ((V.setRow Br (gcells t l s.fin v).toArray).putObj D (.deferred none)) Br (gcells t l s.fin v) ∧ XOwn 207 ((V.setRow Br (gcells t l s.fin v).toArray).putObj D (.deferred none)) w.heap.size v s.txs vs ∧ Rise vs ((V.setRow Br (gcells t l s.fin v).toArray).putObj D (.deferred none)).heap.size ∧ Below w.heap.size w ((V.setRow Br (gcells t l s.fin v).toArray).putObj D (.deferred none)) := by
  have h1 : (V.setRow Br (gcells t l s.fin v).toArray).heap[D]? = some (.deferred (some [])) := (setRow_other V Br D _ (by omega)).trans hK
  have x1 : XOwn 207 (V.setRow Br (gcells t l s.fin v).toArray) w.heap.size v s.txs vs := h.tx.kept (grownBy_setRow V Br _) (.inr (lat_not_row h.rs (by decide) h.tx.row)) fun u hu => by
    obtain ⟨k, hk, rfl⟩ := List.getElem_of_mem hu
    have hk' : k < s.txs.length := by rw [← h.tx.len]; exact hk
    exact .inr (lat_not_row h.rs (by decide) (h.tx.each k s.txs[k] vs[k] (List.getElem?_eq_getElem hk') (List.getElem?_eq_getElem hk)))
  refine ⟨h1, ?_, ?_, ?_, ?_⟩
  · exact (World.putObj_heap_other (by omega)).trans (LAt.stored h.rs _)
  · refine x1.cells fun k o hk hc => ?_
    refine (World.putObj_heap_other ?_).trans hk
    rintro rfl
    rw [h1] at hk; cases hk; cases hc
  · refine h.up.mono ?_
    have := h.x1
    simp; omega
  · exact (below_setRow h.low hr0 _).trans ⟨rfl, rfl, rfl, by simp, fun k hk => World.putObj_heap_other (by omega)⟩
set_option maxHeartbeats 8000000 in
set_option maxRecDepth 100000 in
theorem read_ok10 {w : World} {S : Nat → Prop} {p n : Nat} {d : List Int} {ws : List Wr} (h : Dsk w S p n d ws) (ht : Tab w) (c : Sup) (hz : (supOf c n (newest ws d)).2 = 0) :
    Calls Tryz.prog 76 #[.pointer (some ⟨p, 0, none⟩), .agg (ccells c).toArray] w fun e w' => ∃ v vs, e = .returned (.tuple #[.agg (gcells (supOf c n (newest ws d)).1.tail (supOf c n (newest ws d)).1.life (scanS c (newest ws d) (supOf c n (newest ws d)).1).fin v).toArray, .int .i64 0]) ∧ XOwn 207 w' w.heap.size v (scanS c (newest ws d) (supOf c n (newest ws d)).1).txs vs ∧ Rise vs w'.heap.size ∧ Below w.heap.size w w' := by
  obtain ⟨wa, hwa⟩ : ∃ y, y = w.alloc (.cells #[.pointer (some ⟨p, 0, none⟩)] 30) := ⟨_, rfl⟩
  obtain ⟨wb, hwb⟩ : ∃ y, y = wa.alloc (.cells (ccells c).toArray 23) := ⟨_, rfl⟩
  obtain ⟨wc, hwc⟩ : ∃ y, y = wb.alloc (.cells (gcells 0 0 0 (.slice none 0 0)).toArray 165) := ⟨_, rfl⟩
  have ewa := hwa.symm
  have ewb := hwb.symm
  have sa : wa.heap.size = w.heap.size + 1 := by rw [hwa]; simp
  have sb : wb.heap.size = w.heap.size + 1 + 1 := by rw [hwb, ← sa]; simp
  have A1 : Hid (_) := allocLg wb
  rw [← hwc, sb] at A1
  have Ba : Below w.heap.size w wa := by rw [hwa]; exact below_alloc w _
  have Bb : Below w.heap.size w wb := by rw [hwb]; exact below_then Ba (below_alloc wa _)
  have B0 : Hid (Below w.heap.size w wc) := by rw [hwc]; exact below_then Bb (below_alloc wb _)
  have bbc : Below wb.heap.size wb wc := by rw [hwc]; exact below_alloc wb _
  have bab : Below wa.heap.size wa wb := by rw [hwb]; exact below_alloc wa _
  have K0 : Hid (Boxed wc w.heap.size 30 (.pointer (some ⟨p, 0, none⟩))) := by
    refine (bbc.block _ (by omega)).trans ((bab.block _ (by omega)).trans ?_)
    rw [hwa]; exact heap_alloc_new w _
  have C0 : Hid (CAt wc (w.heap.size + 1) c) := by
    refine LAt.later ?_ bbc
    rw [hwb, ← sa]; exact LAt.new 23 wa _
  have V0 : Hid (LAt 165 wc (w.heap.size + 1 + 1) (gcells 0 0 0 (.slice none 0 0))) := by rw [hwc, ← sb]; exact LAt.new 165 wb _
  have L0 : Hid (_) := CAt.load23 C0.out
  have z0 := K0.out.cell
  clear hwa hwb hwc Ba Bb bab bbc
  have hmo : Tryz.prog.follows Departure.mixedOrders = true := by kernel_rfl
  have HD : Hid (Dsk w S p n d ws) := h
  have HT : Hid (Tab w) := ht
  obtain ⟨m1, m2, m3, m4, m5⟩ := supOf_zero hz
  have HBy : Hid (∀ i, Bytes (newest ws d i)) := by
    obtain ⟨q, cap, v, hp⟩ := h
    exact fun i => newk_bytes hp.db hp.fit _
  have hT := ((decS_good _ m3).1).2.1
  have hw := decS_wf _ (HBy.out 0)
  obtain ⟨hT0, -⟩ := hw.tail
  have HL : Hid (0 ≤ (decS (newest ws d 0)).1.life) := hw.life.1
  obtain ⟨r, hr⟩ : ∃ r, r = (supOf c n (newest ws d)).1 := ⟨_, rfl⟩
  have er : r = (decS (newest ws d 0)).1 := by rw [hr, m5]
  rw [← er] at hT hT0 HL
  have HM : Hid (MayC c) := m1
  have HN : Hid ((n : Int) = 1 + c.bl + c.lc) := m2
  have hlc := m1.2.1
  have hmr := m1.2.2.1
  obtain ⟨t, ht'⟩ : ∃ t, t = r.tail := ⟨_, rfl⟩
  obtain ⟨lf, hlf⟩ : ∃ lf, lf = r.life := ⟨_, rfl⟩
  rw [← ht'] at hT hT0
  obtain ⟨K, hK⟩ : ∃ K : Nat, c.lc = (K : Int) := ⟨c.lc.toNat, by omega⟩
  have HRUN : Hid (scanS c (newest ws d) r = ⟨t, lf, (scRun (stS c (newest ws d)) c.mr K t ⟨[], t, []⟩).fin, (scRun (stS c (newest ws d)) c.mr K t ⟨[], t, []⟩).txs⟩) := by
    show _ = _
    unfold scanS
    rw [← ht', ← hlf, hK, Int.toNat_natCast]
  rw [← hr, ← ht', ← hlf]
  clear m1 m2 m3 m4 m5 hw er h ht
  refine (callsIn_wide (n := 9)).1 ?_
  refine callsIn_of_wp_marks Tryz.func76 rfl trivial ?_ rfl
  simp only [Tryz.ntmps76, List.size_toArray, List.length_cons, List.length_nil, Nat.reduceAdd, Nat.reduceSub, Array.replicate_succ, Array.replicate_zero, List.push_toArray, List.append_toArray, List.nil_append, List.cons_append]
  gi_wp2_with ((with_reducible refine in_ops ?_); (first | (refine in_alloc (by rfl) 165 rfl A1.out ?_) | (refine in_load (by rfl) 23 rfl rfl L0.out ?_)); simp only [Act.put, List.setIfInBounds_toArray, List.set_cons_zero, List.set_cons_succ])
  refine wpIn_scope ?_
  gi_wp2_with ((with_reducible refine in_ops ?_); (first | (refine in_alloc (by rfl) 165 rfl A1.out ?_) | (refine in_load (by rfl) 23 rfl rfl L0.out ?_)); simp only [Act.put, List.setIfInBounds_toArray, List.set_cons_zero, List.set_cons_succ])
  clear ewa ewb A1
  refine ⟨trivial, (callsIn_wide.2 (superOf_any (HD.out.later B0.out) (HT.out.later B0.out) c)).mono ?_⟩
  rintro e w1 ⟨rfl, b1⟩
  rw [hz, ← hr]
  clear hr hz
  have B1 : Hid (Below w.heap.size w w1) := below_then B0.out b1
  have K1 : Hid (Boxed w1 w.heap.size 30 (.pointer (some ⟨p, 0, none⟩))) := (b1.block _ K0.out.lt).trans K0.out
  have C1 : Hid (CAt w1 (w.heap.size + 1) c) := LAt.later C0.out b1
  have V1 : Hid (LAt 165 w1 (w.heap.size + 1 + 1) (gcells 0 0 0 (.slice none 0 0))) := LAt.later V0.out b1
  have s1 : w.heap.size + 3 ≤ w1.heap.size := by have := LAt.lt V1.out; omega
  clear b1 B0 C0 V0 K0 L0 z0
  obtain ⟨w2, hw2⟩ : ∃ y, y = w1.alloc (.cells (scells r).toArray 121) := ⟨_, rfl⟩
  have A2 : Hid (_) := alloc29 w1
  have T2 : Hid (_) := store_new29 w1 r
  rw [← hw2] at T2
  have s2 : w2.heap.size = w1.heap.size + 1 := by rw [hw2]; simp
  have b2 : Below w1.heap.size w1 w2 := by rw [hw2]; exact below_alloc w1 _
  have Q2 : SAt 121 w2 w1.heap.size r := by rw [hw2]; exact LAt.new 121 w1 _
  obtain ⟨w3, hw3⟩ : ∃ y, y = w2.alloc (.cells (gcells t lf t (.slice none 0 0)).toArray 165) := ⟨_, rfl⟩
  have U3 : Hid (_) := buildL3 w2 t lf t
  have A3 : Hid (_) := allocLg w2
  have T3 : Hid (_) := storeLg w2 t lf t (v := .slice none 0 0) rfl
  rw [← hw3, s2] at T3
  rw [s2] at A3
  have s3 : w3.heap.size = w1.heap.size + 1 + 1 := by rw [hw3, ← s2]; simp
  have b3 : Below w2.heap.size w2 w3 := by rw [hw3]; exact below_alloc w2 _
  have G3 : LAt 165 w3 (w1.heap.size + 1) (gcells t lf t (.slice none 0 0)) := by rw [hw3, ← s2]; exact LAt.new 165 w2 _
  obtain ⟨w4, hw4⟩ : ∃ y, y = w3.alloc (.cells #[.slice none 0 0] 92) := ⟨_, rfl⟩
  have ew4 := hw4.symm
  have s4 : w4.heap.size = w1.heap.size + 1 + 1 + 1 := by rw [hw4, ← s3]; simp
  have b4 : Below w3.heap.size w3 w4 := by rw [hw4]; exact below_alloc w3 _
  have O4 : Boxed w4 (w1.heap.size + 1 + 1) 92 (.slice none 0 0) := by rw [hw4, ← s3]; exact Boxed.new w3 92 _
  have b14 : Below w1.heap.size w1 w4 := below_then (below_then b2 b3) b4
  have Q4 : SAt 121 w4 w1.heap.size r := LAt.later (LAt.later Q2 b3) b4
  have C4 : CAt w4 (w.heap.size + 1) c := LAt.later C1.out b14
  have q5 := SAt.c5 Q2
  have q6 := SAt.c6 Q2
  have q5' := SAt.c5 Q4
  have c1' := CAt.c1 C4
  rw [← ht'] at q5 q5'
  rw [← hlf] at q6
  rw [hK] at c1'
  have k1 : IntKind.u64.wrap (K : Int) = (K : Int) := G.wrap_u (by omega) (by omega)
  have k2 : IntKind.u64.wrap (t + (K : Int)) = t + (K : Int) := G.wrap_u (by omega) (by omega)
  have I4 : Hid (∀ W, Below w4.heap.size w4 W → Boxed W (w1.heap.size + 1 + 1 + 1) 37 (.int .u64 t) → Boxed W (w1.heap.size + 1 + 1 + 1 + 1) 37 (.int .u64 (t + (K : Int))) → RdM w W w.heap.size (w.heap.size + 1) (w.heap.size + 1 + 1) (w1.heap.size + 1) (w1.heap.size + 1 + 1) (w1.heap.size + 1 + 1 + 1) (w1.heap.size + 1 + 1 + 1 + 1) (some ⟨p, 0, none⟩) c t lf (t + (K : Int)) ⟨[], t, []⟩ (.slice none 0 0) [] (.slice none 0 0) w.heap.size) := by
    intro W hb hbt hbe
    have b1W := below_then b14 hb
    refine ⟨(b1W.block _ K1.out.lt).trans K1.out, LAt.later C1.out b1W, LAt.later V1.out b1W, hbt, hbe, LAt.later (LAt.later G3 b4) hb, (hb.block _ O4.lt).trans O4, XOwn.nil _ _ _, World.ownsRow_nil _ _ _ _, Rise.nil _, Nat.le_refl _, ?_, below_then B1.out b1W, by omega, by omega, by omega⟩
    have := hb.size; omega
  clear ht' hlf
  clear hw2 hw3 hw4 b2 b3 b4 b14 Q2 Q4 C4 G3 O4 C1 V1 K1
  gi_wp2_with ((with_reducible refine in_ops ?_); (first | (refine in_alloc (by rfl) 121 rfl A2.out ?_) | (refine in_store (by rfl) 121 rfl rfl rfl T2.out ?_) | (refine in_build (vs := [(0, .int .u64 t), (1, .int .u64 lf), (2, .int .u64 t)]) (by rfl) 165 rfl (by rfl) U3.out ?_) | (refine in_alloc (by rfl) 165 rfl A3.out ?_) | (refine in_store (by rfl) 165 rfl rfl rfl T3.out ?_)); simp only [Act.put, List.setIfInBounds_toArray, List.set_cons_zero, List.set_cons_succ])
  refine wpIn_label ?_
  gi_wp2_with (refine ⟨trivial, ?_⟩; gi_at_call 106; refine (callsIn_wide.2 (G.span_any _ _ _)).mono ?_; rintro e' w' ⟨rfl, rfl⟩)
  clear q5 q6 q5' c1' A2 T2 U3 A3 T3 ew4
  have bT : Hid (Boxed ((w4.alloc (.cells #[.int .u64 t] 37)).alloc (.cells #[.int .u64 (t + (K : Int))] 37)) (w1.heap.size + 1 + 1 + 1) 37 (.int .u64 t)) := by
    rw [← s4]; exact (Boxed.new w4 37 (.int .u64 t)).alloc _
  have bE : Hid (Boxed ((w4.alloc (.cells #[.int .u64 t] 37)).alloc (.cells #[.int .u64 (t + (K : Int))] 37)) (w1.heap.size + 1 + 1 + 1 + 1) 37 (.int .u64 (t + (K : Int)))) := by
    have := Boxed.new (w4.alloc (.cells #[.int .u64 t] 37)) 37 (.int .u64 (t + (K : Int)))
    rwa [World.size_alloc, s4] at this
  have b5 : Below w4.heap.size w4 ((w4.alloc (.cells #[.int .u64 t] 37)).alloc (.cells #[.int .u64 (t + (K : Int))] 37)) := below_then (below_alloc w4 _) (below_alloc _ _)
  have I5 : Hid (_) := I4.out _ b5 bT.out bE.out
  have s5 : ((w4.alloc (.cells #[.int .u64 t] 37)).alloc (.cells #[.int .u64 (t + (K : Int))] 37)).heap.size = w1.heap.size + 5 := by simp; omega
  clear I4 b5
  generalize (w4.alloc (.cells #[.int .u64 t] 37)).alloc (.cells #[.int .u64 (t + (K : Int))] 37) = W0 at *
  refine wpIn_rangeFunc_ownG (F := Fence.wide) (n := 9) (P := Tryz.prog) rfl (by decide) (gf := 127) (lb := #[.pointer (some ⟨w1.heap.size + 1 + 1 + 1, 0, none⟩), .pointer (some ⟨w1.heap.size + 1 + 1 + 1 + 1, 0, none⟩)]) rfl trivial (enters_of Tryz.func127 (by kernel_rfl) rfl)
    (G.span_stops Fence.wide (9 - 1) trivial rfl (by decide) (w1.heap.size + 1 + 1 + 1) (w1.heap.size + 1 + 1 + 1 + 1) t (t + (K : Int)) hT0 (by omega) (by omega) (by omega) W0 bT.out bE.out) G.Kept2.trans (G.Kept2.keeps (by omega) (by omega)) (Below.refl _ _) (fun _ => rfl)
    (fun pre W => ∃ s, GoAt (stS c (newest ws d)) c.mr t pre s ∧ ∃ v vs cv Bx, RdM w W w.heap.size (w.heap.size + 1) (w.heap.size + 1 + 1) (w1.heap.size + 1) (w1.heap.size + 1 + 1) (w1.heap.size + 1 + 1 + 1) (w1.heap.size + 1 + 1 + 1 + 1) (some ⟨p, 0, none⟩) c t lf (t + (K : Int)) s v vs cv Bx)
    (fun co pre' W => co = .exit 0 ∧ ∃ (pre : List G.U64) (u : G.U64) (s : Sc), pre' = pre ++ [u] ∧ GoAt (stS c (newest ws d)) c.mr t pre s ∧ ((stS c (newest ws d) u.1).2 = false ∨ scStep c.mr s u.1 (stS c (newest ws d) u.1).1 = none) ∧ ∃ v vs cv Bx, RdM w W w.heap.size (w.heap.size + 1) (w.heap.size + 1 + 1) (w1.heap.size + 1) (w1.heap.size + 1 + 1) (w1.heap.size + 1 + 1 + 1) (w1.heap.size + 1 + 1 + 1 + 1) (some ⟨p, 0, none⟩) c t lf (t + (K : Int)) s v vs cv Bx)
    ?hI ?hIx ⟨_, GoAt.start _ (by omega) t, _, _, _, _, I5.out⟩
    (fun x => { tmps := #[.pointer (some ⟨p, 0, none⟩), .agg (ccells c).toArray, .pointer (some ⟨w.heap.size, 0, none⟩), .pointer (some ⟨w.heap.size + 1, 0, none⟩), .pointer (some ⟨w.heap.size + 1 + 1, 0, none⟩), .int .i64 0, .pointer (some ⟨w1.heap.size, 0, none⟩), .int .i64 0, .pointer (some ⟨w1.heap.size + 1, 0, none⟩), .pointer (some ⟨w1.heap.size + 1 + 1, 0, none⟩), .int .u64 x.1, undef, undef, .tuple #[.agg (scells r).toArray, .int .i64 0], .pointer (some ⟨p, 0, none⟩), .agg (ccells c).toArray, .tuple #[.agg (scells r).toArray, .int .i64 0], .agg (scells r).toArray, .int .i64 0, .int .i64 0, .bool false, undef, undef, .pointer (some ⟨w1.heap.size, 5, none⟩), .int .u64 t, .pointer (some ⟨w1.heap.size, 6, none⟩), .int .u64 lf, .pointer (some ⟨w1.heap.size, 5, none⟩), .int .u64 t, .agg (gcells t lf t (.slice none 0 0)).toArray, .pointer (some ⟨w1.heap.size, 5, none⟩), .int .u64 t, .pointer (some ⟨w1.heap.size, 5, none⟩), .int .u64 t, .pointer (some ⟨w.heap.size + 1, 1, none⟩), .int .i64 (K : Int), .int .u64 (K : Int), .int .u64 (t + (K : Int)), .func (.func 127) #[] #[.pointer (some ⟨w1.heap.size + 1 + 1 + 1, 0, none⟩), .pointer (some ⟨w1.heap.size + 1 + 1 + 1 + 1, 0, none⟩)], .int .u64 x.1, undef, undef, undef, undef, undef, undef, undef, undef, undef, undef, undef, undef, undef, undef, undef, undef, undef, undef, undef, undef, undef, undef, undef, undef, undef, undef, undef, undef, undef, undef, undef, undef, undef, undef, undef, undef, undef, undef, undef, undef, undef, undef, undef, undef, undef, undef, undef, undef, undef, undef, undef, undef, undef], defers := [] }) ?assign ?body ?done ?stop
  case hI =>
    rintro pre V V' row ⟨s, hg, v, vs, cv, Bx, hm⟩ hgr hr
    exact ⟨s, hg, v, vs, cv, Bx, RdM.own (β := Unit) (by omega) () V V' row hm hgr hr⟩
  case hIx =>
    rintro co pre' V V' row ⟨hco, pre, u, s, h1, h2, h3, v, vs, cv, Bx, hm⟩ hgr hr
    exact ⟨hco, pre, u, s, h1, h2, h3, v, vs, cv, Bx, RdM.own (β := Unit) (by omega) () V V' row hm hgr hr⟩
  case assign =>
    intro l1 x V Kc hKc
    gi_wp2
    exact hKc
  case body =>
    rintro l1 pre u V ⟨s, hgo, v, vs, cv, Bx, hm⟩ hlt
    have hpl : pre.length ≤ 64 := by have := G.spanN_le t (t + (K : Int)); omega
    have HG : Hid (GoAt (stS c (newest ws d)) c.mr t pre s) := hgo
    have M0 : Hid (RdM w V w.heap.size (w.heap.size + 1) (w.heap.size + 1 + 1) (w1.heap.size + 1) (w1.heap.size + 1 + 1) (w1.heap.size + 1 + 1 + 1) (w1.heap.size + 1 + 1 + 1 + 1) (some ⟨p, 0, none⟩) c t lf (t + (K : Int)) s v vs cv Bx) := hm
    obtain ⟨q, cap, hcv, -, -, -⟩ := IOwn.in hm.im hgo.ok.cw
    have HCV : Hid (cv = .slice q s.come.length cap) := hcv
    have hcl : s.come.length ≤ 16 := by have := hgo.ok.cl; omega
    have htl : s.txs.length ≤ 64 := by have := hgo.ok.tl; omega
    have kd := hm.dk.cell
    have L4 : Hid (_) := CAt.load23 hm.cf
    have hu0 := u.2.1
    clear hm hgo hcv
    gi_wp2_with ((with_reducible refine in_ops ?_); (refine in_load (by rfl) 23 rfl rfl L4.out ?_); simp only [Act.put, List.setIfInBounds_toArray, List.set_cons_zero, List.set_cons_succ])
    refine ⟨trivial, (CallsIn.inRound l1 (callsIn_wide.2 (recordAt_any (HD.out.later M0.out.low) (HT.out.later M0.out.low) c HM.out HN.out u.1 hu0))).mono ?_⟩
    rintro e V1 ⟨rfl, b1⟩
    have HWf : Hid ((stS c (newest ws d) u.1).1.Wf) := stS_wf HBy.out
    have HGood : Hid ((stS c (newest ws d) u.1).2 = true → R.may (stS c (newest ws d) u.1).1 = true ∧ (stS c (newest ws d) u.1).1.pos = u.1) := fun h => ⟨(stS_good h).1, (stS_good h).2.1⟩
    have HNx : Hid (∀ z, stS c (newest ws d) u.1 = z → (z.2 = false ∨ scStep c.mr s u.1 z.1 = none) → (stS c (newest ws d) u.1).2 = false ∨ scStep c.mr s u.1 (stS c (newest ws d) u.1).1 = none) := by rintro z rfl h; exact h
    have HGo : Hid (∀ z s', stS c (newest ws d) u.1 = z → z.2 = true → scStep c.mr s u.1 z.1 = some s' → GoAt (stS c (newest ws d)) c.mr t (pre ++ [u]) s') := by
      rintro z s' rfl h1 h2
      exact HG.out.step (by omega) HWf.out h1 h2
    obtain ⟨⟨rr, bb⟩, hst⟩ : ∃ z, stS c (newest ws d) u.1 = z := ⟨_, rfl⟩
    have HNx' : Hid ((bb = false ∨ scStep c.mr s u.1 rr = none) → (stS c (newest ws d) u.1).2 = false ∨ scStep c.mr s u.1 (stS c (newest ws d) u.1).1 = none) := HNx.out _ hst
    have HGo' : Hid (∀ s', scStep c.mr s u.1 rr = some s' → bb = true → GoAt (stS c (newest ws d)) c.mr t (pre ++ [u]) s') := fun s' h2 h1 => HGo.out _ s' hst h1 h2
    rw [hst] at HWf HGood ⊢
    clear hst HNx HGo
    obtain ⟨V2, hV2⟩ : ∃ y, y = V1.alloc (.cells (R.rcells rr).toArray 139) := ⟨_, rfl⟩
    have A5 : Hid (_) := R.alloc31 V1
    have T5 : Hid (_) := R.store_new R.size31 V1 rr HWf.out.len
    rw [← hV2] at T5
    have b2 : Below V1.heap.size V1 V2 := by rw [hV2]; exact below_alloc V1 _
    have B2 : Hid (Below V.heap.size V V2) := below_then b1 b2
    have R2 : Hid (R.RAt 139 V2 V1.heap.size rr) := by rw [hV2]; exact R.RAt.new 139 V1 rr
    have M2 : Hid (RdM w V2 w.heap.size (w.heap.size + 1) (w.heap.size + 1 + 1) (w1.heap.size + 1) (w1.heap.size + 1 + 1) (w1.heap.size + 1 + 1 + 1) (w1.heap.size + 1 + 1 + 1 + 1) (some ⟨p, 0, none⟩) c t lf (t + (K : Int)) s v vs cv Bx) := M0.out.later B2.out
    have HK2 : Hid (KeepsFrom W0.heap.size V V2) := keeps_of_below B2.out _
    clear hV2 b1 b2 kd L4
    cases bb with
    | false =>
      have HX : Hid (_) := HNx'.out (.inl (by first | rfl | trivial))
      gi_wp2_with ((with_reducible refine in_ops ?_); (first | (refine in_alloc (by rfl) 139 rfl A5.out ?_) | (refine in_store (by rfl) 139 rfl rfl rfl T5.out ?_)); simp only [Act.put, List.setIfInBounds_toArray, List.set_cons_zero, List.set_cons_succ])
      exact ⟨HK2.out, rfl, pre, u, s, rfl, HG.out, HX.out, v, vs, cv, Bx, M2.out⟩
    | true =>
      have r0 := R.RAt.c0 R2.out
      by_cases hk1 : rr.kind = 1
      · have kc := M2.out.co.cell
        have r2 := R.RAt.c2 R2.out
        have c2 := CAt.c2 M2.out.cf
        rw [HCV.out] at kc
        have hk1' : (rr.kind == 1) = true := by simp [hk1]
        gi_wp2_with ((with_reducible refine in_ops ?_); (first | (refine in_alloc (by rfl) 139 rfl A5.out ?_) | (refine in_store (by rfl) 139 rfl rfl rfl T5.out ?_)); simp only [Act.put, List.setIfInBounds_toArray, List.set_cons_zero, List.set_cons_succ])
        have MI : MIn V2 q s.come.length s.come := by
          have h1 := M2.out.im
          rw [HCV.out] at h1
          obtain ⟨q', cap', e', mi, -, -⟩ := IOwn.in h1 HG.out.ok.cw
          cases e'
          exact mi
        refine ⟨trivial, (CallsIn.inRound l1 (callsIn_wide.2 (follows_any q s.come.length cap s.come rr.block c.mr V2 MI (by omega)))).mono ?_⟩
        rintro e V3 ⟨rfl, rfl⟩
        by_cases hf : Folls s.come rr.block c.mr
        · rw [decide_eq_true hf]
          have HS : Hid (_) := HGo'.out _ (scStep_img ⟨hk1, hf⟩) (by first | rfl | trivial)
          have LV : Hid (_) := R.RAt.load24 R2.out HWf.out.len
          have UI : Hid (_) := buildI V2 rr.block rr.val HWf.out.len
          have SI : Hid (_) := build_im V2 ⟨rr.block, rr.val⟩ HWf.out.len
          obtain ⟨v', V4, hrun, hco4, m4, k4⟩ := M2.out.img ⟨rr.block, rr.val⟩ ⟨⟨HWf.out.b0, HWf.out.b1⟩, HWf.out.len, HWf.out.byte⟩ (by omega)
          rw [HCV.out] at hrun hco4
          obtain ⟨g', cap', rfl⟩ : ∃ g' cap', v' = .slice (some ⟨g', 0, none⟩) (s.come.length + 1) cap' := ownsRow_succ (by have := m4.im; rw [IOwn, List.length_append, List.length_singleton] at this; exact this)
          have AP : Hid (_) := hrun
          have z := hco4.cell
          have zf := hco4.frozen
          have M4 : Hid (_) := m4
          have K4 : Hid (_) := HK2.out.trans (k4.from _)
          clear hrun hco4 m4 k4 MI hf
          gi_wp2_with ((with_reducible refine in_ops ?_); (first | (refine in_load (by rfl) 39 rfl rfl LV.out ?_) | (refine in_build (vs := [(0, .int .i64 rr.block), (1, .agg (U8 rr.val).toArray)]) (by rfl) 155 rfl (by rfl) UI.out ?_) | (refine in_slice (u := .agg (icells ⟨rr.block, rr.val⟩).toArray) (by rfl) 92 rfl rfl SI.out ?_) | (refine in_append (u1 := .slice q s.come.length cap) (u2 := .slice (some ⟨V2.heap.size, 0, none⟩) 1 1) (by rfl) rfl rfl rfl rfl AP.out ?_)); simp only [Act.put, List.setIfInBounds_toArray, List.set_cons_zero, List.set_cons_succ])
          refine ⟨K4.out, ⟨?_, ?_⟩, _, HS.out, v, vs, _, Bx, M4.out⟩
          · exact Eq.trans M4.out.bt (Eq.symm M0.out.bt)
          · exact Eq.trans M4.out.be (Eq.symm M0.out.be)
        · rw [decide_eq_false hf]
          have hk2' : (rr.kind == 2) = false := by simp [hk1]
          have HX : Hid (_) := HNx'.out (.inr (scStep_no (fun h => hf h.2) (fun h => by have := h.1; omega)))
          clear MI hf
          gi_wp2
          exact ⟨HK2.out, rfl, pre, u, s, rfl, HG.out, HX.out, v, vs, cv, Bx, M2.out⟩
      · have hk1' : (rr.kind == 1) = false := by simp [hk1]
        by_cases hk2 : rr.kind = 2
        · have hk2' : (rr.kind == 2) = true := by simp [hk2]
          have kc := M2.out.co.cell
          have r35 := R.RAt.c35 R2.out HWf.out.len
          rw [HCV.out] at kc
          by_cases hi : rr.images = (s.come.length : Int)
          · have hi' : (rr.images == (s.come.length : Int)) = true := by simp [hi]
            have HS : Hid (_) := HGo'.out _ (scStep_com ⟨hk2, hi⟩) (by first | rfl | trivial)
            have hpos : u.1 ≤ 4611686018427387904 := by
              have := HGood.out (by first | rfl | trivial)
              rw [← this.2]; exact R.may_pos this.1
            have g3 : V2.cell? ⟨w1.heap.size + 1, 3, none⟩ = some v := LAt.cell M2.out.lg 3
            obtain ⟨q3, cap3, hv3, -, -, -⟩ := XOwn.in M2.out.tx
            have UT : Hid (_) := buildT V2 u.1 q s.come.length cap
            have SL : Hid (_) := build_tx V2 u.1 q s.come.length cap
            obtain ⟨v', V4, hrun, hlg4, hco4, m4, k4⟩ := M2.out.com u.1 ⟨hu0, by omega⟩ htl HG.out.ok.cw q s.come.length cap HCV.out
            rw [HCV.out] at hrun
            rw [hv3] at hrun g3
            obtain ⟨g', cap', rfl⟩ : ∃ g' cap', v' = .slice (some ⟨g', 0, none⟩) (s.txs.length + 1) cap' := ownsRow_succ (by have := m4.tx.row; rw [List.length_append, List.length_singleton] at this; exact this)
            have AP : Hid (_) := hrun
            have z3 : V4.cell? ⟨w1.heap.size + 1, 3, none⟩ = some (.slice q3 s.txs.length cap3) := by rw [← hv3]; exact LAt.cell hlg4 3
            have zf3 := LAt.free hlg4 3
            have hlg5 := LAt.set hlg4 3 (.slice (some ⟨g', 0, none⟩) (s.txs.length + 1) cap')
            have z2 : (V4.setCell ⟨w1.heap.size + 1, 3, none⟩ (.slice (some ⟨g', 0, none⟩) (s.txs.length + 1) cap')).cell? ⟨w1.heap.size + 1, 2, none⟩ = some (.int .u64 s.fin) := LAt.cell hlg5 2
            have zf2 := LAt.free hlg5 2
            have hco6 : LAt 92 ((V4.setCell ⟨w1.heap.size + 1, 3, none⟩ (.slice (some ⟨g', 0, none⟩) (s.txs.length + 1) cap')).setCell ⟨w1.heap.size + 1, 2, none⟩ (.int .u64 (u.1 + 1))) (w1.heap.size + 1 + 1) [cv] := LAt.setO (LAt.setO (show LAt 92 V4 (w1.heap.size + 1 + 1) [cv] from hco4) 3 (.slice (some ⟨g', 0, none⟩) (s.txs.length + 1) cap') (by omega)) 2 _ (by omega)
            have z0 : ((V4.setCell ⟨w1.heap.size + 1, 3, none⟩ (.slice (some ⟨g', 0, none⟩) (s.txs.length + 1) cap')).setCell ⟨w1.heap.size + 1, 2, none⟩ (.int .u64 (u.1 + 1))).cell? ⟨w1.heap.size + 1 + 1, 0, none⟩ = some (.slice q s.come.length cap) := by rw [← HCV.out]; exact LAt.cell hco6 0
            have zf0 := LAt.free hco6 0
            have hadd : IntKind.u64.wrap (u.1 + 1) = u.1 + 1 := G.wrap_u (by omega) (by omega)
            have M4 : Hid (_) := m4
            have K4 : Hid (_) := HK2.out.trans (k4.from _)
            clear hrun hlg4 hco4 m4 k4 hlg5 hco6 hi
            gi_wp2_with ((with_reducible refine in_ops ?_); (first | (refine in_alloc (by rfl) 139 rfl A5.out ?_) | (refine in_store (by rfl) 139 rfl rfl rfl T5.out ?_)); simp only [Act.put, List.setIfInBounds_toArray, List.set_cons_zero, List.set_cons_succ])
            refine ⟨trivial, ?_⟩
            gi_wp2_with ((with_reducible refine in_ops ?_); (first | (refine in_build (vs := [(0, .int .u64 u.1), (1, .slice q s.come.length cap)]) (by rfl) 207 rfl (by rfl) UT.out ?_) | (refine in_slice (u := .agg #[.int .u64 u.1, .slice q s.come.length cap]) (by rfl) 163 rfl rfl SL.out ?_) | (refine in_append (u1 := .slice q3 s.txs.length cap3) (u2 := .slice (some ⟨V2.heap.size, 0, none⟩) 1 1) (by rfl) rfl rfl rfl rfl AP.out ?_)); simp only [Act.put, List.setIfInBounds_toArray, List.set_cons_zero, List.set_cons_succ])
            refine ⟨K4.out, ⟨?_, ?_⟩, _, HS.out, _, _, _, _, M4.out⟩
            · exact Eq.trans M4.out.bt (Eq.symm M0.out.bt)
            · exact Eq.trans M4.out.be (Eq.symm M0.out.be)
          · have hi' : (rr.images == (s.come.length : Int)) = false := by simp [hi]
            have HX : Hid (_) := HNx'.out (.inr (scStep_no (fun h => hk1 h.1) (fun h => hi h.2)))
            clear hi
            gi_wp2_with ((with_reducible refine in_ops ?_); (first | (refine in_alloc (by rfl) 139 rfl A5.out ?_) | (refine in_store (by rfl) 139 rfl rfl rfl T5.out ?_)); simp only [Act.put, List.setIfInBounds_toArray, List.set_cons_zero, List.set_cons_succ])
            refine ⟨trivial, ?_⟩
            gi_wp2
            exact ⟨HK2.out, rfl, pre, u, s, rfl, HG.out, HX.out, v, vs, cv, Bx, M2.out⟩
        · have hk2' : (rr.kind == 2) = false := by simp [hk2]
          have HX : Hid (_) := HNx'.out (.inr (scStep_no (fun h => hk1 h.1) (fun h => hk2 h.1)))
          gi_wp2_with ((with_reducible refine in_ops ?_); (first | (refine in_alloc (by rfl) 139 rfl A5.out ?_) | (refine in_store (by rfl) 139 rfl rfl rfl T5.out ?_)); simp only [Act.put, List.setIfInBounds_toArray, List.set_cons_zero, List.set_cons_succ])
          refine ⟨trivial, ?_⟩
          gi_wp2
          exact ⟨HK2.out, rfl, pre, u, s, rfl, HG.out, HX.out, v, vs, cv, Bx, M2.out⟩
  case done =>
    rintro D ys V hD hS ⟨s, hgo, v, vs, cv, Bx, hm⟩ hK'
    have HR : Hid (scRun (stS c (newest ws d)) c.mr K t ⟨[], t, []⟩ = s) := hgo.done (by omega) hS
    clear hgo hS
    have LL : Hid (_) := LAt.loadLg hm.lg
    have TL : Hid (_) := LAt.store (ds := gcells t lf s.fin v) hm.rs sizeLg rfl (all_oneCell_toArray (gcells_ones (own_one hm.tx.row) t lf s.fin))
    obtain ⟨f1, f2, f3, f4, f5⟩ := hm.fin (D := D) (by omega) (by omega) hK' (by omega)
    have HF : Hid (_) := (⟨f1, f2, f3, f4, f5⟩ : _ ∧ _ ∧ _ ∧ _ ∧ _)
    clear f1 f2 f3 f4 f5 hm hK'
    gi_wp2_with ((with_reducible refine in_ops ?_); (first | (refine in_load (by rfl) 165 rfl rfl LL.out ?_) | (refine in_store (by rfl) 165 rfl rfl rfl TL.out ?_)); simp only [Act.put, List.setIfInBounds_toArray, List.set_cons_zero, List.set_cons_succ])
    try rw [Exit.noGoto_ret]
    refine ⟨by simp, .inl ⟨_, _, rfl, run_takeDeferred HF.out.1, ?_⟩⟩
    refine ⟨_, results_lat Tryz.results76 _ _ (w.heap.size + 1 + 1) 165 _ _ (by rfl) HF.out.2.1 Tryz.underlying165 rfl sizeLg, v, vs, ?_, ?_, HF.out.2.2.2.1, HF.out.2.2.2.2⟩
    · rw [HRUN.out, HR.out]; rfl
    · rw [HRUN.out, HR.out]; exact HF.out.2.2.1
  case stop =>
    rintro D co pre' V hD hpre ⟨rfl, pre, u, s, rfl, hgo, hst, v, vs, cv, Bx, hm⟩ hK'
    have HR : Hid (scRun (stS c (newest ws d)) c.mr K t ⟨[], t, []⟩ = s) := hgo.stop (by omega) hpre hst
    clear hgo hst hpre
    have LL : Hid (_) := LAt.loadLg hm.lg
    have TL : Hid (_) := LAt.store (ds := gcells t lf s.fin v) hm.rs sizeLg rfl (all_oneCell_toArray (gcells_ones (own_one hm.tx.row) t lf s.fin))
    obtain ⟨f1, f2, f3, f4, f5⟩ := hm.fin (D := D) (by omega) (by omega) hK' (by omega)
    have HF : Hid (_) := (⟨f1, f2, f3, f4, f5⟩ : _ ∧ _ ∧ _ ∧ _ ∧ _)
    clear f1 f2 f3 f4 f5 hm hK'
    gi_wp2_with ((with_reducible refine in_ops ?_); (first | (refine in_load (by rfl) 165 rfl rfl LL.out ?_) | (refine in_store (by rfl) 165 rfl rfl rfl TL.out ?_)); simp only [Act.put, List.setIfInBounds_toArray, List.set_cons_zero, List.set_cons_succ])
    try rw [Exit.noGoto_ret]
    refine ⟨by simp, .inl ⟨_, _, rfl, run_takeDeferred HF.out.1, ?_⟩⟩
    refine ⟨_, results_lat Tryz.results76 _ _ (w.heap.size + 1 + 1) 165 _ _ (by rfl) HF.out.2.1 Tryz.underlying165 rfl sizeLg, v, vs, ?_, ?_, HF.out.2.2.2.1, HF.out.2.2.2.2⟩
    · rw [HRUN.out, HR.out]; rfl
    · rw [HRUN.out, HR.out]; exact HF.out.2.2.1
end Go.Proofs.YtdadpepfpiimgaaGreatDoor
namespace Go.Proofs.YtdadpepfpiimgaaGreatDoor
open Go.RowKit
theorem read_any10 {w : World} {S : Nat → Prop} {p n : Nat} {d : List Int} {ws : List Wr} (h : Dsk w S p n d ws) (ht : Tab w) (c : Sup) :
    Calls Tryz.prog 76 #[.pointer (some ⟨p, 0, none⟩), .agg (ccells c).toArray] w fun e w' => ∃ q cp vs, e = .returned (.tuple #[.agg (gcells (rdL c n (newest ws d)).1.tail (rdL c n (newest ws d)).1.life (rdL c n (newest ws d)).1.fin (.slice q (rdL c n (newest ws d)).1.txs.length cp)).toArray, .int .i64 (rdL c n (newest ws d)).2]) ∧ XOwn 207 w' w.heap.size (.slice q (rdL c n (newest ws d)).1.txs.length cp) (rdL c n (newest ws d)).1.txs vs ∧ Rise vs w'.heap.size ∧ Below w.heap.size w w' := by
  by_cases hz : (supOf c n (newest ws d)).2 = 0
  · rw [rdL_ok hz]
    refine (read_ok10 h ht c hz).mono ?_
    rintro e w' ⟨v, vs, rfl, hx, hr, hb⟩
    obtain ⟨q, cp, rfl, -⟩ := XOwn.in hx
    exact ⟨q, cp, vs, rfl, hx, hr, hb⟩
  · rw [rdL_no hz]
    refine (read_err10 h ht c hz).mono ?_
    rintro e w' ⟨rfl, hb⟩
    exact ⟨none, 0, [], rfl, XOwn.nil _ _ _, Rise.nil _, hb⟩
end Go.Proofs.YtdadpepfpiimgaaGreatDoor
