import Derived.Test.YtdadpepfpiimgaaGreatDoorY22
set_option maxHeartbeats 20000000
set_option maxRecDepth 100000
namespace Go.Proofs.YtdadpepfpiimgaaGreatDoor.Q
open Go.RowKit
section
variable {P : Program} {ops : Array Oper} {Q : Exit → Act → World → Prop} {md : Region.Mode} {S : World → Prop} {fuel L : Nat} {listed : Array Bool} {a : Act} {w : World}
theorem tkc (i : Nat) {oi : Oper} {f t : TypeId} {x : Operand} {p v : Value} {a' : Act} (hS : S w) (hrun : ∀ w, S w → (convert f t p).run P w = .ok v w) (h : wpAnyH P md ops Q S fuel (listed.setIfInBounds i true) a' w) (hi : ops[i]? = some oi := by simp; rfl) (ho : oi.op = .convert f t x := by rfl) (hx : a.eval x = p := by rfl) (hs : Region.noSelect ops = true := by kernel_rfl) (hf : Region.free md ops listed i = true := by kernel_rfl) (hr : (Region.ready md ops listed).contains i = true := by kernel_rfl) (hg : Region.wanted oi (yielded ops a.tmps) = true := by rfl) (ha : a.put oi.dst v = a' := by simp only [Act.put, List.setIfInBounds_toArray, List.set_cons_zero, List.set_cons_succ]; with_reducible rfl) (hQ : ∀ c a w, Q (.panic c) (a.put oi.dst v) w → Q (.panic c) a w := by exact fun _ _ _ h => h) : wpAnyH P md ops Q S (fuel + 1) listed a w :=
  wpAnyH_take hi hs hf hr hQ (.inl ⟨hg, fun w s => by unfold execOp; simp only [ho, hx, Sem.run_bind, hrun w s, Result.andThen_ok, Sem.run_pure]⟩) hS (ha ▸ h)
theorem tkL (i : Nat) {oi : Oper} {v : Value} {a' : Act} (hS : S w) (h : wpAnyL P md ops Q S L fuel (listed.setIfInBounds i true) a' w) (hi : ops[i]? = some oi := by simp; rfl) (hs : Region.noSelect ops = true := by kernel_rfl) (hf : Region.free md ops listed i = true := by kernel_rfl) (hr : (Region.ready md ops listed).contains i = true := by kernel_rfl) (hd : (match ops[L]? with | some o => o.after.any (fun e => Region.binds md e && e.on == i) | none => true) = true := by kernel_rfl) (hg : Region.wanted oi (yielded ops a.tmps) = true := by rfl) (hy : ∀ w, (execOp a.eval oi).run P w = .ok (.value v) w := by intro w; go_simp; with_reducible rfl) (ha : a.put oi.dst v = a' := by simp only [Act.put, List.setIfInBounds_toArray, List.set_cons_zero, List.set_cons_succ]; with_reducible rfl) (hQ : ∀ c a w, Q (.panic c) (a.put oi.dst v) w → Q (.panic c) a w := by exact fun _ _ _ h => h) : wpAnyL P md ops Q S L (fuel + 1) listed a w :=
  wpAnyL_take hi hs hf hr hd hQ (.inl ⟨hg, fun w _ => hy w⟩) hS (ha ▸ h)
theorem tklL (i : Nat) {oi : Oper} {v : Value} {a' : Act} {Z : World → Prop} (hS : S w) (z : ∀ w, S w → Z w) (h : wpAnyL P md ops Q S L fuel (listed.setIfInBounds i true) a' w) (hi : ops[i]? = some oi := by simp; rfl) (hs : Region.noSelect ops = true := by kernel_rfl) (hf : Region.free md ops listed i = true := by kernel_rfl) (hr : (Region.ready md ops listed).contains i = true := by kernel_rfl) (hd : (match ops[L]? with | some o => o.after.any (fun e => Region.binds md e && e.on == i) | none => true) = true := by kernel_rfl) (hg : Region.wanted oi (yielded ops a.tmps) = true := by rfl) (hy : ∀ w, Z w → (execOp a.eval oi).run P w = .ok (.value v) w := by intro w z; go_simp; with_reducible rfl) (ha : a.put oi.dst v = a' := by simp only [Act.put, List.setIfInBounds_toArray, List.set_cons_zero, List.set_cons_succ]; with_reducible rfl) (hQ : ∀ c a w, Q (.panic c) (a.put oi.dst v) w → Q (.panic c) a w := by exact fun _ _ _ h => h) : wpAnyL P md ops Q S L (fuel + 1) listed a w :=
  wpAnyL_take hi hs hf hr hd hQ (.inl ⟨hg, fun w s => hy w (z w s)⟩) hS (ha ▸ h)
end
theorem run_conv_is {P : Program} {o : Oper} {a : Act} {w : World} {K : Act → World → Prop} {Q : Exit → Act → World → Prop} (f t : TypeId) {x : Operand} (ho : o.op = .convert f t x) {u v : Value} (hx : a.eval x = u) (hrun : (convert f t u).run P w = .ok v w) (h : K (a.put o.dst v) w) : o.wp P a w K Q := by
  have e : (execOp a.eval o).run P w = .ok (.value v) w := by unfold execOp; simp only [ho, hx, Sem.run_bind, hrun, Result.andThen_ok, Sem.run_pure]
  unfold Oper.wp; rw [e]; exact h
section
variable {w0 w w' : World} {X : List Kd} {i j P p n : Nat} {D : Dd} {x : Rc} {g cap m : Nat} {bs : List Int}
theorem SIn.later {a : Option Addr} {l : List LW} (h : SIn w a m l) (hb : Below w.heap.size w w') : SIn w' a m l := by
  refine ⟨⟨h.win.len, fun h0 => ?_⟩, h.non, h.few⟩
  obtain ⟨b, o, e, -⟩ := h.win.cells h0
  refine ⟨b, o, e, fun k t hk => ?_⟩
  obtain ⟨b', o', t', e', et, c0, c1, hB, -⟩ := h.at hb (k := k) (by rw [← h.win.len]; exact (List.getElem?_eq_some_iff.1 hk).1)
  rw [e] at e'
  cases e'
  rw [hk] at et
  cases et
  exact ⟨c0, c1, hB⟩
theorem Fz.aty (h : Fz w0 w X) (hi : X[i]? = some (ky (.slice (some ⟨g, 0, none⟩) m cap) bs)) (hm : bs.length = m) : w.ownsRow 0 5 1 (.slice (some ⟨g, 0, none⟩) m cap) m (U8 bs) ∧ ∀ (k : Nat) (z : Int), Fz w0 (w.setCell ⟨g, k, none⟩ (.int .u8 z)) (X.set i (ky (.slice (some ⟨g, 0, none⟩) m cap) (bs.set k z))) := by
  subst hm
  obtain ⟨t, G, rfl, ha, hf, hL⟩ := h.at hi
  refine ⟨ha, fun k z => ?_⟩
  obtain ⟨h1, h2⟩ := World.ownsRow.stored (show w.ownsRow 0 5 1 (.slice (some ⟨g, 0, none⟩) bs.length cap) bs.length (U8 bs) from ha) k (.int .u8 z)
  refine hL _ (.byt _ (bs.set k z)) G (fun b => b = g) _ ?_ ⟨h2.os, h2.tape, h2.output, h2.size, fun b hb hne => h2.block b hb fun e => hne (by cases e; rfl)⟩ (fun b _ hb => by have e : b = g := hb; show (Value.slice (some ⟨g, 0, none⟩) bs.length cap).ownBlock = some b; rw [e]; rfl) (fun b hb => .inl hb) (fun _ a => a) (fun _ a => .inl a) rfl
  show (w.setCell ⟨g, k, none⟩ (.int .u8 z)).ownsRow 0 5 1 (.slice (some ⟨g, 0, none⟩) bs.length cap) (bs.set k z).length (U8 (bs.set k z))
  rw [List.length_set, show U8 (bs.set k z) = (U8 bs).set k (.int .u8 z) by simp [U8, List.map_set]]
  exact h1
theorem Fz.biny (h : Fz w0 w X) (hi : X[i]? = some (ky (.slice (some ⟨g, 0, none⟩) m cap) bs)) (hm : bs.length = m) (hb : Bytes bs) : BIn w (some ⟨g, 0, none⟩) m bs := by
  obtain ⟨p, c, e, hB, -⟩ := own_in (h.aty hi hm).1 hb
  cases e
  exact hB
theorem hcl_load {W : World} {B : Nat} {c : Sup} {more : Int} {a : Option Addr} {m cp : Nat} (h : LAt 26 W B (hcl c more a m cp)) : (Instr.loadAt 26 (.pointer (some ⟨B, 0, none⟩))).run Tryz.prog W = .ok (.agg (hcl c more a m cp).toArray) W := run_loadAt_mid W B 0 26 (hcl c more a m cp) _ (LAt.range h) Tryz.underlying26 rfl (by kernel_rfl)
theorem hcl0 {W : World} {B : Nat} {c : Sup} {more : Int} {a : Option Addr} {m cp : Nat} (h : LAt 26 W B (hcl c more a m cp)) : W.cell? ⟨B, 0, none⟩ = some (.int .i64 c.bl) := by rw [LAt.cell h 0]; rfl
theorem hcl1 {W : World} {B : Nat} {c : Sup} {more : Int} {a : Option Addr} {m cp : Nat} (h : LAt 26 W B (hcl c more a m cp)) : W.cell? ⟨B, 1, none⟩ = some (.int .i64 c.lc) := by rw [LAt.cell h 1]; rfl
set_option maxHeartbeats 2000000 in
set_option maxRecDepth 100000 in
theorem redoAny_no (ht : Tab w) (c : Sup) (hc : ¬ MayC c) (more : Int) (a : Option Addr) (m cp : Nat) (ra : Option Addr) (rn rc : Nat) : Calls Tryz.prog 3 #[.agg (hcl c more a m cp).toArray, .slice ra rn rc] w fun e w' => e = .returned (.bool true) ∧ Below w.heap.size w w' := by
  have h1 := (Fz.start w).newa (hcl c more a m cp) 26
  obtain ⟨B, hB⟩ : ∃ B, w.heap.size = B := ⟨_, rfl⟩
  rw [hB] at h1
  have H1 : Hid (Fz w (w.alloc (.cells (hcl c more a m cp).toArray 26)) [kb B 26 (hcl c more a m cp)]) := h1
  clear h1
  go_enter Tryz.func3, Tryz.ntmps3
  go_wp2_with fail
  refine (fixed_is (H1.out.tab ht)).mono ?_
  rintro e w2 ⟨rfl, hb⟩
  have H2 : Hid (Fz w w2 [kb B 26 (hcl c more a m cp)]) := H1.out.later hb
  have HL : Hid (_) := hcl_load (H2.out.atb (i := 0) rfl).1
  clear hb H1
  go_wp2_with ((with_reducible refine at_ops ?_); (refine wpList_load_is (by rfl) 26 rfl rfl HL.out ?_); simp only [Act.put, List.setIfInBounds_toArray, List.set_cons_zero, List.set_cons_succ])
  refine (image_no c hc more a m cp).mono ?_
  rintro e w3 ⟨rfl, hb⟩
  have HZ : Hid (Below w.heap.size w w3) := (H2.out.later hb).below
  clear hb H2 HL
  go_wp2
  go_ret
  exact ⟨rfl, HZ.out⟩
set_option maxHeartbeats 40000000 in
set_option maxRecDepth 100000 in
theorem redoAny_yes (ht : Tab w) (c : Sup) (hc : MayC c) (more : Int) {a : Option Addr} {m cp : Nat} {l : List LW} (hS : SIn w a m l) (hm : m ≤ 140737488355328) {ra : Option Addr} {rn : Nat} (rc : Nat) {rs : List Int} (hr : BIn w ra rn rs) (hrn : rn ≤ 140737488355328) : Calls Tryz.prog 3 #[.agg (hcl c more a m cp).toArray, .slice ra rn rc] w fun e w' => e = .returned (.bool true) ∧ Below w.heap.size w w' := by
  have h1 := (Fz.start w).newa (hcl c more a m cp) 26
  obtain ⟨B, hB⟩ : ∃ B, w.heap.size = B := ⟨_, rfl⟩
  rw [hB] at h1
  have H1 : Hid (Fz w (w.alloc (.cells (hcl c more a m cp).toArray 26)) [kb B 26 (hcl c more a m cp)]) := h1
  have HR : Hid (BIn w ra rn rs) := hr
  have HSI : Hid (SIn w a m l) := hS
  clear h1 hr hS
  go_enter Tryz.func3, Tryz.ntmps3
  go_wp2_with fail
  refine (fixed_is (H1.out.tab ht)).mono ?_
  rintro e w2 ⟨rfl, hb⟩
  have H2 : Hid (Fz w w2 [kb B 26 (hcl c more a m cp)]) := H1.out.later hb
  have HL : Hid (_) := hcl_load (H2.out.atb (i := 0) rfl).1
  have HS2 : Hid (SIn w2 a m l) := HSI.out.later H2.out.below
  clear hb H1
  go_wp2_with ((with_reducible refine at_ops ?_); (refine wpList_load_is (by rfl) 26 rfl rfl HL.out ?_); simp only [Act.put, List.setIfInBounds_toArray, List.set_cons_zero, List.set_cons_succ])
  refine (image_is c hc more HS2.out hm).mono ?_
  rintro e w3 ⟨g, cap, k, bs, rfl, ho, hbl, hby, hkc, hk3, hk130, hb⟩
  have H3 : Hid (Fz w w3 [ky (.slice (some ⟨g, 0, none⟩) (64 * k) cap) bs, kb B 26 (hcl c more a m cp)]) := H2.out.push hb (u := .byt _ bs) (fun _ => by show w3.ownsRow 0 5 1 _ bs.length _; rw [hbl]; exact own_zero ho) (fun b hb => (World.ownsRow.lt ho b hb).1) rfl
  have b0 := hcl0 (H3.out.atb (i := 1) rfl).1
  have b1 := hcl1 (H3.out.atb (i := 1) rfl).1
  clear ho hb H2 HL HS2 HSI
  have hk0 : ((64 * (k : Int)) == 0) = false := by simp; omega
  by_cases hkn : (k : Int) = 1 + c.bl + c.lc
  · have hq : ((64 * (k : Int)) != 64 * (1 + c.bl + c.lc)) = false := by simp [hkn]
    have HKN : Hid ((k : Int) = 1 + c.bl + c.lc) := hkn
    clear hkn
    go_wp2_with fail
    go_loopw [6] (fun i wr => ∃ (r : Nat) (bs' : List Int), i = .int .i64 r ∧ r ≤ rn ∧ r ≤ 2000 ∧ bs'.length = 64 * k ∧ Bytes bs' ∧ Hid (Fz w wr [ky (.slice (some ⟨g, 0, none⟩) (64 * k) cap) bs', kb B 26 (hcl c more a m cp)])) (fun i _ => rn - (intOf i).toNat)
    case atStart => exact ⟨0, bs, rfl, Nat.zero_le _, by omega, hbl, hby, H3⟩
    case round =>
      obtain ⟨r, bs', rfl, hr1, hr2, hl', hy', HF⟩ := hrel
      by_cases hlt : r < rn ∧ r < 2000
      · have r1 : (r : Int) < (rn : Int) := by omega
        have r2 : (r : Int) < 2000 := by omega
        have r0 : (0 : Int) ≤ (r : Int) := by omega
        obtain ⟨rb, ro, rfl, hrc⟩ := HR.out.cells (by omega)
        have hz := hrc r hlt.1
        have hlr : r < rs.length := by rw [HR.out.len]; exact hlt.1
        obtain ⟨z, hzz⟩ : ∃ z, rs.getD r 0 = z := ⟨_, rfl⟩
        have hzb : 0 ≤ z ∧ z < 256 := by rw [← hzz, List.getD_eq_getElem?_getD, List.getElem?_eq_getElem hlr]; exact HR.out.byte _ (List.getElem_mem hlr)
        rw [hzz] at hz
        have z0 : wr.cell? ⟨rb, ro + r, none⟩ = some (.int .u8 z) := by rw [HF.out.below.cell (p := ⟨rb, ro + r, none⟩) (World.block_lt_of_cell? w _ hz)]; exact hz
        obtain ⟨K, hK⟩ : ∃ K : Nat, ((r : Int) * 7919 + z * 131) % (64 * (k : Int)) = (K : Int) := ⟨(((r : Int) * 7919 + z * 131) % (64 * (k : Int))).toNat, by have := Int.emod_nonneg ((r : Int) * 7919 + z * 131) (show (64 * (k : Int)) ≠ 0 by omega); omega⟩
        have hKl : K < 64 * k := by have := Int.emod_lt_of_pos ((r : Int) * 7919 + z * 131) (show 0 < 64 * (k : Int) by omega); omega
        have hFd : Fz w wr.drew [ky (.slice (some ⟨g, 0, none⟩) (64 * k) cap) bs', kb B 26 (hcl c more a m cp)] := HF.out.later (below_drawn 1)
        obtain ⟨hoy, hst⟩ := hFd.aty (i := 0) rfl hl'
        obtain ⟨y, hyy⟩ : ∃ y, bs'[K]? = some y := ⟨_, List.getElem?_eq_getElem (by omega)⟩
        have hyb : 0 ≤ y ∧ y < 256 := hy' y (List.mem_of_getElem? hyy)
        have y0 : wr.drew.cell? ⟨g, K, none⟩ = some (.int .u8 y) := by rw [hoy.cellAt K (by omega)]; simp [U8, List.getElem?_map, hyy]
        have hxor : 0 ≤ bits .xor .u8 y z ∧ bits .xor .u8 y z < 256 := by
          rw [u8_xor y z hyb.1 hyb.2 hzb.1 hzb.2]
          have : y.toNat ^^^ z.toNat < 256 := Nat.xor_lt_two_pow (n := 8) (by omega) (by omega)
          omega
        have HXO : Hid (0 ≤ bits .xor .u8 y z ∧ bits .xor .u8 y z < 256) := hxor
        have HFN : Hid (Fz w (wr.drew.setCell ⟨g, K, none⟩ (.int .u8 (bits .xor .u8 y z))) [ky (.slice (some ⟨g, 0, none⟩) (64 * k) cap) (bs'.set K (bits .xor .u8 y z)), kb B 26 (hcl c more a m cp)]) := hst K _
        have HYB : Hid (Bytes (bs'.set K (bits .xor .u8 y z))) := fun q hq => by
          rcases List.mem_or_eq_of_mem_set hq with hq | rfl
          · exact hy' q hq
          · exact HXO.out
        have f0 : wr.drew.frozen? ⟨g, K, none⟩ = false := by
          rcases hoy.2 with ⟨e, _⟩ | ⟨g', cap', cur, e, _, hg, _⟩
          · cases e
          · cases e; exact frozen_row hg
        clear hoy hst hxor hFd
        have K1 : (K : Int) < 64 * (k : Int) := by omega
        have K0 : (0 : Int) ≤ (K : Int) := by omega
        go_upto_region 10 with fail
        rw [hK]
        refine wp_region_noPanic ?_
        refine wp_region_last 12 (fun W => W.cell? ⟨g, K, none⟩ = some (.int .u8 y) ∧ W.cell? ⟨rb, ro + r, none⟩ = some (.int .u8 z)) (by kernel_rfl) ?_
        have hHeld : wr.drew.cell? ⟨g, K, none⟩ = some (.int .u8 y) ∧ wr.drew.cell? ⟨rb, ro + r, none⟩ = some (.int .u8 z) := ⟨y0, z0⟩
        refine tkL 0 hHeld ?_
        refine tkL 1 hHeld ?_
        refine tkL 2 hHeld ?_
        refine tkL 3 hHeld ?_
        refine tkL 4 hHeld ?_
        refine tklL 5 hHeld (fun _ s => s.1) ?_
        refine tkL 6 hHeld ?_
        refine tkL 7 hHeld ?_
        refine tkL 8 hHeld ?_
        refine tklL 9 hHeld (fun _ s => s.2) ?_
        refine tkL 10 hHeld ?_
        refine tkL 11 hHeld ?_
        refine wpAnyL_ready (rs := [12]) (by kernel_rfl) (by simp) ?_
        refine AllReadyL.cons (by simp; rfl) (fun Kc hKc => ?_) AllReadyL.nil
        go_simp
        refine hKc.out _ _ (fun e => absurd rfl e) ?_
        refine wpAnyL_done (by kernel_rfl) (NoPanic.normal ?_) _
        clear hKc Kc hHeld
        go_wp2_with fail
        go_roundw
        case rel => exact ⟨r + 1, _, by congr 1, by omega, by omega, by rw [List.length_set]; exact hl', HYB.out, HFN⟩
        case measure => simp [intOf]; omega
      · have HNL : Hid (¬ (r < rn ∧ r < 2000)) := hlt
        have hg1 : ¬ ((r : Int) < (rn : Int)) ∨ ((r : Int) < (rn : Int) ∧ ¬ (r : Int) < 2000) := by omega
        rcases hg1 with hg1 | ⟨hg0, hg1⟩
        · go_wp2_with fail
          have hB := HF.out.biny (i := 0) rfl hl' hy'
          refine (load_good g 0 (64 * k) cap k bs' _ hB rfl hkc (by omega) (by omega)).mono ?_
          rintro e w4 ⟨p, rfl, hd, hb⟩
          have H4 : Hid (Fz w w4 [kd p k ⟨bs', []⟩, ky (.slice (some ⟨g, 0, none⟩) (64 * k) cap) bs', kb B 26 (hcl c more a m cp)]) := HF.out.newd (D := ⟨bs', []⟩) hb hd
          have HC4 : Hid (_) := hcl_cfg (H4.out.atb (i := 2) rfl).1
          clear hd hb hB HF
          go_wp2_with ((with_reducible refine at_ops ?_); (refine wpList_load_is (by rfl) 23 rfl rfl HC4.out ?_); simp only [Act.put, List.setIfInBounds_toArray, List.set_cons_zero, List.set_cons_succ])
          refine (new_ok (j := 0) c hc H4.out rfl HKN.out).mono ?_
          rintro e w5 ⟨P, rfl, h5⟩
          have H5 : Hid (Fz w w5 [kr P (some p) (r0 c), kd p k ⟨bs', []⟩, ky (.slice (some ⟨g, 0, none⟩) (64 * k) cap) bs', kb B 26 (hcl c more a m cp)]) := h5
          have hok0 : (r0 c).Ok k := start_ok hc HKN.out
          have hdok := H5.out.dok (j := 1) rfl
          have HRD : Hid (rdE k c ⟨bs', []⟩ = 0 ∨ rdE k c ⟨bs', []⟩ = 31 ∨ rdE k c ⟨bs', []⟩ = 3 ∨ rdE k c ⟨bs', []⟩ = 70) := rdE_some (x := r0 c) hc HKN.out hdok
          clear h5 H4 HC4
          go_wp2_with fail
          refine (step_at (i := 0) (j := 1) ht H5.out rfl rfl (by decide) hok0 (Nat.zero_le _)).mono ?_
          rintro e w6 ⟨rfl, h6⟩
          by_cases he0 : rdE k c ⟨bs', []⟩ = 0
          · have hst := step_read (x := r0 c) (n := k) rfl he0
            rw [hst] at h6
            rw [hst]
            have hrok := read_ok hok0 hdok he0
            obtain ⟨xr, hxr⟩ : ∃ xr, readR k (r0 c) ⟨bs', []⟩ = xr := ⟨_, rfl⟩
            have hxc : xr.c = c := by rw [← hxr]; rfl
            have hxs : xr.st = 2 ∨ xr.st = 3 := by rw [← hxr]; exact read_st _
            rw [hxr] at hrok
            obtain ⟨wa, wb, hal, hstr, hkp⟩ := Fz.keeprow (r := ⟨19, -1, zv, (lgS k c ⟨bs', []⟩).fin, (lgS k c ⟨bs', []⟩).txs.length⟩) h6 (zs_len 32)
            obtain ⟨R, hR⟩ : ∃ B, w6.heap.size = B := ⟨_, rfl⟩
            rw [hR] at hal hstr hkp
            have HAL : Hid (_) := hal
            have HST : Hid (_) := hstr
            have H7 : Hid (Fz w wb [kb R 42 (rowc ⟨19, -1, zv, (lgS k c ⟨bs', []⟩).fin, (lgS k c ⟨bs', []⟩).txs.length⟩), kr P (some p) xr, kd p k ⟨bs', []⟩, ky (.slice (some ⟨g, 0, none⟩) (64 * k) cap) bs', kb B 26 (hcl c more a m cp)]) := by rw [← hxr]; exact hkp
            have hfew := hrok.few
            have HGO := go_end (n := k) (k := 200) (D := ⟨bs', []⟩) hrok hxs (by rw [hxc] at hfew; omega)
            clear h6 hkp hal hstr hR H5 HRD hxr
            go_wp2_with ((with_reducible refine at_ops ?_); (first | (refine wpList_alloc_is (by rfl) 42 rfl HAL.out ?_) | (refine wpList_store_is (by rfl) 42 rfl rfl rfl HST.out ?_)); simp only [Act.put, List.setIfInBounds_toArray, List.set_cons_zero, List.set_cons_succ])
            refine (goes_at (i := 1) (j := 2) ht H7.out rfl rfl (by decide) hrok 200 (show (0 : Nat) + 200 ≤ 100000 by decide) (by decide)).mono ?_
            rintro e w8 ⟨v8, rfl, h8⟩
            rw [HGO] at h8
            rw [HGO]
            obtain ⟨t8, G8, rfl, ho8, -⟩ := h8.at (i := 0) rfl
            obtain ⟨p8, c8, e8, -⟩ := own_slice (show w8.ownsRow 0 3 1 v8 _ _ from ho8)
            subst e8
            have HLN : Hid (((List.replicate xr.left.length (15 : Int) ++ [12, 16, 20]).length : Int) ≤ 2 + c.lc) := by rw [hxc] at hfew; show _ ≤ _; rw [List.length_append, List.length_replicate]; show ((xr.left.length + 3 : Nat) : Int) ≤ _; omega
            obtain ⟨D8, hD8⟩ : ∃ D8, ((carD xr.left ⟨bs', []⟩).fls.wr 0 (encS (supN xr))).fls = D8 := ⟨_, rfl⟩
            obtain ⟨x8, hx8⟩ : ∃ x8 : Rc, ({ xr with st := 6, left := [] } : Rc) = x8 := ⟨_, rfl⟩
            have hx6 : x8.st = 6 := by rw [← hx8]
            rw [hx8, hD8] at h8
            have H8 : Hid (Fz w w8 [ki (.slice p8 (List.replicate xr.left.length (15 : Int) ++ [12, 16, 20]).length c8) (List.replicate xr.left.length 15 ++ [12, 16, 20]), kb R 42 (rowc ⟨19, -1, zv, (lgS k c ⟨bs', []⟩).fin, (lgS k c ⟨bs', []⟩).txs.length⟩), kr P (some p) x8, kd p k D8, ky (.slice (some ⟨g, 0, none⟩) (64 * k) cap) bs', kb B 26 (hcl c more a m cp)]) := h8
            clear h8 ho8 H7 HGO hx8 hD8
            generalize (List.replicate xr.left.length (15 : Int) ++ [12, 16, 20]) = ks at *
            have hln := HLN.out
            go_wp2_with fail
            refine (result_at (i := 2) H8.out rfl).mono ?_
            rintro e w9 ⟨rfl, h9⟩
            have hr9 : (resS x8).2.2 = true := by unfold resS; rw [if_pos hx6]
            rw [hr9]
            have b19 := hcl1 (h9.atb (i := 5) rfl).1
            have HZ : Hid (Below w.heap.size w w9) := h9.below
            have hw2 : IntKind.i64.wrap (2 + c.lc) = 2 + c.lc := by rw [IntKind.wrap_i64]; omega
            clear h9 H8
            go_wp2
            go_ret
            exact ⟨rfl, HZ.out⟩
          · have hst := step_bad (x := r0 c) (n := k) rfl he0
            rw [hst] at h6
            rw [hst]
            obtain ⟨f, hf⟩ : ∃ f, rdE k c ⟨bs', []⟩ = f := ⟨_, rfl⟩
            have hf' : rdE k (r0 c).c ⟨bs', []⟩ = f := hf
            rw [hf']
            rw [hf] at he0
            rw [hf] at HRD
            obtain ⟨wa, wb, hal, hstr, hkp⟩ := Fz.keeprow (r := ⟨0, 0, zv, 0, 0⟩) h6 (zs_len 32)
            obtain ⟨R, hR⟩ : ∃ B, w6.heap.size = B := ⟨_, rfl⟩
            rw [hR] at hal hstr hkp
            have HAL : Hid (_) := hal
            have HST : Hid (_) := hstr
            have H7 : Hid (Fz w wb [kb R 42 (rowc ⟨0, 0, zv, 0, 0⟩), kr P (some p) (r0 c), kd p k ⟨bs', []⟩, ky (.slice (some ⟨g, 0, none⟩) (64 * k) cap) bs', kb B 26 (hcl c more a m cp)]) := hkp
            have hq0 : (f != 0) = true := by simp [he0]
            clear h6 hkp hal hstr hR H5
            go_wp2_with ((with_reducible refine at_ops ?_); (first | (refine wpList_alloc_is (by rfl) 42 rfl HAL.out ?_) | (refine wpList_store_is (by rfl) 42 rfl rfl rfl HST.out ?_)); simp only [Act.put, List.setIfInBounds_toArray, List.set_cons_zero, List.set_cons_succ])
            refine (step_at (i := 1) (j := 2) ht H7.out rfl rfl (by decide) hok0 (Nat.zero_le _)).mono ?_
            rintro e w8 ⟨rfl, h8⟩
            rw [hst] at h8
            rw [hst, hf']
            obtain ⟨wc, wd, hal, hstr, hkp⟩ := Fz.keeprow (r := ⟨0, 0, zv, 0, 0⟩) h8 (zs_len 32)
            obtain ⟨R2, hR2⟩ : ∃ B, w8.heap.size = B := ⟨_, rfl⟩
            rw [hR2] at hal hstr hkp
            have HAL : Hid (_) := hal
            have HST : Hid (_) := hstr
            have H9 : Hid (Fz w wd.drew [kb R2 42 (rowc ⟨0, 0, zv, 0, 0⟩), kb R 42 (rowc ⟨0, 0, zv, 0, 0⟩), kr P (some p) (r0 c), kd p k ⟨bs', []⟩, ky (.slice (some ⟨g, 0, none⟩) (64 * k) cap) bs', kb B 26 (hcl c more a m cp)]) := Fz.later (show Fz w wd [kb R2 42 (rowc ⟨0, 0, zv, 0, 0⟩), kb R 42 (rowc ⟨0, 0, zv, 0, 0⟩), kr P (some p) (r0 c), kd p k ⟨bs', []⟩, ky (.slice (some ⟨g, 0, none⟩) (64 * k) cap) bs', kb B 26 (hcl c more a m cp)] from hkp) (below_drawn 1)
            have HYI : Hid (bs'.length = 64 * k ∧ Bytes bs') := ⟨hl', hy'⟩
            clear h8 hkp hal hstr hR2 H7 hst
            go_wp2_with ((with_reducible refine at_ops ?_); (first | (refine wpList_alloc_is (by rfl) 42 rfl HAL.out ?_) | (refine wpList_store_is (by rfl) 42 rfl rfl rfl HST.out ?_)); simp only [Act.put, List.setIfInBounds_toArray, List.set_cons_zero, List.set_cons_succ])
            refine wp_region_noPanic ?_
            refine wp_region_held_drew (S := fun W => Fz w W [kb R2 42 (rowc ⟨0, 0, zv, 0, 0⟩), kb R 42 (rowc ⟨0, 0, zv, 0, 0⟩), kr P (some p) (r0 c), kd p k ⟨bs', []⟩, ky (.slice (some ⟨g, 0, none⟩) (64 * k) cap) bs', kb B 26 (hcl c more a m cp)]) (by kernel_rfl) H9.out (fun hHeld => ?_)
            generalize wd.drew = we at *
            rcases HRD.out with h0 | h0 | h0 | h0
            · exact absurd h0 he0
            · subst h0
              refine tk 0 hHeld ?_
              refine tk 1 hHeld ?_
              refine tk 2 hHeld ?_
              refine tk 3 hHeld ?_
              refine tk 4 hHeld ?_
              refine tk 5 hHeld ?_
              refine tk 6 hHeld ?_
              refine tk 7 hHeld ?_
              refine tk 8 hHeld ?_
              refine tk 9 hHeld ?_
              refine tk 10 hHeld ?_
              refine tk 11 hHeld ?_
              refine tk 12 hHeld ?_
              refine tk 13 hHeld ?_
              refine tk 14 hHeld ?_
              refine tk 15 hHeld ?_
              refine tk 16 hHeld ?_
              refine tkr 17 fun Kc hKc => ?_
              go_simp
              refine (state_at (i := 2) hHeld rfl).mono ?_
              rintro e w' ⟨rfl, hw'⟩
              rw [hw']
              clear hw' w'
              refine hKc.out _ _ hHeld (fun hHeld => ?_)
              clear hKc Kc
              refine tk 18 hHeld ?_
              refine tk 19 hHeld ?_
              refine tk 20 hHeld ?_
              refine tk 21 hHeld ?_
              refine tk 24 hHeld ?_
              refine tkc 25 hHeld (fun _ s => (s.biny (i := 4) rfl HYI.out.1 HYI.out.2).str cap) ?_
              refine tkr 22 fun Kc hKc => ?_
              go_simp
              obtain ⟨S, hd, -, -⟩ := hHeld.atd (i := 3) rfl
              refine (image_any hd).mono ?_
              rintro e wi ⟨vi, rfl, oi, bi⟩
              obtain ⟨pi, ci, rfl, hri, -⟩ := own_in oi HYI.out.2
              have Xe : Hid (BIn wi pi (64 * k) bs') := hri
              have hH := hHeld.later bi
              clear oi bi hri hd S
              refine hKc.out _ _ hH (fun hHeld => ?_)
              clear hKc Kc
              refine tkr 23 fun Kc hKc => ?_
              rw [if_pos (by rfl)]
              refine run_conv_is 27 9 rfl rfl (Xe.out.str ci) ?_
              refine hKc.out _ _ hHeld (fun hHeld => ?_)
              clear hKc Kc
              refine tk 26 hHeld ?_
              refine tk 27 hHeld ?_
              refine tk 28 hHeld ?_
              refine tk 29 hHeld ?_
              refine tkr 30 fun Kc hKc => ?_
              go_simp
              obtain ⟨S, hd, -, -⟩ := hHeld.atd (i := 3) rfl
              refine (waiting_any hd (Nat.zero_le _)).mono ?_
              rintro e wj ⟨gw, vw, rfl, -, bj⟩
              have hH := hHeld.later bj
              clear bj hd S
              refine hKc.out _ _ hH (fun hHeld => ?_)
              clear hKc Kc
              refine tk 31 hHeld ?_
              refine tk 32 hHeld ?_
              refine tk 33 hHeld ?_
              refine tk 34 hHeld ?_
              have HZ : Hid (Below w.heap.size w _) := hHeld.below
              clear hHeld
              refine wpAnyH_done (by kernel_rfl) (NoPanic.normal ?_) _
              go_wp2
              go_ret
              exact ⟨rfl, by first | exact HZ.out | (rw [← hB]; exact HZ.out)⟩
            · subst h0
              refine tk 0 hHeld ?_
              refine tk 1 hHeld ?_
              refine tk 2 hHeld ?_
              refine tk 3 hHeld ?_
              refine tk 4 hHeld ?_
              refine tk 5 hHeld ?_
              refine tk 6 hHeld ?_
              refine tks 7 hHeld ?_
              refine tks 8 hHeld ?_
              refine tk 9 hHeld ?_
              refine tk 10 hHeld ?_
              refine tk 11 hHeld ?_
              refine tk 12 hHeld ?_
              refine tk 13 hHeld ?_
              refine tk 14 hHeld ?_
              refine tk 15 hHeld ?_
              refine tk 16 hHeld ?_
              refine tkr 17 fun Kc hKc => ?_
              go_simp
              refine (state_at (i := 2) hHeld rfl).mono ?_
              rintro e w' ⟨rfl, hw'⟩
              rw [hw']
              clear hw' w'
              refine hKc.out _ _ hHeld (fun hHeld => ?_)
              clear hKc Kc
              refine tk 18 hHeld ?_
              refine tk 19 hHeld ?_
              refine tk 20 hHeld ?_
              refine tk 21 hHeld ?_
              refine tk 24 hHeld ?_
              refine tkc 25 hHeld (fun _ s => (s.biny (i := 4) rfl HYI.out.1 HYI.out.2).str cap) ?_
              refine tkr 22 fun Kc hKc => ?_
              go_simp
              obtain ⟨S, hd, -, -⟩ := hHeld.atd (i := 3) rfl
              refine (image_any hd).mono ?_
              rintro e wi ⟨vi, rfl, oi, bi⟩
              obtain ⟨pi, ci, rfl, hri, -⟩ := own_in oi HYI.out.2
              have Xe : Hid (BIn wi pi (64 * k) bs') := hri
              have hH := hHeld.later bi
              clear oi bi hri hd S
              refine hKc.out _ _ hH (fun hHeld => ?_)
              clear hKc Kc
              refine tkr 23 fun Kc hKc => ?_
              rw [if_pos (by rfl)]
              refine run_conv_is 27 9 rfl rfl (Xe.out.str ci) ?_
              refine hKc.out _ _ hHeld (fun hHeld => ?_)
              clear hKc Kc
              refine tk 26 hHeld ?_
              refine tk 27 hHeld ?_
              refine tk 28 hHeld ?_
              refine tk 29 hHeld ?_
              refine tkr 30 fun Kc hKc => ?_
              go_simp
              obtain ⟨S, hd, -, -⟩ := hHeld.atd (i := 3) rfl
              refine (waiting_any hd (Nat.zero_le _)).mono ?_
              rintro e wj ⟨gw, vw, rfl, -, bj⟩
              have hH := hHeld.later bj
              clear bj hd S
              refine hKc.out _ _ hH (fun hHeld => ?_)
              clear hKc Kc
              refine tk 31 hHeld ?_
              refine tk 32 hHeld ?_
              refine tk 33 hHeld ?_
              refine tk 34 hHeld ?_
              have HZ : Hid (Below w.heap.size w _) := hHeld.below
              clear hHeld
              refine wpAnyH_done (by kernel_rfl) (NoPanic.normal ?_) _
              go_wp2
              go_ret
              exact ⟨rfl, by first | exact HZ.out | (rw [← hB]; exact HZ.out)⟩
            · subst h0
              refine tk 0 hHeld ?_
              refine tk 1 hHeld ?_
              refine tk 2 hHeld ?_
              refine tks 3 hHeld ?_
              refine tks 4 hHeld ?_
              refine tk 5 hHeld ?_
              refine tk 6 hHeld ?_
              refine tks 7 hHeld ?_
              refine tks 8 hHeld ?_
              refine tk 9 hHeld ?_
              refine tk 10 hHeld ?_
              refine tk 11 hHeld ?_
              refine tk 12 hHeld ?_
              refine tk 13 hHeld ?_
              refine tk 14 hHeld ?_
              refine tk 15 hHeld ?_
              refine tk 16 hHeld ?_
              refine tkr 17 fun Kc hKc => ?_
              go_simp
              refine (state_at (i := 2) hHeld rfl).mono ?_
              rintro e w' ⟨rfl, hw'⟩
              rw [hw']
              clear hw' w'
              refine hKc.out _ _ hHeld (fun hHeld => ?_)
              clear hKc Kc
              refine tk 18 hHeld ?_
              refine tk 19 hHeld ?_
              refine tk 20 hHeld ?_
              refine tk 21 hHeld ?_
              refine tk 24 hHeld ?_
              refine tkc 25 hHeld (fun _ s => (s.biny (i := 4) rfl HYI.out.1 HYI.out.2).str cap) ?_
              refine tkr 22 fun Kc hKc => ?_
              go_simp
              obtain ⟨S, hd, -, -⟩ := hHeld.atd (i := 3) rfl
              refine (image_any hd).mono ?_
              rintro e wi ⟨vi, rfl, oi, bi⟩
              obtain ⟨pi, ci, rfl, hri, -⟩ := own_in oi HYI.out.2
              have Xe : Hid (BIn wi pi (64 * k) bs') := hri
              have hH := hHeld.later bi
              clear oi bi hri hd S
              refine hKc.out _ _ hH (fun hHeld => ?_)
              clear hKc Kc
              refine tkr 23 fun Kc hKc => ?_
              rw [if_pos (by rfl)]
              refine run_conv_is 27 9 rfl rfl (Xe.out.str ci) ?_
              refine hKc.out _ _ hHeld (fun hHeld => ?_)
              clear hKc Kc
              refine tk 26 hHeld ?_
              refine tk 27 hHeld ?_
              refine tk 28 hHeld ?_
              refine tk 29 hHeld ?_
              refine tkr 30 fun Kc hKc => ?_
              go_simp
              obtain ⟨S, hd, -, -⟩ := hHeld.atd (i := 3) rfl
              refine (waiting_any hd (Nat.zero_le _)).mono ?_
              rintro e wj ⟨gw, vw, rfl, -, bj⟩
              have hH := hHeld.later bj
              clear bj hd S
              refine hKc.out _ _ hH (fun hHeld => ?_)
              clear hKc Kc
              refine tk 31 hHeld ?_
              refine tk 32 hHeld ?_
              refine tk 33 hHeld ?_
              refine tk 34 hHeld ?_
              have HZ : Hid (Below w.heap.size w _) := hHeld.below
              clear hHeld
              refine wpAnyH_done (by kernel_rfl) (NoPanic.normal ?_) _
              go_wp2
              go_ret
              exact ⟨rfl, by first | exact HZ.out | (rw [← hB]; exact HZ.out)⟩
        · go_wp2_with fail
          have hB := HF.out.biny (i := 0) rfl hl' hy'
          refine (load_good g 0 (64 * k) cap k bs' _ hB rfl hkc (by omega) (by omega)).mono ?_
          rintro e w4 ⟨p, rfl, hd, hb⟩
          have H4 : Hid (Fz w w4 [kd p k ⟨bs', []⟩, ky (.slice (some ⟨g, 0, none⟩) (64 * k) cap) bs', kb B 26 (hcl c more a m cp)]) := HF.out.newd (D := ⟨bs', []⟩) hb hd
          have HC4 : Hid (_) := hcl_cfg (H4.out.atb (i := 2) rfl).1
          clear hd hb hB HF
          go_wp2_with ((with_reducible refine at_ops ?_); (refine wpList_load_is (by rfl) 23 rfl rfl HC4.out ?_); simp only [Act.put, List.setIfInBounds_toArray, List.set_cons_zero, List.set_cons_succ])
          refine (new_ok (j := 0) c hc H4.out rfl HKN.out).mono ?_
          rintro e w5 ⟨P, rfl, h5⟩
          have H5 : Hid (Fz w w5 [kr P (some p) (r0 c), kd p k ⟨bs', []⟩, ky (.slice (some ⟨g, 0, none⟩) (64 * k) cap) bs', kb B 26 (hcl c more a m cp)]) := h5
          have hok0 : (r0 c).Ok k := start_ok hc HKN.out
          have hdok := H5.out.dok (j := 1) rfl
          have HRD : Hid (rdE k c ⟨bs', []⟩ = 0 ∨ rdE k c ⟨bs', []⟩ = 31 ∨ rdE k c ⟨bs', []⟩ = 3 ∨ rdE k c ⟨bs', []⟩ = 70) := rdE_some (x := r0 c) hc HKN.out hdok
          clear h5 H4 HC4
          go_wp2_with fail
          refine (step_at (i := 0) (j := 1) ht H5.out rfl rfl (by decide) hok0 (Nat.zero_le _)).mono ?_
          rintro e w6 ⟨rfl, h6⟩
          by_cases he0 : rdE k c ⟨bs', []⟩ = 0
          · have hst := step_read (x := r0 c) (n := k) rfl he0
            rw [hst] at h6
            rw [hst]
            have hrok := read_ok hok0 hdok he0
            obtain ⟨xr, hxr⟩ : ∃ xr, readR k (r0 c) ⟨bs', []⟩ = xr := ⟨_, rfl⟩
            have hxc : xr.c = c := by rw [← hxr]; rfl
            have hxs : xr.st = 2 ∨ xr.st = 3 := by rw [← hxr]; exact read_st _
            rw [hxr] at hrok
            obtain ⟨wa, wb, hal, hstr, hkp⟩ := Fz.keeprow (r := ⟨19, -1, zv, (lgS k c ⟨bs', []⟩).fin, (lgS k c ⟨bs', []⟩).txs.length⟩) h6 (zs_len 32)
            obtain ⟨R, hR⟩ : ∃ B, w6.heap.size = B := ⟨_, rfl⟩
            rw [hR] at hal hstr hkp
            have HAL : Hid (_) := hal
            have HST : Hid (_) := hstr
            have H7 : Hid (Fz w wb [kb R 42 (rowc ⟨19, -1, zv, (lgS k c ⟨bs', []⟩).fin, (lgS k c ⟨bs', []⟩).txs.length⟩), kr P (some p) xr, kd p k ⟨bs', []⟩, ky (.slice (some ⟨g, 0, none⟩) (64 * k) cap) bs', kb B 26 (hcl c more a m cp)]) := by rw [← hxr]; exact hkp
            have hfew := hrok.few
            have HGO := go_end (n := k) (k := 200) (D := ⟨bs', []⟩) hrok hxs (by rw [hxc] at hfew; omega)
            clear h6 hkp hal hstr hR H5 HRD hxr
            go_wp2_with ((with_reducible refine at_ops ?_); (first | (refine wpList_alloc_is (by rfl) 42 rfl HAL.out ?_) | (refine wpList_store_is (by rfl) 42 rfl rfl rfl HST.out ?_)); simp only [Act.put, List.setIfInBounds_toArray, List.set_cons_zero, List.set_cons_succ])
            refine (goes_at (i := 1) (j := 2) ht H7.out rfl rfl (by decide) hrok 200 (show (0 : Nat) + 200 ≤ 100000 by decide) (by decide)).mono ?_
            rintro e w8 ⟨v8, rfl, h8⟩
            rw [HGO] at h8
            rw [HGO]
            obtain ⟨t8, G8, rfl, ho8, -⟩ := h8.at (i := 0) rfl
            obtain ⟨p8, c8, e8, -⟩ := own_slice (show w8.ownsRow 0 3 1 v8 _ _ from ho8)
            subst e8
            have HLN : Hid (((List.replicate xr.left.length (15 : Int) ++ [12, 16, 20]).length : Int) ≤ 2 + c.lc) := by rw [hxc] at hfew; show _ ≤ _; rw [List.length_append, List.length_replicate]; show ((xr.left.length + 3 : Nat) : Int) ≤ _; omega
            obtain ⟨D8, hD8⟩ : ∃ D8, ((carD xr.left ⟨bs', []⟩).fls.wr 0 (encS (supN xr))).fls = D8 := ⟨_, rfl⟩
            obtain ⟨x8, hx8⟩ : ∃ x8 : Rc, ({ xr with st := 6, left := [] } : Rc) = x8 := ⟨_, rfl⟩
            have hx6 : x8.st = 6 := by rw [← hx8]
            rw [hx8, hD8] at h8
            have H8 : Hid (Fz w w8 [ki (.slice p8 (List.replicate xr.left.length (15 : Int) ++ [12, 16, 20]).length c8) (List.replicate xr.left.length 15 ++ [12, 16, 20]), kb R 42 (rowc ⟨19, -1, zv, (lgS k c ⟨bs', []⟩).fin, (lgS k c ⟨bs', []⟩).txs.length⟩), kr P (some p) x8, kd p k D8, ky (.slice (some ⟨g, 0, none⟩) (64 * k) cap) bs', kb B 26 (hcl c more a m cp)]) := h8
            clear h8 ho8 H7 HGO hx8 hD8
            generalize (List.replicate xr.left.length (15 : Int) ++ [12, 16, 20]) = ks at *
            have hln := HLN.out
            go_wp2_with fail
            refine (result_at (i := 2) H8.out rfl).mono ?_
            rintro e w9 ⟨rfl, h9⟩
            have hr9 : (resS x8).2.2 = true := by unfold resS; rw [if_pos hx6]
            rw [hr9]
            have b19 := hcl1 (h9.atb (i := 5) rfl).1
            have HZ : Hid (Below w.heap.size w w9) := h9.below
            have hw2 : IntKind.i64.wrap (2 + c.lc) = 2 + c.lc := by rw [IntKind.wrap_i64]; omega
            clear h9 H8
            go_wp2
            go_ret
            exact ⟨rfl, HZ.out⟩
          · have hst := step_bad (x := r0 c) (n := k) rfl he0
            rw [hst] at h6
            rw [hst]
            obtain ⟨f, hf⟩ : ∃ f, rdE k c ⟨bs', []⟩ = f := ⟨_, rfl⟩
            have hf' : rdE k (r0 c).c ⟨bs', []⟩ = f := hf
            rw [hf']
            rw [hf] at he0
            rw [hf] at HRD
            obtain ⟨wa, wb, hal, hstr, hkp⟩ := Fz.keeprow (r := ⟨0, 0, zv, 0, 0⟩) h6 (zs_len 32)
            obtain ⟨R, hR⟩ : ∃ B, w6.heap.size = B := ⟨_, rfl⟩
            rw [hR] at hal hstr hkp
            have HAL : Hid (_) := hal
            have HST : Hid (_) := hstr
            have H7 : Hid (Fz w wb [kb R 42 (rowc ⟨0, 0, zv, 0, 0⟩), kr P (some p) (r0 c), kd p k ⟨bs', []⟩, ky (.slice (some ⟨g, 0, none⟩) (64 * k) cap) bs', kb B 26 (hcl c more a m cp)]) := hkp
            have hq0 : (f != 0) = true := by simp [he0]
            clear h6 hkp hal hstr hR H5
            go_wp2_with ((with_reducible refine at_ops ?_); (first | (refine wpList_alloc_is (by rfl) 42 rfl HAL.out ?_) | (refine wpList_store_is (by rfl) 42 rfl rfl rfl HST.out ?_)); simp only [Act.put, List.setIfInBounds_toArray, List.set_cons_zero, List.set_cons_succ])
            refine (step_at (i := 1) (j := 2) ht H7.out rfl rfl (by decide) hok0 (Nat.zero_le _)).mono ?_
            rintro e w8 ⟨rfl, h8⟩
            rw [hst] at h8
            rw [hst, hf']
            obtain ⟨wc, wd, hal, hstr, hkp⟩ := Fz.keeprow (r := ⟨0, 0, zv, 0, 0⟩) h8 (zs_len 32)
            obtain ⟨R2, hR2⟩ : ∃ B, w8.heap.size = B := ⟨_, rfl⟩
            rw [hR2] at hal hstr hkp
            have HAL : Hid (_) := hal
            have HST : Hid (_) := hstr
            have H9 : Hid (Fz w wd.drew [kb R2 42 (rowc ⟨0, 0, zv, 0, 0⟩), kb R 42 (rowc ⟨0, 0, zv, 0, 0⟩), kr P (some p) (r0 c), kd p k ⟨bs', []⟩, ky (.slice (some ⟨g, 0, none⟩) (64 * k) cap) bs', kb B 26 (hcl c more a m cp)]) := Fz.later (show Fz w wd [kb R2 42 (rowc ⟨0, 0, zv, 0, 0⟩), kb R 42 (rowc ⟨0, 0, zv, 0, 0⟩), kr P (some p) (r0 c), kd p k ⟨bs', []⟩, ky (.slice (some ⟨g, 0, none⟩) (64 * k) cap) bs', kb B 26 (hcl c more a m cp)] from hkp) (below_drawn 1)
            have HYI : Hid (bs'.length = 64 * k ∧ Bytes bs') := ⟨hl', hy'⟩
            clear h8 hkp hal hstr hR2 H7 hst
            go_wp2_with ((with_reducible refine at_ops ?_); (first | (refine wpList_alloc_is (by rfl) 42 rfl HAL.out ?_) | (refine wpList_store_is (by rfl) 42 rfl rfl rfl HST.out ?_)); simp only [Act.put, List.setIfInBounds_toArray, List.set_cons_zero, List.set_cons_succ])
            refine wp_region_noPanic ?_
            refine wp_region_held_drew (S := fun W => Fz w W [kb R2 42 (rowc ⟨0, 0, zv, 0, 0⟩), kb R 42 (rowc ⟨0, 0, zv, 0, 0⟩), kr P (some p) (r0 c), kd p k ⟨bs', []⟩, ky (.slice (some ⟨g, 0, none⟩) (64 * k) cap) bs', kb B 26 (hcl c more a m cp)]) (by kernel_rfl) H9.out (fun hHeld => ?_)
            generalize wd.drew = we at *
            rcases HRD.out with h0 | h0 | h0 | h0
            · exact absurd h0 he0
            · subst h0
              refine tk 0 hHeld ?_
              refine tk 1 hHeld ?_
              refine tk 2 hHeld ?_
              refine tk 3 hHeld ?_
              refine tk 4 hHeld ?_
              refine tk 5 hHeld ?_
              refine tk 6 hHeld ?_
              refine tk 7 hHeld ?_
              refine tk 8 hHeld ?_
              refine tk 9 hHeld ?_
              refine tk 10 hHeld ?_
              refine tk 11 hHeld ?_
              refine tk 12 hHeld ?_
              refine tk 13 hHeld ?_
              refine tk 14 hHeld ?_
              refine tk 15 hHeld ?_
              refine tk 16 hHeld ?_
              refine tkr 17 fun Kc hKc => ?_
              go_simp
              refine (state_at (i := 2) hHeld rfl).mono ?_
              rintro e w' ⟨rfl, hw'⟩
              rw [hw']
              clear hw' w'
              refine hKc.out _ _ hHeld (fun hHeld => ?_)
              clear hKc Kc
              refine tk 18 hHeld ?_
              refine tk 19 hHeld ?_
              refine tk 20 hHeld ?_
              refine tk 21 hHeld ?_
              refine tk 24 hHeld ?_
              refine tkc 25 hHeld (fun _ s => (s.biny (i := 4) rfl HYI.out.1 HYI.out.2).str cap) ?_
              refine tkr 22 fun Kc hKc => ?_
              go_simp
              obtain ⟨S, hd, -, -⟩ := hHeld.atd (i := 3) rfl
              refine (image_any hd).mono ?_
              rintro e wi ⟨vi, rfl, oi, bi⟩
              obtain ⟨pi, ci, rfl, hri, -⟩ := own_in oi HYI.out.2
              have Xe : Hid (BIn wi pi (64 * k) bs') := hri
              have hH := hHeld.later bi
              clear oi bi hri hd S
              refine hKc.out _ _ hH (fun hHeld => ?_)
              clear hKc Kc
              refine tkr 23 fun Kc hKc => ?_
              rw [if_pos (by rfl)]
              refine run_conv_is 27 9 rfl rfl (Xe.out.str ci) ?_
              refine hKc.out _ _ hHeld (fun hHeld => ?_)
              clear hKc Kc
              refine tk 26 hHeld ?_
              refine tk 27 hHeld ?_
              refine tk 28 hHeld ?_
              refine tk 29 hHeld ?_
              refine tkr 30 fun Kc hKc => ?_
              go_simp
              obtain ⟨S, hd, -, -⟩ := hHeld.atd (i := 3) rfl
              refine (waiting_any hd (Nat.zero_le _)).mono ?_
              rintro e wj ⟨gw, vw, rfl, -, bj⟩
              have hH := hHeld.later bj
              clear bj hd S
              refine hKc.out _ _ hH (fun hHeld => ?_)
              clear hKc Kc
              refine tk 31 hHeld ?_
              refine tk 32 hHeld ?_
              refine tk 33 hHeld ?_
              refine tk 34 hHeld ?_
              have HZ : Hid (Below w.heap.size w _) := hHeld.below
              clear hHeld
              refine wpAnyH_done (by kernel_rfl) (NoPanic.normal ?_) _
              go_wp2
              go_ret
              exact ⟨rfl, by first | exact HZ.out | (rw [← hB]; exact HZ.out)⟩
            · subst h0
              refine tk 0 hHeld ?_
              refine tk 1 hHeld ?_
              refine tk 2 hHeld ?_
              refine tk 3 hHeld ?_
              refine tk 4 hHeld ?_
              refine tk 5 hHeld ?_
              refine tk 6 hHeld ?_
              refine tks 7 hHeld ?_
              refine tks 8 hHeld ?_
              refine tk 9 hHeld ?_
              refine tk 10 hHeld ?_
              refine tk 11 hHeld ?_
              refine tk 12 hHeld ?_
              refine tk 13 hHeld ?_
              refine tk 14 hHeld ?_
              refine tk 15 hHeld ?_
              refine tk 16 hHeld ?_
              refine tkr 17 fun Kc hKc => ?_
              go_simp
              refine (state_at (i := 2) hHeld rfl).mono ?_
              rintro e w' ⟨rfl, hw'⟩
              rw [hw']
              clear hw' w'
              refine hKc.out _ _ hHeld (fun hHeld => ?_)
              clear hKc Kc
              refine tk 18 hHeld ?_
              refine tk 19 hHeld ?_
              refine tk 20 hHeld ?_
              refine tk 21 hHeld ?_
              refine tk 24 hHeld ?_
              refine tkc 25 hHeld (fun _ s => (s.biny (i := 4) rfl HYI.out.1 HYI.out.2).str cap) ?_
              refine tkr 22 fun Kc hKc => ?_
              go_simp
              obtain ⟨S, hd, -, -⟩ := hHeld.atd (i := 3) rfl
              refine (image_any hd).mono ?_
              rintro e wi ⟨vi, rfl, oi, bi⟩
              obtain ⟨pi, ci, rfl, hri, -⟩ := own_in oi HYI.out.2
              have Xe : Hid (BIn wi pi (64 * k) bs') := hri
              have hH := hHeld.later bi
              clear oi bi hri hd S
              refine hKc.out _ _ hH (fun hHeld => ?_)
              clear hKc Kc
              refine tkr 23 fun Kc hKc => ?_
              rw [if_pos (by rfl)]
              refine run_conv_is 27 9 rfl rfl (Xe.out.str ci) ?_
              refine hKc.out _ _ hHeld (fun hHeld => ?_)
              clear hKc Kc
              refine tk 26 hHeld ?_
              refine tk 27 hHeld ?_
              refine tk 28 hHeld ?_
              refine tk 29 hHeld ?_
              refine tkr 30 fun Kc hKc => ?_
              go_simp
              obtain ⟨S, hd, -, -⟩ := hHeld.atd (i := 3) rfl
              refine (waiting_any hd (Nat.zero_le _)).mono ?_
              rintro e wj ⟨gw, vw, rfl, -, bj⟩
              have hH := hHeld.later bj
              clear bj hd S
              refine hKc.out _ _ hH (fun hHeld => ?_)
              clear hKc Kc
              refine tk 31 hHeld ?_
              refine tk 32 hHeld ?_
              refine tk 33 hHeld ?_
              refine tk 34 hHeld ?_
              have HZ : Hid (Below w.heap.size w _) := hHeld.below
              clear hHeld
              refine wpAnyH_done (by kernel_rfl) (NoPanic.normal ?_) _
              go_wp2
              go_ret
              exact ⟨rfl, by first | exact HZ.out | (rw [← hB]; exact HZ.out)⟩
            · subst h0
              refine tk 0 hHeld ?_
              refine tk 1 hHeld ?_
              refine tk 2 hHeld ?_
              refine tks 3 hHeld ?_
              refine tks 4 hHeld ?_
              refine tk 5 hHeld ?_
              refine tk 6 hHeld ?_
              refine tks 7 hHeld ?_
              refine tks 8 hHeld ?_
              refine tk 9 hHeld ?_
              refine tk 10 hHeld ?_
              refine tk 11 hHeld ?_
              refine tk 12 hHeld ?_
              refine tk 13 hHeld ?_
              refine tk 14 hHeld ?_
              refine tk 15 hHeld ?_
              refine tk 16 hHeld ?_
              refine tkr 17 fun Kc hKc => ?_
              go_simp
              refine (state_at (i := 2) hHeld rfl).mono ?_
              rintro e w' ⟨rfl, hw'⟩
              rw [hw']
              clear hw' w'
              refine hKc.out _ _ hHeld (fun hHeld => ?_)
              clear hKc Kc
              refine tk 18 hHeld ?_
              refine tk 19 hHeld ?_
              refine tk 20 hHeld ?_
              refine tk 21 hHeld ?_
              refine tk 24 hHeld ?_
              refine tkc 25 hHeld (fun _ s => (s.biny (i := 4) rfl HYI.out.1 HYI.out.2).str cap) ?_
              refine tkr 22 fun Kc hKc => ?_
              go_simp
              obtain ⟨S, hd, -, -⟩ := hHeld.atd (i := 3) rfl
              refine (image_any hd).mono ?_
              rintro e wi ⟨vi, rfl, oi, bi⟩
              obtain ⟨pi, ci, rfl, hri, -⟩ := own_in oi HYI.out.2
              have Xe : Hid (BIn wi pi (64 * k) bs') := hri
              have hH := hHeld.later bi
              clear oi bi hri hd S
              refine hKc.out _ _ hH (fun hHeld => ?_)
              clear hKc Kc
              refine tkr 23 fun Kc hKc => ?_
              rw [if_pos (by rfl)]
              refine run_conv_is 27 9 rfl rfl (Xe.out.str ci) ?_
              refine hKc.out _ _ hHeld (fun hHeld => ?_)
              clear hKc Kc
              refine tk 26 hHeld ?_
              refine tk 27 hHeld ?_
              refine tk 28 hHeld ?_
              refine tk 29 hHeld ?_
              refine tkr 30 fun Kc hKc => ?_
              go_simp
              obtain ⟨S, hd, -, -⟩ := hHeld.atd (i := 3) rfl
              refine (waiting_any hd (Nat.zero_le _)).mono ?_
              rintro e wj ⟨gw, vw, rfl, -, bj⟩
              have hH := hHeld.later bj
              clear bj hd S
              refine hKc.out _ _ hH (fun hHeld => ?_)
              clear hKc Kc
              refine tk 31 hHeld ?_
              refine tk 32 hHeld ?_
              refine tk 33 hHeld ?_
              refine tk 34 hHeld ?_
              have HZ : Hid (Below w.heap.size w _) := hHeld.below
              clear hHeld
              refine wpAnyH_done (by kernel_rfl) (NoPanic.normal ?_) _
              go_wp2
              go_ret
              exact ⟨rfl, by first | exact HZ.out | (rw [← hB]; exact HZ.out)⟩
  · have hq : ((64 * (k : Int)) != 64 * (1 + c.bl + c.lc)) = true := by simp; omega
    have HZ : Hid (Below w.heap.size w w3) := H3.out.below
    clear H3 hkn
    go_wp2
    go_ret
    exact ⟨rfl, HZ.out⟩
end
end Go.Proofs.YtdadpepfpiimgaaGreatDoor.Q
namespace Go.Proofs.YtdadpepfpiimgaaGreatDoor.Q
open Go.RowKit
section
variable {w : World}
theorem redoAny_any (ht : Tab w) (c : Sup) (more : Int) {a : Option Addr} {m cp : Nat} {l : List LW} (hS : SIn w a m l) (hm : m ≤ 140737488355328) {ra : Option Addr} {rn : Nat} (rc : Nat) {rs : List Int} (hr : BIn w ra rn rs) (hrn : rn ≤ 140737488355328) : Calls Tryz.prog 3 #[.agg (hcl c more a m cp).toArray, .slice ra rn rc] w fun e w' => e = .returned (.bool true) ∧ Below w.heap.size w w' := by
  by_cases hc : MayC c
  · exact redoAny_yes ht c hc more hS hm rc hr hrn
  · exact redoAny_no ht c hc more a m cp ra rn rc
end
end Go.Proofs.YtdadpepfpiimgaaGreatDoor.Q
