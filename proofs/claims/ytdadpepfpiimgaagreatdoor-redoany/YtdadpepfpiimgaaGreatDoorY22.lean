import Derived.Test.YtdadpepfpiimgaaGreatDoorY21
set_option maxHeartbeats 20000000
set_option maxRecDepth 100000
namespace Go.Proofs.YtdadpepfpiimgaaGreatDoor.Q
open Go.RowKit
section
variable {w0 w w' : World} {X : List Kd} {i j P p n : Nat} {D : Dd}
def hcl (c : Sup) (more : Int) (a : Option Addr) (m cp : Nat) : List Value := [.int .i64 c.bl, .int .i64 c.lc, .int .i64 c.mr, .int .i64 c.hi, .int .i64 c.cl, .int .i64 more, .slice a m cp]
structure SIn (w : World) (p : Option Addr) (n : Nat) (l : List LW) : Prop where
  win : WIn w p n l
  non : ∀ t ∈ l, t.q = none → t.n = 0 ∧ t.c = 0
  few : ∀ t ∈ l, t.n + 64 ≤ 140737488355328
theorem SIn.at {a : Option Addr} {m : Nat} {l : List LW} (h : SIn w a m l) (hb : Below w.heap.size w w') {k : Nat} (hk : k < m) : ∃ b o t, a = some ⟨b, o, none⟩ ∧ l[k]? = some t ∧ w'.cell? ⟨b, o + k * 2, none⟩ = some (.int .i64 t.s) ∧ w'.cell? ⟨b, o + k * 2 + 1, none⟩ = some (.slice t.q t.n t.c) ∧ BIn w' t.q t.n t.b ∧ (t.q = none → t.n = 0 ∧ t.c = 0) ∧ t.n + 64 ≤ 140737488355328 ∧ b < w.heap.size := by
  obtain ⟨b, o, e, hc⟩ := h.win.cells (by omega)
  have hl : k < l.length := by rw [h.win.len]; exact hk
  obtain ⟨c0, c1, hB⟩ := hc k l[k] (List.getElem?_eq_getElem hl)
  have hlt : b < w.heap.size := World.block_lt_of_cell? w _ c0
  have hm := List.getElem_mem hl
  exact ⟨b, o, l[k], e, List.getElem?_eq_getElem hl, by rw [hb.cell (p := ⟨b, o + k * 2, none⟩) hlt]; exact c0, by rw [hb.cell (p := ⟨b, o + k * 2 + 1, none⟩) hlt]; exact c1, hB.later hb, h.non _ hm, h.few _ hm, hlt⟩
theorem hcl_cfg {W : World} {B : Nat} {c : Sup} {more : Int} {a : Option Addr} {m cp : Nat} (h : LAt 26 W B (hcl c more a m cp)) : (Instr.loadAt 23 (.pointer (some ⟨B, 0, none⟩))).run Tryz.prog W = .ok (.agg (ccells c).toArray) W :=
  run_loadAt_mid W B 0 23 (ccells c) _ (fun j u hu => by
    have hj : j < 5 := (List.getElem?_eq_some_iff.1 hu).1
    rw [LAt.cell h (0 + j), Nat.zero_add]
    match j, hj with
    | 0, _ => exact hu
    | 1, _ => exact hu
    | 2, _ => exact hu
    | 3, _ => exact hu
    | 4, _ => exact hu) Tryz.underlying23 rfl (by kernel_rfl)
theorem hcl5 {W : World} {B : Nat} {c : Sup} {more : Int} {a : Option Addr} {m cp : Nat} (h : LAt 26 W B (hcl c more a m cp)) : W.cell? ⟨B, 5, none⟩ = some (.int .i64 more) := by rw [LAt.cell h 5]; rfl
theorem hcl6 {W : World} {B : Nat} {c : Sup} {more : Int} {a : Option Addr} {m cp : Nat} (h : LAt 26 W B (hcl c more a m cp)) : W.cell? ⟨B, 6, none⟩ = some (.slice a m cp) := by rw [LAt.cell h 6]; rfl
theorem r_write (h : Fz w0 w X) (hj : X[j]? = some (ke p n D)) (hk : D.ws.length ≤ 100000) (i : Int) {a : Option Addr} {c : Nat} {b : List Int} (hb : BIn w a 64 b) : Calls Tryz.prog 32 #[qp p, .int .i64 i, .slice a 64 c] w fun e w' => e = .returned (.int .i64 (wrE n i)) ∧ Fz w0 w' (X.set j (ke p n ⟨D.d, wrU n D.ws i b⟩)) := by
  obtain ⟨S, hd, _, hl⟩ := h.ate hj
  refine (rwrite64 hd i a c b hb hk).mono ?_
  rintro e w' ⟨rfl, h1, h2⟩
  exact ⟨rfl, hl w' _ ⟨D.d, wrU n D.ws i b⟩ h1 h2 fun _ a => a⟩
theorem r_flush (h : Fz w0 w X) (hj : X[j]? = some (ke p n D)) (hk : D.ws.length ≤ 100000) : Calls Tryz.prog 33 #[qp p] w fun e w' => e = .returned (.int .i64 D.ws.length) ∧ Fz w0 w' (X.set j (ke p n D.fls)) := by
  obtain ⟨S, hd, hlt, hl⟩ := h.ate hj
  refine (rflush_any hd hk hlt).mono ?_
  rintro e w' ⟨rfl, h1, h2⟩
  exact ⟨rfl, hl w' S D.fls h1 h2 fun _ a => .inl a⟩
theorem Fz.durable (h : Fz w0 w X) (hj : X[j]? = some (ke p n D)) : ∃ g cap, w.cell? ⟨p, 0, none⟩ = some (.slice (some ⟨g, 0, none⟩) (64 * n) cap) ∧ w.ownsRow w0.heap.size 5 1 (.slice (some ⟨g, 0, none⟩) (64 * n) cap) (64 * n) (U8 D.d) ∧ 64 * n ≤ cap := by
  obtain ⟨t, G, ⟨S, rfl⟩, ha, hf, -⟩ := h.at hj
  obtain ⟨g, L, cap, v, vs, hp⟩ := ha.1
  have hL := hp.hL
  subst hL
  have hlo : w0.heap.size ≤ g := (hf g hp.sg).1
  have hd := own_at hp.dur (C := w0.heap.size) (fun k hk => by simp only [Value.ownBlock, Option.some.injEq] at hk; omega) rfl
  refine ⟨g, cap, by rw [cell_of_row _ _ _ _ _ _ hp.str]; rfl, hd, ?_⟩
  rcases hd.2 with ⟨e, _⟩ | ⟨g', cap', cur, e, _, _, hc, _⟩
  · cases e
  · cases e; exact hc
theorem own_cut {B g n k cap : Nat} {bs : List Int} (h : w.ownsRow B 5 1 (.slice (some ⟨g, 0, none⟩) n cap) n (U8 bs)) (hk : k ≤ n) : w.ownsRow B 5 1 (.slice (some ⟨g, 0, none⟩) k cap) k (U8 (bs.take k)) := by
  have hl := h.1
  rcases h.2 with ⟨e, _⟩ | ⟨g', cap', cur, e, h0, hg, h1, h2, h3, h4⟩
  · cases e
  · cases e
    refine ⟨by rw [U8_length, List.length_take]; rw [U8_length] at hl; omega, .inr ⟨g, cap, cur, rfl, h0, hg, by omega, h2, h3, ?_⟩⟩
    rw [show U8 (bs.take k) = (U8 bs).take (k * 1) by simp [U8, List.map_take], ← h4, List.take_take, Nat.min_eq_left (by omega)]
set_option maxHeartbeats 2000000 in
set_option maxRecDepth 100000 in
theorem image_no (c : Sup) (hc : ¬ MayC c) (more : Int) (a : Option Addr) (m cp : Nat) : Calls Tryz.prog 7 #[.agg (hcl c more a m cp).toArray] w fun e w' => e = .returned (.slice none 0 0) ∧ Below w.heap.size w w' := by
  have h1 := (Fz.start w).newa (hcl c more a m cp) 26
  obtain ⟨B, hB⟩ : ∃ B, w.heap.size = B := ⟨_, rfl⟩
  rw [hB] at h1
  have HC : Hid (_) := hcl_cfg (h1.atb (i := 0) rfl).1
  have H1 : Hid (Fz w (w.alloc (.cells (hcl c more a m cp).toArray 26)) [kb B 26 (hcl c more a m cp)]) := h1
  clear h1
  go_enter Tryz.func7, Tryz.ntmps7
  go_wp2_with ((with_reducible refine at_ops ?_); (refine wpList_load_is (by rfl) 23 rfl rfl HC.out ?_); simp only [Act.put, List.setIfInBounds_toArray, List.set_cons_zero, List.set_cons_succ])
  refine (rnew8_bad c hc _).mono ?_
  rintro e w2 ⟨rfl, hb⟩
  have HZ : Hid (Below w.heap.size w w2) := (H1.out.later hb).below
  clear hb H1 HC
  go_wp2
  go_ret
  exact ⟨rfl, HZ.out⟩
set_option maxHeartbeats 20000000 in
set_option maxRecDepth 100000 in
theorem image_is (c : Sup) (hc : MayC c) (more : Int) {a : Option Addr} {m cp : Nat} {l : List LW} (hS : SIn w a m l) (hm : m ≤ 140737488355328) : Calls Tryz.prog 7 #[.agg (hcl c more a m cp).toArray] w fun e w' => ∃ g cap k bs, e = .returned (.slice (some ⟨g, 0, none⟩) (64 * k) cap) ∧ w'.ownsRow w.heap.size 5 1 (.slice (some ⟨g, 0, none⟩) (64 * k) cap) (64 * k) (U8 bs) ∧ bs.length = 64 * k ∧ Bytes bs ∧ 64 * k ≤ cap ∧ 3 ≤ k ∧ k ≤ 130 ∧ Below w.heap.size w w' := by
  have h1 := (Fz.start w).newa (hcl c more a m cp) 26
  obtain ⟨B, hB⟩ : ∃ B, w.heap.size = B := ⟨_, rfl⟩
  rw [hB] at h1
  have HC : Hid (_) := hcl_cfg (h1.atb (i := 0) rfl).1
  have H1 : Hid (Fz w (w.alloc (.cells (hcl c more a m cp).toArray 26)) [kb B 26 (hcl c more a m cp)]) := h1
  have HSI : Hid (SIn w a m l) := hS
  have HCN : Hid (4 ≤ cntS c ∧ cntS c ≤ 129) := cntS_bd hc
  clear h1 hS
  go_enter Tryz.func7, Tryz.ntmps7
  go_wp2_with ((with_reducible refine at_ops ?_); (refine wpList_load_is (by rfl) 23 rfl rfl HC.out ?_); simp only [Act.put, List.setIfInBounds_toArray, List.set_cons_zero, List.set_cons_succ])
  refine (rnew8_good c hc _).mono ?_
  rintro e w2 ⟨p, rfl, hd, hb⟩
  have H2 : Hid (Fz w w2 [ke p (cntS c) ⟨newS c, []⟩, kb B 26 (hcl c more a m cp)]) := H1.out.newe hb hd
  clear hb hd H1 HC
  go_wp2_with fail
  go_loopw [5] (fun i wr => ∃ (k : Nat) (ws : List Wr), i = .int .i64 k ∧ k ≤ m ∧ k ≤ 200 ∧ ws.length ≤ k ∧ Hid (Fz w wr [ke p (cntS c) ⟨newS c, ws⟩, kb B 26 (hcl c more a m cp)])) (fun i _ => m - (intOf i).toNat)
  case atStart => exact ⟨0, [], rfl, by omega, by omega, by simp, H2⟩
  case round =>
    obtain ⟨k, ws, rfl, hkm, hk2, hwl, HF⟩ := hrel
    have c6 := hcl6 (HF.out.atb (i := 1) rfl).1
    by_cases hlt : k < m ∧ k < 200
    · have k1 : (k : Int) < (m : Int) := by omega
      have k2 : (k : Int) < 200 := by omega
      have k0 : (0 : Int) ≤ (k : Int) := by omega
      have F2 : Hid (Fz w (wr.alloc (.cells #[] 5)) [ke p (cntS c) ⟨newS c, ws⟩, kb B 26 (hcl c more a m cp)]) := HF.out.later (below_alloc _ _)
      have d6 := hcl6 (F2.out.atb (i := 1) rfl).1
      obtain ⟨b, o, t, ea, et, s0, s1, hB1, hn1, hf1, hbl⟩ := HSI.out.at F2.out.below hlt.1
      subst ea
      obtain ⟨b', o', t', ea', et', -, -, hB0, -⟩ := HSI.out.at HF.out.below hlt.1
      rw [et] at et'
      cases et'
      obtain ⟨g5, c5, w5, g9, c9, w9, r5, r9, hc9, hY, hg9, hb9⟩ := fill_run hB0 hn1 hf1
      have HA5 : Hid (_) := r5
      have HA9 : Hid (_) := r9
      have HY9 : Hid (BIn w9 (some ⟨g9, 0, none⟩) 64 (fil t.b)) := hY
      have F9 : Hid (Fz w w9 [ke p (cntS c) ⟨newS c, ws⟩, kb B 26 (hcl c more (some ⟨b, o, none⟩) m cp)]) := HF.out.later hb9
      have e6 := hcl6 (F9.out.atb (i := 1) rfl).1
      obtain ⟨b2, o2, t2, ea2, et2, u0, -⟩ := HSI.out.at F9.out.below hlt.1
      cases ea2
      rw [et] at et2
      cases et2
      clear r5 r9 hY hb9 hB0 hB1 F2 HF ea'
      go_wp2_with ((with_reducible refine at_ops ?_); (first | (refine wpList_append_is (by rfl) rfl rfl rfl rfl HA5.out ?_) | (refine wpList_append2_is (by rfl) rfl rfl rfl rfl HA9.out ?_)); simp only [Act.put, List.setIfInBounds_toArray, List.set_cons_zero, List.set_cons_succ])
      refine (r_write (j := 0) F9.out rfl (by show ws.length ≤ 100000; omega) t.s HY9.out).mono ?_
      rintro e wn ⟨rfl, hd⟩
      have FN : Hid (Fz w wn [ke p (cntS c) ⟨newS c, wrU (cntS c) ws t.s (fil t.b)⟩, kb B 26 (hcl c more (some ⟨b, o, none⟩) m cp)]) := hd
      clear hd F9 e6 u0 HA5 HA9 HY9
      go_wp2_with fail
      go_roundw
      case rel => exact ⟨k + 1, _, by congr 1, by omega, by omega, Nat.le_trans (wrU_length _ _ _ _) (by omega), FN⟩
      case measure => simp [intOf]; omega
    · have HNL : Hid (¬ (k < m ∧ k < 200)) := hlt
      have hg1 : ¬ ((k : Int) < (m : Int)) ∨ ((k : Int) < (m : Int) ∧ ¬ (k : Int) < 200) := by omega
      rcases hg1 with hg1 | ⟨hg0, hg1⟩
      · go_wp2_with fail
        refine (r_flush (j := 0) HF.out rfl (by show ws.length ≤ 100000; omega)).mono ?_
        rintro e wf ⟨rfl, hd⟩
        have FF : Hid (Fz w wf [ke p (cntS c) (Dd.fls ⟨newS c, ws⟩), kb B 26 (hcl c more a m cp)]) := hd
        have hok := FF.out.eok (j := 0) rfl
        have HDB : Hid (Bytes (Dd.fls ⟨newS c, ws⟩).d ∧ (Dd.fls ⟨newS c, ws⟩).d.length = 64 * cntS c) := ⟨hok.db, hok.dl⟩
        obtain ⟨g, cap, cg, hog, hcap⟩ := FF.out.durable (j := 0) rfl
        have c5 := hcl5 (FF.out.atb (i := 1) rfl).1
        have HOG : Hid (wf.ownsRow w.heap.size 5 1 (.slice (some ⟨g, 0, none⟩) (64 * cntS c) cap) (64 * cntS c) (U8 (Dd.fls ⟨newS c, ws⟩).d)) := hog
        have HBF : Hid (Below w.heap.size w wf) := FF.out.below
        generalize (Dd.fls ⟨newS c, ws⟩).d = bs at *
        generalize cntS c = cn at *
        obtain ⟨cn4, cn129⟩ := HCN.out
        clear hd hok hog FF HF c6
        obtain ⟨g3, c3, w3, r3, o3, hc3, hg3⟩ := app_zeros HOG.out HBF.out.size (by omega)
        have HA3 : Hid (_) := r3
        have HO3 : Hid (w3.ownsRow w.heap.size 5 1 (.slice (some ⟨g3, 0, none⟩) (64 * (cn + 1)) c3) (64 * (cn + 1)) (U8 (bs ++ List.replicate 64 0))) := o3
        have HB3 : Hid (Below w.heap.size w w3) := HBF.out.grown hg3 HBF.out.size (fun k hk => by cases hk; exact (World.ownsRow.lt HOG.out _ rfl).1)
        have HBY : Hid (Bytes (bs ++ List.replicate 64 0)) := HDB.out.1.append (fun q hq => by rw [List.eq_of_mem_replicate hq]; decide)
        clear r3 o3 hg3 H2 HCN HSI HNL hlt hkm hk2 hwl hm hc
        go_upto_region 12 with fail
        generalize (RowKit.wrap64 (more.tmod 5 + 5)).tmod 5 = T at *
        by_cases h3 : T = 3
        · subst h3
          go_wp2_with ((with_reducible refine at_ops ?_); (refine wpList_append2_is (by rfl) rfl rfl rfl rfl HA3.out ?_); simp only [Act.put, List.setIfInBounds_toArray, List.set_cons_zero, List.set_cons_succ])
          go_ret
          exact ⟨g3, c3, cn + 1, _, rfl, HO3.out, by rw [List.length_append, HDB.out.2, List.length_replicate]; omega, HBY.out, by omega, by omega, by omega, HB3.out⟩
        · have n3 : (T == 3) = false := by simp [h3]
          by_cases h4 : T = 4
          · subst h4
            go_wp2
            rw [show 64 * cn - 64 = 64 * (cn - 1) by omega]
            go_ret
            exact ⟨g, cap, cn - 1, bs.take (64 * (cn - 1)), rfl, own_cut HOG.out (by omega), by rw [List.length_take, HDB.out.2]; omega, HDB.out.1.take _, by omega, by omega, by omega, HBF.out⟩
          · have n4 : (T == 4) = false := by simp [h4]
            go_wp2
            go_ret
            exact ⟨g, cap, cn, bs, rfl, HOG.out, HDB.out.2, HDB.out.1, hcap, by omega, by omega, HBF.out⟩
      · go_wp2_with fail
        refine (r_flush (j := 0) HF.out rfl (by show ws.length ≤ 100000; omega)).mono ?_
        rintro e wf ⟨rfl, hd⟩
        have FF : Hid (Fz w wf [ke p (cntS c) (Dd.fls ⟨newS c, ws⟩), kb B 26 (hcl c more a m cp)]) := hd
        have hok := FF.out.eok (j := 0) rfl
        have HDB : Hid (Bytes (Dd.fls ⟨newS c, ws⟩).d ∧ (Dd.fls ⟨newS c, ws⟩).d.length = 64 * cntS c) := ⟨hok.db, hok.dl⟩
        obtain ⟨g, cap, cg, hog, hcap⟩ := FF.out.durable (j := 0) rfl
        have c5 := hcl5 (FF.out.atb (i := 1) rfl).1
        have HOG : Hid (wf.ownsRow w.heap.size 5 1 (.slice (some ⟨g, 0, none⟩) (64 * cntS c) cap) (64 * cntS c) (U8 (Dd.fls ⟨newS c, ws⟩).d)) := hog
        have HBF : Hid (Below w.heap.size w wf) := FF.out.below
        generalize (Dd.fls ⟨newS c, ws⟩).d = bs at *
        generalize cntS c = cn at *
        obtain ⟨cn4, cn129⟩ := HCN.out
        clear hd hok hog FF HF c6
        obtain ⟨g3, c3, w3, r3, o3, hc3, hg3⟩ := app_zeros HOG.out HBF.out.size (by omega)
        have HA3 : Hid (_) := r3
        have HO3 : Hid (w3.ownsRow w.heap.size 5 1 (.slice (some ⟨g3, 0, none⟩) (64 * (cn + 1)) c3) (64 * (cn + 1)) (U8 (bs ++ List.replicate 64 0))) := o3
        have HB3 : Hid (Below w.heap.size w w3) := HBF.out.grown hg3 HBF.out.size (fun k hk => by cases hk; exact (World.ownsRow.lt HOG.out _ rfl).1)
        have HBY : Hid (Bytes (bs ++ List.replicate 64 0)) := HDB.out.1.append (fun q hq => by rw [List.eq_of_mem_replicate hq]; decide)
        clear r3 o3 hg3 H2 HCN HSI HNL hlt hkm hk2 hwl hm hc
        go_upto_region 12 with fail
        generalize (RowKit.wrap64 (more.tmod 5 + 5)).tmod 5 = T at *
        by_cases h3 : T = 3
        · subst h3
          go_wp2_with ((with_reducible refine at_ops ?_); (refine wpList_append2_is (by rfl) rfl rfl rfl rfl HA3.out ?_); simp only [Act.put, List.setIfInBounds_toArray, List.set_cons_zero, List.set_cons_succ])
          go_ret
          exact ⟨g3, c3, cn + 1, _, rfl, HO3.out, by rw [List.length_append, HDB.out.2, List.length_replicate]; omega, HBY.out, by omega, by omega, by omega, HB3.out⟩
        · have n3 : (T == 3) = false := by simp [h3]
          by_cases h4 : T = 4
          · subst h4
            go_wp2
            rw [show 64 * cn - 64 = 64 * (cn - 1) by omega]
            go_ret
            exact ⟨g, cap, cn - 1, bs.take (64 * (cn - 1)), rfl, own_cut HOG.out (by omega), by rw [List.length_take, HDB.out.2]; omega, HDB.out.1.take _, by omega, by omega, by omega, HBF.out⟩
          · have n4 : (T == 4) = false := by simp [h4]
            go_wp2
            go_ret
            exact ⟨g, cap, cn, bs, rfl, HOG.out, HDB.out.2, HDB.out.1, hcap, by omega, by omega, HBF.out⟩
end
end Go.Proofs.YtdadpepfpiimgaaGreatDoor.Q
namespace Go.Proofs.YtdadpepfpiimgaaGreatDoor.Q
open Go.RowKit
structure Gon where
  ks : List Int
  ok : Bool
  x : Rc
  D : Dd
def goS (n : Int) : Nat → Rc → Dd → Gon
  | 0, x, D => ⟨[], true, x, D⟩
  | k + 1, x, D => if x.st = 6 then ⟨[], true, x, D⟩ else if (stepS n x D).err = 0 then ⟨(stepS n x D).row.kind :: (goS n k (stepS n x D).x (stepS n x D).D).ks, (goS n k (stepS n x D).x (stepS n x D).D).ok, (goS n k (stepS n x D).x (stepS n x D).D).x, (goS n k (stepS n x D).x (stepS n x D).D).D⟩ else ⟨[], false, (stepS n x D).x, (stepS n x D).D⟩
theorem goS_over (n : Int) (k : Nat) {x : Rc} (D : Dd) (h : x.st = 6) : goS n k x D = ⟨[], true, x, D⟩ := by
  cases k with
  | zero => rfl
  | succ k => unfold goS; rw [if_pos h]
theorem goS_step {n : Int} {k : Nat} {x : Rc} {D : Dd} (h : x.st ≠ 6) (he : (stepS n x D).err = 0) : goS n (k + 1) x D = ⟨(stepS n x D).row.kind :: (goS n k (stepS n x D).x (stepS n x D).D).ks, (goS n k (stepS n x D).x (stepS n x D).D).ok, (goS n k (stepS n x D).x (stepS n x D).D).x, (goS n k (stepS n x D).x (stepS n x D).D).D⟩ := by
  show (if _ then _ else _) = _
  rw [if_neg h, if_pos he]
theorem goS_bad {n : Int} {k : Nat} {x : Rc} {D : Dd} (h : x.st ≠ 6) (he : (stepS n x D).err ≠ 0) : goS n (k + 1) x D = ⟨[], false, (stepS n x D).x, (stepS n x D).D⟩ := by
  show (if _ then _ else _) = _
  rw [if_neg h, if_neg he]
theorem step_ws (n : Int) (x : Rc) (D : Dd) : (stepS n x D).D.ws.length ≤ D.ws.length + 1 := by
  unfold stepS
  split
  · split <;> (show D.ws.length ≤ _; omega)
  · split
    · split
      · show D.ws.length ≤ _; omega
      · show (D.ws ++ [_]).length ≤ _; simp
    · split
      · show (0 : Nat) ≤ _; omega
      · split
        · show (D.ws ++ [_]).length ≤ _; simp
        · split
          · show (0 : Nat) ≤ _; omega
          · show D.ws.length ≤ _; omega
def Th.int (v : Value) (l : List Int) : Th := ⟨fun w _ => w.ownsRow 0 3 1 v l.length (l.map fun x => Value.int .i64 x), fun b => v.ownBlock = some b, fun _ _ b h hb => (World.ownsRow.lt h b hb).2, fun _ _ _ _ _ h hk hf _ _ => own_same h fun k e => hk.block k (World.ownsRow.lt h k e).2 (hf k e)⟩
def ki (v : Value) (l : List Int) : Kd := fun t => t = Th.int v l
section
variable {w0 w w' : World} {X : List Kd} {i j P p n : Nat} {D : Dd} {x : Rc}
theorem row_val (h : x.Ok n) : (stepS n x D).row.val.length = 32 := by
  have s0 := h.s0; have s1 := h.s1
  rcases (by omega : x.st = 1 ∨ x.st = 2 ∨ x.st = 3 ∨ x.st = 4 ∨ x.st = 5 ∨ x.st = 6) with e | e | e | e | e | e
  · by_cases he : rdE n x.c D = 0
    · rw [step_read e he]; exact zs_len 32
    · rw [step_bad e he]; exact zs_len 32
  · obtain ⟨k, r, hl⟩ : ∃ k r, x.left = k :: r := by
      cases c : x.left with
      | nil => exact absurd c (h.car e)
      | cons k r => exact ⟨k, r, rfl⟩
    rw [step_carry e hl]; exact (h.wf k (by rw [hl]; exact List.mem_cons.2 (.inl rfl))).len
  · rw [step_flush e]; exact zs_len 32
  · rw [step_mark e]; exact zs_len 32
  · rw [step_end e]; exact zs_len 32
  · rw [step_over e]; exact zs_len 32
theorem Fz.addint {v : Value} {l : List Int} (h : Fz w0 w X) (hi : X[i]? = some (ki v l)) (hl : l.length ≤ 1000) (y : Int) : ∃ v2 w2, (Builtin.append_ #[40, 40] 40 #[v, .slice (some ⟨w.heap.size, 0, none⟩) 1 1]).run Tryz.prog (w.alloc (.cells #[.int .i64 y] 3)) = .ok v2 w2 ∧ Fz w0 w2 (X.set i (ki v2 (l ++ [y]))) := by
  have h1 := h.later (below_alloc w (.cells #[.int .i64 y] 3))
  obtain ⟨t, G, rfl, ha, hf, hL⟩ := h1.at hi
  obtain ⟨i0, hi0, hz0, hz1, hz2⟩ := info_parts info3
  have ha' : (w.alloc (.cells #[.int .i64 y] 3)).ownsRow 0 3 1 v l.length (l.map fun x => Value.int .i64 x) := ha
  obtain ⟨v', w1, hr, ho, hg, _, h5⟩ := run_append_own_at (P := Tryz.prog) (w.alloc (.cells #[.int .i64 y] 3)) 0 40 40 3 i0 _ 1 8 Tryz.underlying40 hi0 hz0 hz1 hz2 rfl (by decide) v l.length _ ha' ⟨w.heap.size, 0, none⟩ 1 1 [.int .i64 y] rfl (fun j u hu => by
    have hj : j < 1 := (List.getElem?_eq_some_iff.1 hu).1
    obtain rfl : j = 0 := by omega
    have := LAt.cell (LAt.new 3 w [.int .i64 y]) 0
    show (w.alloc (.cells #[.int .i64 y] 3)).cell? ⟨w.heap.size, 0 + 0, none⟩ = some u
    rw [← hu]; exact this) (fun u hu => by rw [List.mem_singleton.1 hu]; rfl) (by unfold maxLen; omega) (by omega) (Nat.zero_le _)
  refine ⟨v', w1, hr, hL w1 (.int v' (l ++ [y])) G (fun b => v.ownBlock = some b) _ ?_ ⟨hg.os, hg.tape, hg.output, hg.size, fun b hb hne => hg.block b hb fun e => hne e.symm⟩ (fun b _ hb => hb) (fun b hb => ?_) (fun _ a => a) (fun _ a => .inl a) rfl⟩
  · show w1.ownsRow 0 3 1 v' (l ++ [y]).length ((l ++ [y]).map fun x => Value.int .i64 x)
    rw [List.length_append, List.length_singleton, List.map_append]
    exact ho
  · have hb : v'.ownBlock = some b := hb
    rcases h5 with e | e
    · exact .inl (by rw [e] at hb; exact hb)
    · refine .inr ?_
      rw [e] at hb
      injection hb with hb
      omega
set_option maxHeartbeats 20000000 in
set_option maxRecDepth 100000 in
theorem goes_at (ht : Tab w0) (h : Fz w0 w X) (hi : X[i]? = some (kr P (some p) x)) (hj : X[j]? = some (kd p n D)) (hij : i ≠ j) (ok : x.Ok n) (k : Nat) (hk : D.ws.length + k ≤ 100000) (hk2 : k ≤ 1000) : Calls Tryz.prog 14 #[qp P, .int .i64 k] w fun e w' => ∃ v, e = .returned (.tuple #[v, .bool (goS n k x D).ok]) ∧ Fz w0 w' (ki v (goS n k x D).ks :: (X.set j (kd p n (goS n k x D).D)).set i (kr P (some p) (goS n k x D).x)) := by
  have HF0 : Hid (Fz w0 w (ki (.slice none 0 0) [] :: X)) := h.push (Below.refl _ _) (u := .int (.slice none 0 0) []) (fun _ => World.ownsRow_nil _ _ _ _) (fun b hb => by cases hb) rfl
  have HLI : Hid (i < X.length ∧ j < X.length) := ⟨(List.getElem?_eq_some_iff.1 hi).1, (List.getElem?_eq_some_iff.1 hj).1⟩
  have HSM : Hid (X.set j (kd p n D) = X ∧ X.set i (kr P (some p) x) = X) := ⟨Fz.set_same hj, Fz.set_same hi⟩
  obtain ⟨g, hg⟩ : ∃ g, goS n k x D = g := ⟨_, rfl⟩
  rw [hg]
  have HG : Hid (goS n k x D = g) := hg
  clear h hg
  go_enter Tryz.func14, Tryz.ntmps14
  go_wp2_with fail
  go_loopw [6, 7] (fun v iv wr => ∃ (r : Nat) (ks : List Int) (x' : Rc) (D' : Dd), iv = .int .i64 r ∧ r ≤ k ∧ ks.length = r ∧ x'.Ok n ∧ D'.ws.length ≤ D.ws.length + r ∧ Hid (g = ⟨ks ++ (goS n (k - r) x' D').ks, (goS n (k - r) x' D').ok, (goS n (k - r) x' D').x, (goS n (k - r) x' D').D⟩) ∧ Hid (Fz w0 wr (ki v ks :: (X.set j (kd p n D')).set i (kr P (some p) x')))) (fun _ iv _ => k - (intOf iv).toNat)
  case atStart =>
    refine ⟨0, [], x, D, rfl, Nat.zero_le _, rfl, ok, Nat.le_refl _, ?_, ?_⟩
    · show g = _; rw [← HG.out]; rfl
    · show Fz w0 w (ki _ [] :: (X.set j (kd p n D)).set i (kr P (some p) x)); rw [HSM.out.1, HSM.out.2]; exact HF0.out
  case round =>
    obtain ⟨r, ks, x', D', rfl, hrk, hkl, ok', hdl, HE, HF⟩ := hrel
    have hi' : ((X.set j (kd p n D')).set i (kr P (some p) x'))[i]? = some (kr P (some p) x') := List.getElem?_set_self (by rw [List.length_set]; exact HLI.out.1)
    have hj' : ((X.set j (kd p n D')).set i (kr P (some p) x'))[j]? = some (kd p n D') := by rw [List.getElem?_set_ne hij]; exact List.getElem?_set_self HLI.out.2
    by_cases hlt : r < k
    · have r1 : (r : Int) < (k : Int) := by omega
      go_wp2_with fail
      refine (state_at (i := i + 1) HF.out hi').mono ?_
      rintro e w' ⟨rfl, hw'⟩
      rw [hw']
      clear hw' w'
      by_cases h6 : x'.st = 6
      · have hq : (x'.st != 6) = false := by simp [h6]
        have HZ : Hid (g = ⟨ks, true, x', D'⟩) := by rw [HE.out, goS_over n (k - r) D' h6]; show _ = _; rw [List.append_nil]
        go_wp2
        go_ret2
        exact ⟨_, by rw [HZ.out]; rfl, by rw [HZ.out]; exact HF.out⟩
      · have hq : (x'.st != 6) = true := by simp [h6]
        obtain ⟨m, hm⟩ : ∃ m, k - r = m + 1 := ⟨k - r - 1, by omega⟩
        go_wp2_with fail
        refine (step_at (i := i + 1) (j := j + 1) ht HF.out hi' hj' (by omega) ok' (by omega)).mono ?_
        rintro e w1 ⟨rfl, h1⟩
        have HRV : Hid ((stepS n x' D').row.val.length = 32) := row_val ok'
        have hok2 := (step_ok ok' (HF.out.dok (j := j + 1) hj'))
        have hws := step_ws n x' D'
        obtain ⟨a, ha⟩ : ∃ a, stepS n x' D' = a := ⟨_, rfl⟩
        rw [ha] at h1 hok2 hws HRV
        rw [ha]
        obtain ⟨wa, wb, hal, hst, hkp⟩ := Fz.keeprow (r := a.row) h1 HRV.out
        obtain ⟨R, hR⟩ : ∃ B, w1.heap.size = B := ⟨_, rfl⟩
        rw [hR] at hal hst hkp
        have hset : ((X.set j (kd p n D')).set i (kr P (some p) x')).set j (kd p n a.D) = (X.set j (kd p n a.D)).set i (kr P (some p) x') := by
          rw [List.set_comm _ _ hij, List.set_set]
        have HK : Hid (Fz w0 wb (kb R 42 (rowc a.row) :: ki u6 ks :: (X.set j (kd p n a.D)).set i (kr P (some p) a.x))) := by
          simp only [List.set_cons_succ] at hkp
          rw [hset, List.set_set] at hkp
          exact hkp
        have HAL : Hid (_) := hal
        have HST : Hid (_) := hst
        clear h1 hkp hal hst hR HF hset hi' hj'
        by_cases he : a.err = 0
        · rw [he]
          have rk := (rw_c a.row HRV.out (HK.out.atb (i := 0) rfl).1).1
          obtain ⟨v2, w2, hap, hF2⟩ := Fz.addint (i := 1) HK.out rfl (by omega) a.row.kind
          have HAP : Hid (_) := hap
          have HF2 : Hid (Fz w0 w2 (ki v2 (ks ++ [a.row.kind]) :: (X.set j (kd p n a.D)).set i (kr P (some p) a.x))) := Fz.pop (k := kb R 42 (rowc a.row)) hF2
          have HE2 : Hid (g = ⟨(ks ++ [a.row.kind]) ++ (goS n (k - (r + 1)) a.x a.D).ks, (goS n (k - (r + 1)) a.x a.D).ok, (goS n (k - (r + 1)) a.x a.D).x, (goS n (k - (r + 1)) a.x a.D).D⟩) := by
            show g = _
            rw [HE.out, hm, goS_step h6 (by rw [ha]; exact he), ha, show k - (r + 1) = m by omega, List.append_assoc]
            rfl
          clear hap hF2 HK HE
          go_wp2_with ((with_reducible refine at_ops ?_); (first | (refine wpList_alloc_is (by rfl) 42 rfl HAL.out ?_) | (refine wpList_store_is (by rfl) 42 rfl rfl rfl HST.out ?_) | (refine wpList_append_is (by rfl) rfl rfl rfl rfl HAP.out ?_)); simp only [Act.put, List.setIfInBounds_toArray, List.set_cons_zero, List.set_cons_succ])
          go_roundw
          case rel => exact ⟨r + 1, ks ++ [a.row.kind], a.x, a.D, by congr 1, by omega, by simp; omega, hok2.1, by omega, HE2, HF2⟩
          case measure => simp [intOf]; omega
        · have hq2 : (a.err != 0) = true := by simp [he]
          have HZ : Hid (g = ⟨ks, false, a.x, a.D⟩) := by rw [HE.out, hm, goS_bad h6 (by rw [ha]; exact he), ha]; show _ = _; rw [List.append_nil]
          have HF2 : Hid (Fz w0 wb (ki u6 ks :: (X.set j (kd p n a.D)).set i (kr P (some p) a.x))) := Fz.pop HK.out
          clear HK HE
          go_wp2_with ((with_reducible refine at_ops ?_); (first | (refine wpList_alloc_is (by rfl) 42 rfl HAL.out ?_) | (refine wpList_store_is (by rfl) 42 rfl rfl rfl HST.out ?_)); simp only [Act.put, List.setIfInBounds_toArray, List.set_cons_zero, List.set_cons_succ])
          go_ret2
          exact ⟨_, by rw [HZ.out]; rfl, by rw [HZ.out]; exact HF2.out⟩
    · have r1 : ¬ (r : Int) < (k : Int) := by omega
      have HZ : Hid (g = ⟨ks, true, x', D'⟩) := by rw [HE.out, show k - r = 0 by omega]; show _ = _; unfold goS; rw [List.append_nil]
      go_wp2
      go_ret2
      exact ⟨_, by rw [HZ.out]; rfl, by rw [HZ.out]; exact HF.out⟩
end
end Go.Proofs.YtdadpepfpiimgaaGreatDoor.Q
namespace Go.Proofs.YtdadpepfpiimgaaGreatDoor.Q
open Go.RowKit
section
variable {n k : Nat} {x : Rc} {D : Dd}
def carD : List Im → Dd → Dd
  | [], D => D
  | i :: l, D => carD l (D.wr (1 + i.b).toNat (homeS i.b i.v))
theorem go5 (h : x.st = 5) (hk : 1 ≤ k) : goS n k x D = ⟨[20], true, { x with st := 6 }, D.fls⟩ := by
  obtain ⟨m, rfl⟩ : ∃ m, k = m + 1 := ⟨k - 1, by omega⟩
  have e := step_end (n := n) (D := D) h
  rw [goS_step (by omega) (by rw [e]), e, goS_over n m D.fls rfl]
theorem go4 (h : x.st = 4) (hk : 2 ≤ k) : goS n k x D = ⟨[16, 20], true, { x with st := 6 }, (D.wr 0 (encS (supN x))).fls⟩ := by
  obtain ⟨m, rfl⟩ : ∃ m, k = m + 1 := ⟨k - 1, by omega⟩
  have e := step_mark (n := n) (D := D) h
  rw [goS_step (by omega) (by rw [e]), e, go5 (x := { x with st := 5 }) rfl (by omega)]
theorem go3 (h : x.st = 3) (hk : 3 ≤ k) : goS n k x D = ⟨[12, 16, 20], true, { x with st := 6 }, (D.fls.wr 0 (encS (supN x))).fls⟩ := by
  obtain ⟨m, rfl⟩ : ∃ m, k = m + 1 := ⟨k - 1, by omega⟩
  have e := step_flush (n := n) (D := D) h
  rw [goS_step (by omega) (by rw [e]), e, go4 (x := { x with st := 4 }) rfl (by omega)]
  rfl
theorem go2 : ∀ (l : List Im) (x : Rc) (D : Dd) (k : Nat), x.left = l → (x.st = 2 → l ≠ []) → (x.st ≠ 2 → l = []) → (x.st = 2 ∨ x.st = 3) → l.length + 3 ≤ k → goS n k x D = ⟨List.replicate l.length 15 ++ [12, 16, 20], true, { x with st := 6, left := [] }, ((carD l D).fls.wr 0 (encS (supN x))).fls⟩
  | [], x, D, k, hl, h2, _, hs, hk => by
    have h3 : x.st = 3 := hs.resolve_left fun e => h2 e rfl
    rw [go3 h3 (by simpa using hk)]
    have : ({ x with st := 6 } : Rc) = { x with st := 6, left := [] } := by rw [← hl]
    rw [this]; rfl
  | i :: l, x, D, k, hl, h2, hn, hs, hk => by
    have h3 : x.st = 2 := hs.resolve_right fun e => by have := hn (by omega); cases this
    obtain ⟨m, rfl⟩ : ∃ m, k = m + 1 := ⟨k - 1, by simp only [List.length_cons] at hk; omega⟩
    have e := step_carry (n := n) (D := D) h3 hl
    have ho := aftS_or l
    rw [goS_step (by omega) (by rw [e]), e]
    have ih := go2 l { x with st := aftS l, left := l } (D.wr (1 + i.b).toNat (homeS i.b i.v)) m rfl (fun e => aftS_car e) (fun e => aftS_non e) (by show aftS l = 2 ∨ aftS l = 3; exact ho) (by simp only [List.length_cons] at hk; omega)
    rw [ih]
    rfl
theorem go_end (ok : x.Ok n) (h : x.st = 2 ∨ x.st = 3) (hk : x.left.length + 3 ≤ k) : goS n k x D = ⟨List.replicate x.left.length 15 ++ [12, 16, 20], true, { x with st := 6, left := [] }, ((carD x.left D).fls.wr 0 (encS (supN x))).fls⟩ := go2 x.left x D k rfl ok.car ok.non h hk
theorem read_st (x : Rc) : (readR n x D).st = 2 ∨ (readR n x D).st = 3 := aftS_or _
theorem rdE_some (hc : MayC x.c) (hn : (n : Int) = 1 + x.c.bl + x.c.lc) (hD : D.Ok n) : rdE n x.c D = 0 ∨ rdE n x.c D = 31 ∨ rdE n x.c D = 3 ∨ rdE n x.c D = 70 := by
  unfold rdE
  by_cases h : (rdL x.c n D.rd).2 = 0
  · rw [if_pos h]
    split
    · exact .inr (.inl rfl)
    · exact .inl rfl
  · rw [if_neg h]
    have h1 : ¬ (supOf x.c n D.rd).2 = 0 := fun e => h (by rw [rdL_ok e])
    rw [rdL_no h1]
    by_cases h2 : (decS (D.rd 0)).2 = 0
    · by_cases h3 : SameC (decS (D.rd 0)).1 x.c
      · rw [supOf_ok hc hn h2 h3] at h1; exact absurd rfl h1
      · rw [supOf_other hc hn h2 h3]; exact .inr (.inr (.inl rfl))
    · rw [supOf_bad hc hn h2]
      have hl : (D.rd 0).length = 64 := newk_length hD.dl hD.fit (by have := hD.n1; omega) _
      refine .inr (.inr (.inr ?_))
      unfold decS at h2 ⊢
      rw [if_neg (by rw [hl]; exact fun e => e rfl)] at h2 ⊢
      split
      · rename_i g; rw [if_pos g] at h2; exact absurd rfl h2
      · rfl
end
end Go.Proofs.YtdadpepfpiimgaaGreatDoor.Q
