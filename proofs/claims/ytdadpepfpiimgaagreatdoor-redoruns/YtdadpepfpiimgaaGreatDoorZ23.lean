import Derived.Test.YtdadpepfpiimgaaGreatDoorZ22
set_option maxHeartbeats 20000000
set_option maxRecDepth 100000
namespace Go.Proofs.YtdadpepfpiimgaaGreatDoor.Q
open Go.RowKit
abbrev XW (c : Sup) (M N C L p : Nat) (vc vm : Value) (r sf : Int) (l : List Im) (tx : List TX) (D : Dd) (g : Lg) (Y : List Kd) : List Kd :=
  ki vc (tx.map (·.p)) :: km vm (mpsS c tx) :: kb M 62 (mcl r sf vc vm) :: kb N 39 (VC (vlsI c l)) :: kb C 23 (ccells c) :: kw L p D g :: Y
def imsT (f i : Int) (ys : List Int) : List Im := ys.map fun b => ⟨b, v93 f i b⟩
theorem imsT_snoc (f i : Int) (ys : List Int) (b : Int) : imsT f i (ys ++ [b]) = imsT f i ys ++ [⟨b, v93 f i b⟩] := by simp [imsT]
theorem take_snoc {α : Type} {l : List α} {k : Nat} {x : α} (h : l[k]? = some x) : l.take (k + 1) = l.take k ++ [x] := by
  obtain ⟨hk, e⟩ := List.getElem?_eq_some_iff.1 h
  rw [List.take_succ_eq_append_getElem hk, e]
theorem lastT {f i : Int} {ys : List Int} {k : Nat} {y : Int} (hu : ys.Pairwise (· < ·)) (hy : ys[k]? = some y) (h0 : (imsT f i (ys.take k)).length ≠ 0) : lastB (imsT f i (ys.take k)) < y := by
  obtain ⟨hk, e⟩ := List.getElem?_eq_some_iff.1 hy
  cases k with
  | zero => exact absurd rfl h0
  | succ k =>
    have hk' : k < ys.length := by omega
    rw [take_snoc (List.getElem?_eq_getElem hk'), imsT_snoc, lastB_snoc]
    show ys[k] < y
    rw [← e]
    exact List.pairwise_iff_getElem.1 hu k (k + 1) hk' hk (by omega)
section
variable {P : Program} {ops : Array Oper} {Q : Exit → Act → World → Prop} {md : Region.Mode} {S : World → Prop} {fuel L : Nat} {listed : Array Bool} {a : Act} {w : World}
theorem tkmL (i : Nat) {oi : Oper} {ty : TypeId} {x : Operand} {p v : Value} {a' : Act} (hS : S w) (hrun : ∀ w, S w → (Instr.loadAt ty p).run P w = .ok v w) (h : wpAnyL P md ops Q S L fuel (listed.setIfInBounds i true) a' w) (hi : ops[i]? = some oi := by simp; rfl) (ho : oi.op = .load ty x := by rfl) (hx : a.eval x = p := by rfl) (hs : Region.noSelect ops = true := by kernel_rfl) (hf : Region.free md ops listed i = true := by kernel_rfl) (hr : (Region.ready md ops listed).contains i = true := by kernel_rfl) (hd : (match ops[L]? with | some o => o.after.any (fun e => Region.binds md e && e.on == i) | none => true) = true := by kernel_rfl) (hg : Region.wanted oi (yielded ops a.tmps) = true := by rfl) (ha : a.put oi.dst v = a' := by simp only [Act.put, List.setIfInBounds_toArray, List.set_cons_zero, List.set_cons_succ]; with_reducible rfl) (hQ : ∀ c a w, Q (.panic c) (a.put oi.dst v) w → Q (.panic c) a w := by exact fun _ _ _ h => h) : wpAnyL P md ops Q S L (fuel + 1) listed a w :=
  wpAnyL_take hi hs hf hr hd hQ (.inl ⟨hg, fun w s => by unfold execOp; simp only [ho, hx, Sem.run_bind, hrun w s, Result.andThen_ok, Sem.run_pure]⟩) hS (ha ▸ h)
end
section
variable {w0 w w' : World} {Y : List Kd} {M L p : Nat} {c : Sup}
theorem Fz.drop34 {a b d e f k : Kd} (h : Fz w0 w (a :: b :: d :: e :: f :: k :: Y)) : Fz w0 w (a :: b :: d :: k :: Y) := by
  refine h.pick (fun i => match i with | 0 => 0 | 1 => 1 | 2 => 2 | i + 3 => i + 5) (fun i hi => ?_) (fun i j hi hj e => ?_)
  · match i with
    | 0 => exact ⟨by simp, rfl⟩
    | 1 => exact ⟨by simp, rfl⟩
    | 2 => exact ⟨by simp, rfl⟩
    | i + 3 => exact ⟨by simpa using hi, rfl⟩
  · match i, j with
    | 0, 0 | 1, 1 | 2, 2 => rfl
    | i + 3, j + 3 => have e : i + 5 = j + 5 := e; omega
    | 0, 1 | 0, 2 | 1, 0 | 1, 2 | 2, 0 | 2, 1 => simp at e
    | 0, j + 3 | 1, j + 3 | 2, j + 3 => simp at e
    | i + 3, 0 | i + 3, 1 | i + 3, 2 => simp at e
theorem LAt.there {ty : TypeId} {W : World} {B o n : Nat} {cs : List Value} (h : LAt ty W B cs) (hl : o + n ≤ cs.length) : W.there B o n := fun j hj => ⟨by rw [LAt.cell h (o + j), List.getElem?_eq_getElem (show o + j < cs.length by omega)]; rfl, frozen_of_row W B (o + j) _ ty h⟩
theorem sliceI_is (w : World) (y : Int) : (Instr.buildSlice 40 1 #[(0, .int .i64 y)]).run Tryz.prog w = .ok (.slice (some ⟨w.heap.size, 0, none⟩) 1 1) (w.alloc (.cells #[.int .i64 y] 3)) := by
  obtain ⟨i0, hi, hz0, hz1, hz2⟩ := info_parts info3
  refine run_buildSlice w 40 3 1 _ _ i0 _ Tryz.underlying40 hi hz0 (by rw [hz1]; decide) (by rw [hz1]; decide) ?_
  rw [hz1]
  have hA : ∀ A : Array Value, A.size = 1 → Instr.fill (fun i => some (i * 1, 1)) A [(0, .int .i64 y)] = some #[.int .i64 y] := by
    intro A hA
    have a0 := part_fill 0 [Value.int .i64 y] A.toList (by simp; omega)
    simp only [Instr.fill, Value.cells, List.size_toArray, Nat.zero_mul]
    rw [if_neg (by simp [hA])]
    have a0' : (#[Value.int .i64 y] : Array Value).zipIdx.foldl (fun cs x => match x with | (c, j) => cs.setIfInBounds (0 + j) c) A = ((A.toList.take 0 ++ [Value.int .i64 y] ++ A.toList.drop (0 + 1))).toArray := a0
    rw [a0', List.drop_eq_nil_of_le (by simp [hA])]
    simp
  exact hA _ (by simp)
theorem Fz.intsome {X : List Kd} {i n cap : Nat} {q : Option Addr} {l : List Int} (h : Fz w0 w X) (hi : X[i]? = some (ki (.slice q n cap) l)) (h0 : 0 < l.length) : ∃ b, q = some ⟨b, 0, none⟩ := by
  obtain ⟨t, G, rfl, ha, -, -⟩ := h.at hi
  have ha : w.ownsRow 0 3 1 (.slice q n cap) l.length (l.map fun x => Value.int .i64 x) := ha
  rcases ha.2 with ⟨_, e⟩ | ⟨b, cap, cur, e, _⟩
  · omega
  · cases e; exact ⟨b, rfl⟩
set_option maxHeartbeats 40000000 in
set_option maxRecDepth 100000 in
theorem writes_at (ht : Tab w0) (hc : MayC c) {ta : Option Addr} {tn : Nat} (tc : Nat) {ts : List TxV} (hts : TsIn w0 ta tn ts) (_htn : tn ≤ 140737488355328) (half : Int) (h : Fz w0 w (kb M 62 (mcl 0 0 (.slice none 0 0) (.slice none 0 0)) :: kw L p ⟨newS c, []⟩ (opnG c 0 1) :: Y)) :
    Calls Tryz.prog 18 #[qp M, qp L, .agg (ccells c).toArray, .slice ta tn tc, .int .i64 half] w fun e w' => e = .returned (.bool true) ∧ ∃ g D al s sf vc vm, Nt c g D al s sf ∧ Fz w0 w' (ki vc (s.txs.map (·.p)) :: km vm (mpsS c s.txs) :: kb M 62 (mcl al.length sf vc vm) :: kw L p D g :: Y) := by
  obtain ⟨i0, hi, hz0, hz1, hz2⟩ := info_parts infoE
  have hbl := hc.1
  have hlc := hc.2.1
  have hmr := hc.2.2.1
  have h1 := h.newa (ccells c) 23
  obtain ⟨C, hC⟩ : ∃ B, w.heap.size = B := ⟨_, rfl⟩
  rw [hC] at h1
  obtain ⟨m, hm⟩ : ∃ m, c.bl.toNat = m := ⟨_, rfl⟩
  have hmi : c.bl = (m : Int) := by omega
  have c0 := CAt.c0 (cfc h1 (i := 0) rfl)
  rw [hmi] at c0
  have hmk := run_make (P := Tryz.prog) (w.alloc (.cells (ccells c).toArray 23)) 66 39 i0 _ Tryz.underlying66 hi hz0 .i64 .i64 (m : Int) (m : Int) (by omega) (Int.le_refl _) (by rw [hz2]; omega) (by omega)
  rw [hz1] at hmk
  simp only [Int.toNat_natCast, Value.cells] at hmk
  rw [made_rep 32 _ (by omega)] at hmk
  have h2 := h1.newa (List.replicate (m * 32) (Value.int .u8 0)) 39
  obtain ⟨N, hN⟩ : ∃ B, (w.alloc (.cells (ccells c).toArray 23)).heap.size = B := ⟨_, rfl⟩
  obtain ⟨w2, hw2⟩ : ∃ x, (w.alloc (.cells (ccells c).toArray 23)).alloc (.cells (List.replicate (m * 32) (Value.int .u8 0)).toArray 39) = x := ⟨_, rfl⟩
  rw [hN, hw2] at hmk h2
  have e0 : List.replicate (m * 32) (Value.int .u8 0) = VC (vlsI c []) := by rw [vlsI_nil, hm, VC_rep]
  rw [e0] at h2
  have h3 := (h2.nomaps).noints
  have HF0 : Hid (Fz w0 w2 (ki (.slice none 0 0) [] :: km (.slice none 0 0) [] :: kb M 62 (mcl 0 0 (.slice none 0 0) (.slice none 0 0)) :: kb N 39 (VC (vlsI c [])) :: kb C 23 (ccells c) :: kw L p ⟨newS c, []⟩ (opnG c 0 1) :: Y)) := by
    refine h3.pick (fun i => match i with | 0 => 0 | 1 => 1 | 2 => 4 | 3 => 2 | 4 => 3 | i => i) (fun i hi => ?_) (fun i j hi hj e => ?_)
    · match i with
      | 0 => exact ⟨by simp, rfl⟩
      | 1 => exact ⟨by simp, rfl⟩
      | 2 => exact ⟨by simp, rfl⟩
      | 3 => exact ⟨by simp, rfl⟩
      | 4 => exact ⟨by simp, rfl⟩
      | i + 5 => exact ⟨by simpa using hi, rfl⟩
    · match i, j with
      | 0, 0 | 1, 1 | 2, 2 | 3, 3 | 4, 4 => rfl
      | i + 5, j + 5 => exact e
      | 0, 1 | 0, 2 | 0, 3 | 0, 4 | 1, 0 | 1, 2 | 1, 3 | 1, 4 | 2, 0 | 2, 1 | 2, 3 | 2, 4 | 3, 0 | 3, 1 | 3, 2 | 3, 4 | 4, 0 | 4, 1 | 4, 2 | 4, 3 => simp at e
      | 0, j + 5 | 1, j + 5 | 2, j + 5 | 3, j + 5 | 4, j + 5 => simp at e
      | i + 5, 0 | i + 5, 1 | i + 5, 2 | i + 5, 3 | i + 5, 4 => simp at e
  have HT : Hid (TsIn w0 ta tn ts) := hts
  clear h h1 h2 h3 e0 hw2 hi hz0 hz1 hz2 hts
  go_enter Tryz.func18, Tryz.ntmps18
  go_wp2_with fail
  clear hmk c0
  have HM : Hid (c.bl.toNat = m) := hm
  have hm1 : 1 ≤ m ∧ m ≤ 64 := by omega
  clear hm hmi hC hN
  have HFd : Hid (Fz w0 w2.drew _) := HF0.out.later (below_drawn 1)
  obtain ⟨b2, c2, wy2, v4, wy4, r1, f2, r3, f4⟩ := Fz.addmap (i := 1) (j := 3) HFd.out rfl rfl (vlsI_each (fun i hi => (by cases hi))) (by rw [vlsI_len, HM.out]) (by rw [vlsI_len, HM.out]; omega) (by rw [vlsI_len, HM.out]; omega) (Nat.zero_le _)
  obtain ⟨q4, n4, c4, rfl⟩ := Fz.mapslice (i := 1) f4 rfl
  have R1 : Hid (_) := r1
  have R3 : Hid (_) := r3
  have hHeld : w2.drew.cell? ⟨M, 3, none⟩ = some (.slice none 0 0) := mc3 (HFd.out.atb (i := 2) rfl).1
  have S1 : Hid ((w2.drew.alloc (.cells #[] 39)).cell? ⟨M, 3, none⟩ = some (.slice none 0 0)) := mc3 ((HFd.out.later (below_alloc _ _)).atb (i := 2) rfl).1
  have S2 : Hid (wy2.cell? ⟨M, 3, none⟩ = some (.slice none 0 0)) := mc3 (f2.atb (i := 2) rfl).1
  have S3 : Hid ((wy2.alloc (.cells #[.slice (some ⟨b2, 0, none⟩) m c2] 66)).cell? ⟨M, 3, none⟩ = some (.slice none 0 0)) := mc3 ((f2.later (below_alloc _ _)).atb (i := 2) rfl).1
  have S4 : Hid (wy4.cell? ⟨M, 3, none⟩ = some (.slice none 0 0)) := mc3 (f4.atb (i := 2) rfl).1
  have F4 : Hid (wy4.frozen? ⟨M, 3, none⟩ = false) := mfr (f4.atb (i := 2) rfl).1 3
  have HN : Hid (Fz w0 (wy4.setCell ⟨M, 3, none⟩ (.slice q4 n4 c4)) (XW c M N C L p (.slice none 0 0) (.slice q4 n4 c4) (([] : List R.Rec).length : Nat) (0 : Nat) (flat []) [] ⟨newS c, []⟩ (opnG c 0 1) Y)) := by
    have hh := f4.cell (i := 2) rfl 3 (.slice q4 n4 c4)
    skip
    exact hh
  clear r1 r3 f2 f4 HF0 HFd
  refine wp_region_noPanic ?_
  refine wp_region_last 12 (fun W => W.cell? ⟨M, 3, none⟩ = some (.slice none 0 0)) (by kernel_rfl) ?_
  generalize w2.drew = wd at *
  refine tkL 0 hHeld ?_
  refine tkL 1 hHeld ?_
  refine tkL 2 hHeld ?_
  refine tkL 3 hHeld ?_
  refine tklL 4 hHeld (fun _ s => s) ?_
  refine tkL 6 hHeld ?_
  clear hHeld
  refine wpAnyL_ready (rs := [5]) (by kernel_rfl) (by simp) ?_
  refine AllReadyL.cons (by simp; rfl) (fun Kc hKc => ?_) AllReadyL.nil
  refine step_slice_is (by rfl) 66 0 rfl (by rfl) (slice0_is _) ?_
  simp only [Act.put, List.setIfInBounds_toArray, List.set_cons_zero, List.set_cons_succ]
  refine hKc.out _ _ (fun _ => S1.out) ?_
  clear hKc Kc
  refine wpAnyL_ready (rs := [7]) (by kernel_rfl) (by simp) ?_
  refine AllReadyL.cons (by simp; rfl) (fun Kc hKc => ?_) AllReadyL.nil
  refine step_append_is (by rfl) rfl rfl rfl rfl R1.out ?_
  simp only [Act.put, List.setIfInBounds_toArray, List.set_cons_zero, List.set_cons_succ]
  refine hKc.out _ _ (fun _ => S2.out) ?_
  clear hKc Kc
  refine wpAnyL_ready (rs := [8]) (by kernel_rfl) (by simp) ?_
  refine AllReadyL.cons (by simp; rfl) (fun Kc hKc => ?_) AllReadyL.nil
  refine step_slice_is (by rfl) 60 1 rfl (by rfl) (slice1_is _ _ _ _) ?_
  simp only [Act.put, List.setIfInBounds_toArray, List.set_cons_zero, List.set_cons_succ]
  refine hKc.out _ _ (fun _ => S3.out) ?_
  clear hKc Kc
  refine wpAnyL_ready (rs := [9]) (by kernel_rfl) (by simp) ?_
  refine AllReadyL.cons (by simp; rfl) (fun Kc hKc => ?_) AllReadyL.nil
  refine step_append_is (by rfl) rfl rfl rfl rfl R3.out ?_
  simp only [Act.put, List.setIfInBounds_toArray, List.set_cons_zero, List.set_cons_succ]
  refine hKc.out _ _ (fun _ => S4.out) ?_
  clear hKc Kc
  clear R1 R3 S1 S2 S3
  refine wpAnyL_ready (rs := [10]) (by kernel_rfl) (by simp) ?_
  refine AllReadyL.cons (by simp; rfl) (fun Kc hKc => ?_) AllReadyL.nil
  go_simp
  refine hKc.out _ _ (fun _ => S4.out) ?_
  clear hKc Kc
  refine wpAnyL_ready (rs := [11]) (by kernel_rfl) (by simp) ?_
  refine AllReadyL.cons (by simp; rfl) (fun Kc hKc => ?_) AllReadyL.nil
  go_simp
  refine hKc.out _ _ (fun _ => S4.out) ?_
  clear hKc Kc
  refine wpAnyL_ready (rs := [12]) (by kernel_rfl) (by simp) ?_
  refine AllReadyL.cons (by simp; rfl) (fun Kc hKc => ?_) AllReadyL.nil
  have z0 := S4.out
  have z1 := F4.out
  go_simp
  refine hKc.out _ _ (fun e => absurd rfl e) ?_
  clear hKc Kc
  refine wpAnyL_done (by kernel_rfl) (NoPanic.normal ?_) _
  clear z0 z1 S4 F4
  generalize wy4.setCell ⟨M, 3, none⟩ (.slice q4 n4 c4) = w5 at *
  go_wp2_with fail
  go_loopw [12] (fun i wr => ∃ (r : Nat) (g : Lg) (D : Dd) (al : List R.Rec) (tx : List TX) (fin : Int) (sf : Nat) (vc vm : Value), i = .int .i64 r ∧ r ≤ tn ∧ r ≤ 40 ∧ tx.length ≤ r ∧ Hid (Nt c g D al ⟨tx, fin, []⟩ sf) ∧ Hid (Fz w0 wr (XW c M N C L p vc vm al.length sf (flat tx) tx D g Y))) (fun i _ => tn - (intOf i).toNat)
  case atStart => exact ⟨0, _, _, _, _, 0, _, _, _, rfl, Nat.zero_le _, by omega, Nat.le_refl _, Nt.start hc, HN⟩
  case round =>
    obtain ⟨r, g, D, al, tx, fin, sf, vc, vm, rfl, hr1, hr2, htx, HNT, HF⟩ := hrel
    clear HN
    by_cases hlt : r < tn ∧ r < 40
    · have r1 : (r : Int) < (tn : Int) := by omega
      have r2 : (r : Int) < 40 := by omega
      obtain ⟨tb, tao, t, rfl, -, ht1⟩ := HT.out.at (r := r) hlt.1
      have HT1 : Hid (T1 w0 tb (tao + r * 3) t) := ht1
      have hal : al.length ≤ 64 := by have := HNT.out.wt.len; omega
      clear ht1 hlt
      go_wp2_with fail
      refine wp_region_noPanic ?_
      refine wp_region_held_drew (S := fun W => Fz w0 W (XW c M N C L p vc vm al.length sf (flat tx) tx D g Y)) (by kernel_rfl) (HF.out.later (below_drawn 1)) (fun hHeld => ?_)
      generalize wr.drew = wd1 at *
      refine tk 0 hHeld ?_
      refine tk 1 hHeld ?_
      refine tk 2 hHeld ?_
      refine tkm 3 hHeld (fun _ s => HT1.out.load s.below) ?_
      refine tkm 4 hHeld (fun _ s => cfl s (i := 4) rfl) ?_
      refine tkr 5 fun Kc hKc => ?_
      go_simp
      refine (set_any t.a t.n t.c t.f t.m t.xs c hc wd1 (HT1.out.blk.later hHeld.below) HT1.out.few).mono ?_
      rintro e w3 ⟨v, ys, rfl, ho, hri, hle, hb⟩
      obtain ⟨q, cap, rfl, -, -⟩ := own_slice ho
      have HR3 : Hid (Rsg ys c.bl) := hri
      have H3 : Hid (Fz w0 w3 (ki (.slice q ys.length cap) ys :: XW c M N C L p vc vm al.length sf (flat tx) tx D g Y)) := hHeld.push hb (u := .int _ ys) (fun _ => own_mono ho (Nat.zero_le _)) (fun b hb => (World.ownsRow.lt ho b hb).1) rfl
      clear ho hri hb
      refine hKc.out _ _ H3.out.pop (fun hHeld => ?_)
      clear hKc Kc
      refine tk 6 hHeld ?_
      clear hHeld
      refine wpAnyH_done (by kernel_rfl) (NoPanic.normal ?_) _
      have hys : ys.length ≤ 16 := by omega
      have k1 : IntKind.i64.wrap ((al.length : Int) + (ys.length : Int)) = (al.length : Int) + (ys.length : Int) := by rw [IntKind.wrap_i64]; omega
      have k2 : IntKind.i64.wrap ((al.length : Int) + (ys.length : Int) + 1) = (al.length : Int) + (ys.length : Int) + 1 := by rw [IntKind.wrap_i64]; omega
      by_cases hroom : (al.length : Int) + (ys.length : Int) + 1 > c.lc
      · go_wp2_with fail
        refine wp_region_noPanic ?_
        refine wp_region_held_drew (S := fun W => Fz w0 W (ki (.slice q ys.length cap) ys :: XW c M N C L p vc vm al.length sf (flat tx) tx D g Y)) (by kernel_rfl) (H3.out.later (below_drawn 1)) (fun hHeld => ?_)
        generalize w3.drew = wd2 at *
        have H4 : Hid (Fz w0 wd2 (ki (.slice q ys.length cap) ys :: XW c M N C L p vc vm al.length sf (flat tx) tx D g Y)) := hHeld
        refine tk 0 hHeld ?_
        refine tk 1 hHeld ?_
        refine tk 2 hHeld ?_
        refine tkl 3 hHeld (fun _ s => mc0 (s.atb (i := 3) rfl).1) ?_
        refine tk 4 hHeld ?_
        refine tk 5 hHeld ?_
        refine tk 6 hHeld ?_
        refine tk 7 hHeld ?_
        refine tk 8 hHeld ?_
        refine tkl 9 hHeld (fun _ s => CAt.c1 (cfc s (i := 5) rfl)) ?_
        refine tk 10 hHeld ?_
        clear hHeld H3
        refine wpAnyH_done (by kernel_rfl) (NoPanic.normal ?_) _
        go_wp2_with fail
        have HW : Hid (Fz w0 wd2 (XW c M N C L p vc vm al.length sf (flat tx) tx D g Y)) := H4.out.pop
        clear H4 k1 k2 hroom HT HT1 HR3 HF
        have hb2 : -2 < half.tmod 2 ∧ half.tmod 2 < 2 := ⟨Int.lt_tmod_of_pos _ (by omega), Int.tmod_lt_of_pos _ (by omega)⟩
        have k3 : IntKind.i64.wrap (half.tmod 2) = half.tmod 2 := by rw [IntKind.wrap_i64]; omega
        by_cases hh : half.tmod 2 = 0
        · have hq : (half.tmod 2 == 0) = true := by simp [hh]
          by_cases hrm : (al.length : Int) < c.lc
          · have him : imgS g 0 = 0 := HNT.out.imgok hrm (by omega) (by omega) (by show ((0 : Nat) : Int) < c.mr; omega) (fun k => absurd rfl k)
            have HNT2 : Hid (_) := HNT.out.img (v := v93 99 0 0) him (v93_len _ _ _) (v93_bytes ⟨by omega, by omega⟩ ⟨by omega, by omega⟩ ⟨by omega, by omega⟩)
            have hws := HNT.out.ws
            refine wp_region_noPanic ?_
            refine wp_region_held_drew (S := fun W => Fz w0 W (XW c M N C L p vc vm al.length sf (flat tx) tx D g Y)) (by kernel_rfl) (HW.out.later (below_drawn 1)) (fun hHeld => ?_)
            generalize wd2.drew = wt at *
            have HT5 : Hid (Fz w0 wt (XW c M N C L p vc vm al.length sf (flat tx) tx D g Y)) := hHeld
            refine tk 0 hHeld ?_
            refine tk 1 hHeld ?_
            refine tk 2 hHeld ?_
            refine tk 3 hHeld ?_
            refine tk 4 hHeld ?_
            refine tk 5 hHeld ?_
            refine tk 6 hHeld ?_
            refine tkl 7 hHeld (fun _ s => mc0 (s.atb (i := 2) rfl).1) ?_
            refine tk 8 hHeld ?_
            refine tkl 9 hHeld (fun _ s => CAt.c1 (cfc s (i := 4) rfl)) ?_
            refine tk 10 hHeld ?_
            refine tk 11 hHeld ?_
            clear hHeld HW
            refine wpAnyH_done (by kernel_rfl) (NoPanic.normal ?_) _
            have HB9 : Hid (_) := build_v99 wt
            go_wp2_with ((with_reducible refine at_ops ?_); (refine wpList_build_is (vs := [(0, .int .u8 99)]) (by rfl) 39 rfl (by rfl) HB9.out ?_); simp only [Act.put, List.setIfInBounds_toArray, List.set_cons_zero, List.set_cons_succ])
            refine (l_image (i := 5) ht HT5.out rfl (by omega) (v93_len _ _ _) (v93_bytes ⟨by omega, by omega⟩ ⟨by omega, by omega⟩ ⟨by omega, by omega⟩) him).mono ?_
            rintro e w7 ⟨rfl, h7⟩
            have z0 := mc0 (h7.atb (i := 2) rfl).1
            have z1 := mfr (h7.atb (i := 2) rfl).1 0
            have k4 : IntKind.i64.wrap ((al.length : Int) + 1) = (al.length : Int) + 1 := by rw [IntKind.wrap_i64]; omega
            have HN7 : Hid (Fz w0 (w7.setCell ⟨M, 0, none⟩ (.int .i64 ((al.length : Int) + 1))) (XW c M N C L p vc vm (al ++ [imgR g 0 (v93 99 0 0)]).length sf (flat tx) tx (D.wr (secN g g.fin).toNat (R.encS (imgR g 0 (v93 99 0 0)))) (imgG g 0) Y)) := by
              have hh := h7.cell (i := 2) rfl 0 (.int .i64 ((al.length : Int) + 1))
              rw [show (((al ++ [imgR g 0 (v93 99 0 0)]).length : Nat) : Int) = (al.length : Int) + 1 by simp]
              exact hh
            clear h7 HB9 HT5 hh hb2
            go_wp2_with fail
            go_ret
            first | exact ⟨rfl, _, _, _, _, sf, vc, vm, HNT2.out, HN7.out.drop34⟩ | exact ⟨rfl, _, _, _, _, sf, HNT2.out, vc, vm, HN7.out.drop34⟩
          · refine wp_region_noPanic ?_
            refine wp_region_held_drew (S := fun W => Fz w0 W (XW c M N C L p vc vm al.length sf (flat tx) tx D g Y)) (by kernel_rfl) (HW.out.later (below_drawn 1)) (fun hHeld => ?_)
            generalize wd2.drew = wt at *
            have HT5 : Hid (Fz w0 wt (XW c M N C L p vc vm al.length sf (flat tx) tx D g Y)) := hHeld
            refine tk 0 hHeld ?_
            refine tk 1 hHeld ?_
            refine tk 2 hHeld ?_
            refine tk 3 hHeld ?_
            refine tk 4 hHeld ?_
            refine tk 5 hHeld ?_
            refine tk 6 hHeld ?_
            refine tkl 7 hHeld (fun _ s => mc0 (s.atb (i := 2) rfl).1) ?_
            refine tk 8 hHeld ?_
            refine tkl 9 hHeld (fun _ s => CAt.c1 (cfc s (i := 4) rfl)) ?_
            refine tk 10 hHeld ?_
            refine tk 11 hHeld ?_
            clear hHeld HW
            refine wpAnyH_done (by kernel_rfl) (NoPanic.normal ?_) _
            go_wp2_with fail
            go_ret
            first | exact ⟨rfl, g, D, al, ⟨tx, fin, []⟩, sf, vc, vm, HNT.out, HT5.out.drop34⟩ | exact ⟨rfl, g, D, al, ⟨tx, fin, []⟩, sf, HNT.out, vc, vm, HT5.out.drop34⟩
        · have hq : (half.tmod 2 == 0) = false := by simp [hh]
          refine wp_region_noPanic ?_
          refine wp_region_held_drew (S := fun W => Fz w0 W (XW c M N C L p vc vm al.length sf (flat tx) tx D g Y)) (by kernel_rfl) (HW.out.later (below_drawn 1)) (fun hHeld => ?_)
          generalize wd2.drew = wt at *
          have HT5 : Hid (Fz w0 wt (XW c M N C L p vc vm al.length sf (flat tx) tx D g Y)) := hHeld
          refine tk 0 hHeld ?_
          refine tk 1 hHeld ?_
          refine tk 2 hHeld ?_
          refine tk 3 hHeld ?_
          refine tks 4 hHeld ?_
          refine tks 5 hHeld ?_
          refine tks 6 hHeld ?_
          refine tks 7 hHeld ?_
          refine tks 8 hHeld ?_
          refine tks 9 hHeld ?_
          refine tks 10 hHeld ?_
          refine tk 11 hHeld ?_
          clear hHeld HW
          refine wpAnyH_done (by kernel_rfl) (NoPanic.normal ?_) _
          go_wp2_with fail
          go_ret
          first | exact ⟨rfl, g, D, al, ⟨tx, fin, []⟩, sf, vc, vm, HNT.out, HT5.out.drop34⟩ | exact ⟨rfl, g, D, al, ⟨tx, fin, []⟩, sf, HNT.out, vc, vm, HT5.out.drop34⟩
      · go_wp2_with fail
        refine wp_region_noPanic ?_
        refine wp_region_held_drew (S := fun W => Fz w0 W (ki (.slice q ys.length cap) ys :: XW c M N C L p vc vm al.length sf (flat tx) tx D g Y)) (by kernel_rfl) (H3.out.later (below_drawn 1)) (fun hHeld => ?_)
        generalize w3.drew = wd2 at *
        have H4 : Hid (Fz w0 wd2 (ki (.slice q ys.length cap) ys :: XW c M N C L p vc vm al.length sf (flat tx) tx D g Y)) := hHeld
        refine tk 0 hHeld ?_
        refine tk 1 hHeld ?_
        refine tk 2 hHeld ?_
        refine tkl 3 hHeld (fun _ s => mc0 (s.atb (i := 3) rfl).1) ?_
        refine tk 4 hHeld ?_
        refine tk 5 hHeld ?_
        refine tk 6 hHeld ?_
        refine tk 7 hHeld ?_
        refine tk 8 hHeld ?_
        refine tkl 9 hHeld (fun _ s => CAt.c1 (cfc s (i := 5) rfl)) ?_
        refine tk 10 hHeld ?_
        clear hHeld H3
        refine wpAnyH_done (by kernel_rfl) (NoPanic.normal ?_) _
        go_wp2_with fail
        go_loopw [14] (fun i wr => ∃ (k : Nat) (gk : Lg) (Dk : Dd) (ak : List R.Rec), i = .int .i64 k ∧ k ≤ ys.length ∧ ak.length = al.length + k ∧ Hid (Nt c gk Dk ak ⟨tx, fin, imsT t.f r (ys.take k)⟩ sf) ∧ Hid (Fz w0 wr (ki (.slice q ys.length cap) ys :: XW c M N C L p vc vm al.length sf (flat tx ++ imsT t.f r (ys.take k)) tx Dk gk Y))) (fun i _ => ys.length - (intOf i).toNat)
        case atStart => exact ⟨0, g, D, al, rfl, Nat.zero_le _, rfl, HNT, by show Fz w0 _ (ki (.slice q ys.length cap) ys :: XW c M N C L p vc vm al.length sf (flat tx ++ imsT t.f r (ys.take 0)) tx D g Y); rw [List.take_zero, show imsT t.f r [] = [] from rfl, List.append_nil]; exact H4.out⟩
        case round =>
          obtain ⟨k, gk, Dk, ak, rfl, hk, hak, HNK, HFK⟩ := hrel
          clear H4 HF k1 k2
          by_cases hky : k < ys.length
          · have j1 : (k : Int) < (ys.length : Int) := by omega
            obtain ⟨qb, rfl⟩ := HFK.out.intsome (i := 0) rfl (by omega)
            obtain ⟨y, hy⟩ : ∃ y, ys[k]? = some y := ⟨_, List.getElem?_eq_getElem hky⟩
            have hy0 := HR3.out.lo y (List.mem_of_getElem? hy)
            have hy1 := HR3.out.hi y (List.mem_of_getElem? hy)
            obtain ⟨b, rfl⟩ : ∃ b : Nat, y = (b : Int) := ⟨y.toNat, by omega⟩
            have HYK : Hid (ys[k]? = some (b : Int)) := hy
            have him : imgS gk b = 0 := HNK.out.imgok (by omega) hy0 hy1 (by show ((imsT t.f r (ys.take k)).length : Int) < c.mr; simp [imsT]; omega) (fun h0 => lastT HR3.out.up hy h0)
            have hvb : Bytes (v93 t.f r b) := v93_bytes ⟨HT1.out.f0, HT1.out.f1⟩ ⟨by omega, by omega⟩ ⟨by omega, by omega⟩
            have HNX : Hid (_) := HNK.out.img (v := v93 t.f r b) him (v93_len _ _ _) hvb
            have HVB : Hid (Bytes (v93 t.f r b)) := hvb
            have HIM : Hid (imgS gk b = 0) := him
            have hws := HNK.out.ws
            have v1 : IntKind.u8.wrap (r : Int) = (r : Int) := by rw [IntKind.wrap_u8]; omega
            have v2 : IntKind.u8.wrap (b : Int) = (b : Int) := by rw [IntKind.wrap_u8]; omega
            clear hy hvb him
            go_wp2_with fail
            have HFd : Hid (Fz w0 wr.drew (ki (.slice (some ⟨qb, 0, none⟩) ys.length cap) ys :: XW c M N C L p vc vm al.length sf (flat tx ++ imsT t.f r (ys.take k)) tx Dk gk Y)) := HFK.out.later (below_drawn 1)
            refine wp_region_noPanic ?_
            refine wp_region_held_drew (S := fun W => W.cell? ⟨tb, tao + r * 3 + 1, none⟩ = some (.int .u8 t.f) ∧ W.cell? ⟨qb, k, none⟩ = some (.int .i64 (b : Int))) (by kernel_rfl) ⟨HT1.out.c1 HFd.out.below, HFd.out.intcell (i := 0) rfl rfl HYK.out⟩ (fun hHeld => ?_)
            generalize wr.drew = wx at *
            refine tk 0 hHeld ?_
            refine tk 1 hHeld ?_
            refine tk 2 hHeld ?_
            refine tk 3 hHeld ?_
            refine tkl 4 hHeld (fun _ s => s.1) ?_
            refine tk 5 hHeld ?_
            refine tk 6 hHeld ?_
            refine tk 7 hHeld ?_
            refine tk 8 hHeld ?_
            refine tk 9 hHeld ?_
            refine tkl 10 hHeld (fun _ s => s.2) ?_
            refine tk 11 hHeld ?_
            refine tkb 12 [(0, .int .u8 t.f), (1, .int .u8 (r : Int)), (2, .int .u8 (b : Int))] hHeld (fun w => build_v3 w _ _ _) ?_
            refine tkr 13 fun Kc hKc => ?_
            obtain ⟨V, hV⟩ : ∃ B, wx.heap.size = B := ⟨_, rfl⟩
            have hdv := HFd.out.newa (U8 (zs 32)) 39
            have hal := allocV wx
            rw [hV] at hdv hal
            refine step_alloc_is (by rfl) 39 rfl hal ?_
            simp only [Act.put, List.setIfInBounds_toArray, List.set_cons_zero, List.set_cons_succ]
            have HD1 : Hid (Fz w0 (wx.alloc (.cells (U8 (zs 32)).toArray 39)) (kb V 39 (U8 (zs 32)) :: ki (.slice (some ⟨qb, 0, none⟩) ys.length cap) ys :: (XW c M N C L p vc vm al.length sf (flat tx ++ imsT t.f r (ys.take k)) tx Dk gk Y))) := hdv
            clear hdv hal hV HFd
            generalize wx.alloc (.cells (U8 (zs 32)).toArray 39) = wx1 at *
            refine hKc.out _ _ (⟨HT1.out.c1 HD1.out.below, HD1.out.intcell (i := 1) rfl rfl HYK.out⟩) (fun hHeld => ?_)
            clear hKc Kc
            refine tkr 14 fun Kc hKc => ?_
            obtain ⟨hla, -, -, hlb⟩ := HD1.out.atb (i := 0) rfl
            have hst := LAt.store hla (ds := U8 (v93 t.f r b)) (by rw [sizeV, U8_length, v93_len]) (by rw [U8_length, U8_length, v93_len, zs_len]) (u8_ones _)
            have hds := hlb (U8 (v93 t.f r b))
            refine step_store_is (by rfl) 39 rfl rfl rfl hst ?_
            simp only [Act.put]
            have HD2 : Hid (Fz w0 (wx1.setRow V (U8 (v93 t.f r b)).toArray) (kb V 39 (U8 (v93 t.f r b)) :: ki (.slice (some ⟨qb, 0, none⟩) ys.length cap) ys :: (XW c M N C L p vc vm al.length sf (flat tx ++ imsT t.f r (ys.take k)) tx Dk gk Y))) := hds
            clear hds hst hla hlb HD1
            generalize wx1.setRow V (U8 (v93 t.f r b)).toArray = wx2 at *
            refine hKc.out _ _ (⟨HT1.out.c1 HD2.out.below, HD2.out.intcell (i := 1) rfl rfl HYK.out⟩) (fun hHeld => ?_)
            clear hKc Kc
            clear hHeld
            refine wpAnyH_done (by kernel_rfl) (NoPanic.normal ?_) _
            have H8 : Hid (Fz w0 wx2 (kb V 39 (U8 (v93 t.f r b)) :: ki (.slice (some ⟨qb, 0, none⟩) ys.length cap) ys :: XW c M N C L p vc vm al.length sf (flat tx ++ imsT t.f r (ys.take k)) tx Dk gk Y)) := HD2.out
            clear HD2
            generalize wx2 = w8 at *
            go_wp2_with fail
            have HFe : Hid (Fz w0 w8.drew (kb V 39 (U8 (v93 t.f r b)) :: ki (.slice (some ⟨qb, 0, none⟩) ys.length cap) ys :: XW c M N C L p vc vm al.length sf (flat tx ++ imsT t.f r (ys.take k)) tx Dk gk Y)) := H8.out.later (below_drawn 1)
            refine wp_region_noPanic ?_
            refine wp_region_held_drew (S := fun W => W.cell? ⟨qb, k, none⟩ = some (.int .i64 (b : Int)) ∧ LAt 39 W V (U8 (v93 t.f r b))) (by kernel_rfl) ⟨HFe.out.intcell (i := 1) rfl rfl HYK.out, (HFe.out.atb (i := 0) rfl).1⟩ (fun hHeld => ?_)
            generalize w8.drew = w9 at *
            refine tk 0 hHeld ?_
            refine tk 1 hHeld ?_
            refine tk 2 hHeld ?_
            refine tk 3 hHeld ?_
            refine tkl 4 hHeld (fun _ s => s.1) ?_
            refine tkm 5 hHeld (fun _ s => loadV s.2 (v93_len _ _ _)) ?_
            refine tkr 6 fun Kc hKc => ?_
            go_simp
            refine (l_image (i := 7) ht HFe.out rfl (by omega) (v93_len _ _ _) HVB.out HIM.out).mono ?_
            rintro e wi ⟨rfl, hi9⟩
            have HI : Hid (Fz w0 wi (kb V 39 (U8 (v93 t.f r b)) :: ki (.slice (some ⟨qb, 0, none⟩) ys.length cap) ys :: XW c M N C L p vc vm al.length sf (flat tx ++ imsT t.f r (ys.take k)) tx (Dk.wr (secN gk gk.fin).toNat (R.encS (imgR gk b (v93 t.f r b)))) (imgG gk b) Y)) := hi9
            clear hi9
            refine hKc.out _ _ ⟨HI.out.intcell (i := 1) rfl rfl HYK.out, (HI.out.atb (i := 0) rfl).1⟩ (fun hHeld => ?_)
            clear hKc Kc HFe H8
            refine tk 7 hHeld ?_
            refine tk 8 hHeld ?_
            refine tk 9 hHeld ?_
            refine tk 10 hHeld ?_
            refine tk 11 hHeld ?_
            clear hHeld
            refine wpAnyH_done (by kernel_rfl) (NoPanic.normal ?_) _
            go_wp2_with fail
            have HFe : Hid (Fz w0 wi.drew (kb V 39 (U8 (v93 t.f r b)) :: ki (.slice (some ⟨qb, 0, none⟩) ys.length cap) ys :: XW c M N C L p vc vm al.length sf (flat tx ++ imsT t.f r (ys.take k)) tx (Dk.wr (secN gk gk.fin).toNat (R.encS (imgR gk b (v93 t.f r b)))) (imgG gk b) Y)) := HI.out.later (below_drawn 1)
            have h32 := vlsI_each (c := c) HNK.out.wf
            have hvl : (VC (vlsI c (flat tx ++ imsT t.f r (ys.take k)))).length = m * 32 := by rw [VC_length h32, vlsI_len, HM.out]
            have hbm : b < m := by have := HM.out; omega
            have e15 : (VC (vlsI c (flat tx ++ imsT t.f r (ys.take k)))).take (b * 32) ++ U8 (v93 t.f r b) ++ (VC (vlsI c (flat tx ++ imsT t.f r (ys.take k)))).drop (b * 32 + (U8 (v93 t.f r b)).length) = VC (vlsI c (flat tx ++ imsT t.f r (ys.take (k + 1)))) := by
              rw [VC_set _ b _ h32 (v93_len _ _ _) (by rw [vlsI_len, HM.out]; exact hbm), take_snoc HYK.out, imsT_snoc, ← List.append_assoc, vlsI_snoc _ _ _ (by show (0 : Int) ≤ (b : Int); omega)]
              rfl
            have hle : b * 32 + (U8 (v93 t.f r b)).length ≤ (VC (vlsI c (flat tx ++ imsT t.f r (ys.take k)))).length := by rw [U8_length, v93_len, hvl]; omega
            have hst := run_storeAt_mid (P := Tryz.prog) wi.drew N (b * 32) 39 (U8 (v93 t.f r b)).toArray (LAt.there (HFe.out.atb (i := 5) rfl).1 (by rw [List.size_toArray]; exact hle)) (by rw [sizeV, List.size_toArray, U8_length, v93_len]) (u8_ones _)
            have HST : Hid (_) := hst
            have hcs := Fz.cells (i := 5) (U8 (v93 t.f r b)) (b * 32) HFe.out rfl hle
            rw [e15] at hcs
            have hcs2 : Fz w0 (wi.drew.setCells N (b * 32) (U8 (v93 t.f r b))) (kb V 39 (U8 (v93 t.f r b)) :: ki (.slice (some ⟨qb, 0, none⟩) ys.length cap) ys :: XW c M N C L p vc vm al.length sf (flat tx ++ imsT t.f r (ys.take (k + 1))) tx (Dk.wr (secN gk gk.fin).toNat (R.encS (imgR gk b (v93 t.f r b)))) (imgG gk b) Y) := hcs
            have HZ8 : Hid (Fz w0 (wi.drew.setCells N (b * 32) (U8 (v93 t.f r b))) (ki (.slice (some ⟨qb, 0, none⟩) ys.length cap) ys :: XW c M N C L p vc vm al.length sf (flat tx ++ imsT t.f r (ys.take (k + 1))) tx (Dk.wr (secN gk gk.fin).toNat (R.encS (imgR gk b (v93 t.f r b)))) (imgG gk b) Y)) := hcs2.pop
            have hHeld : wi.drew.cell? ⟨qb, k, none⟩ = some (.int .i64 (b : Int)) ∧ LAt 39 wi.drew V (U8 (v93 t.f r b)) := ⟨HFe.out.intcell (i := 1) rfl rfl HYK.out, (HFe.out.atb (i := 0) rfl).1⟩
            clear hcs hcs2 hst h32 hvl e15 hle HFe HI
            have b1 : (b : Int) < (m : Int) := by omega
            have b0 : (0 : Int) ≤ (b : Int) := by omega
            refine wp_region_noPanic ?_
            refine wp_region_last 7 (fun W => W.cell? ⟨qb, k, none⟩ = some (.int .i64 (b : Int)) ∧ LAt 39 W V (U8 (v93 t.f r b))) (by kernel_rfl) ?_
            generalize wi.drew = w10 at *
            refine tkL 0 hHeld ?_
            refine tkL 1 hHeld ?_
            refine tkL 2 hHeld ?_
            refine tkL 3 hHeld ?_
            refine tklL 4 hHeld (fun _ s => s.1) ?_
            refine tkmL 5 hHeld (fun _ s => loadV s.2 (v93_len _ _ _)) ?_
            refine tkL 6 hHeld ?_
            clear hHeld
            refine wpAnyL_ready (rs := [7]) (by kernel_rfl) (by simp) ?_
            refine AllReadyL.cons (by simp; rfl) (fun Kc hKc => ?_) AllReadyL.nil
            refine step_store_is (by rfl) 39 rfl rfl rfl HST.out ?_
            simp only [Act.put]
            refine hKc.out _ _ (fun e => absurd rfl e) ?_
            clear hKc Kc
            refine wpAnyL_done (by kernel_rfl) (NoPanic.normal ?_) _
            clear HST
            go_wp2_with fail
            go_roundw
            case rel => exact ⟨k + 1, imgG gk b, (Dk.wr (secN gk gk.fin).toNat (R.encS (imgR gk b (v93 t.f r b)))), ak ++ [imgR gk b (v93 t.f r b)], by congr 1, by omega, by rw [List.length_append, List.length_singleton, hak]; omega, by rw [take_snoc HYK.out, imsT_snoc]; exact HNX, HZ8⟩
            case measure => simp [intOf]; omega
          · obtain rfl : k = ys.length := by omega
            rw [List.take_length] at HNK HFK
            have hmo : moreS gk = 0 := HNK.out.more (by omega)
            have HFI : Hid (gk.fin = ak.length) := HNK.out.wt.fin
            have hws := HNK.out.ws
            have HNC : Hid (Nt c (comG gk) (Dk.wr (secN gk gk.fin).toNat (R.encS (comR gk))) (ak ++ [comR gk]) ⟨(tx ++ [(⟨gk.fin, imsT t.f r ys⟩ : TX)]), gk.fin + 1, []⟩ sf) := HNK.out.com hmo
            have HWF : Hid (∀ i ∈ (flat tx ++ imsT t.f r ys), i.v.length = 32) := HNK.out.wf
            go_wp2_with fail
            refine (l_commit (i := 6) ht HFK.out rfl (by omega) hmo).mono ?_
            rintro e w7 ⟨rfl, h7⟩
            have h7' : Fz w0 w7 (ki (.slice q ys.length cap) ys :: XW c M N C L p vc vm al.length sf (flat tx ++ imsT t.f r ys) tx (Dk.wr (secN gk gk.fin).toNat (R.encS (comR gk))) (comG gk) Y) := h7
            have H7 : Hid (Fz w0 w7 (XW c M N C L p vc vm al.length sf (flat tx ++ imsT t.f r ys) tx (Dk.wr (secN gk gk.fin).toNat (R.encS (comR gk))) (comG gk) Y)) := h7'.pop
            clear h7 h7' HFK HNK hmo
            have z0 := mc0 (H7.out.atb (i := 2) rfl).1
            have z1 := mfr (H7.out.atb (i := 2) rfl).1 0
            have k1 : IntKind.i64.wrap ((al.length : Int) + (ys.length : Int)) = (al.length : Int) + (ys.length : Int) := by rw [IntKind.wrap_i64]; omega
            have k2 : IntKind.i64.wrap ((al.length : Int) + (ys.length : Int) + 1) = (al.length : Int) + (ys.length : Int) + 1 := by rw [IntKind.wrap_i64]; omega
            have k3 : IntKind.i64.wrap ((al.length : Int) + (ys.length : Int) + 1 - 1) = (al.length : Int) + (ys.length : Int) := by rw [IntKind.wrap_i64]; omega
            have H8 : Hid (Fz w0 (w7.setCell ⟨M, 0, none⟩ (.int .i64 ((al.length : Int) + (ys.length : Int) + 1))) (XW c M N C L p vc vm ((al.length : Int) + (ys.length : Int) + 1) sf (flat tx ++ imsT t.f r ys) tx (Dk.wr (secN gk gk.fin).toNat (R.encS (comR gk))) (comG gk) Y)) := H7.out.cell (i := 2) rfl 0 _
            clear H7
            go_wp2_with fail
            clear z0 z1
            generalize w7.setCell ⟨M, 0, none⟩ (.int .i64 ((al.length : Int) + (ys.length : Int) + 1)) = w8 at *
            have HFd : Hid (Fz w0 w8.drew (XW c M N C L p vc vm ((al.length : Int) + (ys.length : Int) + 1) sf (flat tx ++ imsT t.f r ys) tx (Dk.wr (secN gk gk.fin).toNat (R.encS (comR gk))) (comG gk) Y)) := H8.out.later (below_drawn 1)
            obtain ⟨v3, wy4, r3, f4⟩ := Fz.addint (i := 0) HFd.out rfl (by rw [List.length_map]; omega) ((al.length : Int) + (ys.length : Int))
            obtain ⟨q3, n3, c3, rfl⟩ := Fz.intslice (i := 0) f4 rfl
            have R3 : Hid (_) := r3
            have hHeld : w8.drew.cell? ⟨M, 2, none⟩ = some vc ∧ w8.drew.cell? ⟨M, 0, none⟩ = some (.int .i64 ((al.length : Int) + (ys.length : Int) + 1)) := ⟨mc2 (HFd.out.atb (i := 2) rfl).1, mc0 (HFd.out.atb (i := 2) rfl).1⟩
            have S3 : Hid ((w8.drew.alloc (.cells #[.int .i64 ((al.length : Int) + (ys.length : Int))] 3)).cell? ⟨M, 2, none⟩ = some vc ∧ (w8.drew.alloc (.cells #[.int .i64 ((al.length : Int) + (ys.length : Int))] 3)).cell? ⟨M, 0, none⟩ = some (.int .i64 ((al.length : Int) + (ys.length : Int) + 1))) := ⟨mc2 ((HFd.out.later (below_alloc _ _)).atb (i := 2) rfl).1, mc0 ((HFd.out.later (below_alloc _ _)).atb (i := 2) rfl).1⟩
            have S4 : Hid (wy4.cell? ⟨M, 2, none⟩ = some vc ∧ wy4.cell? ⟨M, 0, none⟩ = some (.int .i64 ((al.length : Int) + (ys.length : Int) + 1))) := ⟨mc2 (f4.atb (i := 2) rfl).1, mc0 (f4.atb (i := 2) rfl).1⟩
            have F4 : Hid (wy4.frozen? ⟨M, 2, none⟩ = false) := mfr (f4.atb (i := 2) rfl).1 2
            have H9 : Hid (Fz w0 (wy4.setCell ⟨M, 2, none⟩ (.slice q3 n3 c3)) (ki (.slice q3 n3 c3) (tx.map (·.p) ++ [(al.length : Int) + (ys.length : Int)]) :: km vm (mpsS c tx) :: kb M 62 (mcl ((al.length : Int) + (ys.length : Int) + 1) sf (.slice q3 n3 c3) vm) :: kb N 39 (VC (vlsI c (flat tx ++ imsT t.f r ys))) :: kb C 23 (ccells c) :: kw L p (Dk.wr (secN gk gk.fin).toNat (R.encS (comR gk))) (comG gk) :: Y)) := f4.cell (i := 2) rfl 2 (.slice q3 n3 c3)
            clear r3 f4 H8 HFd
            refine wp_region_noPanic ?_
            refine wp_region_last 14 (fun W => W.cell? ⟨M, 2, none⟩ = some vc ∧ W.cell? ⟨M, 0, none⟩ = some (.int .i64 ((al.length : Int) + (ys.length : Int) + 1))) (by kernel_rfl) ?_
            generalize w8.drew = wd at *
            refine tkL 0 hHeld ?_
            refine tkL 1 hHeld ?_
            refine tkL 2 hHeld ?_
            refine tkL 3 hHeld ?_
            refine tklL 4 hHeld (fun _ s => s.1) ?_
            refine tkL 5 hHeld ?_
            refine tkL 6 hHeld ?_
            refine tkL 7 hHeld ?_
            refine tklL 8 hHeld (fun _ s => s.2) ?_
            refine tkL 9 hHeld ?_
            clear hHeld
            refine wpAnyL_ready (rs := [10]) (by kernel_rfl) (by simp) ?_
            refine AllReadyL.cons (by simp; rfl) (fun Kc hKc => ?_) AllReadyL.nil
            refine step_slice_is (by rfl) 40 1 rfl (by rfl) (sliceI_is _ _) ?_
            simp only [Act.put, List.setIfInBounds_toArray, List.set_cons_zero, List.set_cons_succ]
            refine hKc.out _ _ (fun _ => S3.out) ?_
            clear hKc Kc
            refine wpAnyL_ready (rs := [11]) (by kernel_rfl) (by simp) ?_
            refine AllReadyL.cons (by simp; rfl) (fun Kc hKc => ?_) AllReadyL.nil
            refine step_append_is (by rfl) rfl rfl rfl rfl R3.out ?_
            simp only [Act.put, List.setIfInBounds_toArray, List.set_cons_zero, List.set_cons_succ]
            refine hKc.out _ _ (fun _ => S4.out) ?_
            clear hKc Kc
            clear R3 S3
            refine wpAnyL_ready (rs := [12]) (by kernel_rfl) (by simp) ?_
            refine AllReadyL.cons (by simp; rfl) (fun Kc hKc => ?_) AllReadyL.nil
            go_simp
            refine hKc.out _ _ (fun _ => S4.out) ?_
            clear hKc Kc
            refine wpAnyL_ready (rs := [13]) (by kernel_rfl) (by simp) ?_
            refine AllReadyL.cons (by simp; rfl) (fun Kc hKc => ?_) AllReadyL.nil
            go_simp
            refine hKc.out _ _ (fun _ => S4.out) ?_
            clear hKc Kc
            refine wpAnyL_ready (rs := [14]) (by kernel_rfl) (by simp) ?_
            refine AllReadyL.cons (by simp; rfl) (fun Kc hKc => ?_) AllReadyL.nil
            have z0 := S4.out.1
            have z1 := F4.out
            go_simp
            refine hKc.out _ _ (fun e => absurd rfl e) ?_
            clear hKc Kc
            refine wpAnyL_done (by kernel_rfl) (NoPanic.normal ?_) _
            clear z0 z1 S4 F4
            generalize wy4.setCell ⟨M, 2, none⟩ (.slice q3 n3 c3) = w9 at *
            go_wp2_with fail
            have HFd : Hid (Fz w0 w9.drew _) := H9.out.later (below_drawn 1)
            obtain ⟨b2, c2, wy2, v4, wy4, r1, f2, r3, f4⟩ := Fz.addmap (i := 1) (j := 3) HFd.out rfl rfl (vlsI_each HWF.out) (by rw [vlsI_len, HM.out]) (by rw [vlsI_len, HM.out]; omega) (by rw [vlsI_len, HM.out]; omega) (by rw [mpsS_len]; omega)
            obtain ⟨q4, n4, c4, rfl⟩ := Fz.mapslice (i := 1) f4 rfl
            have R1 : Hid (_) := r1
            have R3 : Hid (_) := r3
            have hHeld : w9.drew.cell? ⟨M, 3, none⟩ = some vm := mc3 (HFd.out.atb (i := 2) rfl).1
            have S1 : Hid ((w9.drew.alloc (.cells #[] 39)).cell? ⟨M, 3, none⟩ = some vm) := mc3 ((HFd.out.later (below_alloc _ _)).atb (i := 2) rfl).1
            have S2 : Hid (wy2.cell? ⟨M, 3, none⟩ = some vm) := mc3 (f2.atb (i := 2) rfl).1
            have S3 : Hid ((wy2.alloc (.cells #[.slice (some ⟨b2, 0, none⟩) m c2] 66)).cell? ⟨M, 3, none⟩ = some vm) := mc3 ((f2.later (below_alloc _ _)).atb (i := 2) rfl).1
            have S4 : Hid (wy4.cell? ⟨M, 3, none⟩ = some vm) := mc3 (f4.atb (i := 2) rfl).1
            have F4 : Hid (wy4.frozen? ⟨M, 3, none⟩ = false) := mfr (f4.atb (i := 2) rfl).1 3
            have HN : Hid (Fz w0 (wy4.setCell ⟨M, 3, none⟩ (.slice q4 n4 c4)) (XW c M N C L p (.slice q3 n3 c3) (.slice q4 n4 c4) ((ak ++ [comR gk]).length : Nat) sf (flat (tx ++ [(⟨gk.fin, imsT t.f r ys⟩ : TX)])) (tx ++ [(⟨gk.fin, imsT t.f r ys⟩ : TX)]) (Dk.wr (secN gk gk.fin).toNat (R.encS (comR gk))) (comG gk) Y)) := by
              have hh := f4.cell (i := 2) rfl 3 (.slice q4 n4 c4)
              have e1 : (tx ++ [(⟨gk.fin, imsT t.f r ys⟩ : TX)]).map (·.p) = tx.map (·.p) ++ [(al.length : Int) + (ys.length : Int)] := by
                rw [List.map_append, show gk.fin = (al.length : Int) + (ys.length : Int) by rw [HFI.out]; omega]; rfl
              have e3 : flat (tx ++ [(⟨gk.fin, imsT t.f r ys⟩ : TX)]) = (flat tx ++ imsT t.f r ys) := flat_snoc _ _
              have e4 : (((ak ++ [comR gk]).length : Nat) : Int) = ((al.length : Int) + (ys.length : Int) + 1) := by rw [List.length_append, List.length_singleton]; omega
              show Fz w0 _ (ki _ ((tx ++ [(⟨gk.fin, imsT t.f r ys⟩ : TX)]).map (·.p)) :: km _ (mpsS c (tx ++ [(⟨gk.fin, imsT t.f r ys⟩ : TX)])) :: kb M 62 (mcl (((ak ++ [comR gk]).length : Nat) : Int) sf _ _) :: kb N 39 (VC (vlsI c (flat (tx ++ [(⟨gk.fin, imsT t.f r ys⟩ : TX)])))) :: kb C 23 (ccells c) :: kw L p (Dk.wr (secN gk gk.fin).toNat (R.encS (comR gk))) (comG gk) :: Y)
              rw [e1, mpsS_snoc, e3, e4]
              exact hh
            clear r1 r3 f2 f4 H9 HFd
            refine wp_region_noPanic ?_
            refine wp_region_last 12 (fun W => W.cell? ⟨M, 3, none⟩ = some vm) (by kernel_rfl) ?_
            generalize w9.drew = wd at *
            refine tkL 0 hHeld ?_
            refine tkL 1 hHeld ?_
            refine tkL 2 hHeld ?_
            refine tkL 3 hHeld ?_
            refine tklL 4 hHeld (fun _ s => s) ?_
            refine tkL 6 hHeld ?_
            clear hHeld
            refine wpAnyL_ready (rs := [5]) (by kernel_rfl) (by simp) ?_
            refine AllReadyL.cons (by simp; rfl) (fun Kc hKc => ?_) AllReadyL.nil
            refine step_slice_is (by rfl) 66 0 rfl (by rfl) (slice0_is _) ?_
            simp only [Act.put, List.setIfInBounds_toArray, List.set_cons_zero, List.set_cons_succ]
            refine hKc.out _ _ (fun _ => S1.out) ?_
            clear hKc Kc
            refine wpAnyL_ready (rs := [7]) (by kernel_rfl) (by simp) ?_
            refine AllReadyL.cons (by simp; rfl) (fun Kc hKc => ?_) AllReadyL.nil
            refine step_append_is (by rfl) rfl rfl rfl rfl R1.out ?_
            simp only [Act.put, List.setIfInBounds_toArray, List.set_cons_zero, List.set_cons_succ]
            refine hKc.out _ _ (fun _ => S2.out) ?_
            clear hKc Kc
            refine wpAnyL_ready (rs := [8]) (by kernel_rfl) (by simp) ?_
            refine AllReadyL.cons (by simp; rfl) (fun Kc hKc => ?_) AllReadyL.nil
            refine step_slice_is (by rfl) 60 1 rfl (by rfl) (slice1_is _ _ _ _) ?_
            simp only [Act.put, List.setIfInBounds_toArray, List.set_cons_zero, List.set_cons_succ]
            refine hKc.out _ _ (fun _ => S3.out) ?_
            clear hKc Kc
            refine wpAnyL_ready (rs := [9]) (by kernel_rfl) (by simp) ?_
            refine AllReadyL.cons (by simp; rfl) (fun Kc hKc => ?_) AllReadyL.nil
            refine step_append_is (by rfl) rfl rfl rfl rfl R3.out ?_
            simp only [Act.put, List.setIfInBounds_toArray, List.set_cons_zero, List.set_cons_succ]
            refine hKc.out _ _ (fun _ => S4.out) ?_
            clear hKc Kc
            clear R1 R3 S1 S2 S3
            refine wpAnyL_ready (rs := [10]) (by kernel_rfl) (by simp) ?_
            refine AllReadyL.cons (by simp; rfl) (fun Kc hKc => ?_) AllReadyL.nil
            go_simp
            refine hKc.out _ _ (fun _ => S4.out) ?_
            clear hKc Kc
            refine wpAnyL_ready (rs := [11]) (by kernel_rfl) (by simp) ?_
            refine AllReadyL.cons (by simp; rfl) (fun Kc hKc => ?_) AllReadyL.nil
            go_simp
            refine hKc.out _ _ (fun _ => S4.out) ?_
            clear hKc Kc
            refine wpAnyL_ready (rs := [12]) (by kernel_rfl) (by simp) ?_
            refine AllReadyL.cons (by simp; rfl) (fun Kc hKc => ?_) AllReadyL.nil
            have z0 := S4.out
            have z1 := F4.out
            go_simp
            refine hKc.out _ _ (fun e => absurd rfl e) ?_
            clear hKc Kc
            refine wpAnyL_done (by kernel_rfl) (NoPanic.normal ?_) _
            clear z0 z1 S4 F4
            generalize wy4.setCell ⟨M, 3, none⟩ (.slice q4 n4 c4) = w5 at *
            have t2 := HT1.out.c2 HN.out.below
            obtain ⟨fl, hfl⟩ : ∃ f, t.m = f := ⟨_, rfl⟩
            rw [hfl] at t2
            cases fl
            · clear k1 k2 k3
              go_wp2_with fail
              go_roundw
              case rel => exact ⟨r + 1, _, _, _, _, _, _, _, _, by congr 1, by omega, by omega, by rw [List.length_append, List.length_singleton]; omega, HNC, HN⟩
              case measure => simp [intOf]; omega
            · clear k1 k2 k3
              go_wp2_with fail
              refine (l_flush (i := 5) HN.out rfl (by show (Dk.ws ++ [_]).length ≤ 100000; rw [List.length_append, List.length_singleton]; omega)).mono ?_
              rintro e w6 ⟨rfl, h6⟩
              have z0 := mc0 (h6.atb (i := 2) rfl).1
              have z1 := mfr (h6.atb (i := 2) rfl).1 1
              have z2 := mc1 (h6.atb (i := 2) rfl).1
              have HNC2 : Hid (_) := HNC.out.fls
              have H6 : Hid (Fz w0 (w6.setCell ⟨M, 1, none⟩ (.int .i64 ((al.length : Int) + (ys.length : Int) + 1))) (XW c M N C L p (.slice q3 n3 c3) (.slice q4 n4 c4) ((ak ++ [comR gk]).length : Nat) ((ak ++ [comR gk]).length : Nat) (flat (tx ++ [(⟨gk.fin, imsT t.f r ys⟩ : TX)])) (tx ++ [(⟨gk.fin, imsT t.f r ys⟩ : TX)]) (Dd.fls (Dk.wr (secN gk gk.fin).toNat (R.encS (comR gk)))) (comG gk) Y)) := by
                have e4 : (((ak ++ [comR gk]).length : Nat) : Int) = ((al.length : Int) + (ys.length : Int) + 1) := by rw [List.length_append, List.length_singleton]; omega
                have hh := h6.cell (i := 2) rfl 1 (.int .i64 (((ak ++ [comR gk]).length : Nat) : Int))
                have e5 : w6.setCell ⟨M, 1, none⟩ (.int .i64 ((al.length : Int) + (ys.length : Int) + 1)) = w6.setCell ⟨M, 1, none⟩ (.int .i64 (((ak ++ [comR gk]).length : Nat) : Int)) := by rw [e4]
                rw [e5]
                exact hh
              clear h6 HN
              go_wp2_with fail
              go_roundw
              case rel => exact ⟨r + 1, _, _, _, _, _, _, _, _, by congr 1, by omega, by omega, by rw [List.length_append, List.length_singleton]; omega, HNC2, H6⟩
              case measure => simp [intOf]; omega
    · have hg1 : ¬ ((r : Int) < (tn : Int)) ∨ ((r : Int) < (tn : Int) ∧ ¬ (r : Int) < 40) := by omega
      clear hlt HT
      rcases hg1 with hg1 | ⟨hg0, hg1⟩
      · go_wp2_with fail
        have hb2 : -2 < half.tmod 2 ∧ half.tmod 2 < 2 := ⟨Int.lt_tmod_of_pos _ (by omega), Int.tmod_lt_of_pos _ (by omega)⟩
        have k3 : IntKind.i64.wrap (half.tmod 2) = half.tmod 2 := by rw [IntKind.wrap_i64]; omega
        by_cases hh : half.tmod 2 = 0
        · have hq : (half.tmod 2 == 0) = true := by simp [hh]
          by_cases hrm : (al.length : Int) < c.lc
          · have him : imgS g 0 = 0 := HNT.out.imgok hrm (by omega) (by omega) (by show ((0 : Nat) : Int) < c.mr; omega) (fun k => absurd rfl k)
            have HNT2 : Hid (_) := HNT.out.img (v := v93 99 0 0) him (v93_len _ _ _) (v93_bytes ⟨by omega, by omega⟩ ⟨by omega, by omega⟩ ⟨by omega, by omega⟩)
            have hws := HNT.out.ws
            refine wp_region_noPanic ?_
            refine wp_region_held_drew (S := fun W => Fz w0 W (XW c M N C L p vc vm al.length sf (flat tx) tx D g Y)) (by kernel_rfl) (HF.out.later (below_drawn 1)) (fun hHeld => ?_)
            generalize wr.drew = wt at *
            have HT5 : Hid (Fz w0 wt (XW c M N C L p vc vm al.length sf (flat tx) tx D g Y)) := hHeld
            refine tk 0 hHeld ?_
            refine tk 1 hHeld ?_
            refine tk 2 hHeld ?_
            refine tk 3 hHeld ?_
            refine tk 4 hHeld ?_
            refine tk 5 hHeld ?_
            refine tk 6 hHeld ?_
            refine tkl 7 hHeld (fun _ s => mc0 (s.atb (i := 2) rfl).1) ?_
            refine tk 8 hHeld ?_
            refine tkl 9 hHeld (fun _ s => CAt.c1 (cfc s (i := 4) rfl)) ?_
            refine tk 10 hHeld ?_
            refine tk 11 hHeld ?_
            clear hHeld HF
            refine wpAnyH_done (by kernel_rfl) (NoPanic.normal ?_) _
            have HB9 : Hid (_) := build_v99 wt
            go_wp2_with ((with_reducible refine at_ops ?_); (refine wpList_build_is (vs := [(0, .int .u8 99)]) (by rfl) 39 rfl (by rfl) HB9.out ?_); simp only [Act.put, List.setIfInBounds_toArray, List.set_cons_zero, List.set_cons_succ])
            refine (l_image (i := 5) ht HT5.out rfl (by omega) (v93_len _ _ _) (v93_bytes ⟨by omega, by omega⟩ ⟨by omega, by omega⟩ ⟨by omega, by omega⟩) him).mono ?_
            rintro e w7 ⟨rfl, h7⟩
            have z0 := mc0 (h7.atb (i := 2) rfl).1
            have z1 := mfr (h7.atb (i := 2) rfl).1 0
            have k4 : IntKind.i64.wrap ((al.length : Int) + 1) = (al.length : Int) + 1 := by rw [IntKind.wrap_i64]; omega
            have HN7 : Hid (Fz w0 (w7.setCell ⟨M, 0, none⟩ (.int .i64 ((al.length : Int) + 1))) (XW c M N C L p vc vm (al ++ [imgR g 0 (v93 99 0 0)]).length sf (flat tx) tx (D.wr (secN g g.fin).toNat (R.encS (imgR g 0 (v93 99 0 0)))) (imgG g 0) Y)) := by
              have hh := h7.cell (i := 2) rfl 0 (.int .i64 ((al.length : Int) + 1))
              rw [show (((al ++ [imgR g 0 (v93 99 0 0)]).length : Nat) : Int) = (al.length : Int) + 1 by simp]
              exact hh
            clear h7 HB9 HT5 hh hb2
            go_wp2_with fail
            go_ret
            first | exact ⟨rfl, _, _, _, _, sf, vc, vm, HNT2.out, HN7.out.drop34⟩ | exact ⟨rfl, _, _, _, _, sf, HNT2.out, vc, vm, HN7.out.drop34⟩
          · refine wp_region_noPanic ?_
            refine wp_region_held_drew (S := fun W => Fz w0 W (XW c M N C L p vc vm al.length sf (flat tx) tx D g Y)) (by kernel_rfl) (HF.out.later (below_drawn 1)) (fun hHeld => ?_)
            generalize wr.drew = wt at *
            have HT5 : Hid (Fz w0 wt (XW c M N C L p vc vm al.length sf (flat tx) tx D g Y)) := hHeld
            refine tk 0 hHeld ?_
            refine tk 1 hHeld ?_
            refine tk 2 hHeld ?_
            refine tk 3 hHeld ?_
            refine tk 4 hHeld ?_
            refine tk 5 hHeld ?_
            refine tk 6 hHeld ?_
            refine tkl 7 hHeld (fun _ s => mc0 (s.atb (i := 2) rfl).1) ?_
            refine tk 8 hHeld ?_
            refine tkl 9 hHeld (fun _ s => CAt.c1 (cfc s (i := 4) rfl)) ?_
            refine tk 10 hHeld ?_
            refine tk 11 hHeld ?_
            clear hHeld HF
            refine wpAnyH_done (by kernel_rfl) (NoPanic.normal ?_) _
            go_wp2_with fail
            go_ret
            first | exact ⟨rfl, g, D, al, ⟨tx, fin, []⟩, sf, vc, vm, HNT.out, HT5.out.drop34⟩ | exact ⟨rfl, g, D, al, ⟨tx, fin, []⟩, sf, HNT.out, vc, vm, HT5.out.drop34⟩
        · have hq : (half.tmod 2 == 0) = false := by simp [hh]
          refine wp_region_noPanic ?_
          refine wp_region_held_drew (S := fun W => Fz w0 W (XW c M N C L p vc vm al.length sf (flat tx) tx D g Y)) (by kernel_rfl) (HF.out.later (below_drawn 1)) (fun hHeld => ?_)
          generalize wr.drew = wt at *
          have HT5 : Hid (Fz w0 wt (XW c M N C L p vc vm al.length sf (flat tx) tx D g Y)) := hHeld
          refine tk 0 hHeld ?_
          refine tk 1 hHeld ?_
          refine tk 2 hHeld ?_
          refine tk 3 hHeld ?_
          refine tks 4 hHeld ?_
          refine tks 5 hHeld ?_
          refine tks 6 hHeld ?_
          refine tks 7 hHeld ?_
          refine tks 8 hHeld ?_
          refine tks 9 hHeld ?_
          refine tks 10 hHeld ?_
          refine tk 11 hHeld ?_
          clear hHeld HF
          refine wpAnyH_done (by kernel_rfl) (NoPanic.normal ?_) _
          go_wp2_with fail
          go_ret
          first | exact ⟨rfl, g, D, al, ⟨tx, fin, []⟩, sf, vc, vm, HNT.out, HT5.out.drop34⟩ | exact ⟨rfl, g, D, al, ⟨tx, fin, []⟩, sf, HNT.out, vc, vm, HT5.out.drop34⟩
      · go_wp2_with fail
        have hb2 : -2 < half.tmod 2 ∧ half.tmod 2 < 2 := ⟨Int.lt_tmod_of_pos _ (by omega), Int.tmod_lt_of_pos _ (by omega)⟩
        have k3 : IntKind.i64.wrap (half.tmod 2) = half.tmod 2 := by rw [IntKind.wrap_i64]; omega
        by_cases hh : half.tmod 2 = 0
        · have hq : (half.tmod 2 == 0) = true := by simp [hh]
          by_cases hrm : (al.length : Int) < c.lc
          · have him : imgS g 0 = 0 := HNT.out.imgok hrm (by omega) (by omega) (by show ((0 : Nat) : Int) < c.mr; omega) (fun k => absurd rfl k)
            have HNT2 : Hid (_) := HNT.out.img (v := v93 99 0 0) him (v93_len _ _ _) (v93_bytes ⟨by omega, by omega⟩ ⟨by omega, by omega⟩ ⟨by omega, by omega⟩)
            have hws := HNT.out.ws
            refine wp_region_noPanic ?_
            refine wp_region_held_drew (S := fun W => Fz w0 W (XW c M N C L p vc vm al.length sf (flat tx) tx D g Y)) (by kernel_rfl) (HF.out.later (below_drawn 1)) (fun hHeld => ?_)
            generalize wr.drew = wt at *
            have HT5 : Hid (Fz w0 wt (XW c M N C L p vc vm al.length sf (flat tx) tx D g Y)) := hHeld
            refine tk 0 hHeld ?_
            refine tk 1 hHeld ?_
            refine tk 2 hHeld ?_
            refine tk 3 hHeld ?_
            refine tk 4 hHeld ?_
            refine tk 5 hHeld ?_
            refine tk 6 hHeld ?_
            refine tkl 7 hHeld (fun _ s => mc0 (s.atb (i := 2) rfl).1) ?_
            refine tk 8 hHeld ?_
            refine tkl 9 hHeld (fun _ s => CAt.c1 (cfc s (i := 4) rfl)) ?_
            refine tk 10 hHeld ?_
            refine tk 11 hHeld ?_
            clear hHeld HF
            refine wpAnyH_done (by kernel_rfl) (NoPanic.normal ?_) _
            have HB9 : Hid (_) := build_v99 wt
            go_wp2_with ((with_reducible refine at_ops ?_); (refine wpList_build_is (vs := [(0, .int .u8 99)]) (by rfl) 39 rfl (by rfl) HB9.out ?_); simp only [Act.put, List.setIfInBounds_toArray, List.set_cons_zero, List.set_cons_succ])
            refine (l_image (i := 5) ht HT5.out rfl (by omega) (v93_len _ _ _) (v93_bytes ⟨by omega, by omega⟩ ⟨by omega, by omega⟩ ⟨by omega, by omega⟩) him).mono ?_
            rintro e w7 ⟨rfl, h7⟩
            have z0 := mc0 (h7.atb (i := 2) rfl).1
            have z1 := mfr (h7.atb (i := 2) rfl).1 0
            have k4 : IntKind.i64.wrap ((al.length : Int) + 1) = (al.length : Int) + 1 := by rw [IntKind.wrap_i64]; omega
            have HN7 : Hid (Fz w0 (w7.setCell ⟨M, 0, none⟩ (.int .i64 ((al.length : Int) + 1))) (XW c M N C L p vc vm (al ++ [imgR g 0 (v93 99 0 0)]).length sf (flat tx) tx (D.wr (secN g g.fin).toNat (R.encS (imgR g 0 (v93 99 0 0)))) (imgG g 0) Y)) := by
              have hh := h7.cell (i := 2) rfl 0 (.int .i64 ((al.length : Int) + 1))
              rw [show (((al ++ [imgR g 0 (v93 99 0 0)]).length : Nat) : Int) = (al.length : Int) + 1 by simp]
              exact hh
            clear h7 HB9 HT5 hh hb2
            go_wp2_with fail
            go_ret
            first | exact ⟨rfl, _, _, _, _, sf, vc, vm, HNT2.out, HN7.out.drop34⟩ | exact ⟨rfl, _, _, _, _, sf, HNT2.out, vc, vm, HN7.out.drop34⟩
          · refine wp_region_noPanic ?_
            refine wp_region_held_drew (S := fun W => Fz w0 W (XW c M N C L p vc vm al.length sf (flat tx) tx D g Y)) (by kernel_rfl) (HF.out.later (below_drawn 1)) (fun hHeld => ?_)
            generalize wr.drew = wt at *
            have HT5 : Hid (Fz w0 wt (XW c M N C L p vc vm al.length sf (flat tx) tx D g Y)) := hHeld
            refine tk 0 hHeld ?_
            refine tk 1 hHeld ?_
            refine tk 2 hHeld ?_
            refine tk 3 hHeld ?_
            refine tk 4 hHeld ?_
            refine tk 5 hHeld ?_
            refine tk 6 hHeld ?_
            refine tkl 7 hHeld (fun _ s => mc0 (s.atb (i := 2) rfl).1) ?_
            refine tk 8 hHeld ?_
            refine tkl 9 hHeld (fun _ s => CAt.c1 (cfc s (i := 4) rfl)) ?_
            refine tk 10 hHeld ?_
            refine tk 11 hHeld ?_
            clear hHeld HF
            refine wpAnyH_done (by kernel_rfl) (NoPanic.normal ?_) _
            go_wp2_with fail
            go_ret
            first | exact ⟨rfl, g, D, al, ⟨tx, fin, []⟩, sf, vc, vm, HNT.out, HT5.out.drop34⟩ | exact ⟨rfl, g, D, al, ⟨tx, fin, []⟩, sf, HNT.out, vc, vm, HT5.out.drop34⟩
        · have hq : (half.tmod 2 == 0) = false := by simp [hh]
          refine wp_region_noPanic ?_
          refine wp_region_held_drew (S := fun W => Fz w0 W (XW c M N C L p vc vm al.length sf (flat tx) tx D g Y)) (by kernel_rfl) (HF.out.later (below_drawn 1)) (fun hHeld => ?_)
          generalize wr.drew = wt at *
          have HT5 : Hid (Fz w0 wt (XW c M N C L p vc vm al.length sf (flat tx) tx D g Y)) := hHeld
          refine tk 0 hHeld ?_
          refine tk 1 hHeld ?_
          refine tk 2 hHeld ?_
          refine tk 3 hHeld ?_
          refine tks 4 hHeld ?_
          refine tks 5 hHeld ?_
          refine tks 6 hHeld ?_
          refine tks 7 hHeld ?_
          refine tks 8 hHeld ?_
          refine tks 9 hHeld ?_
          refine tks 10 hHeld ?_
          refine tk 11 hHeld ?_
          clear hHeld HF
          refine wpAnyH_done (by kernel_rfl) (NoPanic.normal ?_) _
          go_wp2_with fail
          go_ret
          first | exact ⟨rfl, g, D, al, ⟨tx, fin, []⟩, sf, vc, vm, HNT.out, HT5.out.drop34⟩ | exact ⟨rfl, g, D, al, ⟨tx, fin, []⟩, sf, HNT.out, vc, vm, HT5.out.drop34⟩
end
end Go.Proofs.YtdadpepfpiimgaaGreatDoor.Q
