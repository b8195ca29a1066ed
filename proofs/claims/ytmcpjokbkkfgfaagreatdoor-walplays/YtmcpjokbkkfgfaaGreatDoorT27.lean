/-
  Layer 9, the document's log: Read.
-/
import Derived.Test.YtmcpjokbkkfgfaaGreatDoorT26
import Derived.Test.YtmcpjokbkkfgfaaGreatDoorT14
import Derived.Test.YtmcpjokbkkfgfaaGreatDoorT16
namespace Go.Proofs.YtmcpjokbkkfgfaaGreatDoor
open Go.RowKit


theorem rread_at {w : World} {S : Nat → Prop} {p n : Nat} {d : List Int} {ws : List Wr} (h : Ref w S p n d ws) (i : Int) (h0 : 0 ≤ i) (h1 : i < n) (hk : ws.length ≤ 100000) (hby : Bytes (newest ws d i.toNat)) : Calls Tryz.prog 55 #[.pointer (some ⟨p, 0, none⟩), .int .i64 i] w fun e w' => ∃ q c, e = .returned (.tuple #[.slice q 64 c, .int .i64 0]) ∧ BIn w' q 64 (newest ws d i.toNat) ∧ Below w.heap.size w w' := by
  have e0 : ((i.toNat : Nat) : Int) = i := by omega
  have := rread_good h i.toNat (by omega) hk
  rw [e0] at this
  refine this.mono ?_
  rintro e w' ⟨v, rfl, hown, hb⟩
  obtain ⟨q, c, rfl, hr, hc, _⟩ := own_in hown hby
  exact ⟨q, c, rfl, hr, hb⟩
set_option maxHeartbeats 2000000 in
set_option maxRecDepth 100000 in
theorem rlread_at {w : World} {S : Nat → Prop} {L p : Nat} {d : List Int} {ws : List Wr} {g : Lg} {b : Int} (h : RL w S L p d ws g b) (hkk : ws.length ≤ 100000) (hNb : ∀ i, Bytes (newest ws d i)) (x : Int) (hx : 0 ≤ x) :
    Calls Tryz.prog 27 #[.pointer (some ⟨L, 0, none⟩), .int .u64 x] w fun e w' => e = .returned (.tuple #[.agg (R.rcells (rdS g (newest ws d) x).1).toArray, .int .i64 (rdS g (newest ws d) x).2]) ∧ Below w.heap.size w w' := by
  obtain ⟨w0, hw0⟩ : ∃ x, x = w.alloc (.cells (R.rcells R.rec0).toArray 87) := ⟨_, rfl⟩
  have A1 : Hid (_) := R.alloc37 w
  rw [← hw0] at A1
  have B0 : Hid (Below w.heap.size w w0) := by rw [hw0]; exact below_alloc w _
  have V0 : Hid (R.RAt 87 w0 w.heap.size R.rec0) := by rw [hw0]; exact R.RAt.new 87 w _
  have HG0 : Hid (RL w0 S L p d ws g b) := h.later B0.out
  have c7 := HAt.c7 HG0.out.log
  have c8 := HAt.c8 HG0.out.log
  have c0 := HAt.c0 HG0.out.log
  clear hw0 h
  go_enter Tryz.func27, Tryz.ntmps27
  by_cases ho : Outr g x
  · have HR : Hid (rdS g (newest ws d) x = (R.rec0, 30)) := rdS_out _ ho
    have U1 : Hid (_) := R.build37 w0 #[] R.rec0 R.fill_none
    have T1 : Hid (_) := R.RAt.store R.size37 (s := R.rec0) V0.out R.rec0_len R.rec0_len
    have F1 : Hid (R.RAt 87 (w0.setRow w.heap.size (R.rcells R.rec0).toArray) w.heap.size R.rec0) := R.RAt.stored V0.out _
    have G1 : Hid (Below w.heap.size w (w0.setRow w.heap.size (R.rcells R.rec0).toArray)) := below_setRow B0.out (Nat.le_refl _) _
    by_cases h1 : x < g.tail
    · clear ho
      go_wp2_with ((with_reducible refine at_ops ?_); (first | (refine wpList_alloc_is (by rfl) 87 rfl A1.out ?_) | (refine wpList_build_is (vs := []) (by rfl) 87 rfl (by rfl) U1.out ?_) | (refine wpList_store_is (by rfl) 87 rfl rfl rfl T1.out ?_)); simp only [Act.put, List.setIfInBounds_toArray, List.set_cons_zero, List.set_cons_succ])
      rw [HR.out]
      exact bodyPost_ret (R.results_rec Tryz.results27 _ _ w.heap.size 87 _ _ (by rfl) F1.out R.rec0_len Tryz.underlying87 rfl R.size37) rfl ⟨rfl, G1.out⟩
    · have h2 : g.fin ≤ x := by rcases ho with h | h <;> omega
      clear ho
      go_wp2_with ((with_reducible refine at_ops ?_); (first | (refine wpList_alloc_is (by rfl) 87 rfl A1.out ?_) | (refine wpList_build_is (vs := []) (by rfl) 87 rfl (by rfl) U1.out ?_) | (refine wpList_store_is (by rfl) 87 rfl rfl rfl T1.out ?_)); simp only [Act.put, List.setIfInBounds_toArray, List.set_cons_zero, List.set_cons_succ])
      rw [HR.out]
      exact bodyPost_ret (R.results_rec Tryz.results27 _ _ w.heap.size 87 _ _ (by rfl) F1.out R.rec0_len Tryz.underlying87 rfl R.size37) rfl ⟨rfl, G1.out⟩
  · have h1 : ¬ x < g.tail := fun h => ho (.inl h)
    have h2 : ¬ g.fin ≤ x := fun h => ho (.inr h)
    have HO : Hid (¬ Outr g x) := ho
    have hxM : x ≤ 4611686018427387904 := by have := HG0.out.ok.fM; omega
    clear ho
    go_wp2_with ((with_reducible refine at_ops ?_); (refine wpList_alloc_is (by rfl) 87 rfl A1.out ?_); simp only [Act.put, List.setIfInBounds_toArray, List.set_cons_zero, List.set_cons_succ])
    clear c0 c7 c8
    refine wp_region_noPanic ?_
    refine wp_region_held_drew (S := fun w' => Below w0.heap.size w0 w') (by kernel_rfl) (below_drawn 1) (fun hHeld => ?_)
    have D1 : Hid (Below w0.heap.size w0 w0.drew) := hHeld
    generalize w0.drew = wd at *
    refine wpAnyH_take (i := 0) (v := ?va1) (by simp; rfl) (by kernel_rfl) (by kernel_rfl) (by kernel_rfl) (fun _ _ _ h => h) (Or.inl ⟨by rfl, ?ya1⟩) hHeld ?ra1
    case ya1 => intro w hSw; clear hSw; go_simp; with_reducible rfl
    simp only [Act.put, List.setIfInBounds_toArray, List.set_cons_zero, List.set_cons_succ]
    refine wpAnyH_take (i := 1) (v := ?va2) (by simp; rfl) (by kernel_rfl) (by kernel_rfl) (by kernel_rfl) (fun _ _ _ h => h) (Or.inl ⟨by rfl, ?ya2⟩) hHeld ?ra2
    case ya2 => intro w hSw; clear hSw; go_simp; with_reducible rfl
    simp only [Act.put, List.setIfInBounds_toArray, List.set_cons_zero, List.set_cons_succ]
    refine wpAnyH_take (i := 2) (v := ?va3) (by simp; rfl) (by kernel_rfl) (by kernel_rfl) (by kernel_rfl) (fun _ _ _ h => h) (Or.inl ⟨by rfl, ?ya3⟩) hHeld ?ra3
    case ya3 => intro w hSw; clear hSw; go_simp; with_reducible rfl
    simp only [Act.put, List.setIfInBounds_toArray, List.set_cons_zero, List.set_cons_succ]
    refine wpAnyH_take (i := 3) (v := ?va4) (by simp; rfl) (by kernel_rfl) (by kernel_rfl) (by kernel_rfl) (fun _ _ _ h => h) (Or.inl ⟨by rfl, ?ya4⟩) hHeld ?ra4
    case ya4 => intro w hSw; have z := HAt.c0 (LAt.later HG0.out.log hSw); clear hSw; go_simp; with_reducible rfl
    simp only [Act.put, List.setIfInBounds_toArray, List.set_cons_zero, List.set_cons_succ]
    refine wpAnyH_take (i := 4) (v := ?va5) (by simp; rfl) (by kernel_rfl) (by kernel_rfl) (by kernel_rfl) (fun _ _ _ h => h) (Or.inl ⟨by rfl, ?ya5⟩) hHeld ?ra5
    case ya5 => intro w hSw; clear hSw; go_simp; with_reducible rfl
    simp only [Act.put, List.setIfInBounds_toArray, List.set_cons_zero, List.set_cons_succ]
    refine wpAnyH_take (i := 5) (v := ?va6) (by simp; rfl) (by kernel_rfl) (by kernel_rfl) (by kernel_rfl) (fun _ _ _ h => h) (Or.inl ⟨by rfl, ?ya6⟩) hHeld ?ra6
    case ya6 => intro w hSw; clear hSw; go_simp; with_reducible rfl
    simp only [Act.put, List.setIfInBounds_toArray, List.set_cons_zero, List.set_cons_succ]
    refine wpAnyH_ready (rs := [6]) (by kernel_rfl) (by simp) ?_
    refine AllReadyH.cons (by simp; rfl) (fun Kc hKc => ?_) AllReadyH.nil
    go_simp
    refine (rsector_at (LAt.later HG0.out.log D1.out) HG0.out.ok x hx).mono ?_
    rintro e wn ⟨rfl, bn⟩
    have DN : Hid (Below wd.heap.size wd wn) := bn
    refine hKc.out _ _ (below_then D1.out bn) (fun hHeld => ?_)
    clear hKc Kc bn
    refine wpAnyH_ready (rs := [7]) (by kernel_rfl) (by simp) ?_
    refine AllReadyH.cons (by simp; rfl) (fun Kc hKc => ?_) AllReadyH.nil
    go_simp
    refine (rread_at ((HG0.out.later D1.out).later DN.out).dsk (secN g x) (secN_in HG0.out.ok _).1 (secN_in HG0.out.ok _).2 hkk (hNb _)).mono ?_
    rintro e w2 ⟨q2, c2, rfl, x2, b2⟩
    have X2 : Hid (BIn w2 q2 64 (newest ws d (secN g x).toNat)) := x2
    have X2b : Hid (Below wn.heap.size wn w2) := b2
    have B2 : Hid (Below w.heap.size w w2) := below_then (below_then (below_then B0.out D1.out) DN.out) b2
    refine hKc.out _ _ (below_then (below_then D1.out DN.out) b2) (fun hHeld => ?_)
    clear hKc Kc x2 b2
    refine wpAnyH_take (i := 8) (v := ?va7) (by simp; rfl) (by kernel_rfl) (by kernel_rfl) (by kernel_rfl) (fun _ _ _ h => h) (Or.inl ⟨by rfl, ?ya7⟩) hHeld ?ra7
    case ya7 => intro w hSw; clear hSw; go_simp; with_reducible rfl
    simp only [Act.put, List.setIfInBounds_toArray, List.set_cons_zero, List.set_cons_succ]
    refine wpAnyH_take (i := 9) (v := ?va8) (by simp; rfl) (by kernel_rfl) (by kernel_rfl) (by kernel_rfl) (fun _ _ _ h => h) (Or.inl ⟨by rfl, ?ya8⟩) hHeld ?ra8
    case ya8 => intro w hSw; clear hSw; go_simp; with_reducible rfl
    simp only [Act.put, List.setIfInBounds_toArray, List.set_cons_zero, List.set_cons_succ]
    refine wpAnyH_take (i := 10) (v := ?va9) (by simp; rfl) (by kernel_rfl) (by kernel_rfl) (by kernel_rfl) (fun _ _ _ h => h) (Or.inl ⟨by rfl, ?ya9⟩) hHeld ?ra9
    case ya9 => intro w hSw; clear hSw; go_simp; with_reducible rfl
    simp only [Act.put, List.setIfInBounds_toArray, List.set_cons_zero, List.set_cons_succ]
    refine wpAnyH_take (i := 11) (v := ?va10) (by simp; rfl) (by kernel_rfl) (by kernel_rfl) (by kernel_rfl) (fun _ _ _ h => h) (Or.inl ⟨by rfl, ?ya10⟩) hHeld ?ra10
    case ya10 => intro w hSw; clear hSw; go_simp; with_reducible rfl
    simp only [Act.put, List.setIfInBounds_toArray, List.set_cons_zero, List.set_cons_succ]
    refine wpAnyH_take (i := 12) (v := ?va11) (by simp; rfl) (by kernel_rfl) (by kernel_rfl) (by kernel_rfl) (fun _ _ _ h => h) (Or.inl ⟨by rfl, ?ya11⟩) hHeld ?ra11
    case ya11 => intro w hSw; clear hSw; go_simp; with_reducible rfl
    simp only [Act.put, List.setIfInBounds_toArray, List.set_cons_zero, List.set_cons_succ]
    clear hHeld
    refine wpAnyH_done (by kernel_rfl) (NoPanic.normal ?_) _
    go_wp2_with fail
    refine (R.refDecode_any q2 64 c2 _ w2 X2.out).mono ?_
    rintro e w3 ⟨rfl, b3⟩
    have B3 : Hid (Below w.heap.size w w3) := below_then B2.out b3
    have V3 : Hid (R.RAt 87 w3 w.heap.size R.rec0) := R.RAt.below V0.out (below_then (below_then (below_then D1.out DN.out) X2b.out) b3) (by have := R.RAt.lt V0.out; omega)
    have HW : Hid ((R.decS (newest ws d (secN g x).toNat)).1.Wf) := R.decS_wf _ X2.out.byte
    have HRE : Hid (∀ z, R.decS (newest ws d (secN g x).toNat) = z → (¬ z.2 = 0 → rdS g (newest ws d) x = (R.rec0, z.2)) ∧ (z.2 = 0 → ¬ z.1.pos = x → rdS g (newest ws d) x = (R.rec0, 60)) ∧ (z.2 = 0 → z.1.pos = x → rdS g (newest ws d) x = (z.1, 0))) := by
      rintro z rfl
      exact ⟨fun a => rdS_err HO.out a, fun a b => rdS_other HO.out a b, fun a b => rdS_ok HO.out a b⟩
    clear b3 X2 X2b B2 D1 DN V0 A1 HG0
    obtain ⟨⟨r, k⟩, hz⟩ : ∃ z, R.decS (newest ws d (secN g x).toNat) = z := ⟨_, rfl⟩
    have HZ : Hid (_) := HRE.out _ hz
    rw [hz] at HW ⊢
    clear hz HRE
    obtain ⟨w4, hw4⟩ : ∃ y, y = w3.alloc (.cells (R.rcells r).toArray 87) := ⟨_, rfl⟩
    have A4 : Hid (_) := R.alloc37 w3
    have T4 : Hid (_) := R.store_new R.size37 w3 r HW.out.len
    rw [← hw4] at T4
    have B34 : Hid (Below w3.heap.size w3 w4) := by rw [hw4]; exact below_alloc w3 _
    have B4 : Hid (Below w.heap.size w w4) := below_then B3.out B34.out
    have V4 : Hid (R.RAt 87 w4 w.heap.size R.rec0) := R.RAt.later V3.out B34.out
    have R4 : Hid (R.RAt 87 w4 w3.heap.size r) := by rw [hw4]; exact R.RAt.new 87 w3 r
    have hne : w.heap.size < w3.heap.size := R.RAt.lt V3.out
    clear hw4 B34 V3 B3
    have U4 : Hid (_) := R.build37 w4 #[] R.rec0 R.fill_none
    have T5 : Hid (_) := R.RAt.store R.size37 (s := R.rec0) V4.out R.rec0_len R.rec0_len
    have F5 : Hid (R.RAt 87 (w4.setRow w.heap.size (R.rcells R.rec0).toArray) w.heap.size R.rec0) := R.RAt.stored V4.out _
    have G5 : Hid (Below w.heap.size w (w4.setRow w.heap.size (R.rcells R.rec0).toArray)) := below_setRow B4.out (Nat.le_refl _) _
    by_cases hk : k = 0
    · subst hk
      have c1 := R.RAt.c1 R4.out
      by_cases hp : r.pos = x
      · have HR : Hid (_) := HZ.out.2.2 rfl hp
        have L6 : Hid (_) := R.RAt.load37 R4.out HW.out.len
        have T6 : Hid (_) := R.RAt.store R.size37 (s := r) V4.out R.rec0_len HW.out.len
        have F6 : Hid (R.RAt 87 (w4.setRow w.heap.size (R.rcells r).toArray) w.heap.size r) := R.RAt.stored V4.out _
        have G6 : Hid (Below w.heap.size w (w4.setRow w.heap.size (R.rcells r).toArray)) := below_setRow B4.out (Nat.le_refl _) _
        clear HZ T5 F5 G5 U4
        go_wp2_with ((with_reducible refine at_ops ?_); (first | (refine wpList_alloc_is (by rfl) 87 rfl A4.out ?_) | (refine wpList_load_is (by rfl) 87 rfl rfl L6.out ?_) | (refine wpList_store_is (by rfl) 87 rfl rfl rfl T4.out ?_) | (refine wpList_store_is (by rfl) 87 rfl rfl rfl T6.out ?_)); simp only [Act.put, List.setIfInBounds_toArray, List.set_cons_zero, List.set_cons_succ])
        rw [HR.out]
        exact bodyPost_ret (R.results_rec Tryz.results27 _ _ w.heap.size 87 _ _ (by rfl) F6.out HW.out.len Tryz.underlying87 rfl R.size37) rfl ⟨rfl, G6.out⟩
      · have HR : Hid (_) := HZ.out.2.1 rfl hp
        have hq : (r.pos != x) = true := by simp [hp]
        clear HZ
        go_wp2_with ((with_reducible refine at_ops ?_); (first | (refine wpList_alloc_is (by rfl) 87 rfl A4.out ?_) | (refine wpList_store_is (by rfl) 87 rfl rfl rfl T4.out ?_) | (refine wpList_build_is (vs := []) (by rfl) 87 rfl (by rfl) U4.out ?_) | (refine wpList_store_is (by rfl) 87 rfl rfl rfl T5.out ?_)); simp only [Act.put, List.setIfInBounds_toArray, List.set_cons_zero, List.set_cons_succ])
        rw [HR.out]
        exact bodyPost_ret (R.results_rec Tryz.results27 _ _ w.heap.size 87 _ _ (by rfl) F5.out R.rec0_len Tryz.underlying87 rfl R.size37) rfl ⟨rfl, G5.out⟩
    · have HR : Hid (_) := HZ.out.1 hk
      have hq : (k != 0) = true := by simp [hk]
      have hq0 : (k == 0) = false := by simp [hk]
      clear HZ
      go_wp2_with ((with_reducible refine at_ops ?_); (first | (refine wpList_alloc_is (by rfl) 87 rfl A4.out ?_) | (refine wpList_store_is (by rfl) 87 rfl rfl rfl T4.out ?_) | (refine wpList_build_is (vs := []) (by rfl) 87 rfl (by rfl) U4.out ?_) | (refine wpList_store_is (by rfl) 87 rfl rfl rfl T5.out ?_)); simp only [Act.put, List.setIfInBounds_toArray, List.set_cons_zero, List.set_cons_succ])
      rw [HR.out]
      exact bodyPost_ret (R.results_rec Tryz.results27 _ _ w.heap.size 87 _ _ (by rfl) F5.out R.rec0_len Tryz.underlying87 rfl R.size37) rfl ⟨rfl, G5.out⟩
end Go.Proofs.YtmcpjokbkkfgfaaGreatDoor

/-
  Layer 9, the document's log: All.
-/
namespace Go.Proofs.YtmcpjokbkkfgfaaGreatDoor
open Go.RowKit


section
variable {P : Program} {ops : Array Oper} {rest : List Oper} {o : Oper} {a : Act} {w w' : World} {Q : Exit → Act → World → Prop}
theorem wpList_slice_is (hgd : Region.wanted o (yielded ops a.tmps) = true) (ty : TypeId) {x : Operand} (ho : o.op = .buildSlice ty 1 #[(0, x)]) {u v : Value} (hx : a.eval x = u) (hrun : (Instr.buildSlice ty 1 #[(0, u)]).run P w = .ok v w') (h : wpList P ops Q rest (a.put o.dst v) w') : wpList P ops Q (o :: rest) a w :=
  wpList_val hgd (by
    have e : (#[(0, x)] : Array (Nat × Operand)).map (fun (i, y) => (i, a.eval y)) = #[(0, u)] := by simp [hx]
    unfold execOp; simp only [ho]; rw [e]; simp only [Sem.run_bind, hrun, Result.andThen_ok, Sem.run_pure]) h
end
theorem allR_stop {rd : Int → R.Rec × Int} {p : Int} (k : Nat) (h : ¬ (rd p).2 = 0) : allR rd p k = [] := by
  cases k with
  | zero => rfl
  | succ k => unfold allR; rw [if_neg h]
theorem allR_go {rd : Int → R.Rec × Int} {p : Int} (k : Nat) (h : (rd p).2 = 0) : allR rd p (k + 1) = (rd p).1 :: allR rd (p + 1) k := by rw [allR, if_pos h]
theorem rdS_len {g : Lg} {ws : List Wr} {d : List Int} (hNb : ∀ i, Bytes (newest ws d i)) (p : Int) : (rdS g (newest ws d) p).1.val.length = 32 := (rdS_wf (hNb _)).len
set_option maxHeartbeats 2000000 in
set_option maxRecDepth 100000 in
theorem rlall_at {w : World} {S : Nat → Prop} {L p : Nat} {d : List Int} {ws : List Wr} {g : Lg} {b : Int} (h : RL w S L p d ws g b) (hkk : ws.length ≤ 100000) (hNb : ∀ i, Bytes (newest ws d i)) :
    Calls Tryz.prog 29 #[.pointer (some ⟨L, 0, none⟩)] w fun e w' => ∃ v, e = .returned v ∧ w'.ownsRow w.heap.size 87 36 v (allS g (newest ws d)).length (RC (allS g (newest ws d))) ∧ Below w.heap.size w w' := by
  obtain ⟨i0, hi, hz0, hz1, hz2⟩ := info_parts infoRR
  have HG : Hid (RL w S L p d ws g b) := h
  have HN : Hid (∀ i, Bytes (newest ws d i)) := hNb
  have hn : 0 ≤ g.tail ∧ g.tail ≤ g.fin ∧ g.fin - g.tail ≤ 64 ∧ g.fin ≤ 4611686018427387904 := by have := h.ok.t0; have := h.ok.tm; have := h.ok.mf; have := h.ok.us; have := h.ok.cf.2.1; have := h.ok.fM; omega
  obtain ⟨hn0, hn1, hn2, hn3⟩ := hn
  have HA : Hid (allS g (newest ws d) = allR (rdS g (newest ws d)) g.tail (g.fin - g.tail).toNat) := rfl
  have c7 := HAt.c7 h.log
  clear h hNb
  go_enter Tryz.func29, Tryz.ntmps29
  go_wp2
  go_loopw [3, 4] (fun v x wr => ∃ (k : Nat) (acc : List R.Rec), (k : Int) ≤ g.fin - g.tail ∧ acc.length = k ∧ x = .int .u64 (g.tail + k) ∧ Hid (allS g (newest ws d) = acc ++ allR (rdS g (newest ws d)) (g.tail + k) ((g.fin - g.tail).toNat - k)) ∧ Hid (wr.ownsRow w.heap.size 87 36 v k (RC acc)) ∧ Hid (Below w.heap.size w wr)) (fun _ x _ => (g.fin - intOf x).toNat)
  case atStart => exact ⟨0, [], by omega, rfl, by simp, by show _ = _; rw [HA.out]; simp, World.ownsRow_nil _ _ _ _, Below.refl _ _⟩
  case round =>
    clear c7
    obtain ⟨k, acc, hk, hal, rfl, HE, HO, HB⟩ := hrel
    obtain ⟨q, cap, rfl, -, -⟩ := own_slice HO.out
    have HAL : Hid (acc.length = k) := hal
    have HGr : Hid (RL wr S L p d ws g b) := HG.out.later HB.out
    have c8 := HAt.c8 HGr.out.log
    clear hal
    by_cases hlt : g.tail + (k : Int) < g.fin
    · go_wp2_with fail
      refine (rlread_at HGr.out hkk HN.out (g.tail + k) (by omega)).mono ?_
      rintro e w1 ⟨rfl, b1⟩
      have HV : Hid ((rdS g (newest ws d) (g.tail + k)).1.val.length = 32) := rdS_len HN.out _
      have HZ : Hid (∀ z, rdS g (newest ws d) (g.tail + k) = z → (¬ z.2 = 0 → allS g (newest ws d) = acc) ∧ (z.2 = 0 → allS g (newest ws d) = (acc ++ [z.1]) ++ allR (rdS g (newest ws d)) (g.tail + ((k + 1 : Nat) : Int)) ((g.fin - g.tail).toNat - (k + 1)))) := by
        rintro z rfl
        refine ⟨fun hne => ?_, fun h0 => ?_⟩
        · rw [HE.out, allR_stop _ hne]; simp
        · rw [HE.out, show (g.fin - g.tail).toNat - k = ((g.fin - g.tail).toNat - (k + 1)) + 1 by omega, allR_go _ h0]
          rw [show g.tail + ((k + 1 : Nat) : Int) = g.tail + k + 1 by omega]
          simp
      have B1 : Hid (Below w.heap.size w w1) := below_then HB.out b1
      have O1 : Hid (w1.ownsRow w.heap.size 87 36 (.slice q k cap) k (RC acc)) := own_later HO.out b1
      obtain ⟨⟨r, z⟩, hz⟩ : ∃ z, rdS g (newest ws d) (g.tail + k) = z := ⟨_, rfl⟩
      have HY : Hid (_) := HZ.out _ hz
      rw [hz] at HV ⊢
      clear hz HZ b1 HE HB HO HGr c8
      obtain ⟨w4, hw4⟩ : ∃ y, y = w1.alloc (.cells (R.rcells r).toArray 87) := ⟨_, rfl⟩
      have A4 : Hid (_) := R.alloc37 w1
      have T4 : Hid (_) := R.store_new R.size37 w1 r HV.out
      rw [← hw4] at T4
      have B14 : Hid (Below w1.heap.size w1 w4) := by rw [hw4]; exact below_alloc w1 _
      have R4 : Hid (R.RAt 87 w4 w1.heap.size r) := by rw [hw4]; exact R.RAt.new 87 w1 r
      have B4 : Hid (Below w.heap.size w w4) := below_then B1.out B14.out
      have O4 : Hid (w4.ownsRow w.heap.size 87 36 (.slice q k cap) k (RC acc)) := own_later O1.out B14.out
      clear hw4 B1 O1 B14
      by_cases hz0' : z = 0
      · subst hz0'
        have HY2 : Hid (_) := HY.out.2 rfl
        have L4 : Hid (_) := R.RAt.load37 R4.out HV.out
        have S4 : Hid (_) := build_one w4 r HV.out
        have h65 : (100000 : Nat) ≤ maxLen := by decide
        have hs4 := B4.out.size
        have k9 : IntKind.u64.wrap (g.tail + (k : Int) + 1) = g.tail + (k : Int) + 1 := G.wrap_u (by omega) (by omega)
        clear HY
        go_wp2_with (first | (at_builtin; refine wpList_append_lies _ rfl (.tmp 28) (.tmp 30) 68 rfl w.heap.size 87 i0 _ 36 64 Tryz.underlying68 hi hz0 hz1 hz2 rfl (by omega) _ k (RC acc) rfl (O4.out.alloc _) ⟨_, 0, none⟩ 1 1 (R.rcells r) rfl (R.rcells_len _ HV.out) (cells_new _ _ _) (R.rcells_ones _) (by omega) (by omega) (by omega) (by simp; omega) _ rfl ?_) | ((with_reducible refine at_ops ?_); (first | (refine wpList_alloc_is (by rfl) 87 rfl A4.out ?_) | (refine wpList_store_is (by rfl) 87 rfl rfl rfl T4.out ?_) | (refine wpList_load_is (by rfl) 87 rfl rfl L4.out ?_) | (refine wpList_slice_is (u := .agg (R.rcells r).toArray) (by rfl) 68 rfl rfl S4.out ?_)); simp only [Act.put, List.setIfInBounds_toArray, List.set_cons_zero, List.set_cons_succ]))
        intro g2 cap2 w5 hown hgrow _ _
        have O5 : Hid (w5.ownsRow w.heap.size 87 36 (.slice (some ⟨g2, 0, none⟩) (k + 1) cap2) (k + 1) (RC (acc ++ [r]))) := by
          show _
          rw [RC_snoc]
          exact hown
        have B5 : Hid (Below w.heap.size w w5) := (B4.out.alloc B4.out.size _).grown hgrow (by simp; omega) (fun k hk => (O4.out.lt k hk).1)
        clear hown hgrow L4 S4 O4 B4 A4 T4 R4
        go_wp2
        go_roundw
        case rel => exact ⟨k + 1, acc ++ [r], by omega, by rw [List.length_append, HAL.out]; rfl, by go_num, HY2, O5, B5⟩
        case measure => simp [intOf]; omega
      · have HY1 : Hid (_) := HY.out.1 hz0'
        have hq : (z != 0) = true := by simp [hz0']
        clear HY
        go_wp2_with ((with_reducible refine at_ops ?_); (first | (refine wpList_alloc_is (by rfl) 87 rfl A4.out ?_) | (refine wpList_store_is (by rfl) 87 rfl rfl rfl T4.out ?_)); simp only [Act.put, List.setIfInBounds_toArray, List.set_cons_zero, List.set_cons_succ])
        go_ret
        refine ⟨_, rfl, ?_, B4.out⟩
        rw [HY1.out, HAL.out]
        exact O4.out
    · have hke : (k : Int) = g.fin - g.tail := by omega
      have HY1 : Hid (allS g (newest ws d) = acc) := by
        show _ = _
        rw [HE.out, show (g.fin - g.tail).toNat - k = 0 by omega]
        simp [allR]
      go_wp2_with fail
      go_ret
      refine ⟨_, rfl, ?_, HB.out⟩
      rw [HY1.out, HAL.out]
      exact HO.out
end Go.Proofs.YtmcpjokbkkfgfaaGreatDoor
