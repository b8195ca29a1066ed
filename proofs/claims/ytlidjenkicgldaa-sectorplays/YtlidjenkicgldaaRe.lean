/-
  The document's own disk: Flush, Copy.
-/
import Derived.Test.YtlidjenkicgldaaRd
import Derived.Test.YtlidjenkicgldaaQb
namespace Go.Proofs.Ytlidjenkicgldaa
open Go.RowKit

def rng (k : Nat) : List Int := (List.range k).map fun (i : Nat) => (i : Int)
theorem rng_succ (k : Nat) : rng (k + 1) = rng k ++ [(k : Int)] := by simp [rng, List.range_succ]
theorem rng_length (k : Nat) : (rng k).length = k := by simp [rng]
theorem rng_mem (n j : Nat) (h : j < n) : keepsK (rng n) j = true := by
  simp only [keepsK, decide_eq_true_eq, rng, List.mem_map, List.mem_range]
  exact ⟨j, h, rfl⟩

set_option maxHeartbeats 2000000 in
theorem rflush_any {w : World} {S : Nat → Prop} {p n : Nat} {d : List Int} {ws : List Wr} (h : Ref w S p n d ws) (hk : ws.length ≤ 1000) (hS : ∀ k, S k → k < w.heap.size) :
    Calls Try.prog 38 #[.pointer (some ⟨p, 0, none⟩)] w fun e w' => e = .returned (.int .i64 ws.length) ∧ Ref w' S p n (settle (fun _ => true) ws d) [] ∧ Kept S w w' := by
  obtain ⟨i0, hi0, hz0, hz1, hz2⟩ := info_parts info3
  have HH : Hid (Ref w S p n d ws) := h
  clear h
  go_enter Try.func38, Try.ntmps38
  go_wp2
  go_loopw [3, 4] (fun v i wr => ∃ k : Nat, k ≤ ws.length ∧ i = .int .i64 k ∧ Hid (wr.ownsRow w.heap.size 3 1 v k (I64 (rng k)) ∧ Below w.heap.size w wr)) (fun _ i _ => ws.length - (intOf i).toNat)
  case atStart => exact ⟨0, by omega, rfl, World.ownsRow_nil _ _ _ _, Below.refl _ _⟩
  case round =>
    obtain ⟨k, hkl, rfl, HQ⟩ := hrel
    obtain ⟨g, L, cap, v, vs, h1⟩ := HH.out.later HQ.out.2
    have s1 := h1.cell1
    obtain ⟨pw, cw, rfl, _⟩ := own_slice h1.wr
    clear h1
    by_cases hkJ : k < ws.length
    · obtain ⟨pv, cv, rfl, _⟩ := own_slice HQ.out.1
      have hsz := HQ.out.2.size
      go_wp2_with (at_builtin; refine wpList_append_own _ rfl (.tmp 14) (.tmp 16) 36 rfl w.heap.size 3 i0 (.int .i64 0) 1 8 Try.underlying36 hi0 hz0 hz1 hz2 rfl (by omega) _ k (I64 (rng k)) rfl (HQ.out.1.alloc _) ⟨wr.heap.size, 0, none⟩ 1 1 [.int .i64 (k : Int)] rfl rfl (cell_one_new _ _ _) (by simp [Value.oneCell']) (by unfold maxLen; omega) (by omega) (by simp; omega) ?_; intro v' w5 hown hgrow _; have HU : Hid (w5.ownsRow w.heap.size 3 1 v' (k + 1) (I64 (rng (k + 1))) ∧ Below w.heap.size w w5) := ⟨by rw [rng_succ, show I64 (rng k ++ [(k : Int)]) = I64 (rng k) ++ [.int .i64 (k : Int)] by simp [I64]]; exact hown, (HQ.out.2.alloc HQ.out.2.size _).grown hgrow (by simp; omega) (fun j hj => (HQ.out.1.lt j hj).1)⟩; clear hown hgrow)
      go_roundw
      case rel => exact ⟨k + 1, by omega, by go_num, HU⟩
      case measure => simp [intOf]; omega
    · obtain rfl : k = ws.length := by omega
      obtain ⟨ap, ac, rfl, iall, _, _, hab⟩ := ints_in HQ.out.1
      have hb := HQ.out.2
      go_wp2_with fail
      refine (rcrash_any (HH.out.later hb) hk ap ws.length ac (rng ws.length) iall (fun b e _ s => by have := hab b e; have := hS _ s; omega) (by omega)).mono ?_
      rintro e w1 ⟨rfl, hd, hkp⟩
      have eF : settle (keepsK (rng ws.length)) ws d = settle (fun _ => true) ws d := by
        unfold settle
        exact setl_congr _ (fun j hj => rng_mem _ j hj)
      rw [eF] at hd
      go_wp2
      go_ret
      exact ⟨rfl, hd, (Kept.of_below hb).trans hkp (fun _ _ h => h)⟩

theorem four_later {w w' : World} {a1 a2 a3 a4 : Addr} {u1 u2 u3 u4 : Value} (h : w.cell? a1 = some u1 ∧ w.cell? a2 = some u2 ∧ w.cell? a3 = some u3 ∧ w.cell? a4 = some u4) (hb : Below w.heap.size w w') : w'.cell? a1 = some u1 ∧ w'.cell? a2 = some u2 ∧ w'.cell? a3 = some u3 ∧ w'.cell? a4 = some u4 :=
  ⟨(hb.cell (World.block_lt_of_cell? w _ h.1)).trans h.1, (hb.cell (World.block_lt_of_cell? w _ h.2.1)).trans h.2.1, (hb.cell (World.block_lt_of_cell? w _ h.2.2.1)).trans h.2.2.1, (hb.cell (World.block_lt_of_cell? w _ h.2.2.2)).trans h.2.2.2⟩

/-- what stands while the writes are copied: c the new disk, its first k writes -/
structure RCp (w wr : World) (c n : Nat) (d : List Int) (ws : List Wr) (k : Nat) : Prop where
  below : Below w.heap.size w wr
  ref : Ref wr (fun j => w.heap.size ≤ j) c n d (ws.take k)

set_option maxHeartbeats 8000000 in
theorem rcopy_any {w : World} {S : Nat → Prop} {p n : Nat} {d : List Int} {ws : List Wr} (h : Ref w S p n d ws) (hk : ws.length ≤ 1000) :
    Calls Try.prog 25 #[.pointer (some ⟨p, 0, none⟩)] w fun e w' => ∃ c, e = .returned (.pointer (some ⟨c, 0, none⟩)) ∧ Ref w' (fun j => w.heap.size ≤ j) c n d ws ∧ Below w.heap.size w w' := by
  obtain ⟨i5, hi5, hz50, hz51, hz52⟩ := info_parts info5
  obtain ⟨i85, hi85, hz850, hz851, hz852⟩ := info_parts info85
  obtain ⟨g, L, cap, v, vs, h⟩ := h
  have s0 : (w.alloc (.cells #[] 5)).cell? ⟨p, 0, none⟩ = some (.slice (some ⟨g, 0, none⟩) L cap) := (h.later (below_alloc w _)).cell0
  have HH : Hid (RD w S p n d ws g L cap v vs) := h
  have hL1 : 0 < L := by have := h.hL; have := h.n1; omega
  have hL2 : L ≤ 262144 := by have := h.hL; have := h.n2; omega
  have HN : Hid (∀ j u, (U8 d)[j]? = some u → (w.alloc (.cells #[] 5)).cell? ((⟨g, 0, none⟩ : Addr).add j) = some u) := fun j u hu => by
    have hr := own_range (h.later (below_alloc w (.cells #[] 5))).dur j u hu
    rw [Addr.add_mid]; exact hr
  have HL : Hid ((U8 d).length = L * 1) := by show _ = _; have := h.dur.1; omega
  clear h
  go_enter Try.func25, Try.ntmps25
  go_wp2_with (at_builtin; refine wpList_append_lies _ rfl (.tmp 5) (.tmp 9) 23 rfl w.heap.size 5 i5 (.int .u8 0) 1 1 Try.underlying23 hi5 hz50 hz51 hz52 rfl (by omega) _ 0 [] rfl (World.ownsRow_made w #[] 0 (Nat.le_refl _) (Nat.zero_le _) rfl) ⟨g, 0, none⟩ L cap (U8 d) rfl HL.out HN.out (ones_u8 _) hL1 (by unfold maxLen; omega) (by omega) (by simp) _ rfl ?_)
  intro g1 c1 w1 hown hgrow hat hlt
  try simp only [Nat.zero_add, List.nil_append] at hown ⊢
  have hb : Below w.heap.size w w1 := ((Below.refl _ w).alloc (Nat.le_refl _) _).grown hgrow (by simp) (by intro k hk; simp [Value.ownBlock] at hk; omega)
  have HF : Hid (RCp w (w1.alloc (.cells #[.slice (some ⟨g1, 0, none⟩) L c1, .slice none 0 0] 64)) w1.heap.size n d ws 0) := by
    obtain ⟨f1, f2⟩ := ref_fin hb hown HH.out.hL HH.out.n1 HH.out.n2 HH.out.db
    exact ⟨f2, by rw [List.take_zero]; exact f1⟩
  clear hown hgrow hat hlt hb s0 HN
  go_wp2
  generalize w1.alloc (.cells #[.slice (some ⟨g1, 0, none⟩) L c1, .slice none 0 0] 64) = W1 at *
  generalize w1.heap.size = c at *
  go_loopw [4] (fun i wr => ∃ k : Nat, k ≤ ws.length ∧ i = .int .i64 k ∧ Hid (RCp w wr c n d ws k)) (fun i _ => ws.length - (intOf i).toNat)
  case atStart => exact ⟨0, by omega, rfl, HF.out⟩
  case round =>
    obtain ⟨k, hkl, rfl, HQ⟩ := hrel
    clear HF
    have h1 := HH.out.later HQ.out.below
    have s1 := h1.cell1
    by_cases hlt : k < ws.length
    · obtain ⟨gv, cv, gb, cb, rfl, t1, t2, t3, _⟩ := h1.at k hlt
      obtain ⟨gc, Lc, capc, vc, vsc, hc⟩ := HQ.out.ref
      have q1 := hc.cell1
      have HXi := HH.out.fit.at k hlt
      have HTk : Hid (ws.take (k + 1) = ws.take k ++ [⟨ws[k].s, ws[k].b⟩]) := by show _ = _; rw [List.take_succ_eq_append_getElem hlt]
      have HTl : Hid ((ws.take k).length = k) := by show _ = _; rw [List.length_take]; omega
      have hTb : (ws.take k).length ≤ 1000 := by rw [HTl.out]; omega
      obtain ⟨T, hT⟩ : ∃ T, ws.take k = T := ⟨_, rfl⟩
      rw [hT] at hc HTk HTl hTb
      clear hT
      obtain ⟨pvc, cvc, rfl, _⟩ := own_slice hc.wr
      generalize ws[k] = X at *
      have HC : Hid (RD wr (fun j => w.heap.size ≤ j) c n d T gc Lc capc (.slice pvc T.length cvc) vsc) := hc
      have HT3 : Hid (BIn wr (some ⟨gb, 0, none⟩) 64 X.b) := t3
      have HP : Hid (RD wr S p n d ws g L cap (.slice (some ⟨gv, 0, none⟩) ws.length cv) vs) := h1
      have i1 : (k : Int) < (ws.length : Int) := by omega
      have i0' : (0 : Int) ≤ (k : Int) := by omega
      have hszw := HQ.out.below.size
      clear t3 hc h1
      go_wp2
      have r1 : (wr.alloc (.cells #[] 5)).drew.cell? ⟨c, 1, none⟩ = some (.slice pvc T.length cvc) := (HC.out.later (below_alloc wr _)).cell1
      refine wp_region_noPanic ?_
      refine wp_region_last 28 (fun w' => w'.cell? ⟨c, 1, none⟩ = some (.slice pvc T.length cvc) ∧ w'.cell? ⟨p, 1, none⟩ = some (.slice (some ⟨gv, 0, none⟩) ws.length cv) ∧ w'.cell? ⟨gv, k * 2, none⟩ = some (.int .i64 (X.s : Int)) ∧ w'.cell? ⟨gv, k * 2 + 1, none⟩ = some (.slice (some ⟨gb, 0, none⟩) 64 cb)) (by kernel_rfl) ?_
      have hHeld : wr.drew.cell? ⟨c, 1, none⟩ = some (.slice pvc T.length cvc) ∧ wr.drew.cell? ⟨p, 1, none⟩ = some (.slice (some ⟨gv, 0, none⟩) ws.length cv) ∧ wr.drew.cell? ⟨gv, k * 2, none⟩ = some (.int .i64 (X.s : Int)) ∧ wr.drew.cell? ⟨gv, k * 2 + 1, none⟩ = some (.slice (some ⟨gb, 0, none⟩) 64 cb) := ⟨q1, s1, t1, t2⟩
      have H4 : Hid (wr.cell? ⟨c, 1, none⟩ = some (.slice pvc T.length cvc) ∧ wr.cell? ⟨p, 1, none⟩ = some (.slice (some ⟨gv, 0, none⟩) ws.length cv) ∧ wr.cell? ⟨gv, k * 2, none⟩ = some (.int .i64 (X.s : Int)) ∧ wr.cell? ⟨gv, k * 2 + 1, none⟩ = some (.slice (some ⟨gb, 0, none⟩) 64 cb)) := ⟨q1, s1, t1, t2⟩
      clear q1 s1 t1 t2 r1
      refine wpAnyL_take (i := 0) (v := ?v0) (by simp; rfl) (by kernel_rfl) (by kernel_rfl) (by kernel_rfl) (by kernel_rfl) (fun _ _ _ h => h) (Or.inl ⟨by rfl, ?y0⟩) hHeld ?r0
      case y0 => intro w hSw; clear hSw; go_simp; with_reducible rfl
      simp only [Act.put, List.setIfInBounds_toArray, List.set_cons_zero, List.set_cons_succ]
      refine wpAnyL_take (i := 1) (v := ?v1) (by simp; rfl) (by kernel_rfl) (by kernel_rfl) (by kernel_rfl) (by kernel_rfl) (fun _ _ _ h => h) (Or.inl ⟨by rfl, ?y1⟩) hHeld ?r1
      case y1 => intro w hSw; clear hSw; go_simp; with_reducible rfl
      simp only [Act.put, List.setIfInBounds_toArray, List.set_cons_zero, List.set_cons_succ]
      refine wpAnyL_take (i := 2) (v := ?v2) (by simp; rfl) (by kernel_rfl) (by kernel_rfl) (by kernel_rfl) (by kernel_rfl) (fun _ _ _ h => h) (Or.inl ⟨by rfl, ?y2⟩) hHeld ?r2
      case y2 => intro w hSw; clear hSw; go_simp; with_reducible rfl
      simp only [Act.put, List.setIfInBounds_toArray, List.set_cons_zero, List.set_cons_succ]
      refine wpAnyL_take (i := 3) (v := ?v3) (by simp; rfl) (by kernel_rfl) (by kernel_rfl) (by kernel_rfl) (by kernel_rfl) (fun _ _ _ h => h) (Or.inl ⟨by rfl, ?y3⟩) hHeld ?r3
      case y3 => intro w hSw; clear hSw; go_simp; with_reducible rfl
      simp only [Act.put, List.setIfInBounds_toArray, List.set_cons_zero, List.set_cons_succ]
      refine wpAnyL_take (i := 4) (v := ?v4) (by simp; rfl) (by kernel_rfl) (by kernel_rfl) (by kernel_rfl) (by kernel_rfl) (fun _ _ _ h => h) (Or.inl ⟨by rfl, ?y4⟩) hHeld ?r4
      case y4 => intro w hSw; obtain ⟨z1, z2, z3, z4⟩ := hSw; go_simp; with_reducible rfl
      simp only [Act.put, List.setIfInBounds_toArray, List.set_cons_zero, List.set_cons_succ]
      refine wpAnyL_take (i := 5) (v := ?v5) (by simp; rfl) (by kernel_rfl) (by kernel_rfl) (by kernel_rfl) (by kernel_rfl) (fun _ _ _ h => h) (Or.inl ⟨by rfl, ?y5⟩) hHeld ?r5
      case y5 => intro w hSw; clear hSw; go_simp; with_reducible rfl
      simp only [Act.put, List.setIfInBounds_toArray, List.set_cons_zero, List.set_cons_succ]
      refine wpAnyL_take (i := 6) (v := ?v6) (by simp; rfl) (by kernel_rfl) (by kernel_rfl) (by kernel_rfl) (by kernel_rfl) (fun _ _ _ h => h) (Or.inl ⟨by rfl, ?y6⟩) hHeld ?r6
      case y6 => intro w hSw; clear hSw; go_simp; with_reducible rfl
      simp only [Act.put, List.setIfInBounds_toArray, List.set_cons_zero, List.set_cons_succ]
      refine wpAnyL_take (i := 7) (v := ?v7) (by simp; rfl) (by kernel_rfl) (by kernel_rfl) (by kernel_rfl) (by kernel_rfl) (fun _ _ _ h => h) (Or.inl ⟨by rfl, ?y7⟩) hHeld ?r7
      case y7 => intro w hSw; clear hSw; go_simp; with_reducible rfl
      simp only [Act.put, List.setIfInBounds_toArray, List.set_cons_zero, List.set_cons_succ]
      refine wpAnyL_take (i := 8) (v := ?v8) (by simp; rfl) (by kernel_rfl) (by kernel_rfl) (by kernel_rfl) (by kernel_rfl) (fun _ _ _ h => h) (Or.inl ⟨by rfl, ?y8⟩) hHeld ?r8
      case y8 => intro w hSw; obtain ⟨z1, z2, z3, z4⟩ := hSw; go_simp; with_reducible rfl
      simp only [Act.put, List.setIfInBounds_toArray, List.set_cons_zero, List.set_cons_succ]
      refine wpAnyL_take (i := 9) (v := ?v9) (by simp; rfl) (by kernel_rfl) (by kernel_rfl) (by kernel_rfl) (by kernel_rfl) (fun _ _ _ h => h) (Or.inl ⟨by rfl, ?y9⟩) hHeld ?r9
      case y9 => intro w hSw; clear hSw; go_simp; with_reducible rfl
      simp only [Act.put, List.setIfInBounds_toArray, List.set_cons_zero, List.set_cons_succ]
      refine wpAnyL_take (i := 10) (v := ?v10) (by simp; rfl) (by kernel_rfl) (by kernel_rfl) (by kernel_rfl) (by kernel_rfl) (fun _ _ _ h => h) (Or.inl ⟨by rfl, ?y10⟩) hHeld ?r10
      case y10 => intro w hSw; clear hSw; go_simp; with_reducible rfl
      simp only [Act.put, List.setIfInBounds_toArray, List.set_cons_zero, List.set_cons_succ]
      refine wpAnyL_take (i := 11) (v := ?v11) (by simp; rfl) (by kernel_rfl) (by kernel_rfl) (by kernel_rfl) (by kernel_rfl) (fun _ _ _ h => h) (Or.inl ⟨by rfl, ?y11⟩) hHeld ?r11
      case y11 => intro w hSw; clear hSw; go_simp; with_reducible rfl
      simp only [Act.put, List.setIfInBounds_toArray, List.set_cons_zero, List.set_cons_succ]
      refine wpAnyL_take (i := 12) (v := ?v12) (by simp; rfl) (by kernel_rfl) (by kernel_rfl) (by kernel_rfl) (by kernel_rfl) (fun _ _ _ h => h) (Or.inl ⟨by rfl, ?y12⟩) hHeld ?r12
      case y12 => intro w hSw; obtain ⟨z1, z2, z3, z4⟩ := hSw; go_simp; with_reducible rfl
      simp only [Act.put, List.setIfInBounds_toArray, List.set_cons_zero, List.set_cons_succ]
      refine wpAnyL_take (i := 14) (v := ?v14) (by simp; rfl) (by kernel_rfl) (by kernel_rfl) (by kernel_rfl) (by kernel_rfl) (fun _ _ _ h => h) (Or.inl ⟨by rfl, ?y14⟩) hHeld ?r14
      case y14 => intro w hSw; clear hSw; go_simp; with_reducible rfl
      simp only [Act.put, List.setIfInBounds_toArray, List.set_cons_zero, List.set_cons_succ]
      refine wpAnyL_take (i := 15) (v := ?v15) (by simp; rfl) (by kernel_rfl) (by kernel_rfl) (by kernel_rfl) (by kernel_rfl) (fun _ _ _ h => h) (Or.inl ⟨by rfl, ?y15⟩) hHeld ?r15
      case y15 => intro w hSw; clear hSw; go_simp; with_reducible rfl
      simp only [Act.put, List.setIfInBounds_toArray, List.set_cons_zero, List.set_cons_succ]
      refine wpAnyL_take (i := 16) (v := ?v16) (by simp; rfl) (by kernel_rfl) (by kernel_rfl) (by kernel_rfl) (by kernel_rfl) (fun _ _ _ h => h) (Or.inl ⟨by rfl, ?y16⟩) hHeld ?r16
      case y16 => intro w hSw; clear hSw; go_simp; with_reducible rfl
      simp only [Act.put, List.setIfInBounds_toArray, List.set_cons_zero, List.set_cons_succ]
      refine wpAnyL_take (i := 17) (v := ?v17) (by simp; rfl) (by kernel_rfl) (by kernel_rfl) (by kernel_rfl) (by kernel_rfl) (fun _ _ _ h => h) (Or.inl ⟨by rfl, ?y17⟩) hHeld ?r17
      case y17 => intro w hSw; obtain ⟨z1, z2, z3, z4⟩ := hSw; go_simp; with_reducible rfl
      simp only [Act.put, List.setIfInBounds_toArray, List.set_cons_zero, List.set_cons_succ]
      refine wpAnyL_take (i := 18) (v := ?v18) (by simp; rfl) (by kernel_rfl) (by kernel_rfl) (by kernel_rfl) (by kernel_rfl) (fun _ _ _ h => h) (Or.inl ⟨by rfl, ?y18⟩) hHeld ?r18
      case y18 => intro w hSw; clear hSw; go_simp; with_reducible rfl
      simp only [Act.put, List.setIfInBounds_toArray, List.set_cons_zero, List.set_cons_succ]
      refine wpAnyL_take (i := 19) (v := ?v19) (by simp; rfl) (by kernel_rfl) (by kernel_rfl) (by kernel_rfl) (by kernel_rfl) (fun _ _ _ h => h) (Or.inl ⟨by rfl, ?y19⟩) hHeld ?r19
      case y19 => intro w hSw; clear hSw; go_simp; with_reducible rfl
      simp only [Act.put, List.setIfInBounds_toArray, List.set_cons_zero, List.set_cons_succ]
      refine wpAnyL_take (i := 20) (v := ?v20) (by simp; rfl) (by kernel_rfl) (by kernel_rfl) (by kernel_rfl) (by kernel_rfl) (fun _ _ _ h => h) (Or.inl ⟨by rfl, ?y20⟩) hHeld ?r20
      case y20 => intro w hSw; clear hSw; go_simp; with_reducible rfl
      simp only [Act.put, List.setIfInBounds_toArray, List.set_cons_zero, List.set_cons_succ]
      refine wpAnyL_take (i := 21) (v := ?v21) (by simp; rfl) (by kernel_rfl) (by kernel_rfl) (by kernel_rfl) (by kernel_rfl) (fun _ _ _ h => h) (Or.inl ⟨by rfl, ?y21⟩) hHeld ?r21
      case y21 => intro w hSw; obtain ⟨z1, z2, z3, z4⟩ := hSw; go_simp; with_reducible rfl
      simp only [Act.put, List.setIfInBounds_toArray, List.set_cons_zero, List.set_cons_succ]
      refine wpAnyL_ready (rs := [13]) (by kernel_rfl) (by simp) ?_
      refine AllReadyL.cons (by simp; rfl) (fun K hK => ?_) AllReadyL.nil
      go_simp
      have hH6 : (wr.alloc (.cells #[] 5)).drew.cell? ⟨c, 1, none⟩ = some (.slice pvc T.length cvc) ∧ (wr.alloc (.cells #[] 5)).drew.cell? ⟨p, 1, none⟩ = some (.slice (some ⟨gv, 0, none⟩) ws.length cv) ∧ (wr.alloc (.cells #[] 5)).drew.cell? ⟨gv, k * 2, none⟩ = some (.int .i64 (X.s : Int)) ∧ (wr.alloc (.cells #[] 5)).drew.cell? ⟨gv, k * 2 + 1, none⟩ = some (.slice (some ⟨gb, 0, none⟩) 64 cb) := four_later hHeld (w' := (wr.alloc (.cells #[] 5)).drew) ⟨rfl, rfl, rfl, by show wr.heap.size ≤ (wr.alloc _).heap.size; simp, fun k hk => Below.heap_alloc _ _ _ hk⟩
      refine hK.out _ _ (fun _ => hH6) ?_
      clear hK K hHeld
      have hHeld := hH6
      refine wpAnyL_ready (rs := [22]) (by kernel_rfl) (by simp) ?_
      refine AllReadyL.cons (by simp; rfl) (fun K hK => ?_) AllReadyL.nil
      refine step_append_lies _ rfl (.tmp 35) (.tmp 43) 23 rfl wr.heap.size 5 i5 (.int .u8 0) 1 1 Try.underlying23 hi5 hz50 hz51 hz52 rfl (by omega) _ 0 [] rfl (World.ownsRow_made wr #[] 0 (Nat.le_refl _) (Nat.zero_le _) rfl) ⟨gb, 0, none⟩ 64 cb (U8 X.b) rfl (by rw [U8_length]; exact HXi.2.1) ((HT3.out.later (below_alloc wr _)).news) (ones_u8 _) (by omega) (by unfold maxLen; omega) (by omega) (by simp) _ rfl ?_
      intro g2 cap2 w2 hown2 hgrow2 hat2 hlt2
      simp only [Nat.zero_add, List.nil_append] at hown2 ⊢
      have hb2 : Below wr.heap.size wr w2 := ((Below.refl _ wr).alloc (Nat.le_refl _) (.cells #[] 5)).trans ⟨hgrow2.os, hgrow2.tape, hgrow2.output, hgrow2.size, fun k hk => hgrow2.block k (Nat.lt_of_lt_of_le hk (by show _ ≤ (wr.alloc _).heap.size; simp)) (fun e => by have e' : k = wr.heap.size := Option.some.inj e; omega)⟩
      have hH8 := four_later (w := wr) (w' := w2) H4.out hb2
      refine hK.out _ _ (fun _ => hH8) ?_
      clear hK K hHeld hH6 hgrow2 hat2 hlt2
      have hHeld := hH8
      simp only [Act.put, List.setIfInBounds_toArray, List.set_cons_zero, List.set_cons_succ]
      refine wpAnyL_take (i := 23) (v := ?v23) (by simp; rfl) (by kernel_rfl) (by kernel_rfl) (by kernel_rfl) (by kernel_rfl) (fun _ _ _ h => h) (Or.inl ⟨by rfl, ?y23⟩) hHeld ?r23
      case y23 => intro w hSw; clear hSw; go_simp; with_reducible rfl
      simp only [Act.put, List.setIfInBounds_toArray, List.set_cons_zero, List.set_cons_succ]
      refine wpAnyL_ready (rs := [24]) (by kernel_rfl) (by simp) ?_
      refine AllReadyL.cons (by simp; rfl) (fun K hK => ?_) AllReadyL.nil
      go_simp
      have hb3 : Below wr.heap.size wr (w2.alloc (.cells #[.int .i64 (X.s : Int), .slice (some ⟨g2, 0, none⟩) 64 cap2] 85)) := hb2.alloc hb2.size _
      have hHA := four_later (w := w2) hHeld (below_alloc w2 (.cells #[.int .i64 (X.s : Int), .slice (some ⟨g2, 0, none⟩) 64 cap2] 85))
      refine hK.out _ _ (fun _ => hHA) ?_
      clear hK K hHeld hH8
      have hHeld := hHA
      refine wpAnyL_ready (rs := [25]) (by kernel_rfl) (by simp) ?_
      refine AllReadyL.cons (by simp; rfl) (fun K hK => ?_) AllReadyL.nil
      have hz2' := hb2.size
      refine step_append_lies _ rfl (.tmp 26) (.tmp 46) 62 rfl 0 85 i85 (.agg #[.int .i64 0, .slice none 0 0]) 2 32 Try.underlying62 hi85 hz850 hz851 hz852 rfl (by omega) _ T.length (RC T vsc) rfl (HC.out.later hb3).wr ⟨w2.heap.size, 0, none⟩ 1 1 [.int .i64 (X.s : Int), .slice (some ⟨g2, 0, none⟩) 64 cap2] rfl rfl ?_ (by simp [Value.oneCell']) (by omega) (by unfold maxLen; omega) (by omega) (Nat.zero_le _) _ rfl ?_
      · intro j u hu
        have e := new_range w2 [.int .i64 (X.s : Int), .slice (some ⟨g2, 0, none⟩) 64 cap2] 85 j u hu
        rw [Addr.add_mid]
        exact e
      intro g4 cap4 w4 hown4 hgrow4 hat4 hlt4
      obtain ⟨f1, f2, f3, f4⟩ := rwrite_fin HC.out hb3 (hown2.alloc _) hown4 hgrow4 (or_map hat4 id (fun e => by rw [e]; simp; omega)) HXi.1 HXi.2.1 HXi.2.2
      have hS4 : w4.cell? ⟨c, 1, none⟩ = some (.slice pvc T.length cvc) ∧ w4.cell? ⟨p, 1, none⟩ = some (.slice (some ⟨gv, 0, none⟩) ws.length cv) ∧ w4.cell? ⟨gv, k * 2, none⟩ = some (.int .i64 (X.s : Int)) ∧ w4.cell? ⟨gv, k * 2 + 1, none⟩ = some (.slice (some ⟨gb, 0, none⟩) 64 cb) := by
        have hne : ∀ j : Nat, j < w.heap.size → some j ≠ (Value.slice pvc T.length cvc).ownBlock := fun j hj e => by have : w.heap.size ≤ j := HC.out.sv j e.symm; omega
        have hpw : p < w.heap.size := HH.out.blk.lt
        have hgw : gv < w.heap.size := (own_blk HH.out.wr).1.lt
        have hsz3 : (w2.alloc (.cells #[.int .i64 (X.s : Int), .slice (some ⟨g2, 0, none⟩) 64 cap2] 85)).heap.size = w2.heap.size + 1 := by simp
        exact ⟨f1, (hgrow4.cell_far ⟨p, 1, none⟩ (by show p < _; omega) (hne p hpw)).trans hHeld.2.1, (hgrow4.cell_far ⟨gv, k * 2, none⟩ (by show gv < _; omega) (hne gv hgw)).trans hHeld.2.2.1, (hgrow4.cell_far ⟨gv, k * 2 + 1, none⟩ (by show gv < _; omega) (hne gv hgw)).trans hHeld.2.2.2⟩
      refine hK.out _ _ (fun _ => hS4) ?_
      clear hK K hHeld hHA hgrow4 hat4 hlt4 hown4
      have HU : Hid (RCp w (w4.setCell ⟨c, 1, none⟩ (.slice (some ⟨g4, 0, none⟩) (T.length + 1) cap4)) c n d ws (k + 1)) := by
        refine ⟨HQ.out.below.trans (f4.below hszw (fun j h => h)), ?_⟩
        rw [HTk.out]
        exact f3.mono (fun j _ h => h.elim id (fun h => by omega))
      clear f3 f4
      simp only [Act.put, List.setIfInBounds_toArray, List.set_cons_zero, List.set_cons_succ]
      refine wpAnyL_ready (rs := [26]) (by kernel_rfl) (by simp) ?_
      refine AllReadyL.cons (by simp; rfl) (fun K hK => ?_) AllReadyL.nil
      go_simp
      refine hK.out _ _ (fun _ => hS4) ?_
      clear hK K
      refine wpAnyL_ready (rs := [27]) (by kernel_rfl) (by simp) ?_
      refine AllReadyL.cons (by simp; rfl) (fun K hK => ?_) AllReadyL.nil
      go_simp
      refine hK.out _ _ (fun _ => hS4) ?_
      clear hK K
      refine wpAnyL_ready (rs := [28]) (by kernel_rfl) (by simp) ?_
      refine AllReadyL.cons (by simp; rfl) (fun K hK => ?_) AllReadyL.nil
      go_simp
      refine hK.out _ _ (fun h => absurd rfl h) ?_
      clear hK K
      refine wpAnyL_done (by kernel_rfl) (NoPanic.normal ?_) _
      clear f1 f2 hS4
      go_wp2
      go_roundw
      case rel => exact ⟨k + 1, by omega, by go_num, HU⟩
      case measure => simp [intOf]; omega
    · obtain rfl : k = ws.length := by omega
      have HD : Hid (Ref wr (fun j => w.heap.size ≤ j) c n d ws ∧ Below w.heap.size w wr) := ⟨by have := HQ.out.ref; rw [List.take_of_length_le (Nat.le_refl _)] at this; exact this, HQ.out.below⟩
      obtain ⟨pv, cv, rfl, _⟩ := own_slice HH.out.wr
      clear HQ h1
      go_wp2
      go_ret
      exact ⟨_, rfl, HD.out.1, HD.out.2⟩
end Go.Proofs.Ytlidjenkicgldaa
