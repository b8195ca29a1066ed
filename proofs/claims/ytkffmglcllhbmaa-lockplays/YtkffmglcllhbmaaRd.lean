/-
  Layer 14: the document's New, Held, Copy.
-/
import Derived.Test.YtkffmglcllhbmaaRc
import Derived.BigRegion
namespace Go.Proofs.Ytkffmglcllhbmaa
open Go.RowKit

def Bw (we w : World) : Prop := Below we.heap.size we w
theorem st_set {w : World} {g : Nat} {cs : Array Value} {ty : TypeId} {f : Nat × Nat} (j : Nat) (v : Value) (h : w.heap[g]? = some (.cells cs ty f)) : (w.setCell ⟨g, j, none⟩ v).heap[g]? = some (.cells (cs.setIfInBounds j v) ty f) := by
  rw [setCell_eq_setRow w g j _ ty f v h]
  exact setRow_heap w g _ _ ty _ h
set_option maxHeartbeats 1000000 in
set_option maxRecDepth 100000 in
theorem rnew_bad (w : World) {n : Int} (h : n < 1 ∨ 64 < n) : Calls Try.prog 28 #[.int .i64 n] w fun e w' => e = .returned (.tuple #[nilq, .int .i64 2]) ∧ w' = w := by
  by_cases h1 : n < 1
  · go_enter Try.func28, Try.ntmps28
    go_wp2
    go_ret2
    exact ⟨rfl, rfl⟩
  · have h2 : 64 < n := by omega
    go_enter Try.func28, Try.ntmps28
    go_wp2
    go_ret2
    exact ⟨rfl, rfl⟩
set_option maxHeartbeats 1000000 in
set_option maxRecDepth 100000 in
theorem rnew_ok (w : World) (N : Nat) (h1 : 1 ≤ N) (h2 : N ≤ 64) : Calls Try.prog 28 #[.int .i64 N] w fun e w' => e = .returned (.tuple #[qp w.heap.size, .int .i64 0]) ∧ RL w' (fun _ => False) w.heap.size nils ⟨N, 0, []⟩ [] ∧ Below w.heap.size w w' := by
  have i1 : ¬ (N : Int) < 1 := by omega
  have i2 : ¬ 64 < (N : Int) := by omega
  go_enter Try.func28, Try.ntmps28
  go_wp2
  go_ret2
  exact ⟨rfl, ⟨heap_alloc_new w _, World.ownsRow_nil _ _ _ _, trivial, fun g hg => by cases hg⟩, below_alloc w _⟩
section
variable {w w' : World} {G : Nat → Prop} {R : Nat} {v : Value} {a : Lk} {es : List Er}
set_option maxHeartbeats 2000000 in
set_option maxRecDepth 100000 in
theorem rheld_at (h : RL w G R v a es) (ok : Ok a) (hn : a.L.length ≤ 9000) (t : Int) : Calls Try.prog 67 #[qp R, .int .u64 t] w fun e w' => ∃ q c, e = .returned (.slice q (ent a.L t).d c) ∧ B.Made w w' q (ent a.L t).d c (ent a.L t).held := by
  have hat := rat_at h (by omega) t
  cases hi : isIn a.L t with
  | false =>
    rw [atN_no hi] at hat
    rw [(out_nx hi).2.2.1, (out_nx hi).2.2.2.1]
    have HA : Hid (Calls Try.prog 62 #[qp R, .int .u64 t] w fun e w' => e = .returned (.int .i64 (-1)) ∧ w' = w) := hat
    clear h hat hi
    go_enter Try.func67, Try.ntmps67
    go_wp2_with (go_at_call 62; refine HA.out.mono ?_; rintro e w' ⟨rfl, rfl⟩)
    go_ret
    exact ⟨none, 0, rfl, B.made_nil _ (Below.refl _ _)⟩
  | true =>
    rw [atN_yes hi] at hat
    obtain ⟨g, c, p', c', rfl, hc, hk, hx⟩ := h.ent hi
    have i1 : ((posE t a.L : Nat) : Int) < (a.L.length : Int) := by omega
    have hd := ent_don ok t
    have hl := ent_len ok t
    have hne : 0 < (ent a.L t).s.length := List.length_pos_iff.2 (ok.ne _ (isIn_ent hi).2.1)
    obtain ⟨bs, os, rfl, -⟩ := hx.set hne
    have HL0 : Hid (∀ w', Bw w w' → w'.cell? ⟨R, 2, none⟩ = some (.slice (some ⟨g, 0, none⟩) a.L.length c) ∧ w'.cell? ⟨g, posE t a.L * 3 + 1, none⟩ = some (.slice (some ⟨bs, os, none⟩) (ent a.L t).s.length c') ∧ w'.cell? ⟨g, posE t a.L * 3 + 2, none⟩ = some (.int .i64 (ent a.L t).d)) := fun w' hb => by
      have e1 := Below.cell hb (p := ⟨R, 2, none⟩) h.lt
      have hg := World.block_lt_of_cell? w _ hx.s
      exact ⟨e1.trans (h.c 2), (Below.cell hb (p := ⟨g, posE t a.L * 3 + 1, none⟩) hg).trans hx.s, (Below.cell hb (p := ⟨g, posE t a.L * 3 + 2, none⟩) hg).trans hx.d⟩
    obtain ⟨p2, c2, e2, hI, hcc, -⟩ := hx.f.read
    simp only [Value.slice.injEq] at e2
    obtain ⟨rfl, -, rfl⟩ := e2
    have HI0 : Hid (B.IIn w (some ⟨bs, os, none⟩) (ent a.L t).d (ent a.L t).held) := IIn.take hI _ hd
    clear h hx hi ok hI
    have HLL : Hid ((B.I64 (ent a.L t).held).length = (ent a.L t).d * 1) := by show _ = _; rw [B.I64_length, HI0.out.len]; omega
    generalize (ent a.L t).held = hel at *
    generalize (ent a.L t).s.length = sl at *
    generalize (ent a.L t).d = dd at *
    generalize posE t a.L = pp at *
    have i2 : (dd : Int) ≤ (c' : Int) := by omega
    have i3 : (0 : Int) ≤ (dd : Int) := by omega
    have HA : Hid (Calls Try.prog 62 #[qp R, .int .u64 t] w fun e w' => e = .returned (.int .i64 (pp : Int)) ∧ w' = w) := hat
    clear hat
    go_enter Try.func67, Try.ntmps67
    go_wp2_with (go_at_call 62; refine HA.out.mono ?_; rintro e w' ⟨rfl, rfl⟩)
    refine wp_region_noPanic ?_
    refine wp_region_held_drew (S := Bw w'.drew) (by kernel_rfl) (Below.refl _ _) (fun hHeld => ?_)
    have HBe : Hid (Below w'.heap.size w' w'.drew) := below_drawn 1
    have HI : Hid (B.IIn w'.drew (some ⟨bs, os, none⟩) dd hel) := HI0.out.later HBe.out
    have HL : Hid (∀ w1, Bw w'.drew w1 → w1.cell? ⟨R, 2, none⟩ = some (.slice (some ⟨g, 0, none⟩) a.L.length c) ∧ w1.cell? ⟨g, pp * 3 + 1, none⟩ = some (.slice (some ⟨bs, os, none⟩) sl c') ∧ w1.cell? ⟨g, pp * 3 + 2, none⟩ = some (.int .i64 dd)) := fun w1 hb => HL0.out w1 (below_then HBe.out hb)
    clear HL0 HI0 HA
    generalize w'.drew = we at *
    refine wpAnyH_take (i := 1) (v := ?va1) (by simp; rfl) (by kernel_rfl) (by kernel_rfl) (by kernel_rfl) (fun _ _ _ h => h) (Or.inl ⟨by rfl, ?ya1⟩) hHeld ?ra1
    case ya1 => intro w hSw; clear hSw; go_simp; with_reducible rfl
    simp only [Act.put, List.setIfInBounds_toArray, List.set_cons_zero, List.set_cons_succ]
    refine wpAnyH_take (i := 2) (v := ?va2) (by simp; rfl) (by kernel_rfl) (by kernel_rfl) (by kernel_rfl) (fun _ _ _ h => h) (Or.inl ⟨by rfl, ?ya2⟩) hHeld ?ra2
    case ya2 => intro w hSw; clear hSw; go_simp; with_reducible rfl
    simp only [Act.put, List.setIfInBounds_toArray, List.set_cons_zero, List.set_cons_succ]
    refine wpAnyH_take (i := 3) (v := ?va3) (by simp; rfl) (by kernel_rfl) (by kernel_rfl) (by kernel_rfl) (fun _ _ _ h => h) (Or.inl ⟨by rfl, ?ya3⟩) hHeld ?ra3
    case ya3 => intro w hSw; clear hSw; go_simp; with_reducible rfl
    simp only [Act.put, List.setIfInBounds_toArray, List.set_cons_zero, List.set_cons_succ]
    refine wpAnyH_take (i := 4) (v := ?va4) (by simp; rfl) (by kernel_rfl) (by kernel_rfl) (by kernel_rfl) (fun _ _ _ h => h) (Or.inl ⟨by rfl, ?ya4⟩) hHeld ?ra4
    case ya4 => intro w hSw; have z := (HL.out w hSw).1; clear hSw; go_simp; with_reducible rfl
    simp only [Act.put, List.setIfInBounds_toArray, List.set_cons_zero, List.set_cons_succ]
    refine wpAnyH_take (i := 5) (v := ?va5) (by simp; rfl) (by kernel_rfl) (by kernel_rfl) (by kernel_rfl) (fun _ _ _ h => h) (Or.inl ⟨by rfl, ?ya5⟩) hHeld ?ra5
    case ya5 => intro w hSw; clear hSw; go_simp; with_reducible rfl
    simp only [Act.put, List.setIfInBounds_toArray, List.set_cons_zero, List.set_cons_succ]
    refine wpAnyH_take (i := 6) (v := ?va6) (by simp; rfl) (by kernel_rfl) (by kernel_rfl) (by kernel_rfl) (fun _ _ _ h => h) (Or.inl ⟨by rfl, ?ya6⟩) hHeld ?ra6
    case ya6 => intro w hSw; clear hSw; go_simp; with_reducible rfl
    simp only [Act.put, List.setIfInBounds_toArray, List.set_cons_zero, List.set_cons_succ]
    refine wpAnyH_take (i := 7) (v := ?va7) (by simp; rfl) (by kernel_rfl) (by kernel_rfl) (by kernel_rfl) (fun _ _ _ h => h) (Or.inl ⟨by rfl, ?ya7⟩) hHeld ?ra7
    case ya7 => intro w hSw; clear hSw; go_simp; with_reducible rfl
    simp only [Act.put, List.setIfInBounds_toArray, List.set_cons_zero, List.set_cons_succ]
    refine wpAnyH_take (i := 8) (v := ?va8) (by simp; rfl) (by kernel_rfl) (by kernel_rfl) (by kernel_rfl) (fun _ _ _ h => h) (Or.inl ⟨by rfl, ?ya8⟩) hHeld ?ra8
    case ya8 => intro w hSw; have z := (HL.out w hSw).2.1; clear hSw; go_simp; with_reducible rfl
    simp only [Act.put, List.setIfInBounds_toArray, List.set_cons_zero, List.set_cons_succ]
    refine wpAnyH_take (i := 9) (v := ?va9) (by simp; rfl) (by kernel_rfl) (by kernel_rfl) (by kernel_rfl) (fun _ _ _ h => h) (Or.inl ⟨by rfl, ?ya9⟩) hHeld ?ra9
    case ya9 => intro w hSw; clear hSw; go_simp; with_reducible rfl
    simp only [Act.put, List.setIfInBounds_toArray, List.set_cons_zero, List.set_cons_succ]
    refine wpAnyH_take (i := 10) (v := ?va10) (by simp; rfl) (by kernel_rfl) (by kernel_rfl) (by kernel_rfl) (fun _ _ _ h => h) (Or.inl ⟨by rfl, ?ya10⟩) hHeld ?ra10
    case ya10 => intro w hSw; clear hSw; go_simp; with_reducible rfl
    simp only [Act.put, List.setIfInBounds_toArray, List.set_cons_zero, List.set_cons_succ]
    refine wpAnyH_take (i := 11) (v := ?va11) (by simp; rfl) (by kernel_rfl) (by kernel_rfl) (by kernel_rfl) (fun _ _ _ h => h) (Or.inl ⟨by rfl, ?ya11⟩) hHeld ?ra11
    case ya11 => intro w hSw; clear hSw; go_simp; with_reducible rfl
    simp only [Act.put, List.setIfInBounds_toArray, List.set_cons_zero, List.set_cons_succ]
    refine wpAnyH_take (i := 12) (v := ?va12) (by simp; rfl) (by kernel_rfl) (by kernel_rfl) (by kernel_rfl) (fun _ _ _ h => h) (Or.inl ⟨by rfl, ?ya12⟩) hHeld ?ra12
    case ya12 => intro w hSw; have z := (HL.out w hSw).1; clear hSw; go_simp; with_reducible rfl
    simp only [Act.put, List.setIfInBounds_toArray, List.set_cons_zero, List.set_cons_succ]
    refine wpAnyH_take (i := 13) (v := ?va13) (by simp; rfl) (by kernel_rfl) (by kernel_rfl) (by kernel_rfl) (fun _ _ _ h => h) (Or.inl ⟨by rfl, ?ya13⟩) hHeld ?ra13
    case ya13 => intro w hSw; clear hSw; go_simp; with_reducible rfl
    simp only [Act.put, List.setIfInBounds_toArray, List.set_cons_zero, List.set_cons_succ]
    refine wpAnyH_take (i := 14) (v := ?va14) (by simp; rfl) (by kernel_rfl) (by kernel_rfl) (by kernel_rfl) (fun _ _ _ h => h) (Or.inl ⟨by rfl, ?ya14⟩) hHeld ?ra14
    case ya14 => intro w hSw; clear hSw; go_simp; with_reducible rfl
    simp only [Act.put, List.setIfInBounds_toArray, List.set_cons_zero, List.set_cons_succ]
    refine wpAnyH_take (i := 15) (v := ?va15) (by simp; rfl) (by kernel_rfl) (by kernel_rfl) (by kernel_rfl) (fun _ _ _ h => h) (Or.inl ⟨by rfl, ?ya15⟩) hHeld ?ra15
    case ya15 => intro w hSw; clear hSw; go_simp; with_reducible rfl
    simp only [Act.put, List.setIfInBounds_toArray, List.set_cons_zero, List.set_cons_succ]
    refine wpAnyH_take (i := 16) (v := ?va16) (by simp; rfl) (by kernel_rfl) (by kernel_rfl) (by kernel_rfl) (fun _ _ _ h => h) (Or.inl ⟨by rfl, ?ya16⟩) hHeld ?ra16
    case ya16 => intro w hSw; have z := (HL.out w hSw).2.2; clear hSw; go_simp; with_reducible rfl
    simp only [Act.put, List.setIfInBounds_toArray, List.set_cons_zero, List.set_cons_succ]
    refine wpAnyH_take (i := 17) (v := ?va17) (by simp; rfl) (by kernel_rfl) (by kernel_rfl) (by kernel_rfl) (fun _ _ _ h => h) (Or.inl ⟨by rfl, ?ya17⟩) hHeld ?ra17
    case ya17 => intro w hSw; clear hSw; go_simp; with_reducible rfl
    simp only [Act.put, List.setIfInBounds_toArray, List.set_cons_zero, List.set_cons_succ]
    refine wpAnyH_ready (rs := [0]) (by kernel_rfl) (by simp) ?_
    refine AllReadyH.cons (by simp; rfl) (fun Kc hKc => ?_) AllReadyH.nil
    go_simp
    have F1 : Hid (O.FR we (we.alloc (.cells #[] 3)) we.heap.size 3 1 (.slice (some ⟨we.heap.size, 0, none⟩) 0 0) 0 []) := O.FR.empty 3 1 (Below.refl _ _) (Nat.le_refl _)
    have F1' : Hid (Bw we (we.alloc (.cells #[] 3))) := F1.out.below
    refine hKc.out _ _ F1'.out (fun hHeld => ?_)
    clear hKc Kc
    revert F1 F1' hHeld
    generalize we.alloc (.cells #[] 3) = wa
    generalize hge : we.heap.size = ge
    intro F1 F1' hHeld
    refine wpAnyH_ready (rs := [18]) (by kernel_rfl) (by simp) ?_
    refine AllReadyH.cons (by simp; rfl) (fun Kc hKc => ?_) AllReadyH.nil
    refine O.step_own (v := .slice (some ⟨ge, 0, none⟩) 0 0) (n := 0) (base := ge) rfl (.tmp 11) (.tmp 28) O.elI rfl rfl F1.out.own ⟨bs, os, none⟩ dd c' (B.I64 hel) rfl HLL.out (HI.out.later F1.out.below).news (B.ones_i64 hel) (by omega) (by have := F1.out.below.size; omega) ?_
    intro v1 wb ho hk hv
    have F2 : Hid (O.FR we wb ge 3 1 v1 dd (B.I64 hel)) := by have h := F1.out.app ho hk hv; rw [Nat.zero_add, List.nil_append] at h; exact h
    have F2' : Hid (Bw we wb) := F2.out.below
    obtain ⟨p1, c1, e1⟩ := O.own_shape F2.out.own
    subst e1
    clear ho hk hv F1 F1'
    refine hKc.out _ _ F2'.out (fun hHeld => ?_)
    clear hKc Kc
    simp only [Act.put, List.setIfInBounds_toArray, List.set_cons_zero, List.set_cons_succ]
    refine wpAnyH_ready (rs := [19]) (by kernel_rfl) (by simp) ?_
    refine AllReadyH.cons (by simp; rfl) (fun Kc hKc => ?_) AllReadyH.nil
    go_simp
    refine hKc.out _ _ F2'.out (fun hHeld => ?_)
    clear hKc Kc
    refine wpAnyH_done (by kernel_rfl) (NoPanic.normal ?_) _
    go_wp2
    go_ret
    refine ⟨p1, c1, rfl, ?_, below_then HBe.out F2.out.below⟩
    have := F2.out.own
    rw [← hge] at this
    exact B.own_mono this HBe.out.size

theorem RL.copied {we wb : World} {p1 : Option Addr} {n c1 : Nat} (h : RL w G R v a es) (hn : n = es.length) (hb : Below w.heap.size w we) (hF : O.FR we wb we.heap.size 97 3 (.slice p1 n c1) n (rcs es)) : RL (wb.alloc (.cells (rcells a (.slice p1 n c1)) 103)) (Gp w (wb.alloc (.cells (rcells a (.slice p1 n c1)) 103)) G) wb.heap.size (.slice p1 n c1) a es ∧ Below w.heap.size w (wb.alloc (.cells (rcells a (.slice p1 n c1)) 103)) ∧ w.heap.size ≤ wb.heap.size := by
  subst hn
  have hbB : Below w.heap.size w wb := below_then hb hF.below
  have hb3 := below_then hbB (below_alloc wb (.cells (rcells a (.slice p1 es.length c1)) 103))
  refine ⟨⟨heap_alloc_new wb _, O.own_later (B.own_mono hF.own (Nat.zero_le _)) (below_alloc wb _), h.mi.map fun _ _ m => m.kept (fun g _ hl => hb3.block g hl) fun _ hg => .inl hg, fun g hg => .inr ⟨?_, ?_⟩⟩, hb3, hbB.size⟩
  · have := hF.new g hg; have := hb.size; omega
  · have := (hF.own.lt g hg).2; simp; omega
set_option maxHeartbeats 2000000 in
set_option maxRecDepth 100000 in
theorem rcopy_at (h : RL w G R v a es) (hn : a.L.length ≤ 9000) : Calls Try.prog 29 #[qp R] w fun e w' => ∃ R' v', e = .returned (qp R') ∧ w.heap.size ≤ R' ∧ RL w' (Gp w w' G) R' v' a es ∧ Below w.heap.size w w' := by
  obtain ⟨p, c, rfl, hc, -⟩ := h.shape
  have HL0 : Hid (∀ w', Bw w w' → w'.cell? ⟨R, 0, none⟩ = some (.int .i64 a.bl) ∧ w'.cell? ⟨R, 1, none⟩ = some (.int .u64 a.last) ∧ w'.cell? ⟨R, 2, none⟩ = some (.slice p a.L.length c)) := fun w' hb => ⟨(Below.cell hb (p := ⟨R, 0, none⟩) h.lt).trans (h.c 0), (Below.cell hb (p := ⟨R, 1, none⟩) h.lt).trans (h.c 1), (Below.cell hb (p := ⟨R, 2, none⟩) h.lt).trans (h.c 2)⟩
  have HR0 : Hid (w.ownsRow 0 97 3 (.slice p a.L.length c) a.L.length (rcs es)) := by have := h.row; rw [h.len] at this; exact this
  have HFIN : Hid (∀ (wb : World) (p1 : Option Addr) (c1 : Nat), O.FR w.drew wb w.drew.heap.size 97 3 (.slice p1 a.L.length c1) a.L.length (rcs es) → ∃ R' v', Ending.returned (qp wb.heap.size) = .returned (qp R') ∧ w.heap.size ≤ R' ∧ RL (wb.alloc (.cells #[.int .i64 a.bl, .int .u64 a.last, .slice p1 a.L.length c1] 103)) (Gp w (wb.alloc (.cells #[.int .i64 a.bl, .int .u64 a.last, .slice p1 a.L.length c1] 103)) G) R' v' a es ∧ Below w.heap.size w (wb.alloc (.cells #[.int .i64 a.bl, .int .u64 a.last, .slice p1 a.L.length c1] 103))) := fun wb p1 c1 hF => by
    obtain ⟨h1, h2, h3⟩ := h.copied (n := a.L.length) h.len.symm (below_drawn 1) hF
    exact ⟨_, _, rfl, h3, h1, h2⟩
  clear h
  generalize a.L.length = n at *
  generalize ((a.bl : Nat) : Int) = bl at *
  generalize hla : a.last = la at *
  clear hla
  go_enter Try.func29, Try.ntmps29
  go_wp2_with fail
  refine wp_region_noPanic ?_
  refine wp_region_held_drew (S := Bw w.drew) (by kernel_rfl) (Below.refl _ _) (fun hHeld => ?_)
  have HBe : Hid (Below w.heap.size w w.drew) := below_drawn 1
  have HR : Hid (w.drew.ownsRow 0 97 3 (.slice p n c) n (rcs es)) := O.own_later HR0.out HBe.out
  have HL : Hid (∀ w1, Bw w.drew w1 → w1.cell? ⟨R, 0, none⟩ = some (.int .i64 bl) ∧ w1.cell? ⟨R, 1, none⟩ = some (.int .u64 la) ∧ w1.cell? ⟨R, 2, none⟩ = some (.slice p n c)) := fun w1 hb => HL0.out w1 (below_then HBe.out hb)
  clear HL0 HR0 HBe
  generalize w.drew = we at *
  refine wpAnyH_take (i := 0) (v := ?va18) (by simp; rfl) (by kernel_rfl) (by kernel_rfl) (by kernel_rfl) (fun _ _ _ h => h) (Or.inl ⟨by rfl, ?ya18⟩) hHeld ?ra18
  case ya18 => intro w hSw; clear hSw; go_simp; with_reducible rfl
  simp only [Act.put, List.setIfInBounds_toArray, List.set_cons_zero, List.set_cons_succ]
  refine wpAnyH_take (i := 1) (v := ?va19) (by simp; rfl) (by kernel_rfl) (by kernel_rfl) (by kernel_rfl) (fun _ _ _ h => h) (Or.inl ⟨by rfl, ?ya19⟩) hHeld ?ra19
  case ya19 => intro w hSw; clear hSw; go_simp; with_reducible rfl
  simp only [Act.put, List.setIfInBounds_toArray, List.set_cons_zero, List.set_cons_succ]
  refine wpAnyH_take (i := 2) (v := ?va20) (by simp; rfl) (by kernel_rfl) (by kernel_rfl) (by kernel_rfl) (fun _ _ _ h => h) (Or.inl ⟨by rfl, ?ya20⟩) hHeld ?ra20
  case ya20 => intro w hSw; clear hSw; go_simp; with_reducible rfl
  simp only [Act.put, List.setIfInBounds_toArray, List.set_cons_zero, List.set_cons_succ]
  refine wpAnyH_take (i := 3) (v := ?va21) (by simp; rfl) (by kernel_rfl) (by kernel_rfl) (by kernel_rfl) (fun _ _ _ h => h) (Or.inl ⟨by rfl, ?ya21⟩) hHeld ?ra21
  case ya21 => intro w hSw; have z := (HL.out w hSw).1; clear hSw; go_simp; with_reducible rfl
  simp only [Act.put, List.setIfInBounds_toArray, List.set_cons_zero, List.set_cons_succ]
  refine wpAnyH_take (i := 4) (v := ?va22) (by simp; rfl) (by kernel_rfl) (by kernel_rfl) (by kernel_rfl) (fun _ _ _ h => h) (Or.inl ⟨by rfl, ?ya22⟩) hHeld ?ra22
  case ya22 => intro w hSw; clear hSw; go_simp; with_reducible rfl
  simp only [Act.put, List.setIfInBounds_toArray, List.set_cons_zero, List.set_cons_succ]
  refine wpAnyH_take (i := 5) (v := ?va23) (by simp; rfl) (by kernel_rfl) (by kernel_rfl) (by kernel_rfl) (fun _ _ _ h => h) (Or.inl ⟨by rfl, ?ya23⟩) hHeld ?ra23
  case ya23 => intro w hSw; clear hSw; go_simp; with_reducible rfl
  simp only [Act.put, List.setIfInBounds_toArray, List.set_cons_zero, List.set_cons_succ]
  refine wpAnyH_take (i := 6) (v := ?va24) (by simp; rfl) (by kernel_rfl) (by kernel_rfl) (by kernel_rfl) (fun _ _ _ h => h) (Or.inl ⟨by rfl, ?ya24⟩) hHeld ?ra24
  case ya24 => intro w hSw; clear hSw; go_simp; with_reducible rfl
  simp only [Act.put, List.setIfInBounds_toArray, List.set_cons_zero, List.set_cons_succ]
  refine wpAnyH_take (i := 7) (v := ?va25) (by simp; rfl) (by kernel_rfl) (by kernel_rfl) (by kernel_rfl) (fun _ _ _ h => h) (Or.inl ⟨by rfl, ?ya25⟩) hHeld ?ra25
  case ya25 => intro w hSw; have z := (HL.out w hSw).2.1; clear hSw; go_simp; with_reducible rfl
  simp only [Act.put, List.setIfInBounds_toArray, List.set_cons_zero, List.set_cons_succ]
  refine wpAnyH_take (i := 9) (v := ?va26) (by simp; rfl) (by kernel_rfl) (by kernel_rfl) (by kernel_rfl) (fun _ _ _ h => h) (Or.inl ⟨by rfl, ?ya26⟩) hHeld ?ra26
  case ya26 => intro w hSw; clear hSw; go_simp; with_reducible rfl
  simp only [Act.put, List.setIfInBounds_toArray, List.set_cons_zero, List.set_cons_succ]
  refine wpAnyH_take (i := 10) (v := ?va27) (by simp; rfl) (by kernel_rfl) (by kernel_rfl) (by kernel_rfl) (fun _ _ _ h => h) (Or.inl ⟨by rfl, ?ya27⟩) hHeld ?ra27
  case ya27 => intro w hSw; clear hSw; go_simp; with_reducible rfl
  simp only [Act.put, List.setIfInBounds_toArray, List.set_cons_zero, List.set_cons_succ]
  refine wpAnyH_take (i := 11) (v := ?va28) (by simp; rfl) (by kernel_rfl) (by kernel_rfl) (by kernel_rfl) (fun _ _ _ h => h) (Or.inl ⟨by rfl, ?ya28⟩) hHeld ?ra28
  case ya28 => intro w hSw; clear hSw; go_simp; with_reducible rfl
  simp only [Act.put, List.setIfInBounds_toArray, List.set_cons_zero, List.set_cons_succ]
  refine wpAnyH_take (i := 12) (v := ?va29) (by simp; rfl) (by kernel_rfl) (by kernel_rfl) (by kernel_rfl) (fun _ _ _ h => h) (Or.inl ⟨by rfl, ?ya29⟩) hHeld ?ra29
  case ya29 => intro w hSw; have z := (HL.out w hSw).2.2; clear hSw; go_simp; with_reducible rfl
  simp only [Act.put, List.setIfInBounds_toArray, List.set_cons_zero, List.set_cons_succ]
  refine wpAnyH_ready (rs := [8]) (by kernel_rfl) (by simp) ?_
  refine AllReadyH.cons (by simp; rfl) (fun Kc hKc => ?_) AllReadyH.nil
  go_simp
  have F1 : Hid (O.FR we (we.alloc (.cells #[] 97)) we.heap.size 97 3 (.slice (some ⟨we.heap.size, 0, none⟩) 0 0) 0 []) := O.FR.empty 97 3 (Below.refl _ _) (Nat.le_refl _)
  have F1' : Hid (Bw we (we.alloc (.cells #[] 97))) := F1.out.below
  refine hKc.out _ _ F1'.out (fun hHeld => ?_)
  clear hKc Kc
  revert F1 F1' hHeld
  generalize we.alloc (.cells #[] 97) = wa
  generalize hge : we.heap.size = ge
  intro F1 F1' hHeld
  refine wpAnyH_ready (rs := [13]) (by kernel_rfl) (by simp) ?_
  refine AllReadyH.cons (by simp; rfl) (fun Kc hKc => ?_) AllReadyH.nil
  refine O.step_own_any (v := .slice (some ⟨ge, 0, none⟩) 0 0) (u := .slice p n c) (n := 0) (m := n) (base := ge) (base' := 0) rfl (.tmp 11) (.tmp 15) O.elE rfl rfl F1.out.own rfl (O.own_later HR.out F1.out.below) (ones_r es) (by omega) (by have := F1.out.below.size; omega) ?_
  intro v1 wb ho hk hv
  have F2 : Hid (O.FR we wb ge 97 3 v1 n (rcs es)) := by have h := F1.out.app ho hk hv; rw [Nat.zero_add, List.nil_append] at h; exact h
  have F2' : Hid (Bw we wb) := F2.out.below
  obtain ⟨p1, c1, e1⟩ := O.own_shape F2.out.own
  subst e1
  clear ho hk hv F1 F1'
  refine hKc.out _ _ F2'.out (fun hHeld => ?_)
  clear hKc Kc
  simp only [Act.put, List.setIfInBounds_toArray, List.set_cons_zero, List.set_cons_succ]
  refine wpAnyH_ready (rs := [14]) (by kernel_rfl) (by simp) ?_
  refine AllReadyH.cons (by simp; rfl) (fun Kc hKc => ?_) AllReadyH.nil
  go_simp
  refine hKc.out _ _ F2'.out (fun hHeld => ?_)
  clear hKc Kc
  refine wpAnyH_ready (rs := [15]) (by kernel_rfl) (by simp) ?_
  refine AllReadyH.cons (by simp; rfl) (fun Kc hKc => ?_) AllReadyH.nil
  go_simp
  have F3' : Hid (Bw we (wb.alloc (.cells #[.int .i64 bl, .int .u64 la, .slice p1 n c1] 103))) := below_then F2.out.below (below_alloc _ _)
  refine hKc.out _ _ F3'.out (fun hHeld => ?_)
  clear hKc Kc
  refine wpAnyH_ready (rs := [16]) (by kernel_rfl) (by simp) ?_
  refine AllReadyH.cons (by simp; rfl) (fun Kc hKc => ?_) AllReadyH.nil
  go_simp
  refine hKc.out _ _ F3'.out (fun hHeld => ?_)
  clear hKc Kc
  refine wpAnyH_done (by kernel_rfl) (NoPanic.normal ?_) _
  go_wp2
  go_ret
  exact HFIN.out wb p1 c1 (by rw [hge]; exact F2.out)
end
end Go.Proofs.Ytkffmglcllhbmaa
