/-
  Layer 9, the functions: add.
-/
import Derived.Test.YtefnkjajjidfaaaDoorUc
import Derived.Test.YtefnkjajjidfaaaDoorLc
namespace Go.Proofs.YtefnkjajjidfaaaDoor
open Go.RowKit


theorem Kept.wider {S T : Nat → Prop} {a b : World} (h : Kept S a b) (hs : ∀ k, k < a.heap.size → S k → T k) : Kept T a b :=
  ⟨h.os, h.tape, h.output, h.size, fun k hk ht => h.block k hk fun hs' => ht (hs k hk hs')⟩
theorem kept_set (w : World) (L j : Nat) (v : Value) : Kept (fun k => k = L) w (w.setCell ⟨L, j, none⟩ v) := ⟨rfl, rfl, rfl, by simp [World.setCell], fun k _ hk => heap_setCell_other w ⟨L, j, none⟩ k v hk⟩
/-- a log that was stored into -/
theorem LD.of {w w' : World} {S : Nat → Prop} {L p : Nat} {d : List Int} {ws : List Wr} {g g' : Lg} (h : LD w S L p d ws g) (hk : Kept (fun k => k = L) w w') (hg : GAt w' L (some ⟨p, 0, none⟩) g') (hc : g'.c = g.c) (ok : g'.Ok) : LD w' S L p d ws g' := by
  have hz : g'.sz = g.sz := by unfold Lg.sz; rw [hc]
  refine ⟨hg, ?_, h.sl, ok⟩
  rw [hz]
  exact h.dsk.kept hk (fun k s t => s.2 t)
theorem write_at {w : World} {S : Nat → Prop} {p n : Nat} {d : List Int} {ws : List Wr} (h : Dsk w S p n d ws) (i : Int) (h0 : 0 ≤ i) (h1 : i < n) (a : Option Addr) (c : Nat) (b : List Int) (hb : BIn w a 64 b) (hk : ws.length ≤ 100000) : Calls Tryd.prog 19 #[.pointer (some ⟨p, 0, none⟩), .int .i64 i, .slice a 64 c] w fun e w' => e = .returned (.int .i64 0) ∧ Dsk w' (More S w) p n d (ws ++ [⟨i.toNat, b⟩]) ∧ Kept S w w' := by
  have e0 : ((i.toNat : Nat) : Int) = i := by omega
  have := write_good h i.toNat (by omega) a c b hb hk
  rw [e0] at this
  exact this
theorem read_at {w : World} {S : Nat → Prop} {p n : Nat} {d : List Int} {ws : List Wr} (h : Dsk w S p n d ws) (i : Int) (h0 : 0 ≤ i) (h1 : i < n) : Calls Tryd.prog 16 #[.pointer (some ⟨p, 0, none⟩), .int .i64 i] w fun e w' => ∃ q c, e = .returned (.tuple #[.slice q 64 c, .int .i64 0]) ∧ BIn w' q 64 (newest ws d i.toNat) ∧ 64 ≤ c ∧ Below w.heap.size w w' := by
  have e0 : ((i.toNat : Nat) : Int) = i := by omega
  have := read_good h i.toNat (by omega)
  rw [e0] at this
  obtain ⟨q', cap, v', hp⟩ := h
  refine this.mono ?_
  rintro e w' ⟨v, rfl, hown, hb⟩
  obtain ⟨q, c, rfl, hr, hc, _⟩ := own_in hown (newk_bytes hp.db hp.fit _)
  exact ⟨q, c, rfl, hr, hc, hb⟩

set_option maxHeartbeats 2000000 in
set_option maxRecDepth 100000 in
theorem add_low {w : World} {S : Nat → Prop} {L p : Nat} {d : List Int} {ws : List Wr} {g : Lg} (h : LD w S L p d ws g) (hS : ∀ k, S k → k < w.heap.size) (hk : ws.length ≤ 100000) (ht : Tab w) (r : R.Rec) (hv : r.val.length = 32) (hw : R.Rec.Wf ⟨r.kind, g.fin, r.block, r.val, r.images⟩) (hm : R.may ⟨r.kind, g.fin, r.block, r.val, r.images⟩ = true) (hf : g.fin < 4611686018427387904) :
    Calls Tryd.prog 63 #[.pointer (some ⟨L, 0, none⟩), .agg (R.rcells r).toArray] w fun e w' => e = .returned (.tuple #[.int .u64 g.fin, .int .i64 0]) ∧ Dsk w' (More (fun k => S k ∧ k ≠ L) w) p g.sz d (ws ++ [⟨(secN g g.fin).toNat, R.encS ⟨r.kind, g.fin, r.block, r.val, r.images⟩⟩]) ∧ GAt w' L (some ⟨p, 0, none⟩) (addG g) ∧ Kept S w w' := by
  obtain ⟨r', hr'⟩ : ∃ x : R.Rec, x = ⟨r.kind, g.fin, r.block, r.val, r.images⟩ := ⟨_, rfl⟩
  rw [← hr'] at hw hm ⊢
  have hlr : r'.val.length = 32 := by rw [hr']; exact hv
  have hpos : r'.pos = g.fin := by rw [hr']
  have hset : (R.rcells r).set 1 (.int .u64 g.fin) = R.rcells r' := by rw [hr']; rfl
  have hget : (R.rcells r)[1]? = some (.int .u64 r.pos) := rfl
  obtain ⟨w1, hw1⟩ : ∃ x, x = w.alloc (.cells (R.rcells r').toArray 60) := ⟨_, rfl⟩
  have ew := hw1.symm
  have HG : Hid (LD w S L p d ws g) := h
  have HS : Hid (∀ k, S k → k < w.heap.size) := hS
  have HW : Hid (r'.Wf ∧ R.may r' = true) := ⟨hw, hm⟩
  have HT : Hid (Tab w) := ht
  have B1 : Hid (Below w.heap.size w w1) := by rw [hw1]; exact below_alloc w _
  have A1 : Hid (R.RAt 60 w1 w.heap.size r') := by rw [hw1]; exact R.RAt.new 60 w r'
  have L1 : Hid (_) := R.RAt.load31 A1.out hlr
  have hf0 : 0 ≤ g.fin := by have := h.ok.t0; have := h.ok.tm; have := h.ok.mf; omega
  have hLlt := LAt.lt h.log
  have c8 := GAt.c8 h.log
  clear h hS hw1 hr' ht hw hm
  go_enter Tryd.func63, Tryd.ntmps63
  go_wp2_with ((with_reducible refine at_ops ?_); (refine wpList_load_is (by rfl) 60 rfl rfl L1.out ?_); simp only [Act.put, List.setIfInBounds_toArray, List.set_cons_zero, List.set_cons_succ])
  refine (R.encode_good r' HW.out.1 HW.out.2 w1 (HT.out.later B1.out).half).mono ?_
  rintro e w2 ⟨q2, c2', rfl, m2⟩
  have B2 : Hid (Below w.heap.size w w2) := below_then B1.out m2.below
  have HG2 : Hid (LD w2 S L p d ws g) := HG.out.later B2.out
  have A2 : Hid (R.RAt 60 w2 w.heap.size r') := R.RAt.later A1.out m2.below
  have X2 : Hid (BIn w2 q2 64 (R.encS r')) := m2.read
  clear m2 A1 L1 ew hget hset c8
  go_wp2_with fail
  refine wp_region_noPanic ?_
  refine wp_region_held_drew (S := fun w' => w'.cell? ⟨L, 0, none⟩ = some (.pointer (some ⟨p, 0, none⟩)) ∧ w'.cell? ⟨w.heap.size, 1, none⟩ = some (.int .u64 g.fin)) (by kernel_rfl) (by
    refine ⟨GAt.c0 HG2.out.log, ?_⟩
    rw [← hpos]
    exact A2.out.c1) (fun hHeld => ?_)
  have D2 : Hid (Below w2.heap.size w2 w2.drew) := below_drawn 1
  generalize w2.drew = wd at *
  refine wpAnyH_take (i := 0) (v := ?va1) (by simp; rfl) (by kernel_rfl) (by kernel_rfl) (by kernel_rfl) (fun _ _ _ h => h) (Or.inl ⟨by rfl, ?ya1⟩) hHeld ?ra1
  case ya1 => intro w hSw; clear hSw; go_simp; with_reducible rfl
  simp only [Act.put, List.setIfInBounds_toArray, List.set_cons_zero, List.set_cons_succ]
  refine wpAnyH_take (i := 1) (v := ?va2) (by simp; rfl) (by kernel_rfl) (by kernel_rfl) (by kernel_rfl) (fun _ _ _ h => h) (Or.inl ⟨by rfl, ?ya2⟩) hHeld ?ra2
  case ya2 => intro w hSw; clear hSw; go_simp; with_reducible rfl
  simp only [Act.put, List.setIfInBounds_toArray, List.set_cons_zero, List.set_cons_succ]
  refine wpAnyH_take (i := 2) (v := ?va3) (by simp; rfl) (by kernel_rfl) (by kernel_rfl) (by kernel_rfl) (fun _ _ _ h => h) (Or.inl ⟨by rfl, ?ya3⟩) hHeld ?ra3
  case ya3 => intro w hSw; clear hSw; go_simp; with_reducible rfl
  simp only [Act.put, List.setIfInBounds_toArray, List.set_cons_zero, List.set_cons_succ]
  refine wpAnyH_take (i := 3) (v := ?va4) (by simp; rfl) (by kernel_rfl) (by kernel_rfl) (by kernel_rfl) (fun _ _ _ h => h) (Or.inl ⟨by rfl, ?ya4⟩) hHeld ?ra4
  case ya4 => intro w hSw; have z := hSw.1; clear hSw; go_simp; with_reducible rfl
  simp only [Act.put, List.setIfInBounds_toArray, List.set_cons_zero, List.set_cons_succ]
  refine wpAnyH_take (i := 4) (v := ?va5) (by simp; rfl) (by kernel_rfl) (by kernel_rfl) (by kernel_rfl) (fun _ _ _ h => h) (Or.inl ⟨by rfl, ?ya5⟩) hHeld ?ra5
  case ya5 => intro w hSw; clear hSw; go_simp; with_reducible rfl
  simp only [Act.put, List.setIfInBounds_toArray, List.set_cons_zero, List.set_cons_succ]
  refine wpAnyH_take (i := 5) (v := ?va6) (by simp; rfl) (by kernel_rfl) (by kernel_rfl) (by kernel_rfl) (fun _ _ _ h => h) (Or.inl ⟨by rfl, ?ya6⟩) hHeld ?ra6
  case ya6 => intro w hSw; clear hSw; go_simp; with_reducible rfl
  simp only [Act.put, List.setIfInBounds_toArray, List.set_cons_zero, List.set_cons_succ]
  refine wpAnyH_take (i := 6) (v := ?va7) (by simp; rfl) (by kernel_rfl) (by kernel_rfl) (by kernel_rfl) (fun _ _ _ h => h) (Or.inl ⟨by rfl, ?ya7⟩) hHeld ?ra7
  case ya7 => intro w hSw; have z := hSw.2; clear hSw; go_simp; with_reducible rfl
  simp only [Act.put, List.setIfInBounds_toArray, List.set_cons_zero, List.set_cons_succ]
  refine wpAnyH_take (i := 8) (v := ?va8) (by simp; rfl) (by kernel_rfl) (by kernel_rfl) (by kernel_rfl) (fun _ _ _ h => h) (Or.inl ⟨by rfl, ?ya8⟩) hHeld ?ra8
  case ya8 => intro w hSw; clear hSw; go_simp; with_reducible rfl
  simp only [Act.put, List.setIfInBounds_toArray, List.set_cons_zero, List.set_cons_succ]
  refine wpAnyH_ready (rs := [7]) (by kernel_rfl) (by simp) ?_
  refine AllReadyH.cons (by simp; rfl) (fun Kc hKc => ?_) AllReadyH.nil
  go_simp
  refine (sector_at (LAt.later HG2.out.log D2.out) HG.out.ok g.fin hf0 (by omega)).mono ?_
  rintro e wn ⟨rfl, rfl⟩
  refine hKc.out _ _ hHeld (fun hHeld => ?_)
  clear hKc Kc
  refine wpAnyH_ready (rs := [9]) (by kernel_rfl) (by simp) ?_
  refine AllReadyH.cons (by simp; rfl) (fun Kc hKc => ?_) AllReadyH.nil
  go_simp
  refine (write_at (HG2.out.later D2.out).dsk (secN g g.fin) (secN_in HG.out.ok _).1 (secN_in HG.out.ok _).2 q2 c2' _ (X2.out.later D2.out) hk).mono ?_
  rintro e w3 ⟨rfl, d3, k3⟩
  have Y3 : Hid (Dsk w3 (More (fun k => S k ∧ k ≠ L) wd) p g.sz d (ws ++ [⟨(secN g g.fin).toNat, R.encS r'⟩]) ∧ GAt w3 L (some ⟨p, 0, none⟩) g ∧ Kept (fun k => S k ∧ k ≠ L) wd w3 ∧ w3.cell? ⟨w.heap.size, 1, none⟩ = some (.int .u64 g.fin)) := by
    have hz := B2.out.size
    have hz2 := D2.out.size
    have hA := A2.out.lt
    refine ⟨d3, (k3.block L (by omega) (fun t => t.2 rfl)).trans (LAt.later HG2.out.log D2.out), k3, ?_⟩
    rw [World.cell?_of_block (k3.block w.heap.size (by omega) (fun t => by have := HS.out _ t.1; omega))]
    exact hHeld.2
  clear d3 k3
  refine hKc.out _ _ ⟨GAt.c0 Y3.out.2.1, Y3.out.2.2.2⟩ (fun hHeld => ?_)
  clear hKc Kc
  refine wpAnyH_take (i := 10) (v := ?va9) (by simp; rfl) (by kernel_rfl) (by kernel_rfl) (by kernel_rfl) (fun _ _ _ h => h) (Or.inl ⟨by rfl, ?ya9⟩) hHeld ?ra9
  case ya9 => intro w hSw; clear hSw; go_simp; with_reducible rfl
  simp only [Act.put, List.setIfInBounds_toArray, List.set_cons_zero, List.set_cons_succ]
  refine wpAnyH_done (by kernel_rfl) (NoPanic.normal ?_) _
  have c8 := GAt.c8 Y3.out.2.1
  have cf := GAt.free Y3.out.2.1 8
  have c1 := Y3.out.2.2.2
  have hne : ¬ L = w.heap.size := by omega
  have hne2 : ¬ w.heap.size = L := by omega
  have k1 : IntKind.u64.wrap (g.fin + 1) = g.fin + 1 := G.wrap_u (by omega) (by omega)
  clear hHeld X2 A2
  go_wp2_with fail
  go_ret2
  have hs2 := B2.out.size
  have hs3 := Y3.out.2.2.1.size
  refine ⟨rfl, ?_, GAt.setF Y3.out.2.1 _, ?_⟩
  · refine (Y3.out.1.kept (kept_set w3 L 8 (.int .u64 (g.fin + 1))) ?_).mono ?_
    · rintro k (hs | hs) rfl
      · exact hs.2 rfl
      · have := D2.out.size; omega
    · rintro k _ (hs | hs)
      · exact .inl hs
      · exact .inr (by have := D2.out.size; omega)
  · exact ((Kept.of_below (S := S) (below_then B2.out D2.out)).trans (T := fun k => S k ∧ k ≠ L) Y3.out.2.2.1 (fun _ _ t => t.1)).setCell (p := ⟨L, 8, none⟩) (fun _ => HG.out.sl) _
theorem add_good {w : World} {S : Nat → Prop} {L p : Nat} {d : List Int} {ws : List Wr} {g : Lg} (h : LD w S L p d ws g) (hk : ws.length ≤ 100000) (ht : Tab w) (r : R.Rec) (hv : r.val.length = 32) (hw : R.Rec.Wf ⟨r.kind, g.fin, r.block, r.val, r.images⟩) (hm : R.may ⟨r.kind, g.fin, r.block, r.val, r.images⟩ = true) (hf : g.fin < 4611686018427387904) :
    Calls Tryd.prog 63 #[.pointer (some ⟨L, 0, none⟩), .agg (R.rcells r).toArray] w fun e w' => e = .returned (.tuple #[.int .u64 g.fin, .int .i64 0]) ∧ Dsk w' (More (fun k => S k ∧ k ≠ L) w) p g.sz d (ws ++ [⟨(secN g g.fin).toNat, R.encS ⟨r.kind, g.fin, r.block, r.val, r.images⟩⟩]) ∧ GAt w' L (some ⟨p, 0, none⟩) (addG g) ∧ Kept S w w' := by
  refine (add_low (h.mono (T := fun k => S k ∧ k < w.heap.size) fun k hk s => ⟨s, hk⟩) (fun _ s => s.2) hk ht r hv hw hm hf).mono ?_
  rintro e w' ⟨rfl, h1, h2, h3⟩
  refine ⟨rfl, h1.mono ?_, h2, h3.wider fun _ _ s => s.1⟩
  rintro k _ (hs | hs)
  · exact .inl ⟨hs.1.1, hs.2⟩
  · exact .inr hs
end Go.Proofs.YtefnkjajjidfaaaDoor
