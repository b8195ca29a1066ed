import Derived.Test.YtdadpepfpiimgaaGreatDoorZ06
set_option maxHeartbeats 20000000
set_option maxRecDepth 100000
namespace Go.Proofs.YtdadpepfpiimgaaGreatDoor
open Go.RowKit
def lcells (dp : Option Addr) (g : Lg) : List Value := [.pointer dp, .int .i64 g.c.bl, .int .i64 g.c.lc, .int .i64 g.c.mr, .int .i64 g.c.hi, .int .i64 g.c.cl, .int .u64 g.life, .int .u64 g.tail, .int .u64 g.fin, .int .u64 g.mark, .int .i64 g.imgs, .int .i64 g.last]
abbrev GAt (w : World) (L : Nat) (dp : Option Addr) (g : Lg) : Prop := LAt 125 w L (lcells dp g)
section
variable {w : World} {L : Nat} {dp : Option Addr} {g : Lg}
theorem GAt.c0 (h : GAt w L dp g) : w.cell? ⟨L, 0, none⟩ = some (.pointer dp) := LAt.cell h 0
theorem GAt.c1 (h : GAt w L dp g) : w.cell? ⟨L, 1, none⟩ = some (.int .i64 g.c.bl) := LAt.cell h 1
theorem GAt.c2 (h : GAt w L dp g) : w.cell? ⟨L, 2, none⟩ = some (.int .i64 g.c.lc) := LAt.cell h 2
theorem GAt.c3 (h : GAt w L dp g) : w.cell? ⟨L, 3, none⟩ = some (.int .i64 g.c.mr) := LAt.cell h 3
theorem GAt.c7 (h : GAt w L dp g) : w.cell? ⟨L, 7, none⟩ = some (.int .u64 g.tail) := LAt.cell h 7
theorem GAt.c8 (h : GAt w L dp g) : w.cell? ⟨L, 8, none⟩ = some (.int .u64 g.fin) := LAt.cell h 8
theorem GAt.c10 (h : GAt w L dp g) : w.cell? ⟨L, 10, none⟩ = some (.int .i64 g.imgs) := LAt.cell h 10
theorem GAt.c11 (h : GAt w L dp g) : w.cell? ⟨L, 11, none⟩ = some (.int .i64 g.last) := LAt.cell h 11
theorem GAt.free (h : GAt w L dp g) (j : Nat) : w.frozen? ⟨L, j, none⟩ = false := frozen_of_row w L j _ 125 h
theorem GAt.setF (h : GAt w L dp g) (x : Int) : GAt (w.setCell ⟨L, 8, none⟩ (.int .u64 x)) L dp { g with fin := x } := LAt.set h 8 _
theorem GAt.setI (h : GAt w L dp g) (x : Int) : GAt (w.setCell ⟨L, 10, none⟩ (.int .i64 x)) L dp { g with imgs := x } := LAt.set h 10 _
theorem GAt.setB (h : GAt w L dp g) (x : Int) : GAt (w.setCell ⟨L, 11, none⟩ (.int .i64 x)) L dp { g with last := x } := LAt.set h 11 _
end
structure LD (w : World) (S : Nat → Prop) (L p : Nat) (d : List Int) (ws : List Wr) (g : Lg) : Prop where
  log : GAt w L (some ⟨p, 0, none⟩) g
  dsk : Dsk w (fun k => S k ∧ k ≠ L) p g.sz d ws
  sl : S L
  ok : g.Ok
section
variable {w w' : World} {S T : Nat → Prop} {L p : Nat} {d : List Int} {ws : List Wr} {g : Lg}
theorem LD.later (h : LD w S L p d ws g) (hb : Below w.heap.size w w') : LD w' S L p d ws g := ⟨LAt.later h.log hb, h.dsk.later hb, h.sl, h.ok⟩
theorem LD.kept (h : LD w S L p d ws g) (hk : Kept T w w') (hd : ∀ k, S k → T k → False) : LD w' S L p d ws g :=
  ⟨(hk.block L (LAt.lt h.log) (fun t => hd L h.sl t)).trans h.log, h.dsk.kept hk (fun k s t => hd k s.1 t), h.sl, h.ok⟩
theorem LD.mono (h : LD w S L p d ws g) (hs : ∀ k, k < w.heap.size → S k → T k) : LD w T L p d ws g :=
  ⟨h.log, h.dsk.mono fun k hk s => ⟨hs k hk s.1, s.2⟩, hs L (LAt.lt h.log) h.sl, h.ok⟩
theorem LD.flushed (h : LD w S L p d ws g) {d' : List Int} {ws' : List Wr} (hd : Dsk w' (fun k => S k ∧ k ≠ L) p g.sz d' ws') (hk : Kept (fun k => S k ∧ k ≠ L) w w') : LD w' S L p d' ws' g ∧ Kept S w w' := by
  have hL := LAt.lt h.log
  exact ⟨⟨(hk.block L hL (fun t => t.2 rfl)).trans h.log, hd, h.sl, h.ok⟩, ⟨hk.os, hk.tape, hk.output, hk.size, fun k h1 h2 => hk.block k h1 fun t => h2 t.1⟩⟩
end
set_option maxHeartbeats 1000000 in
set_option maxRecDepth 100000 in
theorem lacks_some {w : World} {L p : Nat} {g : Lg} (h : GAt w L (some ⟨p, 0, none⟩) g) : Calls Tryz.prog 88 #[.pointer (some ⟨L, 0, none⟩)] w fun e w' => e = .returned (.bool false) ∧ w = w' := by
  have c0 := GAt.c0 h
  clear h
  go_enter Tryz.func88, Tryz.ntmps88
  go_wp2
  go_ret
  exact ⟨rfl, rfl⟩
set_option maxHeartbeats 1000000 in
set_option maxRecDepth 100000 in
theorem ltail_at {w : World} {L : Nat} {dp : Option Addr} {g : Lg} (h : GAt w L dp g) : Calls Tryz.prog 134 #[.pointer (some ⟨L, 0, none⟩)] w fun e w' => e = .returned (.int .u64 g.tail) ∧ w = w' := by
  have c7 := GAt.c7 h
  clear h
  go_enter Tryz.func134, Tryz.ntmps134
  go_wp2
  go_ret
  exact ⟨rfl, rfl⟩
set_option maxHeartbeats 1000000 in
set_option maxRecDepth 100000 in
theorem lend_at {w : World} {L : Nat} {dp : Option Addr} {g : Lg} (h : GAt w L dp g) : Calls Tryz.prog 133 #[.pointer (some ⟨L, 0, none⟩)] w fun e w' => e = .returned (.int .u64 g.fin) ∧ w = w' := by
  have c8 := GAt.c8 h
  clear h
  go_enter Tryz.func133, Tryz.ntmps133
  go_wp2
  go_ret
  exact ⟨rfl, rfl⟩
set_option maxHeartbeats 1000000 in
set_option maxRecDepth 100000 in
theorem lused_at {w : World} {L : Nat} {dp : Option Addr} {g : Lg} (h : GAt w L dp g) (ok : g.Ok) : Calls Tryz.prog 113 #[.pointer (some ⟨L, 0, none⟩)] w fun e w' => e = .returned (.int .i64 (g.fin - g.tail)) ∧ w = w' := by
  have HG : Hid (GAt w L dp g) := h
  have hn : 0 ≤ g.fin - g.tail ∧ g.fin - g.tail ≤ 64 := by have := ok.tm; have := ok.mf; have := ok.us; have := ok.cf.2.1; omega
  clear h ok
  go_enter Tryz.func113, Tryz.ntmps113
  go_wp2_with fail
  refine (lend_at HG.out).mono ?_
  rintro e w1 ⟨rfl, rfl⟩
  go_wp2_with fail
  refine (ltail_at HG.out).mono ?_
  rintro e w1 ⟨rfl, rfl⟩
  have k1 : IntKind.u64.wrap (g.fin - g.tail) = g.fin - g.tail := G.wrap_u hn.1 (by omega)
  have k2 : RowKit.wrap64 (g.fin - g.tail) = g.fin - g.tail := by have := IntKind.wrap_i64 (g.fin - g.tail); unfold RowKit.wrap64; omega
  go_wp2
  go_ret
  exact ⟨rfl, rfl⟩
theorem slot_of {g : Lg} (ok : g.Ok) {p : Int} (h1 : p ≤ 4611686018427387904) : G.slotS p g.c.lc = (p % g.c.lc, 0) := by
  have := ok.cf.2.1
  unfold G.slotS
  rw [if_pos ⟨by omega, by omega⟩, if_neg (by omega)]
set_option maxHeartbeats 1000000 in
set_option maxRecDepth 100000 in
theorem sector_at {w : World} {L : Nat} {dp : Option Addr} {g : Lg} (h : GAt w L dp g) (ok : g.Ok) (p : Int) (h0 : 0 ≤ p) (h1 : p ≤ 4611686018427387904) : Calls Tryz.prog 114 #[.pointer (some ⟨L, 0, none⟩), .int .u64 p] w fun e w' => e = .returned (.int .i64 (secN g p)) ∧ w = w' := by
  have c1 := GAt.c1 h
  have c2 := GAt.c2 h
  have HS : Hid (_) := slot_of ok h1
  have HN : Hid (secN g p = 1 + g.c.bl + p % g.c.lc) := rfl
  have hb := ok.cf.1
  have hl := ok.cf.2.1
  have hm0 := Int.emod_nonneg p (show g.c.lc ≠ 0 by omega)
  have hm1 := Int.emod_lt_of_pos p (show 0 < g.c.lc by omega)
  clear h ok
  go_enter Tryz.func114, Tryz.ntmps114
  go_wp2_with fail
  refine (G.slot_any p g.c.lc h0 w).mono ?_
  rintro e w1 ⟨rfl, rfl⟩
  rw [HS.out]
  have k1 : IntKind.i64.wrap (1 + g.c.bl) = 1 + g.c.bl := by rw [IntKind.wrap_i64]; omega
  have k2 : IntKind.i64.wrap (1 + g.c.bl + p % g.c.lc) = 1 + g.c.bl + p % g.c.lc := by rw [IntKind.wrap_i64]; omega
  go_wp2
  go_ret
  exact ⟨by rw [HN.out]; rfl, rfl⟩
end Go.Proofs.YtdadpepfpiimgaaGreatDoor
namespace Go.Proofs.YtdadpepfpiimgaaGreatDoor
open Go.RowKit
set_option maxHeartbeats 1000000 in
set_option maxRecDepth 100000 in
theorem more_at {w : World} {L p : Nat} {g : Lg} (h : GAt w L (some ⟨p, 0, none⟩) g) (ok : g.Ok) : Calls Tryz.prog 86 #[.pointer (some ⟨L, 0, none⟩)] w fun e w' => e = .returned (.int .i64 (moreS g)) ∧ Below w.heap.size w w' := by
  have HG : Hid (GAt w L (some ⟨p, 0, none⟩) g) := h
  have HO : Hid g.Ok := ok
  have HR : Hid (Below w.heap.size w w) := Below.refl _ _
  have c8 := GAt.c8 h
  have c2 := GAt.c2 h
  have hf : 0 ≤ g.fin ∧ g.fin ≤ 4611686018427387904 := by have := ok.t0; have := ok.tm; have := ok.mf; have := ok.fM; omega
  clear h ok
  go_enter Tryz.func86, Tryz.ntmps86
  go_wp2_with fail
  refine (lacks_some HG.out).mono ?_
  rintro e w1 ⟨rfl, rfl⟩
  by_cases h1 : g.fin = 4611686018427387904
  · have HE : Hid (moreS g = 31) := moreS_max h1
    go_wp2_with fail
    go_ret
    exact ⟨by rw [HE.out]; rfl, HR.out⟩
  · by_cases h2 : g.fin - g.tail = g.c.lc
    · have HE : Hid (moreS g = 90) := moreS_full h1 h2
      go_wp2_with fail
      refine wp_region_noPanic ?_
      refine wp_region_held_drew (S := fun w' => Below w.heap.size w w') (by kernel_rfl) (below_drawn 1) (fun hHeld => ?_)
      have D : Hid (Below w.heap.size w w.drew) := hHeld
      generalize w.drew = wd at *
      have HC2 : Hid (∀ w', Below w.heap.size w w' → w'.cell? ⟨L, 2, none⟩ = some (.int .i64 g.c.lc)) := fun w' hb => GAt.c2 (LAt.later HG.out hb)
      refine wpAnyH_take (i := 0) (v := ?va1) (by simp; rfl) (by kernel_rfl) (by kernel_rfl) (by kernel_rfl) (fun _ _ _ h => h) (Or.inl ⟨by rfl, ?ya1⟩) hHeld ?ra1
      case ya1 => intro w hSw; clear hSw; go_simp; with_reducible rfl
      simp only [Act.put, List.setIfInBounds_toArray, List.set_cons_zero, List.set_cons_succ]
      refine wpAnyH_take (i := 2) (v := ?va2) (by simp; rfl) (by kernel_rfl) (by kernel_rfl) (by kernel_rfl) (fun _ _ _ h => h) (Or.inl ⟨by rfl, ?ya2⟩) hHeld ?ra2
      case ya2 => intro w hSw; clear hSw; go_simp; with_reducible rfl
      simp only [Act.put, List.setIfInBounds_toArray, List.set_cons_zero, List.set_cons_succ]
      refine wpAnyH_take (i := 3) (v := ?va3) (by simp; rfl) (by kernel_rfl) (by kernel_rfl) (by kernel_rfl) (fun _ _ _ h => h) (Or.inl ⟨by rfl, ?ya3⟩) hHeld ?ra3
      case ya3 => intro w hSw; clear hSw; go_simp; with_reducible rfl
      simp only [Act.put, List.setIfInBounds_toArray, List.set_cons_zero, List.set_cons_succ]
      refine wpAnyH_take (i := 4) (v := ?va4) (by simp; rfl) (by kernel_rfl) (by kernel_rfl) (by kernel_rfl) (fun _ _ _ h => h) (Or.inl ⟨by rfl, ?ya4⟩) hHeld ?ra4
      case ya4 => intro w hSw; clear hSw; go_simp; with_reducible rfl
      simp only [Act.put, List.setIfInBounds_toArray, List.set_cons_zero, List.set_cons_succ]
      refine wpAnyH_take (i := 5) (v := ?va5) (by simp; rfl) (by kernel_rfl) (by kernel_rfl) (by kernel_rfl) (fun _ _ _ h => h) (Or.inl ⟨by rfl, ?ya5⟩) hHeld ?ra5
      case ya5 => intro w hSw; clear hSw; go_simp; with_reducible rfl
      simp only [Act.put, List.setIfInBounds_toArray, List.set_cons_zero, List.set_cons_succ]
      refine wpAnyH_take (i := 6) (v := ?va6) (by simp; rfl) (by kernel_rfl) (by kernel_rfl) (by kernel_rfl) (fun _ _ _ h => h) (Or.inl ⟨by rfl, ?ya6⟩) hHeld ?ra6
      case ya6 => intro w hSw; have z := (HC2.out _ hSw); clear hSw; go_simp; with_reducible rfl
      simp only [Act.put, List.setIfInBounds_toArray, List.set_cons_zero, List.set_cons_succ]
      refine wpAnyH_ready (rs := [1]) (by kernel_rfl) (by simp) ?_
      refine AllReadyH.cons (by simp; rfl) (fun Kc hKc => ?_) AllReadyH.nil
      go_simp
      refine (lused_at (LAt.later HG.out D.out) HO.out).mono ?_
      rintro e wn ⟨rfl, rfl⟩
      refine hKc.out _ _ D.out (fun hHeld => ?_)
      clear hKc Kc
      refine wpAnyH_take (i := 7) (v := ?va7) (by simp; rfl) (by kernel_rfl) (by kernel_rfl) (by kernel_rfl) (fun _ _ _ h => h) (Or.inl ⟨by rfl, ?ya7⟩) hHeld ?ra7
      case ya7 => intro w hSw; clear hSw; go_simp; with_reducible rfl
      simp only [Act.put, List.setIfInBounds_toArray, List.set_cons_zero, List.set_cons_succ]
      clear hHeld
      refine wpAnyH_done (by kernel_rfl) (NoPanic.normal ?_) _
      have hq : (g.fin - g.tail == g.c.lc) = true := by simp [h2]
      go_wp2_with fail
      go_ret
      exact ⟨by rw [HE.out]; rfl, D.out⟩
    · have HE : Hid (moreS g = 0) := moreS_ok h1 h2
      go_wp2_with fail
      refine wp_region_noPanic ?_
      refine wp_region_held_drew (S := fun w' => Below w.heap.size w w') (by kernel_rfl) (below_drawn 1) (fun hHeld => ?_)
      have D : Hid (Below w.heap.size w w.drew) := hHeld
      generalize w.drew = wd at *
      have HC2 : Hid (∀ w', Below w.heap.size w w' → w'.cell? ⟨L, 2, none⟩ = some (.int .i64 g.c.lc)) := fun w' hb => GAt.c2 (LAt.later HG.out hb)
      refine wpAnyH_take (i := 0) (v := ?va8) (by simp; rfl) (by kernel_rfl) (by kernel_rfl) (by kernel_rfl) (fun _ _ _ h => h) (Or.inl ⟨by rfl, ?ya8⟩) hHeld ?ra8
      case ya8 => intro w hSw; clear hSw; go_simp; with_reducible rfl
      simp only [Act.put, List.setIfInBounds_toArray, List.set_cons_zero, List.set_cons_succ]
      refine wpAnyH_take (i := 2) (v := ?va9) (by simp; rfl) (by kernel_rfl) (by kernel_rfl) (by kernel_rfl) (fun _ _ _ h => h) (Or.inl ⟨by rfl, ?ya9⟩) hHeld ?ra9
      case ya9 => intro w hSw; clear hSw; go_simp; with_reducible rfl
      simp only [Act.put, List.setIfInBounds_toArray, List.set_cons_zero, List.set_cons_succ]
      refine wpAnyH_take (i := 3) (v := ?va10) (by simp; rfl) (by kernel_rfl) (by kernel_rfl) (by kernel_rfl) (fun _ _ _ h => h) (Or.inl ⟨by rfl, ?ya10⟩) hHeld ?ra10
      case ya10 => intro w hSw; clear hSw; go_simp; with_reducible rfl
      simp only [Act.put, List.setIfInBounds_toArray, List.set_cons_zero, List.set_cons_succ]
      refine wpAnyH_take (i := 4) (v := ?va11) (by simp; rfl) (by kernel_rfl) (by kernel_rfl) (by kernel_rfl) (fun _ _ _ h => h) (Or.inl ⟨by rfl, ?ya11⟩) hHeld ?ra11
      case ya11 => intro w hSw; clear hSw; go_simp; with_reducible rfl
      simp only [Act.put, List.setIfInBounds_toArray, List.set_cons_zero, List.set_cons_succ]
      refine wpAnyH_take (i := 5) (v := ?va12) (by simp; rfl) (by kernel_rfl) (by kernel_rfl) (by kernel_rfl) (fun _ _ _ h => h) (Or.inl ⟨by rfl, ?ya12⟩) hHeld ?ra12
      case ya12 => intro w hSw; clear hSw; go_simp; with_reducible rfl
      simp only [Act.put, List.setIfInBounds_toArray, List.set_cons_zero, List.set_cons_succ]
      refine wpAnyH_take (i := 6) (v := ?va13) (by simp; rfl) (by kernel_rfl) (by kernel_rfl) (by kernel_rfl) (fun _ _ _ h => h) (Or.inl ⟨by rfl, ?ya13⟩) hHeld ?ra13
      case ya13 => intro w hSw; have z := (HC2.out _ hSw); clear hSw; go_simp; with_reducible rfl
      simp only [Act.put, List.setIfInBounds_toArray, List.set_cons_zero, List.set_cons_succ]
      refine wpAnyH_ready (rs := [1]) (by kernel_rfl) (by simp) ?_
      refine AllReadyH.cons (by simp; rfl) (fun Kc hKc => ?_) AllReadyH.nil
      go_simp
      refine (lused_at (LAt.later HG.out D.out) HO.out).mono ?_
      rintro e wn ⟨rfl, rfl⟩
      refine hKc.out _ _ D.out (fun hHeld => ?_)
      clear hKc Kc
      refine wpAnyH_take (i := 7) (v := ?va14) (by simp; rfl) (by kernel_rfl) (by kernel_rfl) (by kernel_rfl) (fun _ _ _ h => h) (Or.inl ⟨by rfl, ?ya14⟩) hHeld ?ra14
      case ya14 => intro w hSw; clear hSw; go_simp; with_reducible rfl
      simp only [Act.put, List.setIfInBounds_toArray, List.set_cons_zero, List.set_cons_succ]
      clear hHeld
      refine wpAnyH_done (by kernel_rfl) (NoPanic.normal ?_) _
      have hq : (g.fin - g.tail == g.c.lc) = false := by simp [h2]
      go_wp2_with fail
      go_ret
      exact ⟨by rw [HE.out]; rfl, D.out⟩
end Go.Proofs.YtdadpepfpiimgaaGreatDoor
namespace Go.Proofs.YtdadpepfpiimgaaGreatDoor
open Go.RowKit
set_option maxHeartbeats 1000000 in
set_option maxRecDepth 100000 in
theorem wref_at (s : Sup) (t l : Int) (ht0 : 0 ≤ t) (hl0 : 0 ≤ l) {w : World} {S : Nat → Prop} {p n : Nat} {d : List Int} {ws : List Wr} (h : Dsk w S p n d ws) :
    Calls Tryz.prog 45 #[.pointer (some ⟨p, 0, none⟩), .agg (ccells s).toArray, .int .u64 t, .int .u64 l] w fun e w' => e = .returned (.int .i64 (opnS s n t l)) ∧ Below w.heap.size w w' := by
  have L1 : Hid (_) := CAt.load23 (LAt.new 23 w (ccells s))
  have HA : Hid (CAt (w.alloc (.cells (ccells s).toArray 23)) w.heap.size s) := LAt.new 23 w (ccells s)
  have HB : Hid (Below w.heap.size w (w.alloc (.cells (ccells s).toArray 23))) := below_alloc w _
  have HD : Hid (Dsk w S p n d ws) := h
  clear h
  go_enter Tryz.func45, Tryz.ntmps45
  go_wp2_with ((with_reducible refine at_ops ?_); (refine wpList_load_is (by rfl) 23 rfl rfl L1.out ?_); simp only [Act.put, List.setIfInBounds_toArray, List.set_cons_zero, List.set_cons_succ])
  refine (config_any s _).mono ?_
  rintro e w1 ⟨rfl, b1⟩
  have HA1 : Hid (CAt w1 w.heap.size s) := LAt.later HA.out b1
  have HB1 : Hid (Below w.heap.size w w1) := below_then HB.out b1
  have HD1 : Hid (Dsk w1 S p n d ws) := HD.out.later HB1.out
  clear b1 HA HB L1 HD
  by_cases hc : MayC s
  · rw [cfg_yes s hc]
    have HC : Hid (MayC s) := hc
    obtain ⟨⟨a1, a2⟩, ⟨a3, a4⟩, -⟩ := hc
    obtain ⟨bl, hbl⟩ : ∃ x, x = s.bl := ⟨_, rfl⟩
    obtain ⟨lc, hlc⟩ : ∃ x, x = s.lc := ⟨_, rfl⟩
    have k1 : IntKind.i64.wrap (1 + bl) = 1 + bl := by rw [IntKind.wrap_i64]; omega
    have k2 : IntKind.i64.wrap (1 + bl + lc) = 1 + bl + lc := by rw [IntKind.wrap_i64]; omega
    have HE : Hid ((¬ (n : Int) = 1 + bl + lc → opnS s n t l = 40) ∧ ((n : Int) = 1 + bl + lc → (t > 4611686018427387904 ∨ l > 4611686018427387904) → opnS s n t l = 31) ∧ ((n : Int) = 1 + bl + lc → ¬ (t > 4611686018427387904 ∨ l > 4611686018427387904) → l = 0 → opnS s n t l = 2) ∧ ((n : Int) = 1 + bl + lc → ¬ (t > 4611686018427387904 ∨ l > 4611686018427387904) → ¬ l = 0 → opnS s n t l = 0)) := by
      rw [hbl, hlc]; exact ⟨fun h => opnS_len t l HC.out h, fun h h2 => opnS_wrap HC.out h h2, fun h h2 h3 => opnS_life HC.out h h2 h3, fun h h2 h3 => opnS_ok HC.out h h2 h3⟩
    have HC0 : Hid (∀ w', CAt w' w.heap.size s → w'.cell? ⟨w.heap.size, 0, none⟩ = some (.int .i64 bl) ∧ w'.cell? ⟨w.heap.size, 1, none⟩ = some (.int .i64 lc)) := by rw [hbl, hlc]; exact fun w' h => ⟨CAt.c0 h, CAt.c1 h⟩
    clear hbl hlc a1 a2 a3 a4
    go_wp2_with fail
    refine wp_region_noPanic ?_
    refine wp_region_held_drew (S := fun w' => Below w1.heap.size w1 w') (by kernel_rfl) (below_drawn 1) (fun hHeld => ?_)
    have D1 : Hid (Below w1.heap.size w1 w1.drew) := hHeld
    generalize w1.drew = wd at *
    refine wpAnyH_take (i := 0) (v := ?va1) (by simp; rfl) (by kernel_rfl) (by kernel_rfl) (by kernel_rfl) (fun _ _ _ h => h) (Or.inl ⟨by rfl, ?ya1⟩) hHeld ?ra1
    case ya1 => intro w hSw; clear hSw; go_simp; with_reducible rfl
    simp only [Act.put, List.setIfInBounds_toArray, List.set_cons_zero, List.set_cons_succ]
    refine wpAnyH_take (i := 2) (v := ?va2) (by simp; rfl) (by kernel_rfl) (by kernel_rfl) (by kernel_rfl) (fun _ _ _ h => h) (Or.inl ⟨by rfl, ?ya2⟩) hHeld ?ra2
    case ya2 => intro w hSw; clear hSw; go_simp; with_reducible rfl
    simp only [Act.put, List.setIfInBounds_toArray, List.set_cons_zero, List.set_cons_succ]
    refine wpAnyH_take (i := 3) (v := ?va3) (by simp; rfl) (by kernel_rfl) (by kernel_rfl) (by kernel_rfl) (fun _ _ _ h => h) (Or.inl ⟨by rfl, ?ya3⟩) hHeld ?ra3
    case ya3 => intro w hSw; have z := (HC0.out _ (LAt.later HA1.out hSw)).1; clear hSw; go_simp; with_reducible rfl
    simp only [Act.put, List.setIfInBounds_toArray, List.set_cons_zero, List.set_cons_succ]
    refine wpAnyH_take (i := 4) (v := ?va4) (by simp; rfl) (by kernel_rfl) (by kernel_rfl) (by kernel_rfl) (fun _ _ _ h => h) (Or.inl ⟨by rfl, ?ya4⟩) hHeld ?ra4
    case ya4 => intro w hSw; clear hSw; go_simp; with_reducible rfl
    simp only [Act.put, List.setIfInBounds_toArray, List.set_cons_zero, List.set_cons_succ]
    refine wpAnyH_take (i := 5) (v := ?va5) (by simp; rfl) (by kernel_rfl) (by kernel_rfl) (by kernel_rfl) (fun _ _ _ h => h) (Or.inl ⟨by rfl, ?ya5⟩) hHeld ?ra5
    case ya5 => intro w hSw; clear hSw; go_simp; with_reducible rfl
    simp only [Act.put, List.setIfInBounds_toArray, List.set_cons_zero, List.set_cons_succ]
    refine wpAnyH_take (i := 6) (v := ?va6) (by simp; rfl) (by kernel_rfl) (by kernel_rfl) (by kernel_rfl) (fun _ _ _ h => h) (Or.inl ⟨by rfl, ?ya6⟩) hHeld ?ra6
    case ya6 => intro w hSw; have z := (HC0.out _ (LAt.later HA1.out hSw)).2; clear hSw; go_simp; with_reducible rfl
    simp only [Act.put, List.setIfInBounds_toArray, List.set_cons_zero, List.set_cons_succ]
    refine wpAnyH_take (i := 7) (v := ?va7) (by simp; rfl) (by kernel_rfl) (by kernel_rfl) (by kernel_rfl) (fun _ _ _ h => h) (Or.inl ⟨by rfl, ?ya7⟩) hHeld ?ra7
    case ya7 => intro w hSw; clear hSw; go_simp; with_reducible rfl
    simp only [Act.put, List.setIfInBounds_toArray, List.set_cons_zero, List.set_cons_succ]
    refine wpAnyH_ready (rs := [1]) (by kernel_rfl) (by simp) ?_
    refine AllReadyH.cons (by simp; rfl) (fun Kc hKc => ?_) AllReadyH.nil
    go_simp
    refine (len_any (HD1.out.later D1.out)).mono ?_
    rintro e wn ⟨rfl, rfl⟩
    refine hKc.out _ _ D1.out (fun hHeld => ?_)
    clear hKc Kc
    refine wpAnyH_take (i := 8) (v := ?va8) (by simp; rfl) (by kernel_rfl) (by kernel_rfl) (by kernel_rfl) (fun _ _ _ h => h) (Or.inl ⟨by rfl, ?ya8⟩) hHeld ?ra8
    case ya8 => intro w hSw; clear hSw; go_simp; with_reducible rfl
    simp only [Act.put, List.setIfInBounds_toArray, List.set_cons_zero, List.set_cons_succ]
    have HB2 : Hid (Below w.heap.size w wd) := below_then HB1.out D1.out
    clear hHeld D1 HD1 HC0
    refine wpAnyH_done (by kernel_rfl) (NoPanic.normal ?_) _
    by_cases he : (n : Int) = 1 + bl + lc
    · have hq : ((n : Int) != 1 + bl + lc) = false := by rw [he]; simp
      by_cases hM : t > 4611686018427387904 ∨ l > 4611686018427387904
      · have HR : Hid (_) := HE.out.2.1 he hM
        clear he HE
        by_cases hM1 : 4611686018427387904 < t
        · clear hM
          go_wp2_with fail
          go_ret
          exact ⟨by rw [HR.out]; rfl, HB2.out⟩
        · have hM2 : 4611686018427387904 < l := by omega
          clear hM
          go_wp2_with fail
          go_ret
          exact ⟨by rw [HR.out]; rfl, HB2.out⟩
      · have hM1 : ¬ 4611686018427387904 < t := by omega
        have hM2 : ¬ 4611686018427387904 < l := by omega
        by_cases h0 : l = 0
        · have HR : Hid (_) := HE.out.2.2.1 he hM h0
          clear he HE hM
          subst h0
          go_wp2_with fail
          go_ret
          exact ⟨by rw [HR.out]; rfl, HB2.out⟩
        · have HR : Hid (_) := HE.out.2.2.2 he hM h0
          clear he HE hM
          go_wp2_with fail
          go_ret
          exact ⟨by rw [HR.out]; rfl, HB2.out⟩
    · have hq : ((n : Int) != 1 + bl + lc) = true := by simp [he]
      have HR : Hid (_) := HE.out.1 he
      clear he HE
      go_wp2_with fail
      go_ret
      exact ⟨by rw [HR.out]; rfl, HB2.out⟩
  · rw [cfg_no s hc]
    have HR : Hid (opnS s n t l = 3) := opnS_no _ _ _ hc
    clear hc
    go_wp2_with fail
    go_ret
    exact ⟨by rw [HR.out]; rfl, HB1.out⟩
def plL : List (Nat × Nat) := [(0, 1), (1, 5), (6, 1), (7, 1), (8, 1), (9, 1), (10, 1), (11, 1)]
theorem placesL : placesOf Tryz.prog 125 = some plL := by kernel_rfl
def lg0 : Lg := ⟨sup0, 0, 0, 0, 0, 0, 0⟩
theorem zeroL : (Tryz.prog.info? 125).bind (·.zero) = some (.agg (lcells none lg0).toArray) := by kernel_rfl
theorem fillL (dp : Option Addr) (s : Sup) (t l : Int) : Instr.fill (plL.toArray[·]?) (lcells none lg0).toArray [(0, .pointer dp), (1, .agg (ccells s).toArray), (2, .int .u64 l), (3, .int .u64 t), (4, .int .u64 t), (5, .int .u64 t), (7, .int .i64 (-1))] = some (lcells dp (opnG s t l)).toArray := by
  rw [fill_step 0 1 0 rfl _ [.pointer dp] _ rfl rfl (by simp [lcells]), fill_step 1 5 1 rfl _ (ccells s) _ rfl rfl (by simp [lcells]), fill_step 6 1 2 rfl _ [.int .u64 l] _ rfl rfl (by simp [lcells, ccells]), fill_step 7 1 3 rfl _ [.int .u64 t] _ rfl rfl (by simp [lcells, ccells]), fill_step 8 1 4 rfl _ [.int .u64 t] _ rfl rfl (by simp [lcells, ccells]), fill_step 9 1 5 rfl _ [.int .u64 t] _ rfl rfl (by simp [lcells, ccells]), fill_step 11 1 7 rfl _ [.int .i64 (-1)] _ rfl rfl (by simp [lcells, ccells])]
  rfl
theorem buildL (w : World) (dp : Option Addr) (s : Sup) (t l : Int) : (Instr.build 125 #[(0, .pointer dp), (1, .agg (ccells s).toArray), (2, .int .u64 l), (3, .int .u64 t), (4, .int .u64 t), (5, .int .u64 t), (7, .int .i64 (-1))]).run Tryz.prog w = .ok (.agg (lcells dp (opnG s t l)).toArray) w :=
  run_build w 125 _ _ ((built_of 125 _ _ _ placesL zeroL).trans (fillL dp s t l))
set_option maxHeartbeats 1000000 in
set_option maxRecDepth 100000 in
theorem open_ok (s : Sup) (t l : Int) (ht0 : 0 ≤ t) (hl0 : 0 ≤ l) {w : World} {S : Nat → Prop} {p n : Nat} {d : List Int} {ws : List Wr} (h : Dsk w S p n d ws) (hr : opnS s n t l = 0) :
    Calls Tryz.prog 17 #[.pointer (some ⟨p, 0, none⟩), .agg (ccells s).toArray, .int .u64 t, .int .u64 l] w fun e w' => ∃ L, e = .returned (.tuple #[.pointer (some ⟨L, 0, none⟩), .int .i64 0]) ∧ w.heap.size ≤ L ∧ LD w' (More S w) L p d ws (opnG s t l) ∧ Below w.heap.size w w' := by
  have HB : Hid (Below w.heap.size w (w.alloc (.cells (ccells s).toArray 23))) := below_alloc w _
  have L1 : Hid (_) := CAt.load23 (LAt.new 23 w (ccells s))
  have HA : Hid (CAt (w.alloc (.cells (ccells s).toArray 23)) w.heap.size s) := LAt.new 23 w (ccells s)
  have HD : Hid (Dsk w S p n d ws) := h
  have HR : Hid (opnS s n t l = 0) := hr
  clear h hr
  go_enter Tryz.func17, Tryz.ntmps17
  go_wp2_with ((with_reducible refine at_ops ?_); (refine wpList_load_is (by rfl) 23 rfl rfl L1.out ?_); simp only [Act.put, List.setIfInBounds_toArray, List.set_cons_zero, List.set_cons_succ])
  refine (wref_at s t l ht0 hl0 (HD.out.later HB.out)).mono ?_
  rintro e w1 ⟨rfl, b1⟩
  have HB1 : Hid (Below w.heap.size w w1) := below_then HB.out b1
  have HA1 : Hid (CAt w1 w.heap.size s) := LAt.later HA.out b1
  have L2 : Hid (_) := CAt.load23 HA1.out
  have B2 : Hid (_) := buildL w1 (some ⟨p, 0, none⟩) s t l
  rw [HR.out]
  clear b1 HB L1 HA
  go_wp2_with ((with_reducible refine at_ops ?_); (first | (refine wpList_load_is (by rfl) 23 rfl rfl L2.out ?_) | (refine wpList_build_is (vs := [(0, .pointer (some ⟨p, 0, none⟩)), (1, .agg (ccells s).toArray), (2, .int .u64 l), (3, .int .u64 t), (4, .int .u64 t), (5, .int .u64 t), (7, .int .i64 (-1))]) (by rfl) 125 rfl (by rfl) B2.out ?_)); simp only [Act.put, List.setIfInBounds_toArray, List.set_cons_zero, List.set_cons_succ])
  go_ret2
  have hb2 := below_alloc w1 (.cells (lcells (some ⟨p, 0, none⟩) (opnG s t l)).toArray 125)
  have hn : n = (opnG s t l).sz := by
    have h1 := (opnS_zero HR.out).2.1
    have h2 := (opnG_ok HR.out ht0 hl0).sz_is
    have h3 : (opnG s t l).c = s := rfl
    rw [h3] at h2
    omega
  have hb3 := below_then HB1.out hb2
  have hs := HB1.out.size
  refine ⟨w1.heap.size, rfl, hs, ⟨LAt.new 125 w1 _, ?_, .inr hs, opnG_ok HR.out ht0 hl0⟩, hb3⟩
  rw [← hn]
  have hd := HD.out
  obtain ⟨q, cap, v, hd⟩ := hd
  refine ⟨q, cap, v, hd.same (fun k hk hs' => ⟨.inl hs', by omega⟩) (fun k hk _ => hb3.block k hk)⟩
set_option maxHeartbeats 1000000 in
set_option maxRecDepth 100000 in
theorem wflush_at {w : World} {S : Nat → Prop} {L p : Nat} {d : List Int} {ws : List Wr} {g : Lg} (h : LD w S L p d ws g) (hk : ws.length ≤ 100000) : Calls Tryz.prog 49 #[.pointer (some ⟨L, 0, none⟩)] w fun e w' => e = .returned (.tuple #[.int .i64 ws.length, .int .i64 0]) ∧ LD w' S L p (settle (fun _ => true) ws d) [] g ∧ Kept S w w' := by
  have HG : Hid (LD w S L p d ws g) := h
  have c0 := GAt.c0 h.log
  clear h
  go_enter Tryz.func49, Tryz.ntmps49
  go_wp2_with fail
  refine (lacks_some HG.out.log).mono ?_
  rintro e w1 ⟨rfl, rfl⟩
  go_wp2_with fail
  refine (flush_any HG.out.dsk hk).mono ?_
  rintro e w1 ⟨rfl, hd, hkp⟩
  have HX : Hid (_) := HG.out.flushed hd hkp
  clear hd hkp c0
  go_wp2_with fail
  go_ret2
  exact ⟨rfl, HX.out.1, HX.out.2⟩
end Go.Proofs.YtdadpepfpiimgaaGreatDoor
namespace Go.Proofs.YtdadpepfpiimgaaGreatDoor
open Go.RowKit
theorem Kept.wider {S T : Nat → Prop} {a b : World} (h : Kept S a b) (hs : ∀ k, k < a.heap.size → S k → T k) : Kept T a b :=
  ⟨h.os, h.tape, h.output, h.size, fun k hk ht => h.block k hk fun hs' => ht (hs k hk hs')⟩
theorem kept_set (w : World) (L j : Nat) (v : Value) : Kept (fun k => k = L) w (w.setCell ⟨L, j, none⟩ v) := ⟨rfl, rfl, rfl, by simp [World.setCell], fun k _ hk => heap_setCell_other w ⟨L, j, none⟩ k v hk⟩
theorem write_at {w : World} {S : Nat → Prop} {p n : Nat} {d : List Int} {ws : List Wr} (h : Dsk w S p n d ws) (i : Int) (h0 : 0 ≤ i) (h1 : i < n) (a : Option Addr) (c : Nat) (b : List Int) (hb : BIn w a 64 b) (hk : ws.length ≤ 100000) : Calls Tryz.prog 64 #[.pointer (some ⟨p, 0, none⟩), .int .i64 i, .slice a 64 c] w fun e w' => e = .returned (.int .i64 0) ∧ Dsk w' (More S w) p n d (ws ++ [⟨i.toNat, b⟩]) ∧ Kept S w w' := by
  have e0 : ((i.toNat : Nat) : Int) = i := by omega
  have := write_good h i.toNat (by omega) a c b hb hk
  rw [e0] at this
  exact this
theorem read_at {w : World} {S : Nat → Prop} {p n : Nat} {d : List Int} {ws : List Wr} (h : Dsk w S p n d ws) (i : Int) (h0 : 0 ≤ i) (h1 : i < n) : Calls Tryz.prog 53 #[.pointer (some ⟨p, 0, none⟩), .int .i64 i] w fun e w' => ∃ q c, e = .returned (.tuple #[.slice q 64 c, .int .i64 0]) ∧ BIn w' q 64 (newest ws d i.toNat) ∧ 64 ≤ c ∧ Below w.heap.size w w' := by
  have e0 : ((i.toNat : Nat) : Int) = i := by omega
  have := read_good h i.toNat (by omega)
  rw [e0] at this
  obtain ⟨q', cap, v', hp⟩ := h
  refine this.mono ?_
  rintro e w' ⟨v, rfl, hown, hb⟩
  obtain ⟨q, c, rfl, hr, hc, _⟩ := own_in hown (newk_bytes hp.db hp.fit _)
  exact ⟨q, c, rfl, hr, hc, hb⟩
set_option maxHeartbeats 2000000 in
set_option maxRecDepth 100000 in
theorem add_low {w : World} {S : Nat → Prop} {L p : Nat} {d : List Int} {ws : List Wr} {g : Lg} (h : LD w S L p d ws g) (hS : ∀ k, S k → k < w.heap.size) (hk : ws.length ≤ 100000) (ht : Tab w) (r : R.Rec) (hv : r.val.length = 32) (hw : R.Rec.Wf ⟨r.kind, g.fin, r.block, r.val, r.images⟩) (hm : R.may ⟨r.kind, g.fin, r.block, r.val, r.images⟩ = true) (hf : g.fin < 4611686018427387904) :
    Calls Tryz.prog 87 #[.pointer (some ⟨L, 0, none⟩), .agg (R.rcells r).toArray] w fun e w' => e = .returned (.tuple #[.int .u64 g.fin, .int .i64 0]) ∧ Dsk w' (More (fun k => S k ∧ k ≠ L) w) p g.sz d (ws ++ [⟨(secN g g.fin).toNat, R.encS ⟨r.kind, g.fin, r.block, r.val, r.images⟩⟩]) ∧ GAt w' L (some ⟨p, 0, none⟩) (addG g) ∧ Kept S w w' := by
  obtain ⟨r', hr'⟩ : ∃ x : R.Rec, x = ⟨r.kind, g.fin, r.block, r.val, r.images⟩ := ⟨_, rfl⟩
  rw [← hr'] at hw hm ⊢
  have hlr : r'.val.length = 32 := by rw [hr']; exact hv
  have hpos : r'.pos = g.fin := by rw [hr']
  have hset : (R.rcells r).set 1 (.int .u64 g.fin) = R.rcells r' := by rw [hr']; rfl
  have hget : (R.rcells r)[1]? = some (.int .u64 r.pos) := rfl
  obtain ⟨w1, hw1⟩ : ∃ x, x = w.alloc (.cells (R.rcells r').toArray 139) := ⟨_, rfl⟩
  have ew := hw1.symm
  have HG : Hid (LD w S L p d ws g) := h
  have HS : Hid (∀ k, S k → k < w.heap.size) := hS
  have HW : Hid (r'.Wf ∧ R.may r' = true) := ⟨hw, hm⟩
  have HT : Hid (Tab w) := ht
  have B1 : Hid (Below w.heap.size w w1) := by rw [hw1]; exact below_alloc w _
  have A1 : Hid (R.RAt 139 w1 w.heap.size r') := by rw [hw1]; exact R.RAt.new 139 w r'
  have L1 : Hid (_) := R.RAt.load31 A1.out hlr
  have hf0 : 0 ≤ g.fin := by have := h.ok.t0; have := h.ok.tm; have := h.ok.mf; omega
  have hLlt := LAt.lt h.log
  have c8 := GAt.c8 h.log
  clear h hS hw1 hr' ht hw hm
  go_enter Tryz.func87, Tryz.ntmps87
  go_wp2_with ((with_reducible refine at_ops ?_); (refine wpList_load_is (by rfl) 139 rfl rfl L1.out ?_); simp only [Act.put, List.setIfInBounds_toArray, List.set_cons_zero, List.set_cons_succ])
  refine (R.encode_good r' HW.out.1 HW.out.2 w1 (HT.out.later B1.out).half).mono ?_
  rintro e w2 ⟨q2, c2', rfl, m2⟩
  have B2 : Hid (Below w.heap.size w w2) := below_then B1.out m2.below
  have HG2 : Hid (LD w2 S L p d ws g) := HG.out.later B2.out
  have A2 : Hid (R.RAt 139 w2 w.heap.size r') := R.RAt.later A1.out m2.below
  have X2 : Hid (BIn w2 q2 64 (R.encS r')) := m2.read
  clear m2 A1 L1 ew hget hset c8
  go_wp2_with fail
  refine wp_region_noPanic ?_
  refine wp_region_held_drew (S := fun w' => w'.cell? ⟨L, 0, none⟩ = some (.pointer (some ⟨p, 0, none⟩)) ∧ w'.cell? ⟨w.heap.size, 1, none⟩ = some (.int .u64 g.fin)) (by kernel_rfl) (by
    refine ⟨GAt.c0 HG2.out.log, ?_⟩
    rw [← hpos]
    exact A2.out.c1) (fun hHeld => ?_)
  have D2 : Hid (Below w2.heap.size w2 w2.drew) := below_drawn 1
  generalize w2.drew = wd at *
  refine wpAnyH_take (i := 0) (v := ?va1) (by simp; rfl) (by kernel_rfl) (by kernel_rfl) (by kernel_rfl) (fun _ _ _ h => h) (Or.inl ⟨by rfl, ?ya1⟩) hHeld ?ra1
  case ya1 => intro w hSw; clear hSw; go_simp; with_reducible rfl
  simp only [Act.put, List.setIfInBounds_toArray, List.set_cons_zero, List.set_cons_succ]
  refine wpAnyH_take (i := 1) (v := ?va2) (by simp; rfl) (by kernel_rfl) (by kernel_rfl) (by kernel_rfl) (fun _ _ _ h => h) (Or.inl ⟨by rfl, ?ya2⟩) hHeld ?ra2
  case ya2 => intro w hSw; clear hSw; go_simp; with_reducible rfl
  simp only [Act.put, List.setIfInBounds_toArray, List.set_cons_zero, List.set_cons_succ]
  refine wpAnyH_take (i := 2) (v := ?va3) (by simp; rfl) (by kernel_rfl) (by kernel_rfl) (by kernel_rfl) (fun _ _ _ h => h) (Or.inl ⟨by rfl, ?ya3⟩) hHeld ?ra3
  case ya3 => intro w hSw; clear hSw; go_simp; with_reducible rfl
  simp only [Act.put, List.setIfInBounds_toArray, List.set_cons_zero, List.set_cons_succ]
  refine wpAnyH_take (i := 3) (v := ?va4) (by simp; rfl) (by kernel_rfl) (by kernel_rfl) (by kernel_rfl) (fun _ _ _ h => h) (Or.inl ⟨by rfl, ?ya4⟩) hHeld ?ra4
  case ya4 => intro w hSw; have z := hSw.1; clear hSw; go_simp; with_reducible rfl
  simp only [Act.put, List.setIfInBounds_toArray, List.set_cons_zero, List.set_cons_succ]
  refine wpAnyH_take (i := 4) (v := ?va5) (by simp; rfl) (by kernel_rfl) (by kernel_rfl) (by kernel_rfl) (fun _ _ _ h => h) (Or.inl ⟨by rfl, ?ya5⟩) hHeld ?ra5
  case ya5 => intro w hSw; clear hSw; go_simp; with_reducible rfl
  simp only [Act.put, List.setIfInBounds_toArray, List.set_cons_zero, List.set_cons_succ]
  refine wpAnyH_take (i := 5) (v := ?va6) (by simp; rfl) (by kernel_rfl) (by kernel_rfl) (by kernel_rfl) (fun _ _ _ h => h) (Or.inl ⟨by rfl, ?ya6⟩) hHeld ?ra6
  case ya6 => intro w hSw; clear hSw; go_simp; with_reducible rfl
  simp only [Act.put, List.setIfInBounds_toArray, List.set_cons_zero, List.set_cons_succ]
  refine wpAnyH_take (i := 6) (v := ?va7) (by simp; rfl) (by kernel_rfl) (by kernel_rfl) (by kernel_rfl) (fun _ _ _ h => h) (Or.inl ⟨by rfl, ?ya7⟩) hHeld ?ra7
  case ya7 => intro w hSw; have z := hSw.2; clear hSw; go_simp; with_reducible rfl
  simp only [Act.put, List.setIfInBounds_toArray, List.set_cons_zero, List.set_cons_succ]
  refine wpAnyH_take (i := 8) (v := ?va8) (by simp; rfl) (by kernel_rfl) (by kernel_rfl) (by kernel_rfl) (fun _ _ _ h => h) (Or.inl ⟨by rfl, ?ya8⟩) hHeld ?ra8
  case ya8 => intro w hSw; clear hSw; go_simp; with_reducible rfl
  simp only [Act.put, List.setIfInBounds_toArray, List.set_cons_zero, List.set_cons_succ]
  refine wpAnyH_ready (rs := [7]) (by kernel_rfl) (by simp) ?_
  refine AllReadyH.cons (by simp; rfl) (fun Kc hKc => ?_) AllReadyH.nil
  go_simp
  refine (sector_at (LAt.later HG2.out.log D2.out) HG.out.ok g.fin hf0 (by omega)).mono ?_
  rintro e wn ⟨rfl, rfl⟩
  refine hKc.out _ _ hHeld (fun hHeld => ?_)
  clear hKc Kc
  refine wpAnyH_ready (rs := [9]) (by kernel_rfl) (by simp) ?_
  refine AllReadyH.cons (by simp; rfl) (fun Kc hKc => ?_) AllReadyH.nil
  go_simp
  refine (write_at (HG2.out.later D2.out).dsk (secN g g.fin) (secN_in HG.out.ok _).1 (secN_in HG.out.ok _).2 q2 c2' _ (X2.out.later D2.out) hk).mono ?_
  rintro e w3 ⟨rfl, d3, k3⟩
  have Y3 : Hid (Dsk w3 (More (fun k => S k ∧ k ≠ L) wd) p g.sz d (ws ++ [⟨(secN g g.fin).toNat, R.encS r'⟩]) ∧ GAt w3 L (some ⟨p, 0, none⟩) g ∧ Kept (fun k => S k ∧ k ≠ L) wd w3 ∧ w3.cell? ⟨w.heap.size, 1, none⟩ = some (.int .u64 g.fin)) := by
    have hz := B2.out.size
    have hz2 := D2.out.size
    have hA := A2.out.lt
    refine ⟨d3, (k3.block L (by omega) (fun t => t.2 rfl)).trans (LAt.later HG2.out.log D2.out), k3, ?_⟩
    rw [World.cell?_of_block (k3.block w.heap.size (by omega) (fun t => by have := HS.out _ t.1; omega))]
    exact hHeld.2
  clear d3 k3
  refine hKc.out _ _ ⟨GAt.c0 Y3.out.2.1, Y3.out.2.2.2⟩ (fun hHeld => ?_)
  clear hKc Kc
  refine wpAnyH_take (i := 10) (v := ?va9) (by simp; rfl) (by kernel_rfl) (by kernel_rfl) (by kernel_rfl) (fun _ _ _ h => h) (Or.inl ⟨by rfl, ?ya9⟩) hHeld ?ra9
  case ya9 => intro w hSw; clear hSw; go_simp; with_reducible rfl
  simp only [Act.put, List.setIfInBounds_toArray, List.set_cons_zero, List.set_cons_succ]
  refine wpAnyH_done (by kernel_rfl) (NoPanic.normal ?_) _
  have c8 := GAt.c8 Y3.out.2.1
  have cf := GAt.free Y3.out.2.1 8
  have c1 := Y3.out.2.2.2
  have hne : ¬ L = w.heap.size := by omega
  have hne2 : ¬ w.heap.size = L := by omega
  have k1 : IntKind.u64.wrap (g.fin + 1) = g.fin + 1 := G.wrap_u (by omega) (by omega)
  clear hHeld X2 A2
  go_wp2_with fail
  go_ret2
  have hs2 := B2.out.size
  have hs3 := Y3.out.2.2.1.size
  refine ⟨rfl, ?_, GAt.setF Y3.out.2.1 _, ?_⟩
  · refine (Y3.out.1.kept (kept_set w3 L 8 (.int .u64 (g.fin + 1))) ?_).mono ?_
    · rintro k (hs | hs) rfl
      · exact hs.2 rfl
      · have := D2.out.size; omega
    · rintro k _ (hs | hs)
      · exact .inl hs
      · exact .inr (by have := D2.out.size; omega)
  · exact ((Kept.of_below (S := S) (below_then B2.out D2.out)).trans (T := fun k => S k ∧ k ≠ L) Y3.out.2.2.1 (fun _ _ t => t.1)).setCell (p := ⟨L, 8, none⟩) (fun _ => HG.out.sl) _
theorem add_good {w : World} {S : Nat → Prop} {L p : Nat} {d : List Int} {ws : List Wr} {g : Lg} (h : LD w S L p d ws g) (hk : ws.length ≤ 100000) (ht : Tab w) (r : R.Rec) (hv : r.val.length = 32) (hw : R.Rec.Wf ⟨r.kind, g.fin, r.block, r.val, r.images⟩) (hm : R.may ⟨r.kind, g.fin, r.block, r.val, r.images⟩ = true) (hf : g.fin < 4611686018427387904) :
    Calls Tryz.prog 87 #[.pointer (some ⟨L, 0, none⟩), .agg (R.rcells r).toArray] w fun e w' => e = .returned (.tuple #[.int .u64 g.fin, .int .i64 0]) ∧ Dsk w' (More (fun k => S k ∧ k ≠ L) w) p g.sz d (ws ++ [⟨(secN g g.fin).toNat, R.encS ⟨r.kind, g.fin, r.block, r.val, r.images⟩⟩]) ∧ GAt w' L (some ⟨p, 0, none⟩) (addG g) ∧ Kept S w w' := by
  refine (add_low (h.mono (T := fun k => S k ∧ k < w.heap.size) fun k hk s => ⟨s, hk⟩) (fun _ s => s.2) hk ht r hv hw hm hf).mono ?_
  rintro e w' ⟨rfl, h1, h2, h3⟩
  refine ⟨rfl, h1.mono ?_, h2, h3.wider fun _ _ s => s.1⟩
  rintro k _ (hs | hs)
  · exact .inl ⟨hs.1.1, hs.2⟩
  · exact .inr hs
end Go.Proofs.YtdadpepfpiimgaaGreatDoor
namespace Go.Proofs.YtdadpepfpiimgaaGreatDoor
open Go.RowKit
theorem loadV {w : World} {k : Nat} {v : List Int} (h : LAt 39 w k (U8 v)) (hv : v.length = 32) : (Instr.loadAt 39 (.pointer (some ⟨k, 0, none⟩))).run Tryz.prog w = .ok (.agg (U8 v).toArray) w :=
  run_loadAt_mid w k 0 39 (U8 v) _ (LAt.range h) Tryz.underlying39 rfl (by rw [R.size24, U8_length, hv])
theorem build_img (w : World) (b : Int) (v : List Int) (hv : v.length = 32) : (Instr.build 139 #[(0, .int .i64 1), (2, .int .i64 b), (3, .agg (U8 v).toArray)]).run Tryz.prog w = .ok (.agg (R.rcells ⟨1, 0, b, v, 0⟩).toArray) w :=
  R.build31 w _ _ (by
    show Instr.fill _ _ [(0, .int .i64 1), (2, .int .i64 b), (3, .agg (U8 v).toArray)] = _
    rw [R.fill_k R.rec0 R.rec0_len, R.fill_b ⟨1, R.rec0.pos, R.rec0.block, R.rec0.val, R.rec0.images⟩ R.rec0_len, R.fill_v ⟨1, R.rec0.pos, b, R.rec0.val, R.rec0.images⟩ R.rec0_len v hv, R.fill_end]; rfl)
theorem build_com (w : World) (i : Int) : (Instr.build 139 #[(0, .int .i64 2), (4, .int .i64 i)]).run Tryz.prog w = .ok (.agg (R.rcells ⟨2, 0, 0, R.zs 32, i⟩).toArray) w :=
  R.build31 w _ _ (by
    show Instr.fill _ _ [(0, .int .i64 2), (4, .int .i64 i)] = _
    rw [R.fill_k R.rec0 R.rec0_len, R.fill_i ⟨2, R.rec0.pos, R.rec0.block, R.rec0.val, R.rec0.images⟩ R.rec0_len, R.fill_end]; rfl)
set_option maxHeartbeats 2000000 in
set_option maxRecDepth 100000 in
theorem image_ok {w : World} {S : Nat → Prop} {L p : Nat} {d : List Int} {ws : List Wr} {g : Lg} (h : LD w S L p d ws g) (hk : ws.length ≤ 100000) (ht : Tab w) (b : Int) (v : List Int) (hv : v.length = 32) (hvb : Bytes v) (hi : imgS g b = 0) :
    Calls Tryz.prog 47 #[.pointer (some ⟨L, 0, none⟩), .int .i64 b, .agg (U8 v).toArray] w fun e w' => e = .returned (.tuple #[.int .u64 g.fin, .int .i64 0]) ∧ LD w' (More S w) L p d (ws ++ [⟨(secN g g.fin).toNat, R.encS (imgR g b v)⟩]) (imgG g b) ∧ Kept S w w' := by
  obtain ⟨wa, hwa⟩ : ∃ x, x = w.alloc (.cells (U8 v).toArray 39) := ⟨_, rfl⟩
  have ewa := hwa.symm
  have HB : Hid (Below w.heap.size w wa) := by rw [hwa]; exact below_alloc w _
  have V0 : Hid (LAt 39 wa w.heap.size (U8 v)) := by rw [hwa]; exact LAt.new 39 w (U8 v)
  have HG : Hid (LD w S L p d ws g) := h
  have HT : Hid (Tab w) := ht
  have HI : Hid (imgS g b = 0) := hi
  have HV : Hid (v.length = 32 ∧ Bytes v) := ⟨hv, hvb⟩
  have hm := (imgS_zero hi).1
  have hb := (imgS_zero hi).2
  have HMB : Hid (moreS g = 0 ∧ ¬ Bad g b) := ⟨hm, hb⟩
  have hi0 := h.ok.i0
  have hi1 := h.ok.i1
  have hmr := h.ok.cf.2.2.1
  clear h hi ht hwa hv hvb
  go_enter Tryz.func47, Tryz.ntmps47
  go_wp2_with fail
  refine (more_at (HG.out.later HB.out).log HG.out.ok).mono ?_
  rintro e w1 ⟨rfl, b1⟩
  have HB1 : Hid (Below w.heap.size w w1) := below_then HB.out b1
  have HG1 : Hid (LD w1 S L p d ws g) := HG.out.later HB1.out
  have V1 : Hid (LAt 39 w1 w.heap.size (U8 v)) := LAt.later V0.out b1
  have HC : Hid (∀ w', Below w1.heap.size w1 w' → w'.cell? ⟨L, 11, none⟩ = some (.int .i64 g.last) ∧ w'.cell? ⟨L, 1, none⟩ = some (.int .i64 g.c.bl) ∧ w'.cell? ⟨L, 10, none⟩ = some (.int .i64 g.imgs) ∧ w'.cell? ⟨L, 3, none⟩ = some (.int .i64 g.c.mr)) := fun w' hb => ⟨GAt.c11 (LAt.later HG1.out.log hb), GAt.c1 (LAt.later HG1.out.log hb), GAt.c10 (LAt.later HG1.out.log hb), GAt.c3 (LAt.later HG1.out.log hb)⟩
  rw [hm]
  have h1 : ¬ b ≤ g.last := fun h => hb (.inl h)
  have h2 : ¬ g.c.bl ≤ b := fun h => hb (.inr (.inl h))
  have h3 : ¬ g.c.mr ≤ g.imgs := fun h => hb (.inr (.inr h))
  have hd1 : decide (b ≤ g.last) = false := by simp; omega
  have hd2 : decide (g.c.bl ≤ b) = false := by simp; omega
  have hd3 : decide (g.c.mr ≤ g.imgs) = false := by simp; omega
  clear b1 HB hm hb V0 ewa
  go_wp2_with fail
  refine wp_region_noPanic ?_
  refine wp_region_held_drew (S := fun w' => Below w1.heap.size w1 w') (by kernel_rfl) (below_drawn 1) (fun hHeld => ?_)
  have D1 : Hid (Below w1.heap.size w1 w1.drew) := hHeld
  generalize w1.drew = wd at *
  refine wpAnyH_take (i := 0) (v := ?va55) (by simp; rfl) (by kernel_rfl) (by kernel_rfl) (by kernel_rfl) (fun _ _ _ h => h) (Or.inl ⟨by rfl, ?ya55⟩) hHeld ?ra55
  case ya55 => intro w hSw; clear hSw; go_simp; with_reducible rfl
  simp only [Act.put, List.setIfInBounds_toArray, List.set_cons_zero, List.set_cons_succ]
  refine wpAnyH_take (i := 1) (v := ?va56) (by simp; rfl) (by kernel_rfl) (by kernel_rfl) (by kernel_rfl) (fun _ _ _ h => h) (Or.inl ⟨by rfl, ?ya56⟩) hHeld ?ra56
  case ya56 => intro w hSw; clear hSw; go_simp; with_reducible rfl
  simp only [Act.put, List.setIfInBounds_toArray, List.set_cons_zero, List.set_cons_succ]
  refine wpAnyH_take (i := 2) (v := ?va57) (by simp; rfl) (by kernel_rfl) (by kernel_rfl) (by kernel_rfl) (fun _ _ _ h => h) (Or.inl ⟨by rfl, ?ya57⟩) hHeld ?ra57
  case ya57 => intro w hSw; clear hSw; go_simp; with_reducible rfl
  simp only [Act.put, List.setIfInBounds_toArray, List.set_cons_zero, List.set_cons_succ]
  refine wpAnyH_take (i := 3) (v := ?va58) (by simp; rfl) (by kernel_rfl) (by kernel_rfl) (by kernel_rfl) (fun _ _ _ h => h) (Or.inl ⟨by rfl, ?ya58⟩) hHeld ?ra58
  case ya58 => intro w hSw; clear hSw; go_simp; with_reducible rfl
  simp only [Act.put, List.setIfInBounds_toArray, List.set_cons_zero, List.set_cons_succ]
  refine wpAnyH_take (i := 4) (v := ?va59) (by simp; rfl) (by kernel_rfl) (by kernel_rfl) (by kernel_rfl) (fun _ _ _ h => h) (Or.inl ⟨by rfl, ?ya59⟩) hHeld ?ra59
  case ya59 => intro w hSw; have z := (HC.out _ hSw).1; clear hSw; go_simp; with_reducible rfl
  simp only [Act.put, List.setIfInBounds_toArray, List.set_cons_zero, List.set_cons_succ]
  refine wpAnyH_take (i := 5) (v := ?va60) (by simp; rfl) (by kernel_rfl) (by kernel_rfl) (by kernel_rfl) (fun _ _ _ h => h) (Or.inl ⟨by rfl, ?ya60⟩) hHeld ?ra60
  case ya60 => intro w hSw; clear hSw; go_simp; with_reducible rfl
  simp only [Act.put, List.setIfInBounds_toArray, List.set_cons_zero, List.set_cons_succ]
  refine wpAnyH_take (i := 6) (v := ?va61) (by simp; rfl) (by kernel_rfl) (by kernel_rfl) (by kernel_rfl) (fun _ _ _ h => h) (Or.inl ⟨by rfl, ?ya61⟩) hHeld ?ra61
  case ya61 => intro w hSw; clear hSw; go_simp; with_reducible rfl
  simp only [Act.put, List.setIfInBounds_toArray, List.set_cons_zero, List.set_cons_succ]
  refine wpAnyH_take (i := 7) (v := ?va62) (by simp; rfl) (by kernel_rfl) (by kernel_rfl) (by kernel_rfl) (fun _ _ _ h => h) (Or.inl ⟨by rfl, ?ya62⟩) hHeld ?ra62
  case ya62 => intro w hSw; clear hSw; go_simp; with_reducible rfl
  simp only [Act.put, List.setIfInBounds_toArray, List.set_cons_zero, List.set_cons_succ]
  refine wpAnyH_take (i := 8) (v := ?va63) (by simp; rfl) (by kernel_rfl) (by kernel_rfl) (by kernel_rfl) (fun _ _ _ h => h) (Or.inl ⟨by rfl, ?ya63⟩) hHeld ?ra63
  case ya63 => intro w hSw; clear hSw; go_simp; with_reducible rfl
  simp only [Act.put, List.setIfInBounds_toArray, List.set_cons_zero, List.set_cons_succ]
  refine wpAnyH_take (i := 9) (v := ?va64) (by simp; rfl) (by kernel_rfl) (by kernel_rfl) (by kernel_rfl) (fun _ _ _ h => h) (Or.inl ⟨by rfl, ?ya64⟩) hHeld ?ra64
  case ya64 => intro w hSw; clear hSw; go_simp; with_reducible rfl
  simp only [Act.put, List.setIfInBounds_toArray, List.set_cons_zero, List.set_cons_succ]
  refine wpAnyH_take (i := 10) (v := ?va65) (by simp; rfl) (by kernel_rfl) (by kernel_rfl) (by kernel_rfl) (fun _ _ _ h => h) (Or.inl ⟨by rfl, ?ya65⟩) hHeld ?ra65
  case ya65 => intro w hSw; clear hSw; go_simp; with_reducible rfl
  simp only [Act.put, List.setIfInBounds_toArray, List.set_cons_zero, List.set_cons_succ]
  refine wpAnyH_take (i := 11) (v := ?va66) (by simp; rfl) (by kernel_rfl) (by kernel_rfl) (by kernel_rfl) (fun _ _ _ h => h) (Or.inl ⟨by rfl, ?ya66⟩) hHeld ?ra66
  case ya66 => intro w hSw; clear hSw; go_simp; with_reducible rfl
  simp only [Act.put, List.setIfInBounds_toArray, List.set_cons_zero, List.set_cons_succ]
  refine wpAnyH_take (i := 12) (v := ?va67) (by simp; rfl) (by kernel_rfl) (by kernel_rfl) (by kernel_rfl) (fun _ _ _ h => h) (Or.inl ⟨by rfl, ?ya67⟩) hHeld ?ra67
  case ya67 => intro w hSw; have z := (HC.out _ hSw).2.1; clear hSw; go_simp; with_reducible rfl
  simp only [Act.put, List.setIfInBounds_toArray, List.set_cons_zero, List.set_cons_succ]
  refine wpAnyH_take (i := 13) (v := ?va68) (by simp; rfl) (by kernel_rfl) (by kernel_rfl) (by kernel_rfl) (fun _ _ _ h => h) (Or.inl ⟨by rfl, ?ya68⟩) hHeld ?ra68
  case ya68 => intro w hSw; clear hSw; go_simp; with_reducible rfl
  simp only [Act.put, List.setIfInBounds_toArray, List.set_cons_zero, List.set_cons_succ]
  refine wpAnyH_take (i := 14) (v := ?va69) (by simp; rfl) (by kernel_rfl) (by kernel_rfl) (by kernel_rfl) (fun _ _ _ h => h) (Or.inl ⟨by rfl, ?ya69⟩) hHeld ?ra69
  case ya69 => intro w hSw; clear hSw; go_simp; with_reducible rfl
  simp only [Act.put, List.setIfInBounds_toArray, List.set_cons_zero, List.set_cons_succ]
  refine wpAnyH_take (i := 15) (v := ?va70) (by simp; rfl) (by kernel_rfl) (by kernel_rfl) (by kernel_rfl) (fun _ _ _ h => h) (Or.inl ⟨by rfl, ?ya70⟩) hHeld ?ra70
  case ya70 => intro w hSw; clear hSw; go_simp; with_reducible rfl
  simp only [Act.put, List.setIfInBounds_toArray, List.set_cons_zero, List.set_cons_succ]
  refine wpAnyH_take (i := 16) (v := ?va71) (by simp; rfl) (by kernel_rfl) (by kernel_rfl) (by kernel_rfl) (fun _ _ _ h => h) (Or.inl ⟨by rfl, ?ya71⟩) hHeld ?ra71
  case ya71 => intro w hSw; clear hSw; go_simp; with_reducible rfl
  simp only [Act.put, List.setIfInBounds_toArray, List.set_cons_zero, List.set_cons_succ]
  refine wpAnyH_take (i := 17) (v := ?va72) (by simp; rfl) (by kernel_rfl) (by kernel_rfl) (by kernel_rfl) (fun _ _ _ h => h) (Or.inl ⟨by rfl, ?ya72⟩) hHeld ?ra72
  case ya72 => intro w hSw; clear hSw; go_simp; with_reducible rfl
  simp only [Act.put, List.setIfInBounds_toArray, List.set_cons_zero, List.set_cons_succ]
  refine wpAnyH_take (i := 18) (v := ?va73) (by simp; rfl) (by kernel_rfl) (by kernel_rfl) (by kernel_rfl) (fun _ _ _ h => h) (Or.inl ⟨by rfl, ?ya73⟩) hHeld ?ra73
  case ya73 => intro w hSw; clear hSw; go_simp; with_reducible rfl
  simp only [Act.put, List.setIfInBounds_toArray, List.set_cons_zero, List.set_cons_succ]
  refine wpAnyH_take (i := 19) (v := ?va74) (by simp; rfl) (by kernel_rfl) (by kernel_rfl) (by kernel_rfl) (fun _ _ _ h => h) (Or.inl ⟨by rfl, ?ya74⟩) hHeld ?ra74
  case ya74 => intro w hSw; have z := (HC.out _ hSw).2.2.1; clear hSw; go_simp; with_reducible rfl
  simp only [Act.put, List.setIfInBounds_toArray, List.set_cons_zero, List.set_cons_succ]
  refine wpAnyH_take (i := 20) (v := ?va75) (by simp; rfl) (by kernel_rfl) (by kernel_rfl) (by kernel_rfl) (fun _ _ _ h => h) (Or.inl ⟨by rfl, ?ya75⟩) hHeld ?ra75
  case ya75 => intro w hSw; clear hSw; go_simp; with_reducible rfl
  simp only [Act.put, List.setIfInBounds_toArray, List.set_cons_zero, List.set_cons_succ]
  refine wpAnyH_take (i := 21) (v := ?va76) (by simp; rfl) (by kernel_rfl) (by kernel_rfl) (by kernel_rfl) (fun _ _ _ h => h) (Or.inl ⟨by rfl, ?ya76⟩) hHeld ?ra76
  case ya76 => intro w hSw; clear hSw; go_simp; with_reducible rfl
  simp only [Act.put, List.setIfInBounds_toArray, List.set_cons_zero, List.set_cons_succ]
  refine wpAnyH_take (i := 22) (v := ?va77) (by simp; rfl) (by kernel_rfl) (by kernel_rfl) (by kernel_rfl) (fun _ _ _ h => h) (Or.inl ⟨by rfl, ?ya77⟩) hHeld ?ra77
  case ya77 => intro w hSw; clear hSw; go_simp; with_reducible rfl
  simp only [Act.put, List.setIfInBounds_toArray, List.set_cons_zero, List.set_cons_succ]
  refine wpAnyH_take (i := 23) (v := ?va78) (by simp; rfl) (by kernel_rfl) (by kernel_rfl) (by kernel_rfl) (fun _ _ _ h => h) (Or.inl ⟨by rfl, ?ya78⟩) hHeld ?ra78
  case ya78 => intro w hSw; clear hSw; go_simp; with_reducible rfl
  simp only [Act.put, List.setIfInBounds_toArray, List.set_cons_zero, List.set_cons_succ]
  refine wpAnyH_take (i := 24) (v := ?va79) (by simp; rfl) (by kernel_rfl) (by kernel_rfl) (by kernel_rfl) (fun _ _ _ h => h) (Or.inl ⟨by rfl, ?ya79⟩) hHeld ?ra79
  case ya79 => intro w hSw; have z := (HC.out _ hSw).2.2.2; clear hSw; go_simp; with_reducible rfl
  simp only [Act.put, List.setIfInBounds_toArray, List.set_cons_zero, List.set_cons_succ]
  refine wpAnyH_take (i := 25) (v := ?va80) (by simp; rfl) (by kernel_rfl) (by kernel_rfl) (by kernel_rfl) (fun _ _ _ h => h) (Or.inl ⟨by rfl, ?ya80⟩) hHeld ?ra80
  case ya80 => intro w hSw; clear hSw; go_simp; with_reducible rfl
  simp only [Act.put, List.setIfInBounds_toArray, List.set_cons_zero, List.set_cons_succ]
  refine wpAnyH_take (i := 26) (v := ?va81) (by simp; rfl) (by kernel_rfl) (by kernel_rfl) (by kernel_rfl) (fun _ _ _ h => h) (Or.inl ⟨by rfl, ?ya81⟩) hHeld ?ra81
  case ya81 => intro w hSw; clear hSw; go_simp; with_reducible rfl
  simp only [Act.put, List.setIfInBounds_toArray, List.set_cons_zero, List.set_cons_succ]
  clear hHeld
  refine wpAnyH_done (by kernel_rfl) (NoPanic.normal ?_) _
  have L2 : Hid (_) := loadV (LAt.later V1.out D1.out) HV.out.1
  have HG2 : Hid (LD wd S L p d ws g) := HG1.out.later D1.out
  have HB2 : Hid (Below w.heap.size w wd) := below_then HB1.out D1.out
  have U2 : Hid (_) := build_img wd b v HV.out.1
  generalize wd = w2 at *
  clear HG1 HB1 V1 HC
  go_wp2_with ((with_reducible refine at_ops ?_); (first | (refine wpList_load_is (by rfl) 39 rfl rfl L2.out ?_) | (refine wpList_build_is (vs := [(0, .int .i64 1), (2, .int .i64 b), (3, .agg (U8 v).toArray)]) (by rfl) 139 rfl (by rfl) U2.out ?_)); simp only [Act.put, List.setIfInBounds_toArray, List.set_cons_zero, List.set_cons_succ])
  refine (add_good HG2.out hk (HT.out.later HB2.out) ⟨1, 0, b, v, 0⟩ HV.out.1 (imgR_wf HG.out.ok HMB.out.2 HV.out.1 HV.out.2) (imgR_may HG.out.ok HMB.out.2) (by have := (moreS_zero HMB.out.1).1; have := HG.out.ok.fM; omega)).mono ?_
  rintro e w3 ⟨rfl, d3, g3, k3⟩
  have c10 := GAt.c10 g3
  have cf10 := GAt.free g3 10
  have cf11 := GAt.free g3 11
  have Y3 : Hid (Dsk w3 (More (fun k => S k ∧ k ≠ L) w2) p g.sz d (ws ++ [⟨(secN g g.fin).toNat, R.encS (imgR g b v)⟩]) ∧ GAt w3 L (some ⟨p, 0, none⟩) (addG g) ∧ Kept S w2 w3) := ⟨d3, g3, k3⟩
  have c11 := GAt.c11 g3
  have k1 : IntKind.i64.wrap ((addG g).imgs + 1) = (addG g).imgs + 1 := by rw [IntKind.wrap_i64]; show _ = g.imgs + 1; have : (addG g).imgs = g.imgs := rfl; omega
  clear d3 g3 k3 L2 U2
  go_wp2_with fail
  go_ret2
  have hs := HB2.out.size
  have hL := LAt.lt HG.out.log
  refine ⟨rfl, ?_, ?_⟩
  · have a1 := GAt.setI Y3.out.2.1 ((addG g).imgs + 1)
    have a2 := GAt.setB a1 b
    refine ⟨a2, ?_, .inl HG.out.sl, imgG_ok HG.out.ok HI.out⟩
    show Dsk _ _ p g.sz d _
    refine ((Y3.out.1.kept (kept_set w3 L 10 _) ?_).kept (kept_set _ L 11 _) ?_).mono ?_
    · rintro k (h | h) rfl
      · exact h.2 rfl
      · omega
    · rintro k (h | h) rfl
      · exact h.2 rfl
      · omega
    · rintro k _ (h | h)
      · exact ⟨.inl h.1, h.2⟩
      · exact ⟨.inr (by omega), by omega⟩
  · exact (((Kept.of_below (S := S) HB2.out).trans (T := S) Y3.out.2.2 (fun _ _ t => t)).setCell (p := ⟨L, 10, none⟩) (fun _ => HG.out.sl) _).setCell (p := ⟨L, 11, none⟩) (fun _ => HG.out.sl) _
end Go.Proofs.YtdadpepfpiimgaaGreatDoor
namespace Go.Proofs.YtdadpepfpiimgaaGreatDoor
open Go.RowKit
set_option maxHeartbeats 2000000 in
set_option maxRecDepth 100000 in
theorem commit_ok {w : World} {S : Nat → Prop} {L p : Nat} {d : List Int} {ws : List Wr} {g : Lg} (h : LD w S L p d ws g) (hk : ws.length ≤ 100000) (ht : Tab w) (hm : moreS g = 0) :
    Calls Tryz.prog 48 #[.pointer (some ⟨L, 0, none⟩)] w fun e w' => e = .returned (.tuple #[.int .u64 g.fin, .int .i64 0]) ∧ LD w' (More S w) L p d (ws ++ [⟨(secN g g.fin).toNat, R.encS (comR g)⟩]) (comG g) ∧ Kept S w w' := by
  have HG : Hid (LD w S L p d ws g) := h
  have HT : Hid (Tab w) := ht
  have HM : Hid (moreS g = 0) := hm
  clear h ht
  go_enter Tryz.func48, Tryz.ntmps48
  go_wp2_with fail
  refine (more_at HG.out.log HG.out.ok).mono ?_
  rintro e w2 ⟨rfl, b1⟩
  have HB2 : Hid (Below w.heap.size w w2) := b1
  have HG2 : Hid (LD w2 S L p d ws g) := HG.out.later HB2.out
  have c10 := GAt.c10 HG2.out.log
  have U2 : Hid (_) := build_com w2 g.imgs
  rw [hm]
  clear b1 hm
  go_wp2_with ((with_reducible refine at_ops ?_); (refine wpList_build_is (vs := [(0, .int .i64 2), (4, .int .i64 g.imgs)]) (by rfl) 139 rfl (by rfl) U2.out ?_); simp only [Act.put, List.setIfInBounds_toArray, List.set_cons_zero, List.set_cons_succ])
  refine (add_good HG2.out hk (HT.out.later HB2.out) ⟨2, 0, 0, R.zs 32, g.imgs⟩ (R.zs_len 32) (comR_wf HG.out.ok) (comR_may HG.out.ok) (by have := (moreS_zero HM.out).1; have := HG.out.ok.fM; omega)).mono ?_
  rintro e w3 ⟨rfl, d3, g3, k3⟩
  have c10' := GAt.c10 g3
  have cf10 := GAt.free g3 10
  have cf11 := GAt.free g3 11
  have Y3 : Hid (Dsk w3 (More (fun k => S k ∧ k ≠ L) w2) p g.sz d (ws ++ [⟨(secN g g.fin).toNat, R.encS (comR g)⟩]) ∧ GAt w3 L (some ⟨p, 0, none⟩) (addG g) ∧ Kept S w2 w3) := ⟨d3, g3, k3⟩
  have c11 := GAt.c11 g3
  clear d3 g3 k3 U2 c10
  go_wp2_with fail
  go_ret2
  have hs := HB2.out.size
  have hL := LAt.lt HG.out.log
  refine ⟨rfl, ?_, ?_⟩
  · have a1 := GAt.setI Y3.out.2.1 0
    have a2 := GAt.setB a1 (-1)
    refine ⟨a2, ?_, .inl HG.out.sl, comG_ok HG.out.ok HM.out⟩
    show Dsk _ _ p g.sz d _
    refine ((Y3.out.1.kept (kept_set w3 L 10 _) ?_).kept (kept_set _ L 11 _) ?_).mono ?_
    · rintro k (h | h) rfl
      · exact h.2 rfl
      · omega
    · rintro k (h | h) rfl
      · exact h.2 rfl
      · omega
    · rintro k _ (h | h)
      · exact ⟨.inl h.1, h.2⟩
      · exact ⟨.inr (by omega), by omega⟩
  · exact (((Kept.of_below (S := S) HB2.out).trans (T := S) Y3.out.2.2 (fun _ _ t => t)).setCell (p := ⟨L, 10, none⟩) (fun _ => HG.out.sl) _).setCell (p := ⟨L, 11, none⟩) (fun _ => HG.out.sl) _
end Go.Proofs.YtdadpepfpiimgaaGreatDoor
