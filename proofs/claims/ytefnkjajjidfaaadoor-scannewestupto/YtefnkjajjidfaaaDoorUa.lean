/-
  Layer 9: how a log lies; a log with its disk; lacksDisk, Tail, End, Marked, Used, sectorOf.
-/
import Derived.Test.YtefnkjajjidfaaaDoorWal
import Derived.Test.YtefnkjajjidfaaaDoorDLd
import Derived.Test.YtefnkjajjidfaaaDoorRLc
import Derived.Test.YtefnkjajjidfaaaDoorGRa
import Derived.BigQuiet
namespace Go.Proofs.YtefnkjajjidfaaaDoor
open Go.RowKit
def lcells (dp : Option Addr) (g : Lg) : List Value := [.pointer dp, .int .i64 g.c.bl, .int .i64 g.c.lc, .int .i64 g.c.mr, .int .i64 g.c.hi, .int .i64 g.c.cl, .int .u64 g.life, .int .u64 g.tail, .int .u64 g.fin, .int .u64 g.mark, .int .i64 g.imgs, .int .i64 g.last]
theorem lcells_ones (dp : Option Addr) (g : Lg) : ∀ v ∈ lcells dp g, v.oneCell' = true := by
  intro v hv
  simp only [lcells, List.mem_cons, List.not_mem_nil, or_false] at hv
  rcases hv with h | h | h | h | h | h | h | h | h | h | h | h <;> subst h <;> rfl
theorem lcells_all (dp : Option Addr) (g : Lg) : (lcells dp g).toArray.all (·.oneCell') = true := all_oneCell_toArray (lcells_ones dp g)
abbrev GAt (w : World) (L : Nat) (dp : Option Addr) (g : Lg) : Prop := LAt 127 w L (lcells dp g)
section
variable {w : World} {L : Nat} {dp : Option Addr} {g : Lg}
theorem GAt.c0 (h : GAt w L dp g) : w.cell? ⟨L, 0, none⟩ = some (.pointer dp) := LAt.cell h 0
theorem GAt.c1 (h : GAt w L dp g) : w.cell? ⟨L, 1, none⟩ = some (.int .i64 g.c.bl) := LAt.cell h 1
theorem GAt.c2 (h : GAt w L dp g) : w.cell? ⟨L, 2, none⟩ = some (.int .i64 g.c.lc) := LAt.cell h 2
theorem GAt.c3 (h : GAt w L dp g) : w.cell? ⟨L, 3, none⟩ = some (.int .i64 g.c.mr) := LAt.cell h 3
theorem GAt.c6 (h : GAt w L dp g) : w.cell? ⟨L, 6, none⟩ = some (.int .u64 g.life) := LAt.cell h 6
theorem GAt.c7 (h : GAt w L dp g) : w.cell? ⟨L, 7, none⟩ = some (.int .u64 g.tail) := LAt.cell h 7
theorem GAt.c8 (h : GAt w L dp g) : w.cell? ⟨L, 8, none⟩ = some (.int .u64 g.fin) := LAt.cell h 8
theorem GAt.c9 (h : GAt w L dp g) : w.cell? ⟨L, 9, none⟩ = some (.int .u64 g.mark) := LAt.cell h 9
theorem GAt.c10 (h : GAt w L dp g) : w.cell? ⟨L, 10, none⟩ = some (.int .i64 g.imgs) := LAt.cell h 10
theorem GAt.c11 (h : GAt w L dp g) : w.cell? ⟨L, 11, none⟩ = some (.int .i64 g.last) := LAt.cell h 11
theorem GAt.free (h : GAt w L dp g) (j : Nat) : w.frozen? ⟨L, j, none⟩ = false := frozen_of_row w L j _ 127 h
theorem GAt.rangeC (h : GAt w L dp g) : w.rangeAt L 1 (ccells g.c) := fun j v hv => by
  have hj : j < 5 := by
    have := (List.getElem?_eq_some_iff.1 hv).1
    simpa [ccells] using this
  rw [LAt.cell h (1 + j)]
  rw [← hv]
  match j with
  | 0 => rfl
  | 1 => rfl
  | 2 => rfl
  | 3 => rfl
  | 4 => rfl
  | j + 5 => omega
theorem GAt.loadC (h : GAt w L dp g) : (Instr.loadAt 39 (.pointer (some ⟨L, 1, none⟩))).run Tryd.prog w = .ok (.agg (ccells g.c).toArray) w :=
  run_loadAt_mid w L 1 39 (ccells g.c) _ (GAt.rangeC h) Tryd.underlying39 rfl (by rw [size23]; rfl)
theorem GAt.setF (h : GAt w L dp g) (x : Int) : GAt (w.setCell ⟨L, 8, none⟩ (.int .u64 x)) L dp { g with fin := x } := LAt.set h 8 _
theorem GAt.setT (h : GAt w L dp g) (x : Int) : GAt (w.setCell ⟨L, 7, none⟩ (.int .u64 x)) L dp { g with tail := x } := LAt.set h 7 _
theorem GAt.setM (h : GAt w L dp g) (x : Int) : GAt (w.setCell ⟨L, 9, none⟩ (.int .u64 x)) L dp { g with mark := x } := LAt.set h 9 _
theorem GAt.setI (h : GAt w L dp g) (x : Int) : GAt (w.setCell ⟨L, 10, none⟩ (.int .i64 x)) L dp { g with imgs := x } := LAt.set h 10 _
theorem GAt.setB (h : GAt w L dp g) (x : Int) : GAt (w.setCell ⟨L, 11, none⟩ (.int .i64 x)) L dp { g with last := x } := LAt.set h 11 _
theorem GAt.setD (h : GAt w L dp g) (q : Option Addr) : GAt (w.setCell ⟨L, 0, none⟩ (.pointer q)) L q g := LAt.set h 0 _
end
/-- **a log with its disk**: the log's block L, the disk's p; all their blocks are S's -/
structure LD (w : World) (S : Nat → Prop) (L p : Nat) (d : List Int) (ws : List Wr) (g : Lg) : Prop where
  log : GAt w L (some ⟨p, 0, none⟩) g
  dsk : Dsk w (fun k => S k ∧ k ≠ L) p g.sz d ws
  sl : S L
  ok : g.Ok
section
variable {w w' : World} {S T : Nat → Prop} {L p : Nat} {d : List Int} {ws : List Wr} {g : Lg}
theorem LD.later (h : LD w S L p d ws g) (hb : Below w.heap.size w w') : LD w' S L p d ws g := ⟨LAt.later h.log hb, h.dsk.later hb, h.sl, h.ok⟩
theorem LD.kept (h : LD w S L p d ws g) (hk : Kept T w w') (hd : ∀ k, S k → T k → False) : LD w' S L p d ws g :=
  ⟨(hk.block L (LAt.lt h.log) (fun t => hd L h.sl t)).trans h.log, h.dsk.kept hk (fun k s t => hd k s.1 t), h.sl, h.ok⟩
theorem LD.mono (h : LD w S L p d ws g) (hs : ∀ k, k < w.heap.size → S k → T k) : LD w T L p d ws g :=
  ⟨h.log, h.dsk.mono fun k hk s => ⟨hs k hk s.1, s.2⟩, hs L (LAt.lt h.log) h.sl, h.ok⟩
/-- the disk has been turned, the log has not -/
theorem LD.wrote (h : LD w S L p d ws g) {d' : List Int} {ws' : List Wr} (hd : Dsk w' (More (fun k => S k ∧ k ≠ L) w) p g.sz d' ws') (hk : Kept (fun k => S k ∧ k ≠ L) w w') : LD w' (More S w) L p d' ws' g ∧ Kept S w w' := by
  have hL := LAt.lt h.log
  refine ⟨⟨(hk.block L hL (fun t => t.2 rfl)).trans h.log, hd.mono fun k _ s => ?_, .inl h.sl, h.ok⟩, ⟨hk.os, hk.tape, hk.output, hk.size, fun k h1 h2 => hk.block k h1 fun t => h2 t.1⟩⟩
  rcases s with s | s
  · exact ⟨.inl s.1, s.2⟩
  · exact ⟨.inr s, by omega⟩
theorem LD.flushed (h : LD w S L p d ws g) {d' : List Int} {ws' : List Wr} (hd : Dsk w' (fun k => S k ∧ k ≠ L) p g.sz d' ws') (hk : Kept (fun k => S k ∧ k ≠ L) w w') : LD w' S L p d' ws' g ∧ Kept S w w' := by
  have hL := LAt.lt h.log
  exact ⟨⟨(hk.block L hL (fun t => t.2 rfl)).trans h.log, hd, h.sl, h.ok⟩, ⟨hk.os, hk.tape, hk.output, hk.size, fun k h1 h2 => hk.block k h1 fun t => h2 t.1⟩⟩
/-- a cell of the log has been stored -/
theorem LD.set (h : LD w S L p d ws g) (j : Nat) (v : Value) {g' : Lg} (hg : GAt (w.setCell ⟨L, j, none⟩ v) L (some ⟨p, 0, none⟩) g') (hc : g'.c = g.c) (ok : g'.Ok) : LD (w.setCell ⟨L, j, none⟩ v) S L p d ws g' := by
  have hz : g'.sz = g.sz := by unfold Lg.sz; rw [hc]
  refine ⟨hg, ?_, h.sl, ok⟩
  rw [hz]
  exact h.dsk.kept (T := fun k => k = L) ⟨rfl, rfl, rfl, by simp [World.setCell], fun k _ hk => heap_setCell_other w ⟨L, j, none⟩ k v hk⟩ (fun k s t => s.2 t)
end
set_option maxHeartbeats 1000000 in
set_option maxRecDepth 100000 in
theorem lacks_nil (w : World) : Calls Tryd.prog 53 #[.pointer none] w fun e w' => e = .returned (.bool true) ∧ w = w' := by
  go_enter Tryd.func53, Tryd.ntmps53
  go_wp2
  go_ret
  exact ⟨rfl, rfl⟩
set_option maxHeartbeats 1000000 in
set_option maxRecDepth 100000 in
theorem lacks_none {w : World} {L : Nat} {g : Lg} (h : GAt w L none g) : Calls Tryd.prog 53 #[.pointer (some ⟨L, 0, none⟩)] w fun e w' => e = .returned (.bool true) ∧ w = w' := by
  have c0 := GAt.c0 h
  clear h
  go_enter Tryd.func53, Tryd.ntmps53
  go_wp2
  go_ret
  exact ⟨rfl, rfl⟩
set_option maxHeartbeats 1000000 in
set_option maxRecDepth 100000 in
theorem lacks_some {w : World} {L p : Nat} {g : Lg} (h : GAt w L (some ⟨p, 0, none⟩) g) : Calls Tryd.prog 53 #[.pointer (some ⟨L, 0, none⟩)] w fun e w' => e = .returned (.bool false) ∧ w = w' := by
  have c0 := GAt.c0 h
  clear h
  go_enter Tryd.func53, Tryd.ntmps53
  go_wp2
  go_ret
  exact ⟨rfl, rfl⟩
set_option maxHeartbeats 1000000 in
set_option maxRecDepth 100000 in
theorem ltail_nil (w : World) : Calls Tryd.prog 36 #[.pointer none] w fun e w' => e = .returned (.int .u64 0) ∧ w = w' := by
  go_enter Tryd.func36, Tryd.ntmps36
  go_wp2
  go_ret
  exact ⟨rfl, rfl⟩
set_option maxHeartbeats 1000000 in
set_option maxRecDepth 100000 in
theorem ltail_at {w : World} {L : Nat} {dp : Option Addr} {g : Lg} (h : GAt w L dp g) : Calls Tryd.prog 36 #[.pointer (some ⟨L, 0, none⟩)] w fun e w' => e = .returned (.int .u64 g.tail) ∧ w = w' := by
  have c7 := GAt.c7 h
  clear h
  go_enter Tryd.func36, Tryd.ntmps36
  go_wp2
  go_ret
  exact ⟨rfl, rfl⟩
set_option maxHeartbeats 1000000 in
set_option maxRecDepth 100000 in
theorem lend_nil (w : World) : Calls Tryd.prog 25 #[.pointer none] w fun e w' => e = .returned (.int .u64 0) ∧ w = w' := by
  go_enter Tryd.func25, Tryd.ntmps25
  go_wp2
  go_ret
  exact ⟨rfl, rfl⟩
set_option maxHeartbeats 1000000 in
set_option maxRecDepth 100000 in
theorem lend_at {w : World} {L : Nat} {dp : Option Addr} {g : Lg} (h : GAt w L dp g) : Calls Tryd.prog 25 #[.pointer (some ⟨L, 0, none⟩)] w fun e w' => e = .returned (.int .u64 g.fin) ∧ w = w' := by
  have c8 := GAt.c8 h
  clear h
  go_enter Tryd.func25, Tryd.ntmps25
  go_wp2
  go_ret
  exact ⟨rfl, rfl⟩
set_option maxHeartbeats 1000000 in
set_option maxRecDepth 100000 in
theorem lused_nil (w : World) : Calls Tryd.prog 13 #[.pointer none] w fun e w' => e = .returned (.int .i64 0) ∧ w = w' := by
  go_enter Tryd.func13, Tryd.ntmps13
  go_wp2_with fail
  refine (lend_nil w).mono ?_
  rintro e w1 ⟨rfl, rfl⟩
  go_wp2_with fail
  refine (ltail_nil w).mono ?_
  rintro e w1 ⟨rfl, rfl⟩
  go_wp2
  go_ret
  exact ⟨rfl, rfl⟩
set_option maxHeartbeats 1000000 in
set_option maxRecDepth 100000 in
theorem lused_at {w : World} {L : Nat} {dp : Option Addr} {g : Lg} (h : GAt w L dp g) (ok : g.Ok) : Calls Tryd.prog 13 #[.pointer (some ⟨L, 0, none⟩)] w fun e w' => e = .returned (.int .i64 (g.fin - g.tail)) ∧ w = w' := by
  have HG : Hid (GAt w L dp g) := h
  have hn : 0 ≤ g.fin - g.tail ∧ g.fin - g.tail ≤ 64 := by have := ok.tm; have := ok.mf; have := ok.us; have := ok.cf.2.1; omega
  clear h ok
  go_enter Tryd.func13, Tryd.ntmps13
  go_wp2_with fail
  refine (lend_at HG.out).mono ?_
  rintro e w1 ⟨rfl, rfl⟩
  go_wp2_with fail
  refine (ltail_at HG.out).mono ?_
  rintro e w1 ⟨rfl, rfl⟩
  have k1 : IntKind.u64.wrap (g.fin - g.tail) = g.fin - g.tail := G.wrap_u hn.1 (by omega)
  have k2 : RowKit.wrap64 (g.fin - g.tail) = g.fin - g.tail := by have := IntKind.wrap_i64 (g.fin - g.tail); unfold RowKit.wrap64; omega
  go_wp2
  go_ret
  exact ⟨rfl, rfl⟩
theorem slot_of {g : Lg} (ok : g.Ok) {p : Int} (h1 : p ≤ 4611686018427387904) : G.slotS p g.c.lc = (p % g.c.lc, 0) := by
  have := ok.cf.2.1
  unfold G.slotS
  rw [if_pos ⟨by omega, by omega⟩, if_neg (by omega)]
set_option maxHeartbeats 1000000 in
set_option maxRecDepth 100000 in
theorem sector_at {w : World} {L : Nat} {dp : Option Addr} {g : Lg} (h : GAt w L dp g) (ok : g.Ok) (p : Int) (h0 : 0 ≤ p) (h1 : p ≤ 4611686018427387904) : Calls Tryd.prog 84 #[.pointer (some ⟨L, 0, none⟩), .int .u64 p] w fun e w' => e = .returned (.int .i64 (secN g p)) ∧ w = w' := by
  have c1 := GAt.c1 h
  have c2 := GAt.c2 h
  have HS : Hid (_) := slot_of ok h1
  have HN : Hid (secN g p = 1 + g.c.bl + p % g.c.lc) := rfl
  have hb := ok.cf.1
  have hl := ok.cf.2.1
  have hm0 := Int.emod_nonneg p (show g.c.lc ≠ 0 by omega)
  have hm1 := Int.emod_lt_of_pos p (show 0 < g.c.lc by omega)
  clear h ok
  go_enter Tryd.func84, Tryd.ntmps84
  go_wp2_with fail
  refine (G.slot_any p g.c.lc h0 w).mono ?_
  rintro e w1 ⟨rfl, rfl⟩
  rw [HS.out]
  have k1 : IntKind.i64.wrap (1 + g.c.bl) = 1 + g.c.bl := by rw [IntKind.wrap_i64]; omega
  have k2 : IntKind.i64.wrap (1 + g.c.bl + p % g.c.lc) = 1 + g.c.bl + p % g.c.lc := by rw [IntKind.wrap_i64]; omega
  go_wp2
  go_ret
  exact ⟨by rw [HN.out]; rfl, rfl⟩
end Go.Proofs.YtefnkjajjidfaaaDoor
