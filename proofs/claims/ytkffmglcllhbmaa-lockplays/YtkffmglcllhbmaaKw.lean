/-
  Layer 14: what All's sequence gives.
-/
import Derived.Test.YtkffmglcllhbmaaKv
namespace Go.Proofs.Ytkffmglcllhbmaa
open Go.RowKit

open Go.Shelf
attribute [local go_sem] Oper.semAt_some
structure TV where
  t : Int
  p : Option Addr
  n : Nat
  c : Nat
abbrev TV.val (x : TV) : Value := .slice x.p x.n x.c
/-- what a round keeps: all that lay below n, but for one box -/
structure Kx (n b : Nat) (W W' : World) : Prop where
  os : W'.os = W.os
  tape : W'.tape = W.tape
  output : W'.output = W.output
  size : W.heap.size ≤ W'.heap.size
  block : ∀ k, k < n → k ≠ b → W'.heap[k]? = W.heap[k]?
theorem Kx.trans {n b : Nat} {A B C : World} (h : Kx n b A B) (k : Kx n b B C) : Kx n b A C := ⟨k.os.trans h.os, k.tape.trans h.tape, k.output.trans h.output, Nat.le_trans h.size k.size, fun i hi hb => (k.block i hi hb).trans (h.block i hi hb)⟩
theorem Kx.of_below {n b : Nat} {A B : World} (h : Below A.heap.size A B) (hn : n ≤ A.heap.size) : Kx n b A B := ⟨h.os, h.tape, h.output, h.size, fun i hi _ => h.block i (by omega)⟩
theorem Kx.refl (n b : Nat) (A : World) : Kx n b A A := ⟨rfl, rfl, rfl, Nat.le_refl _, fun _ _ _ => rfl⟩
theorem Kx.putObj {n b : Nat} (W : World) (l : Nat) (o o' : Obj) (hl : n ≤ l) (_ : W.heap[l]? = some o) (_ : o.isCells = false) : Kx n b W (W.putObj l o') := ⟨rfl, rfl, rfl, by simp, fun k hk _ => World.putObj_heap_other (by omega)⟩
theorem Kx.frm {n b : Nat} {W W' : World} {v : Value} {f : List Int} (h : Kx n b W W') (hf : Frm W v f) (hn : ∀ g, blk v = some g → g < n ∧ g ≠ b) : Frm W' v f := hf.kept fun g hg _ _ => h.block g (hn g hg).1 (hn g hg).2
theorem Kx.row {n b base : Nat} {W W' : World} {e : TypeId} {v : Value} {k : Nat} {xs : List Value} (h : Kx n b W W') (hf : W.ownsRow base e 1 v k xs) (hn : ∀ g, blk v = some g → g < n ∧ g ≠ b) : W'.ownsRow base e 1 v k xs := Own.kept' hf fun g hg _ _ => h.block g (hn g hg).1 (hn g hg).2
def en (L : List En) (i : Nat) : En := L.getD i (noE 0)
theorem en_mem {L : List En} {i : Nat} (h : i < L.length) : en L i ∈ L := by rw [en, List.getD, List.getElem?_eq_getElem h]; exact List.getElem_mem h
theorem en_tix {L : List En} {i : Nat} (h : i < L.length) : (tix L).getD i 0 = (en L i).t := by simp [en, tix, List.getD, h]
/-- what holds of an element when it is handed over -/
def TT (L : List En) (pre : List TV) (x : TV) (V0 V : World) : Prop := x.t = (en L pre.length).t ∧ x.n = (en L pre.length).s.length ∧ V.ownsRow V0.heap.size 3 1 x.val x.n (B.I64 (en L pre.length).s)
theorem own_cell {w : World} {base : Nat} {e : TypeId} {v : Value} {n : Nat} {xs : List Value} (h : w.ownsRow base e 1 v n xs) {i : Nat} {u : Value} (hi : xs[i]? = some u) : ∃ g c, v = .slice (some ⟨g, 0, none⟩) n c ∧ w.cell? ⟨g, i, none⟩ = some u ∧ i < n := by
  have hin : i < n := by
    have h1 := h.1
    have := (List.getElem?_eq_some_iff.1 hi).1
    omega
  rcases h.2 with ⟨_, hv⟩ | ⟨g, cap, cur, rfl, _⟩
  · omega
  · have hc := h.cells (g := g) rfl i u hi
    refine ⟨g, cap, rfl, ?_, hin⟩
    simpa [Go.WideShapes.add_plain] using hc
set_option maxRecDepth 100000 in
set_option maxHeartbeats 4000000 in
theorem allL_seq {w0 w : World} {bT bS b0 : Nat} {vT vS : Value} {L : List En} {m : Int → Option Value} (h : AllS w0 w bT bS vT vS L m) (hb0 : b0 < w0.heap.size) (hl : L.length ≤ 10000) (hs : ∀ e ∈ L, ∃ p c, sv m e.t = .slice p e.s.length c ∧ e.s.length ≤ 64 ∧ Frm w (.slice p e.s.length c) e.s ∧ ∀ g, blk (.slice p e.s.length c) = some g → g ≠ b0) (n : Nat) (hn : 3 ≤ n) :
    SeqT Fence.wide n Try.prog 58 #[.pointer (some ⟨bT, 0, none⟩), .pointer (some ⟨bS, 0, none⟩)] (fun x : TV => #[.int .u64 x.t, x.val]) (Kx w.heap.size b0) (fun xs => xs.length = L.length) (fun pre => pre.length ≤ L.length) L.length (TT L) w := by
  intro l J Jx W hW hJ hJx hY h0
  have H : Hid (AllS w0 w bT bS vT vS L m) := h
  have hTs := (own_shape h.rT)
  have hSs := (own_shape h.rS)
  obtain ⟨pT, cT, rfl, _, _, hTg, _⟩ := hTs
  obtain ⟨pS, cS, rfl, _, _, hSg, _⟩ := hSs
  have hsz := hW.size
  have cB : W.cell? ⟨bT, 0, none⟩ = some (.slice pT L.length cT) := (hW.cell (p := ⟨bT, 0, none⟩) h.bxT.lt).trans h.bxT.cell
  have HTg : Hid (∀ g, blk (.slice pT L.length cT) = some g → g < w.heap.size ∧ g ≠ b0) := fun g hg => ⟨(hTg g hg).2.1, by have := (hTg g hg).1; omega⟩
  have HSg : Hid (∀ g, blk (.slice pS L.length cS) = some g → g < w.heap.size ∧ g ≠ b0) := fun g hg => ⟨(hSg g hg).2.1, by have := (hSg g hg).1; omega⟩
  have HBS : Hid (bS < w.heap.size ∧ bS ≠ b0) := ⟨h.bxS.lt, by have := h.lS; omega⟩
  clear hTg hSg h
  refine callsIn_of_wp Try.func58 rfl trivial ?_ rfl
  simp only [Try.ntmps58, List.size_toArray, List.length_cons, List.length_nil, Nat.reduceAdd, Nat.reduceSub, Array.replicate_succ, Array.replicate_zero, List.push_toArray, List.append_toArray, List.nil_append, List.cons_append]
  gi_wp2
  clear cB
  gi_loopw [8] (fun i wr => ∃ k : Nat, k ≤ L.length ∧ i = .int .i64 k ∧ Hid (∃ pre : List TV, pre.length = k ∧ J pre wr ∧ Kx w.heap.size b0 W wr)) (fun i _ => L.length - (intOf i).toNat)
  case atStart => exact ⟨0, Nat.zero_le _, rfl, [], rfl, h0, Kx.refl _ _ _⟩
  case round =>
    obtain ⟨k, hk, rfl, HK⟩ := hrel
    by_cases hlt : k < L.length
    · obtain ⟨pre, hpk, hJp, hkx⟩ := HK.out
      have kx0 : Kx w.heap.size b0 w wr := (Kx.of_below hW (Nat.le_refl _)).trans hkx
      have hrs := hkx.size
      obtain ⟨gT, cT', eT, cTk, _⟩ := own_cell (kx0.row H.out.rT HTg.out) (i := k) (u := .int .u64 (en L k).t) (by rw [← en_tix hlt]; simp [V64, tix, List.getD, hlt])
      simp only [Value.slice.injEq, true_and] at eT
      obtain ⟨rfl, rfl⟩ := eT
      obtain ⟨pe, ce, es, hes, hfr, hge⟩ := hs _ (en_mem hlt)
      obtain ⟨gS, cS', eS, cSk, _⟩ := own_cell (kx0.row H.out.rS HSg.out) (i := k) (u := .slice pe (en L k).s.length ce) (by rw [← es, ← en_tix hlt]; simp [tix, List.getD, hlt])
      simp only [Value.slice.injEq, true_and] at eS
      obtain ⟨rfl, rfl⟩ := eS
      have cbS : wr.cell? ⟨bS, 0, none⟩ = some (.slice (some ⟨gS, 0, none⟩) L.length cS) := (World.cell?_of_block (w := w) (a := ⟨bS, 0, none⟩) (kx0.block bS HBS.out.1 HBS.out.2)).trans H.out.bxS.cell
      have hfr2 : Frm wr (.slice pe (en L k).s.length ce) (en L k).s := kx0.frm hfr (fun g hg => ⟨(hfr.lt hg).1, hge g hg⟩)
      obtain ⟨pe', ce', ee, hI, hec, hep⟩ := hfr2.read
      simp only [Value.slice.injEq, true_and] at ee
      obtain ⟨rfl, rfl⟩ := ee
      have HI : Hid (B.IIn wr pe (en L k).s.length (en L k).s) := hI
      have HKX : Hid (Kx w.heap.size b0 W wr ∧ J pre wr ∧ pre.length = k) := ⟨hkx, hJp, hpk⟩
      clear hkx hJp hpk kx0 hfr hfr2 hI hge es HK
      have hkl : (k : Int) < (L.length : Int) := by omega
      gi_wp2_with fail
      refine ⟨trivial, fun _ => by omega, (callsIn_wide.2 (cloneI_at HI.out hec hep (by omega))).mono ?_⟩
      rintro e w1 ⟨q, d, rfl, hm⟩
      obtain ⟨fn, tmps, assign, body, hy, hR⟩ := hY pre ⟨(en L k).t, q, (en L k).s.length, d⟩ wr w1 HKX.out.2.1 hm.below (by refine ⟨by rw [HKX.out.2.2], by rw [HKX.out.2.2], ?_⟩; rw [HKX.out.2.2]; exact hm.own) (by rw [HKX.out.2.2]; exact hlt)
      have HM : Hid (Below wr.heap.size wr w1) := hm.below
      clear hm
      gi_wp2
      refine ⟨fun _ => by omega, hR.mono ?_⟩
      rintro e W3 ⟨-, (⟨rfl, hJ3, hk3⟩ | ⟨rfl, hJx3⟩)⟩
      · have HN : Hid (∃ pre' : List TV, pre'.length = k + 1 ∧ J pre' W3 ∧ Kx w.heap.size b0 W W3) := ⟨_, by simp [HKX.out.2.2], hJ3, (HKX.out.1.trans (Kx.of_below HM.out (by omega))).trans hk3⟩
        clear hJ3 hk3
        gi_wp2
        go_roundw
        case rel => exact ⟨k + 1, by omega, by simp, HN.out⟩
        case measure => simp [intOf]; omega
      · have HX : Hid (Jx (pre ++ [⟨(en L k).t, q, (en L k).s.length, d⟩]) W3) := hJx3
        clear hJx3
        gi_wp2
        refine bodyPost_ret (results_none rfl _ _ _) rfl ?_
        exact ⟨⟨_, rfl⟩, .inr ⟨_, by simp only [List.length_append, List.length_singleton]; have := HKX.out.2.2; omega, HX.out⟩⟩
    · obtain rfl : k = L.length := by omega
      obtain ⟨pre, hpk, hJp, -⟩ := HK.out
      gi_wp2
      go_end0
      exact ⟨⟨_, rfl⟩, .inl ⟨pre, hpk, hJp⟩⟩
end Go.Proofs.Ytkffmglcllhbmaa
