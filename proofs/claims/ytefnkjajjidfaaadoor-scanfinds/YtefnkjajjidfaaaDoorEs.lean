/-
  Layer 10: ScanFinds.
-/
import Derived.Test.YtefnkjajjidfaaaDoorEq
import Derived.Test.YtefnkjajjidfaaaDoorEr
import Derived.Test.YtefnkjajjidfaaaDoorEl
import Derived.Test.YtefnkjajjidfaaaDoorEn
namespace Go.Proofs.YtefnkjajjidfaaaDoor
open Go.RowKit


theorem sizeSt : (Tryd.prog.info? 43).map (·.size) = some 9 := by kernel_rfl
theorem LAt.loadSt {w : World} {g : Nat} {c : Sup} {ps : Option Addr} {n cs : Nat} {sd : Int} {op : Bool} {pl : Option Addr} {m cl : Nat} (h : LAt 43 w g (stc c ps n cs sd op pl m cl)) : (Instr.loadAt 43 (.pointer (some ⟨g, 0, none⟩))).run Tryd.prog w = .ok (.agg (stc c ps n cs sd op pl m cl).toArray) w :=
  run_loadAt_mid w g 0 43 _ _ (LAt.range h) Tryd.underlying43 rfl sizeSt
theorem wrap_nat (j : Nat) (h : j ≤ 64) : IntKind.i64.wrap (j : Int) = j := by rw [IntKind.wrap_i64]; omega
theorem xown_kt {B : Nat} {V V' : World} (hk : KT B V V') {C : Nat} {v : Value} {l : List TX} {vs : List Value} (h : XOwn 28 V C v l vs) : XOwn 28 V' C v l vs :=
  ⟨h.len, own_kt hk (by decide) h.row, fun k t u a b => own_kt hk (by decide) (h.each k t u a b), h.wf⟩
set_option maxHeartbeats 4000000 in
set_option maxRecDepth 100000 in
theorem scanFinds_any (s0 : Sup) (ps : Option Addr) (n cs : Nat) (sets : List Int) (sd : Int) (op : Bool) (pl : Option Addr) (m cl : Nat) (fl : Bool) (w : World) (ht : Tab w) (hS : UIn w ps n sets) (hn : n ≤ 140737488355328) :
    Calls Tryd.prog 6 #[.agg (stc s0 ps n cs sd op pl m cl).toArray, .bool fl] w fun e w' => e = .returned (.bool true) ∧ Below w.heap.size w w' := by
  have HT : Hid (Tab w) := ht
  have HU : Hid (UIn w ps n sets) := hS
  obtain ⟨wa, hwa⟩ : ∃ y, y = w.alloc (.cells (stc s0 ps n cs sd op pl m cl).toArray 43) := ⟨_, rfl⟩
  have ewa := hwa.symm
  have B0 : Hid (Below w.heap.size w wa) := by rw [hwa]; exact below_alloc w _
  have S0 : Hid (LAt 43 wa w.heap.size (stc s0 ps n cs sd op pl m cl)) := by rw [hwa]; exact LAt.new 43 w _
  clear hwa ht hS
  go_enter Tryd.func6, Tryd.ntmps6
  go_wp2_with fail
  refine (awake_any wa (HT.out.later B0.out)).mono ?_
  rintro e w1 ⟨rfl, b1⟩
  have B1 : Hid (Below w.heap.size w w1) := below_then B0.out b1
  have S1 : Hid (LAt 43 w1 w.heap.size (stc s0 ps n cs sd op pl m cl)) := LAt.later S0.out b1
  have L1 : Hid (_) := LAt.loadSt S1.out
  clear b1 B0 S0 ewa
  go_wp2_with ((with_reducible refine at_ops ?_); (refine wpList_load_is (by rfl) 43 rfl rfl L1.out ?_); simp only [Act.put, List.setIfInBounds_toArray, List.set_cons_zero, List.set_cons_succ])
  refine (told_any s0 ps n cs sets sd op pl m cl w1 (HT.out.later B1.out) (HU.out.later B1.out) hn).mono ?_
  rintro e w2 ⟨p, L, q, d, vs, B, g, ws, al, s, rfl, lb, st, wl, xo, hB, b2⟩
  have hfin := st.fin_is
  have hlc0 := (cfgS_may s0).2.1
  have hwl : ws.length ≤ 100000 := by omega
  clear hfin hlc0 wl
  generalize hN : s.txs.length = N at *
  have A2 : Hid (_) := allocR w2
  have T2 : Hid (_) := store_newR w2 0 1 s.fin (v := .slice q N d) rfl
  obtain ⟨w3, hw3⟩ : ∃ y, y = w2.alloc (.cells (gcells 0 1 s.fin (.slice q N d)).toArray 48) := ⟨_, rfl⟩
  rw [← hw3] at T2
  have b3 : Below w2.heap.size w2 w3 := by rw [hw3]; exact below_alloc w2 _
  have W3 : Hid (LAt 48 w3 w2.heap.size (gcells 0 1 s.fin (.slice q N d))) := by rw [hw3]; exact LAt.new 48 w2 _
  have b13 : Below w1.heap.size w1 w3 := below_then b2 b3
  have B3 : Hid (Below w.heap.size w w3) := below_then B1.out b13
  have S3 : Hid (LAt 43 w3 w.heap.size (stc s0 ps n cs sd op pl m cl)) := LAt.later S1.out b13
  have X3 : Hid (XOwn 28 w3 w1.heap.size (.slice q N d) s.txs vs) := xo.later b3
  have G3 : Hid (LB w3 B L p (newS (cfgS s0)) ws g) := lb.later b3
  have HY : Hid (Sty (cfgS s0) g ws al s) := st
  have hsz : g.sz = cntS (cfgS s0) := by unfold Lg.sz cntS; rw [st.gc]
  have hwB : w.heap.size ≤ B := Nat.le_trans B1.out.size hB
  clear hw3 b3 b13 b2 lb st xo L1 S1 B1 hB
  cases fl with
  | false =>
    have Y4 : Hid (rdL (cfgS s0) (cntS (cfgS s0)) (newest ws (newS (cfgS s0))) = (⟨0, 1, s.fin, s.txs⟩, 0) ∧ Sc.Ok (cfgS s0).mr 0 (cfgS s0).lc.toNat s) := HY.out.found (fun _ _ => rfl) (newest_bytes G3.out.dsk)
    have G4 : Hid (Dsk w3 (fun k => B ≤ k ∧ k ≠ L) p (cntS (cfgS s0)) (newS (cfgS s0)) ws) := by rw [← hsz]; exact G3.out.dsk
    have X4 : Hid (XIn w3 q N s.txs) := by
      obtain ⟨a1, a2, a3, a4, -, -⟩ := XOwn.in X3.out
      rw [hN] at a3 a4
      cases a3
      exact a4
    obtain ⟨w4, hw4⟩ : ∃ y, y = w3 := ⟨_, rfl⟩
    rw [← hw4] at T2 W3 B3 S3 G4 X4
    have S4 : Hid (_) := S3.out
    have W4 : Hid (_) := W3.out
    have B4 : Hid (_) := B3.out
    have L4 : Hid (_) := stc_range S4.out
    clear G3 HY X3 hw4 S3 W3 B3 hsz hwB hwl
    go_wp2_with ((with_reducible refine at_ops ?_); (first | (refine wpList_alloc_is (by rfl) 48 rfl A2.out ?_) | (refine wpList_store_is (by rfl) 48 rfl rfl rfl T2.out ?_) | (refine wpList_load_is (by rfl) 39 rfl rfl L4.out ?_)); simp only [Act.put, List.setIfInBounds_toArray, List.set_cons_zero, List.set_cons_succ])
    refine (config10_any s0 w4).mono ?_
    rintro e w6 ⟨rfl, b6⟩
    have A6 : Hid (_) := alloc23 w6
    have T6 : Hid (_) := store_new23 w6 (cfgS s0)
    obtain ⟨w7, hw7⟩ : ∃ y, y = w6.alloc (.cells (ccells (cfgS s0)).toArray 39) := ⟨_, rfl⟩
    rw [← hw7] at T6
    have b7 : Below w6.heap.size w6 w7 := by rw [hw7]; exact below_alloc w6 _
    have C7 : CAt w7 w6.heap.size (cfgS s0) := by rw [hw7]; exact LAt.new 39 w6 _
    have L7 : Hid (_) := CAt.load23 C7
    have b47 : Below w4.heap.size w4 w7 := below_then b6 b7
    have B7 : Hid (Below w.heap.size w w7) := below_then B4.out b47
    clear hw7 b6 b7 L4
    go_wp2_with ((with_reducible refine at_ops ?_); (first | (refine wpList_alloc_is (by rfl) 39 rfl A6.out ?_) | (refine wpList_store_is (by rfl) 39 rfl rfl rfl T6.out ?_) | (refine wpList_load_is (by rfl) 39 rfl rfl L7.out ?_)); simp only [Act.put, List.setIfInBounds_toArray, List.set_cons_zero, List.set_cons_succ])
    refine (read_any10 (G4.out.later b47) (HT.out.later B7.out) (cfgS s0)).mono ?_
    rintro e w8 ⟨q8, c8, vs8, rfl, x8, -, b8⟩
    rw [Y4.out.1] at x8 ⊢
    have X8' : XIn w8 q8 N s.txs := by
      obtain ⟨a1, a2, a3, a4, -, -⟩ := XOwn.in x8
      rw [show (((⟨0, 1, s.fin, s.txs⟩ : LogS), (0 : Int)).1.txs).length = N from hN] at a3 a4
      cases a3
      exact a4
    have A8 : Hid (_) := allocLg w8
    have T8 : Hid (_) := storeLg w8 0 1 s.fin (v := .slice q8 N c8) rfl
    obtain ⟨w9, hw9⟩ : ∃ y, y = w8.alloc (.cells (gcells 0 1 s.fin (.slice q8 N c8)).toArray 66) := ⟨_, rfl⟩
    rw [← hw9] at T8
    have b9 : Below w8.heap.size w8 w9 := by rw [hw9]; exact below_alloc w8 _
    have M9 : Hid (LAt 66 w9 w8.heap.size (gcells 0 1 s.fin (.slice q8 N c8))) := by rw [hw9]; exact LAt.new 66 w8 _
    have b79 : Below w7.heap.size w7 w9 := below_then b8 b9
    have b49 : Below w4.heap.size w4 w9 := below_then b47 b79
    have B9 : Hid (Below w.heap.size w w9) := below_then B7.out b79
    have C9 : Hid (CAt w9 w6.heap.size (cfgS s0)) := LAt.later C7 b79
    have W9 : Hid (LAt 48 w9 w2.heap.size (gcells 0 1 s.fin (.slice q N d))) := LAt.later W4.out b49
    have X8 : Hid (XIn w9 q8 N s.txs) := X8'.later b9
    have XW : Hid (XIn w9 q N s.txs) := X4.out.later b49
    have Z9 : w9.cell? ⟨w8.heap.size, 3, none⟩ = some (.slice q8 N c8) := LAt.cell M9.out 3
    have hok := Y4.out.2
    have hlc := (cfgS_may s0).2.1
    have hN64 : N ≤ 64 := by have := hok.tl; omega
    have hwf := hok.tw
    have hms : ∀ x ∈ s.txs, x.ims.length ≤ 100000 := fun x hx => by have := hok.cm x hx; have := (cfgS_may s0).2.2.1; omega
    have HUp : Hid (s.txs.Pairwise (fun x y => x.p < y.p)) := hok.up
    have hf0 := hok.f0
    have hf1 := hok.f1
    have htl := hok.tl
    clear hw9 b8 b9 b79 b49 b47 C7 L7 A6 x8 X8' hok S4 W4 X4 G4 B4 B7 Y4 T6 hlc
    obtain ⟨lc, hlc⟩ : ∃ lc : Nat, (cfgS s0).lc = lc := ⟨(cfgS s0).lc.toNat, by have := (cfgS_may s0).2.1; omega⟩
    have hlc64 : lc ≤ 64 := by have := (cfgS_may s0).2.1; omega
    have hfl : s.fin ≤ (lc : Int) := by omega
    have hNl : (N : Int) ≤ (lc : Int) := by omega
    rw [show ((⟨0, 1, s.fin, s.txs⟩ : LogS), (0 : Int)).1.txs.length = N from hN]
    go_wp2_with ((with_reducible refine at_ops ?_); (first | (refine wpList_alloc_is (by rfl) 66 rfl A8.out ?_) | (refine wpList_store_is (by rfl) 66 rfl rfl rfl T8.out ?_)); simp only [Act.put, List.setIfInBounds_toArray, List.set_cons_zero, List.set_cons_succ])
    clear A8 T8 Z9
    have HM : Hid (∀ W, Below w9.heap.size w9 W → W.cell? ⟨w8.heap.size, 3, none⟩ = some (.slice q8 N c8)) := fun W hW => LAt.cell (LAt.later M9.out hW) 3
    have HF : Hid (∀ W, Below w9.heap.size w9 W → W.cell? ⟨w8.heap.size, 2, none⟩ = some (.int .u64 s.fin)) := fun W hW => LAt.cell (LAt.later M9.out hW) 2
    have H0 : Hid (∀ W, Below w9.heap.size w9 W → W.cell? ⟨w8.heap.size, 0, none⟩ = some (.int .u64 0)) := fun W hW => LAt.cell (LAt.later M9.out hW) 0
    have HL : Hid (∀ W, Below w9.heap.size w9 W → W.cell? ⟨w6.heap.size, 1, none⟩ = some (.int .i64 (lc : Int))) := fun W hW => by rw [← hlc]; exact CAt.c1 (LAt.later C9.out hW)
    have hcv : IntKind.u64.wrap (lc : Int) = lc := G.wrap_u (by omega) (by omega)
    clear hf1 htl hlc
    go_loopw [47] (fun i wr => ∃ k : Nat, k ≤ N ∧ i = .int .i64 k ∧ Hid (Below w9.heap.size w9 wr)) (fun i _ => N - (intOf i).toNat)
    case atStart => exact ⟨0, Nat.zero_le _, rfl, Below.refl _ _⟩
    case round =>
      obtain ⟨k, hk, rfl, HB⟩ := hrel
      by_cases hlt : k < N
      · by_cases k0 : k = 0
        · subst k0
          go_wp2_with fail
          refine wp_region_noPanic ?_
          refine wp_region_held_drew (S := fun w' => Below wr.heap.size wr w') (by kernel_rfl) (below_drawn 1) (fun hHeld => ?_)
          have D1 : Hid (Below wr.heap.size wr wr.drew) := hHeld
          generalize wr.drew = wd at *
          refine wpAnyH_take (i := 0) (v := ?vap1) (by simp; rfl) (by kernel_rfl) (by kernel_rfl) (by kernel_rfl) (fun _ _ _ h => h) (Or.inl ⟨by rfl, ?yap1⟩) hHeld ?rap1
          case yap1 => intro w hSw; clear hSw; go_simp; with_reducible rfl
          simp only [Act.put, List.setIfInBounds_toArray, List.set_cons_zero, List.set_cons_succ]
          refine wpAnyH_take (i := 1) (v := ?vap2) (by simp; rfl) (by kernel_rfl) (by kernel_rfl) (by kernel_rfl) (fun _ _ _ h => h) (Or.inl ⟨by rfl, ?yap2⟩) hHeld ?rap2
          case yap2 => intro w hSw; clear hSw; go_simp; with_reducible rfl
          simp only [Act.put, List.setIfInBounds_toArray, List.set_cons_zero, List.set_cons_succ]
          refine wpAnyH_take (i := 2) (v := ?vap3) (by simp; rfl) (by kernel_rfl) (by kernel_rfl) (by kernel_rfl) (fun _ _ _ h => h) (Or.inl ⟨by rfl, ?yap3⟩) hHeld ?rap3
          case yap3 => intro w hSw; clear hSw; go_simp; with_reducible rfl
          simp only [Act.put, List.setIfInBounds_toArray, List.set_cons_zero, List.set_cons_succ]
          refine wpAnyH_take (i := 3) (v := undef) (by simp; rfl) (by kernel_rfl) (by kernel_rfl) (by kernel_rfl) (fun _ _ _ h => h) (Or.inr ⟨by rfl, rfl⟩) hHeld ?_
          simp only [Act.put, List.setIfInBounds_toArray, List.set_cons_zero, List.set_cons_succ]
          refine wpAnyH_take (i := 4) (v := undef) (by simp; rfl) (by kernel_rfl) (by kernel_rfl) (by kernel_rfl) (fun _ _ _ h => h) (Or.inr ⟨by rfl, rfl⟩) hHeld ?_
          simp only [Act.put, List.setIfInBounds_toArray, List.set_cons_zero, List.set_cons_succ]
          refine wpAnyH_take (i := 5) (v := undef) (by simp; rfl) (by kernel_rfl) (by kernel_rfl) (by kernel_rfl) (fun _ _ _ h => h) (Or.inr ⟨by rfl, rfl⟩) hHeld ?_
          simp only [Act.put, List.setIfInBounds_toArray, List.set_cons_zero, List.set_cons_succ]
          refine wpAnyH_take (i := 6) (v := undef) (by simp; rfl) (by kernel_rfl) (by kernel_rfl) (by kernel_rfl) (fun _ _ _ h => h) (Or.inr ⟨by rfl, rfl⟩) hHeld ?_
          simp only [Act.put, List.setIfInBounds_toArray, List.set_cons_zero, List.set_cons_succ]
          refine wpAnyH_take (i := 7) (v := undef) (by simp; rfl) (by kernel_rfl) (by kernel_rfl) (by kernel_rfl) (fun _ _ _ h => h) (Or.inr ⟨by rfl, rfl⟩) hHeld ?_
          simp only [Act.put, List.setIfInBounds_toArray, List.set_cons_zero, List.set_cons_succ]
          refine wpAnyH_take (i := 8) (v := undef) (by simp; rfl) (by kernel_rfl) (by kernel_rfl) (by kernel_rfl) (fun _ _ _ h => h) (Or.inr ⟨by rfl, rfl⟩) hHeld ?_
          simp only [Act.put, List.setIfInBounds_toArray, List.set_cons_zero, List.set_cons_succ]
          refine wpAnyH_take (i := 9) (v := undef) (by simp; rfl) (by kernel_rfl) (by kernel_rfl) (by kernel_rfl) (fun _ _ _ h => h) (Or.inr ⟨by rfl, rfl⟩) hHeld ?_
          simp only [Act.put, List.setIfInBounds_toArray, List.set_cons_zero, List.set_cons_succ]
          refine wpAnyH_take (i := 10) (v := undef) (by simp; rfl) (by kernel_rfl) (by kernel_rfl) (by kernel_rfl) (fun _ _ _ h => h) (Or.inr ⟨by rfl, rfl⟩) hHeld ?_
          simp only [Act.put, List.setIfInBounds_toArray, List.set_cons_zero, List.set_cons_succ]
          refine wpAnyH_take (i := 11) (v := undef) (by simp; rfl) (by kernel_rfl) (by kernel_rfl) (by kernel_rfl) (fun _ _ _ h => h) (Or.inr ⟨by rfl, rfl⟩) hHeld ?_
          simp only [Act.put, List.setIfInBounds_toArray, List.set_cons_zero, List.set_cons_succ]
          refine wpAnyH_take (i := 12) (v := undef) (by simp; rfl) (by kernel_rfl) (by kernel_rfl) (by kernel_rfl) (fun _ _ _ h => h) (Or.inr ⟨by rfl, rfl⟩) hHeld ?_
          simp only [Act.put, List.setIfInBounds_toArray, List.set_cons_zero, List.set_cons_succ]
          refine wpAnyH_take (i := 13) (v := undef) (by simp; rfl) (by kernel_rfl) (by kernel_rfl) (by kernel_rfl) (fun _ _ _ h => h) (Or.inr ⟨by rfl, rfl⟩) hHeld ?_
          simp only [Act.put, List.setIfInBounds_toArray, List.set_cons_zero, List.set_cons_succ]
          refine wpAnyH_take (i := 14) (v := undef) (by simp; rfl) (by kernel_rfl) (by kernel_rfl) (by kernel_rfl) (fun _ _ _ h => h) (Or.inr ⟨by rfl, rfl⟩) hHeld ?_
          simp only [Act.put, List.setIfInBounds_toArray, List.set_cons_zero, List.set_cons_succ]
          refine wpAnyH_take (i := 15) (v := undef) (by simp; rfl) (by kernel_rfl) (by kernel_rfl) (by kernel_rfl) (fun _ _ _ h => h) (Or.inr ⟨by rfl, rfl⟩) hHeld ?_
          simp only [Act.put, List.setIfInBounds_toArray, List.set_cons_zero, List.set_cons_succ]
          refine wpAnyH_take (i := 16) (v := undef) (by simp; rfl) (by kernel_rfl) (by kernel_rfl) (by kernel_rfl) (fun _ _ _ h => h) (Or.inr ⟨by rfl, rfl⟩) hHeld ?_
          simp only [Act.put, List.setIfInBounds_toArray, List.set_cons_zero, List.set_cons_succ]
          refine wpAnyH_take (i := 17) (v := ?vap4) (by simp; rfl) (by kernel_rfl) (by kernel_rfl) (by kernel_rfl) (fun _ _ _ h => h) (Or.inl ⟨by rfl, ?yap4⟩) hHeld ?rap4
          case yap4 => intro w hSw; clear hSw; go_simp; with_reducible rfl
          simp only [Act.put, List.setIfInBounds_toArray, List.set_cons_zero, List.set_cons_succ]
          clear hHeld
          refine wpAnyH_done (by kernel_rfl) (NoPanic.normal ?_) _
          have HB2 : Hid (Below w9.heap.size w9 wd) := below_then HB.out D1.out
          clear D1 HB
          go_wp2_with fail
          go_roundw
          case rel => exact ⟨1, by omega, by go_num, HB2.out⟩
          case measure => simp [intOf]; omega
        obtain ⟨j, rfl⟩ : ∃ j, k = j + 1 := ⟨k - 1, by omega⟩
        obtain ⟨gq, oq, rfl, hcs⟩ := X8.out.cells (by omega)
        have hlj : j + 1 < s.txs.length := by omega
        have e0 : s.txs[j]? = some (s.txs[j]'(by omega)) := List.getElem?_eq_getElem (by omega)
        have e1 : s.txs[j + 1]? = some (s.txs[j + 1]'hlj) := List.getElem?_eq_getElem hlj
        have hup : (s.txs[j]'(by omega)).p < (s.txs[j + 1]'hlj).p := List.pairwise_iff_getElem.1 HUp.out j (j + 1) (by omega) hlj (by omega)
        obtain ⟨-, -, r0, -⟩ := hcs j _ e0
        obtain ⟨-, -, r1, -⟩ := hcs (j + 1) _ e1
        generalize (s.txs[j]'(by omega)).p = x0 at *
        generalize (s.txs[j + 1]'hlj).p = x1 at *
        have HP0 : Hid (∀ W, Below w9.heap.size w9 W → W.cell? ⟨gq, oq + j * 2, none⟩ = some (.int .u64 x0)) := fun W hW => (hW.cell (p := ⟨gq, oq + j * 2, none⟩) (World.block_lt_of_cell? w9 _ r0)).trans r0
        have HP1 : Hid (∀ W, Below w9.heap.size w9 W → W.cell? ⟨gq, oq + (j + 1) * 2, none⟩ = some (.int .u64 x1)) := fun W hW => (hW.cell (p := ⟨gq, oq + (j + 1) * 2, none⟩) (World.block_lt_of_cell? w9 _ r1)).trans r1
        have hge : ¬ x1 ≤ x0 := by omega
        have g0 : (0 : Int) < (j : Int) + 1 := by omega
        have g1 : ((j + 1 : Nat) : Int) = (j : Int) + 1 := by omega
        have g2 : (j : Int) + 1 - 1 = j := by omega
        have g3 : IntKind.i64.wrap (j : Int) = j := wrap_nat j (by omega)
        have g4 : (j : Int) < N := by omega
        have g5 : ((j : Int) + 1).toNat = j + 1 := by omega
        have g6 : (0 : Int) ≤ (j : Int) + 1 := by omega
        have g7 : (j : Int) + 1 < N := by omega
        clear hcs e0 e1 r0 r1 hup
        go_wp2_with fail
        refine wp_region_noPanic ?_
        refine wp_region_held_drew (S := fun w' => Below wr.heap.size wr w') (by kernel_rfl) (below_drawn 1) (fun hHeld => ?_)
        have D1 : Hid (Below wr.heap.size wr wr.drew) := hHeld
        generalize wr.drew = wd at *
        refine wpAnyH_take (i := 0) (v := ?vap5) (by simp; rfl) (by kernel_rfl) (by kernel_rfl) (by kernel_rfl) (fun _ _ _ h => h) (Or.inl ⟨by rfl, ?yap5⟩) hHeld ?rap5
        case yap5 => intro w hSw; clear hSw; go_simp; with_reducible rfl
        simp only [Act.put, List.setIfInBounds_toArray, List.set_cons_zero, List.set_cons_succ]
        refine wpAnyH_take (i := 1) (v := ?vap6) (by simp; rfl) (by kernel_rfl) (by kernel_rfl) (by kernel_rfl) (fun _ _ _ h => h) (Or.inl ⟨by rfl, ?yap6⟩) hHeld ?rap6
        case yap6 => intro w hSw; clear hSw; go_simp; with_reducible rfl
        simp only [Act.put, List.setIfInBounds_toArray, List.set_cons_zero, List.set_cons_succ]
        refine wpAnyH_take (i := 2) (v := ?vap7) (by simp; rfl) (by kernel_rfl) (by kernel_rfl) (by kernel_rfl) (fun _ _ _ h => h) (Or.inl ⟨by rfl, ?yap7⟩) hHeld ?rap7
        case yap7 => intro w hSw; clear hSw; go_simp; with_reducible rfl
        simp only [Act.put, List.setIfInBounds_toArray, List.set_cons_zero, List.set_cons_succ]
        refine wpAnyH_take (i := 3) (v := ?vap8) (by simp; rfl) (by kernel_rfl) (by kernel_rfl) (by kernel_rfl) (fun _ _ _ h => h) (Or.inl ⟨by rfl, ?yap8⟩) hHeld ?rap8
        case yap8 => intro w hSw; clear hSw; go_simp; with_reducible rfl
        simp only [Act.put, List.setIfInBounds_toArray, List.set_cons_zero, List.set_cons_succ]
        refine wpAnyH_take (i := 4) (v := ?vap9) (by simp; rfl) (by kernel_rfl) (by kernel_rfl) (by kernel_rfl) (fun _ _ _ h => h) (Or.inl ⟨by rfl, ?yap9⟩) hHeld ?rap9
        case yap9 => intro w hSw; have z := HM.out _ (below_then HB.out hSw); clear hSw; go_simp; with_reducible rfl
        simp only [Act.put, List.setIfInBounds_toArray, List.set_cons_zero, List.set_cons_succ]
        refine wpAnyH_take (i := 5) (v := ?vap10) (by simp; rfl) (by kernel_rfl) (by kernel_rfl) (by kernel_rfl) (fun _ _ _ h => h) (Or.inl ⟨by rfl, ?yap10⟩) hHeld ?rap10
        case yap10 => intro w hSw; clear hSw; go_simp; with_reducible rfl
        simp only [Act.put, List.setIfInBounds_toArray, List.set_cons_zero, List.set_cons_succ]
        refine wpAnyH_take (i := 6) (v := ?vap11) (by simp; rfl) (by kernel_rfl) (by kernel_rfl) (by kernel_rfl) (fun _ _ _ h => h) (Or.inl ⟨by rfl, ?yap11⟩) hHeld ?rap11
        case yap11 => intro w hSw; clear hSw; go_simp; with_reducible rfl
        simp only [Act.put, List.setIfInBounds_toArray, List.set_cons_zero, List.set_cons_succ]
        refine wpAnyH_take (i := 7) (v := ?vap12) (by simp; rfl) (by kernel_rfl) (by kernel_rfl) (by kernel_rfl) (fun _ _ _ h => h) (Or.inl ⟨by rfl, ?yap12⟩) hHeld ?rap12
        case yap12 => intro w hSw; clear hSw; go_simp; with_reducible rfl
        simp only [Act.put, List.setIfInBounds_toArray, List.set_cons_zero, List.set_cons_succ]
        refine wpAnyH_take (i := 8) (v := ?vap13) (by simp; rfl) (by kernel_rfl) (by kernel_rfl) (by kernel_rfl) (fun _ _ _ h => h) (Or.inl ⟨by rfl, ?yap13⟩) hHeld ?rap13
        case yap13 => intro w hSw; clear hSw; go_simp; with_reducible rfl
        simp only [Act.put, List.setIfInBounds_toArray, List.set_cons_zero, List.set_cons_succ]
        refine wpAnyH_take (i := 9) (v := ?vap14) (by simp; rfl) (by kernel_rfl) (by kernel_rfl) (by kernel_rfl) (fun _ _ _ h => h) (Or.inl ⟨by rfl, ?yap14⟩) hHeld ?rap14
        case yap14 => intro w hSw; have z := HP0.out _ (below_then HB.out hSw); clear hSw; go_simp; with_reducible rfl
        simp only [Act.put, List.setIfInBounds_toArray, List.set_cons_zero, List.set_cons_succ]
        refine wpAnyH_take (i := 10) (v := ?vap15) (by simp; rfl) (by kernel_rfl) (by kernel_rfl) (by kernel_rfl) (fun _ _ _ h => h) (Or.inl ⟨by rfl, ?yap15⟩) hHeld ?rap15
        case yap15 => intro w hSw; clear hSw; go_simp; with_reducible rfl
        simp only [Act.put, List.setIfInBounds_toArray, List.set_cons_zero, List.set_cons_succ]
        refine wpAnyH_take (i := 11) (v := ?vap16) (by simp; rfl) (by kernel_rfl) (by kernel_rfl) (by kernel_rfl) (fun _ _ _ h => h) (Or.inl ⟨by rfl, ?yap16⟩) hHeld ?rap16
        case yap16 => intro w hSw; have z := HM.out _ (below_then HB.out hSw); clear hSw; go_simp; with_reducible rfl
        simp only [Act.put, List.setIfInBounds_toArray, List.set_cons_zero, List.set_cons_succ]
        refine wpAnyH_take (i := 12) (v := ?vap17) (by simp; rfl) (by kernel_rfl) (by kernel_rfl) (by kernel_rfl) (fun _ _ _ h => h) (Or.inl ⟨by rfl, ?yap17⟩) hHeld ?rap17
        case yap17 => intro w hSw; clear hSw; go_simp; with_reducible rfl
        simp only [Act.put, List.setIfInBounds_toArray, List.set_cons_zero, List.set_cons_succ]
        refine wpAnyH_take (i := 13) (v := ?vap18) (by simp; rfl) (by kernel_rfl) (by kernel_rfl) (by kernel_rfl) (fun _ _ _ h => h) (Or.inl ⟨by rfl, ?yap18⟩) hHeld ?rap18
        case yap18 => intro w hSw; clear hSw; go_simp; with_reducible rfl
        simp only [Act.put, List.setIfInBounds_toArray, List.set_cons_zero, List.set_cons_succ]
        refine wpAnyH_take (i := 14) (v := ?vap19) (by simp; rfl) (by kernel_rfl) (by kernel_rfl) (by kernel_rfl) (fun _ _ _ h => h) (Or.inl ⟨by rfl, ?yap19⟩) hHeld ?rap19
        case yap19 => intro w hSw; clear hSw; go_simp; with_reducible rfl
        simp only [Act.put, List.setIfInBounds_toArray, List.set_cons_zero, List.set_cons_succ]
        refine wpAnyH_take (i := 15) (v := ?vap20) (by simp; rfl) (by kernel_rfl) (by kernel_rfl) (by kernel_rfl) (fun _ _ _ h => h) (Or.inl ⟨by rfl, ?yap20⟩) hHeld ?rap20
        case yap20 => intro w hSw; have z := HP1.out _ (below_then HB.out hSw); clear hSw; go_simp; with_reducible rfl
        simp only [Act.put, List.setIfInBounds_toArray, List.set_cons_zero, List.set_cons_succ]
        refine wpAnyH_take (i := 16) (v := ?vap21) (by simp; rfl) (by kernel_rfl) (by kernel_rfl) (by kernel_rfl) (fun _ _ _ h => h) (Or.inl ⟨by rfl, ?yap21⟩) hHeld ?rap21
        case yap21 => intro w hSw; clear hSw; go_simp; with_reducible rfl
        simp only [Act.put, List.setIfInBounds_toArray, List.set_cons_zero, List.set_cons_succ]
        refine wpAnyH_take (i := 17) (v := ?vap22) (by simp; rfl) (by kernel_rfl) (by kernel_rfl) (by kernel_rfl) (fun _ _ _ h => h) (Or.inl ⟨by rfl, ?yap22⟩) hHeld ?rap22
        case yap22 => intro w hSw; clear hSw; go_simp; with_reducible rfl
        simp only [Act.put, List.setIfInBounds_toArray, List.set_cons_zero, List.set_cons_succ]
        clear hHeld
        refine wpAnyH_done (by kernel_rfl) (NoPanic.normal ?_) _
        have HB2 : Hid (Below w9.heap.size w9 wd) := below_then HB.out D1.out
        clear D1 HB
        go_wp2_with fail
        go_roundw
        case rel => exact ⟨j + 1 + 1, by omega, by go_num, HB2.out⟩
        case measure => simp [intOf]; omega
      · obtain rfl : N = k := by omega
        go_wp2_with fail
        refine wp_region_noPanic ?_
        refine wp_region_held_drew (S := fun w' => Below wr.heap.size wr w') (by kernel_rfl) (below_drawn 1) (fun hHeld => ?_)
        have D2 : Hid (Below wr.heap.size wr wr.drew) := hHeld
        generalize wr.drew = wd at *
        refine wpAnyH_take (i := 0) (v := ?vap23) (by simp; rfl) (by kernel_rfl) (by kernel_rfl) (by kernel_rfl) (fun _ _ _ h => h) (Or.inl ⟨by rfl, ?yap23⟩) hHeld ?rap23
        case yap23 => intro w hSw; clear hSw; go_simp; with_reducible rfl
        simp only [Act.put, List.setIfInBounds_toArray, List.set_cons_zero, List.set_cons_succ]
        refine wpAnyH_ready (rs := [1]) (by kernel_rfl) (by simp) ?_
        refine AllReadyH.cons (by simp; rfl) (fun Kc hKc => ?_) AllReadyH.nil
        go_simp
        refine (num_any _ _).mono ?_
        rintro e wn ⟨rfl, rfl⟩
        refine hKc.out _ _ D2.out (fun hHeld => ?_)
        clear hKc Kc
        refine wpAnyH_take (i := 2) (v := ?vap24) (by simp; rfl) (by kernel_rfl) (by kernel_rfl) (by kernel_rfl) (fun _ _ _ h => h) (Or.inl ⟨by rfl, ?yap24⟩) hHeld ?rap24
        case yap24 => intro w hSw; clear hSw; go_simp; with_reducible rfl
        simp only [Act.put, List.setIfInBounds_toArray, List.set_cons_zero, List.set_cons_succ]
        refine wpAnyH_take (i := 3) (v := ?vap25) (by simp; rfl) (by kernel_rfl) (by kernel_rfl) (by kernel_rfl) (fun _ _ _ h => h) (Or.inl ⟨by rfl, ?yap25⟩) hHeld ?rap25
        case yap25 => intro w hSw; clear hSw; go_simp; with_reducible rfl
        simp only [Act.put, List.setIfInBounds_toArray, List.set_cons_zero, List.set_cons_succ]
        refine wpAnyH_take (i := 4) (v := _) (by simp; rfl) (by kernel_rfl) (by kernel_rfl) (by kernel_rfl) (fun _ _ _ h => h) (yieldsIf_load_mid (by rfl) 66 (.tmp 12) rfl w8.heap.size 0 rfl (gcells 0 1 s.fin (.slice q8 N c8)) _ (fun _ h => LAt.range (LAt.later M9.out (below_then HB.out h))) Tryd.underlying66 rfl sizeLg) hHeld ?_
        simp only [Act.put, List.setIfInBounds_toArray, List.set_cons_zero, List.set_cons_succ]
        refine wpAnyH_take (i := 6) (v := _) (by simp; rfl) (by kernel_rfl) (by kernel_rfl) (by kernel_rfl) (fun _ _ _ h => h) (yieldsIf_load_mid (by rfl) 48 (.tmp 7) rfl w2.heap.size 0 rfl (gcells 0 1 s.fin (.slice q N d)) _ (fun _ h => LAt.range (LAt.later W9.out (below_then HB.out h))) Tryd.underlying48 rfl sizeR) hHeld ?_
        simp only [Act.put, List.setIfInBounds_toArray, List.set_cons_zero, List.set_cons_succ]
        refine wpAnyH_ready (rs := [5]) (by kernel_rfl) (by simp) ?_
        refine AllReadyH.cons (by simp; rfl) (fun Kc hKc => ?_) AllReadyH.nil
        go_simp
        refine (plain_any 0 1 s.fin q8 N c8 s.txs _ (X8.out.later (below_then HB.out D2.out)) hwf (by omega) hms).mono ?_
        rintro e wp ⟨qp, dp, vp, rfl, xp, bp⟩
        have D3 : Hid (Below wr.heap.size wr wp) := below_then D2.out bp
        have XP : Hid (XIn wp qp N s.txs) := by
          obtain ⟨a1, a2, a3, a4, -, -⟩ := XOwn.in xp
          rw [hN] at a3 a4
          cases a3
          exact a4
        refine hKc.out _ _ D3.out (fun hHeld => ?_)
        clear hKc Kc xp bp
        refine wpAnyH_ready (rs := [7]) (by kernel_rfl) (by simp) ?_
        refine AllReadyH.cons (by simp; rfl) (fun Kc hKc => ?_) AllReadyH.nil
        go_simp
        refine (same_eq 0 1 s.fin qp q N dp d s.txs wp XP.out (XW.out.later (below_then HB.out D3.out)) (by omega) hms).mono ?_
        rintro e wq ⟨rfl, bq⟩
        have D4 : Hid (Below wr.heap.size wr wq) := below_then D3.out bq
        refine hKc.out _ _ D4.out (fun hHeld => ?_)
        clear hKc Kc bq
        refine wpAnyH_take (i := 8) (v := ?vap26) (by simp; rfl) (by kernel_rfl) (by kernel_rfl) (by kernel_rfl) (fun _ _ _ h => h) (Or.inl ⟨by rfl, ?yap26⟩) hHeld ?rap26
        case yap26 => intro w hSw; clear hSw; go_simp; with_reducible rfl
        simp only [Act.put, List.setIfInBounds_toArray, List.set_cons_zero, List.set_cons_succ]
        refine wpAnyH_take (i := 9) (v := ?vap27) (by simp; rfl) (by kernel_rfl) (by kernel_rfl) (by kernel_rfl) (fun _ _ _ h => h) (Or.inl ⟨by rfl, ?yap27⟩) hHeld ?rap27
        case yap27 => intro w hSw; clear hSw; go_simp; with_reducible rfl
        simp only [Act.put, List.setIfInBounds_toArray, List.set_cons_zero, List.set_cons_succ]
        refine wpAnyH_take (i := 10) (v := ?vap28) (by simp; rfl) (by kernel_rfl) (by kernel_rfl) (by kernel_rfl) (fun _ _ _ h => h) (Or.inl ⟨by rfl, ?yap28⟩) hHeld ?rap28
        case yap28 => intro w hSw; clear hSw; go_simp; with_reducible rfl
        simp only [Act.put, List.setIfInBounds_toArray, List.set_cons_zero, List.set_cons_succ]
        refine wpAnyH_take (i := 11) (v := ?vap29) (by simp; rfl) (by kernel_rfl) (by kernel_rfl) (by kernel_rfl) (fun _ _ _ h => h) (Or.inl ⟨by rfl, ?yap29⟩) hHeld ?rap29
        case yap29 => intro w hSw; have z := HF.out _ (below_then HB.out hSw); clear hSw; go_simp; with_reducible rfl
        simp only [Act.put, List.setIfInBounds_toArray, List.set_cons_zero, List.set_cons_succ]
        refine wpAnyH_take (i := 12) (v := ?vap30) (by simp; rfl) (by kernel_rfl) (by kernel_rfl) (by kernel_rfl) (fun _ _ _ h => h) (Or.inl ⟨by rfl, ?yap30⟩) hHeld ?rap30
        case yap30 => intro w hSw; clear hSw; go_simp; with_reducible rfl
        simp only [Act.put, List.setIfInBounds_toArray, List.set_cons_zero, List.set_cons_succ]
        refine wpAnyH_take (i := 13) (v := ?vap31) (by simp; rfl) (by kernel_rfl) (by kernel_rfl) (by kernel_rfl) (fun _ _ _ h => h) (Or.inl ⟨by rfl, ?yap31⟩) hHeld ?rap31
        case yap31 => intro w hSw; have z := H0.out _ (below_then HB.out hSw); clear hSw; go_simp; with_reducible rfl
        simp only [Act.put, List.setIfInBounds_toArray, List.set_cons_zero, List.set_cons_succ]
        refine wpAnyH_take (i := 14) (v := ?vap32) (by simp; rfl) (by kernel_rfl) (by kernel_rfl) (by kernel_rfl) (fun _ _ _ h => h) (Or.inl ⟨by rfl, ?yap32⟩) hHeld ?rap32
        case yap32 => intro w hSw; clear hSw; go_simp; with_reducible rfl
        simp only [Act.put, List.setIfInBounds_toArray, List.set_cons_zero, List.set_cons_succ]
        refine wpAnyH_take (i := 15) (v := ?vap33) (by simp; rfl) (by kernel_rfl) (by kernel_rfl) (by kernel_rfl) (fun _ _ _ h => h) (Or.inl ⟨by rfl, ?yap33⟩) hHeld ?rap33
        case yap33 => intro w hSw; have z := HL.out _ (below_then HB.out hSw); clear hSw; go_simp; with_reducible rfl
        simp only [Act.put, List.setIfInBounds_toArray, List.set_cons_zero, List.set_cons_succ]
        refine wpAnyH_take (i := 16) (v := ?vap34) (by simp; rfl) (by kernel_rfl) (by kernel_rfl) (by kernel_rfl) (fun _ _ _ h => h) (Or.inl ⟨by rfl, ?yap34⟩) hHeld ?rap34
        case yap34 => intro w hSw; clear hSw; go_simp; with_reducible rfl
        simp only [Act.put, List.setIfInBounds_toArray, List.set_cons_zero, List.set_cons_succ]
        refine wpAnyH_take (i := 17) (v := ?vap35) (by simp; rfl) (by kernel_rfl) (by kernel_rfl) (by kernel_rfl) (fun _ _ _ h => h) (Or.inl ⟨by rfl, ?yap35⟩) hHeld ?rap35
        case yap35 => intro w hSw; clear hSw; go_simp; with_reducible rfl
        simp only [Act.put, List.setIfInBounds_toArray, List.set_cons_zero, List.set_cons_succ]
        refine wpAnyH_take (i := 18) (v := ?vap36) (by simp; rfl) (by kernel_rfl) (by kernel_rfl) (by kernel_rfl) (fun _ _ _ h => h) (Or.inl ⟨by rfl, ?yap36⟩) hHeld ?rap36
        case yap36 => intro w hSw; clear hSw; go_simp; with_reducible rfl
        simp only [Act.put, List.setIfInBounds_toArray, List.set_cons_zero, List.set_cons_succ]
        refine wpAnyH_take (i := 19) (v := ?vap37) (by simp; rfl) (by kernel_rfl) (by kernel_rfl) (by kernel_rfl) (fun _ _ _ h => h) (Or.inl ⟨by rfl, ?yap37⟩) hHeld ?rap37
        case yap37 => intro w hSw; clear hSw; go_simp; with_reducible rfl
        simp only [Act.put, List.setIfInBounds_toArray, List.set_cons_zero, List.set_cons_succ]
        refine wpAnyH_take (i := 20) (v := ?vap38) (by simp; rfl) (by kernel_rfl) (by kernel_rfl) (by kernel_rfl) (fun _ _ _ h => h) (Or.inl ⟨by rfl, ?yap38⟩) hHeld ?rap38
        case yap38 => intro w hSw; clear hSw; go_simp; with_reducible rfl
        simp only [Act.put, List.setIfInBounds_toArray, List.set_cons_zero, List.set_cons_succ]
        refine wpAnyH_take (i := 21) (v := ?vap39) (by simp; rfl) (by kernel_rfl) (by kernel_rfl) (by kernel_rfl) (fun _ _ _ h => h) (Or.inl ⟨by rfl, ?yap39⟩) hHeld ?rap39
        case yap39 => intro w hSw; clear hSw; go_simp; with_reducible rfl
        simp only [Act.put, List.setIfInBounds_toArray, List.set_cons_zero, List.set_cons_succ]
        refine wpAnyH_take (i := 22) (v := ?vap40) (by simp; rfl) (by kernel_rfl) (by kernel_rfl) (by kernel_rfl) (fun _ _ _ h => h) (Or.inl ⟨by rfl, ?yap40⟩) hHeld ?rap40
        case yap40 => intro w hSw; have z := HM.out _ (below_then HB.out hSw); clear hSw; go_simp; with_reducible rfl
        simp only [Act.put, List.setIfInBounds_toArray, List.set_cons_zero, List.set_cons_succ]
        refine wpAnyH_take (i := 23) (v := ?vap41) (by simp; rfl) (by kernel_rfl) (by kernel_rfl) (by kernel_rfl) (fun _ _ _ h => h) (Or.inl ⟨by rfl, ?yap41⟩) hHeld ?rap41
        case yap41 => intro w hSw; clear hSw; go_simp; with_reducible rfl
        simp only [Act.put, List.setIfInBounds_toArray, List.set_cons_zero, List.set_cons_succ]
        refine wpAnyH_take (i := 24) (v := ?vap42) (by simp; rfl) (by kernel_rfl) (by kernel_rfl) (by kernel_rfl) (fun _ _ _ h => h) (Or.inl ⟨by rfl, ?yap42⟩) hHeld ?rap42
        case yap42 => intro w hSw; clear hSw; go_simp; with_reducible rfl
        simp only [Act.put, List.setIfInBounds_toArray, List.set_cons_zero, List.set_cons_succ]
        refine wpAnyH_take (i := 25) (v := ?vap43) (by simp; rfl) (by kernel_rfl) (by kernel_rfl) (by kernel_rfl) (fun _ _ _ h => h) (Or.inl ⟨by rfl, ?yap43⟩) hHeld ?rap43
        case yap43 => intro w hSw; have z := HL.out _ (below_then HB.out hSw); clear hSw; go_simp; with_reducible rfl
        simp only [Act.put, List.setIfInBounds_toArray, List.set_cons_zero, List.set_cons_succ]
        refine wpAnyH_take (i := 26) (v := ?vap44) (by simp; rfl) (by kernel_rfl) (by kernel_rfl) (by kernel_rfl) (fun _ _ _ h => h) (Or.inl ⟨by rfl, ?yap44⟩) hHeld ?rap44
        case yap44 => intro w hSw; clear hSw; go_simp; with_reducible rfl
        simp only [Act.put, List.setIfInBounds_toArray, List.set_cons_zero, List.set_cons_succ]
        refine wpAnyH_take (i := 27) (v := ?vap45) (by simp; rfl) (by kernel_rfl) (by kernel_rfl) (by kernel_rfl) (fun _ _ _ h => h) (Or.inl ⟨by rfl, ?yap45⟩) hHeld ?rap45
        case yap45 => intro w hSw; clear hSw; go_simp; with_reducible rfl
        simp only [Act.put, List.setIfInBounds_toArray, List.set_cons_zero, List.set_cons_succ]
        refine wpAnyH_take (i := 28) (v := ?vap46) (by simp; rfl) (by kernel_rfl) (by kernel_rfl) (by kernel_rfl) (fun _ _ _ h => h) (Or.inl ⟨by rfl, ?yap46⟩) hHeld ?rap46
        case yap46 => intro w hSw; clear hSw; go_simp; with_reducible rfl
        simp only [Act.put, List.setIfInBounds_toArray, List.set_cons_zero, List.set_cons_succ]
        clear hHeld
        refine wpAnyH_done (by kernel_rfl) (NoPanic.normal ?_) _
        have FF : Hid (Below w.heap.size w wq) := below_then B9.out (below_then HB.out D4.out)
        clear D2 D3 D4
        go_wp2_with fail
        go_ret
        exact ⟨rfl, FF.out⟩
  | true =>
    go_wp2_with ((with_reducible refine at_ops ?_); (first | (refine wpList_alloc_is (by rfl) 48 rfl A2.out ?_) | (refine wpList_store_is (by rfl) 48 rfl rfl rfl T2.out ?_)); simp only [Act.put, List.setIfInBounds_toArray, List.set_cons_zero, List.set_cons_succ])
    refine (flush_B G3.out hwl).mono ?_
    rintro e w4 ⟨rfl, lb4, kt4⟩
    have hfit := G3.out.len
    have Y4 : Hid (rdL (cfgS s0) (cntS (cfgS s0)) (newest [] (settle (fun _ => true) ws (newS (cfgS s0)))) = (⟨0, 1, s.fin, s.txs⟩, 0) ∧ Sc.Ok (cfgS s0).mr 0 (cfgS s0).lc.toNat s) := HY.out.found (fun i hi => newest_settled hfit.1 hfit.2 (by rw [hsz]; exact hi)) (newest_bytes lb4.dsk)
    have G4 : Hid (Dsk w4 (fun k => B ≤ k ∧ k ≠ L) p (cntS (cfgS s0)) (settle (fun _ => true) ws (newS (cfgS s0))) []) := by rw [← hsz]; exact lb4.dsk
    have X4 : Hid (XIn w4 q N s.txs) := by
      obtain ⟨a1, a2, a3, a4, -, -⟩ := XOwn.in (xown_kt kt4 X3.out)
      rw [hN] at a3 a4
      cases a3
      exact a4
    have S4 : Hid (_) := lat_kt kt4 (by decide) S3.out
    have W4 : Hid (_) := lat_kt kt4 (by decide) W3.out
    have B4 : Hid (Below w.heap.size w w4) := B3.out.trans (kt4.low.mono hwB)
    have L4 : Hid (_) := stc_range S4.out
    clear G3 HY X3 S3 W3 B3 hsz hwB hwl A2 T2 hfit lb4 kt4
    go_wp2_with (first | (go_at_call 15; refine (num_any _ _).mono ?_; rintro e wn ⟨rfl, rfl⟩) | ((with_reducible refine at_ops ?_); (refine wpList_load_is (by rfl) 39 rfl rfl L4.out ?_); simp only [Act.put, List.setIfInBounds_toArray, List.set_cons_zero, List.set_cons_succ]))
    refine (config10_any s0 w4).mono ?_
    rintro e w6 ⟨rfl, b6⟩
    have A6 : Hid (_) := alloc23 w6
    have T6 : Hid (_) := store_new23 w6 (cfgS s0)
    obtain ⟨w7, hw7⟩ : ∃ y, y = w6.alloc (.cells (ccells (cfgS s0)).toArray 39) := ⟨_, rfl⟩
    rw [← hw7] at T6
    have b7 : Below w6.heap.size w6 w7 := by rw [hw7]; exact below_alloc w6 _
    have C7 : CAt w7 w6.heap.size (cfgS s0) := by rw [hw7]; exact LAt.new 39 w6 _
    have L7 : Hid (_) := CAt.load23 C7
    have b47 : Below w4.heap.size w4 w7 := below_then b6 b7
    have B7 : Hid (Below w.heap.size w w7) := below_then B4.out b47
    clear hw7 b6 b7 L4
    go_wp2_with ((with_reducible refine at_ops ?_); (first | (refine wpList_alloc_is (by rfl) 39 rfl A6.out ?_) | (refine wpList_store_is (by rfl) 39 rfl rfl rfl T6.out ?_) | (refine wpList_load_is (by rfl) 39 rfl rfl L7.out ?_)); simp only [Act.put, List.setIfInBounds_toArray, List.set_cons_zero, List.set_cons_succ])
    refine (read_any10 (G4.out.later b47) (HT.out.later B7.out) (cfgS s0)).mono ?_
    rintro e w8 ⟨q8, c8, vs8, rfl, x8, -, b8⟩
    rw [Y4.out.1] at x8 ⊢
    have X8' : XIn w8 q8 N s.txs := by
      obtain ⟨a1, a2, a3, a4, -, -⟩ := XOwn.in x8
      rw [show (((⟨0, 1, s.fin, s.txs⟩ : LogS), (0 : Int)).1.txs).length = N from hN] at a3 a4
      cases a3
      exact a4
    have A8 : Hid (_) := allocLg w8
    have T8 : Hid (_) := storeLg w8 0 1 s.fin (v := .slice q8 N c8) rfl
    obtain ⟨w9, hw9⟩ : ∃ y, y = w8.alloc (.cells (gcells 0 1 s.fin (.slice q8 N c8)).toArray 66) := ⟨_, rfl⟩
    rw [← hw9] at T8
    have b9 : Below w8.heap.size w8 w9 := by rw [hw9]; exact below_alloc w8 _
    have M9 : Hid (LAt 66 w9 w8.heap.size (gcells 0 1 s.fin (.slice q8 N c8))) := by rw [hw9]; exact LAt.new 66 w8 _
    have b79 : Below w7.heap.size w7 w9 := below_then b8 b9
    have b49 : Below w4.heap.size w4 w9 := below_then b47 b79
    have B9 : Hid (Below w.heap.size w w9) := below_then B7.out b79
    have C9 : Hid (CAt w9 w6.heap.size (cfgS s0)) := LAt.later C7 b79
    have W9 : Hid (LAt 48 w9 w2.heap.size (gcells 0 1 s.fin (.slice q N d))) := LAt.later W4.out b49
    have X8 : Hid (XIn w9 q8 N s.txs) := X8'.later b9
    have XW : Hid (XIn w9 q N s.txs) := X4.out.later b49
    have Z9 : w9.cell? ⟨w8.heap.size, 3, none⟩ = some (.slice q8 N c8) := LAt.cell M9.out 3
    have hok := Y4.out.2
    have hlc := (cfgS_may s0).2.1
    have hN64 : N ≤ 64 := by have := hok.tl; omega
    have hwf := hok.tw
    have hms : ∀ x ∈ s.txs, x.ims.length ≤ 100000 := fun x hx => by have := hok.cm x hx; have := (cfgS_may s0).2.2.1; omega
    have HUp : Hid (s.txs.Pairwise (fun x y => x.p < y.p)) := hok.up
    have hf0 := hok.f0
    have hf1 := hok.f1
    have htl := hok.tl
    clear hw9 b8 b9 b79 b49 b47 C7 L7 A6 x8 X8' hok S4 W4 X4 G4 B4 B7 Y4 T6 hlc
    obtain ⟨lc, hlc⟩ : ∃ lc : Nat, (cfgS s0).lc = lc := ⟨(cfgS s0).lc.toNat, by have := (cfgS_may s0).2.1; omega⟩
    have hlc64 : lc ≤ 64 := by have := (cfgS_may s0).2.1; omega
    have hfl : s.fin ≤ (lc : Int) := by omega
    have hNl : (N : Int) ≤ (lc : Int) := by omega
    rw [show ((⟨0, 1, s.fin, s.txs⟩ : LogS), (0 : Int)).1.txs.length = N from hN]
    go_wp2_with ((with_reducible refine at_ops ?_); (first | (refine wpList_alloc_is (by rfl) 66 rfl A8.out ?_) | (refine wpList_store_is (by rfl) 66 rfl rfl rfl T8.out ?_)); simp only [Act.put, List.setIfInBounds_toArray, List.set_cons_zero, List.set_cons_succ])
    clear A8 T8 Z9
    have HM : Hid (∀ W, Below w9.heap.size w9 W → W.cell? ⟨w8.heap.size, 3, none⟩ = some (.slice q8 N c8)) := fun W hW => LAt.cell (LAt.later M9.out hW) 3
    have HF : Hid (∀ W, Below w9.heap.size w9 W → W.cell? ⟨w8.heap.size, 2, none⟩ = some (.int .u64 s.fin)) := fun W hW => LAt.cell (LAt.later M9.out hW) 2
    have H0 : Hid (∀ W, Below w9.heap.size w9 W → W.cell? ⟨w8.heap.size, 0, none⟩ = some (.int .u64 0)) := fun W hW => LAt.cell (LAt.later M9.out hW) 0
    have HL : Hid (∀ W, Below w9.heap.size w9 W → W.cell? ⟨w6.heap.size, 1, none⟩ = some (.int .i64 (lc : Int))) := fun W hW => by rw [← hlc]; exact CAt.c1 (LAt.later C9.out hW)
    have hcv : IntKind.u64.wrap (lc : Int) = lc := G.wrap_u (by omega) (by omega)
    clear hf1 htl hlc
    go_loopw [47] (fun i wr => ∃ k : Nat, k ≤ N ∧ i = .int .i64 k ∧ Hid (Below w9.heap.size w9 wr)) (fun i _ => N - (intOf i).toNat)
    case atStart => exact ⟨0, Nat.zero_le _, rfl, Below.refl _ _⟩
    case round =>
      obtain ⟨k, hk, rfl, HB⟩ := hrel
      by_cases hlt : k < N
      · by_cases k0 : k = 0
        · subst k0
          go_wp2_with fail
          refine wp_region_noPanic ?_
          refine wp_region_held_drew (S := fun w' => Below wr.heap.size wr w') (by kernel_rfl) (below_drawn 1) (fun hHeld => ?_)
          have D1 : Hid (Below wr.heap.size wr wr.drew) := hHeld
          generalize wr.drew = wd at *
          refine wpAnyH_take (i := 0) (v := ?vaq1) (by simp; rfl) (by kernel_rfl) (by kernel_rfl) (by kernel_rfl) (fun _ _ _ h => h) (Or.inl ⟨by rfl, ?yaq1⟩) hHeld ?raq1
          case yaq1 => intro w hSw; clear hSw; go_simp; with_reducible rfl
          simp only [Act.put, List.setIfInBounds_toArray, List.set_cons_zero, List.set_cons_succ]
          refine wpAnyH_take (i := 1) (v := ?vaq2) (by simp; rfl) (by kernel_rfl) (by kernel_rfl) (by kernel_rfl) (fun _ _ _ h => h) (Or.inl ⟨by rfl, ?yaq2⟩) hHeld ?raq2
          case yaq2 => intro w hSw; clear hSw; go_simp; with_reducible rfl
          simp only [Act.put, List.setIfInBounds_toArray, List.set_cons_zero, List.set_cons_succ]
          refine wpAnyH_take (i := 2) (v := ?vaq3) (by simp; rfl) (by kernel_rfl) (by kernel_rfl) (by kernel_rfl) (fun _ _ _ h => h) (Or.inl ⟨by rfl, ?yaq3⟩) hHeld ?raq3
          case yaq3 => intro w hSw; clear hSw; go_simp; with_reducible rfl
          simp only [Act.put, List.setIfInBounds_toArray, List.set_cons_zero, List.set_cons_succ]
          refine wpAnyH_take (i := 3) (v := undef) (by simp; rfl) (by kernel_rfl) (by kernel_rfl) (by kernel_rfl) (fun _ _ _ h => h) (Or.inr ⟨by rfl, rfl⟩) hHeld ?_
          simp only [Act.put, List.setIfInBounds_toArray, List.set_cons_zero, List.set_cons_succ]
          refine wpAnyH_take (i := 4) (v := undef) (by simp; rfl) (by kernel_rfl) (by kernel_rfl) (by kernel_rfl) (fun _ _ _ h => h) (Or.inr ⟨by rfl, rfl⟩) hHeld ?_
          simp only [Act.put, List.setIfInBounds_toArray, List.set_cons_zero, List.set_cons_succ]
          refine wpAnyH_take (i := 5) (v := undef) (by simp; rfl) (by kernel_rfl) (by kernel_rfl) (by kernel_rfl) (fun _ _ _ h => h) (Or.inr ⟨by rfl, rfl⟩) hHeld ?_
          simp only [Act.put, List.setIfInBounds_toArray, List.set_cons_zero, List.set_cons_succ]
          refine wpAnyH_take (i := 6) (v := undef) (by simp; rfl) (by kernel_rfl) (by kernel_rfl) (by kernel_rfl) (fun _ _ _ h => h) (Or.inr ⟨by rfl, rfl⟩) hHeld ?_
          simp only [Act.put, List.setIfInBounds_toArray, List.set_cons_zero, List.set_cons_succ]
          refine wpAnyH_take (i := 7) (v := undef) (by simp; rfl) (by kernel_rfl) (by kernel_rfl) (by kernel_rfl) (fun _ _ _ h => h) (Or.inr ⟨by rfl, rfl⟩) hHeld ?_
          simp only [Act.put, List.setIfInBounds_toArray, List.set_cons_zero, List.set_cons_succ]
          refine wpAnyH_take (i := 8) (v := undef) (by simp; rfl) (by kernel_rfl) (by kernel_rfl) (by kernel_rfl) (fun _ _ _ h => h) (Or.inr ⟨by rfl, rfl⟩) hHeld ?_
          simp only [Act.put, List.setIfInBounds_toArray, List.set_cons_zero, List.set_cons_succ]
          refine wpAnyH_take (i := 9) (v := undef) (by simp; rfl) (by kernel_rfl) (by kernel_rfl) (by kernel_rfl) (fun _ _ _ h => h) (Or.inr ⟨by rfl, rfl⟩) hHeld ?_
          simp only [Act.put, List.setIfInBounds_toArray, List.set_cons_zero, List.set_cons_succ]
          refine wpAnyH_take (i := 10) (v := undef) (by simp; rfl) (by kernel_rfl) (by kernel_rfl) (by kernel_rfl) (fun _ _ _ h => h) (Or.inr ⟨by rfl, rfl⟩) hHeld ?_
          simp only [Act.put, List.setIfInBounds_toArray, List.set_cons_zero, List.set_cons_succ]
          refine wpAnyH_take (i := 11) (v := undef) (by simp; rfl) (by kernel_rfl) (by kernel_rfl) (by kernel_rfl) (fun _ _ _ h => h) (Or.inr ⟨by rfl, rfl⟩) hHeld ?_
          simp only [Act.put, List.setIfInBounds_toArray, List.set_cons_zero, List.set_cons_succ]
          refine wpAnyH_take (i := 12) (v := undef) (by simp; rfl) (by kernel_rfl) (by kernel_rfl) (by kernel_rfl) (fun _ _ _ h => h) (Or.inr ⟨by rfl, rfl⟩) hHeld ?_
          simp only [Act.put, List.setIfInBounds_toArray, List.set_cons_zero, List.set_cons_succ]
          refine wpAnyH_take (i := 13) (v := undef) (by simp; rfl) (by kernel_rfl) (by kernel_rfl) (by kernel_rfl) (fun _ _ _ h => h) (Or.inr ⟨by rfl, rfl⟩) hHeld ?_
          simp only [Act.put, List.setIfInBounds_toArray, List.set_cons_zero, List.set_cons_succ]
          refine wpAnyH_take (i := 14) (v := undef) (by simp; rfl) (by kernel_rfl) (by kernel_rfl) (by kernel_rfl) (fun _ _ _ h => h) (Or.inr ⟨by rfl, rfl⟩) hHeld ?_
          simp only [Act.put, List.setIfInBounds_toArray, List.set_cons_zero, List.set_cons_succ]
          refine wpAnyH_take (i := 15) (v := undef) (by simp; rfl) (by kernel_rfl) (by kernel_rfl) (by kernel_rfl) (fun _ _ _ h => h) (Or.inr ⟨by rfl, rfl⟩) hHeld ?_
          simp only [Act.put, List.setIfInBounds_toArray, List.set_cons_zero, List.set_cons_succ]
          refine wpAnyH_take (i := 16) (v := undef) (by simp; rfl) (by kernel_rfl) (by kernel_rfl) (by kernel_rfl) (fun _ _ _ h => h) (Or.inr ⟨by rfl, rfl⟩) hHeld ?_
          simp only [Act.put, List.setIfInBounds_toArray, List.set_cons_zero, List.set_cons_succ]
          refine wpAnyH_take (i := 17) (v := ?vaq4) (by simp; rfl) (by kernel_rfl) (by kernel_rfl) (by kernel_rfl) (fun _ _ _ h => h) (Or.inl ⟨by rfl, ?yaq4⟩) hHeld ?raq4
          case yaq4 => intro w hSw; clear hSw; go_simp; with_reducible rfl
          simp only [Act.put, List.setIfInBounds_toArray, List.set_cons_zero, List.set_cons_succ]
          clear hHeld
          refine wpAnyH_done (by kernel_rfl) (NoPanic.normal ?_) _
          have HB2 : Hid (Below w9.heap.size w9 wd) := below_then HB.out D1.out
          clear D1 HB
          go_wp2_with fail
          go_roundw
          case rel => exact ⟨1, by omega, by go_num, HB2.out⟩
          case measure => simp [intOf]; omega
        obtain ⟨j, rfl⟩ : ∃ j, k = j + 1 := ⟨k - 1, by omega⟩
        obtain ⟨gq, oq, rfl, hcs⟩ := X8.out.cells (by omega)
        have hlj : j + 1 < s.txs.length := by omega
        have e0 : s.txs[j]? = some (s.txs[j]'(by omega)) := List.getElem?_eq_getElem (by omega)
        have e1 : s.txs[j + 1]? = some (s.txs[j + 1]'hlj) := List.getElem?_eq_getElem hlj
        have hup : (s.txs[j]'(by omega)).p < (s.txs[j + 1]'hlj).p := List.pairwise_iff_getElem.1 HUp.out j (j + 1) (by omega) hlj (by omega)
        obtain ⟨-, -, r0, -⟩ := hcs j _ e0
        obtain ⟨-, -, r1, -⟩ := hcs (j + 1) _ e1
        generalize (s.txs[j]'(by omega)).p = x0 at *
        generalize (s.txs[j + 1]'hlj).p = x1 at *
        have HP0 : Hid (∀ W, Below w9.heap.size w9 W → W.cell? ⟨gq, oq + j * 2, none⟩ = some (.int .u64 x0)) := fun W hW => (hW.cell (p := ⟨gq, oq + j * 2, none⟩) (World.block_lt_of_cell? w9 _ r0)).trans r0
        have HP1 : Hid (∀ W, Below w9.heap.size w9 W → W.cell? ⟨gq, oq + (j + 1) * 2, none⟩ = some (.int .u64 x1)) := fun W hW => (hW.cell (p := ⟨gq, oq + (j + 1) * 2, none⟩) (World.block_lt_of_cell? w9 _ r1)).trans r1
        have hge : ¬ x1 ≤ x0 := by omega
        have g0 : (0 : Int) < (j : Int) + 1 := by omega
        have g1 : ((j + 1 : Nat) : Int) = (j : Int) + 1 := by omega
        have g2 : (j : Int) + 1 - 1 = j := by omega
        have g3 : IntKind.i64.wrap (j : Int) = j := wrap_nat j (by omega)
        have g4 : (j : Int) < N := by omega
        have g5 : ((j : Int) + 1).toNat = j + 1 := by omega
        have g6 : (0 : Int) ≤ (j : Int) + 1 := by omega
        have g7 : (j : Int) + 1 < N := by omega
        clear hcs e0 e1 r0 r1 hup
        go_wp2_with fail
        refine wp_region_noPanic ?_
        refine wp_region_held_drew (S := fun w' => Below wr.heap.size wr w') (by kernel_rfl) (below_drawn 1) (fun hHeld => ?_)
        have D1 : Hid (Below wr.heap.size wr wr.drew) := hHeld
        generalize wr.drew = wd at *
        refine wpAnyH_take (i := 0) (v := ?vaq5) (by simp; rfl) (by kernel_rfl) (by kernel_rfl) (by kernel_rfl) (fun _ _ _ h => h) (Or.inl ⟨by rfl, ?yaq5⟩) hHeld ?raq5
        case yaq5 => intro w hSw; clear hSw; go_simp; with_reducible rfl
        simp only [Act.put, List.setIfInBounds_toArray, List.set_cons_zero, List.set_cons_succ]
        refine wpAnyH_take (i := 1) (v := ?vaq6) (by simp; rfl) (by kernel_rfl) (by kernel_rfl) (by kernel_rfl) (fun _ _ _ h => h) (Or.inl ⟨by rfl, ?yaq6⟩) hHeld ?raq6
        case yaq6 => intro w hSw; clear hSw; go_simp; with_reducible rfl
        simp only [Act.put, List.setIfInBounds_toArray, List.set_cons_zero, List.set_cons_succ]
        refine wpAnyH_take (i := 2) (v := ?vaq7) (by simp; rfl) (by kernel_rfl) (by kernel_rfl) (by kernel_rfl) (fun _ _ _ h => h) (Or.inl ⟨by rfl, ?yaq7⟩) hHeld ?raq7
        case yaq7 => intro w hSw; clear hSw; go_simp; with_reducible rfl
        simp only [Act.put, List.setIfInBounds_toArray, List.set_cons_zero, List.set_cons_succ]
        refine wpAnyH_take (i := 3) (v := ?vaq8) (by simp; rfl) (by kernel_rfl) (by kernel_rfl) (by kernel_rfl) (fun _ _ _ h => h) (Or.inl ⟨by rfl, ?yaq8⟩) hHeld ?raq8
        case yaq8 => intro w hSw; clear hSw; go_simp; with_reducible rfl
        simp only [Act.put, List.setIfInBounds_toArray, List.set_cons_zero, List.set_cons_succ]
        refine wpAnyH_take (i := 4) (v := ?vaq9) (by simp; rfl) (by kernel_rfl) (by kernel_rfl) (by kernel_rfl) (fun _ _ _ h => h) (Or.inl ⟨by rfl, ?yaq9⟩) hHeld ?raq9
        case yaq9 => intro w hSw; have z := HM.out _ (below_then HB.out hSw); clear hSw; go_simp; with_reducible rfl
        simp only [Act.put, List.setIfInBounds_toArray, List.set_cons_zero, List.set_cons_succ]
        refine wpAnyH_take (i := 5) (v := ?vaq10) (by simp; rfl) (by kernel_rfl) (by kernel_rfl) (by kernel_rfl) (fun _ _ _ h => h) (Or.inl ⟨by rfl, ?yaq10⟩) hHeld ?raq10
        case yaq10 => intro w hSw; clear hSw; go_simp; with_reducible rfl
        simp only [Act.put, List.setIfInBounds_toArray, List.set_cons_zero, List.set_cons_succ]
        refine wpAnyH_take (i := 6) (v := ?vaq11) (by simp; rfl) (by kernel_rfl) (by kernel_rfl) (by kernel_rfl) (fun _ _ _ h => h) (Or.inl ⟨by rfl, ?yaq11⟩) hHeld ?raq11
        case yaq11 => intro w hSw; clear hSw; go_simp; with_reducible rfl
        simp only [Act.put, List.setIfInBounds_toArray, List.set_cons_zero, List.set_cons_succ]
        refine wpAnyH_take (i := 7) (v := ?vaq12) (by simp; rfl) (by kernel_rfl) (by kernel_rfl) (by kernel_rfl) (fun _ _ _ h => h) (Or.inl ⟨by rfl, ?yaq12⟩) hHeld ?raq12
        case yaq12 => intro w hSw; clear hSw; go_simp; with_reducible rfl
        simp only [Act.put, List.setIfInBounds_toArray, List.set_cons_zero, List.set_cons_succ]
        refine wpAnyH_take (i := 8) (v := ?vaq13) (by simp; rfl) (by kernel_rfl) (by kernel_rfl) (by kernel_rfl) (fun _ _ _ h => h) (Or.inl ⟨by rfl, ?yaq13⟩) hHeld ?raq13
        case yaq13 => intro w hSw; clear hSw; go_simp; with_reducible rfl
        simp only [Act.put, List.setIfInBounds_toArray, List.set_cons_zero, List.set_cons_succ]
        refine wpAnyH_take (i := 9) (v := ?vaq14) (by simp; rfl) (by kernel_rfl) (by kernel_rfl) (by kernel_rfl) (fun _ _ _ h => h) (Or.inl ⟨by rfl, ?yaq14⟩) hHeld ?raq14
        case yaq14 => intro w hSw; have z := HP0.out _ (below_then HB.out hSw); clear hSw; go_simp; with_reducible rfl
        simp only [Act.put, List.setIfInBounds_toArray, List.set_cons_zero, List.set_cons_succ]
        refine wpAnyH_take (i := 10) (v := ?vaq15) (by simp; rfl) (by kernel_rfl) (by kernel_rfl) (by kernel_rfl) (fun _ _ _ h => h) (Or.inl ⟨by rfl, ?yaq15⟩) hHeld ?raq15
        case yaq15 => intro w hSw; clear hSw; go_simp; with_reducible rfl
        simp only [Act.put, List.setIfInBounds_toArray, List.set_cons_zero, List.set_cons_succ]
        refine wpAnyH_take (i := 11) (v := ?vaq16) (by simp; rfl) (by kernel_rfl) (by kernel_rfl) (by kernel_rfl) (fun _ _ _ h => h) (Or.inl ⟨by rfl, ?yaq16⟩) hHeld ?raq16
        case yaq16 => intro w hSw; have z := HM.out _ (below_then HB.out hSw); clear hSw; go_simp; with_reducible rfl
        simp only [Act.put, List.setIfInBounds_toArray, List.set_cons_zero, List.set_cons_succ]
        refine wpAnyH_take (i := 12) (v := ?vaq17) (by simp; rfl) (by kernel_rfl) (by kernel_rfl) (by kernel_rfl) (fun _ _ _ h => h) (Or.inl ⟨by rfl, ?yaq17⟩) hHeld ?raq17
        case yaq17 => intro w hSw; clear hSw; go_simp; with_reducible rfl
        simp only [Act.put, List.setIfInBounds_toArray, List.set_cons_zero, List.set_cons_succ]
        refine wpAnyH_take (i := 13) (v := ?vaq18) (by simp; rfl) (by kernel_rfl) (by kernel_rfl) (by kernel_rfl) (fun _ _ _ h => h) (Or.inl ⟨by rfl, ?yaq18⟩) hHeld ?raq18
        case yaq18 => intro w hSw; clear hSw; go_simp; with_reducible rfl
        simp only [Act.put, List.setIfInBounds_toArray, List.set_cons_zero, List.set_cons_succ]
        refine wpAnyH_take (i := 14) (v := ?vaq19) (by simp; rfl) (by kernel_rfl) (by kernel_rfl) (by kernel_rfl) (fun _ _ _ h => h) (Or.inl ⟨by rfl, ?yaq19⟩) hHeld ?raq19
        case yaq19 => intro w hSw; clear hSw; go_simp; with_reducible rfl
        simp only [Act.put, List.setIfInBounds_toArray, List.set_cons_zero, List.set_cons_succ]
        refine wpAnyH_take (i := 15) (v := ?vaq20) (by simp; rfl) (by kernel_rfl) (by kernel_rfl) (by kernel_rfl) (fun _ _ _ h => h) (Or.inl ⟨by rfl, ?yaq20⟩) hHeld ?raq20
        case yaq20 => intro w hSw; have z := HP1.out _ (below_then HB.out hSw); clear hSw; go_simp; with_reducible rfl
        simp only [Act.put, List.setIfInBounds_toArray, List.set_cons_zero, List.set_cons_succ]
        refine wpAnyH_take (i := 16) (v := ?vaq21) (by simp; rfl) (by kernel_rfl) (by kernel_rfl) (by kernel_rfl) (fun _ _ _ h => h) (Or.inl ⟨by rfl, ?yaq21⟩) hHeld ?raq21
        case yaq21 => intro w hSw; clear hSw; go_simp; with_reducible rfl
        simp only [Act.put, List.setIfInBounds_toArray, List.set_cons_zero, List.set_cons_succ]
        refine wpAnyH_take (i := 17) (v := ?vaq22) (by simp; rfl) (by kernel_rfl) (by kernel_rfl) (by kernel_rfl) (fun _ _ _ h => h) (Or.inl ⟨by rfl, ?yaq22⟩) hHeld ?raq22
        case yaq22 => intro w hSw; clear hSw; go_simp; with_reducible rfl
        simp only [Act.put, List.setIfInBounds_toArray, List.set_cons_zero, List.set_cons_succ]
        clear hHeld
        refine wpAnyH_done (by kernel_rfl) (NoPanic.normal ?_) _
        have HB2 : Hid (Below w9.heap.size w9 wd) := below_then HB.out D1.out
        clear D1 HB
        go_wp2_with fail
        go_roundw
        case rel => exact ⟨j + 1 + 1, by omega, by go_num, HB2.out⟩
        case measure => simp [intOf]; omega
      · obtain rfl : N = k := by omega
        go_wp2_with fail
        refine wp_region_noPanic ?_
        refine wp_region_held_drew (S := fun w' => Below wr.heap.size wr w') (by kernel_rfl) (below_drawn 1) (fun hHeld => ?_)
        have D2 : Hid (Below wr.heap.size wr wr.drew) := hHeld
        generalize wr.drew = wd at *
        refine wpAnyH_take (i := 0) (v := ?vaq23) (by simp; rfl) (by kernel_rfl) (by kernel_rfl) (by kernel_rfl) (fun _ _ _ h => h) (Or.inl ⟨by rfl, ?yaq23⟩) hHeld ?raq23
        case yaq23 => intro w hSw; clear hSw; go_simp; with_reducible rfl
        simp only [Act.put, List.setIfInBounds_toArray, List.set_cons_zero, List.set_cons_succ]
        refine wpAnyH_ready (rs := [1]) (by kernel_rfl) (by simp) ?_
        refine AllReadyH.cons (by simp; rfl) (fun Kc hKc => ?_) AllReadyH.nil
        go_simp
        refine (num_any _ _).mono ?_
        rintro e wn ⟨rfl, rfl⟩
        refine hKc.out _ _ D2.out (fun hHeld => ?_)
        clear hKc Kc
        refine wpAnyH_take (i := 2) (v := ?vaq24) (by simp; rfl) (by kernel_rfl) (by kernel_rfl) (by kernel_rfl) (fun _ _ _ h => h) (Or.inl ⟨by rfl, ?yaq24⟩) hHeld ?raq24
        case yaq24 => intro w hSw; clear hSw; go_simp; with_reducible rfl
        simp only [Act.put, List.setIfInBounds_toArray, List.set_cons_zero, List.set_cons_succ]
        refine wpAnyH_take (i := 3) (v := ?vaq25) (by simp; rfl) (by kernel_rfl) (by kernel_rfl) (by kernel_rfl) (fun _ _ _ h => h) (Or.inl ⟨by rfl, ?yaq25⟩) hHeld ?raq25
        case yaq25 => intro w hSw; clear hSw; go_simp; with_reducible rfl
        simp only [Act.put, List.setIfInBounds_toArray, List.set_cons_zero, List.set_cons_succ]
        refine wpAnyH_take (i := 4) (v := _) (by simp; rfl) (by kernel_rfl) (by kernel_rfl) (by kernel_rfl) (fun _ _ _ h => h) (yieldsIf_load_mid (by rfl) 66 (.tmp 12) rfl w8.heap.size 0 rfl (gcells 0 1 s.fin (.slice q8 N c8)) _ (fun _ h => LAt.range (LAt.later M9.out (below_then HB.out h))) Tryd.underlying66 rfl sizeLg) hHeld ?_
        simp only [Act.put, List.setIfInBounds_toArray, List.set_cons_zero, List.set_cons_succ]
        refine wpAnyH_take (i := 6) (v := _) (by simp; rfl) (by kernel_rfl) (by kernel_rfl) (by kernel_rfl) (fun _ _ _ h => h) (yieldsIf_load_mid (by rfl) 48 (.tmp 7) rfl w2.heap.size 0 rfl (gcells 0 1 s.fin (.slice q N d)) _ (fun _ h => LAt.range (LAt.later W9.out (below_then HB.out h))) Tryd.underlying48 rfl sizeR) hHeld ?_
        simp only [Act.put, List.setIfInBounds_toArray, List.set_cons_zero, List.set_cons_succ]
        refine wpAnyH_ready (rs := [5]) (by kernel_rfl) (by simp) ?_
        refine AllReadyH.cons (by simp; rfl) (fun Kc hKc => ?_) AllReadyH.nil
        go_simp
        refine (plain_any 0 1 s.fin q8 N c8 s.txs _ (X8.out.later (below_then HB.out D2.out)) hwf (by omega) hms).mono ?_
        rintro e wp ⟨qp, dp, vp, rfl, xp, bp⟩
        have D3 : Hid (Below wr.heap.size wr wp) := below_then D2.out bp
        have XP : Hid (XIn wp qp N s.txs) := by
          obtain ⟨a1, a2, a3, a4, -, -⟩ := XOwn.in xp
          rw [hN] at a3 a4
          cases a3
          exact a4
        refine hKc.out _ _ D3.out (fun hHeld => ?_)
        clear hKc Kc xp bp
        refine wpAnyH_ready (rs := [7]) (by kernel_rfl) (by simp) ?_
        refine AllReadyH.cons (by simp; rfl) (fun Kc hKc => ?_) AllReadyH.nil
        go_simp
        refine (same_eq 0 1 s.fin qp q N dp d s.txs wp XP.out (XW.out.later (below_then HB.out D3.out)) (by omega) hms).mono ?_
        rintro e wq ⟨rfl, bq⟩
        have D4 : Hid (Below wr.heap.size wr wq) := below_then D3.out bq
        refine hKc.out _ _ D4.out (fun hHeld => ?_)
        clear hKc Kc bq
        refine wpAnyH_take (i := 8) (v := ?vaq26) (by simp; rfl) (by kernel_rfl) (by kernel_rfl) (by kernel_rfl) (fun _ _ _ h => h) (Or.inl ⟨by rfl, ?yaq26⟩) hHeld ?raq26
        case yaq26 => intro w hSw; clear hSw; go_simp; with_reducible rfl
        simp only [Act.put, List.setIfInBounds_toArray, List.set_cons_zero, List.set_cons_succ]
        refine wpAnyH_take (i := 9) (v := ?vaq27) (by simp; rfl) (by kernel_rfl) (by kernel_rfl) (by kernel_rfl) (fun _ _ _ h => h) (Or.inl ⟨by rfl, ?yaq27⟩) hHeld ?raq27
        case yaq27 => intro w hSw; clear hSw; go_simp; with_reducible rfl
        simp only [Act.put, List.setIfInBounds_toArray, List.set_cons_zero, List.set_cons_succ]
        refine wpAnyH_take (i := 10) (v := ?vaq28) (by simp; rfl) (by kernel_rfl) (by kernel_rfl) (by kernel_rfl) (fun _ _ _ h => h) (Or.inl ⟨by rfl, ?yaq28⟩) hHeld ?raq28
        case yaq28 => intro w hSw; clear hSw; go_simp; with_reducible rfl
        simp only [Act.put, List.setIfInBounds_toArray, List.set_cons_zero, List.set_cons_succ]
        refine wpAnyH_take (i := 11) (v := ?vaq29) (by simp; rfl) (by kernel_rfl) (by kernel_rfl) (by kernel_rfl) (fun _ _ _ h => h) (Or.inl ⟨by rfl, ?yaq29⟩) hHeld ?raq29
        case yaq29 => intro w hSw; have z := HF.out _ (below_then HB.out hSw); clear hSw; go_simp; with_reducible rfl
        simp only [Act.put, List.setIfInBounds_toArray, List.set_cons_zero, List.set_cons_succ]
        refine wpAnyH_take (i := 12) (v := ?vaq30) (by simp; rfl) (by kernel_rfl) (by kernel_rfl) (by kernel_rfl) (fun _ _ _ h => h) (Or.inl ⟨by rfl, ?yaq30⟩) hHeld ?raq30
        case yaq30 => intro w hSw; clear hSw; go_simp; with_reducible rfl
        simp only [Act.put, List.setIfInBounds_toArray, List.set_cons_zero, List.set_cons_succ]
        refine wpAnyH_take (i := 13) (v := ?vaq31) (by simp; rfl) (by kernel_rfl) (by kernel_rfl) (by kernel_rfl) (fun _ _ _ h => h) (Or.inl ⟨by rfl, ?yaq31⟩) hHeld ?raq31
        case yaq31 => intro w hSw; have z := H0.out _ (below_then HB.out hSw); clear hSw; go_simp; with_reducible rfl
        simp only [Act.put, List.setIfInBounds_toArray, List.set_cons_zero, List.set_cons_succ]
        refine wpAnyH_take (i := 14) (v := ?vaq32) (by simp; rfl) (by kernel_rfl) (by kernel_rfl) (by kernel_rfl) (fun _ _ _ h => h) (Or.inl ⟨by rfl, ?yaq32⟩) hHeld ?raq32
        case yaq32 => intro w hSw; clear hSw; go_simp; with_reducible rfl
        simp only [Act.put, List.setIfInBounds_toArray, List.set_cons_zero, List.set_cons_succ]
        refine wpAnyH_take (i := 15) (v := ?vaq33) (by simp; rfl) (by kernel_rfl) (by kernel_rfl) (by kernel_rfl) (fun _ _ _ h => h) (Or.inl ⟨by rfl, ?yaq33⟩) hHeld ?raq33
        case yaq33 => intro w hSw; have z := HL.out _ (below_then HB.out hSw); clear hSw; go_simp; with_reducible rfl
        simp only [Act.put, List.setIfInBounds_toArray, List.set_cons_zero, List.set_cons_succ]
        refine wpAnyH_take (i := 16) (v := ?vaq34) (by simp; rfl) (by kernel_rfl) (by kernel_rfl) (by kernel_rfl) (fun _ _ _ h => h) (Or.inl ⟨by rfl, ?yaq34⟩) hHeld ?raq34
        case yaq34 => intro w hSw; clear hSw; go_simp; with_reducible rfl
        simp only [Act.put, List.setIfInBounds_toArray, List.set_cons_zero, List.set_cons_succ]
        refine wpAnyH_take (i := 17) (v := ?vaq35) (by simp; rfl) (by kernel_rfl) (by kernel_rfl) (by kernel_rfl) (fun _ _ _ h => h) (Or.inl ⟨by rfl, ?yaq35⟩) hHeld ?raq35
        case yaq35 => intro w hSw; clear hSw; go_simp; with_reducible rfl
        simp only [Act.put, List.setIfInBounds_toArray, List.set_cons_zero, List.set_cons_succ]
        refine wpAnyH_take (i := 18) (v := ?vaq36) (by simp; rfl) (by kernel_rfl) (by kernel_rfl) (by kernel_rfl) (fun _ _ _ h => h) (Or.inl ⟨by rfl, ?yaq36⟩) hHeld ?raq36
        case yaq36 => intro w hSw; clear hSw; go_simp; with_reducible rfl
        simp only [Act.put, List.setIfInBounds_toArray, List.set_cons_zero, List.set_cons_succ]
        refine wpAnyH_take (i := 19) (v := ?vaq37) (by simp; rfl) (by kernel_rfl) (by kernel_rfl) (by kernel_rfl) (fun _ _ _ h => h) (Or.inl ⟨by rfl, ?yaq37⟩) hHeld ?raq37
        case yaq37 => intro w hSw; clear hSw; go_simp; with_reducible rfl
        simp only [Act.put, List.setIfInBounds_toArray, List.set_cons_zero, List.set_cons_succ]
        refine wpAnyH_take (i := 20) (v := ?vaq38) (by simp; rfl) (by kernel_rfl) (by kernel_rfl) (by kernel_rfl) (fun _ _ _ h => h) (Or.inl ⟨by rfl, ?yaq38⟩) hHeld ?raq38
        case yaq38 => intro w hSw; clear hSw; go_simp; with_reducible rfl
        simp only [Act.put, List.setIfInBounds_toArray, List.set_cons_zero, List.set_cons_succ]
        refine wpAnyH_take (i := 21) (v := ?vaq39) (by simp; rfl) (by kernel_rfl) (by kernel_rfl) (by kernel_rfl) (fun _ _ _ h => h) (Or.inl ⟨by rfl, ?yaq39⟩) hHeld ?raq39
        case yaq39 => intro w hSw; clear hSw; go_simp; with_reducible rfl
        simp only [Act.put, List.setIfInBounds_toArray, List.set_cons_zero, List.set_cons_succ]
        refine wpAnyH_take (i := 22) (v := ?vaq40) (by simp; rfl) (by kernel_rfl) (by kernel_rfl) (by kernel_rfl) (fun _ _ _ h => h) (Or.inl ⟨by rfl, ?yaq40⟩) hHeld ?raq40
        case yaq40 => intro w hSw; have z := HM.out _ (below_then HB.out hSw); clear hSw; go_simp; with_reducible rfl
        simp only [Act.put, List.setIfInBounds_toArray, List.set_cons_zero, List.set_cons_succ]
        refine wpAnyH_take (i := 23) (v := ?vaq41) (by simp; rfl) (by kernel_rfl) (by kernel_rfl) (by kernel_rfl) (fun _ _ _ h => h) (Or.inl ⟨by rfl, ?yaq41⟩) hHeld ?raq41
        case yaq41 => intro w hSw; clear hSw; go_simp; with_reducible rfl
        simp only [Act.put, List.setIfInBounds_toArray, List.set_cons_zero, List.set_cons_succ]
        refine wpAnyH_take (i := 24) (v := ?vaq42) (by simp; rfl) (by kernel_rfl) (by kernel_rfl) (by kernel_rfl) (fun _ _ _ h => h) (Or.inl ⟨by rfl, ?yaq42⟩) hHeld ?raq42
        case yaq42 => intro w hSw; clear hSw; go_simp; with_reducible rfl
        simp only [Act.put, List.setIfInBounds_toArray, List.set_cons_zero, List.set_cons_succ]
        refine wpAnyH_take (i := 25) (v := ?vaq43) (by simp; rfl) (by kernel_rfl) (by kernel_rfl) (by kernel_rfl) (fun _ _ _ h => h) (Or.inl ⟨by rfl, ?yaq43⟩) hHeld ?raq43
        case yaq43 => intro w hSw; have z := HL.out _ (below_then HB.out hSw); clear hSw; go_simp; with_reducible rfl
        simp only [Act.put, List.setIfInBounds_toArray, List.set_cons_zero, List.set_cons_succ]
        refine wpAnyH_take (i := 26) (v := ?vaq44) (by simp; rfl) (by kernel_rfl) (by kernel_rfl) (by kernel_rfl) (fun _ _ _ h => h) (Or.inl ⟨by rfl, ?yaq44⟩) hHeld ?raq44
        case yaq44 => intro w hSw; clear hSw; go_simp; with_reducible rfl
        simp only [Act.put, List.setIfInBounds_toArray, List.set_cons_zero, List.set_cons_succ]
        refine wpAnyH_take (i := 27) (v := ?vaq45) (by simp; rfl) (by kernel_rfl) (by kernel_rfl) (by kernel_rfl) (fun _ _ _ h => h) (Or.inl ⟨by rfl, ?yaq45⟩) hHeld ?raq45
        case yaq45 => intro w hSw; clear hSw; go_simp; with_reducible rfl
        simp only [Act.put, List.setIfInBounds_toArray, List.set_cons_zero, List.set_cons_succ]
        refine wpAnyH_take (i := 28) (v := ?vaq46) (by simp; rfl) (by kernel_rfl) (by kernel_rfl) (by kernel_rfl) (fun _ _ _ h => h) (Or.inl ⟨by rfl, ?yaq46⟩) hHeld ?raq46
        case yaq46 => intro w hSw; clear hSw; go_simp; with_reducible rfl
        simp only [Act.put, List.setIfInBounds_toArray, List.set_cons_zero, List.set_cons_succ]
        clear hHeld
        refine wpAnyH_done (by kernel_rfl) (NoPanic.normal ?_) _
        have FF : Hid (Below w.heap.size w wq) := below_then B9.out (below_then HB.out D4.out)
        clear D2 D3 D4
        go_wp2_with fail
        go_ret
        exact ⟨rfl, FF.out⟩
end Go.Proofs.YtefnkjajjidfaaaDoor
