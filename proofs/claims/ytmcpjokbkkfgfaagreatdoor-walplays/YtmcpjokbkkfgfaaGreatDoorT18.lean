/-
  The document's own disk: Write, Read.
-/
import Derived.Test.YtmcpjokbkkfgfaaGreatDoorT17
namespace Go.Proofs.YtmcpjokbkkfgfaaGreatDoor
open Go.RowKit
theorem info85 : (Tryz.prog.info? 129).map (fun i => (i.zero, i.size, i.bytes)) = some (some (.agg #[.int .i64 0, .slice none 0 0]), 2, 32) := by kernel_rfl
theorem ZC_snoc {ws : List Wr} {vs : List Value} (h : vs.length = ws.length) (x : Wr) (u : Value) : ZC (ws ++ [x]) (vs ++ [u]) = ZC ws vs ++ [.int .i64 (x.s : Int), u] := by
  unfold ZC
  rw [List.zipWith_append h.symm]
  simp
theorem ZC_len {ws : List Wr} {vs : List Value} : ∀ l ∈ List.zipWith (fun (x : Wr) u => [Value.int .i64 (x.s : Int), u]) ws vs, l.length = 2 := fun l hl => by
  obtain ⟨i, hi, e⟩ := List.getElem_of_mem hl
  rw [← e]
  simp
theorem ZC_at {ws : List Wr} {vs : List Value} (h : vs.length = ws.length) (i : Nat) (hi : i < ws.length) : (ZC ws vs)[i * 2]? = some (.int .i64 (ws[i].s : Int)) ∧ (ZC ws vs)[i * 2 + 1]? = some (vs[i]'(by omega)) := by
  have hl : i < (List.zipWith (fun (x : Wr) u => [Value.int .i64 (x.s : Int), u]) ws vs).length := by simp; omega
  have e0 := flat_at _ (ZC_len (ws := ws) (vs := vs)) i hl 0 (by omega)
  have e1 := flat_at _ (ZC_len (ws := ws) (vs := vs)) i hl 1 (by omega)
  rw [Nat.mul_comm] at e0 e1
  constructor
  · unfold ZC
    rw [show i * 2 = i * 2 + 0 from rfl, e0]
    simp
  · unfold ZC
    rw [e1]
    simp
/-- what a write leaves -/
theorem rwrite_fin {w w3 w4 : World} {S : Nat → Prop} {p n : Nat} {d : List Int} {ws : List Wr} {g L cap : Nat} {v : Value} {vs : List Value} {i : Nat} {b : List Int} {sl : Value} {g' c' : Nat}
    (h : RD w S p n d ws g L cap v vs) (hb : Below w.heap.size w w3) (hsl : w3.ownsRow w.heap.size 5 1 sl 64 (U8 b))
    (hown : w4.ownsRow 0 129 2 (.slice (some ⟨g', 0, none⟩) (ws.length + 1) c') (ws.length + 1) (ZC ws vs ++ [.int .i64 (i : Int), sl])) (hgrow : w3.grownBy w4 v.ownBlock) (hat : v.ownBlock = some g' ∨ w.heap.size ≤ g') (hi : i < n) (hbl : b.length = 64) (hby : Bytes b) :
    w4.cell? ⟨p, 1, none⟩ = some v ∧ w4.frozen? ⟨p, 1, none⟩ = false ∧
    Ref (w4.setCell ⟨p, 1, none⟩ (.slice (some ⟨g', 0, none⟩) (ws.length + 1) c')) (More S w) p n d (ws ++ [⟨i, b⟩]) ∧ Kept S w (w4.setCell ⟨p, 1, none⟩ (.slice (some ⟨g', 0, none⟩) (ws.length + 1) c')) := by
  have h3 := h.later hb
  have hp3 := h3.blk.lt
  have hg3 := (own_blk h3.dur).1
  have nv : ∀ k sz t, Blk w3 k t sz → t ≠ 129 → some k ≠ v.ownBlock := fun k sz t hk ht e => by
    obtain ⟨sz', hk'⟩ := own_ownBlk h3.wr e.symm
    exact hk.ne hk' ht rfl
  have bp : w4.heap[p]? = some (.cells #[.slice (some ⟨g, 0, none⟩) L cap, v] 79 (0, 0)) := (hgrow.block p hp3 (nv p 2 79 h3.blk (by decide))).trans h3.str
  have b5 : ∀ {base : Nat} {u : Value} {m : Nat} {xs : List Value}, w3.ownsRow base 5 1 u m xs → w4.ownsRow base 5 1 u m xs := fun {base u m xs} ho =>
    own_same ho (fun k hk => by
      obtain ⟨sz, hb'⟩ := own_ownBlk ho hk
      exact hgrow.block k hb'.lt (nv k sz 5 hb' (by decide)))
  have hgp : g' ≠ p := (own_blk hown).1.ne ⟨_, bp, rfl⟩ (by decide)
  have np : ∀ k sz t, Blk w4 k t sz → t ≠ 79 → k ≠ p := fun k sz t hk ht => hk.ne (sz' := 2) ⟨_, bp, rfl⟩ ht
  have b5' : ∀ {base : Nat} {u : Value} {m : Nat} {xs : List Value}, w3.ownsRow base 5 1 u m xs → (w4.setCell ⟨p, 1, none⟩ (.slice (some ⟨g', 0, none⟩) (ws.length + 1) c')).ownsRow base 5 1 u m xs := fun {base u m xs} ho =>
    own_same (b5 ho) (fun k hk => by
      obtain ⟨sz, hb'⟩ := own_ownBlk (b5 ho) hk
      exact heap_setCell_other _ _ _ _ (np k sz 5 hb' (by decide)))
  refine ⟨by rw [cell_of_row _ _ _ _ 79 (0, 0) bp]; rfl, frozen_of_row _ _ _ _ 79 bp, ⟨g, L, cap, .slice (some ⟨g', 0, none⟩) (ws.length + 1) c', vs ++ [sl], ?_⟩, ?_⟩
  · refine ⟨setCell_row (cs := [_, _]) bp 1 _, b5' h3.dur, ?_, by simp [h.len], fun j h1 h2 => ?_, fun j h2 => ?_, .inl h.sp, .inl h.sg, fun k hk => ?_, fun j h2 k hk => ?_, h.hL, h.n1, h.n2, h.dl, h.db, h.fit.snoc hi hbl hby⟩
    · rw [ZC_snoc h.len, List.length_append, List.length_singleton]
      exact own_same hown (fun k hk => heap_setCell_other _ _ _ _ (by simp only [Value.ownBlock, Option.some.injEq] at hk; rw [← hk]; exact hgp))
    · by_cases c : j < vs.length
      · rw [List.getElem_append_left c, List.getElem_append_left (by have := h.len; omega)]
        exact b5' (h3.dat j (by have := h.len; omega) c)
      · have e : j = ws.length := by simp at h1; have := h.len; omega
        subst e
        have e2 : (vs ++ [sl])[ws.length] = sl := by simp [← h.len]
        rw [e2]
        simp only [List.getElem_concat_length]
        exact own_mono (b5' hsl) (Nat.zero_le _)
    · by_cases c : j < vs.length
      · rw [List.getElem_append_left c]; exact h.ne j c
      · have e : j = vs.length := by simp at h2; omega
        subst e
        simp only [List.getElem_concat_length]
        intro e
        have := (hsl.lt g e).1
        have := (own_blk h.dur).1.lt
        omega
    · simp only [Value.ownBlock, Option.some.injEq] at hk
      subst hk
      exact or_map hat (h.sv _) id
    · by_cases c : j < vs.length
      · rw [List.getElem_append_left c] at hk; exact .inl (h.sd j c k hk)
      · have e : j = vs.length := by simp at h2; omega
        subst e
        simp only [List.getElem_concat_length] at hk
        exact .inr (hsl.lt k hk).1
  · exact ((Kept.of_below hb).grown hgrow (fun k hk _ => h.sv k hk)).setCell (fun _ => h.sp) _
set_option maxHeartbeats 1000000 in
set_option maxRecDepth 100000 in
theorem rwrite_bad {w : World} {S : Nat → Prop} {p n : Nat} {d : List Int} {ws : List Wr} (h : Ref w S p n d ws) (i : Int) (v : Value) (hi : i < 0 ∨ (n : Int) ≤ i) : Calls Tryz.prog 63 #[.pointer (some ⟨p, 0, none⟩), .int .i64 i, v] w fun e w' => e = .returned (.int .i64 40) ∧ w = w' := by
  by_cases c : i < 0
  · go_enter Tryz.func63, Tryz.ntmps63
    go_wp2
    go_ret
    exact ⟨rfl, rfl⟩
  · have c2 : (n : Int) ≤ i := by omega
    go_enter Tryz.func63, Tryz.ntmps63
    go_wp2_with fail
    refine (rlen_any h).mono ?_
    rintro e w1 ⟨rfl, rfl⟩
    go_wp2
    go_ret
    exact ⟨rfl, rfl⟩
set_option maxHeartbeats 1000000 in
set_option maxRecDepth 100000 in
theorem rwrite_long {w : World} {S : Nat → Prop} {p n : Nat} {d : List Int} {ws : List Wr} (h : Ref w S p n d ws) (i : Nat) (hi : i < n) (a : Option Addr) (m c : Nat) (hm : ¬ m = 64) : Calls Tryz.prog 63 #[.pointer (some ⟨p, 0, none⟩), .int .i64 i, .slice a m c] w fun e w' => e = .returned (.int .i64 2) ∧ w = w' := by
  have c1 : ¬ (i : Int) < 0 := by omega
  have c2 : ¬ (n : Int) ≤ (i : Int) := by omega
  have hm' : ((m : Int) != 64) = true := by rw [bne_iff_ne]; omega
  go_enter Tryz.func63, Tryz.ntmps63
  go_wp2_with fail
  refine (rlen_any h).mono ?_
  rintro e w1 ⟨rfl, rfl⟩
  clear hm
  go_wp2
  go_ret
  exact ⟨rfl, rfl⟩
set_option maxHeartbeats 4000000 in
set_option maxRecDepth 100000 in
theorem rwrite_good {w : World} {S : Nat → Prop} {p n : Nat} {d : List Int} {ws : List Wr} (h : Ref w S p n d ws) (i : Nat) (hi : i < n) (a : Option Addr) (c : Nat) (b : List Int) (hb : BIn w a 64 b) (hk : ws.length ≤ 100000) : Calls Tryz.prog 63 #[.pointer (some ⟨p, 0, none⟩), .int .i64 i, .slice a 64 c] w fun e w' => e = .returned (.int .i64 0) ∧ Ref w' (More S w) p n d (ws ++ [⟨i, b⟩]) ∧ Kept S w w' := by
  obtain ⟨i5, hi5, hz50, hz51, hz52⟩ := info_parts info5
  obtain ⟨i85, hi85, hz850, hz851, hz852⟩ := info_parts info85
  have c1 : ¬ (i : Int) < 0 := by omega
  have c2 : ¬ (n : Int) ≤ (i : Int) := by omega
  obtain ⟨ga, oa, rfl, _⟩ := hb.cells (by omega)
  have HBi : Hid (BIn w (some ⟨ga, oa, none⟩) 64 b) := hb
  clear hb
  go_enter Tryz.func63, Tryz.ntmps63
  go_wp2_with fail
  refine (rlen_any h).mono ?_
  rintro e w1 ⟨rfl, rfl⟩
  obtain ⟨g, L, cap, v, vs, h⟩ := h
  have HH : Hid (RD w S p n d ws g L cap v vs) := h
  have s0 := h.cell1
  obtain ⟨pv, cv, rfl, _⟩ := own_slice h.wr
  clear h
  go_wp2
  refine wp_region_noPanic ?_
  refine wp_region_last 14 (fun w' => w'.cell? ⟨p, 1, none⟩ = some (.slice pv ws.length cv)) (by kernel_rfl) ?_
  have hHeld : w.drew.cell? ⟨p, 1, none⟩ = some (.slice pv ws.length cv) := s0
  refine wpAnyL_take (i := 0) (v := ?v0) (by simp; rfl) (by kernel_rfl) (by kernel_rfl) (by kernel_rfl) (by kernel_rfl) (fun _ _ _ h => h) (Or.inl ⟨by rfl, ?y0⟩) hHeld ?r0
  case y0 => intro w hSw; clear hSw; go_simp; with_reducible rfl
  simp only [Act.put, List.setIfInBounds_toArray, List.set_cons_zero, List.set_cons_succ]
  refine wpAnyL_take (i := 1) (v := ?v1) (by simp; rfl) (by kernel_rfl) (by kernel_rfl) (by kernel_rfl) (by kernel_rfl) (fun _ _ _ h => h) (Or.inl ⟨by rfl, ?y1⟩) hHeld ?r1
  case y1 => intro w hSw; clear hSw; go_simp; with_reducible rfl
  simp only [Act.put, List.setIfInBounds_toArray, List.set_cons_zero, List.set_cons_succ]
  refine wpAnyL_take (i := 2) (v := ?v2) (by simp; rfl) (by kernel_rfl) (by kernel_rfl) (by kernel_rfl) (by kernel_rfl) (fun _ _ _ h => h) (Or.inl ⟨by rfl, ?y2⟩) hHeld ?r2
  case y2 => intro w hSw; clear hSw; go_simp; with_reducible rfl
  simp only [Act.put, List.setIfInBounds_toArray, List.set_cons_zero, List.set_cons_succ]
  refine wpAnyL_take (i := 3) (v := ?v3) (by simp; rfl) (by kernel_rfl) (by kernel_rfl) (by kernel_rfl) (by kernel_rfl) (fun _ _ _ h => h) (Or.inl ⟨by rfl, ?y3⟩) hHeld ?r3
  case y3 => intro w hSw; clear hSw; go_simp; with_reducible rfl
  simp only [Act.put, List.setIfInBounds_toArray, List.set_cons_zero, List.set_cons_succ]
  refine wpAnyL_take (i := 4) (v := ?v4) (by simp; rfl) (by kernel_rfl) (by kernel_rfl) (by kernel_rfl) (by kernel_rfl) (fun _ _ _ h => h) (Or.inl ⟨by rfl, ?y4⟩) hHeld ?r4
  case y4 => intro w hSw; go_simp; with_reducible rfl
  simp only [Act.put, List.setIfInBounds_toArray, List.set_cons_zero, List.set_cons_succ]
  refine wpAnyL_take (i := 5) (v := ?v5) (by simp; rfl) (by kernel_rfl) (by kernel_rfl) (by kernel_rfl) (by kernel_rfl) (fun _ _ _ h => h) (Or.inl ⟨by rfl, ?y5⟩) hHeld ?r5
  case y5 => intro w hSw; clear hSw; go_simp; with_reducible rfl
  simp only [Act.put, List.setIfInBounds_toArray, List.set_cons_zero, List.set_cons_succ]
  refine wpAnyL_take (i := 7) (v := ?v7) (by simp; rfl) (by kernel_rfl) (by kernel_rfl) (by kernel_rfl) (by kernel_rfl) (fun _ _ _ h => h) (Or.inl ⟨by rfl, ?y7⟩) hHeld ?r7
  case y7 => intro w hSw; clear hSw; go_simp; with_reducible rfl
  simp only [Act.put, List.setIfInBounds_toArray, List.set_cons_zero, List.set_cons_succ]
  refine wpAnyL_ready (rs := [6]) (by kernel_rfl) (by simp) ?_
  refine AllReadyL.cons (by simp; rfl) (fun K hK => ?_) AllReadyL.nil
  go_simp
  have hH6 : (w.alloc (.cells #[] 5)).drew.cell? ⟨p, 1, none⟩ = some (.slice pv ws.length cv) := (HH.out.later (below_alloc w _)).cell1
  refine hK.out _ _ (fun _ => hH6) ?_
  clear hK K hHeld
  have hHeld := hH6
  refine wpAnyL_ready (rs := [8]) (by kernel_rfl) (by simp) ?_
  refine AllReadyL.cons (by simp; rfl) (fun K hK => ?_) AllReadyL.nil
  refine step_append_lies _ rfl (.tmp 24) (.tmp 25) 51 rfl w.heap.size 5 i5 (.int .u8 0) 1 1 Tryz.underlying51 hi5 hz50 hz51 hz52 rfl (by omega) _ 0 [] rfl (World.ownsRow_made w #[] 0 (Nat.le_refl _) (Nat.zero_le _) rfl) ⟨ga, oa, none⟩ 64 c (U8 b) rfl (by rw [U8_length]; exact HBi.out.len) ((HBi.out.later (below_alloc w _)).news) (ones_u8 _) (by omega) (by unfold maxLen; omega) (by omega) (by simp) _ rfl ?_
  intro g2 cap2 w2 hown2 hgrow2 hat2 hlt2
  simp only [Nat.zero_add, List.nil_append] at hown2 ⊢
  have hb2 : Below w.heap.size w w2 := ((Below.refl _ w).alloc (Nat.le_refl _) (.cells #[] 5)).trans ⟨hgrow2.os, hgrow2.tape, hgrow2.output, hgrow2.size, fun k hk => hgrow2.block k (Nat.lt_of_lt_of_le hk (by show _ ≤ (w.alloc _).heap.size; simp)) (fun e => by have e' : k = w.heap.size := Option.some.inj e; omega)⟩
  have hH8 := (HH.out.later hb2).cell1
  refine hK.out _ _ (fun _ => hH8) ?_
  clear hK K hHeld hH6 hgrow2 hat2 hlt2
  have hHeld := hH8
  simp only [Act.put, List.setIfInBounds_toArray, List.set_cons_zero, List.set_cons_succ]
  refine wpAnyL_take (i := 9) (v := ?v9) (by simp; rfl) (by kernel_rfl) (by kernel_rfl) (by kernel_rfl) (by kernel_rfl) (fun _ _ _ h => h) (Or.inl ⟨by rfl, ?y9⟩) hHeld ?r9
  case y9 => intro w hSw; clear hSw; go_simp; with_reducible rfl
  simp only [Act.put, List.setIfInBounds_toArray, List.set_cons_zero, List.set_cons_succ]
  refine wpAnyL_ready (rs := [10]) (by kernel_rfl) (by simp) ?_
  refine AllReadyL.cons (by simp; rfl) (fun K hK => ?_) AllReadyL.nil
  go_simp
  have hb3 : Below w.heap.size w (w2.alloc (.cells #[.int .i64 (i : Int), .slice (some ⟨g2, 0, none⟩) 64 cap2] 129)) := hb2.alloc hb2.size _
  have hHA := (HH.out.later hb3).cell1
  refine hK.out _ _ (fun _ => hHA) ?_
  clear hK K hHeld hH8
  have hHeld := hHA
  refine wpAnyL_ready (rs := [11]) (by kernel_rfl) (by simp) ?_
  refine AllReadyL.cons (by simp; rfl) (fun K hK => ?_) AllReadyL.nil
  have hz2 := hb2.size
  refine step_append_lies _ rfl (.tmp 22) (.tmp 28) 77 rfl 0 129 i85 (.agg #[.int .i64 0, .slice none 0 0]) 2 32 Tryz.underlying77 hi85 hz850 hz851 hz852 rfl (by omega) _ ws.length (ZC ws vs) rfl (HH.out.later hb3).wr ⟨w2.heap.size, 0, none⟩ 1 1 [.int .i64 (i : Int), .slice (some ⟨g2, 0, none⟩) 64 cap2] rfl rfl ?_ (by simp [Value.oneCell']) (by omega) (by unfold maxLen; omega) (by omega) (Nat.zero_le _) _ rfl ?_
  · intro j u hu
    have e := new_range w2 [.int .i64 (i : Int), .slice (some ⟨g2, 0, none⟩) 64 cap2] 129 j u hu
    rw [Addr.add_mid]
    exact e
  intro g4 cap4 w4 hown4 hgrow4 hat4 hlt4
  obtain ⟨f1, f2, f3, f4⟩ := rwrite_fin HH.out hb3 (hown2.alloc _) hown4 hgrow4 (or_map hat4 id (fun e => by rw [e]; simp; omega)) hi HBi.out.len HBi.out.byte
  refine hK.out _ _ (fun _ => f1) ?_
  clear hK K hHeld hHA hgrow4 hat4 hlt4 hown4
  have HF : Hid (Ref (w4.setCell ⟨p, 1, none⟩ (.slice (some ⟨g4, 0, none⟩) (ws.length + 1) cap4)) (More S w) p n d (ws ++ [⟨i, b⟩]) ∧ Kept S w (w4.setCell ⟨p, 1, none⟩ (.slice (some ⟨g4, 0, none⟩) (ws.length + 1) cap4))) := ⟨f3, f4⟩
  clear f3 f4
  have hHeld := f1
  simp only [Act.put, List.setIfInBounds_toArray, List.set_cons_zero, List.set_cons_succ]
  refine wpAnyL_ready (rs := [12]) (by kernel_rfl) (by simp) ?_
  refine AllReadyL.cons (by simp; rfl) (fun K hK => ?_) AllReadyL.nil
  go_simp
  refine hK.out _ _ (fun _ => f1) ?_
  clear hK K
  refine wpAnyL_ready (rs := [13]) (by kernel_rfl) (by simp) ?_
  refine AllReadyL.cons (by simp; rfl) (fun K hK => ?_) AllReadyL.nil
  go_simp
  refine hK.out _ _ (fun _ => f1) ?_
  clear hK K
  refine wpAnyL_ready (rs := [14]) (by kernel_rfl) (by simp) ?_
  refine AllReadyL.cons (by simp; rfl) (fun K hK => ?_) AllReadyL.nil
  go_simp
  refine hK.out _ _ (fun h => absurd rfl h) ?_
  clear hK K
  refine wpAnyL_done (by kernel_rfl) (NoPanic.normal ?_) _
  clear f1 f2 hHeld
  go_wp2
  go_ret
  exact ⟨rfl, HF.out.1, HF.out.2⟩
end Go.Proofs.YtmcpjokbkkfgfaaGreatDoor

/-
  The document's own disk: Read, Crash, Flush.
-/
namespace Go.Proofs.YtmcpjokbkkfgfaaGreatDoor
open Go.RowKit
set_option maxHeartbeats 1000000 in
set_option maxRecDepth 100000 in
theorem rread_bad {w : World} {S : Nat → Prop} {p n : Nat} {d : List Int} {ws : List Wr} (h : Ref w S p n d ws) (i : Int) (hi : i < 0 ∨ (n : Int) ≤ i) : Calls Tryz.prog 55 #[.pointer (some ⟨p, 0, none⟩), .int .i64 i] w fun e w' => e = .returned (.tuple #[.slice none 0 0, .int .i64 40]) ∧ w = w' := by
  by_cases c : i < 0
  · go_enter Tryz.func55, Tryz.ntmps55
    go_wp2
    go_ret2
    exact ⟨rfl, rfl⟩
  · have c2 : (n : Int) ≤ i := by omega
    go_enter Tryz.func55, Tryz.ntmps55
    go_wp2_with fail
    refine (rlen_any h).mono ?_
    rintro e w1 ⟨rfl, rfl⟩
    go_wp2
    go_ret2
    exact ⟨rfl, rfl⟩
/-- write number k of the document's disk -/
theorem RD.at {w : World} {S : Nat → Prop} {p n : Nat} {d : List Int} {ws : List Wr} {g L cap : Nat} {v : Value} {vs : List Value} (h : RD w S p n d ws g L cap v vs) (k : Nat) (hk : k < ws.length) :
    ∃ gv cv gb cb, v = .slice (some ⟨gv, 0, none⟩) ws.length cv ∧ w.cell? ⟨gv, k * 2, none⟩ = some (.int .i64 (ws[k].s : Int)) ∧ w.cell? ⟨gv, k * 2 + 1, none⟩ = some (.slice (some ⟨gb, 0, none⟩) 64 cb) ∧ BIn w (some ⟨gb, 0, none⟩) 64 ws[k].b ∧ gb ≠ g := by
  obtain ⟨pv, cv, e, h0, h1⟩ := own_slice h.wr
  cases pv with
  | none => have := (h0 rfl).1; omega
  | some a =>
    obtain ⟨gv, rfl⟩ := h1 a rfl
    subst e
    have hkv : k < vs.length := by rw [h.len]; exact hk
    have hd := h.dat k hk hkv
    obtain ⟨pb, cb, e, hb, _⟩ := own_in hd (h.fit.at k hk).2.2
    obtain ⟨gb, ob, rfl, _⟩ := hb.cells (by omega)
    have h00 : ob = 0 := by
      obtain ⟨_, _, e2, _, h3⟩ := own_slice hd
      rw [e] at e2
      simp only [Value.slice.injEq] at e2
      obtain ⟨g3, h4⟩ := h3 ⟨gb, ob, none⟩ e2.1.symm
      simp only [Addr.mk.injEq] at h4
      exact h4.2.1
    subst h00
    obtain ⟨c0, c1⟩ := ZC_at h.len k hk
    have hr := own_range h.wr
    refine ⟨gv, cv, gb, cb, rfl, ?_, ?_, hb, fun e3 => ?_⟩
    · have := hr (k * 2) _ c0
      rwa [Nat.zero_add] at this
    · have := hr (k * 2 + 1) _ c1
      rw [Nat.zero_add] at this
      rw [this, e]
    · apply h.ne k hkv
      rw [e, ← e3]
      rfl
set_option maxHeartbeats 4000000 in
set_option maxRecDepth 100000 in
theorem rread_good {w : World} {S : Nat → Prop} {p n : Nat} {d : List Int} {ws : List Wr} (h : Ref w S p n d ws) (i : Nat) (hi : i < n) (hk : ws.length ≤ 100000) : Calls Tryz.prog 55 #[.pointer (some ⟨p, 0, none⟩), .int .i64 i] w fun e w' => ∃ v, e = .returned (.tuple #[v, .int .i64 0]) ∧ w'.ownsRow w.heap.size 5 1 v 64 (U8 (newest ws d i)) ∧ Below w.heap.size w w' := by
  obtain ⟨i5, hi5, hz50, hz51, hz52⟩ := info_parts info5
  have c1 : ¬ (i : Int) < 0 := by omega
  have c2 : ¬ (n : Int) ≤ (i : Int) := by omega
  go_enter Tryz.func55, Tryz.ntmps55
  go_wp2_with fail
  refine (rlen_any h).mono ?_
  rintro e w1 ⟨rfl, rfl⟩
  obtain ⟨g, L, cap, v, vs, h⟩ := h
  have s0 := h.cell0
  have HH : Hid (RD w S p n d ws g L cap v vs) := h
  have hL := h.hL
  have hn2 := h.n2
  have hLc := (own_blk h.dur).2.1
  have e1 : IntKind.i64.wrap ((i : Int) * 64) = (i : Int) * 64 := by rw [IntKind.wrap_i64]; omega
  have e2 : IntKind.i64.wrap (((i : Int) + 1) * 64) = ((i : Int) + 1) * 64 := by rw [IntKind.wrap_i64]; omega
  have e3 : (i : Int) * 64 ≤ ((i : Int) + 1) * 64 := by omega
  have e4 : ((i : Int) + 1) * 64 ≤ (cap : Int) := by omega
  have e5 : ¬ (cap : Int) = (i : Int) * 64 := by omega
  have E6 : Hid ((i + 1) * 64 - i * 64 = 64) := by show _ = _; omega
  have s0' : (w.alloc (.cells #[] 5)).cell? ⟨p, 0, none⟩ = some (.slice (some ⟨g, 0, none⟩) L cap) := (h.later (below_alloc w _)).cell0
  have HN : Hid (∀ j u, (U8 (sec d i))[j]? = some u → (w.alloc (.cells #[] 5)).cell? ((⟨g, i * 64, none⟩ : Addr).add j) = some u) := fun j u hu => by
    have hj : j < 64 := by have := (List.getElem?_eq_some_iff.1 hu).1; rw [U8_length, sec_length h.dl hi] at this; exact this
    have hr := own_range (h.later (below_alloc w (.cells #[] 5))).dur (i * 64 + j) u (by rw [← hu]; simp only [U8, List.getElem?_map, sec_get d i j hj]; rw [Nat.mul_comm])
    rw [Addr.add_mid]
    rwa [Nat.zero_add] at hr
  have HL : Hid ((sec d i).length = 64) := sec_length h.dl hi
  clear h hL
  go_wp2_with (at_builtin; refine wpList_append_own _ rfl (.tmp 16) (.tmp 26) 51 rfl w.heap.size 5 i5 (.int .u8 0) 1 1 Tryz.underlying51 hi5 hz50 hz51 hz52 rfl (by omega) _ 0 [] rfl (World.ownsRow_made w #[] 0 (Nat.le_refl _) (Nat.zero_le _) rfl) ⟨g, i * 64, none⟩ ((i + 1) * 64 - i * 64) (cap - i * 64) (U8 (sec d i)) rfl ?_ ?_ ?_ ?_ ?_ ?_ ?_)
  · rw [E6.out, U8_length]; exact HL.out
  · exact HN.out
  · exact ones_u8 _
  · rw [E6.out]; unfold maxLen; omega
  · rw [E6.out]; omega
  · simp
  intro v0 w0 hown hgrow _
  rw [E6.out] at hown
  have HR0 : Hid (w0.ownsRow w.heap.size 5 1 v0 64 (U8 (newk ws d i 0)) ∧ Below w.heap.size w w0) := ⟨hown, ((Below.refl _ w).alloc (Nat.le_refl _) _).grown hgrow (by simp) (by intro k hk; simp [Value.ownBlock] at hk; omega)⟩
  clear hown hgrow HN
  go_wp2
  clear e1 e2 e3 e4 e5 E6 s0 s0'
  go_loopw [6, 7] (fun o j wr => ∃ k : Nat, k ≤ ws.length ∧ j = .int .i64 k ∧ Hid (wr.ownsRow w.heap.size 5 1 o 64 (U8 (newk ws d i k)) ∧ Below w.heap.size w wr)) (fun _ j _ => ws.length - (intOf j).toNat)
  case atStart => exact ⟨0, by omega, rfl, HR0.out⟩
  case round =>
    obtain ⟨k, hkl, rfl, HR⟩ := hrel
    clear HR0
    have h1 := HH.out.later HR.out.2
    have s1 := h1.cell1
    by_cases hlt : k < ws.length
    · obtain ⟨gv, cv, gb, cb, rfl, t1, t2, t3, _⟩ := h1.at k hlt
      have HS : Hid (newk ws d i (k + 1) = if ws[k].s = i then ws[k].b else newk ws d i k) := newk_step ws d i k hlt
      have HXl : Hid (ws[k].b.length = 64) := (HH.out.fit.at k hlt).2.1
      generalize ws[k] = X at *
      by_cases hx : X.s = i
      · have HE : Hid (newk ws d i (k + 1) = X.b) := by show _ = _; rw [HS.out, if_pos hx]
        have ex : ((X.s : Int) == (i : Int)) = true := by rw [hx]; simp
        have s1' : (wr.alloc (.cells #[] 5)).cell? ⟨p, 1, none⟩ = some (.slice (some ⟨gv, 0, none⟩) ws.length cv) := (h1.later (below_alloc wr _)).cell1
        have t2' : (wr.alloc (.cells #[] 5)).cell? ⟨gv, k * 2 + 1, none⟩ = some (.slice (some ⟨gb, 0, none⟩) 64 cb) := by
          rw [World.cell?_alloc_lt _ _ _ (World.block_lt_of_cell? wr _ t2)]; exact t2
        have HN : Hid (∀ j u, (U8 X.b)[j]? = some u → (wr.alloc (.cells #[] 5)).cell? ((⟨gb, 0, none⟩ : Addr).add j) = some u) := (t3.later (below_alloc wr _)).news
        have hle := HR.out.2.size
        clear hx h1 t3
        go_wp2_with (at_builtin; refine wpList_append_own _ rfl (.tmp 47) (.tmp 55) 51 rfl wr.heap.size 5 i5 (.int .u8 0) 1 1 Tryz.underlying51 hi5 hz50 hz51 hz52 rfl (by omega) _ 0 [] rfl (World.ownsRow_made wr #[] 0 (Nat.le_refl _) (Nat.zero_le _) rfl) ⟨gb, 0, none⟩ 64 cb (U8 X.b) rfl ?_ ?_ ?_ ?_ ?_ ?_ ?_)
        · rw [U8_length]; exact HXl.out
        · exact HN.out
        · exact ones_u8 _
        · unfold maxLen; omega
        · omega
        · simp
        intro v2 w2 hown hgrow _
        have HU : Hid (w2.ownsRow w.heap.size 5 1 v2 64 (U8 (newk ws d i (k + 1))) ∧ Below w.heap.size w w2) := by
          rw [HE.out]
          exact ⟨own_mono hown hle, (HR.out.2.alloc hle _).grown hgrow (by simp; omega) (by intro j hj; simp [Value.ownBlock] at hj; omega)⟩
        clear hown hgrow HN
        go_wp2
        go_roundw
        case rel => exact ⟨k + 1, by omega, by go_num, HU.out⟩
        case measure => simp [intOf]; omega
      · have HU : Hid (wr.ownsRow w.heap.size 5 1 u6 64 (U8 (newk ws d i (k + 1))) ∧ Below w.heap.size w wr) := by rw [HS.out, if_neg hx]; exact HR
        have ex : ((X.s : Int) == (i : Int)) = false := by rw [beq_eq_false_iff_ne]; omega
        clear hx h1 t3 t2 HS HR
        go_wp2
        go_roundw
        case rel => exact ⟨k + 1, by omega, by go_num, HU.out⟩
        case measure => simp [intOf]; omega
    · obtain rfl : k = ws.length := by omega
      obtain ⟨pv, cv, rfl, _⟩ := own_slice HH.out.wr
      go_wp2
      go_ret2
      exact ⟨_, rfl, HR.out.1, HR.out.2⟩
end Go.Proofs.YtmcpjokbkkfgfaaGreatDoor
