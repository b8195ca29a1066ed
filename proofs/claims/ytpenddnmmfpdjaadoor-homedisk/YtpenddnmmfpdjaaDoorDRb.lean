/-
  The document's own disk: Write, Read.
-/
import Derived.Test.YtpenddnmmfpdjaaDoorDRa
import Derived.Test.YtpenddnmmfpdjaaDoorDZa
namespace Go.Proofs.YtpenddnmmfpdjaaDoor
open Go.RowKit
theorem info85 : (Tryd.prog.info? 113).map (fun i => (i.zero, i.size, i.bytes)) = some (some (.agg #[.int .i64 0, .slice none 0 0]), 2, 32) := by kernel_rfl
theorem RC_snoc {ws : List Wr} {vs : List Value} (h : vs.length = ws.length) (x : Wr) (u : Value) : RC (ws ++ [x]) (vs ++ [u]) = RC ws vs ++ [.int .i64 (x.s : Int), u] := by
  unfold RC
  rw [List.zipWith_append h.symm]
  simp
theorem RC_len {ws : List Wr} {vs : List Value} : ∀ l ∈ List.zipWith (fun (x : Wr) u => [Value.int .i64 (x.s : Int), u]) ws vs, l.length = 2 := fun l hl => by
  obtain ⟨i, hi, e⟩ := List.getElem_of_mem hl
  rw [← e]
  simp
theorem RC_at {ws : List Wr} {vs : List Value} (h : vs.length = ws.length) (i : Nat) (hi : i < ws.length) : (RC ws vs)[i * 2]? = some (.int .i64 (ws[i].s : Int)) ∧ (RC ws vs)[i * 2 + 1]? = some (vs[i]'(by omega)) := by
  have hl : i < (List.zipWith (fun (x : Wr) u => [Value.int .i64 (x.s : Int), u]) ws vs).length := by simp; omega
  have e0 := flat_at _ (RC_len (ws := ws) (vs := vs)) i hl 0 (by omega)
  have e1 := flat_at _ (RC_len (ws := ws) (vs := vs)) i hl 1 (by omega)
  rw [Nat.mul_comm] at e0 e1
  constructor
  · unfold RC
    rw [show i * 2 = i * 2 + 0 from rfl, e0]
    simp
  · unfold RC
    rw [e1]
    simp
/-- what a write leaves -/
theorem rwrite_fin {w w3 w4 : World} {S : Nat → Prop} {p n : Nat} {d : List Int} {ws : List Wr} {g L cap : Nat} {v : Value} {vs : List Value} {i : Nat} {b : List Int} {sl : Value} {g' c' : Nat}
    (h : RD w S p n d ws g L cap v vs) (hb : Below w.heap.size w w3) (hsl : w3.ownsRow w.heap.size 5 1 sl 64 (U8 b))
    (hown : w4.ownsRow 0 113 2 (.slice (some ⟨g', 0, none⟩) (ws.length + 1) c') (ws.length + 1) (RC ws vs ++ [.int .i64 (i : Int), sl])) (hgrow : w3.grownBy w4 v.ownBlock) (hat : v.ownBlock = some g' ∨ w.heap.size ≤ g') (hi : i < n) (hbl : b.length = 64) (hby : Bytes b) :
    w4.cell? ⟨p, 1, none⟩ = some v ∧ w4.frozen? ⟨p, 1, none⟩ = false ∧
    Ref (w4.setCell ⟨p, 1, none⟩ (.slice (some ⟨g', 0, none⟩) (ws.length + 1) c')) (More S w) p n d (ws ++ [⟨i, b⟩]) ∧ Kept S w (w4.setCell ⟨p, 1, none⟩ (.slice (some ⟨g', 0, none⟩) (ws.length + 1) c')) := by
  have h3 := h.later hb
  have hp3 := h3.blk.lt
  have hg3 := (own_blk h3.dur).1
  have nv : ∀ k sz t, Blk w3 k t sz → t ≠ 113 → some k ≠ v.ownBlock := fun k sz t hk ht e => by
    obtain ⟨sz', hk'⟩ := own_ownBlk h3.wr e.symm
    exact hk.ne hk' ht rfl
  have bp : w4.heap[p]? = some (.cells #[.slice (some ⟨g, 0, none⟩) L cap, v] 112 (0, 0)) := (hgrow.block p hp3 (nv p 2 112 h3.blk (by decide))).trans h3.str
  have b5 : ∀ {base : Nat} {u : Value} {m : Nat} {xs : List Value}, w3.ownsRow base 5 1 u m xs → w4.ownsRow base 5 1 u m xs := fun {base u m xs} ho =>
    own_same ho (fun k hk => by
      obtain ⟨sz, hb'⟩ := own_ownBlk ho hk
      exact hgrow.block k hb'.lt (nv k sz 5 hb' (by decide)))
  have hgp : g' ≠ p := (own_blk hown).1.ne ⟨_, bp, rfl⟩ (by decide)
  have np : ∀ k sz t, Blk w4 k t sz → t ≠ 112 → k ≠ p := fun k sz t hk ht => hk.ne (sz' := 2) ⟨_, bp, rfl⟩ ht
  have b5' : ∀ {base : Nat} {u : Value} {m : Nat} {xs : List Value}, w3.ownsRow base 5 1 u m xs → (w4.setCell ⟨p, 1, none⟩ (.slice (some ⟨g', 0, none⟩) (ws.length + 1) c')).ownsRow base 5 1 u m xs := fun {base u m xs} ho =>
    own_same (b5 ho) (fun k hk => by
      obtain ⟨sz, hb'⟩ := own_ownBlk (b5 ho) hk
      exact heap_setCell_other _ _ _ _ (np k sz 5 hb' (by decide)))
  refine ⟨by rw [cell_of_row _ _ _ _ 112 (0, 0) bp]; rfl, frozen_of_row _ _ _ _ 112 bp, ⟨g, L, cap, .slice (some ⟨g', 0, none⟩) (ws.length + 1) c', vs ++ [sl], ?_⟩, ?_⟩
  · refine ⟨setCell_row (cs := [_, _]) bp 1 _, b5' h3.dur, ?_, by simp [h.len], fun j h1 h2 => ?_, fun j h2 => ?_, .inl h.sp, .inl h.sg, fun k hk => ?_, fun j h2 k hk => ?_, h.hL, h.n1, h.n2, h.dl, h.db, h.fit.snoc hi hbl hby⟩
    · rw [RC_snoc h.len, List.length_append, List.length_singleton]
      exact own_same hown (fun k hk => heap_setCell_other _ _ _ _ (by simp only [Value.ownBlock, Option.some.injEq] at hk; rw [← hk]; exact hgp))
    · by_cases c : j < vs.length
      · rw [List.getElem_append_left c, List.getElem_append_left (by have := h.len; omega)]
        exact b5' (h3.dat j (by have := h.len; omega) c)
      · have e : j = ws.length := by simp at h1; have := h.len; omega
        subst e
        have e2 : (vs ++ [sl])[ws.length] = sl := by simp [← h.len]
        rw [e2]
        simp only [List.getElem_concat_length]
        exact own_mono (b5' hsl) (Nat.zero_le _)
    · by_cases c : j < vs.length
      · rw [List.getElem_append_left c]; exact h.ne j c
      · have e : j = vs.length := by simp at h2; omega
        subst e
        simp only [List.getElem_concat_length]
        intro e
        have := (hsl.lt g e).1
        have := (own_blk h.dur).1.lt
        omega
    · simp only [Value.ownBlock, Option.some.injEq] at hk
      subst hk
      exact or_map hat (h.sv _) id
    · by_cases c : j < vs.length
      · rw [List.getElem_append_left c] at hk; exact .inl (h.sd j c k hk)
      · have e : j = vs.length := by simp at h2; omega
        subst e
        simp only [List.getElem_concat_length] at hk
        exact .inr (hsl.lt k hk).1
  · exact ((Kept.of_below hb).grown hgrow (fun k hk _ => h.sv k hk)).setCell (fun _ => h.sp) _
set_option maxHeartbeats 1000000 in
set_option maxRecDepth 100000 in
theorem rwrite_bad {w : World} {S : Nat → Prop} {p n : Nat} {d : List Int} {ws : List Wr} (h : Ref w S p n d ws) (i : Int) (v : Value) (hi : i < 0 ∨ (n : Int) ≤ i) : Calls Tryd.prog 54 #[.pointer (some ⟨p, 0, none⟩), .int .i64 i, v] w fun e w' => e = .returned (.int .i64 40) ∧ w = w' := by
  by_cases c : i < 0
  · go_enter Tryd.func54, Tryd.ntmps54
    go_wp2
    go_ret
    exact ⟨rfl, rfl⟩
  · have c2 : (n : Int) ≤ i := by omega
    go_enter Tryd.func54, Tryd.ntmps54
    go_wp2_with fail
    refine (rlen_any h).mono ?_
    rintro e w1 ⟨rfl, rfl⟩
    go_wp2
    go_ret
    exact ⟨rfl, rfl⟩
set_option maxHeartbeats 1000000 in
set_option maxRecDepth 100000 in
theorem rwrite_long {w : World} {S : Nat → Prop} {p n : Nat} {d : List Int} {ws : List Wr} (h : Ref w S p n d ws) (i : Nat) (hi : i < n) (a : Option Addr) (m c : Nat) (hm : ¬ m = 64) : Calls Tryd.prog 54 #[.pointer (some ⟨p, 0, none⟩), .int .i64 i, .slice a m c] w fun e w' => e = .returned (.int .i64 2) ∧ w = w' := by
  have c1 : ¬ (i : Int) < 0 := by omega
  have c2 : ¬ (n : Int) ≤ (i : Int) := by omega
  have hm' : ((m : Int) != 64) = true := by rw [bne_iff_ne]; omega
  go_enter Tryd.func54, Tryd.ntmps54
  go_wp2_with fail
  refine (rlen_any h).mono ?_
  rintro e w1 ⟨rfl, rfl⟩
  clear hm
  go_wp2
  go_ret
  exact ⟨rfl, rfl⟩
set_option maxHeartbeats 4000000 in
set_option maxRecDepth 100000 in
theorem rwrite_good {w : World} {S : Nat → Prop} {p n : Nat} {d : List Int} {ws : List Wr} (h : Ref w S p n d ws) (i : Nat) (hi : i < n) (a : Option Addr) (c : Nat) (b : List Int) (hb : BIn w a 64 b) (hk : ws.length ≤ 1000) : Calls Tryd.prog 54 #[.pointer (some ⟨p, 0, none⟩), .int .i64 i, .slice a 64 c] w fun e w' => e = .returned (.int .i64 0) ∧ Ref w' (More S w) p n d (ws ++ [⟨i, b⟩]) ∧ Kept S w w' := by
  obtain ⟨i5, hi5, hz50, hz51, hz52⟩ := info_parts info5
  obtain ⟨i85, hi85, hz850, hz851, hz852⟩ := info_parts info85
  have c1 : ¬ (i : Int) < 0 := by omega
  have c2 : ¬ (n : Int) ≤ (i : Int) := by omega
  obtain ⟨ga, oa, rfl, _⟩ := hb.cells (by omega)
  have HBi : Hid (BIn w (some ⟨ga, oa, none⟩) 64 b) := hb
  clear hb
  go_enter Tryd.func54, Tryd.ntmps54
  go_wp2_with fail
  refine (rlen_any h).mono ?_
  rintro e w1 ⟨rfl, rfl⟩
  obtain ⟨g, L, cap, v, vs, h⟩ := h
  have HH : Hid (RD w S p n d ws g L cap v vs) := h
  have s0 := h.cell1
  obtain ⟨pv, cv, rfl, _⟩ := own_slice h.wr
  clear h
  go_wp2
  refine wp_region_noPanic ?_
  refine wp_region_last 14 (fun w' => w'.cell? ⟨p, 1, none⟩ = some (.slice pv ws.length cv)) (by kernel_rfl) ?_
  have hHeld : w.drew.cell? ⟨p, 1, none⟩ = some (.slice pv ws.length cv) := s0
  refine wpAnyL_take (i := 0) (v := ?v0) (by simp; rfl) (by kernel_rfl) (by kernel_rfl) (by kernel_rfl) (by kernel_rfl) (fun _ _ _ h => h) (Or.inl ⟨by rfl, ?y0⟩) hHeld ?r0
  case y0 => intro w hSw; clear hSw; go_simp; with_reducible rfl
  simp only [Act.put, List.setIfInBounds_toArray, List.set_cons_zero, List.set_cons_succ]
  refine wpAnyL_take (i := 1) (v := ?v1) (by simp; rfl) (by kernel_rfl) (by kernel_rfl) (by kernel_rfl) (by kernel_rfl) (fun _ _ _ h => h) (Or.inl ⟨by rfl, ?y1⟩) hHeld ?r1
  case y1 => intro w hSw; clear hSw; go_simp; with_reducible rfl
  simp only [Act.put, List.setIfInBounds_toArray, List.set_cons_zero, List.set_cons_succ]
  refine wpAnyL_take (i := 2) (v := ?v2) (by simp; rfl) (by kernel_rfl) (by kernel_rfl) (by kernel_rfl) (by kernel_rfl) (fun _ _ _ h => h) (Or.inl ⟨by rfl, ?y2⟩) hHeld ?r2
  case y2 => intro w hSw; clear hSw; go_simp; with_reducible rfl
  simp only [Act.put, List.setIfInBounds_toArray, List.set_cons_zero, List.set_cons_succ]
  refine wpAnyL_take (i := 3) (v := ?v3) (by simp; rfl) (by kernel_rfl) (by kernel_rfl) (by kernel_rfl) (by kernel_rfl) (fun _ _ _ h => h) (Or.inl ⟨by rfl, ?y3⟩) hHeld ?r3
  case y3 => intro w hSw; clear hSw; go_simp; with_reducible rfl
  simp only [Act.put, List.setIfInBounds_toArray, List.set_cons_zero, List.set_cons_succ]
  refine wpAnyL_take (i := 4) (v := ?v4) (by simp; rfl) (by kernel_rfl) (by kernel_rfl) (by kernel_rfl) (by kernel_rfl) (fun _ _ _ h => h) (Or.inl ⟨by rfl, ?y4⟩) hHeld ?r4
  case y4 => intro w hSw; go_simp; with_reducible rfl
  simp only [Act.put, List.setIfInBounds_toArray, List.set_cons_zero, List.set_cons_succ]
  refine wpAnyL_take (i := 5) (v := ?v5) (by simp; rfl) (by kernel_rfl) (by kernel_rfl) (by kernel_rfl) (by kernel_rfl) (fun _ _ _ h => h) (Or.inl ⟨by rfl, ?y5⟩) hHeld ?r5
  case y5 => intro w hSw; clear hSw; go_simp; with_reducible rfl
  simp only [Act.put, List.setIfInBounds_toArray, List.set_cons_zero, List.set_cons_succ]
  refine wpAnyL_take (i := 7) (v := ?v7) (by simp; rfl) (by kernel_rfl) (by kernel_rfl) (by kernel_rfl) (by kernel_rfl) (fun _ _ _ h => h) (Or.inl ⟨by rfl, ?y7⟩) hHeld ?r7
  case y7 => intro w hSw; clear hSw; go_simp; with_reducible rfl
  simp only [Act.put, List.setIfInBounds_toArray, List.set_cons_zero, List.set_cons_succ]
  refine wpAnyL_ready (rs := [6]) (by kernel_rfl) (by simp) ?_
  refine AllReadyL.cons (by simp; rfl) (fun K hK => ?_) AllReadyL.nil
  go_simp
  have hH6 : (w.alloc (.cells #[] 5)).drew.cell? ⟨p, 1, none⟩ = some (.slice pv ws.length cv) := (HH.out.later (below_alloc w _)).cell1
  refine hK.out _ _ (fun _ => hH6) ?_
  clear hK K hHeld
  have hHeld := hH6
  refine wpAnyL_ready (rs := [8]) (by kernel_rfl) (by simp) ?_
  refine AllReadyL.cons (by simp; rfl) (fun K hK => ?_) AllReadyL.nil
  refine step_append_lies _ rfl (.tmp 24) (.tmp 25) 24 rfl w.heap.size 5 i5 (.int .u8 0) 1 1 Tryd.underlying24 hi5 hz50 hz51 hz52 rfl (by omega) _ 0 [] rfl (World.ownsRow_made w #[] 0 (Nat.le_refl _) (Nat.zero_le _) rfl) ⟨ga, oa, none⟩ 64 c (U8 b) rfl (by rw [U8_length]; exact HBi.out.len) ((HBi.out.later (below_alloc w _)).news) (ones_u8 _) (by omega) (by unfold maxLen; omega) (by omega) (by simp) _ rfl ?_
  intro g2 cap2 w2 hown2 hgrow2 hat2 hlt2
  simp only [Nat.zero_add, List.nil_append] at hown2 ⊢
  have hb2 : Below w.heap.size w w2 := ((Below.refl _ w).alloc (Nat.le_refl _) (.cells #[] 5)).trans ⟨hgrow2.os, hgrow2.tape, hgrow2.output, hgrow2.size, fun k hk => hgrow2.block k (Nat.lt_of_lt_of_le hk (by show _ ≤ (w.alloc _).heap.size; simp)) (fun e => by have e' : k = w.heap.size := Option.some.inj e; omega)⟩
  have hH8 := (HH.out.later hb2).cell1
  refine hK.out _ _ (fun _ => hH8) ?_
  clear hK K hHeld hH6 hgrow2 hat2 hlt2
  have hHeld := hH8
  simp only [Act.put, List.setIfInBounds_toArray, List.set_cons_zero, List.set_cons_succ]
  refine wpAnyL_take (i := 9) (v := ?v9) (by simp; rfl) (by kernel_rfl) (by kernel_rfl) (by kernel_rfl) (by kernel_rfl) (fun _ _ _ h => h) (Or.inl ⟨by rfl, ?y9⟩) hHeld ?r9
  case y9 => intro w hSw; clear hSw; go_simp; with_reducible rfl
  simp only [Act.put, List.setIfInBounds_toArray, List.set_cons_zero, List.set_cons_succ]
  refine wpAnyL_ready (rs := [10]) (by kernel_rfl) (by simp) ?_
  refine AllReadyL.cons (by simp; rfl) (fun K hK => ?_) AllReadyL.nil
  go_simp
  have hb3 : Below w.heap.size w (w2.alloc (.cells #[.int .i64 (i : Int), .slice (some ⟨g2, 0, none⟩) 64 cap2] 113)) := hb2.alloc hb2.size _
  have hHA := (HH.out.later hb3).cell1
  refine hK.out _ _ (fun _ => hHA) ?_
  clear hK K hHeld hH8
  have hHeld := hHA
  refine wpAnyL_ready (rs := [11]) (by kernel_rfl) (by simp) ?_
  refine AllReadyL.cons (by simp; rfl) (fun K hK => ?_) AllReadyL.nil
  have hz2 := hb2.size
  refine step_append_lies _ rfl (.tmp 22) (.tmp 28) 110 rfl 0 113 i85 (.agg #[.int .i64 0, .slice none 0 0]) 2 32 Tryd.underlying110 hi85 hz850 hz851 hz852 rfl (by omega) _ ws.length (RC ws vs) rfl (HH.out.later hb3).wr ⟨w2.heap.size, 0, none⟩ 1 1 [.int .i64 (i : Int), .slice (some ⟨g2, 0, none⟩) 64 cap2] rfl rfl ?_ (by simp [Value.oneCell']) (by omega) (by unfold maxLen; omega) (by omega) (Nat.zero_le _) _ rfl ?_
  · intro j u hu
    have e := new_range w2 [.int .i64 (i : Int), .slice (some ⟨g2, 0, none⟩) 64 cap2] 113 j u hu
    rw [Addr.add_mid]
    exact e
  intro g4 cap4 w4 hown4 hgrow4 hat4 hlt4
  obtain ⟨f1, f2, f3, f4⟩ := rwrite_fin HH.out hb3 (hown2.alloc _) hown4 hgrow4 (or_map hat4 id (fun e => by rw [e]; simp; omega)) hi HBi.out.len HBi.out.byte
  refine hK.out _ _ (fun _ => f1) ?_
  clear hK K hHeld hHA hgrow4 hat4 hlt4 hown4
  have HF : Hid (Ref (w4.setCell ⟨p, 1, none⟩ (.slice (some ⟨g4, 0, none⟩) (ws.length + 1) cap4)) (More S w) p n d (ws ++ [⟨i, b⟩]) ∧ Kept S w (w4.setCell ⟨p, 1, none⟩ (.slice (some ⟨g4, 0, none⟩) (ws.length + 1) cap4))) := ⟨f3, f4⟩
  clear f3 f4
  have hHeld := f1
  simp only [Act.put, List.setIfInBounds_toArray, List.set_cons_zero, List.set_cons_succ]
  refine wpAnyL_ready (rs := [12]) (by kernel_rfl) (by simp) ?_
  refine AllReadyL.cons (by simp; rfl) (fun K hK => ?_) AllReadyL.nil
  go_simp
  refine hK.out _ _ (fun _ => f1) ?_
  clear hK K
  refine wpAnyL_ready (rs := [13]) (by kernel_rfl) (by simp) ?_
  refine AllReadyL.cons (by simp; rfl) (fun K hK => ?_) AllReadyL.nil
  go_simp
  refine hK.out _ _ (fun _ => f1) ?_
  clear hK K
  refine wpAnyL_ready (rs := [14]) (by kernel_rfl) (by simp) ?_
  refine AllReadyL.cons (by simp; rfl) (fun K hK => ?_) AllReadyL.nil
  go_simp
  refine hK.out _ _ (fun h => absurd rfl h) ?_
  clear hK K
  refine wpAnyL_done (by kernel_rfl) (NoPanic.normal ?_) _
  clear f1 f2 hHeld
  go_wp2
  go_ret
  exact ⟨rfl, HF.out.1, HF.out.2⟩
end Go.Proofs.YtpenddnmmfpdjaaDoor
