/-
  Layer 14: Drop.
-/
import Derived.Test.YtkffmglcllhbmaaKg
namespace Go.Proofs.Ytkffmglcllhbmaa
open Go.RowKit


section
variable {w : World} {F : Ft} {n : Nat} {a : Lk}
set_option maxHeartbeats 2000000 in
set_option maxRecDepth 100000 in
theorem dropL_nil (w : World) (t : Int) : Calls Try.prog 20 #[nilq, .int .u64 t] w fun e w' => e = .returned (.tuple #[.int .i64 0, .int .i64 1]) ∧ Below w.heap.size w w' := by
  go_enter Try.func20, Try.ntmps20
  go_wp2_with (go_at_call 35; refine (claimOf_nil w t).mono ?_; rintro e w1 ⟨rfl, h2⟩; have H1 : Hid (Below w.heap.size w w1) := h2; clear h2)
  go_ret2
  exact ⟨rfl, below_then H1.out (below_alloc _ _)⟩
set_option maxHeartbeats 2000000 in
set_option maxRecDepth 100000 in
theorem dropL_out (h : PL w F n a) {t : Int} (ht : U64 t) (hin : isIn a.L t = false) : Calls Try.prog 20 #[qp F.Q, .int .u64 t] w fun e w' => e = .returned (.tuple #[.int .i64 0, .int .i64 110]) ∧ Below w.heap.size w w' := by
  have HIN : Hid (isIn a.L t = false) := hin
  go_enter Try.func20, Try.ntmps20
  go_wp2_with (go_at_call 35; refine (claimOf_at h ht).mono ?_; rintro e w1 ⟨p, c, rfl, h1, hg, h2⟩; obtain ⟨p', c', e', hI, hkc, hp0⟩ := h1.read; simp only [Value.slice.injEq] at e'; obtain ⟨rfl, _, rfl⟩ := e'; have H1 : Hid (B.IIn w1 p (ent a.L t).s.length (ent a.L t).s ∧ Below w.heap.size w w1 ∧ Frm w1 (.slice p (ent a.L t).s.length c) (ent a.L t).s ∧ (∀ g, blk (.slice p (ent a.L t).s.length c) = some g → F.G g)) := ⟨hI, h2, h1, hg⟩; have H : Hid (PL w F n a) := h; clear h1 h2 h hI hg hkc hp0; rw [HIN.out])
  go_ret2
  exact ⟨rfl, below_then H1.out.2.1 (below_alloc _ _)⟩

/-- what the queues hold when k of the set are through -/
def drpQ (L : List En) (t : Int) (s : List Int) (k : Nat) (i : Nat) : List Int := if (i : Int) ∈ s.take k then (qS L i).erase t else qS L i
theorem drpQ_step {L : List En} {t : Int} {s : List Int} {k i : Nat} (hk : k < s.length) (hs : s.Pairwise (· < ·)) (hi : s.getD k 0 = (i : Int)) : (drpQ L t s k i = qS L i) ∧ ∀ j, drpQ L t s (k + 1) j = upd (drpQ L t s k) i ((qS L i).erase t) j := by
  have hg : s[k] = (i : Int) := by rw [← hi]; simp [List.getD, hk]
  have hn : (i : Int) ∉ s.take k := fun hm => by
    obtain ⟨j, hj, e⟩ := List.getElem_of_mem hm
    have hj2 : j < k ∧ j < s.length := by simp at hj; omega
    rw [List.getElem_take] at e
    have := (List.pairwise_iff_getElem.1 hs) j k hj2.2 hk hj2.1
    omega
  refine ⟨if_neg hn, fun j => ?_⟩
  unfold drpQ
  rw [List.take_succ_eq_append_getElem hk, hg]
  by_cases e : j = i
  · subst e
    rw [upd_same, if_pos (by simp)]
  · rw [upd_other _ _ e]
    have : ((j : Int) ∈ s.take k ++ [(i : Int)]) ↔ (j : Int) ∈ s.take k := by
      simp only [List.mem_append, List.mem_singleton]
      exact ⟨fun h => h.elim id (fun e2 => absurd (by omega) e), .inl⟩
    simp only [this]
theorem drpQ_zero {L : List En} {t : Int} {s : List Int} (i : Nat) : drpQ L t s 0 i = qS L i := by simp [drpQ]
theorem drpQ_all {a : Lk} (h : Ok a) {t : Int} (hin : isIn a.L t = true) (i : Nat) : drpQ a.L t (ent a.L t).s (ent a.L t).s.length i = qS (drpL a.L t) i := by
  rw [qS_drp]
  have hnd : (qS a.L i).Nodup := nd_of (h.qrise i)
  rw [← hnd.erase_eq_filter t]
  unfold drpQ
  rw [List.take_length]
  split
  · rfl
  · rename_i hn
    refine (List.erase_of_not_mem fun hm => hn ?_).symm
    obtain ⟨e, he, hb, het⟩ := qS_mem.1 hm
    have h1 := isIn_ent hin
    rw [← one_of h.rise he h1.2.1 (by rw [het, h1.2.2])]
    exact hb
theorem PL.dropped {w4 w5 w6 : World} {F5 : Ft} {M : Nat → Int} {t : Int} {v6 : Value} (h : PL w F n a) (hT : Trn w F a.bl w4 F5 (fun i => qS (drpL a.L t) i) M (tix a.L) a.last) (hM : ∀ i, i < a.bl → M i ≤ a.last)
    (hm5 : VMp w5 F.mb n (fun u => if u = t then none else F.m u)) (hk5 : Kept (· = F.mb) w4 w5) (q1 : QAt 101 w6 F5.th v6 ((tix a.L).erase t) a.last) (q2 : blk v6 = blk F5.tv) (q3 : Kept (fun b => b = F5.th ∨ blk F5.tv = some b) w5 w6) :
    PL w6 { F5 with tv := v6, m := fun u => if u = t then none else F.m u } n (drpS a t) ∧ Kept (F.has a.bl) w w6 ∧ Grw w w6 a.bl F { F5 with tv := v6, m := fun u => if u = t then none else F.m u } := by
  have hc4 := hT.cm h
  have km4 : kd w4 F.mb = 100000 := kd_map hc4.mp.typ
  have hi4 : ∀ g, kd w4 g = 3 → ¬ g = F.mb := fun g hg e => by rw [e, km4] at hg; cases hg
  have hQ5 := hT.pq.mapped hk5 km4
  have km5 : kd w5 F.mb = 100000 := kd_map hm5.typ
  have hQ6 := hQ5.turnT q3 q1 (fun g hg => .inl (by rw [← q2]; exact hg))
  have kk : Kept (F.has a.bl) w w6 := ((hT.kept.wider (T := F.has a.bl) (fun x _ e => qset_has e)).trans hk5 (fun x _ e => .inr (.inr (.inr (.inr (.inr (.inr e))))))).trans q3 (fun x hx e => by
    have hb : F5.qset a.bl x := by
      rcases e with e | e
      · exact .inr (.inr (.inl e))
      · exact .inr (.inr (.inr e))
    rcases hT.fro.qset hb with e | e
    · exact qset_has e
    · omega)
  have nq : ∀ g k, kd w5 g = k → k ≠ 101 → k ≠ 30 → ¬ (g = F5.th ∨ blk F5.tv = some g) := fun g k hk h1 h2 e => hQ5.noq hk h1 h2 (by
    rcases e with e | e
    · exact .inr (.inr (.inl e))
    · exact .inr (.inr (.inr e)))
  have hnd : (tix a.L).Nodup := nd_of h.ok.rise
  have hfrm : ∀ {v f}, Frm w4 v f → Frm w6 v f := fun {v f} hf => (hf.far hk5 (fun g _ hg => hi4 g hg)).far q3 (fun g _ hg => nq g 3 hg (by decide) (by decide))
  refine ⟨⟨hQ6.st, hQ6.qs, fun i hi => ⟨M i, hM i hi, hQ6.lq i hi⟩, ?_, ⟨?_, fun u hu hin => ?_, fun e he => ?_⟩, h.ok.drpS t, ?_, hQ6.qq, hQ6.qt, hQ6.vv, hQ6.vt⟩, kk, ⟨hT.fro.Q, fun b hb => ?_, fun b hb => by rw [show F5.G = F.G from hT.fro.G] at hb; exact .inl hb⟩⟩
  · show QAt _ _ _ _ (tix (drpL a.L t)) a.last
    rw [tix_drp, ← hnd.erase_eq_filter t]; exact hQ6.lt'
  · show VMp w6 F5.mb n _
    rw [hT.fro.mb]
    exact hm5.kept (q3.block _ hm5.lt (nq _ _ km5 (by decide) (by decide)))
  · show (if u = t then none else F.m u) = none
    by_cases e : u = t
    · exact if_pos e
    · rw [if_neg e]
      refine hc4.out u hu ?_
      have : fnd (drpL a.L t) u = fnd a.L u := by rw [fnd_drp, if_neg e]
      unfold isIn at hin ⊢
      rw [← this]; exact hin
  · have he2 : e ∈ a.L ∧ e.t ≠ t := by have := he; simpa [drpS, drpL] using this
    obtain ⟨p, c, e1, e2, e3⟩ := hc4.ins e he2.1
    refine ⟨p, c, ?_, hfrm e2, fun g hg => ?_⟩
    · show (if e.t = t then none else F.m e.t) = _
      rw [if_neg he2.2]; exact e1
    · show F5.G g
      rw [hT.fro.G]; exact e3 g hg
  · have h1 : (drpL a.L t).length ≤ a.L.length := List.length_filter_le _ _
    have := h.len
    show (drpL a.L t).length ≤ n
    omega
  · refine hT.fro.has (b := b) ?_
    rcases hb with e | e | e | e | e | e | e
    · exact .inl e
    · exact .inr (.inl e)
    · exact .inr (.inr (.inl e))
    · exact .inr (.inr (.inr (.inl e)))
    · exact .inr (.inr (.inr (.inr (.inl e))))
    · exact .inr (.inr (.inr (.inr (.inr (.inl (by rw [← q2]; exact e))))))
    · exact .inr (.inr (.inr (.inr (.inr (.inr e)))))
set_option maxHeartbeats 2000000 in
set_option maxRecDepth 100000 in
theorem dropL_in (h : PL w F n a) (hn : n ≤ 10000) {t : Int} (ht : U64 t) (hin : isIn a.L t = true) : Calls Try.prog 20 #[qp F.Q, .int .u64 t] w fun e w' => e = .returned (.tuple #[.int .i64 (ent a.L t).d, .int .i64 0]) ∧ ∃ F', PL w' F' n (drpS a t) ∧ Kept (F.has a.bl) w w' ∧ Grw w w' a.bl F F' := by
  have HIN : Hid (isIn a.L t = true) := hin
  have hl := ent_len h.ok t
  have HU := ent_up h.ok t
  have HR := ent_rng h.ok t
  have HU : Hid ((ent a.L t).s.Pairwise (· < ·)) := HU
  have HR : Hid (∀ b ∈ (ent a.L t).s, 0 ≤ b ∧ b < a.bl) := HR
  have HTI : Hid (t ∈ tix a.L) := isIn_iff.1 hin
  have hlen : (tix a.L).length ≤ n := by have := h.len; simpa [tix] using this
  go_enter Try.func20, Try.ntmps20
  go_wp2_with (go_at_call 35; refine (claimOf_at h ht).mono ?_; rintro e w1 ⟨p, c, rfl, h1, hg, h2⟩; obtain ⟨p', c', e', hI, hkc, hp0⟩ := h1.read; simp only [Value.slice.injEq] at e'; obtain ⟨rfl, _, rfl⟩ := e'; have H1 : Hid (B.IIn w1 p (ent a.L t).s.length (ent a.L t).s ∧ Below w.heap.size w w1 ∧ Frm w1 (.slice p (ent a.L t).s.length c) (ent a.L t).s ∧ (∀ g, blk (.slice p (ent a.L t).s.length c) = some g → F.G g)) := ⟨hI, h2, h1, hg⟩; have H : Hid (PL w F n a) := h; clear h1 h2 h hI hg hkc hp0; rw [HIN.out])
  have HG0 : Hid ((w1.alloc (.cells #[.slice p (ent a.L t).s.length c, .int .i64 (ent a.L t).d] 75)).heap[w1.heap.size]? = some (.cells #[.slice p (ent a.L t).s.length c, .int .i64 (ent a.L t).d] 75 (0, 0))) := heap_alloc_new w1 _
  have HBw : Hid (Below w.heap.size w (w1.alloc (.cells #[.slice p (ent a.L t).s.length c, .int .i64 (ent a.L t).d] 75)) ∧ w.heap.size ≤ w1.heap.size) := ⟨below_then H1.out.2.1 (below_alloc _ _), H1.out.2.1.size⟩
  have HFr : Hid (Frm (w1.alloc (.cells #[.slice p (ent a.L t).s.length c, .int .i64 (ent a.L t).d] 75)) (.slice p (ent a.L t).s.length c) (ent a.L t).s) := H1.out.2.2.1.later (below_alloc _ _)
  have HT0 : Hid (∃ M, Trn w F a.bl (w1.alloc (.cells #[.slice p (ent a.L t).s.length c, .int .i64 (ent a.L t).d] 75)) F (drpQ a.L t (ent a.L t).s 0) M (tix a.L) a.last ∧ ∀ i, i < a.bl → M i ≤ a.last) := by
    obtain ⟨M, hM, hT⟩ := H.out.trn
    exact ⟨M, (hT.later HBw.out.1).congr (fun i _ => drpQ_zero i), hM⟩
  have hgs : w1.heap.size < (w1.alloc (.cells #[.slice p (ent a.L t).s.length c, .int .i64 (ent a.L t).d] 75)).heap.size := by simp
  clear H1
  generalize w1.alloc (.cells #[.slice p (ent a.L t).s.length c, .int .i64 (ent a.L t).d] 75) = W2 at *
  generalize w1.heap.size = g at *
  go_loopw [25] (fun i wr => ∃ k : Nat, k ≤ (ent a.L t).s.length ∧ i = .int .i64 k ∧ Hid (∃ F' M, Trn w F a.bl wr F' (drpQ a.L t (ent a.L t).s k) M (tix a.L) a.last ∧ ∀ i, i < a.bl → M i ≤ a.last) ∧ Hid (wr.heap[g]? = some (.cells #[.slice p (ent a.L t).s.length c, .int .i64 (ent a.L t).d] 75 (0, 0)) ∧ Frm wr (.slice p (ent a.L t).s.length c) (ent a.L t).s)) (fun i _ => (ent a.L t).s.length - (intOf i).toNat)
  case atStart =>
    obtain ⟨M, h1, h2⟩ := HT0.out
    exact ⟨0, Nat.zero_le _, rfl, ⟨_, M, h1, h2⟩, HG0.out, HFr.out⟩
  case round =>
    obtain ⟨k, hk2, rfl, HW, HS⟩ := hrel
    clear HT0 HG0 HFr
    by_cases hlt : k < (ent a.L t).s.length
    · obtain ⟨F', M', hT, hM⟩ := HW.out
      have hmem : (ent a.L t).s.getD k 0 ∈ (ent a.L t).s := by rw [List.getD, List.getElem?_eq_getElem hlt]; exact List.getElem_mem hlt
      have hrk := HR.out _ hmem
      obtain ⟨i, hi⟩ : ∃ i : Nat, (ent a.L t).s.getD k 0 = (i : Int) := ⟨((ent a.L t).s.getD k 0).toNat, by omega⟩
      have hib : i < a.bl := by omega
      obtain ⟨hQ1, hQ2⟩ := drpQ_step (L := a.L) (t := t) hlt HU.out hi
      have HTQ : Hid (t ∈ qS a.L i) := qS_mem.2 ⟨_, (isIn_ent HIN.out).2.1, by rw [← hi]; exact hmem, (isIn_ent HIN.out).2.2⟩
      obtain ⟨p', c', e', hI, _, _⟩ := HS.out.2.read
      simp only [Value.slice.injEq, true_and] at e'
      obtain ⟨rfl, rfl⟩ := e'
      obtain ⟨b', o', e', hcs⟩ := hI.cells (by omega)
      subst e'
      have cs : wr.cell? ⟨b', o' + k, none⟩ = some (.int .i64 (i : Int)) := by rw [hcs k hlt, hi]
      have d0 : wr.cell? ⟨F.Q, 0, none⟩ = some (.slice (some ⟨F.qb, 0, none⟩) a.bl a.bl) := by
        have := cell_of_row _ F'.Q 0 _ 83 (0, 0) hT.pq.st
        rw [hT.fro.Q] at this
        rw [this]; simp [kcells, hT.fro.qb]
      have d1 : wr.cell? ⟨F.qb, i, none⟩ = some (qp (F'.q i)) := by
        have := cell_of_row _ F'.qb i _ 80 (0, 0) hT.pq.qs
        rw [hT.fro.qb] at this
        rw [this]; simp [qrow, hib]
      have HQ : Hid (QAt 101 wr (F'.q i) (F'.v i) (qS a.L i) (M' i)) := by have := hT.pq.lq i hib; rw [hQ1] at this; exact this
      have hql : (qS a.L i).length ≤ n := H.out.qlen i
      have HT : Hid (Trn w F a.bl wr F' (drpQ a.L t (ent a.L t).s k) M' (tix a.L) a.last ∧ ∀ i, i < a.bl → M' i ≤ a.last) := ⟨hT, hM⟩
      have HQ2 : Hid (∀ j, drpQ a.L t (ent a.L t).s (k + 1) j = upd (drpQ a.L t (ent a.L t).s k) i ((qS a.L i).erase t) j) := hQ2
      clear hT hM hcs hQ1 hQ2 hrk hi HW hmem hI
      have i4 : (i : Int) < (a.bl : Int) := by omega
      have HNG : Hid (∀ b kk, kd wr b = kk → kk ≠ 101 → kk ≠ 30 → ¬ (b = F'.q i ∨ blk (F'.v i) = some b)) := fun b kk hk h1 h2 e => HT.out.1.pq.noq hk h1 h2 (by rcases e with e | e; exact .inl ⟨i, hib, e⟩; exact .inr (.inl ⟨i, hib, e⟩))
      go_wp2_with (go_at_call 40; refine (drop_in HQ.out t HTQ.out (by omega)).mono ?_; rintro e w3 ⟨rfl, v3, q1, q2, q3⟩; have HT3 : Hid (Trn w F a.bl w3 { F' with v := upd F'.v i v3 } (drpQ a.L t (ent a.L t).s (k + 1)) (upd M' i (M' i)) (tix a.L) a.last) := (HT.out.1.put hib q3 q1 (fun g hg => .inl (by rw [← q2]; exact hg))).congr (fun j _ => HQ2.out j); have HS3 : Hid (w3.heap[g]? = some (.cells #[.slice (some ⟨b', o', none⟩) (ent a.L t).s.length c, .int .i64 (ent a.L t).d] 75 (0, 0)) ∧ Frm w3 (.slice (some ⟨b', o', none⟩) (ent a.L t).s.length c) (ent a.L t).s) := ⟨(q3.block g (Array.getElem?_eq_some_iff.1 HS.out.1).1 (HNG.out _ _ (kd_cells HS.out.1) (by decide) (by decide))).trans HS.out.1, HS.out.2.far q3 (fun g' _ h3 => HNG.out _ _ h3 (by decide) (by decide))⟩; clear q1 q2 q3)
      go_roundw
      case rel =>
        refine ⟨k + 1, by omega, by go_num, ⟨_, _, HT3.out, fun j hj => ?_⟩, HS3.out⟩
        by_cases e : j = i
        · subst e; rw [upd_same]; exact HT.out.2 j hj
        · rw [upd_other _ _ e]; exact HT.out.2 j hj
      case measure => simp [intOf]; omega
    · obtain rfl : k = (ent a.L t).s.length := by omega
      obtain ⟨F5, M', hT0, hM⟩ := HW.out
      have hT := hT0.congr (f' := fun i => qS (drpL a.L t) i) (fun i _ => (drpQ_all H.out.ok HIN.out i).symm)
      have HT : Hid (Trn w F a.bl wr F5 (fun i => qS (drpL a.L t) i) M' (tix a.L) a.last ∧ ∀ i, i < a.bl → M' i ≤ a.last) := ⟨hT, hM⟩
      have d2 : wr.cell? ⟨F.Q, 2, none⟩ = some (.map (some F.mb)) := by
        have := cell_of_row _ F5.Q 2 _ 83 (0, 0) hT.pq.st
        rw [hT.fro.Q] at this
        rw [this]; simp [kcells, hT.fro.mb]
      have d1 : wr.cell? ⟨F.Q, 1, none⟩ = some (qp F.th) := by
        have := cell_of_row _ F5.Q 1 _ 83 (0, 0) hT.pq.st
        rw [hT.fro.Q] at this
        rw [this]; simp [kcells, hT.fro.th]
      have HV : Hid (VMp wr F.mb n F.m) := (hT.cm H.out).mp
      have kQ : kd wr F.Q = 83 := by have := kd_cells hT.pq.st; rw [hT.fro.Q] at this; exact this
      have HQm : Hid (F.Q ≠ F.mb) := ne_kd kQ (kd_map HV.out.typ) (by decide)
      have Hgm : Hid (g ≠ F.mb) := ne_kd (kd_cells HS.out.1) (kd_map HV.out.typ) (by decide)
      have HD1 : Hid (wr.cell? ⟨F.Q, 1, none⟩ = some (qp F.th) ∧ F.Q < wr.heap.size ∧ g < wr.heap.size ∧ kd wr F.Q = 83) := ⟨d1, World.block_lt_of_cell? wr _ d1, (Array.getElem?_eq_some_iff.1 HS.out.1).1, kQ⟩
      clear hT0 hT hM d1 HW kQ
      go_wp2_with (at_delete; refine wpList_delete_v rfl (.tmp 42) (.tmp 43) rfl F.m rfl HV.out t ht rfl ?_; intro w5 hm5 hk5; have H5 : Hid (VMp w5 F.mb n (fun u => if u = t then none else F.m u) ∧ Kept (· = F.mb) wr w5) := ⟨hm5, hk5⟩; clear hm5 hk5)
      have HTH : Hid (QAt 101 w5.drew F5.th F5.tv (tix a.L) a.last) := ((HT.out.1.pq.mapped H5.out.2 (kd_map HV.out.typ)).lt').later (below_drawn 1)
      have e1 : w5.drew.cell? ⟨F.Q, 1, none⟩ = some (qp F.th) := (World.cell?_of_block (w := wr) (a := ⟨F.Q, 1, none⟩) (H5.out.2.block _ HD1.out.2.1 HQm.out)).trans HD1.out.1
      have st5 : w5.heap[g]? = some (.cells #[.slice p (ent a.L t).s.length c, .int .i64 (ent a.L t).d] 75 (0, 0)) := (H5.out.2.block g HD1.out.2.2.1 Hgm.out).trans HS.out.1
      have e2 : w5.drew.cell? ⟨g, 1, none⟩ = some (.int .i64 (ent a.L t).d) := by have := cell_of_row _ g 1 _ 75 (0, 0) st5; exact this
      have HNG : Hid (∀ b kk, kd w5 b = kk → kk ≠ 101 → kk ≠ 30 → ¬ (b = F5.th ∨ blk F5.tv = some b)) := fun b kk hk h1 h2 e => (HT.out.1.pq.mapped H5.out.2 (kd_map HV.out.typ)).noq hk h1 h2 (by rcases e with e | e; exact .inr (.inr (.inl e)); exact .inr (.inr (.inr e)))
      have HQn : Hid (¬ (F.Q = F5.th ∨ blk F5.tv = some F.Q)) := HNG.out _ _ ((kd_eq (H5.out.2.block _ HD1.out.2.1 HQm.out)).trans HD1.out.2.2.2) (by decide) (by decide)
      have Hgn : Hid (¬ (g = F5.th ∨ blk F5.tv = some g)) := HNG.out _ _ (kd_cells st5) (by decide) (by decide)
      have HFIN : Hid (∀ w6 v6, QAt 101 w6 F5.th v6 ((tix a.L).erase t) a.last → blk v6 = blk F5.tv → Kept (fun b => b = F5.th ∨ blk F5.tv = some b) w5.drew w6 → PL w6 { F5 with tv := v6, m := fun u => if u = t then none else F.m u } n (drpS a t) ∧ Kept (F.has a.bl) w w6 ∧ Grw w w6 a.bl F { F5 with tv := v6, m := fun u => if u = t then none else F.m u }) := fun w6 v6 q1 q2 q3 => H.out.dropped HT.out.1 HT.out.2 (H5.out.1.kept (w' := w5.drew) rfl) ((H5.out.2).trans (Kept.of_below (fun _ => False) (below_drawn 1)) (fun _ _ e => e.elim)) q1 q2 q3
      have hth : F5.th = F.th := HT.out.1.fro.th
      rw [← hth] at e1
      clear HT HS HV HQm Hgm HD1 H5 HNG st5 HU HR HIN H HBw hth
      go_wp2_with fail
      refine wp_region_noPanic ?_
      refine wp_region_held_drew (S := fun w' => w'.cell? ⟨F.Q, 1, none⟩ = some (qp F5.th) ∧ w'.cell? ⟨g, 1, none⟩ = some (.int .i64 (ent a.L t).d)) (by kernel_rfl) ⟨e1, e2⟩ (fun hHeld => ?_)
      clear e1 e2
      generalize w5.drew = wd at *
      refine wpAnyH_take (i := 0) (v := ?va1) (by simp; rfl) (by kernel_rfl) (by kernel_rfl) (by kernel_rfl) (fun _ _ _ h => h) (Or.inl ⟨by rfl, ?ya1⟩) hHeld ?ra1
      case ya1 => intro w hSw; clear hSw; go_simp; with_reducible rfl
      simp only [Act.put, List.setIfInBounds_toArray, List.set_cons_zero, List.set_cons_succ]
      refine wpAnyH_take (i := 1) (v := ?va2) (by simp; rfl) (by kernel_rfl) (by kernel_rfl) (by kernel_rfl) (fun _ _ _ h => h) (Or.inl ⟨by rfl, ?ya2⟩) hHeld ?ra2
      case ya2 => intro w hSw; have z := hSw.2; clear hSw; go_simp; with_reducible rfl
      simp only [Act.put, List.setIfInBounds_toArray, List.set_cons_zero, List.set_cons_succ]
      refine wpAnyH_take (i := 2) (v := ?va3) (by simp; rfl) (by kernel_rfl) (by kernel_rfl) (by kernel_rfl) (fun _ _ _ h => h) (Or.inl ⟨by rfl, ?ya3⟩) hHeld ?ra3
      case ya3 => intro w hSw; clear hSw; go_simp; with_reducible rfl
      simp only [Act.put, List.setIfInBounds_toArray, List.set_cons_zero, List.set_cons_succ]
      refine wpAnyH_take (i := 3) (v := ?va4) (by simp; rfl) (by kernel_rfl) (by kernel_rfl) (by kernel_rfl) (fun _ _ _ h => h) (Or.inl ⟨by rfl, ?ya4⟩) hHeld ?ra4
      case ya4 => intro w hSw; clear hSw; go_simp; with_reducible rfl
      simp only [Act.put, List.setIfInBounds_toArray, List.set_cons_zero, List.set_cons_succ]
      refine wpAnyH_take (i := 4) (v := ?va5) (by simp; rfl) (by kernel_rfl) (by kernel_rfl) (by kernel_rfl) (fun _ _ _ h => h) (Or.inl ⟨by rfl, ?ya5⟩) hHeld ?ra5
      case ya5 => intro w hSw; clear hSw; go_simp; with_reducible rfl
      simp only [Act.put, List.setIfInBounds_toArray, List.set_cons_zero, List.set_cons_succ]
      refine wpAnyH_take (i := 5) (v := ?va6) (by simp; rfl) (by kernel_rfl) (by kernel_rfl) (by kernel_rfl) (fun _ _ _ h => h) (Or.inl ⟨by rfl, ?ya6⟩) hHeld ?ra6
      case ya6 => intro w hSw; have z := hSw.1; clear hSw; go_simp; with_reducible rfl
      simp only [Act.put, List.setIfInBounds_toArray, List.set_cons_zero, List.set_cons_succ]
      refine wpAnyH_take (i := 6) (v := ?va7) (by simp; rfl) (by kernel_rfl) (by kernel_rfl) (by kernel_rfl) (fun _ _ _ h => h) (Or.inl ⟨by rfl, ?ya7⟩) hHeld ?ra7
      case ya7 => intro w hSw; clear hSw; go_simp; with_reducible rfl
      simp only [Act.put, List.setIfInBounds_toArray, List.set_cons_zero, List.set_cons_succ]
      refine wpAnyH_ready (rs := [7]) (by kernel_rfl) (by simp) ?_
      refine AllReadyH.cons (by simp; rfl) (fun Kc hKc => ?_) AllReadyH.nil
      go_simp
      refine (drop_in HTH.out t HTI.out (by omega)).mono ?_
      rintro e w6 ⟨rfl, v6, q1, q2, q3⟩
      have HP := HFIN.out w6 v6 q1 q2 q3
      have HP : Hid (PL w6 { F5 with tv := v6, m := fun u => if u = t then none else F.m u } n (drpS a t) ∧ Kept (F.has a.bl) w w6 ∧ Grw w w6 a.bl F { F5 with tv := v6, m := fun u => if u = t then none else F.m u }) := HP
      have C6 : Hid (w6.cell? ⟨F.Q, 1, none⟩ = some (qp F5.th) ∧ w6.cell? ⟨g, 1, none⟩ = some (.int .i64 (ent a.L t).d)) := ⟨(World.cell?_of_block (w := wd) (a := ⟨F.Q, 1, none⟩) (q3.block _ (World.block_lt_of_cell? wd _ hHeld.1) HQn.out)).trans hHeld.1, (World.cell?_of_block (w := wd) (a := ⟨g, 1, none⟩) (q3.block _ (World.block_lt_of_cell? wd _ hHeld.2) Hgn.out)).trans hHeld.2⟩
      clear q1 q2 q3 hHeld HFIN
      refine hKc.out _ _ C6.out (fun hHeld => ?_)
      clear hKc Kc C6
      refine wpAnyH_take (i := 8) (v := ?va8) (by simp; rfl) (by kernel_rfl) (by kernel_rfl) (by kernel_rfl) (fun _ _ _ h => h) (Or.inl ⟨by rfl, ?ya8⟩) hHeld ?ra8
      case ya8 => intro w hSw; clear hSw; go_simp; with_reducible rfl
      simp only [Act.put, List.setIfInBounds_toArray, List.set_cons_zero, List.set_cons_succ]
      refine wpAnyH_take (i := 9) (v := ?va9) (by simp; rfl) (by kernel_rfl) (by kernel_rfl) (by kernel_rfl) (fun _ _ _ h => h) (Or.inl ⟨by rfl, ?ya9⟩) hHeld ?ra9
      case ya9 => intro w hSw; clear hSw; go_simp; with_reducible rfl
      simp only [Act.put, List.setIfInBounds_toArray, List.set_cons_zero, List.set_cons_succ]
      clear hHeld
      refine wpAnyH_done (by kernel_rfl) (NoPanic.normal ?_) _
      go_wp2_with fail
      go_ret2
      exact ⟨rfl, _, HP.out⟩
end

section
variable {w : World} {F : Ft} {n : Nat} {a : Lk}
theorem drp_out {L : List En} {t : Int} (h : isIn L t = false) : drpL L t = L := by
  refine List.filter_eq_self.2 fun e he => ?_
  simp only [bne_iff_ne, ne_eq]
  intro het
  have : isIn L t = true := isIn_iff.2 (mem_tix.2 ⟨e, he, het⟩)
  rw [h] at this; cases this
/-- Drop -/
theorem dropL_at (h : PL w F n a) (hn : n ≤ 10000) {t : Int} (ht : U64 t) : Calls Try.prog 20 #[qp F.Q, .int .u64 t] w fun e w' => e = .returned (.tuple #[.int .i64 (drpN a.L t), .int .i64 (drpE a.L t)]) ∧ ∃ F', PL w' F' n (drpS a t) ∧ Kept (F.has a.bl) w w' ∧ Grw w w' a.bl F F' := by
  cases hin : isIn a.L t with
  | true =>
    have e1 : drpE a.L t = 0 := if_neg (by rw [hin]; simp)
    rw [e1]
    exact dropL_in h hn ht hin
  | false =>
    have e1 : drpE a.L t = 110 := if_pos hin
    have e2 : drpN a.L t = 0 := by unfold drpN; rw [(out_nx hin).2.2.2.1]; rfl
    have e3 : drpS a t = a := by unfold drpS; rw [drp_out hin]
    rw [e1, e2, e3]
    refine (dropL_out h ht hin).mono ?_
    rintro e w' ⟨rfl, hb⟩
    exact ⟨rfl, F, h.later hb, Kept.of_below _ hb, Grw.refl _ _ _ _⟩
end
end Go.Proofs.Ytkffmglcllhbmaa
