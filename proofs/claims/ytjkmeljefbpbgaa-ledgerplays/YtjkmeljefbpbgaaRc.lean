/-
  Layer 12: the document's Reserve, Append.
-/
import Derived.Test.YtjkmeljefbpbgaaRb
namespace Go.Proofs.Ytjkmeljefbpbgaa
open Go.RowKit


section
variable {w0 w w' : World} {R : Nat} {v : Value} {s : Lg} {rec gone : Int} {ps : List Pt} {K : Nat}

theorem three_cells {w : World} {x y z : Value} : ∀ j u, [x, y, z][j]? = some u → (w.alloc (.cells #[x, y, z] 67)).cell? ((⟨w.heap.size, 0, none⟩ : Addr).add j) = some u := by
  intro j u hj
  rw [Go.WideShapes.add_plain, cell_of_row _ w.heap.size (0 + j) _ 67 (0, 0) (heap_alloc_new w _), Nat.zero_add]
  simpa using hj
theorem Mir.rsv (h : Mir s rec gone ps K) {t k : Int} (h1 : ¬ k < 1) (f : fitsS s k = true) (ok : Ok s) : Mir { s with L := s.L ++ [(t, k)] } rec gone (ps ++ [(t, k, 0)]) (K + 1) := by
  have f' : 1 ≤ k ∧ k ≤ s.cap - s.used - total s.L := by simpa [fitsS] using f
  obtain ⟨n1, n2, n3, n4, n5⟩ := ok.nums
  refine ⟨h.used, h.g0, h.gr, by have := h.rk; omega, ?_, fun p hp => ?_, by have := h.len; simp; omega⟩
  · show s.L ++ [(t, k)] = _
    rw [h.L]
    simp [lof]
  · rcases List.mem_append.1 hp with hp | hp
    · exact h.each p hp
    · obtain rfl := List.mem_singleton.1 hp
      show 0 ≤ (0 : Int) ∧ 0 ≤ k ∧ k ≤ 64
      omega
set_option maxHeartbeats 2000000 in
set_option maxRecDepth 100000 in
theorem rreserve_ok (h : RAt w0 w R v s rec gone ps K) (ok : Ok s) (hK : K ≤ 1000) (hb : w0.heap.size ≤ w.heap.size) {t k : Int} (h0 : ¬ t = 0) (h1 : ¬ k < 1) (e : look t s.L = none) (f : fitsS s k = true) :
    Calls Try.prog 22 #[lp R, .int .u64 t, .int .i64 k] w fun e w' => e = .returned (.int .i64 0) ∧ After w0 w w' R v { s with L := s.L ++ [(t, k)] } (K + 1) := by
  have H : Hid (RAt w0 w R v s rec gone ps K) := h
  have HM : Hid (Mir { s with L := s.L ++ [(t, k)] } rec gone (ps ++ [(t, k, 0)]) (K + 1)) := h.mir.rsv h1 f ok
  have hat := rat_at h ok hK t
  rw [atv_none e] at hat
  have hf := rfits_at h ok hK k
  rw [f] at hf
  have h2 : (t == 0) = false := by simpa using h0
  have hl := h.mir.len
  have Hb : Hid (w0.heap.size ≤ w.heap.size) := hb
  clear h ok e f hb
  go_enter Try.func22, Try.ntmps22
  go_wp2_with fail
  refine hat.mono ?_
  rintro e w' ⟨rfl, rfl⟩
  go_wp2_with fail
  refine hf.mono ?_
  rintro e w1 ⟨rfl, hm⟩
  have H1 : Hid (RAt w0 w1 R v s rec gone ps K ∧ Below w'.heap.size w' w1) := by obtain ⟨m, rfl⟩ := hm; exact ⟨H.out.drawn m, below_drawn m⟩
  clear hm hf
  obtain ⟨p, c, ev, _, _⟩ := own_form H1.out.1.row
  have c4 := (lc2 H1.out.1).2.2.2.2.1
  have L1 : Hid (ps.length + 1 ≤ 10000) := by show _ ≤ _; omega
  have L2 : Hid (w0.heap.size ≤ (w1.alloc (.cells #[.int .u64 t, .int .i64 k, .int .i64 0] 67)).heap.size) := by
    have := Hb.out
    have := H1.out.2.size
    show _ ≤ _
    simp
    omega
  subst ev
  go_wp2_with (at_builtin; refine wpList_own rfl (.tmp 28) (.tmp 32) el58 rfl rfl (H1.out.1.row.alloc _) ⟨w1.heap.size, 0, none⟩ 1 1 [.int .u64 t, .int .i64 k, .int .i64 0] rfl rfl three_cells (ones_p [(t, k, 0)]) L1.out L2.out ?_; intro v2 w2 ho hk hv; have H2 : Hid (w2.ownsRow w0.heap.size 67 3 v2 (ps.length + 1) (pcells ps ++ [.int .u64 t, .int .i64 k, .int .i64 0]) ∧ Kept (fun b => (Value.slice p ps.length c).ownBlock = some b) w1 w2 ∧ ∀ g, v2.ownBlock = some g → (Value.slice p ps.length c).ownBlock = some g ∨ w1.heap.size ≤ g) := ⟨ho, (Kept.of_below _ (below_alloc w1 _)).trans hk (fun _ _ e => e), fun g hg => by rcases hv with e | e; exact .inl (e ▸ hg); exact .inr (by rw [e] at hg; simp at hg; omega)⟩; clear ho hk hv; have HS : Hid (w2.heap[R]? = some (.cells #[.int .i64 s.cap, .int .i64 s.mark, .int .i64 rec, .int .i64 gone, .slice p ps.length c] 60 (0, 0))) := (H2.out.2.1.block R H1.out.1.lt H1.out.1.ne).trans H1.out.1.st; have e4 := (five HS.out).2.2.2.2.1; have f4 := (five HS.out).2.2.2.2.2 4; obtain ⟨p2, c2, rfl⟩ := own_shape H2.out.1)
  go_ret
  refine ⟨rfl, .slice p2 (ps.length + 1) c2, rec, gone, ps ++ [(t, k, 0)], ⟨?_, ?_, HM.out⟩, ?_, fun g hg => by
    rcases H2.out.2.2 g hg with hh | hh
    · exact .inl hh
    · exact .inr (by have := H1.out.2.size; omega)⟩
  · rw [st_set 4 _ HS.out]
    rfl
  · rw [pcells_app, List.length_append]
    exact own_far H2.out.1 (Kept.setCell R 4 _) fun g hg e => by
      rcases H2.out.2.2 g hg with h3 | h3
      · exact H1.out.1.ne (e ▸ h3)
      · have := H1.out.1.lt; omega
  · exact ((Kept.of_below (RF R _) H1.out.2).trans H2.out.2.1 fun x _ e => .inr e).trans (Kept.setCell R 4 _) fun x _ e => .inl e
set_option maxHeartbeats 2000000 in
set_option maxRecDepth 100000 in
theorem rreserve_at (h : RAt w0 w R v s rec gone ps K) (ok : Ok s) (hK : K ≤ 1000) (hb : w0.heap.size ≤ w.heap.size) (t k : Int) :
    Calls Try.prog 22 #[lp R, .int .u64 t, .int .i64 k] w fun e w' => e = .returned (.int .i64 (rsvE s t k)) ∧ After w0 w w' R v (rsvS s t k) (K + 1) := by
  have H : Hid (RAt w0 w R v s rec gone ps K) := h
  by_cases h1 : t = 0 ∨ k < 1
  · have e1 := rsvE_in (s := s) h1
    rw [e1, rsvS_not (by rw [e1]; decide)]
    clear h ok
    by_cases h0 : t = 0
    · subst h0
      clear h1
      go_enter Try.func22, Try.ntmps22
      go_wp2
      go_ret
      exact ⟨rfl, After.same H.out (Below.refl _ _)⟩
    · have h3 : k < 1 := by omega
      have h2 : (t == 0) = false := by simpa using h0
      clear h1
      go_enter Try.func22, Try.ntmps22
      go_wp2
      go_ret
      exact ⟨rfl, After.same H.out (Below.refl _ _)⟩
  · have h0 : ¬ t = 0 := fun e => h1 (.inl e)
    have h3 : ¬ k < 1 := fun e => h1 (.inr e)
    have h2 : (t == 0) = false := by simpa using h0
    have hat := rat_at h ok hK t
    cases hl : look t s.L with
    | some x =>
      have e1 := rsvE_has h1 hl
      rw [e1, rsvS_not (by rw [e1]; decide)]
      rw [atv_some hl] at hat
      generalize pos t s.L = pp at *
      clear h ok h1 hl e1
      go_enter Try.func22, Try.ntmps22
      go_wp2_with fail
      refine hat.mono ?_
      rintro e w' ⟨rfl, rfl⟩
      go_wp2
      go_ret
      exact ⟨rfl, After.same H.out (Below.refl _ _)⟩
    | none =>
      cases hf : fitsS s k with
      | false =>
        have e1 := rsvE_room h1 hl hf
        rw [e1, rsvS_not (by rw [e1]; decide)]
        rw [atv_none hl] at hat
        have hfi := rfits_at h ok hK k
        rw [hf] at hfi
        clear h ok h1 hl e1 hf
        go_enter Try.func22, Try.ntmps22
        go_wp2_with fail
        refine hat.mono ?_
        rintro e w' ⟨rfl, rfl⟩
        go_wp2_with fail
        refine hfi.mono ?_
        rintro e w1 ⟨rfl, hm⟩
        have H1 : Hid (Below w'.heap.size w' w1) := by obtain ⟨m, rfl⟩ := hm; exact below_drawn m
        clear hm hfi
        go_wp2
        go_ret
        exact ⟨rfl, After.same H.out H1.out⟩
      | true =>
        have e1 := rsvE_ok h1 hl hf
        rw [e1, rsvS_ok e1]
        exact rreserve_ok h ok hK hb h0 h3 hl hf
theorem pcells_set : ∀ (ps : List Pt) (k : Nat) (hk : k < ps.length) (x : Int), (pcells ps).set (k * 3 + 2) (.int .i64 x) = pcells (ps.set k (ps[k].1, ps[k].2.1, x))
  | [], k, hk, _ => by simp at hk
  | p :: qs, 0, _, x => by simp [pcells]
  | p :: qs, k + 1, hk, x => by
    have ih := pcells_set qs k (by simpa using hk) x
    have e : (k + 1) * 3 + 2 = (k * 3 + 2) + 3 := by omega
    rw [pcells_cons, e]
    simp only [List.set_cons_succ, List.getElem_cons_succ, pcells_cons, ← ih]
    rfl
theorem Mir.app (h : Mir s rec gone ps K) {t x : Int} (e : look t s.L = some x) (hx : ¬ x = 0) (ok : Ok s) (hp : pos t s.L < ps.length) :
    Mir { s with used := s.used + 1, L := set t (x - 1) s.L } (rec + 1) gone (ps.set (pos t s.L) (ps[pos t s.L].1, ps[pos t s.L].2.1, ps[pos t s.L].2.2 + 1)) (K + 1) := by
  obtain ⟨_, e1, e2⟩ := h.at_some e
  have hle := look_le ok.fine e
  have he := h.each _ (List.getElem_mem hp)
  refine ⟨by show s.used + 1 = _; have := h.used; omega, h.g0, by have := h.gr; omega, by have := h.rk; omega, ?_, fun p hp2 => ?_, by have := h.len; simp; omega⟩
  · show set t (x - 1) s.L = _
    rw [set_pos, List.map_set, ← h.L]
    congr 1
    show (t, x - 1) = (ps[pos t s.L].1, ps[pos t s.L].2.1 - (ps[pos t s.L].2.2 + 1))
    rw [e1]
    congr 1
    omega
  · rcases List.mem_or_eq_of_mem_set hp2 with h2 | rfl
    · exact h.each p h2
    · show 0 ≤ ps[pos t s.L].2.2 + 1 ∧ ps[pos t s.L].2.2 + 1 ≤ ps[pos t s.L].2.1 ∧ ps[pos t s.L].2.1 ≤ 64
      omega
set_option maxHeartbeats 2000000 in
set_option maxRecDepth 100000 in
theorem rappend_at (h : RAt w0 w R v s rec gone ps K) (ok : Ok s) (hK : K ≤ 1000) (t : Int) :
    Calls Try.prog 23 #[lp R, .int .u64 t] w fun e w' => e = .returned (.int .i64 (appE s t)) ∧ After w0 w w' R v (appS s t) (K + 1) := by
  have H : Hid (RAt w0 w R v s rec gone ps K) := h
  have hat := rat_at h ok hK t
  cases e : look t s.L with
  | none =>
    have HE : Hid (appE s t = 110 ∧ appS s t = s) := ⟨by simp [appE, e], by simp [appS, e]⟩
    rw [atv_none e] at hat
    clear h ok
    go_enter Try.func23, Try.ntmps23
    go_wp2_with fail
    refine hat.mono ?_
    rintro e w' ⟨rfl, rfl⟩
    go_wp2
    go_ret
    rw [HE.out.1, HE.out.2]
    exact ⟨rfl, After.same H.out (Below.refl _ _)⟩
  | some x =>
    rw [atv_some e] at hat
    obtain ⟨hp, h1, h2⟩ := h.mir.at_some e
    obtain ⟨p, c, rfl, hc, hg⟩ := own_form h.row
    obtain ⟨g, rfl⟩ := hg (by omega)
    have HX : Hid (∀ w', RAt w0 w' R (.slice (some ⟨g, 0, none⟩) ps.length c) s rec gone ps K → w'.cell? ⟨g, pos t s.L * 3 + 1, none⟩ = some (.int .i64 ps[pos t s.L].2.1) ∧ w'.cell? ⟨g, pos t s.L * 3 + 2, none⟩ = some (.int .i64 ps[pos t s.L].2.2)) := fun w' hh => (hh.part hp).2
    obtain ⟨x1, x2⟩ := HX.out w h
    have c4 := (lc2 h).2.2.2.2.1
    have n2 := h.mir.each _ (List.getElem_mem hp)
    have n3 := h.mir.nums
    have i1 : ((pos t s.L : Nat) : Int) < (ps.length : Int) := by omega
    obtain ⟨n21, n22, n23⟩ := n2
    obtain ⟨n31, n32, n33, n34⟩ := n3
    by_cases hx : x = 0
    · have HE : Hid (appE s t = 120 ∧ appS s t = s) := ⟨by simp [appE, e, hx], by simp [appS, e, hx]⟩
      have hq : (ps[pos t s.L].2.2 == ps[pos t s.L].2.1) = true := by rw [beq_iff_eq]; omega
      clear h ok e HX h1 h2
      generalize ps[pos t s.L].2.1 = rm at *
      generalize ps[pos t s.L].2.2 = hs at *
      clear hp
      generalize pos t s.L = pp at *
      go_enter Try.func23, Try.ntmps23
      go_wp2_with fail
      refine hat.mono ?_
      rintro e w' ⟨rfl, rfl⟩
      go_wp2_with fail
      go_quiet (fail)
      go_wp2
      go_ret
      rw [HE.out.1, HE.out.2]
      exact ⟨rfl, After.same H.out (below_drawn nq)⟩
    · have HE : Hid (appE s t = 0 ∧ appS s t = { s with used := s.used + 1, L := set t (x - 1) s.L }) := ⟨by simp [appE, e, hx], by simp [appS, e, hx]⟩
      have HM : Hid (Mir { s with used := s.used + 1, L := set t (x - 1) s.L } (rec + 1) gone (ps.set (pos t s.L) (ps[pos t s.L].1, ps[pos t s.L].2.1, ps[pos t s.L].2.2 + 1)) (K + 1)) := h.mir.app e hx ok hp
      have HC : Hid ((pcells ps).set (pos t s.L * 3 + 2) (.int .i64 (ps[pos t s.L].2.2 + 1)) = pcells (ps.set (pos t s.L) (ps[pos t s.L].1, ps[pos t s.L].2.1, ps[pos t s.L].2.2 + 1))) := pcells_set ps (pos t s.L) hp _
      have hq : (ps[pos t s.L].2.2 == ps[pos t s.L].2.1) = false := by rw [beq_eq_false_iff_ne]; omega
      clear h ok e h1 h2
      generalize hP : ps.set (pos t s.L) (ps[pos t s.L].1, ps[pos t s.L].2.1, ps[pos t s.L].2.2 + 1) = ps' at *
      have HP : Hid (ps'.length = ps.length) := by show _ = _; rw [← hP]; simp
      clear hP
      generalize ps[pos t s.L].2.1 = rm at *
      generalize ps[pos t s.L].2.2 = hs at *
      clear hp
      generalize pos t s.L = pp at *
      go_enter Try.func23, Try.ntmps23
      go_wp2_with fail
      refine hat.mono ?_
      rintro e w' ⟨rfl, rfl⟩
      go_wp2_with fail
      go_quiet (fail)
      have H1 : Hid (RAt w0 (w'.drewN nq) R (.slice (some ⟨g, 0, none⟩) ps.length c) s rec gone ps K ∧ Below w'.heap.size w' (w'.drewN nq)) := ⟨H.out.drawn nq, below_drawn nq⟩
      clear x1 x2 c4 hat
      generalize w'.drewN nq = w1 at *
      obtain ⟨x1, x2⟩ := HX.out w1 H1.out.1
      have c4 := (lc2 H1.out.1).2.2.2.2.1
      have xf := own_free H1.out.1.row (pp * 3 + 2)
      have H2 : Hid ((w1.setCell ⟨g, pp * 3 + 2, none⟩ (.int .i64 (hs + 1))).ownsRow w0.heap.size 67 3 (.slice (some ⟨g, 0, none⟩) ps.length c) ps.length ((pcells ps).set (pp * 3 + 2) (.int .i64 (hs + 1))) ∧ (w1.setCell ⟨g, pp * 3 + 2, none⟩ (.int .i64 (hs + 1))).heap[R]? = some (.cells #[.int .i64 s.cap, .int .i64 s.mark, .int .i64 rec, .int .i64 gone, .slice (some ⟨g, 0, none⟩) ps.length c] 60 (0, 0))) := ⟨own_set H1.out.1.row rfl _ _, ((Kept.setCell g (pp * 3 + 2) _).block R H1.out.1.lt (fun e => H1.out.1.ne (by rw [e]; rfl))).trans H1.out.1.st⟩
      have d2 := (five H2.out.2).2.2.1
      have d2f := (five H2.out.2).2.2.2.2.2 2
      go_wp2
      go_ret
      rw [HE.out.1, HE.out.2]
      refine ⟨rfl, .slice (some ⟨g, 0, none⟩) ps.length c, rec + 1, gone, ps', ⟨?_, ?_, HM.out⟩, ?_, fun g hg => .inl hg⟩
      · rw [st_set 2 _ H2.out.2]
        rfl
      · rw [HP.out, ← HC.out]
        exact own_far H2.out.1 (Kept.setCell R 2 _) fun g' hg e => H1.out.1.ne (e ▸ hg)
      · exact ((Kept.of_below (RF R _) H1.out.2).trans (Kept.setCell g (pp * 3 + 2) _) fun x _ e => .inr (by rw [e]; rfl)).trans (Kept.setCell R 2 _) fun x _ e => .inl e
end
end Go.Proofs.Ytjkmeljefbpbgaa
