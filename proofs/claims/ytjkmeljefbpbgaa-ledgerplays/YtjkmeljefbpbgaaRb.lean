/-
  Layer 12: the document's Left, Marked, Fits, New, Reserve, Append, Free.
-/
import Derived.Test.YtjkmeljefbpbgaaRa
namespace Go.Proofs.Ytjkmeljefbpbgaa
open Go.RowKit


section
variable {w0 w w' : World} {R : Nat} {v : Value} {s : Lg} {rec gone : Int} {ps : List Pt} {K : Nat}
set_option maxHeartbeats 1000000 in
set_option maxRecDepth 100000 in
theorem rmarked_at (h : RAt w0 w R v s rec gone ps K) (hK : K ≤ 1000) : Calls Try.prog 30 #[lp R] w fun e w' => e = .returned (.bool (markedS s)) ∧ ∃ m, w' = w.drewN m := by
  have H : Hid (RAt w0 w R v s rec gone ps K) := h
  obtain ⟨_, c1, _, _, _, _⟩ := lc2 h
  clear h
  go_enter Try.func30, Try.ntmps30
  go_wp2_with fail
  go_quiet ((go_at_call 28; exact Calls.quiet_of (rused_at (H.out.drawn _) hK)))
  go_wp2
  go_ret
  exact ⟨rfl, _, rfl⟩
set_option maxHeartbeats 1000000 in
set_option maxRecDepth 100000 in
theorem rfits_at (h : RAt w0 w R v s rec gone ps K) (ok : Ok s) (hK : K ≤ 1000) (k : Int) : Calls Try.prog 31 #[lp R, .int .i64 k] w fun e w' => e = .returned (.bool (fitsS s k)) ∧ ∃ m, w' = w.drewN m := by
  have H : Hid (RAt w0 w R v s rec gone ps K) := h
  have HO : Hid (Ok s) := ok
  obtain ⟨c0, _, _, _, _, _⟩ := lc2 h
  obtain ⟨n1, n2, n3, n4, n5⟩ := ok.nums
  have HF : Hid (fitsS s k = decide (1 ≤ k ∧ k ≤ s.cap - s.used - total s.L)) := rfl
  clear h ok
  go_enter Try.func31, Try.ntmps31
  go_wp2_with fail
  by_cases h1 : (1 : Int) ≤ k
  · by_cases h2 : k ≤ 64
    · go_quiet (first | (go_at_call 28; exact Calls.quiet_of (rused_at (H.out.drawn _) hK)) | (go_at_call 29; exact Calls.quiet_of (rreserved_at (H.out.drawn _) HO.out hK)))
      go_wp2
      go_ret
      refine ⟨?_, _, rfl⟩
      rw [HF.out]
      by_cases h3 : s.used + total s.L + k ≤ s.cap
      · have h4 : 1 ≤ k ∧ k ≤ s.cap - s.used - total s.L := by omega
        simp [h3, h4]
      · have h4 : ¬ (1 ≤ k ∧ k ≤ s.cap - s.used - total s.L) := by omega
        simp [h3, h4]
    · have h3 : decide (k ≤ 64) = false := decide_eq_false h2
      go_quiet (fail)
      go_wp2
      go_ret
      refine ⟨?_, _, rfl⟩
      rw [HF.out]
      have h4 : ¬ (1 ≤ k ∧ k ≤ s.cap - s.used - total s.L) := by omega
      simp [h4]
  · have h3 : decide (1 ≤ k) = false := decide_eq_false h1
    go_quiet (fail)
    go_wp2
    go_ret
    refine ⟨?_, _, rfl⟩
    rw [HF.out]
    have h4 : ¬ (1 ≤ k ∧ k ≤ s.cap - s.used - total s.L) := by omega
    simp [h4]
theorem Mir.at_some (h : Mir s rec gone ps K) {t x : Int} (e : look t s.L = some x) : ∃ hp : pos t s.L < ps.length, ps[pos t s.L].1 = t ∧ ps[pos t s.L].2.1 - ps[pos t s.L].2.2 = x := by
  obtain ⟨hp, hv⟩ := pos_some e
  have hp' : pos t s.L < ps.length := by rw [← h.len_eq]; exact hp
  obtain ⟨_, h2⟩ := h.getD hp'
  rw [hv] at h2
  have e1 := congrArg Prod.fst h2
  have e2 := congrArg Prod.snd h2
  exact ⟨hp', e1.symm, e2.symm⟩
set_option maxHeartbeats 1000000 in
set_option maxRecDepth 100000 in
theorem rleft_at (h : RAt w0 w R v s rec gone ps K) (ok : Ok s) (hK : K ≤ 1000) (t : Int) : Calls Try.prog 27 #[lp R, .int .u64 t] w fun e w' => e = .returned (.tuple #[.int .i64 ((look t s.L).getD 0), .bool (look t s.L).isSome]) ∧ ∃ m, w' = w.drewN m := by
  have H : Hid (RAt w0 w R v s rec gone ps K) := h
  have hat := rat_at h ok hK t
  cases e : look t s.L with
  | none =>
    rw [atv_none e] at hat
    clear h ok
    go_enter Try.func27, Try.ntmps27
    go_wp2_with (go_at_call 33; refine hat.mono ?_; rintro e w' ⟨rfl, rfl⟩)
    go_ret2
    exact ⟨rfl, 0, rfl⟩
  | some x =>
    rw [atv_some e] at hat
    obtain ⟨hp, h1, h2⟩ := h.mir.at_some e
    obtain ⟨p, c, rfl, hc, hg⟩ := own_form h.row
    obtain ⟨g, rfl⟩ := hg (by omega)
    obtain ⟨_, x1, x2⟩ := h.part hp
    have c4 := (lc2 h).2.2.2.2.1
    have n2 := h.mir.each _ (List.getElem_mem hp)
    have i1 : ((pos t s.L : Nat) : Int) < (ps.length : Int) := by omega
    generalize ps[pos t s.L].2.1 = rm at *
    generalize ps[pos t s.L].2.2 = hs at *
    obtain ⟨n21, n22, n23⟩ := n2
    clear h ok h1 e
    subst h2
    generalize pos t s.L = pp at *
    go_enter Try.func27, Try.ntmps27
    go_wp2_with fail
    refine hat.mono ?_
    rintro e w' ⟨rfl, rfl⟩
    go_wp2_with fail
    go_quiet (fail)
    go_wp2
    go_ret2
    exact ⟨rfl, _, rfl⟩
set_option maxHeartbeats 1000000 in
set_option maxRecDepth 100000 in
theorem rnew_bad (w : World) {c m : Int} (h : ¬ mayNew c m) : Calls Try.prog 18 #[.int .i64 c, .int .i64 m] w fun e w' => e = .returned (.tuple #[nilp, .int .i64 2]) ∧ w' = w := by
  have h' := mayNew_not h
  clear h
  go_enter Try.func18, Try.ntmps18
  go_wp2_with fail
  rcases h' with h | h | h | h
  all_goals (go_wp2; go_ret2; exact ⟨rfl, rfl⟩)
theorem Mir.new (c m : Int) (K : Nat) : Mir (newS c m) 0 0 [] K := ⟨rfl, Int.le_refl _, Int.le_refl _, Int.natCast_nonneg K, rfl, fun _ h => absurd h List.not_mem_nil, Nat.zero_le _⟩
set_option maxHeartbeats 1000000 in
set_option maxRecDepth 100000 in
theorem rnew_ok (w0 w : World) {c m : Int} (h : mayNew c m) : Calls Try.prog 18 #[.int .i64 c, .int .i64 m] w fun e w' => e = .returned (.tuple #[lp w.heap.size, .int .i64 0]) ∧ RAt w0 w' w.heap.size (.slice none 0 0) (newS c m) 0 0 [] 0 ∧ Below w.heap.size w w' := by
  obtain ⟨h1, h2, h3, h4⟩ := h
  go_enter Try.func18, Try.ntmps18
  go_wp2
  go_ret2
  exact ⟨rfl, ⟨heap_alloc_new _ _, World.ownsRow_nil _ _ _ _, Mir.new c m 0⟩, below_alloc w _⟩
/-- the blocks of the document's ledger -/
def RF (R : Nat) (v : Value) (x : Nat) : Prop := x = R ∨ v.ownBlock = some x
theorem RAt.ne (h : RAt w0 w R v s rec gone ps K) : v.ownBlock ≠ some R := own_not h.row h.st (by decide)
theorem Mir.mono {K' : Nat} (h : Mir s rec gone ps K) (hk : K ≤ K') : Mir s rec gone ps K' := ⟨h.used, h.g0, h.gr, by have := h.rk; omega, h.L, h.each, Nat.le_trans h.len hk⟩
theorem RAt.mono {K' : Nat} (h : RAt w0 w R v s rec gone ps K) (hk : K ≤ K') : RAt w0 w R v s rec gone ps K' := ⟨h.st, h.row, h.mir.mono hk⟩
/-- what stands behind a call of the document's -/
def After (w0 w w' : World) (R : Nat) (v : Value) (s' : Lg) (K : Nat) : Prop := ∃ v' rec' gone' ps', RAt w0 w' R v' s' rec' gone' ps' K ∧ Kept (RF R v) w w' ∧ ∀ g, v'.ownBlock = some g → v.ownBlock = some g ∨ w.heap.size ≤ g
theorem After.same (h : RAt w0 w R v s rec gone ps K) (hb : Below w.heap.size w w') : After w0 w w' R v s (K + 1) := ⟨v, rec, gone, ps, (h.later hb).mono (Nat.le_succ _), Kept.of_below _ hb, fun _ hg => .inl hg⟩
set_option maxHeartbeats 1000000 in
set_option maxRecDepth 100000 in
theorem rfree_at (h : RAt w0 w R v s rec gone ps K) (hK : K ≤ 1000) (k : Int) : Calls Try.prog 25 #[lp R, .int .i64 k] w fun e w' => e = .returned (.int .i64 (freE s k)) ∧ After w0 w w' R v (freS s k) (K + 1) := by
  have H : Hid (RAt w0 w R v s rec gone ps K) := h
  obtain ⟨_, _, _, c3, _, cf⟩ := lc2 h
  have f3 := cf 3
  obtain ⟨g1, g2, g3, g4⟩ := h.mir.nums
  have hu := rused_at h hK
  by_cases hk : 0 ≤ k ∧ k ≤ s.used
  · have HE : Hid (freE s k = 0 ∧ freS s k = { s with used := s.used - k }) := ⟨if_pos hk, if_pos hk⟩
    obtain ⟨k1, k2⟩ := hk
    clear h cf
    go_enter Try.func25, Try.ntmps25
    go_wp2_with fail
    refine hu.mono ?_
    rintro e w1 ⟨rfl, hm⟩
    have H1 : Hid (RAt w0 w1 R v s rec gone ps K ∧ Below w.heap.size w w1) := by obtain ⟨m, rfl⟩ := hm; exact ⟨H.out.drawn m, below_drawn m⟩
    obtain ⟨_, _, _, d3, _, df⟩ := lc2 H1.out.1
    have df3 := df 3
    clear hm df hu c3 f3
    go_wp2
    go_ret
    rw [HE.out.1, HE.out.2]
    refine ⟨rfl, v, rec, gone + k, ps, ⟨?_, own_far H1.out.1.row (Kept.setCell R 3 _) (fun g hg e => H1.out.1.ne (e ▸ hg)), ⟨?_, by omega, by omega, ?_, H.out.mir.L, H.out.mir.each, Nat.le_succ_of_le H.out.mir.len⟩⟩, (Kept.of_below _ H1.out.2).trans (Kept.setCell R 3 _) fun x _ e => .inl e, fun _ hg => .inl hg⟩
    · rw [st_set 3 _ H1.out.1.st]
      rfl
    · show s.used - k = _
      omega
    · have := H.out.mir.rk
      omega
  · have HE : Hid (freE s k = 2 ∧ freS s k = s) := ⟨if_neg hk, if_neg hk⟩
    by_cases k1 : k < 0
    · clear h cf
      go_enter Try.func25, Try.ntmps25
      go_wp2
      go_ret
      rw [HE.out.1, HE.out.2]
      exact ⟨rfl, After.same H.out (Below.refl _ _)⟩
    · have k2 : s.used < k := by omega
      clear h cf hk
      go_enter Try.func25, Try.ntmps25
      go_wp2_with fail
      refine hu.mono ?_
      rintro e w1 ⟨rfl, hm⟩
      have H1 : Hid (Below w.heap.size w w1) := by obtain ⟨m, rfl⟩ := hm; exact below_drawn m
      clear hm hu
      go_wp2
      go_ret
      rw [HE.out.1, HE.out.2]
      exact ⟨rfl, After.same H.out H1.out⟩
end
end Go.Proofs.Ytjkmeljefbpbgaa
