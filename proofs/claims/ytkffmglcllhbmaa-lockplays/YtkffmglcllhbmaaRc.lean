/-
  Layer 14: the document's Queue, Ready, Holder.
-/
import Derived.Test.YtkffmglcllhbmaaRb
import Derived.Test.YtkffmglcllhbmaaKk
namespace Go.Proofs.Ytkffmglcllhbmaa
open Go.RowKit

section
variable {w w' : World} {G : Nat → Prop} {R : Nat} {v : Value} {a : Lk} {es : List Er}
/-- what a round of a walk through the list sees -/
theorem RL.see {g c : Nat} (h : RL w G R (.slice (some ⟨g, 0, none⟩) a.L.length c) a es) (hb : Below w.heap.size w w') {k : Nat} (hk : k < a.L.length) : w'.cell? ⟨R, 2, none⟩ = some (.slice (some ⟨g, 0, none⟩) a.L.length c) ∧ ∃ p c', Ecell w' G g k a.L[k] p c' := ⟨(h.later hb).c 2, (h.later hb).cell (by rw [h.len]) hk⟩
set_option maxHeartbeats 4000000 in
set_option maxRecDepth 100000 in
theorem rqueue_at (h : RL w G R v a es) (ok : Ok a) (hn : a.L.length ≤ 9000) (b : Int) : Calls Try.prog 68 #[qp R, .int .i64 b] w fun e w' => ∃ u, e = .returned u ∧ MadeU w w' u (qS a.L b) := by
  obtain ⟨i0, hi, hz0, hz1, hz2⟩ := info_parts info26
  have hml : 10000 ≤ maxLen := by decide
  obtain ⟨p, c, rfl, hc, hp⟩ := h.shape
  have H : Hid (RL w G R (.slice p a.L.length c) a es) := h
  have OK : Hid (Ok a) := ok
  clear h ok
  go_enter Try.func68, Try.ntmps68
  go_wp2_with fail
  go_loopw [5, 6] (fun q i wr => ∃ (k : Nat) (l : List Int), k ≤ a.L.length ∧ i = .int .i64 k ∧ (∃ p c, q = .slice p l.length c) ∧ Hid (l = qS (a.L.take k) b ∧ wr.ownsRow w.heap.size 30 1 q l.length (V64 l) ∧ Below w.heap.size w wr)) (fun _ i _ => a.L.length - (intOf i).toNat)
  case atStart => exact ⟨0, [], Nat.zero_le _, rfl, ⟨none, 0, rfl⟩, rfl, World.ownsRow_nil _ _ _ _, Below.refl _ _⟩
  case round =>
    obtain ⟨k, l, hk, rfl, ⟨q, cq, rfl⟩, HW⟩ := hrel
    have c2 : wr.cell? ⟨R, 2, none⟩ = some (.slice p a.L.length c) := (H.out.later HW.out.2.2).c 2
    by_cases hlt : k < a.L.length
    · obtain ⟨g, rfl⟩ := hp (by omega)
      have i1 : (k : Int) < (a.L.length : Int) := by omega
      have HW0 : Hid (l = qP a.L b k 0 ∧ wr.ownsRow w.heap.size 30 1 (.slice q l.length cq) l.length (V64 l) ∧ Below w.heap.size w wr) := ⟨by rw [qP_zero]; exact HW.out.1, HW.out.2⟩
      have hsl : a.L[k].s.length ≤ 64 := OK.out.slen (List.getElem_mem hlt)
      have HUP : Hid (a.L[k].s.Pairwise (· < ·)) := OK.out.up _ (List.getElem_mem hlt)
      go_wp2_with fail
      clear c2 HW
      obtain ⟨wB, hwB⟩ : ∃ x, x = wr := ⟨_, rfl⟩
      subst hwB
      go_loopw [5, 7] (fun q i wr => ∃ (j : Nat) (l : List Int), j ≤ a.L[k].s.length ∧ i = .int .i64 j ∧ (∃ p c, q = .slice p l.length c) ∧ Hid (l = qP a.L b k j ∧ wr.ownsRow w.heap.size 30 1 q l.length (V64 l) ∧ Below w.heap.size w wr)) (fun _ i _ => a.L[k].s.length - (intOf i).toNat)
      case atStart => exact ⟨0, l, Nat.zero_le _, rfl, ⟨q, cq, rfl⟩, HW0.out⟩
      case round =>
        clear HW0
        obtain ⟨j, l, hj, rfl, ⟨q, cq, rfl⟩, HW⟩ := hrel
        obtain ⟨c2, p', c', hx⟩ := H.out.see HW.out.2.2 hlt
        have x0 := hx.t
        have x1 := hx.s
        by_cases hlj : j < a.L[k].s.length
        · obtain ⟨bs, os, rfl, x3⟩ := hx.set hlj
          have j1 : (j : Int) < (a.L[k].s.length : Int) := by omega
          have HH : Hid (a.L[k].s[j] = b → qP a.L b k (j + 1) = l ++ [a.L[k].t]) := fun e => by rw [qP_hit hlt HUP.out hlj e, ← HW.out.1]
          have HM : Hid (¬ a.L[k].s[j] = b → qP a.L b k (j + 1) = l) := fun e => by rw [qP_miss hlt hlj e, ← HW.out.1]
          have hll : l.length ≤ 9001 := by have := qP_len a.L b k j; rw [← HW.out.1] at this; omega
          clear hx
          generalize a.L[k].t = xt at *
          generalize a.L[k].s[j] = y at *
          generalize a.L[k].s.length = sl at *
          cases hz : (y == b)
          · have HE : Hid (qP a.L b k (j + 1) = l) := HM.out (by simpa using hz)
            clear HH HM x0
            go_wp2_with fail
            go_roundw
            case rel => exact ⟨j + 1, l, by omega, by go_num, ⟨q, cq, rfl⟩, HE.out.symm, HW.out.2⟩
            case measure => simp [intOf]; omega
          · have HE : Hid (qP a.L b k (j + 1) = l ++ [xt]) := HH.out (by simpa using hz)
            have HOA : Hid ((wr.alloc (.cells #[.int .u64 xt] 30)).ownsRow w.heap.size 30 1 (.slice q l.length cq) (V64 l).length (V64 l)) := by rw [show (V64 l).length = l.length by simp]; exact B.own_later HW.out.2.1 (below_alloc _ _)
            have HSB : Hid (Below w.heap.size w (wr.alloc (.cells #[.int .u64 xt] 30))) := below_then HW.out.2.2 (below_alloc _ _)
            clear HH HM
            go_wp2_with (at_builtin; refine wpList_app rfl (.tmp 43) (.tmp 52) 22 rfl 30 i0 (.int .u64 0) 8 Try.underlying22 hi hz0 hz1 hz2 rfl w HSB.out (.slice q l.length cq) (V64 l) rfl HOA.out (some ⟨wr.heap.size, 0, none⟩) 1 1 [.int .u64 xt] rfl (fun e => by cases e) (by decide) rfl (one_news _ _) (one_u64 _) (by rw [List.length_map]; omega) (by rw [List.length_map]; omega) ?_; intro p5 c5 w5 o5 b5 _; have H5 : Hid (w5.ownsRow w.heap.size 30 1 (.slice p5 (l ++ [xt]).length c5) (l ++ [xt]).length (V64 (l ++ [xt])) ∧ Below w.heap.size w w5) := ⟨(by simpa [V64] using o5), b5⟩; have HLN : Hid ((V64 l ++ [Value.int .u64 xt]).length = (l ++ [xt]).length) := (by show _ = _; simp); rw [HLN.out]; clear o5 b5)
            go_roundw
            case rel =>
              have e5 : l.length + 1 = (l ++ [xt]).length := by simp
              rw [e5]
              exact ⟨j + 1, l ++ [xt], by omega, by go_num, ⟨p5, c5, rfl⟩, HE.out.symm, H5.out⟩
            case measure => simp [intOf]; omega
        · obtain rfl : j = a.L[k].s.length := by omega
          have HE : Hid (l = qS (a.L.take (k + 1)) b) := by rw [← qP_all hlt]; exact HW.out.1
          clear hx
          generalize a.L[k].s.length = sl at *
          go_wp2_with fail
          go_roundw
          case rel => exact ⟨k + 1, l, by omega, by go_num, ⟨q, cq, rfl⟩, HE.out, HW.out.2⟩
          case measure => simp [intOf]; omega
    · obtain rfl : k = a.L.length := by omega
      have HE : Hid (l = qS a.L b) := by have := HW.out.1; rw [List.take_length] at this; exact this
      go_wp2
      go_ret
      exact ⟨_, rfl, by rw [← HE.out]; exact HW.out.2.1, HW.out.2.2⟩
theorem hdv_get {l : List Int} (h : l ≠ []) : l.getD 0 0 = hdv l := by
  cases l with
  | nil => exact absurd rfl h
  | cons x xs => rfl
set_option maxHeartbeats 2000000 in
set_option maxRecDepth 100000 in
theorem rready_at (h : RL w G R v a es) (ok : Ok a) (hn : a.L.length ≤ 9000) (t : Int) : Calls Try.prog 64 #[qp R, .int .u64 t] w fun e w' => e = .returned (.bool (rdyS a.L t)) ∧ Below w.heap.size w w' := by
  have H : Hid (RL w G R v a es) := h
  have OK : Hid (Ok a) := ok
  have HN : Hid (Calls Try.prog 63 #[qp R, .int .u64 t] w fun e w' => e = .returned (.tuple #[.int .i64 (ent a.L t).nx, .bool (ent a.L t).nxB]) ∧ ∃ m, w' = w.drewN m) := rnext_at h ok (by omega) t
  clear h ok
  cases hb : (ent a.L t).nxB with
  | false =>
    have HE : Hid (rdyS a.L t = false) := by show _ = _; unfold rdyS; rw [hb]; rfl
    rw [hb] at HN
    clear hb
    go_enter Try.func64, Try.ntmps64
    go_wp2_with fail
    refine HN.out.mono ?_
    rintro e w1 ⟨rfl, m, hm⟩
    have HM : Hid (Below w.heap.size w w1) := by subst hm; exact below_drawn m
    clear hm HN
    go_wp2
    go_ret
    exact ⟨by rw [HE.out]; rfl, HM.out⟩
  | true =>
    have HNE : Hid (qS a.L (ent a.L t).nx ≠ []) := q_ne hb
    have HE : Hid (rdyS a.L t = (hdv (qS a.L (ent a.L t).nx) == t)) := by show _ = _; unfold rdyS; rw [hb]; rfl
    rw [hb] at HN
    clear hb
    generalize (ent a.L t).nx = nx at *
    go_enter Try.func64, Try.ntmps64
    go_wp2_with fail
    refine HN.out.mono ?_
    rintro e w1 ⟨rfl, m, hm⟩
    have HM : Hid (Below w.heap.size w w1) := by subst hm; exact below_drawn m
    clear hm HN
    go_wp2_with fail
    refine (rqueue_at (H.out.later HM.out) OK.out hn nx).mono ?_
    rintro e w2 ⟨u, rfl, hm⟩
    obtain ⟨p2, k2, rfl, hU, -, -⟩ := hm.read
    have HB : Hid (Below w.heap.size w w2) := below_then HM.out hm.below
    have HP := List.length_pos_iff.2 HNE.out
    obtain ⟨bq, oq, rfl, hcs⟩ := hU.cells HP
    have z := hcs 0 HP
    rw [hdv_get HNE.out, Nat.add_zero] at z
    have i1 : (0 : Int) < ((qS a.L nx).length : Int) := by omega
    have hql : (qS a.L nx).length ≤ 9000 := by have := qS_len a.L nx; omega
    clear hcs hU hm
    generalize (qS a.L nx).length = ql at *
    generalize hdv (qS a.L nx) = hd at *
    go_wp2
    go_ret
    exact ⟨by rw [HE.out]; rfl, HB.out⟩
set_option maxHeartbeats 4000000 in
set_option maxRecDepth 100000 in
theorem rholder_at (h : RL w G R v a es) (ok : Ok a) (hn : a.L.length ≤ 9000) (b : Int) : Calls Try.prog 66 #[qp R, .int .i64 b] w fun e w' => e = .returned (.tuple #[.int .u64 (hldN a.L b), .bool (hldB a.L b)]) ∧ w' = w := by
  obtain ⟨p, c, rfl, hc, hp⟩ := h.shape
  have H : Hid (RL w G R (.slice p a.L.length c) a es) := h
  have OK : Hid (Ok a) := ok
  have c2 : w.cell? ⟨R, 2, none⟩ = some (.slice p a.L.length c) := h.c 2
  clear h ok
  go_enter Try.func66, Try.ntmps66
  go_wp2_with fail
  go_loopw [6] (fun i wr => ∃ k : Nat, k ≤ a.L.length ∧ i = .int .i64 k ∧ wr = w ∧ Hid (noH a.L b k 0)) (fun i _ => a.L.length - (intOf i).toNat)
  case atStart => exact ⟨0, Nat.zero_le _, rfl, rfl, noH_zero a.L b⟩
  case round =>
    obtain ⟨k, hk, rfl, rfl, HW⟩ := hrel
    by_cases hlt : k < a.L.length
    · obtain ⟨g, rfl⟩ := hp (by omega)
      have i1 : (k : Int) < (a.L.length : Int) := by omega
      have hsl : a.L[k].s.length ≤ 64 := OK.out.slen (List.getElem_mem hlt)
      have hdl : a.L[k].d ≤ a.L[k].s.length := OK.out.don _ (List.getElem_mem hlt)
      go_wp2_with fail
      obtain ⟨wB, hwB⟩ : ∃ x, x = wr := ⟨_, rfl⟩
      subst hwB
      go_loopw [7] (fun i wr => ∃ j : Nat, j ≤ a.L[k].d ∧ i = .int .i64 j ∧ wr = wB ∧ Hid (noH a.L b k j)) (fun i _ => a.L[k].d - (intOf i).toNat)
      case atStart => exact ⟨0, Nat.zero_le _, rfl, rfl, HW⟩
      case round =>
        clear HW
        obtain ⟨j, hj, rfl, rfl, HW⟩ := hrel
        obtain ⟨p', c', hx⟩ := H.out.cell (by rw [H.out.len]) hlt
        have x0 := hx.t
        have x1 := hx.s
        have x2 := hx.d
        by_cases hlj : j < a.L[k].d
        · have hjs : j < a.L[k].s.length := by omega
          obtain ⟨bs, os, rfl, x3⟩ := hx.set hjs
          have j1 : (j : Int) < (a.L[k].d : Int) := by omega
          have j2 : (j : Int) < (a.L[k].s.length : Int) := by omega
          have HH : Hid (a.L[k].s[j] = b → hldB a.L b = true ∧ hldN a.L b = a.L[k].t) := fun e => noH_hit OK.out hlt hlj hjs e
          have HM : Hid (¬ a.L[k].s[j] = b → noH a.L b k (j + 1)) := fun e => noH_step HW.out hlt hjs e
          clear hx
          generalize a.L[k].t = xt at *
          generalize a.L[k].s[j] = y at *
          generalize a.L[k].s.length = sl at *
          generalize a.L[k].d = dl at *
          cases hz : (y == b)
          · have HE : Hid (noH a.L b k (j + 1)) := HM.out (by simpa using hz)
            clear HH HM x0
            go_wp2_with fail
            go_roundw
            case rel => exact ⟨j + 1, by omega, by go_num, by trivial, HE.out⟩
            case measure => simp [intOf]; omega
          · have HE : Hid (hldB a.L b = true ∧ hldN a.L b = xt) := HH.out (by simpa using hz)
            clear HH HM
            go_wp2_with fail
            go_ret2
            exact ⟨by rw [HE.out.1, HE.out.2]; rfl, by trivial⟩
        · obtain rfl : j = a.L[k].d := by omega
          have HE : Hid (noH a.L b (k + 1) 0) := noH_next hlt HW.out
          clear hx
          generalize a.L[k].s.length = sl at *
          generalize a.L[k].d = dl at *
          go_wp2_with fail
          go_roundw
          case rel => exact ⟨k + 1, by omega, by go_num, by trivial, HE.out⟩
          case measure => simp [intOf]; omega
    · obtain rfl : k = a.L.length := by omega
      have HE : Hid (hldB a.L b = false ∧ hldN a.L b = 0) := noH_none OK.out HW.out
      go_wp2
      go_ret2
      exact ⟨by rw [HE.out.1, HE.out.2]; rfl, by trivial⟩
end
end Go.Proofs.Ytkffmglcllhbmaa
