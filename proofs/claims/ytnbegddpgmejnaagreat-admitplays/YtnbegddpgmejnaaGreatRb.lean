/-
  Layer 13: the document's line: what only reads it.
-/
import Derived.Test.YtnbegddpgmejnaaGreatRa
namespace Go.Proofs.YtnbegddpgmejnaaGreat
open Go.RowKit


section
variable {w w' : World} {G : Nat → Prop} {R : Nat} {vW vI : Value} {a : Ad} {ws is : List Who}

theorem Ad.Ok.nums {a : Ad} (h : a.Ok) : 2 ≤ a.lc ∧ a.lc ≤ 64 ∧ 0 ≤ a.used ∧ 0 ≤ a.rsv ∧ a.used + a.rsv ≤ a.lc ∧ 1 ≤ a.next := ⟨h.may.2.2.1, h.may.2.2.2.1, h.used0, h.rsv0, h.room, by have := h.got0; have := h.gotN; omega⟩
set_option maxHeartbeats 1000000 in
set_option maxRecDepth 100000 in
theorem rreserved_at (h : RL w G R vW vI a ws is) (ok : a.Ok) (hN : a.next ≤ 1000) : Calls Tryz.prog 39 #[qp R] w fun e w' => e = .returned (.int .i64 a.rsv) ∧ ∃ m, w' = w.drewN m := by
  have H : Hid (RL w G R vW vI a ws is) := h
  obtain ⟨p, c, rfl, hc, hp⟩ := own_form h.ir
  have hlen : is.length ≤ 1000 := by have := h.ilen; have := ok.ilen; omega
  clear h
  go_enter Tryz.func39, Tryz.ntmps39
  go_wp2_with fail
  go_loopw [3, 4] (fun n i wr => ∃ k : Nat, k ≤ is.length ∧ n = .int .i64 (L.total ((lefts a.I).take k)) ∧ i = .int .i64 k ∧ Hid (∃ m, wr = w.drewN m)) (fun _ i _ => is.length - (intOf i).toNat)
  case atStart => exact ⟨0, Nat.zero_le _, rfl, rfl, ⟨0, rfl⟩⟩
  case round =>
    obtain ⟨k, hk, rfl, rfl, HM⟩ := hrel
    have R1 : Hid (RL wr G R vW (.slice p is.length c) a ws is) := by obtain ⟨m, rfl⟩ := HM.out; exact H.out.drawn m
    have c7 : wr.cell? ⟨R, 7, none⟩ = some (.slice p is.length c) := R1.out.c 7
    by_cases hlt : k < is.length
    · obtain ⟨g, rfl⟩ := hp (by omega)
      obtain ⟨hj', el⟩ := H.out.left hlt
      obtain ⟨_, _, x2, _⟩ := hrow_cell R1.out.ir hlt
      have i1 : (k : Int) < (is.length : Int) := by omega
      have n1 := L.total_take_le ok.fine k
      have AT : Hid (L.total ((lefts a.I).take (k + 1)) = L.total ((lefts a.I).take k) + is[k].l) := by have := L.total_take hj'; rw [el] at this; exact this
      have n1' := L.total_take_le ok.fine (k + 1)
      rw [AT.out] at n1'
      have n3 := ok.nums
      have n4 : L.total (lefts a.I) = a.rsv := rfl
      generalize is[k].l = rm at *
      generalize hta : L.total ((lefts a.I).take k) = ta at *
      rw [n4] at n1 n1'
      clear hta el n4
      obtain ⟨n11, n12⟩ := n1
      obtain ⟨n21, n22⟩ := n1'
      obtain ⟨n31, n32, n33, n34, n35, _⟩ := n3
      generalize a.rsv = rs at *
      go_wp2_with fail
      go_roundw
      case rel => exact ⟨k + 1, by omega, by rw [AT.out], by go_num, HM.out⟩
      case measure => simp [intOf]; omega
    · obtain rfl : k = is.length := by omega
      have e : L.total ((lefts a.I).take is.length) = a.rsv := by rw [H.out.ilen, ← lefts_len, List.take_length]; rfl
      rw [e]
      go_wp2
      go_ret
      exact ⟨rfl, HM.out⟩
set_option maxHeartbeats 1000000 in
set_option maxRecDepth 100000 in
theorem rin_at (h : RL w G R vW vI a ws is) (ok : a.Ok) (hN : a.next ≤ 1000) (t : Int) : Calls Tryz.prog 63 #[qp R, .int .u64 t] w fun e w' => e = .returned (.int .i64 (L.atv t (lefts a.I) (lefts a.I).length)) ∧ w' = w := by
  have H : Hid (RL w G R vW vI a ws is) := h
  obtain ⟨p, c, rfl, hc, hp⟩ := own_form h.ir
  have c7 : w.cell? ⟨R, 7, none⟩ = some (.slice p is.length c) := h.c 7
  have hlen : is.length ≤ 1000 := by have := h.ilen; have := ok.ilen; omega
  have LL : Hid ((lefts a.I).length = is.length) := by show _ = _; rw [lefts_len, h.ilen]
  clear h
  go_enter Tryz.func63, Tryz.ntmps63
  go_wp2_with fail
  go_loopw [5] (fun i wr => ∃ k : Nat, k ≤ is.length ∧ i = .int .i64 k ∧ wr = w ∧ Hid (L.atv t (lefts a.I) k = -1)) (fun i _ => is.length - (intOf i).toNat)
  case atStart => exact ⟨0, Nat.zero_le _, rfl, rfl, L.atv_zero t (lefts a.I)⟩
  case round =>
    obtain ⟨k, hk, rfl, rfl, hA⟩ := hrel
    by_cases hlt : k < is.length
    · obtain ⟨g, rfl⟩ := hp (by omega)
      obtain ⟨hj', el⟩ := H.out.left hlt
      obtain ⟨x0, _, _, _⟩ := hrow_cell H.out.ir hlt
      have i1 : (k : Int) < (is.length : Int) := by omega
      have E1 : Hid (is[k].t = t → L.atv t (lefts a.I) (lefts a.I).length = k) := fun e => by
        have h2 := L.pos_is ok.fine hj' (t := t) (by rw [el]; exact e)
        unfold L.atv
        rw [h2, if_pos hj']
      have E2 : Hid (¬ is[k].t = t → L.atv t (lefts a.I) (k + 1) = -1) := fun e => (L.atv_miss hj' (by rw [el]; exact e)).trans hA.out
      clear el hj'
      generalize is[k].t = xt at *
      cases hz : (xt == t)
      · have hx : ¬ xt = t := by simpa using hz
        have HE : Hid (L.atv t (lefts a.I) (k + 1) = -1) := E2.out hx
        clear E1 E2
        go_wp2_with fail
        go_roundw
        case rel => exact ⟨k + 1, by omega, by go_num, by trivial, HE⟩
        case measure => simp [intOf]; omega
      · have hx : xt = t := by simpa using hz
        have HE : Hid (L.atv t (lefts a.I) (lefts a.I).length = k) := E1.out hx
        clear E1 E2
        go_wp2
        go_ret
        exact ⟨by rw [HE.out]; rfl, by trivial⟩
    · obtain rfl : k = is.length := by omega
      have HE : Hid (L.atv t (lefts a.I) (lefts a.I).length = -1) := by rw [LL.out]; exact hA.out
      go_wp2
      go_ret
      exact ⟨by rw [HE.out]; rfl, by trivial⟩
theorem atv_noI (t : Int) (hf : fi t a.I = none) : L.atv t (lefts a.I) (lefts a.I).length = -1 := L.atv_none (by rw [look_lefts, hf]; rfl)
theorem atv_yesI {t : Int} {f : List Int} {n : Int} (hf : fi t a.I = some (f, n)) : L.atv t (lefts a.I) (lefts a.I).length = (L.pos t (lefts a.I) : Int) := L.atv_some (n := n) (by rw [look_lefts, hf]; rfl)
/-- who is in, as the document has it -/
theorem RL.at_some (h : RL w G R vW vI a ws is) {t : Int} {f : List Int} {n : Int} (hf : fi t a.I = some (f, n)) : ∃ hp : L.pos t (lefts a.I) < is.length, Mi w G (t, f, n) is[L.pos t (lefts a.I)] := by
  obtain ⟨h1, h2⟩ := fi_pos hf
  have hp : L.pos t (lefts a.I) < is.length := by rw [h.ilen]; exact h1
  have := h.im.get _ h1 hp
  rw [h2] at this
  exact ⟨hp, this⟩
set_option maxHeartbeats 1000000 in
set_option maxRecDepth 100000 in
theorem rleft_at (h : RL w G R vW vI a ws is) (ok : a.Ok) (hN : a.next ≤ 1000) (t : Int) : Calls Tryz.prog 37 #[qp R, .int .u64 t] w fun e w' => e = .returned (.tuple #[.int .i64 (a.leftN t), .bool (a.leftB t)]) ∧ w' = w := by
  have hat := rin_at h ok hN t
  cases hf : fi t a.I with
  | none =>
    rw [atv_noI t hf] at hat
    rw [(left_none hf).1, (left_none hf).2]
    have HA : Hid (Calls Tryz.prog 63 #[qp R, .int .u64 t] w fun e w' => e = .returned (.int .i64 (-1)) ∧ w' = w) := hat
    clear h hat
    go_enter Tryz.func37, Tryz.ntmps37
    go_wp2_with (go_at_call 63; refine HA.out.mono ?_; rintro e w' ⟨rfl, rfl⟩)
    go_ret2
    exact ⟨rfl, rfl⟩
  | some x =>
    obtain ⟨f, n⟩ := x
    rw [atv_yesI hf] at hat
    rw [(left_some hf).1, (left_some hf).2]
    obtain ⟨hp, hm⟩ := h.at_some hf
    obtain ⟨p, c, rfl, hc, hg⟩ := own_form h.ir
    obtain ⟨g, rfl⟩ := hg (by omega)
    obtain ⟨_, _, x2, _⟩ := hrow_cell h.ir hp
    rw [hm.l] at x2
    have c7 : w.cell? ⟨R, 7, none⟩ = some (.slice (some ⟨g, 0, none⟩) is.length c) := h.c 7
    have i1 : ((L.pos t (lefts a.I) : Nat) : Int) < (is.length : Int) := by omega
    clear h hm hf
    generalize L.pos t (lefts a.I) = pp at *
    have HA : Hid (Calls Tryz.prog 63 #[qp R, .int .u64 t] w fun e w' => e = .returned (.int .i64 (pp : Int)) ∧ w' = w) := hat
    clear hat
    go_enter Tryz.func37, Tryz.ntmps37
    go_wp2_with (go_at_call 63; refine HA.out.mono ?_; rintro e w' ⟨rfl, rfl⟩)
    go_ret2
    exact ⟨rfl, rfl⟩
/-- the first one that waits -/
theorem RL.head (h : RL w G R vW vI a ws is) {x : Int × List Int} {r : List (Int × List Int)} (hW : a.W = x :: r) : ∃ y ys g c, ws = y :: ys ∧ vW = .slice (some ⟨g, 0, none⟩) ws.length c ∧ ws.length ≤ c ∧ w.cell? ⟨g, 0, none⟩ = some (.int .u64 x.1) ∧ w.cell? ⟨g, 1, none⟩ = some y.v ∧ w.cell? ⟨g, 2, none⟩ = some (.int .i64 0) ∧ w.cell? ⟨g, 3, none⟩ = some (.bool false) ∧ y.m = x.2.length ∧ Mi w G (x.1, x.2, 0) y ∧ Mis w G (wl r) ys ∧ y = ⟨x.1, y.p, x.2.length, y.c, 0, false⟩ := by
  have hm := h.wm
  rw [hW] at hm
  cases hw : ws with
  | nil => rw [hw] at hm; exact hm.elim
  | cons y ys =>
    rw [hw] at hm
    have hy : Mi w G (x.1, x.2, 0) y := hm.1
    obtain ⟨p, c, e, hc, hp⟩ := own_form h.wr
    obtain ⟨g, rfl⟩ := hp (by rw [hw]; simp)
    have hr := h.wr
    rw [e] at hr
    have hk : 0 < ws.length := by rw [hw]; simp
    obtain ⟨x0, x1, x2, x3⟩ := hrow_cell hr hk
    have e0 : ws[0] = y := by simp [hw]
    rw [e0] at x0 x1 x2 x3
    refine ⟨y, ys, g, c, rfl, by rw [← hw]; exact e, by rw [← hw]; exact hc, ?_, by simpa using x1, ?_, ?_, hy.m, hy, hm.2, ?_⟩
    · have := hy.t; rw [this] at x0; simpa using x0
    · have := hy.l; rw [this] at x2; simpa using x2
    · have := hy.b; rw [this] at x3; simpa using x3
    · have h1 := hy.t; have h2 := hy.l; have h3 := hy.b; have h4 := hy.m
      cases y
      simp only at h1 h2 h3 h4
      subst h1 h2 h4
      simp [h3]
theorem RL.nohead (h : RL w G R vW vI a ws is) (hW : a.W = []) : ws = [] ∧ ∃ p c, vW = .slice p 0 c := by
  have hl := h.wlen
  rw [hW] at hl
  have e : ws = [] := List.eq_nil_of_length_eq_zero hl
  obtain ⟨p, c, e2, _⟩ := own_form h.wr
  exact ⟨e, p, c, by rw [e2, e]; rfl⟩
set_option maxHeartbeats 1000000 in
set_option maxRecDepth 100000 in
theorem rfits_no (h : RL w G R vW vI a ws is) (hW : a.W = []) : Calls Tryz.prog 38 #[qp R] w fun e w' => e = .returned (.bool false) ∧ ∃ m, w' = w.drewN m := by
  obtain ⟨_, p, c, rfl⟩ := h.nohead hW
  have c6 : w.cell? ⟨R, 6, none⟩ = some (.slice p 0 c) := h.c 6
  clear h
  go_enter Tryz.func38, Tryz.ntmps38
  go_wp2_with fail
  go_quiet (fail)
  go_wp2
  go_ret
  exact ⟨rfl, _, rfl⟩
set_option maxHeartbeats 1000000 in
set_option maxRecDepth 100000 in
theorem rfits_yes (h : RL w G R vW vI a ws is) (ok : a.Ok) (hN : a.next ≤ 1000) {x : Int × List Int} {r : List (Int × List Int)} (hW : a.W = x :: r) : Calls Tryz.prog 38 #[qp R] w fun e w' => e = .returned (.bool a.fits) ∧ ∃ m, w' = w.drewN m := by
  obtain ⟨y, ys, g, c, -, ev, hcap, x0, x1, x2, x3, em, hm, -, -⟩ := h.head hW
  have H : Hid (RL w G R vW vI a ws is) := h
  have c6 : w.cell? ⟨R, 6, none⟩ = some vW := h.c 6
  rw [ev] at c6
  have c8 : w.cell? ⟨R, 8, none⟩ = some (.int .i64 a.used) := h.c 8
  have c1 : w.cell? ⟨R, 1, none⟩ = some (.int .i64 a.lc) := h.c 1
  obtain ⟨n1, n2, n3, n4, n5, n6⟩ := ok.nums
  have hl := ok.wform x (by rw [hW]; exact List.mem_cons_self ..)
  have hmr := ok.may.2.2.2.2.2.1
  have hwl : ws.length ≤ 1000 := by have := h.wlen; have := ok.wlen; omega
  have hpos : 0 < ws.length := by have := h.wlen; rw [hW] at this; rw [this]; simp
  have HF : Hid (a.fits = decide (a.used + a.rsv + (x.2.length : Int) + 1 ≤ a.lc)) := by show _ = _; simp [Ad.fits, hW]
  have y1 : w.cell? ⟨g, 1, none⟩ = some (.slice y.p x.2.length y.c) := by rw [← em]; exact x1
  have i1 : (0 : Int) < (ws.length : Int) := by omega
  obtain ⟨l1, l2⟩ := hl
  have l3 : x.2.length ≤ 16 := by omega
  clear h hm x0 x1 x2 x3 em hW hmr ev l2
  generalize x.2.length = fl at *
  generalize ws.length = wn at *
  go_enter Tryz.func38, Tryz.ntmps38
  go_wp2_with fail
  go_quiet ((go_at_call 39; exact Calls.quiet_of (rreserved_at (H.out.drawn _) ok hN)))
  go_wp2
  go_ret
  refine ⟨?_, _, rfl⟩
  rw [HF.out]
  try rfl
theorem rfits_at (h : RL w G R vW vI a ws is) (ok : a.Ok) (hN : a.next ≤ 1000) : Calls Tryz.prog 38 #[qp R] w fun e w' => e = .returned (.bool a.fits) ∧ ∃ m, w' = w.drewN m := by
  cases hW : a.W with
  | nil =>
    have e : a.fits = false := by simp [Ad.fits, hW]
    rw [e]
    exact rfits_no h hW
  | cons x r => exact rfits_yes h ok hN hW
def tks (ps : List Who) (k : Nat) : List Value := V64 ((ps.take k).map Who.t)
theorem tks_succ (ps : List Who) {k : Nat} (hk : k < ps.length) : tks ps (k + 1) = tks ps k ++ [Value.int .u64 ps[k].t] := by
  unfold tks
  rw [List.take_succ_eq_append_getElem hk, List.map_append]
  simp only [V64, List.map_append, List.map_cons, List.map_nil]
set_option maxHeartbeats 1000000 in
set_option maxRecDepth 100000 in
theorem tickets_is (v : Value) (ps : List Who) (hr : w.ownsRow 0 84 4 v ps.length (hcells ps)) (hn : ps.length ≤ 1000) : Calls Tryz.prog 40 #[v] w fun e w' => ∃ u, e = .returned u ∧ MadeU w w' u (ps.map Who.t) := by
  obtain ⟨i0, hi, hz0, hz1, hz2⟩ := info_parts info26
  obtain ⟨p, c, rfl, hc, hp⟩ := own_form hr
  have HR : Hid (w.ownsRow 0 84 4 (.slice p ps.length c) ps.length (hcells ps)) := hr
  clear hr
  go_enter Tryz.func40, Tryz.ntmps40
  go_wp2_with fail
  go_loopw [3, 4] (fun v i wr => ∃ k : Nat, k ≤ ps.length ∧ i = .int .i64 k ∧ wr.ownsRow w.heap.size 44 1 v k (tks ps k) ∧ Below w.heap.size w wr) (fun _ i _ => ps.length - (intOf i).toNat)
  case atStart => exact ⟨0, Nat.zero_le _, rfl, World.ownsRow_nil _ _ _ _, Below.refl _ _⟩
  case round =>
    obtain ⟨k, hk, rfl, hO, hB⟩ := hrel
    obtain ⟨q, d, rfl⟩ := own_shape hO
    have HO : Hid (wr.ownsRow w.heap.size 44 1 (.slice q k d) k (tks ps k)) := hO
    have HB : Hid (Below w.heap.size w wr) := hB
    clear hO hB
    by_cases hlt : k < ps.length
    · have hr2 := own_later HR.out HB.out
      obtain ⟨g, rfl⟩ := hp (by omega)
      obtain ⟨x0, _, _, _⟩ := hrow_cell hr2 hlt
      have i1 : (k : Int) < (ps.length : Int) := by omega
      have HT : Hid (tks ps (k + 1) = tks ps k ++ [Value.int .u64 ps[k].t]) := tks_succ ps hlt
      clear hr2
      generalize ps[k].t = xt at *
      have hbs := HB.out.size
      go_wp2_with (at_builtin; refine wpList_append_own _ rfl (.tmp 11) (.tmp 17) 62 rfl w.heap.size 44 i0 (.int .u64 0) 1 8 Tryz.underlying62 hi hz0 hz1 hz2 rfl (by decide) _ k (tks ps k) rfl (HO.out.alloc _) ⟨_, 0, none⟩ 1 1 [.int .u64 xt] rfl rfl (cell_one_new _ _ _) (one_u64 _) (by unfold maxLen; omega) (by omega) (by simp; omega) ?_)
      intro v' w3 hown hgrow _
      have HO3 : Hid (w3.ownsRow w.heap.size 44 1 v' (k + 1) (tks ps (k + 1))) := by
        show w3.ownsRow _ _ _ _ _ _
        rw [HT.out]
        exact hown
      have HW3 : Hid (Below w.heap.size w w3) := (HB.out.alloc HB.out.size _).grown hgrow (by simp; omega) (fun k hk => (HO.out.lt k hk).1)
      clear hown hgrow HO HB
      go_wp2
      go_roundw
      case rel => exact ⟨k + 1, by omega, by go_num, HO3.out, HW3.out⟩
      case measure => simp [intOf]; omega
    · obtain rfl : k = ps.length := by omega
      go_wp2
      go_ret
      refine ⟨_, rfl, ?_, HB.out⟩
      have := HO.out
      unfold tks at this
      rw [List.take_length] at this
      simpa using this
end
end Go.Proofs.YtnbegddpgmejnaaGreat
