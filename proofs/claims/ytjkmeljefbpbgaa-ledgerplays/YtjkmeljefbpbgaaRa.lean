/-
  Layer 12: the document's ledger; what only reads it.
-/
import Derived.Test.YtjkmeljefbpbgaaLg
import Derived.BigQuiet
namespace Go.Proofs.Ytjkmeljefbpbgaa
open Go.RowKit


abbrev Pt := Int × Int × Int
def lof (p : Pt) : Int × Int := (p.1, p.2.1 - p.2.2)
def pcells (ps : List Pt) : List Value := ps.flatMap fun p => [Value.int .u64 p.1, Value.int .i64 p.2.1, Value.int .i64 p.2.2]
theorem pcells_app (ps qs : List Pt) : pcells (ps ++ qs) = pcells ps ++ pcells qs := List.flatMap_append
theorem pcells_len (ps : List Pt) : (pcells ps).length = ps.length * 3 := by
  induction ps with
  | nil => rfl
  | cons x xs ih => simp only [pcells, List.flatMap_cons, List.length_append, List.length_cons, List.length_nil] at ih ⊢; omega
theorem pcells_cons (p : Pt) (ps : List Pt) : pcells (p :: ps) = [Value.int .u64 p.1, Value.int .i64 p.2.1, Value.int .i64 p.2.2] ++ pcells ps := rfl
theorem pcells_at : ∀ (ps : List Pt) (k : Nat) (hk : k < ps.length), (pcells ps)[k * 3]? = some (.int .u64 ps[k].1) ∧ (pcells ps)[k * 3 + 1]? = some (.int .i64 ps[k].2.1) ∧ (pcells ps)[k * 3 + 2]? = some (.int .i64 ps[k].2.2)
  | [], k, hk => by simp at hk
  | x :: xs, 0, _ => ⟨rfl, rfl, rfl⟩
  | x :: xs, k + 1, hk => by
    obtain ⟨h1, h2, h3⟩ := pcells_at xs k (by simpa using hk)
    rw [pcells_cons]
    refine ⟨?_, ?_, ?_⟩
    · rw [List.getElem?_append_right (by simp; omega)]
      have e : (k + 1) * 3 - 3 = k * 3 := by omega
      simpa [e] using h1
    · rw [List.getElem?_append_right (by simp; omega)]
      have e : (k + 1) * 3 + 1 - 3 = k * 3 + 1 := by omega
      simpa [e] using h2
    · rw [List.getElem?_append_right (by simp; omega)]
      have e : (k + 1) * 3 + 2 - 3 = k * 3 + 2 := by omega
      simpa [e] using h3
theorem pcells_take (ps : List Pt) : ∀ k, (pcells ps).take (k * 3) = pcells (ps.take k) := by
  induction ps with
  | nil => intro k; simp [pcells]
  | cons x xs ih =>
    intro k
    cases k with
    | zero => simp [pcells]
    | succ k =>
      have e : (k + 1) * 3 = k * 3 + 3 := by omega
      rw [pcells_cons, List.take_succ_cons, pcells_cons, e]
      simp [ih]
theorem pcells_drop (ps : List Pt) : ∀ k, (pcells ps).drop (k * 3) = pcells (ps.drop k) := by
  induction ps with
  | nil => intro k; simp [pcells]
  | cons x xs ih =>
    intro k
    cases k with
    | zero => simp
    | succ k =>
      have e : (k + 1) * 3 = k * 3 + 3 := by omega
      rw [pcells_cons, List.drop_succ_cons, e]
      simp [ih]
theorem ones_p (ps : List Pt) : ∀ u ∈ pcells ps, u.oneCell' = true := by
  intro u hu
  obtain ⟨p, _, hp⟩ := List.mem_flatMap.1 hu
  simp only [List.mem_cons, List.not_mem_nil, or_false] at hp
  rcases hp with rfl | rfl | rfl <;> rfl

theorem drew_more {w wr : World} (h : ∃ m, wr = w.drewN m) (n : Nat) : ∃ m, wr.drewN n = w.drewN m := by
  obtain ⟨m, rfl⟩ := h
  exact ⟨m + n, by simp [World.drewN, Nat.add_assoc]⟩

/-- the document's numbers beside a ledger's -/
structure Mir (s : Lg) (rec gone : Int) (ps : List Pt) (K : Nat) : Prop where
  used : s.used = rec - gone
  g0 : 0 ≤ gone
  gr : gone ≤ rec
  rk : rec ≤ K
  L : s.L = ps.map lof
  each : ∀ p ∈ ps, 0 ≤ p.2.2 ∧ p.2.2 ≤ p.2.1 ∧ p.2.1 ≤ 64
  len : ps.length ≤ K
/-- how the document's ledger lies -/
structure RAt (w0 w : World) (R : Nat) (v : Value) (s : Lg) (rec gone : Int) (ps : List Pt) (K : Nat) : Prop where
  st : w.heap[R]? = some (.cells #[.int .i64 s.cap, .int .i64 s.mark, .int .i64 rec, .int .i64 gone, v] 60 (0, 0))
  row : w.ownsRow w0.heap.size 67 3 v ps.length (pcells ps)
  mir : Mir s rec gone ps K
section
variable {w0 w w' : World} {R : Nat} {v : Value} {s : Lg} {rec gone : Int} {ps : List Pt} {K : Nat}
theorem RAt.lt (h : RAt w0 w R v s rec gone ps K) : R < w.heap.size := (Array.getElem?_eq_some_iff.1 h.st).1
theorem RAt.later (h : RAt w0 w R v s rec gone ps K) (hb : Below w.heap.size w w') : RAt w0 w' R v s rec gone ps K := ⟨(hb.block R h.lt).trans h.st, own_later h.row hb, h.mir⟩
theorem RAt.drawn (h : RAt w0 w R v s rec gone ps K) (m : Nat) : RAt w0 (w.drewN m) R v s rec gone ps K := h.later (below_drawn m)
theorem Mir.len_eq (h : Mir s rec gone ps K) : s.L.length = ps.length := by rw [h.L, List.length_map]
theorem Mir.getD (h : Mir s rec gone ps K) {j : Nat} (hj : j < ps.length) : ∃ hj' : j < s.L.length, s.L[j] = (ps[j].1, ps[j].2.1 - ps[j].2.2) := by
  refine ⟨by rw [h.len_eq]; exact hj, ?_⟩
  simp [h.L, lof]
theorem Mir.nums (h : Mir s rec gone ps K) : 0 ≤ gone ∧ gone ≤ rec ∧ rec ≤ K ∧ s.used = rec - gone := ⟨h.g0, h.gr, h.rk, h.used⟩
theorem lc2 (h : RAt w0 w R v s rec gone ps K) : w.cell? ⟨R, 0, none⟩ = some (.int .i64 s.cap) ∧ w.cell? ⟨R, 1, none⟩ = some (.int .i64 s.mark) ∧ w.cell? ⟨R, 2, none⟩ = some (.int .i64 rec) ∧ w.cell? ⟨R, 3, none⟩ = some (.int .i64 gone) ∧ w.cell? ⟨R, 4, none⟩ = some v ∧ ∀ o, w.frozen? ⟨R, o, none⟩ = false := five h.st
/-- a part's cells -/
theorem RAt.part {g c : Nat} (h : RAt w0 w R (.slice (some ⟨g, 0, none⟩) ps.length c) s rec gone ps K) {j : Nat} (hj : j < ps.length) : w.cell? ⟨g, j * 3, none⟩ = some (.int .u64 ps[j].1) ∧ w.cell? ⟨g, j * 3 + 1, none⟩ = some (.int .i64 ps[j].2.1) ∧ w.cell? ⟨g, j * 3 + 2, none⟩ = some (.int .i64 ps[j].2.2) := by
  obtain ⟨h1, h2, h3⟩ := pcells_at ps j hj
  exact ⟨own_cell h.row h1, own_cell h.row h2, own_cell h.row h3⟩
set_option maxHeartbeats 1000000 in
set_option maxRecDepth 100000 in
theorem rused_at (h : RAt w0 w R v s rec gone ps K) (hK : K ≤ 1000) : Calls Try.prog 28 #[lp R] w fun e w' => e = .returned (.int .i64 s.used) ∧ ∃ m, w' = w.drewN m := by
  obtain ⟨_, _, c2, c3, _, _⟩ := lc2 h
  obtain ⟨g1, g2, g3, g4⟩ := h.mir.nums
  clear h
  go_enter Try.func28, Try.ntmps28
  go_wp2_with fail
  go_quiet (fail)
  go_wp2
  go_ret
  exact ⟨by rw [g4]; rfl, _, rfl⟩
set_option maxHeartbeats 1000000 in
set_option maxRecDepth 100000 in
theorem rreserved_at (h : RAt w0 w R v s rec gone ps K) (ok : Ok s) (hK : K ≤ 1000) : Calls Try.prog 29 #[lp R] w fun e w' => e = .returned (.int .i64 (total s.L)) ∧ ∃ m, w' = w.drewN m := by
  have H : Hid (RAt w0 w R v s rec gone ps K) := h
  obtain ⟨p, c, rfl, hc, hp⟩ := own_form h.row
  have HO : Hid (Ok s) := ok
  have hlen := h.mir.len
  clear h ok
  go_enter Try.func29, Try.ntmps29
  go_wp2_with fail
  go_loopw [3, 4] (fun n i wr => ∃ k : Nat, k ≤ ps.length ∧ n = .int .i64 (total (s.L.take k)) ∧ i = .int .i64 k ∧ Hid (∃ m, wr = w.drewN m)) (fun _ i _ => ps.length - (intOf i).toNat)
  case atStart => exact ⟨0, Nat.zero_le _, rfl, rfl, ⟨0, rfl⟩⟩
  case round =>
    obtain ⟨k, hk, rfl, rfl, HM⟩ := hrel
    have R1 : Hid (RAt w0 wr R (.slice p ps.length c) s rec gone ps K) := by obtain ⟨m, rfl⟩ := HM.out; exact H.out.drawn m
    have c4 := (lc2 R1.out).2.2.2.2.1
    by_cases hlt : k < ps.length
    · obtain ⟨g, rfl⟩ := hp (by omega)
      obtain ⟨hj', el⟩ := H.out.mir.getD hlt
      obtain ⟨_, x1, x2⟩ := R1.out.part hlt
      have i1 : (k : Int) < (ps.length : Int) := by omega
      have n1 := total_take_le HO.out.fine k
      have AT : Hid (total (s.L.take (k + 1)) = total (s.L.take k) + (ps[k].2.1 - ps[k].2.2)) := by have := total_take hj'; rw [el] at this; exact this
      have n2 := H.out.mir.each _ (List.getElem_mem hlt)
      have n3 := HO.out.nums
      generalize ps[k].2.1 = rm at *
      generalize ps[k].2.2 = hs at *
      generalize hta : total (s.L.take k) = ta at *
      clear hta el
      obtain ⟨n11, n12⟩ := n1
      obtain ⟨n21, n22, n23⟩ := n2
      obtain ⟨n31, n32, n33, n34, n35⟩ := n3
      go_wp2_with fail
      go_quiet (fail)
      go_wp2_with fail
      go_roundw
      case rel => exact ⟨k + 1, by omega, by rw [AT.out]; congr 1; omega, by go_num, drew_more HM.out nq⟩
      case measure => simp [intOf]; omega
    · obtain rfl : k = ps.length := by omega
      have e : total (s.L.take ps.length) = total s.L := by rw [← H.out.mir.len_eq, List.take_length]
      rw [e]
      go_wp2
      go_ret
      exact ⟨rfl, HM.out⟩
set_option maxHeartbeats 1000000 in
set_option maxRecDepth 100000 in
theorem rat_at (h : RAt w0 w R v s rec gone ps K) (ok : Ok s) (hK : K ≤ 1000) (t : Int) : Calls Try.prog 33 #[lp R, .int .u64 t] w fun e w' => e = .returned (.int .i64 (atv t s.L s.L.length)) ∧ w' = w := by
  have H : Hid (RAt w0 w R v s rec gone ps K) := h
  obtain ⟨p, c, rfl, hc, hp⟩ := own_form h.row
  have HO : Hid (Ok s) := ok
  have c4 := (lc2 h).2.2.2.2.1
  have hlen := h.mir.len
  clear h ok
  go_enter Try.func33, Try.ntmps33
  go_wp2_with fail
  go_loopw [5] (fun i wr => ∃ k : Nat, k ≤ ps.length ∧ i = .int .i64 k ∧ wr = w ∧ Hid (atv t s.L k = -1)) (fun i _ => ps.length - (intOf i).toNat)
  case atStart => exact ⟨0, Nat.zero_le _, rfl, rfl, atv_zero t s.L⟩
  case round =>
    obtain ⟨k, hk, rfl, rfl, hA⟩ := hrel
    by_cases hlt : k < ps.length
    · obtain ⟨g, rfl⟩ := hp (by omega)
      obtain ⟨hj', el⟩ := H.out.mir.getD hlt
      obtain ⟨x0, _, _⟩ := H.out.part hlt
      have i1 : (k : Int) < (ps.length : Int) := by omega
      have E1 : Hid (ps[k].1 = t → atv t s.L s.L.length = k) := fun e => by
        have h2 := pos_is HO.out.fine hj' (t := t) (by rw [el]; exact e)
        unfold atv
        rw [h2, if_pos hj']
      have E2 : Hid (¬ ps[k].1 = t → atv t s.L (k + 1) = -1) := fun e => (atv_miss hj' (by rw [el]; exact e)).trans hA.out
      generalize ps[k].1 = xt at *
      cases hz : (xt == t)
      · have hx : ¬ xt = t := by simpa using hz
        have HE : Hid (atv t s.L (k + 1) = -1) := E2.out hx
        clear E1 E2
        go_wp2_with fail
        go_roundw
        case rel => exact ⟨k + 1, by omega, by go_num, by trivial, HE⟩
        case measure => simp [intOf]; omega
      · have hx : xt = t := by simpa using hz
        have HE : Hid (atv t s.L s.L.length = k) := E1.out hx
        clear E1 E2
        go_wp2
        go_ret
        exact ⟨by rw [HE.out]; rfl, by trivial⟩
    · obtain rfl : k = ps.length := by omega
      have HE : Hid (atv t s.L s.L.length = -1) := by rw [H.out.mir.len_eq]; exact hA.out
      go_wp2
      go_ret
      exact ⟨by rw [HE.out]; rfl, by trivial⟩
end
end Go.Proofs.Ytjkmeljefbpbgaa
