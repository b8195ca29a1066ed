/-
  Layer 17: asks.
-/
import Derived.Test.YthcpnfelnonhnaaDoorTd
namespace Go.Proofs.YthcpnfelnonhnaaDoor
open Go.RowKit

open Go.Shelf
attribute [local go_sem] Oper.semAt_some
namespace W
theorem run_max (w : World) (a b : Int) : (Builtin.max_ #[3, 3] 3 #[.int .i64 a, .int .i64 b]).run Tryd.prog w = .ok (.int .i64 (max a b)) w := by
  rw [show max a b = if b > a then b else a by split <;> omega]; rfl
theorem run_min (w : World) (a b : Int) : (Builtin.min_ #[3, 3] 3 #[.int .i64 a, .int .i64 b]).run Tryd.prog w = .ok (.int .i64 (min a b)) w := by
  rw [show min a b = if b < a then b else a by split <;> omega]; rfl
theorem wpList_max_is {P : Program} {ops : Array Oper} {rest : List Oper} {o : Oper} {a : Act} {w : World} {Q : Exit → Act → World → Prop} (hgd : Region.wanted o (yielded ops a.tmps) = true) {s x : Operand} {t ty : TypeId} (ho : o.op = .call { callee := .builtin .max, args := #[s, x], argTypes := #[t, t] }) (hty : o.type = ty) {u1 u2 v : Value} (hs : a.eval s = u1) (hx : a.eval x = u2) (hrun : (Builtin.max_ #[t, t] ty #[u1, u2]).run P w = .ok v w) (h : wpList P ops Q rest (a.put o.dst v) w) : wpList P ops Q (o :: rest) a w :=
  wpList_val hgd (by subst hty; simp [execOp, ho, resolve, invoke, builtin, hs, hx, hrun, Result.andThen]) h
theorem yields_max_is {P : Program} {ops : Array Oper} {S : World → Prop} {o : Oper} {a : Act} (hw : Region.wanted o (yielded ops a.tmps) = true) {s x : Operand} {t ty : TypeId} (ho : o.op = .call { callee := .builtin .max, args := #[s, x], argTypes := #[t, t] }) (hty : o.type = ty) {u1 u2 v : Value} (hs : a.eval s = u1) (hx : a.eval x = u2) (hrun : ∀ w, (Builtin.max_ #[t, t] ty #[u1, u2]).run P w = .ok v w) : YieldsIf P ops S o v a :=
  .inl ⟨hw, fun w _ => by subst hty; simp [execOp, ho, resolve, invoke, builtin, hs, hx, hrun, Result.andThen]⟩
theorem yields_min_is {P : Program} {ops : Array Oper} {S : World → Prop} {o : Oper} {a : Act} (hw : Region.wanted o (yielded ops a.tmps) = true) {s x : Operand} {t ty : TypeId} (ho : o.op = .call { callee := .builtin .min, args := #[s, x], argTypes := #[t, t] }) (hty : o.type = ty) {u1 u2 v : Value} (hs : a.eval s = u1) (hx : a.eval x = u2) (hrun : ∀ w, (Builtin.min_ #[t, t] ty #[u1, u2]).run P w = .ok v w) : YieldsIf P ops S o v a :=
  .inl ⟨hw, fun w _ => by subst hty; simp [execOp, ho, resolve, invoke, builtin, hs, hx, hrun, Result.andThen]⟩
theorem Sh.asked {T T' : Nat → Th} {n : Int} {L : Nat → List En} {s : Nat → Bool} {p g : Nat → Int} {a j : Nat} (hs : Sh T n L s p g a) (hj : j < 2) (h4 : ∀ i, i < 4 → T' i = T i)
    {v4 v5 v6 v7 v8 : Value} {us4 us5 : List Value} {ls : List (List En)} {bs : List (Nat × Nat)} {os rs : List Int} {Q : Nat → Nat} {v : Nat → Value} {B : Nat}
    (e4 : T' 4 = .lc v4 us4 (ls ++ [L j])) (e5 : T' 5 = .lr v5 us5 (ls ++ [L j])) (hl : ls.length ≤ a ∧ ∀ l ∈ ls, l.length ≤ 64 ∧ EnsWf l)
    (hc : ∀ j, j < 2 → T j = .cac (Q j) n (v j) (L j) (nxR (s j) (p j))) (e6 : T' 6 = .sq v6 (bs ++ [(B, Q j)])) (e7 : T' 7 = .row 3 v7 (I6 (os ++ [(j : Int)]))) (e8 : T' 8 = .row 3 v8 (I6 (rs ++ [g j]))) (ho : os.length = bs.length) (hr : rs.length = bs.length) (hb : bs.length ≤ a)
    (hk : ∀ k, k < bs.length → ∃ j : Nat, j < 2 ∧ os[k]? = some (j : Int) ∧ ∃ r, rs[k]? = some r ∧ r ≤ g j ∧ -9000 ≤ r ∧ (r = g j → (bs[k]?).map (·.2) = some (Q j))) : Sh T' n L s p g (a + 1) := by
  refine ⟨hs.ok, fun i hi => ⟨(hs.gen i hi).1, by have := (hs.gen i hi).2; omega⟩, fun i hi => by rw [h4 (i + 2) (by omega)]; exact hs.ref i hi, ⟨v4, us4, v5, us5, ls ++ [L j], e4, e5, by simp; omega, fun l hl' => ?_⟩, ⟨Q, v, v6, v7, v8, bs ++ [(B, Q j)], os ++ [(j : Int)], rs ++ [g j], fun i hi => by rw [h4 i (by omega)]; exact hc i hi, e6, e7, e8, by simp [ho], by simp [hr], by simp; omega, fun k hk' => ?_⟩⟩
  · rcases List.mem_append.1 hl' with h | h
    · exact hl.2 l h
    · rw [List.mem_singleton.1 h]; exact ⟨(hs.ok j hj).1.few, (hs.ok j hj).1.wf⟩
  · rcases Nat.lt_or_ge k bs.length with h | h
    · obtain ⟨i, hi, h1, r, h2, h3⟩ := hk k h
      exact ⟨i, hi, by rw [List.getElem?_append_left (by omega)]; exact h1, r, by rw [List.getElem?_append_left (by omega)]; exact h2, h3.1, h3.2.1, fun e => by rw [List.getElem?_append_left h]; exact h3.2.2 e⟩
    · have ek : k = bs.length := by simp at hk'; omega
      subst ek
      have := (hs.gen j hj).1
      exact ⟨j, hj, by rw [← ho]; simp, g j, by rw [← hr]; simp, Int.le_refl _, by omega, fun _ => by simp⟩
/-- behind the appends -/
def FrA (w0 : World) (P B0 : Nat) (n : Int) (LL : Nat → List En) (s : Nat → Bool) (p g : Nat → Int) (m : Nat) (a : Act) (w : World) : Prop := ∃ T G, a.tmps.size = 196 ∧ slotAt a 0 = .pointer (some ⟨P, 0, none⟩) ∧ slotAt a 6 = .pointer (some ⟨B0, 0, none⟩) ∧ a.defers = [] ∧ PS w0 w P (pcs T g) T G ∧ Sh T n LL s p g m ∧ T 12 = .one 4 B0 (.bool false)
/-- between two sequences -/
def FrL (w1 : World) (P B0 m : Nat) (a : Act) (w : World) : Prop := ∃ (i : Nat) (ds : List Nat), i ≤ m ∧ Hid (Below w1.heap.size w1 w) ∧ Hid (Marks w1.heap.size w ds) ∧ a.tmps.size = 196 ∧ slotAt a 0 = .pointer (some ⟨P, 0, none⟩) ∧ slotAt a 6 = .pointer (some ⟨B0, 0, none⟩) ∧ slotAt a 14 = .int .i64 i ∧ a.defers = ds.map dmark
def mL (m : Nat) (a : Act) : Nat := m - (intOf (slotAt a 14)).toNat
theorem mL_is {m i : Nat} {a : Act} (h : slotAt a 14 = .int .i64 i) : mL m a = m - i := by unfold mL; rw [h]; simp [intOf]
theorem asked_end {w0 x : World} {P B0 a j : Nat} {n : Int} {LL : Nat → List En} {s : Nat → Bool} {p g : Nat → Int} {T TA T' : Nat → Th} {G : Nat → Prop} {v4 v5 v6 v7 v8 : Value} {us4 us5 : List Value} {ls : List (List En)} {bs : List (Nat × Nat)} {os rs : List Int} {Q : Nat → Nat} {v : Nat → Value} {B : Nat} {fr : Act}
    (h : PS w0 x P ((((pcs TA g).setIfInBounds 6 v6).setIfInBounds 7 v7).setIfInBounds 10 v8) T' G) (hs : Sh T n LL s p g a) (hj : j < 2) (kf : ∀ i, i < 6 → T' i = TA i) (k4 : ∀ i, i < 4 → TA i = T i)
    (e4 : TA 4 = .lc v4 us4 (ls ++ [LL j])) (e5 : TA 5 = .lr v5 us5 (ls ++ [LL j])) (hl : ls.length ≤ a ∧ ∀ l ∈ ls, l.length ≤ 64 ∧ EnsWf l)
    (hc : ∀ j, j < 2 → T j = .cac (Q j) n (v j) (LL j) (nxR (s j) (p j))) (e6 : T' 6 = .sq v6 (bs ++ [(B, Q j)])) (e7 : T' 7 = .row 3 v7 (I6 os ++ [.int .i64 (j : Int)])) (e8 : T' 8 = .row 3 v8 (I6 rs ++ [.int .i64 (g j)])) (ho : os.length = bs.length) (hr : rs.length = bs.length) (hb : bs.length ≤ a)
    (hk : ∀ k, k < bs.length → ∃ j : Nat, j < 2 ∧ os[k]? = some (j : Int) ∧ ∃ r, rs[k]? = some r ∧ r ≤ g j ∧ -9000 ≤ r ∧ (r = g j → (bs[k]?).map (·.2) = some (Q j))) (e12 : T' 12 = .one 4 B0 (.bool false)) (f1 : fr.tmps.size = 196) (f2 : slotAt fr 0 = .pointer (some ⟨P, 0, none⟩)) (f3 : slotAt fr 6 = .pointer (some ⟨B0, 0, none⟩)) (f4 : fr.defers = []) : FrA w0 P B0 n LL s p g (a + 1) fr x := by
  refine ⟨T', G, f1, f2, f3, f4, ?_, hs.asked hj (fun i hi => (kf i (by omega)).trans (k4 i hi)) ((kf 4 (by decide)).trans e4) ((kf 5 (by decide)).trans e5) hl hc e6 (v7 := v7) (by rw [e7]; simp [I6]) (v8 := v8) (by rw [e8]; simp [I6]) ho hr hb hk, e12⟩
  have : pcs T' g = (((pcs TA g).setIfInBounds 6 v6).setIfInBounds 7 v7).setIfInBounds 10 v8 := by
    simp only [pcs, kf 0 (by decide), kf 1 (by decide), kf 2 (by decide), kf 3 (by decide), kf 4 (by decide), kf 5 (by decide), e6, e7, e8]
    rfl
  rw [this]
  exact h
theorem results_b {fn : Func} (h : fn.results = #[.cell 6 4]) (tmps : Array Value) (w : World) {B0 : Nat} (hp : tmps.getD 6 undef = .pointer (some ⟨B0, 0, none⟩)) (hc : w.cell? ⟨B0, 0, none⟩ = some (.bool true)) : (results fn tmps).run Tryd.prog w = .ok (.bool true) w := by
  have hp' : tmps[6]?.getD undef = .pointer (some ⟨B0, 0, none⟩) := by simpa using hp
  simp [results, h, hp', asAddr, loadVar, hc, go_sem]
theorem asks_end {w0 w9 : World} {P B0 m : Nat} {n : Int} {LL : Nat → List En} {s : Nat → Bool} {p g : Nat → Int} {T : Nat → Th} {G : Nat → Prop} (h : PS w0 w9 P (pcs T g) T G) (hs : Sh T n LL s p g m) (e12 : T 12 = .one 4 B0 (.bool false)) : ∀ w', Below w9.heap.size (w9.setCell ⟨B0, 0, none⟩ (.bool true)) w' → St w0 w' P n m ∧ w'.cell? ⟨B0, 0, none⟩ = some (.bool true) := by
  have hB : w9.heap[B0]? = some (.cells #[.bool false] 4 (0, 0)) := by have := h.fam.at' 12 (by decide); rw [e12] at this; exact this
  have hB2 : (w9.setCell ⟨B0, 0, none⟩ (.bool true)).heap[B0]? = some (.cells #[.bool true] 4 (0, 0)) := by
    rw [setCell_eq_setRow w9 B0 0 _ 4 (0, 0) _ hB]
    exact setRow_heap w9 B0 _ _ 4 _ hB
  have hz9 : (w9.setCell ⟨B0, 0, none⟩ (.bool true)).heap.size = w9.heap.size := by rw [setCell_eq_setRow w9 B0 0 _ 4 (0, 0) _ hB]; simp [World.setRow]
  have h1 : PS w0 (w9.setCell ⟨B0, 0, none⟩ (.bool true)) P (pcs T g) (put T 12 (.one 4 B0 (.bool true))) G := h.turn (i := 12) (by decide) (t := .one 4 B0 (.bool true)) (G' := G) (S := fun b => b = B0) hB2 (Kept.setCell B0 0 _) (fun b hb => by rw [e12]; exact hb) (fun b hb => .inl (by rw [e12]; exact hb)) (fun _ hg => hg) (fun _ hg => .inl hg)
  intro w' hb
  have hb' : Below (w9.setCell ⟨B0, 0, none⟩ (.bool true)).heap.size (w9.setCell ⟨B0, 0, none⟩ (.bool true)) w' := by rw [hz9]; exact hb
  refine ⟨⟨put T 12 (.one 4 B0 (.bool true)), G, LL, s, p, g, h1.later hb', ?_⟩, ?_⟩
  · have k : ∀ i, i < 9 → put T 12 (.one 4 B0 (.bool true)) i = T i := fun i hi => put_other _ _ (by omega)
    obtain ⟨v4, us4, v5, us5, ls, e4, e5, hl⟩ := hs.ls
    obtain ⟨Q, v, v6, v7, v8, bs, os, rs, hc, e6, e7, e8, h3⟩ := hs.cs
    exact ⟨hs.ok, hs.gen, fun j hj => by rw [k (j + 2) (by omega)]; exact hs.ref j hj, ⟨v4, us4, v5, us5, ls, by rw [k 4 (by decide)]; exact e4, by rw [k 5 (by decide)]; exact e5, hl⟩, ⟨Q, v, v6, v7, v8, bs, os, rs, fun j hj => by rw [k j (by omega)]; exact hc j hj, by rw [k 6 (by decide)]; exact e6, by rw [k 7 (by decide)]; exact e7, by rw [k 8 (by decide)]; exact e8, h3⟩⟩
  · have hk : w'.heap[B0]? = some (.cells #[.bool true] 4 (0, 0)) := (hb'.block B0 (Array.getElem?_eq_some_iff.1 hB2).1).trans hB2
    rw [cell_of_row _ B0 0 _ 4 (0, 0) hk]; rfl
section
variable {w0 w : World} {P a j : Nat} {n : Int}
set_option maxRecDepth 100000 in
set_option maxHeartbeats 8000000 in
theorem asks_any (h : St w0 w P n a) (hT : Tab w0) (hj : j < 2) (ha : a ≤ 8000) (k : Int) : Calls Tryd.prog 10 #[.pointer (some ⟨P, 0, none⟩), .int .i64 (j : Int), .int .i64 k] w fun e w' => e = .returned (.bool true) ∧ St w0 w' P n (a + 1) := by
  obtain ⟨T, G, LL, s, p, g, hP, hs⟩ := h
  obtain ⟨R, vr, er⟩ := hs.ref j hj
  obtain ⟨v4, us4, v5, us5, ls, e4, e5, hls⟩ := hs.ls
  obtain ⟨Q, v, v6, v7, v8, bs, os, rs, hc, e6, e7, e8, hos, hrs, hbs, hks⟩ := hs.cs
  have HSH : Hid (Sh T n LL s p g a) := hs
  have HKS : Hid (∀ k, k < bs.length → ∃ j : Nat, j < 2 ∧ os[k]? = some (j : Int) ∧ ∃ r, rs[k]? = some r ∧ r ≤ g j ∧ -9000 ≤ r ∧ (r = g j → (bs[k]?).map (·.2) = some (Q j))) := hks
  have HLS : Hid (ls.length ≤ a ∧ ∀ l ∈ ls, l.length ≤ 64 ∧ EnsWf l) := hls
  have HCC : Hid (∀ j, j < 2 → T j = .cac (Q j) n (v j) (LL j) (nxR (s j) (p j))) := hc
  have HOK : Hid (Okc n (LL j) (nxR (s j) (p j))) := (hs.ok j hj).1
  have ej := hc j hj
  have HGEN : Hid (∀ j, j < 2 → 0 ≤ g j ∧ g j ≤ a) := hs.gen
  have hj0 : (0 : Int) ≤ (j : Int) := by omega
  have hj1 : (j : Int) < 2 := by omega
  obtain ⟨w1, hw1⟩ : ∃ w1, w.alloc (.cells #[.bool false] 4) = w1 := ⟨_, rfl⟩
  obtain ⟨B0, hB0⟩ : ∃ B0, w.heap.size = B0 := ⟨_, rfl⟩
  have HP1 : Hid (PS w0 w1 P (pcs T g) (put T 12 (.one 4 B0 (.bool false))) G) := by rw [← hw1, ← hB0]; exact hP.fresh (below_alloc _ _) 12 (heap_alloc_new w _) (fun b hb => by rw [show b = w.heap.size from hb]; exact Nat.le_refl _)
  have t1 : ∀ t, (w1.drewN t).cell? ⟨P, j, none⟩ = some (.pointer (some ⟨Q j, 0, none⟩)) := fun t => by
    have := HP1.out.cell (j := j) (pcs_get (by omega))
    rw [ej] at this
    exact this
  have t2 : ∀ t, (w1.drewN t).cell? ⟨P, 2 + j, none⟩ = some (.pointer (some ⟨R, 0, none⟩)) := fun t => by
    have := HP1.out.cell (j := j + 2) (pcs_get (by omega))
    rw [er, Nat.add_comm] at this
    exact this
  have HPt : Hid (∀ t, PS w0 (w1.drewN t) P (pcs T g) (put T 12 (.one 4 B0 (.bool false))) G) := fun t => HP1.out.later (below_drawn _)
  clear hP hs hls hc hks
  refine (callsIn_wide (n := 9)).1 ?_
  refine callsIn_of_wp_marks Tryd.func10 rfl trivial ?_ rfl
  simp only [Tryd.ntmps10, List.size_toArray, List.length_cons, List.length_nil, Nat.reduceAdd, Nat.reduceSub, Array.replicate_succ, Array.replicate_zero, List.push_toArray, List.append_toArray, List.nil_append, List.cons_append]
  refine wpIn_wide.2 ?_
  go_wp2_with fail
  go_quiet (fail)
  have HP2 : Hid (PS w0 (w1.drewN nq) P (pcs T g) (put T 12 (.one 4 B0 (.bool false))) G) := HPt.out nq
  clear t1 t2 HPt HP1 hw1 hB0
  generalize w1.drewN nq = w2 at *
  have hst2 := (HP2.out.cac (j := j) (by omega) (by rw [put_other _ _ (by omega)]; exact ej)).stands HOK.out
  go_wp2_with fail
  refine (entries_any hst2).mono ?_
  rintro e w3 ⟨ua, rfl, hoa, hb3⟩
  obtain ⟨pa, ca, rfl, -, -⟩ := O.own_form hoa
  have HP3 : Hid (PS w0 w3 P (pcs T g) (put (put T 12 (.one 4 B0 (.bool false))) 9 (.ec (.slice pa (LL j).length ca) (LL j))) G) := HP2.out.fresh hb3 9 (own_mono hoa (Nat.zero_le _)) (fun b hb => (hoa.lt b hb).1)
  have hst3 := hst2.later hb3
  clear hoa hb3 hst2 HP2
  go_wp2_with fail
  refine (entries_any hst3).mono ?_
  rintro e w4 ⟨ub, rfl, hob, hb4⟩
  obtain ⟨pb, cb, rfl, -, -⟩ := O.own_form hob
  obtain ⟨T4, hT4⟩ : ∃ T4, T4 = put (put (put T 12 (.one 4 B0 (.bool false))) 9 (.ec (.slice pa (LL j).length ca) (LL j))) 13 (.ec (.slice pb (LL j).length cb) (LL j)) := ⟨_, rfl⟩
  have hp4 : PS w0 w4 P (pcs T g) T4 G := by rw [hT4]; exact HP3.out.fresh hb4 13 (own_mono hob (Nat.zero_le _)) (fun b hb => (hob.lt b hb).1)
  have k4 : ∀ i, i < 9 → T4 i = T i := fun i hi => by rw [hT4, put_other _ _ (by omega), put_other _ _ (by omega), put_other _ _ (by omega)]
  have hpc4 : pcs T g = pcs T4 g := by simp only [pcs, k4 0 (by decide), k4 1 (by decide), k4 2 (by decide), k4 3 (by decide), k4 4 (by decide), k4 5 (by decide), k4 6 (by decide), k4 7 (by decide), k4 8 (by decide)]
  rw [hpc4] at hp4
  have HP4 : Hid (PS w0 w4 P (pcs T4 g) T4 G) := hp4
  have f9 : T4 9 = .ec (.slice pa (LL j).length ca) (LL j) := by rw [hT4, put_other _ _ (by decide)]; exact put_same _ _ _
  have f12 : T4 12 = .one 4 B0 (.bool false) := by rw [hT4, put_other _ _ (by decide), put_other _ _ (by decide)]; exact put_same _ _ _
  have f13 : T4 13 = .ec (.slice pb (LL j).length cb) (LL j) := by rw [hT4]; exact put_same _ _ _
  clear hT4 hob hb4 hst3 HP3 hp4 hpc4
  go_wp2_with fail
  refine (keep_at HP4.out f9 (by rw [k4 4 (by decide)]; exact e4) (by rw [k4 5 (by decide)]; exact e5) ⟨HOK.out.few, HOK.out.wf⟩ (by have := HLS.out.1; omega)).mono ?_
  rintro e w5 ⟨rfl, T5, hp5, k5, v4', v5', u5, f4, f5⟩
  have hbd : Below w5.heap.size w5 w5.drew := below_drawn 1
  have hp5d := hp5.later hbd
  have g12 : T5 12 = .one 4 B0 (.bool false) := by rw [k5 12 (by omega) (by decide) (by decide)]; exact f12
  have g13 : T5 13 = .ec (.slice pb (LL j).length cb) (LL j) := by rw [k5 13 (by omega) (by decide) (by decide)]; exact f13
  have HK5 : Hid (∀ i, i < 9 → i ≠ 4 → i ≠ 5 → T5 i = T i) := fun i h1 h2 h3 => by rw [k5 i (by omega) h2 h3]; exact k4 i h1
  have hL64 := HOK.out.few
  have HR5 : Hid (RAt w5.drew R n vr (LL j) (s j) (p j)) := hp5d.ref (j := j + 2) (by omega) (by rw [HK5.out (j + 2) (by omega) (by omega) (by omega)]; exact er)
  obtain ⟨pr, cr, hvr, hIr, hcr⟩ := HR5.out.ein HOK.out.wf
  subst hvr
  have HIr : Hid (EIn w5.drew pr (LL j).length (LL j)) := hIr
  have HIa : Hid (EIn w5.drew pa (LL j).length (LL j)) := by
    have hr := (hp5d.ls (by decide) f4).each rfl us4.length (.slice pa (LL j).length ca) (LL j) (by simp) (by
      have := (HP4.out.ls (j := 4) (by decide) (by rw [k4 4 (by decide)]; exact e4)).len
      rw [← this]; simp)
    obtain ⟨p', c', e', hm', -⟩ := EOwn.in hr HOK.out.wf
    cases e'; exact hm'
  have HIb : Hid (EIn w5.drew pb (LL j).length (LL j)) := by
    have hr : EOwn 57 w5.drew 0 (.slice pb (LL j).length cb) (LL j) := by have := hp5d.fam.at' 13 (by decide); rw [g13] at this; exact this
    obtain ⟨p', c', e', hm', -⟩ := EOwn.in hr HOK.out.wf
    cases e'; exact hm'
  have HP5 : Hid (PS w0 w5.drew P (pcs T5 g) T5 G) := hp5d
  have HC4 : Hid (∀ W, Below w5.drew.heap.size w5.drew W → W.cell? ⟨R, 1, none⟩ = some (.slice pr (LL j).length cr)) := fun W hW => (HR5.out.later hW).c1
  have HWF : Hid (EnsWf (LL j)) := HOK.out.wf
  clear hp5 hp5d hbd f9 f12 f13 k4 k5 HP4 hIr
  go_wp2_with fail
  refine wp_region_noPanic ?_
  refine wp_region_held_drew (S := fun W => Below w5.drew.heap.size w5.drew W) (by kernel_rfl) (Below.refl _ _) (fun hHeld => ?_)
  generalize w5.drew = wD at *
  generalize hL : LL j = L at *
  refine wpAnyH_take (i := 0) (v := ?va1) (by simp; rfl) (by kernel_rfl) (by kernel_rfl) (by kernel_rfl) (fun _ _ _ h => h) (Or.inl ⟨by rfl, ?ya1⟩) hHeld ?ra1
  case ya1 => intro w hSw; clear hSw; go_simp; with_reducible rfl
  simp only [Act.put, List.setIfInBounds_toArray, List.set_cons_zero, List.set_cons_succ]
  refine wpAnyH_take (i := 2) (v := ?va2) (by simp; rfl) (by kernel_rfl) (by kernel_rfl) (by kernel_rfl) (fun _ _ _ h => h) (Or.inl ⟨by rfl, ?ya2⟩) hHeld ?ra2
  case ya2 => intro w hSw; clear hSw; go_simp; with_reducible rfl
  simp only [Act.put, List.setIfInBounds_toArray, List.set_cons_zero, List.set_cons_succ]
  refine wpAnyH_take (i := 3) (v := ?va3) (by simp; rfl) (by kernel_rfl) (by kernel_rfl) (by kernel_rfl) (fun _ _ _ h => h) (Or.inl ⟨by rfl, ?ya3⟩) hHeld ?ra3
  case ya3 => intro w hSw; clear hSw; go_simp; with_reducible rfl
  simp only [Act.put, List.setIfInBounds_toArray, List.set_cons_zero, List.set_cons_succ]
  refine wpAnyH_take (i := 4) (v := ?va4) (by simp; rfl) (by kernel_rfl) (by kernel_rfl) (by kernel_rfl) (fun _ _ _ h => h) (Or.inl ⟨by rfl, ?ya4⟩) hHeld ?ra4
  case ya4 => intro w hSw; clear hSw; go_simp; with_reducible rfl
  simp only [Act.put, List.setIfInBounds_toArray, List.set_cons_zero, List.set_cons_succ]
  refine wpAnyH_take (i := 5) (v := ?va5) (by simp; rfl) (by kernel_rfl) (by kernel_rfl) (by kernel_rfl) (fun _ _ _ h => h) (Or.inl ⟨by rfl, ?ya5⟩) hHeld ?ra5
  case ya5 => intro w hSw; have z1 := HC4.out w hSw; clear hSw; go_simp; with_reducible rfl
  simp only [Act.put, List.setIfInBounds_toArray, List.set_cons_zero, List.set_cons_succ]
  refine wpAnyH_ready (rs := [1]) (by kernel_rfl) (by simp) ?_
  refine AllReadyH.cons (by simp; rfl) (fun Kc hKc => ?_) AllReadyH.nil
  go_simp
  refine (plain_at (HIa.out.later hHeld) (by omega)).mono ?_
  rintro e y1 ⟨u1, rfl, ho, hb⟩
  obtain ⟨pp1, cc1, e1, hE, -, -⟩ := EOwn.in ho HWF.out
  subst e1
  have HBy1 : Hid (Below wD.heap.size wD y1) := below_then hHeld hb
  have HEy1 : Hid (EIn y1 pp1 L.length L) := hE
  refine hKc.out _ _ HBy1.out (fun hHeld => ?_)
  clear hKc Kc ho hb hE
  refine wpAnyH_ready (rs := [6]) (by kernel_rfl) (by simp) ?_
  refine AllReadyH.cons (by simp; rfl) (fun Kc hKc => ?_) AllReadyH.nil
  go_simp
  refine (same_at HEy1.out (HIr.out.later hHeld) (by omega)).mono ?_
  rintro e y2 ⟨rfl, hb⟩
  rw [ensB_yes rfl]
  have HBy2 : Hid (Below wD.heap.size wD y2) := below_then hHeld hb
  refine hKc.out _ _ HBy2.out (fun hHeld => ?_)
  clear hKc Kc hb
  refine wpAnyH_take (i := 7) (v := ?va6) (by simp; rfl) (by kernel_rfl) (by kernel_rfl) (by kernel_rfl) (fun _ _ _ h => h) (Or.inl ⟨by rfl, ?ya6⟩) hHeld ?ra6
  case ya6 => intro w hSw; clear hSw; go_simp; with_reducible rfl
  simp only [Act.put, List.setIfInBounds_toArray, List.set_cons_zero, List.set_cons_succ]
  refine wpAnyH_take (i := 8) (v := ?va7) (by simp; rfl) (by kernel_rfl) (by kernel_rfl) (by kernel_rfl) (fun _ _ _ h => h) (Or.inl ⟨by rfl, ?ya7⟩) hHeld ?ra7
  case ya7 => intro w hSw; clear hSw; go_simp; with_reducible rfl
  simp only [Act.put, List.setIfInBounds_toArray, List.set_cons_zero, List.set_cons_succ]
  refine wpAnyH_take (i := 9) (v := ?va8) (by simp; rfl) (by kernel_rfl) (by kernel_rfl) (by kernel_rfl) (fun _ _ _ h => h) (Or.inl ⟨by rfl, ?ya8⟩) hHeld ?ra8
  case ya8 => intro w hSw; clear hSw; go_simp; with_reducible rfl
  simp only [Act.put, List.setIfInBounds_toArray, List.set_cons_zero, List.set_cons_succ]
  refine wpAnyH_take (i := 11) (v := ?va9) (by simp; rfl) (by kernel_rfl) (by kernel_rfl) (by kernel_rfl) (fun _ _ _ h => h) (Or.inl ⟨by rfl, ?ya9⟩) hHeld ?ra9
  case ya9 => intro w hSw; clear hSw; go_simp; with_reducible rfl
  simp only [Act.put, List.setIfInBounds_toArray, List.set_cons_zero, List.set_cons_succ]
  refine wpAnyH_take (i := 12) (v := ?va10) (by simp; rfl) (by kernel_rfl) (by kernel_rfl) (by kernel_rfl) (fun _ _ _ h => h) (Or.inl ⟨by rfl, ?ya10⟩) hHeld ?ra10
  case ya10 => intro w hSw; clear hSw; go_simp; with_reducible rfl
  simp only [Act.put, List.setIfInBounds_toArray, List.set_cons_zero, List.set_cons_succ]
  refine wpAnyH_take (i := 13) (v := ?va11) (by simp; rfl) (by kernel_rfl) (by kernel_rfl) (by kernel_rfl) (fun _ _ _ h => h) (Or.inl ⟨by rfl, ?ya11⟩) hHeld ?ra11
  case ya11 => intro w hSw; clear hSw; go_simp; with_reducible rfl
  simp only [Act.put, List.setIfInBounds_toArray, List.set_cons_zero, List.set_cons_succ]
  refine wpAnyH_take (i := 14) (v := ?va12) (by simp; rfl) (by kernel_rfl) (by kernel_rfl) (by kernel_rfl) (fun _ _ _ h => h) (Or.inl ⟨by rfl, ?ya12⟩) hHeld ?ra12
  case ya12 => intro w hSw; have z1 := HC4.out w hSw; clear hSw; go_simp; with_reducible rfl
  simp only [Act.put, List.setIfInBounds_toArray, List.set_cons_zero, List.set_cons_succ]
  refine wpAnyH_ready (rs := [10]) (by kernel_rfl) (by simp) ?_
  refine AllReadyH.cons (by simp; rfl) (fun Kc hKc => ?_) AllReadyH.nil
  go_simp
  refine (plain_at (HIb.out.later hHeld) (by omega)).mono ?_
  rintro e y3 ⟨u3, rfl, ho, hb⟩
  obtain ⟨pp3, cc3, e3, hE, -, -⟩ := EOwn.in ho HWF.out
  subst e3
  have HBy3 : Hid (Below wD.heap.size wD y3) := below_then hHeld hb
  have HEy3 : Hid (EIn y3 pp3 L.length L) := hE
  refine hKc.out _ _ HBy3.out (fun hHeld => ?_)
  clear hKc Kc ho hb hE
  refine wpAnyH_ready (rs := [15]) (by kernel_rfl) (by simp) ?_
  refine AllReadyH.cons (by simp; rfl) (fun Kc hKc => ?_) AllReadyH.nil
  go_simp
  refine (same_at HEy3.out (HIr.out.later hHeld) (by omega)).mono ?_
  rintro e y4 ⟨rfl, hb⟩
  rw [ensB_yes rfl]
  have HBy4 : Hid (Below wD.heap.size wD y4) := below_then hHeld hb
  refine hKc.out _ _ HBy4.out (fun hHeld => ?_)
  clear hKc Kc hb
  refine wpAnyH_take (i := 16) (v := ?va13) (by simp; rfl) (by kernel_rfl) (by kernel_rfl) (by kernel_rfl) (fun _ _ _ h => h) (Or.inl ⟨by rfl, ?ya13⟩) hHeld ?ra13
  case ya13 => intro w hSw; clear hSw; go_simp; with_reducible rfl
  simp only [Act.put, List.setIfInBounds_toArray, List.set_cons_zero, List.set_cons_succ]
  refine wpAnyH_take (i := 17) (v := ?va14) (by simp; rfl) (by kernel_rfl) (by kernel_rfl) (by kernel_rfl) (fun _ _ _ h => h) (Or.inl ⟨by rfl, ?ya14⟩) hHeld ?ra14
  case ya14 => intro w hSw; clear hSw; go_simp; with_reducible rfl
  simp only [Act.put, List.setIfInBounds_toArray, List.set_cons_zero, List.set_cons_succ]
  refine wpAnyH_done (by kernel_rfl) (NoPanic.normal ?_) _
  have HPy : Hid (PS w0 y4 P (pcs T5 g) (put T5 13 (.ec (.slice pb L.length cb) L)) G) := by rw [put_idem _ _ g13]; exact HP5.out.later HBy4.out
  clear HBy1 HBy2 HBy3 HBy4 HEy1 HEy3 HIa HIb HC4 hHeld
  go_wp2_with fail
  go_loopw [11] (fun u W => ∃ (i : Nat) (Z : List En), u = .int .i64 (i : Int) ∧ i ≤ L.length ∧ Hid (PS w0 W P (pcs T5 g) (put T5 13 (.ec (.slice pb L.length cb) Z)) G) ∧ Hid (Z.length = L.length ∧ EnsWf Z)) (fun u _ => L.length - (intOf u).toNat)
  case atStart => exact ⟨0, L, rfl, by omega, HPy, (⟨rfl, HWF.out⟩ : L.length = L.length ∧ EnsWf L)⟩
  case round =>
    obtain ⟨i, Z, rfl, hi, HPz, HZ⟩ := hrel
    by_cases hlt : i < L.length
    · have hrow : EOwn 57 wr 0 (.slice pb L.length cb) Z := by have := HPz.out.fam.at' 13 (by decide); rw [put_same] at this; exact this
      obtain ⟨p', c', e', hc', hg'⟩ := O.own_form hrow
      rw [HZ.out.1] at e' hg'
      cases e'
      obtain ⟨gb, rfl⟩ := hg' (by omega)
      have hrow2 := hrow
      obtain ⟨W', hst, ho, hgr⟩ := EOwn.put etC hrow HZ.out.2 mkE mkE_wf i (by rw [HZ.out.1]; exact hlt)
      have HLM : Hid ((Instr.loadAt 57 (.pointer (some ⟨0, 0, none⟩))).run Tryd.prog wr = .ok (.agg (ecells mkE).toArray) wr) := (hT.later HPz.out.below).load
      have HST : Hid ((Instr.storeAt 57 (.pointer (some ⟨gb, i * 34, none⟩)) (.agg (ecells mkE).toArray)).run Tryd.prog wr = .ok () W') := hst
      have hzl : (Z.take i ++ [mkE] ++ Z.drop (i + 1)).length = L.length := by have := HZ.out.1; simp; omega
      have HZ2 : Hid ((Z.take i ++ [mkE] ++ Z.drop (i + 1)).length = L.length ∧ EnsWf (Z.take i ++ [mkE] ++ Z.drop (i + 1))) := ⟨hzl, fun x hx => by
        rcases List.mem_append.1 hx with hx | hx
        · rcases List.mem_append.1 hx with hx | hx
          · exact HZ.out.2 x (List.mem_of_mem_take hx)
          · rw [List.mem_singleton.1 hx]; exact mkE_wf
        · exact HZ.out.2 x (List.mem_of_mem_drop hx)⟩
      have HPw : Hid (PS w0 W' P (pcs T5 g) (put T5 13 (.ec (.slice (some ⟨gb, 0, none⟩) L.length cb) (Z.take i ++ [mkE] ++ Z.drop (i + 1)))) G) := by
        have := HPz.out.turn (i := 13) (by decide) (t := .ec (.slice (some ⟨gb, 0, none⟩) L.length cb) (Z.take i ++ [mkE] ++ Z.drop (i + 1))) (G' := G) (S := fun b => (Value.slice (some ⟨gb, 0, none⟩) L.length cb).ownBlock = some b) ho (O.kept_grown (v := .slice (some ⟨gb, 0, none⟩) L.length cb) hgr) (fun b hb => by rw [put_same]; exact hb) (fun b hb => .inl (by rw [put_same]; exact hb)) (fun _ hg => hg) (fun _ hg => .inl hg)
        rw [put_put] at this
        exact this
      have i1 : (i : Int) < (L.length : Int) := by omega
      clear hst ho hgr hrow hrow2 hzl HPy HPz
      go_wp2_with ((with_reducible refine at_ops ?_); (first | ((refine wpList_load_is (by rfl) 57 rfl rfl HLM.out ?_); simp only [Act.put, List.setIfInBounds_toArray, List.set_cons_zero, List.set_cons_succ]) | ((refine wpList_store_is (by rfl) 57 rfl rfl rfl HST.out ?_); simp only [Act.put])))
      go_roundw
      case rel => exact ⟨i + 1, _, by congr 1, by omega, HPw, HZ2⟩
      case measure => simp [intOf]; omega
    · have hst6 := (HPz.out.cac (j := j) (by omega) (by rw [put_other _ _ (by omega), HK5.out j (by omega) (by omega) (by omega), ej])).stands HOK.out
      obtain ⟨kk, hkk⟩ : ∃ kk : Nat, (kk : Int) = max k 0 := ⟨(max k 0).toNat, by omega⟩
      obtain ⟨mm, hmm⟩ : ∃ mm : Nat, (mm : Int) = min (kk : Int) (L.length : Int) := ⟨(min (kk : Int) (L.length : Int)).toNat, by omega⟩
      have HMX : Hid (∀ W, (Builtin.max_ #[3, 3] 3 #[.int .i64 k, .int .i64 0]).run Tryd.prog W = .ok (.int .i64 (kk : Int)) W) := fun W => by rw [hkk]; exact run_max W k 0
      have HMN : Hid (∀ W, (Builtin.min_ #[3, 3] 3 #[.int .i64 (kk : Int), .int .i64 (L.length : Int)]).run Tryd.prog W = .ok (.int .i64 (mm : Int)) W) := fun W => by rw [hmm]; exact run_min W _ _
      have hml : mm ≤ L.length := by omega
      have HTT : Hid (L.take kk = L.take mm) := by
        show _ = _
        by_cases hq : kk ≤ L.length
        · rw [show mm = kk by omega]
        · rw [List.take_of_length_le (by omega), List.take_of_length_le (by omega)]
      clear HPy HZ hkk hmm
      go_wp2_with ((with_reducible refine at_ops ?_); (refine wpList_max_is (u1 := .int .i64 k) (u2 := .int .i64 0) (by rfl) rfl rfl rfl rfl (HMX.out _) ?_); simp only [Act.put, List.setIfInBounds_toArray, List.set_cons_zero, List.set_cons_succ])
      refine (given_any hst6 (kk : Int)).mono ?_
      rintro e w7 ⟨ul, rfl, hol, hb7⟩
      rw [Int.toNat_natCast, HTT.out] at hol
      obtain ⟨pl, cl, hul, hEl, -, -⟩ := EOwn.in hol (fun x hx => HWF.out x (List.mem_of_mem_take hx))
      rw [List.length_take, Nat.min_eq_left hml] at hul hEl
      subst hul
      have hbd7 : Below w7.heap.size w7 w7.drew := below_drawn 1
      have HP7 : Hid (PS w0 w7.drew P (pcs T5 g) (put T5 13 (.ec (.slice pb L.length cb) Z)) G) := (HPz.out.later hb7).later hbd7
      have HEl : Hid (EIn w7.drew pl mm (L.take mm)) := hEl.later hbd7
      have HR7 : Hid (RAt w7.drew R n (.slice pr L.length cr) L (s j) (p j)) := HP7.out.ref (j := j + 2) (by omega) (by rw [put_other _ _ (by omega), HK5.out (j + 2) (by omega) (by omega) (by omega)]; exact er)
      have HI7 : Hid (EIn w7.drew pr mm (L.take mm)) := by
        obtain ⟨p', c', e', hm', -⟩ := HR7.out.ein HWF.out
        cases e'; exact hm'.take mm hml
      have HC7 : Hid (∀ W, Below w7.drew.heap.size w7.drew W → W.cell? ⟨R, 1, none⟩ = some (.slice pr L.length cr)) := fun W hW => (HR7.out.later hW).c1
      have hmc : mm ≤ cr := by omega
      clear hol hb7 hEl hbd7 HPz hst6
      go_wp2_with fail
      refine wp_region_noPanic ?_
      refine wp_region_held_drew (S := fun W => Below w7.drew.heap.size w7.drew W) (by kernel_rfl) (Below.refl _ _) (fun hHeld => ?_)
      generalize w7.drew = wE at *
      refine wpAnyH_take (i := 0) (v := ?va15) (by simp; rfl) (by kernel_rfl) (by kernel_rfl) (by kernel_rfl) (fun _ _ _ h => h) (Or.inl ⟨by rfl, ?ya15⟩) hHeld ?ra15
      case ya15 => intro w hSw; clear hSw; go_simp; with_reducible rfl
      simp only [Act.put, List.setIfInBounds_toArray, List.set_cons_zero, List.set_cons_succ]
      refine wpAnyH_take (i := 1) (v := ?va16) (by simp; rfl) (by kernel_rfl) (by kernel_rfl) (by kernel_rfl) (fun _ _ _ h => h) (Or.inl ⟨by rfl, ?ya16⟩) hHeld ?ra16
      case ya16 => intro w hSw; clear hSw; go_simp; with_reducible rfl
      simp only [Act.put, List.setIfInBounds_toArray, List.set_cons_zero, List.set_cons_succ]
      refine wpAnyH_take (i := 2) (v := ?va17) (by simp; rfl) (by kernel_rfl) (by kernel_rfl) (by kernel_rfl) (fun _ _ _ h => h) (Or.inl ⟨by rfl, ?ya17⟩) hHeld ?ra17
      case ya17 => intro w hSw; clear hSw; go_simp; with_reducible rfl
      simp only [Act.put, List.setIfInBounds_toArray, List.set_cons_zero, List.set_cons_succ]
      refine wpAnyH_take (i := 3) (v := ?va18) (by simp; rfl) (by kernel_rfl) (by kernel_rfl) (by kernel_rfl) (fun _ _ _ h => h) (Or.inl ⟨by rfl, ?ya18⟩) hHeld ?ra18
      case ya18 => intro w hSw; clear hSw; go_simp; with_reducible rfl
      simp only [Act.put, List.setIfInBounds_toArray, List.set_cons_zero, List.set_cons_succ]
      refine wpAnyH_take (i := 4) (v := ?va19) (by simp; rfl) (by kernel_rfl) (by kernel_rfl) (by kernel_rfl) (fun _ _ _ h => h) (Or.inl ⟨by rfl, ?ya19⟩) hHeld ?ra19
      case ya19 => intro w hSw; clear hSw; go_simp; with_reducible rfl
      simp only [Act.put, List.setIfInBounds_toArray, List.set_cons_zero, List.set_cons_succ]
      refine wpAnyH_take (i := 5) (v := ?va20) (by simp; rfl) (by kernel_rfl) (by kernel_rfl) (by kernel_rfl) (fun _ _ _ h => h) (Or.inl ⟨by rfl, ?ya20⟩) hHeld ?ra20
      case ya20 => intro w hSw; clear hSw; go_simp; with_reducible rfl
      simp only [Act.put, List.setIfInBounds_toArray, List.set_cons_zero, List.set_cons_succ]
      refine wpAnyH_take (i := 6) (v := ?va21) (by simp; rfl) (by kernel_rfl) (by kernel_rfl) (by kernel_rfl) (fun _ _ _ h => h) (Or.inl ⟨by rfl, ?ya21⟩) hHeld ?ra21
      case ya21 => intro w hSw; clear hSw; go_simp; with_reducible rfl
      simp only [Act.put, List.setIfInBounds_toArray, List.set_cons_zero, List.set_cons_succ]
      refine wpAnyH_take (i := 7) (v := ?va22) (by simp; rfl) (by kernel_rfl) (by kernel_rfl) (by kernel_rfl) (fun _ _ _ h => h) (Or.inl ⟨by rfl, ?ya22⟩) hHeld ?ra22
      case ya22 => intro w hSw; have z1 := HC7.out w hSw; clear hSw; go_simp; with_reducible rfl
      simp only [Act.put, List.setIfInBounds_toArray, List.set_cons_zero, List.set_cons_succ]
      refine wpAnyH_take (i := 8) (v := ?va23) (by simp; rfl) (by kernel_rfl) (by kernel_rfl) (by kernel_rfl) (fun _ _ _ h => h) (Or.inl ⟨by rfl, ?ya23⟩) hHeld ?ra23
      case ya23 => intro w hSw; clear hSw; go_simp; with_reducible rfl
      simp only [Act.put, List.setIfInBounds_toArray, List.set_cons_zero, List.set_cons_succ]
      refine wpAnyH_take (i := 9) (v := _) (by simp; rfl) (by kernel_rfl) (by kernel_rfl) (by kernel_rfl) (fun _ _ _ h => h) (yields_max_is (u1 := .int .i64 k) (u2 := .int .i64 0) (by rfl) rfl rfl rfl rfl HMX.out) hHeld ?_
      simp only [Act.put, List.setIfInBounds_toArray, List.set_cons_zero, List.set_cons_succ]
      refine wpAnyH_take (i := 10) (v := ?va24) (by simp; rfl) (by kernel_rfl) (by kernel_rfl) (by kernel_rfl) (fun _ _ _ h => h) (Or.inl ⟨by rfl, ?ya24⟩) hHeld ?ra24
      case ya24 => intro w hSw; clear hSw; go_simp; with_reducible rfl
      simp only [Act.put, List.setIfInBounds_toArray, List.set_cons_zero, List.set_cons_succ]
      refine wpAnyH_take (i := 11) (v := ?va25) (by simp; rfl) (by kernel_rfl) (by kernel_rfl) (by kernel_rfl) (fun _ _ _ h => h) (Or.inl ⟨by rfl, ?ya25⟩) hHeld ?ra25
      case ya25 => intro w hSw; clear hSw; go_simp; with_reducible rfl
      simp only [Act.put, List.setIfInBounds_toArray, List.set_cons_zero, List.set_cons_succ]
      refine wpAnyH_take (i := 12) (v := ?va26) (by simp; rfl) (by kernel_rfl) (by kernel_rfl) (by kernel_rfl) (fun _ _ _ h => h) (Or.inl ⟨by rfl, ?ya26⟩) hHeld ?ra26
      case ya26 => intro w hSw; clear hSw; go_simp; with_reducible rfl
      simp only [Act.put, List.setIfInBounds_toArray, List.set_cons_zero, List.set_cons_succ]
      refine wpAnyH_take (i := 13) (v := ?va27) (by simp; rfl) (by kernel_rfl) (by kernel_rfl) (by kernel_rfl) (fun _ _ _ h => h) (Or.inl ⟨by rfl, ?ya27⟩) hHeld ?ra27
      case ya27 => intro w hSw; have z1 := HC7.out w hSw; clear hSw; go_simp; with_reducible rfl
      simp only [Act.put, List.setIfInBounds_toArray, List.set_cons_zero, List.set_cons_succ]
      refine wpAnyH_take (i := 14) (v := ?va28) (by simp; rfl) (by kernel_rfl) (by kernel_rfl) (by kernel_rfl) (fun _ _ _ h => h) (Or.inl ⟨by rfl, ?ya28⟩) hHeld ?ra28
      case ya28 => intro w hSw; clear hSw; go_simp; with_reducible rfl
      simp only [Act.put, List.setIfInBounds_toArray, List.set_cons_zero, List.set_cons_succ]
      refine wpAnyH_take (i := 15) (v := _) (by simp; rfl) (by kernel_rfl) (by kernel_rfl) (by kernel_rfl) (fun _ _ _ h => h) (yields_min_is (u1 := .int .i64 (kk : Int)) (u2 := .int .i64 (L.length : Int)) (by rfl) rfl rfl rfl rfl HMN.out) hHeld ?_
      simp only [Act.put, List.setIfInBounds_toArray, List.set_cons_zero, List.set_cons_succ]
      refine wpAnyH_take (i := 16) (v := ?va29) (by simp; rfl) (by kernel_rfl) (by kernel_rfl) (by kernel_rfl) (fun _ _ _ h => h) (Or.inl ⟨by rfl, ?ya29⟩) hHeld ?ra29
      case ya29 => intro w hSw; clear hSw; go_simp; with_reducible rfl
      simp only [Act.put, List.setIfInBounds_toArray, List.set_cons_zero, List.set_cons_succ]
      refine wpAnyH_ready (rs := [17]) (by kernel_rfl) (by simp) ?_
      refine AllReadyH.cons (by simp; rfl) (fun Kc hKc => ?_) AllReadyH.nil
      go_simp
      refine (same_at (HEl.out.later hHeld) (HI7.out.later hHeld) (by omega)).mono ?_
      rintro e w8 ⟨rfl, hb⟩
      rw [ensB_yes rfl]
      have HB8 : Hid (Below wE.heap.size wE w8) := below_then hHeld hb
      refine hKc.out _ _ HB8.out (fun hHeld => ?_)
      clear hKc Kc hb
      refine wpAnyH_take (i := 18) (v := ?va30) (by simp; rfl) (by kernel_rfl) (by kernel_rfl) (by kernel_rfl) (fun _ _ _ h => h) (Or.inl ⟨by rfl, ?ya30⟩) hHeld ?ra30
      case ya30 => intro w hSw; clear hSw; go_simp; with_reducible rfl
      simp only [Act.put, List.setIfInBounds_toArray, List.set_cons_zero, List.set_cons_succ]
      refine wpAnyH_take (i := 19) (v := ?va31) (by simp; rfl) (by kernel_rfl) (by kernel_rfl) (by kernel_rfl) (fun _ _ _ h => h) (Or.inl ⟨by rfl, ?ya31⟩) hHeld ?ra31
      case ya31 => intro w hSw; clear hSw; go_simp; with_reducible rfl
      simp only [Act.put, List.setIfInBounds_toArray, List.set_cons_zero, List.set_cons_succ]
      refine wpAnyH_done (by kernel_rfl) (NoPanic.normal ?_) _
      obtain ⟨TA, hTA⟩ : ∃ TA, TA = put T5 13 (.ec (.slice pb L.length cb) Z) := ⟨_, rfl⟩
      have hbd8 : Below w8.heap.size w8 w8.drew := below_drawn 1
      have hp8 := (HP7.out.later HB8.out).later hbd8
      rw [← hTA] at hp8
      have ka : ∀ i, i < 13 → TA i = T5 i := fun i hi => by rw [hTA, put_other _ _ (by omega)]
      have HKA : Hid (∀ i, i < 4 → TA i = T i) := fun i hi => (ka i (by omega)).trans (HK5.out i (by omega) (by omega) (by omega))
      have HE4 : Hid (TA 4 = .lc v4' (us4 ++ [.slice pa L.length ca]) (ls ++ [LL j])) := by rw [ka 4 (by decide), hL]; exact f4
      have HE5 : Hid (TA 5 = .lr v5' (us5 ++ [u5]) (ls ++ [LL j])) := by rw [ka 5 (by decide), hL]; exact f5
      have hpcA : pcs T5 g = pcs TA g := by simp only [pcs, ka 0 (by decide), ka 1 (by decide), ka 2 (by decide), ka 3 (by decide), ka 4 (by decide), ka 5 (by decide), ka 6 (by decide), ka 7 (by decide), ka 8 (by decide)]
      rw [hpcA] at hp8
      have e6 : TA 6 = .sq v6 bs := by rw [ka 6 (by decide), HK5.out 6 (by decide) (by decide) (by decide)]; exact e6
      have e7 : TA 7 = .row 3 v7 (I6 os) := by rw [ka 7 (by decide), HK5.out 7 (by decide) (by decide) (by decide)]; exact e7
      have e8 : TA 8 = .row 3 v8 (I6 rs) := by rw [ka 8 (by decide), HK5.out 8 (by decide) (by decide) (by decide)]; exact e8
      have e12 : TA 12 = .one 4 B0 (.bool false) := by rw [ka 12 (by decide)]; exact g12
      obtain ⟨p6, m6, c6, rfl⟩ : ∃ p1 m1 c1, v6 = .slice p1 m1 c1 := by obtain ⟨p2, c2, e2, -, -⟩ := O.own_form (hp8.sq (by decide) e6).1; exact ⟨p2, _, c2, e2⟩
      obtain ⟨p7, m7, c7, rfl⟩ : ∃ p1 m1 c1, v7 = .slice p1 m1 c1 := by obtain ⟨p2, c2, e2, -, -⟩ := O.own_form (hp8.row (by decide) e7); exact ⟨p2, _, c2, e2⟩
      obtain ⟨p8, m8, c8, rfl⟩ : ∃ p1 m1 c1, v8 = .slice p1 m1 c1 := by obtain ⟨p2, c2, e2, -, -⟩ := O.own_form (hp8.row (by decide) e8); exact ⟨p2, _, c2, e2⟩
      obtain ⟨c0, hc0⟩ : ∃ c0, c0 = pcs TA g := ⟨_, rfl⟩
      have HC0 : Hid (c0 = pcs TA g) := hc0
      have HV : Hid (c0[6]? = some (.slice p6 m6 c6) ∧ c0[7]? = some (.slice p7 m7 c7) ∧ c0[10]? = some (.slice p8 m8 c8)) := by
        rw [hc0]
        exact ⟨by rw [pcs_get (by decide), e6]; rfl, by rw [pcs_get (by decide), e7]; rfl, by show some (TA 8).val = _; rw [e8]; rfl⟩
      have hgv : c0[8 + j]? = some (.int .i64 (g j)) := by
        rw [hc0]
        rcases (show j = 0 ∨ j = 1 by omega) with rfl | rfl <;> rfl
      have HCS : Hid (∀ W : World, W.heap[P]? = some (.cells c0 42 (0, 0)) → W.cell? ⟨P, 6, none⟩ = some (.slice p6 m6 c6) ∧ W.cell? ⟨P, 7, none⟩ = some (.slice p7 m7 c7) ∧ W.cell? ⟨P, 10, none⟩ = some (.slice p8 m8 c8) ∧ W.cell? ⟨P, 8 + j, none⟩ = some (.int .i64 (g j))) := fun W hW => ⟨by rw [cell_of_row _ P 6 _ 42 (0, 0) hW]; exact HV.out.1, by rw [cell_of_row _ P 7 _ 42 (0, 0) hW]; exact HV.out.2.1, by rw [cell_of_row _ P 10 _ 42 (0, 0) hW]; exact HV.out.2.2, by rw [cell_of_row _ P (8 + j) _ 42 (0, 0) hW]; exact hgv⟩
      rw [← hc0] at hp8
      obtain ⟨TZ, hTZ⟩ : ∃ TZ : Nat → Th, TZ = TA := ⟨_, rfl⟩
      have HQ0 : Hid (PS w0 w8.drew P c0 TZ G) := by rw [hTZ]; exact hp8
      have kf : Hid (∀ i, i < 6 → TZ i = TA i) := fun i _ => by rw [hTZ]
      rw [← hTZ] at e6 e7 e8 e12
      clear hTZ hTA hbd8 hp8 ka hpcA hc0 hgv HP7 HB8 HEl HI7 HC7 HR7 HP5 HR5 HIr HMX HMN HTT hHeld f4 f5 g12 g13
      go_wp2_with fail
      refine wp_mono (Q := fun ex a' w' => ex = .normal ∧ FrA w0 P B0 n LL s p g (a + 1) a' w') ?_ ?_
      · refine wp_region_noPanic ?_
        refine wp_region_stores (fun j => j == 32 || j == 35 || j == 38) (fun W => W.heap[P]? = some (.cells c0 42 (0, 0))) (by kernel_rfl) ?_
        have hHeld := HQ0.out.pr
        generalize w8.drew = xD at *
        refine wpAnyM_take0 (i := 0) (v := ?va32) (by simp; rfl) (by kernel_rfl) (by kernel_rfl) (by kernel_rfl) (fun _ _ _ h => h) (Or.inl ⟨by rfl, ?ya32⟩) ?ra32
        case ya32 => intro w hSw; clear hSw; go_simp; with_reducible rfl
        simp only [Act.put, List.setIfInBounds_toArray, List.set_cons_zero, List.set_cons_succ]
        refine wpAnyM_take0 (i := 1) (v := ?va33) (by simp; rfl) (by kernel_rfl) (by kernel_rfl) (by kernel_rfl) (fun _ _ _ h => h) (Or.inl ⟨by rfl, ?ya33⟩) ?ra33
        case ya33 => intro w hSw; clear hSw; go_simp; with_reducible rfl
        simp only [Act.put, List.setIfInBounds_toArray, List.set_cons_zero, List.set_cons_succ]
        refine wpAnyM_take0 (i := 2) (v := ?va34) (by simp; rfl) (by kernel_rfl) (by kernel_rfl) (by kernel_rfl) (fun _ _ _ h => h) (Or.inl ⟨by rfl, ?ya34⟩) ?ra34
        case ya34 => intro w hSw; clear hSw; go_simp; with_reducible rfl
        simp only [Act.put, List.setIfInBounds_toArray, List.set_cons_zero, List.set_cons_succ]
        refine wpAnyM_take0 (i := 3) (v := ?va35) (by simp; rfl) (by kernel_rfl) (by kernel_rfl) (by kernel_rfl) (fun _ _ _ h => h) (Or.inl ⟨by rfl, ?ya35⟩) ?ra35
        case ya35 => intro w hSw; clear hSw; go_simp; with_reducible rfl
        simp only [Act.put, List.setIfInBounds_toArray, List.set_cons_zero, List.set_cons_succ]
        refine wpAnyM_take0 (i := 4) (v := ?va36) (by simp; rfl) (by kernel_rfl) (by kernel_rfl) (by kernel_rfl) (fun _ _ _ h => h) (Or.inl ⟨by rfl, ?ya36⟩) ?ra36
        case ya36 => intro w hSw; clear hSw; go_simp; with_reducible rfl
        simp only [Act.put, List.setIfInBounds_toArray, List.set_cons_zero, List.set_cons_succ]
        refine wpAnyM_take0 (i := 5) (v := ?va37) (by simp; rfl) (by kernel_rfl) (by kernel_rfl) (by kernel_rfl) (fun _ _ _ h => h) (Or.inl ⟨by rfl, ?ya37⟩) ?ra37
        case ya37 => intro w hSw; clear hSw; go_simp; with_reducible rfl
        simp only [Act.put, List.setIfInBounds_toArray, List.set_cons_zero, List.set_cons_succ]
        refine wpAnyM_take (i := 6) (v := ?va38) (by simp; rfl) (by kernel_rfl) (by kernel_rfl) (by kernel_rfl) (by kernel_rfl) (fun _ _ _ h => h) (Or.inl ⟨by rfl, ?ya38⟩) hHeld ?ra38
        case ya38 => intro w hSw; obtain ⟨z6, z7, z8, z9⟩ := HCS.out w hSw; clear hSw; go_simp; with_reducible rfl
        simp only [Act.put, List.setIfInBounds_toArray, List.set_cons_zero, List.set_cons_succ]
        refine wpAnyM_take0 (i := 7) (v := ?va39) (by simp; rfl) (by kernel_rfl) (by kernel_rfl) (by kernel_rfl) (fun _ _ _ h => h) (Or.inl ⟨by rfl, ?ya39⟩) ?ra39
        case ya39 => intro w hSw; clear hSw; go_simp; with_reducible rfl
        simp only [Act.put, List.setIfInBounds_toArray, List.set_cons_zero, List.set_cons_succ]
        refine wpAnyM_take0 (i := 11) (v := ?va40) (by simp; rfl) (by kernel_rfl) (by kernel_rfl) (by kernel_rfl) (fun _ _ _ h => h) (Or.inl ⟨by rfl, ?ya40⟩) ?ra40
        case ya40 => intro w hSw; clear hSw; go_simp; with_reducible rfl
        simp only [Act.put, List.setIfInBounds_toArray, List.set_cons_zero, List.set_cons_succ]
        refine wpAnyM_take0 (i := 12) (v := ?va41) (by simp; rfl) (by kernel_rfl) (by kernel_rfl) (by kernel_rfl) (fun _ _ _ h => h) (Or.inl ⟨by rfl, ?ya41⟩) ?ra41
        case ya41 => intro w hSw; clear hSw; go_simp; with_reducible rfl
        simp only [Act.put, List.setIfInBounds_toArray, List.set_cons_zero, List.set_cons_succ]
        refine wpAnyM_take0 (i := 13) (v := ?va42) (by simp; rfl) (by kernel_rfl) (by kernel_rfl) (by kernel_rfl) (fun _ _ _ h => h) (Or.inl ⟨by rfl, ?ya42⟩) ?ra42
        case ya42 => intro w hSw; clear hSw; go_simp; with_reducible rfl
        simp only [Act.put, List.setIfInBounds_toArray, List.set_cons_zero, List.set_cons_succ]
        refine wpAnyM_take (i := 14) (v := ?va43) (by simp; rfl) (by kernel_rfl) (by kernel_rfl) (by kernel_rfl) (by kernel_rfl) (fun _ _ _ h => h) (Or.inl ⟨by rfl, ?ya43⟩) hHeld ?ra43
        case ya43 => intro w hSw; obtain ⟨z6, z7, z8, z9⟩ := HCS.out w hSw; clear hSw; go_simp; with_reducible rfl
        simp only [Act.put, List.setIfInBounds_toArray, List.set_cons_zero, List.set_cons_succ]
        refine wpAnyM_take0 (i := 15) (v := ?va44) (by simp; rfl) (by kernel_rfl) (by kernel_rfl) (by kernel_rfl) (fun _ _ _ h => h) (Or.inl ⟨by rfl, ?ya44⟩) ?ra44
        case ya44 => intro w hSw; clear hSw; go_simp; with_reducible rfl
        simp only [Act.put, List.setIfInBounds_toArray, List.set_cons_zero, List.set_cons_succ]
        refine wpAnyM_take0 (i := 18) (v := ?va45) (by simp; rfl) (by kernel_rfl) (by kernel_rfl) (by kernel_rfl) (fun _ _ _ h => h) (Or.inl ⟨by rfl, ?ya45⟩) ?ra45
        case ya45 => intro w hSw; clear hSw; go_simp; with_reducible rfl
        simp only [Act.put, List.setIfInBounds_toArray, List.set_cons_zero, List.set_cons_succ]
        refine wpAnyM_take0 (i := 19) (v := ?va46) (by simp; rfl) (by kernel_rfl) (by kernel_rfl) (by kernel_rfl) (fun _ _ _ h => h) (Or.inl ⟨by rfl, ?ya46⟩) ?ra46
        case ya46 => intro w hSw; clear hSw; go_simp; with_reducible rfl
        simp only [Act.put, List.setIfInBounds_toArray, List.set_cons_zero, List.set_cons_succ]
        refine wpAnyM_take0 (i := 20) (v := ?va47) (by simp; rfl) (by kernel_rfl) (by kernel_rfl) (by kernel_rfl) (fun _ _ _ h => h) (Or.inl ⟨by rfl, ?ya47⟩) ?ra47
        case ya47 => intro w hSw; clear hSw; go_simp; with_reducible rfl
        simp only [Act.put, List.setIfInBounds_toArray, List.set_cons_zero, List.set_cons_succ]
        refine wpAnyM_take (i := 21) (v := ?va48) (by simp; rfl) (by kernel_rfl) (by kernel_rfl) (by kernel_rfl) (by kernel_rfl) (fun _ _ _ h => h) (Or.inl ⟨by rfl, ?ya48⟩) hHeld ?ra48
        case ya48 => intro w hSw; obtain ⟨z6, z7, z8, z9⟩ := HCS.out w hSw; clear hSw; go_simp; with_reducible rfl
        simp only [Act.put, List.setIfInBounds_toArray, List.set_cons_zero, List.set_cons_succ]
        refine wpAnyM_take0 (i := 22) (v := ?va49) (by simp; rfl) (by kernel_rfl) (by kernel_rfl) (by kernel_rfl) (fun _ _ _ h => h) (Or.inl ⟨by rfl, ?ya49⟩) ?ra49
        case ya49 => intro w hSw; clear hSw; go_simp; with_reducible rfl
        simp only [Act.put, List.setIfInBounds_toArray, List.set_cons_zero, List.set_cons_succ]
        refine wpAnyM_take0 (i := 23) (v := ?va50) (by simp; rfl) (by kernel_rfl) (by kernel_rfl) (by kernel_rfl) (fun _ _ _ h => h) (Or.inl ⟨by rfl, ?ya50⟩) ?ra50
        case ya50 => intro w hSw; clear hSw; go_simp; with_reducible rfl
        simp only [Act.put, List.setIfInBounds_toArray, List.set_cons_zero, List.set_cons_succ]
        refine wpAnyM_take0 (i := 24) (v := ?va51) (by simp; rfl) (by kernel_rfl) (by kernel_rfl) (by kernel_rfl) (fun _ _ _ h => h) (Or.inl ⟨by rfl, ?ya51⟩) ?ra51
        case ya51 => intro w hSw; clear hSw; go_simp; with_reducible rfl
        simp only [Act.put, List.setIfInBounds_toArray, List.set_cons_zero, List.set_cons_succ]
        refine wpAnyM_take0 (i := 25) (v := ?va52) (by simp; rfl) (by kernel_rfl) (by kernel_rfl) (by kernel_rfl) (fun _ _ _ h => h) (Or.inl ⟨by rfl, ?ya52⟩) ?ra52
        case ya52 => intro w hSw; clear hSw; go_simp; with_reducible rfl
        simp only [Act.put, List.setIfInBounds_toArray, List.set_cons_zero, List.set_cons_succ]
        refine wpAnyM_take0 (i := 26) (v := ?va53) (by simp; rfl) (by kernel_rfl) (by kernel_rfl) (by kernel_rfl) (fun _ _ _ h => h) (Or.inl ⟨by rfl, ?ya53⟩) ?ra53
        case ya53 => intro w hSw; clear hSw; go_simp; with_reducible rfl
        simp only [Act.put, List.setIfInBounds_toArray, List.set_cons_zero, List.set_cons_succ]
        refine wpAnyM_take (i := 27) (v := ?va54) (by simp; rfl) (by kernel_rfl) (by kernel_rfl) (by kernel_rfl) (by kernel_rfl) (fun _ _ _ h => h) (Or.inl ⟨by rfl, ?ya54⟩) hHeld ?ra54
        case ya54 => intro w hSw; obtain ⟨z6, z7, z8, z9⟩ := HCS.out w hSw; clear hSw; go_simp; with_reducible rfl
        simp only [Act.put, List.setIfInBounds_toArray, List.set_cons_zero, List.set_cons_succ]
        refine wpAnyM_ready (rs := [8, 16, 28]) (by kernel_rfl) (by simp) ?_
        refine AllReadyM.cons (by simp; rfl) (fun Kc hKc => ?_) (AllReadyM.cons (by simp; rfl) (fun Kc hKc => ?_) (AllReadyM.cons (by simp; rfl) (fun Kc hKc => ?_) AllReadyM.nil))
        · as_aux_lemma =>
          go_simp
          refine (all_is (some ⟨Q j, 0, none⟩) xD).mono ?_
          rintro e _ ⟨rfl, rfl⟩
          have HQ1 : Hid (PS w0 (xD.alloc (.cells #[.pointer (some ⟨Q j, 0, none⟩)] 24)) P c0 (put TZ 14 (.one 24 xD.heap.size (qp (Q j)))) G) := HQ0.out.fresh (below_alloc _ _) 14 (heap_alloc_new xD _) (fun b hb => by rw [show b = xD.heap.size from hb]; exact Nat.le_refl _)
          refine hKc.out _ _ (fun _ _ => HQ1.out.pr) ?_
          clear hKc Kc HQ0
          obtain ⟨T1, hT1⟩ : ∃ T1, T1 = put TZ 14 (.one 24 xD.heap.size (qp (Q j))) := ⟨_, rfl⟩
          rw [← hT1] at HQ1
          revert HQ1 hT1
          generalize xD.alloc (.cells #[.pointer (some ⟨Q j, 0, none⟩)] 24) = x1
          generalize xD.heap.size = X
          intro HQ1 hT1
          have e6 := eqT hT1 e6 (by decide)
          have e7 := eqT hT1 e7 (by decide)
          have e8 := eqT hT1 e8 (by decide)
          have e12 := eqT hT1 e12 (by decide)
          have kf : Hid (∀ i, i < 6 → T1 i = TA i) := fun i hi => eqT hT1 (kf.out i hi) (by omega)
          have e14 : T1 14 = .one 24 X (qp (Q j)) := by rw [hT1]; exact put_same _ _ _
          clear hT1
          refine wpAnyM_ready (rs := [9, 16, 28]) (by kernel_rfl) (by simp) ?_
          refine AllReadyM.cons (by simp; rfl) (fun Kc hKc => ?b55) (AllReadyM.cons (by simp; rfl) (fun Kc hKc => ?b56) (AllReadyM.cons (by simp; rfl) (fun Kc hKc => ?b57) AllReadyM.nil))
          case' b55 =>
            go_simp
            have HQ2 : Hid (PS w0 (x1.alloc (.cells #[(seqV X)] 83)) P c0 (put T1 9 (.one 83 x1.heap.size (seqV X))) G) := HQ1.out.fresh (below_alloc _ _) 9 (heap_alloc_new x1 _) (fun b hb => by rw [show b = x1.heap.size from hb]; exact Nat.le_refl _)
            refine hKc.out _ _ (fun _ _ => HQ2.out.pr) ?_
            clear hKc Kc HQ1
            obtain ⟨T2, hT2⟩ : ∃ T2, T2 = put T1 9 (.one 83 x1.heap.size (seqV X)) := ⟨_, rfl⟩
            rw [← hT2] at HQ2
            revert HQ2 hT2
            generalize x1.alloc (.cells #[(seqV X)] 83) = x2
            generalize x1.heap.size = y6
            intro HQ2 hT2
            have e6 := eqT hT2 e6 (by decide)
            have e7 := eqT hT2 e7 (by decide)
            have e8 := eqT hT2 e8 (by decide)
            have e12 := eqT hT2 e12 (by decide)
            have e14 := eqT hT2 e14 (by decide)
            have kf : Hid (∀ i, i < 6 → T2 i = TA i) := fun i hi => eqT hT2 (kf.out i hi) (by omega)
            have e9 : T2 9 = .one 83 y6 (seqV X) := by rw [hT2]; exact put_same _ _ _
            clear hT2
            refine wpAnyM_ready (rs := [10, 16, 28]) (by kernel_rfl) (by simp) ?_
            refine AllReadyM.cons (by simp; rfl) (fun Kc hKc => ?b58) (AllReadyM.cons (by simp; rfl) (fun Kc hKc => ?b59) (AllReadyM.cons (by simp; rfl) (fun Kc hKc => ?b60) AllReadyM.nil))
            case' b58 =>
              obtain ⟨v', x3, hap, ⟨g6, h6, rfl⟩, hP⟩ := HQ2.out.appQ2 elQ e6 e9 e14 (by omega)
              have HAP : Hid ((Builtin.append_ #[38, 38] 38 #[(.slice p6 m6 c6), .slice (some ⟨y6, 0, none⟩) 1 1]).run Tryd.prog x2 = .ok (.slice g6 (bs.length + 1) h6) x3) := hap
              clear hap
              generalize bs.length + 1 = l6 at HAP hP
              refine step_append_is (u1 := (.slice p6 m6 c6)) (u2 := .slice (some ⟨y6, 0, none⟩) 1 1) (by rfl) rfl rfl rfl rfl HAP.out ?_
              refine hKc.out _ _ (fun _ _ => hP.pr) ?_
              clear hKc Kc HAP
              obtain ⟨T3, hT3⟩ : ∃ T3, T3 = put (put T2 14 .no) 6 (.sq (.slice g6 l6 h6) (bs ++ [(X, Q j)])) := ⟨_, rfl⟩
              have HQ3 : Hid (PS w0 x3 P c0 T3 (fun x => G x ∨ x = X)) := by rw [hT3]; exact hP
              clear hP
              have e7 := eqT2 hT3 e7 (by decide) (by decide)
              have e8 := eqT2 hT3 e8 (by decide) (by decide)
              have e12 := eqT2 hT3 e12 (by decide) (by decide)
              have e9 := eqT2 hT3 e9 (by decide) (by decide)
              have kf : Hid (∀ i, i < 6 → T3 i = TA i) := fun i hi => eqT2 hT3 (kf.out i hi) (by omega) (by omega)
              have e6 : T3 6 = .sq (.slice g6 l6 h6) (bs ++ [(X, Q j)]) := by rw [hT3]; exact put_same _ _ _
              clear hT3 HQ2
              simp only [Act.put, List.setIfInBounds_toArray, List.set_cons_zero, List.set_cons_succ]
              refine wpAnyM_ready (rs := [16, 28]) (by kernel_rfl) (by simp) ?_
              refine AllReadyM.cons (by simp; rfl) (fun Kc hKc => ?b61) (AllReadyM.cons (by simp; rfl) (fun Kc hKc => ?b62) AllReadyM.nil)
              case' b61 =>
                go_simp
                have HQ4 : Hid (PS w0 (x3.alloc (.cells #[(.int .i64 (j : Int))] 3)) P c0 (put T3 10 (.one 3 x3.heap.size (.int .i64 (j : Int)))) (fun x => G x ∨ x = X)) := HQ3.out.fresh (below_alloc _ _) 10 (heap_alloc_new x3 _) (fun b hb => by rw [show b = x3.heap.size from hb]; exact Nat.le_refl _)
                refine hKc.out _ _ (fun _ _ => HQ4.out.pr) ?_
                clear hKc Kc HQ3
                obtain ⟨T4, hT4⟩ : ∃ T4, T4 = put T3 10 (.one 3 x3.heap.size (.int .i64 (j : Int))) := ⟨_, rfl⟩
                rw [← hT4] at HQ4
                revert HQ4 hT4
                generalize x3.alloc (.cells #[(.int .i64 (j : Int))] 3) = x4
                generalize x3.heap.size = y7
                intro HQ4 hT4
                have e7 := eqT hT4 e7 (by decide)
                have e8 := eqT hT4 e8 (by decide)
                have e12 := eqT hT4 e12 (by decide)
                have e9 := eqT hT4 e9 (by decide)
                have e6 := eqT hT4 e6 (by decide)
                have kf : Hid (∀ i, i < 6 → T4 i = TA i) := fun i hi => eqT hT4 (kf.out i hi) (by omega)
                have e10 : T4 10 = .one 3 y7 (.int .i64 (j : Int)) := by rw [hT4]; exact put_same _ _ _
                clear hT4
                refine wpAnyM_ready (rs := [17, 28]) (by kernel_rfl) (by simp) ?_
                refine AllReadyM.cons (by simp; rfl) (fun Kc hKc => ?b63) (AllReadyM.cons (by simp; rfl) (fun Kc hKc => ?b64) AllReadyM.nil)
                case' b63 =>
                  obtain ⟨v', x5, hap, ⟨g7, h7, rfl⟩, hP⟩ := HQ4.out.appR (i := 7) O.elI (by decide) e7 (by have := HQ4.out.fam.at' 10 (by decide); rw [e10] at this; exact this) (by simp; omega) rfl
                  have HAP : Hid ((Builtin.append_ #[39, 39] 39 #[(.slice p7 m7 c7), .slice (some ⟨y7, 0, none⟩) 1 1]).run Tryd.prog x4 = .ok (.slice g7 ((I6 os).length + 1) h7) x5) := hap
                  clear hap
                  generalize (I6 os).length + 1 = l7 at HAP hP
                  refine step_append_is (u1 := (.slice p7 m7 c7)) (u2 := .slice (some ⟨y7, 0, none⟩) 1 1) (by rfl) rfl rfl rfl rfl HAP.out ?_
                  refine hKc.out _ _ (fun _ _ => hP.pr) ?_
                  clear hKc Kc HAP
                  obtain ⟨T5, hT5⟩ : ∃ T5, T5 = put T4 7 (.row 3 (.slice g7 l7 h7) (I6 os ++ [(.int .i64 (j : Int))])) := ⟨_, rfl⟩
                  have HQ5 : Hid (PS w0 x5 P c0 T5 (fun x => G x ∨ x = X)) := by rw [hT5]; exact hP
                  clear hP
                  have e8 := eqT hT5 e8 (by decide)
                  have e12 := eqT hT5 e12 (by decide)
                  have e9 := eqT hT5 e9 (by decide)
                  have e6 := eqT hT5 e6 (by decide)
                  have e10 := eqT hT5 e10 (by decide)
                  have kf : Hid (∀ i, i < 6 → T5 i = TA i) := fun i hi => eqT hT5 (kf.out i hi) (by omega)
                  have e7 : T5 7 = .row 3 (.slice g7 l7 h7) (I6 os ++ [(.int .i64 (j : Int))]) := by rw [hT5]; exact put_same _ _ _
                  clear hT5 HQ4
                  simp only [Act.put, List.setIfInBounds_toArray, List.set_cons_zero, List.set_cons_succ]
                  refine wpAnyM_ready (rs := [28]) (by kernel_rfl) (by simp) ?_
                  refine AllReadyM.cons (by simp; rfl) (fun Kc hKc => ?_) AllReadyM.nil
                  go_simp
                  have HQ6 : Hid (PS w0 (x5.alloc (.cells #[(.int .i64 (g j))] 3)) P c0 (put T5 11 (.one 3 x5.heap.size (.int .i64 (g j)))) (fun x => G x ∨ x = X)) := HQ5.out.fresh (below_alloc _ _) 11 (heap_alloc_new x5 _) (fun b hb => by rw [show b = x5.heap.size from hb]; exact Nat.le_refl _)
                  refine hKc.out _ _ (fun _ _ => HQ6.out.pr) ?_
                  clear hKc Kc HQ5
                  obtain ⟨T6, hT6⟩ : ∃ T6, T6 = put T5 11 (.one 3 x5.heap.size (.int .i64 (g j))) := ⟨_, rfl⟩
                  rw [← hT6] at HQ6
                  revert HQ6 hT6
                  generalize x5.alloc (.cells #[(.int .i64 (g j))] 3) = x6
                  generalize x5.heap.size = y8
                  intro HQ6 hT6
                  have e8 := eqT hT6 e8 (by decide)
                  have e12 := eqT hT6 e12 (by decide)
                  have e9 := eqT hT6 e9 (by decide)
                  have e6 := eqT hT6 e6 (by decide)
                  have e10 := eqT hT6 e10 (by decide)
                  have e7 := eqT hT6 e7 (by decide)
                  have kf : Hid (∀ i, i < 6 → T6 i = TA i) := fun i hi => eqT hT6 (kf.out i hi) (by omega)
                  have e11 : T6 11 = .one 3 y8 (.int .i64 (g j)) := by rw [hT6]; exact put_same _ _ _
                  clear hT6
                  refine wpAnyM_ready (rs := [29]) (by kernel_rfl) (by simp) ?_
                  refine AllReadyM.cons (by simp; rfl) (fun Kc hKc => ?_) AllReadyM.nil
                  obtain ⟨v', x7, hap, ⟨g8, h8, rfl⟩, hP⟩ := HQ6.out.appR (i := 8) O.elI (by decide) e8 (by have := HQ6.out.fam.at' 11 (by decide); rw [e11] at this; exact this) (by simp; omega) rfl
                  have HAP : Hid ((Builtin.append_ #[39, 39] 39 #[(.slice p8 m8 c8), .slice (some ⟨y8, 0, none⟩) 1 1]).run Tryd.prog x6 = .ok (.slice g8 ((I6 rs).length + 1) h8) x7) := hap
                  clear hap
                  generalize (I6 rs).length + 1 = l8 at HAP hP
                  refine step_append_is (u1 := (.slice p8 m8 c8)) (u2 := .slice (some ⟨y8, 0, none⟩) 1 1) (by rfl) rfl rfl rfl rfl HAP.out ?_
                  refine hKc.out _ _ (fun _ _ => hP.pr) ?_
                  clear hKc Kc HAP
                  obtain ⟨T7, hT7⟩ : ∃ T7, T7 = put T6 8 (.row 3 (.slice g8 l8 h8) (I6 rs ++ [(.int .i64 (g j))])) := ⟨_, rfl⟩
                  have HQ7 : Hid (PS w0 x7 P c0 T7 (fun x => G x ∨ x = X)) := by rw [hT7]; exact hP
                  clear hP
                  have e12 := eqT hT7 e12 (by decide)
                  have e9 := eqT hT7 e9 (by decide)
                  have e6 := eqT hT7 e6 (by decide)
                  have e10 := eqT hT7 e10 (by decide)
                  have e7 := eqT hT7 e7 (by decide)
                  have e11 := eqT hT7 e11 (by decide)
                  have kf : Hid (∀ i, i < 6 → T7 i = TA i) := fun i hi => eqT hT7 (kf.out i hi) (by omega)
                  have e8 : T7 8 = .row 3 (.slice g8 l8 h8) (I6 rs ++ [(.int .i64 (g j))]) := by rw [hT7]; exact put_same _ _ _
                  clear hT7 HQ6
                  simp only [Act.put, List.setIfInBounds_toArray, List.set_cons_zero, List.set_cons_succ]
                case' b64 =>
                  go_simp
                  have HQ5 : Hid (PS w0 (x4.alloc (.cells #[(.int .i64 (g j))] 3)) P c0 (put T4 11 (.one 3 x4.heap.size (.int .i64 (g j)))) (fun x => G x ∨ x = X)) := HQ4.out.fresh (below_alloc _ _) 11 (heap_alloc_new x4 _) (fun b hb => by rw [show b = x4.heap.size from hb]; exact Nat.le_refl _)
                  refine hKc.out _ _ (fun _ _ => HQ5.out.pr) ?_
                  clear hKc Kc HQ4
                  obtain ⟨T5, hT5⟩ : ∃ T5, T5 = put T4 11 (.one 3 x4.heap.size (.int .i64 (g j))) := ⟨_, rfl⟩
                  rw [← hT5] at HQ5
                  revert HQ5 hT5
                  generalize x4.alloc (.cells #[(.int .i64 (g j))] 3) = x5
                  generalize x4.heap.size = y8
                  intro HQ5 hT5
                  have e7 := eqT hT5 e7 (by decide)
                  have e8 := eqT hT5 e8 (by decide)
                  have e12 := eqT hT5 e12 (by decide)
                  have e9 := eqT hT5 e9 (by decide)
                  have e6 := eqT hT5 e6 (by decide)
                  have e10 := eqT hT5 e10 (by decide)
                  have kf : Hid (∀ i, i < 6 → T5 i = TA i) := fun i hi => eqT hT5 (kf.out i hi) (by omega)
                  have e11 : T5 11 = .one 3 y8 (.int .i64 (g j)) := by rw [hT5]; exact put_same _ _ _
                  clear hT5
                  refine wpAnyM_ready (rs := [17]) (by kernel_rfl) (by simp) ?_
                  refine AllReadyM.cons (by simp; rfl) (fun Kc hKc => ?_) AllReadyM.nil
                  obtain ⟨v', x6, hap, ⟨g7, h7, rfl⟩, hP⟩ := HQ5.out.appR (i := 7) O.elI (by decide) e7 (by have := HQ5.out.fam.at' 10 (by decide); rw [e10] at this; exact this) (by simp; omega) rfl
                  have HAP : Hid ((Builtin.append_ #[39, 39] 39 #[(.slice p7 m7 c7), .slice (some ⟨y7, 0, none⟩) 1 1]).run Tryd.prog x5 = .ok (.slice g7 ((I6 os).length + 1) h7) x6) := hap
                  clear hap
                  generalize (I6 os).length + 1 = l7 at HAP hP
                  refine step_append_is (u1 := (.slice p7 m7 c7)) (u2 := .slice (some ⟨y7, 0, none⟩) 1 1) (by rfl) rfl rfl rfl rfl HAP.out ?_
                  refine hKc.out _ _ (fun _ _ => hP.pr) ?_
                  clear hKc Kc HAP
                  obtain ⟨T6, hT6⟩ : ∃ T6, T6 = put T5 7 (.row 3 (.slice g7 l7 h7) (I6 os ++ [(.int .i64 (j : Int))])) := ⟨_, rfl⟩
                  have HQ6 : Hid (PS w0 x6 P c0 T6 (fun x => G x ∨ x = X)) := by rw [hT6]; exact hP
                  clear hP
                  have e8 := eqT hT6 e8 (by decide)
                  have e12 := eqT hT6 e12 (by decide)
                  have e9 := eqT hT6 e9 (by decide)
                  have e6 := eqT hT6 e6 (by decide)
                  have e10 := eqT hT6 e10 (by decide)
                  have e11 := eqT hT6 e11 (by decide)
                  have kf : Hid (∀ i, i < 6 → T6 i = TA i) := fun i hi => eqT hT6 (kf.out i hi) (by omega)
                  have e7 : T6 7 = .row 3 (.slice g7 l7 h7) (I6 os ++ [(.int .i64 (j : Int))]) := by rw [hT6]; exact put_same _ _ _
                  clear hT6 HQ5
                  simp only [Act.put, List.setIfInBounds_toArray, List.set_cons_zero, List.set_cons_succ]
                  refine wpAnyM_ready (rs := [29]) (by kernel_rfl) (by simp) ?_
                  refine AllReadyM.cons (by simp; rfl) (fun Kc hKc => ?_) AllReadyM.nil
                  obtain ⟨v', x7, hap, ⟨g8, h8, rfl⟩, hP⟩ := HQ6.out.appR (i := 8) O.elI (by decide) e8 (by have := HQ6.out.fam.at' 11 (by decide); rw [e11] at this; exact this) (by simp; omega) rfl
                  have HAP : Hid ((Builtin.append_ #[39, 39] 39 #[(.slice p8 m8 c8), .slice (some ⟨y8, 0, none⟩) 1 1]).run Tryd.prog x6 = .ok (.slice g8 ((I6 rs).length + 1) h8) x7) := hap
                  clear hap
                  generalize (I6 rs).length + 1 = l8 at HAP hP
                  refine step_append_is (u1 := (.slice p8 m8 c8)) (u2 := .slice (some ⟨y8, 0, none⟩) 1 1) (by rfl) rfl rfl rfl rfl HAP.out ?_
                  refine hKc.out _ _ (fun _ _ => hP.pr) ?_
                  clear hKc Kc HAP
                  obtain ⟨T7, hT7⟩ : ∃ T7, T7 = put T6 8 (.row 3 (.slice g8 l8 h8) (I6 rs ++ [(.int .i64 (g j))])) := ⟨_, rfl⟩
                  have HQ7 : Hid (PS w0 x7 P c0 T7 (fun x => G x ∨ x = X)) := by rw [hT7]; exact hP
                  clear hP
                  have e12 := eqT hT7 e12 (by decide)
                  have e9 := eqT hT7 e9 (by decide)
                  have e6 := eqT hT7 e6 (by decide)
                  have e10 := eqT hT7 e10 (by decide)
                  have e11 := eqT hT7 e11 (by decide)
                  have e7 := eqT hT7 e7 (by decide)
                  have kf : Hid (∀ i, i < 6 → T7 i = TA i) := fun i hi => eqT hT7 (kf.out i hi) (by omega)
                  have e8 : T7 8 = .row 3 (.slice g8 l8 h8) (I6 rs ++ [(.int .i64 (g j))]) := by rw [hT7]; exact put_same _ _ _
                  clear hT7 HQ6
                  simp only [Act.put, List.setIfInBounds_toArray, List.set_cons_zero, List.set_cons_succ]
              case' b62 =>
                go_simp
                have HQ4 : Hid (PS w0 (x3.alloc (.cells #[(.int .i64 (g j))] 3)) P c0 (put T3 11 (.one 3 x3.heap.size (.int .i64 (g j)))) (fun x => G x ∨ x = X)) := HQ3.out.fresh (below_alloc _ _) 11 (heap_alloc_new x3 _) (fun b hb => by rw [show b = x3.heap.size from hb]; exact Nat.le_refl _)
                refine hKc.out _ _ (fun _ _ => HQ4.out.pr) ?_
                clear hKc Kc HQ3
                obtain ⟨T4, hT4⟩ : ∃ T4, T4 = put T3 11 (.one 3 x3.heap.size (.int .i64 (g j))) := ⟨_, rfl⟩
                rw [← hT4] at HQ4
                revert HQ4 hT4
                generalize x3.alloc (.cells #[(.int .i64 (g j))] 3) = x4
                generalize x3.heap.size = y8
                intro HQ4 hT4
                have e7 := eqT hT4 e7 (by decide)
                have e8 := eqT hT4 e8 (by decide)
                have e12 := eqT hT4 e12 (by decide)
                have e9 := eqT hT4 e9 (by decide)
                have e6 := eqT hT4 e6 (by decide)
                have kf : Hid (∀ i, i < 6 → T4 i = TA i) := fun i hi => eqT hT4 (kf.out i hi) (by omega)
                have e11 : T4 11 = .one 3 y8 (.int .i64 (g j)) := by rw [hT4]; exact put_same _ _ _
                clear hT4
                refine wpAnyM_ready (rs := [16]) (by kernel_rfl) (by simp) ?_
                refine AllReadyM.cons (by simp; rfl) (fun Kc hKc => ?_) AllReadyM.nil
                go_simp
                have HQ5 : Hid (PS w0 (x4.alloc (.cells #[(.int .i64 (j : Int))] 3)) P c0 (put T4 10 (.one 3 x4.heap.size (.int .i64 (j : Int)))) (fun x => G x ∨ x = X)) := HQ4.out.fresh (below_alloc _ _) 10 (heap_alloc_new x4 _) (fun b hb => by rw [show b = x4.heap.size from hb]; exact Nat.le_refl _)
                refine hKc.out _ _ (fun _ _ => HQ5.out.pr) ?_
                clear hKc Kc HQ4
                obtain ⟨T5, hT5⟩ : ∃ T5, T5 = put T4 10 (.one 3 x4.heap.size (.int .i64 (j : Int))) := ⟨_, rfl⟩
                rw [← hT5] at HQ5
                revert HQ5 hT5
                generalize x4.alloc (.cells #[(.int .i64 (j : Int))] 3) = x5
                generalize x4.heap.size = y7
                intro HQ5 hT5
                have e7 := eqT hT5 e7 (by decide)
                have e8 := eqT hT5 e8 (by decide)
                have e12 := eqT hT5 e12 (by decide)
                have e9 := eqT hT5 e9 (by decide)
                have e6 := eqT hT5 e6 (by decide)
                have e11 := eqT hT5 e11 (by decide)
                have kf : Hid (∀ i, i < 6 → T5 i = TA i) := fun i hi => eqT hT5 (kf.out i hi) (by omega)
                have e10 : T5 10 = .one 3 y7 (.int .i64 (j : Int)) := by rw [hT5]; exact put_same _ _ _
                clear hT5
                refine wpAnyM_ready (rs := [17]) (by kernel_rfl) (by simp) ?_
                refine AllReadyM.cons (by simp; rfl) (fun Kc hKc => ?_) AllReadyM.nil
                obtain ⟨v', x6, hap, ⟨g7, h7, rfl⟩, hP⟩ := HQ5.out.appR (i := 7) O.elI (by decide) e7 (by have := HQ5.out.fam.at' 10 (by decide); rw [e10] at this; exact this) (by simp; omega) rfl
                have HAP : Hid ((Builtin.append_ #[39, 39] 39 #[(.slice p7 m7 c7), .slice (some ⟨y7, 0, none⟩) 1 1]).run Tryd.prog x5 = .ok (.slice g7 ((I6 os).length + 1) h7) x6) := hap
                clear hap
                generalize (I6 os).length + 1 = l7 at HAP hP
                refine step_append_is (u1 := (.slice p7 m7 c7)) (u2 := .slice (some ⟨y7, 0, none⟩) 1 1) (by rfl) rfl rfl rfl rfl HAP.out ?_
                refine hKc.out _ _ (fun _ _ => hP.pr) ?_
                clear hKc Kc HAP
                obtain ⟨T6, hT6⟩ : ∃ T6, T6 = put T5 7 (.row 3 (.slice g7 l7 h7) (I6 os ++ [(.int .i64 (j : Int))])) := ⟨_, rfl⟩
                have HQ6 : Hid (PS w0 x6 P c0 T6 (fun x => G x ∨ x = X)) := by rw [hT6]; exact hP
                clear hP
                have e8 := eqT hT6 e8 (by decide)
                have e12 := eqT hT6 e12 (by decide)
                have e9 := eqT hT6 e9 (by decide)
                have e6 := eqT hT6 e6 (by decide)
                have e11 := eqT hT6 e11 (by decide)
                have e10 := eqT hT6 e10 (by decide)
                have kf : Hid (∀ i, i < 6 → T6 i = TA i) := fun i hi => eqT hT6 (kf.out i hi) (by omega)
                have e7 : T6 7 = .row 3 (.slice g7 l7 h7) (I6 os ++ [(.int .i64 (j : Int))]) := by rw [hT6]; exact put_same _ _ _
                clear hT6 HQ5
                simp only [Act.put, List.setIfInBounds_toArray, List.set_cons_zero, List.set_cons_succ]
                refine wpAnyM_ready (rs := [29]) (by kernel_rfl) (by simp) ?_
                refine AllReadyM.cons (by simp; rfl) (fun Kc hKc => ?_) AllReadyM.nil
                obtain ⟨v', x7, hap, ⟨g8, h8, rfl⟩, hP⟩ := HQ6.out.appR (i := 8) O.elI (by decide) e8 (by have := HQ6.out.fam.at' 11 (by decide); rw [e11] at this; exact this) (by simp; omega) rfl
                have HAP : Hid ((Builtin.append_ #[39, 39] 39 #[(.slice p8 m8 c8), .slice (some ⟨y8, 0, none⟩) 1 1]).run Tryd.prog x6 = .ok (.slice g8 ((I6 rs).length + 1) h8) x7) := hap
                clear hap
                generalize (I6 rs).length + 1 = l8 at HAP hP
                refine step_append_is (u1 := (.slice p8 m8 c8)) (u2 := .slice (some ⟨y8, 0, none⟩) 1 1) (by rfl) rfl rfl rfl rfl HAP.out ?_
                refine hKc.out _ _ (fun _ _ => hP.pr) ?_
                clear hKc Kc HAP
                obtain ⟨T7, hT7⟩ : ∃ T7, T7 = put T6 8 (.row 3 (.slice g8 l8 h8) (I6 rs ++ [(.int .i64 (g j))])) := ⟨_, rfl⟩
                have HQ7 : Hid (PS w0 x7 P c0 T7 (fun x => G x ∨ x = X)) := by rw [hT7]; exact hP
                clear hP
                have e12 := eqT hT7 e12 (by decide)
                have e9 := eqT hT7 e9 (by decide)
                have e6 := eqT hT7 e6 (by decide)
                have e11 := eqT hT7 e11 (by decide)
                have e10 := eqT hT7 e10 (by decide)
                have e7 := eqT hT7 e7 (by decide)
                have kf : Hid (∀ i, i < 6 → T7 i = TA i) := fun i hi => eqT hT7 (kf.out i hi) (by omega)
                have e8 : T7 8 = .row 3 (.slice g8 l8 h8) (I6 rs ++ [(.int .i64 (g j))]) := by rw [hT7]; exact put_same _ _ _
                clear hT7 HQ6
                simp only [Act.put, List.setIfInBounds_toArray, List.set_cons_zero, List.set_cons_succ]
            case' b59 =>
              go_simp
              have HQ3 : Hid (PS w0 (x2.alloc (.cells #[(.int .i64 (j : Int))] 3)) P c0 (put T2 10 (.one 3 x2.heap.size (.int .i64 (j : Int)))) G) := HQ2.out.fresh (below_alloc _ _) 10 (heap_alloc_new x2 _) (fun b hb => by rw [show b = x2.heap.size from hb]; exact Nat.le_refl _)
              refine hKc.out _ _ (fun _ _ => HQ3.out.pr) ?_
              clear hKc Kc HQ2
              obtain ⟨T3, hT3⟩ : ∃ T3, T3 = put T2 10 (.one 3 x2.heap.size (.int .i64 (j : Int))) := ⟨_, rfl⟩
              rw [← hT3] at HQ3
              revert HQ3 hT3
              generalize x2.alloc (.cells #[(.int .i64 (j : Int))] 3) = x3
              generalize x2.heap.size = y7
              intro HQ3 hT3
              have e6 := eqT hT3 e6 (by decide)
              have e7 := eqT hT3 e7 (by decide)
              have e8 := eqT hT3 e8 (by decide)
              have e12 := eqT hT3 e12 (by decide)
              have e14 := eqT hT3 e14 (by decide)
              have e9 := eqT hT3 e9 (by decide)
              have kf : Hid (∀ i, i < 6 → T3 i = TA i) := fun i hi => eqT hT3 (kf.out i hi) (by omega)
              have e10 : T3 10 = .one 3 y7 (.int .i64 (j : Int)) := by rw [hT3]; exact put_same _ _ _
              clear hT3
              refine wpAnyM_ready (rs := [10, 28]) (by kernel_rfl) (by simp) ?_
              refine AllReadyM.cons (by simp; rfl) (fun Kc hKc => ?b65) (AllReadyM.cons (by simp; rfl) (fun Kc hKc => ?b66) AllReadyM.nil)
              case' b65 =>
                obtain ⟨v', x4, hap, ⟨g6, h6, rfl⟩, hP⟩ := HQ3.out.appQ2 elQ e6 e9 e14 (by omega)
                have HAP : Hid ((Builtin.append_ #[38, 38] 38 #[(.slice p6 m6 c6), .slice (some ⟨y6, 0, none⟩) 1 1]).run Tryd.prog x3 = .ok (.slice g6 (bs.length + 1) h6) x4) := hap
                clear hap
                generalize bs.length + 1 = l6 at HAP hP
                refine step_append_is (u1 := (.slice p6 m6 c6)) (u2 := .slice (some ⟨y6, 0, none⟩) 1 1) (by rfl) rfl rfl rfl rfl HAP.out ?_
                refine hKc.out _ _ (fun _ _ => hP.pr) ?_
                clear hKc Kc HAP
                obtain ⟨T4, hT4⟩ : ∃ T4, T4 = put (put T3 14 .no) 6 (.sq (.slice g6 l6 h6) (bs ++ [(X, Q j)])) := ⟨_, rfl⟩
                have HQ4 : Hid (PS w0 x4 P c0 T4 (fun x => G x ∨ x = X)) := by rw [hT4]; exact hP
                clear hP
                have e7 := eqT2 hT4 e7 (by decide) (by decide)
                have e8 := eqT2 hT4 e8 (by decide) (by decide)
                have e12 := eqT2 hT4 e12 (by decide) (by decide)
                have e9 := eqT2 hT4 e9 (by decide) (by decide)
                have e10 := eqT2 hT4 e10 (by decide) (by decide)
                have kf : Hid (∀ i, i < 6 → T4 i = TA i) := fun i hi => eqT2 hT4 (kf.out i hi) (by omega) (by omega)
                have e6 : T4 6 = .sq (.slice g6 l6 h6) (bs ++ [(X, Q j)]) := by rw [hT4]; exact put_same _ _ _
                clear hT4 HQ3
                simp only [Act.put, List.setIfInBounds_toArray, List.set_cons_zero, List.set_cons_succ]
                refine wpAnyM_ready (rs := [17, 28]) (by kernel_rfl) (by simp) ?_
                refine AllReadyM.cons (by simp; rfl) (fun Kc hKc => ?b67) (AllReadyM.cons (by simp; rfl) (fun Kc hKc => ?b68) AllReadyM.nil)
                case' b67 =>
                  obtain ⟨v', x5, hap, ⟨g7, h7, rfl⟩, hP⟩ := HQ4.out.appR (i := 7) O.elI (by decide) e7 (by have := HQ4.out.fam.at' 10 (by decide); rw [e10] at this; exact this) (by simp; omega) rfl
                  have HAP : Hid ((Builtin.append_ #[39, 39] 39 #[(.slice p7 m7 c7), .slice (some ⟨y7, 0, none⟩) 1 1]).run Tryd.prog x4 = .ok (.slice g7 ((I6 os).length + 1) h7) x5) := hap
                  clear hap
                  generalize (I6 os).length + 1 = l7 at HAP hP
                  refine step_append_is (u1 := (.slice p7 m7 c7)) (u2 := .slice (some ⟨y7, 0, none⟩) 1 1) (by rfl) rfl rfl rfl rfl HAP.out ?_
                  refine hKc.out _ _ (fun _ _ => hP.pr) ?_
                  clear hKc Kc HAP
                  obtain ⟨T5, hT5⟩ : ∃ T5, T5 = put T4 7 (.row 3 (.slice g7 l7 h7) (I6 os ++ [(.int .i64 (j : Int))])) := ⟨_, rfl⟩
                  have HQ5 : Hid (PS w0 x5 P c0 T5 (fun x => G x ∨ x = X)) := by rw [hT5]; exact hP
                  clear hP
                  have e8 := eqT hT5 e8 (by decide)
                  have e12 := eqT hT5 e12 (by decide)
                  have e9 := eqT hT5 e9 (by decide)
                  have e10 := eqT hT5 e10 (by decide)
                  have e6 := eqT hT5 e6 (by decide)
                  have kf : Hid (∀ i, i < 6 → T5 i = TA i) := fun i hi => eqT hT5 (kf.out i hi) (by omega)
                  have e7 : T5 7 = .row 3 (.slice g7 l7 h7) (I6 os ++ [(.int .i64 (j : Int))]) := by rw [hT5]; exact put_same _ _ _
                  clear hT5 HQ4
                  simp only [Act.put, List.setIfInBounds_toArray, List.set_cons_zero, List.set_cons_succ]
                  refine wpAnyM_ready (rs := [28]) (by kernel_rfl) (by simp) ?_
                  refine AllReadyM.cons (by simp; rfl) (fun Kc hKc => ?_) AllReadyM.nil
                  go_simp
                  have HQ6 : Hid (PS w0 (x5.alloc (.cells #[(.int .i64 (g j))] 3)) P c0 (put T5 11 (.one 3 x5.heap.size (.int .i64 (g j)))) (fun x => G x ∨ x = X)) := HQ5.out.fresh (below_alloc _ _) 11 (heap_alloc_new x5 _) (fun b hb => by rw [show b = x5.heap.size from hb]; exact Nat.le_refl _)
                  refine hKc.out _ _ (fun _ _ => HQ6.out.pr) ?_
                  clear hKc Kc HQ5
                  obtain ⟨T6, hT6⟩ : ∃ T6, T6 = put T5 11 (.one 3 x5.heap.size (.int .i64 (g j))) := ⟨_, rfl⟩
                  rw [← hT6] at HQ6
                  revert HQ6 hT6
                  generalize x5.alloc (.cells #[(.int .i64 (g j))] 3) = x6
                  generalize x5.heap.size = y8
                  intro HQ6 hT6
                  have e8 := eqT hT6 e8 (by decide)
                  have e12 := eqT hT6 e12 (by decide)
                  have e9 := eqT hT6 e9 (by decide)
                  have e10 := eqT hT6 e10 (by decide)
                  have e6 := eqT hT6 e6 (by decide)
                  have e7 := eqT hT6 e7 (by decide)
                  have kf : Hid (∀ i, i < 6 → T6 i = TA i) := fun i hi => eqT hT6 (kf.out i hi) (by omega)
                  have e11 : T6 11 = .one 3 y8 (.int .i64 (g j)) := by rw [hT6]; exact put_same _ _ _
                  clear hT6
                  refine wpAnyM_ready (rs := [29]) (by kernel_rfl) (by simp) ?_
                  refine AllReadyM.cons (by simp; rfl) (fun Kc hKc => ?_) AllReadyM.nil
                  obtain ⟨v', x7, hap, ⟨g8, h8, rfl⟩, hP⟩ := HQ6.out.appR (i := 8) O.elI (by decide) e8 (by have := HQ6.out.fam.at' 11 (by decide); rw [e11] at this; exact this) (by simp; omega) rfl
                  have HAP : Hid ((Builtin.append_ #[39, 39] 39 #[(.slice p8 m8 c8), .slice (some ⟨y8, 0, none⟩) 1 1]).run Tryd.prog x6 = .ok (.slice g8 ((I6 rs).length + 1) h8) x7) := hap
                  clear hap
                  generalize (I6 rs).length + 1 = l8 at HAP hP
                  refine step_append_is (u1 := (.slice p8 m8 c8)) (u2 := .slice (some ⟨y8, 0, none⟩) 1 1) (by rfl) rfl rfl rfl rfl HAP.out ?_
                  refine hKc.out _ _ (fun _ _ => hP.pr) ?_
                  clear hKc Kc HAP
                  obtain ⟨T7, hT7⟩ : ∃ T7, T7 = put T6 8 (.row 3 (.slice g8 l8 h8) (I6 rs ++ [(.int .i64 (g j))])) := ⟨_, rfl⟩
                  have HQ7 : Hid (PS w0 x7 P c0 T7 (fun x => G x ∨ x = X)) := by rw [hT7]; exact hP
                  clear hP
                  have e12 := eqT hT7 e12 (by decide)
                  have e9 := eqT hT7 e9 (by decide)
                  have e10 := eqT hT7 e10 (by decide)
                  have e6 := eqT hT7 e6 (by decide)
                  have e7 := eqT hT7 e7 (by decide)
                  have e11 := eqT hT7 e11 (by decide)
                  have kf : Hid (∀ i, i < 6 → T7 i = TA i) := fun i hi => eqT hT7 (kf.out i hi) (by omega)
                  have e8 : T7 8 = .row 3 (.slice g8 l8 h8) (I6 rs ++ [(.int .i64 (g j))]) := by rw [hT7]; exact put_same _ _ _
                  clear hT7 HQ6
                  simp only [Act.put, List.setIfInBounds_toArray, List.set_cons_zero, List.set_cons_succ]
                case' b68 =>
                  go_simp
                  have HQ5 : Hid (PS w0 (x4.alloc (.cells #[(.int .i64 (g j))] 3)) P c0 (put T4 11 (.one 3 x4.heap.size (.int .i64 (g j)))) (fun x => G x ∨ x = X)) := HQ4.out.fresh (below_alloc _ _) 11 (heap_alloc_new x4 _) (fun b hb => by rw [show b = x4.heap.size from hb]; exact Nat.le_refl _)
                  refine hKc.out _ _ (fun _ _ => HQ5.out.pr) ?_
                  clear hKc Kc HQ4
                  obtain ⟨T5, hT5⟩ : ∃ T5, T5 = put T4 11 (.one 3 x4.heap.size (.int .i64 (g j))) := ⟨_, rfl⟩
                  rw [← hT5] at HQ5
                  revert HQ5 hT5
                  generalize x4.alloc (.cells #[(.int .i64 (g j))] 3) = x5
                  generalize x4.heap.size = y8
                  intro HQ5 hT5
                  have e7 := eqT hT5 e7 (by decide)
                  have e8 := eqT hT5 e8 (by decide)
                  have e12 := eqT hT5 e12 (by decide)
                  have e9 := eqT hT5 e9 (by decide)
                  have e10 := eqT hT5 e10 (by decide)
                  have e6 := eqT hT5 e6 (by decide)
                  have kf : Hid (∀ i, i < 6 → T5 i = TA i) := fun i hi => eqT hT5 (kf.out i hi) (by omega)
                  have e11 : T5 11 = .one 3 y8 (.int .i64 (g j)) := by rw [hT5]; exact put_same _ _ _
                  clear hT5
                  refine wpAnyM_ready (rs := [17]) (by kernel_rfl) (by simp) ?_
                  refine AllReadyM.cons (by simp; rfl) (fun Kc hKc => ?_) AllReadyM.nil
                  obtain ⟨v', x6, hap, ⟨g7, h7, rfl⟩, hP⟩ := HQ5.out.appR (i := 7) O.elI (by decide) e7 (by have := HQ5.out.fam.at' 10 (by decide); rw [e10] at this; exact this) (by simp; omega) rfl
                  have HAP : Hid ((Builtin.append_ #[39, 39] 39 #[(.slice p7 m7 c7), .slice (some ⟨y7, 0, none⟩) 1 1]).run Tryd.prog x5 = .ok (.slice g7 ((I6 os).length + 1) h7) x6) := hap
                  clear hap
                  generalize (I6 os).length + 1 = l7 at HAP hP
                  refine step_append_is (u1 := (.slice p7 m7 c7)) (u2 := .slice (some ⟨y7, 0, none⟩) 1 1) (by rfl) rfl rfl rfl rfl HAP.out ?_
                  refine hKc.out _ _ (fun _ _ => hP.pr) ?_
                  clear hKc Kc HAP
                  obtain ⟨T6, hT6⟩ : ∃ T6, T6 = put T5 7 (.row 3 (.slice g7 l7 h7) (I6 os ++ [(.int .i64 (j : Int))])) := ⟨_, rfl⟩
                  have HQ6 : Hid (PS w0 x6 P c0 T6 (fun x => G x ∨ x = X)) := by rw [hT6]; exact hP
                  clear hP
                  have e8 := eqT hT6 e8 (by decide)
                  have e12 := eqT hT6 e12 (by decide)
                  have e9 := eqT hT6 e9 (by decide)
                  have e10 := eqT hT6 e10 (by decide)
                  have e6 := eqT hT6 e6 (by decide)
                  have e11 := eqT hT6 e11 (by decide)
                  have kf : Hid (∀ i, i < 6 → T6 i = TA i) := fun i hi => eqT hT6 (kf.out i hi) (by omega)
                  have e7 : T6 7 = .row 3 (.slice g7 l7 h7) (I6 os ++ [(.int .i64 (j : Int))]) := by rw [hT6]; exact put_same _ _ _
                  clear hT6 HQ5
                  simp only [Act.put, List.setIfInBounds_toArray, List.set_cons_zero, List.set_cons_succ]
                  refine wpAnyM_ready (rs := [29]) (by kernel_rfl) (by simp) ?_
                  refine AllReadyM.cons (by simp; rfl) (fun Kc hKc => ?_) AllReadyM.nil
                  obtain ⟨v', x7, hap, ⟨g8, h8, rfl⟩, hP⟩ := HQ6.out.appR (i := 8) O.elI (by decide) e8 (by have := HQ6.out.fam.at' 11 (by decide); rw [e11] at this; exact this) (by simp; omega) rfl
                  have HAP : Hid ((Builtin.append_ #[39, 39] 39 #[(.slice p8 m8 c8), .slice (some ⟨y8, 0, none⟩) 1 1]).run Tryd.prog x6 = .ok (.slice g8 ((I6 rs).length + 1) h8) x7) := hap
                  clear hap
                  generalize (I6 rs).length + 1 = l8 at HAP hP
                  refine step_append_is (u1 := (.slice p8 m8 c8)) (u2 := .slice (some ⟨y8, 0, none⟩) 1 1) (by rfl) rfl rfl rfl rfl HAP.out ?_
                  refine hKc.out _ _ (fun _ _ => hP.pr) ?_
                  clear hKc Kc HAP
                  obtain ⟨T7, hT7⟩ : ∃ T7, T7 = put T6 8 (.row 3 (.slice g8 l8 h8) (I6 rs ++ [(.int .i64 (g j))])) := ⟨_, rfl⟩
                  have HQ7 : Hid (PS w0 x7 P c0 T7 (fun x => G x ∨ x = X)) := by rw [hT7]; exact hP
                  clear hP
                  have e12 := eqT hT7 e12 (by decide)
                  have e9 := eqT hT7 e9 (by decide)
                  have e10 := eqT hT7 e10 (by decide)
                  have e6 := eqT hT7 e6 (by decide)
                  have e11 := eqT hT7 e11 (by decide)
                  have e7 := eqT hT7 e7 (by decide)
                  have kf : Hid (∀ i, i < 6 → T7 i = TA i) := fun i hi => eqT hT7 (kf.out i hi) (by omega)
                  have e8 : T7 8 = .row 3 (.slice g8 l8 h8) (I6 rs ++ [(.int .i64 (g j))]) := by rw [hT7]; exact put_same _ _ _
                  clear hT7 HQ6
                  simp only [Act.put, List.setIfInBounds_toArray, List.set_cons_zero, List.set_cons_succ]
              case' b66 =>
                go_simp
                have HQ4 : Hid (PS w0 (x3.alloc (.cells #[(.int .i64 (g j))] 3)) P c0 (put T3 11 (.one 3 x3.heap.size (.int .i64 (g j)))) G) := HQ3.out.fresh (below_alloc _ _) 11 (heap_alloc_new x3 _) (fun b hb => by rw [show b = x3.heap.size from hb]; exact Nat.le_refl _)
                refine hKc.out _ _ (fun _ _ => HQ4.out.pr) ?_
                clear hKc Kc HQ3
                obtain ⟨T4, hT4⟩ : ∃ T4, T4 = put T3 11 (.one 3 x3.heap.size (.int .i64 (g j))) := ⟨_, rfl⟩
                rw [← hT4] at HQ4
                revert HQ4 hT4
                generalize x3.alloc (.cells #[(.int .i64 (g j))] 3) = x4
                generalize x3.heap.size = y8
                intro HQ4 hT4
                have e6 := eqT hT4 e6 (by decide)
                have e7 := eqT hT4 e7 (by decide)
                have e8 := eqT hT4 e8 (by decide)
                have e12 := eqT hT4 e12 (by decide)
                have e14 := eqT hT4 e14 (by decide)
                have e9 := eqT hT4 e9 (by decide)
                have e10 := eqT hT4 e10 (by decide)
                have kf : Hid (∀ i, i < 6 → T4 i = TA i) := fun i hi => eqT hT4 (kf.out i hi) (by omega)
                have e11 : T4 11 = .one 3 y8 (.int .i64 (g j)) := by rw [hT4]; exact put_same _ _ _
                clear hT4
                refine wpAnyM_ready (rs := [10]) (by kernel_rfl) (by simp) ?_
                refine AllReadyM.cons (by simp; rfl) (fun Kc hKc => ?_) AllReadyM.nil
                obtain ⟨v', x5, hap, ⟨g6, h6, rfl⟩, hP⟩ := HQ4.out.appQ2 elQ e6 e9 e14 (by omega)
                have HAP : Hid ((Builtin.append_ #[38, 38] 38 #[(.slice p6 m6 c6), .slice (some ⟨y6, 0, none⟩) 1 1]).run Tryd.prog x4 = .ok (.slice g6 (bs.length + 1) h6) x5) := hap
                clear hap
                generalize bs.length + 1 = l6 at HAP hP
                refine step_append_is (u1 := (.slice p6 m6 c6)) (u2 := .slice (some ⟨y6, 0, none⟩) 1 1) (by rfl) rfl rfl rfl rfl HAP.out ?_
                refine hKc.out _ _ (fun _ _ => hP.pr) ?_
                clear hKc Kc HAP
                obtain ⟨T5, hT5⟩ : ∃ T5, T5 = put (put T4 14 .no) 6 (.sq (.slice g6 l6 h6) (bs ++ [(X, Q j)])) := ⟨_, rfl⟩
                have HQ5 : Hid (PS w0 x5 P c0 T5 (fun x => G x ∨ x = X)) := by rw [hT5]; exact hP
                clear hP
                have e7 := eqT2 hT5 e7 (by decide) (by decide)
                have e8 := eqT2 hT5 e8 (by decide) (by decide)
                have e12 := eqT2 hT5 e12 (by decide) (by decide)
                have e9 := eqT2 hT5 e9 (by decide) (by decide)
                have e10 := eqT2 hT5 e10 (by decide) (by decide)
                have e11 := eqT2 hT5 e11 (by decide) (by decide)
                have kf : Hid (∀ i, i < 6 → T5 i = TA i) := fun i hi => eqT2 hT5 (kf.out i hi) (by omega) (by omega)
                have e6 : T5 6 = .sq (.slice g6 l6 h6) (bs ++ [(X, Q j)]) := by rw [hT5]; exact put_same _ _ _
                clear hT5 HQ4
                simp only [Act.put, List.setIfInBounds_toArray, List.set_cons_zero, List.set_cons_succ]
                refine wpAnyM_ready (rs := [17]) (by kernel_rfl) (by simp) ?_
                refine AllReadyM.cons (by simp; rfl) (fun Kc hKc => ?_) AllReadyM.nil
                obtain ⟨v', x6, hap, ⟨g7, h7, rfl⟩, hP⟩ := HQ5.out.appR (i := 7) O.elI (by decide) e7 (by have := HQ5.out.fam.at' 10 (by decide); rw [e10] at this; exact this) (by simp; omega) rfl
                have HAP : Hid ((Builtin.append_ #[39, 39] 39 #[(.slice p7 m7 c7), .slice (some ⟨y7, 0, none⟩) 1 1]).run Tryd.prog x5 = .ok (.slice g7 ((I6 os).length + 1) h7) x6) := hap
                clear hap
                generalize (I6 os).length + 1 = l7 at HAP hP
                refine step_append_is (u1 := (.slice p7 m7 c7)) (u2 := .slice (some ⟨y7, 0, none⟩) 1 1) (by rfl) rfl rfl rfl rfl HAP.out ?_
                refine hKc.out _ _ (fun _ _ => hP.pr) ?_
                clear hKc Kc HAP
                obtain ⟨T6, hT6⟩ : ∃ T6, T6 = put T5 7 (.row 3 (.slice g7 l7 h7) (I6 os ++ [(.int .i64 (j : Int))])) := ⟨_, rfl⟩
                have HQ6 : Hid (PS w0 x6 P c0 T6 (fun x => G x ∨ x = X)) := by rw [hT6]; exact hP
                clear hP
                have e8 := eqT hT6 e8 (by decide)
                have e12 := eqT hT6 e12 (by decide)
                have e9 := eqT hT6 e9 (by decide)
                have e10 := eqT hT6 e10 (by decide)
                have e11 := eqT hT6 e11 (by decide)
                have e6 := eqT hT6 e6 (by decide)
                have kf : Hid (∀ i, i < 6 → T6 i = TA i) := fun i hi => eqT hT6 (kf.out i hi) (by omega)
                have e7 : T6 7 = .row 3 (.slice g7 l7 h7) (I6 os ++ [(.int .i64 (j : Int))]) := by rw [hT6]; exact put_same _ _ _
                clear hT6 HQ5
                simp only [Act.put, List.setIfInBounds_toArray, List.set_cons_zero, List.set_cons_succ]
                refine wpAnyM_ready (rs := [29]) (by kernel_rfl) (by simp) ?_
                refine AllReadyM.cons (by simp; rfl) (fun Kc hKc => ?_) AllReadyM.nil
                obtain ⟨v', x7, hap, ⟨g8, h8, rfl⟩, hP⟩ := HQ6.out.appR (i := 8) O.elI (by decide) e8 (by have := HQ6.out.fam.at' 11 (by decide); rw [e11] at this; exact this) (by simp; omega) rfl
                have HAP : Hid ((Builtin.append_ #[39, 39] 39 #[(.slice p8 m8 c8), .slice (some ⟨y8, 0, none⟩) 1 1]).run Tryd.prog x6 = .ok (.slice g8 ((I6 rs).length + 1) h8) x7) := hap
                clear hap
                generalize (I6 rs).length + 1 = l8 at HAP hP
                refine step_append_is (u1 := (.slice p8 m8 c8)) (u2 := .slice (some ⟨y8, 0, none⟩) 1 1) (by rfl) rfl rfl rfl rfl HAP.out ?_
                refine hKc.out _ _ (fun _ _ => hP.pr) ?_
                clear hKc Kc HAP
                obtain ⟨T7, hT7⟩ : ∃ T7, T7 = put T6 8 (.row 3 (.slice g8 l8 h8) (I6 rs ++ [(.int .i64 (g j))])) := ⟨_, rfl⟩
                have HQ7 : Hid (PS w0 x7 P c0 T7 (fun x => G x ∨ x = X)) := by rw [hT7]; exact hP
                clear hP
                have e12 := eqT hT7 e12 (by decide)
                have e9 := eqT hT7 e9 (by decide)
                have e10 := eqT hT7 e10 (by decide)
                have e11 := eqT hT7 e11 (by decide)
                have e6 := eqT hT7 e6 (by decide)
                have e7 := eqT hT7 e7 (by decide)
                have kf : Hid (∀ i, i < 6 → T7 i = TA i) := fun i hi => eqT hT7 (kf.out i hi) (by omega)
                have e8 : T7 8 = .row 3 (.slice g8 l8 h8) (I6 rs ++ [(.int .i64 (g j))]) := by rw [hT7]; exact put_same _ _ _
                clear hT7 HQ6
                simp only [Act.put, List.setIfInBounds_toArray, List.set_cons_zero, List.set_cons_succ]
            case' b60 =>
              go_simp
              have HQ3 : Hid (PS w0 (x2.alloc (.cells #[(.int .i64 (g j))] 3)) P c0 (put T2 11 (.one 3 x2.heap.size (.int .i64 (g j)))) G) := HQ2.out.fresh (below_alloc _ _) 11 (heap_alloc_new x2 _) (fun b hb => by rw [show b = x2.heap.size from hb]; exact Nat.le_refl _)
              refine hKc.out _ _ (fun _ _ => HQ3.out.pr) ?_
              clear hKc Kc HQ2
              obtain ⟨T3, hT3⟩ : ∃ T3, T3 = put T2 11 (.one 3 x2.heap.size (.int .i64 (g j))) := ⟨_, rfl⟩
              rw [← hT3] at HQ3
              revert HQ3 hT3
              generalize x2.alloc (.cells #[(.int .i64 (g j))] 3) = x3
              generalize x2.heap.size = y8
              intro HQ3 hT3
              have e6 := eqT hT3 e6 (by decide)
              have e7 := eqT hT3 e7 (by decide)
              have e8 := eqT hT3 e8 (by decide)
              have e12 := eqT hT3 e12 (by decide)
              have e14 := eqT hT3 e14 (by decide)
              have e9 := eqT hT3 e9 (by decide)
              have kf : Hid (∀ i, i < 6 → T3 i = TA i) := fun i hi => eqT hT3 (kf.out i hi) (by omega)
              have e11 : T3 11 = .one 3 y8 (.int .i64 (g j)) := by rw [hT3]; exact put_same _ _ _
              clear hT3
              refine wpAnyM_ready (rs := [10, 16]) (by kernel_rfl) (by simp) ?_
              refine AllReadyM.cons (by simp; rfl) (fun Kc hKc => ?b69) (AllReadyM.cons (by simp; rfl) (fun Kc hKc => ?b70) AllReadyM.nil)
              case' b69 =>
                obtain ⟨v', x4, hap, ⟨g6, h6, rfl⟩, hP⟩ := HQ3.out.appQ2 elQ e6 e9 e14 (by omega)
                have HAP : Hid ((Builtin.append_ #[38, 38] 38 #[(.slice p6 m6 c6), .slice (some ⟨y6, 0, none⟩) 1 1]).run Tryd.prog x3 = .ok (.slice g6 (bs.length + 1) h6) x4) := hap
                clear hap
                generalize bs.length + 1 = l6 at HAP hP
                refine step_append_is (u1 := (.slice p6 m6 c6)) (u2 := .slice (some ⟨y6, 0, none⟩) 1 1) (by rfl) rfl rfl rfl rfl HAP.out ?_
                refine hKc.out _ _ (fun _ _ => hP.pr) ?_
                clear hKc Kc HAP
                obtain ⟨T4, hT4⟩ : ∃ T4, T4 = put (put T3 14 .no) 6 (.sq (.slice g6 l6 h6) (bs ++ [(X, Q j)])) := ⟨_, rfl⟩
                have HQ4 : Hid (PS w0 x4 P c0 T4 (fun x => G x ∨ x = X)) := by rw [hT4]; exact hP
                clear hP
                have e7 := eqT2 hT4 e7 (by decide) (by decide)
                have e8 := eqT2 hT4 e8 (by decide) (by decide)
                have e12 := eqT2 hT4 e12 (by decide) (by decide)
                have e9 := eqT2 hT4 e9 (by decide) (by decide)
                have e11 := eqT2 hT4 e11 (by decide) (by decide)
                have kf : Hid (∀ i, i < 6 → T4 i = TA i) := fun i hi => eqT2 hT4 (kf.out i hi) (by omega) (by omega)
                have e6 : T4 6 = .sq (.slice g6 l6 h6) (bs ++ [(X, Q j)]) := by rw [hT4]; exact put_same _ _ _
                clear hT4 HQ3
                simp only [Act.put, List.setIfInBounds_toArray, List.set_cons_zero, List.set_cons_succ]
                refine wpAnyM_ready (rs := [16]) (by kernel_rfl) (by simp) ?_
                refine AllReadyM.cons (by simp; rfl) (fun Kc hKc => ?_) AllReadyM.nil
                go_simp
                have HQ5 : Hid (PS w0 (x4.alloc (.cells #[(.int .i64 (j : Int))] 3)) P c0 (put T4 10 (.one 3 x4.heap.size (.int .i64 (j : Int)))) (fun x => G x ∨ x = X)) := HQ4.out.fresh (below_alloc _ _) 10 (heap_alloc_new x4 _) (fun b hb => by rw [show b = x4.heap.size from hb]; exact Nat.le_refl _)
                refine hKc.out _ _ (fun _ _ => HQ5.out.pr) ?_
                clear hKc Kc HQ4
                obtain ⟨T5, hT5⟩ : ∃ T5, T5 = put T4 10 (.one 3 x4.heap.size (.int .i64 (j : Int))) := ⟨_, rfl⟩
                rw [← hT5] at HQ5
                revert HQ5 hT5
                generalize x4.alloc (.cells #[(.int .i64 (j : Int))] 3) = x5
                generalize x4.heap.size = y7
                intro HQ5 hT5
                have e7 := eqT hT5 e7 (by decide)
                have e8 := eqT hT5 e8 (by decide)
                have e12 := eqT hT5 e12 (by decide)
                have e9 := eqT hT5 e9 (by decide)
                have e11 := eqT hT5 e11 (by decide)
                have e6 := eqT hT5 e6 (by decide)
                have kf : Hid (∀ i, i < 6 → T5 i = TA i) := fun i hi => eqT hT5 (kf.out i hi) (by omega)
                have e10 : T5 10 = .one 3 y7 (.int .i64 (j : Int)) := by rw [hT5]; exact put_same _ _ _
                clear hT5
                refine wpAnyM_ready (rs := [17]) (by kernel_rfl) (by simp) ?_
                refine AllReadyM.cons (by simp; rfl) (fun Kc hKc => ?_) AllReadyM.nil
                obtain ⟨v', x6, hap, ⟨g7, h7, rfl⟩, hP⟩ := HQ5.out.appR (i := 7) O.elI (by decide) e7 (by have := HQ5.out.fam.at' 10 (by decide); rw [e10] at this; exact this) (by simp; omega) rfl
                have HAP : Hid ((Builtin.append_ #[39, 39] 39 #[(.slice p7 m7 c7), .slice (some ⟨y7, 0, none⟩) 1 1]).run Tryd.prog x5 = .ok (.slice g7 ((I6 os).length + 1) h7) x6) := hap
                clear hap
                generalize (I6 os).length + 1 = l7 at HAP hP
                refine step_append_is (u1 := (.slice p7 m7 c7)) (u2 := .slice (some ⟨y7, 0, none⟩) 1 1) (by rfl) rfl rfl rfl rfl HAP.out ?_
                refine hKc.out _ _ (fun _ _ => hP.pr) ?_
                clear hKc Kc HAP
                obtain ⟨T6, hT6⟩ : ∃ T6, T6 = put T5 7 (.row 3 (.slice g7 l7 h7) (I6 os ++ [(.int .i64 (j : Int))])) := ⟨_, rfl⟩
                have HQ6 : Hid (PS w0 x6 P c0 T6 (fun x => G x ∨ x = X)) := by rw [hT6]; exact hP
                clear hP
                have e8 := eqT hT6 e8 (by decide)
                have e12 := eqT hT6 e12 (by decide)
                have e9 := eqT hT6 e9 (by decide)
                have e11 := eqT hT6 e11 (by decide)
                have e6 := eqT hT6 e6 (by decide)
                have e10 := eqT hT6 e10 (by decide)
                have kf : Hid (∀ i, i < 6 → T6 i = TA i) := fun i hi => eqT hT6 (kf.out i hi) (by omega)
                have e7 : T6 7 = .row 3 (.slice g7 l7 h7) (I6 os ++ [(.int .i64 (j : Int))]) := by rw [hT6]; exact put_same _ _ _
                clear hT6 HQ5
                simp only [Act.put, List.setIfInBounds_toArray, List.set_cons_zero, List.set_cons_succ]
                refine wpAnyM_ready (rs := [29]) (by kernel_rfl) (by simp) ?_
                refine AllReadyM.cons (by simp; rfl) (fun Kc hKc => ?_) AllReadyM.nil
                obtain ⟨v', x7, hap, ⟨g8, h8, rfl⟩, hP⟩ := HQ6.out.appR (i := 8) O.elI (by decide) e8 (by have := HQ6.out.fam.at' 11 (by decide); rw [e11] at this; exact this) (by simp; omega) rfl
                have HAP : Hid ((Builtin.append_ #[39, 39] 39 #[(.slice p8 m8 c8), .slice (some ⟨y8, 0, none⟩) 1 1]).run Tryd.prog x6 = .ok (.slice g8 ((I6 rs).length + 1) h8) x7) := hap
                clear hap
                generalize (I6 rs).length + 1 = l8 at HAP hP
                refine step_append_is (u1 := (.slice p8 m8 c8)) (u2 := .slice (some ⟨y8, 0, none⟩) 1 1) (by rfl) rfl rfl rfl rfl HAP.out ?_
                refine hKc.out _ _ (fun _ _ => hP.pr) ?_
                clear hKc Kc HAP
                obtain ⟨T7, hT7⟩ : ∃ T7, T7 = put T6 8 (.row 3 (.slice g8 l8 h8) (I6 rs ++ [(.int .i64 (g j))])) := ⟨_, rfl⟩
                have HQ7 : Hid (PS w0 x7 P c0 T7 (fun x => G x ∨ x = X)) := by rw [hT7]; exact hP
                clear hP
                have e12 := eqT hT7 e12 (by decide)
                have e9 := eqT hT7 e9 (by decide)
                have e11 := eqT hT7 e11 (by decide)
                have e6 := eqT hT7 e6 (by decide)
                have e10 := eqT hT7 e10 (by decide)
                have e7 := eqT hT7 e7 (by decide)
                have kf : Hid (∀ i, i < 6 → T7 i = TA i) := fun i hi => eqT hT7 (kf.out i hi) (by omega)
                have e8 : T7 8 = .row 3 (.slice g8 l8 h8) (I6 rs ++ [(.int .i64 (g j))]) := by rw [hT7]; exact put_same _ _ _
                clear hT7 HQ6
                simp only [Act.put, List.setIfInBounds_toArray, List.set_cons_zero, List.set_cons_succ]
              case' b70 =>
                go_simp
                have HQ4 : Hid (PS w0 (x3.alloc (.cells #[(.int .i64 (j : Int))] 3)) P c0 (put T3 10 (.one 3 x3.heap.size (.int .i64 (j : Int)))) G) := HQ3.out.fresh (below_alloc _ _) 10 (heap_alloc_new x3 _) (fun b hb => by rw [show b = x3.heap.size from hb]; exact Nat.le_refl _)
                refine hKc.out _ _ (fun _ _ => HQ4.out.pr) ?_
                clear hKc Kc HQ3
                obtain ⟨T4, hT4⟩ : ∃ T4, T4 = put T3 10 (.one 3 x3.heap.size (.int .i64 (j : Int))) := ⟨_, rfl⟩
                rw [← hT4] at HQ4
                revert HQ4 hT4
                generalize x3.alloc (.cells #[(.int .i64 (j : Int))] 3) = x4
                generalize x3.heap.size = y7
                intro HQ4 hT4
                have e6 := eqT hT4 e6 (by decide)
                have e7 := eqT hT4 e7 (by decide)
                have e8 := eqT hT4 e8 (by decide)
                have e12 := eqT hT4 e12 (by decide)
                have e14 := eqT hT4 e14 (by decide)
                have e9 := eqT hT4 e9 (by decide)
                have e11 := eqT hT4 e11 (by decide)
                have kf : Hid (∀ i, i < 6 → T4 i = TA i) := fun i hi => eqT hT4 (kf.out i hi) (by omega)
                have e10 : T4 10 = .one 3 y7 (.int .i64 (j : Int)) := by rw [hT4]; exact put_same _ _ _
                clear hT4
                refine wpAnyM_ready (rs := [10]) (by kernel_rfl) (by simp) ?_
                refine AllReadyM.cons (by simp; rfl) (fun Kc hKc => ?_) AllReadyM.nil
                obtain ⟨v', x5, hap, ⟨g6, h6, rfl⟩, hP⟩ := HQ4.out.appQ2 elQ e6 e9 e14 (by omega)
                have HAP : Hid ((Builtin.append_ #[38, 38] 38 #[(.slice p6 m6 c6), .slice (some ⟨y6, 0, none⟩) 1 1]).run Tryd.prog x4 = .ok (.slice g6 (bs.length + 1) h6) x5) := hap
                clear hap
                generalize bs.length + 1 = l6 at HAP hP
                refine step_append_is (u1 := (.slice p6 m6 c6)) (u2 := .slice (some ⟨y6, 0, none⟩) 1 1) (by rfl) rfl rfl rfl rfl HAP.out ?_
                refine hKc.out _ _ (fun _ _ => hP.pr) ?_
                clear hKc Kc HAP
                obtain ⟨T5, hT5⟩ : ∃ T5, T5 = put (put T4 14 .no) 6 (.sq (.slice g6 l6 h6) (bs ++ [(X, Q j)])) := ⟨_, rfl⟩
                have HQ5 : Hid (PS w0 x5 P c0 T5 (fun x => G x ∨ x = X)) := by rw [hT5]; exact hP
                clear hP
                have e7 := eqT2 hT5 e7 (by decide) (by decide)
                have e8 := eqT2 hT5 e8 (by decide) (by decide)
                have e12 := eqT2 hT5 e12 (by decide) (by decide)
                have e9 := eqT2 hT5 e9 (by decide) (by decide)
                have e11 := eqT2 hT5 e11 (by decide) (by decide)
                have e10 := eqT2 hT5 e10 (by decide) (by decide)
                have kf : Hid (∀ i, i < 6 → T5 i = TA i) := fun i hi => eqT2 hT5 (kf.out i hi) (by omega) (by omega)
                have e6 : T5 6 = .sq (.slice g6 l6 h6) (bs ++ [(X, Q j)]) := by rw [hT5]; exact put_same _ _ _
                clear hT5 HQ4
                simp only [Act.put, List.setIfInBounds_toArray, List.set_cons_zero, List.set_cons_succ]
                refine wpAnyM_ready (rs := [17]) (by kernel_rfl) (by simp) ?_
                refine AllReadyM.cons (by simp; rfl) (fun Kc hKc => ?_) AllReadyM.nil
                obtain ⟨v', x6, hap, ⟨g7, h7, rfl⟩, hP⟩ := HQ5.out.appR (i := 7) O.elI (by decide) e7 (by have := HQ5.out.fam.at' 10 (by decide); rw [e10] at this; exact this) (by simp; omega) rfl
                have HAP : Hid ((Builtin.append_ #[39, 39] 39 #[(.slice p7 m7 c7), .slice (some ⟨y7, 0, none⟩) 1 1]).run Tryd.prog x5 = .ok (.slice g7 ((I6 os).length + 1) h7) x6) := hap
                clear hap
                generalize (I6 os).length + 1 = l7 at HAP hP
                refine step_append_is (u1 := (.slice p7 m7 c7)) (u2 := .slice (some ⟨y7, 0, none⟩) 1 1) (by rfl) rfl rfl rfl rfl HAP.out ?_
                refine hKc.out _ _ (fun _ _ => hP.pr) ?_
                clear hKc Kc HAP
                obtain ⟨T6, hT6⟩ : ∃ T6, T6 = put T5 7 (.row 3 (.slice g7 l7 h7) (I6 os ++ [(.int .i64 (j : Int))])) := ⟨_, rfl⟩
                have HQ6 : Hid (PS w0 x6 P c0 T6 (fun x => G x ∨ x = X)) := by rw [hT6]; exact hP
                clear hP
                have e8 := eqT hT6 e8 (by decide)
                have e12 := eqT hT6 e12 (by decide)
                have e9 := eqT hT6 e9 (by decide)
                have e11 := eqT hT6 e11 (by decide)
                have e10 := eqT hT6 e10 (by decide)
                have e6 := eqT hT6 e6 (by decide)
                have kf : Hid (∀ i, i < 6 → T6 i = TA i) := fun i hi => eqT hT6 (kf.out i hi) (by omega)
                have e7 : T6 7 = .row 3 (.slice g7 l7 h7) (I6 os ++ [(.int .i64 (j : Int))]) := by rw [hT6]; exact put_same _ _ _
                clear hT6 HQ5
                simp only [Act.put, List.setIfInBounds_toArray, List.set_cons_zero, List.set_cons_succ]
                refine wpAnyM_ready (rs := [29]) (by kernel_rfl) (by simp) ?_
                refine AllReadyM.cons (by simp; rfl) (fun Kc hKc => ?_) AllReadyM.nil
                obtain ⟨v', x7, hap, ⟨g8, h8, rfl⟩, hP⟩ := HQ6.out.appR (i := 8) O.elI (by decide) e8 (by have := HQ6.out.fam.at' 11 (by decide); rw [e11] at this; exact this) (by simp; omega) rfl
                have HAP : Hid ((Builtin.append_ #[39, 39] 39 #[(.slice p8 m8 c8), .slice (some ⟨y8, 0, none⟩) 1 1]).run Tryd.prog x6 = .ok (.slice g8 ((I6 rs).length + 1) h8) x7) := hap
                clear hap
                generalize (I6 rs).length + 1 = l8 at HAP hP
                refine step_append_is (u1 := (.slice p8 m8 c8)) (u2 := .slice (some ⟨y8, 0, none⟩) 1 1) (by rfl) rfl rfl rfl rfl HAP.out ?_
                refine hKc.out _ _ (fun _ _ => hP.pr) ?_
                clear hKc Kc HAP
                obtain ⟨T7, hT7⟩ : ∃ T7, T7 = put T6 8 (.row 3 (.slice g8 l8 h8) (I6 rs ++ [(.int .i64 (g j))])) := ⟨_, rfl⟩
                have HQ7 : Hid (PS w0 x7 P c0 T7 (fun x => G x ∨ x = X)) := by rw [hT7]; exact hP
                clear hP
                have e12 := eqT hT7 e12 (by decide)
                have e9 := eqT hT7 e9 (by decide)
                have e11 := eqT hT7 e11 (by decide)
                have e10 := eqT hT7 e10 (by decide)
                have e6 := eqT hT7 e6 (by decide)
                have e7 := eqT hT7 e7 (by decide)
                have kf : Hid (∀ i, i < 6 → T7 i = TA i) := fun i hi => eqT hT7 (kf.out i hi) (by omega)
                have e8 : T7 8 = .row 3 (.slice g8 l8 h8) (I6 rs ++ [(.int .i64 (g j))]) := by rw [hT7]; exact put_same _ _ _
                clear hT7 HQ6
                simp only [Act.put, List.setIfInBounds_toArray, List.set_cons_zero, List.set_cons_succ]
          case' b56 =>
            go_simp
            have HQ2 : Hid (PS w0 (x1.alloc (.cells #[(.int .i64 (j : Int))] 3)) P c0 (put T1 10 (.one 3 x1.heap.size (.int .i64 (j : Int)))) G) := HQ1.out.fresh (below_alloc _ _) 10 (heap_alloc_new x1 _) (fun b hb => by rw [show b = x1.heap.size from hb]; exact Nat.le_refl _)
            refine hKc.out _ _ (fun _ _ => HQ2.out.pr) ?_
            clear hKc Kc HQ1
            obtain ⟨T2, hT2⟩ : ∃ T2, T2 = put T1 10 (.one 3 x1.heap.size (.int .i64 (j : Int))) := ⟨_, rfl⟩
            rw [← hT2] at HQ2
            revert HQ2 hT2
            generalize x1.alloc (.cells #[(.int .i64 (j : Int))] 3) = x2
            generalize x1.heap.size = y7
            intro HQ2 hT2
            have e6 := eqT hT2 e6 (by decide)
            have e7 := eqT hT2 e7 (by decide)
            have e8 := eqT hT2 e8 (by decide)
            have e12 := eqT hT2 e12 (by decide)
            have e14 := eqT hT2 e14 (by decide)
            have kf : Hid (∀ i, i < 6 → T2 i = TA i) := fun i hi => eqT hT2 (kf.out i hi) (by omega)
            have e10 : T2 10 = .one 3 y7 (.int .i64 (j : Int)) := by rw [hT2]; exact put_same _ _ _
            clear hT2
            refine wpAnyM_ready (rs := [9, 28]) (by kernel_rfl) (by simp) ?_
            refine AllReadyM.cons (by simp; rfl) (fun Kc hKc => ?b71) (AllReadyM.cons (by simp; rfl) (fun Kc hKc => ?b72) AllReadyM.nil)
            case' b71 =>
              go_simp
              have HQ3 : Hid (PS w0 (x2.alloc (.cells #[(seqV X)] 83)) P c0 (put T2 9 (.one 83 x2.heap.size (seqV X))) G) := HQ2.out.fresh (below_alloc _ _) 9 (heap_alloc_new x2 _) (fun b hb => by rw [show b = x2.heap.size from hb]; exact Nat.le_refl _)
              refine hKc.out _ _ (fun _ _ => HQ3.out.pr) ?_
              clear hKc Kc HQ2
              obtain ⟨T3, hT3⟩ : ∃ T3, T3 = put T2 9 (.one 83 x2.heap.size (seqV X)) := ⟨_, rfl⟩
              rw [← hT3] at HQ3
              revert HQ3 hT3
              generalize x2.alloc (.cells #[(seqV X)] 83) = x3
              generalize x2.heap.size = y6
              intro HQ3 hT3
              have e6 := eqT hT3 e6 (by decide)
              have e7 := eqT hT3 e7 (by decide)
              have e8 := eqT hT3 e8 (by decide)
              have e12 := eqT hT3 e12 (by decide)
              have e14 := eqT hT3 e14 (by decide)
              have e10 := eqT hT3 e10 (by decide)
              have kf : Hid (∀ i, i < 6 → T3 i = TA i) := fun i hi => eqT hT3 (kf.out i hi) (by omega)
              have e9 : T3 9 = .one 83 y6 (seqV X) := by rw [hT3]; exact put_same _ _ _
              clear hT3
              refine wpAnyM_ready (rs := [10, 28]) (by kernel_rfl) (by simp) ?_
              refine AllReadyM.cons (by simp; rfl) (fun Kc hKc => ?b73) (AllReadyM.cons (by simp; rfl) (fun Kc hKc => ?b74) AllReadyM.nil)
              case' b73 =>
                obtain ⟨v', x4, hap, ⟨g6, h6, rfl⟩, hP⟩ := HQ3.out.appQ2 elQ e6 e9 e14 (by omega)
                have HAP : Hid ((Builtin.append_ #[38, 38] 38 #[(.slice p6 m6 c6), .slice (some ⟨y6, 0, none⟩) 1 1]).run Tryd.prog x3 = .ok (.slice g6 (bs.length + 1) h6) x4) := hap
                clear hap
                generalize bs.length + 1 = l6 at HAP hP
                refine step_append_is (u1 := (.slice p6 m6 c6)) (u2 := .slice (some ⟨y6, 0, none⟩) 1 1) (by rfl) rfl rfl rfl rfl HAP.out ?_
                refine hKc.out _ _ (fun _ _ => hP.pr) ?_
                clear hKc Kc HAP
                obtain ⟨T4, hT4⟩ : ∃ T4, T4 = put (put T3 14 .no) 6 (.sq (.slice g6 l6 h6) (bs ++ [(X, Q j)])) := ⟨_, rfl⟩
                have HQ4 : Hid (PS w0 x4 P c0 T4 (fun x => G x ∨ x = X)) := by rw [hT4]; exact hP
                clear hP
                have e7 := eqT2 hT4 e7 (by decide) (by decide)
                have e8 := eqT2 hT4 e8 (by decide) (by decide)
                have e12 := eqT2 hT4 e12 (by decide) (by decide)
                have e10 := eqT2 hT4 e10 (by decide) (by decide)
                have e9 := eqT2 hT4 e9 (by decide) (by decide)
                have kf : Hid (∀ i, i < 6 → T4 i = TA i) := fun i hi => eqT2 hT4 (kf.out i hi) (by omega) (by omega)
                have e6 : T4 6 = .sq (.slice g6 l6 h6) (bs ++ [(X, Q j)]) := by rw [hT4]; exact put_same _ _ _
                clear hT4 HQ3
                simp only [Act.put, List.setIfInBounds_toArray, List.set_cons_zero, List.set_cons_succ]
                refine wpAnyM_ready (rs := [17, 28]) (by kernel_rfl) (by simp) ?_
                refine AllReadyM.cons (by simp; rfl) (fun Kc hKc => ?b75) (AllReadyM.cons (by simp; rfl) (fun Kc hKc => ?b76) AllReadyM.nil)
                case' b75 =>
                  obtain ⟨v', x5, hap, ⟨g7, h7, rfl⟩, hP⟩ := HQ4.out.appR (i := 7) O.elI (by decide) e7 (by have := HQ4.out.fam.at' 10 (by decide); rw [e10] at this; exact this) (by simp; omega) rfl
                  have HAP : Hid ((Builtin.append_ #[39, 39] 39 #[(.slice p7 m7 c7), .slice (some ⟨y7, 0, none⟩) 1 1]).run Tryd.prog x4 = .ok (.slice g7 ((I6 os).length + 1) h7) x5) := hap
                  clear hap
                  generalize (I6 os).length + 1 = l7 at HAP hP
                  refine step_append_is (u1 := (.slice p7 m7 c7)) (u2 := .slice (some ⟨y7, 0, none⟩) 1 1) (by rfl) rfl rfl rfl rfl HAP.out ?_
                  refine hKc.out _ _ (fun _ _ => hP.pr) ?_
                  clear hKc Kc HAP
                  obtain ⟨T5, hT5⟩ : ∃ T5, T5 = put T4 7 (.row 3 (.slice g7 l7 h7) (I6 os ++ [(.int .i64 (j : Int))])) := ⟨_, rfl⟩
                  have HQ5 : Hid (PS w0 x5 P c0 T5 (fun x => G x ∨ x = X)) := by rw [hT5]; exact hP
                  clear hP
                  have e8 := eqT hT5 e8 (by decide)
                  have e12 := eqT hT5 e12 (by decide)
                  have e10 := eqT hT5 e10 (by decide)
                  have e9 := eqT hT5 e9 (by decide)
                  have e6 := eqT hT5 e6 (by decide)
                  have kf : Hid (∀ i, i < 6 → T5 i = TA i) := fun i hi => eqT hT5 (kf.out i hi) (by omega)
                  have e7 : T5 7 = .row 3 (.slice g7 l7 h7) (I6 os ++ [(.int .i64 (j : Int))]) := by rw [hT5]; exact put_same _ _ _
                  clear hT5 HQ4
                  simp only [Act.put, List.setIfInBounds_toArray, List.set_cons_zero, List.set_cons_succ]
                  refine wpAnyM_ready (rs := [28]) (by kernel_rfl) (by simp) ?_
                  refine AllReadyM.cons (by simp; rfl) (fun Kc hKc => ?_) AllReadyM.nil
                  go_simp
                  have HQ6 : Hid (PS w0 (x5.alloc (.cells #[(.int .i64 (g j))] 3)) P c0 (put T5 11 (.one 3 x5.heap.size (.int .i64 (g j)))) (fun x => G x ∨ x = X)) := HQ5.out.fresh (below_alloc _ _) 11 (heap_alloc_new x5 _) (fun b hb => by rw [show b = x5.heap.size from hb]; exact Nat.le_refl _)
                  refine hKc.out _ _ (fun _ _ => HQ6.out.pr) ?_
                  clear hKc Kc HQ5
                  obtain ⟨T6, hT6⟩ : ∃ T6, T6 = put T5 11 (.one 3 x5.heap.size (.int .i64 (g j))) := ⟨_, rfl⟩
                  rw [← hT6] at HQ6
                  revert HQ6 hT6
                  generalize x5.alloc (.cells #[(.int .i64 (g j))] 3) = x6
                  generalize x5.heap.size = y8
                  intro HQ6 hT6
                  have e8 := eqT hT6 e8 (by decide)
                  have e12 := eqT hT6 e12 (by decide)
                  have e10 := eqT hT6 e10 (by decide)
                  have e9 := eqT hT6 e9 (by decide)
                  have e6 := eqT hT6 e6 (by decide)
                  have e7 := eqT hT6 e7 (by decide)
                  have kf : Hid (∀ i, i < 6 → T6 i = TA i) := fun i hi => eqT hT6 (kf.out i hi) (by omega)
                  have e11 : T6 11 = .one 3 y8 (.int .i64 (g j)) := by rw [hT6]; exact put_same _ _ _
                  clear hT6
                  refine wpAnyM_ready (rs := [29]) (by kernel_rfl) (by simp) ?_
                  refine AllReadyM.cons (by simp; rfl) (fun Kc hKc => ?_) AllReadyM.nil
                  obtain ⟨v', x7, hap, ⟨g8, h8, rfl⟩, hP⟩ := HQ6.out.appR (i := 8) O.elI (by decide) e8 (by have := HQ6.out.fam.at' 11 (by decide); rw [e11] at this; exact this) (by simp; omega) rfl
                  have HAP : Hid ((Builtin.append_ #[39, 39] 39 #[(.slice p8 m8 c8), .slice (some ⟨y8, 0, none⟩) 1 1]).run Tryd.prog x6 = .ok (.slice g8 ((I6 rs).length + 1) h8) x7) := hap
                  clear hap
                  generalize (I6 rs).length + 1 = l8 at HAP hP
                  refine step_append_is (u1 := (.slice p8 m8 c8)) (u2 := .slice (some ⟨y8, 0, none⟩) 1 1) (by rfl) rfl rfl rfl rfl HAP.out ?_
                  refine hKc.out _ _ (fun _ _ => hP.pr) ?_
                  clear hKc Kc HAP
                  obtain ⟨T7, hT7⟩ : ∃ T7, T7 = put T6 8 (.row 3 (.slice g8 l8 h8) (I6 rs ++ [(.int .i64 (g j))])) := ⟨_, rfl⟩
                  have HQ7 : Hid (PS w0 x7 P c0 T7 (fun x => G x ∨ x = X)) := by rw [hT7]; exact hP
                  clear hP
                  have e12 := eqT hT7 e12 (by decide)
                  have e10 := eqT hT7 e10 (by decide)
                  have e9 := eqT hT7 e9 (by decide)
                  have e6 := eqT hT7 e6 (by decide)
                  have e7 := eqT hT7 e7 (by decide)
                  have e11 := eqT hT7 e11 (by decide)
                  have kf : Hid (∀ i, i < 6 → T7 i = TA i) := fun i hi => eqT hT7 (kf.out i hi) (by omega)
                  have e8 : T7 8 = .row 3 (.slice g8 l8 h8) (I6 rs ++ [(.int .i64 (g j))]) := by rw [hT7]; exact put_same _ _ _
                  clear hT7 HQ6
                  simp only [Act.put, List.setIfInBounds_toArray, List.set_cons_zero, List.set_cons_succ]
                case' b76 =>
                  go_simp
                  have HQ5 : Hid (PS w0 (x4.alloc (.cells #[(.int .i64 (g j))] 3)) P c0 (put T4 11 (.one 3 x4.heap.size (.int .i64 (g j)))) (fun x => G x ∨ x = X)) := HQ4.out.fresh (below_alloc _ _) 11 (heap_alloc_new x4 _) (fun b hb => by rw [show b = x4.heap.size from hb]; exact Nat.le_refl _)
                  refine hKc.out _ _ (fun _ _ => HQ5.out.pr) ?_
                  clear hKc Kc HQ4
                  obtain ⟨T5, hT5⟩ : ∃ T5, T5 = put T4 11 (.one 3 x4.heap.size (.int .i64 (g j))) := ⟨_, rfl⟩
                  rw [← hT5] at HQ5
                  revert HQ5 hT5
                  generalize x4.alloc (.cells #[(.int .i64 (g j))] 3) = x5
                  generalize x4.heap.size = y8
                  intro HQ5 hT5
                  have e7 := eqT hT5 e7 (by decide)
                  have e8 := eqT hT5 e8 (by decide)
                  have e12 := eqT hT5 e12 (by decide)
                  have e10 := eqT hT5 e10 (by decide)
                  have e9 := eqT hT5 e9 (by decide)
                  have e6 := eqT hT5 e6 (by decide)
                  have kf : Hid (∀ i, i < 6 → T5 i = TA i) := fun i hi => eqT hT5 (kf.out i hi) (by omega)
                  have e11 : T5 11 = .one 3 y8 (.int .i64 (g j)) := by rw [hT5]; exact put_same _ _ _
                  clear hT5
                  refine wpAnyM_ready (rs := [17]) (by kernel_rfl) (by simp) ?_
                  refine AllReadyM.cons (by simp; rfl) (fun Kc hKc => ?_) AllReadyM.nil
                  obtain ⟨v', x6, hap, ⟨g7, h7, rfl⟩, hP⟩ := HQ5.out.appR (i := 7) O.elI (by decide) e7 (by have := HQ5.out.fam.at' 10 (by decide); rw [e10] at this; exact this) (by simp; omega) rfl
                  have HAP : Hid ((Builtin.append_ #[39, 39] 39 #[(.slice p7 m7 c7), .slice (some ⟨y7, 0, none⟩) 1 1]).run Tryd.prog x5 = .ok (.slice g7 ((I6 os).length + 1) h7) x6) := hap
                  clear hap
                  generalize (I6 os).length + 1 = l7 at HAP hP
                  refine step_append_is (u1 := (.slice p7 m7 c7)) (u2 := .slice (some ⟨y7, 0, none⟩) 1 1) (by rfl) rfl rfl rfl rfl HAP.out ?_
                  refine hKc.out _ _ (fun _ _ => hP.pr) ?_
                  clear hKc Kc HAP
                  obtain ⟨T6, hT6⟩ : ∃ T6, T6 = put T5 7 (.row 3 (.slice g7 l7 h7) (I6 os ++ [(.int .i64 (j : Int))])) := ⟨_, rfl⟩
                  have HQ6 : Hid (PS w0 x6 P c0 T6 (fun x => G x ∨ x = X)) := by rw [hT6]; exact hP
                  clear hP
                  have e8 := eqT hT6 e8 (by decide)
                  have e12 := eqT hT6 e12 (by decide)
                  have e10 := eqT hT6 e10 (by decide)
                  have e9 := eqT hT6 e9 (by decide)
                  have e6 := eqT hT6 e6 (by decide)
                  have e11 := eqT hT6 e11 (by decide)
                  have kf : Hid (∀ i, i < 6 → T6 i = TA i) := fun i hi => eqT hT6 (kf.out i hi) (by omega)
                  have e7 : T6 7 = .row 3 (.slice g7 l7 h7) (I6 os ++ [(.int .i64 (j : Int))]) := by rw [hT6]; exact put_same _ _ _
                  clear hT6 HQ5
                  simp only [Act.put, List.setIfInBounds_toArray, List.set_cons_zero, List.set_cons_succ]
                  refine wpAnyM_ready (rs := [29]) (by kernel_rfl) (by simp) ?_
                  refine AllReadyM.cons (by simp; rfl) (fun Kc hKc => ?_) AllReadyM.nil
                  obtain ⟨v', x7, hap, ⟨g8, h8, rfl⟩, hP⟩ := HQ6.out.appR (i := 8) O.elI (by decide) e8 (by have := HQ6.out.fam.at' 11 (by decide); rw [e11] at this; exact this) (by simp; omega) rfl
                  have HAP : Hid ((Builtin.append_ #[39, 39] 39 #[(.slice p8 m8 c8), .slice (some ⟨y8, 0, none⟩) 1 1]).run Tryd.prog x6 = .ok (.slice g8 ((I6 rs).length + 1) h8) x7) := hap
                  clear hap
                  generalize (I6 rs).length + 1 = l8 at HAP hP
                  refine step_append_is (u1 := (.slice p8 m8 c8)) (u2 := .slice (some ⟨y8, 0, none⟩) 1 1) (by rfl) rfl rfl rfl rfl HAP.out ?_
                  refine hKc.out _ _ (fun _ _ => hP.pr) ?_
                  clear hKc Kc HAP
                  obtain ⟨T7, hT7⟩ : ∃ T7, T7 = put T6 8 (.row 3 (.slice g8 l8 h8) (I6 rs ++ [(.int .i64 (g j))])) := ⟨_, rfl⟩
                  have HQ7 : Hid (PS w0 x7 P c0 T7 (fun x => G x ∨ x = X)) := by rw [hT7]; exact hP
                  clear hP
                  have e12 := eqT hT7 e12 (by decide)
                  have e10 := eqT hT7 e10 (by decide)
                  have e9 := eqT hT7 e9 (by decide)
                  have e6 := eqT hT7 e6 (by decide)
                  have e11 := eqT hT7 e11 (by decide)
                  have e7 := eqT hT7 e7 (by decide)
                  have kf : Hid (∀ i, i < 6 → T7 i = TA i) := fun i hi => eqT hT7 (kf.out i hi) (by omega)
                  have e8 : T7 8 = .row 3 (.slice g8 l8 h8) (I6 rs ++ [(.int .i64 (g j))]) := by rw [hT7]; exact put_same _ _ _
                  clear hT7 HQ6
                  simp only [Act.put, List.setIfInBounds_toArray, List.set_cons_zero, List.set_cons_succ]
              case' b74 =>
                go_simp
                have HQ4 : Hid (PS w0 (x3.alloc (.cells #[(.int .i64 (g j))] 3)) P c0 (put T3 11 (.one 3 x3.heap.size (.int .i64 (g j)))) G) := HQ3.out.fresh (below_alloc _ _) 11 (heap_alloc_new x3 _) (fun b hb => by rw [show b = x3.heap.size from hb]; exact Nat.le_refl _)
                refine hKc.out _ _ (fun _ _ => HQ4.out.pr) ?_
                clear hKc Kc HQ3
                obtain ⟨T4, hT4⟩ : ∃ T4, T4 = put T3 11 (.one 3 x3.heap.size (.int .i64 (g j))) := ⟨_, rfl⟩
                rw [← hT4] at HQ4
                revert HQ4 hT4
                generalize x3.alloc (.cells #[(.int .i64 (g j))] 3) = x4
                generalize x3.heap.size = y8
                intro HQ4 hT4
                have e6 := eqT hT4 e6 (by decide)
                have e7 := eqT hT4 e7 (by decide)
                have e8 := eqT hT4 e8 (by decide)
                have e12 := eqT hT4 e12 (by decide)
                have e14 := eqT hT4 e14 (by decide)
                have e10 := eqT hT4 e10 (by decide)
                have e9 := eqT hT4 e9 (by decide)
                have kf : Hid (∀ i, i < 6 → T4 i = TA i) := fun i hi => eqT hT4 (kf.out i hi) (by omega)
                have e11 : T4 11 = .one 3 y8 (.int .i64 (g j)) := by rw [hT4]; exact put_same _ _ _
                clear hT4
                refine wpAnyM_ready (rs := [10]) (by kernel_rfl) (by simp) ?_
                refine AllReadyM.cons (by simp; rfl) (fun Kc hKc => ?_) AllReadyM.nil
                obtain ⟨v', x5, hap, ⟨g6, h6, rfl⟩, hP⟩ := HQ4.out.appQ2 elQ e6 e9 e14 (by omega)
                have HAP : Hid ((Builtin.append_ #[38, 38] 38 #[(.slice p6 m6 c6), .slice (some ⟨y6, 0, none⟩) 1 1]).run Tryd.prog x4 = .ok (.slice g6 (bs.length + 1) h6) x5) := hap
                clear hap
                generalize bs.length + 1 = l6 at HAP hP
                refine step_append_is (u1 := (.slice p6 m6 c6)) (u2 := .slice (some ⟨y6, 0, none⟩) 1 1) (by rfl) rfl rfl rfl rfl HAP.out ?_
                refine hKc.out _ _ (fun _ _ => hP.pr) ?_
                clear hKc Kc HAP
                obtain ⟨T5, hT5⟩ : ∃ T5, T5 = put (put T4 14 .no) 6 (.sq (.slice g6 l6 h6) (bs ++ [(X, Q j)])) := ⟨_, rfl⟩
                have HQ5 : Hid (PS w0 x5 P c0 T5 (fun x => G x ∨ x = X)) := by rw [hT5]; exact hP
                clear hP
                have e7 := eqT2 hT5 e7 (by decide) (by decide)
                have e8 := eqT2 hT5 e8 (by decide) (by decide)
                have e12 := eqT2 hT5 e12 (by decide) (by decide)
                have e10 := eqT2 hT5 e10 (by decide) (by decide)
                have e9 := eqT2 hT5 e9 (by decide) (by decide)
                have e11 := eqT2 hT5 e11 (by decide) (by decide)
                have kf : Hid (∀ i, i < 6 → T5 i = TA i) := fun i hi => eqT2 hT5 (kf.out i hi) (by omega) (by omega)
                have e6 : T5 6 = .sq (.slice g6 l6 h6) (bs ++ [(X, Q j)]) := by rw [hT5]; exact put_same _ _ _
                clear hT5 HQ4
                simp only [Act.put, List.setIfInBounds_toArray, List.set_cons_zero, List.set_cons_succ]
                refine wpAnyM_ready (rs := [17]) (by kernel_rfl) (by simp) ?_
                refine AllReadyM.cons (by simp; rfl) (fun Kc hKc => ?_) AllReadyM.nil
                obtain ⟨v', x6, hap, ⟨g7, h7, rfl⟩, hP⟩ := HQ5.out.appR (i := 7) O.elI (by decide) e7 (by have := HQ5.out.fam.at' 10 (by decide); rw [e10] at this; exact this) (by simp; omega) rfl
                have HAP : Hid ((Builtin.append_ #[39, 39] 39 #[(.slice p7 m7 c7), .slice (some ⟨y7, 0, none⟩) 1 1]).run Tryd.prog x5 = .ok (.slice g7 ((I6 os).length + 1) h7) x6) := hap
                clear hap
                generalize (I6 os).length + 1 = l7 at HAP hP
                refine step_append_is (u1 := (.slice p7 m7 c7)) (u2 := .slice (some ⟨y7, 0, none⟩) 1 1) (by rfl) rfl rfl rfl rfl HAP.out ?_
                refine hKc.out _ _ (fun _ _ => hP.pr) ?_
                clear hKc Kc HAP
                obtain ⟨T6, hT6⟩ : ∃ T6, T6 = put T5 7 (.row 3 (.slice g7 l7 h7) (I6 os ++ [(.int .i64 (j : Int))])) := ⟨_, rfl⟩
                have HQ6 : Hid (PS w0 x6 P c0 T6 (fun x => G x ∨ x = X)) := by rw [hT6]; exact hP
                clear hP
                have e8 := eqT hT6 e8 (by decide)
                have e12 := eqT hT6 e12 (by decide)
                have e10 := eqT hT6 e10 (by decide)
                have e9 := eqT hT6 e9 (by decide)
                have e11 := eqT hT6 e11 (by decide)
                have e6 := eqT hT6 e6 (by decide)
                have kf : Hid (∀ i, i < 6 → T6 i = TA i) := fun i hi => eqT hT6 (kf.out i hi) (by omega)
                have e7 : T6 7 = .row 3 (.slice g7 l7 h7) (I6 os ++ [(.int .i64 (j : Int))]) := by rw [hT6]; exact put_same _ _ _
                clear hT6 HQ5
                simp only [Act.put, List.setIfInBounds_toArray, List.set_cons_zero, List.set_cons_succ]
                refine wpAnyM_ready (rs := [29]) (by kernel_rfl) (by simp) ?_
                refine AllReadyM.cons (by simp; rfl) (fun Kc hKc => ?_) AllReadyM.nil
                obtain ⟨v', x7, hap, ⟨g8, h8, rfl⟩, hP⟩ := HQ6.out.appR (i := 8) O.elI (by decide) e8 (by have := HQ6.out.fam.at' 11 (by decide); rw [e11] at this; exact this) (by simp; omega) rfl
                have HAP : Hid ((Builtin.append_ #[39, 39] 39 #[(.slice p8 m8 c8), .slice (some ⟨y8, 0, none⟩) 1 1]).run Tryd.prog x6 = .ok (.slice g8 ((I6 rs).length + 1) h8) x7) := hap
                clear hap
                generalize (I6 rs).length + 1 = l8 at HAP hP
                refine step_append_is (u1 := (.slice p8 m8 c8)) (u2 := .slice (some ⟨y8, 0, none⟩) 1 1) (by rfl) rfl rfl rfl rfl HAP.out ?_
                refine hKc.out _ _ (fun _ _ => hP.pr) ?_
                clear hKc Kc HAP
                obtain ⟨T7, hT7⟩ : ∃ T7, T7 = put T6 8 (.row 3 (.slice g8 l8 h8) (I6 rs ++ [(.int .i64 (g j))])) := ⟨_, rfl⟩
                have HQ7 : Hid (PS w0 x7 P c0 T7 (fun x => G x ∨ x = X)) := by rw [hT7]; exact hP
                clear hP
                have e12 := eqT hT7 e12 (by decide)
                have e10 := eqT hT7 e10 (by decide)
                have e9 := eqT hT7 e9 (by decide)
                have e11 := eqT hT7 e11 (by decide)
                have e6 := eqT hT7 e6 (by decide)
                have e7 := eqT hT7 e7 (by decide)
                have kf : Hid (∀ i, i < 6 → T7 i = TA i) := fun i hi => eqT hT7 (kf.out i hi) (by omega)
                have e8 : T7 8 = .row 3 (.slice g8 l8 h8) (I6 rs ++ [(.int .i64 (g j))]) := by rw [hT7]; exact put_same _ _ _
                clear hT7 HQ6
                simp only [Act.put, List.setIfInBounds_toArray, List.set_cons_zero, List.set_cons_succ]
            case' b72 =>
              go_simp
              have HQ3 : Hid (PS w0 (x2.alloc (.cells #[(.int .i64 (g j))] 3)) P c0 (put T2 11 (.one 3 x2.heap.size (.int .i64 (g j)))) G) := HQ2.out.fresh (below_alloc _ _) 11 (heap_alloc_new x2 _) (fun b hb => by rw [show b = x2.heap.size from hb]; exact Nat.le_refl _)
              refine hKc.out _ _ (fun _ _ => HQ3.out.pr) ?_
              clear hKc Kc HQ2
              obtain ⟨T3, hT3⟩ : ∃ T3, T3 = put T2 11 (.one 3 x2.heap.size (.int .i64 (g j))) := ⟨_, rfl⟩
              rw [← hT3] at HQ3
              revert HQ3 hT3
              generalize x2.alloc (.cells #[(.int .i64 (g j))] 3) = x3
              generalize x2.heap.size = y8
              intro HQ3 hT3
              have e6 := eqT hT3 e6 (by decide)
              have e7 := eqT hT3 e7 (by decide)
              have e8 := eqT hT3 e8 (by decide)
              have e12 := eqT hT3 e12 (by decide)
              have e14 := eqT hT3 e14 (by decide)
              have e10 := eqT hT3 e10 (by decide)
              have kf : Hid (∀ i, i < 6 → T3 i = TA i) := fun i hi => eqT hT3 (kf.out i hi) (by omega)
              have e11 : T3 11 = .one 3 y8 (.int .i64 (g j)) := by rw [hT3]; exact put_same _ _ _
              clear hT3
              refine wpAnyM_ready (rs := [9]) (by kernel_rfl) (by simp) ?_
              refine AllReadyM.cons (by simp; rfl) (fun Kc hKc => ?_) AllReadyM.nil
              go_simp
              have HQ4 : Hid (PS w0 (x3.alloc (.cells #[(seqV X)] 83)) P c0 (put T3 9 (.one 83 x3.heap.size (seqV X))) G) := HQ3.out.fresh (below_alloc _ _) 9 (heap_alloc_new x3 _) (fun b hb => by rw [show b = x3.heap.size from hb]; exact Nat.le_refl _)
              refine hKc.out _ _ (fun _ _ => HQ4.out.pr) ?_
              clear hKc Kc HQ3
              obtain ⟨T4, hT4⟩ : ∃ T4, T4 = put T3 9 (.one 83 x3.heap.size (seqV X)) := ⟨_, rfl⟩
              rw [← hT4] at HQ4
              revert HQ4 hT4
              generalize x3.alloc (.cells #[(seqV X)] 83) = x4
              generalize x3.heap.size = y6
              intro HQ4 hT4
              have e6 := eqT hT4 e6 (by decide)
              have e7 := eqT hT4 e7 (by decide)
              have e8 := eqT hT4 e8 (by decide)
              have e12 := eqT hT4 e12 (by decide)
              have e14 := eqT hT4 e14 (by decide)
              have e10 := eqT hT4 e10 (by decide)
              have e11 := eqT hT4 e11 (by decide)
              have kf : Hid (∀ i, i < 6 → T4 i = TA i) := fun i hi => eqT hT4 (kf.out i hi) (by omega)
              have e9 : T4 9 = .one 83 y6 (seqV X) := by rw [hT4]; exact put_same _ _ _
              clear hT4
              refine wpAnyM_ready (rs := [10]) (by kernel_rfl) (by simp) ?_
              refine AllReadyM.cons (by simp; rfl) (fun Kc hKc => ?_) AllReadyM.nil
              obtain ⟨v', x5, hap, ⟨g6, h6, rfl⟩, hP⟩ := HQ4.out.appQ2 elQ e6 e9 e14 (by omega)
              have HAP : Hid ((Builtin.append_ #[38, 38] 38 #[(.slice p6 m6 c6), .slice (some ⟨y6, 0, none⟩) 1 1]).run Tryd.prog x4 = .ok (.slice g6 (bs.length + 1) h6) x5) := hap
              clear hap
              generalize bs.length + 1 = l6 at HAP hP
              refine step_append_is (u1 := (.slice p6 m6 c6)) (u2 := .slice (some ⟨y6, 0, none⟩) 1 1) (by rfl) rfl rfl rfl rfl HAP.out ?_
              refine hKc.out _ _ (fun _ _ => hP.pr) ?_
              clear hKc Kc HAP
              obtain ⟨T5, hT5⟩ : ∃ T5, T5 = put (put T4 14 .no) 6 (.sq (.slice g6 l6 h6) (bs ++ [(X, Q j)])) := ⟨_, rfl⟩
              have HQ5 : Hid (PS w0 x5 P c0 T5 (fun x => G x ∨ x = X)) := by rw [hT5]; exact hP
              clear hP
              have e7 := eqT2 hT5 e7 (by decide) (by decide)
              have e8 := eqT2 hT5 e8 (by decide) (by decide)
              have e12 := eqT2 hT5 e12 (by decide) (by decide)
              have e10 := eqT2 hT5 e10 (by decide) (by decide)
              have e11 := eqT2 hT5 e11 (by decide) (by decide)
              have e9 := eqT2 hT5 e9 (by decide) (by decide)
              have kf : Hid (∀ i, i < 6 → T5 i = TA i) := fun i hi => eqT2 hT5 (kf.out i hi) (by omega) (by omega)
              have e6 : T5 6 = .sq (.slice g6 l6 h6) (bs ++ [(X, Q j)]) := by rw [hT5]; exact put_same _ _ _
              clear hT5 HQ4
              simp only [Act.put, List.setIfInBounds_toArray, List.set_cons_zero, List.set_cons_succ]
              refine wpAnyM_ready (rs := [17]) (by kernel_rfl) (by simp) ?_
              refine AllReadyM.cons (by simp; rfl) (fun Kc hKc => ?_) AllReadyM.nil
              obtain ⟨v', x6, hap, ⟨g7, h7, rfl⟩, hP⟩ := HQ5.out.appR (i := 7) O.elI (by decide) e7 (by have := HQ5.out.fam.at' 10 (by decide); rw [e10] at this; exact this) (by simp; omega) rfl
              have HAP : Hid ((Builtin.append_ #[39, 39] 39 #[(.slice p7 m7 c7), .slice (some ⟨y7, 0, none⟩) 1 1]).run Tryd.prog x5 = .ok (.slice g7 ((I6 os).length + 1) h7) x6) := hap
              clear hap
              generalize (I6 os).length + 1 = l7 at HAP hP
              refine step_append_is (u1 := (.slice p7 m7 c7)) (u2 := .slice (some ⟨y7, 0, none⟩) 1 1) (by rfl) rfl rfl rfl rfl HAP.out ?_
              refine hKc.out _ _ (fun _ _ => hP.pr) ?_
              clear hKc Kc HAP
              obtain ⟨T6, hT6⟩ : ∃ T6, T6 = put T5 7 (.row 3 (.slice g7 l7 h7) (I6 os ++ [(.int .i64 (j : Int))])) := ⟨_, rfl⟩
              have HQ6 : Hid (PS w0 x6 P c0 T6 (fun x => G x ∨ x = X)) := by rw [hT6]; exact hP
              clear hP
              have e8 := eqT hT6 e8 (by decide)
              have e12 := eqT hT6 e12 (by decide)
              have e10 := eqT hT6 e10 (by decide)
              have e11 := eqT hT6 e11 (by decide)
              have e9 := eqT hT6 e9 (by decide)
              have e6 := eqT hT6 e6 (by decide)
              have kf : Hid (∀ i, i < 6 → T6 i = TA i) := fun i hi => eqT hT6 (kf.out i hi) (by omega)
              have e7 : T6 7 = .row 3 (.slice g7 l7 h7) (I6 os ++ [(.int .i64 (j : Int))]) := by rw [hT6]; exact put_same _ _ _
              clear hT6 HQ5
              simp only [Act.put, List.setIfInBounds_toArray, List.set_cons_zero, List.set_cons_succ]
              refine wpAnyM_ready (rs := [29]) (by kernel_rfl) (by simp) ?_
              refine AllReadyM.cons (by simp; rfl) (fun Kc hKc => ?_) AllReadyM.nil
              obtain ⟨v', x7, hap, ⟨g8, h8, rfl⟩, hP⟩ := HQ6.out.appR (i := 8) O.elI (by decide) e8 (by have := HQ6.out.fam.at' 11 (by decide); rw [e11] at this; exact this) (by simp; omega) rfl
              have HAP : Hid ((Builtin.append_ #[39, 39] 39 #[(.slice p8 m8 c8), .slice (some ⟨y8, 0, none⟩) 1 1]).run Tryd.prog x6 = .ok (.slice g8 ((I6 rs).length + 1) h8) x7) := hap
              clear hap
              generalize (I6 rs).length + 1 = l8 at HAP hP
              refine step_append_is (u1 := (.slice p8 m8 c8)) (u2 := .slice (some ⟨y8, 0, none⟩) 1 1) (by rfl) rfl rfl rfl rfl HAP.out ?_
              refine hKc.out _ _ (fun _ _ => hP.pr) ?_
              clear hKc Kc HAP
              obtain ⟨T7, hT7⟩ : ∃ T7, T7 = put T6 8 (.row 3 (.slice g8 l8 h8) (I6 rs ++ [(.int .i64 (g j))])) := ⟨_, rfl⟩
              have HQ7 : Hid (PS w0 x7 P c0 T7 (fun x => G x ∨ x = X)) := by rw [hT7]; exact hP
              clear hP
              have e12 := eqT hT7 e12 (by decide)
              have e10 := eqT hT7 e10 (by decide)
              have e11 := eqT hT7 e11 (by decide)
              have e9 := eqT hT7 e9 (by decide)
              have e6 := eqT hT7 e6 (by decide)
              have e7 := eqT hT7 e7 (by decide)
              have kf : Hid (∀ i, i < 6 → T7 i = TA i) := fun i hi => eqT hT7 (kf.out i hi) (by omega)
              have e8 : T7 8 = .row 3 (.slice g8 l8 h8) (I6 rs ++ [(.int .i64 (g j))]) := by rw [hT7]; exact put_same _ _ _
              clear hT7 HQ6
              simp only [Act.put, List.setIfInBounds_toArray, List.set_cons_zero, List.set_cons_succ]
          case' b57 =>
            go_simp
            have HQ2 : Hid (PS w0 (x1.alloc (.cells #[(.int .i64 (g j))] 3)) P c0 (put T1 11 (.one 3 x1.heap.size (.int .i64 (g j)))) G) := HQ1.out.fresh (below_alloc _ _) 11 (heap_alloc_new x1 _) (fun b hb => by rw [show b = x1.heap.size from hb]; exact Nat.le_refl _)
            refine hKc.out _ _ (fun _ _ => HQ2.out.pr) ?_
            clear hKc Kc HQ1
            obtain ⟨T2, hT2⟩ : ∃ T2, T2 = put T1 11 (.one 3 x1.heap.size (.int .i64 (g j))) := ⟨_, rfl⟩
            rw [← hT2] at HQ2
            revert HQ2 hT2
            generalize x1.alloc (.cells #[(.int .i64 (g j))] 3) = x2
            generalize x1.heap.size = y8
            intro HQ2 hT2
            have e6 := eqT hT2 e6 (by decide)
            have e7 := eqT hT2 e7 (by decide)
            have e8 := eqT hT2 e8 (by decide)
            have e12 := eqT hT2 e12 (by decide)
            have e14 := eqT hT2 e14 (by decide)
            have kf : Hid (∀ i, i < 6 → T2 i = TA i) := fun i hi => eqT hT2 (kf.out i hi) (by omega)
            have e11 : T2 11 = .one 3 y8 (.int .i64 (g j)) := by rw [hT2]; exact put_same _ _ _
            clear hT2
            refine wpAnyM_ready (rs := [9, 16]) (by kernel_rfl) (by simp) ?_
            refine AllReadyM.cons (by simp; rfl) (fun Kc hKc => ?b77) (AllReadyM.cons (by simp; rfl) (fun Kc hKc => ?b78) AllReadyM.nil)
            case' b77 =>
              go_simp
              have HQ3 : Hid (PS w0 (x2.alloc (.cells #[(seqV X)] 83)) P c0 (put T2 9 (.one 83 x2.heap.size (seqV X))) G) := HQ2.out.fresh (below_alloc _ _) 9 (heap_alloc_new x2 _) (fun b hb => by rw [show b = x2.heap.size from hb]; exact Nat.le_refl _)
              refine hKc.out _ _ (fun _ _ => HQ3.out.pr) ?_
              clear hKc Kc HQ2
              obtain ⟨T3, hT3⟩ : ∃ T3, T3 = put T2 9 (.one 83 x2.heap.size (seqV X)) := ⟨_, rfl⟩
              rw [← hT3] at HQ3
              revert HQ3 hT3
              generalize x2.alloc (.cells #[(seqV X)] 83) = x3
              generalize x2.heap.size = y6
              intro HQ3 hT3
              have e6 := eqT hT3 e6 (by decide)
              have e7 := eqT hT3 e7 (by decide)
              have e8 := eqT hT3 e8 (by decide)
              have e12 := eqT hT3 e12 (by decide)
              have e14 := eqT hT3 e14 (by decide)
              have e11 := eqT hT3 e11 (by decide)
              have kf : Hid (∀ i, i < 6 → T3 i = TA i) := fun i hi => eqT hT3 (kf.out i hi) (by omega)
              have e9 : T3 9 = .one 83 y6 (seqV X) := by rw [hT3]; exact put_same _ _ _
              clear hT3
              refine wpAnyM_ready (rs := [10, 16]) (by kernel_rfl) (by simp) ?_
              refine AllReadyM.cons (by simp; rfl) (fun Kc hKc => ?b79) (AllReadyM.cons (by simp; rfl) (fun Kc hKc => ?b80) AllReadyM.nil)
              case' b79 =>
                obtain ⟨v', x4, hap, ⟨g6, h6, rfl⟩, hP⟩ := HQ3.out.appQ2 elQ e6 e9 e14 (by omega)
                have HAP : Hid ((Builtin.append_ #[38, 38] 38 #[(.slice p6 m6 c6), .slice (some ⟨y6, 0, none⟩) 1 1]).run Tryd.prog x3 = .ok (.slice g6 (bs.length + 1) h6) x4) := hap
                clear hap
                generalize bs.length + 1 = l6 at HAP hP
                refine step_append_is (u1 := (.slice p6 m6 c6)) (u2 := .slice (some ⟨y6, 0, none⟩) 1 1) (by rfl) rfl rfl rfl rfl HAP.out ?_
                refine hKc.out _ _ (fun _ _ => hP.pr) ?_
                clear hKc Kc HAP
                obtain ⟨T4, hT4⟩ : ∃ T4, T4 = put (put T3 14 .no) 6 (.sq (.slice g6 l6 h6) (bs ++ [(X, Q j)])) := ⟨_, rfl⟩
                have HQ4 : Hid (PS w0 x4 P c0 T4 (fun x => G x ∨ x = X)) := by rw [hT4]; exact hP
                clear hP
                have e7 := eqT2 hT4 e7 (by decide) (by decide)
                have e8 := eqT2 hT4 e8 (by decide) (by decide)
                have e12 := eqT2 hT4 e12 (by decide) (by decide)
                have e11 := eqT2 hT4 e11 (by decide) (by decide)
                have e9 := eqT2 hT4 e9 (by decide) (by decide)
                have kf : Hid (∀ i, i < 6 → T4 i = TA i) := fun i hi => eqT2 hT4 (kf.out i hi) (by omega) (by omega)
                have e6 : T4 6 = .sq (.slice g6 l6 h6) (bs ++ [(X, Q j)]) := by rw [hT4]; exact put_same _ _ _
                clear hT4 HQ3
                simp only [Act.put, List.setIfInBounds_toArray, List.set_cons_zero, List.set_cons_succ]
                refine wpAnyM_ready (rs := [16]) (by kernel_rfl) (by simp) ?_
                refine AllReadyM.cons (by simp; rfl) (fun Kc hKc => ?_) AllReadyM.nil
                go_simp
                have HQ5 : Hid (PS w0 (x4.alloc (.cells #[(.int .i64 (j : Int))] 3)) P c0 (put T4 10 (.one 3 x4.heap.size (.int .i64 (j : Int)))) (fun x => G x ∨ x = X)) := HQ4.out.fresh (below_alloc _ _) 10 (heap_alloc_new x4 _) (fun b hb => by rw [show b = x4.heap.size from hb]; exact Nat.le_refl _)
                refine hKc.out _ _ (fun _ _ => HQ5.out.pr) ?_
                clear hKc Kc HQ4
                obtain ⟨T5, hT5⟩ : ∃ T5, T5 = put T4 10 (.one 3 x4.heap.size (.int .i64 (j : Int))) := ⟨_, rfl⟩
                rw [← hT5] at HQ5
                revert HQ5 hT5
                generalize x4.alloc (.cells #[(.int .i64 (j : Int))] 3) = x5
                generalize x4.heap.size = y7
                intro HQ5 hT5
                have e7 := eqT hT5 e7 (by decide)
                have e8 := eqT hT5 e8 (by decide)
                have e12 := eqT hT5 e12 (by decide)
                have e11 := eqT hT5 e11 (by decide)
                have e9 := eqT hT5 e9 (by decide)
                have e6 := eqT hT5 e6 (by decide)
                have kf : Hid (∀ i, i < 6 → T5 i = TA i) := fun i hi => eqT hT5 (kf.out i hi) (by omega)
                have e10 : T5 10 = .one 3 y7 (.int .i64 (j : Int)) := by rw [hT5]; exact put_same _ _ _
                clear hT5
                refine wpAnyM_ready (rs := [17]) (by kernel_rfl) (by simp) ?_
                refine AllReadyM.cons (by simp; rfl) (fun Kc hKc => ?_) AllReadyM.nil
                obtain ⟨v', x6, hap, ⟨g7, h7, rfl⟩, hP⟩ := HQ5.out.appR (i := 7) O.elI (by decide) e7 (by have := HQ5.out.fam.at' 10 (by decide); rw [e10] at this; exact this) (by simp; omega) rfl
                have HAP : Hid ((Builtin.append_ #[39, 39] 39 #[(.slice p7 m7 c7), .slice (some ⟨y7, 0, none⟩) 1 1]).run Tryd.prog x5 = .ok (.slice g7 ((I6 os).length + 1) h7) x6) := hap
                clear hap
                generalize (I6 os).length + 1 = l7 at HAP hP
                refine step_append_is (u1 := (.slice p7 m7 c7)) (u2 := .slice (some ⟨y7, 0, none⟩) 1 1) (by rfl) rfl rfl rfl rfl HAP.out ?_
                refine hKc.out _ _ (fun _ _ => hP.pr) ?_
                clear hKc Kc HAP
                obtain ⟨T6, hT6⟩ : ∃ T6, T6 = put T5 7 (.row 3 (.slice g7 l7 h7) (I6 os ++ [(.int .i64 (j : Int))])) := ⟨_, rfl⟩
                have HQ6 : Hid (PS w0 x6 P c0 T6 (fun x => G x ∨ x = X)) := by rw [hT6]; exact hP
                clear hP
                have e8 := eqT hT6 e8 (by decide)
                have e12 := eqT hT6 e12 (by decide)
                have e11 := eqT hT6 e11 (by decide)
                have e9 := eqT hT6 e9 (by decide)
                have e6 := eqT hT6 e6 (by decide)
                have e10 := eqT hT6 e10 (by decide)
                have kf : Hid (∀ i, i < 6 → T6 i = TA i) := fun i hi => eqT hT6 (kf.out i hi) (by omega)
                have e7 : T6 7 = .row 3 (.slice g7 l7 h7) (I6 os ++ [(.int .i64 (j : Int))]) := by rw [hT6]; exact put_same _ _ _
                clear hT6 HQ5
                simp only [Act.put, List.setIfInBounds_toArray, List.set_cons_zero, List.set_cons_succ]
                refine wpAnyM_ready (rs := [29]) (by kernel_rfl) (by simp) ?_
                refine AllReadyM.cons (by simp; rfl) (fun Kc hKc => ?_) AllReadyM.nil
                obtain ⟨v', x7, hap, ⟨g8, h8, rfl⟩, hP⟩ := HQ6.out.appR (i := 8) O.elI (by decide) e8 (by have := HQ6.out.fam.at' 11 (by decide); rw [e11] at this; exact this) (by simp; omega) rfl
                have HAP : Hid ((Builtin.append_ #[39, 39] 39 #[(.slice p8 m8 c8), .slice (some ⟨y8, 0, none⟩) 1 1]).run Tryd.prog x6 = .ok (.slice g8 ((I6 rs).length + 1) h8) x7) := hap
                clear hap
                generalize (I6 rs).length + 1 = l8 at HAP hP
                refine step_append_is (u1 := (.slice p8 m8 c8)) (u2 := .slice (some ⟨y8, 0, none⟩) 1 1) (by rfl) rfl rfl rfl rfl HAP.out ?_
                refine hKc.out _ _ (fun _ _ => hP.pr) ?_
                clear hKc Kc HAP
                obtain ⟨T7, hT7⟩ : ∃ T7, T7 = put T6 8 (.row 3 (.slice g8 l8 h8) (I6 rs ++ [(.int .i64 (g j))])) := ⟨_, rfl⟩
                have HQ7 : Hid (PS w0 x7 P c0 T7 (fun x => G x ∨ x = X)) := by rw [hT7]; exact hP
                clear hP
                have e12 := eqT hT7 e12 (by decide)
                have e11 := eqT hT7 e11 (by decide)
                have e9 := eqT hT7 e9 (by decide)
                have e6 := eqT hT7 e6 (by decide)
                have e10 := eqT hT7 e10 (by decide)
                have e7 := eqT hT7 e7 (by decide)
                have kf : Hid (∀ i, i < 6 → T7 i = TA i) := fun i hi => eqT hT7 (kf.out i hi) (by omega)
                have e8 : T7 8 = .row 3 (.slice g8 l8 h8) (I6 rs ++ [(.int .i64 (g j))]) := by rw [hT7]; exact put_same _ _ _
                clear hT7 HQ6
                simp only [Act.put, List.setIfInBounds_toArray, List.set_cons_zero, List.set_cons_succ]
              case' b80 =>
                go_simp
                have HQ4 : Hid (PS w0 (x3.alloc (.cells #[(.int .i64 (j : Int))] 3)) P c0 (put T3 10 (.one 3 x3.heap.size (.int .i64 (j : Int)))) G) := HQ3.out.fresh (below_alloc _ _) 10 (heap_alloc_new x3 _) (fun b hb => by rw [show b = x3.heap.size from hb]; exact Nat.le_refl _)
                refine hKc.out _ _ (fun _ _ => HQ4.out.pr) ?_
                clear hKc Kc HQ3
                obtain ⟨T4, hT4⟩ : ∃ T4, T4 = put T3 10 (.one 3 x3.heap.size (.int .i64 (j : Int))) := ⟨_, rfl⟩
                rw [← hT4] at HQ4
                revert HQ4 hT4
                generalize x3.alloc (.cells #[(.int .i64 (j : Int))] 3) = x4
                generalize x3.heap.size = y7
                intro HQ4 hT4
                have e6 := eqT hT4 e6 (by decide)
                have e7 := eqT hT4 e7 (by decide)
                have e8 := eqT hT4 e8 (by decide)
                have e12 := eqT hT4 e12 (by decide)
                have e14 := eqT hT4 e14 (by decide)
                have e11 := eqT hT4 e11 (by decide)
                have e9 := eqT hT4 e9 (by decide)
                have kf : Hid (∀ i, i < 6 → T4 i = TA i) := fun i hi => eqT hT4 (kf.out i hi) (by omega)
                have e10 : T4 10 = .one 3 y7 (.int .i64 (j : Int)) := by rw [hT4]; exact put_same _ _ _
                clear hT4
                refine wpAnyM_ready (rs := [10]) (by kernel_rfl) (by simp) ?_
                refine AllReadyM.cons (by simp; rfl) (fun Kc hKc => ?_) AllReadyM.nil
                obtain ⟨v', x5, hap, ⟨g6, h6, rfl⟩, hP⟩ := HQ4.out.appQ2 elQ e6 e9 e14 (by omega)
                have HAP : Hid ((Builtin.append_ #[38, 38] 38 #[(.slice p6 m6 c6), .slice (some ⟨y6, 0, none⟩) 1 1]).run Tryd.prog x4 = .ok (.slice g6 (bs.length + 1) h6) x5) := hap
                clear hap
                generalize bs.length + 1 = l6 at HAP hP
                refine step_append_is (u1 := (.slice p6 m6 c6)) (u2 := .slice (some ⟨y6, 0, none⟩) 1 1) (by rfl) rfl rfl rfl rfl HAP.out ?_
                refine hKc.out _ _ (fun _ _ => hP.pr) ?_
                clear hKc Kc HAP
                obtain ⟨T5, hT5⟩ : ∃ T5, T5 = put (put T4 14 .no) 6 (.sq (.slice g6 l6 h6) (bs ++ [(X, Q j)])) := ⟨_, rfl⟩
                have HQ5 : Hid (PS w0 x5 P c0 T5 (fun x => G x ∨ x = X)) := by rw [hT5]; exact hP
                clear hP
                have e7 := eqT2 hT5 e7 (by decide) (by decide)
                have e8 := eqT2 hT5 e8 (by decide) (by decide)
                have e12 := eqT2 hT5 e12 (by decide) (by decide)
                have e11 := eqT2 hT5 e11 (by decide) (by decide)
                have e9 := eqT2 hT5 e9 (by decide) (by decide)
                have e10 := eqT2 hT5 e10 (by decide) (by decide)
                have kf : Hid (∀ i, i < 6 → T5 i = TA i) := fun i hi => eqT2 hT5 (kf.out i hi) (by omega) (by omega)
                have e6 : T5 6 = .sq (.slice g6 l6 h6) (bs ++ [(X, Q j)]) := by rw [hT5]; exact put_same _ _ _
                clear hT5 HQ4
                simp only [Act.put, List.setIfInBounds_toArray, List.set_cons_zero, List.set_cons_succ]
                refine wpAnyM_ready (rs := [17]) (by kernel_rfl) (by simp) ?_
                refine AllReadyM.cons (by simp; rfl) (fun Kc hKc => ?_) AllReadyM.nil
                obtain ⟨v', x6, hap, ⟨g7, h7, rfl⟩, hP⟩ := HQ5.out.appR (i := 7) O.elI (by decide) e7 (by have := HQ5.out.fam.at' 10 (by decide); rw [e10] at this; exact this) (by simp; omega) rfl
                have HAP : Hid ((Builtin.append_ #[39, 39] 39 #[(.slice p7 m7 c7), .slice (some ⟨y7, 0, none⟩) 1 1]).run Tryd.prog x5 = .ok (.slice g7 ((I6 os).length + 1) h7) x6) := hap
                clear hap
                generalize (I6 os).length + 1 = l7 at HAP hP
                refine step_append_is (u1 := (.slice p7 m7 c7)) (u2 := .slice (some ⟨y7, 0, none⟩) 1 1) (by rfl) rfl rfl rfl rfl HAP.out ?_
                refine hKc.out _ _ (fun _ _ => hP.pr) ?_
                clear hKc Kc HAP
                obtain ⟨T6, hT6⟩ : ∃ T6, T6 = put T5 7 (.row 3 (.slice g7 l7 h7) (I6 os ++ [(.int .i64 (j : Int))])) := ⟨_, rfl⟩
                have HQ6 : Hid (PS w0 x6 P c0 T6 (fun x => G x ∨ x = X)) := by rw [hT6]; exact hP
                clear hP
                have e8 := eqT hT6 e8 (by decide)
                have e12 := eqT hT6 e12 (by decide)
                have e11 := eqT hT6 e11 (by decide)
                have e9 := eqT hT6 e9 (by decide)
                have e10 := eqT hT6 e10 (by decide)
                have e6 := eqT hT6 e6 (by decide)
                have kf : Hid (∀ i, i < 6 → T6 i = TA i) := fun i hi => eqT hT6 (kf.out i hi) (by omega)
                have e7 : T6 7 = .row 3 (.slice g7 l7 h7) (I6 os ++ [(.int .i64 (j : Int))]) := by rw [hT6]; exact put_same _ _ _
                clear hT6 HQ5
                simp only [Act.put, List.setIfInBounds_toArray, List.set_cons_zero, List.set_cons_succ]
                refine wpAnyM_ready (rs := [29]) (by kernel_rfl) (by simp) ?_
                refine AllReadyM.cons (by simp; rfl) (fun Kc hKc => ?_) AllReadyM.nil
                obtain ⟨v', x7, hap, ⟨g8, h8, rfl⟩, hP⟩ := HQ6.out.appR (i := 8) O.elI (by decide) e8 (by have := HQ6.out.fam.at' 11 (by decide); rw [e11] at this; exact this) (by simp; omega) rfl
                have HAP : Hid ((Builtin.append_ #[39, 39] 39 #[(.slice p8 m8 c8), .slice (some ⟨y8, 0, none⟩) 1 1]).run Tryd.prog x6 = .ok (.slice g8 ((I6 rs).length + 1) h8) x7) := hap
                clear hap
                generalize (I6 rs).length + 1 = l8 at HAP hP
                refine step_append_is (u1 := (.slice p8 m8 c8)) (u2 := .slice (some ⟨y8, 0, none⟩) 1 1) (by rfl) rfl rfl rfl rfl HAP.out ?_
                refine hKc.out _ _ (fun _ _ => hP.pr) ?_
                clear hKc Kc HAP
                obtain ⟨T7, hT7⟩ : ∃ T7, T7 = put T6 8 (.row 3 (.slice g8 l8 h8) (I6 rs ++ [(.int .i64 (g j))])) := ⟨_, rfl⟩
                have HQ7 : Hid (PS w0 x7 P c0 T7 (fun x => G x ∨ x = X)) := by rw [hT7]; exact hP
                clear hP
                have e12 := eqT hT7 e12 (by decide)
                have e11 := eqT hT7 e11 (by decide)
                have e9 := eqT hT7 e9 (by decide)
                have e10 := eqT hT7 e10 (by decide)
                have e6 := eqT hT7 e6 (by decide)
                have e7 := eqT hT7 e7 (by decide)
                have kf : Hid (∀ i, i < 6 → T7 i = TA i) := fun i hi => eqT hT7 (kf.out i hi) (by omega)
                have e8 : T7 8 = .row 3 (.slice g8 l8 h8) (I6 rs ++ [(.int .i64 (g j))]) := by rw [hT7]; exact put_same _ _ _
                clear hT7 HQ6
                simp only [Act.put, List.setIfInBounds_toArray, List.set_cons_zero, List.set_cons_succ]
            case' b78 =>
              go_simp
              have HQ3 : Hid (PS w0 (x2.alloc (.cells #[(.int .i64 (j : Int))] 3)) P c0 (put T2 10 (.one 3 x2.heap.size (.int .i64 (j : Int)))) G) := HQ2.out.fresh (below_alloc _ _) 10 (heap_alloc_new x2 _) (fun b hb => by rw [show b = x2.heap.size from hb]; exact Nat.le_refl _)
              refine hKc.out _ _ (fun _ _ => HQ3.out.pr) ?_
              clear hKc Kc HQ2
              obtain ⟨T3, hT3⟩ : ∃ T3, T3 = put T2 10 (.one 3 x2.heap.size (.int .i64 (j : Int))) := ⟨_, rfl⟩
              rw [← hT3] at HQ3
              revert HQ3 hT3
              generalize x2.alloc (.cells #[(.int .i64 (j : Int))] 3) = x3
              generalize x2.heap.size = y7
              intro HQ3 hT3
              have e6 := eqT hT3 e6 (by decide)
              have e7 := eqT hT3 e7 (by decide)
              have e8 := eqT hT3 e8 (by decide)
              have e12 := eqT hT3 e12 (by decide)
              have e14 := eqT hT3 e14 (by decide)
              have e11 := eqT hT3 e11 (by decide)
              have kf : Hid (∀ i, i < 6 → T3 i = TA i) := fun i hi => eqT hT3 (kf.out i hi) (by omega)
              have e10 : T3 10 = .one 3 y7 (.int .i64 (j : Int)) := by rw [hT3]; exact put_same _ _ _
              clear hT3
              refine wpAnyM_ready (rs := [9]) (by kernel_rfl) (by simp) ?_
              refine AllReadyM.cons (by simp; rfl) (fun Kc hKc => ?_) AllReadyM.nil
              go_simp
              have HQ4 : Hid (PS w0 (x3.alloc (.cells #[(seqV X)] 83)) P c0 (put T3 9 (.one 83 x3.heap.size (seqV X))) G) := HQ3.out.fresh (below_alloc _ _) 9 (heap_alloc_new x3 _) (fun b hb => by rw [show b = x3.heap.size from hb]; exact Nat.le_refl _)
              refine hKc.out _ _ (fun _ _ => HQ4.out.pr) ?_
              clear hKc Kc HQ3
              obtain ⟨T4, hT4⟩ : ∃ T4, T4 = put T3 9 (.one 83 x3.heap.size (seqV X)) := ⟨_, rfl⟩
              rw [← hT4] at HQ4
              revert HQ4 hT4
              generalize x3.alloc (.cells #[(seqV X)] 83) = x4
              generalize x3.heap.size = y6
              intro HQ4 hT4
              have e6 := eqT hT4 e6 (by decide)
              have e7 := eqT hT4 e7 (by decide)
              have e8 := eqT hT4 e8 (by decide)
              have e12 := eqT hT4 e12 (by decide)
              have e14 := eqT hT4 e14 (by decide)
              have e11 := eqT hT4 e11 (by decide)
              have e10 := eqT hT4 e10 (by decide)
              have kf : Hid (∀ i, i < 6 → T4 i = TA i) := fun i hi => eqT hT4 (kf.out i hi) (by omega)
              have e9 : T4 9 = .one 83 y6 (seqV X) := by rw [hT4]; exact put_same _ _ _
              clear hT4
              refine wpAnyM_ready (rs := [10]) (by kernel_rfl) (by simp) ?_
              refine AllReadyM.cons (by simp; rfl) (fun Kc hKc => ?_) AllReadyM.nil
              obtain ⟨v', x5, hap, ⟨g6, h6, rfl⟩, hP⟩ := HQ4.out.appQ2 elQ e6 e9 e14 (by omega)
              have HAP : Hid ((Builtin.append_ #[38, 38] 38 #[(.slice p6 m6 c6), .slice (some ⟨y6, 0, none⟩) 1 1]).run Tryd.prog x4 = .ok (.slice g6 (bs.length + 1) h6) x5) := hap
              clear hap
              generalize bs.length + 1 = l6 at HAP hP
              refine step_append_is (u1 := (.slice p6 m6 c6)) (u2 := .slice (some ⟨y6, 0, none⟩) 1 1) (by rfl) rfl rfl rfl rfl HAP.out ?_
              refine hKc.out _ _ (fun _ _ => hP.pr) ?_
              clear hKc Kc HAP
              obtain ⟨T5, hT5⟩ : ∃ T5, T5 = put (put T4 14 .no) 6 (.sq (.slice g6 l6 h6) (bs ++ [(X, Q j)])) := ⟨_, rfl⟩
              have HQ5 : Hid (PS w0 x5 P c0 T5 (fun x => G x ∨ x = X)) := by rw [hT5]; exact hP
              clear hP
              have e7 := eqT2 hT5 e7 (by decide) (by decide)
              have e8 := eqT2 hT5 e8 (by decide) (by decide)
              have e12 := eqT2 hT5 e12 (by decide) (by decide)
              have e11 := eqT2 hT5 e11 (by decide) (by decide)
              have e10 := eqT2 hT5 e10 (by decide) (by decide)
              have e9 := eqT2 hT5 e9 (by decide) (by decide)
              have kf : Hid (∀ i, i < 6 → T5 i = TA i) := fun i hi => eqT2 hT5 (kf.out i hi) (by omega) (by omega)
              have e6 : T5 6 = .sq (.slice g6 l6 h6) (bs ++ [(X, Q j)]) := by rw [hT5]; exact put_same _ _ _
              clear hT5 HQ4
              simp only [Act.put, List.setIfInBounds_toArray, List.set_cons_zero, List.set_cons_succ]
              refine wpAnyM_ready (rs := [17]) (by kernel_rfl) (by simp) ?_
              refine AllReadyM.cons (by simp; rfl) (fun Kc hKc => ?_) AllReadyM.nil
              obtain ⟨v', x6, hap, ⟨g7, h7, rfl⟩, hP⟩ := HQ5.out.appR (i := 7) O.elI (by decide) e7 (by have := HQ5.out.fam.at' 10 (by decide); rw [e10] at this; exact this) (by simp; omega) rfl
              have HAP : Hid ((Builtin.append_ #[39, 39] 39 #[(.slice p7 m7 c7), .slice (some ⟨y7, 0, none⟩) 1 1]).run Tryd.prog x5 = .ok (.slice g7 ((I6 os).length + 1) h7) x6) := hap
              clear hap
              generalize (I6 os).length + 1 = l7 at HAP hP
              refine step_append_is (u1 := (.slice p7 m7 c7)) (u2 := .slice (some ⟨y7, 0, none⟩) 1 1) (by rfl) rfl rfl rfl rfl HAP.out ?_
              refine hKc.out _ _ (fun _ _ => hP.pr) ?_
              clear hKc Kc HAP
              obtain ⟨T6, hT6⟩ : ∃ T6, T6 = put T5 7 (.row 3 (.slice g7 l7 h7) (I6 os ++ [(.int .i64 (j : Int))])) := ⟨_, rfl⟩
              have HQ6 : Hid (PS w0 x6 P c0 T6 (fun x => G x ∨ x = X)) := by rw [hT6]; exact hP
              clear hP
              have e8 := eqT hT6 e8 (by decide)
              have e12 := eqT hT6 e12 (by decide)
              have e11 := eqT hT6 e11 (by decide)
              have e10 := eqT hT6 e10 (by decide)
              have e9 := eqT hT6 e9 (by decide)
              have e6 := eqT hT6 e6 (by decide)
              have kf : Hid (∀ i, i < 6 → T6 i = TA i) := fun i hi => eqT hT6 (kf.out i hi) (by omega)
              have e7 : T6 7 = .row 3 (.slice g7 l7 h7) (I6 os ++ [(.int .i64 (j : Int))]) := by rw [hT6]; exact put_same _ _ _
              clear hT6 HQ5
              simp only [Act.put, List.setIfInBounds_toArray, List.set_cons_zero, List.set_cons_succ]
              refine wpAnyM_ready (rs := [29]) (by kernel_rfl) (by simp) ?_
              refine AllReadyM.cons (by simp; rfl) (fun Kc hKc => ?_) AllReadyM.nil
              obtain ⟨v', x7, hap, ⟨g8, h8, rfl⟩, hP⟩ := HQ6.out.appR (i := 8) O.elI (by decide) e8 (by have := HQ6.out.fam.at' 11 (by decide); rw [e11] at this; exact this) (by simp; omega) rfl
              have HAP : Hid ((Builtin.append_ #[39, 39] 39 #[(.slice p8 m8 c8), .slice (some ⟨y8, 0, none⟩) 1 1]).run Tryd.prog x6 = .ok (.slice g8 ((I6 rs).length + 1) h8) x7) := hap
              clear hap
              generalize (I6 rs).length + 1 = l8 at HAP hP
              refine step_append_is (u1 := (.slice p8 m8 c8)) (u2 := .slice (some ⟨y8, 0, none⟩) 1 1) (by rfl) rfl rfl rfl rfl HAP.out ?_
              refine hKc.out _ _ (fun _ _ => hP.pr) ?_
              clear hKc Kc HAP
              obtain ⟨T7, hT7⟩ : ∃ T7, T7 = put T6 8 (.row 3 (.slice g8 l8 h8) (I6 rs ++ [(.int .i64 (g j))])) := ⟨_, rfl⟩
              have HQ7 : Hid (PS w0 x7 P c0 T7 (fun x => G x ∨ x = X)) := by rw [hT7]; exact hP
              clear hP
              have e12 := eqT hT7 e12 (by decide)
              have e11 := eqT hT7 e11 (by decide)
              have e10 := eqT hT7 e10 (by decide)
              have e9 := eqT hT7 e9 (by decide)
              have e6 := eqT hT7 e6 (by decide)
              have e7 := eqT hT7 e7 (by decide)
              have kf : Hid (∀ i, i < 6 → T7 i = TA i) := fun i hi => eqT hT7 (kf.out i hi) (by omega)
              have e8 : T7 8 = .row 3 (.slice g8 l8 h8) (I6 rs ++ [(.int .i64 (g j))]) := by rw [hT7]; exact put_same _ _ _
              clear hT7 HQ6
              simp only [Act.put, List.setIfInBounds_toArray, List.set_cons_zero, List.set_cons_succ]
          all_goals as_aux_lemma =>
            refine wpAnyM_take0 (i := 30) (v := .pointer (some ⟨P, 0, none⟩)) (by simp; rfl) (by kernel_rfl) (by kernel_rfl) (by kernel_rfl) (fun _ _ _ h => h) (Or.inl ⟨by rfl, fun w hSw => ?_⟩) ?_
            · clear hSw; go_simp <;> with_reducible rfl
            simp only [Act.put, List.setIfInBounds_toArray, List.set_cons_zero, List.set_cons_succ]
            refine wpAnyM_take0 (i := 31) (v := .pointer (some ⟨P, 6, none⟩)) (by simp; rfl) (by kernel_rfl) (by kernel_rfl) (by kernel_rfl) (fun _ _ _ h => h) (Or.inl ⟨by rfl, fun w hSw => ?_⟩) ?_
            · clear hSw; go_simp <;> with_reducible rfl
            simp only [Act.put, List.setIfInBounds_toArray, List.set_cons_zero, List.set_cons_succ]
            refine wpAnyM_ready (rs := [32]) (by kernel_rfl) (by simp) ?_
            refine AllReadyM.cons (by simp; rfl) (fun Kc hKc => ?_) AllReadyM.nil
            have hcv : x7.cell? ⟨P, 6, none⟩ = some (.slice p6 m6 c6) := HQ7.out.cell (j := 6) (by exact HV.out.1)
            have hfv := HQ7.out.free 6
            go_simp
            have HQ8 : Hid (PS w0 (x7.setCell ⟨P, 6, none⟩ (.slice g6 l6 h6)) P (c0.setIfInBounds 6 (.slice g6 l6 h6)) T7 (fun x => G x ∨ x = X)) := HQ7.out.store 6 (.slice g6 l6 h6)
            refine hKc.out _ _ (fun h => absurd h (by decide)) ?_
            clear hKc Kc hcv hfv HQ7
            generalize x7.setCell ⟨P, 6, none⟩ (.slice g6 l6 h6) = x8 at *

            refine wpAnyM_take0 (i := 33) (v := .pointer (some ⟨P, 0, none⟩)) (by simp; rfl) (by kernel_rfl) (by kernel_rfl) (by kernel_rfl) (fun _ _ _ h => h) (Or.inl ⟨by rfl, fun w hSw => ?_⟩) ?_
            · clear hSw; go_simp <;> with_reducible rfl
            simp only [Act.put, List.setIfInBounds_toArray, List.set_cons_zero, List.set_cons_succ]
            refine wpAnyM_take0 (i := 34) (v := .pointer (some ⟨P, 7, none⟩)) (by simp; rfl) (by kernel_rfl) (by kernel_rfl) (by kernel_rfl) (fun _ _ _ h => h) (Or.inl ⟨by rfl, fun w hSw => ?_⟩) ?_
            · clear hSw; go_simp <;> with_reducible rfl
            simp only [Act.put, List.setIfInBounds_toArray, List.set_cons_zero, List.set_cons_succ]
            refine wpAnyM_ready (rs := [35]) (by kernel_rfl) (by simp) ?_
            refine AllReadyM.cons (by simp; rfl) (fun Kc hKc => ?_) AllReadyM.nil
            have hcv : x8.cell? ⟨P, 7, none⟩ = some (.slice p7 m7 c7) := HQ8.out.cell (j := 7) (by rw [Array.getElem?_setIfInBounds_ne (by decide)]; exact HV.out.2.1)
            have hfv := HQ8.out.free 7
            go_simp
            have HQ9 : Hid (PS w0 (x8.setCell ⟨P, 7, none⟩ (.slice g7 l7 h7)) P ((c0.setIfInBounds 6 (.slice g6 l6 h6)).setIfInBounds 7 (.slice g7 l7 h7)) T7 (fun x => G x ∨ x = X)) := HQ8.out.store 7 (.slice g7 l7 h7)
            refine hKc.out _ _ (fun h => absurd h (by decide)) ?_
            clear hKc Kc hcv hfv HQ8
            generalize x8.setCell ⟨P, 7, none⟩ (.slice g7 l7 h7) = x9 at *

            refine wpAnyM_take0 (i := 36) (v := .pointer (some ⟨P, 0, none⟩)) (by simp; rfl) (by kernel_rfl) (by kernel_rfl) (by kernel_rfl) (fun _ _ _ h => h) (Or.inl ⟨by rfl, fun w hSw => ?_⟩) ?_
            · clear hSw; go_simp <;> with_reducible rfl
            simp only [Act.put, List.setIfInBounds_toArray, List.set_cons_zero, List.set_cons_succ]
            refine wpAnyM_take0 (i := 37) (v := .pointer (some ⟨P, 10, none⟩)) (by simp; rfl) (by kernel_rfl) (by kernel_rfl) (by kernel_rfl) (fun _ _ _ h => h) (Or.inl ⟨by rfl, fun w hSw => ?_⟩) ?_
            · clear hSw; go_simp <;> with_reducible rfl
            simp only [Act.put, List.setIfInBounds_toArray, List.set_cons_zero, List.set_cons_succ]
            refine wpAnyM_ready (rs := [38]) (by kernel_rfl) (by simp) ?_
            refine AllReadyM.cons (by simp; rfl) (fun Kc hKc => ?_) AllReadyM.nil
            have hcv : x9.cell? ⟨P, 10, none⟩ = some (.slice p8 m8 c8) := HQ9.out.cell (j := 10) (by rw [Array.getElem?_setIfInBounds_ne (by decide), Array.getElem?_setIfInBounds_ne (by decide)]; exact HV.out.2.2)
            have hfv := HQ9.out.free 10
            go_simp
            have HQ10 : Hid (PS w0 (x9.setCell ⟨P, 10, none⟩ (.slice g8 l8 h8)) P (((c0.setIfInBounds 6 (.slice g6 l6 h6)).setIfInBounds 7 (.slice g7 l7 h7)).setIfInBounds 10 (.slice g8 l8 h8)) T7 (fun x => G x ∨ x = X)) := HQ9.out.store 10 (.slice g8 l8 h8)
            refine hKc.out _ _ (fun h => absurd h (by decide)) ?_
            clear hKc Kc hcv hfv HQ9
            generalize x9.setCell ⟨P, 10, none⟩ (.slice g8 l8 h8) = x10 at *

            refine wpAnyM_done (by kernel_rfl) (NoPanic.normal ?_) _
            refine ⟨rfl, asked_end (T := T) (TA := TA) (T' := T7) (os := os) (rs := rs) (by rw [← HC0.out]; exact HQ10.out) HSH.out hj kf.out HKA.out HE4.out HE5.out HLS.out HCC.out e6 e7 e8 hos hrs hbs HKS.out e12 rfl rfl rfl rfl⟩
        · as_aux_lemma =>
          go_simp
          have HQ1 : Hid (PS w0 (xD.alloc (.cells #[(.int .i64 (j : Int))] 3)) P c0 (put TZ 10 (.one 3 xD.heap.size (.int .i64 (j : Int)))) G) := HQ0.out.fresh (below_alloc _ _) 10 (heap_alloc_new xD _) (fun b hb => by rw [show b = xD.heap.size from hb]; exact Nat.le_refl _)
          refine hKc.out _ _ (fun _ _ => HQ1.out.pr) ?_
          clear hKc Kc HQ0
          obtain ⟨T1, hT1⟩ : ∃ T1, T1 = put TZ 10 (.one 3 xD.heap.size (.int .i64 (j : Int))) := ⟨_, rfl⟩
          rw [← hT1] at HQ1
          revert HQ1 hT1
          generalize xD.alloc (.cells #[(.int .i64 (j : Int))] 3) = x1
          generalize xD.heap.size = y7
          intro HQ1 hT1
          have e6 := eqT hT1 e6 (by decide)
          have e7 := eqT hT1 e7 (by decide)
          have e8 := eqT hT1 e8 (by decide)
          have e12 := eqT hT1 e12 (by decide)
          have kf : Hid (∀ i, i < 6 → T1 i = TA i) := fun i hi => eqT hT1 (kf.out i hi) (by omega)
          have e10 : T1 10 = .one 3 y7 (.int .i64 (j : Int)) := by rw [hT1]; exact put_same _ _ _
          clear hT1
          refine wpAnyM_ready (rs := [8, 28]) (by kernel_rfl) (by simp) ?_
          refine AllReadyM.cons (by simp; rfl) (fun Kc hKc => ?b81) (AllReadyM.cons (by simp; rfl) (fun Kc hKc => ?b82) AllReadyM.nil)
          case' b81 =>
            go_simp
            refine (all_is (some ⟨Q j, 0, none⟩) x1).mono ?_
            rintro e _ ⟨rfl, rfl⟩
            have HQ2 : Hid (PS w0 (x1.alloc (.cells #[.pointer (some ⟨Q j, 0, none⟩)] 24)) P c0 (put T1 14 (.one 24 x1.heap.size (qp (Q j)))) G) := HQ1.out.fresh (below_alloc _ _) 14 (heap_alloc_new x1 _) (fun b hb => by rw [show b = x1.heap.size from hb]; exact Nat.le_refl _)
            refine hKc.out _ _ (fun _ _ => HQ2.out.pr) ?_
            clear hKc Kc HQ1
            obtain ⟨T2, hT2⟩ : ∃ T2, T2 = put T1 14 (.one 24 x1.heap.size (qp (Q j))) := ⟨_, rfl⟩
            rw [← hT2] at HQ2
            revert HQ2 hT2
            generalize x1.alloc (.cells #[.pointer (some ⟨Q j, 0, none⟩)] 24) = x2
            generalize x1.heap.size = X
            intro HQ2 hT2
            have e6 := eqT hT2 e6 (by decide)
            have e7 := eqT hT2 e7 (by decide)
            have e8 := eqT hT2 e8 (by decide)
            have e12 := eqT hT2 e12 (by decide)
            have e10 := eqT hT2 e10 (by decide)
            have kf : Hid (∀ i, i < 6 → T2 i = TA i) := fun i hi => eqT hT2 (kf.out i hi) (by omega)
            have e14 : T2 14 = .one 24 X (qp (Q j)) := by rw [hT2]; exact put_same _ _ _
            clear hT2
            refine wpAnyM_ready (rs := [9, 28]) (by kernel_rfl) (by simp) ?_
            refine AllReadyM.cons (by simp; rfl) (fun Kc hKc => ?b83) (AllReadyM.cons (by simp; rfl) (fun Kc hKc => ?b84) AllReadyM.nil)
            case' b83 =>
              go_simp
              have HQ3 : Hid (PS w0 (x2.alloc (.cells #[(seqV X)] 83)) P c0 (put T2 9 (.one 83 x2.heap.size (seqV X))) G) := HQ2.out.fresh (below_alloc _ _) 9 (heap_alloc_new x2 _) (fun b hb => by rw [show b = x2.heap.size from hb]; exact Nat.le_refl _)
              refine hKc.out _ _ (fun _ _ => HQ3.out.pr) ?_
              clear hKc Kc HQ2
              obtain ⟨T3, hT3⟩ : ∃ T3, T3 = put T2 9 (.one 83 x2.heap.size (seqV X)) := ⟨_, rfl⟩
              rw [← hT3] at HQ3
              revert HQ3 hT3
              generalize x2.alloc (.cells #[(seqV X)] 83) = x3
              generalize x2.heap.size = y6
              intro HQ3 hT3
              have e6 := eqT hT3 e6 (by decide)
              have e7 := eqT hT3 e7 (by decide)
              have e8 := eqT hT3 e8 (by decide)
              have e12 := eqT hT3 e12 (by decide)
              have e10 := eqT hT3 e10 (by decide)
              have e14 := eqT hT3 e14 (by decide)
              have kf : Hid (∀ i, i < 6 → T3 i = TA i) := fun i hi => eqT hT3 (kf.out i hi) (by omega)
              have e9 : T3 9 = .one 83 y6 (seqV X) := by rw [hT3]; exact put_same _ _ _
              clear hT3
              refine wpAnyM_ready (rs := [10, 28]) (by kernel_rfl) (by simp) ?_
              refine AllReadyM.cons (by simp; rfl) (fun Kc hKc => ?b85) (AllReadyM.cons (by simp; rfl) (fun Kc hKc => ?b86) AllReadyM.nil)
              case' b85 =>
                obtain ⟨v', x4, hap, ⟨g6, h6, rfl⟩, hP⟩ := HQ3.out.appQ2 elQ e6 e9 e14 (by omega)
                have HAP : Hid ((Builtin.append_ #[38, 38] 38 #[(.slice p6 m6 c6), .slice (some ⟨y6, 0, none⟩) 1 1]).run Tryd.prog x3 = .ok (.slice g6 (bs.length + 1) h6) x4) := hap
                clear hap
                generalize bs.length + 1 = l6 at HAP hP
                refine step_append_is (u1 := (.slice p6 m6 c6)) (u2 := .slice (some ⟨y6, 0, none⟩) 1 1) (by rfl) rfl rfl rfl rfl HAP.out ?_
                refine hKc.out _ _ (fun _ _ => hP.pr) ?_
                clear hKc Kc HAP
                obtain ⟨T4, hT4⟩ : ∃ T4, T4 = put (put T3 14 .no) 6 (.sq (.slice g6 l6 h6) (bs ++ [(X, Q j)])) := ⟨_, rfl⟩
                have HQ4 : Hid (PS w0 x4 P c0 T4 (fun x => G x ∨ x = X)) := by rw [hT4]; exact hP
                clear hP
                have e7 := eqT2 hT4 e7 (by decide) (by decide)
                have e8 := eqT2 hT4 e8 (by decide) (by decide)
                have e12 := eqT2 hT4 e12 (by decide) (by decide)
                have e10 := eqT2 hT4 e10 (by decide) (by decide)
                have e9 := eqT2 hT4 e9 (by decide) (by decide)
                have kf : Hid (∀ i, i < 6 → T4 i = TA i) := fun i hi => eqT2 hT4 (kf.out i hi) (by omega) (by omega)
                have e6 : T4 6 = .sq (.slice g6 l6 h6) (bs ++ [(X, Q j)]) := by rw [hT4]; exact put_same _ _ _
                clear hT4 HQ3
                simp only [Act.put, List.setIfInBounds_toArray, List.set_cons_zero, List.set_cons_succ]
                refine wpAnyM_ready (rs := [17, 28]) (by kernel_rfl) (by simp) ?_
                refine AllReadyM.cons (by simp; rfl) (fun Kc hKc => ?b87) (AllReadyM.cons (by simp; rfl) (fun Kc hKc => ?b88) AllReadyM.nil)
                case' b87 =>
                  obtain ⟨v', x5, hap, ⟨g7, h7, rfl⟩, hP⟩ := HQ4.out.appR (i := 7) O.elI (by decide) e7 (by have := HQ4.out.fam.at' 10 (by decide); rw [e10] at this; exact this) (by simp; omega) rfl
                  have HAP : Hid ((Builtin.append_ #[39, 39] 39 #[(.slice p7 m7 c7), .slice (some ⟨y7, 0, none⟩) 1 1]).run Tryd.prog x4 = .ok (.slice g7 ((I6 os).length + 1) h7) x5) := hap
                  clear hap
                  generalize (I6 os).length + 1 = l7 at HAP hP
                  refine step_append_is (u1 := (.slice p7 m7 c7)) (u2 := .slice (some ⟨y7, 0, none⟩) 1 1) (by rfl) rfl rfl rfl rfl HAP.out ?_
                  refine hKc.out _ _ (fun _ _ => hP.pr) ?_
                  clear hKc Kc HAP
                  obtain ⟨T5, hT5⟩ : ∃ T5, T5 = put T4 7 (.row 3 (.slice g7 l7 h7) (I6 os ++ [(.int .i64 (j : Int))])) := ⟨_, rfl⟩
                  have HQ5 : Hid (PS w0 x5 P c0 T5 (fun x => G x ∨ x = X)) := by rw [hT5]; exact hP
                  clear hP
                  have e8 := eqT hT5 e8 (by decide)
                  have e12 := eqT hT5 e12 (by decide)
                  have e10 := eqT hT5 e10 (by decide)
                  have e9 := eqT hT5 e9 (by decide)
                  have e6 := eqT hT5 e6 (by decide)
                  have kf : Hid (∀ i, i < 6 → T5 i = TA i) := fun i hi => eqT hT5 (kf.out i hi) (by omega)
                  have e7 : T5 7 = .row 3 (.slice g7 l7 h7) (I6 os ++ [(.int .i64 (j : Int))]) := by rw [hT5]; exact put_same _ _ _
                  clear hT5 HQ4
                  simp only [Act.put, List.setIfInBounds_toArray, List.set_cons_zero, List.set_cons_succ]
                  refine wpAnyM_ready (rs := [28]) (by kernel_rfl) (by simp) ?_
                  refine AllReadyM.cons (by simp; rfl) (fun Kc hKc => ?_) AllReadyM.nil
                  go_simp
                  have HQ6 : Hid (PS w0 (x5.alloc (.cells #[(.int .i64 (g j))] 3)) P c0 (put T5 11 (.one 3 x5.heap.size (.int .i64 (g j)))) (fun x => G x ∨ x = X)) := HQ5.out.fresh (below_alloc _ _) 11 (heap_alloc_new x5 _) (fun b hb => by rw [show b = x5.heap.size from hb]; exact Nat.le_refl _)
                  refine hKc.out _ _ (fun _ _ => HQ6.out.pr) ?_
                  clear hKc Kc HQ5
                  obtain ⟨T6, hT6⟩ : ∃ T6, T6 = put T5 11 (.one 3 x5.heap.size (.int .i64 (g j))) := ⟨_, rfl⟩
                  rw [← hT6] at HQ6
                  revert HQ6 hT6
                  generalize x5.alloc (.cells #[(.int .i64 (g j))] 3) = x6
                  generalize x5.heap.size = y8
                  intro HQ6 hT6
                  have e8 := eqT hT6 e8 (by decide)
                  have e12 := eqT hT6 e12 (by decide)
                  have e10 := eqT hT6 e10 (by decide)
                  have e9 := eqT hT6 e9 (by decide)
                  have e6 := eqT hT6 e6 (by decide)
                  have e7 := eqT hT6 e7 (by decide)
                  have kf : Hid (∀ i, i < 6 → T6 i = TA i) := fun i hi => eqT hT6 (kf.out i hi) (by omega)
                  have e11 : T6 11 = .one 3 y8 (.int .i64 (g j)) := by rw [hT6]; exact put_same _ _ _
                  clear hT6
                  refine wpAnyM_ready (rs := [29]) (by kernel_rfl) (by simp) ?_
                  refine AllReadyM.cons (by simp; rfl) (fun Kc hKc => ?_) AllReadyM.nil
                  obtain ⟨v', x7, hap, ⟨g8, h8, rfl⟩, hP⟩ := HQ6.out.appR (i := 8) O.elI (by decide) e8 (by have := HQ6.out.fam.at' 11 (by decide); rw [e11] at this; exact this) (by simp; omega) rfl
                  have HAP : Hid ((Builtin.append_ #[39, 39] 39 #[(.slice p8 m8 c8), .slice (some ⟨y8, 0, none⟩) 1 1]).run Tryd.prog x6 = .ok (.slice g8 ((I6 rs).length + 1) h8) x7) := hap
                  clear hap
                  generalize (I6 rs).length + 1 = l8 at HAP hP
                  refine step_append_is (u1 := (.slice p8 m8 c8)) (u2 := .slice (some ⟨y8, 0, none⟩) 1 1) (by rfl) rfl rfl rfl rfl HAP.out ?_
                  refine hKc.out _ _ (fun _ _ => hP.pr) ?_
                  clear hKc Kc HAP
                  obtain ⟨T7, hT7⟩ : ∃ T7, T7 = put T6 8 (.row 3 (.slice g8 l8 h8) (I6 rs ++ [(.int .i64 (g j))])) := ⟨_, rfl⟩
                  have HQ7 : Hid (PS w0 x7 P c0 T7 (fun x => G x ∨ x = X)) := by rw [hT7]; exact hP
                  clear hP
                  have e12 := eqT hT7 e12 (by decide)
                  have e10 := eqT hT7 e10 (by decide)
                  have e9 := eqT hT7 e9 (by decide)
                  have e6 := eqT hT7 e6 (by decide)
                  have e7 := eqT hT7 e7 (by decide)
                  have e11 := eqT hT7 e11 (by decide)
                  have kf : Hid (∀ i, i < 6 → T7 i = TA i) := fun i hi => eqT hT7 (kf.out i hi) (by omega)
                  have e8 : T7 8 = .row 3 (.slice g8 l8 h8) (I6 rs ++ [(.int .i64 (g j))]) := by rw [hT7]; exact put_same _ _ _
                  clear hT7 HQ6
                  simp only [Act.put, List.setIfInBounds_toArray, List.set_cons_zero, List.set_cons_succ]
                case' b88 =>
                  go_simp
                  have HQ5 : Hid (PS w0 (x4.alloc (.cells #[(.int .i64 (g j))] 3)) P c0 (put T4 11 (.one 3 x4.heap.size (.int .i64 (g j)))) (fun x => G x ∨ x = X)) := HQ4.out.fresh (below_alloc _ _) 11 (heap_alloc_new x4 _) (fun b hb => by rw [show b = x4.heap.size from hb]; exact Nat.le_refl _)
                  refine hKc.out _ _ (fun _ _ => HQ5.out.pr) ?_
                  clear hKc Kc HQ4
                  obtain ⟨T5, hT5⟩ : ∃ T5, T5 = put T4 11 (.one 3 x4.heap.size (.int .i64 (g j))) := ⟨_, rfl⟩
                  rw [← hT5] at HQ5
                  revert HQ5 hT5
                  generalize x4.alloc (.cells #[(.int .i64 (g j))] 3) = x5
                  generalize x4.heap.size = y8
                  intro HQ5 hT5
                  have e7 := eqT hT5 e7 (by decide)
                  have e8 := eqT hT5 e8 (by decide)
                  have e12 := eqT hT5 e12 (by decide)
                  have e10 := eqT hT5 e10 (by decide)
                  have e9 := eqT hT5 e9 (by decide)
                  have e6 := eqT hT5 e6 (by decide)
                  have kf : Hid (∀ i, i < 6 → T5 i = TA i) := fun i hi => eqT hT5 (kf.out i hi) (by omega)
                  have e11 : T5 11 = .one 3 y8 (.int .i64 (g j)) := by rw [hT5]; exact put_same _ _ _
                  clear hT5
                  refine wpAnyM_ready (rs := [17]) (by kernel_rfl) (by simp) ?_
                  refine AllReadyM.cons (by simp; rfl) (fun Kc hKc => ?_) AllReadyM.nil
                  obtain ⟨v', x6, hap, ⟨g7, h7, rfl⟩, hP⟩ := HQ5.out.appR (i := 7) O.elI (by decide) e7 (by have := HQ5.out.fam.at' 10 (by decide); rw [e10] at this; exact this) (by simp; omega) rfl
                  have HAP : Hid ((Builtin.append_ #[39, 39] 39 #[(.slice p7 m7 c7), .slice (some ⟨y7, 0, none⟩) 1 1]).run Tryd.prog x5 = .ok (.slice g7 ((I6 os).length + 1) h7) x6) := hap
                  clear hap
                  generalize (I6 os).length + 1 = l7 at HAP hP
                  refine step_append_is (u1 := (.slice p7 m7 c7)) (u2 := .slice (some ⟨y7, 0, none⟩) 1 1) (by rfl) rfl rfl rfl rfl HAP.out ?_
                  refine hKc.out _ _ (fun _ _ => hP.pr) ?_
                  clear hKc Kc HAP
                  obtain ⟨T6, hT6⟩ : ∃ T6, T6 = put T5 7 (.row 3 (.slice g7 l7 h7) (I6 os ++ [(.int .i64 (j : Int))])) := ⟨_, rfl⟩
                  have HQ6 : Hid (PS w0 x6 P c0 T6 (fun x => G x ∨ x = X)) := by rw [hT6]; exact hP
                  clear hP
                  have e8 := eqT hT6 e8 (by decide)
                  have e12 := eqT hT6 e12 (by decide)
                  have e10 := eqT hT6 e10 (by decide)
                  have e9 := eqT hT6 e9 (by decide)
                  have e6 := eqT hT6 e6 (by decide)
                  have e11 := eqT hT6 e11 (by decide)
                  have kf : Hid (∀ i, i < 6 → T6 i = TA i) := fun i hi => eqT hT6 (kf.out i hi) (by omega)
                  have e7 : T6 7 = .row 3 (.slice g7 l7 h7) (I6 os ++ [(.int .i64 (j : Int))]) := by rw [hT6]; exact put_same _ _ _
                  clear hT6 HQ5
                  simp only [Act.put, List.setIfInBounds_toArray, List.set_cons_zero, List.set_cons_succ]
                  refine wpAnyM_ready (rs := [29]) (by kernel_rfl) (by simp) ?_
                  refine AllReadyM.cons (by simp; rfl) (fun Kc hKc => ?_) AllReadyM.nil
                  obtain ⟨v', x7, hap, ⟨g8, h8, rfl⟩, hP⟩ := HQ6.out.appR (i := 8) O.elI (by decide) e8 (by have := HQ6.out.fam.at' 11 (by decide); rw [e11] at this; exact this) (by simp; omega) rfl
                  have HAP : Hid ((Builtin.append_ #[39, 39] 39 #[(.slice p8 m8 c8), .slice (some ⟨y8, 0, none⟩) 1 1]).run Tryd.prog x6 = .ok (.slice g8 ((I6 rs).length + 1) h8) x7) := hap
                  clear hap
                  generalize (I6 rs).length + 1 = l8 at HAP hP
                  refine step_append_is (u1 := (.slice p8 m8 c8)) (u2 := .slice (some ⟨y8, 0, none⟩) 1 1) (by rfl) rfl rfl rfl rfl HAP.out ?_
                  refine hKc.out _ _ (fun _ _ => hP.pr) ?_
                  clear hKc Kc HAP
                  obtain ⟨T7, hT7⟩ : ∃ T7, T7 = put T6 8 (.row 3 (.slice g8 l8 h8) (I6 rs ++ [(.int .i64 (g j))])) := ⟨_, rfl⟩
                  have HQ7 : Hid (PS w0 x7 P c0 T7 (fun x => G x ∨ x = X)) := by rw [hT7]; exact hP
                  clear hP
                  have e12 := eqT hT7 e12 (by decide)
                  have e10 := eqT hT7 e10 (by decide)
                  have e9 := eqT hT7 e9 (by decide)
                  have e6 := eqT hT7 e6 (by decide)
                  have e11 := eqT hT7 e11 (by decide)
                  have e7 := eqT hT7 e7 (by decide)
                  have kf : Hid (∀ i, i < 6 → T7 i = TA i) := fun i hi => eqT hT7 (kf.out i hi) (by omega)
                  have e8 : T7 8 = .row 3 (.slice g8 l8 h8) (I6 rs ++ [(.int .i64 (g j))]) := by rw [hT7]; exact put_same _ _ _
                  clear hT7 HQ6
                  simp only [Act.put, List.setIfInBounds_toArray, List.set_cons_zero, List.set_cons_succ]
              case' b86 =>
                go_simp
                have HQ4 : Hid (PS w0 (x3.alloc (.cells #[(.int .i64 (g j))] 3)) P c0 (put T3 11 (.one 3 x3.heap.size (.int .i64 (g j)))) G) := HQ3.out.fresh (below_alloc _ _) 11 (heap_alloc_new x3 _) (fun b hb => by rw [show b = x3.heap.size from hb]; exact Nat.le_refl _)
                refine hKc.out _ _ (fun _ _ => HQ4.out.pr) ?_
                clear hKc Kc HQ3
                obtain ⟨T4, hT4⟩ : ∃ T4, T4 = put T3 11 (.one 3 x3.heap.size (.int .i64 (g j))) := ⟨_, rfl⟩
                rw [← hT4] at HQ4
                revert HQ4 hT4
                generalize x3.alloc (.cells #[(.int .i64 (g j))] 3) = x4
                generalize x3.heap.size = y8
                intro HQ4 hT4
                have e6 := eqT hT4 e6 (by decide)
                have e7 := eqT hT4 e7 (by decide)
                have e8 := eqT hT4 e8 (by decide)
                have e12 := eqT hT4 e12 (by decide)
                have e10 := eqT hT4 e10 (by decide)
                have e14 := eqT hT4 e14 (by decide)
                have e9 := eqT hT4 e9 (by decide)
                have kf : Hid (∀ i, i < 6 → T4 i = TA i) := fun i hi => eqT hT4 (kf.out i hi) (by omega)
                have e11 : T4 11 = .one 3 y8 (.int .i64 (g j)) := by rw [hT4]; exact put_same _ _ _
                clear hT4
                refine wpAnyM_ready (rs := [10]) (by kernel_rfl) (by simp) ?_
                refine AllReadyM.cons (by simp; rfl) (fun Kc hKc => ?_) AllReadyM.nil
                obtain ⟨v', x5, hap, ⟨g6, h6, rfl⟩, hP⟩ := HQ4.out.appQ2 elQ e6 e9 e14 (by omega)
                have HAP : Hid ((Builtin.append_ #[38, 38] 38 #[(.slice p6 m6 c6), .slice (some ⟨y6, 0, none⟩) 1 1]).run Tryd.prog x4 = .ok (.slice g6 (bs.length + 1) h6) x5) := hap
                clear hap
                generalize bs.length + 1 = l6 at HAP hP
                refine step_append_is (u1 := (.slice p6 m6 c6)) (u2 := .slice (some ⟨y6, 0, none⟩) 1 1) (by rfl) rfl rfl rfl rfl HAP.out ?_
                refine hKc.out _ _ (fun _ _ => hP.pr) ?_
                clear hKc Kc HAP
                obtain ⟨T5, hT5⟩ : ∃ T5, T5 = put (put T4 14 .no) 6 (.sq (.slice g6 l6 h6) (bs ++ [(X, Q j)])) := ⟨_, rfl⟩
                have HQ5 : Hid (PS w0 x5 P c0 T5 (fun x => G x ∨ x = X)) := by rw [hT5]; exact hP
                clear hP
                have e7 := eqT2 hT5 e7 (by decide) (by decide)
                have e8 := eqT2 hT5 e8 (by decide) (by decide)
                have e12 := eqT2 hT5 e12 (by decide) (by decide)
                have e10 := eqT2 hT5 e10 (by decide) (by decide)
                have e9 := eqT2 hT5 e9 (by decide) (by decide)
                have e11 := eqT2 hT5 e11 (by decide) (by decide)
                have kf : Hid (∀ i, i < 6 → T5 i = TA i) := fun i hi => eqT2 hT5 (kf.out i hi) (by omega) (by omega)
                have e6 : T5 6 = .sq (.slice g6 l6 h6) (bs ++ [(X, Q j)]) := by rw [hT5]; exact put_same _ _ _
                clear hT5 HQ4
                simp only [Act.put, List.setIfInBounds_toArray, List.set_cons_zero, List.set_cons_succ]
                refine wpAnyM_ready (rs := [17]) (by kernel_rfl) (by simp) ?_
                refine AllReadyM.cons (by simp; rfl) (fun Kc hKc => ?_) AllReadyM.nil
                obtain ⟨v', x6, hap, ⟨g7, h7, rfl⟩, hP⟩ := HQ5.out.appR (i := 7) O.elI (by decide) e7 (by have := HQ5.out.fam.at' 10 (by decide); rw [e10] at this; exact this) (by simp; omega) rfl
                have HAP : Hid ((Builtin.append_ #[39, 39] 39 #[(.slice p7 m7 c7), .slice (some ⟨y7, 0, none⟩) 1 1]).run Tryd.prog x5 = .ok (.slice g7 ((I6 os).length + 1) h7) x6) := hap
                clear hap
                generalize (I6 os).length + 1 = l7 at HAP hP
                refine step_append_is (u1 := (.slice p7 m7 c7)) (u2 := .slice (some ⟨y7, 0, none⟩) 1 1) (by rfl) rfl rfl rfl rfl HAP.out ?_
                refine hKc.out _ _ (fun _ _ => hP.pr) ?_
                clear hKc Kc HAP
                obtain ⟨T6, hT6⟩ : ∃ T6, T6 = put T5 7 (.row 3 (.slice g7 l7 h7) (I6 os ++ [(.int .i64 (j : Int))])) := ⟨_, rfl⟩
                have HQ6 : Hid (PS w0 x6 P c0 T6 (fun x => G x ∨ x = X)) := by rw [hT6]; exact hP
                clear hP
                have e8 := eqT hT6 e8 (by decide)
                have e12 := eqT hT6 e12 (by decide)
                have e10 := eqT hT6 e10 (by decide)
                have e9 := eqT hT6 e9 (by decide)
                have e11 := eqT hT6 e11 (by decide)
                have e6 := eqT hT6 e6 (by decide)
                have kf : Hid (∀ i, i < 6 → T6 i = TA i) := fun i hi => eqT hT6 (kf.out i hi) (by omega)
                have e7 : T6 7 = .row 3 (.slice g7 l7 h7) (I6 os ++ [(.int .i64 (j : Int))]) := by rw [hT6]; exact put_same _ _ _
                clear hT6 HQ5
                simp only [Act.put, List.setIfInBounds_toArray, List.set_cons_zero, List.set_cons_succ]
                refine wpAnyM_ready (rs := [29]) (by kernel_rfl) (by simp) ?_
                refine AllReadyM.cons (by simp; rfl) (fun Kc hKc => ?_) AllReadyM.nil
                obtain ⟨v', x7, hap, ⟨g8, h8, rfl⟩, hP⟩ := HQ6.out.appR (i := 8) O.elI (by decide) e8 (by have := HQ6.out.fam.at' 11 (by decide); rw [e11] at this; exact this) (by simp; omega) rfl
                have HAP : Hid ((Builtin.append_ #[39, 39] 39 #[(.slice p8 m8 c8), .slice (some ⟨y8, 0, none⟩) 1 1]).run Tryd.prog x6 = .ok (.slice g8 ((I6 rs).length + 1) h8) x7) := hap
                clear hap
                generalize (I6 rs).length + 1 = l8 at HAP hP
                refine step_append_is (u1 := (.slice p8 m8 c8)) (u2 := .slice (some ⟨y8, 0, none⟩) 1 1) (by rfl) rfl rfl rfl rfl HAP.out ?_
                refine hKc.out _ _ (fun _ _ => hP.pr) ?_
                clear hKc Kc HAP
                obtain ⟨T7, hT7⟩ : ∃ T7, T7 = put T6 8 (.row 3 (.slice g8 l8 h8) (I6 rs ++ [(.int .i64 (g j))])) := ⟨_, rfl⟩
                have HQ7 : Hid (PS w0 x7 P c0 T7 (fun x => G x ∨ x = X)) := by rw [hT7]; exact hP
                clear hP
                have e12 := eqT hT7 e12 (by decide)
                have e10 := eqT hT7 e10 (by decide)
                have e9 := eqT hT7 e9 (by decide)
                have e11 := eqT hT7 e11 (by decide)
                have e6 := eqT hT7 e6 (by decide)
                have e7 := eqT hT7 e7 (by decide)
                have kf : Hid (∀ i, i < 6 → T7 i = TA i) := fun i hi => eqT hT7 (kf.out i hi) (by omega)
                have e8 : T7 8 = .row 3 (.slice g8 l8 h8) (I6 rs ++ [(.int .i64 (g j))]) := by rw [hT7]; exact put_same _ _ _
                clear hT7 HQ6
                simp only [Act.put, List.setIfInBounds_toArray, List.set_cons_zero, List.set_cons_succ]
            case' b84 =>
              go_simp
              have HQ3 : Hid (PS w0 (x2.alloc (.cells #[(.int .i64 (g j))] 3)) P c0 (put T2 11 (.one 3 x2.heap.size (.int .i64 (g j)))) G) := HQ2.out.fresh (below_alloc _ _) 11 (heap_alloc_new x2 _) (fun b hb => by rw [show b = x2.heap.size from hb]; exact Nat.le_refl _)
              refine hKc.out _ _ (fun _ _ => HQ3.out.pr) ?_
              clear hKc Kc HQ2
              obtain ⟨T3, hT3⟩ : ∃ T3, T3 = put T2 11 (.one 3 x2.heap.size (.int .i64 (g j))) := ⟨_, rfl⟩
              rw [← hT3] at HQ3
              revert HQ3 hT3
              generalize x2.alloc (.cells #[(.int .i64 (g j))] 3) = x3
              generalize x2.heap.size = y8
              intro HQ3 hT3
              have e6 := eqT hT3 e6 (by decide)
              have e7 := eqT hT3 e7 (by decide)
              have e8 := eqT hT3 e8 (by decide)
              have e12 := eqT hT3 e12 (by decide)
              have e10 := eqT hT3 e10 (by decide)
              have e14 := eqT hT3 e14 (by decide)
              have kf : Hid (∀ i, i < 6 → T3 i = TA i) := fun i hi => eqT hT3 (kf.out i hi) (by omega)
              have e11 : T3 11 = .one 3 y8 (.int .i64 (g j)) := by rw [hT3]; exact put_same _ _ _
              clear hT3
              refine wpAnyM_ready (rs := [9]) (by kernel_rfl) (by simp) ?_
              refine AllReadyM.cons (by simp; rfl) (fun Kc hKc => ?_) AllReadyM.nil
              go_simp
              have HQ4 : Hid (PS w0 (x3.alloc (.cells #[(seqV X)] 83)) P c0 (put T3 9 (.one 83 x3.heap.size (seqV X))) G) := HQ3.out.fresh (below_alloc _ _) 9 (heap_alloc_new x3 _) (fun b hb => by rw [show b = x3.heap.size from hb]; exact Nat.le_refl _)
              refine hKc.out _ _ (fun _ _ => HQ4.out.pr) ?_
              clear hKc Kc HQ3
              obtain ⟨T4, hT4⟩ : ∃ T4, T4 = put T3 9 (.one 83 x3.heap.size (seqV X)) := ⟨_, rfl⟩
              rw [← hT4] at HQ4
              revert HQ4 hT4
              generalize x3.alloc (.cells #[(seqV X)] 83) = x4
              generalize x3.heap.size = y6
              intro HQ4 hT4
              have e6 := eqT hT4 e6 (by decide)
              have e7 := eqT hT4 e7 (by decide)
              have e8 := eqT hT4 e8 (by decide)
              have e12 := eqT hT4 e12 (by decide)
              have e10 := eqT hT4 e10 (by decide)
              have e14 := eqT hT4 e14 (by decide)
              have e11 := eqT hT4 e11 (by decide)
              have kf : Hid (∀ i, i < 6 → T4 i = TA i) := fun i hi => eqT hT4 (kf.out i hi) (by omega)
              have e9 : T4 9 = .one 83 y6 (seqV X) := by rw [hT4]; exact put_same _ _ _
              clear hT4
              refine wpAnyM_ready (rs := [10]) (by kernel_rfl) (by simp) ?_
              refine AllReadyM.cons (by simp; rfl) (fun Kc hKc => ?_) AllReadyM.nil
              obtain ⟨v', x5, hap, ⟨g6, h6, rfl⟩, hP⟩ := HQ4.out.appQ2 elQ e6 e9 e14 (by omega)
              have HAP : Hid ((Builtin.append_ #[38, 38] 38 #[(.slice p6 m6 c6), .slice (some ⟨y6, 0, none⟩) 1 1]).run Tryd.prog x4 = .ok (.slice g6 (bs.length + 1) h6) x5) := hap
              clear hap
              generalize bs.length + 1 = l6 at HAP hP
              refine step_append_is (u1 := (.slice p6 m6 c6)) (u2 := .slice (some ⟨y6, 0, none⟩) 1 1) (by rfl) rfl rfl rfl rfl HAP.out ?_
              refine hKc.out _ _ (fun _ _ => hP.pr) ?_
              clear hKc Kc HAP
              obtain ⟨T5, hT5⟩ : ∃ T5, T5 = put (put T4 14 .no) 6 (.sq (.slice g6 l6 h6) (bs ++ [(X, Q j)])) := ⟨_, rfl⟩
              have HQ5 : Hid (PS w0 x5 P c0 T5 (fun x => G x ∨ x = X)) := by rw [hT5]; exact hP
              clear hP
              have e7 := eqT2 hT5 e7 (by decide) (by decide)
              have e8 := eqT2 hT5 e8 (by decide) (by decide)
              have e12 := eqT2 hT5 e12 (by decide) (by decide)
              have e10 := eqT2 hT5 e10 (by decide) (by decide)
              have e11 := eqT2 hT5 e11 (by decide) (by decide)
              have e9 := eqT2 hT5 e9 (by decide) (by decide)
              have kf : Hid (∀ i, i < 6 → T5 i = TA i) := fun i hi => eqT2 hT5 (kf.out i hi) (by omega) (by omega)
              have e6 : T5 6 = .sq (.slice g6 l6 h6) (bs ++ [(X, Q j)]) := by rw [hT5]; exact put_same _ _ _
              clear hT5 HQ4
              simp only [Act.put, List.setIfInBounds_toArray, List.set_cons_zero, List.set_cons_succ]
              refine wpAnyM_ready (rs := [17]) (by kernel_rfl) (by simp) ?_
              refine AllReadyM.cons (by simp; rfl) (fun Kc hKc => ?_) AllReadyM.nil
              obtain ⟨v', x6, hap, ⟨g7, h7, rfl⟩, hP⟩ := HQ5.out.appR (i := 7) O.elI (by decide) e7 (by have := HQ5.out.fam.at' 10 (by decide); rw [e10] at this; exact this) (by simp; omega) rfl
              have HAP : Hid ((Builtin.append_ #[39, 39] 39 #[(.slice p7 m7 c7), .slice (some ⟨y7, 0, none⟩) 1 1]).run Tryd.prog x5 = .ok (.slice g7 ((I6 os).length + 1) h7) x6) := hap
              clear hap
              generalize (I6 os).length + 1 = l7 at HAP hP
              refine step_append_is (u1 := (.slice p7 m7 c7)) (u2 := .slice (some ⟨y7, 0, none⟩) 1 1) (by rfl) rfl rfl rfl rfl HAP.out ?_
              refine hKc.out _ _ (fun _ _ => hP.pr) ?_
              clear hKc Kc HAP
              obtain ⟨T6, hT6⟩ : ∃ T6, T6 = put T5 7 (.row 3 (.slice g7 l7 h7) (I6 os ++ [(.int .i64 (j : Int))])) := ⟨_, rfl⟩
              have HQ6 : Hid (PS w0 x6 P c0 T6 (fun x => G x ∨ x = X)) := by rw [hT6]; exact hP
              clear hP
              have e8 := eqT hT6 e8 (by decide)
              have e12 := eqT hT6 e12 (by decide)
              have e10 := eqT hT6 e10 (by decide)
              have e11 := eqT hT6 e11 (by decide)
              have e9 := eqT hT6 e9 (by decide)
              have e6 := eqT hT6 e6 (by decide)
              have kf : Hid (∀ i, i < 6 → T6 i = TA i) := fun i hi => eqT hT6 (kf.out i hi) (by omega)
              have e7 : T6 7 = .row 3 (.slice g7 l7 h7) (I6 os ++ [(.int .i64 (j : Int))]) := by rw [hT6]; exact put_same _ _ _
              clear hT6 HQ5
              simp only [Act.put, List.setIfInBounds_toArray, List.set_cons_zero, List.set_cons_succ]
              refine wpAnyM_ready (rs := [29]) (by kernel_rfl) (by simp) ?_
              refine AllReadyM.cons (by simp; rfl) (fun Kc hKc => ?_) AllReadyM.nil
              obtain ⟨v', x7, hap, ⟨g8, h8, rfl⟩, hP⟩ := HQ6.out.appR (i := 8) O.elI (by decide) e8 (by have := HQ6.out.fam.at' 11 (by decide); rw [e11] at this; exact this) (by simp; omega) rfl
              have HAP : Hid ((Builtin.append_ #[39, 39] 39 #[(.slice p8 m8 c8), .slice (some ⟨y8, 0, none⟩) 1 1]).run Tryd.prog x6 = .ok (.slice g8 ((I6 rs).length + 1) h8) x7) := hap
              clear hap
              generalize (I6 rs).length + 1 = l8 at HAP hP
              refine step_append_is (u1 := (.slice p8 m8 c8)) (u2 := .slice (some ⟨y8, 0, none⟩) 1 1) (by rfl) rfl rfl rfl rfl HAP.out ?_
              refine hKc.out _ _ (fun _ _ => hP.pr) ?_
              clear hKc Kc HAP
              obtain ⟨T7, hT7⟩ : ∃ T7, T7 = put T6 8 (.row 3 (.slice g8 l8 h8) (I6 rs ++ [(.int .i64 (g j))])) := ⟨_, rfl⟩
              have HQ7 : Hid (PS w0 x7 P c0 T7 (fun x => G x ∨ x = X)) := by rw [hT7]; exact hP
              clear hP
              have e12 := eqT hT7 e12 (by decide)
              have e10 := eqT hT7 e10 (by decide)
              have e11 := eqT hT7 e11 (by decide)
              have e9 := eqT hT7 e9 (by decide)
              have e6 := eqT hT7 e6 (by decide)
              have e7 := eqT hT7 e7 (by decide)
              have kf : Hid (∀ i, i < 6 → T7 i = TA i) := fun i hi => eqT hT7 (kf.out i hi) (by omega)
              have e8 : T7 8 = .row 3 (.slice g8 l8 h8) (I6 rs ++ [(.int .i64 (g j))]) := by rw [hT7]; exact put_same _ _ _
              clear hT7 HQ6
              simp only [Act.put, List.setIfInBounds_toArray, List.set_cons_zero, List.set_cons_succ]
          case' b82 =>
            go_simp
            have HQ2 : Hid (PS w0 (x1.alloc (.cells #[(.int .i64 (g j))] 3)) P c0 (put T1 11 (.one 3 x1.heap.size (.int .i64 (g j)))) G) := HQ1.out.fresh (below_alloc _ _) 11 (heap_alloc_new x1 _) (fun b hb => by rw [show b = x1.heap.size from hb]; exact Nat.le_refl _)
            refine hKc.out _ _ (fun _ _ => HQ2.out.pr) ?_
            clear hKc Kc HQ1
            obtain ⟨T2, hT2⟩ : ∃ T2, T2 = put T1 11 (.one 3 x1.heap.size (.int .i64 (g j))) := ⟨_, rfl⟩
            rw [← hT2] at HQ2
            revert HQ2 hT2
            generalize x1.alloc (.cells #[(.int .i64 (g j))] 3) = x2
            generalize x1.heap.size = y8
            intro HQ2 hT2
            have e6 := eqT hT2 e6 (by decide)
            have e7 := eqT hT2 e7 (by decide)
            have e8 := eqT hT2 e8 (by decide)
            have e12 := eqT hT2 e12 (by decide)
            have e10 := eqT hT2 e10 (by decide)
            have kf : Hid (∀ i, i < 6 → T2 i = TA i) := fun i hi => eqT hT2 (kf.out i hi) (by omega)
            have e11 : T2 11 = .one 3 y8 (.int .i64 (g j)) := by rw [hT2]; exact put_same _ _ _
            clear hT2
            refine wpAnyM_ready (rs := [8]) (by kernel_rfl) (by simp) ?_
            refine AllReadyM.cons (by simp; rfl) (fun Kc hKc => ?_) AllReadyM.nil
            go_simp
            refine (all_is (some ⟨Q j, 0, none⟩) x2).mono ?_
            rintro e _ ⟨rfl, rfl⟩
            have HQ3 : Hid (PS w0 (x2.alloc (.cells #[.pointer (some ⟨Q j, 0, none⟩)] 24)) P c0 (put T2 14 (.one 24 x2.heap.size (qp (Q j)))) G) := HQ2.out.fresh (below_alloc _ _) 14 (heap_alloc_new x2 _) (fun b hb => by rw [show b = x2.heap.size from hb]; exact Nat.le_refl _)
            refine hKc.out _ _ (fun _ _ => HQ3.out.pr) ?_
            clear hKc Kc HQ2
            obtain ⟨T3, hT3⟩ : ∃ T3, T3 = put T2 14 (.one 24 x2.heap.size (qp (Q j))) := ⟨_, rfl⟩
            rw [← hT3] at HQ3
            revert HQ3 hT3
            generalize x2.alloc (.cells #[.pointer (some ⟨Q j, 0, none⟩)] 24) = x3
            generalize x2.heap.size = X
            intro HQ3 hT3
            have e6 := eqT hT3 e6 (by decide)
            have e7 := eqT hT3 e7 (by decide)
            have e8 := eqT hT3 e8 (by decide)
            have e12 := eqT hT3 e12 (by decide)
            have e10 := eqT hT3 e10 (by decide)
            have e11 := eqT hT3 e11 (by decide)
            have kf : Hid (∀ i, i < 6 → T3 i = TA i) := fun i hi => eqT hT3 (kf.out i hi) (by omega)
            have e14 : T3 14 = .one 24 X (qp (Q j)) := by rw [hT3]; exact put_same _ _ _
            clear hT3
            refine wpAnyM_ready (rs := [9]) (by kernel_rfl) (by simp) ?_
            refine AllReadyM.cons (by simp; rfl) (fun Kc hKc => ?_) AllReadyM.nil
            go_simp
            have HQ4 : Hid (PS w0 (x3.alloc (.cells #[(seqV X)] 83)) P c0 (put T3 9 (.one 83 x3.heap.size (seqV X))) G) := HQ3.out.fresh (below_alloc _ _) 9 (heap_alloc_new x3 _) (fun b hb => by rw [show b = x3.heap.size from hb]; exact Nat.le_refl _)
            refine hKc.out _ _ (fun _ _ => HQ4.out.pr) ?_
            clear hKc Kc HQ3
            obtain ⟨T4, hT4⟩ : ∃ T4, T4 = put T3 9 (.one 83 x3.heap.size (seqV X)) := ⟨_, rfl⟩
            rw [← hT4] at HQ4
            revert HQ4 hT4
            generalize x3.alloc (.cells #[(seqV X)] 83) = x4
            generalize x3.heap.size = y6
            intro HQ4 hT4
            have e6 := eqT hT4 e6 (by decide)
            have e7 := eqT hT4 e7 (by decide)
            have e8 := eqT hT4 e8 (by decide)
            have e12 := eqT hT4 e12 (by decide)
            have e10 := eqT hT4 e10 (by decide)
            have e11 := eqT hT4 e11 (by decide)
            have e14 := eqT hT4 e14 (by decide)
            have kf : Hid (∀ i, i < 6 → T4 i = TA i) := fun i hi => eqT hT4 (kf.out i hi) (by omega)
            have e9 : T4 9 = .one 83 y6 (seqV X) := by rw [hT4]; exact put_same _ _ _
            clear hT4
            refine wpAnyM_ready (rs := [10]) (by kernel_rfl) (by simp) ?_
            refine AllReadyM.cons (by simp; rfl) (fun Kc hKc => ?_) AllReadyM.nil
            obtain ⟨v', x5, hap, ⟨g6, h6, rfl⟩, hP⟩ := HQ4.out.appQ2 elQ e6 e9 e14 (by omega)
            have HAP : Hid ((Builtin.append_ #[38, 38] 38 #[(.slice p6 m6 c6), .slice (some ⟨y6, 0, none⟩) 1 1]).run Tryd.prog x4 = .ok (.slice g6 (bs.length + 1) h6) x5) := hap
            clear hap
            generalize bs.length + 1 = l6 at HAP hP
            refine step_append_is (u1 := (.slice p6 m6 c6)) (u2 := .slice (some ⟨y6, 0, none⟩) 1 1) (by rfl) rfl rfl rfl rfl HAP.out ?_
            refine hKc.out _ _ (fun _ _ => hP.pr) ?_
            clear hKc Kc HAP
            obtain ⟨T5, hT5⟩ : ∃ T5, T5 = put (put T4 14 .no) 6 (.sq (.slice g6 l6 h6) (bs ++ [(X, Q j)])) := ⟨_, rfl⟩
            have HQ5 : Hid (PS w0 x5 P c0 T5 (fun x => G x ∨ x = X)) := by rw [hT5]; exact hP
            clear hP
            have e7 := eqT2 hT5 e7 (by decide) (by decide)
            have e8 := eqT2 hT5 e8 (by decide) (by decide)
            have e12 := eqT2 hT5 e12 (by decide) (by decide)
            have e10 := eqT2 hT5 e10 (by decide) (by decide)
            have e11 := eqT2 hT5 e11 (by decide) (by decide)
            have e9 := eqT2 hT5 e9 (by decide) (by decide)
            have kf : Hid (∀ i, i < 6 → T5 i = TA i) := fun i hi => eqT2 hT5 (kf.out i hi) (by omega) (by omega)
            have e6 : T5 6 = .sq (.slice g6 l6 h6) (bs ++ [(X, Q j)]) := by rw [hT5]; exact put_same _ _ _
            clear hT5 HQ4
            simp only [Act.put, List.setIfInBounds_toArray, List.set_cons_zero, List.set_cons_succ]
            refine wpAnyM_ready (rs := [17]) (by kernel_rfl) (by simp) ?_
            refine AllReadyM.cons (by simp; rfl) (fun Kc hKc => ?_) AllReadyM.nil
            obtain ⟨v', x6, hap, ⟨g7, h7, rfl⟩, hP⟩ := HQ5.out.appR (i := 7) O.elI (by decide) e7 (by have := HQ5.out.fam.at' 10 (by decide); rw [e10] at this; exact this) (by simp; omega) rfl
            have HAP : Hid ((Builtin.append_ #[39, 39] 39 #[(.slice p7 m7 c7), .slice (some ⟨y7, 0, none⟩) 1 1]).run Tryd.prog x5 = .ok (.slice g7 ((I6 os).length + 1) h7) x6) := hap
            clear hap
            generalize (I6 os).length + 1 = l7 at HAP hP
            refine step_append_is (u1 := (.slice p7 m7 c7)) (u2 := .slice (some ⟨y7, 0, none⟩) 1 1) (by rfl) rfl rfl rfl rfl HAP.out ?_
            refine hKc.out _ _ (fun _ _ => hP.pr) ?_
            clear hKc Kc HAP
            obtain ⟨T6, hT6⟩ : ∃ T6, T6 = put T5 7 (.row 3 (.slice g7 l7 h7) (I6 os ++ [(.int .i64 (j : Int))])) := ⟨_, rfl⟩
            have HQ6 : Hid (PS w0 x6 P c0 T6 (fun x => G x ∨ x = X)) := by rw [hT6]; exact hP
            clear hP
            have e8 := eqT hT6 e8 (by decide)
            have e12 := eqT hT6 e12 (by decide)
            have e10 := eqT hT6 e10 (by decide)
            have e11 := eqT hT6 e11 (by decide)
            have e9 := eqT hT6 e9 (by decide)
            have e6 := eqT hT6 e6 (by decide)
            have kf : Hid (∀ i, i < 6 → T6 i = TA i) := fun i hi => eqT hT6 (kf.out i hi) (by omega)
            have e7 : T6 7 = .row 3 (.slice g7 l7 h7) (I6 os ++ [(.int .i64 (j : Int))]) := by rw [hT6]; exact put_same _ _ _
            clear hT6 HQ5
            simp only [Act.put, List.setIfInBounds_toArray, List.set_cons_zero, List.set_cons_succ]
            refine wpAnyM_ready (rs := [29]) (by kernel_rfl) (by simp) ?_
            refine AllReadyM.cons (by simp; rfl) (fun Kc hKc => ?_) AllReadyM.nil
            obtain ⟨v', x7, hap, ⟨g8, h8, rfl⟩, hP⟩ := HQ6.out.appR (i := 8) O.elI (by decide) e8 (by have := HQ6.out.fam.at' 11 (by decide); rw [e11] at this; exact this) (by simp; omega) rfl
            have HAP : Hid ((Builtin.append_ #[39, 39] 39 #[(.slice p8 m8 c8), .slice (some ⟨y8, 0, none⟩) 1 1]).run Tryd.prog x6 = .ok (.slice g8 ((I6 rs).length + 1) h8) x7) := hap
            clear hap
            generalize (I6 rs).length + 1 = l8 at HAP hP
            refine step_append_is (u1 := (.slice p8 m8 c8)) (u2 := .slice (some ⟨y8, 0, none⟩) 1 1) (by rfl) rfl rfl rfl rfl HAP.out ?_
            refine hKc.out _ _ (fun _ _ => hP.pr) ?_
            clear hKc Kc HAP
            obtain ⟨T7, hT7⟩ : ∃ T7, T7 = put T6 8 (.row 3 (.slice g8 l8 h8) (I6 rs ++ [(.int .i64 (g j))])) := ⟨_, rfl⟩
            have HQ7 : Hid (PS w0 x7 P c0 T7 (fun x => G x ∨ x = X)) := by rw [hT7]; exact hP
            clear hP
            have e12 := eqT hT7 e12 (by decide)
            have e10 := eqT hT7 e10 (by decide)
            have e11 := eqT hT7 e11 (by decide)
            have e9 := eqT hT7 e9 (by decide)
            have e6 := eqT hT7 e6 (by decide)
            have e7 := eqT hT7 e7 (by decide)
            have kf : Hid (∀ i, i < 6 → T7 i = TA i) := fun i hi => eqT hT7 (kf.out i hi) (by omega)
            have e8 : T7 8 = .row 3 (.slice g8 l8 h8) (I6 rs ++ [(.int .i64 (g j))]) := by rw [hT7]; exact put_same _ _ _
            clear hT7 HQ6
            simp only [Act.put, List.setIfInBounds_toArray, List.set_cons_zero, List.set_cons_succ]
          all_goals as_aux_lemma =>
            refine wpAnyM_take0 (i := 30) (v := .pointer (some ⟨P, 0, none⟩)) (by simp; rfl) (by kernel_rfl) (by kernel_rfl) (by kernel_rfl) (fun _ _ _ h => h) (Or.inl ⟨by rfl, fun w hSw => ?_⟩) ?_
            · clear hSw; go_simp <;> with_reducible rfl
            simp only [Act.put, List.setIfInBounds_toArray, List.set_cons_zero, List.set_cons_succ]
            refine wpAnyM_take0 (i := 31) (v := .pointer (some ⟨P, 6, none⟩)) (by simp; rfl) (by kernel_rfl) (by kernel_rfl) (by kernel_rfl) (fun _ _ _ h => h) (Or.inl ⟨by rfl, fun w hSw => ?_⟩) ?_
            · clear hSw; go_simp <;> with_reducible rfl
            simp only [Act.put, List.setIfInBounds_toArray, List.set_cons_zero, List.set_cons_succ]
            refine wpAnyM_ready (rs := [32]) (by kernel_rfl) (by simp) ?_
            refine AllReadyM.cons (by simp; rfl) (fun Kc hKc => ?_) AllReadyM.nil
            have hcv : x7.cell? ⟨P, 6, none⟩ = some (.slice p6 m6 c6) := HQ7.out.cell (j := 6) (by exact HV.out.1)
            have hfv := HQ7.out.free 6
            go_simp
            have HQ8 : Hid (PS w0 (x7.setCell ⟨P, 6, none⟩ (.slice g6 l6 h6)) P (c0.setIfInBounds 6 (.slice g6 l6 h6)) T7 (fun x => G x ∨ x = X)) := HQ7.out.store 6 (.slice g6 l6 h6)
            refine hKc.out _ _ (fun h => absurd h (by decide)) ?_
            clear hKc Kc hcv hfv HQ7
            generalize x7.setCell ⟨P, 6, none⟩ (.slice g6 l6 h6) = x8 at *

            refine wpAnyM_take0 (i := 33) (v := .pointer (some ⟨P, 0, none⟩)) (by simp; rfl) (by kernel_rfl) (by kernel_rfl) (by kernel_rfl) (fun _ _ _ h => h) (Or.inl ⟨by rfl, fun w hSw => ?_⟩) ?_
            · clear hSw; go_simp <;> with_reducible rfl
            simp only [Act.put, List.setIfInBounds_toArray, List.set_cons_zero, List.set_cons_succ]
            refine wpAnyM_take0 (i := 34) (v := .pointer (some ⟨P, 7, none⟩)) (by simp; rfl) (by kernel_rfl) (by kernel_rfl) (by kernel_rfl) (fun _ _ _ h => h) (Or.inl ⟨by rfl, fun w hSw => ?_⟩) ?_
            · clear hSw; go_simp <;> with_reducible rfl
            simp only [Act.put, List.setIfInBounds_toArray, List.set_cons_zero, List.set_cons_succ]
            refine wpAnyM_ready (rs := [35]) (by kernel_rfl) (by simp) ?_
            refine AllReadyM.cons (by simp; rfl) (fun Kc hKc => ?_) AllReadyM.nil
            have hcv : x8.cell? ⟨P, 7, none⟩ = some (.slice p7 m7 c7) := HQ8.out.cell (j := 7) (by rw [Array.getElem?_setIfInBounds_ne (by decide)]; exact HV.out.2.1)
            have hfv := HQ8.out.free 7
            go_simp
            have HQ9 : Hid (PS w0 (x8.setCell ⟨P, 7, none⟩ (.slice g7 l7 h7)) P ((c0.setIfInBounds 6 (.slice g6 l6 h6)).setIfInBounds 7 (.slice g7 l7 h7)) T7 (fun x => G x ∨ x = X)) := HQ8.out.store 7 (.slice g7 l7 h7)
            refine hKc.out _ _ (fun h => absurd h (by decide)) ?_
            clear hKc Kc hcv hfv HQ8
            generalize x8.setCell ⟨P, 7, none⟩ (.slice g7 l7 h7) = x9 at *

            refine wpAnyM_take0 (i := 36) (v := .pointer (some ⟨P, 0, none⟩)) (by simp; rfl) (by kernel_rfl) (by kernel_rfl) (by kernel_rfl) (fun _ _ _ h => h) (Or.inl ⟨by rfl, fun w hSw => ?_⟩) ?_
            · clear hSw; go_simp <;> with_reducible rfl
            simp only [Act.put, List.setIfInBounds_toArray, List.set_cons_zero, List.set_cons_succ]
            refine wpAnyM_take0 (i := 37) (v := .pointer (some ⟨P, 10, none⟩)) (by simp; rfl) (by kernel_rfl) (by kernel_rfl) (by kernel_rfl) (fun _ _ _ h => h) (Or.inl ⟨by rfl, fun w hSw => ?_⟩) ?_
            · clear hSw; go_simp <;> with_reducible rfl
            simp only [Act.put, List.setIfInBounds_toArray, List.set_cons_zero, List.set_cons_succ]
            refine wpAnyM_ready (rs := [38]) (by kernel_rfl) (by simp) ?_
            refine AllReadyM.cons (by simp; rfl) (fun Kc hKc => ?_) AllReadyM.nil
            have hcv : x9.cell? ⟨P, 10, none⟩ = some (.slice p8 m8 c8) := HQ9.out.cell (j := 10) (by rw [Array.getElem?_setIfInBounds_ne (by decide), Array.getElem?_setIfInBounds_ne (by decide)]; exact HV.out.2.2)
            have hfv := HQ9.out.free 10
            go_simp
            have HQ10 : Hid (PS w0 (x9.setCell ⟨P, 10, none⟩ (.slice g8 l8 h8)) P (((c0.setIfInBounds 6 (.slice g6 l6 h6)).setIfInBounds 7 (.slice g7 l7 h7)).setIfInBounds 10 (.slice g8 l8 h8)) T7 (fun x => G x ∨ x = X)) := HQ9.out.store 10 (.slice g8 l8 h8)
            refine hKc.out _ _ (fun h => absurd h (by decide)) ?_
            clear hKc Kc hcv hfv HQ9
            generalize x9.setCell ⟨P, 10, none⟩ (.slice g8 l8 h8) = x10 at *

            refine wpAnyM_done (by kernel_rfl) (NoPanic.normal ?_) _
            refine ⟨rfl, asked_end (T := T) (TA := TA) (T' := T7) (os := os) (rs := rs) (by rw [← HC0.out]; exact HQ10.out) HSH.out hj kf.out HKA.out HE4.out HE5.out HLS.out HCC.out e6 e7 e8 hos hrs hbs HKS.out e12 rfl rfl rfl rfl⟩
        · as_aux_lemma =>
          go_simp
          have HQ1 : Hid (PS w0 (xD.alloc (.cells #[(.int .i64 (g j))] 3)) P c0 (put TZ 11 (.one 3 xD.heap.size (.int .i64 (g j)))) G) := HQ0.out.fresh (below_alloc _ _) 11 (heap_alloc_new xD _) (fun b hb => by rw [show b = xD.heap.size from hb]; exact Nat.le_refl _)
          refine hKc.out _ _ (fun _ _ => HQ1.out.pr) ?_
          clear hKc Kc HQ0
          obtain ⟨T1, hT1⟩ : ∃ T1, T1 = put TZ 11 (.one 3 xD.heap.size (.int .i64 (g j))) := ⟨_, rfl⟩
          rw [← hT1] at HQ1
          revert HQ1 hT1
          generalize xD.alloc (.cells #[(.int .i64 (g j))] 3) = x1
          generalize xD.heap.size = y8
          intro HQ1 hT1
          have e6 := eqT hT1 e6 (by decide)
          have e7 := eqT hT1 e7 (by decide)
          have e8 := eqT hT1 e8 (by decide)
          have e12 := eqT hT1 e12 (by decide)
          have kf : Hid (∀ i, i < 6 → T1 i = TA i) := fun i hi => eqT hT1 (kf.out i hi) (by omega)
          have e11 : T1 11 = .one 3 y8 (.int .i64 (g j)) := by rw [hT1]; exact put_same _ _ _
          clear hT1
          refine wpAnyM_ready (rs := [8, 16]) (by kernel_rfl) (by simp) ?_
          refine AllReadyM.cons (by simp; rfl) (fun Kc hKc => ?b89) (AllReadyM.cons (by simp; rfl) (fun Kc hKc => ?b90) AllReadyM.nil)
          case' b89 =>
            go_simp
            refine (all_is (some ⟨Q j, 0, none⟩) x1).mono ?_
            rintro e _ ⟨rfl, rfl⟩
            have HQ2 : Hid (PS w0 (x1.alloc (.cells #[.pointer (some ⟨Q j, 0, none⟩)] 24)) P c0 (put T1 14 (.one 24 x1.heap.size (qp (Q j)))) G) := HQ1.out.fresh (below_alloc _ _) 14 (heap_alloc_new x1 _) (fun b hb => by rw [show b = x1.heap.size from hb]; exact Nat.le_refl _)
            refine hKc.out _ _ (fun _ _ => HQ2.out.pr) ?_
            clear hKc Kc HQ1
            obtain ⟨T2, hT2⟩ : ∃ T2, T2 = put T1 14 (.one 24 x1.heap.size (qp (Q j))) := ⟨_, rfl⟩
            rw [← hT2] at HQ2
            revert HQ2 hT2
            generalize x1.alloc (.cells #[.pointer (some ⟨Q j, 0, none⟩)] 24) = x2
            generalize x1.heap.size = X
            intro HQ2 hT2
            have e6 := eqT hT2 e6 (by decide)
            have e7 := eqT hT2 e7 (by decide)
            have e8 := eqT hT2 e8 (by decide)
            have e12 := eqT hT2 e12 (by decide)
            have e11 := eqT hT2 e11 (by decide)
            have kf : Hid (∀ i, i < 6 → T2 i = TA i) := fun i hi => eqT hT2 (kf.out i hi) (by omega)
            have e14 : T2 14 = .one 24 X (qp (Q j)) := by rw [hT2]; exact put_same _ _ _
            clear hT2
            refine wpAnyM_ready (rs := [9, 16]) (by kernel_rfl) (by simp) ?_
            refine AllReadyM.cons (by simp; rfl) (fun Kc hKc => ?b91) (AllReadyM.cons (by simp; rfl) (fun Kc hKc => ?b92) AllReadyM.nil)
            case' b91 =>
              go_simp
              have HQ3 : Hid (PS w0 (x2.alloc (.cells #[(seqV X)] 83)) P c0 (put T2 9 (.one 83 x2.heap.size (seqV X))) G) := HQ2.out.fresh (below_alloc _ _) 9 (heap_alloc_new x2 _) (fun b hb => by rw [show b = x2.heap.size from hb]; exact Nat.le_refl _)
              refine hKc.out _ _ (fun _ _ => HQ3.out.pr) ?_
              clear hKc Kc HQ2
              obtain ⟨T3, hT3⟩ : ∃ T3, T3 = put T2 9 (.one 83 x2.heap.size (seqV X)) := ⟨_, rfl⟩
              rw [← hT3] at HQ3
              revert HQ3 hT3
              generalize x2.alloc (.cells #[(seqV X)] 83) = x3
              generalize x2.heap.size = y6
              intro HQ3 hT3
              have e6 := eqT hT3 e6 (by decide)
              have e7 := eqT hT3 e7 (by decide)
              have e8 := eqT hT3 e8 (by decide)
              have e12 := eqT hT3 e12 (by decide)
              have e11 := eqT hT3 e11 (by decide)
              have e14 := eqT hT3 e14 (by decide)
              have kf : Hid (∀ i, i < 6 → T3 i = TA i) := fun i hi => eqT hT3 (kf.out i hi) (by omega)
              have e9 : T3 9 = .one 83 y6 (seqV X) := by rw [hT3]; exact put_same _ _ _
              clear hT3
              refine wpAnyM_ready (rs := [10, 16]) (by kernel_rfl) (by simp) ?_
              refine AllReadyM.cons (by simp; rfl) (fun Kc hKc => ?b93) (AllReadyM.cons (by simp; rfl) (fun Kc hKc => ?b94) AllReadyM.nil)
              case' b93 =>
                obtain ⟨v', x4, hap, ⟨g6, h6, rfl⟩, hP⟩ := HQ3.out.appQ2 elQ e6 e9 e14 (by omega)
                have HAP : Hid ((Builtin.append_ #[38, 38] 38 #[(.slice p6 m6 c6), .slice (some ⟨y6, 0, none⟩) 1 1]).run Tryd.prog x3 = .ok (.slice g6 (bs.length + 1) h6) x4) := hap
                clear hap
                generalize bs.length + 1 = l6 at HAP hP
                refine step_append_is (u1 := (.slice p6 m6 c6)) (u2 := .slice (some ⟨y6, 0, none⟩) 1 1) (by rfl) rfl rfl rfl rfl HAP.out ?_
                refine hKc.out _ _ (fun _ _ => hP.pr) ?_
                clear hKc Kc HAP
                obtain ⟨T4, hT4⟩ : ∃ T4, T4 = put (put T3 14 .no) 6 (.sq (.slice g6 l6 h6) (bs ++ [(X, Q j)])) := ⟨_, rfl⟩
                have HQ4 : Hid (PS w0 x4 P c0 T4 (fun x => G x ∨ x = X)) := by rw [hT4]; exact hP
                clear hP
                have e7 := eqT2 hT4 e7 (by decide) (by decide)
                have e8 := eqT2 hT4 e8 (by decide) (by decide)
                have e12 := eqT2 hT4 e12 (by decide) (by decide)
                have e11 := eqT2 hT4 e11 (by decide) (by decide)
                have e9 := eqT2 hT4 e9 (by decide) (by decide)
                have kf : Hid (∀ i, i < 6 → T4 i = TA i) := fun i hi => eqT2 hT4 (kf.out i hi) (by omega) (by omega)
                have e6 : T4 6 = .sq (.slice g6 l6 h6) (bs ++ [(X, Q j)]) := by rw [hT4]; exact put_same _ _ _
                clear hT4 HQ3
                simp only [Act.put, List.setIfInBounds_toArray, List.set_cons_zero, List.set_cons_succ]
                refine wpAnyM_ready (rs := [16]) (by kernel_rfl) (by simp) ?_
                refine AllReadyM.cons (by simp; rfl) (fun Kc hKc => ?_) AllReadyM.nil
                go_simp
                have HQ5 : Hid (PS w0 (x4.alloc (.cells #[(.int .i64 (j : Int))] 3)) P c0 (put T4 10 (.one 3 x4.heap.size (.int .i64 (j : Int)))) (fun x => G x ∨ x = X)) := HQ4.out.fresh (below_alloc _ _) 10 (heap_alloc_new x4 _) (fun b hb => by rw [show b = x4.heap.size from hb]; exact Nat.le_refl _)
                refine hKc.out _ _ (fun _ _ => HQ5.out.pr) ?_
                clear hKc Kc HQ4
                obtain ⟨T5, hT5⟩ : ∃ T5, T5 = put T4 10 (.one 3 x4.heap.size (.int .i64 (j : Int))) := ⟨_, rfl⟩
                rw [← hT5] at HQ5
                revert HQ5 hT5
                generalize x4.alloc (.cells #[(.int .i64 (j : Int))] 3) = x5
                generalize x4.heap.size = y7
                intro HQ5 hT5
                have e7 := eqT hT5 e7 (by decide)
                have e8 := eqT hT5 e8 (by decide)
                have e12 := eqT hT5 e12 (by decide)
                have e11 := eqT hT5 e11 (by decide)
                have e9 := eqT hT5 e9 (by decide)
                have e6 := eqT hT5 e6 (by decide)
                have kf : Hid (∀ i, i < 6 → T5 i = TA i) := fun i hi => eqT hT5 (kf.out i hi) (by omega)
                have e10 : T5 10 = .one 3 y7 (.int .i64 (j : Int)) := by rw [hT5]; exact put_same _ _ _
                clear hT5
                refine wpAnyM_ready (rs := [17]) (by kernel_rfl) (by simp) ?_
                refine AllReadyM.cons (by simp; rfl) (fun Kc hKc => ?_) AllReadyM.nil
                obtain ⟨v', x6, hap, ⟨g7, h7, rfl⟩, hP⟩ := HQ5.out.appR (i := 7) O.elI (by decide) e7 (by have := HQ5.out.fam.at' 10 (by decide); rw [e10] at this; exact this) (by simp; omega) rfl
                have HAP : Hid ((Builtin.append_ #[39, 39] 39 #[(.slice p7 m7 c7), .slice (some ⟨y7, 0, none⟩) 1 1]).run Tryd.prog x5 = .ok (.slice g7 ((I6 os).length + 1) h7) x6) := hap
                clear hap
                generalize (I6 os).length + 1 = l7 at HAP hP
                refine step_append_is (u1 := (.slice p7 m7 c7)) (u2 := .slice (some ⟨y7, 0, none⟩) 1 1) (by rfl) rfl rfl rfl rfl HAP.out ?_
                refine hKc.out _ _ (fun _ _ => hP.pr) ?_
                clear hKc Kc HAP
                obtain ⟨T6, hT6⟩ : ∃ T6, T6 = put T5 7 (.row 3 (.slice g7 l7 h7) (I6 os ++ [(.int .i64 (j : Int))])) := ⟨_, rfl⟩
                have HQ6 : Hid (PS w0 x6 P c0 T6 (fun x => G x ∨ x = X)) := by rw [hT6]; exact hP
                clear hP
                have e8 := eqT hT6 e8 (by decide)
                have e12 := eqT hT6 e12 (by decide)
                have e11 := eqT hT6 e11 (by decide)
                have e9 := eqT hT6 e9 (by decide)
                have e6 := eqT hT6 e6 (by decide)
                have e10 := eqT hT6 e10 (by decide)
                have kf : Hid (∀ i, i < 6 → T6 i = TA i) := fun i hi => eqT hT6 (kf.out i hi) (by omega)
                have e7 : T6 7 = .row 3 (.slice g7 l7 h7) (I6 os ++ [(.int .i64 (j : Int))]) := by rw [hT6]; exact put_same _ _ _
                clear hT6 HQ5
                simp only [Act.put, List.setIfInBounds_toArray, List.set_cons_zero, List.set_cons_succ]
                refine wpAnyM_ready (rs := [29]) (by kernel_rfl) (by simp) ?_
                refine AllReadyM.cons (by simp; rfl) (fun Kc hKc => ?_) AllReadyM.nil
                obtain ⟨v', x7, hap, ⟨g8, h8, rfl⟩, hP⟩ := HQ6.out.appR (i := 8) O.elI (by decide) e8 (by have := HQ6.out.fam.at' 11 (by decide); rw [e11] at this; exact this) (by simp; omega) rfl
                have HAP : Hid ((Builtin.append_ #[39, 39] 39 #[(.slice p8 m8 c8), .slice (some ⟨y8, 0, none⟩) 1 1]).run Tryd.prog x6 = .ok (.slice g8 ((I6 rs).length + 1) h8) x7) := hap
                clear hap
                generalize (I6 rs).length + 1 = l8 at HAP hP
                refine step_append_is (u1 := (.slice p8 m8 c8)) (u2 := .slice (some ⟨y8, 0, none⟩) 1 1) (by rfl) rfl rfl rfl rfl HAP.out ?_
                refine hKc.out _ _ (fun _ _ => hP.pr) ?_
                clear hKc Kc HAP
                obtain ⟨T7, hT7⟩ : ∃ T7, T7 = put T6 8 (.row 3 (.slice g8 l8 h8) (I6 rs ++ [(.int .i64 (g j))])) := ⟨_, rfl⟩
                have HQ7 : Hid (PS w0 x7 P c0 T7 (fun x => G x ∨ x = X)) := by rw [hT7]; exact hP
                clear hP
                have e12 := eqT hT7 e12 (by decide)
                have e11 := eqT hT7 e11 (by decide)
                have e9 := eqT hT7 e9 (by decide)
                have e6 := eqT hT7 e6 (by decide)
                have e10 := eqT hT7 e10 (by decide)
                have e7 := eqT hT7 e7 (by decide)
                have kf : Hid (∀ i, i < 6 → T7 i = TA i) := fun i hi => eqT hT7 (kf.out i hi) (by omega)
                have e8 : T7 8 = .row 3 (.slice g8 l8 h8) (I6 rs ++ [(.int .i64 (g j))]) := by rw [hT7]; exact put_same _ _ _
                clear hT7 HQ6
                simp only [Act.put, List.setIfInBounds_toArray, List.set_cons_zero, List.set_cons_succ]
              case' b94 =>
                go_simp
                have HQ4 : Hid (PS w0 (x3.alloc (.cells #[(.int .i64 (j : Int))] 3)) P c0 (put T3 10 (.one 3 x3.heap.size (.int .i64 (j : Int)))) G) := HQ3.out.fresh (below_alloc _ _) 10 (heap_alloc_new x3 _) (fun b hb => by rw [show b = x3.heap.size from hb]; exact Nat.le_refl _)
                refine hKc.out _ _ (fun _ _ => HQ4.out.pr) ?_
                clear hKc Kc HQ3
                obtain ⟨T4, hT4⟩ : ∃ T4, T4 = put T3 10 (.one 3 x3.heap.size (.int .i64 (j : Int))) := ⟨_, rfl⟩
                rw [← hT4] at HQ4
                revert HQ4 hT4
                generalize x3.alloc (.cells #[(.int .i64 (j : Int))] 3) = x4
                generalize x3.heap.size = y7
                intro HQ4 hT4
                have e6 := eqT hT4 e6 (by decide)
                have e7 := eqT hT4 e7 (by decide)
                have e8 := eqT hT4 e8 (by decide)
                have e12 := eqT hT4 e12 (by decide)
                have e11 := eqT hT4 e11 (by decide)
                have e14 := eqT hT4 e14 (by decide)
                have e9 := eqT hT4 e9 (by decide)
                have kf : Hid (∀ i, i < 6 → T4 i = TA i) := fun i hi => eqT hT4 (kf.out i hi) (by omega)
                have e10 : T4 10 = .one 3 y7 (.int .i64 (j : Int)) := by rw [hT4]; exact put_same _ _ _
                clear hT4
                refine wpAnyM_ready (rs := [10]) (by kernel_rfl) (by simp) ?_
                refine AllReadyM.cons (by simp; rfl) (fun Kc hKc => ?_) AllReadyM.nil
                obtain ⟨v', x5, hap, ⟨g6, h6, rfl⟩, hP⟩ := HQ4.out.appQ2 elQ e6 e9 e14 (by omega)
                have HAP : Hid ((Builtin.append_ #[38, 38] 38 #[(.slice p6 m6 c6), .slice (some ⟨y6, 0, none⟩) 1 1]).run Tryd.prog x4 = .ok (.slice g6 (bs.length + 1) h6) x5) := hap
                clear hap
                generalize bs.length + 1 = l6 at HAP hP
                refine step_append_is (u1 := (.slice p6 m6 c6)) (u2 := .slice (some ⟨y6, 0, none⟩) 1 1) (by rfl) rfl rfl rfl rfl HAP.out ?_
                refine hKc.out _ _ (fun _ _ => hP.pr) ?_
                clear hKc Kc HAP
                obtain ⟨T5, hT5⟩ : ∃ T5, T5 = put (put T4 14 .no) 6 (.sq (.slice g6 l6 h6) (bs ++ [(X, Q j)])) := ⟨_, rfl⟩
                have HQ5 : Hid (PS w0 x5 P c0 T5 (fun x => G x ∨ x = X)) := by rw [hT5]; exact hP
                clear hP
                have e7 := eqT2 hT5 e7 (by decide) (by decide)
                have e8 := eqT2 hT5 e8 (by decide) (by decide)
                have e12 := eqT2 hT5 e12 (by decide) (by decide)
                have e11 := eqT2 hT5 e11 (by decide) (by decide)
                have e9 := eqT2 hT5 e9 (by decide) (by decide)
                have e10 := eqT2 hT5 e10 (by decide) (by decide)
                have kf : Hid (∀ i, i < 6 → T5 i = TA i) := fun i hi => eqT2 hT5 (kf.out i hi) (by omega) (by omega)
                have e6 : T5 6 = .sq (.slice g6 l6 h6) (bs ++ [(X, Q j)]) := by rw [hT5]; exact put_same _ _ _
                clear hT5 HQ4
                simp only [Act.put, List.setIfInBounds_toArray, List.set_cons_zero, List.set_cons_succ]
                refine wpAnyM_ready (rs := [17]) (by kernel_rfl) (by simp) ?_
                refine AllReadyM.cons (by simp; rfl) (fun Kc hKc => ?_) AllReadyM.nil
                obtain ⟨v', x6, hap, ⟨g7, h7, rfl⟩, hP⟩ := HQ5.out.appR (i := 7) O.elI (by decide) e7 (by have := HQ5.out.fam.at' 10 (by decide); rw [e10] at this; exact this) (by simp; omega) rfl
                have HAP : Hid ((Builtin.append_ #[39, 39] 39 #[(.slice p7 m7 c7), .slice (some ⟨y7, 0, none⟩) 1 1]).run Tryd.prog x5 = .ok (.slice g7 ((I6 os).length + 1) h7) x6) := hap
                clear hap
                generalize (I6 os).length + 1 = l7 at HAP hP
                refine step_append_is (u1 := (.slice p7 m7 c7)) (u2 := .slice (some ⟨y7, 0, none⟩) 1 1) (by rfl) rfl rfl rfl rfl HAP.out ?_
                refine hKc.out _ _ (fun _ _ => hP.pr) ?_
                clear hKc Kc HAP
                obtain ⟨T6, hT6⟩ : ∃ T6, T6 = put T5 7 (.row 3 (.slice g7 l7 h7) (I6 os ++ [(.int .i64 (j : Int))])) := ⟨_, rfl⟩
                have HQ6 : Hid (PS w0 x6 P c0 T6 (fun x => G x ∨ x = X)) := by rw [hT6]; exact hP
                clear hP
                have e8 := eqT hT6 e8 (by decide)
                have e12 := eqT hT6 e12 (by decide)
                have e11 := eqT hT6 e11 (by decide)
                have e9 := eqT hT6 e9 (by decide)
                have e10 := eqT hT6 e10 (by decide)
                have e6 := eqT hT6 e6 (by decide)
                have kf : Hid (∀ i, i < 6 → T6 i = TA i) := fun i hi => eqT hT6 (kf.out i hi) (by omega)
                have e7 : T6 7 = .row 3 (.slice g7 l7 h7) (I6 os ++ [(.int .i64 (j : Int))]) := by rw [hT6]; exact put_same _ _ _
                clear hT6 HQ5
                simp only [Act.put, List.setIfInBounds_toArray, List.set_cons_zero, List.set_cons_succ]
                refine wpAnyM_ready (rs := [29]) (by kernel_rfl) (by simp) ?_
                refine AllReadyM.cons (by simp; rfl) (fun Kc hKc => ?_) AllReadyM.nil
                obtain ⟨v', x7, hap, ⟨g8, h8, rfl⟩, hP⟩ := HQ6.out.appR (i := 8) O.elI (by decide) e8 (by have := HQ6.out.fam.at' 11 (by decide); rw [e11] at this; exact this) (by simp; omega) rfl
                have HAP : Hid ((Builtin.append_ #[39, 39] 39 #[(.slice p8 m8 c8), .slice (some ⟨y8, 0, none⟩) 1 1]).run Tryd.prog x6 = .ok (.slice g8 ((I6 rs).length + 1) h8) x7) := hap
                clear hap
                generalize (I6 rs).length + 1 = l8 at HAP hP
                refine step_append_is (u1 := (.slice p8 m8 c8)) (u2 := .slice (some ⟨y8, 0, none⟩) 1 1) (by rfl) rfl rfl rfl rfl HAP.out ?_
                refine hKc.out _ _ (fun _ _ => hP.pr) ?_
                clear hKc Kc HAP
                obtain ⟨T7, hT7⟩ : ∃ T7, T7 = put T6 8 (.row 3 (.slice g8 l8 h8) (I6 rs ++ [(.int .i64 (g j))])) := ⟨_, rfl⟩
                have HQ7 : Hid (PS w0 x7 P c0 T7 (fun x => G x ∨ x = X)) := by rw [hT7]; exact hP
                clear hP
                have e12 := eqT hT7 e12 (by decide)
                have e11 := eqT hT7 e11 (by decide)
                have e9 := eqT hT7 e9 (by decide)
                have e10 := eqT hT7 e10 (by decide)
                have e6 := eqT hT7 e6 (by decide)
                have e7 := eqT hT7 e7 (by decide)
                have kf : Hid (∀ i, i < 6 → T7 i = TA i) := fun i hi => eqT hT7 (kf.out i hi) (by omega)
                have e8 : T7 8 = .row 3 (.slice g8 l8 h8) (I6 rs ++ [(.int .i64 (g j))]) := by rw [hT7]; exact put_same _ _ _
                clear hT7 HQ6
                simp only [Act.put, List.setIfInBounds_toArray, List.set_cons_zero, List.set_cons_succ]
            case' b92 =>
              go_simp
              have HQ3 : Hid (PS w0 (x2.alloc (.cells #[(.int .i64 (j : Int))] 3)) P c0 (put T2 10 (.one 3 x2.heap.size (.int .i64 (j : Int)))) G) := HQ2.out.fresh (below_alloc _ _) 10 (heap_alloc_new x2 _) (fun b hb => by rw [show b = x2.heap.size from hb]; exact Nat.le_refl _)
              refine hKc.out _ _ (fun _ _ => HQ3.out.pr) ?_
              clear hKc Kc HQ2
              obtain ⟨T3, hT3⟩ : ∃ T3, T3 = put T2 10 (.one 3 x2.heap.size (.int .i64 (j : Int))) := ⟨_, rfl⟩
              rw [← hT3] at HQ3
              revert HQ3 hT3
              generalize x2.alloc (.cells #[(.int .i64 (j : Int))] 3) = x3
              generalize x2.heap.size = y7
              intro HQ3 hT3
              have e6 := eqT hT3 e6 (by decide)
              have e7 := eqT hT3 e7 (by decide)
              have e8 := eqT hT3 e8 (by decide)
              have e12 := eqT hT3 e12 (by decide)
              have e11 := eqT hT3 e11 (by decide)
              have e14 := eqT hT3 e14 (by decide)
              have kf : Hid (∀ i, i < 6 → T3 i = TA i) := fun i hi => eqT hT3 (kf.out i hi) (by omega)
              have e10 : T3 10 = .one 3 y7 (.int .i64 (j : Int)) := by rw [hT3]; exact put_same _ _ _
              clear hT3
              refine wpAnyM_ready (rs := [9]) (by kernel_rfl) (by simp) ?_
              refine AllReadyM.cons (by simp; rfl) (fun Kc hKc => ?_) AllReadyM.nil
              go_simp
              have HQ4 : Hid (PS w0 (x3.alloc (.cells #[(seqV X)] 83)) P c0 (put T3 9 (.one 83 x3.heap.size (seqV X))) G) := HQ3.out.fresh (below_alloc _ _) 9 (heap_alloc_new x3 _) (fun b hb => by rw [show b = x3.heap.size from hb]; exact Nat.le_refl _)
              refine hKc.out _ _ (fun _ _ => HQ4.out.pr) ?_
              clear hKc Kc HQ3
              obtain ⟨T4, hT4⟩ : ∃ T4, T4 = put T3 9 (.one 83 x3.heap.size (seqV X)) := ⟨_, rfl⟩
              rw [← hT4] at HQ4
              revert HQ4 hT4
              generalize x3.alloc (.cells #[(seqV X)] 83) = x4
              generalize x3.heap.size = y6
              intro HQ4 hT4
              have e6 := eqT hT4 e6 (by decide)
              have e7 := eqT hT4 e7 (by decide)
              have e8 := eqT hT4 e8 (by decide)
              have e12 := eqT hT4 e12 (by decide)
              have e11 := eqT hT4 e11 (by decide)
              have e14 := eqT hT4 e14 (by decide)
              have e10 := eqT hT4 e10 (by decide)
              have kf : Hid (∀ i, i < 6 → T4 i = TA i) := fun i hi => eqT hT4 (kf.out i hi) (by omega)
              have e9 : T4 9 = .one 83 y6 (seqV X) := by rw [hT4]; exact put_same _ _ _
              clear hT4
              refine wpAnyM_ready (rs := [10]) (by kernel_rfl) (by simp) ?_
              refine AllReadyM.cons (by simp; rfl) (fun Kc hKc => ?_) AllReadyM.nil
              obtain ⟨v', x5, hap, ⟨g6, h6, rfl⟩, hP⟩ := HQ4.out.appQ2 elQ e6 e9 e14 (by omega)
              have HAP : Hid ((Builtin.append_ #[38, 38] 38 #[(.slice p6 m6 c6), .slice (some ⟨y6, 0, none⟩) 1 1]).run Tryd.prog x4 = .ok (.slice g6 (bs.length + 1) h6) x5) := hap
              clear hap
              generalize bs.length + 1 = l6 at HAP hP
              refine step_append_is (u1 := (.slice p6 m6 c6)) (u2 := .slice (some ⟨y6, 0, none⟩) 1 1) (by rfl) rfl rfl rfl rfl HAP.out ?_
              refine hKc.out _ _ (fun _ _ => hP.pr) ?_
              clear hKc Kc HAP
              obtain ⟨T5, hT5⟩ : ∃ T5, T5 = put (put T4 14 .no) 6 (.sq (.slice g6 l6 h6) (bs ++ [(X, Q j)])) := ⟨_, rfl⟩
              have HQ5 : Hid (PS w0 x5 P c0 T5 (fun x => G x ∨ x = X)) := by rw [hT5]; exact hP
              clear hP
              have e7 := eqT2 hT5 e7 (by decide) (by decide)
              have e8 := eqT2 hT5 e8 (by decide) (by decide)
              have e12 := eqT2 hT5 e12 (by decide) (by decide)
              have e11 := eqT2 hT5 e11 (by decide) (by decide)
              have e10 := eqT2 hT5 e10 (by decide) (by decide)
              have e9 := eqT2 hT5 e9 (by decide) (by decide)
              have kf : Hid (∀ i, i < 6 → T5 i = TA i) := fun i hi => eqT2 hT5 (kf.out i hi) (by omega) (by omega)
              have e6 : T5 6 = .sq (.slice g6 l6 h6) (bs ++ [(X, Q j)]) := by rw [hT5]; exact put_same _ _ _
              clear hT5 HQ4
              simp only [Act.put, List.setIfInBounds_toArray, List.set_cons_zero, List.set_cons_succ]
              refine wpAnyM_ready (rs := [17]) (by kernel_rfl) (by simp) ?_
              refine AllReadyM.cons (by simp; rfl) (fun Kc hKc => ?_) AllReadyM.nil
              obtain ⟨v', x6, hap, ⟨g7, h7, rfl⟩, hP⟩ := HQ5.out.appR (i := 7) O.elI (by decide) e7 (by have := HQ5.out.fam.at' 10 (by decide); rw [e10] at this; exact this) (by simp; omega) rfl
              have HAP : Hid ((Builtin.append_ #[39, 39] 39 #[(.slice p7 m7 c7), .slice (some ⟨y7, 0, none⟩) 1 1]).run Tryd.prog x5 = .ok (.slice g7 ((I6 os).length + 1) h7) x6) := hap
              clear hap
              generalize (I6 os).length + 1 = l7 at HAP hP
              refine step_append_is (u1 := (.slice p7 m7 c7)) (u2 := .slice (some ⟨y7, 0, none⟩) 1 1) (by rfl) rfl rfl rfl rfl HAP.out ?_
              refine hKc.out _ _ (fun _ _ => hP.pr) ?_
              clear hKc Kc HAP
              obtain ⟨T6, hT6⟩ : ∃ T6, T6 = put T5 7 (.row 3 (.slice g7 l7 h7) (I6 os ++ [(.int .i64 (j : Int))])) := ⟨_, rfl⟩
              have HQ6 : Hid (PS w0 x6 P c0 T6 (fun x => G x ∨ x = X)) := by rw [hT6]; exact hP
              clear hP
              have e8 := eqT hT6 e8 (by decide)
              have e12 := eqT hT6 e12 (by decide)
              have e11 := eqT hT6 e11 (by decide)
              have e10 := eqT hT6 e10 (by decide)
              have e9 := eqT hT6 e9 (by decide)
              have e6 := eqT hT6 e6 (by decide)
              have kf : Hid (∀ i, i < 6 → T6 i = TA i) := fun i hi => eqT hT6 (kf.out i hi) (by omega)
              have e7 : T6 7 = .row 3 (.slice g7 l7 h7) (I6 os ++ [(.int .i64 (j : Int))]) := by rw [hT6]; exact put_same _ _ _
              clear hT6 HQ5
              simp only [Act.put, List.setIfInBounds_toArray, List.set_cons_zero, List.set_cons_succ]
              refine wpAnyM_ready (rs := [29]) (by kernel_rfl) (by simp) ?_
              refine AllReadyM.cons (by simp; rfl) (fun Kc hKc => ?_) AllReadyM.nil
              obtain ⟨v', x7, hap, ⟨g8, h8, rfl⟩, hP⟩ := HQ6.out.appR (i := 8) O.elI (by decide) e8 (by have := HQ6.out.fam.at' 11 (by decide); rw [e11] at this; exact this) (by simp; omega) rfl
              have HAP : Hid ((Builtin.append_ #[39, 39] 39 #[(.slice p8 m8 c8), .slice (some ⟨y8, 0, none⟩) 1 1]).run Tryd.prog x6 = .ok (.slice g8 ((I6 rs).length + 1) h8) x7) := hap
              clear hap
              generalize (I6 rs).length + 1 = l8 at HAP hP
              refine step_append_is (u1 := (.slice p8 m8 c8)) (u2 := .slice (some ⟨y8, 0, none⟩) 1 1) (by rfl) rfl rfl rfl rfl HAP.out ?_
              refine hKc.out _ _ (fun _ _ => hP.pr) ?_
              clear hKc Kc HAP
              obtain ⟨T7, hT7⟩ : ∃ T7, T7 = put T6 8 (.row 3 (.slice g8 l8 h8) (I6 rs ++ [(.int .i64 (g j))])) := ⟨_, rfl⟩
              have HQ7 : Hid (PS w0 x7 P c0 T7 (fun x => G x ∨ x = X)) := by rw [hT7]; exact hP
              clear hP
              have e12 := eqT hT7 e12 (by decide)
              have e11 := eqT hT7 e11 (by decide)
              have e10 := eqT hT7 e10 (by decide)
              have e9 := eqT hT7 e9 (by decide)
              have e6 := eqT hT7 e6 (by decide)
              have e7 := eqT hT7 e7 (by decide)
              have kf : Hid (∀ i, i < 6 → T7 i = TA i) := fun i hi => eqT hT7 (kf.out i hi) (by omega)
              have e8 : T7 8 = .row 3 (.slice g8 l8 h8) (I6 rs ++ [(.int .i64 (g j))]) := by rw [hT7]; exact put_same _ _ _
              clear hT7 HQ6
              simp only [Act.put, List.setIfInBounds_toArray, List.set_cons_zero, List.set_cons_succ]
          case' b90 =>
            go_simp
            have HQ2 : Hid (PS w0 (x1.alloc (.cells #[(.int .i64 (j : Int))] 3)) P c0 (put T1 10 (.one 3 x1.heap.size (.int .i64 (j : Int)))) G) := HQ1.out.fresh (below_alloc _ _) 10 (heap_alloc_new x1 _) (fun b hb => by rw [show b = x1.heap.size from hb]; exact Nat.le_refl _)
            refine hKc.out _ _ (fun _ _ => HQ2.out.pr) ?_
            clear hKc Kc HQ1
            obtain ⟨T2, hT2⟩ : ∃ T2, T2 = put T1 10 (.one 3 x1.heap.size (.int .i64 (j : Int))) := ⟨_, rfl⟩
            rw [← hT2] at HQ2
            revert HQ2 hT2
            generalize x1.alloc (.cells #[(.int .i64 (j : Int))] 3) = x2
            generalize x1.heap.size = y7
            intro HQ2 hT2
            have e6 := eqT hT2 e6 (by decide)
            have e7 := eqT hT2 e7 (by decide)
            have e8 := eqT hT2 e8 (by decide)
            have e12 := eqT hT2 e12 (by decide)
            have e11 := eqT hT2 e11 (by decide)
            have kf : Hid (∀ i, i < 6 → T2 i = TA i) := fun i hi => eqT hT2 (kf.out i hi) (by omega)
            have e10 : T2 10 = .one 3 y7 (.int .i64 (j : Int)) := by rw [hT2]; exact put_same _ _ _
            clear hT2
            refine wpAnyM_ready (rs := [8]) (by kernel_rfl) (by simp) ?_
            refine AllReadyM.cons (by simp; rfl) (fun Kc hKc => ?_) AllReadyM.nil
            go_simp
            refine (all_is (some ⟨Q j, 0, none⟩) x2).mono ?_
            rintro e _ ⟨rfl, rfl⟩
            have HQ3 : Hid (PS w0 (x2.alloc (.cells #[.pointer (some ⟨Q j, 0, none⟩)] 24)) P c0 (put T2 14 (.one 24 x2.heap.size (qp (Q j)))) G) := HQ2.out.fresh (below_alloc _ _) 14 (heap_alloc_new x2 _) (fun b hb => by rw [show b = x2.heap.size from hb]; exact Nat.le_refl _)
            refine hKc.out _ _ (fun _ _ => HQ3.out.pr) ?_
            clear hKc Kc HQ2
            obtain ⟨T3, hT3⟩ : ∃ T3, T3 = put T2 14 (.one 24 x2.heap.size (qp (Q j))) := ⟨_, rfl⟩
            rw [← hT3] at HQ3
            revert HQ3 hT3
            generalize x2.alloc (.cells #[.pointer (some ⟨Q j, 0, none⟩)] 24) = x3
            generalize x2.heap.size = X
            intro HQ3 hT3
            have e6 := eqT hT3 e6 (by decide)
            have e7 := eqT hT3 e7 (by decide)
            have e8 := eqT hT3 e8 (by decide)
            have e12 := eqT hT3 e12 (by decide)
            have e11 := eqT hT3 e11 (by decide)
            have e10 := eqT hT3 e10 (by decide)
            have kf : Hid (∀ i, i < 6 → T3 i = TA i) := fun i hi => eqT hT3 (kf.out i hi) (by omega)
            have e14 : T3 14 = .one 24 X (qp (Q j)) := by rw [hT3]; exact put_same _ _ _
            clear hT3
            refine wpAnyM_ready (rs := [9]) (by kernel_rfl) (by simp) ?_
            refine AllReadyM.cons (by simp; rfl) (fun Kc hKc => ?_) AllReadyM.nil
            go_simp
            have HQ4 : Hid (PS w0 (x3.alloc (.cells #[(seqV X)] 83)) P c0 (put T3 9 (.one 83 x3.heap.size (seqV X))) G) := HQ3.out.fresh (below_alloc _ _) 9 (heap_alloc_new x3 _) (fun b hb => by rw [show b = x3.heap.size from hb]; exact Nat.le_refl _)
            refine hKc.out _ _ (fun _ _ => HQ4.out.pr) ?_
            clear hKc Kc HQ3
            obtain ⟨T4, hT4⟩ : ∃ T4, T4 = put T3 9 (.one 83 x3.heap.size (seqV X)) := ⟨_, rfl⟩
            rw [← hT4] at HQ4
            revert HQ4 hT4
            generalize x3.alloc (.cells #[(seqV X)] 83) = x4
            generalize x3.heap.size = y6
            intro HQ4 hT4
            have e6 := eqT hT4 e6 (by decide)
            have e7 := eqT hT4 e7 (by decide)
            have e8 := eqT hT4 e8 (by decide)
            have e12 := eqT hT4 e12 (by decide)
            have e11 := eqT hT4 e11 (by decide)
            have e10 := eqT hT4 e10 (by decide)
            have e14 := eqT hT4 e14 (by decide)
            have kf : Hid (∀ i, i < 6 → T4 i = TA i) := fun i hi => eqT hT4 (kf.out i hi) (by omega)
            have e9 : T4 9 = .one 83 y6 (seqV X) := by rw [hT4]; exact put_same _ _ _
            clear hT4
            refine wpAnyM_ready (rs := [10]) (by kernel_rfl) (by simp) ?_
            refine AllReadyM.cons (by simp; rfl) (fun Kc hKc => ?_) AllReadyM.nil
            obtain ⟨v', x5, hap, ⟨g6, h6, rfl⟩, hP⟩ := HQ4.out.appQ2 elQ e6 e9 e14 (by omega)
            have HAP : Hid ((Builtin.append_ #[38, 38] 38 #[(.slice p6 m6 c6), .slice (some ⟨y6, 0, none⟩) 1 1]).run Tryd.prog x4 = .ok (.slice g6 (bs.length + 1) h6) x5) := hap
            clear hap
            generalize bs.length + 1 = l6 at HAP hP
            refine step_append_is (u1 := (.slice p6 m6 c6)) (u2 := .slice (some ⟨y6, 0, none⟩) 1 1) (by rfl) rfl rfl rfl rfl HAP.out ?_
            refine hKc.out _ _ (fun _ _ => hP.pr) ?_
            clear hKc Kc HAP
            obtain ⟨T5, hT5⟩ : ∃ T5, T5 = put (put T4 14 .no) 6 (.sq (.slice g6 l6 h6) (bs ++ [(X, Q j)])) := ⟨_, rfl⟩
            have HQ5 : Hid (PS w0 x5 P c0 T5 (fun x => G x ∨ x = X)) := by rw [hT5]; exact hP
            clear hP
            have e7 := eqT2 hT5 e7 (by decide) (by decide)
            have e8 := eqT2 hT5 e8 (by decide) (by decide)
            have e12 := eqT2 hT5 e12 (by decide) (by decide)
            have e11 := eqT2 hT5 e11 (by decide) (by decide)
            have e10 := eqT2 hT5 e10 (by decide) (by decide)
            have e9 := eqT2 hT5 e9 (by decide) (by decide)
            have kf : Hid (∀ i, i < 6 → T5 i = TA i) := fun i hi => eqT2 hT5 (kf.out i hi) (by omega) (by omega)
            have e6 : T5 6 = .sq (.slice g6 l6 h6) (bs ++ [(X, Q j)]) := by rw [hT5]; exact put_same _ _ _
            clear hT5 HQ4
            simp only [Act.put, List.setIfInBounds_toArray, List.set_cons_zero, List.set_cons_succ]
            refine wpAnyM_ready (rs := [17]) (by kernel_rfl) (by simp) ?_
            refine AllReadyM.cons (by simp; rfl) (fun Kc hKc => ?_) AllReadyM.nil
            obtain ⟨v', x6, hap, ⟨g7, h7, rfl⟩, hP⟩ := HQ5.out.appR (i := 7) O.elI (by decide) e7 (by have := HQ5.out.fam.at' 10 (by decide); rw [e10] at this; exact this) (by simp; omega) rfl
            have HAP : Hid ((Builtin.append_ #[39, 39] 39 #[(.slice p7 m7 c7), .slice (some ⟨y7, 0, none⟩) 1 1]).run Tryd.prog x5 = .ok (.slice g7 ((I6 os).length + 1) h7) x6) := hap
            clear hap
            generalize (I6 os).length + 1 = l7 at HAP hP
            refine step_append_is (u1 := (.slice p7 m7 c7)) (u2 := .slice (some ⟨y7, 0, none⟩) 1 1) (by rfl) rfl rfl rfl rfl HAP.out ?_
            refine hKc.out _ _ (fun _ _ => hP.pr) ?_
            clear hKc Kc HAP
            obtain ⟨T6, hT6⟩ : ∃ T6, T6 = put T5 7 (.row 3 (.slice g7 l7 h7) (I6 os ++ [(.int .i64 (j : Int))])) := ⟨_, rfl⟩
            have HQ6 : Hid (PS w0 x6 P c0 T6 (fun x => G x ∨ x = X)) := by rw [hT6]; exact hP
            clear hP
            have e8 := eqT hT6 e8 (by decide)
            have e12 := eqT hT6 e12 (by decide)
            have e11 := eqT hT6 e11 (by decide)
            have e10 := eqT hT6 e10 (by decide)
            have e9 := eqT hT6 e9 (by decide)
            have e6 := eqT hT6 e6 (by decide)
            have kf : Hid (∀ i, i < 6 → T6 i = TA i) := fun i hi => eqT hT6 (kf.out i hi) (by omega)
            have e7 : T6 7 = .row 3 (.slice g7 l7 h7) (I6 os ++ [(.int .i64 (j : Int))]) := by rw [hT6]; exact put_same _ _ _
            clear hT6 HQ5
            simp only [Act.put, List.setIfInBounds_toArray, List.set_cons_zero, List.set_cons_succ]
            refine wpAnyM_ready (rs := [29]) (by kernel_rfl) (by simp) ?_
            refine AllReadyM.cons (by simp; rfl) (fun Kc hKc => ?_) AllReadyM.nil
            obtain ⟨v', x7, hap, ⟨g8, h8, rfl⟩, hP⟩ := HQ6.out.appR (i := 8) O.elI (by decide) e8 (by have := HQ6.out.fam.at' 11 (by decide); rw [e11] at this; exact this) (by simp; omega) rfl
            have HAP : Hid ((Builtin.append_ #[39, 39] 39 #[(.slice p8 m8 c8), .slice (some ⟨y8, 0, none⟩) 1 1]).run Tryd.prog x6 = .ok (.slice g8 ((I6 rs).length + 1) h8) x7) := hap
            clear hap
            generalize (I6 rs).length + 1 = l8 at HAP hP
            refine step_append_is (u1 := (.slice p8 m8 c8)) (u2 := .slice (some ⟨y8, 0, none⟩) 1 1) (by rfl) rfl rfl rfl rfl HAP.out ?_
            refine hKc.out _ _ (fun _ _ => hP.pr) ?_
            clear hKc Kc HAP
            obtain ⟨T7, hT7⟩ : ∃ T7, T7 = put T6 8 (.row 3 (.slice g8 l8 h8) (I6 rs ++ [(.int .i64 (g j))])) := ⟨_, rfl⟩
            have HQ7 : Hid (PS w0 x7 P c0 T7 (fun x => G x ∨ x = X)) := by rw [hT7]; exact hP
            clear hP
            have e12 := eqT hT7 e12 (by decide)
            have e11 := eqT hT7 e11 (by decide)
            have e10 := eqT hT7 e10 (by decide)
            have e9 := eqT hT7 e9 (by decide)
            have e6 := eqT hT7 e6 (by decide)
            have e7 := eqT hT7 e7 (by decide)
            have kf : Hid (∀ i, i < 6 → T7 i = TA i) := fun i hi => eqT hT7 (kf.out i hi) (by omega)
            have e8 : T7 8 = .row 3 (.slice g8 l8 h8) (I6 rs ++ [(.int .i64 (g j))]) := by rw [hT7]; exact put_same _ _ _
            clear hT7 HQ6
            simp only [Act.put, List.setIfInBounds_toArray, List.set_cons_zero, List.set_cons_succ]
          all_goals as_aux_lemma =>
            refine wpAnyM_take0 (i := 30) (v := .pointer (some ⟨P, 0, none⟩)) (by simp; rfl) (by kernel_rfl) (by kernel_rfl) (by kernel_rfl) (fun _ _ _ h => h) (Or.inl ⟨by rfl, fun w hSw => ?_⟩) ?_
            · clear hSw; go_simp <;> with_reducible rfl
            simp only [Act.put, List.setIfInBounds_toArray, List.set_cons_zero, List.set_cons_succ]
            refine wpAnyM_take0 (i := 31) (v := .pointer (some ⟨P, 6, none⟩)) (by simp; rfl) (by kernel_rfl) (by kernel_rfl) (by kernel_rfl) (fun _ _ _ h => h) (Or.inl ⟨by rfl, fun w hSw => ?_⟩) ?_
            · clear hSw; go_simp <;> with_reducible rfl
            simp only [Act.put, List.setIfInBounds_toArray, List.set_cons_zero, List.set_cons_succ]
            refine wpAnyM_ready (rs := [32]) (by kernel_rfl) (by simp) ?_
            refine AllReadyM.cons (by simp; rfl) (fun Kc hKc => ?_) AllReadyM.nil
            have hcv : x7.cell? ⟨P, 6, none⟩ = some (.slice p6 m6 c6) := HQ7.out.cell (j := 6) (by exact HV.out.1)
            have hfv := HQ7.out.free 6
            go_simp
            have HQ8 : Hid (PS w0 (x7.setCell ⟨P, 6, none⟩ (.slice g6 l6 h6)) P (c0.setIfInBounds 6 (.slice g6 l6 h6)) T7 (fun x => G x ∨ x = X)) := HQ7.out.store 6 (.slice g6 l6 h6)
            refine hKc.out _ _ (fun h => absurd h (by decide)) ?_
            clear hKc Kc hcv hfv HQ7
            generalize x7.setCell ⟨P, 6, none⟩ (.slice g6 l6 h6) = x8 at *

            refine wpAnyM_take0 (i := 33) (v := .pointer (some ⟨P, 0, none⟩)) (by simp; rfl) (by kernel_rfl) (by kernel_rfl) (by kernel_rfl) (fun _ _ _ h => h) (Or.inl ⟨by rfl, fun w hSw => ?_⟩) ?_
            · clear hSw; go_simp <;> with_reducible rfl
            simp only [Act.put, List.setIfInBounds_toArray, List.set_cons_zero, List.set_cons_succ]
            refine wpAnyM_take0 (i := 34) (v := .pointer (some ⟨P, 7, none⟩)) (by simp; rfl) (by kernel_rfl) (by kernel_rfl) (by kernel_rfl) (fun _ _ _ h => h) (Or.inl ⟨by rfl, fun w hSw => ?_⟩) ?_
            · clear hSw; go_simp <;> with_reducible rfl
            simp only [Act.put, List.setIfInBounds_toArray, List.set_cons_zero, List.set_cons_succ]
            refine wpAnyM_ready (rs := [35]) (by kernel_rfl) (by simp) ?_
            refine AllReadyM.cons (by simp; rfl) (fun Kc hKc => ?_) AllReadyM.nil
            have hcv : x8.cell? ⟨P, 7, none⟩ = some (.slice p7 m7 c7) := HQ8.out.cell (j := 7) (by rw [Array.getElem?_setIfInBounds_ne (by decide)]; exact HV.out.2.1)
            have hfv := HQ8.out.free 7
            go_simp
            have HQ9 : Hid (PS w0 (x8.setCell ⟨P, 7, none⟩ (.slice g7 l7 h7)) P ((c0.setIfInBounds 6 (.slice g6 l6 h6)).setIfInBounds 7 (.slice g7 l7 h7)) T7 (fun x => G x ∨ x = X)) := HQ8.out.store 7 (.slice g7 l7 h7)
            refine hKc.out _ _ (fun h => absurd h (by decide)) ?_
            clear hKc Kc hcv hfv HQ8
            generalize x8.setCell ⟨P, 7, none⟩ (.slice g7 l7 h7) = x9 at *

            refine wpAnyM_take0 (i := 36) (v := .pointer (some ⟨P, 0, none⟩)) (by simp; rfl) (by kernel_rfl) (by kernel_rfl) (by kernel_rfl) (fun _ _ _ h => h) (Or.inl ⟨by rfl, fun w hSw => ?_⟩) ?_
            · clear hSw; go_simp <;> with_reducible rfl
            simp only [Act.put, List.setIfInBounds_toArray, List.set_cons_zero, List.set_cons_succ]
            refine wpAnyM_take0 (i := 37) (v := .pointer (some ⟨P, 10, none⟩)) (by simp; rfl) (by kernel_rfl) (by kernel_rfl) (by kernel_rfl) (fun _ _ _ h => h) (Or.inl ⟨by rfl, fun w hSw => ?_⟩) ?_
            · clear hSw; go_simp <;> with_reducible rfl
            simp only [Act.put, List.setIfInBounds_toArray, List.set_cons_zero, List.set_cons_succ]
            refine wpAnyM_ready (rs := [38]) (by kernel_rfl) (by simp) ?_
            refine AllReadyM.cons (by simp; rfl) (fun Kc hKc => ?_) AllReadyM.nil
            have hcv : x9.cell? ⟨P, 10, none⟩ = some (.slice p8 m8 c8) := HQ9.out.cell (j := 10) (by rw [Array.getElem?_setIfInBounds_ne (by decide), Array.getElem?_setIfInBounds_ne (by decide)]; exact HV.out.2.2)
            have hfv := HQ9.out.free 10
            go_simp
            have HQ10 : Hid (PS w0 (x9.setCell ⟨P, 10, none⟩ (.slice g8 l8 h8)) P (((c0.setIfInBounds 6 (.slice g6 l6 h6)).setIfInBounds 7 (.slice g7 l7 h7)).setIfInBounds 10 (.slice g8 l8 h8)) T7 (fun x => G x ∨ x = X)) := HQ9.out.store 10 (.slice g8 l8 h8)
            refine hKc.out _ _ (fun h => absurd h (by decide)) ?_
            clear hKc Kc hcv hfv HQ9
            generalize x9.setCell ⟨P, 10, none⟩ (.slice g8 l8 h8) = x10 at *

            refine wpAnyM_done (by kernel_rfl) (NoPanic.normal ?_) _
            refine ⟨rfl, asked_end (T := T) (TA := TA) (T' := T7) (os := os) (rs := rs) (by rw [← HC0.out]; exact HQ10.out) HSH.out hj kf.out HKA.out HE4.out HE5.out HLS.out HCC.out e6 e7 e8 hos hrs hbs HKS.out e12 rfl rfl rfl rfl⟩

      · rintro ex a1 w9 ⟨rfl, TB, GB, h196, s0, s6, hdf, hpB, hsB, e12B⟩
        obtain ⟨Q2, v2, v6B, v7B, v8B, bB, oB, rB, hcB, e6B, e7B, e8B, hoB, hrB, hbB, hkB⟩ := hsB.cs
        have HSB : Hid (Sh TB n LL s p g (a + 1)) := hsB
        have HPB : Hid (PS w0 w9 P (pcs TB g) TB GB) := hpB
        have HKB : Hid (∀ k, k < bB.length → ∃ j : Nat, j < 2 ∧ oB[k]? = some (j : Int) ∧ ∃ r, rB[k]? = some r ∧ r ≤ g j ∧ -9000 ≤ r ∧ (r = g j → (bB[k]?).map (·.2) = some (Q2 j))) := hkB
        have HCB : Hid (∀ j, j < 2 → TB j = .cac (Q2 j) n (v2 j) (LL j) (nxR (s j) (p j))) := hcB
        obtain ⟨p6B, c6B, hv6, -, hg6⟩ := O.own_form (hpB.sq (by decide) e6B).1
        obtain ⟨p7B, c7B, hv7, -, hg7⟩ := O.own_form (hpB.row (by decide) e7B)
        obtain ⟨p8B, c8B, hv8, -, hg8⟩ := O.own_form (hpB.row (by decide) e8B)
        rw [List.length_map] at hv7 hg7 hv8 hg8
        rw [hoB] at hv7 hg7
        rw [hrB] at hv8 hg8
        subst hv6; subst hv7; subst hv8
        have HCL : Hid (∀ W, Below w9.heap.size w9 W → W.cell? ⟨P, 6, none⟩ = some (.slice p6B bB.length c6B) ∧ W.cell? ⟨P, 7, none⟩ = some (.slice p7B bB.length c7B) ∧ W.cell? ⟨P, 10, none⟩ = some (.slice p8B bB.length c8B)) := fun W hW => ⟨by rw [(hpB.later hW).c (j := 6) (by decide), e6B]; rfl, by rw [(hpB.later hW).c (j := 7) (by decide), e7B]; rfl, (hpB.later hW).cell (j := 10) (by show some (TB 8).val = _; rw [e8B]; rfl)⟩
        have hB0lt : B0 < w9.heap.size := by have := hpB.fam.at' 12 (by decide); rw [e12B] at this; exact (Array.getElem?_eq_some_iff.1 this).1
        have HB0 : Hid (w9.heap[B0]? = some (.cells #[.bool false] 4 (0, 0))) := by have := hpB.fam.at' 12 (by decide); rw [e12B] at this; exact this
        have hfr := frame_slots a1 h196
        rw [s0, s6, hdf] at hfr
        rw [hfr]
        clear hfr h196 s0 s6 hdf hpB hsB hkB hcB
        go_wp2_with fail
        refine wp_loop (FrL w9 P B0 bB.length) (fun a' _ => mL bB.length a') ?_ ?_
        · exact ⟨0, [], Nat.zero_le _, Below.refl _ _, Marks.nil _ _, rfl, rfl, rfl, rfl, rfl⟩
        intro a2 wx hI
        obtain ⟨i, ds, hi, BL, MK, hsz, h0, h6, h14, hds⟩ := hI
        have hfr2 := frame_slots a2 hsz
        rw [h0, h6, h14, hds] at hfr2
        rw [mL_is h14, hfr2]
        clear hsz h0 h6 h14 hds hfr2
        have z6 := (HCL.out wx BL.out).1
        have z7 := (HCL.out wx BL.out).2.1
        by_cases hlt : i < bB.length
        · obtain ⟨jj, hjj, ho1, r, hr1, hrg, hr9, hrQ⟩ := HKB.out i hlt
          obtain ⟨bx, hbx⟩ : ∃ bx, bB[i]? = some bx := ⟨_, List.getElem?_eq_getElem hlt⟩
          obtain ⟨g6, rfl⟩ := hg6 (by omega)
          obtain ⟨g7, rfl⟩ := hg7 (by omega)
          obtain ⟨g8, rfl⟩ := hg8 (by omega)
          have PX := HPB.out.later BL.out
          have y6 : wx.cell? ⟨g6, i, none⟩ = some (seqV bx.1) := by
            have := (PX.sq (by decide) e6B).1.cells (g := g6) rfl i (seqV bx.1) (by rw [List.getElem?_map, hbx]; rfl)
            rw [Addr.add_mid, Nat.zero_add] at this; exact this
          have y7 : wx.cell? ⟨g7, i, none⟩ = some (.int .i64 (jj : Int)) := by
            have := (PX.row (by decide) e7B).cells (g := g7) rfl i (.int .i64 (jj : Int)) (by rw [List.getElem?_map, ho1]; rfl)
            rw [Addr.add_mid, Nat.zero_add] at this; exact this
          have y8 : wx.cell? ⟨g8, i, none⟩ = some (.int .i64 r) := by
            have := (PX.row (by decide) e8B).cells (g := g8) rfl i (.int .i64 r) (by rw [List.getElem?_map, hr1]; rfl)
            rw [Addr.add_mid, Nat.zero_add] at this; exact this
          have y9 : wx.cell? ⟨P, 8 + jj, none⟩ = some (.int .i64 (g jj)) := PX.cell (by rcases (show jj = 0 ∨ jj = 1 by omega) with rfl | rfl <;> rfl)
          have u6 : ∀ t, (wx.drewN t).cell? ⟨g6, i, none⟩ = some (seqV bx.1) := fun _ => y6
          have u8 : ∀ t, (wx.drewN t).cell? ⟨g8, i, none⟩ = some (.int .i64 r) := fun _ => y8
          have u9 : ∀ t, (wx.drewN t).cell? ⟨P, 8 + jj, none⟩ = some (.int .i64 (g jj)) := fun _ => y9
          have q6 : ∀ t, (wx.drewN t).cell? ⟨P, 6, none⟩ = some (.slice (some ⟨g6, 0, none⟩) bB.length c6B) := fun _ => z6
          have q8 : ∀ t, (wx.drewN t).cell? ⟨P, 10, none⟩ = some (.slice (some ⟨g8, 0, none⟩) bB.length c8B) := fun _ => (HCL.out wx BL.out).2.2
          have HBX : Hid (Boxed wx bx.1 24 (qp bx.2)) := ((PX.sq (by decide) e6B).2 bx (List.mem_of_getElem? hbx)).2
          have HBt : Hid (∀ t, Below w9.heap.size w9 (wx.drewN t)) := fun t => below_then BL.out (below_drawn _)
          have HDt : Hid (∀ t, Below wx.heap.size wx (wx.drewN t)) := fun t => below_drawn _
          have i1 : (i : Int) < (bB.length : Int) := by omega
          have i0 : (0 : Int) ≤ (i : Int) := by omega
          have jj0 : (0 : Int) ≤ (jj : Int) := by omega
          have jj1 : (jj : Int) < 2 := by omega
          have hnil : ∀ W, (binOp BinOp.eql 83 (seqV bx.1) .nilFunc).run Tryd.prog W = .ok (.bool false) W := fun W => by kernel_rfl
          have hrw : IntKind.i64.wrap ((i : Int) + 1) = (i : Int) + 1 := by rw [IntKind.wrap_i64]; omega
          clear PX
          by_cases hrq : r = g jj
          · have hne : (r != g jj) = false := by simp [hrq]
            have HQX : Hid (bx.2 = Q2 jj) := by have := hrQ hrq; rw [hbx] at this; exact Option.some.inj this
            clear hrQ hbx ho1 hr1
            go_wp2_with fail
            go_quiet (fail)
            have HBq : Hid (Below w9.heap.size w9 (wx.drewN nq)) := HBt.out nq
            have HMq : Hid (Marks w9.heap.size (wx.drewN nq) ds) := MK.out.later (HDt.out nq)
            have HXq : Hid (Boxed (wx.drewN nq) bx.1 24 (.pointer (some ⟨Q2 jj, 0, none⟩))) := by have := HBX.out; rw [HQX.out] at this; exact this
            have n6 : ((wx.drewN nq).alloc (.cells #[.slice none 0 0] 60)).cell? ⟨g6, i, none⟩ = some (seqV bx.1) := ((below_alloc (wx.drewN nq) _).cell (p := ⟨g6, i, none⟩) (World.block_lt_of_cell? _ _ (u6 nq))).trans (u6 nq)
            have n7 : ((wx.drewN nq).alloc (.cells #[.slice none 0 0] 60)).cell? ⟨P, 6, none⟩ = some (.slice (some ⟨g6, 0, none⟩) bB.length c6B) := ((below_alloc (wx.drewN nq) _).cell (p := ⟨P, 6, none⟩) (World.block_lt_of_cell? _ _ (q6 nq))).trans (q6 nq)
            have HPQ : Hid (PS w0 (wx.drewN nq) P (pcs TB g) TB GB) := HPB.out.later HBq.out
            obtain ⟨R2, vr2, er2⟩ := HSB.out.ref jj hjj
            have HOK2 : Hid (Okc n (LL jj) (nxR (s jj) (p jj))) := (HSB.out.ok jj hjj).1
            have HRQ : Hid (RAt (wx.drewN nq) R2 n vr2 (LL jj) (s jj) (p jj)) := HPQ.out.ref (j := jj + 2) (by omega) er2
            have HSTD : Hid (Stands (wx.drewN nq) (some ⟨Q2 jj, 0, none⟩) (LL jj)) := (HPQ.out.cac (j := jj) (by omega) (HCB.out jj hjj)).stands HOK2.out
            have HPR : Hid (∀ W, Below (wx.drewN nq).heap.size (wx.drewN nq) W → W.cell? ⟨P, 2 + jj, none⟩ = some (.pointer (some ⟨R2, 0, none⟩))) := fun W hW => by
              have := (HPQ.out.later hW).c (j := jj + 2) (by omega)
              rw [er2, Nat.add_comm] at this
              exact this
            have hN9 : w9.heap.size ≤ (wx.drewN nq).heap.size := HBq.out.size
            clear u6 u8 u9 q6 q8 y6 y7 y8 y9 z6 z7 HBX HBt HDt MK BL hnil
            generalize wx.drewN nq = wq at *
            go_wp2_with fail
            clear n6 n7
            refine (wpIn_wide (n := 9)).1 ?_
            obtain ⟨W0, hW0⟩ : ∃ W0, wq.alloc (.cells #[.slice none 0 0] 60) = W0 := ⟨_, rfl⟩
            rw [hW0]
            have hs0 : W0.heap.size = wq.heap.size + 1 := by rw [← hW0]; simp
            have HB01 : Hid (Below wq.heap.size wq W0) := by rw [← hW0]; exact below_alloc wq _
            have HBX0 : Hid (Boxed W0 bx.1 24 (.pointer (some ⟨Q2 jj, 0, none⟩))) := by rw [← hW0]; exact HXq.out.alloc _
            have HBO : Hid (Boxed W0 wq.heap.size 60 (.slice none 0 0)) := by rw [← hW0]; exact Boxed.new wq _ _
            have h64 := HOK2.out.few
            clear hW0
            refine range_in (F := Fence.wide) (n := 9) (P := Tryd.prog) rfl (by decide) (gf := 36) (lb := #[.pointer (some ⟨bx.1, 0, none⟩)]) rfl trivial (enters_of Tryd.func36 (by kernel_rfl) rfl)
              (all1_seq Fence.wide (9 - 1) trivial rfl (by decide) bx.1 wq.heap.size (some ⟨Q2 jj, 0, none⟩) (LL jj) W0 wq HB01.out.size HB01.out rfl HBX0.out HSTD.out) belowK_t (fun W l o o' hl h hc => (Below.refl _ W).grown (grownBy_putObj' W l o') (by have := (Array.getElem?_eq_some_iff.1 h).1; omega) (fun k e => by cases e; omega)) (Below.refl _ _) (fun _ => rfl)
              (fun pre W => Got wq.heap.size wq.heap.size 64 pre W ∧ Below wq.heap.size wq W) (fun _ _ _ => False) ?hI ?hIx ⟨⟨_, HBO.out, World.ownsRow_nil _ _ _ _, Nat.zero_le _⟩, HB01.out⟩
              (fun x a' W => ∃ Bx, LAt 57 W Bx (ecells x.1) ∧ a'.tmps.size = 196 ∧ slotAt a' 16 = .pointer (some ⟨wq.heap.size, 0, none⟩) ∧ slotAt a' 17 = .pointer (some ⟨Bx, 0, none⟩) ∧ a'.defers = [])
              ?hAx ?assign ?body ?done ?stop
            case hI => exact OwnFrom.and (own_got _ _ _ _) (ownFrom_below (Nat.le_refl _) HB01.out.size)
            case hIx =>
              intro c s' V V' row h
              exact h.elim
            case hAx =>
              rintro x a' _ V V' row ⟨Bx, h1, h2⟩ hg hr
              exact ⟨Bx, (grownBy_keeps_cells hg (fun r e => (hr r e).2) h1 rfl).trans h1, h2⟩
            case assign =>
              rintro l1 pre x V K ⟨⟨v, h1, h2, h2'⟩, h6⟩ hK
              have A4 : Hid ((Instr.alloc 57 true (.tuple #[])).run Tryd.prog V = .ok (.pointer (some ⟨V.heap.size, 0, none⟩)) (V.alloc (.cells (ecells en0).toArray 57))) := allocE etC V
              have T4 : Hid ((Instr.storeAt 57 (.pointer (some ⟨V.heap.size, 0, none⟩)) (.agg (ecells x.1).toArray)).run Tryd.prog (V.alloc (.cells (ecells en0).toArray 57)) = .ok () (V.alloc (.cells (ecells x.1).toArray 57))) := store_newE etC V x.1 x.2.len
              have hb := below_alloc V (.cells (ecells x.1).toArray 57)
              have HY : Hid (∀ a', a'.tmps.size = 196 → slotAt a' 16 = .pointer (some ⟨wq.heap.size, 0, none⟩) → slotAt a' 17 = .pointer (some ⟨V.heap.size, 0, none⟩) → a'.defers = [] → K a' (V.alloc (.cells (ecells x.1).toArray 57))) := fun a' k1 k2 k3 k4 => hK a' _ (keeps_of_below hb W0.heap.size) (hb.mono h6.size) ⟨⟨v, h1.alloc _, h2.alloc _, h2'⟩, h6.trans (hb.mono h6.size)⟩ ⟨V.heap.size, LAt.new 57 V (ecells x.1), k1, k2, k3, k4⟩
              clear hK h1 h2 h6 hb
              rw [put1]
              simp only [List.setIfInBounds_toArray, List.set_cons_zero, List.set_cons_succ]
              gi_wp2_with ((with_reducible refine in_ops ?_); (first | ((refine in_alloc (by rfl) 57 rfl A4.out ?_); simp only [Act.put, List.setIfInBounds_toArray, List.set_cons_zero, List.set_cons_succ]) | ((refine in_store (by rfl) 57 rfl rfl rfl T4.out ?_); simp only [Act.put])))
              exact HY.out _ rfl rfl rfl rfl
            case body =>
              rintro l1 pre x a' V ⟨⟨v, h1, h2, h2'⟩, h6⟩ ⟨Bx, hx, hsz', s16, s17, hd'⟩ hlt'
              have hfr3 := frame_slots a' hsz'
              rw [s16, s17, hd'] at hfr3
              rw [hfr3]
              clear hfr3 hsz' s16 s17 hd'
              obtain ⟨q, cap, rfl⟩ := O.own_shape h2
              have c4 := h1.cell
              have HLd : Hid ((Instr.loadAt 57 (.pointer (some ⟨Bx, 0, none⟩))).run Tryd.prog V = .ok (.agg (ecells x.1).toArray) V) := LAt.loadE etC hx x.2.len
              have HBS : Hid ((Instr.buildSlice 60 1 #[(0, .agg (ecells x.1).toArray)]).run Tryd.prog V = .ok (.slice (some ⟨V.heap.size, 0, none⟩) 1 1) (V.alloc (.cells (ecells x.1).toArray 57))) := build_en etC V x.1 x.2.len
              obtain ⟨g', cap', V4, hrun, hv1, hv2⟩ := got_step h1 h2 x.2 h6.size (Nat.le_refl _) (by omega)
              have HRUN : Hid ((Builtin.append_ #[60, 60] 60 #[.slice q pre.length cap, .slice (some ⟨V.heap.size, 0, none⟩) 1 1]).run Tryd.prog (V.alloc (.cells (ecells x.1).toArray 57)) = .ok (.slice (some ⟨g', 0, none⟩) (pre.length + 1) cap') V4) := hrun
              have k1 := hv1.cell
              have k2 := hv1.frozen
              have k3 := hv2.1.cell
              have HFIN : Hid (KeepsFrom W0.heap.size V (V4.setCell ⟨wq.heap.size, 0, none⟩ (.slice (some ⟨g', 0, none⟩) (pre.length + 1) cap')) ∧ Below wq.heap.size V (V4.setCell ⟨wq.heap.size, 0, none⟩ (.slice (some ⟨g', 0, none⟩) (pre.length + 1) cap')) ∧ (Got wq.heap.size wq.heap.size 64 (pre ++ [x]) (V4.setCell ⟨wq.heap.size, 0, none⟩ (.slice (some ⟨g', 0, none⟩) (pre.length + 1) cap')) ∧ Below wq.heap.size wq (V4.setCell ⟨wq.heap.size, 0, none⟩ (.slice (some ⟨g', 0, none⟩) (pre.length + 1) cap')))) := by
                refine ⟨hv2.2.2.1.from _, hv2.2.2.2.1, ⟨_, hv2.1, ?_, ?_⟩, h6.trans hv2.2.2.2.1⟩
                · rw [ens_snoc, show (pre ++ [x]).length = pre.length + 1 by simp]; exact hv2.2.1
                · simp; omega
              have i64' : ¬ (64 : Int) < (pre.length : Int) + 1 := by omega
              clear hrun hv1 hv2 h1 h2 h6 hx
              gi_wp2_with ((with_reducible refine in_ops ?_); (first | (refine in_load (by rfl) 57 rfl rfl HLd.out ?_) | (refine in_slice (u := .agg (ecells x.1).toArray) (by rfl) 60 rfl rfl HBS.out ?_) | (refine in_append (u1 := .slice q pre.length cap) (u2 := .slice (some ⟨V.heap.size, 0, none⟩) 1 1) (by rfl) rfl rfl rfl rfl HRUN.out ?_)); simp only [Act.put, List.setIfInBounds_toArray, List.set_cons_zero, List.set_cons_succ])
              have hfin := HFIN.out
              rw [hs0] at hfin
              exact hfin
            case stop =>
              rintro D c pre W hD hpre hF
              exact hF.elim
            case done =>
              rintro D ys W hD hSt ⟨⟨v, h1, h2, h2'⟩, h6⟩ hK
              have e1 : ens ys = LL jj := hSt
              have hR2 : EOwn 57 W wq.heap.size v (LL jj) := by
                show World.ownsRow _ _ _ _ _ _ _
                rw [← e1, List.length_map]; exact h2
              obtain ⟨p9, c9, rfl, hE, -, -⟩ := EOwn.in hR2 HOK2.out.wf
              have hd := below_drawn (B := W.heap.size) (w := W) 1
              have HBW : Hid (Below wq.heap.size wq W.drew) := below_then h6 hd
              have HMW : Hid (Marks w9.heap.size W.drew (D :: ds)) := (HMq.out.cons h6 (by omega) hN9 hK).later hd
              have HEW : Hid (EIn W.drew p9 (LL jj).length (LL jj)) := hE.later hd
              have HIR : Hid (∃ pr2 cr2, vr2 = .slice pr2 (LL jj).length cr2 ∧ EIn W.drew pr2 (LL jj).length (LL jj)) := by
                obtain ⟨p', c', e', hm', -⟩ := (HRQ.out.later HBW.out).ein HOK2.out.wf
                exact ⟨p', c', e', hm'⟩
              obtain ⟨pr2, cr2, rfl, hIR⟩ := HIR.out
              have HIR2 : Hid (EIn W.drew pr2 (LL jj).length (LL jj)) := hIR
              have HFC : Hid (∀ w', Below W.drew.heap.size W.drew w' → w'.cell? ⟨wq.heap.size, 0, none⟩ = some (.slice p9 (LL jj).length c9) ∧ w'.cell? ⟨P, 2 + jj, none⟩ = some (.pointer (some ⟨R2, 0, none⟩)) ∧ w'.cell? ⟨R2, 1, none⟩ = some (.slice pr2 (LL jj).length cr2)) := fun w' hb => ⟨Boxed.cell (t := 60) (show Boxed w' wq.heap.size 60 (.slice p9 (LL jj).length c9) from ((below_then hd hb).block _ h1.lt).trans h1), HPR.out w' (below_then HBW.out hb), (HRQ.out.later (below_then HBW.out hb)).c1⟩
              have HWF2 : Hid (EnsWf (LL jj)) := HOK2.out.wf
              clear h1 h2 h6 hK hR2 hE hd hSt e1 HIR hIR HBO HBX0 HB01 HMq HXq
              go_wp2_with fail
              refine wp_region_noPanic ?_
              refine wp_region_held_drew (S := fun w' => Below W.drew.heap.size W.drew w') (by kernel_rfl) (Below.refl _ _) (fun hHeld => ?_)
              generalize W.drew = we at *
              generalize hLj : LL jj = Lj at *
              refine wpAnyH_take (i := 0) (v := ?va95) (by simp; rfl) (by kernel_rfl) (by kernel_rfl) (by kernel_rfl) (fun _ _ _ h => h) (Or.inl ⟨by rfl, ?ya95⟩) hHeld ?ra95
              case ya95 => intro w hSw; obtain ⟨z1, z2, z3⟩ := HFC.out w hSw; clear hSw; go_simp; with_reducible rfl
              simp only [Act.put, List.setIfInBounds_toArray, List.set_cons_zero, List.set_cons_succ]
              refine wpAnyH_take (i := 2) (v := ?va96) (by simp; rfl) (by kernel_rfl) (by kernel_rfl) (by kernel_rfl) (fun _ _ _ h => h) (Or.inl ⟨by rfl, ?ya96⟩) hHeld ?ra96
              case ya96 => intro w hSw; clear hSw; go_simp; with_reducible rfl
              simp only [Act.put, List.setIfInBounds_toArray, List.set_cons_zero, List.set_cons_succ]
              refine wpAnyH_take (i := 3) (v := ?va97) (by simp; rfl) (by kernel_rfl) (by kernel_rfl) (by kernel_rfl) (fun _ _ _ h => h) (Or.inl ⟨by rfl, ?ya97⟩) hHeld ?ra97
              case ya97 => intro w hSw; clear hSw; go_simp; with_reducible rfl
              simp only [Act.put, List.setIfInBounds_toArray, List.set_cons_zero, List.set_cons_succ]
              refine wpAnyH_take (i := 4) (v := ?va98) (by simp; rfl) (by kernel_rfl) (by kernel_rfl) (by kernel_rfl) (fun _ _ _ h => h) (Or.inl ⟨by rfl, ?ya98⟩) hHeld ?ra98
              case ya98 => intro w hSw; clear hSw; go_simp; with_reducible rfl
              simp only [Act.put, List.setIfInBounds_toArray, List.set_cons_zero, List.set_cons_succ]
              refine wpAnyH_take (i := 5) (v := ?va99) (by simp; rfl) (by kernel_rfl) (by kernel_rfl) (by kernel_rfl) (fun _ _ _ h => h) (Or.inl ⟨by rfl, ?ya99⟩) hHeld ?ra99
              case ya99 => intro w hSw; clear hSw; go_simp; with_reducible rfl
              simp only [Act.put, List.setIfInBounds_toArray, List.set_cons_zero, List.set_cons_succ]
              refine wpAnyH_take (i := 6) (v := ?va100) (by simp; rfl) (by kernel_rfl) (by kernel_rfl) (by kernel_rfl) (fun _ _ _ h => h) (Or.inl ⟨by rfl, ?ya100⟩) hHeld ?ra100
              case ya100 => intro w hSw; clear hSw; go_simp; with_reducible rfl
              simp only [Act.put, List.setIfInBounds_toArray, List.set_cons_zero, List.set_cons_succ]
              refine wpAnyH_take (i := 7) (v := ?va101) (by simp; rfl) (by kernel_rfl) (by kernel_rfl) (by kernel_rfl) (fun _ _ _ h => h) (Or.inl ⟨by rfl, ?ya101⟩) hHeld ?ra101
              case ya101 => intro w hSw; obtain ⟨z1, z2, z3⟩ := HFC.out w hSw; clear hSw; go_simp; with_reducible rfl
              simp only [Act.put, List.setIfInBounds_toArray, List.set_cons_zero, List.set_cons_succ]
              refine wpAnyH_take (i := 8) (v := ?va102) (by simp; rfl) (by kernel_rfl) (by kernel_rfl) (by kernel_rfl) (fun _ _ _ h => h) (Or.inl ⟨by rfl, ?ya102⟩) hHeld ?ra102
              case ya102 => intro w hSw; clear hSw; go_simp; with_reducible rfl
              simp only [Act.put, List.setIfInBounds_toArray, List.set_cons_zero, List.set_cons_succ]
              refine wpAnyH_take (i := 9) (v := ?va103) (by simp; rfl) (by kernel_rfl) (by kernel_rfl) (by kernel_rfl) (fun _ _ _ h => h) (Or.inl ⟨by rfl, ?ya103⟩) hHeld ?ra103
              case ya103 => intro w hSw; clear hSw; go_simp; with_reducible rfl
              simp only [Act.put, List.setIfInBounds_toArray, List.set_cons_zero, List.set_cons_succ]
              refine wpAnyH_take (i := 10) (v := ?va104) (by simp; rfl) (by kernel_rfl) (by kernel_rfl) (by kernel_rfl) (fun _ _ _ h => h) (Or.inl ⟨by rfl, ?ya104⟩) hHeld ?ra104
              case ya104 => intro w hSw; obtain ⟨z1, z2, z3⟩ := HFC.out w hSw; clear hSw; go_simp; with_reducible rfl
              simp only [Act.put, List.setIfInBounds_toArray, List.set_cons_zero, List.set_cons_succ]
              refine wpAnyH_ready (rs := [1]) (by kernel_rfl) (by simp) ?_
              refine AllReadyH.cons (by simp; rfl) (fun Kc hKc => ?_) AllReadyH.nil
              go_simp
              refine (plain_at (HEW.out.later hHeld) (by omega)).mono ?_
              rintro e y1 ⟨u1, rfl, ho, hb⟩
              obtain ⟨pp1, cc1, eu1, hE, -, -⟩ := EOwn.in ho HWF2.out
              subst eu1
              have HBy1 : Hid (Below we.heap.size we y1) := below_then hHeld hb
              have HEy1 : Hid (EIn y1 pp1 Lj.length Lj) := hE
              refine hKc.out _ _ HBy1.out (fun hHeld => ?_)
              clear hKc Kc ho hb hE
              refine wpAnyH_ready (rs := [11]) (by kernel_rfl) (by simp) ?_
              refine AllReadyH.cons (by simp; rfl) (fun Kc hKc => ?_) AllReadyH.nil
              go_simp
              refine (same_at HEy1.out (HIR2.out.later hHeld) (by omega)).mono ?_
              rintro e y2 ⟨rfl, hb⟩
              rw [ensB_yes rfl]
              have HBz : Hid (Below we.heap.size we y2) := below_then hHeld hb
              refine hKc.out _ _ HBz.out (fun hHeld => ?_)
              clear hKc Kc hb
              refine wpAnyH_take (i := 12) (v := ?va105) (by simp; rfl) (by kernel_rfl) (by kernel_rfl) (by kernel_rfl) (fun _ _ _ h => h) (Or.inl ⟨by rfl, ?ya105⟩) hHeld ?ra105
              case ya105 => intro w hSw; clear hSw; go_simp; with_reducible rfl
              simp only [Act.put, List.setIfInBounds_toArray, List.set_cons_zero, List.set_cons_succ]
              clear hHeld
              refine wpAnyH_done (by kernel_rfl) (NoPanic.normal ?_) _
              go_wp2_with fail
              refine ⟨⟨i + 1, D :: ds, by omega, below_then HBq.out (below_then HBW.out HBz.out), HMW.out.later HBz.out, rfl, rfl, rfl, rfl, rfl⟩, ?_⟩
              rw [mL_is (i := i + 1) rfl]
              omega
          · have hne : (r != g jj) = true := by rw [bne_iff_ne]; exact hrq
            clear hrQ hbx ho1 hr1 hrq
            go_wp2_with fail
            go_quiet (fail)
            go_wp2_with fail
            refine ⟨⟨i + 1, ds, by omega, HBt.out _, MK.out.later (HDt.out _), rfl, rfl, rfl, rfl, rfl⟩, ?_⟩
            rw [mL_is (i := i + 1) rfl]
            omega
        · have kB : wx.heap[B0]? = some (.cells #[.bool false] 4 (0, 0)) := (BL.out.block B0 hB0lt).trans HB0.out
          have b1 : wx.cell? ⟨B0, 0, none⟩ = some (.bool false) := by rw [cell_of_row _ B0 0 _ 4 (0, 0) kB]; rfl
          have b2 : wx.frozen? ⟨B0, 0, none⟩ = false := by simp [World.frozen?, kB]
          have HEND : Hid (∀ w', Below w9.heap.size (w9.setCell ⟨B0, 0, none⟩ (.bool true)) w' → St w0 w' P n (a + 1) ∧ w'.cell? ⟨B0, 0, none⟩ = some (.bool true)) := asks_end HPB.out HSB.out e12B
          have HMS : Hid (Marks w9.heap.size (wx.setCell ⟨B0, 0, none⟩ (.bool true)) ds) := ⟨fun D hD => ⟨(MK.out.open' D hD).1, ((Kept.setCell (w := wx) B0 0 (.bool true)).block D (Array.getElem?_eq_some_iff.1 (MK.out.open' D hD).2).1 (by have := (MK.out.open' D hD).1; show ¬ D = B0; omega)).trans (MK.out.open' D hD).2⟩, MK.out.apart⟩
          have HBS : Hid (Below w9.heap.size (w9.setCell ⟨B0, 0, none⟩ (.bool true)) (wx.setCell ⟨B0, 0, none⟩ (.bool true))) := below_set BL.out hB0lt HB0.out
          have hz9 : (w9.setCell ⟨B0, 0, none⟩ (.bool true)).heap.size = w9.heap.size := by rw [setCell_eq_setRow w9 B0 0 _ 4 (0, 0) _ HB0.out]; simp [World.setRow]
          go_wp2_with fail
          exact leaves_marks (w9.setCell ⟨B0, 0, none⟩ (.bool true)) hz9 ds _ HMS.out HBS.out fun w' hb => ⟨_, results_b Tryd.results10 _ _ (by rfl) (HEND.out w' hb).2, rfl, (HEND.out w' hb).1⟩
end
end W
end Go.Proofs.YthcpnfelnonhnaaDoor
