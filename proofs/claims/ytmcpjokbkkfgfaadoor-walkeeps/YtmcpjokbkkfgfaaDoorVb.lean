/-
  Layer 9: All: the sequence that it hands back, for every loop body.
-/
import Derived.Test.YtmcpjokbkkfgfaaDoorVa
import Derived.Test.YtmcpjokbkkfgfaaDoorUg
namespace Go.Proofs.YtmcpjokbkkfgfaaDoor
open Go.RowKit Go.Shelf

attribute [local go_sem] Oper.semAt_some

section
variable {F : Fence} {n : Nat} {P : Program} {ops : Array Oper} {rest : List Oper} {o : Oper} {a : Act} {w w' : World} {Q : Exit → Act → World → Prop}
theorem in_ops (h : wpListIn F n P ops Q (o :: rest) a w) : wpListIn F n P ops Q (o :: rest) a w := h
theorem in_val (hgd : Region.wanted o (yielded ops a.tmps) = true) (hab : o.about P w a.eval = none) (hop : ∀ c, o.op ≠ .defer c) {v : Value} (hrun : (execOp a.eval o).run P w = .ok (.value v) w') (h : wpListIn F n P ops Q rest (a.put o.dst v) w') : wpListIn F n P ops Q (o :: rest) a w :=
  wpListIn_step fun K hK => by
    rw [if_pos hgd]
    unfold Oper.wpIn
    refine ⟨fun f hf => (by rw [hab] at hf; cases hf), ?_⟩
    rw [Oper.semAt_plain F _ _ hop, hrun]
    exact hK _ _ h
theorem in_skp (hgd : Region.wanted o (yielded ops a.tmps) = true) (hab : o.about P w a.eval = none) (hop : ∀ c, o.op ≠ .defer c) (hrun : (execOp a.eval o).run P w = .ok .skip w') (h : wpListIn F n P ops Q rest (a.put o.dst undef) w') : wpListIn F n P ops Q (o :: rest) a w :=
  wpListIn_step fun K hK => by
    rw [if_pos hgd]
    unfold Oper.wpIn
    refine ⟨fun f hf => (by rw [hab] at hf; cases hf), ?_⟩
    rw [Oper.semAt_plain F _ _ hop, hrun]
    exact hK _ _ h
theorem in_load (hgd : Region.wanted o (yielded ops a.tmps) = true) (ty : TypeId) {x : Operand} (ho : o.op = .load ty x) {p v : Value} (hx : a.eval x = p) (hrun : (Instr.loadAt ty p).run P w = .ok v w) (h : wpListIn F n P ops Q rest (a.put o.dst v) w) : wpListIn F n P ops Q (o :: rest) a w :=
  in_val hgd (by simp [Oper.about, ho]) (by rw [ho]; intro c e; cases e) (by unfold execOp; simp only [ho, hx, Sem.run_bind, hrun, Result.andThen_ok, Sem.run_pure]) h
theorem in_alloc (hgd : Region.wanted o (yielded ops a.tmps) = true) (ty : TypeId) (ho : o.op = .alloc ty) {v : Value} (hrun : (Instr.alloc ty true (.tuple #[])).run P w = .ok v w') (h : wpListIn F n P ops Q rest (a.put o.dst v) w') : wpListIn F n P ops Q (o :: rest) a w :=
  in_val hgd (by simp [Oper.about, ho]) (by rw [ho]; intro c e; cases e) (by unfold execOp; simp only [ho, Sem.run_bind, hrun, Result.andThen_ok, Sem.run_pure]) h
theorem in_store (hgd : Region.wanted o (yielded ops a.tmps) = true) (ty : TypeId) {x y : Operand} (ho : o.op = .store ty x y) {p v : Value} (hx : a.eval x = p) (hy : a.eval y = v) (hrun : (Instr.storeAt ty p v).run P w = .ok () w') (h : wpListIn F n P ops Q rest (a.put o.dst undef) w') : wpListIn F n P ops Q (o :: rest) a w :=
  in_skp hgd (by simp [Oper.about, ho]) (by rw [ho]; intro c e; cases e) (by unfold execOp; simp only [ho, hx, hy, Sem.run_bind, hrun, Result.andThen_ok, Sem.run_pure]) h
end
theorem grown_of_below {V V' : World} (h : Below V.heap.size V V') : V.grownBy V' none := ⟨h.os, h.tape, h.output, h.size, fun k hk _ => h.block k hk⟩
theorem keeps_of_below {V V' : World} (h : Below V.heap.size V V') (B : Nat) : KeepsFrom B V V' := ⟨h.size, fun k _ _ hk _ => (h.block k (Array.getElem?_eq_some_iff.1 hk).1).trans hk⟩
theorem own_below {β : Type} {B : Nat} {J : β → World → Prop} (h : OwnFrom B J) {s : β} {V V' : World} (hs : J s V) (hb : Below V.heap.size V V') : J s V' := h s V V' none hs (grown_of_below hb) (fun _ e => by cases e)
theorem own_wide {β : Type} {B C : Nat} {J : β → World → Prop} (h : OwnFrom B J) (hb : B ≤ C) : OwnFrom C J := fun s V V' row hs hg hr => h s V V' row hs hg fun r e => ⟨Nat.le_trans hb (hr r e).1, (hr r e).2⟩
theorem own_box {β : Type} (B k : Nat) (t : TypeId) (v : Value) : OwnFrom B (fun (_ : β) W => Boxed W k t v) := Own.from (boxed_own k t (fun _ => v)) B

/-- a record that has come in -/
abbrev WR := { r : R.Rec // r.Wf }
abbrev recs (xs : List WR) : List R.Rec := xs.map (·.1)
/-- what a round over the records keeps: what lay below, and the boxes of three kinds that the iterator has laid -/
structure KP (n₀ : Nat) (W W' : World) : Prop where
  low : Below n₀ W W'
  typ : ∀ k v t, (t = 31 ∨ t = 23 ∨ t = 120) → Boxed W k t v → Boxed W' k t v
theorem KP.trans {n₀ : Nat} {A B C : World} (h : KP n₀ A B) (k : KP n₀ B C) : KP n₀ A C := ⟨h.low.trans k.low, fun i v t ht hb => k.typ i v t ht (h.typ i v t ht hb)⟩
theorem KP.putObj {n₀ : Nat} (W : World) (l : Nat) (o o' : Obj) (hl : n₀ ≤ l) (h : W.heap[l]? = some o) (hc : o.isCells = false) : KP n₀ W (W.putObj l o') := by
  refine ⟨⟨rfl, rfl, rfl, by simp, fun k hk => World.putObj_heap_other (by omega)⟩, fun k v t _ hb => ?_⟩
  refine (World.putObj_heap_other ?_).trans hb
  rintro rfl
  have hb' : W.heap[k]? = some (.cells #[v] t (0, 0)) := hb
  rw [hb'] at h
  cases h
  cases hc
theorem KP.below {n₀ : Nat} {W W' : World} (h : Below W.heap.size W W') (hn : n₀ ≤ W.heap.size) : KP n₀ W W' := ⟨h.mono hn, fun k _ _ _ hb => (h.block k hb.lt).trans hb⟩

/-- **what All asks of a log**: its tail, its end, what it reads, in every later world -/
structure Rdr (w0 : World) (lp : Option Addr) (t e : Int) (rd : Int → R.Rec × Int) : Prop where
  tl : ∀ V, Below w0.heap.size w0 V → Calls Tryd.prog 19 #[.pointer lp] V fun r w' => r = .returned (.int .u64 t) ∧ V = w'
  en : ∀ V, Below w0.heap.size w0 V → Calls Tryd.prog 20 #[.pointer lp] V fun r w' => r = .returned (.int .u64 e) ∧ V = w'
  rdc : ∀ V, Below w0.heap.size w0 V → ∀ x, 0 ≤ x → Calls Tryd.prog 14 #[.pointer lp, .int .u64 x] V fun r w' => r = .returned (.tuple #[.agg (R.rcells (rd x).1).toArray, .int .i64 (rd x).2]) ∧ Below V.heap.size V w'
  wf : ∀ x, (rd x).1.Wf
  pos : ∀ x, (rd x).2 = 0 → (rd x).1.pos = x
  t0 : 0 ≤ t
  te : t ≤ e
  eM : e ≤ 4611686018427387904
  us : e - t ≤ 64
theorem LD.rdr {w : World} {S : Nat → Prop} {L p : Nat} {d : List Int} {ws : List Wr} {g : Lg} (h : LD w S L p d ws g) (ht : Tab w) : Rdr w (some ⟨L, 0, none⟩) g.tail g.fin (rdS g (newest ws d)) := by
  have h1 := h.ok.t0; have h2 := h.ok.tm; have h3 := h.ok.mf; have h4 := h.ok.fM; have h5 := h.ok.us; have h6 := h.ok.cf.2.1
  refine ⟨fun V hb => ltail_at (LAt.later h.log hb), fun V hb => lend_at (LAt.later h.log hb), fun V hb x hx => wread_at (h.later hb) (ht.later hb) x hx, fun x => ?_, fun x hx => (rdS_pos hx).1, h1, by omega, h4, by omega⟩
  obtain ⟨q', cap, v', hp⟩ := h.dsk
  exact rdS_wf (newk_bytes hp.db hp.fit _)
theorem GAt.rdr {w : World} {L : Nat} {g : Lg} (h : GAt w L none g) (ok : g.Ok) : Rdr w (some ⟨L, 0, none⟩) g.tail g.fin (fun _ => (R.rec0, 1)) := by
  have h1 := ok.t0; have h2 := ok.tm; have h3 := ok.mf; have h4 := ok.fM; have h5 := ok.us; have h6 := ok.cf.2.1
  exact ⟨fun V hb => ltail_at (LAt.later h hb), fun V hb => lend_at (LAt.later h hb), fun V hb x _ => wread_none (LAt.later h hb) x, fun _ => R.rec0_wf, fun _ e => (by cases e), h1, by omega, h4, by omega⟩
theorem nil_rdr (w : World) : Rdr w none 0 0 (fun _ => (R.rec0, 1)) :=
  ⟨fun V _ => ltail_nil V, fun V _ => lend_nil V, fun V _ x _ => wread_nil x V, fun _ => R.rec0_wf, fun _ e => (by cases e), Int.le_refl 0, Int.le_refl 0, by decide, by decide⟩
/-- each of these positions has been read, and these are its records -/
def Rds (rd : Int → R.Rec × Int) (pre : List G.U64) (xs : List WR) : Prop := pre.map (fun u => rd u.1) = xs.map fun x => (x.1, 0)
theorem Rds.nil (rd : Int → R.Rec × Int) : Rds rd [] [] := rfl
theorem Rds.snoc {rd : Int → R.Rec × Int} {pre : List G.U64} {xs : List WR} (h : Rds rd pre xs) {u : G.U64} {x : WR} (hx : rd u.1 = (x.1, 0)) : Rds rd (pre ++ [u]) (xs ++ [x]) := by
  unfold Rds at *
  rw [List.map_append, List.map_append, h, List.map_singleton, List.map_singleton, hx]
theorem Rds.len {rd : Int → R.Rec × Int} {pre : List G.U64} {xs : List WR} (h : Rds rd pre xs) : pre.length = xs.length := by
  have := congrArg List.length h
  simpa using this
theorem allR_step (rd : Int → R.Rec × Int) : ∀ (m : Nat) (t : Int) (k : Nat) (xs : List R.Rec), m ≤ k → ((List.range m).map fun (i : Nat) => rd (t + (i : Int))) = xs.map (fun x => (x, 0)) → allR rd t k = xs ++ allR rd (t + m) (k - m)
  | 0, t, k, xs, _, h => by
    cases xs with
    | nil => simp
    | cons a r => simp at h
  | m + 1, t, k, xs, hk, h => by
    obtain ⟨k', rfl⟩ : ∃ k', k = k' + 1 := ⟨k - 1, by omega⟩
    rw [List.range_succ_eq_map, List.map_cons, List.map_map] at h
    cases xs with
    | nil => simp at h
    | cons a r =>
      rw [List.map_cons] at h
      obtain ⟨h1, h2⟩ := List.cons.inj h
      have e0 : t + ((0 : Nat) : Int) = t := by omega
      rw [e0] at h1
      have ih := allR_step rd m (t + 1) k' r (by omega) (by
        rw [← h2]
        apply List.map_congr_left
        intro i _
        show rd (t + 1 + (i : Int)) = rd (t + ((i + 1 : Nat) : Int))
        congr 1
        omega)
      show (if (rd t).2 = 0 then (rd t).1 :: allR rd (t + 1) k' else []) = _
      rw [h1, if_pos rfl, ih]
      simp only [List.cons_append]
      rw [show t + 1 + (m : Int) = t + ((m + 1 : Nat) : Int) by omega, show k' - m = k' + 1 - (m + 1) by omega]
theorem Rds.all {rd : Int → R.Rec × Int} {pre : List G.U64} {xs : List WR} {t e : Int} (h : Rds rd pre xs) (hu : e - t ≤ 64) (hp : G.nums pre <+: G.spanI t e) : allR rd t (e - t).toNat = recs xs ++ allR rd (t + pre.length) ((e - t).toNat - pre.length) := by
  have hk : G.spanN t e = (e - t).toNat := by unfold G.spanN; omega
  have hpl : pre.length ≤ (e - t).toNat := by
    have := hp.length_le
    rw [G.spanI_length, hk] at this
    simpa using this
  refine allR_step rd pre.length t _ _ hpl ?_
  have e1 : G.nums pre = (List.range pre.length).map fun (i : Nat) => t + (i : Int) := by
    have := List.prefix_iff_eq_take.1 hp
    rw [this, G.spanI, ← List.map_take, List.take_range]
    simp only [List.length_map]
    congr 2
    rw [hk]; omega
  have e2 : ((List.range pre.length).map fun (i : Nat) => rd (t + (i : Int))) = (G.nums pre).map fun p => rd p := by rw [e1, List.map_map]; rfl
  rw [e2, List.map_map]
  have h' : pre.map (fun u => rd u.1) = xs.map fun x => (x.1, 0) := h
  rw [show ((fun p => rd p) ∘ fun (x : G.U64) => x.1) = fun u => rd u.1 from rfl, h', List.map_map]
  rfl
end Go.Proofs.YtmcpjokbkkfgfaaDoor
