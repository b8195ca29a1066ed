/-
  A range over an iterator: the contract of a sequence, and the law of the loop over it.
-/
import Derived.Test.YthcpnfelnonhnaaDoorEa
import Derived.RangeFuncNested
import Derived.RangeFuncBound
import Derived.RangeFuncCalls
import Derived.RangeFuncLeaves
import Derived.Shelf.Abstract
import Derived.Shelf.RegionOpen
import Derived.WalkKit
import Derived.OwnWalkIn
import Derived.TacticsInMore
import Derived.LoopNIn
import Derived.LoopIn
import Derived.Laws.EntriesVeiled
import Derived.RangeFuncBox
namespace Go.Proofs.YthcpnfelnonhnaaDoor
open Go.RowKit

open Go.Shelf
attribute [local go_sem] Oper.semAt_some
/-- where no depth is asked, a round may be asked for from any depth, and from within another loop's round -/
theorem yield_deep {F : Fence} (hd : F.depth = none) {m : Nat} (m' l₁ : Nat) {P : Program} {l : Nat} {args : Array Value} {W : World} {R : Ending → World → Prop} (h : YieldAt F m P l args W R) : YieldAt (F.inRound l₁) m' P l args W R := by
  obtain ⟨fn, tmps, assign, body, hy, hf, hR⟩ := h
  exact ⟨fn, tmps, assign, body, hy, hf, fun c cs _ => hR c cs (fun d e => by rw [hd] at e; cases e)⟩

/-- the contract: the invariants abide whatever turns no cells from here on; a round keeps what is no cells and was laid from here on -/
def SeqIn {α : Type} (F : Fence) (n : Nat) (P : Program) (g : Nat) (lb : Array Value) (encs : α → Array Value) (Kp : World → World → Prop) (S Sp : List α → Prop) (N : Nat) (w : World) : Prop :=
  ∀ (l : Nat) (J Jx : List α → World → Prop) (W : World), Below w.heap.size w W → OwnFrom W.heap.size J → OwnFrom W.heap.size Jx →
    (∀ pre x V, J pre V → pre.length < N → YieldAt F (n - 1) P l (encs x) V fun e V' =>
      KeepsFrom W.heap.size V V' ∧ ((e = .returned (.bool true) ∧ J (pre ++ [x]) V' ∧ Kp V V') ∨ (e = .returned (.bool false) ∧ Jx (pre ++ [x]) V'))) →
    J [] W →
    CallsIn F n P g (#[.func (.yield l) #[] #[]] ++ lb) W fun e V => (∃ v, e = .returned v) ∧ ((∃ xs, S xs ∧ J xs V) ∨ (∃ pre, Sp pre ∧ Jx pre V))

/-- the two blocks that a loop lays: that of its rounds' deferred calls, and its record in this state -/
structure Laid2 (D : Nat) (r : Loop) (W : World) : Prop where
  rcd : W.heap[D + 1]? = some (.loop r)
  dfr : W.heap[D]? = some (.deferred (some []))
theorem Laid2.lt {D : Nat} {r : Loop} {W : World} (h : Laid2 D r W) : D + 1 < W.heap.size := (Array.getElem?_eq_some_iff.1 h.rcd).1
theorem Laid2.keeps {D : Nat} {r : Loop} {W W' : World} (h : Laid2 D r W) (hk : KeepsFrom D W W') : Laid2 D r W' := ⟨hk.same _ _ (by omega) h.rcd rfl, hk.same _ _ (Nat.le_refl _) h.dfr rfl⟩
theorem Laid2.put {D : Nat} {r : Loop} {W : World} (h : Laid2 D r W) (r' : Loop) : Laid2 D r' (W.putObj (D + 1) (.loop r')) := ⟨World.putObj_heap_same h.lt, (World.putObj_heap_other (by omega)).trans h.dfr⟩
theorem Laid2.own {D : Nat} {r : Loop} {β : Type} : OwnFrom (D + 2) (fun (_ : β) W => Laid2 D r W) := fun _ W W' row hs hg hr => by
  have e : ∀ k, k < D + 2 → k < W.heap.size → W'.heap[k]? = W.heap[k]? := fun k h1 h2 => hg.block k h2 fun e => by have := (hr k e.symm).1; omega
  have := hs.lt
  exact ⟨(e _ (by omega) (by omega)).trans hs.rcd, (e _ (by omega) (by omega)).trans hs.dfr⟩
theorem keeps_put (D : Nat) (W : World) (r' : Loop) : KeepsFrom (D + 2) W (W.putObj (D + 1) (.loop r')) :=
  ⟨by simp, fun _ _ hk h1 _ => (World.putObj_heap_other (by omega)).trans h1⟩
theorem keeps_more {B C : Nat} {W W' : World} (h : KeepsFrom B W W') (hb : B ≤ C) : KeepsFrom C W W' := ⟨h.size, fun k o hk => h.same k o (by omega)⟩

section
variable {F : Fence} {n : Nat} {P : Program}
/-- **the law** -/
theorem range_in {α : Type} {g : Operand} {ps : Array Tmp} {assign body : Code} {Q : Exit → Act → World → Prop} {a : Act} {w : World}
    (hro : F.round = none) (h1 : 1 ≤ n) {gf : Nat} {lb : Array Value} (hg : a.eval g = .func (.func gf) #[] lb) (hFg : F.fn gf) (eg : ∀ args w, (callFunc gf args).run P w = .ok (.enter gf args) w)
    {encs : α → Array Value} {Kp : World → World → Prop} {S Sp : List α → Prop} {N : Nat} {w0 : World} (hseq : SeqIn F (n - 1) P gf lb encs Kp S Sp N w0)
    (hKt : ∀ {A B C : World}, Kp A B → Kp B C → Kp A C) (hKb : ∀ (W : World) (l : Nat) (o o' : Obj), w.heap.size ≤ l → W.heap[l]? = some o → o.isCells = false → Kp W (W.putObj l o')) (hb0 : Below w0.heap.size w0 w) (hps : ∀ x, (encs x).size = ps.size)
    (I : List α → World → Prop) (Ix : Code → List α → World → Prop) (hI : OwnFrom w.heap.size I) (hIx : ∀ c, OwnFrom w.heap.size (Ix c)) (h0 : I [] w) (Ax : α → Act → World → Prop) (hAx : ∀ x a', OwnFrom w.heap.size (fun (_ : Unit) W => Ax x a' W))
    (hassign : ∀ (l : Nat) (pre : List α) (x : α) (W : World) (K : Act → World → Prop), I pre W → (∀ a' W', KeepsFrom w.heap.size W W' → Kp W W' → I pre W' → Ax x a' W' → K a' W') →
      assign.wpIn (F.inRound l) (n - 1 - 1) P (Exit.then K (fun _ _ _ => False)) { tmps := (ps.zip (encs x)).foldl (fun t (p, v) => t.setIfInBounds p v) a.tmps, defers := [] } W)
    (hbody : ∀ (l : Nat) (pre : List α) (x : α) (a' : Act) (W : World), I pre W → Ax x a' W → pre.length < N → body.wpIn (F.inRound l) (n - 1 - 1) P (ownPostG w.heap.size Kp I Ix (pre ++ [x]) W) a' W)
    (hdone : ∀ (D : Nat) (xs : List α) (W : World), w.heap.size ≤ D → S xs → I xs W → W.heap[D]? = some (.deferred (some [])) → Q .normal { a with defers := { target := .collected D, args := #[] } :: a.defers } W)
    (hstop : ∀ (D : Nat) (c : Code) (pre : List α) (W : World), w.heap.size ≤ D → Sp pre → Ix c pre W → W.heap[D]? = some (.deferred (some [])) → c.wpIn F n P Q { a with defers := { target := .collected D, args := #[] } :: a.defers } W) :
    (Code.rangeFunc g ps assign body).wpIn F n P Q a w := by
  obtain ⟨D, hD⟩ : ∃ D, D = w.heap.size := ⟨_, rfl⟩
  refine wpIn_rangeFunc fun fn hfn => ?_
  rw [hro]
  let rec0 : LoopState → Option Code → Loop := fun st pe => { state := st, pending := pe, fn, tmps := a.tmps, params := ps, assign, body, defers := w.heap.size }
  obtain ⟨V0, hV0⟩ : ∃ V, (w.alloc (.deferred (some []))).alloc (.loop (rec0 .ready none)) = V := ⟨_, rfl⟩
  have hs0 : V0.heap.size = D + 2 := by rw [← hV0, hD]; simp
  have L0 : Laid2 D (rec0 .ready none) V0 := by
    rw [← hV0, hD]
    refine ⟨?_, (Below.heap_alloc _ _ _ (by simp)).trans (World.alloc_heap_new w _)⟩
    have := World.alloc_heap_new (w.alloc (.deferred (some []))) (.loop (rec0 .ready none))
    rwa [World.size_alloc] at this
  have hb1 : Below w0.heap.size w0 V0 := by
    rw [← hV0]; exact hb0.trans ((((Below.refl _ w).alloc (Nat.le_refl _) _).alloc (by simp) _).mono hb0.size)
  refine ⟨D + 1, [{ target := .collected D, args := #[] }], V0, { target := .fn (.func gf) lb, args := #[.func (.yield (D + 1)) #[] #[]] }, V0, gf, #[.func (.yield (D + 1)) #[] #[]] ++ lb, V0, ?_, ?_, ?_, ?_, fun _ => h1, ?_⟩
  · rw [← hV0, hD]; exact run_enterLoop_outer _ _ _ _ _
  · simp only [resolve, hg]; simp [go_sem]
  · intro f' hf'; simp [Target.leads] at hf'; subst hf'; exact hFg
  · simp [invoke, go_sem, eg]
  have hIw : OwnFrom (D + 2) I := fun s A B row hs hg' hr => hI s A B row hs hg' fun r e => ⟨by have := (hr r e).1; omega, (hr r e).2⟩
  have hIxw : ∀ c, OwnFrom (D + 2) (Ix c) := fun c s A B row hs hg' hr => hIx c s A B row hs hg' fun r e => ⟨by have := (hr r e).1; omega, (hr r e).2⟩
  refine (hseq (D + 1) (fun pre W => I pre W ∧ Laid2 D (rec0 .ready none) W) (fun pre W => ∃ c, Ix c pre W ∧ Laid2 D (rec0 .done (some c)) W) V0 hb1 ?_ ?_ ?_ ⟨?_, L0⟩).mono ?_
  · rw [hs0]; exact OwnFrom.and hIw Laid2.own
  · rw [hs0]; intro s A B row hs hg' hr
    obtain ⟨c, hc, hl⟩ := hs
    exact ⟨c, hIxw c s A B row hc hg' hr, Laid2.own () A B row hl hg' hr⟩
  · rintro pre x W ⟨hi, hl⟩ hlen
    rw [hs0]
    refine ⟨fn, _, assign, body, run_yield hl.rcd (hps x), roundIn_of_wpIn hfn (hassign _ pre x W _ hi ?_)⟩
    intro a' Wa ka kpa hia hax
    rw [← hD] at ka
    have la := hl.keeps ka
    refine ⟨_, run_beginRound la.rcd rfl, ?_⟩
    have lb' := la.put { rec0 .ready none with state := .busy }
    refine wpIn_mono (hbody _ pre x a' _ (hI.putObj _ hia (by omega) la.rcd rfl) ((hAx x a').putObj (s := ()) _ hax (by omega) la.rcd rfl) hlen) ?_
    have fin : ∀ (jump : Option Code) (W3 : World), KeepsFrom w.heap.size (Wa.putObj (D + 1) (.loop { rec0 .ready none with state := .busy })) W3 →
        ∃ r, W3.heap[D + 1]? = some (.loop r) ∧ (Instr.endRound (D + 1) jump).run P W3 = .ok (.bool jump.isNone) (W3.putObj (D + 1) (.loop (rec0 (if jump.isNone then .ready else .done) jump))) ∧
        Laid2 D (rec0 (if jump.isNone then .ready else .done) jump) (W3.putObj (D + 1) (.loop (rec0 (if jump.isNone then .ready else .done) jump))) ∧
        KeepsFrom (D + 2) W (W3.putObj (D + 1) (.loop (rec0 (if jump.isNone then .ready else .done) jump))) := fun jump W3 k3 => by
      rw [← hD] at k3
      have l3 := lb'.keeps k3
      exact ⟨_, l3.rcd, run_endRound jump l3.rcd, l3.put _, (((keeps_more ka (by omega)).trans (keeps_put D _ _)).trans (keeps_more k3 (by omega))).trans (keeps_put D _ _)⟩
    rintro e a3 W3 hp
    cases e with
    | normal =>
      obtain ⟨k3, kp3, i3⟩ := hp
      obtain ⟨r, hr, e3, l3, kk⟩ := fin none W3 k3
      exact ⟨_, _, e3, kk, .inl ⟨rfl, ⟨hI.putObj _ i3 (by omega) hr rfl, l3⟩, hKt kpa (hKt (hKt (hKb _ _ _ _ (by omega) la.rcd rfl) kp3) (hKb _ _ _ _ (by omega) hr rfl))⟩⟩
    | ret =>
      obtain ⟨k3, i3⟩ := hp
      obtain ⟨r, hr, e3, l3, kk⟩ := fin (some .ret) W3 k3
      exact ⟨_, _, e3, kk, .inr ⟨rfl, .ret, (hIx _).putObj _ i3 (by omega) hr rfl, l3⟩⟩
    | exit id =>
      obtain ⟨k3, i3⟩ := hp
      obtain ⟨r, hr, e3, l3, kk⟩ := fin (some (.exit id)) W3 k3
      exact ⟨_, _, e3, kk, .inr ⟨rfl, .exit id, (hIx _).putObj _ i3 (by omega) hr rfl, l3⟩⟩
    | goto t =>
      obtain ⟨k3, i3⟩ := hp
      obtain ⟨r, hr, e3, l3, kk⟩ := fin (some (.goto t)) W3 k3
      exact ⟨_, _, e3, kk, .inr ⟨rfl, .goto t, (hIx _).putObj _ i3 (by omega) hr rfl, l3⟩⟩
    | panic ch => exact hp.elim
    | outgrown => exact hp.elim
  · rw [← hV0]; exact hI.alloc _ (hI.alloc _ h0)
  · rintro e W2 ⟨⟨v, rfl⟩, (⟨xs, hS, hi, hl⟩ | ⟨pre, hSp, c, hi, hl⟩)⟩
    · exact ⟨none, _, run_endLoop hl.rcd (by simp [rec0]), hdone _ xs _ (by omega) hS (hI.putObj _ hi (by omega) hl.rcd rfl) ((World.putObj_heap_other (by omega)).trans hl.dfr)⟩
    · exact ⟨some c, _, run_endLoop hl.rcd (by simp [rec0]), hstop _ c pre _ (by omega) hSp ((hIx c).putObj _ hi (by omega) hl.rcd rfl) ((World.putObj_heap_other (by omega)).trans hl.dfr)⟩
end
section
variable {F : Fence} {n : Nat} {P : Program} {ops : Array Oper} {rest : List Oper} {o : Oper} {a : Act} {w w' : World} {Q : Exit → Act → World → Prop}
theorem in_ops (h : wpListIn F n P ops Q (o :: rest) a w) : wpListIn F n P ops Q (o :: rest) a w := h
theorem in_val (hgd : Region.wanted o (yielded ops a.tmps) = true) (hab : o.about P w a.eval = none) (hop : ∀ c, o.op ≠ .defer c) {v : Value} (hrun : (execOp a.eval o).run P w = .ok (.value v) w') (h : wpListIn F n P ops Q rest (a.put o.dst v) w') : wpListIn F n P ops Q (o :: rest) a w :=
  wpListIn_step fun K hK => by
    rw [if_pos hgd]
    unfold Oper.wpIn
    refine ⟨fun f hf => (by rw [hab] at hf; cases hf), ?_⟩
    rw [Oper.semAt_plain F _ _ hop, hrun]
    exact hK _ _ h
theorem in_skp (hgd : Region.wanted o (yielded ops a.tmps) = true) (hab : o.about P w a.eval = none) (hop : ∀ c, o.op ≠ .defer c) (hrun : (execOp a.eval o).run P w = .ok .skip w') (h : wpListIn F n P ops Q rest (a.put o.dst undef) w') : wpListIn F n P ops Q (o :: rest) a w :=
  wpListIn_step fun K hK => by
    rw [if_pos hgd]
    unfold Oper.wpIn
    refine ⟨fun f hf => (by rw [hab] at hf; cases hf), ?_⟩
    rw [Oper.semAt_plain F _ _ hop, hrun]
    exact hK _ _ h
theorem in_load (hgd : Region.wanted o (yielded ops a.tmps) = true) (ty : TypeId) {x : Operand} (ho : o.op = .load ty x) {p v : Value} (hx : a.eval x = p) (hrun : (Instr.loadAt ty p).run P w = .ok v w) (h : wpListIn F n P ops Q rest (a.put o.dst v) w) : wpListIn F n P ops Q (o :: rest) a w :=
  in_val hgd (by simp [Oper.about, ho]) (by rw [ho]; intro c e; cases e) (by unfold execOp; simp only [ho, hx, Sem.run_bind, hrun, Result.andThen_ok, Sem.run_pure]) h
theorem in_alloc (hgd : Region.wanted o (yielded ops a.tmps) = true) (ty : TypeId) (ho : o.op = .alloc ty) {v : Value} (hrun : (Instr.alloc ty true (.tuple #[])).run P w = .ok v w') (h : wpListIn F n P ops Q rest (a.put o.dst v) w') : wpListIn F n P ops Q (o :: rest) a w :=
  in_val hgd (by simp [Oper.about, ho]) (by rw [ho]; intro c e; cases e) (by unfold execOp; simp only [ho, Sem.run_bind, hrun, Result.andThen_ok, Sem.run_pure]) h
theorem in_store (hgd : Region.wanted o (yielded ops a.tmps) = true) (ty : TypeId) {x y : Operand} (ho : o.op = .store ty x y) {p v : Value} (hx : a.eval x = p) (hy : a.eval y = v) (hrun : (Instr.storeAt ty p v).run P w = .ok () w') (h : wpListIn F n P ops Q rest (a.put o.dst undef) w') : wpListIn F n P ops Q (o :: rest) a w :=
  in_skp hgd (by simp [Oper.about, ho]) (by rw [ho]; intro c e; cases e) (by unfold execOp; simp only [ho, hx, hy, Sem.run_bind, hrun, Result.andThen_ok, Sem.run_pure]) h
end
theorem keeps_of_below {V V' : World} (h : Below V.heap.size V V') (B : Nat) : KeepsFrom B V V' := ⟨h.size, fun k _ _ hk _ => (h.block k (Array.getElem?_eq_some_iff.1 hk).1).trans hk⟩
theorem own_below {β : Type} {B : Nat} {J : β → World → Prop} (h : OwnFrom B J) {s : β} {V V' : World} (hs : J s V) (hb : Below V.heap.size V V') : J s V' := h s V V' none hs (grown_of_below hb) (fun _ e => by cases e)
theorem own_wide {β : Type} {B C : Nat} {J : β → World → Prop} (h : OwnFrom B J) (hb : B ≤ C) : OwnFrom C J := fun s V V' row hs hg hr => h s V V' row hs hg fun r e => ⟨Nat.le_trans hb (hr r e).1, (hr r e).2⟩
theorem own_box {β : Type} (B k : Nat) (t : TypeId) (v : Value) : OwnFrom B (fun (_ : β) W => Boxed W k t v) := Own.from (boxed_own k t (fun _ => v)) B

end Go.Proofs.YthcpnfelnonhnaaDoor
