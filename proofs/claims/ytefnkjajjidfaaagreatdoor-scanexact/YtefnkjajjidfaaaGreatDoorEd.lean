/-
  Layer 10: what Read has in memory while it looks.
-/
import Derived.Test.YtefnkjajjidfaaaGreatDoorEa
import Derived.Test.YtefnkjajjidfaaaGreatDoorDLd
import Derived.Test.YtefnkjajjidfaaaGreatDoorGRc
import Derived.RangeFuncNested
import Derived.RangeFuncBound
import Derived.RangeFuncBox
import Derived.RangeFuncWrites
namespace Go.Proofs.YtefnkjajjidfaaaGreatDoor
open Go.RowKit


/-- a log's cells -/
def gcells (t l f : Int) (v : Value) : List Value := [.int .u64 t, .int .u64 l, .int .u64 f, v]
theorem gcells_ones {v : Value} (hv : v.oneCell' = true) (t l f : Int) : ∀ u ∈ gcells t l f v, u.oneCell' = true := by
  intro u hu
  simp only [gcells, List.mem_cons, List.not_mem_nil, or_false] at hu
  rcases hu with rfl | rfl | rfl | rfl
  · rfl
  · rfl
  · rfl
  · exact hv
theorem sizeLg : (Tryz.prog.info? 39).map (·.size) = some 4 := by kernel_rfl
theorem zeroLg : (Tryz.prog.info? 39).bind (·.zero) = some (.agg (gcells 0 0 0 (.slice none 0 0)).toArray) := by kernel_rfl
def plLg : List (Nat × Nat) := [(0, 1), (1, 1), (2, 1), (3, 1)]
theorem placesLg : placesOf Tryz.prog 39 = some plLg := by kernel_rfl
theorem buildL0 (w : World) : (Instr.build 39 #[]).run Tryz.prog w = .ok (.agg (gcells 0 0 0 (.slice none 0 0)).toArray) w := run_build w 39 _ _ ((built_of 39 _ _ _ placesLg zeroLg).trans rfl)
theorem buildL3 (w : World) (t l f : Int) : (Instr.build 39 #[(0, .int .u64 t), (1, .int .u64 l), (2, .int .u64 f)]).run Tryz.prog w = .ok (.agg (gcells t l f (.slice none 0 0)).toArray) w :=
  run_build w 39 _ _ ((built_of 39 _ _ _ placesLg zeroLg).trans rfl)
theorem allocLg (w : World) : (Instr.alloc 39 true (.tuple #[])).run Tryz.prog w = .ok (.pointer (some ⟨w.heap.size, 0, none⟩)) (w.alloc (.cells (gcells 0 0 0 (.slice none 0 0)).toArray 39)) := by
  simp only [Instr.alloc, Sem.run_bind, zv 39 _ zeroLg, Result.andThen_ok]
  simp [newVar, newRow, Value.cells]
theorem storeLg (w : World) (t l f : Int) {v : Value} (hv : v.oneCell' = true) : (Instr.storeAt 39 (.pointer (some ⟨w.heap.size, 0, none⟩)) (.agg (gcells t l f v).toArray)).run Tryz.prog (w.alloc (.cells (gcells 0 0 0 (.slice none 0 0)).toArray 39)) = .ok () (w.alloc (.cells (gcells t l f v).toArray 39)) := by
  rw [(LAt.new 39 w (gcells 0 0 0 (.slice none 0 0))).store (ds := gcells t l f v) sizeLg rfl (all_oneCell_toArray (gcells_ones hv t l f)), setRow_alloc]
theorem LAt.loadLg {w : World} {g : Nat} {t l f : Int} {v : Value} (h : LAt 39 w g (gcells t l f v)) : (Instr.loadAt 39 (.pointer (some ⟨g, 0, none⟩))).run Tryz.prog w = .ok (.agg (gcells t l f v).toArray) w :=
  run_loadAt_mid w g 0 39 (gcells t l f v) _ (LAt.range h) Tryz.underlying39 rfl sizeLg
theorem LAt.free {t : TypeId} {w : World} {g : Nat} {cs : List Value} (h : LAt t w g cs) (j : Nat) : w.frozen? ⟨g, j, none⟩ = false := by
  unfold World.frozen?
  rw [show w.heap[(⟨g, j, none⟩ : Addr).block]? = some (.cells cs.toArray t (0, 0)) from h]
  simp
/-- a transaction's cells -/
theorem infoT : (Tryz.prog.info? 59).map (fun i => (i.zero, i.size, i.bytes)) = some (some (.agg #[.int .u64 0, .slice none 0 0]), 2, 32) := by kernel_rfl
theorem zeroT : (Tryz.prog.info? 59).bind (·.zero) = some (.agg #[.int .u64 0, .slice none 0 0]) := by kernel_rfl
def plT : List (Nat × Nat) := [(0, 1), (1, 1)]
theorem placesT : placesOf Tryz.prog 59 = some plT := by kernel_rfl
theorem buildT (w : World) (p : Int) (q : Option Addr) (n m : Nat) : (Instr.build 59 #[(0, .int .u64 p), (1, .slice q n m)]).run Tryz.prog w = .ok (.agg #[.int .u64 p, .slice q n m]) w :=
  run_build w 59 _ _ ((built_of 59 _ _ _ placesT zeroT).trans rfl)
theorem build_tx (w : World) (p : Int) (q : Option Addr) (n m : Nat) : (Instr.buildSlice 37 1 #[(0, .agg #[.int .u64 p, .slice q n m])]).run Tryz.prog w = .ok (.slice (some ⟨w.heap.size, 0, none⟩) 1 1) (w.alloc (.cells #[.int .u64 p, .slice q n m] 59)) := by
  obtain ⟨i0, hi, hz0, hz1, hz2⟩ := info_parts infoT
  refine run_buildSlice w 37 59 1 _ _ i0 _ Tryz.underlying37 hi hz0 (by rw [hz1]; decide) (by rw [hz1]; decide) ?_
  rw [hz1]
  have hA : ∀ A : Array Value, A.size = 2 → Instr.fill (fun i => some (i * 2, 2)) A [(0, .agg #[.int .u64 p, .slice q n m])] = some #[.int .u64 p, .slice q n m] := by
    intro A hA
    have a0 := part_fill 0 [.int .u64 p, .slice q n m] A.toList (by simp; omega)
    simp only [Instr.fill, Value.cells, List.size_toArray, Nat.zero_mul]
    rw [if_neg (by simp [hA])]
    have a0' : (#[Value.int .u64 p, .slice q n m]).zipIdx.foldl (fun cs x => match x with | (c, j) => cs.setIfInBounds (0 + j) c) A = ((A.toList.take 0 ++ [Value.int .u64 p, Value.slice q n m] ++ A.toList.drop (0 + 2))).toArray := a0
    rw [a0', List.drop_eq_nil_of_le (by simp [hA])]
    simp
  exact hA _ (by simp)
theorem own_cells {W W' : World} (hc : ∀ (k : Nat) (o : Obj), W.heap[k]? = some o → o.isCells = true → W'.heap[k]? = some o) {B : Nat} {e : TypeId} {sz : Nat} {v : Value} {n : Nat} {xs : List Value} (h : W.ownsRow B e sz v n xs) : W'.ownsRow B e sz v n xs := by
  refine ⟨h.1, ?_⟩
  rcases h.2 with h | ⟨g, cap, cur, h1, h2, h3, h4⟩
  · exact .inl h
  · exact .inr ⟨g, cap, cur, h1, h2, hc g _ h3 rfl, h4⟩
theorem XOwn.cells {W W' : World} (hc : ∀ (k : Nat) (o : Obj), W.heap[k]? = some o → o.isCells = true → W'.heap[k]? = some o) {e : TypeId} {B : Nat} {v : Value} {l : List TX} {vs : List Value} (h : XOwn e W B v l vs) : XOwn e W' B v l vs :=
  ⟨h.len, own_cells hc h.row, fun k t u a b => own_cells hc (h.each k t u a b), h.wf⟩
/-- **what Read has in memory** -/
structure RdM (w W : World) (Bd Bc Br Bl Bo Bt Be : Nat) (dp : Option Addr) (c : Sup) (t l e : Int) (s : Sc) (v : Value) (vs : List Value) (cv : Value) (Bx : Nat) : Prop where
  dk : Boxed W Bd 27 (.pointer dp)
  cf : CAt W Bc c
  rs : LAt 39 W Br (gcells 0 0 0 (.slice none 0 0))
  bt : Boxed W Bt 31 (.int .u64 t)
  be : Boxed W Be 31 (.int .u64 e)
  lg : LAt 39 W Bl (gcells t l s.fin v)
  co : Boxed W Bo 52 cv
  tx : XOwn 59 W w.heap.size v s.txs vs
  im : IOwn W Bx cv s.come
  up : Rise vs Bx
  x0 : w.heap.size ≤ Bx
  x1 : Bx ≤ W.heap.size
  low : Below w.heap.size w W
  ne : Bl ≠ Br
  l0 : w.heap.size ≤ Bl
  o0 : w.heap.size ≤ Bo
theorem RdM.cells {W W' : World} {w : World} {Bd Bc Br Bl Bo Bt Be Bx : Nat} {dp : Option Addr} {c : Sup} {t l e : Int} {s : Sc} {v cv : Value} {vs : List Value} (h : RdM w W Bd Bc Br Bl Bo Bt Be dp c t l e s v vs cv Bx)
    (hc : ∀ (k : Nat) (o : Obj), W.heap[k]? = some o → o.isCells = true → W'.heap[k]? = some o) (hs : W.heap.size ≤ W'.heap.size) (hb : Below w.heap.size w W') : RdM w W' Bd Bc Br Bl Bo Bt Be dp c t l e s v vs cv Bx :=
  ⟨hc _ _ h.dk rfl, hc _ _ h.cf rfl, hc _ _ h.rs rfl, hc _ _ h.bt rfl, hc _ _ h.be rfl, hc _ _ h.lg rfl, hc _ _ h.co rfl, h.tx.cells hc, own_cells hc h.im, h.up, h.x0, Nat.le_trans h.x1 hs, hb, h.ne, h.l0, h.o0⟩
theorem RdM.later {w V : World} {Bd Bc Br Bl Bo Bt Be Bx : Nat} {dp : Option Addr} {c : Sup} {t l e : Int} {s : Sc} {v cv : Value} {vs : List Value} {V' : World} (h : RdM w V Bd Bc Br Bl Bo Bt Be dp c t l e s v vs cv Bx) (hb : Below V.heap.size V V') : RdM w V' Bd Bc Br Bl Bo Bt Be dp c t l e s v vs cv Bx :=
  h.cells (fun k _ hk _ => (hb.block k (Array.getElem?_eq_some_iff.1 hk).1).trans hk) hb.size (below_then h.low hb)
theorem RdM.own {w : World} {Bd Bc Br Bl Bo Bt Be Bx : Nat} {dp : Option Addr} {c : Sup} {t l e : Int} {s : Sc} {v cv : Value} {vs : List Value} {B : Nat} {β : Type} (hB : w.heap.size ≤ B) : OwnFrom B (fun (_ : β) (W : World) => RdM w W Bd Bc Br Bl Bo Bt Be dp c t l e s v vs cv Bx) := fun _ X Y row hs hg hr =>
  hs.cells (fun _ _ hk hc => (grownBy_keeps_cells hg (fun r e => (hr r e).2) hk hc).trans hk) hg.size (ownFrom_below (β := Unit) (Nat.le_refl _) hB () X Y row hs.low hg hr)
theorem keeps_grown {V V4 : World} {B : Nat} {e : TypeId} {sz n : Nat} {v : Value} {xs : List Value} {tmp : Obj} (hrow : V.ownsRow B e sz v n xs) (hgrow : (V.alloc tmp).grownBy V4 v.ownBlock) : KeepsOthers V V4 := by
  refine (KeepsOthers.alloc V tmp).trans (KeepsOthers.of_grownBy hgrow fun j o ej hj => ?_)
  rcases (hrow.alloc tmp).2 with ⟨rfl, _⟩ | ⟨g, cap, cur, rfl, _, hgb, _⟩
  · simp [Value.ownBlock] at ej
  · obtain rfl : g = j := by simpa [Value.ownBlock] using ej
    rw [hgb] at hj; cases hj; rfl
theorem rise_ne {vs : List Value} {C : Nat} (h : Rise vs C) {w : World} {e : TypeId} {sz n : Nat} {v : Value} {xs : List Value} (hv : w.ownsRow C e sz v n xs) : ∀ u ∈ vs, u.ownBlock = none ∨ u.ownBlock ≠ v.ownBlock := fun u hu => by
  cases hub : u.ownBlock with
  | none => exact .inl rfl
  | some g =>
    refine .inr fun e' => ?_
    have h1 := h.2 u hu g hub
    have h2 := (hv.lt g e'.symm).1
    omega
theorem lat_grown {V V4 : World} {B : Nat} {ty e : TypeId} {sz n k : Nat} {v : Value} {xs cs : List Value} {tmp : Obj} (h : LAt ty V k cs) (hne : ty ≠ e) (hrow : V.ownsRow B e sz v n xs) (hgrow : (V.alloc tmp).grownBy V4 v.ownBlock) : LAt ty V4 k cs := by
  have h' : LAt ty (V.alloc tmp) k cs := (Below.heap_alloc _ _ _ h.lt).trans h
  refine (hgrow.block k h'.lt fun e' => ?_).trans h'
  rcases hrow.2 with ⟨rfl, _⟩ | ⟨g, cap, cur, rfl, _, hgb, _⟩
  · cases e'
  · simp only [Value.ownBlock, Option.some.injEq] at e'
    subst e'
    rw [show V.heap[k]? = _ from h] at hgb
    cases hgb
    exact hne rfl
/-- an image more -/
theorem RdM.img {w V : World} {Bd Bc Br Bl Bo Bt Be Bx : Nat} {dp : Option Addr} {c : Sup} {t l e : Int} {s : Sc} {v cv : Value} {vs : List Value} (h : RdM w V Bd Bc Br Bl Bo Bt Be dp c t l e s v vs cv Bx) (i : Im) (hi : i.Wf) (hl : s.come.length ≤ 64) :
    ∃ v' V4, (Builtin.append_ #[52, 52] 52 #[cv, .slice (some ⟨V.heap.size, 0, none⟩) 1 1]).run Tryz.prog (V.alloc (.cells (icells i).toArray 57)) = .ok v' V4 ∧ Boxed V4 Bo 52 cv ∧ RdM w (V4.setCell ⟨Bo, 0, none⟩ v') Bd Bc Br Bl Bo Bt Be dp c t l e ⟨s.txs, s.fin, s.come ++ [i]⟩ v vs v' Bx ∧ KeepsOthers V (V4.setCell ⟨Bo, 0, none⟩ v') := by
  obtain ⟨i0, hi0, hz0, hz1, hz2⟩ := info_parts infoI
  have h65 : (65 : Nat) ≤ maxLen := by decide
  have hcl := h.x1
  obtain ⟨v', V4, hrun, hown', hgrow, -⟩ := run_append_own (P := Tryz.prog) (V.alloc (.cells (icells i).toArray 57)) Bx 52 52 57 i0 _ 33 40 Tryz.underlying52 hi0 hz0 hz1 hz2 rfl (by decide) cv s.come.length (IC s.come) (h.im.alloc _) ⟨V.heap.size, 0, none⟩ 1 1 (icells i) (by rw [icells_len hi.len]) (fun j u hu => by
    rw [Addr.add_mid, Nat.zero_add, LAt.cell (LAt.new 57 V (icells i)) j]; exact hu) (icells_ones i) (by omega) (by omega) (by simp; omega)
  have hco : Boxed V4 Bo 52 cv := (h.co.alloc _).kept hgrow (h.co.not_row (by decide) h.im)
  have gs := grownBy_setCell' V4 Bo v'
  refine ⟨v', V4, hrun, hco, ⟨?_, ?_, ?_, ?_, ?_, ?_, hco.set v', ?_, ?_, h.up, h.x0, ?_, ?_, h.ne, h.l0, h.o0⟩, (keeps_grown h.im hgrow).trans (KeepsOthers.setCell _ _ _)⟩
  · exact ((h.dk.alloc _).kept hgrow (h.dk.not_row (by decide) h.im)).other (fun e => by have := h.dk; rw [e] at this; have := this.symm.trans h.co; simp at this) _
  · exact LAt.setO (lat_grown h.cf (by decide) h.im hgrow) 0 v' (fun e => by have := h.cf; rw [e] at this; have := this.symm.trans h.co; simp [ccells] at this)
  · exact LAt.setO (lat_grown h.rs (by decide) h.im hgrow) 0 v' (fun e => by have := h.rs; rw [e] at this; have := this.symm.trans h.co; simp [gcells] at this)
  · exact ((h.bt.alloc _).kept hgrow (h.bt.not_row (by decide) h.im)).other (fun e => by have := h.bt; rw [e] at this; have := this.symm.trans h.co; simp at this) _
  · exact ((h.be.alloc _).kept hgrow (h.be.not_row (by decide) h.im)).other (fun e => by have := h.be; rw [e] at this; have := this.symm.trans h.co; simp at this) _
  · exact LAt.setO (lat_grown h.lg (by decide) h.im hgrow) 0 v' (fun e => by have := h.lg; rw [e] at this; have := this.symm.trans h.co; simp [gcells] at this)
  · have x1 := (h.tx.later (below_alloc V _)).kept hgrow (own_ne h.tx.row h.im (by decide)) (rise_ne h.up h.im)
    refine x1.kept gs ?_ (fun u hu => ?_)
    · exact .inr (hco.not_row (by decide) x1.row).symm
    · obtain ⟨k, hk, rfl⟩ := List.getElem_of_mem hu
      have hk' : k < s.txs.length := by rw [← x1.len]; exact hk
      exact .inr (hco.not_row (by decide) (x1.each k s.txs[k] vs[k] (List.getElem?_eq_getElem hk') (List.getElem?_eq_getElem hk))).symm
  · rw [IOwn, IC_snoc, List.length_append, List.length_singleton]
    exact hown'.kept gs (.inr (hco.not_row (by decide) hown').symm)
  · have := hgrow.size
    simp at this ⊢
    omega
  · refine Below.setCell (p := ⟨Bo, 0, none⟩) ?_ h.o0 v'
    exact (below_then h.low (below_alloc V _)).grown hgrow (by have := h.low.size; simp; omega) fun j ej => Nat.le_trans h.x0 (h.im.lt j ej).1
/-- a commit: the transaction is there -/
theorem RdM.com {w V : World} {Bd Bc Br Bl Bo Bt Be Bx : Nat} {dp : Option Addr} {c : Sup} {t l e : Int} {s : Sc} {v cv : Value} {vs : List Value} (h : RdM w V Bd Bc Br Bl Bo Bt Be dp c t l e s v vs cv Bx) (p : Int) (hp : u64 p) (hl : s.txs.length ≤ 64) (hcw : ImsWf s.come) (q : Option Addr) (k m : Nat) (hcv : cv = .slice q k m) :
    ∃ v' V4, (Builtin.append_ #[37, 37] 37 #[v, .slice (some ⟨V.heap.size, 0, none⟩) 1 1]).run Tryz.prog (V.alloc (.cells #[.int .u64 p, cv] 59)) = .ok v' V4 ∧ LAt 39 V4 Bl (gcells t l s.fin v) ∧ Boxed V4 Bo 52 cv ∧ RdM w (((V4.setCell ⟨Bl, 3, none⟩ v').setCell ⟨Bl, 2, none⟩ (.int .u64 (p + 1))).setCell ⟨Bo, 0, none⟩ (.slice none 0 0)) Bd Bc Br Bl Bo Bt Be dp c t l e ⟨s.txs ++ [⟨p, s.come⟩], p + 1, []⟩ v' (vs ++ [cv]) (.slice none 0 0) (((V4.setCell ⟨Bl, 3, none⟩ v').setCell ⟨Bl, 2, none⟩ (.int .u64 (p + 1))).setCell ⟨Bo, 0, none⟩ (.slice none 0 0)).heap.size ∧ KeepsOthers V (((V4.setCell ⟨Bl, 3, none⟩ v').setCell ⟨Bl, 2, none⟩ (.int .u64 (p + 1))).setCell ⟨Bo, 0, none⟩ (.slice none 0 0)) := by
  obtain ⟨i0, hi0, hz0, hz1, hz2⟩ := info_parts infoT
  have h65 : (65 : Nat) ≤ maxLen := by decide
  have hcl := h.low.size
  obtain ⟨v', V4, hrun, hown', hgrow, -⟩ := run_append_own (P := Tryz.prog) (V.alloc (.cells #[.int .u64 p, cv] 59)) w.heap.size 37 37 59 i0 _ 2 32 Tryz.underlying37 hi0 hz0 hz1 hz2 rfl (by decide) v s.txs.length _ (h.tx.row.alloc _) ⟨V.heap.size, 0, none⟩ 1 1 [.int .u64 p, cv] rfl (fun j u hu => by
    rw [Addr.add_mid, Nat.zero_add]; exact (LAt.cell (LAt.new 59 V [.int .u64 p, cv]) j).trans hu) (fun u hu => by
    simp only [List.mem_cons, List.not_mem_nil, or_false] at hu
    rcases hu with rfl | rfl
    · rfl
    · rw [hcv]; rfl) (by omega) (by omega) (by simp; omega)
  have hco : Boxed V4 Bo 52 cv := (h.co.alloc _).kept hgrow (h.co.not_row (by decide) h.tx.row)
  have hlg : LAt 39 V4 Bl (gcells t l s.fin v) := lat_grown h.lg (by decide) h.tx.row hgrow
  have nlo : Bl ≠ Bo := fun e => by have := h.lg; rw [e] at this; have := this.symm.trans h.co; simp [gcells] at this
  have boxo : ∀ {k ty u}, ty ≠ 39 → ty ≠ 52 → ty ≠ 59 → Boxed V k ty u → Boxed (((V4.setCell ⟨Bl, 3, none⟩ v').setCell ⟨Bl, 2, none⟩ (.int .u64 (p + 1))).setCell ⟨Bo, 0, none⟩ (.slice none 0 0)) k ty u := by
    intro k ty u h1 h2 h3 hb
    have n1 : k ≠ Bl := fun e => by subst e; have := hb.symm.trans h.lg; simp only [Option.some.injEq, Obj.cells.injEq] at this; exact h1 this.2.1
    have n2 : k ≠ Bo := fun e => by subst e; have := hb.symm.trans h.co; simp only [Option.some.injEq, Obj.cells.injEq] at this; exact h2 this.2.1
    have hb4 : Boxed V4 k ty u := (hb.alloc _).kept hgrow (hb.not_row h3 h.tx.row)
    refine ((heap_setCell_other _ ⟨Bo, 0, none⟩ k _ n2).trans ((heap_setCell_other _ ⟨Bl, 2, none⟩ k _ n1).trans ((heap_setCell_other _ ⟨Bl, 3, none⟩ k _ n1).trans hb4)))
  have lato : ∀ {k ty cs}, k ≠ Bl → k ≠ Bo → ty ≠ 59 → LAt ty V k cs → LAt ty (((V4.setCell ⟨Bl, 3, none⟩ v').setCell ⟨Bl, 2, none⟩ (.int .u64 (p + 1))).setCell ⟨Bo, 0, none⟩ (.slice none 0 0)) k cs := by
    intro k ty cs n1 n2 h3 hb
    exact LAt.setO (LAt.setO (LAt.setO (lat_grown hb h3 h.tx.row hgrow) 3 v' n1) 2 _ n1) 0 _ n2
  have rowo : ∀ {C ty sz n u xs}, ty ≠ 39 → ty ≠ 52 → V4.ownsRow C ty sz u n xs → (((V4.setCell ⟨Bl, 3, none⟩ v').setCell ⟨Bl, 2, none⟩ (.int .u64 (p + 1))).setCell ⟨Bo, 0, none⟩ (.slice none 0 0)).ownsRow C ty sz u n xs := by
    intro C ty sz n u xs h1 h2 hr
    refine ⟨hr.1, ?_⟩
    rcases hr.2 with hr | ⟨g, cap, cur, e1, e2, e3, e4⟩
    · exact .inl hr
    · have n1 : g ≠ Bl := fun e => by subst e; have := e3.symm.trans hlg; simp only [Option.some.injEq, Obj.cells.injEq] at this; exact h1 this.2.1
      have n2 : g ≠ Bo := fun e => by subst e; have := e3.symm.trans hco; simp only [Option.some.injEq, Obj.cells.injEq] at this; exact h2 this.2.1
      exact .inr ⟨g, cap, cur, e1, e2, ((heap_setCell_other _ ⟨Bo, 0, none⟩ g _ n2).trans ((heap_setCell_other _ ⟨Bl, 2, none⟩ g _ n1).trans ((heap_setCell_other _ ⟨Bl, 3, none⟩ g _ n1).trans e3))), e4⟩
  have x4 : ∀ (j : Nat) (y : TX) (u : Value), s.txs[j]? = some y → vs[j]? = some u → IOwn V4 w.heap.size u y.ims := fun j y u a b =>
    ((h.tx.each j y u a b).alloc _).kept hgrow (own_ne (h.tx.each j y u a b) h.tx.row (by decide))
  have hsz : V.heap.size ≤ V4.heap.size := by have := hgrow.size; simp at this; omega
  refine ⟨v', V4, hrun, hlg, hco, ⟨boxo (by decide) (by decide) (by decide) h.dk, lato ?_ ?_ (by decide) h.cf, lato h.ne.symm ?_ (by decide) h.rs, boxo (by decide) (by decide) (by decide) h.bt, boxo (by decide) (by decide) (by decide) h.be, ?_, ?_, ?_, World.ownsRow_nil _ _ _ _, ?_, ?_, Nat.le_refl _, ?_, h.ne, h.l0, h.o0⟩, ?_⟩
  · exact fun e => by have := h.cf; rw [e] at this; have := this.symm.trans h.lg; simp [ccells, gcells] at this
  · exact fun e => by have := h.cf; rw [e] at this; have := this.symm.trans h.co; simp [ccells] at this
  · exact fun e => by have := h.rs; rw [e] at this; have := this.symm.trans h.co; simp [gcells] at this
  · exact LAt.setO (LAt.set (LAt.set hlg 3 v') 2 (.int .u64 (p + 1))) 0 _ nlo
  · exact Boxed.set _ (show Boxed _ _ _ _ from (heap_setCell_other _ ⟨Bl, 2, none⟩ Bo _ nlo.symm).trans ((heap_setCell_other _ ⟨Bl, 3, none⟩ Bo _ nlo.symm).trans hco))
  · refine ⟨by rw [List.length_append, List.length_append, h.tx.len]; rfl, ?_, fun j y u a b => ?_, h.tx.wf.snoc ⟨hp, hcw⟩⟩
    · rw [List.map_append, List.zip_append (by rw [List.length_map, h.tx.len]), List.length_append]
      show World.ownsRow _ _ _ _ _ _ (TC ((s.txs.map (·.p)).zip vs ++ [(p, cv)]))
      rw [TC_snoc]
      exact rowo (by decide) (by decide) hown'
    · by_cases cj : j < s.txs.length
      · rw [List.getElem?_append_left cj] at a
        rw [List.getElem?_append_left (by rw [h.tx.len]; exact cj)] at b
        exact rowo (by decide) (by decide) (x4 j y u a b)
      · have hj : j = s.txs.length := by
          have := (List.getElem?_eq_some_iff.1 a).1
          simp only [List.length_append, List.length_singleton] at this
          omega
        subst hj
        rw [List.getElem?_append_right (Nat.le_refl _), Nat.sub_self] at a
        rw [← h.tx.len, List.getElem?_append_right (Nat.le_refl _), Nat.sub_self] at b
        cases a; cases b
        exact rowo (by decide) (by decide) (own_at ((h.im.alloc _).kept hgrow (own_ne h.im h.tx.row (by decide))) (fun k hk => Nat.le_trans h.x0 (h.im.lt k hk).1) rfl)
  · refine (h.up.snoc (fun g hg => (h.im.lt g hg).1) (fun g hg => (h.im.lt g hg).2) h.x1).mono ?_
    simpa using hsz
  · have := h.low.size; simp; omega
  · refine Below.setCell (p := ⟨Bo, 0, none⟩) (Below.setCell (p := ⟨Bl, 2, none⟩) (Below.setCell (p := ⟨Bl, 3, none⟩) ?_ h.l0 v') h.l0 _) h.o0 _
    exact (below_then h.low (below_alloc V _)).grown hgrow (by have := h.low.size; simp; omega) fun j ej => (h.tx.row.lt j ej).1
  · exact ((keeps_grown h.tx.row hgrow).trans (KeepsOthers.setCell _ _ _)).trans ((KeepsOthers.setCell _ _ _).trans (KeepsOthers.setCell _ _ _))
end Go.Proofs.YtefnkjajjidfaaaGreatDoor
