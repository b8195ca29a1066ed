import Derived.Test.YtdadpepfpiimgaaGreatDoorZ13
import Derived.Shelf.SlIterI.Nil
import Derived.Shelf.SortM.Plain
import Derived.Shelf.SortM.SortNone
set_option maxHeartbeats 20000000
set_option maxRecDepth 100000
namespace Go.Proofs.YtdadpepfpiimgaaGreatDoor
open Go.RowKit
def gcells (t l f : Int) (v : Value) : List Value := [.int .u64 t, .int .u64 l, .int .u64 f, v]
theorem gcells_ones {v : Value} (hv : v.oneCell' = true) (t l f : Int) : ∀ u ∈ gcells t l f v, u.oneCell' = true := by
  intro u hu
  simp only [gcells, List.mem_cons, List.not_mem_nil, or_false] at hu
  rcases hu with rfl | rfl | rfl | rfl
  · rfl
  · rfl
  · rfl
  · exact hv
theorem sizeLg : (Tryz.prog.info? 165).map (·.size) = some 4 := by kernel_rfl
theorem zeroLg : (Tryz.prog.info? 165).bind (·.zero) = some (.agg (gcells 0 0 0 (.slice none 0 0)).toArray) := by kernel_rfl
def plLg : List (Nat × Nat) := [(0, 1), (1, 1), (2, 1), (3, 1)]
theorem placesLg : placesOf Tryz.prog 165 = some plLg := by kernel_rfl
theorem buildL0 (w : World) : (Instr.build 165 #[]).run Tryz.prog w = .ok (.agg (gcells 0 0 0 (.slice none 0 0)).toArray) w := run_build w 165 _ _ ((built_of 165 _ _ _ placesLg zeroLg).trans rfl)
theorem buildL3 (w : World) (t l f : Int) : (Instr.build 165 #[(0, .int .u64 t), (1, .int .u64 l), (2, .int .u64 f)]).run Tryz.prog w = .ok (.agg (gcells t l f (.slice none 0 0)).toArray) w :=
  run_build w 165 _ _ ((built_of 165 _ _ _ placesLg zeroLg).trans rfl)
theorem allocLg (w : World) : (Instr.alloc 165 true (.tuple #[])).run Tryz.prog w = .ok (.pointer (some ⟨w.heap.size, 0, none⟩)) (w.alloc (.cells (gcells 0 0 0 (.slice none 0 0)).toArray 165)) := by
  simp only [Instr.alloc, Sem.run_bind, zv 165 _ zeroLg, Result.andThen_ok]
  simp [newVar, newRow, Value.cells]
theorem storeLg (w : World) (t l f : Int) {v : Value} (hv : v.oneCell' = true) : (Instr.storeAt 165 (.pointer (some ⟨w.heap.size, 0, none⟩)) (.agg (gcells t l f v).toArray)).run Tryz.prog (w.alloc (.cells (gcells 0 0 0 (.slice none 0 0)).toArray 165)) = .ok () (w.alloc (.cells (gcells t l f v).toArray 165)) := by
  rw [(LAt.new 165 w (gcells 0 0 0 (.slice none 0 0))).store (ds := gcells t l f v) sizeLg rfl (all_oneCell_toArray (gcells_ones hv t l f)), setRow_alloc]
theorem LAt.loadLg {w : World} {g : Nat} {t l f : Int} {v : Value} (h : LAt 165 w g (gcells t l f v)) : (Instr.loadAt 165 (.pointer (some ⟨g, 0, none⟩))).run Tryz.prog w = .ok (.agg (gcells t l f v).toArray) w :=
  run_loadAt_mid w g 0 165 (gcells t l f v) _ (LAt.range h) Tryz.underlying165 rfl sizeLg
theorem LAt.free {t : TypeId} {w : World} {g : Nat} {cs : List Value} (h : LAt t w g cs) (j : Nat) : w.frozen? ⟨g, j, none⟩ = false := by
  unfold World.frozen?
  rw [show w.heap[(⟨g, j, none⟩ : Addr).block]? = some (.cells cs.toArray t (0, 0)) from h]
  simp
theorem infoT : (Tryz.prog.info? 207).map (fun i => (i.zero, i.size, i.bytes)) = some (some (.agg #[.int .u64 0, .slice none 0 0]), 2, 32) := by kernel_rfl
theorem zeroT : (Tryz.prog.info? 207).bind (·.zero) = some (.agg #[.int .u64 0, .slice none 0 0]) := by kernel_rfl
def plT : List (Nat × Nat) := [(0, 1), (1, 1)]
theorem placesT : placesOf Tryz.prog 207 = some plT := by kernel_rfl
theorem buildT (w : World) (p : Int) (q : Option Addr) (n m : Nat) : (Instr.build 207 #[(0, .int .u64 p), (1, .slice q n m)]).run Tryz.prog w = .ok (.agg #[.int .u64 p, .slice q n m]) w :=
  run_build w 207 _ _ ((built_of 207 _ _ _ placesT zeroT).trans rfl)
theorem build_tx (w : World) (p : Int) (q : Option Addr) (n m : Nat) : (Instr.buildSlice 163 1 #[(0, .agg #[.int .u64 p, .slice q n m])]).run Tryz.prog w = .ok (.slice (some ⟨w.heap.size, 0, none⟩) 1 1) (w.alloc (.cells #[.int .u64 p, .slice q n m] 207)) := by
  obtain ⟨i0, hi, hz0, hz1, hz2⟩ := info_parts infoT
  refine run_buildSlice w 163 207 1 _ _ i0 _ Tryz.underlying163 hi hz0 (by rw [hz1]; decide) (by rw [hz1]; decide) ?_
  rw [hz1]
  have hA : ∀ A : Array Value, A.size = 2 → Instr.fill (fun i => some (i * 2, 2)) A [(0, .agg #[.int .u64 p, .slice q n m])] = some #[.int .u64 p, .slice q n m] := by
    intro A hA
    have a0 := part_fill 0 [.int .u64 p, .slice q n m] A.toList (by simp; omega)
    simp only [Instr.fill, Value.cells, List.size_toArray, Nat.zero_mul]
    rw [if_neg (by simp [hA])]
    have a0' : (#[Value.int .u64 p, .slice q n m]).zipIdx.foldl (fun cs x => match x with | (c, j) => cs.setIfInBounds (0 + j) c) A = ((A.toList.take 0 ++ [Value.int .u64 p, Value.slice q n m] ++ A.toList.drop (0 + 2))).toArray := a0
    rw [a0', List.drop_eq_nil_of_le (by simp [hA])]
    simp
  exact hA _ (by simp)
theorem own_cells {W W' : World} (hc : ∀ (k : Nat) (o : Obj), W.heap[k]? = some o → o.isCells = true → W'.heap[k]? = some o) {B : Nat} {e : TypeId} {sz : Nat} {v : Value} {n : Nat} {xs : List Value} (h : W.ownsRow B e sz v n xs) : W'.ownsRow B e sz v n xs := by
  refine ⟨h.1, ?_⟩
  rcases h.2 with h | ⟨g, cap, cur, h1, h2, h3, h4⟩
  · exact .inl h
  · exact .inr ⟨g, cap, cur, h1, h2, hc g _ h3 rfl, h4⟩
theorem XOwn.cells {W W' : World} (hc : ∀ (k : Nat) (o : Obj), W.heap[k]? = some o → o.isCells = true → W'.heap[k]? = some o) {e : TypeId} {B : Nat} {v : Value} {l : List TX} {vs : List Value} (h : XOwn e W B v l vs) : XOwn e W' B v l vs :=
  ⟨h.len, own_cells hc h.row, fun k t u a b => own_cells hc (h.each k t u a b), h.wf⟩
structure RdM (w W : World) (Bd Bc Br Bl Bo Bt Be : Nat) (dp : Option Addr) (c : Sup) (t l e : Int) (s : Sc) (v : Value) (vs : List Value) (cv : Value) (Bx : Nat) : Prop where
  dk : Boxed W Bd 30 (.pointer dp)
  cf : CAt W Bc c
  rs : LAt 165 W Br (gcells 0 0 0 (.slice none 0 0))
  bt : Boxed W Bt 37 (.int .u64 t)
  be : Boxed W Be 37 (.int .u64 e)
  lg : LAt 165 W Bl (gcells t l s.fin v)
  co : Boxed W Bo 92 cv
  tx : XOwn 207 W w.heap.size v s.txs vs
  im : IOwn W Bx cv s.come
  up : Rise vs Bx
  x0 : w.heap.size ≤ Bx
  x1 : Bx ≤ W.heap.size
  low : Below w.heap.size w W
  ne : Bl ≠ Br
  l0 : w.heap.size ≤ Bl
  o0 : w.heap.size ≤ Bo
theorem RdM.cells {W W' : World} {w : World} {Bd Bc Br Bl Bo Bt Be Bx : Nat} {dp : Option Addr} {c : Sup} {t l e : Int} {s : Sc} {v cv : Value} {vs : List Value} (h : RdM w W Bd Bc Br Bl Bo Bt Be dp c t l e s v vs cv Bx)
    (hc : ∀ (k : Nat) (o : Obj), W.heap[k]? = some o → o.isCells = true → W'.heap[k]? = some o) (hs : W.heap.size ≤ W'.heap.size) (hb : Below w.heap.size w W') : RdM w W' Bd Bc Br Bl Bo Bt Be dp c t l e s v vs cv Bx :=
  ⟨hc _ _ h.dk rfl, hc _ _ h.cf rfl, hc _ _ h.rs rfl, hc _ _ h.bt rfl, hc _ _ h.be rfl, hc _ _ h.lg rfl, hc _ _ h.co rfl, h.tx.cells hc, own_cells hc h.im, h.up, h.x0, Nat.le_trans h.x1 hs, hb, h.ne, h.l0, h.o0⟩
theorem RdM.later {w V : World} {Bd Bc Br Bl Bo Bt Be Bx : Nat} {dp : Option Addr} {c : Sup} {t l e : Int} {s : Sc} {v cv : Value} {vs : List Value} {V' : World} (h : RdM w V Bd Bc Br Bl Bo Bt Be dp c t l e s v vs cv Bx) (hb : Below V.heap.size V V') : RdM w V' Bd Bc Br Bl Bo Bt Be dp c t l e s v vs cv Bx :=
  h.cells (fun k _ hk _ => (hb.block k (Array.getElem?_eq_some_iff.1 hk).1).trans hk) hb.size (below_then h.low hb)
theorem RdM.own {w : World} {Bd Bc Br Bl Bo Bt Be Bx : Nat} {dp : Option Addr} {c : Sup} {t l e : Int} {s : Sc} {v cv : Value} {vs : List Value} {B : Nat} {β : Type} (hB : w.heap.size ≤ B) : OwnFrom B (fun (_ : β) (W : World) => RdM w W Bd Bc Br Bl Bo Bt Be dp c t l e s v vs cv Bx) := fun _ X Y row hs hg hr =>
  hs.cells (fun _ _ hk hc => (grownBy_keeps_cells hg (fun r e => (hr r e).2) hk hc).trans hk) hg.size (ownFrom_below (β := Unit) (Nat.le_refl _) hB () X Y row hs.low hg hr)
theorem keeps_grown {V V4 : World} {B : Nat} {e : TypeId} {sz n : Nat} {v : Value} {xs : List Value} {tmp : Obj} (hrow : V.ownsRow B e sz v n xs) (hgrow : (V.alloc tmp).grownBy V4 v.ownBlock) : KeepsOthers V V4 := by
  refine (KeepsOthers.alloc V tmp).trans (KeepsOthers.of_grownBy hgrow fun j o ej hj => ?_)
  rcases (hrow.alloc tmp).2 with ⟨rfl, _⟩ | ⟨g, cap, cur, rfl, _, hgb, _⟩
  · simp [Value.ownBlock] at ej
  · obtain rfl : g = j := by simpa [Value.ownBlock] using ej
    rw [hgb] at hj; cases hj; rfl
theorem rise_ne {vs : List Value} {C : Nat} (h : Rise vs C) {w : World} {e : TypeId} {sz n : Nat} {v : Value} {xs : List Value} (hv : w.ownsRow C e sz v n xs) : ∀ u ∈ vs, u.ownBlock = none ∨ u.ownBlock ≠ v.ownBlock := fun u hu => by
  cases hub : u.ownBlock with
  | none => exact .inl rfl
  | some g =>
    refine .inr fun e' => ?_
    have h1 := h.2 u hu g hub
    have h2 := (hv.lt g e'.symm).1
    omega
theorem lat_grown {V V4 : World} {B : Nat} {ty e : TypeId} {sz n k : Nat} {v : Value} {xs cs : List Value} {tmp : Obj} (h : LAt ty V k cs) (hne : ty ≠ e) (hrow : V.ownsRow B e sz v n xs) (hgrow : (V.alloc tmp).grownBy V4 v.ownBlock) : LAt ty V4 k cs := by
  have h' : LAt ty (V.alloc tmp) k cs := (Below.heap_alloc _ _ _ h.lt).trans h
  refine (hgrow.block k h'.lt fun e' => ?_).trans h'
  rcases hrow.2 with ⟨rfl, _⟩ | ⟨g, cap, cur, rfl, _, hgb, _⟩
  · cases e'
  · simp only [Value.ownBlock, Option.some.injEq] at e'
    subst e'
    rw [show V.heap[k]? = _ from h] at hgb
    cases hgb
    exact hne rfl
theorem RdM.img {w V : World} {Bd Bc Br Bl Bo Bt Be Bx : Nat} {dp : Option Addr} {c : Sup} {t l e : Int} {s : Sc} {v cv : Value} {vs : List Value} (h : RdM w V Bd Bc Br Bl Bo Bt Be dp c t l e s v vs cv Bx) (i : Im) (hi : i.Wf) (hl : s.come.length ≤ 64) :
    ∃ v' V4, (Builtin.append_ #[92, 92] 92 #[cv, .slice (some ⟨V.heap.size, 0, none⟩) 1 1]).run Tryz.prog (V.alloc (.cells (icells i).toArray 155)) = .ok v' V4 ∧ Boxed V4 Bo 92 cv ∧ RdM w (V4.setCell ⟨Bo, 0, none⟩ v') Bd Bc Br Bl Bo Bt Be dp c t l e ⟨s.txs, s.fin, s.come ++ [i]⟩ v vs v' Bx ∧ KeepsOthers V (V4.setCell ⟨Bo, 0, none⟩ v') := by
  obtain ⟨i0, hi0, hz0, hz1, hz2⟩ := info_parts infoI
  have h65 : (65 : Nat) ≤ maxLen := by decide
  have hcl := h.x1
  obtain ⟨v', V4, hrun, hown', hgrow, -⟩ := run_append_own (P := Tryz.prog) (V.alloc (.cells (icells i).toArray 155)) Bx 92 92 155 i0 _ 33 40 Tryz.underlying92 hi0 hz0 hz1 hz2 rfl (by decide) cv s.come.length (IC s.come) (h.im.alloc _) ⟨V.heap.size, 0, none⟩ 1 1 (icells i) (by rw [icells_len hi.len]) (fun j u hu => by
    rw [Addr.add_mid, Nat.zero_add, LAt.cell (LAt.new 155 V (icells i)) j]; exact hu) (icells_ones i) (by omega) (by omega) (by simp; omega)
  have hco : Boxed V4 Bo 92 cv := (h.co.alloc _).kept hgrow (h.co.not_row (by decide) h.im)
  have gs := grownBy_setCell' V4 Bo v'
  refine ⟨v', V4, hrun, hco, ⟨?_, ?_, ?_, ?_, ?_, ?_, hco.set v', ?_, ?_, h.up, h.x0, ?_, ?_, h.ne, h.l0, h.o0⟩, (keeps_grown h.im hgrow).trans (KeepsOthers.setCell _ _ _)⟩
  · exact ((h.dk.alloc _).kept hgrow (h.dk.not_row (by decide) h.im)).other (fun e => by have := h.dk; rw [e] at this; have := this.symm.trans h.co; simp at this) _
  · exact LAt.setO (lat_grown h.cf (by decide) h.im hgrow) 0 v' (fun e => by have := h.cf; rw [e] at this; have := this.symm.trans h.co; simp [ccells] at this)
  · exact LAt.setO (lat_grown h.rs (by decide) h.im hgrow) 0 v' (fun e => by have := h.rs; rw [e] at this; have := this.symm.trans h.co; simp [gcells] at this)
  · exact ((h.bt.alloc _).kept hgrow (h.bt.not_row (by decide) h.im)).other (fun e => by have := h.bt; rw [e] at this; have := this.symm.trans h.co; simp at this) _
  · exact ((h.be.alloc _).kept hgrow (h.be.not_row (by decide) h.im)).other (fun e => by have := h.be; rw [e] at this; have := this.symm.trans h.co; simp at this) _
  · exact LAt.setO (lat_grown h.lg (by decide) h.im hgrow) 0 v' (fun e => by have := h.lg; rw [e] at this; have := this.symm.trans h.co; simp [gcells] at this)
  · have x1 := (h.tx.later (below_alloc V _)).kept hgrow (own_ne h.tx.row h.im (by decide)) (rise_ne h.up h.im)
    refine x1.kept gs ?_ (fun u hu => ?_)
    · exact .inr (hco.not_row (by decide) x1.row).symm
    · obtain ⟨k, hk, rfl⟩ := List.getElem_of_mem hu
      have hk' : k < s.txs.length := by rw [← x1.len]; exact hk
      exact .inr (hco.not_row (by decide) (x1.each k s.txs[k] vs[k] (List.getElem?_eq_getElem hk') (List.getElem?_eq_getElem hk))).symm
  · rw [IOwn, IC_snoc, List.length_append, List.length_singleton]
    exact hown'.kept gs (.inr (hco.not_row (by decide) hown').symm)
  · have := hgrow.size
    simp at this ⊢
    omega
  · refine Below.setCell (p := ⟨Bo, 0, none⟩) ?_ h.o0 v'
    exact (below_then h.low (below_alloc V _)).grown hgrow (by have := h.low.size; simp; omega) fun j ej => Nat.le_trans h.x0 (h.im.lt j ej).1
theorem RdM.com {w V : World} {Bd Bc Br Bl Bo Bt Be Bx : Nat} {dp : Option Addr} {c : Sup} {t l e : Int} {s : Sc} {v cv : Value} {vs : List Value} (h : RdM w V Bd Bc Br Bl Bo Bt Be dp c t l e s v vs cv Bx) (p : Int) (hp : u64 p) (hl : s.txs.length ≤ 64) (hcw : ImsWf s.come) (q : Option Addr) (k m : Nat) (hcv : cv = .slice q k m) :
    ∃ v' V4, (Builtin.append_ #[163, 163] 163 #[v, .slice (some ⟨V.heap.size, 0, none⟩) 1 1]).run Tryz.prog (V.alloc (.cells #[.int .u64 p, cv] 207)) = .ok v' V4 ∧ LAt 165 V4 Bl (gcells t l s.fin v) ∧ Boxed V4 Bo 92 cv ∧ RdM w (((V4.setCell ⟨Bl, 3, none⟩ v').setCell ⟨Bl, 2, none⟩ (.int .u64 (p + 1))).setCell ⟨Bo, 0, none⟩ (.slice none 0 0)) Bd Bc Br Bl Bo Bt Be dp c t l e ⟨s.txs ++ [⟨p, s.come⟩], p + 1, []⟩ v' (vs ++ [cv]) (.slice none 0 0) (((V4.setCell ⟨Bl, 3, none⟩ v').setCell ⟨Bl, 2, none⟩ (.int .u64 (p + 1))).setCell ⟨Bo, 0, none⟩ (.slice none 0 0)).heap.size ∧ KeepsOthers V (((V4.setCell ⟨Bl, 3, none⟩ v').setCell ⟨Bl, 2, none⟩ (.int .u64 (p + 1))).setCell ⟨Bo, 0, none⟩ (.slice none 0 0)) := by
  obtain ⟨i0, hi0, hz0, hz1, hz2⟩ := info_parts infoT
  have h65 : (65 : Nat) ≤ maxLen := by decide
  have hcl := h.low.size
  obtain ⟨v', V4, hrun, hown', hgrow, -⟩ := run_append_own (P := Tryz.prog) (V.alloc (.cells #[.int .u64 p, cv] 207)) w.heap.size 163 163 207 i0 _ 2 32 Tryz.underlying163 hi0 hz0 hz1 hz2 rfl (by decide) v s.txs.length _ (h.tx.row.alloc _) ⟨V.heap.size, 0, none⟩ 1 1 [.int .u64 p, cv] rfl (fun j u hu => by
    rw [Addr.add_mid, Nat.zero_add]; exact (LAt.cell (LAt.new 207 V [.int .u64 p, cv]) j).trans hu) (fun u hu => by
    simp only [List.mem_cons, List.not_mem_nil, or_false] at hu
    rcases hu with rfl | rfl
    · rfl
    · rw [hcv]; rfl) (by omega) (by omega) (by simp; omega)
  have hco : Boxed V4 Bo 92 cv := (h.co.alloc _).kept hgrow (h.co.not_row (by decide) h.tx.row)
  have hlg : LAt 165 V4 Bl (gcells t l s.fin v) := lat_grown h.lg (by decide) h.tx.row hgrow
  have nlo : Bl ≠ Bo := fun e => by have := h.lg; rw [e] at this; have := this.symm.trans h.co; simp [gcells] at this
  have boxo : ∀ {k ty u}, ty ≠ 165 → ty ≠ 92 → ty ≠ 207 → Boxed V k ty u → Boxed (((V4.setCell ⟨Bl, 3, none⟩ v').setCell ⟨Bl, 2, none⟩ (.int .u64 (p + 1))).setCell ⟨Bo, 0, none⟩ (.slice none 0 0)) k ty u := by
    intro k ty u h1 h2 h3 hb
    have n1 : k ≠ Bl := fun e => by subst e; have := hb.symm.trans h.lg; simp only [Option.some.injEq, Obj.cells.injEq] at this; exact h1 this.2.1
    have n2 : k ≠ Bo := fun e => by subst e; have := hb.symm.trans h.co; simp only [Option.some.injEq, Obj.cells.injEq] at this; exact h2 this.2.1
    have hb4 : Boxed V4 k ty u := (hb.alloc _).kept hgrow (hb.not_row h3 h.tx.row)
    refine ((heap_setCell_other _ ⟨Bo, 0, none⟩ k _ n2).trans ((heap_setCell_other _ ⟨Bl, 2, none⟩ k _ n1).trans ((heap_setCell_other _ ⟨Bl, 3, none⟩ k _ n1).trans hb4)))
  have lato : ∀ {k ty cs}, k ≠ Bl → k ≠ Bo → ty ≠ 207 → LAt ty V k cs → LAt ty (((V4.setCell ⟨Bl, 3, none⟩ v').setCell ⟨Bl, 2, none⟩ (.int .u64 (p + 1))).setCell ⟨Bo, 0, none⟩ (.slice none 0 0)) k cs := by
    intro k ty cs n1 n2 h3 hb
    exact LAt.setO (LAt.setO (LAt.setO (lat_grown hb h3 h.tx.row hgrow) 3 v' n1) 2 _ n1) 0 _ n2
  have rowo : ∀ {C ty sz n u xs}, ty ≠ 165 → ty ≠ 92 → V4.ownsRow C ty sz u n xs → (((V4.setCell ⟨Bl, 3, none⟩ v').setCell ⟨Bl, 2, none⟩ (.int .u64 (p + 1))).setCell ⟨Bo, 0, none⟩ (.slice none 0 0)).ownsRow C ty sz u n xs := by
    intro C ty sz n u xs h1 h2 hr
    refine ⟨hr.1, ?_⟩
    rcases hr.2 with hr | ⟨g, cap, cur, e1, e2, e3, e4⟩
    · exact .inl hr
    · have n1 : g ≠ Bl := fun e => by subst e; have := e3.symm.trans hlg; simp only [Option.some.injEq, Obj.cells.injEq] at this; exact h1 this.2.1
      have n2 : g ≠ Bo := fun e => by subst e; have := e3.symm.trans hco; simp only [Option.some.injEq, Obj.cells.injEq] at this; exact h2 this.2.1
      exact .inr ⟨g, cap, cur, e1, e2, ((heap_setCell_other _ ⟨Bo, 0, none⟩ g _ n2).trans ((heap_setCell_other _ ⟨Bl, 2, none⟩ g _ n1).trans ((heap_setCell_other _ ⟨Bl, 3, none⟩ g _ n1).trans e3))), e4⟩
  have x4 : ∀ (j : Nat) (y : TX) (u : Value), s.txs[j]? = some y → vs[j]? = some u → IOwn V4 w.heap.size u y.ims := fun j y u a b =>
    ((h.tx.each j y u a b).alloc _).kept hgrow (own_ne (h.tx.each j y u a b) h.tx.row (by decide))
  have hsz : V.heap.size ≤ V4.heap.size := by have := hgrow.size; simp at this; omega
  refine ⟨v', V4, hrun, hlg, hco, ⟨boxo (by decide) (by decide) (by decide) h.dk, lato ?_ ?_ (by decide) h.cf, lato h.ne.symm ?_ (by decide) h.rs, boxo (by decide) (by decide) (by decide) h.bt, boxo (by decide) (by decide) (by decide) h.be, ?_, ?_, ?_, World.ownsRow_nil _ _ _ _, ?_, ?_, Nat.le_refl _, ?_, h.ne, h.l0, h.o0⟩, ?_⟩
  · exact fun e => by have := h.cf; rw [e] at this; have := this.symm.trans h.lg; simp [ccells, gcells] at this
  · exact fun e => by have := h.cf; rw [e] at this; have := this.symm.trans h.co; simp [ccells] at this
  · exact fun e => by have := h.rs; rw [e] at this; have := this.symm.trans h.co; simp [gcells] at this
  · exact LAt.setO (LAt.set (LAt.set hlg 3 v') 2 (.int .u64 (p + 1))) 0 _ nlo
  · exact Boxed.set _ (show Boxed _ _ _ _ from (heap_setCell_other _ ⟨Bl, 2, none⟩ Bo _ nlo.symm).trans ((heap_setCell_other _ ⟨Bl, 3, none⟩ Bo _ nlo.symm).trans hco))
  · refine ⟨by rw [List.length_append, List.length_append, h.tx.len]; rfl, ?_, fun j y u a b => ?_, h.tx.wf.snoc ⟨hp, hcw⟩⟩
    · rw [List.map_append, List.zip_append (by rw [List.length_map, h.tx.len]), List.length_append]
      show World.ownsRow _ _ _ _ _ _ (TC ((s.txs.map (·.p)).zip vs ++ [(p, cv)]))
      rw [TC_snoc]
      exact rowo (by decide) (by decide) hown'
    · by_cases cj : j < s.txs.length
      · rw [List.getElem?_append_left cj] at a
        rw [List.getElem?_append_left (by rw [h.tx.len]; exact cj)] at b
        exact rowo (by decide) (by decide) (x4 j y u a b)
      · have hj : j = s.txs.length := by
          have := (List.getElem?_eq_some_iff.1 a).1
          simp only [List.length_append, List.length_singleton] at this
          omega
        subst hj
        rw [List.getElem?_append_right (Nat.le_refl _), Nat.sub_self] at a
        rw [← h.tx.len, List.getElem?_append_right (Nat.le_refl _), Nat.sub_self] at b
        cases a; cases b
        exact rowo (by decide) (by decide) (own_at ((h.im.alloc _).kept hgrow (own_ne h.im h.tx.row (by decide))) (fun k hk => Nat.le_trans h.x0 (h.im.lt k hk).1) rfl)
  · refine (h.up.snoc (fun g hg => (h.im.lt g hg).1) (fun g hg => (h.im.lt g hg).2) h.x1).mono ?_
    simpa using hsz
  · have := h.low.size; simp; omega
  · refine Below.setCell (p := ⟨Bo, 0, none⟩) (Below.setCell (p := ⟨Bl, 2, none⟩) (Below.setCell (p := ⟨Bl, 3, none⟩) ?_ h.l0 v') h.l0 _) h.o0 _
    exact (below_then h.low (below_alloc V _)).grown hgrow (by have := h.low.size; simp; omega) fun j ej => (h.tx.row.lt j ej).1
  · exact ((keeps_grown h.tx.row hgrow).trans (KeepsOthers.setCell _ _ _)).trans ((KeepsOthers.setCell _ _ _).trans (KeepsOthers.setCell _ _ _))
end Go.Proofs.YtdadpepfpiimgaaGreatDoor
namespace Go.Proofs.YtdadpepfpiimgaaGreatDoor
open Go.RowKit Go.Shelf
section
variable {F : Fence} {n : Nat} {P : Program} {ops : Array Oper} {rest : List Oper} {o : Oper} {a : Act} {w w' : World} {Q : Exit → Act → World → Prop}
theorem in_ops (h : wpListIn F n P ops Q (o :: rest) a w) : wpListIn F n P ops Q (o :: rest) a w := h
theorem in_val (hgd : Region.wanted o (yielded ops a.tmps) = true) (hab : o.about P w a.eval = none) (hop : ∀ c, o.op ≠ .defer c) {v : Value} (hrun : (execOp a.eval o).run P w = .ok (.value v) w') (h : wpListIn F n P ops Q rest (a.put o.dst v) w') : wpListIn F n P ops Q (o :: rest) a w :=
  wpListIn_step fun K hK => by
    rw [if_pos hgd]
    unfold Oper.wpIn
    refine ⟨fun f hf => (by rw [hab] at hf; cases hf), ?_⟩
    rw [Oper.semAt_plain F _ _ hop, hrun]
    exact hK _ _ h
theorem in_skp (hgd : Region.wanted o (yielded ops a.tmps) = true) (hab : o.about P w a.eval = none) (hop : ∀ c, o.op ≠ .defer c) (hrun : (execOp a.eval o).run P w = .ok .skip w') (h : wpListIn F n P ops Q rest (a.put o.dst undef) w') : wpListIn F n P ops Q (o :: rest) a w :=
  wpListIn_step fun K hK => by
    rw [if_pos hgd]
    unfold Oper.wpIn
    refine ⟨fun f hf => (by rw [hab] at hf; cases hf), ?_⟩
    rw [Oper.semAt_plain F _ _ hop, hrun]
    exact hK _ _ h
theorem in_load (hgd : Region.wanted o (yielded ops a.tmps) = true) (ty : TypeId) {x : Operand} (ho : o.op = .load ty x) {p v : Value} (hx : a.eval x = p) (hrun : (Instr.loadAt ty p).run P w = .ok v w) (h : wpListIn F n P ops Q rest (a.put o.dst v) w) : wpListIn F n P ops Q (o :: rest) a w :=
  in_val hgd (by simp [Oper.about, ho]) (by rw [ho]; intro c e; cases e) (by unfold execOp; simp only [ho, hx, Sem.run_bind, hrun, Result.andThen_ok, Sem.run_pure]) h
theorem in_alloc (hgd : Region.wanted o (yielded ops a.tmps) = true) (ty : TypeId) (ho : o.op = .alloc ty) {v : Value} (hrun : (Instr.alloc ty true (.tuple #[])).run P w = .ok v w') (h : wpListIn F n P ops Q rest (a.put o.dst v) w') : wpListIn F n P ops Q (o :: rest) a w :=
  in_val hgd (by simp [Oper.about, ho]) (by rw [ho]; intro c e; cases e) (by unfold execOp; simp only [ho, Sem.run_bind, hrun, Result.andThen_ok, Sem.run_pure]) h
theorem in_store (hgd : Region.wanted o (yielded ops a.tmps) = true) (ty : TypeId) {x y : Operand} (ho : o.op = .store ty x y) {p v : Value} (hx : a.eval x = p) (hy : a.eval y = v) (hrun : (Instr.storeAt ty p v).run P w = .ok () w') (h : wpListIn F n P ops Q rest (a.put o.dst undef) w') : wpListIn F n P ops Q (o :: rest) a w :=
  in_skp hgd (by simp [Oper.about, ho]) (by rw [ho]; intro c e; cases e) (by unfold execOp; simp only [ho, hx, hy, Sem.run_bind, hrun, Result.andThen_ok, Sem.run_pure]) h
theorem in_build (hgd : Region.wanted o (yielded ops a.tmps) = true) (ty : TypeId) {ps : Array (Nat × Operand)} (ho : o.op = .build ty ps) {vs : List (Nat × Value)} {v : Value} (hx : ps.toList.map (fun (i, x) => (i, a.eval x)) = vs) (hrun : (Instr.build ty vs.toArray).run P w = .ok v w) (h : wpListIn F n P ops Q rest (a.put o.dst v) w) : wpListIn F n P ops Q (o :: rest) a w :=
  in_val hgd (by simp [Oper.about, ho]) (by rw [ho]; intro c e; cases e) (by unfold execOp; simp only [ho]; rw [show ps.map (fun (i, x) => (i, a.eval x)) = vs.toArray by rw [← hx, ← Array.toList_map]]; simp only [Sem.run_bind, hrun, Result.andThen_ok, Sem.run_pure]) h
theorem in_slice (hgd : Region.wanted o (yielded ops a.tmps) = true) (ty : TypeId) {x : Operand} (ho : o.op = .buildSlice ty 1 #[(0, x)]) {u v : Value} (hx : a.eval x = u) (hrun : (Instr.buildSlice ty 1 #[(0, u)]).run P w = .ok v w') (h : wpListIn F n P ops Q rest (a.put o.dst v) w') : wpListIn F n P ops Q (o :: rest) a w :=
  in_val hgd (by simp [Oper.about, ho]) (by rw [ho]; intro c e; cases e) (by
    have e : (#[(0, x)] : Array (Nat × Operand)).map (fun (i, y) => (i, a.eval y)) = #[(0, u)] := by simp [hx]
    unfold execOp; simp only [ho]; rw [e]; simp only [Sem.run_bind, hrun, Result.andThen_ok, Sem.run_pure]) h
theorem in_append (hgd : Region.wanted o (yielded ops a.tmps) = true) {s x : Operand} {t ty : TypeId} (ho : o.op = .call { callee := .builtin .append, args := #[s, x], argTypes := #[t, t] }) (hty : o.type = ty) {u1 u2 v : Value} (hs : a.eval s = u1) (hx : a.eval x = u2) (hrun : (Builtin.append_ #[t, t] ty #[u1, u2]).run P w = .ok v w') (h : wpListIn F n P ops Q rest (a.put o.dst v) w') : wpListIn F n P ops Q (o :: rest) a w := by
  refine in_val hgd ?_ (by rw [ho]; intro c e; cases e) (v := v) (w' := w') ?_ h
  · simp [Oper.about, ho, resolve, Target.leads, Sem.run_pure]
  · subst hty; simp [execOp, ho, resolve, invoke, builtin, hs, hx, hrun, Result.andThen]
end
section
variable {F : Fence} {n : Nat} {P : Program} {b : Frame} {a : Act} {k : List Item} {cs : List Frame} {w : World} {Q : Exit → Act → World → Prop}
theorem stepR_scope {c : Code} : step P (lone (b.atR a (.code (.scope c) :: k)) cs w) = .next (lone (b.atR a (.code c :: .inScope c :: k)) cs w) :=
  step_lone_go (by simp [stepG, stepG.exec, Frame.atR])
theorem stepR_inScope {c : Code} : step P (lone (b.atR a (.inScope c :: k)) cs w) = .next (lone (b.atR a k) cs w) :=
  step_lone_go (by simp [stepG, stepG.exec, Frame.atR])
theorem wpIn_scope {c : Code} (h : c.wpIn F n P (Exit.noGoto Q) a w) : (Code.scope c).wpIn F n P Q a w := by
  intro b k cs hro hb hr
  have h0 : (lone (b.atR a (.code (.scope c) :: k)) cs w).fenced P F := fenced_calm hb hr rfl
  obtain ⟨e, a₁, w₁, hq, harr⟩ := h b (.inScope c :: k) cs hro hb hr
  cases e with
  | normal => exact ⟨.normal, a₁, w₁, hq, .head h0 stepR_scope (StepsIn.trans harr (.one (fenced_calm hb hr rfl) stepR_inScope))⟩
  | exit id' =>
    have hx : exitTo id' (.inScope c :: k) = exitTo id' k := by simp [exitTo]
    exact ⟨.exit id', a₁, w₁, hq, fun k' hk => .head h0 stepR_scope (harr.1 k' (by rw [hx]; exact hk)),
      fun hr' hk => let ⟨k₁, h1, h2⟩ := harr.2 hr' (by rw [hx]; exact hk); ⟨k₁, h1, .head h0 stepR_scope h2⟩⟩
  | goto l => exact hq.elim
  | ret => exact ⟨_, a₁, w₁, hq, .of_steps (.one h0 stepR_scope) harr⟩
  | panic ch => exact ⟨_, a₁, w₁, hq, .of_steps (.one h0 stepR_scope) harr⟩
  | outgrown => exact ⟨_, a₁, w₁, hq, .of_steps (.one h0 stepR_scope) harr⟩
end
end Go.Proofs.YtdadpepfpiimgaaGreatDoor
namespace Go.Proofs.YtdadpepfpiimgaaGreatDoor
open Go.RowKit Go.Shelf
attribute [local go_sem] Oper.semAt_some
theorem keeps_of_below {V V' : World} (h : Below V.heap.size V V') (B : Nat) : KeepsFrom B V V' := ⟨h.size, fun k _ _ hk _ => (h.block k (Array.getElem?_eq_some_iff.1 hk).1).trans hk⟩
theorem results_lat {fn : Func} {p u : Tmp} {ty : TypeId} (h : fn.results = #[.cell p ty, .tmp u]) (tmps : Array Value) (w : World) (g : Nat) (t : TypeId) (cs : List Value) (d : TypeDesc)
    (hp : tmps.getD p undef = .pointer (some ⟨g, 0, none⟩)) (hg : LAt t w g cs) (hu : Tryz.prog.underlying ty = some d) (hd : d.isRow = true) (hi : (Tryz.prog.info? ty).map (·.size) = some cs.length) :
    (results fn tmps).run Tryz.prog w = .ok (.tuple #[.agg cs.toArray, tmps.getD u undef]) w := by
  rw [results_cell_tmp h, hp]
  simp only [asAddr, Sem.run_pure, Result.andThen_ok, run_loadVar_mid w g 0 ty _ d (LAt.range hg) hu hd hi]
def scGo (st : Int → R.Rec × Bool) (mr : Int) : List Int → Sc → Option Sc
  | [], s => some s
  | p :: ps, s => if (st p).2 = true then (scStep mr s p (st p).1).bind (scGo st mr ps) else none
theorem scGo_snoc (st : Int → R.Rec × Bool) (mr : Int) : ∀ (ps : List Int) (p : Int) (s : Sc), scGo st mr (ps ++ [p]) s = (scGo st mr ps s).bind fun s' => if (st p).2 = true then scStep mr s' p (st p).1 else none
  | [], p, s => by
    show (if (st p).2 = true then (scStep mr s p (st p).1).bind some else none) = (if (st p).2 = true then scStep mr s p (st p).1 else none)
    by_cases h : (st p).2 = true
    · rw [if_pos h, if_pos h]; cases scStep mr s p (st p).1 <;> rfl
    · rw [if_neg h, if_neg h]
  | q :: ps, p, s => by
    show (if (st q).2 = true then (scStep mr s q (st q).1).bind (scGo st mr (ps ++ [p])) else none) = (if (st q).2 = true then (scStep mr s q (st q).1).bind (scGo st mr ps) else none).bind _
    by_cases h : (st q).2 = true
    · rw [if_pos h, if_pos h]
      cases scStep mr s q (st q).1 with
      | none => rfl
      | some s' => exact scGo_snoc st mr ps p s'
    · rw [if_neg h, if_neg h]; rfl
theorem scGo_run {st : Int → R.Rec × Bool} {mr : Int} {t : Int} {s0 : Sc} : ∀ (j : Nat) (s : Sc) (k : Nat), j ≤ k → scGo st mr (G.upto t j) s0 = some s → scRun st mr k t s0 = scRun st mr (k - j) (t + j) s
  | 0, s, k, _, h => by
    obtain rfl : s0 = s := Option.some.inj h
    rw [Nat.sub_zero, show t + ((0 : Nat) : Int) = t by omega]
  | j + 1, s, k, hk, h => by
    rw [G.upto_succ, scGo_snoc] at h
    cases e : scGo st mr (G.upto t j) s0 with
    | none => rw [e] at h; cases h
    | some s1 =>
      rw [e] at h
      have h' : (if (st (t + j)).2 = true then scStep mr s1 (t + j) (st (t + j)).1 else none) = some s := h
      by_cases c : (st (t + j)).2 = true
      · rw [if_pos c] at h'
        rw [scGo_run j s1 k (by omega) e, show k - j = k - (j + 1) + 1 by omega, scRun_go c h', show t + (j : Int) + 1 = t + ((j + 1 : Nat) : Int) by omega]
      · rw [if_neg c] at h'; cases h'
structure GoOk (mr : Int) (n : Nat) (s : Sc) : Prop where
  tl : s.txs.length ≤ n
  cl : (s.come.length : Int) ≤ mr
  tw : TxsWf s.txs
  cw : ImsWf s.come
theorem GoOk.step {mr : Int} {n : Nat} {s s' : Sc} (h : GoOk mr n s) (hm : 0 ≤ mr) {p : Int} (hp : u64 p) {r : R.Rec} (hw : r.Wf) (e : scStep mr s p r = some s') : GoOk mr (n + 1) s' := by
  by_cases c1 : r.kind = 1 ∧ Folls s.come r.block mr
  · rw [scStep_img c1] at e
    cases e
    refine ⟨Nat.le_succ_of_le h.tl, ?_, h.tw, h.cw.snoc ⟨⟨hw.b0, hw.b1⟩, hw.len, hw.byte⟩⟩
    have := c1.2.1
    simp only [List.length_append, List.length_singleton]; omega
  · by_cases c2 : r.kind = 2 ∧ r.images = s.come.length
    · rw [scStep_com c2] at e
      cases e
      refine ⟨?_, hm, h.tw.snoc ⟨hp, h.cw⟩, ImsWf.nil⟩
      have := h.tl
      simp only [List.length_append, List.length_singleton]; omega
    · rw [scStep_no c1 c2] at e; cases e
structure GoAt (st : Int → R.Rec × Bool) (mr t : Int) (pre : List G.U64) (s : Sc) : Prop where
  go : scGo st mr (G.nums pre) ⟨[], t, []⟩ = some s
  ok : GoOk mr pre.length s
theorem GoAt.start (st : Int → R.Rec × Bool) {mr : Int} (hm : 0 ≤ mr) (t : Int) : GoAt st mr t [] ⟨[], t, []⟩ := ⟨rfl, Nat.le_refl _, hm, TxsWf.nil, ImsWf.nil⟩
theorem GoAt.step {st : Int → R.Rec × Bool} {mr t : Int} {pre : List G.U64} {s s' : Sc} (h : GoAt st mr t pre s) (hm : 0 ≤ mr) {u : G.U64} (hw : (st u.1).1.Wf) (h1 : (st u.1).2 = true) (h2 : scStep mr s u.1 (st u.1).1 = some s') : GoAt st mr t (pre ++ [u]) s' := by
  refine ⟨?_, ?_⟩
  · rw [show G.nums (pre ++ [u]) = G.nums pre ++ [u.1] by simp, scGo_snoc, h.go]
    show (if _ then _ else _) = _
    rw [if_pos h1, h2]
  · rw [List.length_append, List.length_singleton]
    exact h.ok.step hm ⟨u.2.1, by have := u.2.2; omega⟩ hw h2
theorem GoAt.done {st : Int → R.Rec × Bool} {mr t : Int} {pre : List G.U64} {s : Sc} (h : GoAt st mr t pre s) {k : Nat} (hk : k ≤ 64) (hp : G.nums pre = G.spanI t (t + k)) : scRun st mr k t ⟨[], t, []⟩ = s := by
  have hN : G.spanN t (t + k) = k := by unfold G.spanN; omega
  have := h.go
  rw [hp, ← G.upto_span, hN] at this
  rw [scGo_run k s k (Nat.le_refl _) this, Nat.sub_self]; rfl
theorem GoAt.stop {st : Int → R.Rec × Bool} {mr t : Int} {pre : List G.U64} {s : Sc} (h : GoAt st mr t pre s) {k : Nat} (hk : k ≤ 64) {u : G.U64} (hp : G.nums (pre ++ [u]) <+: G.spanI t (t + k)) (hs : (st u.1).2 = false ∨ scStep mr s u.1 (st u.1).1 = none) : scRun st mr k t ⟨[], t, []⟩ = s := by
  have hN : G.spanN t (t + k) = k := by unfold G.spanN; omega
  have hl : pre.length < k := by
    have := hp.length_le
    rw [G.spanI_length, hN] at this
    simp at this
    omega
  have hu : u.1 = t + pre.length := by
    have h1 : (G.nums (pre ++ [u]))[pre.length]? = some u.1 := by simp
    obtain ⟨r, hr⟩ := hp
    have h2 := G.spanI_get t (t + k) pre.length (by omega)
    rw [← hr, List.getElem?_append_left (by simp), h1] at h2
    exact Option.some.inj h2
  have hpre : G.nums pre = G.upto t pre.length := by
    have hp' : G.nums pre <+: G.spanI t (t + k) := List.IsPrefix.trans ⟨[u.1], by simp⟩ hp
    have h3 := List.prefix_iff_eq_take.1 hp'
    have h4 := List.prefix_iff_eq_take.1 (G.upto_prefix t (t + k) pre.length (by omega))
    rw [h3, h4, G.upto_length]
    simp
  have := h.go
  rw [hpre] at this
  rw [scGo_run pre.length s k (by omega) this, ← hu]
  rcases hs with hs | hs
  · exact scRun_off hs
  · exact scRun_stop hs
set_option maxHeartbeats 1000000 in
set_option maxRecDepth 100000 in
theorem read_err10 {w : World} {S : Nat → Prop} {p n : Nat} {d : List Int} {ws : List Wr} (h : Dsk w S p n d ws) (ht : Tab w) (c : Sup) (hz : ¬ (supOf c n (newest ws d)).2 = 0) : Calls Tryz.prog 76 #[.pointer (some ⟨p, 0, none⟩), .agg (ccells c).toArray] w fun e w' => e = .returned (.tuple #[.agg (gcells 0 0 0 (.slice none 0 0)).toArray, .int .i64 (supOf c n (newest ws d)).2]) ∧ Below w.heap.size w w' := by
  obtain ⟨wa, hwa⟩ : ∃ y, y = w.alloc (.cells #[.pointer (some ⟨p, 0, none⟩)] 30) := ⟨_, rfl⟩
  obtain ⟨wb, hwb⟩ : ∃ y, y = wa.alloc (.cells (ccells c).toArray 23) := ⟨_, rfl⟩
  obtain ⟨wc, hwc⟩ : ∃ y, y = wb.alloc (.cells (gcells 0 0 0 (.slice none 0 0)).toArray 165) := ⟨_, rfl⟩
  have ewa := hwa.symm
  have ewb := hwb.symm
  have sa : wa.heap.size = w.heap.size + 1 := by rw [hwa]; simp
  have sb : wb.heap.size = w.heap.size + 1 + 1 := by rw [hwb, ← sa]; simp
  have A1 : Hid (_) := allocLg wb
  rw [← hwc, sb] at A1
  have Ba : Below w.heap.size w wa := by rw [hwa]; exact below_alloc w _
  have Bb : Below w.heap.size w wb := by rw [hwb]; exact below_then Ba (below_alloc wa _)
  have B0 : Hid (Below w.heap.size w wc) := by rw [hwc]; exact below_then Bb (below_alloc wb _)
  have bbc : Below wb.heap.size wb wc := by rw [hwc]; exact below_alloc wb _
  have bab : Below wa.heap.size wa wb := by rw [hwb]; exact below_alloc wa _
  have K0 : Hid (Boxed wc w.heap.size 30 (.pointer (some ⟨p, 0, none⟩))) := by
    refine (bbc.block _ (by omega)).trans ((bab.block _ (by omega)).trans ?_)
    rw [hwa]; exact heap_alloc_new w _
  have C0 : Hid (CAt wc (w.heap.size + 1) c) := by
    refine LAt.later ?_ bbc
    rw [hwb, ← sa]; exact LAt.new 23 wa _
  have V0 : Hid (LAt 165 wc (w.heap.size + 1 + 1) (gcells 0 0 0 (.slice none 0 0))) := by rw [hwc, ← sb]; exact LAt.new 165 wb _
  have L0 : Hid (_) := CAt.load23 C0.out
  have z0 := K0.out.cell
  clear hwa hwb hwc Ba Bb bab bbc
  have hmo : Tryz.prog.follows Departure.mixedOrders = true := by kernel_rfl
  refine (callsIn_wide (n := 9)).1 ?_
  refine callsIn_of_wp Tryz.func76 rfl trivial ?_ rfl
  simp only [Tryz.ntmps76, List.size_toArray, List.length_cons, List.length_nil, Nat.reduceAdd, Nat.reduceSub, Array.replicate_succ, Array.replicate_zero, List.push_toArray, List.append_toArray, List.nil_append, List.cons_append]
  gi_wp2_with ((with_reducible refine in_ops ?_); (first | (refine in_alloc (by rfl) 165 rfl A1.out ?_) | (refine in_load (by rfl) 23 rfl rfl L0.out ?_)); simp only [Act.put, List.setIfInBounds_toArray, List.set_cons_zero, List.set_cons_succ])
  refine wpIn_scope ?_
  gi_wp2_with ((with_reducible refine in_ops ?_); (first | (refine in_alloc (by rfl) 165 rfl A1.out ?_) | (refine in_load (by rfl) 23 rfl rfl L0.out ?_)); simp only [Act.put, List.setIfInBounds_toArray, List.set_cons_zero, List.set_cons_succ])
  clear ewa ewb A1
  refine ⟨trivial, (callsIn_wide.2 (superOf_any (h.later B0.out) (ht.later B0.out) c)).mono ?_⟩
  rintro e w1 ⟨rfl, b1⟩
  obtain ⟨r, hr⟩ : ∃ r, r = (supOf c n (newest ws d)).1 := ⟨_, rfl⟩
  obtain ⟨k, hk⟩ : ∃ k, k = (supOf c n (newest ws d)).2 := ⟨_, rfl⟩
  rw [← hr, ← hk]
  rw [← hk] at hz
  have HK : Hid (k = (supOf c n (newest ws d)).2) := hk
  have hq : (k != 0) = true := by simp [hz]
  clear hr hk h ht
  have B1 : Hid (Below w.heap.size w w1) := below_then B0.out b1
  have V1 : Hid (LAt 165 w1 (w.heap.size + 1 + 1) (gcells 0 0 0 (.slice none 0 0))) := LAt.later V0.out b1
  obtain ⟨w2, hw2⟩ : ∃ y, y = w1.alloc (.cells (scells r).toArray 121) := ⟨_, rfl⟩
  have A2 : Hid (_) := alloc29 w1
  have T2 : Hid (_) := store_new29 w1 r
  rw [← hw2] at T2
  have b2 : Below w1.heap.size w1 w2 := by rw [hw2]; exact below_alloc w1 _
  have B2 : Hid (Below w.heap.size w w2) := below_then B1.out b2
  have V2 : Hid (LAt 165 w2 (w.heap.size + 1 + 1) (gcells 0 0 0 (.slice none 0 0))) := LAt.later V1.out b2
  have U3 : Hid (_) := buildL0 w2
  have T3 : Hid (_) := LAt.store (ds := gcells 0 0 0 (.slice none 0 0)) V2.out sizeLg rfl (all_oneCell_toArray (gcells_ones rfl 0 0 0))
  have F3 : Hid (LAt 165 (w2.setRow (w.heap.size + 1 + 1) (gcells 0 0 0 (.slice none 0 0)).toArray) (w.heap.size + 1 + 1) (gcells 0 0 0 (.slice none 0 0))) := LAt.stored V2.out _
  have G3 : Hid (Below w.heap.size w (w2.setRow (w.heap.size + 1 + 1) (gcells 0 0 0 (.slice none 0 0)).toArray)) := below_setRow B2.out (by omega) _
  clear b1 hw2 b2 B0 C0 V0 K0 L0 B1 V1 z0
  gi_wp2_with ((with_reducible refine in_ops ?_); (first | (refine in_alloc (by rfl) 121 rfl A2.out ?_) | (refine in_store (by rfl) 121 rfl rfl rfl T2.out ?_) | (refine in_build (vs := []) (by rfl) 165 rfl (by rfl) U3.out ?_) | (refine in_store (by rfl) 165 rfl rfl rfl T3.out ?_)); simp only [Act.put, List.setIfInBounds_toArray, List.set_cons_zero, List.set_cons_succ])
  rw [Exit.noGoto_ret]
  exact bodyPost_ret (results_lat Tryz.results76 _ _ (w.heap.size + 1 + 1) 165 _ _ (by rfl) F3.out Tryz.underlying165 rfl sizeLg) rfl ⟨by rw [← HK.out]; rfl, G3.out⟩
end Go.Proofs.YtdadpepfpiimgaaGreatDoor
namespace Go.Proofs.YtdadpepfpiimgaaGreatDoor
open Go.RowKit Go.Maps Go.Sort Go.Shelf
def keysA_ren : Go.Shelf.Ren := ⟨fun | 7 => 110 | 10 => 131 | n => n, fun | 23 => 208 | 26 => 3 | 3 => 39 | 28 => 211 | 0 => 0 | 27 => 210 | 33 => 88 | 4 => 4 | n => n, fun | n => n⟩
theorem keysA : Go.Proofs.SlLaysZI.n7 Tryz.prog keysA_ren := {
  mixed := by kernel_rfl
  f7 := ⟨Tryz.f110.name, by decide, Tryz.func110.trans (congrArg some (by kernel_rfl))⟩
  f10 := ⟨Tryz.f131.name, by decide, Tryz.func131.trans (congrArg some (by kernel_rfl))⟩
  t0 := Tryz.underlying0
  a0 := Tryz.isAgg0
  z0 := Tryz.sizeOf0
  v0 := Tryz.zeroValue0
  t4 := Tryz.underlying4
  a4 := Tryz.isAgg4
  z4 := Tryz.sizeOf4
  v4 := Tryz.zeroValue4
  t23 := Tryz.underlying208
  a23 := Tryz.isAgg208
  z23 := Tryz.sizeOf208
  v23 := Tryz.zeroValue208
  t26 := Tryz.underlying3
  a26 := Tryz.isAgg3
  z26 := Tryz.sizeOf3
  v26 := Tryz.zeroValue3
  t27 := Tryz.underlying210
  a27 := Tryz.isAgg210
  z27 := Tryz.sizeOf210
  v27 := Tryz.zeroValue210
  t28 := Tryz.underlying211
  a28 := Tryz.isAgg211
  z28 := Tryz.sizeOf211
  v28 := Tryz.zeroValue211
  t33 := Tryz.underlying88
  a33 := Tryz.isAgg88
  z33 := Tryz.sizeOf88
  v33 := Tryz.zeroValue88 }
def sortedA_ren : Go.Shelf.Ren := ⟨fun | 6 => 109 | 8 => 129 | 9 => 130 | 11 => 148 | 13 => 150 | 12 => 149 | 23 => 163 | 24 => 164 | 14 => 154 | 15 => 155 | 16 => 156 | 17 => 157 | 18 => 158 | 19 => 159 | 20 => 160 | 21 => 161 | 22 => 162 | 25 => 167 | 26 => 168 | 27 => 169 | 28 => 170 | 29 => 171 | 30 => 172 | 31 => 175 | n => n, fun | 26 => 3 | 28 => 211 | 24 => 40 | 0 => 0 | 3 => 3 | 37 => 237 | 48 => 178 | 50 => 37 | 4 => 4 | 40 => 261 | 39 => 260 | 45 => 265 | 5 => 5 | 9 => 9 | 51 => 270 | 55 => 273 | 57 => 277 | 58 => 278 | 33 => 88 | n => n, fun | n => n⟩
theorem sortedA : Go.Proofs.SlLaysZI.n6 Tryz.prog sortedA_ren := {
  mixed := by kernel_rfl
  f6 := ⟨Tryz.f109.name, by decide, Tryz.func109.trans (congrArg some (by kernel_rfl))⟩
  f8 := ⟨Tryz.f129.name, by decide, Tryz.func129.trans (congrArg some (by kernel_rfl))⟩
  f11 := ⟨Tryz.f148.name, by decide, Tryz.func148.trans (congrArg some (by kernel_rfl))⟩
  t0 := Tryz.underlying0
  a0 := Tryz.isAgg0
  z0 := Tryz.sizeOf0
  v0 := Tryz.zeroValue0
  t24 := Tryz.underlying40
  a24 := Tryz.isAgg40
  z24 := Tryz.sizeOf40
  v24 := Tryz.zeroValue40
  t26 := Tryz.underlying3
  a26 := Tryz.isAgg3
  z26 := Tryz.sizeOf3
  v26 := Tryz.zeroValue3
  t28 := Tryz.underlying211
  a28 := Tryz.isAgg211
  z28 := Tryz.sizeOf211
  v28 := Tryz.zeroValue211
  i26 := by kernel_rfl }
def sortA_ren : Go.Shelf.Ren := ⟨fun | 5 => 130 | 8 => 150 | 7 => 149 | 19 => 163 | 20 => 164 | 10 => 154 | 11 => 155 | 12 => 156 | 13 => 157 | 14 => 158 | 15 => 159 | 16 => 160 | 17 => 161 | 18 => 162 | 30 => 167 | 31 => 168 | 32 => 169 | 33 => 170 | 34 => 171 | 35 => 172 | 40 => 175 | n => n, fun | 23 => 40 | 25 => 3 | 3 => 3 | 32 => 237 | 22 => 40 | 0 => 0 | 44 => 178 | 46 => 37 | 4 => 4 | 36 => 261 | 35 => 260 | 41 => 265 | 5 => 5 | 9 => 9 | 53 => 270 | 57 => 273 | 63 => 277 | 64 => 278 | n => n, fun | n => n⟩
theorem sortA : Go.Proofs.SlLaysM.n5 Tryz.prog sortA_ren := {
  mixed := by kernel_rfl
  f5 := ⟨Tryz.f130.name, by decide, Tryz.func130.trans (congrArg some (by kernel_rfl))⟩
  f7 := ⟨Tryz.f149.name, by decide, Tryz.func149.trans (congrArg some (by kernel_rfl))⟩
  f8 := Tryz.func150.trans (congrArg some (by kernel_rfl))
  f10 := ⟨Tryz.f154.name, by decide, Tryz.func154.trans (congrArg some (by kernel_rfl))⟩
  f11 := ⟨Tryz.f155.name, by decide, Tryz.func155.trans (congrArg some (by kernel_rfl))⟩
  f12 := ⟨Tryz.f156.name, by decide, Tryz.func156.trans (congrArg some (by kernel_rfl))⟩
  f13 := ⟨Tryz.f157.name, by decide, Tryz.func157.trans (congrArg some (by kernel_rfl))⟩
  f14 := ⟨Tryz.f158.name, by decide, Tryz.func158.trans (congrArg some (by kernel_rfl))⟩
  f15 := ⟨Tryz.f159.name, by decide, Tryz.func159.trans (congrArg some (by kernel_rfl))⟩
  f16 := ⟨Tryz.f160.name, by decide, Tryz.func160.trans (congrArg some (by kernel_rfl))⟩
  f17 := ⟨Tryz.f161.name, by decide, Tryz.func161.trans (congrArg some (by kernel_rfl))⟩
  f18 := ⟨Tryz.f162.name, by decide, Tryz.func162.trans (congrArg some (by kernel_rfl))⟩
  f19 := Tryz.func163.trans (congrArg some (by kernel_rfl))
  f20 := Tryz.func164.trans (congrArg some (by kernel_rfl))
  f30 := ⟨Tryz.f167.name, by decide, Tryz.func167.trans (congrArg some (by kernel_rfl))⟩
  f31 := Tryz.func168.trans (congrArg some (by kernel_rfl))
  f32 := Tryz.func169.trans (congrArg some (by kernel_rfl))
  f33 := ⟨Tryz.f170.name, by decide, Tryz.func170.trans (congrArg some (by kernel_rfl))⟩
  f34 := ⟨Tryz.f171.name, by decide, Tryz.func171.trans (congrArg some (by kernel_rfl))⟩
  f35 := ⟨Tryz.f172.name, by decide, Tryz.func172.trans (congrArg some (by kernel_rfl))⟩
  f40 := ⟨Tryz.f175.name, by decide, Tryz.func175.trans (congrArg some (by kernel_rfl))⟩
  t0 := Tryz.underlying0
  a0 := Tryz.isAgg0
  z0 := Tryz.sizeOf0
  v0 := Tryz.zeroValue0
  t3 := Tryz.underlying3
  a3 := Tryz.isAgg3
  z3 := Tryz.sizeOf3
  v3 := Tryz.zeroValue3
  t4 := Tryz.underlying4
  a4 := Tryz.isAgg4
  z4 := Tryz.sizeOf4
  v4 := Tryz.zeroValue4
  t5 := Tryz.underlying5
  a5 := Tryz.isAgg5
  z5 := Tryz.sizeOf5
  v5 := Tryz.zeroValue5
  t9 := Tryz.underlying9
  a9 := Tryz.isAgg9
  z9 := Tryz.sizeOf9
  v9 := Tryz.zeroValue9
  t22 := Tryz.underlying40
  a22 := Tryz.isAgg40
  z22 := Tryz.sizeOf40
  v22 := Tryz.zeroValue40
  t23 := Tryz.underlying40
  a23 := Tryz.isAgg40
  z23 := Tryz.sizeOf40
  v23 := Tryz.zeroValue40
  t25 := Tryz.underlying3
  a25 := Tryz.isAgg3
  z25 := Tryz.sizeOf3
  v25 := Tryz.zeroValue3
  t32 := Tryz.underlying237
  a32 := Tryz.isAgg237
  z32 := Tryz.sizeOf237
  v32 := Tryz.zeroValue237
  t35 := Tryz.underlying260
  a35 := Tryz.isAgg260
  z35 := Tryz.sizeOf260
  v35 := Tryz.zeroValue260
  t36 := Tryz.underlying261
  a36 := Tryz.isAgg261
  z36 := Tryz.sizeOf261
  v36 := Tryz.zeroValue261
  t41 := Tryz.underlying265
  a41 := Tryz.isAgg265
  z41 := Tryz.sizeOf265
  v41 := Tryz.zeroValue265
  t44 := Tryz.underlying178
  a44 := Tryz.isAgg178
  z44 := Tryz.sizeOf178
  v44 := Tryz.zeroValue178
  t46 := Tryz.underlying37
  a46 := Tryz.isAgg37
  z46 := Tryz.sizeOf37
  v46 := Tryz.zeroValue37
  t53 := Tryz.underlying270
  a53 := Tryz.isAgg270
  z53 := Tryz.sizeOf270
  v53 := Tryz.zeroValue270
  t57 := Tryz.underlying273
  a57 := Tryz.isAgg273
  z57 := Tryz.sizeOf273
  v57 := Tryz.zeroValue273
  t63 := Tryz.underlying277
  a63 := Tryz.isAgg277
  z63 := Tryz.sizeOf277
  v63 := Tryz.zeroValue277
  t64 := Tryz.underlying278
  a64 := Tryz.isAgg278
  z64 := Tryz.sizeOf278
  v64 := Tryz.zeroValue278 }
theorem sortsA (m : Nat) : AnyZI.SortsIn Tryz.prog sortedA_ren Fence.wide m :=
  ⟨fun blk off cap ss W hH hblk hsz => callsIn_wide.2 (AnyM.slices_Sort_int sortA blk off cap ss W hH hblk hsz), fun p cap W => callsIn_wide.2 (AnyM.slices_Sort_int_none sortA p cap W)⟩
theorem keys_any (mb : Option Nat) (W : World) : Calls Tryz.prog 110 #[.map mb] W fun e w' => e = .returned (.func (.func 131) #[] #[.pointer (some ⟨W.heap.size, 0, none⟩)]) ∧ w' = W.alloc (.cells #[.map mb] 208) :=
  (callsIn_wide (n := 5)).1 (AnyZI.keys_in keysA Fence.wide 5 trivial rfl mb W)
theorem sorted_any {H : Type} (b nn : Nat) (D0 : DataW H) (R : Value → Option (DataW H × List MemPlace)) (w : World) (hown : w.ownsMap Tryz.prog 3 R b nn D0) (hmax : Maps.size D0 ≤ maxLen) (hbytes : Maps.size D0 * 8 ≤ 140737488355328) :
    Calls Tryz.prog 109 #[.func (.func 131) #[] #[.pointer (some ⟨w.heap.size, 0, none⟩)]] (w.alloc (.cells #[.map (some b)] 208)) fun e w' => ∃ (v : Value) (ss : List Int), e = .returned v ∧ ss.Perm (intKeys D0) ∧
      w'.ownsRow w.heap.size 3 1 v ss.length ((ss.mergeSort (fun x y => decide (x ≤ y))).map encZ) ∧ Below w.heap.size w w' := by
  have hbl := hown.lt
  have hseq : SeqGives Fence.wide 2 Tryz.prog 131 #[.pointer (some ⟨w.heap.size, 0, none⟩)] encZ (fun ss => ss.Perm (intKeys D0)) (Maps.size D0) (w.alloc (.cells #[.map (some b)] 208)) :=
    AnyZI.keys_gives (ρ := keysA_ren) { keysA with } Fence.wide _ trivial rfl (by omega) w.heap.size b nn D0 _ (by simp) (by simp) (by
      obtain ⟨es, clock, hb, Ft, hs, hD⟩ := hown
      exact ⟨es, clock, (Below.heap_alloc _ _ b hbl).trans hb, Ft, hs, hD⟩)
  have cS := AnyZI.sorted_in sortedA Fence.wide 5 trivial trivial trivial trivial rfl (by omega) (sortsA _) (enters_of Tryz.func130 (by kernel_rfl) rfl) 131 #[.pointer (some ⟨w.heap.size, 0, none⟩)] trivial (enters_of Tryz.func131 (by kernel_rfl) rfl) _ _ hmax hbytes _ hseq
  change CallsIn _ _ Tryz.prog 109 _ _ _ at cS
  refine (callsIn_wide (n := 5)).1 (cS.mono ?_)
  rintro e w' ⟨v, ss, rfl, hS, hrow, _, hb⟩
  exact ⟨v, ss, rfl, hS, ownsRow_base_a hrow (by simp), ((Below.refl _ w).alloc (Nat.le_refl _) _).trans (hb.mono (by simp))⟩
end Go.Proofs.YtdadpepfpiimgaaGreatDoor
namespace Go.Proofs.YtdadpepfpiimgaaGreatDoor
open Go.RowKit Go.Maps
section
variable {P : Program} {ops : Array Oper} {rest : List Oper} {o : Oper} {a : Act} {w w' : World} {Q : Exit → Act → World → Prop}
theorem wpList_slice_is (hgd : Region.wanted o (yielded ops a.tmps) = true) (ty : TypeId) {x : Operand} (ho : o.op = .buildSlice ty 1 #[(0, x)]) {u v : Value} (hx : a.eval x = u) (hrun : (Instr.buildSlice ty 1 #[(0, u)]).run P w = .ok v w') (h : wpList P ops Q rest (a.put o.dst v) w') : wpList P ops Q (o :: rest) a w :=
  wpList_val hgd (by
    have e : (#[(0, x)] : Array (Nat × Operand)).map (fun (i, y) => (i, a.eval y)) = #[(0, u)] := by simp [hx]
    unfold execOp; simp only [ho]; rw [e]; simp only [Sem.run_bind, hrun, Result.andThen_ok, Sem.run_pure]) h
theorem wpList_append_is (hgd : Region.wanted o (yielded ops a.tmps) = true) {s x : Operand} {t ty : TypeId} (ho : o.op = .call { callee := .builtin .append, args := #[s, x], argTypes := #[t, t] }) (hty : o.type = ty) {u1 u2 v : Value} (hs : a.eval s = u1) (hx : a.eval x = u2) (hrun : (Builtin.append_ #[t, t] ty #[u1, u2]).run P w = .ok v w') (h : wpList P ops Q rest (a.put o.dst v) w') : wpList P ops Q (o :: rest) a w :=
  wpList_val hgd (by subst hty; simp [execOp, ho, resolve, invoke, builtin, hs, hx, hrun, Result.andThen]) h
theorem wpList_lookup_is (hgd : Region.wanted o (yielded ops a.tmps) = true) (ty : TypeId) {m x : Operand} (ho : o.op = .lookup ty m x false) {u1 u2 v : Value} (hm : a.eval m = u1) (hx : a.eval x = u2) (hrun : (Instr.lookup ty u1 u2 false).run P w = .ok v w) (h : wpList P ops Q rest (a.put o.dst v) w) : wpList P ops Q (o :: rest) a w :=
  wpList_val hgd (by unfold execOp; simp only [ho, hm, hx, Sem.run_bind, hrun, Result.andThen_ok, Sem.run_pure]) h
end
abbrev kI (b : Int) : Lit := .int .i64 b
abbrev hV (v : List Int) : DataW Value := .held (.agg (U8 v).toArray)
def mapD (l : List Im) : DataW Value := l.foldl (fun D x => D.put (kI x.b) (hV x.v)) (.map [])
theorem mapD_snoc (l : List Im) (x : Im) : mapD (l ++ [x]) = (mapD l).put (kI x.b) (hV x.v) := by simp [mapD]
theorem snoc_ind {α : Type} {p : List α → Prop} (h0 : p []) (h1 : ∀ l x, p l → p (l ++ [x])) (l : List α) : p l := by
  have : ∀ m : List α, p m.reverse := fun m => by
    induction m with
    | nil => exact h0
    | cons x m ih => rw [List.reverse_cons]; exact h1 _ _ ih
  have e := this l.reverse
  rwa [List.reverse_reverse] at e
theorem mem_ins (x : Lit × DataW Value) (p : Lit × DataW Value) : ∀ l, p ∈ DataW.insert x l ↔ p = x ∨ p ∈ l
  | [] => by simp [DataW.insert]
  | y :: r => by
    unfold DataW.insert
    by_cases h : x.1.before y.1 = true
    · rw [if_pos h]; exact List.mem_cons
    · rw [if_neg h, List.mem_cons, mem_ins x p r, List.mem_cons]
      exact or_left_comm
theorem mapD_es (l : List Im) : ∃ es, mapD l = .map es ∧ ∀ p ∈ es, ∃ y, p.1 = kI y := by
  refine snoc_ind (p := fun l => ∃ es, mapD l = .map es ∧ ∀ p ∈ es, ∃ y, p.1 = kI y) ⟨[], rfl, fun p h => by cases h⟩ (fun l x h => ?_) l
  obtain ⟨es, e, hk⟩ := h
  refine ⟨_, by rw [mapD_snoc, e]; rfl, fun p hp => ?_⟩
  rcases (mem_ins _ _ _).1 hp with rfl | hp
  · exact ⟨x.b, rfl⟩
  · exact hk p (List.mem_filter.1 hp).1
theorem mapD_isMap (l : List Im) : IsMap (mapD l) := by obtain ⟨es, e, _⟩ := mapD_es l; exact ⟨es, e⟩
theorem kI_ne {a b : Int} (h : a ≠ b) : kI a ≠ kI b := fun e => h (by injection e)
theorem mapD_has (b : Int) : ∀ l, Maps.has (mapD l) (kI b) = decide (b ∈ blks l) := by
  refine snoc_ind (by simp [mapD, Maps.has]) fun l x ih => ?_
  rw [mapD_snoc]
  by_cases h : x.b = b
  · rw [← h, Maps.has_put_same (k := kI x.b) (mapD_isMap l) trivial]; simp
  · rw [Maps.has_put_other (kI_ne fun e => h e.symm), ih]
    simp only [blks, List.map_append, List.map_cons, List.map_nil, List.mem_append, List.mem_singleton]
    by_cases hb : b ∈ l.map (·.b)
    · simp [hb]
    · rw [decide_eq_false hb, decide_eq_false]; rintro (k | k)
      · exact hb k
      · exact h k.symm
theorem mapD_at (b : Int) (z : DataW Value) : ∀ l, b ∈ blks l → (mapD l).atKey (kI b) z = hV (lastV l b) := by
  refine snoc_ind (fun h => by cases h) fun l x ih hb => ?_
  rw [mapD_snoc, lastV_snoc]
  by_cases h : x.b = b
  · rw [if_pos h, ← h, Maps.atKey_put_same (k := kI x.b) (mapD_isMap l) trivial]
  · rw [if_neg h, Maps.atKey_put_other (kI_ne fun e => h e.symm)]
    refine ih ?_
    simp only [blks, List.map_append, List.map_cons, List.map_nil, List.mem_append, List.mem_singleton] at hb
    rcases hb with hb | hb
    · exact hb
    · exact absurd hb.symm h
theorem mapD_keys (l : List Im) (b : Int) : b ∈ intKeys (mapD l) ↔ b ∈ blks l := by
  have hh := mapD_has b l
  obtain ⟨es, e, hk⟩ := mapD_es l
  rw [e] at hh ⊢
  rw [Maps.has_eq] at hh
  constructor
  · intro hb
    obtain ⟨p, hp, e2⟩ := List.mem_map.1 (show b ∈ es.map fun p => Go.intOf p.1 from hb)
    obtain ⟨y, hy⟩ := hk p hp
    have : (es.any fun p => p.1.sameKey (kI b)) = true := List.any_eq_true.2 ⟨p, hp, by rw [hy] at e2 ⊢; have : y = b := e2; subst this; exact WideAt.sameKey_self (a := kI y) trivial⟩
    rw [this] at hh
    exact of_decide_eq_true hh.symm
  · intro hb
    rw [decide_eq_true hb] at hh
    obtain ⟨p, hp, e2⟩ := List.any_eq_true.1 hh
    obtain ⟨y, hy⟩ := hk p hp
    refine List.mem_map.2 ⟨p, hp, ?_⟩
    rw [hy] at e2 ⊢
    show y = b
    by_cases c : y = b
    · exact c
    · rw [Maps.sameKey_ne (kI_ne c)] at e2; cases e2
theorem intKeys_nodup {l : List Im} (h : Tidy (mapD l)) : (intKeys (mapD l)).Nodup := by
  obtain ⟨es, e, hk⟩ := mapD_es l
  obtain ⟨es', e', hp⟩ := h
  rw [e] at e' ⊢
  cases e'
  show (es.map fun p => Go.intOf p.1).Pairwise (· ≠ ·)
  refine List.pairwise_map.2 (hp.imp_of_mem fun {p q} hp' hq' hne e => ?_)
  obtain ⟨y, hy⟩ := hk p hp'
  obtain ⟨z, hz⟩ := hk q hq'
  rw [hy, hz] at e hne
  have : y = z := e
  exact hne (by rw [this])
theorem up_of : ∀ {xs : List Int}, xs.Pairwise (fun x y => decide (x ≤ y) = true) → xs.Nodup → xs.Pairwise (· < ·)
  | [], _, _ => List.Pairwise.nil
  | x :: xs, h, hn => List.pairwise_cons.2 ⟨fun y hy => by
      have h1 := of_decide_eq_true ((List.pairwise_cons.1 h).1 y hy)
      have h2 : x ≠ y := fun e => (List.nodup_cons.1 hn).1 (by rw [e]; exact hy)
      omega, up_of (List.pairwise_cons.1 h).2 (List.nodup_cons.1 hn).2⟩
theorem sorted_up {l : List Im} {ss : List Int} (ht : Tidy (mapD l)) (h : ss.Perm (intKeys (mapD l))) : (ss.mergeSort fun x y => decide (x ≤ y)).Pairwise (· < ·) ∧ ∀ b, b ∈ (ss.mergeSort fun x y => decide (x ≤ y)) ↔ b ∈ blks l := by
  have hp := List.mergeSort_perm ss fun x y => decide (x ≤ y)
  have hs : (ss.mergeSort fun x y => decide (x ≤ y)).Pairwise (fun x y => decide (x ≤ y) = true) := List.pairwise_mergeSort (fun a b c h1 h2 => by have := of_decide_eq_true h1; have := of_decide_eq_true h2; exact decide_eq_true (by omega)) (fun a b => by by_cases c : a ≤ b <;> simp <;> omega) ss
  have hn : (ss.mergeSort fun x y => decide (x ≤ y)).Nodup := (hp.trans h).nodup_iff.2 (intKeys_nodup ht)
  refine ⟨up_of hs hn, fun b => ?_⟩
  · rw [(hp.trans h).mem_iff, mapD_keys]
abbrev RV (v : Value) : Option (DataW Value × List MemPlace) := some (.held v, [])
theorem law3 : Keyed Tryz.prog 3 := int_keyed Tryz.underlying3
theorem zeroVal (w : World) : (zeroValue 39).run Tryz.prog w = .ok (.agg (U8 (zs 32)).toArray) w := zv 39 _ zeroV w
theorem look_at {w : World} {B n : Nat} {l : List Im} (h : w.ownsMap Tryz.prog 3 RV B n (mapD l)) {b : Int} (hb : b ∈ blks l) (hw : i64 b) : (Instr.lookup 208 (.map (some B)) (.int .i64 b) false).run Tryz.prog w = .ok (.agg (U8 (lastV l b)).toArray) w := by
  obtain ⟨v, ps, hrun, hv⟩ := h.lookup law3 Tryz.underlying208 (zeroVal w) (zd := .held (.agg (U8 (zs 32)).toArray)) (zp := []) rfl (keyOf_int_mk Tryz.underlying3 (WalkArith.wf_i64 (by unfold i64 at hw; omega)) : keyOf Tryz.prog 3 (.int .i64 b) = some (kI b))
  rw [mapD_at b _ l hb] at hv
  simp only [RV, Option.some.injEq, Prod.mk.injEq, DataW.held.injEq] at hv
  rw [hrun, hv.1]
end Go.Proofs.YtdadpepfpiimgaaGreatDoor
