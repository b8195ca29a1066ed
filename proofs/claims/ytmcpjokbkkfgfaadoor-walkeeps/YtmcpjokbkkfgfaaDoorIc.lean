/-
  Layer 9: what WalKeeps has in hand.
-/
import Derived.Test.YtmcpjokbkkfgfaaDoorIb
import Derived.Test.YtmcpjokbkkfgfaaDoorDLg
namespace Go.Proofs.YtmcpjokbkkfgfaaDoor
open Go.RowKit


/-- a transaction as it lies: its list of blocks, the byte, the mark -/
structure TxV where
  a : Option Addr
  n : Nat
  c : Nat
  f : Int
  m : Int
  xs : List Int
abbrev TxV.cells (t : TxV) : List Value := tcells t.a t.n t.c t.f t.m
structure TsIn (w : World) (p : Option Addr) (n : Nat) (ts : List TxV) : Prop where
  len : ts.length = n
  rows : 0 < n → ∃ b o, p = some ⟨b, o, none⟩ ∧ b < w.heap.size ∧ ∀ (i : Nat) t, ts[i]? = some t → w.rangeAt b (o + i * 3) t.cells
  ins : ∀ t ∈ ts, IIn w .i64 t.a t.n t.xs ∧ t.n ≤ 140737488355328 ∧ (0 ≤ t.f ∧ t.f < 256) ∧ i64 t.m
theorem TsIn.later {w w' : World} {p : Option Addr} {n : Nat} {ts : List TxV} (h : TsIn w p n ts) (hb : Below w.heap.size w w') : TsIn w' p n ts := by
  refine ⟨h.len, fun h0 => ?_, fun t ht => ⟨(h.ins t ht).1.later hb, (h.ins t ht).2⟩⟩
  obtain ⟨b, o, rfl, h1, h2⟩ := h.rows h0
  exact ⟨b, o, rfl, by have := hb.size; omega, fun i t ht => rangeAt_same (h2 i t ht) (hb.block b h1)⟩
theorem infoR : (Tryd.prog.info? 41).map (fun i => (i.zero, i.size, i.bytes)) = some (some (.agg (R.rcells R.rec0).toArray), 36, 64) := by kernel_rfl
theorem build_prec (w : World) (r : R.Rec) (hr : r.val.length = 32) : (Instr.buildSlice 57 1 #[(0, .agg (R.rcells r).toArray)]).run Tryd.prog w = .ok (.slice (some ⟨w.heap.size, 0, none⟩) 1 1) (w.alloc (.cells (R.rcells r).toArray 41)) := by
  obtain ⟨i0, hi, hz0, hz1, hz2⟩ := info_parts infoR
  refine run_buildSlice w 57 41 1 _ _ i0 _ Tryd.underlying57 hi hz0 (by rw [hz1]; decide) (by rw [hz1]; decide) ?_
  rw [hz1]
  have hl : (R.rcells r).length = 36 := R.rcells_len r hr
  have hA : ∀ A : Array Value, A.size = 36 → Instr.fill (fun i => some (i * 36, 36)) A [(0, .agg (R.rcells r).toArray)] = some (R.rcells r).toArray := by
    intro A hA
    have a0 := part_fill 0 (R.rcells r) A.toList (by simp; omega)
    simp only [Instr.fill, Value.cells, List.size_toArray, Nat.zero_mul]
    rw [if_neg (by simp [hl, hA])]
    have a0' : (R.rcells r).toArray.zipIdx.foldl (fun cs x => match x with | (c, j) => cs.setIfInBounds (0 + j) c) A = ((A.toList.take 0 ++ R.rcells r ++ A.toList.drop (0 + (R.rcells r).length))).toArray := a0
    rw [a0', List.drop_eq_nil_of_le (by simp [hl, hA])]
    simp
  exact hA _ (by simp)
section
variable {P : Program} {ops : Array Oper} {rest : List Oper} {o : Oper} {a : Act} {w w' : World} {Q : Exit → Act → World → Prop} {K : Act → World → Prop}
theorem wpList_slice_is (hgd : Region.wanted o (yielded ops a.tmps) = true) (ty : TypeId) {x : Operand} (ho : o.op = .buildSlice ty 1 #[(0, x)]) {u v : Value} (hx : a.eval x = u) (hrun : (Instr.buildSlice ty 1 #[(0, u)]).run P w = .ok v w') (h : wpList P ops Q rest (a.put o.dst v) w') : wpList P ops Q (o :: rest) a w :=
  wpList_val hgd (by
    have e : (#[(0, x)] : Array (Nat × Operand)).map (fun (i, y) => (i, a.eval y)) = #[(0, u)] := by simp [hx]
    unfold execOp; simp only [ho]; rw [e]; simp only [Sem.run_bind, hrun, Result.andThen_ok, Sem.run_pure]) h
theorem wp_slice_is (ty : TypeId) {x : Operand} (ho : o.op = .buildSlice ty 1 #[(0, x)]) {u v : Value} (hx : a.eval x = u) (hrun : (Instr.buildSlice ty 1 #[(0, u)]).run P w = .ok v w') (h : K (a.put o.dst v) w') : o.wp P a w K Q := by
  have e : (#[(0, x)] : Array (Nat × Operand)).map (fun (i, y) => (i, a.eval y)) = #[(0, u)] := by simp [hx]
  have hr : (execOp a.eval o).run P w = .ok (.value v) w' := by unfold execOp; simp only [ho]; rw [e]; simp only [Sem.run_bind, hrun, Result.andThen_ok, Sem.run_pure]
  unfold Oper.wp; rw [hr]; exact h
end
section
variable {w w' : World} {B L p : Nat} {d : List Int} {ws : List Wr} {g : Lg}
/-- rows of other kinds stay -/
theorem row_kt {base : Nat} {e : TypeId} {size : Nat} {v : Value} {n : Nat} {xs : List Value} (h : w.ownsRow base e size v n xs) (hk : KT B w w') (he : ¬ Ours e) : w'.ownsRow base e size v n xs :=
  own_same h fun k hk' => by
    obtain ⟨sz, cur, hc, _⟩ := own_ownBlk h hk'
    rw [hk.other k cur e (0, 0) he hc, hc]
theorem row_row {base base' : Nat} {e e' : TypeId} {size size' : Nat} {v v' : Value} {n n' : Nat} {xs xs' : List Value} (h : w.ownsRow base e size v n xs) (h' : w.ownsRow base' e' size' v' n' xs') (he : e ≠ e') (hg : w.grownBy w' v'.ownBlock) : w'.ownsRow base e size v n xs :=
  own_same h fun k hk => hg.block k (by obtain ⟨sz, hb⟩ := own_ownBlk h hk; exact hb.lt) fun e0 => by
    obtain ⟨sz, hb⟩ := own_ownBlk h hk
    obtain ⟨sz', hb'⟩ := own_ownBlk h' e0.symm
    exact hb.ne hb' he rfl
/-- a row of another kind has grown -/
theorem LB.grown {base : Nat} {e : TypeId} {size : Nat} {v : Value} {n : Nat} {xs : List Value} (h : LB w B L p d ws g) (hr : w.ownsRow base e size v n xs) (he : ¬ Ours e) (hg : w.grownBy w' v.ownBlock) : LB w' B L p d ws g := by
  have hk : Kept (fun k => some k = v.ownBlock) w w' := ⟨hg.os, hg.tape, hg.output, hg.size, fun k h1 h2 => hg.block k h1 h2⟩
  refine (h.typed.kept hk ?_).mono fun k _ s => s.1
  rintro k ⟨_, cs, t, f, ht, hc⟩ e0
  obtain ⟨sz, cur, hc', _⟩ := own_ownBlk hr e0.symm
  rw [hc] at hc'
  cases hc'
  exact he ht
end
/-- the log between two transactions -/
structure Inv (w0 W : World) (B L p : Nat) (s : Sup) (tl : Int) (i : Nat) (v10 v11 : Value) (d : List Int) (ws : List Wr) (g : Lg) (all : List R.Rec) (cs : List Int) : Prop where
  lb : LB W B L p d ws g
  hold : Holds g ws d tl all
  cfg : g.c = s
  idle : g.imgs = 0
  wfs : ∀ r ∈ all, r.val.length = 32
  nall : all.length ≤ 17 * i
  nws : ws.length ≤ 20 * i
  rall : W.ownsRow B 41 36 v10 all.length (RC all)
  rcs : W.ownsRow B 31 1 v11 cs.length (U64 cs)
  ncs : 1 ≤ cs.length ∧ cs.length ≤ i + 1
  csb : ∀ c ∈ cs, tl ≤ c ∧ c ≤ g.fin
  low : Below B w0 W
theorem Inv.mono {w0 W : World} {B L p : Nat} {s : Sup} {tl : Int} {i j : Nat} {v10 v11 : Value} {d : List Int} {ws : List Wr} {g : Lg} {all : List R.Rec} {cs : List Int} (h : Inv w0 W B L p s tl i v10 v11 d ws g all cs) (hij : i ≤ j) : Inv w0 W B L p s tl j v10 v11 d ws g all cs :=
  ⟨h.lb, h.hold, h.cfg, h.idle, h.wfs, by have := h.nall; omega, by have := h.nws; omega, h.rall, h.rcs, by have := h.ncs; omega, h.csb, h.low⟩
theorem Inv.later {w0 W W' : World} {B L p : Nat} {s : Sup} {tl : Int} {i : Nat} {v10 v11 : Value} {d : List Int} {ws : List Wr} {g : Lg} {all : List R.Rec} {cs : List Int} (h : Inv w0 W B L p s tl i v10 v11 d ws g all cs) (hb : Below W.heap.size W W') : Inv w0 W' B L p s tl i v10 v11 d ws g all cs :=
  ⟨LD.later h.lb hb, h.hold, h.cfg, h.idle, h.wfs, h.nall, h.nws, own_later h.rall hb, own_later h.rcs hb, h.ncs, h.csb, h.low.trans (hb.mono h.lb.base)⟩
/-- the log within a transaction: k of its images have been written -/
structure Mid9 (w0 W : World) (B L p : Nat) (s : Sup) (tl : Int) (i k : Nat) (v10 v11 v13 : Value) (d : List Int) (ws : List Wr) (g g0 : Lg) (all : List R.Rec) (cs ys : List Int) : Prop where
  lb : LB W B L p d ws g
  hold : Holds g ws d tl all
  cfg : g.c = s
  tail : g.tail = g0.tail
  fin : g.fin = g0.fin + k
  imgs : g.imgs = k
  last : ∀ y ∈ ys.drop k, g.last < y
  wfs : ∀ r ∈ all, r.val.length = 32
  nall : all.length ≤ 17 * i + k
  nws : ws.length ≤ 20 * i + k
  rall : W.ownsRow B 41 36 v10 all.length (RC all)
  rcs : W.ownsRow B 31 1 v11 cs.length (U64 cs)
  rys : W.ownsRow B 3 1 v13 ys.length (I64 ys)
  low : Below B w0 W
theorem RC_one (all : List R.Rec) (r : R.Rec) (hr : r.val.length = 32) (h : ∀ x ∈ all, x.val.length = 32) : ∀ x ∈ all ++ [r], x.val.length = 32 := fun x hx => by
  rcases List.mem_append.1 hx with hx | hx
  · exact h x hx
  · rcases List.mem_singleton.1 hx with rfl; exact hr
end Go.Proofs.YtmcpjokbkkfgfaaDoor
