/-
  Layer 9: told: the records that a log gives, collected.
-/
import Derived.Test.YtmcpjokbkkfgfaaGreatDoorT01
import Derived.Test.YtmcpjokbkkfgfaaGreatDoorT14
import Derived.Test.YtmcpjokbkkfgfaaGreatDoorT15
import Derived.Maps.AppendAt
import Derived.Great.BuildSlice
namespace Go.Proofs.YtmcpjokbkkfgfaaGreatDoor
open Go.RowKit Go.Shelf

attribute [local go_sem] Oper.semAt_some


/-- the cells of records, one behind the other -/
def RC (xs : List R.Rec) : List Value := (xs.map R.rcells).flatten
theorem RC_snoc (xs : List R.Rec) (x : R.Rec) : RC (xs ++ [x]) = RC xs ++ R.rcells x := by simp [RC]
theorem infoRR : (Tryz.prog.info? 87).map (fun i => (i.zero, i.size, i.bytes)) = some (some (.agg (R.rcells R.rec0).toArray), 36, 64) := by kernel_rfl
theorem build_one (w : World) (r : R.Rec) (hr : r.val.length = 32) : (Instr.buildSlice 68 1 #[(0, .agg (R.rcells r).toArray)]).run Tryz.prog w = .ok (.slice (some ⟨w.heap.size, 0, none⟩) 1 1) (w.alloc (.cells (R.rcells r).toArray 87)) := by
  obtain ⟨i0, hi, hz0, hz1, hz2⟩ := info_parts infoRR
  refine run_buildSlice w 68 87 1 _ _ i0 _ Tryz.underlying68 hi hz0 (by rw [hz1]; decide) (by rw [hz1]; decide) ?_
  rw [hz1]
  have hl : (R.rcells r).length = 36 := R.rcells_len r hr
  have hA : ∀ A : Array Value, A.size = 36 → Instr.fill (fun i => some (i * 36, 36)) A [(0, .agg (R.rcells r).toArray)] = some (R.rcells r).toArray := by
    intro A hA
    have a0 := part_fill 0 (R.rcells r) A.toList (by simp; omega)
    simp only [Instr.fill, Value.cells, List.size_toArray, Nat.zero_mul]
    rw [if_neg (by simp [hl, hA])]
    have a0' : (R.rcells r).toArray.zipIdx.foldl (fun cs x => match x with | (c, j) => cs.setIfInBounds (0 + j) c) A = ((A.toList.take 0 ++ R.rcells r ++ A.toList.drop (0 + (R.rcells r).length))).toArray := a0
    rw [a0', List.drop_eq_nil_of_le (by simp [hl, hA])]
    simp
  exact hA _ (by simp)
theorem results_two {fn : Func} {p u : Tmp} (h : fn.results = #[.cell p 68, .cell u 4]) (tmps : Array Value) (w : World) (g1 g2 : Nat) (v1 v2 : Value)
    (h1 : tmps.getD p undef = .pointer (some ⟨g1, 0, none⟩)) (h2 : tmps.getD u undef = .pointer (some ⟨g2, 0, none⟩)) (c1 : w.cell? ⟨g1, 0, none⟩ = some v1) (c2 : w.cell? ⟨g2, 0, none⟩ = some v2) :
    (results fn tmps).run Tryz.prog w = .ok (.tuple #[v1, v2]) w := by
  rw [Array.getD_eq_getD_getElem?] at h1 h2
  simp only [results, h]
  simp [Sem.run_bind, Result.andThen, h1, h2, loadVar, isAgg, asAddr, go_sem, c1, c2]
set_option maxHeartbeats 1000000 in
set_option maxRecDepth 100000 in
theorem all_any (lp : Option Addr) (w : World) : Calls Tryz.prog 47 #[.pointer lp] w fun r w' => r = .returned (.func (.func 80) #[] #[.pointer (some ⟨w.heap.size, 0, none⟩)]) ∧ w.alloc (.cells #[.pointer lp] 35) = w' := by
  have hmf : ∀ (fn : Fn) (first cap : Array Value) (w : World), (Instr.makeFunc fn first cap).run Tryz.prog w = .ok (.func fn first cap) w := fun _ _ _ _ => rfl
  go_enter Tryz.func47, Tryz.ntmps47
  go_wp2
  go_ret
  exact ⟨rfl, rfl⟩
theorem all_nil (B : Nat) (w : World) : (binOp BinOp.eql 109 (.func (.func 80) #[] #[.pointer (some ⟨B, 0, none⟩)]) .nilFunc).run Tryz.prog w = .ok (.bool false) w := by kernel_rfl
theorem cells_new (w : World) (cs : List Value) (ty : TypeId) : ∀ j u, cs[j]? = some u → (w.alloc (.cells cs.toArray ty)).cell? ((⟨w.heap.size, 0, none⟩ : Addr).add j) = some u := fun j u hu => by
  rw [Addr.add_mid, Nat.zero_add, cell_of_row _ w.heap.size j _ ty (0, 0) (heap_alloc_new w _)]
  simpa using hu
section
variable {F : Fence} {n : Nat} {P : Program} {ops : Array Oper} {o : Oper} {a : Act} {w w' : World} {Q : Exit → Act → World → Prop} {K : Act → World → Prop}
theorem op_val (hgd : Region.wanted o (yielded ops a.tmps) = true) (hab : o.about P w a.eval = none) (hop : ∀ c, o.op ≠ .defer c) {v : Value} (hrun : (execOp a.eval o).run P w = .ok (.value v) w') (h : K (a.put o.dst v) w') : if Region.wanted o (yielded ops a.tmps) = true then Oper.wpIn F n P o a w K Q else (∀ f, o.about P w a.eval = some f → F.fn f) ∧ K (a.put o.dst undef) w := by
  rw [if_pos hgd]
  unfold Oper.wpIn
  refine ⟨fun f hf => (by rw [hab] at hf; cases hf), ?_⟩
  rw [Oper.semAt_plain F _ _ hop, hrun]
  exact h
theorem op_load (hgd : Region.wanted o (yielded ops a.tmps) = true) (ty : TypeId) {x : Operand} (ho : o.op = .load ty x) {p v : Value} (hx : a.eval x = p) (hrun : (Instr.loadAt ty p).run P w = .ok v w) (h : K (a.put o.dst v) w) : if Region.wanted o (yielded ops a.tmps) = true then Oper.wpIn F n P o a w K Q else (∀ f, o.about P w a.eval = some f → F.fn f) ∧ K (a.put o.dst undef) w :=
  op_val hgd (by simp [Oper.about, ho]) (by rw [ho]; intro c e; cases e) (by unfold execOp; simp only [ho, hx, Sem.run_bind, hrun, Result.andThen_ok, Sem.run_pure]) h
theorem op_slice (hgd : Region.wanted o (yielded ops a.tmps) = true) (ty : TypeId) {x : Operand} (ho : o.op = .buildSlice ty 1 #[(0, x)]) {u v : Value} (hx : a.eval x = u) (hrun : (Instr.buildSlice ty 1 #[(0, u)]).run P w = .ok v w') (h : K (a.put o.dst v) w') : if Region.wanted o (yielded ops a.tmps) = true then Oper.wpIn F n P o a w K Q else (∀ f, o.about P w a.eval = some f → F.fn f) ∧ K (a.put o.dst undef) w :=
  op_val hgd (by simp [Oper.about, ho]) (by rw [ho]; intro c e; cases e) (by
    have e : (#[(0, x)] : Array (Nat × Operand)).map (fun (i, y) => (i, a.eval y)) = #[(0, u)] := by simp [hx]
    unfold execOp; simp only [ho]; rw [e]; simp only [Sem.run_bind, hrun, Result.andThen_ok, Sem.run_pure]) h
theorem op_append (hgd : Region.wanted o (yielded ops a.tmps) = true) {s x : Operand} {t : TypeId} (ho : o.op = .call { callee := .builtin .append, args := #[s, x], argTypes := #[t, t] }) {u1 u2 v : Value} (hs : a.eval s = u1) (hx : a.eval x = u2) (hrun : (Builtin.append_ #[t, t] o.type #[u1, u2]).run P w = .ok v w') (h : K (a.put o.dst v) w') : if Region.wanted o (yielded ops a.tmps) = true then Oper.wpIn F n P o a w K Q else (∀ f, o.about P w a.eval = some f → F.fn f) ∧ K (a.put o.dst undef) w := by
  refine op_val hgd ?_ (by rw [ho]; intro c e; cases e) (v := v) (w' := w') ?_ h
  · simp [Oper.about, ho, resolve, Target.leads, Sem.run_pure]
  · simp [execOp, ho, resolve, invoke, builtin, hs, hx, hrun, Result.andThen]
end
/-- what the rounds have made of the list -/
def Got (n₀ B K : Nat) (pre : List WR) (W : World) : Prop := ∃ v, Boxed W B 68 v ∧ W.ownsRow n₀ 87 36 v pre.length (RC (recs pre)) ∧ pre.length ≤ K
/-- how the loop is left: enough has come -/
def Enough (w : World) (B1 B2 B4 : Nat) (k : Int) (c : Code) (pre' : List WR) (W : World) : Prop := c = .exit 0 ∧ ∃ (pre : List WR) (x : WR), (pre' = pre ++ [x] ∧ k ≤ pre.length) ∧ Got w.heap.size B4 k.toNat pre W ∧ (Boxed W B1 68 (.slice none 0 0) ∧ (Boxed W B2 4 (.bool false) ∧ Below w.heap.size w W))
theorem own_got (n₀ B K C : Nat) : OwnFrom C (Got n₀ B K) :=
  Own.from (holdsRow_own (β := List WR) n₀ B 68 87 36 (fun pre => pre.length) (fun pre => RC (recs pre)) (fun pre _ => pre.length ≤ K)) C

set_option maxRecDepth 100000 in
set_option maxHeartbeats 4000000 in
theorem told_any {w : World} {lp : Option Addr} {t e : Int} {rd : Int → R.Rec × Int} (h : Rdr w lp t e rd) (k : Int) (hk0 : -9223372036854775808 ≤ k) (hk1 : k ≤ 9223372036854775807) :
    Calls Tryz.prog 18 #[.pointer lp, .int .i64 k] w fun r w' => ∃ v, r = .returned (.tuple #[v, .bool true]) ∧ w'.ownsRow w.heap.size 87 36 v ((allR rd t (e - t).toNat).take k.toNat).length (RC ((allR rd t (e - t).toNat).take k.toNat)) ∧ Below w.heap.size w w' := by
  obtain ⟨i0, hi, hz0, hz1, hz2⟩ := info_parts infoRR
  have hmo : Tryz.prog.follows Departure.mixedOrders = true := by kernel_rfl
  have hnil := all_nil (w.heap.size + 1 + 1 + 1)
  have HL : Hid (Rdr w lp t e rd) := h
  clear h
  refine (callsIn_wide (n := 9)).1 ?_
  refine callsIn_of_wp_marks Tryz.func18 rfl trivial ?_ rfl
  simp only [Tryz.ntmps18, List.size_toArray, List.length_cons, List.length_nil, Nat.reduceAdd, Nat.reduceSub, Array.replicate_succ, Array.replicate_zero, List.push_toArray, List.append_toArray, List.nil_append, List.cons_append]
  gi_wp2_with (refine ⟨trivial, ?_⟩; gi_at_call 47; refine (callsIn_wide.2 (all_any _ _)).mono ?_; rintro e' w' ⟨rfl, rfl⟩)
  have bK : Hid (Boxed (((((w.alloc (.cells #[.int .i64 k] 3)).alloc (.cells #[.slice none 0 0] 68)).alloc (.cells #[.bool false] 4)).alloc (.cells #[.pointer lp] 35)).alloc (.cells #[.slice none 0 0] 68)) w.heap.size 3 (.int .i64 k)) := ((((Boxed.new w 3 (.int .i64 k)).alloc _).alloc _).alloc _).alloc _
  have b1 : Hid (Boxed (((((w.alloc (.cells #[.int .i64 k] 3)).alloc (.cells #[.slice none 0 0] 68)).alloc (.cells #[.bool false] 4)).alloc (.cells #[.pointer lp] 35)).alloc (.cells #[.slice none 0 0] 68)) (w.heap.size + 1) 68 (.slice none 0 0)) := by
    have := (((Boxed.new (w.alloc (.cells #[.int .i64 k] 3)) 68 (.slice none 0 0)).alloc (.cells #[.bool false] 4)).alloc (.cells #[.pointer lp] 35)).alloc (.cells #[.slice none 0 0] 68)
    rwa [World.size_alloc] at this
  have b2 : Hid (Boxed (((((w.alloc (.cells #[.int .i64 k] 3)).alloc (.cells #[.slice none 0 0] 68)).alloc (.cells #[.bool false] 4)).alloc (.cells #[.pointer lp] 35)).alloc (.cells #[.slice none 0 0] 68)) (w.heap.size + 1 + 1) 4 (.bool false)) := by
    have := ((Boxed.new ((w.alloc (.cells #[.int .i64 k] 3)).alloc (.cells #[.slice none 0 0] 68)) 4 (.bool false)).alloc (.cells #[.pointer lp] 35)).alloc (.cells #[.slice none 0 0] 68)
    rwa [World.size_alloc, World.size_alloc] at this
  have b3 : Hid (Boxed (((((w.alloc (.cells #[.int .i64 k] 3)).alloc (.cells #[.slice none 0 0] 68)).alloc (.cells #[.bool false] 4)).alloc (.cells #[.pointer lp] 35)).alloc (.cells #[.slice none 0 0] 68)) (w.heap.size + 1 + 1 + 1) 35 (.pointer lp)) := by
    have := (Boxed.new (((w.alloc (.cells #[.int .i64 k] 3)).alloc (.cells #[.slice none 0 0] 68)).alloc (.cells #[.bool false] 4)) 35 (.pointer lp)).alloc (.cells #[.slice none 0 0] 68)
    rwa [World.size_alloc, World.size_alloc, World.size_alloc] at this
  have b4 : Hid (Boxed (((((w.alloc (.cells #[.int .i64 k] 3)).alloc (.cells #[.slice none 0 0] 68)).alloc (.cells #[.bool false] 4)).alloc (.cells #[.pointer lp] 35)).alloc (.cells #[.slice none 0 0] 68)) (w.heap.size + 1 + 1 + 1 + 1) 68 (.slice none 0 0)) := by
    have := Boxed.new ((((w.alloc (.cells #[.int .i64 k] 3)).alloc (.cells #[.slice none 0 0] 68)).alloc (.cells #[.bool false] 4)).alloc (.cells #[.pointer lp] 35)) 68 (.slice none 0 0)
    rwa [World.size_alloc, World.size_alloc, World.size_alloc, World.size_alloc] at this
  have hB0 : Hid (Below w.heap.size w (((((w.alloc (.cells #[.int .i64 k] 3)).alloc (.cells #[.slice none 0 0] 68)).alloc (.cells #[.bool false] 4)).alloc (.cells #[.pointer lp] 35)).alloc (.cells #[.slice none 0 0] 68))) := (((((Below.refl w.heap.size w).alloc (Nat.le_refl _) _).alloc (by simp) _).alloc (by simp; omega) _).alloc (by simp; omega) _).alloc (by simp; omega) _
  have hsz : ((((((w.alloc (.cells #[.int .i64 k] 3)).alloc (.cells #[.slice none 0 0] 68)).alloc (.cells #[.bool false] 4)).alloc (.cells #[.pointer lp] 35)).alloc (.cells #[.slice none 0 0] 68))).heap.size = w.heap.size + 5 := by simp
  obtain ⟨W0, hW0⟩ : ∃ x, (((((w.alloc (.cells #[.int .i64 k] 3)).alloc (.cells #[.slice none 0 0] 68)).alloc (.cells #[.bool false] 4)).alloc (.cells #[.pointer lp] 35)).alloc (.cells #[.slice none 0 0] 68)) = x := ⟨_, rfl⟩
  rw [hW0] at bK b1 b2 b3 b4 hB0 hsz ⊢
  clear hW0 hnil
  refine range_in (F := Fence.wide) (n := 9) (P := Tryz.prog) rfl (by decide) (gf := 80) (lb := #[.pointer (some ⟨(w.heap.size + 1 + 1 + 1), 0, none⟩)]) rfl trivial (enters_of Tryz.func80 (by kernel_rfl) rfl)
    (all1_in (9 - 1) (by decide) HL.out (w.heap.size + 1 + 1 + 1) hB0.out b3.out) KP.trans (fun W l o o' hl h hc => KP.putObj W l o o' (by omega) h hc) (Below.refl _ _) (fun _ => rfl)
    (fun pre W => Got w.heap.size (w.heap.size + 1 + 1 + 1 + 1) k.toNat pre W ∧ (Boxed W w.heap.size 3 (.int .i64 k) ∧ (Boxed W (w.heap.size + 1) 68 (.slice none 0 0) ∧ (Boxed W (w.heap.size + 1 + 1) 4 (.bool false) ∧ Below w.heap.size w W))))
    (Enough w (w.heap.size + 1) (w.heap.size + 1 + 1) (w.heap.size + 1 + 1 + 1 + 1) k)
    ?hI ?hIx ⟨⟨_, b4.out, World.ownsRow_nil _ _ _ _, Nat.zero_le _⟩, bK.out, b1.out, b2.out, hB0.out⟩
    (fun x a' W => ∃ Bx, (R.RAt 62 W Bx x.1) ∧ a' = { tmps := #[.pointer lp, .int .i64 k, undef, .pointer (some ⟨w.heap.size, 0, none⟩), .pointer (some ⟨(w.heap.size + 1), 0, none⟩), .pointer (some ⟨(w.heap.size + 1 + 1), 0, none⟩), .func (.func 80) #[] #[.pointer (some ⟨(w.heap.size + 1 + 1 + 1), 0, none⟩)], .pointer (some ⟨(w.heap.size + 1 + 1 + 1 + 1), 0, none⟩), .int .u64 x.1.pos, .pointer (some ⟨Bx, 0, none⟩), .pointer lp, .func (.func 80) #[] #[.pointer (some ⟨(w.heap.size + 1 + 1 + 1), 0, none⟩)], .func (.func 80) #[] #[.pointer (some ⟨(w.heap.size + 1 + 1 + 1), 0, none⟩)], .bool false, .func (.func 80) #[] #[.pointer (some ⟨(w.heap.size + 1 + 1 + 1), 0, none⟩)], .int .u64 x.1.pos, .agg (R.rcells x.1).toArray, undef, undef, undef, undef, undef, undef, undef, undef, undef, undef, undef, undef, undef, undef, undef, undef, undef, undef, undef], defers := [] })
    ?hAx ?assign ?body ?done ?stop
  case hI =>
    exact OwnFrom.and (own_got _ _ _ _) (OwnFrom.and (own_box _ _ _ _) (OwnFrom.and (own_box _ _ _ _) (OwnFrom.and (own_box _ _ _ _) (ownFrom_below (Nat.le_refl _) (by omega)))))
  case hIx =>
    rintro c s V V' row ⟨hc, pre, x, h1, h2, h3, h4, h5⟩ hg hr
    exact ⟨hc, pre, x, h1, own_got _ _ _ _ pre V V' row h2 hg hr, own_box (β := Unit) _ _ _ _ () V V' row h3 hg hr, own_box (β := Unit) _ _ _ _ () V V' row h4 hg hr, ownFrom_below (β := Unit) (Nat.le_refl _) (show w.heap.size ≤ W0.heap.size by omega) () V V' row h5 hg hr⟩
  case hAx =>
    rintro x a' _ V V' row ⟨Bx, h1, h2⟩ hg hr
    exact ⟨Bx, (grownBy_keeps_cells hg (fun r e => (hr r e).2) h1 rfl).trans h1, h2⟩
  case assign =>
    rintro l1 pre x V K ⟨⟨v, h1, h2, h2'⟩, h3, h4, h5, h6⟩ hK
    have A4 : Hid (_) := R.alloc31 V
    have T4 : Hid (_) := R.store_new R.size31 V x.1 x.2.len
    have hb := below_alloc V (.cells (R.rcells x.1).toArray 62)
    have HK : Hid (_) := hK
    have Y : Hid (_) := HK.out _ _ (keeps_of_below hb W0.heap.size) (KP.below hb h6.size) ⟨⟨v, h1.alloc _, h2.alloc _, h2'⟩, h3.alloc _, h4.alloc _, h5.alloc _, h6.trans (hb.mono h6.size)⟩ ⟨V.heap.size, R.RAt.new 62 V x.1, rfl⟩
    clear hK HK h1 h2 h3 h4 h5 h6 hb
    gi_wp2_with ((with_reducible refine in_ops ?_); (first | (refine in_alloc (by rfl) 62 rfl A4.out ?_) | (refine in_store (by rfl) 62 rfl rfl rfl T4.out ?_)); simp only [Act.put, List.setIfInBounds_toArray, List.set_cons_zero, List.set_cons_succ])
    exact Y.out
  case body =>
    rintro l1 pre x a' V ⟨⟨v, h1, h2, h2'⟩, h3, h4, h5, h6⟩ ⟨Bx, hx, rfl⟩ hlt
    obtain ⟨q, cap, rfl, -, -⟩ := own_slice h2
    have c4 := h1.cell
    have c0 := h3.cell
    have cp := R.RAt.c1 hx
    have H1 : Hid (Boxed V (w.heap.size + 1 + 1 + 1 + 1) 68 (.slice q pre.length cap)) := h1
    have H2 : Hid (V.ownsRow w.heap.size 87 36 (.slice q pre.length cap) pre.length (RC (recs pre))) := h2
    have H3 : Hid (Boxed V w.heap.size 3 (.int .i64 k)) := h3
    have H4 : Hid (Boxed V (w.heap.size + 1) 68 (.slice none 0 0)) := h4
    have H5 : Hid (Boxed V (w.heap.size + 1 + 1) 4 (.bool false)) := h5
    have H6 : Hid (Below w.heap.size w V) := h6
    have HX : Hid (R.RAt 62 V Bx x.1) := hx
    have h100 : ¬ (100 : Int) < (pre.length : Int) := by omega
    clear h1 h2 h3 h4 h5 h6 hx
    by_cases hk : k ≤ pre.length
    · have HE : Hid (Enough w (w.heap.size + 1) (w.heap.size + 1 + 1) (w.heap.size + 1 + 1 + 1 + 1) k (.exit 0) (pre ++ [x]) V) := ⟨rfl, pre, x, ⟨rfl, hk⟩, ⟨_, H1.out, H2.out, h2'⟩, H4.out, H5.out, H6.out⟩
      gi_wp2
      exact ⟨KeepsFrom.refl _ _, HE.out⟩
    · gi_wp2
      refine wpIn_region_any hmo ?_
      change wpAnyIn _ _ _ _ _ _ _ _ _ (World.drew V)
      have D : Hid (Below V.heap.size V V.drew) := below_drawn 1
      clear c4 c0 cp
      generalize V.drew = Vd at *
      have F1 : Hid (Boxed Vd (w.heap.size + 1 + 1 + 1 + 1) 68 (.slice q pre.length cap)) := (D.out.block _ H1.out.lt).trans H1.out
      have L1 : Hid (_) := R.RAt.load31 (R.RAt.later HX.out D.out) x.2.len
      refine wpAnyIn_ready (rs := [0, 1]) (by kernel_rfl) (by simp) ?_
      refine AllReadyIn.cons rfl (fun Kc hKc => ?_) (AllReadyIn.cons rfl (fun Kc hKc => ?_) AllReadyIn.nil)
      · have z := (F1.out).cell
        go_simp
        refine hKc _ _ ?_
        clear hKc Kc
        clear z
        refine wpAnyIn_ready (rs := [1]) (by kernel_rfl) (by simp) ?_
        refine AllReadyIn.cons rfl (fun Kc hKc => ?_) AllReadyIn.nil
        refine op_load (by rfl) 62 rfl rfl L1.out ?_
        refine hKc _ _ ?_
        clear hKc Kc
        refine wpAnyIn_ready (rs := [2]) (by kernel_rfl) (by simp) ?_
        refine AllReadyIn.cons rfl (fun Kc hKc => ?_) AllReadyIn.nil
        go_simp
        refine ⟨trivial, (CallsIn.inRound l1 (callsIn_wide.2 (R.plain_any x.1 x.2.len Vd))).mono ?_⟩
        rintro e' V2 ⟨rfl, b2⟩
        have D2 : Hid (Below V.heap.size V V2) := below_then D.out b2
        have F2 : Hid (Boxed V2 (w.heap.size + 1 + 1 + 1 + 1) 68 (.slice q pre.length cap)) := (D2.out.block _ H1.out.lt).trans H1.out
        clear b2
        refine hKc _ _ ?_
        clear hKc Kc
        refine wpAnyIn_ready (rs := [3]) (by kernel_rfl) (by simp) ?_
        refine AllReadyIn.cons rfl (fun Kc hKc => ?_) AllReadyIn.nil
        refine op_slice (by rfl) 68 rfl rfl (build_one V2 x.1 x.2.len) ?_
        refine hKc _ _ ?_
        clear hKc Kc
        refine wpAnyIn_ready (rs := [4]) (by kernel_rfl) (by simp) ?_
        refine AllReadyIn.cons rfl (fun Kc hKc => ?_) AllReadyIn.nil
        have h65 : (65 : Nat) ≤ maxLen := by decide
        obtain ⟨v', V4, hrun, hown', hgrow, -⟩ := run_append_own (P := Tryz.prog) (V2.alloc (.cells (R.rcells x.1).toArray 87)) w.heap.size 68 68 87 i0 _ 36 64 Tryz.underlying68 hi hz0 hz1 hz2 rfl (by decide) (.slice q pre.length cap) pre.length (RC (recs pre)) ((own_later H2.out D2.out).alloc _) ⟨V2.heap.size, 0, none⟩ 1 1 (R.rcells x.1) (by rw [R.rcells_len _ x.2.len]) (cells_new V2 (R.rcells x.1) 87) (R.rcells_ones x.1) (by omega) (by omega) (by have := H6.out.size; have := D2.out.size; simp; omega)
        obtain ⟨g', cap', rfl⟩ := ownsRow_succ hown'
        refine op_append (by rfl) rfl rfl rfl hrun ?_
        refine hKc _ _ ?_
        clear hKc Kc
        refine wpAnyIn_ready (rs := [5]) (by kernel_rfl) (by simp) ?_
        refine AllReadyIn.cons rfl (fun Kc hKc => ?_) AllReadyIn.nil
        obtain ⟨hv1, hv2, hr2, hk2, hb2⟩ := F2.out.appended (by decide) (own_later H2.out D2.out) (by have := H6.out.size; have := D2.out.size; omega) (by omega) hown' hgrow
        have z := hv1.cell
        have zf := hv1.frozen
        go_simp
        refine hKc _ _ ?_
        clear hKc Kc z zf
        refine wpAnyIn_done (by kernel_rfl) ?_ _
        have hVV : KP w.heap.size V (V4.setCell ⟨(w.heap.size + 1 + 1 + 1 + 1), 0, none⟩ (.slice (some ⟨g', 0, none⟩) (pre.length + 1) cap')) := by
          refine ⟨(D2.out.mono H6.out.size).trans hb2, fun j u t' ht hb => ?_⟩
          have hbV2 : Boxed V2 j t' u := (D2.out.block _ hb.lt).trans hb
          refine ((hbV2.alloc _).kept hgrow ((hbV2).not_row (by rcases ht with rfl | rfl | rfl <;> decide) (own_later H2.out D2.out))).other ?_ _
          rintro rfl
          have := hb.symm.trans H1.out
          simp only [Option.some.injEq, Obj.cells.injEq] at this
          rcases ht with rfl | rfl | rfl <;> exact absurd this.2.1 (by decide)
        have hob : ∀ j t' u, t' ≠ 87 → j ≠ (w.heap.size + 1 + 1 + 1 + 1) → Boxed V j t' u → Boxed (V4.setCell ⟨(w.heap.size + 1 + 1 + 1 + 1), 0, none⟩ (.slice (some ⟨g', 0, none⟩) (pre.length + 1) cap')) j t' u := fun j t' u ht hj hb => by
          have hbV2 : Boxed V2 j t' u := (D2.out.block _ hb.lt).trans hb
          exact ((hbV2.alloc _).kept hgrow (hbV2.not_row ht (own_later H2.out D2.out))).other hj _
        refine ⟨(keeps_of_below D2.out _).trans (hk2.from _), hVV, ⟨_, hv2, ?_, ?_⟩, hob _ _ _ (by decide) (by omega) H3.out, hob _ _ _ (by decide) (by omega) H4.out, hob _ _ _ (by decide) (by omega) H5.out, H6.out.trans hVV.low⟩
        · rw [show RC (recs (pre ++ [x])) = RC (recs pre) ++ R.rcells x.1 by rw [← RC_snoc]; simp, show (pre ++ [x]).length = pre.length + 1 by simp]
          exact hr2
        · simp; omega
      · refine op_load (by rfl) 62 rfl rfl L1.out ?_
        refine hKc _ _ ?_
        clear hKc Kc
        refine wpAnyIn_ready (rs := [0, 2]) (by kernel_rfl) (by simp) ?_
        refine AllReadyIn.cons rfl (fun Kc hKc => ?_) (AllReadyIn.cons rfl (fun Kc hKc => ?_) AllReadyIn.nil)
        · have z := (F1.out).cell
          go_simp
          refine hKc _ _ ?_
          clear hKc Kc
          clear z
          refine wpAnyIn_ready (rs := [2]) (by kernel_rfl) (by simp) ?_
          refine AllReadyIn.cons rfl (fun Kc hKc => ?_) AllReadyIn.nil
          go_simp
          refine ⟨trivial, (CallsIn.inRound l1 (callsIn_wide.2 (R.plain_any x.1 x.2.len Vd))).mono ?_⟩
          rintro e' V2 ⟨rfl, b2⟩
          have D2 : Hid (Below V.heap.size V V2) := below_then D.out b2
          have F2 : Hid (Boxed V2 (w.heap.size + 1 + 1 + 1 + 1) 68 (.slice q pre.length cap)) := (D2.out.block _ H1.out.lt).trans H1.out
          clear b2
          refine hKc _ _ ?_
          clear hKc Kc
          refine wpAnyIn_ready (rs := [3]) (by kernel_rfl) (by simp) ?_
          refine AllReadyIn.cons rfl (fun Kc hKc => ?_) AllReadyIn.nil
          refine op_slice (by rfl) 68 rfl rfl (build_one V2 x.1 x.2.len) ?_
          refine hKc _ _ ?_
          clear hKc Kc
          refine wpAnyIn_ready (rs := [4]) (by kernel_rfl) (by simp) ?_
          refine AllReadyIn.cons rfl (fun Kc hKc => ?_) AllReadyIn.nil
          have h65 : (65 : Nat) ≤ maxLen := by decide
          obtain ⟨v', V4, hrun, hown', hgrow, -⟩ := run_append_own (P := Tryz.prog) (V2.alloc (.cells (R.rcells x.1).toArray 87)) w.heap.size 68 68 87 i0 _ 36 64 Tryz.underlying68 hi hz0 hz1 hz2 rfl (by decide) (.slice q pre.length cap) pre.length (RC (recs pre)) ((own_later H2.out D2.out).alloc _) ⟨V2.heap.size, 0, none⟩ 1 1 (R.rcells x.1) (by rw [R.rcells_len _ x.2.len]) (cells_new V2 (R.rcells x.1) 87) (R.rcells_ones x.1) (by omega) (by omega) (by have := H6.out.size; have := D2.out.size; simp; omega)
          obtain ⟨g', cap', rfl⟩ := ownsRow_succ hown'
          refine op_append (by rfl) rfl rfl rfl hrun ?_
          refine hKc _ _ ?_
          clear hKc Kc
          refine wpAnyIn_ready (rs := [5]) (by kernel_rfl) (by simp) ?_
          refine AllReadyIn.cons rfl (fun Kc hKc => ?_) AllReadyIn.nil
          obtain ⟨hv1, hv2, hr2, hk2, hb2⟩ := F2.out.appended (by decide) (own_later H2.out D2.out) (by have := H6.out.size; have := D2.out.size; omega) (by omega) hown' hgrow
          have z := hv1.cell
          have zf := hv1.frozen
          go_simp
          refine hKc _ _ ?_
          clear hKc Kc z zf
          refine wpAnyIn_done (by kernel_rfl) ?_ _
          have hVV : KP w.heap.size V (V4.setCell ⟨(w.heap.size + 1 + 1 + 1 + 1), 0, none⟩ (.slice (some ⟨g', 0, none⟩) (pre.length + 1) cap')) := by
            refine ⟨(D2.out.mono H6.out.size).trans hb2, fun j u t' ht hb => ?_⟩
            have hbV2 : Boxed V2 j t' u := (D2.out.block _ hb.lt).trans hb
            refine ((hbV2.alloc _).kept hgrow ((hbV2).not_row (by rcases ht with rfl | rfl | rfl <;> decide) (own_later H2.out D2.out))).other ?_ _
            rintro rfl
            have := hb.symm.trans H1.out
            simp only [Option.some.injEq, Obj.cells.injEq] at this
            rcases ht with rfl | rfl | rfl <;> exact absurd this.2.1 (by decide)
          have hob : ∀ j t' u, t' ≠ 87 → j ≠ (w.heap.size + 1 + 1 + 1 + 1) → Boxed V j t' u → Boxed (V4.setCell ⟨(w.heap.size + 1 + 1 + 1 + 1), 0, none⟩ (.slice (some ⟨g', 0, none⟩) (pre.length + 1) cap')) j t' u := fun j t' u ht hj hb => by
            have hbV2 : Boxed V2 j t' u := (D2.out.block _ hb.lt).trans hb
            exact ((hbV2.alloc _).kept hgrow (hbV2.not_row ht (own_later H2.out D2.out))).other hj _
          refine ⟨(keeps_of_below D2.out _).trans (hk2.from _), hVV, ⟨_, hv2, ?_, ?_⟩, hob _ _ _ (by decide) (by omega) H3.out, hob _ _ _ (by decide) (by omega) H4.out, hob _ _ _ (by decide) (by omega) H5.out, H6.out.trans hVV.low⟩
          · rw [show RC (recs (pre ++ [x])) = RC (recs pre) ++ R.rcells x.1 by rw [← RC_snoc]; simp, show (pre ++ [x]).length = pre.length + 1 by simp]
            exact hr2
          · simp; omega
        · go_simp
          refine ⟨trivial, (CallsIn.inRound l1 (callsIn_wide.2 (R.plain_any x.1 x.2.len Vd))).mono ?_⟩
          rintro e' V2 ⟨rfl, b2⟩
          have D2 : Hid (Below V.heap.size V V2) := below_then D.out b2
          have F2 : Hid (Boxed V2 (w.heap.size + 1 + 1 + 1 + 1) 68 (.slice q pre.length cap)) := (D2.out.block _ H1.out.lt).trans H1.out
          clear b2
          refine hKc _ _ ?_
          clear hKc Kc
          refine wpAnyIn_ready (rs := [0, 3]) (by kernel_rfl) (by simp) ?_
          refine AllReadyIn.cons rfl (fun Kc hKc => ?_) (AllReadyIn.cons rfl (fun Kc hKc => ?_) AllReadyIn.nil)
          · have z := (F2.out).cell
            go_simp
            refine hKc _ _ ?_
            clear hKc Kc
            clear z
            refine wpAnyIn_ready (rs := [3]) (by kernel_rfl) (by simp) ?_
            refine AllReadyIn.cons rfl (fun Kc hKc => ?_) AllReadyIn.nil
            refine op_slice (by rfl) 68 rfl rfl (build_one V2 x.1 x.2.len) ?_
            refine hKc _ _ ?_
            clear hKc Kc
            refine wpAnyIn_ready (rs := [4]) (by kernel_rfl) (by simp) ?_
            refine AllReadyIn.cons rfl (fun Kc hKc => ?_) AllReadyIn.nil
            have h65 : (65 : Nat) ≤ maxLen := by decide
            obtain ⟨v', V4, hrun, hown', hgrow, -⟩ := run_append_own (P := Tryz.prog) (V2.alloc (.cells (R.rcells x.1).toArray 87)) w.heap.size 68 68 87 i0 _ 36 64 Tryz.underlying68 hi hz0 hz1 hz2 rfl (by decide) (.slice q pre.length cap) pre.length (RC (recs pre)) ((own_later H2.out D2.out).alloc _) ⟨V2.heap.size, 0, none⟩ 1 1 (R.rcells x.1) (by rw [R.rcells_len _ x.2.len]) (cells_new V2 (R.rcells x.1) 87) (R.rcells_ones x.1) (by omega) (by omega) (by have := H6.out.size; have := D2.out.size; simp; omega)
            obtain ⟨g', cap', rfl⟩ := ownsRow_succ hown'
            refine op_append (by rfl) rfl rfl rfl hrun ?_
            refine hKc _ _ ?_
            clear hKc Kc
            refine wpAnyIn_ready (rs := [5]) (by kernel_rfl) (by simp) ?_
            refine AllReadyIn.cons rfl (fun Kc hKc => ?_) AllReadyIn.nil
            obtain ⟨hv1, hv2, hr2, hk2, hb2⟩ := F2.out.appended (by decide) (own_later H2.out D2.out) (by have := H6.out.size; have := D2.out.size; omega) (by omega) hown' hgrow
            have z := hv1.cell
            have zf := hv1.frozen
            go_simp
            refine hKc _ _ ?_
            clear hKc Kc z zf
            refine wpAnyIn_done (by kernel_rfl) ?_ _
            have hVV : KP w.heap.size V (V4.setCell ⟨(w.heap.size + 1 + 1 + 1 + 1), 0, none⟩ (.slice (some ⟨g', 0, none⟩) (pre.length + 1) cap')) := by
              refine ⟨(D2.out.mono H6.out.size).trans hb2, fun j u t' ht hb => ?_⟩
              have hbV2 : Boxed V2 j t' u := (D2.out.block _ hb.lt).trans hb
              refine ((hbV2.alloc _).kept hgrow ((hbV2).not_row (by rcases ht with rfl | rfl | rfl <;> decide) (own_later H2.out D2.out))).other ?_ _
              rintro rfl
              have := hb.symm.trans H1.out
              simp only [Option.some.injEq, Obj.cells.injEq] at this
              rcases ht with rfl | rfl | rfl <;> exact absurd this.2.1 (by decide)
            have hob : ∀ j t' u, t' ≠ 87 → j ≠ (w.heap.size + 1 + 1 + 1 + 1) → Boxed V j t' u → Boxed (V4.setCell ⟨(w.heap.size + 1 + 1 + 1 + 1), 0, none⟩ (.slice (some ⟨g', 0, none⟩) (pre.length + 1) cap')) j t' u := fun j t' u ht hj hb => by
              have hbV2 : Boxed V2 j t' u := (D2.out.block _ hb.lt).trans hb
              exact ((hbV2.alloc _).kept hgrow (hbV2.not_row ht (own_later H2.out D2.out))).other hj _
            refine ⟨(keeps_of_below D2.out _).trans (hk2.from _), hVV, ⟨_, hv2, ?_, ?_⟩, hob _ _ _ (by decide) (by omega) H3.out, hob _ _ _ (by decide) (by omega) H4.out, hob _ _ _ (by decide) (by omega) H5.out, H6.out.trans hVV.low⟩
            · rw [show RC (recs (pre ++ [x])) = RC (recs pre) ++ R.rcells x.1 by rw [← RC_snoc]; simp, show (pre ++ [x]).length = pre.length + 1 by simp]
              exact hr2
            · simp; omega
          · refine op_slice (by rfl) 68 rfl rfl (build_one V2 x.1 x.2.len) ?_
            refine hKc _ _ ?_
            clear hKc Kc
            refine wpAnyIn_ready (rs := [0]) (by kernel_rfl) (by simp) ?_
            refine AllReadyIn.cons rfl (fun Kc hKc => ?_) AllReadyIn.nil
            have z := (F2.out.alloc (.cells (R.rcells x.1).toArray 87)).cell
            go_simp
            refine hKc _ _ ?_
            clear hKc Kc
            clear z
            refine wpAnyIn_ready (rs := [4]) (by kernel_rfl) (by simp) ?_
            refine AllReadyIn.cons rfl (fun Kc hKc => ?_) AllReadyIn.nil
            have h65 : (65 : Nat) ≤ maxLen := by decide
            obtain ⟨v', V4, hrun, hown', hgrow, -⟩ := run_append_own (P := Tryz.prog) (V2.alloc (.cells (R.rcells x.1).toArray 87)) w.heap.size 68 68 87 i0 _ 36 64 Tryz.underlying68 hi hz0 hz1 hz2 rfl (by decide) (.slice q pre.length cap) pre.length (RC (recs pre)) ((own_later H2.out D2.out).alloc _) ⟨V2.heap.size, 0, none⟩ 1 1 (R.rcells x.1) (by rw [R.rcells_len _ x.2.len]) (cells_new V2 (R.rcells x.1) 87) (R.rcells_ones x.1) (by omega) (by omega) (by have := H6.out.size; have := D2.out.size; simp; omega)
            obtain ⟨g', cap', rfl⟩ := ownsRow_succ hown'
            refine op_append (by rfl) rfl rfl rfl hrun ?_
            refine hKc _ _ ?_
            clear hKc Kc
            refine wpAnyIn_ready (rs := [5]) (by kernel_rfl) (by simp) ?_
            refine AllReadyIn.cons rfl (fun Kc hKc => ?_) AllReadyIn.nil
            obtain ⟨hv1, hv2, hr2, hk2, hb2⟩ := F2.out.appended (by decide) (own_later H2.out D2.out) (by have := H6.out.size; have := D2.out.size; omega) (by omega) hown' hgrow
            have z := hv1.cell
            have zf := hv1.frozen
            go_simp
            refine hKc _ _ ?_
            clear hKc Kc z zf
            refine wpAnyIn_done (by kernel_rfl) ?_ _
            have hVV : KP w.heap.size V (V4.setCell ⟨(w.heap.size + 1 + 1 + 1 + 1), 0, none⟩ (.slice (some ⟨g', 0, none⟩) (pre.length + 1) cap')) := by
              refine ⟨(D2.out.mono H6.out.size).trans hb2, fun j u t' ht hb => ?_⟩
              have hbV2 : Boxed V2 j t' u := (D2.out.block _ hb.lt).trans hb
              refine ((hbV2.alloc _).kept hgrow ((hbV2).not_row (by rcases ht with rfl | rfl | rfl <;> decide) (own_later H2.out D2.out))).other ?_ _
              rintro rfl
              have := hb.symm.trans H1.out
              simp only [Option.some.injEq, Obj.cells.injEq] at this
              rcases ht with rfl | rfl | rfl <;> exact absurd this.2.1 (by decide)
            have hob : ∀ j t' u, t' ≠ 87 → j ≠ (w.heap.size + 1 + 1 + 1 + 1) → Boxed V j t' u → Boxed (V4.setCell ⟨(w.heap.size + 1 + 1 + 1 + 1), 0, none⟩ (.slice (some ⟨g', 0, none⟩) (pre.length + 1) cap')) j t' u := fun j t' u ht hj hb => by
              have hbV2 : Boxed V2 j t' u := (D2.out.block _ hb.lt).trans hb
              exact ((hbV2.alloc _).kept hgrow (hbV2.not_row ht (own_later H2.out D2.out))).other hj _
            refine ⟨(keeps_of_below D2.out _).trans (hk2.from _), hVV, ⟨_, hv2, ?_, ?_⟩, hob _ _ _ (by decide) (by omega) H3.out, hob _ _ _ (by decide) (by omega) H4.out, hob _ _ _ (by decide) (by omega) H5.out, H6.out.trans hVV.low⟩
            · rw [show RC (recs (pre ++ [x])) = RC (recs pre) ++ R.rcells x.1 by rw [← RC_snoc]; simp, show (pre ++ [x]).length = pre.length + 1 by simp]
              exact hr2
            · simp; omega
  case done =>
    rintro Dd ys V hD hS ⟨⟨v, h1, h2, h2'⟩, h3, h4, h5, h6⟩ hK
    obtain ⟨q, cap, rfl, -, -⟩ := own_slice h2
    have e1 : (allR rd t (e - t).toNat).take k.toNat = recs ys := by
      rw [← hS, List.take_of_length_le (by simpa using h2')]
    have e2 : ys.length = (recs ys).length := by simp
    have c4 := h1.cell
    have c1 := h4.cell
    have c2 := h5.cell
    have f1 := h4.frozen
    have f2 := h5.frozen
    have H2 : Hid (V.ownsRow w.heap.size 87 36 (.slice q ys.length cap) ys.length (RC (recs ys))) := h2
    have H1 : Hid (Boxed V (w.heap.size + 1 + 1 + 1 + 1) 68 (.slice q ys.length cap)) := h1
    have H4 : Hid (Boxed V (w.heap.size + 1) 68 (.slice none 0 0)) := h4
    have H5 : Hid (Boxed V (w.heap.size + 1 + 1) 4 (.bool false)) := h5
    have H6 : Hid (Below w.heap.size w V) := h6
    have HE : Hid ((allR rd t (e - t).toNat).take k.toNat = recs ys) := e1
    clear h1 h2 h4 h5 h6 e1 e2
    gi_wp2
    have hK2 := ((KeepsOthers.setCell V ⟨(w.heap.size + 1), 0, none⟩ (.slice q ys.length cap)).trans (KeepsOthers.setCell _ ⟨(w.heap.size + 1 + 1), 0, none⟩ (.bool true))).same Dd _ hK rfl
    have s1 := (H4.out.set (.slice q ys.length cap)).other (show (w.heap.size + 1) ≠ (w.heap.size + 1 + 1) by omega) (.bool true)
    have s2' := H5.out.other (show (w.heap.size + 1 + 1) ≠ (w.heap.size + 1) by omega) (.slice q ys.length cap)
    have s2 := s2'.set (.bool true)
    have r1 := H2.out.kept (grownBy_setCell' V (w.heap.size + 1) (.slice q ys.length cap)) (.inr (H4.out.not_row (by decide) H2.out).symm)
    have r2 := r1.kept (grownBy_setCell' _ (w.heap.size + 1 + 1) (.bool true)) (.inr (s2'.not_row (by decide) r1).symm)
    have r3 := ownsRow_putObj r2 (.deferred none) hK2 rfl
    have t1 := s1.kept (grownBy_putObj' _ Dd (.deferred none)) (fun e => by cases e; omega)
    have t2 := s2.kept (grownBy_putObj' _ Dd (.deferred none)) (fun e => by cases e; omega)
    have b6 := (H6.out.setCell (p := ⟨(w.heap.size + 1), 0, none⟩) (by simp) (.slice q ys.length cap)).setCell (p := ⟨(w.heap.size + 1 + 1), 0, none⟩) (by simp; omega) (.bool true)
    refine ⟨by simp, .inl ⟨_, _, rfl, run_takeDeferred hK2, ?_⟩⟩
    refine ⟨_, results_two Tryz.results18 _ _ (w.heap.size + 1) (w.heap.size + 1 + 1) _ _ (by rfl) (by rfl) t1.cell t2.cell, _, rfl, ?_, b6.trans (belowK_b (w := w) (Nat.le_refl _) _ Dd _ _ (by omega) hK2 rfl rfl)⟩
    rw [HE.out, show (recs ys).length = ys.length by simp]
    exact r3
  case stop =>
    rintro Dd c pre' V hD hpre ⟨rfl, pre, x, ⟨rfl, hk⟩, ⟨v, h1, h2, h2'⟩, h4, h5, h6⟩ hK
    obtain ⟨q, cap, rfl, -, -⟩ := own_slice h2
    have e1 : (allR rd t (e - t).toNat).take k.toNat = recs pre := by
      have h3 : recs pre <+: allR rd t (e - t).toNat := List.IsPrefix.trans ⟨[x.1], by simp⟩ hpre
      have h4' := List.prefix_iff_eq_take.1 h3
      rw [h4']
      congr 1
      simp only [List.length_map]
      omega
    have e2 : pre.length = (recs pre).length := by simp
    have c4 := h1.cell
    have c1 := h4.cell
    have c2 := h5.cell
    have f1 := h4.frozen
    have f2 := h5.frozen
    have H2 : Hid (V.ownsRow w.heap.size 87 36 (.slice q pre.length cap) pre.length (RC (recs pre))) := h2
    have H1 : Hid (Boxed V (w.heap.size + 1 + 1 + 1 + 1) 68 (.slice q pre.length cap)) := h1
    have H4 : Hid (Boxed V (w.heap.size + 1) 68 (.slice none 0 0)) := h4
    have H5 : Hid (Boxed V (w.heap.size + 1 + 1) 4 (.bool false)) := h5
    have H6 : Hid (Below w.heap.size w V) := h6
    have HE : Hid ((allR rd t (e - t).toNat).take k.toNat = recs pre) := e1
    clear h1 h2 h4 h5 h6 e1 e2
    gi_wp2
    have hK2 := ((KeepsOthers.setCell V ⟨(w.heap.size + 1), 0, none⟩ (.slice q pre.length cap)).trans (KeepsOthers.setCell _ ⟨(w.heap.size + 1 + 1), 0, none⟩ (.bool true))).same Dd _ hK rfl
    have s1 := (H4.out.set (.slice q pre.length cap)).other (show (w.heap.size + 1) ≠ (w.heap.size + 1 + 1) by omega) (.bool true)
    have s2' := H5.out.other (show (w.heap.size + 1 + 1) ≠ (w.heap.size + 1) by omega) (.slice q pre.length cap)
    have s2 := s2'.set (.bool true)
    have r1 := H2.out.kept (grownBy_setCell' V (w.heap.size + 1) (.slice q pre.length cap)) (.inr (H4.out.not_row (by decide) H2.out).symm)
    have r2 := r1.kept (grownBy_setCell' _ (w.heap.size + 1 + 1) (.bool true)) (.inr (s2'.not_row (by decide) r1).symm)
    have r3 := ownsRow_putObj r2 (.deferred none) hK2 rfl
    have t1 := s1.kept (grownBy_putObj' _ Dd (.deferred none)) (fun e => by cases e; omega)
    have t2 := s2.kept (grownBy_putObj' _ Dd (.deferred none)) (fun e => by cases e; omega)
    have b6 := (H6.out.setCell (p := ⟨(w.heap.size + 1), 0, none⟩) (by simp) (.slice q pre.length cap)).setCell (p := ⟨(w.heap.size + 1 + 1), 0, none⟩) (by simp; omega) (.bool true)
    refine ⟨by simp, .inl ⟨_, _, rfl, run_takeDeferred hK2, ?_⟩⟩
    refine ⟨_, results_two Tryz.results18 _ _ (w.heap.size + 1) (w.heap.size + 1 + 1) _ _ (by rfl) (by rfl) t1.cell t2.cell, _, rfl, ?_, b6.trans (belowK_b (w := w) (Nat.le_refl _) _ Dd _ _ (by omega) hK2 rfl rfl)⟩
    rw [HE.out, show (recs pre).length = pre.length by simp]
    exact r3
end Go.Proofs.YtmcpjokbkkfgfaaGreatDoor
