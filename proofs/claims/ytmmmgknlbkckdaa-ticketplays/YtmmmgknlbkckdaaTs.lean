/-
  Layer 11: plays: an All that is kept.
-/
import Derived.Test.YtmmmgknlbkckdaaTl
import Derived.Deep.RegionHeld3
import Derived.LaidMore
import Derived.BigQuiet
namespace Go.Proofs.Ytmmmgknlbkckdaa
open Go.RowKit

theorem info55 : (Try.prog.info? 55).map (fun i => (i.zero, i.size, i.bytes)) = some (some (.agg #[.int .i64 0, .nilFunc]), 2, 16) := by kernel_rfl
variable {w0 w w' : World} {P : Nat} {Q : Nat → Nat} {v : Nat → Value} {X : Nat → List Int} {Y : Nat → Int} {kv : Value} {ks : List (Nat × Nat)} {n : Nat}

theorem Fam.far {S : Nat → Prop} (h : Fam w0 w Q v X Y) (hk : Kept S w w') (hS : ∀ (b : Nat) (cur : Array Value) (t : TypeId), w.heap[b]? = some (.cells cur t (0, 0)) → t = 28 ∨ t = 44 ∨ t = 26 → ¬ S b) : Fam w0 w' Q v X Y := by
  refine ⟨fun i hi => (h.at' i hi).far hk (hS _ _ _ (h.at' i hi).st ((qty_or i).elim .inl fun e => .inr (.inl e))) fun g hg => ?_, h.lo, h.row, h.apart, h.rows⟩
  obtain ⟨cur, hc⟩ := (h.at' i hi).row.typ hg
  exact hS _ _ _ hc (.inr (.inr rfl))
theorem kept_grown {kv : Value} (h : w.grownBy w' kv.ownBlock) : Kept (fun b => kv.ownBlock = some b) w w' := ⟨h.os, h.tape, h.output, h.size, fun b hb hne => h.block b hb fun e => hne e.symm⟩
theorem own_typ {base : Nat} {e : TypeId} {size : Nat} {u : Value} {k : Nat} {xs : List Value} (h : w.ownsRow base e size u k xs) {b : Nat} (hb : u.ownBlock = some b) : ∃ cur, w.heap[b]? = some (.cells cur e (0, 0)) := by
  rcases h.2 with ⟨rfl, _⟩ | ⟨g, cap, cur, rfl, _, hg, _⟩
  · cases hb
  · cases hb; exact ⟨cur, hg⟩
theorem two_cells {w : World} {b : Nat} {x y : Value} : ∀ j u, [x, y][j]? = some u → (w.alloc (.cells #[x, y] b)).cell? ((⟨w.heap.size, 0, none⟩ : Addr).add j) = some u := by
  intro j u hj
  rw [Go.WideShapes.add_plain, cell_of_row _ w.heap.size (0 + j) _ b (0, 0) (heap_alloc_new w _), Nat.zero_add]
  simpa using hj
/-- the pair's fifth cell is laid anew -/
theorem PS.keeps (h : PS w0 w P Q v X Y kv ks) (hk : Kept (fun b => kv.ownBlock = some b) w w') {kv' : Value} {ls : List (Nat × Nat)} (ho : w'.ownsRow w0.heap.size 55 2 kv' ls.length (kcells ls)) (hb : ∀ x ∈ ls, x.1 < 2 ∧ Boxed w' x.2 25 (qp (Q x.1))) :
    PS w0 (w'.setCell ⟨P, 4, none⟩ kv') P Q v X Y kv' ls := by
  have nt : ∀ (b : Nat) (cur : Array Value) (t : TypeId), w.heap[b]? = some (.cells cur t (0, 0)) → t ≠ 55 → ¬ kv.ownBlock = some b := fun b cur t hx hne e => by
    obtain ⟨c, hc⟩ := own_typ h.kept e
    rw [hx] at hc
    simp only [Option.some.injEq, Obj.cells.injEq] at hc
    exact hne hc.2.1
  have hp : w'.heap[P]? = some (.cells #[qp (Q 0), qp (Q 1), qp (Q 2), qp (Q 3), kv] 48 (0, 0)) := (hk.block P (Array.getElem?_eq_some_iff.1 h.pr).1 (nt _ _ _ h.pr (by decide))).trans h.pr
  have hf : Fam w0 w' Q v X Y := h.fam.far hk fun b cur t hx ht => nt b cur t hx (by rcases ht with rfl | rfl | rfl <;> decide)
  have np : ∀ (b : Nat) (cur : Array Value) (t : TypeId), w'.heap[b]? = some (.cells cur t (0, 0)) → t ≠ 48 → b ≠ P := fun b cur t hx hne e => by
    subst e
    rw [hp] at hx
    simp only [Option.some.injEq, Obj.cells.injEq] at hx
    exact hne hx.2.1.symm
  have hs := Kept.setCell (w := w') P 4 kv'
  refine ⟨hf.far hs fun b cur t hx ht => np b cur t hx (by rcases ht with rfl | rfl | rfl <;> decide), ?_, h.plo, ownsRow_keeps ho fun g cur e => hs.block g (Array.getElem?_eq_some_iff.1 e).1 (np g cur 55 e (by decide)), fun x hx => ⟨(hb x hx).1, (hs.block x.2 (hb x hx).2.lt (np _ _ _ (hb x hx).2 (by decide))).trans (hb x hx).2⟩, ?_⟩
  · rw [setCell_eq_setRow w' P 4 _ 48 (0, 0) kv' hp]
    exact setRow_heap w' P _ _ 48 _ hp
  · refine hs.into (hk.into h.below (fun b hb e => ?_) (Nat.le_refl _)) (fun b hb e => by have := h.plo; omega) (Nat.le_refl _)
    have := (h.kept.lt b e).1
    omega
theorem St.keeps (h : St w0 w P Q v X Y kv ks n) (hk : Kept (fun b => kv.ownBlock = some b) w w') {kv' : Value} {ls : List (Nat × Nat)} (ho : w'.ownsRow w0.heap.size 55 2 kv' ls.length (kcells ls)) (hb : ∀ x ∈ ls, x.1 < 2 ∧ Boxed w' x.2 25 (qp (Q x.1))) (hl : ls.length ≤ n + 1) :
    Next w0 (w'.setCell ⟨P, 4, none⟩ kv') P (n + 1) := ⟨_, _, _, _, _, _, h.ps.keeps hk ho hb, h.same, h.up, fun j hj => Nat.le_succ_of_le (h.len j hj), hl⟩
theorem St.boxes (h : St w0 w P Q v X Y kv ks n) (hk : Kept (fun b => kv.ownBlock = some b) w w') : ∀ x ∈ ks, x.1 < 2 ∧ Boxed w' x.2 25 (qp (Q x.1)) := fun x hx => by
  have hb := h.ps.box x hx
  refine ⟨hb.1, (hk.block x.2 hb.2.lt fun e => ?_).trans hb.2⟩
  obtain ⟨c, hc⟩ := own_typ h.ps.kept e
  have h2 : w.heap[x.2]? = some (.cells #[qp (Q x.1)] 25 (0, 0)) := hb.2
  rw [h2] at hc
  simp only [Option.some.injEq, Obj.cells.injEq] at hc
  exact absurd hc.2.1 (by decide)
theorem St.pk (h : St w0 w P Q v X Y kv ks n) (hk : Kept (fun b => kv.ownBlock = some b) w w') : w'.heap[P]? = some (.cells #[qp (Q 0), qp (Q 1), qp (Q 2), qp (Q 3), kv] 48 (0, 0)) := by
  refine (hk.block P (Array.getElem?_eq_some_iff.1 h.ps.pr).1 fun e => ?_).trans h.ps.pr
  obtain ⟨c, hc⟩ := own_typ h.ps.kept e
  rw [h.ps.pr] at hc
  simp only [Option.some.injEq, Obj.cells.injEq] at hc
  exact absurd hc.2.1 (by decide)
theorem keep_step {B j : Nat} {kv' : Value} (h : St w0 w P Q v X Y kv ks n) (hj : j < 2) (hB : Boxed w B 25 (qp (Q j))) (ho : w'.ownsRow w0.heap.size 55 2 kv' (ks.length + 1) (kcells ks ++ [.int .i64 j, seqV B])) (hg : (w.alloc (.cells #[.int .i64 j, seqV B] 55)).grownBy w' kv.ownBlock) :
    w'.cell? ⟨P, 4, none⟩ = some kv ∧ w'.frozen? ⟨P, 4, none⟩ = false ∧ Hid (Next w0 (w'.setCell ⟨P, 4, none⟩ kv') P (n + 1)) := by
  have hk : Kept (fun b => kv.ownBlock = some b) w w' := (Kept.of_below _ (below_alloc w _)).trans (kept_grown hg) (fun _ _ e => e)
  have hp := h.pk hk
  refine ⟨by rw [cell_of_row _ P 4 _ 48 (0, 0) hp]; rfl, by simp [World.frozen?, hp], h.keeps (ls := ks ++ [(j, B)]) hk ?_ (fun x hx => ?_) (by have := h.klen; simp; omega)⟩
  · rw [kcells_app, List.length_append]
    exact ho
  · simp only [List.mem_append, List.mem_singleton] at hx
    rcases hx with hx | rfl
    · exact h.boxes hk x hx
    · exact ⟨hj, (hB.alloc _).kept hg (hB.not_row (by decide) h.ps.kept)⟩
theorem one_pair (j B : Nat) : ∀ u ∈ [Value.int .i64 j, seqV B], u.oneCell' = true := by
  intro u hu
  simp only [List.mem_cons, List.not_mem_nil, or_false] at hu
  rcases hu with rfl | rfl <;> rfl

set_option maxRecDepth 100000 in
set_option maxHeartbeats 4000000 in
theorem plays_keep (h : St w0 w P Q v X Y kv ks n) (hn : n ≤ 1000) (wh t N : Int) :
    Calls Try.prog 15 #[qp P, .agg #[.int .i64 6, .int .i64 wh, .int .u64 t, .int .i64 N]] w fun e w' => e = .returned (.bool true) ∧ Next w0 w' P (n + 1) := by
  have S0 : Hid (St w0 w P Q v X Y kv ks n) := h
  clear h
  have t2 := tmod2 wh
  have e2 := sl2_is wh
  have hj := sl2_lt wh
  go_enter Try.func15, Try.ntmps15
  go_wp2_with fail
  rw [e2]
  have HB : Hid (Below w.heap.size w (w.alloc (.cells (ocells 6 wh t N) 51)) ∧ (w.alloc (.cells (ocells 6 wh t N) 51)).heap[w.heap.size]? = some (.cells (ocells 6 wh t N) 51 (0, 0))) := ⟨below_alloc w _, heap_alloc_new w _⟩
  clear t2 e2
  revert HB hj
  generalize sl2 wh = j
  change _ → Hid (_ ∧ (w.alloc (.cells #[.int .i64 6, .int .i64 wh, .int .u64 t, .int .i64 N] 51)).heap[w.heap.size]? = _) → _
  generalize w.alloc (.cells #[.int .i64 6, .int .i64 wh, .int .u64 t, .int .i64 N] 51) = w1
  intro hj HB
  have S1 : Hid (St w0 w1 P Q v X Y kv ks n) := S0.out.later HB.out.1
  have O1 : Hid (w1.heap[w.heap.size]? = some (.cells (ocells 6 wh t N) 51 (0, 0))) := HB.out.2
  have hs1 : w.heap.size < w1.heap.size := (Array.getElem?_eq_some_iff.1 HB.out.2).1
  clear HB S0
  have c0 := S1.out.ps.cq hj
  have c1 := S1.out.ps.cr hj
  have d0 : w1.drew.cell? ⟨P, j, none⟩ = some (qp (Q j)) := c0
  have d1 : w1.drew.cell? ⟨P, 2 + j, none⟩ = some (qp (Q (j + 2))) := c1
  have i1 : (j : Int) < 2 := by omega
  go_quiet (fail)
  have S2 : Hid (St w0 (w1.drewN nq) P Q v X Y kv ks n) := S1.out.later (below_drawn nq)
  have O2 : Hid ((w1.drewN nq).heap[w.heap.size]? = some (.cells (ocells 6 wh t N) 51 (0, 0))) := O1.out
  have hs2 : w.heap.size < (w1.drewN nq).heap.size := hs1
  clear c0 c1 d0 d1 S1 O1 hs1
  revert S2 O2 hs2
  generalize w1.drewN nq = wd
  intro S2 O2 hs2
  have o0 := (ocell O2.out).1
  obtain ⟨i0, hi, hz0, hz1, hz2⟩ := info_parts info55
  go_wp2_with fail
  refine (all_is _ _).mono ?_
  rintro e w3 ⟨rfl, hw3⟩
  have S3 : Hid (St w0 w3 P Q v X Y kv ks n) := by rw [hw3]; exact S2.out.later (below_alloc wd _)
  have BX : Hid (Boxed w3 wd.heap.size 25 (qp (Q j))) := by rw [hw3]; exact Boxed.new wd 25 _
  clear hw3 S2 O2 hs2 o0
  generalize wd.heap.size = B at *
  have hnil := seq_nil B
  have ck := S3.out.ps.ck
  have L1 : Hid (ks.length + 1 ≤ maxLen ∧ (ks.length + 1) * 16 ≤ 140737488355328) := by
    have hml : 2000 ≤ maxLen := by decide
    have hkl := S3.out.klen
    exact ⟨by omega, by omega⟩
  have L2 : Hid (w0.heap.size ≤ (w3.alloc (.cells #[.int .i64 j, seqV B] 55)).heap.size) := by
    have hw0 := S3.out.ps.below.size
    show _ ≤ _
    simp
    omega
  go_wp2_with (at_builtin; refine wpList_append_own _ rfl (.tmp 183) (.tmp 187) 46 rfl w0.heap.size 55 i0 (.agg #[.int .i64 0, .nilFunc]) 2 16 Try.underlying46 hi hz0 hz1 hz2 rfl (by decide) _ ks.length (kcells ks) rfl (S3.out.ps.kept.alloc _) ⟨w3.heap.size, 0, none⟩ 1 1 [.int .i64 j, seqV B] rfl rfl two_cells (one_pair j B) L1.out.1 L1.out.2 L2.out ?_; intro kv' w4 hown4 hgrow4 _; obtain ⟨g', cap', rfl⟩ := ownsRow_succ hown4; obtain ⟨c4, f4, H4⟩ := keep_step S3.out hj BX.out hown4 hgrow4; clear hown4 hgrow4)
  go_ret
  exact ⟨rfl, H4.out⟩
end Go.Proofs.Ytmmmgknlbkckdaa
