/-
  Layer 11: every step; how a script lies; the start; marks.
-/
import Derived.Test.YtmmmgknlbkckdaaTm
import Derived.Test.YtmmmgknlbkckdaaTn
import Derived.Test.YtmmmgknlbkckdaaTo
import Derived.Test.YtmmmgknlbkckdaaTp
import Derived.Test.YtmmmgknlbkckdaaTq
import Derived.Test.YtmmmgknlbkckdaaTr
import Derived.Test.YtmmmgknlbkckdaaTu
namespace Go.Proofs.Ytmmmgknlbkckdaa
open Go.RowKit

variable {w0 w w' : World} {P : Nat} {Q : Nat → Nat} {v : Nat → Value} {X : Nat → List Int} {Y : Nat → Int} {kv : Value} {ks : List (Nat × Nat)} {n : Nat}

theorem plays_any (h : Next w0 w P n) (hn : n ≤ 1000) (kd wh t N : Int) :
    Calls Try.prog 15 #[qp P, .agg #[.int .i64 kd, .int .i64 wh, .int .u64 t, .int .i64 N]] w fun e w' => e = .returned (.bool true) ∧ Next w0 w' P (n + 1) := by
  obtain ⟨Q, v, X, Y, kv, ks, h⟩ := h
  by_cases k1 : kd = 1
  · subst k1; exact plays_put h hn wh t N
  by_cases k2 : kd = 2
  · subst k2; exact plays_first h hn wh t N
  by_cases k3 : kd = 3
  · subst k3; exact plays_take h hn wh t N
  by_cases k4 : kd = 4
  · subst k4; exact plays_drop h hn wh t N
  by_cases k5 : kd = 5
  · subst k5; exact plays_all h hn wh t N
  by_cases k6 : kd = 6
  · subst k6; exact plays_keep h hn wh t N
  by_cases k7 : kd = 7
  · subst k7; exact plays_copy h hn wh t N
  exact plays_none h hn kd wh t N k1 k2 k3 k4 k5 k6 k7

/-- a step as it lies -/
structure OpV where
  kd : Int
  wh : Int
  t : Int
  N : Int
def OpV.val (o : OpV) : List Value := [.int .i64 o.kd, .int .i64 o.wh, .int .u64 o.t, .int .i64 o.N]
/-- how a script lies -/
structure ScIn (w : World) (p : Option Addr) (n : Nat) (f : Nat → OpV) : Prop where
  cells : 0 < n → ∃ b o, p = some ⟨b, o, none⟩ ∧ ∀ i, i < n → w.rangeAt b (o + i * 4) (f i).val
theorem ScIn.later {p : Option Addr} {f : Nat → OpV} (h : ScIn w p n f) (hb : Below w.heap.size w w') : ScIn w' p n f := by
  refine ⟨fun h0 => ?_⟩
  obtain ⟨b, o, rfl, hc⟩ := h.cells h0
  refine ⟨b, o, rfl, fun i hi j u hj => ?_⟩
  have := hc i hi j u hj
  exact (hb.cell (p := ⟨b, o + i * 4 + j, none⟩) (World.block_lt_of_cell? w _ this)).trans this
theorem size51 : (Try.prog.info? 51).map (·.size) = some 4 := by kernel_rfl
theorem load51 {b o : Nat} {v : OpV} (h : w.rangeAt b o v.val) : (Instr.loadAt 51 (.pointer (some ⟨b, o, none⟩))).run Try.prog w = .ok (.agg #[.int .i64 v.kd, .int .i64 v.wh, .int .u64 v.t, .int .i64 v.N]) w := run_loadAt_mid w b o 51 v.val _ h Try.underlying51 rfl size51

abbrev qnew (t : TypeId) : Obj := .cells #[.slice none 0 0, .int .u64 0] t
/-- the pair as it is made -/
theorem Next.start (w : World) : Next w (((((w.alloc (qnew 28)).alloc (qnew 28)).alloc (qnew 44)).alloc (qnew 44)).alloc (.cells #[qp w.heap.size, qp (w.heap.size + 1), qp (w.heap.size + 1 + 1), qp (w.heap.size + 1 + 1 + 1), .slice none 0 0] 48)) (w.heap.size + 1 + 1 + 1 + 1) 0 := by
  have q0 := QAt.new w 28 (m := 0) (Row.empty w)
  obtain ⟨w1, h1⟩ : ∃ x, x = w.alloc (qnew 28) := ⟨_, rfl⟩
  have z1 : w1.heap.size = w.heap.size + 1 := by rw [h1]; simp
  have b1 : Below w.heap.size w w1 := by rw [h1]; exact below_alloc w _
  rw [show w.alloc (.cells #[.slice none 0 0, .int .u64 0] 28) = w1 from h1.symm] at q0
  rw [← h1]
  clear h1
  have q1 := QAt.new w1 28 (m := 0) (Row.empty w1)
  obtain ⟨w2, h2⟩ : ∃ x, x = w1.alloc (qnew 28) := ⟨_, rfl⟩
  have z2 : w2.heap.size = w1.heap.size + 1 := by rw [h2]; simp
  have b2 : Below w1.heap.size w1 w2 := by rw [h2]; exact below_alloc w1 _
  rw [show w1.alloc (.cells #[.slice none 0 0, .int .u64 0] 28) = w2 from h2.symm] at q1
  rw [← h2]
  clear h2
  have q2 := QAt.new w2 44 (m := 0) (Row.empty w2)
  obtain ⟨w3, h3⟩ : ∃ x, x = w2.alloc (qnew 44) := ⟨_, rfl⟩
  have z3 : w3.heap.size = w2.heap.size + 1 := by rw [h3]; simp
  have b3 : Below w2.heap.size w2 w3 := by rw [h3]; exact below_alloc w2 _
  rw [show w2.alloc (.cells #[.slice none 0 0, .int .u64 0] 44) = w3 from h3.symm] at q2
  rw [← h3]
  clear h3
  have q3 := QAt.new w3 44 (m := 0) (Row.empty w3)
  obtain ⟨w4, h4⟩ : ∃ x, x = w3.alloc (qnew 44) := ⟨_, rfl⟩
  have z4 : w4.heap.size = w3.heap.size + 1 := by rw [h4]; simp
  have b4 : Below w3.heap.size w3 w4 := by rw [h4]; exact below_alloc w3 _
  rw [show w3.alloc (.cells #[.slice none 0 0, .int .u64 0] 44) = w4 from h4.symm] at q3
  rw [← h4]
  clear h4
  have e2 : w2.heap.size = w.heap.size + 1 + 1 := by omega
  have e3 : w3.heap.size = w.heap.size + 1 + 1 + 1 := by omega
  have e4 : w4.heap.size = w.heap.size + 1 + 1 + 1 + 1 := by omega
  rw [z1] at q1
  rw [e2] at q2
  rw [e3] at q3
  have r3 := q3
  have r2 := q2.later b4
  have r1 := q1.later (below_then b3 b4)
  have r0 := q0.later (below_then b2 (below_then b3 b4))
  have b5 : Below w4.heap.size w4 (w4.alloc (.cells #[qp w.heap.size, qp (w.heap.size + 1), qp (w.heap.size + 1 + 1), qp (w.heap.size + 1 + 1 + 1), .slice none 0 0] 48)) := below_alloc w4 _
  refine ⟨fun i => w.heap.size + i, fun _ => .slice none 0 0, fun _ => [], fun _ => 0, .slice none 0 0, [], ⟨⟨fun i hi => ?_, fun i _ => (by omega), fun i _ g e => (by cases e), fun i j _ _ hne => (by omega), fun i j _ _ _ g e => (by cases e)⟩, ?_, by omega, World.ownsRow_nil _ _ _ _, fun x hx => (by simp at hx), below_then b1 (below_then b2 (below_then b3 (below_then b4 b5)))⟩, fun _ _ => ⟨rfl, rfl⟩, fun _ _ => Up.nil, fun _ _ => Nat.le_refl _, Nat.le_refl _⟩
  · rcases (show i = 0 ∨ i = 1 ∨ i = 2 ∨ i = 3 by omega) with rfl | rfl | rfl | rfl
    · exact r0.later b5
    · exact r1.later b5
    · exact r2.later b5
    · exact r3.later b5
  · rw [← e4]
    exact heap_alloc_new w4 _

/-- the marks that loops over functions leave -/
abbrev mark (D : Nat) : Deferred := { target := .collected D, args := #[] }
structure Marks (N : Nat) (w : World) (ds : List Nat) : Prop where
  open' : ∀ D ∈ ds, N ≤ D ∧ w.heap[D]? = some (.deferred (some []))
  apart : ds.Nodup
theorem Marks.nil (N : Nat) (w : World) : Marks N w [] := ⟨fun _ h => (by cases h), List.nodup_nil⟩
theorem Marks.later {N : Nat} {ds : List Nat} (h : Marks N w ds) (hb : Below w.heap.size w w') : Marks N w' ds := ⟨fun D hD => ⟨(h.open' D hD).1, (hb.block D (Array.getElem?_eq_some_iff.1 (h.open' D hD).2).1).trans (h.open' D hD).2⟩, h.apart⟩
theorem Marks.cons {N D : Nat} {ds : List Nat} {W : World} (h : Marks N w ds) (hb : Below w.heap.size w W) (hD : w.heap.size ≤ D) (hN : N ≤ w.heap.size) (ho : W.heap[D]? = some (.deferred (some []))) : Marks N W (D :: ds) := by
  refine ⟨fun E hE => ?_, List.nodup_cons.2 ⟨fun hE => ?_, h.apart⟩⟩
  · rcases List.mem_cons.1 hE with rfl | hE
    · exact ⟨by omega, ho⟩
    · exact (h.later hb).open' E hE
  · have := (Array.getElem?_eq_some_iff.1 (h.open' D hE).2).1
    omega
theorem leaves_marks {F : Fence} {r : Nat} {fn : Func} {tmps : Array Value} {R : Ending → World → Prop} {N : Nat} (w0 : World) (hz : w0.heap.size = N) : ∀ (ds : List Nat) (w : World), Marks N w ds → Below N w0 w → (∀ w', Below N w0 w' → LeavesInM F r Try.prog fn tmps R [] .returning w') → LeavesInM F r Try.prog fn tmps R (ds.map mark) .returning w
  | [], w, _, hb, h => h w hb
  | D :: ds, w, hm, hb, h => by
    have hD := hm.open' D (by simp)
    refine ⟨by simp, .inl ⟨D, _, rfl, run_takeDeferred hD.2, leaves_marks w0 hz ds _ ⟨fun E hE => ?_, (List.nodup_cons.1 hm.apart).2⟩ (hb.trans (belowK_b (w := w0) (by omega) _ D _ _ (by omega) hD.2 rfl rfl)) h⟩⟩
    have hE' := hm.open' E (List.mem_cons_of_mem _ hE)
    refine ⟨hE'.1, (World.putObj_heap_other ?_).trans hE'.2⟩
    rintro rfl
    exact (List.nodup_cons.1 hm.apart).1 hE
end Go.Proofs.Ytmmmgknlbkckdaa
