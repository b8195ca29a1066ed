/-
  Rows of elements by their colours, whatever the elements are.
-/
import Derived.Test.YtkffmglcllhbmaaKy
import Derived.Laws.CopyOwn
import Derived.Maps.AppendAt
import Derived.Laws.AppendOwn
namespace Go.Proofs.Ytkffmglcllhbmaa
open Go.RowKit

open Go.Shelf
def vlen : Value → Nat
  | .slice _ n _ => n
  | _ => 0
theorem vlen_own {w : World} {B s n : Nat} {e : TypeId} {v : Value} {xs : List Value} (h : w.ownsRow B e s v n xs) : vlen v = n := by
  rcases h.2 with ⟨rfl, rfl⟩ | ⟨g, cap, cur, rfl, _⟩ <;> rfl
/-- only rows of one kind have been written into -/
structure Only (e : TypeId) (W W' : World) : Prop where
  size : W.heap.size ≤ W'.heap.size
  block : ∀ (k : Nat) (cur : Array Value) (f : TypeId), W.heap[k]? = some (.cells cur f (0, 0)) → f ≠ e → W'.heap[k]? = W.heap[k]?
theorem Only.of {e : TypeId} {W W' : World} (h : Below W.heap.size W W') : Only e W W' := ⟨h.size, fun k _ _ hk _ => h.block k (Array.getElem?_eq_some_iff.1 hk).1⟩
theorem Only.trans {e : TypeId} {W W' W'' : World} (h : Only e W W') (k : Only e W' W'') : Only e W W'' :=
  ⟨Nat.le_trans h.size k.size, fun j cur f hj hf => (k.block j cur f ((h.block j cur f hj hf).trans hj) hf).trans (h.block j cur f hj hf)⟩
theorem Only.row {e f : TypeId} {W W' : World} (h : Only e W W') (hf : f ≠ e) {B s n : Nat} {v : Value} {xs : List Value} (o : W.ownsRow B f s v n xs) : W'.ownsRow B f s v n xs := by
  rcases o.2 with ⟨e1, e2⟩ | ⟨g, cap, cur, e1, h0, hg, r⟩
  · exact ⟨o.1, .inl ⟨e1, e2⟩⟩
  · exact ⟨o.1, .inr ⟨g, cap, cur, e1, h0, (h.block g cur f hg hf).trans hg, r⟩⟩
/-- **rows of one kind, each of one colour**; D: which cells have been marked; rows of different colours lie in different blocks -/
structure Col (e : TypeId) (sz : Nat) (Pr : Nat → Nat → Value → Prop) (D : Nat → Nat → Prop) (W : World) (B : Nat) (F : Value → Nat → Prop) : Prop where
  own : ∀ v c, F v c → ∃ xs, W.ownsRow B e sz v (vlen v) xs ∧ ∀ (m : Nat) (u : Value), xs[m]? = some u → D c m → Pr c (m % sz) u
  sep : ∀ v c, F v c → ∀ v' c', F v' c' → c ≠ c' → ∀ g, v.ownBlock = some g → v'.ownBlock ≠ some g
section
variable {e : TypeId} {sz : Nat} {Pr : Nat → Nat → Value → Prop} {D D' : Nat → Nat → Prop} {W W' : World} {B : Nat} {F F' : Value → Nat → Prop}
theorem Col.later (h : Col e sz Pr D W B F) (hb : Below W.heap.size W W') : Col e sz Pr D W' B F :=
  ⟨fun v c hv => by obtain ⟨xs, o, m⟩ := h.own v c hv; exact ⟨xs, o.kept (grown_of_below hb) (by cases hh : v.ownBlock <;> simp), m⟩, h.sep⟩
theorem Col.only {f : TypeId} (h : Col e sz Pr D W B F) (hb : Only f W W') (hf : e ≠ f) : Col e sz Pr D W' B F :=
  ⟨fun v c hv => by obtain ⟨xs, o, m⟩ := h.own v c hv; exact ⟨xs, hb.row hf o, m⟩, h.sep⟩
theorem Col.grown {row : Option Nat} (h : Col e sz Pr D W B F) (hg : W.grownBy W' row) (hr : ∀ v c, F v c → v.ownBlock = none ∨ v.ownBlock ≠ row) : Col e sz Pr D W' B F :=
  ⟨fun v c hv => by obtain ⟨xs, o, m⟩ := h.own v c hv; exact ⟨xs, o.kept hg (hr v c hv), m⟩, h.sep⟩
theorem Col.sub (h : Col e sz Pr D W B F) (hs : ∀ v c, F' v c → F v c) : Col e sz Pr D W B F' :=
  ⟨fun v c hv => h.own v c (hs v c hv), fun v c hv v' c' hv' => h.sep v c (hs v c hv) v' c' (hs v' c' hv')⟩
theorem Col.weak (h : Col e sz Pr D W B F) (hD : ∀ v c, F v c → ∀ m, m < vlen v * sz → D' c m → D c m) : Col e sz Pr D' W B F :=
  ⟨fun v c hv => by
    obtain ⟨xs, o, k⟩ := h.own v c hv
    exact ⟨xs, o, fun m u hu hd => k m u hu (hD v c hv m (by rw [← o.1]; exact (List.getElem?_eq_some_iff.1 hu).1) hd)⟩, h.sep⟩
theorem Col.add (h : Col e sz Pr D W B F) {v : Value} {c : Nat} {xs : List Value} (o : W.ownsRow B e sz v (vlen v) xs) (hm : ∀ (m : Nat) (u : Value), xs[m]? = some u → D c m → Pr c (m % sz) u) (hs : ∀ v' c', F v' c' → c ≠ c' → ∀ g, v.ownBlock = some g → v'.ownBlock ≠ some g) : Col e sz Pr D W B (fun v' c' => (v' = v ∧ c' = c) ∨ F v' c') := by
  refine ⟨fun v' c' hv => ?_, fun v1 c1 h1 v2 c2 h2 hne g hg hg2 => ?_⟩
  · rcases hv with ⟨rfl, rfl⟩ | hv
    · exact ⟨xs, o, hm⟩
    · exact h.own v' c' hv
  · rcases h1 with ⟨rfl, rfl⟩ | h1 <;> rcases h2 with ⟨rfl, rfl⟩ | h2
    · exact hne rfl
    · exact hs v2 c2 h2 hne g hg hg2
    · exact hs v1 c1 h1 (fun e => hne e.symm) g hg2 hg
    · exact h.sep v1 c1 h1 v2 c2 h2 hne g hg hg2
theorem Col.lt (h : Col e sz Pr D W B F) {v : Value} {c : Nat} (hv : F v c) {g : Nat} (hg : v.ownBlock = some g) : B ≤ g ∧ g < W.heap.size := by
  obtain ⟨xs, o, -⟩ := h.own v c hv
  exact o.lt g hg
/-- some cells of a row written over -/
theorem Col.write (h : Col e sz Pr D W B F) {v : Value} {c : Nat} (hx : F v c) {g : Nat} (hg : v.ownBlock = some g) {cur : Array Value} (hc : W.heap[g]? = some (.cells cur e (0, 0))) (o : Nat) (cs : List Value) (hfit : o + cs.length ≤ cur.size) (hP : ∀ (j : Nat) (u : Value), cs[j]? = some u → Pr c ((o + j) % sz) u) (hD : ∀ v' c', F v' c' → ∀ m, D' c' m → D c' m ∨ (v'.ownBlock = some g ∧ o ≤ m ∧ m < o + cs.length)) :
    Col e sz Pr D' (W.setRow g (cur.toList.take o ++ cs ++ cur.toList.drop (o + cs.length)).toArray) B F := by
  have hsz : (cur.toList.take o ++ cs ++ cur.toList.drop (o + cs.length)).length = cur.size := by
    simp only [List.length_append, List.length_take, List.length_drop, Array.length_toList]; omega
  have hto : (cur.toList.take o).length = o := by rw [List.length_take, Array.length_toList]; omega
  refine ⟨fun v' c' hy => ?_, h.sep⟩
  obtain ⟨xs, ho, hm⟩ := h.own v' c' hy
  rcases ho.2 with ⟨e1, e2⟩ | ⟨g', cap, cur', e1, h0, hg', h1, h2, h3, h4⟩
  · refine ⟨xs, ⟨ho.1, .inl ⟨e1, e2⟩⟩, fun m u hu => ?_⟩
    have hl := (List.getElem?_eq_some_iff.1 hu).1
    rw [ho.1, e2, Nat.zero_mul] at hl
    omega
  · by_cases hgg : g' = g
    · subst hgg
      have ec : cur' = cur := by rw [hc] at hg'; simpa using hg'.symm
      subst ec
      have hyc : c' = c := Classical.byContradiction fun hne => h.sep v c hx v' c' hy (fun e => hne e.symm) g' hg (by rw [e1]; rfl)
      subst hyc
      refine ⟨(cur'.toList.take o ++ cs ++ cur'.toList.drop (o + cs.length)).take (vlen v' * sz), ⟨?_, .inr ⟨g', cap, _, e1, h0, setRow_heap W g' cur' _ e _ hc, h1, h2, ?_, rfl⟩⟩, fun m u hu hd => ?_⟩
      · rw [List.length_take, hsz]
        have := Nat.mul_le_mul_right sz h1
        omega
      · rw [List.size_toArray, hsz]; exact h3
      · rw [List.getElem?_take] at hu
        split at hu
        · rename_i hlt
          rcases Nat.lt_or_ge m o with a | a
          · rw [List.append_assoc, List.getElem?_append_left (by omega), List.getElem?_take, if_pos a] at hu
            refine hm m u (by rw [← h4, List.getElem?_take, if_pos hlt]; exact hu) ?_
            rcases hD v' c' hy m hd with k | ⟨_, k, _⟩
            · exact k
            · omega
          · rcases Nat.lt_or_ge m (o + cs.length) with b | b
            · rw [List.append_assoc, List.getElem?_append_right (by omega), hto, List.getElem?_append_left (by omega)] at hu
              have := hP (m - o) u hu
              rw [show o + (m - o) = m by omega] at this
              exact this
            · rw [List.getElem?_append_right (by rw [List.length_append, hto]; exact b), List.length_append, hto, List.getElem?_drop, show o + cs.length + (m - (o + cs.length)) = m by omega] at hu
              refine hm m u (by rw [← h4, List.getElem?_take, if_pos hlt]; exact hu) ?_
              rcases hD v' c' hy m hd with k | ⟨_, _, k⟩
              · exact k
              · omega
        · cases hu
    · refine ⟨xs, ⟨ho.1, .inr ⟨g', cap, cur', e1, h0, (setRow_other W g g' _ hgg).trans hg', h1, h2, h3, h4⟩⟩, fun m u hu hd => hm m u hu ?_⟩
      rcases hD v' c' hy m hd with k | ⟨k, _⟩
      · exact k
      · rw [e1] at k
        simp [Value.ownBlock] at k
        exact absurd k hgg
theorem only_setRow {g : Nat} {cur : Array Value} (hc : W.heap[g]? = some (.cells cur e (0, 0))) (cs : Array Value) : Only e W (W.setRow g cs) :=
  ⟨by simp, fun k cur' f hk hf => setRow_other W g k _ (fun ek => by subst ek; rw [hc] at hk; cases hk; exact hf rfl)⟩
/-- one element appended, that has been laid just before -/
theorem Col.app {P : Program} {t : TypeId} {z : Value} {bys : Nat} {i0 : TypeInfo} (ht : P.underlying t = some (.slice e)) (hi0 : P.info? e = some i0) (hz0 : i0.zero = some z) (hz1 : i0.size = sz) (hz2 : i0.bytes = bys) (hzs : z.cells.size = sz) (hsz : 0 < sz) (hby : bys ≤ 1000)
    (h : Col e sz Pr (fun _ _ => True) W B F) {v : Value} {c : Nat} (hx : F v c) (cs : List Value) (hn : cs.length = sz) (h1 : ∀ u ∈ cs, u.oneCell' = true) (hP : ∀ (j : Nat) (u : Value), cs[j]? = some u → Pr c j u) (hm : vlen v ≤ 3000000) (hB : B ≤ W.heap.size) :
    ∃ q c' W', (Builtin.append_ #[t, t] t #[v, .slice (some ⟨W.heap.size, 0, none⟩) 1 1]).run P (W.alloc (.cells cs.toArray e)) = .ok (.slice q (vlen v + 1) c') W' ∧ Col e sz Pr (fun _ _ => True) W' B (fun v' k' => (v' = .slice q (vlen v + 1) c' ∧ k' = c) ∨ F v' k') ∧ Below B W W' ∧ Only e W W' ∧ Kept (fun b => v.ownBlock = some b) W W' ∧ (∀ g, (Value.slice q (vlen v + 1) c').ownBlock = some g → v.ownBlock = some g ∨ W.heap.size ≤ g) := by
  have h65 : (4000000 : Nat) ≤ maxLen := by decide
  obtain ⟨xs, ho, hmk⟩ := h.own v c hx
  have hnew : ∀ j u, cs[j]? = some u → (W.alloc (.cells cs.toArray e)).cell? ((⟨W.heap.size, 0, none⟩ : Addr).add j) = some u := fun j u hu => by
    rw [Go.WideShapes.add_plain, Nat.zero_add, cell_of_row _ W.heap.size j _ e (0, 0) (heap_alloc_new W _)]; simpa using hu
  have hn' : cs.length = 1 * sz := by rw [hn, Nat.one_mul]
  have hsz1 : (W.alloc (.cells cs.toArray e)).heap.size = W.heap.size + 1 := by simp
  have hbm : (vlen v + 1) * bys ≤ 140737488355328 := by
    have := Nat.mul_le_mul (show vlen v + 1 ≤ 3000001 by omega) hby
    omega
  obtain ⟨v', W', hrun, hown', hgrow, -, hv5⟩ := run_append_own_at (P := P) (W.alloc (.cells cs.toArray e)) B t t e i0 z sz bys ht hi0 hz0 hz1 hz2 hzs hsz v (vlen v) xs (ho.alloc _) ⟨W.heap.size, 0, none⟩ 1 1 cs hn' hnew h1 (by omega) hbm (by omega)
  have hmk' : ∀ (m : Nat) (u : Value), (xs ++ cs)[m]? = some u → True → Pr c (m % sz) u := fun m u hu _ => by
    rcases Nat.lt_or_ge m xs.length with a | a
    · rw [List.getElem?_append_left a] at hu
      exact hmk m u hu trivial
    · rw [List.getElem?_append_right a] at hu
      have hl := (List.getElem?_eq_some_iff.1 hu).1
      have := hP _ u hu
      have em : m % sz = m - xs.length := by
        rw [ho.1] at a hl ⊢
        rw [hn] at hl
        obtain ⟨d, rfl⟩ := Nat.exists_eq_add_of_le a
        rw [Nat.add_sub_cancel_left] at hl ⊢
        rw [Nat.mul_comm, Nat.mul_add_mod, Nat.mod_eq_of_lt hl]
      rw [em]; exact this
  have ba := below_alloc W (.cells cs.toArray e)
  have hkp : Kept (fun b => v.ownBlock = some b) W W' := (Kept.of_below _ ba).trans (T := fun b => v.ownBlock = some b) ⟨hgrow.os, hgrow.tape, hgrow.output, hgrow.size, fun b hb hn => hgrow.block b hb fun e => hn e.symm⟩ (fun x _ e => e)
  have hnb : ∀ g, v'.ownBlock = some g → v.ownBlock = some g ∨ W.heap.size ≤ g := fun g hg => by
    rcases hv5 with e | e
    · exact .inl (e ▸ hg)
    · rw [e, hsz1] at hg; cases hg; exact .inr (by omega)
  have bel : ∀ o, Below W.heap.size W ((W.alloc (.cells cs.toArray e)).drew.alloc o) := fun o => by
    have b2 : Below (W.alloc (.cells cs.toArray e)).heap.size (W.alloc (.cells cs.toArray e)) (W.alloc (.cells cs.toArray e)).drew := below_drawn 1
    exact below_then (below_then ba b2) (below_alloc (W.alloc (.cells cs.toArray e)).drew o)
  have fresh : ∀ q n' c', v' = .slice q n' c' → n' = vlen v + 1 → v'.ownBlock = some (W.heap.size + 1) → Below W.heap.size W W' → ∃ q c' W', (Builtin.append_ #[t, t] t #[v, .slice (some ⟨W.heap.size, 0, none⟩) 1 1]).run P (W.alloc (.cells cs.toArray e)) = .ok (.slice q (vlen v + 1) c') W' ∧ Col e sz Pr (fun _ _ => True) W' B (fun v' k' => (v' = .slice q (vlen v + 1) c' ∧ k' = c) ∨ F v' k') ∧ Below B W W' ∧ Only e W W' ∧ Kept (fun b => v.ownBlock = some b) W W' ∧ (∀ g, (Value.slice q (vlen v + 1) c').ownBlock = some g → v.ownBlock = some g ∨ W.heap.size ≤ g) := by
    intro q n' c' e1 e2 e3 hb
    subst e1; subst e2
    refine ⟨q, c', W', hrun, (h.later hb).add hown' hmk' (fun v2 c2 h2 _ g hg hg2 => ?_), hb.mono hB, Only.of hb, hkp, hnb⟩
    have := (h.lt h2 hg2).2
    rw [e3] at hg
    cases hg
    omega
  rcases ho.2 with ⟨rfl, e0⟩ | ⟨g, cap, cur, ev, hb, hg, k1, k2, k3, k4⟩
  · have hr := run_append_nil (P := P) (W.alloc (.cells cs.toArray e)) t t e i0 z ht hi0 hz0 ⟨W.heap.size, 0, none⟩ 1 1 cs (by rw [hz1]; exact hn') hnew (by omega) (by omega) (by rw [hz2]; omega)
    rw [hrun] at hr
    injection hr with e1 e2
    exact fresh _ _ _ e1 rfl (by rw [e1]; simp [Value.ownBlock]) (by rw [e2]; exact bel _)
  · by_cases room : vlen v + 1 ≤ cap
    · have hg1 : (W.alloc (.cells cs.toArray e)).heap[g]? = some (.cells cur e (0, 0)) := (ba.block g (Array.getElem?_eq_some_iff.1 hg).1).trans hg
      have hfit : vlen v * sz + cs.length ≤ cur.size := by rw [k3, hn]; have := Nat.mul_le_mul_right sz room; rw [Nat.add_mul, Nat.one_mul] at this; exact this
      have hr := run_append_room (P := P) (W.alloc (.cells cs.toArray e)) t t e i0 ht hi0 g (vlen v) cap cur hg1 ⟨W.heap.size, 0, none⟩ 1 1 cs (by rw [hz1]; exact hn') hnew h1 room (by rw [hz1]; exact hfit)
      rw [hz1, ← ev, hrun] at hr
      injection hr with e1 e2
      subst e1
      subst e2
      have hvb : v.ownBlock = some g := by rw [ev]; rfl
      have hc2 := (h.later ba).write (D' := fun _ _ => True) hx hvb hg1 (vlen v * sz) cs hfit (fun j u hu => by
        have hj := (List.getElem?_eq_some_iff.1 hu).1
        rw [Nat.mul_comm, Nat.mul_add_mod, Nat.mod_eq_of_lt (by omega)]
        exact hP j u hu) (fun _ _ _ _ _ => .inl trivial)
      refine ⟨_, _, _, hrun, hc2.add hown' hmk' (fun v2 c2 h2 hne g2 hg2 => ?_), ?_, ?_, hkp, hnb⟩
      · exact h.sep v c hx v2 c2 h2 hne g2 (by rw [hvb]; exact hg2)
      · exact below_setRow (ba.mono hB) hb _
      · exact (Only.of ba).trans (only_setRow hg1 _)
    · have holds : ∀ j u, xs[j]? = some u → (W.alloc (.cells cs.toArray e)).cell? ((⟨g, 0, none⟩ : Addr).add j) = some u := (ho.alloc _).cells (g := g) (by rw [ev]; rfl)
      have hr := run_append_grow (P := P) (W.alloc (.cells cs.toArray e)) t t e i0 z ht hi0 hz0 ⟨g, 0, none⟩ (vlen v) cap xs (by rw [hz1]; exact ho.1) holds ⟨W.heap.size, 0, none⟩ 1 1 cs (by rw [hz1]; exact hn') hnew (by omega) (by omega) (growslice_fits (by omega) (by rw [hz2]; exact hbm))
      rw [← ev, hrun] at hr
      injection hr with e1 e2
      exact fresh _ _ _ e1 rfl (by rw [e1]; simp [Value.ownBlock]) (by rw [e2]; exact bel _)
end
theorem Col.form {e : TypeId} {sz : Nat} {Pr : Nat → Nat → Value → Prop} {D : Nat → Nat → Prop} {W : World} {B : Nat} {F : Value → Nat → Prop} (h : Col e sz Pr D W B F) {v : Value} {c : Nat} (hv : F v c) : ∃ q n cp, v = .slice q n cp ∧ (0 < n → ∃ g, q = some ⟨g, 0, none⟩) := by
  obtain ⟨xs, o, -⟩ := h.own v c hv
  rcases o.2 with ⟨e1, e2⟩ | ⟨g, cap, cur, e1, _⟩
  · exact ⟨none, 0, 0, e1, fun h => absurd h (Nat.lt_irrefl 0)⟩
  · exact ⟨_, _, cap, e1, fun _ => ⟨g, rfl⟩⟩

theorem Only.at {e f : TypeId} {W W' : World} (h : Only e W W') (hf : f ≠ e) {g : Nat} {cs : Array Value} (k : W.heap[g]? = some (.cells cs f (0, 0))) : W'.heap[g]? = some (.cells cs f (0, 0)) := (h.block g _ f k hf).trans k
section
variable {e : TypeId} {Pr : Nat → Nat → Value → Prop} {D D' : Nat → Nat → Prop} {W W' : World} {B : Nat} {F F' : Value → Nat → Prop}
/-- one cell written over -/
theorem Col.put1 (h : Col e 1 Pr D W B F) {g n c i : Nat} (hx : F (.slice (some ⟨g, 0, none⟩) n c) i) (hu : ∀ v, F v i → v = .slice (some ⟨g, 0, none⟩) n c) (k : Nat) (hk : k < n) (u : Value) (hP : Pr i 0 u) (hD : ∀ c' m, D' c' m → D c' m ∨ (c' = i ∧ m = k)) : Col e 1 Pr D' (W.setCell ⟨g, k, none⟩ u) B F ∧ Only e W (W.setCell ⟨g, k, none⟩ u) ∧ Below B W (W.setCell ⟨g, k, none⟩ u) := by
  have hbl : Below B W (W.setCell ⟨g, k, none⟩ u) := (Below.refl B W).setCell (p := ⟨g, k, none⟩) (h.lt hx rfl).1 u
  obtain ⟨xs, ho, -⟩ := h.own _ _ hx
  rcases ho.2 with ⟨e0, _⟩ | ⟨g', cap, cur, e0, h0, hg, h1, h2, h3, h4⟩
  · cases e0
  · have e' : g = g' ∧ n = vlen (.slice (some ⟨g, 0, none⟩) n c) ∧ c = cap := by simpa using e0
    obtain ⟨rfl, -, rfl⟩ := e'
    have hfit : k + [u].length ≤ cur.size := by
      rw [h3]
      have : n ≤ c := h1
      show k + 1 ≤ _
      omega
    have hw : W.setCell ⟨g, k, none⟩ u = W.setRow g (cur.toList.take k ++ [u] ++ cur.toList.drop (k + [u].length)).toArray := by
      rw [setCell_eq_setRow W g k cur _ (0, 0) _ hg]
      congr 1
      apply Array.toList_inj.1
      have hl : k < cur.toList.length := by rw [Array.length_toList]; exact hfit
      rw [Array.toList_setIfInBounds, List.set_eq_take_append_cons_drop, if_pos hl]
      simp
    rw [hw] at hbl ⊢
    refine ⟨h.write (D' := D') hx rfl hg k _ hfit (fun j v hj => ?_) (fun v' c' hv m hd => ?_), only_setRow hg _, hbl⟩
    · cases j with
      | zero => cases hj; rw [Nat.mod_one]; exact hP
      | succ j => cases hj
    · rcases hD c' m hd with k' | ⟨rfl, rfl⟩
      · exact .inl k'
      · rw [hu v' hv]; exact .inr ⟨rfl, Nat.le_refl _, Nat.lt_succ_self _⟩
theorem Col.cell1 (h : Col e 1 Pr D W B F) {g n cp c : Nat} (hv : F (.slice (some ⟨g, 0, none⟩) n cp) c) (k : Nat) (hk : k < n) : ∃ u, W.cell? ⟨g, k, none⟩ = some u ∧ W.frozen? ⟨g, k, none⟩ = false ∧ (D c k → Pr c 0 u) := by
  obtain ⟨xs, o, hm⟩ := h.own _ c hv
  have hl : k < xs.length := by rw [o.1]; show k < n * 1; omega
  have hc := o.cells (g := g) rfl _ _ (List.getElem?_eq_getElem hl)
  rw [Go.WideShapes.add_plain, Nat.zero_add] at hc
  refine ⟨_, hc, ?_, fun hd => by have := hm k _ (List.getElem?_eq_getElem hl) hd; rwa [Nat.mod_one] at this⟩
  rcases o.2 with ⟨e, _⟩ | ⟨g', cap, cur, e, _, hg, _⟩
  · cases e
  · injection e with e1 _ _
    cases e1
    exact frozen_of_row W g k _ _ hg
end
end Go.Proofs.Ytkffmglcllhbmaa
