/-
  Laws for Apart: an append that keeps what lies ahead of it; what is watched.
-/
import Derived.Test.YtpenddnmmfpdjaaDoorWd
import Derived.Deep.AppendLies
namespace Go.Proofs.YtpenddnmmfpdjaaDoor
open Go.RowKit
section
variable {P : Program} (w : World)
/-- 'append' onto a slice that the call owns, elements of one cell: the first n cells of the old row are as they were, whether it grew or not. -/
theorem append_keeps (t ty : TypeId) (base : Nat) (e : TypeId) (i : TypeInfo) (z : Value) (bytes : Nat) (ht : P.underlying t = some (.slice e)) (hi : P.info? e = some i) (hz : i.zero = some z)
    (hsize : i.size = 1) (hby : i.bytes = bytes) (v : Value) (n : Nat) (xs : List Value) (hown : w.ownsRow base e 1 v n xs)
    (ad : Addr) (m c : Nat) (news : List Value) (hl : news.length = m * 1) (hnews : ∀ j u, news[j]? = some u → w.cell? (ad.add j) = some u) (h1 : ∀ u ∈ news, u.oneCell' = true)
    (h63 : n + m ≤ maxLen) (hbytes : (n + m) * bytes ≤ 140737488355328) (v' : Value) (w' : World) (hrun : (Builtin.append_ #[t, t] ty #[v, .slice (some ad) m c]).run P w = .ok v' w') :
    ∀ g, v.ownBlock = some g → (∃ cs, w'.heap[g]? = some (.cells cs e (0, 0))) ∧ ∀ j, j < n → w'.cell? ⟨g, j, none⟩ = w.cell? ⟨g, j, none⟩ := by
  intro g0 hg0
  have hsmall : n + m ≤ 9223372036854775807 := by simp only [maxLen] at h63; omega
  rcases hown.2 with ⟨rfl, rfl⟩ | ⟨g, cap, cur, rfl, hbg, hg, hnc, hcm, hcs, htake⟩
  · cases hg0
  · obtain rfl : g = g0 := by simpa [Value.ownBlock] using hg0
    by_cases hroom : n + m ≤ cap
    · have hfit : n * i.size + news.length ≤ cur.size := by rw [hl, hcs, hsize]; omega
      have hr := run_append_room (P := P) w t ty e i ht hi g n cap cur hg ad m c news (by rw [hsize]; exact hl) hnews h1 hroom hfit
      rw [hr] at hrun
      simp only [Result.ok.injEq] at hrun
      rw [← hrun.2]
      refine ⟨⟨_, setRow_heap w g cur _ e _ hg⟩, fun j hj => ?_⟩
      rw [cell_of_row _ g j _ e (0, 0) (setRow_heap w g cur _ e _ hg), cell_of_row w g j cur e (0, 0) hg]
      simp only [List.getElem?_toArray, hsize, Nat.mul_one]
      rw [List.append_assoc, List.getElem?_append_left (by simp; omega), List.getElem?_take, if_pos hj]
      simp
    · have holds : ∀ j u, xs[j]? = some u → w.cell? ((⟨g, 0, none⟩ : Addr).add j) = some u := hown.cells (g := g) rfl
      have hr := run_append_grow (P := P) w t ty e i z ht hi hz ⟨g, 0, none⟩ n cap xs (by rw [hsize]; exact hown.1) holds ad m c news (by rw [hsize]; exact hl) hnews (by omega) (by omega) (growslice_fits (by omega) (by rw [hby]; exact hbytes))
      rw [hr] at hrun
      simp only [Result.ok.injEq] at hrun
      rw [← hrun.2]
      have hlt := (Array.getElem?_eq_some_iff.1 hg).1
      have hbk := Below.heap_alloc w.drew (.cells (xs.toArray ++ news.toArray ++ Builtin.zeroCells z.cells (grownCap w (n + m) cap e - (n + m))) e) g hlt
      exact ⟨⟨cur, hbk.trans hg⟩, fun j hj => World.cell?_of_block (w := w) (a := ⟨g, j, none⟩) hbk⟩
/-- the law for the walk: what 'wpList_append_lies' leaves, and that the first n cells are kept -/
theorem wpList_append_kept {ops : Array Oper} {rest : List Oper} {o : Oper} {a : Act} {Q : Exit → Act → World → Prop} (hgd : o.guard = none) (s x : Operand) (t : TypeId)
    (ho : o.op = .call { callee := .builtin .append, args := #[s, x], argTypes := #[t, t] })
    (base : Nat) (e : TypeId) (i : TypeInfo) (z : Value) (bytes : Nat) (ht : P.underlying t = some (.slice e)) (hi : P.info? e = some i) (hz : i.zero = some z)
    (hsize : i.size = 1) (hby : i.bytes = bytes) (hzs : z.cells.size = 1)
    (v : Value) (n : Nat) (xs : List Value) (hs : a.eval s = v) (hown : w.ownsRow base e 1 v n xs)
    (ad : Addr) (m c : Nat) (news : List Value) (hx : a.eval x = .slice (some ad) m c) (hl : news.length = m * 1) (hnews : ∀ j u, news[j]? = some u → w.cell? (ad.add j) = some u) (h1 : ∀ u ∈ news, u.oneCell' = true)
    (hm : 0 < m) (h63 : n + m ≤ maxLen) (hbytes : (n + m) * bytes ≤ 140737488355328) (hbase : base ≤ w.heap.size)
    (h : ∀ g cap w', w'.ownsRow base e 1 (.slice (some ⟨g, 0, none⟩) (n + m) cap) (n + m) (xs ++ news) → w.grownBy w' v.ownBlock → (v.ownBlock = some g ∨ g = w.heap.size) → g < w'.heap.size →
      (∀ g, v.ownBlock = some g → (∃ cs, w'.heap[g]? = some (.cells cs e (0, 0))) ∧ ∀ j, j < n → w'.cell? ⟨g, j, none⟩ = w.cell? ⟨g, j, none⟩) → wpList P ops Q rest (a.put o.dst (.slice (some ⟨g, 0, none⟩) (n + m) cap)) w') : wpList P ops Q (o :: rest) a w := by
  refine wpList_plain hgd fun K hK => ?_
  obtain ⟨g, cap, w', hr, h2, h3, h4, h5⟩ := run_append_lies (P := P) w t o.type base e i z 1 bytes ht hi hz hsize hby hzs (by omega) v n xs hown ad m c news hl hnews h1 hm h63 hbytes hbase _ rfl
  have hk := append_keeps (P := P) w t o.type base e i z bytes ht hi hz hsize hby v n xs hown ad m c news hl hnews h1 h63 hbytes _ w' hr
  unfold Oper.wp
  simp [execOp, ho, resolve, invoke, builtin, hs, hx, hr, Result.andThen]
  exact hK _ _ (h g cap w' h2 h3 h4 h5 hk)
end
/-- bytes that are watched: in block b, from lo to hi, all of them x; where b is the row that grows (r), they lie ahead of its end -/
structure Watch (w : World) (r : Option Nat) (cur : Nat) (b lo hi : Nat) (x : Int) : Prop where
  block : ∃ cs, w.heap[b]? = some (.cells cs 5 (0, 0))
  cells : ∀ k, lo ≤ k → k < hi → w.cell? ⟨b, k, none⟩ = some (.int .u8 x)
  ahead : r = some b → hi ≤ cur
theorem Watch.lt {w : World} {r : Option Nat} {cur b lo hi : Nat} {x : Int} (h : Watch w r cur b lo hi x) : b < w.heap.size := by
  obtain ⟨cs, hc⟩ := h.block
  exact (Array.getElem?_eq_some_iff.1 hc).1
/-- a step that leaves block b alone -/
theorem Watch.same {w w' : World} {r r' : Option Nat} {cur cur' b lo hi : Nat} {x : Int} (h : Watch w r cur b lo hi x) (hb : w'.heap[b]? = w.heap[b]?) (hr : r' = some b → hi ≤ cur') : Watch w' r' cur' b lo hi x := by
  refine ⟨by rw [hb]; exact h.block, fun k h1 h2 => ?_, hr⟩
  rw [World.cell?_of_block (w := w) (w' := w') (a := ⟨b, k, none⟩) hb]
  exact h.cells k h1 h2
end Go.Proofs.YtpenddnmmfpdjaaDoor
