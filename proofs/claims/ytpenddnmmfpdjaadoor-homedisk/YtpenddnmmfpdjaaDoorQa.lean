/-
  Apart, of lists of values: the laws, and what its loops hold.
-/
import Derived.Test.YtpenddnmmfpdjaaDoorSm
import Derived.Deep.AppendLies
namespace Go.Proofs.YtpenddnmmfpdjaaDoor
namespace V
open Go.RowKit
section
variable {P : Program} (w : World)
/-- 'append' onto a slice that the call owns, elements of one cell: the first n cells of the old row are as they were, whether it grew or not. -/
theorem append_keeps (t ty : TypeId) (base : Nat) (e : TypeId) (i : TypeInfo) (z : Value) (bytes : Nat) (ht : P.underlying t = some (.slice e)) (hi : P.info? e = some i) (hz : i.zero = some z)
    (hsize : i.size = 1) (hby : i.bytes = bytes) (v : Value) (n : Nat) (xs : List Value) (hown : w.ownsRow base e 1 v n xs)
    (ad : Addr) (m c : Nat) (news : List Value) (hl : news.length = m * 1) (hnews : ∀ j u, news[j]? = some u → w.cell? (ad.add j) = some u) (h1 : ∀ u ∈ news, u.oneCell' = true)
    (h63 : n + m ≤ maxLen) (hbytes : (n + m) * bytes ≤ 140737488355328) (v' : Value) (w' : World) (hrun : (Builtin.append_ #[t, t] ty #[v, .slice (some ad) m c]).run P w = .ok v' w') :
    ∀ g, v.ownBlock = some g → (∃ cs, w'.heap[g]? = some (.cells cs e (0, 0))) ∧ ∀ j, j < n → w'.cell? ⟨g, j, none⟩ = w.cell? ⟨g, j, none⟩ := by
  intro g0 hg0
  have hsmall : n + m ≤ 9223372036854775807 := by simp only [maxLen] at h63; omega
  rcases hown.2 with ⟨rfl, rfl⟩ | ⟨g, cap, cur, rfl, hbg, hg, hnc, hcm, hcs, htake⟩
  · cases hg0
  · obtain rfl : g = g0 := by simpa [Value.ownBlock] using hg0
    by_cases hroom : n + m ≤ cap
    · have hfit : n * i.size + news.length ≤ cur.size := by rw [hl, hcs, hsize]; omega
      have hr := run_append_room (P := P) w t ty e i ht hi g n cap cur hg ad m c news (by rw [hsize]; exact hl) hnews h1 hroom hfit
      rw [hr] at hrun
      simp only [Result.ok.injEq] at hrun
      rw [← hrun.2]
      refine ⟨⟨_, setRow_heap w g cur _ e _ hg⟩, fun j hj => ?_⟩
      rw [cell_of_row _ g j _ e (0, 0) (setRow_heap w g cur _ e _ hg), cell_of_row w g j cur e (0, 0) hg]
      simp only [List.getElem?_toArray, hsize, Nat.mul_one]
      rw [List.append_assoc, List.getElem?_append_left (by simp; omega), List.getElem?_take, if_pos hj]
      simp
    · have holds : ∀ j u, xs[j]? = some u → w.cell? ((⟨g, 0, none⟩ : Addr).add j) = some u := hown.cells (g := g) rfl
      have hr := run_append_grow (P := P) w t ty e i z ht hi hz ⟨g, 0, none⟩ n cap xs (by rw [hsize]; exact hown.1) holds ad m c news (by rw [hsize]; exact hl) hnews (by omega) (by omega) (growslice_fits (by omega) (by rw [hby]; exact hbytes))
      rw [hr] at hrun
      simp only [Result.ok.injEq] at hrun
      rw [← hrun.2]
      have hlt := (Array.getElem?_eq_some_iff.1 hg).1
      have hbk := Below.heap_alloc w.drew (.cells (xs.toArray ++ news.toArray ++ Builtin.zeroCells z.cells (grownCap w (n + m) cap e - (n + m))) e) g hlt
      exact ⟨⟨cur, hbk.trans hg⟩, fun j hj => World.cell?_of_block (w := w) (a := ⟨g, j, none⟩) hbk⟩
/-- the law for the walk: what 'wpList_append_lies' leaves, and that the first n cells are kept -/
theorem wpList_append_kept {ops : Array Oper} {rest : List Oper} {o : Oper} {a : Act} {Q : Exit → Act → World → Prop} (hgd : o.guard = none) (s x : Operand) (t : TypeId)
    (ho : o.op = .call { callee := .builtin .append, args := #[s, x], argTypes := #[t, t] })
    (base : Nat) (e : TypeId) (i : TypeInfo) (z : Value) (bytes : Nat) (ht : P.underlying t = some (.slice e)) (hi : P.info? e = some i) (hz : i.zero = some z)
    (hsize : i.size = 1) (hby : i.bytes = bytes) (hzs : z.cells.size = 1)
    (v : Value) (n : Nat) (xs : List Value) (hs : a.eval s = v) (hown : w.ownsRow base e 1 v n xs)
    (ad : Addr) (m c : Nat) (news : List Value) (hx : a.eval x = .slice (some ad) m c) (hl : news.length = m * 1) (hnews : ∀ j u, news[j]? = some u → w.cell? (ad.add j) = some u) (h1 : ∀ u ∈ news, u.oneCell' = true)
    (hm : 0 < m) (h63 : n + m ≤ maxLen) (hbytes : (n + m) * bytes ≤ 140737488355328) (hbase : base ≤ w.heap.size)
    (h : ∀ g cap w', w'.ownsRow base e 1 (.slice (some ⟨g, 0, none⟩) (n + m) cap) (n + m) (xs ++ news) → w.grownBy w' v.ownBlock → (v.ownBlock = some g ∨ g = w.heap.size) → g < w'.heap.size →
      (∀ g, v.ownBlock = some g → (∃ cs, w'.heap[g]? = some (.cells cs e (0, 0))) ∧ ∀ j, j < n → w'.cell? ⟨g, j, none⟩ = w.cell? ⟨g, j, none⟩) → wpList P ops Q rest (a.put o.dst (.slice (some ⟨g, 0, none⟩) (n + m) cap)) w') : wpList P ops Q (o :: rest) a w := by
  refine wpList_plain hgd fun K hK => ?_
  obtain ⟨g, cap, w', hr, h2, h3, h4, h5⟩ := run_append_lies (P := P) w t o.type base e i z 1 bytes ht hi hz hsize hby hzs (by omega) v n xs hown ad m c news hl hnews h1 hm h63 hbytes hbase _ rfl
  have hk := append_keeps (P := P) w t o.type base e i z bytes ht hi hz hsize hby v n xs hown ad m c news hl hnews h1 h63 hbytes _ w' hr
  unfold Oper.wp
  simp [execOp, ho, resolve, invoke, builtin, hs, hx, hr, Result.andThen]
  exact hK _ _ (h g cap w' h2 h3 h4 h5 hk)
end
section
variable {P : Program} (w : World)
/-- 'append' onto a slice that the call owns, elements of 32 cells: the first n cells of the old row are as they were, whether it grew or not. -/
theorem append_keepsV (t ty : TypeId) (base : Nat) (e : TypeId) (i : TypeInfo) (z : Value) (bytes : Nat) (ht : P.underlying t = some (.slice e)) (hi : P.info? e = some i) (hz : i.zero = some z)
    (hsize : i.size = 32) (hby : i.bytes = bytes) (v : Value) (n : Nat) (xs : List Value) (hown : w.ownsRow base e 32 v n xs)
    (ad : Addr) (m c : Nat) (news : List Value) (hl : news.length = m * 32) (hnews : ∀ j u, news[j]? = some u → w.cell? (ad.add j) = some u) (h1 : ∀ u ∈ news, u.oneCell' = true)
    (h63 : n + m ≤ maxLen) (hbytes : (n + m) * bytes ≤ 140737488355328) (v' : Value) (w' : World) (hrun : (Builtin.append_ #[t, t] ty #[v, .slice (some ad) m c]).run P w = .ok v' w') :
    ∀ g, v.ownBlock = some g → (∃ cs, w'.heap[g]? = some (.cells cs e (0, 0))) ∧ ∀ j, j < n * 32 → w'.cell? ⟨g, j, none⟩ = w.cell? ⟨g, j, none⟩ := by
  intro g0 hg0
  have hsmall : n + m ≤ 9223372036854775807 := by simp only [maxLen] at h63; omega
  rcases hown.2 with ⟨rfl, rfl⟩ | ⟨g, cap, cur, rfl, hbg, hg, hnc, hcm, hcs, htake⟩
  · cases hg0
  · obtain rfl : g = g0 := by simpa [Value.ownBlock] using hg0
    by_cases hroom : n + m ≤ cap
    · have hfit : n * i.size + news.length ≤ cur.size := by rw [hl, hcs, hsize]; omega
      have hr := run_append_room (P := P) w t ty e i ht hi g n cap cur hg ad m c news (by rw [hsize]; exact hl) hnews h1 hroom hfit
      rw [hr] at hrun
      simp only [Result.ok.injEq] at hrun
      rw [← hrun.2]
      refine ⟨⟨_, setRow_heap w g cur _ e _ hg⟩, fun j hj => ?_⟩
      rw [cell_of_row _ g j _ e (0, 0) (setRow_heap w g cur _ e _ hg), cell_of_row w g j cur e (0, 0) hg]
      simp only [List.getElem?_toArray, hsize]
      rw [List.append_assoc, List.getElem?_append_left (by simp; omega), List.getElem?_take, if_pos hj]
      simp
    · have holds : ∀ j u, xs[j]? = some u → w.cell? ((⟨g, 0, none⟩ : Addr).add j) = some u := hown.cells (g := g) rfl
      have hr := run_append_grow (P := P) w t ty e i z ht hi hz ⟨g, 0, none⟩ n cap xs (by rw [hsize]; exact hown.1) holds ad m c news (by rw [hsize]; exact hl) hnews (by omega) (by omega) (growslice_fits (by omega) (by rw [hby]; exact hbytes))
      rw [hr] at hrun
      simp only [Result.ok.injEq] at hrun
      rw [← hrun.2]
      have hlt := (Array.getElem?_eq_some_iff.1 hg).1
      have hbk := Below.heap_alloc w.drew (.cells (xs.toArray ++ news.toArray ++ Builtin.zeroCells z.cells (grownCap w (n + m) cap e - (n + m))) e) g hlt
      exact ⟨⟨cur, hbk.trans hg⟩, fun j hj => World.cell?_of_block (w := w) (a := ⟨g, j, none⟩) hbk⟩
/-- the law for the walk: what 'wpList_append_lies' leaves, and that the first n cells are kept -/
theorem wpList_append_keptV {ops : Array Oper} {rest : List Oper} {o : Oper} {a : Act} {Q : Exit → Act → World → Prop} (hgd : o.guard = none) (s x : Operand) (t : TypeId)
    (ho : o.op = .call { callee := .builtin .append, args := #[s, x], argTypes := #[t, t] })
    (base : Nat) (e : TypeId) (i : TypeInfo) (z : Value) (bytes : Nat) (ht : P.underlying t = some (.slice e)) (hi : P.info? e = some i) (hz : i.zero = some z)
    (hsize : i.size = 32) (hby : i.bytes = bytes) (hzs : z.cells.size = 32)
    (v : Value) (n : Nat) (xs : List Value) (hs : a.eval s = v) (hown : w.ownsRow base e 32 v n xs)
    (ad : Addr) (m c : Nat) (news : List Value) (hx : a.eval x = .slice (some ad) m c) (hl : news.length = m * 32) (hnews : ∀ j u, news[j]? = some u → w.cell? (ad.add j) = some u) (h1 : ∀ u ∈ news, u.oneCell' = true)
    (hm : 0 < m) (h63 : n + m ≤ maxLen) (hbytes : (n + m) * bytes ≤ 140737488355328) (hbase : base ≤ w.heap.size)
    (h : ∀ g cap w', w'.ownsRow base e 32 (.slice (some ⟨g, 0, none⟩) (n + m) cap) (n + m) (xs ++ news) → w.grownBy w' v.ownBlock → (v.ownBlock = some g ∨ g = w.heap.size) → g < w'.heap.size →
      (∀ g, v.ownBlock = some g → (∃ cs, w'.heap[g]? = some (.cells cs e (0, 0))) ∧ ∀ j, j < n * 32 → w'.cell? ⟨g, j, none⟩ = w.cell? ⟨g, j, none⟩) → wpList P ops Q rest (a.put o.dst (.slice (some ⟨g, 0, none⟩) (n + m) cap)) w') : wpList P ops Q (o :: rest) a w := by
  refine wpList_plain hgd fun K hK => ?_
  obtain ⟨g, cap, w', hr, h2, h3, h4, h5⟩ := run_append_lies (P := P) w t o.type base e i z 32 bytes ht hi hz hsize hby hzs (by omega) v n xs hown ad m c news hl hnews h1 hm h63 hbytes hbase _ rfl
  have hk := append_keepsV (P := P) w t o.type base e i z bytes ht hi hz hsize hby v n xs hown ad m c news hl hnews h1 h63 hbytes _ w' hr
  unfold Oper.wp
  simp [execOp, ho, resolve, invoke, builtin, hs, hx, hr, Result.andThen]
  exact hK _ _ (h g cap w' h2 h3 h4 h5 hk)
end

/-- the marks -/
def m1 (i : Nat) : List Int := ((i : Int) + 1) :: zs 31
def m2 (i : Nat) : List Int := ((i : Int) + 1) :: 1 :: zs 30
theorem m1_len (i : Nat) : (m1 i).length = 32 := rfl
theorem m2_len (i : Nat) : (m2 i).length = 32 := rfl
theorem build_m1 (w : World) (i : Nat) : (Instr.build 23 #[(0, .int .u8 ((i : Int) + 1))]).run Tryd.prog w = .ok (.agg (U8 (m1 i)).toArray) w := run_build w 23 _ _ (by kernel_rfl)
theorem build_m2 (w : World) (i : Nat) : (Instr.build 23 #[(0, .int .u8 ((i : Int) + 1)), (1, .int .u8 1)]).run Tryd.prog w = .ok (.agg (U8 (m2 i)).toArray) w := run_build w 23 _ _ (by kernel_rfl)
/-- '[]api.Value{x}' -/
theorem run_lit41 (w : World) (x : List Int) (hx : x.length = 32) : (Instr.buildSlice 41 1 #[(0, .agg (U8 x).toArray)]).run Tryd.prog w = .ok (.slice (some ⟨w.heap.size, 0, none⟩) 1 1) (w.alloc (.cells (U8 x).toArray 23)) := by
  obtain ⟨i0, hi, hz0, hz1, hz2⟩ := info_parts info23
  refine run_buildSlice w 41 23 1 _ _ i0 _ Tryd.underlying41 hi hz0 (by rw [hz1]; decide) (by rw [hz1]; decide) ?_
  rw [hz1]
  have hA : ∀ A : Array Value, A.size = 32 → Instr.fill (fun i => some (i * 32, 32)) A [(0, .agg (U8 x).toArray)] = some (U8 x).toArray := by
    intro A hA
    have a0 := part_fill4 0 (U8 x) A.toList (by simp; omega)
    simp only [Instr.fill, Value.cells, List.size_toArray, Nat.zero_mul]
    rw [if_neg (by simp [hx, hA])]
    have a0' : (U8 x).toArray.zipIdx.foldl (fun cs x => match x with | (c, j) => cs.setIfInBounds (0 + j) c) A = ((A.toList.take 0 ++ U8 x ++ A.toList.drop (0 + (U8 x).length))).toArray := a0
    rw [a0', List.drop_eq_nil_of_le (by simp [hx, hA])]
    simp
  exact hA _ (by simp)
theorem wpList_lit41 {ops : Array Oper} {rest : List Oper} {o : Oper} {a : Act} {w : World} {Q : Exit → Act → World → Prop} (hgd : Region.wanted o (yielded ops a.tmps) = true) (x : Operand) (ho : o.op = .buildSlice 41 1 #[(0, x)]) (z : List Int) (hx : a.eval x = .agg (U8 z).toArray) (hz : z.length = 32)
    (h : wpList Tryd.prog ops Q rest (a.put o.dst (.slice (some ⟨w.heap.size, 0, none⟩) 1 1)) (w.alloc (.cells (U8 z).toArray 23))) : wpList Tryd.prog ops Q (o :: rest) a w :=
  wpList_val hgd (by
    have e : (#[(0, x)] : Array (Nat × Operand)).map (fun (i, x) => (i, a.eval x)) = #[(0, a.eval x)] := by simp
    unfold execOp; simp only [ho]; rw [e, hx]; simp only [Sem.run_bind, run_lit41 w z hz, Result.andThen_ok, Sem.run_pure]) h
/-- cells stored into a row that is owned -/
theorem own_set {w : World} {base e size g n c : Nat} {xs : List Value} (h : w.ownsRow base e size (.slice (some ⟨g, 0, none⟩) n c) n xs) (o : Nat) (vs : List Value) (hv : o + vs.length ≤ n * size) :
    (w.setCells g o vs).ownsRow base e size (.slice (some ⟨g, 0, none⟩) n c) n (xs.take o ++ vs ++ xs.drop (o + vs.length)) ∧ w.grownBy (w.setCells g o vs) (some g) := by
  have hx := h.1
  rcases h.2 with ⟨h', _⟩ | ⟨g', c', cur, h', h1, hg, h2, h3, hsz, htk⟩
  · simp at h'
  · simp only [Value.slice.injEq, Option.some.injEq, Addr.mk.injEq, and_true, true_and] at h'
    obtain ⟨rfl, rfl⟩ := h'
    have hL : LAt e w g cur.toList := hg
    have hcn : n * size ≤ cur.size := by rw [hsz]; exact Nat.mul_le_mul_right _ h2
    have hs := LAt.setCells vs o w cur.toList hL (by simp; omega)
    refine ⟨⟨by simp; omega, .inr ⟨g, c, _, rfl, h1, hs, h2, h3, by simp; omega, ?_⟩⟩, ?_⟩
    · show ((cur.toList.take o ++ vs ++ cur.toList.drop (o + vs.length)).toArray.toList).take (n * size) = _
      have e1 : xs.take o = cur.toList.take o := by rw [← htk, List.take_take, Nat.min_eq_left (by omega)]
      have e2 : xs.drop (o + vs.length) = (cur.toList.drop (o + vs.length)).take (n * size - (o + vs.length)) := by rw [← htk, List.drop_take]
      rw [e1, e2, List.take_append, List.take_of_length_le (by simp; omega)]
      congr 2
      simp; omega
    · have k : Kept (fun k => k = g) w (w.setCells g o vs) := Kept.setCells (S := fun k => k = g) (fun _ => rfl) vs o w (Kept.refl _ _)
      exact ⟨k.os, k.tape, k.output, k.size, fun j hj hn => k.block j hj (fun e => hn (by rw [e]))⟩
/-- so many values, all the same -/
abbrev repV (n : Nat) (x : List Int) : List Value := VC (List.replicate n x)
theorem repV_len (n : Nat) {x : List Int} (hx : x.length = 32) : (repV n x).length = n * 32 := by
  rw [VC_length (fun l hl => by rw [List.eq_of_mem_replicate hl]; exact hx), List.length_replicate]
theorem repV_succ (n : Nat) (x : List Int) : repV (n + 1) x = repV n x ++ U8 x := by
  show VC (List.replicate (n + 1) x) = VC (List.replicate n x) ++ U8 x
  rw [List.replicate_succ', VC_snoc]
theorem repV_at (n k j : Nat) {x : List Int} (hx : x.length = 32) (hk : k < n) (hj : j < 32) : (repV n x)[k * 32 + j]? = (U8 x)[j]? := by
  rw [VC_at (fun l hl => by rw [List.eq_of_mem_replicate hl]; exact hx) k j (by simpa using hk) hj]
  simp

/-- values that are watched: in block b, from lo to hi, all of them x; where b is the row that grows (r), they lie ahead of its end -/
structure Watch (w : World) (r : Option Nat) (cur : Nat) (b lo hi : Nat) (x : List Int) : Prop where
  block : ∃ cs, w.heap[b]? = some (.cells cs 23 (0, 0))
  cells : ∀ k, lo ≤ k → k < hi → w.rangeAt b (k * 32) (U8 x)
  ahead : r = some b → hi ≤ cur
  len : x.length = 32
theorem Watch.lt {w : World} {r : Option Nat} {cur b lo hi : Nat} {x : List Int} (h : Watch w r cur b lo hi x) : b < w.heap.size := by
  obtain ⟨cs, hc⟩ := h.block
  exact (Array.getElem?_eq_some_iff.1 hc).1
theorem Watch.same {w w' : World} {r r' : Option Nat} {cur cur' b lo hi : Nat} {x : List Int} (h : Watch w r cur b lo hi x) (hb : w'.heap[b]? = w.heap[b]?) (hr : r' = some b → hi ≤ cur') : Watch w' r' cur' b lo hi x :=
  ⟨by rw [hb]; exact h.block, fun k h1 h2 => rangeAt_same (h.cells k h1 h2) hb, hr, h.len⟩
/-- the lists that are handed to Apart: m of them, in block L; each is nil or a row of its own -/
structure Fam (w : World) (B L m : Nat) (vp : Nat → Option Addr) (vn vc : Nat → Nat) : Prop where
  few : m ≤ 130
  list : ∀ i, i < m → w.cell? ⟨L, i, none⟩ = some (.slice (vp i) (vn i) (vc i))
  kind : ∃ cs, w.heap[L]? = some (.cells cs 41 (0, 0))
  rows : ∀ i, i < m → ∃ xs, w.ownsRow B 23 32 (.slice (vp i) (vn i) (vc i)) (vn i) xs
  apart : ∀ i j a b, i < m → j < m → i ≠ j → vp i = some a → vp j = some b → a.block ≠ b.block
  size : ∀ i, i < m → vn i ≤ 64
  base : B ≤ w.heap.size
/-- nothing has turned but the rows' own blocks -/
structure Fr (m : Nat) (vp : Nat → Option Addr) (w w' : World) : Prop where
  os : w'.os = w.os
  tape : w'.tape = w.tape
  output : w'.output = w.output
  size : w.heap.size ≤ w'.heap.size
  block : ∀ k, k < w.heap.size → (∀ i a, i < m → vp i = some a → a.block ≠ k) → w'.heap[k]? = w.heap[k]?
theorem Fr.refl (m : Nat) (vp : Nat → Option Addr) (w : World) : Fr m vp w w := ⟨rfl, rfl, rfl, Nat.le_refl _, fun _ _ _ => rfl⟩
/-- a row's value: nil, or at the head of a block -/
theorem own_atV {w : World} {base e size : Nat} {p : Option Addr} {n c : Nat} {xs : List Value} (h : w.ownsRow base e size (.slice p n c) n xs) : (p = none ∧ n = 0) ∨ ∃ g cs, p = some ⟨g, 0, none⟩ ∧ base ≤ g ∧ w.heap[g]? = some (.cells cs e (0, 0)) := by
  rcases h.2 with ⟨e1, e2⟩ | ⟨g, cap, cur, e1, hb, hg, _⟩
  · simp only [Value.slice.injEq] at e1
    exact .inl ⟨e1.1, e2⟩
  · simp only [Value.slice.injEq] at e1
    exact .inr ⟨g, cur, e1.1, hb, hg⟩
/-- phase 1: lists below i are marked, of list i the first k -/
structure Mark (w wr : World) (B m : Nat) (vp : Nat → Option Addr) (vn vc : Nat → Nat) (i k : Nat) : Prop where
  fr : Fr m vp w wr
  rows : ∀ j, j < m → ∃ xs, wr.ownsRow B 23 32 (.slice (vp j) (vn j) (vc j)) (vn j) xs ∧ (j < i → xs = repV (vn j) (m1 j)) ∧ (j = i → xs.take (k * 32) = repV k (m1 i))
theorem Fam.start {w : World} {B L m : Nat} {vp : Nat → Option Addr} {vn vc : Nat → Nat} (h : Fam w B L m vp vn vc) : Mark w w B m vp vn vc 0 0 := by
  refine ⟨Fr.refl _ _ _, fun j hj => ?_⟩
  obtain ⟨xs, hx⟩ := h.rows j hj
  exact ⟨xs, hx, fun h => absurd h (Nat.not_lt_zero _), fun _ => by simp [repV, VC]⟩
/-- the list of lists reads as it did -/
theorem Fam.block_L {w wr : World} {B L m : Nat} {vp : Nat → Option Addr} {vn vc : Nat → Nat} (h : Fam w B L m vp vn vc) (hf : Fr m vp w wr) : wr.heap[L]? = w.heap[L]? := by
  obtain ⟨cs, hc⟩ := h.kind
  refine hf.block L (Array.getElem?_eq_some_iff.1 hc).1 fun i a hi ha e => ?_
  obtain ⟨xs, hx⟩ := h.rows i hi
  rcases own_atV hx with ⟨h1, _⟩ | ⟨g, cs2, h1, _, hg⟩
  · rw [ha] at h1; cases h1
  · rw [ha] at h1
    simp only [Option.some.injEq] at h1
    subst h1
    simp only at e
    subst e
    rw [hc] at hg
    simp at hg
theorem Fam.cell_L {w wr : World} {B L m : Nat} {vp : Nat → Option Addr} {vn vc : Nat → Nat} (h : Fam w B L m vp vn vc) (hf : Fr m vp w wr) (i : Nat) (hi : i < m) : wr.cell? ⟨L, i, none⟩ = some (.slice (vp i) (vn i) (vc i)) :=
  (World.cell?_of_block (w := w) (w' := wr) (a := ⟨L, i, none⟩) (h.block_L hf)).trans (h.list i hi)
theorem Mark.store {w wr : World} {B L m : Nat} {vp : Nat → Option Addr} {vn vc : Nat → Nat} {i k : Nat} (hF : Fam w B L m vp vn vc) (h : Mark w wr B m vp vn vc i k) (hi : i < m) (hk : k < vn i) :
    ∃ g, vp i = some ⟨g, 0, none⟩ ∧ wr.there g (k * 32) 32 ∧ Mark w (wr.setCells g (k * 32) (U8 (m1 i))) B m vp vn vc i (k + 1) := by
  obtain ⟨xs, hx, _, hx2⟩ := h.rows i hi
  rcases own_atV hx with ⟨_, h0⟩ | ⟨g, cs, hg, hB, hh⟩
  · omega
  · refine ⟨g, hg, ?_⟩
    rw [hg] at hx
    have hl := hx.1
    have hb := (own_blk hx).1
    have hnc := (own_blk hx).2.1
    refine ⟨hb.there _ _ (by have : vn i * 32 ≤ vc i * 32 := Nat.mul_le_mul_right _ hnc; omega), ?_⟩
    have hM : (U8 (m1 i)).length = 32 := by rw [U8_length, m1_len]
    have hsuc := repV_succ k (m1 i)
    obtain ⟨M, hMM⟩ : ∃ M, M = U8 (m1 i) := ⟨_, rfl⟩
    rw [← hMM] at hM hsuc ⊢
    clear hMM
    have hst := own_set hx (k * 32) M (by omega)
    refine ⟨⟨h.fr.os.symm ▸ hst.2.os, h.fr.tape.symm ▸ hst.2.tape, h.fr.output.symm ▸ hst.2.output, Nat.le_trans h.fr.size hst.2.size, fun q hq hn => ?_⟩, fun j hj => ?_⟩
    · rw [hst.2.block q (Nat.lt_of_lt_of_le hq h.fr.size) (fun e => by simp only [Option.some.injEq] at e; exact hn i _ hi hg e.symm)]
      exact h.fr.block q hq hn
    · by_cases e : j = i
      · subst e
        refine ⟨_, by rw [hg]; exact hst.1, fun h => absurd h (Nat.lt_irrefl _), fun _ => ?_⟩
        have h1 : (xs.take (k * 32)).length = k * 32 := by simp; omega
        have h2 : (xs.take (k * 32) ++ M).length = (k + 1) * 32 := by rw [List.length_append, h1, hM]; omega
        rw [List.take_append_of_le_length (by omega), List.take_of_length_le (by omega), hx2 rfl, hsuc]
      · obtain ⟨ys, hy, hy1, hy2⟩ := h.rows j hj
        refine ⟨ys, hy.kept hst.2 ?_, hy1, fun e2 => absurd e2 e⟩
        cases hp : vp j with
        | none => left; rfl
        | some b =>
          right
          have := hF.apart j i b _ hj hi e hp hg
          simpa [Value.ownBlock] using this
theorem Mark.next {w wr : World} {B m : Nat} {vp : Nat → Option Addr} {vn vc : Nat → Nat} {i k : Nat} (h : Mark w wr B m vp vn vc i k) (hk : vn i ≤ k) : Mark w wr B m vp vn vc (i + 1) 0 := by
  refine ⟨h.fr, fun j hj => ?_⟩
  obtain ⟨xs, hx, hx1, hx2⟩ := h.rows j hj
  refine ⟨xs, hx, fun hlt => ?_, fun e => by simp [repV, VC]⟩
  by_cases e : j = i
  · subst e
    have hl := hx.1
    have := hx2 rfl
    rw [List.take_of_length_le (by rw [hl]; exact Nat.mul_le_mul_right _ hk)] at this
    have hk2 : k = vn j := by have h2 := congrArg List.length this; rw [hl, repV_len _ (m1_len j)] at h2; omega
    rw [this, hk2]
  · exact hx1 (by omega)
/-- an entry of 'longer': where it lies, and that it is watched -/
def Entry (wr : World) (m : Nat) (vp : Nat → Option Addr) (vn : Nat → Nat) (i : Nat) (r : Option Nat) (cur q : Nat) (v : Value) : Prop :=
  ∃ b len cap, v = .slice (some ⟨b, 0, none⟩) len cap ∧ vn (q / 17) ≤ len ∧ len ≤ 1000 ∧ Watch wr r cur b (vn (q / 17)) len (m2 (q / 17)) ∧ ∀ j a, i ≤ j → j < m → vp j = some a → a.block ≠ b
/-- phase 2: the lists from i on are rows of their own still; r: the block of the list that grows, cur: how many it holds; V: 'longer', its entries LL -/
structure Grow (w wr : World) (B m : Nat) (vp : Nat → Option Addr) (vn vc : Nat → Nat) (i : Nat) (r : Option Nat) (cur : Nat) (V : Value) (LL : List Value) : Prop where
  fr : Fr m vp w wr
  base : B ≤ wr.heap.size
  rows : ∀ j a, j < m → vp j = some a → Watch wr r cur a.block 0 (vn j) (m1 j)
  todo : ∀ j, i ≤ j → j < m → ∃ xs, wr.ownsRow B 23 32 (.slice (vp j) (vn j) (vc j)) (vn j) xs
  long : wr.ownsRow w.heap.size 41 1 V LL.length LL
  entry : ∀ q (h : q < LL.length), Entry wr m vp vn i r cur q LL[q]
theorem Mark.grow {w wr : World} {B m : Nat} {vp : Nat → Option Addr} {vn vc : Nat → Nat} (h : Mark w wr B m vp vn vc m 0) (hB : B ≤ w.heap.size) : Grow w wr B m vp vn vc 0 none 0 (.slice none 0 0) [] := by
  refine ⟨h.fr, Nat.le_trans hB h.fr.size, fun j a hj ha => ?_, fun j _ hj => ?_, World.ownsRow_nil _ _ _ _, fun q h => absurd h (Nat.not_lt_zero _)⟩
  · obtain ⟨xs, hx, hx1, _⟩ := h.rows j hj
    have hx1 := hx1 hj
    subst hx1
    rcases own_atV hx with ⟨h1, _⟩ | ⟨g, cs, h1, _, hg⟩
    · rw [ha] at h1; cases h1
    · rw [ha] at h1
      simp only [Option.some.injEq] at h1
      subst h1
      refine ⟨⟨cs, hg⟩, fun k _ hk => ?_, (fun e => by cases e), m1_len j⟩
      rw [ha] at hx
      refine own_range_part hx fun l v hv => ?_
      have hl : l < 32 := by have := (List.getElem?_eq_some_iff.1 hv).1; rwa [U8_length, m1_len] at this
      rw [repV_at _ _ _ (m1_len j) hk hl]
      exact hv
  · obtain ⟨xs, hx, _⟩ := h.rows j hj
    exact ⟨xs, hx⟩
theorem Entry.same {wr w' : World} {m : Nat} {vp : Nat → Option Addr} {vn : Nat → Nat} {i i' : Nat} {r r' : Option Nat} {cur cur' q : Nat} {v : Value} (h : Entry wr m vp vn i r cur q v) (hi : i ≤ i')
    (hs : ∀ b lo hi x, Watch wr r cur b lo hi x → Watch w' r' cur' b lo hi x) : Entry w' m vp vn i' r' cur' q v := by
  obtain ⟨b, len, cap, e, h1, h2, h3, h4⟩ := h
  exact ⟨b, len, cap, e, h1, h2, hs _ _ _ _ h3, fun j a hj => h4 j a (Nat.le_trans hi hj)⟩
/-- a new block -/
theorem Grow.alloc {w wr : World} {B m : Nat} {vp : Nat → Option Addr} {vn vc : Nat → Nat} {i : Nat} {r : Option Nat} {cur : Nat} {V : Value} {LL : List Value} (h : Grow w wr B m vp vn vc i r cur V LL) (o : Obj) : Grow w (wr.alloc o) B m vp vn vc i r cur V LL := by
  have hw : ∀ b lo hi x, Watch wr r cur b lo hi x → Watch (wr.alloc o) r cur b lo hi x := fun b lo hi x hx => hx.same (Below.heap_alloc wr o b hx.lt) hx.ahead
  refine ⟨⟨h.fr.os, h.fr.tape, h.fr.output, Nat.le_trans h.fr.size (by simp), fun k hk hn => ?_⟩, Nat.le_trans h.base (by simp), fun j a hj ha => hw _ _ _ _ (h.rows j a hj ha), fun j h1 h2 => ?_, h.long.alloc o, fun q hq => (h.entry q hq).same (Nat.le_refl _) hw⟩
  · rw [Below.heap_alloc wr o k (Nat.lt_of_lt_of_le hk h.fr.size)]
    exact h.fr.block k hk hn
  · obtain ⟨xs, hx⟩ := h.todo j h1 h2
    exact ⟨xs, hx.alloc o⟩
/-- list i begins to grow: its value is x, which owns its row -/
theorem Grow.begin {w wr : World} {B m : Nat} {vp : Nat → Option Addr} {vn vc : Nat → Nat} {i : Nat} {V : Value} {LL : List Value} {L : Nat} (hF : Fam w B L m vp vn vc) (h : Grow w wr B m vp vn vc i none 0 V LL) (hi : i < m) :
    Grow w wr B m vp vn vc (i + 1) (Value.slice (vp i) (vn i) (vc i)).ownBlock (vn i) V LL ∧ (∃ xs, wr.ownsRow B 23 32 (.slice (vp i) (vn i) (vc i)) (vn i) xs) ∧
      (∀ j a, i + 1 ≤ j → j < m → vp j = some a → (Value.slice (vp i) (vn i) (vc i)).ownBlock ≠ some a.block) := by
  have hb : ∀ a, vp i = some a → (Value.slice (vp i) (vn i) (vc i)).ownBlock = some a.block := fun a ha => by rw [ha]; rfl
  have hbn : ∀ g, (Value.slice (vp i) (vn i) (vc i)).ownBlock = some g → ∃ a, vp i = some a ∧ a.block = g := by
    intro g hg
    cases hp : vp i with
    | none => rw [hp] at hg; cases hg
    | some a => rw [hp] at hg; exact ⟨a, rfl, by simpa [Value.ownBlock] using hg⟩
  refine ⟨⟨h.fr, h.base, fun j a hj ha => ?_, fun j h1 h2 => h.todo j (by omega) h2, h.long, fun q hq => ?_⟩, h.todo i (Nat.le_refl _) hi, fun j a h1 h2 ha e => ?_⟩
  · have hx := h.rows j a hj ha
    refine hx.same rfl fun e => ?_
    obtain ⟨b, hb1, hb2⟩ := hbn _ e
    by_cases hji : j = i
    · subst hji; exact Nat.le_refl _
    · exact absurd hb2.symm (hF.apart j i a b hj hi hji ha hb1)
  · obtain ⟨b, len, cap, e, h1, h2, h3, h4⟩ := h.entry q hq
    refine ⟨b, len, cap, e, h1, h2, h3.same rfl fun e => ?_, fun j a hj => h4 j a (by omega)⟩
    obtain ⟨a, ha, hb2⟩ := hbn _ e
    exact absurd hb2 (h4 i a (Nat.le_refl _) hi ha)
  · obtain ⟨b, hb1, hb2⟩ := hbn _ e
    exact hF.apart i j b a hi h2 (by omega) hb1 ha hb2
/-- the list that grows: its row is one of the call's own, or one of the lists', and none that is still to come -/
structure Own (w wr : World) (B m : Nat) (vp : Nat → Option Addr) (i : Nat) (r : Option Nat) : Prop where
  far : ∀ j a, i ≤ j → j < m → vp j = some a → r ≠ some a.block
  kind : ∀ k, r = some k → (∃ cs, wr.heap[k]? = some (.cells cs 23 (0, 0))) ∧ B ≤ k
  whose : ∀ k, r = some k → w.heap.size ≤ k ∨ ∃ j a, j < m ∧ vp j = some a ∧ a.block = k
/-- the list that grows has grown by one -/
theorem Grow.append {w wr w' : World} {B L m : Nat} {vp : Nat → Option Addr} {vn vc : Nat → Nat} {i : Nat} {r : Option Nat} {cur : Nat} {V : Value} {LL : List Value} {g cap : Nat} {xs : List Value}
    (hF : Fam w B L m vp vn vc) (h : Grow w wr B m vp vn vc i r cur V LL) (ho : Own w wr B m vp i r)
    (hown : w'.ownsRow B 23 32 (.slice (some ⟨g, 0, none⟩) (cur + 1) cap) (cur + 1) xs) (hgrow : wr.grownBy w' r) (hat : r = some g ∨ g = wr.heap.size)
    (hkeep : ∀ k, r = some k → (∃ cs, w'.heap[k]? = some (.cells cs 23 (0, 0))) ∧ ∀ j, j < cur * 32 → w'.cell? ⟨k, j, none⟩ = wr.cell? ⟨k, j, none⟩) :
    Grow w w' B m vp vn vc i (some g) (cur + 1) V LL ∧ Own w w' B m vp i (some g) := by
  have hg5 : (∃ cs, w'.heap[g]? = some (.cells cs 23 (0, 0))) ∧ B ≤ g := by
    rcases own_atV hown with ⟨h1, _⟩ | ⟨g', cs, h1, hb, hg⟩
    · cases h1
    · simp only [Option.some.injEq, Addr.mk.injEq, and_true] at h1
      subst h1
      exact ⟨⟨cs, hg⟩, hb⟩
  have hw : ∀ b lo hi x, Watch wr r cur b lo hi x → Watch w' (some g) (cur + 1) b lo hi x := by
    intro b lo hi x hx
    by_cases e : r = some b
    · have hle := hx.ahead e
      refine ⟨(hkeep b e).1, fun k h1 h2 => ?_, (fun _ => by omega), hx.len⟩
      intro l v hv
      have hc := hx.cells k h1 h2 l v hv
      by_cases hl : k * 32 + l < cur * 32
      · rw [(hkeep b e).2 _ hl]; exact hc
      · have := (List.getElem?_eq_some_iff.1 hv).1
        rw [U8_length, hx.len] at this
        omega
    · refine hx.same (hgrow.block b hx.lt (fun e2 => e e2.symm)) fun e2 => ?_
      simp only [Option.some.injEq] at e2
      subst e2
      rcases hat with hat | hat
      · exact absurd hat e
      · have := hx.lt; omega
  have hlow : ∀ j a, j < m → vp j = some a → a.block < w.heap.size := by
    intro j a hj ha
    obtain ⟨xs, hx⟩ := hF.rows j hj
    rcases own_atV hx with ⟨h1, _⟩ | ⟨g', cs, h1, _, hg⟩
    · rw [ha] at h1; cases h1
    · rw [ha] at h1
      simp only [Option.some.injEq] at h1
      subst h1
      exact (Array.getElem?_eq_some_iff.1 hg).1
  have hsz := h.fr.size
  refine ⟨⟨⟨hgrow.os.trans h.fr.os, hgrow.tape.trans h.fr.tape, hgrow.output.trans h.fr.output, Nat.le_trans h.fr.size hgrow.size, fun k hk hn => ?_⟩, Nat.le_trans h.base hgrow.size, fun j a hj ha => hw _ _ _ _ (h.rows j a hj ha), fun j h1 h2 => ?_, ?_, fun q hq => (h.entry q hq).same (Nat.le_refl _) hw⟩, ⟨fun j a h1 h2 ha e => ?_, fun k e => ?_, fun k e => ?_⟩⟩
  · rw [hgrow.block k (Nat.lt_of_lt_of_le hk hsz) fun e => ?_]
    · exact h.fr.block k hk hn
    · rcases ho.whose k e.symm with hw1 | ⟨j, a, h1, h2, h3⟩
      · omega
      · exact hn j a h1 h2 h3
  · obtain ⟨ys, hy⟩ := h.todo j h1 h2
    refine ⟨ys, hy.kept hgrow ?_⟩
    cases hp : vp j with
    | none => left; rfl
    | some a => right; exact fun e => ho.far j a h1 h2 hp e.symm
  · refine h.long.kept hgrow ?_
    cases hv : V.ownBlock with
    | none => left; rfl
    | some k =>
      right
      intro e
      obtain ⟨cs, hcs⟩ := (ho.kind k e.symm).1
      rcases h.long.2 with ⟨h1, _⟩ | ⟨gV, capV, curV, h1, _, hgV, _⟩
      · rw [h1] at hv; cases hv
      · rw [h1] at hv
        simp only [Value.ownBlock, Option.some.injEq] at hv
        subst hv
        rw [hcs] at hgV
        simp at hgV
  · simp only [Option.some.injEq] at e
    rcases hat with hat | hat
    · rw [e] at hat
      exact ho.far j a h1 h2 ha hat
    · have := hlow j a h2 ha
      omega
  · simp only [Option.some.injEq] at e
    subst e
    exact hg5
  · simp only [Option.some.injEq] at e
    subst e
    rcases hat with hat | hat
    · exact ho.whose g hat
    · left; omega
/-- 'longer' has got one entry more: the list that grows, as it is now -/
theorem Grow.enter {w wr w' : World} {B m : Nat} {vp : Nat → Option Addr} {vn vc : Nat → Nat} {i : Nat} {g cap cur : Nat} {V V' : Value} {LL xs : List Value}
    (h : Grow w wr B m vp vn vc (i + 1) (some g) cur V LL) (ho : Own w wr B m vp (i + 1) (some g)) (hx : wr.ownsRow B 23 32 (.slice (some ⟨g, 0, none⟩) cur cap) cur (xs ++ repV (cur - vn i) (m2 i))) (hxl : xs.length = vn i * 32) (hcur : vn i ≤ cur) (hbig : cur ≤ 1000)
    (hq : LL.length / 17 = i) (hown : w'.ownsRow w.heap.size 41 1 V' (LL.length + 1) (LL ++ [.slice (some ⟨g, 0, none⟩) cur cap])) (hgrow : wr.grownBy w' V.ownBlock) :
    Grow w w' B m vp vn vc (i + 1) (some g) cur V' (LL ++ [.slice (some ⟨g, 0, none⟩) cur cap]) ∧ Own w w' B m vp (i + 1) (some g) ∧ w'.ownsRow B 23 32 (.slice (some ⟨g, 0, none⟩) cur cap) cur (xs ++ repV (cur - vn i) (m2 i)) := by
  have hne : ∀ b, (∃ cs, wr.heap[b]? = some (.cells cs 23 (0, 0))) → some b ≠ V.ownBlock := by
    rintro b ⟨cs, hcs⟩ e
    rcases h.long.2 with ⟨h1, _⟩ | ⟨gV, capV, curV, h1, _, hgV, _⟩
    · rw [h1] at e; cases e
    · rw [h1] at e
      simp only [Value.ownBlock, Option.some.injEq] at e
      subst e
      rw [hcs] at hgV
      simp at hgV
  have hw : ∀ b lo hi x, Watch wr (some g) cur b lo hi x → Watch w' (some g) cur b lo hi x := fun b lo hi x hx => hx.same (hgrow.block b hx.lt (hne b hx.block)) hx.ahead
  have hsz := h.fr.size
  have hgk := ho.kind g rfl
  have hx' : w'.ownsRow B 23 32 (.slice (some ⟨g, 0, none⟩) cur cap) cur (xs ++ repV (cur - vn i) (m2 i)) := hx.kept hgrow (.inr (hne g hgk.1))
  refine ⟨⟨⟨hgrow.os.trans h.fr.os, hgrow.tape.trans h.fr.tape, hgrow.output.trans h.fr.output, Nat.le_trans h.fr.size hgrow.size, fun k hk hn => ?_⟩, Nat.le_trans h.base hgrow.size, fun j a hj ha => hw _ _ _ _ (h.rows j a hj ha), fun j h1 h2 => ?_, by simpa using hown, fun q hq2 => ?_⟩, ⟨ho.far, fun k e => ?_, ho.whose⟩, hx'⟩
  · rw [hgrow.block k (Nat.lt_of_lt_of_le hk hsz) fun e => by have := (h.long.lt k e.symm).1; omega]
    exact h.fr.block k hk hn
  · obtain ⟨ys, hy⟩ := h.todo j h1 h2
    refine ⟨ys, hy.kept hgrow ?_⟩
    rcases own_atV hy with ⟨h3, _⟩ | ⟨g', cs, h3, _, hg'⟩
    · left; rw [h3]; rfl
    · right; rw [h3]; exact hne g' ⟨cs, hg'⟩
  · by_cases hlt : q < LL.length
    · rw [List.getElem_append_left hlt]
      exact (h.entry q hlt).same (Nat.le_refl _) hw
    · have hql : q = LL.length := by simp at hq2; omega
      subst hql
      rw [List.getElem_append_right (Nat.le_refl _)]
      simp only [Nat.sub_self, List.getElem_cons_zero]
      refine ⟨g, cur, cap, rfl, by rw [hq]; exact hcur, hbig, ?_, fun j a h1 h2 ha e => ho.far j a h1 h2 ha (by rw [e])⟩
      rw [hq]
      refine ⟨(hgk.1).elim fun cs hcs => ⟨cs, (hgrow.block g (Array.getElem?_eq_some_iff.1 hcs).1 (hne g hgk.1)).trans hcs⟩, fun k h1 h2 => ?_, fun _ => Nat.le_refl _, m2_len i⟩
      refine own_range_part hx' fun l v hv => ?_
      have hl : l < 32 := by have := (List.getElem?_eq_some_iff.1 hv).1; rwa [U8_length, m2_len] at this
      rw [List.getElem?_append_right (by omega), hxl, show k * 32 + l - vn i * 32 = (k - vn i) * 32 + l by omega, repV_at _ _ _ (m2_len i) (by omega) hl]
      exact hv
  · simp only [Option.some.injEq] at e
    subst e
    exact ⟨hgk.1.elim fun cs hcs => ⟨cs, (hgrow.block g (Array.getElem?_eq_some_iff.1 hcs).1 (hne g hgk.1)).trans hcs⟩, hgk.2⟩
theorem Fam.shape {w : World} {B L m : Nat} {vp : Nat → Option Addr} {vn vc : Nat → Nat} (h : Fam w B L m vp vn vc) (i : Nat) (hi : i < m) (h0 : 0 < vn i) : ∃ g, vp i = some ⟨g, 0, none⟩ := by
  obtain ⟨xs, hx⟩ := h.rows i hi
  rcases own_atV hx with ⟨_, h2⟩ | ⟨g, cs, h1, _, _⟩
  · omega
  · exact ⟨g, h1⟩
theorem Own.begin {w wr : World} {B m : Nat} {vp : Nat → Option Addr} {vn vc : Nat → Nat} {i : Nat} {xs : List Value} (hi : i < m) (hx : wr.ownsRow B 23 32 (.slice (vp i) (vn i) (vc i)) (vn i) xs)
    (hfar : ∀ j a, i + 1 ≤ j → j < m → vp j = some a → (Value.slice (vp i) (vn i) (vc i)).ownBlock ≠ some a.block) : Own w wr B m vp (i + 1) (Value.slice (vp i) (vn i) (vc i)).ownBlock := by
  rcases own_atV hx with ⟨h1, _⟩ | ⟨g, cs, h1, hb, hg⟩
  · refine ⟨hfar, fun k e => ?_, fun k e => ?_⟩ <;> rw [h1] at e <;> cases e
  · refine ⟨hfar, fun k e => ?_, fun k e => ?_⟩ <;> rw [h1] at e <;> simp only [Value.ownBlock, Option.some.injEq] at e <;> subst e
    · exact ⟨⟨cs, hg⟩, hb⟩
    · exact .inr ⟨i, _, hi, h1, rfl⟩
theorem Own.alloc {w wr : World} {B m : Nat} {vp : Nat → Option Addr} {i : Nat} {r : Option Nat} (h : Own w wr B m vp i r) (o : Obj) : Own w (wr.alloc o) B m vp i r := by
  refine ⟨h.far, fun k e => ?_, h.whose⟩
  obtain ⟨⟨cs, hcs⟩, hb⟩ := h.kind k e
  exact ⟨⟨cs, (Below.heap_alloc wr o k (Array.getElem?_eq_some_iff.1 hcs).1).trans hcs⟩, hb⟩
/-- the next list -/
theorem Grow.next {w wr : World} {B m : Nat} {vp : Nat → Option Addr} {vn vc : Nat → Nat} {i : Nat} {r : Option Nat} {cur : Nat} {V : Value} {LL : List Value} (h : Grow w wr B m vp vn vc i r cur V LL) : Grow w wr B m vp vn vc i none 0 V LL := by
  have hw : ∀ b lo hi x, Watch wr r cur b lo hi x → Watch wr none 0 b lo hi x := fun b lo hi x hx => hx.same rfl fun e => by cases e
  exact ⟨h.fr, h.base, fun j a hj ha => hw _ _ _ _ (h.rows j a hj ha), h.todo, h.long, fun q hq => (h.entry q hq).same (Nat.le_refl _) hw⟩
end V
end Go.Proofs.YtpenddnmmfpdjaaDoor
