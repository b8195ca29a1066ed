/-
  Layer 5: how lists of numbers lie; laws for append.
-/
import Derived.WalkKit
import Derived.WalkSpells
import Derived.WalkLawsBesides
import Derived.Maps.AppendAt
import Derived.Laws.AppendOwn
import Derived.Laws.AppendOwnNone
import Derived.Deep.AppendLies
import Derived.BigQuiet
import Derived.Test.YthgkdpniaednaaaIa
import Derived.Test.YthgkdpniaednaaaBMath
namespace Go.Proofs.Ythgkdpniaednaaa.B
open Go.RowKit
theorem info3 : (Try.prog.info? 3).map (fun i => (i.zero, i.size, i.bytes)) = some (some (.int .i64 0), 1, 8) := by kernel_rfl
abbrev I64 (xs : List Int) : List Value := xs.map (Value.int .i64)
theorem I64_length (xs : List Int) : (I64 xs).length = xs.length := by simp
theorem ones_i64 (xs : List Int) : ∀ v ∈ I64 xs, v.oneCell' = true := by
  intro u hu; obtain ⟨x, _, rfl⟩ := List.mem_map.1 hu; rfl
theorem one_i64 (x : Int) : ∀ u ∈ [Value.int .i64 x], u.oneCell' = true := by
  intro u hu; obtain rfl := List.mem_singleton.1 hu; rfl
/-- how a []int lies that is read -/
structure IIn (w : World) (p : Option Addr) (n : Nat) (xs : List Int) : Prop where
  len : xs.length = n
  cells : 0 < n → ∃ b o, p = some ⟨b, o, none⟩ ∧ ∀ i, i < n → w.cell? ⟨b, o + i, none⟩ = some (.int .i64 (xs.getD i 0))
theorem IIn.lt {w : World} {a : Addr} {n : Nat} {xs : List Int} (h : IIn w (some a) n xs) (h0 : 0 < n) : a.block < w.heap.size := by
  obtain ⟨b, o, e, hc⟩ := h.cells h0
  simp only [Option.some.injEq] at e
  subst e
  exact World.block_lt_of_cell? w _ (hc 0 h0)
theorem IIn.later {w w' : World} {p : Option Addr} {n : Nat} {xs : List Int} (h : IIn w p n xs) (hb : Below w.heap.size w w') : IIn w' p n xs := by
  refine ⟨h.len, fun h0 => ?_⟩
  obtain ⟨b, o, rfl, hc⟩ := h.cells h0
  refine ⟨b, o, rfl, fun i hi => ?_⟩
  rw [hb.cell (p := ⟨b, o + i, none⟩) (h.lt h0)]
  exact hc i hi
theorem IIn.drawn {w : World} {p : Option Addr} {n : Nat} {xs : List Int} (h : IIn w p n xs) (j : Nat) : IIn (w.drewN j) p n xs := ⟨h.len, h.cells⟩
/-- behind a call that turns one block alone, and not this one -/
theorem IIn.grown {w w' : World} {p : Option Addr} {n : Nat} {xs : List Int} {row : Option Nat} (h : IIn w p n xs) (hg : w.grownBy w' row) (hne : ∀ a, p = some a → 0 < n → row ≠ some a.block) : IIn w' p n xs := by
  refine ⟨h.len, fun h0 => ?_⟩
  obtain ⟨b, o, rfl, hc⟩ := h.cells h0
  refine ⟨b, o, rfl, fun i hi => ?_⟩
  rw [World.cell?_of_block (w := w) (a := ⟨b, o + i, none⟩) (hg.block b (h.lt h0) (fun e => hne _ rfl h0 e.symm))]
  exact hc i hi
theorem IIn.news {w : World} {a : Addr} {n : Nat} {xs : List Int} (h : IIn w (some a) n xs) : ∀ j u, (I64 xs)[j]? = some u → w.cell? (a.add j) = some u := by
  intro j u hj
  have hjn : j < xs.length := by
    have := (List.getElem?_eq_some_iff.1 hj).1
    simpa using this
  obtain ⟨b, o, e, hc⟩ := h.cells (by have := h.len; omega)
  simp only [Option.some.injEq] at e
  subst e
  rw [Go.WideShapes.add_plain, hc j (by have := h.len; omega), ← hj]
  simp [List.getD, List.getElem?_eq_getElem hjn]
theorem IIn.newsAny {w : World} {p : Option Addr} {n : Nat} {xs : List Int} (h : IIn w p n xs) : ∀ ad, p = some ad → ∀ j u, (I64 xs)[j]? = some u → w.cell? (ad.add j) = some u := by
  intro ad e
  subst e
  exact h.news
theorem getD_drop {xs : List Int} {k i : Nat} : (xs.drop k).getD i 0 = xs.getD (k + i) 0 := by simp [List.getD]
theorem IIn.nil (w : World) (p : Option Addr) : IIn w p 0 [] := ⟨rfl, fun h => absurd h (Nat.lt_irrefl 0)⟩
/-- a literal's block -/
theorem lit_in (w : World) (xs : List Int) (n : Nat) (hl : xs.length = n) : IIn (w.alloc (.cells (I64 xs).toArray 3)) (some ⟨w.heap.size, 0, none⟩) n xs := by
  refine ⟨hl, fun h0 => ⟨_, 0, rfl, fun i hi => ?_⟩⟩
  rw [Nat.zero_add, cell_of_row _ w.heap.size i (I64 xs).toArray 3 (0, 0) (heap_alloc_new w _)]
  simp [I64, List.getD, List.getElem?_eq_getElem (show i < xs.length by omega)]
theorem own_later {w w' : World} {base : Nat} {e : TypeId} {size : Nat} {v : Value} {n : Nat} {xs : List Value} (h : w.ownsRow base e size v n xs) (hb : Below w.heap.size w w') : w'.ownsRow base e size v n xs := by
  refine ⟨h.1, ?_⟩
  rcases h.2 with hn | ⟨g, cap, cur, rfl, h1, hg, rest⟩
  · exact .inl hn
  · exact .inr ⟨g, cap, cur, rfl, h1, (hb.block g (Array.getElem?_eq_some_iff.1 hg).1).trans hg, rest⟩
theorem own_mono {w : World} {base base' : Nat} {e : TypeId} {size : Nat} {v : Value} {n : Nat} {xs : List Value} (h : w.ownsRow base e size v n xs) (hb : base' ≤ base) : w.ownsRow base' e size v n xs := by
  refine ⟨h.1, ?_⟩
  rcases h.2 with hn | ⟨g, cap, cur, rfl, h1, rest⟩
  · exact .inl hn
  · exact .inr ⟨g, cap, cur, rfl, Nat.le_trans hb h1, rest⟩
theorem ints_in {w : World} {base : Nat} {v : Value} {n : Nat} {xs : List Int} (h : w.ownsRow base 3 1 v n (I64 xs)) : ∃ p c, v = .slice p n c ∧ IIn w p n xs ∧ n ≤ c ∧ (p = none → c = 0) ∧ (∀ a, p = some a → base ≤ a.block ∧ a.block < w.heap.size) := by
  have hl : xs.length = n := by have := h.1; simpa [I64] using this
  rcases h.2 with ⟨rfl, rfl⟩ | ⟨g, cap, cur, rfl, h1, hg, hnc, hcm, hsz, htake⟩
  · exact ⟨none, 0, rfl, ⟨hl, fun h0 => absurd h0 (Nat.lt_irrefl 0)⟩, Nat.le_refl _, fun _ => rfl, fun a e => by cases e⟩
  · refine ⟨_, cap, rfl, ⟨hl, fun h0 => ⟨g, 0, rfl, fun i hi => ?_⟩⟩, hnc, (fun e => by cases e), fun a e => ?_⟩
    · have := h.cellAt i (by omega)
      rw [Nat.zero_add, this]
      simp [I64, List.getD, List.getElem?_eq_getElem (show i < xs.length by omega)]
    · simp only [Option.some.injEq] at e
      subst e
      exact ⟨h1, (Array.getElem?_eq_some_iff.1 hg).1⟩
/-- a []int that a call has made: a row of its own in new memory; nothing that lay before has turned -/
structure Made (w w' : World) (p : Option Addr) (n c : Nat) (xs : List Int) : Prop where
  own : w'.ownsRow w.heap.size 3 1 (.slice p n c) n (I64 xs)
  below : Below w.heap.size w w'
theorem Made.read {w w' : World} {p : Option Addr} {n c : Nat} {xs : List Int} (h : Made w w' p n c xs) : IIn w' p n xs := by
  obtain ⟨p', c', e, hI, _⟩ := ints_in h.own
  simp only [Value.slice.injEq] at e
  obtain ⟨rfl, _, rfl⟩ := e
  exact hI
theorem Made.room {w w' : World} {p : Option Addr} {n c : Nat} {xs : List Int} (h : Made w w' p n c xs) : n ≤ c ∧ (p = none → c = 0) := by
  obtain ⟨p', c', e, _, h1, h2, _⟩ := ints_in h.own
  simp only [Value.slice.injEq] at e
  obtain ⟨rfl, _, rfl⟩ := e
  exact ⟨h1, h2⟩
theorem Made.len {w w' : World} {p : Option Addr} {n c : Nat} {xs : List Int} (h : Made w w' p n c xs) : xs.length = n := h.read.len
theorem made_of {w w' : World} {v : Value} {n : Nat} {xs : List Int} (h : w'.ownsRow w.heap.size 3 1 v n (I64 xs)) (hb : Below w.heap.size w w') : ∃ p c, v = .slice p n c ∧ Made w w' p n c xs := by
  obtain ⟨p, c, rfl, _⟩ := ints_in h
  exact ⟨p, c, rfl, h, hb⟩
theorem made_nil (w : World) {w' : World} (hb : Below w.heap.size w w') : Made w w' none 0 0 [] := ⟨World.ownsRow_nil _ _ _ _, hb⟩
section
variable {P : Program} (w : World)
/-- 'append' onto a slice that the call owns, elements of one cell: the first n cells of the old row are as they were, whether it grew or not. -/
theorem append_keeps (t ty : TypeId) (base : Nat) (e : TypeId) (i : TypeInfo) (z : Value) (bytes : Nat) (ht : P.underlying t = some (.slice e)) (hi : P.info? e = some i) (hz : i.zero = some z)
    (hsize : i.size = 1) (hby : i.bytes = bytes) (v : Value) (n : Nat) (xs : List Value) (hown : w.ownsRow base e 1 v n xs)
    (ad : Addr) (m c : Nat) (news : List Value) (hl : news.length = m * 1) (hnews : ∀ j u, news[j]? = some u → w.cell? (ad.add j) = some u) (h1 : ∀ u ∈ news, u.oneCell' = true)
    (h63 : n + m ≤ maxLen) (hbytes : (n + m) * bytes ≤ 140737488355328) (v' : Value) (w' : World) (hrun : (Builtin.append_ #[t, t] ty #[v, .slice (some ad) m c]).run P w = .ok v' w') :
    ∀ g, v.ownBlock = some g → (∃ cs, w'.heap[g]? = some (.cells cs e (0, 0))) ∧ ∀ j, j < n → w'.cell? ⟨g, j, none⟩ = w.cell? ⟨g, j, none⟩ := by
  intro g0 hg0
  have hsmall : n + m ≤ 9223372036854775807 := by simp only [maxLen] at h63; omega
  rcases hown.2 with ⟨rfl, rfl⟩ | ⟨g, cap, cur, rfl, hbg, hg, hnc, hcm, hcs, htake⟩
  · cases hg0
  · obtain rfl : g = g0 := by simpa [Value.ownBlock] using hg0
    by_cases hroom : n + m ≤ cap
    · have hfit : n * i.size + news.length ≤ cur.size := by rw [hl, hcs, hsize]; omega
      have hr := run_append_room (P := P) w t ty e i ht hi g n cap cur hg ad m c news (by rw [hsize]; exact hl) hnews h1 hroom hfit
      rw [hr] at hrun
      simp only [Result.ok.injEq] at hrun
      rw [← hrun.2]
      refine ⟨⟨_, setRow_heap w g cur _ e _ hg⟩, fun j hj => ?_⟩
      rw [cell_of_row _ g j _ e (0, 0) (setRow_heap w g cur _ e _ hg), cell_of_row w g j cur e (0, 0) hg]
      simp only [List.getElem?_toArray, hsize, Nat.mul_one]
      rw [List.append_assoc, List.getElem?_append_left (by simp; omega), List.getElem?_take, if_pos hj]
      simp
    · have holds : ∀ j u, xs[j]? = some u → w.cell? ((⟨g, 0, none⟩ : Addr).add j) = some u := hown.cells (g := g) rfl
      have hr := run_append_grow (P := P) w t ty e i z ht hi hz ⟨g, 0, none⟩ n cap xs (by rw [hsize]; exact hown.1) holds ad m c news (by rw [hsize]; exact hl) hnews (by omega) (by omega) (growslice_fits (by omega) (by rw [hby]; exact hbytes))
      rw [hr] at hrun
      simp only [Result.ok.injEq] at hrun
      rw [← hrun.2]
      have hlt := (Array.getElem?_eq_some_iff.1 hg).1
      have hbk := Below.heap_alloc w.drew (.cells (xs.toArray ++ news.toArray ++ Builtin.zeroCells z.cells (grownCap w (n + m) cap e - (n + m))) e) g hlt
      exact ⟨⟨cur, hbk.trans hg⟩, fun j hj => World.cell?_of_block (w := w) (a := ⟨g, j, none⟩) hbk⟩
/-- the law for the walk: what 'wpList_append_lies' leaves, and that the first n cells are kept -/
theorem wpList_append_kept {ops : Array Oper} {rest : List Oper} {o : Oper} {a : Act} {Q : Exit → Act → World → Prop} (hgd : o.guard = none) (s x : Operand) (t : TypeId)
    (ho : o.op = .call { callee := .builtin .append, args := #[s, x], argTypes := #[t, t] })
    (base : Nat) (e : TypeId) (i : TypeInfo) (z : Value) (bytes : Nat) (ht : P.underlying t = some (.slice e)) (hi : P.info? e = some i) (hz : i.zero = some z)
    (hsize : i.size = 1) (hby : i.bytes = bytes) (hzs : z.cells.size = 1)
    (v : Value) (n : Nat) (xs : List Value) (hs : a.eval s = v) (hown : w.ownsRow base e 1 v n xs)
    (ad : Addr) (m c : Nat) (news : List Value) (hx : a.eval x = .slice (some ad) m c) (hl : news.length = m * 1) (hnews : ∀ j u, news[j]? = some u → w.cell? (ad.add j) = some u) (h1 : ∀ u ∈ news, u.oneCell' = true)
    (hm : 0 < m) (h63 : n + m ≤ maxLen) (hbytes : (n + m) * bytes ≤ 140737488355328) (hbase : base ≤ w.heap.size)
    (h : ∀ g cap w', w'.ownsRow base e 1 (.slice (some ⟨g, 0, none⟩) (n + m) cap) (n + m) (xs ++ news) → w.grownBy w' v.ownBlock → (v.ownBlock = some g ∨ g = w.heap.size) → g < w'.heap.size →
      (∀ g, v.ownBlock = some g → (∃ cs, w'.heap[g]? = some (.cells cs e (0, 0))) ∧ ∀ j, j < n → w'.cell? ⟨g, j, none⟩ = w.cell? ⟨g, j, none⟩) → wpList P ops Q rest (a.put o.dst (.slice (some ⟨g, 0, none⟩) (n + m) cap)) w') : wpList P ops Q (o :: rest) a w := by
  refine wpList_plain hgd fun K hK => ?_
  obtain ⟨g, cap, w', hr, h2, h3, h4, h5⟩ := run_append_lies (P := P) w t o.type base e i z 1 bytes ht hi hz hsize hby hzs (by omega) v n xs hown ad m c news hl hnews h1 hm h63 hbytes hbase _ rfl
  have hk := append_keeps (P := P) w t o.type base e i z bytes ht hi hz hsize hby v n xs hown ad m c news hl hnews h1 h63 hbytes _ w' hr
  unfold Oper.wp
  simp [execOp, ho, resolve, invoke, builtin, hs, hx, hr, Result.andThen]
  exact hK _ _ (h g cap w' h2 h3 h4 h5 hk)
end
/-- 'append' of a list that may be nil onto one that the call owns -/
theorem wpList_append_any {P : Program} (w : World) {ops : Array Oper} {rest : List Oper} {o : Oper} {a : Act} {Q : Exit → Act → World → Prop} (hgd : o.guard = none) (s x : Operand) (t : TypeId)
    (ho : o.op = .call { callee := .builtin .append, args := #[s, x], argTypes := #[t, t] })
    (base : Nat) (e : TypeId) (i : TypeInfo) (z : Value) (bytes : Nat) (ht : P.underlying t = some (.slice e)) (hi : P.info? e = some i) (hz : i.zero = some z)
    (hsize : i.size = 1) (hby : i.bytes = bytes) (hzs : z.cells.size = 1)
    (v : Value) (n : Nat) (xs : List Value) (hs : a.eval s = v) (hown : w.ownsRow base e 1 v n xs)
    (p : Option Addr) (m c : Nat) (news : List Value) (hx : a.eval x = .slice p m c) (hp : p = none → c = 0) (hmc : m ≤ c) (hl : news.length = m) (hnews : ∀ ad, p = some ad → ∀ j u, news[j]? = some u → w.cell? (ad.add j) = some u) (h1 : ∀ u ∈ news, u.oneCell' = true)
    (h63 : n + m ≤ maxLen) (hbytes : (n + m) * bytes ≤ 140737488355328) (hbase : base ≤ w.heap.size)
    (h : ∀ v' w', w'.ownsRow base e 1 v' (n + m) (xs ++ news) → w.grownBy w' v.ownBlock → wpList P ops Q rest (a.put o.dst v') w') : wpList P ops Q (o :: rest) a w := by
  cases p with
  | some ad => exact wpList_append_own w hgd s x t ho base e i z 1 bytes ht hi hz hsize hby hzs (by omega) v n xs hs hown ad m c news hx (by omega) (hnews ad rfl) h1 h63 hbytes hbase fun v' w' a b _ => h v' w' a b
  | none =>
    obtain rfl := hp rfl
    obtain rfl : m = 0 := by omega
    obtain rfl : news = [] := List.eq_nil_of_length_eq_zero hl
    refine wpList_append_own_none hgd s x t ho base e i 1 ht hi v n xs hs hown hx ?_
    exact h v w (by simpa using hown) (World.grownBy.refl _ _)
end Go.Proofs.Ythgkdpniaednaaa.B
