/-
  What any walk over bytes wants: how a []byte lies, how parts lie, laws for append. (Our own texts of layer 1, written for this seat.)
-/
import Derived.Test.YtlidjenkicgldaaChecked
import Derived.Test.YtlidjenkicgldaaMath
import Derived.Below
import Derived.WalkKit
import Derived.WalkSpells
import Derived.WalkLawsBesides
import Derived.Deep.MidRow
import Derived.Deep.AppendLies
import Derived.Laws.BytesString
import Derived.Laws.BytesArg
import Derived.Laws.AppendOwn
import Derived.Laws.MakeOwn
import Derived.Laws.OwnMore
import Derived.Laws.AppendOwnNone
import Derived.Laws.CopyOwn
namespace Go.Proofs.Ytlidjenkicgldaa
open Go.RowKit

theorem flat_step {α : Type} (ls : List (List α)) (k : Nat) (hk : k < ls.length) : (ls.take (k + 1)).flatten = (ls.take k).flatten ++ ls[k] := by
  rw [List.take_succ_eq_append_getElem hk, List.flatten_append, List.flatten_cons, List.flatten_nil, List.append_nil]

theorem flat_len {α : Type} (ls : List (List α)) (k : Nat) : (ls.take k).flatten.length ≤ ls.flatten.length := by
  conv => rhs; rw [← List.take_append_drop k ls]
  rw [List.flatten_append, List.length_append]
  omega

theorem flat_all {α : Type} (ls : List (List α)) (k : Nat) (hk : ls.length ≤ k) : (ls.take k).flatten = ls.flatten := by rw [List.take_of_length_le hk]

/-- how many the first k lists hold -/
def flen {α : Type} (ls : List (List α)) (k : Nat) : Nat := (ls.take k).flatten.length

theorem flen_le {α : Type} (ls : List (List α)) (k : Nat) : flen ls k ≤ ls.flatten.length := flat_len ls k

theorem flen_step {α : Type} (ls : List (List α)) (k : Nat) (hk : k < ls.length) : flen ls (k + 1) = flen ls k + ls[k].length := by
  unfold flen; rw [flat_step ls k hk, List.length_append]

theorem flen_all {α : Type} (ls : List (List α)) (k : Nat) (hk : ls.length ≤ k) : flen ls k = ls.flatten.length := by unfold flen; rw [flat_all ls k hk]

theorem Bytes.flatten {ls : List (List Int)} (h : ∀ l ∈ ls, Bytes l) : Bytes ls.flatten := fun x hx => by
  obtain ⟨l, hl, hx⟩ := List.mem_flatten.1 hx
  exact h l hl x hx

theorem info5 : (Try.prog.info? 5).map (fun i => (i.zero, i.size, i.bytes)) = some (some (.int .u8 0), 1, 1) := by kernel_rfl

/-- how a []byte lies that is read: n bytes, the numbers xs; where there is none: whatever the address -/
structure BIn (w : World) (p : Option Addr) (n : Nat) (xs : List Int) : Prop where
  len : xs.length = n
  byte : Bytes xs
  cells : 0 < n → ∃ b o, p = some ⟨b, o, none⟩ ∧ ∀ i, i < n → w.cell? ⟨b, o + i, none⟩ = some (.int .u8 (xs.getD i 0))

abbrev U8 (xs : List Int) : List Value := xs.map (Value.int .u8)

theorem BIn.at {w : World} {a : Addr} {n : Nat} {xs : List Int} (h : BIn w (some a) n xs) : ∀ i, i < n → w.cell? (a.add i) = some (.int .u8 (xs.getD i 0)) := by
  intro i hi
  obtain ⟨b, o, e, hc⟩ := h.cells (by omega)
  simp only [Option.some.injEq] at e
  subst e
  rw [Go.WideShapes.add_plain]
  exact hc i hi

theorem BIn.take {w : World} {p : Option Addr} {n : Nat} {xs : List Int} (h : BIn w p n xs) (k : Nat) (hk : k ≤ n) : BIn w p k (xs.take k) := by
  refine ⟨by rw [List.length_take, h.len]; omega, h.byte.take k, fun hp => ?_⟩
  obtain ⟨b, o, e, hc⟩ := h.cells (by omega)
  refine ⟨b, o, e, fun i hi => ?_⟩
  rw [hc i (by omega)]
  simp [List.getD, hi]

theorem BIn.drop {w : World} {b o n : Nat} {xs : List Int} (h : BIn w (some ⟨b, o, none⟩) n xs) (k : Nat) (hk : k ≤ n) : BIn w (some ⟨b, o + k, none⟩) (n - k) (xs.drop k) := by
  refine ⟨by rw [List.length_drop, h.len], h.byte.drop k, fun hp => ?_⟩
  obtain ⟨b', o', e, hc⟩ := h.cells (by omega)
  simp only [Option.some.injEq, Addr.mk.injEq, and_true] at e
  obtain ⟨rfl, rfl⟩ := e
  refine ⟨_, _, rfl, fun i hi => ?_⟩
  rw [show o + k + i = o + (k + i) by omega, hc (k + i) (by omega)]
  simp [List.getD, List.getElem?_drop]

theorem BIn.drew {w : World} {p : Option Addr} {n : Nat} {xs : List Int} (h : BIn w p n xs) : BIn w.drew p n xs := ⟨h.len, h.byte, h.cells⟩

theorem BIn.empty {w : World} {p : Option Addr} : BIn w p 0 [] := ⟨rfl, Bytes.nil, fun h => by omega⟩

theorem or_map {a b c d : Prop} (h : a ∨ b) (f : a → c) (g : b → d) : c ∨ d := by
  rcases h with h | h
  · exact .inl (f h)
  · exact .inr (g h)
theorem below_undrew {B : Nat} {w w' : World} (h : Below B w.drew w') : Below B w w' := ⟨h.os, h.tape, h.output, h.size, h.block⟩

theorem size5 : (Try.prog.info? 5).map (·.size) = some 1 := by kernel_rfl

/-- a row of n cells, all of them -/
theorem row_of_full {w : World} {base g n : Nat} {e : TypeId} {xs : List Value} (h : w.ownsRow base e 1 (.slice (some ⟨g, 0, none⟩) n n) n xs) : w.heap[g]? = some (.cells xs.toArray e (0, 0)) := by
  rcases h.2 with ⟨h', _⟩ | ⟨g', cap', cur, h', _, hg, _, _, hsz, htake⟩
  · simp at h'
  · simp only [Value.slice.injEq, Option.some.injEq, Addr.mk.injEq, and_true, true_and] at h'
    obtain ⟨rfl, rfl⟩ := h'
    rw [List.take_of_length_le (by simpa using Nat.le_of_eq hsz)] at htake
    rw [hg, ← htake]

theorem full_of_row {w : World} {base g n : Nat} {e : TypeId} {xs : List Value} (hb : base ≤ g) (hn : xs.length = n) (hm : n ≤ maxLen) (h : w.heap[g]? = some (.cells xs.toArray e (0, 0))) : w.ownsRow base e 1 (.slice (some ⟨g, 0, none⟩) n n) n xs :=
  ⟨by omega, .inr ⟨g, n, xs.toArray, rfl, hb, h, Nat.le_refl _, hm, by simpa using hn, by rw [Nat.mul_one, List.toList_toArray]; exact List.take_of_length_le (by omega)⟩⟩

theorem ones_u8 (xs : List Int) : ∀ v ∈ U8 xs, v.oneCell' = true := by
  intro u hu; obtain ⟨x, _, rfl⟩ := List.mem_map.1 hu; rfl

theorem BIn.news {w : World} {a : Addr} {n : Nat} {xs : List Int} (h : BIn w (some a) n xs) : ∀ j u, (U8 xs)[j]? = some u → w.cell? (a.add j) = some u := by
  intro j u hj
  have hjn : j < xs.length := by
    have := (List.getElem?_eq_some_iff.1 hj).1
    simpa using this
  rw [h.at j (by have := h.len; omega), ← hj]
  simp [List.getD, List.getElem?_eq_getElem hjn]

theorem BIn.below {B : Nat} {w w' : World} {p : Option Addr} {n : Nat} {xs : List Int} (h : BIn w p n xs) (hb : Below B w w') (hp : ∀ a, p = some a → 0 < n → a.block < B) : BIn w' p n xs := by
  refine ⟨h.len, h.byte, fun h0 => ?_⟩
  obtain ⟨b, o, rfl, hc⟩ := h.cells h0
  refine ⟨b, o, rfl, fun i hi => ?_⟩
  rw [hb.cell (p := ⟨b, o + i, none⟩) (hp ⟨b, o, none⟩ rfl h0)]
  exact hc i hi

theorem BIn.lt {w : World} {a : Addr} {n : Nat} {xs : List Int} (h : BIn w (some a) n xs) (h0 : 0 < n) : a.block < w.heap.size := by
  obtain ⟨b, o, e, hc⟩ := h.cells h0
  simp only [Option.some.injEq] at e
  subst e
  exact World.block_lt_of_cell? w _ (hc 0 h0)

theorem BIn.later {w w' : World} {p : Option Addr} {n : Nat} {xs : List Int} (h : BIn w p n xs) (hb : Below w.heap.size w w') : BIn w' p n xs :=
  h.below hb (fun a e h0 => by subst e; exact h.lt h0)

/-- a value that is a []byte of these numbers -/
def SIn (w : World) (v : Value) (xs : List Int) : Prop := ∃ p n c, v = .slice p n c ∧ BIn w p n xs ∧ n ≤ c ∧ (p = none → c = 0)

/-- how a [][]byte lies that is read -/
structure PIn (w : World) (p : Option Addr) (n : Nat) (vs : List Value) (ls : List (List Int)) : Prop where
  len : vs.length = n
  len2 : ls.length = n
  cells : 0 < n → ∃ b o, p = some ⟨b, o, none⟩ ∧ ∀ i (h : i < vs.length), w.cell? ⟨b, o + i, none⟩ = some vs[i]
  parts : ∀ i (h : i < vs.length) (h2 : i < ls.length), SIn w vs[i] ls[i]

theorem SIn.later {w w' : World} {v : Value} {xs : List Int} (h : SIn w v xs) (hb : Below w.heap.size w w') : SIn w' v xs := by
  obtain ⟨p, n, c, rfl, h1, h2, h3⟩ := h
  exact ⟨p, n, c, rfl, h1.later hb, h2, h3⟩

theorem PIn.later {w w' : World} {p : Option Addr} {n : Nat} {vs : List Value} {ls : List (List Int)} (h : PIn w p n vs ls) (hb : Below w.heap.size w w') : PIn w' p n vs ls := by
  refine ⟨h.len, h.len2, fun h0 => ?_, fun i h1 h2 => (h.parts i h1 h2).later hb⟩
  obtain ⟨b, o, rfl, hc⟩ := h.cells h0
  refine ⟨b, o, rfl, fun i hi => ?_⟩
  rw [hb.cell (p := ⟨b, o + i, none⟩) (World.block_lt_of_cell? w ⟨b, o + i, none⟩ (hc i hi))]
  exact hc i hi

/-- what is owned stays owned behind a call that turns nothing that was there -/
theorem own_later {w w' : World} {base : Nat} {e : TypeId} {size : Nat} {v : Value} {n : Nat} {xs : List Value} (h : w.ownsRow base e size v n xs) (hb : Below w.heap.size w w') : w'.ownsRow base e size v n xs := by
  refine ⟨h.1, ?_⟩
  rcases h.2 with hn | ⟨g, cap, cur, rfl, h1, hg, rest⟩
  · exact .inl hn
  · exact .inr ⟨g, cap, cur, rfl, h1, (hb.block g (Array.getElem?_eq_some_iff.1 hg).1).trans hg, rest⟩

theorem own_mono {w : World} {base base' : Nat} {e : TypeId} {size : Nat} {v : Value} {n : Nat} {xs : List Value} (h : w.ownsRow base e size v n xs) (hb : base' ≤ base) : w.ownsRow base' e size v n xs := by
  refine ⟨h.1, ?_⟩
  rcases h.2 with hn | ⟨g, cap, cur, rfl, h1, rest⟩
  · exact .inl hn
  · exact .inr ⟨g, cap, cur, rfl, Nat.le_trans hb h1, rest⟩

/-- string(b) of a []byte that lies so -/
theorem BIn.str {w : World} {p : Option Addr} {n : Nat} {xs : List Int} (h : BIn w p n xs) (c : Nat) :
    (convert 23 9 (.slice p n c)).run Try.prog w = .ok (.string (strOfNums xs)) w := by
  by_cases h0 : 0 < n
  · obtain ⟨b, o, rfl, hc⟩ := h.cells h0
    exact run_convert_bytes_arg w 23 5 Try.underlying23 Try.underlying5 b o n c xs h.len hc 9 Try.underlying9
  · obtain rfl : n = 0 := by omega
    obtain rfl : xs = [] := List.eq_nil_of_length_eq_zero h.len
    rw [run_convert_bytes_string w 23 9 5 _ 0 c Try.underlying23 Try.underlying5 Try.underlying9]
    cases p <;> simp [Conv.bytesToString, loadCells]
    all_goals rfl

/-- what is owned is read -/
theorem own_in {w : World} {base : Nat} {v : Value} {n : Nat} {xs : List Int} (h : w.ownsRow base 5 1 v n (U8 xs)) (hb : Bytes xs) : ∃ p c, v = .slice p n c ∧ BIn w p n xs ∧ n ≤ c ∧ (p = none → c = 0) ∧ c ≤ maxLen := by
  have hl : xs.length = n := by have := h.1; simpa [U8] using this
  rcases h.2 with ⟨rfl, rfl⟩ | ⟨g, cap, cur, rfl, h1, hg, hnc, hcm, hsz, htake⟩
  · exact ⟨none, 0, rfl, ⟨hl, hb, fun h0 => absurd h0 (Nat.lt_irrefl 0)⟩, Nat.le_refl _, fun _ => rfl, Nat.zero_le _⟩
  · refine ⟨_, cap, rfl, ⟨hl, hb, fun h0 => ⟨g, 0, rfl, fun i hi => ?_⟩⟩, hnc, (fun e => by cases e), hcm⟩
    have := h.cellAt i (by omega)
    rw [Nat.zero_add, this]
    simp [U8, List.getD, List.getElem?_eq_getElem (show i < xs.length by omega)]

theorem str_list (xs : List Int) : (strOfNums xs).toList = xs.map fun n => UInt8.ofNat n.toNat := by rw [ByteArray.toList_eq]; rfl

theorem bytes_of {xs : List Int} (h : xs.all (fun x => decide (0 ≤ x ∧ x < 256)) = true) : Bytes xs := by
  intro x hx
  have := List.all_eq_true.1 h x hx
  simpa using this

/-- a literal's block -/
theorem lit_in (w : World) (xs : List Int) (n : Nat) (hl : xs.length = n) (hb : Bytes xs) : BIn (w.alloc (.cells (U8 xs).toArray 5)) (some ⟨w.heap.size, 0, none⟩) n xs := by
  refine ⟨hl, hb, fun h0 => ⟨_, 0, rfl, fun i hi => ?_⟩⟩
  rw [Nat.zero_add, cell_of_row _ w.heap.size i (U8 xs).toArray 5 (0, 0) (heap_alloc_new w _)]
  simp [U8, List.getD, List.getElem?_eq_getElem (show i < xs.length by omega)]

theorem BIn.drewN {w : World} {p : Option Addr} {n : Nat} {xs : List Int} (h : BIn w p n xs) (j : Nat) : BIn (w.drewN j) p n xs := ⟨h.len, h.byte, h.cells⟩

theorem below_alloc (w : World) (o : Obj) : Below w.heap.size w (w.alloc o) := (Below.refl _ _).alloc (Nat.le_refl _) o

theorem below_of_alloc {w w' : World} {o : Obj} (h : Below (w.alloc o).heap.size (w.alloc o) w') : Below w.heap.size w w' := (below_alloc w o).trans (h.mono (by simp))

/-- one call behind another -/
theorem below_then {a b c : World} (h : Below a.heap.size a b) (k : Below b.heap.size b c) : Below a.heap.size a c := h.trans (k.mono h.size)

theorem str_inj {xs ys : List Int} (hx : Bytes xs) (hy : Bytes ys) (h : (strOfNums xs).toList = (strOfNums ys).toList) : xs = ys := by
  rw [str_list, str_list] at h
  have hl : xs.length = ys.length := by have := congrArg List.length h; simpa using this
  apply List.ext_getElem hl
  intro i h1 h2
  have e := congrArg (fun l : List UInt8 => l[i]?) h
  simp only [List.getElem?_map, List.getElem?_eq_getElem h1, List.getElem?_eq_getElem h2, Option.map_some, Option.some.injEq] at e
  have e2 := congrArg UInt8.toNat e
  have b1 := hx.at i h1
  have b2 := hy.at i h2
  simp only [UInt8.toNat_ofNat'] at e2
  omega

theorem str_eq (xs ys : List Int) (hx : Bytes xs) (hy : Bytes ys) : ((strOfNums xs).toList == (strOfNums ys).toList) = decide (xs = ys) := by
  by_cases e : xs = ys
  · subst e; simp
  · rw [decide_eq_false e, beq_eq_false_iff_ne]
    exact fun h => e (str_inj hx hy h)

theorem below_drawn {B : Nat} {w : World} (nq : Nat) : Below B w (w.drewN nq) := ⟨rfl, rfl, rfl, Nat.le_refl _, fun _ _ => rfl⟩

/-- how long a slice is -/
def lenOf : Value → Nat | .slice _ n _ => n | _ => 0

/-- 'append(out, x...)', out the call's own, x whatever: nil too -/
theorem wpList_append_ownany {P : Program} (w : World) {ops : Array Oper} {rest : List Oper} {o : Oper} {a : Act} {Q : Exit → Act → World → Prop} (hgd : o.guard = none) (s x : Operand) (t : TypeId)
    (ho : o.op = .call { callee := .builtin .append, args := #[s, x], argTypes := #[t, t] })
    (base : Nat) (e : TypeId) (i : TypeInfo) (z : Value) (size bytes : Nat) (ht : P.underlying t = some (.slice e)) (hi : P.info? e = some i) (hz : i.zero = some z)
    (hsize : i.size = size) (hby : i.bytes = bytes) (hzs : z.cells.size = size) (hsz : 0 < size)
    (v : Value) (n : Nat) (xs : List Value) (hs : a.eval s = v) (hown : w.ownsRow base e size v n xs)
    (ao : Option Addr) (m c : Nat) (news : List Value) (hx : a.eval x = .slice ao m c) (hnone : ao = none → m = 0 ∧ c = 0) (hl : news.length = m * size) (hnews : ∀ ad, ao = some ad → ∀ j u, news[j]? = some u → w.cell? (ad.add j) = some u) (h1 : ∀ u ∈ news, u.oneCell' = true)
    (h63 : n + m ≤ maxLen) (hbytes : (n + m) * bytes ≤ 140737488355328) (hbase : base ≤ w.heap.size)
    (h : ∀ v' w', w'.ownsRow base e size v' (n + m) (xs ++ news) → w.grownBy w' v.ownBlock → wpList P ops Q rest (a.put o.dst v') w') : wpList P ops Q (o :: rest) a w := by
  cases ao with
  | some ad => exact wpList_append_own w hgd s x t ho base e i z size bytes ht hi hz hsize hby hzs hsz v n xs hs hown ad m c news hx hl (hnews ad rfl) h1 h63 hbytes hbase fun v' w' a b _ => h v' w' a b
  | none =>
    obtain ⟨rfl, rfl⟩ := hnone rfl
    obtain rfl : news = [] := List.eq_nil_of_length_eq_zero (by simpa using hl)
    exact wpList_append_own_none hgd s x t ho base e i size ht hi v n xs hs hown hx (h v w (by simpa using hown) (World.grownBy.refl _ _))

theorem step_append_own {P : Program} {w : World} {ops : Array Oper} {o : Oper} {a : Act} {K : Act → World → Prop} {Q : Exit → Act → World → Prop} {E : Prop} (hgd : o.guard = none) (s x : Operand) (t : TypeId)
    (ho : o.op = .call { callee := .builtin .append, args := #[s, x], argTypes := #[t, t] })
    (base : Nat) (e : TypeId) (i : TypeInfo) (z : Value) (size bytes : Nat) (ht : P.underlying t = some (.slice e)) (hi : P.info? e = some i) (hz : i.zero = some z)
    (hsize : i.size = size) (hby : i.bytes = bytes) (hzs : z.cells.size = size) (hsz : 0 < size)
    (v : Value) (n : Nat) (xs : List Value) (hs : a.eval s = v) (hown : w.ownsRow base e size v n xs)
    (ad : Addr) (m c : Nat) (news : List Value) (hx : a.eval x = .slice (some ad) m c) (hl : news.length = m * size) (hnews : ∀ j u, news[j]? = some u → w.cell? (ad.add j) = some u) (h1 : ∀ u ∈ news, u.oneCell' = true)
    (h63 : n + m ≤ maxLen) (hbytes : (n + m) * bytes ≤ 140737488355328) (hbase : base ≤ w.heap.size)
    (h : ∀ v' w', w'.ownsRow base e size v' (n + m) (xs ++ news) → w.grownBy w' v.ownBlock → K (a.put o.dst v') w') :
    if Region.wanted o (yielded ops a.tmps) = true then Oper.wp P o a w K Q else E := by
  have hw : Region.wanted o (yielded ops a.tmps) = true := by simp [Region.wanted, hgd]
  rw [if_pos hw]
  exact wp_append_own w s x t ho base e i z size bytes ht hi hz hsize hby hzs hsz v n xs hs hown ad m c news hx hl hnews h1 h63 hbytes hbase fun v' w' a b _ => h v' w' a b

end Go.Proofs.Ytlidjenkicgldaa
