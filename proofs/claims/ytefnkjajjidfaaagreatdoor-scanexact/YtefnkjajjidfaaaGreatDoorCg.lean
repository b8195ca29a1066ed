/-
  Byte slices beside the calls: strings of them, rows that a call owns, literals.
-/
import Derived.Test.YtefnkjajjidfaaaGreatDoorCb
import Derived.Test.YtefnkjajjidfaaaGreatDoorCe
import Derived.Test.YtefnkjajjidfaaaGreatDoorCf
import Derived.Deep.AppendLies
import Derived.Deep.QuietTactic
import Derived.BigQuiet
import Derived.Laws.BytesString
import Derived.Laws.BytesArg
import Derived.Laws.AppendOwn
import Derived.Laws.MakeOwn
import Derived.Laws.OwnMore
import Derived.Laws.AppendOwnNone
import Derived.Laws.CopyOwn
namespace Go.Proofs.YtefnkjajjidfaaaGreatDoor
open Go.RowKit

/-- string(b) of a []byte that lies so -/
theorem BIn.str {w : World} {p : Option Addr} {n : Nat} {xs : List Int} (h : BIn w p n xs) (c : Nat) :
    (convert 24 9 (.slice p n c)).run Tryz.prog w = .ok (.string (strOfNums xs)) w := by
  by_cases h0 : 0 < n
  · obtain ⟨b, o, rfl, hc⟩ := h.cells h0
    exact run_convert_bytes_arg w 24 5 Tryz.underlying24 Tryz.underlying5 b o n c xs h.len hc 9 Tryz.underlying9
  · obtain rfl : n = 0 := by omega
    obtain rfl : xs = [] := List.eq_nil_of_length_eq_zero h.len
    rw [run_convert_bytes_string w 24 9 5 _ 0 c Tryz.underlying24 Tryz.underlying5 Tryz.underlying9]
    cases p <;> simp [Conv.bytesToString, loadCells]
    all_goals rfl
/-- what is owned is read -/
theorem own_in {w : World} {base : Nat} {v : Value} {n : Nat} {xs : List Int} (h : w.ownsRow base 5 1 v n (U8 xs)) (hb : Bytes xs) : ∃ p c, v = .slice p n c ∧ BIn w p n xs ∧ n ≤ c ∧ (p = none → c = 0) ∧ c ≤ maxLen := by
  have hl : xs.length = n := by have := h.1; simpa [U8] using this
  rcases h.2 with ⟨rfl, rfl⟩ | ⟨g, cap, cur, rfl, h1, hg, hnc, hcm, hsz, htake⟩
  · exact ⟨none, 0, rfl, ⟨hl, hb, fun h0 => absurd h0 (Nat.lt_irrefl 0)⟩, Nat.le_refl _, fun _ => rfl, Nat.zero_le _⟩
  · refine ⟨_, cap, rfl, ⟨hl, hb, fun h0 => ⟨g, 0, rfl, fun i hi => ?_⟩⟩, hnc, (fun e => by cases e), hcm⟩
    have := h.cellAt i (by omega)
    rw [Nat.zero_add, this]
    simp [U8, List.getD, List.getElem?_eq_getElem (show i < xs.length by omega)]
theorem own_in64 {w : World} {base : Nat} {v : Value} {n : Nat} {xs : List Int} (h : w.ownsRow base 31 1 v n (U64 xs)) : ∃ p c, v = .slice p n c ∧ IIn w .u64 p n xs ∧ n ≤ c := by
  have hl : xs.length = n := by have := h.1; simpa [U64] using this
  rcases h.2 with ⟨rfl, rfl⟩ | ⟨g, cap, cur, rfl, h1, hg, hnc, hcm, hsz, htake⟩
  · exact ⟨none, 0, rfl, ⟨hl, fun h0 => absurd h0 (Nat.lt_irrefl 0)⟩, Nat.le_refl _⟩
  · refine ⟨_, cap, rfl, ⟨hl, fun h0 => ⟨g, 0, rfl, fun i hi => ?_⟩⟩, hnc⟩
    have := h.cellAt i (by omega)
    rw [Nat.zero_add, this]
    simp [U64, List.getElem?_eq_getElem (show i < xs.length by omega)]
theorem str_list (xs : List Int) : (strOfNums xs).toList = xs.map fun n => UInt8.ofNat n.toNat := by rw [ByteArray.toList_eq]; rfl
theorem bytes_of {xs : List Int} (h : xs.all (fun x => decide (0 ≤ x ∧ x < 256)) = true) : Bytes xs := by
  intro x hx
  have := List.all_eq_true.1 h x hx
  simpa using this
/-- a literal's block -/
theorem lit_in (w : World) (xs : List Int) (n : Nat) (hl : xs.length = n) (hb : Bytes xs) : BIn (w.alloc (.cells (U8 xs).toArray 5)) (some ⟨w.heap.size, 0, none⟩) n xs := by
  refine ⟨hl, hb, fun h0 => ⟨_, 0, rfl, fun i hi => ?_⟩⟩
  rw [Nat.zero_add, cell_of_row _ w.heap.size i (U8 xs).toArray 5 (0, 0) (heap_alloc_new w _)]
  simp [U8, List.getD, List.getElem?_eq_getElem (show i < xs.length by omega)]
theorem lit_in64 (w : World) (k : IntKind) (t : TypeId) (xs : List Int) (n : Nat) (hl : xs.length = n) : IIn (w.alloc (.cells (xs.map (Value.int k)).toArray t)) k (some ⟨w.heap.size, 0, none⟩) n xs := by
  refine ⟨hl, fun h0 => ⟨_, 0, rfl, fun i hi => ?_⟩⟩
  rw [Nat.zero_add, cell_of_row _ w.heap.size i (xs.map (Value.int k)).toArray t (0, 0) (heap_alloc_new w _)]
  simp [List.getElem?_eq_getElem hi]
theorem BIn.drewN {w : World} {p : Option Addr} {n : Nat} {xs : List Int} (h : BIn w p n xs) (j : Nat) : BIn (w.drewN j) p n xs := ⟨h.len, h.byte, h.cells⟩
theorem below_alloc (w : World) (o : Obj) : Below w.heap.size w (w.alloc o) := (Below.refl _ _).alloc (Nat.le_refl _) o
theorem below_of_alloc {w w' : World} {o : Obj} (h : Below (w.alloc o).heap.size (w.alloc o) w') : Below w.heap.size w w' := (below_alloc w o).trans (h.mono (by simp))
/-- one call behind another -/
theorem below_then {a b c : World} (h : Below a.heap.size a b) (k : Below b.heap.size b c) : Below a.heap.size a c := h.trans (k.mono h.size)
theorem str_inj {xs ys : List Int} (hx : Bytes xs) (hy : Bytes ys) (h : (strOfNums xs).toList = (strOfNums ys).toList) : xs = ys := by
  rw [str_list, str_list] at h
  have hl : xs.length = ys.length := by have := congrArg List.length h; simpa using this
  apply List.ext_getElem hl
  intro i h1 h2
  have e := congrArg (fun l : List UInt8 => l[i]?) h
  simp only [List.getElem?_map, List.getElem?_eq_getElem h1, List.getElem?_eq_getElem h2, Option.map_some, Option.some.injEq] at e
  have e2 := congrArg UInt8.toNat e
  have b1 := hx.at i h1
  have b2 := hy.at i h2
  simp only [UInt8.toNat_ofNat'] at e2
  omega
theorem str_eq (xs ys : List Int) (hx : Bytes xs) (hy : Bytes ys) : ((strOfNums xs).toList == (strOfNums ys).toList) = decide (xs = ys) := by
  by_cases e : xs = ys
  · subst e; simp
  · rw [decide_eq_false e, beq_eq_false_iff_ne]
    exact fun h => e (str_inj hx hy h)
theorem below_drawn {B : Nat} {w : World} (nq : Nat) : Below B w (w.drewN nq) := ⟨rfl, rfl, rfl, Nat.le_refl _, fun _ _ => rfl⟩
/-- how long a slice is -/
def lenOf : Value → Nat | .slice _ n _ => n | _ => 0
/-- 'append(out, x...)', out the call's own, x whatever: nil too -/
theorem wpList_append_ownany {P : Program} (w : World) {ops : Array Oper} {rest : List Oper} {o : Oper} {a : Act} {Q : Exit → Act → World → Prop} (hgd : o.guard = none) (s x : Operand) (t : TypeId)
    (ho : o.op = .call { callee := .builtin .append, args := #[s, x], argTypes := #[t, t] })
    (base : Nat) (e : TypeId) (i : TypeInfo) (z : Value) (size bytes : Nat) (ht : P.underlying t = some (.slice e)) (hi : P.info? e = some i) (hz : i.zero = some z)
    (hsize : i.size = size) (hby : i.bytes = bytes) (hzs : z.cells.size = size) (hsz : 0 < size)
    (v : Value) (n : Nat) (xs : List Value) (hs : a.eval s = v) (hown : w.ownsRow base e size v n xs)
    (ao : Option Addr) (m c : Nat) (news : List Value) (hx : a.eval x = .slice ao m c) (hnone : ao = none → m = 0 ∧ c = 0) (hl : news.length = m * size) (hnews : ∀ ad, ao = some ad → ∀ j u, news[j]? = some u → w.cell? (ad.add j) = some u) (h1 : ∀ u ∈ news, u.oneCell' = true)
    (h63 : n + m ≤ maxLen) (hbytes : (n + m) * bytes ≤ 140737488355328) (hbase : base ≤ w.heap.size)
    (h : ∀ v' w', w'.ownsRow base e size v' (n + m) (xs ++ news) → w.grownBy w' v.ownBlock → wpList P ops Q rest (a.put o.dst v') w') : wpList P ops Q (o :: rest) a w := by
  cases ao with
  | some ad => exact wpList_append_own w hgd s x t ho base e i z size bytes ht hi hz hsize hby hzs hsz v n xs hs hown ad m c news hx hl (hnews ad rfl) h1 h63 hbytes hbase fun v' w' a b _ => h v' w' a b
  | none =>
    obtain ⟨rfl, rfl⟩ := hnone rfl
    obtain rfl : news = [] := List.eq_nil_of_length_eq_zero (by simpa using hl)
    exact wpList_append_own_none hgd s x t ho base e i size ht hi v n xs hs hown hx (h v w (by simpa using hown) (World.grownBy.refl _ _))
end Go.Proofs.YtefnkjajjidfaaaGreatDoor
