/-
  Layer 11: how a list of tickets and a queue lie; what is kept; append.
-/
import Derived.WalkKit
import Derived.WalkSpells
import Derived.WalkLawsBesides
import Derived.Maps.AppendAt
import Derived.Laws.AppendOwn
import Derived.Laws.AppendOwnNone
import Derived.Deep.AppendLies
import Derived.ArgAppend
import Derived.Laws.CopyOwn
import Derived.BigQuiet
import Derived.Test.YtkgjmejpbklabaaGreatRows
import Derived.Test.YtkgjmejpbklabaaGreatN1
namespace Go.Proofs.YtkgjmejpbklabaaGreat
open Go.RowKit
theorem info26 : (Tryz.prog.info? 44).map (fun i => (i.zero, i.size, i.bytes)) = some (some (.int .u64 0), 1, 8) := by kernel_rfl
theorem size26 : (Tryz.prog.info? 44).map (·.size) = some 1 := by kernel_rfl
abbrev V64 (xs : List Int) : List Value := xs.map (Value.int .u64)
theorem ones_u64 (xs : List Int) : ∀ v ∈ V64 xs, v.oneCell' = true := by
  intro u hu; obtain ⟨x, _, rfl⟩ := List.mem_map.1 hu; rfl
theorem one_u64 (x : Int) : ∀ u ∈ [Value.int .u64 x], u.oneCell' = true := by
  intro u hu; obtain rfl := List.mem_singleton.1 hu; rfl
theorem below_alloc (w : World) (o : Obj) : Below w.heap.size w (w.alloc o) := (Below.refl _ _).alloc (Nat.le_refl _) o
theorem below_then {a b c : World} (h : Below a.heap.size a b) (k : Below b.heap.size b c) : Below a.heap.size a c := h.trans (k.mono h.size)
theorem below_drawn {B : Nat} {w : World} (nq : Nat) : Below B w (w.drewN nq) := ⟨rfl, rfl, rfl, Nat.le_refl _, fun _ _ => rfl⟩
/-- nothing that lay has turned but what S names -/
structure Kept (S : Nat → Prop) (w w' : World) : Prop where
  os : w'.os = w.os
  tape : w'.tape = w.tape
  output : w'.output = w.output
  size : w.heap.size ≤ w'.heap.size
  block : ∀ b, b < w.heap.size → ¬ S b → w'.heap[b]? = w.heap[b]?
theorem Kept.of_below {w w' : World} (S : Nat → Prop) (h : Below w.heap.size w w') : Kept S w w' := ⟨h.os, h.tape, h.output, h.size, fun b hb _ => h.block b hb⟩
theorem Kept.refl (S : Nat → Prop) (w : World) : Kept S w w := Kept.of_below S (Below.refl _ _)
theorem Kept.trans {S T : Nat → Prop} {a b c : World} (h : Kept S a b) (k : Kept T b c) (hT : ∀ x, x < a.heap.size → T x → S x) : Kept S a c :=
  ⟨k.os.trans h.os, k.tape.trans h.tape, k.output.trans h.output, Nat.le_trans h.size k.size, fun x hx hs => (k.block x (Nat.lt_of_lt_of_le hx h.size) fun t => hs (hT x hx t)).trans (h.block x hx hs)⟩
theorem Kept.wider {S T : Nat → Prop} {a b : World} (h : Kept S a b) (hT : ∀ x, x < a.heap.size → S x → T x) : Kept T a b := ⟨h.os, h.tape, h.output, h.size, fun x hx ht => h.block x hx fun s => ht (hT x hx s)⟩
theorem Kept.below {S : Nat → Prop} {w w' : World} (h : Kept S w w') (hS : ∀ b, b < w.heap.size → ¬ S b) : Below w.heap.size w w' := ⟨h.os, h.tape, h.output, h.size, fun b hb => h.block b hb (hS b hb)⟩
theorem Kept.setCell {w : World} (b o : Nat) (v : Value) : Kept (· = b) w (w.setCell ⟨b, o, none⟩ v) := ⟨rfl, rfl, rfl, by simp, fun k _ hk => Below.heap_setCell _ _ _ _ hk⟩
/-- of memory from B on nothing is said -/
theorem Kept.into {S : Nat → Prop} {B : Nat} {w0 w w' : World} (h : Kept S w w') (hb : Below B w0 w) (hS : ∀ b, b < B → ¬ S b) (hB : B ≤ w0.heap.size) : Below B w0 w' :=
  ⟨h.os.trans hb.os, h.tape.trans hb.tape, h.output.trans hb.output, Nat.le_trans hb.size h.size, fun b hlt => (h.block b (by have := hb.size; omega) (hS b hlt)).trans (hb.block b hlt)⟩
/-- how a []uint64 lies that is read -/
structure UIn (w : World) (p : Option Addr) (n : Nat) (xs : List Int) : Prop where
  len : xs.length = n
  cells : 0 < n → ∃ b o, p = some ⟨b, o, none⟩ ∧ ∀ i, i < n → w.cell? ⟨b, o + i, none⟩ = some (.int .u64 (xs.getD i 0))
theorem UIn.lt {w : World} {a : Addr} {n : Nat} {xs : List Int} (h : UIn w (some a) n xs) (h0 : 0 < n) : a.block < w.heap.size := by
  obtain ⟨b, o, e, hc⟩ := h.cells h0
  simp only [Option.some.injEq] at e
  subst e
  exact World.block_lt_of_cell? w _ (hc 0 h0)
theorem UIn.later {w w' : World} {p : Option Addr} {n : Nat} {xs : List Int} (h : UIn w p n xs) (hb : Below w.heap.size w w') : UIn w' p n xs := by
  refine ⟨h.len, fun h0 => ?_⟩
  obtain ⟨b, o, rfl, hc⟩ := h.cells h0
  refine ⟨b, o, rfl, fun i hi => ?_⟩
  rw [hb.cell (p := ⟨b, o + i, none⟩) (h.lt h0)]
  exact hc i hi
theorem UIn.news {w : World} {a : Addr} {n : Nat} {xs : List Int} (h : UIn w (some a) n xs) : ∀ j u, (V64 xs)[j]? = some u → w.cell? (a.add j) = some u := by
  intro j u hj
  have hjn : j < xs.length := by
    have := (List.getElem?_eq_some_iff.1 hj).1
    simpa using this
  obtain ⟨b, o, e, hc⟩ := h.cells (by have := h.len; omega)
  simp only [Option.some.injEq] at e
  subst e
  rw [Go.WideShapes.add_plain, hc j (by have := h.len; omega), ← hj]
  simp [List.getD, List.getElem?_eq_getElem hjn]
theorem UIn.nil (w : World) (p : Option Addr) : UIn w p 0 [] := ⟨rfl, fun h => absurd h (Nat.lt_irrefl 0)⟩
/-- the block that a slice lies in -/
def blk : Value → Option Nat
  | .slice (some a) _ _ => some a.block
  | _ => none
/-- how a []uint64 lies that is somebody's own: nil, or a piece of a row with its room -/
def Row (w : World) (v : Value) (xs : List Int) : Prop :=
  (v = .slice none 0 0 ∧ xs = []) ∨ ∃ g o cap cur, v = .slice (some ⟨g, o, none⟩) xs.length cap ∧ w.heap[g]? = some (.cells cur 44 (0, 0)) ∧ xs.length ≤ cap ∧ o + cap ≤ cur.size ∧ ∀ i, i < xs.length → cur[o + i]? = some (.int .u64 (xs.getD i 0))
theorem Row.empty (w : World) : Row w (.slice none 0 0) [] := .inl ⟨rfl, rfl⟩
theorem Row.form {w : World} {v : Value} {xs : List Int} (h : Row w v xs) : ∃ p c, v = .slice p xs.length c ∧ UIn w p xs.length xs ∧ xs.length ≤ c ∧ (p = none → c = 0) := by
  rcases h with ⟨rfl, rfl⟩ | ⟨g, o, cap, cur, rfl, hg, hc, hf, hx⟩
  · exact ⟨_, _, rfl, UIn.nil _ _, Nat.le_refl _, fun _ => rfl⟩
  · refine ⟨_, _, rfl, ⟨rfl, fun _ => ⟨g, o, rfl, fun i hi => ?_⟩⟩, hc, fun e => by cases e⟩
    rw [cell_of_row _ g (o + i) cur 44 (0, 0) hg]
    exact hx i hi
theorem Row.lt {w : World} {v : Value} {xs : List Int} (h : Row w v xs) {g : Nat} (hg : blk v = some g) : g < w.heap.size := by
  rcases h with ⟨rfl, rfl⟩ | ⟨g', o, cap, cur, rfl, hh, _⟩
  · cases hg
  · simp only [blk, Option.some.injEq] at hg
    subst hg
    exact (Array.getElem?_eq_some_iff.1 hh).1
theorem Row.typ {w : World} {v : Value} {xs : List Int} (h : Row w v xs) {g : Nat} (hg : blk v = some g) : ∃ cur, w.heap[g]? = some (.cells cur 44 (0, 0)) := by
  rcases h with ⟨rfl, rfl⟩ | ⟨g', o, cap, cur, rfl, hh, _⟩
  · cases hg
  · simp only [blk, Option.some.injEq] at hg
    subst hg
    exact ⟨_, hh⟩
theorem Row.kept {w w' : World} {v : Value} {xs : List Int} (h : Row w v xs) (hk : ∀ g, blk v = some g → w'.heap[g]? = w.heap[g]?) : Row w' v xs := by
  rcases h with ⟨rfl, rfl⟩ | ⟨g, o, cap, cur, rfl, hh, r⟩
  · exact .inl ⟨rfl, rfl⟩
  · exact .inr ⟨g, o, cap, cur, rfl, (hk g rfl).trans hh, r⟩
theorem Row.later {w w' : World} {v : Value} {xs : List Int} (h : Row w v xs) (hb : Below w.heap.size w w') : Row w' v xs := h.kept fun g hg => hb.block g (h.lt hg)
theorem Row.far {w w' : World} {v : Value} {xs : List Int} {S : Nat → Prop} (h : Row w v xs) (hk : Kept S w w') (hS : ∀ g, blk v = some g → ¬ S g) : Row w' v xs := h.kept fun g hg => hk.block g (h.lt hg) (hS g hg)
/-- a row that a call has made whole is one's own -/
theorem Row.own {w : World} {base : Nat} {v : Value} {n : Nat} {xs : List Int} (h : w.ownsRow base 44 1 v n (V64 xs)) : Row w v xs ∧ ∀ g, blk v = some g → base ≤ g := by
  have hl : xs.length = n := by have := h.1; simpa [V64] using this
  rcases h.2 with ⟨rfl, rfl⟩ | ⟨g, cap, cur, rfl, h1, hg, hnc, hcm, hsz, htake⟩
  · obtain rfl : xs = [] := List.eq_nil_of_length_eq_zero hl
    exact ⟨.inl ⟨rfl, rfl⟩, fun g e => by cases e⟩
  · subst hl
    refine ⟨.inr ⟨g, 0, cap, cur, rfl, hg, hnc, by omega, fun i hi => ?_⟩, fun g' e => ?_⟩
    · have := h.cellAt i (by omega)
      rw [cell_of_row _ g i cur 44 (0, 0) hg] at this
      rw [Nat.zero_add, this]
      simp [V64, List.getD, List.getElem?_eq_getElem hi]
    · simp only [blk, Option.some.injEq] at e
      subst e
      exact h1
theorem Kept.setRow (w : World) (g : Nat) (cs : Array Value) : Kept (· = g) w (w.setRow g cs) := ⟨rfl, rfl, rfl, by simp [World.setRow], fun k _ hk => setRow_other w g k cs hk⟩
section
variable (w : World)
/-- 'append' into the room of a piece of a row -/
theorem run_append_piece {P : Program} (t ty e : TypeId) (i : TypeInfo) (ht : P.underlying t = some (.slice e)) (hi : P.info? e = some i) (hsz : i.size = 1)
    (g off sLen sCap : Nat) (cur : Array Value) (hg : w.heap[g]? = some (.cells cur e (0, 0)))
    (a : Addr) (m c : Nat) (news : List Value) (hl : news.length = m) (hnews : ∀ j u, news[j]? = some u → w.cell? (a.add j) = some u) (h1 : ∀ u ∈ news, u.oneCell' = true)
    (hroom : sLen + m ≤ sCap) (hfit : off + sLen + news.length ≤ cur.size) :
    (Builtin.append_ #[t, t] ty #[.slice (some ⟨g, off, none⟩) sLen sCap, .slice (some a) m c]).run P w =
      .ok (.slice (some ⟨g, off, none⟩) (sLen + m) sCap) (w.setRow g (cur.toList.take (off + sLen) ++ news ++ cur.toList.drop (off + sLen + news.length)).toArray) := by
  have hf := run_firstCells_some (P := P) w 1 m a m c news (by omega) hnews
  have hst := run_storeCells_at P g (off + sLen) e news 0 cur w hg (by simpa using hfit) h1
  simp only [Nat.add_zero] at hst
  simp [Builtin.append_, run_underlying ht, sizeOf, typeInfo, hi, hsz, Builtin.lenOf, hroom, hf, Addr.add_lit, hst]
/-- 'append': the list grows at its end, in its own row where there is room, else in a new one -/
theorem run_append_row (ty : TypeId) (v : Value) (xs : List Int) (hrow : Row w v xs) (p : Option Addr) (m c : Nat) (ys : List Int) (hy : UIn w p m ys) (hlen : xs.length + m ≤ 100000) :
    ∃ v' w', (Builtin.append_ #[37, 37] ty #[v, .slice p m c]).run Tryz.prog w = .ok v' w' ∧ Row w' v' (xs ++ ys) ∧ Kept (fun b => blk v = some b) w w' ∧ (blk v' = blk v ∨ ∃ g, blk v' = some g ∧ w.heap.size ≤ g) := by
  obtain ⟨i0, hi, hz0, hz1, hz2⟩ := info_parts info26
  have hml : (100000 : Nat) ≤ maxLen := by decide
  by_cases hm : m = 0
  · subst hm
    obtain rfl : ys = [] := List.eq_nil_of_length_eq_zero hy.len
    obtain ⟨q, d, rfl, hq, hd, _⟩ := hrow.form
    refine ⟨.slice q xs.length d, w, ?_, by simpa using hrow, Kept.refl _ _, .inl rfl⟩
    have hfn : (Builtin.firstCells 1 0 (.slice p 0 c)).run Tryz.prog w = .ok #[] w := by
      cases p with
      | none => exact run_firstCells_none w 1 0 0 c
      | some a => exact run_firstCells_some (P := Tryz.prog) w 1 0 a 0 c [] rfl (fun j u h => by simp at h)
    cases q <;> simp [Builtin.append_, run_underlying Tryz.underlying37, sizeOf, typeInfo, hi, hz1, Builtin.lenOf, hd, hfn, storeCells]
  · obtain ⟨b, o, rfl, hcs⟩ := hy.cells (by omega)
    have hl := hy.len
    rcases hrow with ⟨rfl, rfl⟩ | ⟨g, off, cap, cur, rfl, hg, hcap, hfit, hx⟩
    · have hown := World.ownsRow_nil w w.heap.size 44 1
      obtain ⟨v', w', hr, h2, h3, _⟩ := run_append_own (P := Tryz.prog) w w.heap.size 37 ty 44 i0 (.int .u64 0) 1 8 Tryz.underlying37 hi hz0 hz1 hz2 rfl (by decide) _ 0 [] hown ⟨b, o, none⟩ m c (V64 ys) (by simp [hl]) hy.news (ones_u64 ys) (by simp at hlen; omega) (by simp at hlen; omega) (Nat.le_refl _)
      have h2' := Row.own (xs := ys) (by simpa using h2)
      refine ⟨v', w', hr, by simpa using h2'.1, ⟨h3.os, h3.tape, h3.output, h3.size, fun k hk _ => h3.block k hk (by simp [Value.ownBlock])⟩, ?_⟩
      cases hb : blk v' with
      | none => exact .inl rfl
      | some g => exact .inr ⟨g, rfl, h2'.2 g hb⟩
    · by_cases hroom : xs.length + m ≤ cap
      · have hr := run_append_piece (P := Tryz.prog) w 37 ty 44 i0 Tryz.underlying37 hi hz1 g off xs.length cap cur hg ⟨b, o, none⟩ m c (V64 ys) (by simp [hl]) hy.news (ones_u64 ys) hroom (by simp [hl]; omega)
        refine ⟨_, _, hr, .inr ⟨g, off, cap, _, by simp [hl], setRow_heap w g cur _ 44 _ hg, by simp [hl]; omega, ?_, ?_⟩, (Kept.setRow w g _).wider (fun x _ e => by subst e; rfl), .inl rfl⟩
        · simp [hl]; omega
        · intro i hi'
          have hi2 : i < xs.length + m := by simpa [hl] using hi'
          have hlt : off + xs.length ≤ cur.toList.length := by simp; omega
          simp only [List.getElem?_toArray]
          by_cases h1 : i < xs.length
          · rw [List.append_assoc, List.getElem?_append_left (by simp; omega), List.getElem?_take, if_pos (by omega)]
            simp only [Array.getElem?_toList]
            rw [hx i h1]
            simp [List.getD, List.getElem?_append_left h1]
          · rw [List.append_assoc, List.getElem?_append_right (by simp; omega), List.getElem?_append_left (by simp [hl]; omega)]
            simp only [List.length_take, Nat.min_eq_left hlt]
            rw [show off + i - (off + xs.length) = i - xs.length by omega]
            have h3 : i - xs.length < ys.length := by omega
            simp [List.getD, List.getElem?_append_right (Nat.le_of_not_lt h1), h3]
      · have holds : ∀ j u, (V64 xs)[j]? = some u → w.cell? ((⟨g, off, none⟩ : Addr).add j) = some u := by
          have hI : UIn w (some ⟨g, off, none⟩) xs.length xs := ⟨rfl, fun _ => ⟨g, off, rfl, fun i hi => by rw [cell_of_row _ g (off + i) cur 44 (0, 0) hg]; exact hx i hi⟩⟩
          exact hI.news
        obtain ⟨v', w', hr, h2, h3⟩ := run_append_arg_grows (P := Tryz.prog) w 37 ty 44 i0 (.int .u64 0) 1 8 Tryz.underlying37 hi hz0 hz1 hz2 rfl (by decide) ⟨g, off, none⟩ xs.length cap (V64 xs) (by simp) holds ⟨b, o, none⟩ m c (V64 ys) (by simp [hl]) hy.news (by omega) (by omega) (by omega)
        have h2' := Row.own (xs := xs ++ ys) (by simpa using h2)
        refine ⟨v', w', hr, h2'.1, ⟨h3.os, h3.tape, h3.output, h3.size, fun k hk _ => h3.block k hk (by simp)⟩, ?_⟩
        cases hb : blk v' with
        | none =>
          obtain ⟨p', c', e, hI, _, hn⟩ := h2'.1.form
          subst e
          cases p' with
          | none => obtain ⟨_, _, e, _⟩ := hI.cells (by simp [hl]; omega); cases e
          | some a => simp [blk] at hb
        | some g' => exact .inr ⟨g', rfl, h2'.2 g' hb⟩
theorem wpList_append_row {ops : Array Oper} {rest : List Oper} {o : Oper} {a : Act} {Q : Exit → Act → World → Prop} (hgd : o.guard = none) (s x : Operand)
    (ho : o.op = .call { callee := .builtin .append, args := #[s, x], argTypes := #[37, 37] })
    (v : Value) (xs : List Int) (hs : a.eval s = v) (hrow : Row w v xs) (p : Option Addr) (m c : Nat) (ys : List Int) (hx : a.eval x = .slice p m c) (hy : UIn w p m ys) (hlen : xs.length + m ≤ 100000)
    (h : ∀ v' w', Row w' v' (xs ++ ys) → Kept (fun b => blk v = some b) w w' → (blk v' = blk v ∨ ∃ g, blk v' = some g ∧ w.heap.size ≤ g) → wpList Tryz.prog ops Q rest (a.put o.dst v') w') : wpList Tryz.prog ops Q (o :: rest) a w := by
  refine wpList_plain hgd fun K hK => ?_
  obtain ⟨v', w', hr, h2, h3, h4⟩ := run_append_row w o.type v xs hrow p m c ys hy hlen
  unfold Oper.wp
  simp [execOp, ho, resolve, invoke, builtin, hs, hx, hr, Result.andThen]
  exact hK _ _ (h v' w' h2 h3 h4)
end
/-- how a queue lies: its two cells, and its list -/
structure QAt (ty : TypeId) (w : World) (Q : Nat) (v : Value) (xs : List Int) (m : Int) : Prop where
  st : w.heap[Q]? = some (.cells #[v, .int .u64 m] ty (0, 0))
  row : Row w v xs
variable {ty : TypeId} {w w' : World} {Q : Nat} {v : Value} {xs : List Int} {m : Int}
theorem QAt.lt (h : QAt ty w Q v xs m) : Q < w.heap.size := (Array.getElem?_eq_some_iff.1 h.st).1
theorem QAt.c0 (h : QAt ty w Q v xs m) : w.cell? ⟨Q, 0, none⟩ = some v := by rw [cell_of_row _ Q 0 _ ty (0, 0) h.st]; rfl
theorem QAt.c1 (h : QAt ty w Q v xs m) : w.cell? ⟨Q, 1, none⟩ = some (.int .u64 m) := by rw [cell_of_row _ Q 1 _ ty (0, 0) h.st]; rfl
theorem QAt.free (h : QAt ty w Q v xs m) (o : Nat) : w.frozen? ⟨Q, o, none⟩ = false := by simp [World.frozen?, h.st]
theorem QAt.ne (h : QAt ty w Q v xs m) (ht : ty ≠ 44) {g : Nat} (hg : blk v = some g) : g ≠ Q := by
  obtain ⟨cur, hc⟩ := h.row.typ hg
  rintro rfl
  rw [h.st] at hc
  simp at hc
  exact ht hc.2
theorem QAt.far {S : Nat → Prop} (h : QAt ty w Q v xs m) (hk : Kept S w w') (hQ : ¬ S Q) (hS : ∀ g, blk v = some g → ¬ S g) : QAt ty w' Q v xs m := ⟨(hk.block Q h.lt hQ).trans h.st, h.row.far hk hS⟩
theorem QAt.later (h : QAt ty w Q v xs m) (hb : Below w.heap.size w w') : QAt ty w' Q v xs m := ⟨(hb.block Q h.lt).trans h.st, h.row.later hb⟩
theorem QAt.set0 (h : w.heap[Q]? = some (.cells #[v, .int .u64 m] ty (0, 0))) {v' : Value} {ys : List Int} (hr : Row w v' ys) (hne : ∀ g, blk v' = some g → g ≠ Q) : QAt ty (w.setCell ⟨Q, 0, none⟩ v') Q v' ys m := by
  refine ⟨?_, hr.far (Kept.setCell Q 0 v') hne⟩
  rw [setCell_eq_setRow w Q 0 _ ty (0, 0) v' h]
  exact setRow_heap w Q _ _ ty _ h
theorem QAt.set1 (h : QAt ty w Q v xs m) (ht : ty ≠ 44) (t : Int) : QAt ty (w.setCell ⟨Q, 1, none⟩ (.int .u64 t)) Q v xs t := by
  refine ⟨?_, h.row.far (Kept.setCell Q 1 _) fun g hg => h.ne ht hg⟩
  rw [setCell_eq_setRow w Q 1 _ ty (0, 0) _ h.st]
  exact setRow_heap w Q _ _ ty _ h.st
theorem QAt.new (w : World) (ty : TypeId) {v : Value} {xs : List Int} {m : Int} (hr : Row w v xs) : QAt ty (w.alloc (.cells #[v, .int .u64 m] ty)) w.heap.size v xs m := ⟨heap_alloc_new w _, hr.later (below_alloc w _)⟩
end Go.Proofs.YtkgjmejpbklabaaGreat
