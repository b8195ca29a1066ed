/-
  Layer 15: maps of heights that are looked at; a range over one whose round writes what is there. Layer 15: Ring and Heights, the document's and the program's, held against one another. Layer 15: WaitsRing: what stands. Layer 15: WaitsRing. The statement WaitsRing, proved.
-/
import Derived.Test.YtkgjmejpbklabaaHk
import Derived.Test.YtkgjmejpbklabaaHl
import Derived.Test.YtkgjmejpbklabaaHe
import Derived.Maps.RangeWalk
import Derived.Test.YtkgjmejpbklabaaHc
import Derived.Deep.Cut
import Derived.BigQuiet
import Derived.BigRegion
import Derived.Test.YtkgjmejpbklabaaPk
namespace Go.Proofs.Ytkgjmejpbklabaa
open Go.RowKit

open B (IIn I64)
open Go.ChangeMaps (setBlock)
open Go.WideElems (Fit rd_key)
open Go.Maps (Keyed)
/-- a map of N heights, by tickets; it may be nil where there is none -/
def MS (W : World) (mv : Value) (N : Nat) (ts : List Int) (hs : List Nat) : Prop := (mv = .map none ∧ N = 0) ∨ ∃ (b n : Nat) (M : Int → Option Value), mv = .map (some b) ∧ n ≤ 9000 ∧ VMp zero64 W b n N M ∧ ∀ i, i < N → UW (ts.getD i 0) ∧ M (ts.getD i 0) = some (.int .i64 ((hs.getD i 0 : Nat) : Int))
theorem MS.later {W W' : World} {mv : Value} {N : Nat} {ts : List Int} {hs : List Nat} (h : MS W mv N ts hs) (hb : RowKit.Below W.heap.size W W') : MS W' mv N ts hs := by
  rcases h with h | ⟨b, n, M, h1, h2, h3, h4⟩
  · exact .inl h
  · exact .inr ⟨b, n, M, h1, h2, h3.later hb, h4⟩
theorem MS.far {S : Nat → Prop} {W W' : World} {mv : Value} {N : Nat} {ts : List Int} {hs : List Nat} (h : MS W mv N ts hs) (hk : Kept S W W') (hS : ∀ b, mv = .map (some b) → ¬ S b) : MS W' mv N ts hs := by
  rcases h with h | ⟨b, n, M, h1, h2, h3, h4⟩
  · exact .inl h
  · exact .inr ⟨b, n, M, h1, h2, h3.far hk (hS b h1), h4⟩
theorem MS.lt {W : World} {mv : Value} {N : Nat} {ts : List Int} {hs : List Nat} (h : MS W mv N ts hs) {b : Nat} (hb : mv = .map (some b)) : b < W.heap.size := by
  rcases h with h | ⟨b', n, M, h1, h2, h3, h4⟩
  · rw [h.1] at hb; cases hb
  · rw [h1] at hb; cases hb; exact h3.lt
theorem MS.typ {W : World} {mv : Value} {N : Nat} {ts : List Int} {hs : List Nat} (h : MS W mv N ts hs) {b : Nat} (hb : mv = .map (some b)) : ∃ es clock, W.heap[b]? = some (.map es clock) := by
  rcases h with h | ⟨b', n, M, h1, h2, h3, h4⟩
  · rw [h.1] at hb; cases hb
  · rw [h1] at hb; cases hb; exact h3.typ
theorem MS.look {W : World} {mv : Value} {N : Nat} {ts : List Int} {hs : List Nat} (h : MS W mv N ts hs) {i : Nat} (hi : i < N) :
    (Instr.lookup 39 mv (.int .u64 (ts.getD i 0)) true).run Try.prog W = .ok (.tuple #[.int .i64 ((hs.getD i 0 : Nat) : Int), .bool true]) W := by
  rcases h with h | ⟨b, n, M, rfl, h2, h3, h4⟩
  · omega
  · have := h3.run_look Try.underlying39 (zeroI _) (h4 i hi).1
    rw [(h4 i hi).2] at this
    exact this
theorem MS.get {W : World} {mv : Value} {N : Nat} {ts : List Int} {hs : List Nat} (h : MS W mv N ts hs) {i : Nat} (hi : i < N) :
    (Instr.lookup 39 mv (.int .u64 (ts.getD i 0)) false).run Try.prog W = .ok (.int .i64 ((hs.getD i 0 : Nat) : Int)) W := by
  rcases h with h | ⟨b, n, M, rfl, h2, h3, h4⟩
  · omega
  · have := h3.run_get Try.underlying39 (zeroI _) (h4 i hi).1
    rw [(h4 i hi).2] at this
    exact this
theorem MS.len {W : World} {mv : Value} {N : Nat} {ts : List Int} {hs : List Nat} (h : MS W mv N ts hs) (ty : TypeId) : (Builtin.len_ #[39] ty #[mv]).run Try.prog W = .ok (.int .i64 (N : Int)) W := by
  rcases h with ⟨rfl, rfl⟩ | ⟨b, n, M, rfl, h2, h3, h4⟩
  · exact Maps.len_nil Try.underlying39 ty
  · exact h3.run_len Try.underlying39 ty

/-! ### A range over it -/
/-- a range is under way over the map in block b: cnt entries are still to come -/
def Rgs (w : World) (b r cnt : Nat) : Prop := ∃ (es : Array MapEntry) (clock since : Nat) (seen : Array Nat) (c0 : Nat), w.heap[b]? = some (.map es clock) ∧ Fit Try.prog 25 vElem es clock ∧ es.size ≤ 9000 ∧ w.heap[r]? = some (.mapIter (some b) since seen c0) ∧ (∀ x ∈ es.toList, x.born < since) ∧ (leftOf es seen).size = cnt ∧ since ≤ c0 ∧ since ≤ clock
/-- .. over whatever map -/
def Rgm (w : World) (mv : Value) (r cnt : Nat) : Prop := (mv = .map none ∧ w.heap[r]? = some (.mapIter none 0 #[] 0) ∧ cnt = 0) ∨ ∃ b, mv = .map (some b) ∧ Rgs w b r cnt
def mleft (w : World) (mv : Value) (r : Nat) : Nat := match mv with | .map (some b) => w.rangeLeft b r | _ => 0
theorem Rgm.left {w : World} {mv : Value} {r cnt : Nat} (h : Rgm w mv r cnt) : mleft w mv r = cnt := by
  rcases h with ⟨rfl, _, rfl⟩ | ⟨b, rfl, es, clock, since, seen, c0, h1, _, _, h4, _, h6, _⟩
  · rfl
  · simp only [mleft, World.rangeLeft, h1, h4]; exact h6
theorem kept_set {w w1 : World} (hal : w1 = w ∨ w1 = w.drew) (b : Nat) (o : Obj) : Kept (· = b) w (setBlock w1 b o) := by
  have hn : ∀ (W : World) (i : Nat), i ≠ b → (setBlock W b o).heap[i]? = W.heap[i]? := fun W i hi => by
    show (W.heap.setIfInBounds b o)[i]? = _
    rw [Array.getElem?_setIfInBounds_ne (fun e => hi e.symm)]
  rcases hal with rfl | rfl
  · exact ⟨rfl, rfl, rfl, by simp [setBlock], fun i _ hi => hn _ i hi⟩
  · exact ⟨rfl, rfl, rfl, by simp [setBlock], fun i _ hi => hn _ i hi⟩
theorem set_same {w : World} {b : Nat} {o o' : Obj} (h : w.heap[b]? = some o) : (setBlock w b o').heap[b]? = some o' := by
  show (w.heap.setIfInBounds b o')[b]? = _
  rw [Array.getElem?_setIfInBounds_self_of_lt (Array.getElem?_eq_some_iff.1 h).1]
theorem MS.range {W : World} {mv : Value} {N : Nat} {ts : List Int} {hs : List Nat} (h : MS W mv N ts hs) : ∃ w' cnt, (Instr.range 39 mv).run Try.prog W = .ok (.pointer (some ⟨W.heap.size, 0, none⟩)) w' ∧ Rgm w' mv W.heap.size cnt ∧ RowKit.Below W.heap.size W w' := by
  rcases h with ⟨rfl, rfl⟩ | ⟨b, n, M, rfl, h2, ⟨D, ho, _⟩, h4⟩
  · refine ⟨W.alloc (.mapIter none 0 #[] 0), 0, ?_, .inl ⟨rfl, heap_alloc_new W _, rfl⟩, below_alloc W _⟩
    simp [Instr.range, run_underlying Try.underlying39, Result.andThen]
  · obtain ⟨w', hrun, hr, hg, hs'⟩ := ho.range keyU Try.underlying39
    refine ⟨w', Maps.size D, hrun, .inr ⟨b, rfl, ?_⟩, ⟨hg.os, hg.tape, hg.output, hg.size, fun i hi => hg.block i hi (by simp)⟩⟩
    obtain ⟨es, clock, since, seen, c0, h1, F, h3, _, h5, h6, h7, _, _, h10, h11⟩ := hr
    exact ⟨es, clock, since, seen, c0, h1, F, by omega, h5, h6, h7, h10, h11⟩
theorem left_same {es es' : Array MapEntry} {seen : Array Nat} (h : es'.toList.map (·.born) = es.toList.map (·.born)) : (leftOf es' seen).size = (leftOf es seen).size := by
  have e : ∀ l : List MapEntry, (l.filter fun x => !seen.contains x.born).length = ((l.map (·.born)).filter fun x => !seen.contains x).length := fun l => by
    induction l with
    | nil => rfl
    | cons x l ih =>
      simp only [List.filter_cons, List.map_cons]
      split <;> simp_all
  have k : ∀ a : Array MapEntry, (leftOf a seen).size = ((a.toList.map (·.born)).filter fun x => !seen.contains x).length := fun a => by
    rw [← e]
    have : (leftOf a seen).toList = a.toList.filter fun x => !seen.contains x.born := by simp [leftOf]
    rw [← this]; simp
  rw [k, k, h]
theorem modify_set {l : List MapEntry} {j : Nat} {e0 : MapEntry} (h : l[j]? = some e0) (f : MapEntry → MapEntry) (hf : (f e0).born = e0.born) : (l.modify j f).map (·.born) = l.map (·.born) := by
  apply List.ext_getElem?
  intro i
  rw [List.getElem?_map, List.getElem?_map, List.getElem?_modify]
  by_cases hi : j = i
  · subst hi; rw [h]; simp [hf]
  · simp [hi]
/-- a store at a key that is there -/
theorem Rgs.store {w : World} {b r cnt : Nat} (h : Rgs w b r cnt) {es : Array MapEntry} {clock : Nat} (hb : w.heap[b]? = some (.map es clock)) {e : MapEntry} (he : e ∈ es.toList) (v : Value) :
    ∃ w', (Instr.mapUpdate 39 (.map (some b)) e.key v).run Try.prog w = .ok () w' ∧ Rgs w' b r cnt ∧ Kept (· = b) w w' := by
  obtain ⟨es', clock', since, seen, c0, h1, F, h3, h4, h5, h6, h7, h8⟩ := h
  have h9 := h1
  rw [hb] at h9
  simp only [Option.some.injEq, Obj.map.injEq] at h9
  obtain ⟨rfl, rfl⟩ := h9
  obtain ⟨kl, hkey⟩ := F.keys e he
  have hml : 9000 < maxLen := by decide
  rcases keyU.find w hkey es.toList F.keys with ⟨_, h10⟩ | ⟨j, e0, hf, h11, h12⟩
  · exact absurd rfl (h10 e he)
  · obtain ⟨es2, clock2, hrun, F2, -, -, -, -⟩ := Maps.fit_store (R' := vElem) keyU Try.underlying39 hb F (by omega) (fun _ _ _ _ hz => hz) hkey (val := v) (yv := (.held v, [])) rfl
    have hj : es[j]? = some e0 := by simpa using h11
    have hrun2 : (Instr.mapUpdate 39 (.map (some b)) e.key v).run Try.prog w = .ok () (setBlock w b (.map (es.modify j fun x => { x with key := e.key, val := v }) clock)) := by
      simp [Instr.mapUpdate, run_underlying Try.underlying39, MapKept.run_getObj_map hb, keyU.check w false hkey, hf, hj, h12, keyU.stays w hkey, MapKept.run_setObj_map _ hb, Result.andThen, setBlock]
    have heq := hrun.symm.trans hrun2
    simp only [Result.ok.injEq, true_and] at heq
    have hb2 := set_same (o' := .map es2 clock2) hb
    rw [heq, set_same (o' := .map (es.modify j fun x => { x with key := e.key, val := v }) clock) hb] at hb2
    simp only [Option.some.injEq, Obj.map.injEq] at hb2
    obtain ⟨e1, e2⟩ := hb2
    rw [← e1, ← e2] at F2
    have hborn : (es.modify j fun x => { x with key := e.key, val := v }).toList.map (·.born) = es.toList.map (·.born) := by
      rw [Array.toList_modify]; exact modify_set h11 _ rfl
    have hne : r ≠ b := fun e3 => by rw [e3, hb] at h4; cases h4
    have hk := kept_set (w := w) (.inl rfl) b (.map (es.modify j fun x => { x with key := e.key, val := v }) clock)
    refine ⟨_, hrun2, ⟨_, clock, since, seen, c0, set_same hb, F2, by simpa using h3, ?_, fun x hx => ?_, ?_, h7, h8⟩, hk⟩
    · exact (hk.block r (Array.getElem?_eq_some_iff.1 h4).1 hne).trans h4
    · have hx2 : x.born ∈ es.toList.map (·.born) := by rw [← hborn]; exact List.mem_map.2 ⟨x, hx, rfl⟩
      obtain ⟨y, hy, e3⟩ := List.mem_map.1 hx2
      rw [← e3]; exact h5 y hy
    · rw [left_same hborn, h6]
/-- the step: nothing is left, or an entry comes, and may be written -/
theorem Rgm.next {w : World} {mv : Value} {r cnt : Nat} (h : Rgm w mv r cnt) (ty : TypeId) (u : Value) :
    ((Instr.next (.pointer (some ⟨r, 0, none⟩)) false ty).run Try.prog w = .ok (.tuple #[.bool false]) w) ∨
    ∃ (x : Int) (v : Value) (w' w2 : World) (cnt' b : Nat), mv = .map (some b) ∧ (Instr.next (.pointer (some ⟨r, 0, none⟩)) false ty).run Try.prog w = .ok (.tuple #[.bool true, .int .u64 x, v]) w' ∧ (Instr.entry (.pointer (some ⟨r, 0, none⟩))).run Try.prog w' = .ok (.tuple #[.int .u64 x, v]) w' ∧ (Instr.mapUpdate 39 mv (.int .u64 x) u).run Try.prog w' = .ok () w2 ∧ Rgm w2 mv r cnt' ∧ cnt' < cnt ∧ Kept (fun z => z = r ∨ z = b) w w2 := by
  rcases h with ⟨rfl, hr, rfl⟩ | ⟨b, rfl, es, clock, since, seen, c0, h1, F, h3, h4, h5, h6, h7, h8⟩
  · left
    simp [Instr.next, getObj, Sem.run, hr, Result.andThen]
  · rcases run_next_at (P := Try.prog) w ty r b since c0 seen es clock h4 h1 h5 h7 with ⟨_, hrun⟩ | ⟨e, he, w1, hal, hrun⟩
    · exact .inl hrun
    · right
      obtain ⟨hem, hes⟩ := mem_left he
      obtain ⟨kl, hkey⟩ := F.keys e hem
      obtain ⟨x, hx, rfl, hwx⟩ := Maps.keyOf_int_inv Try.underlying25 hkey
      have hne : r ≠ b := fun e3 => by rw [e3, h1] at h4; cases h4
      have hr1 : w1.heap[r]? = some (.mapIter (some b) since seen c0) := by rcases hal with rfl | rfl <;> exact h4
      have hk := kept_set hal r (.mapIter (some b) since (seen.push e.born) clock)
      have hb' : (setBlock w1 r (.mapIter (some b) since (seen.push e.born) clock)).heap[b]? = some (.map es clock) := (hk.block b (Array.getElem?_eq_some_iff.1 h1).1 (fun e => hne e.symm)).trans h1
      have hr' := set_same (o' := .mapIter (some b) since (seen.push e.born) clock) hr1
      have hRg : Rgs (setBlock w1 r (.mapIter (some b) since (seen.push e.born) clock)) b r (leftOf es (seen.push e.born)).size := ⟨es, clock, since, seen.push e.born, clock, hb', F, h3, hr', h5, rfl, h8, h8⟩
      obtain ⟨w2, hst, hR2, hk2⟩ := hRg.store hb' hem u
      have hent := run_entry_at (P := Try.prog) _ r b since seen es clock e hr' hb' hem ((MapKept.stamped_iff es clock).1 F.stamped).2.1
      rw [hx] at hrun hent hst
      refine ⟨x, e.val, _, w2, _, b, rfl, hrun, hent, hst, .inr ⟨b, rfl, hR2⟩, by rw [← h6]; exact left_shrinks es seen e he, ?_⟩
      exact (hk.wider (T := fun z => z = r ∨ z = b) fun _ _ h => .inl h).trans hk2 fun _ _ h => .inr h
end Go.Proofs.Ytkgjmejpbklabaa
namespace Go.Proofs.Ytkgjmejpbklabaa
open Go.RowKit

open B (IIn I64)
/-- the tickets of edges, rising -/
def Tks (es : List Eg) (ts : List Int) : Prop := ts.Pairwise (· < ·) ∧ ∀ x, x ∈ ts ↔ ∃ e ∈ egs es, x = e.1 ∨ x = e.2
theorem Tks.one {es : List Eg} {ts ts' : List Int} (h : Tks es ts) (h' : Tks es ts') : ts = ts' := up_one h.1 h'.1 fun x => by rw [h.2, h'.2]
theorem GIs.tks {es : List Eg} {ts : List Int} {nx : List (List Nat)} (h : GIs (egs es) ts nx) : Tks es ts := ⟨h.up, h.mem⟩
theorem GIs.er {es : List (Int × Int)} {ts : List Int} {nx : List (List Nat)} (h : GIs es ts nx) : Ed nx = Er es ts := by
  funext u v
  exact propext (h.ed u v)
/-- what the ring is that is told -/
def RD (es : List Eg) (l0 : List Int) : Prop := ∃ ts l, Tks es ts ∧ RingIs (Er (egs es) ts) l ∧ l0 = tks ts l
theorem RD.one {es : List Eg} {l0 l1 : List Int} (h : RD es l0) (h' : RD es l1) : l0 = l1 := by
  obtain ⟨ts, l, h1, h2, rfl⟩ := h
  obtain ⟨ts', l', h3, h4, rfl⟩ := h'
  obtain rfl := h1.one h3
  rw [h2.one h4]
theorem tks_len (ts : List Int) (l : List Nat) : (tks ts l).length = l.length := by simp [tks]
theorem rring_two {w : World} {p : Option Addr} {n c : Nat} {es : List Eg} (hE : EIn w p n es) (hz : n ≤ 4500) :
    Calls Try.prog 11 #[.slice p n c] w fun e w' => ∃ (q : Option Addr) (cq L : Nat) (l0 : List Int), e = .returned (.slice q L cq) ∧ w'.ownsRow w.heap.size 25 1 (.slice q L cq) L (U64 l0) ∧ l0.length = L ∧ RowKit.Below w.heap.size w w' ∧ RD es l0 := by
  refine (rring_at hE hz).mono ?_
  rintro e w' ⟨q, cq, l, ts, rfl, ho, hb, hup, hR⟩
  exact ⟨q, cq, l.length, tks ts l, rfl, ho, tks_len ts l, hb, ts, l, hup, hR, rfl⟩
theorem ring_two {w : World} {p : Option Addr} {n c L : Nat} {es : List Eg} {l0 : List Int} (hE : EIn w p n es) (hz : n ≤ 4500) (hR : RD es l0) (hL : l0.length = L) :
    Calls Try.prog 13 #[.slice p n c] w fun e w' => ∃ (q : Option Addr) (cq : Nat), e = .returned (.slice q L cq) ∧ w'.ownsRow w.heap.size 25 1 (.slice q L cq) L (U64 l0) ∧ RowKit.Below w.heap.size w w' := by
  refine (ring_at hE hz).mono ?_
  rintro e w' ⟨q, cq, l, ts, nx, rfl, ho, hb, hG, hRI⟩
  rw [hG.er] at hRI
  have e1 : l0 = tks ts l := hR.one ⟨ts, l, hG.tks, hRI, rfl⟩
  have e2 : l.length = L := by rw [← hL, e1, tks_len]
  rw [e2, ← e1] at ho
  rw [e2]
  exact ⟨q, cq, rfl, ho, hb⟩
/-- what the heights are that are told, or the error -/
def HD (es : List Eg) (N : Nat) (f : Int) (ts : List Int) (hs : List Nat) : Prop :=
  (f = 2 ∧ N = 0 ∧ ∃ ts', Tks es ts' ∧ ∃ x, OnR (Er (egs es) ts') x) ∨
  (f = 0 ∧ N ≤ 9000 ∧ Tks es ts ∧ ts.length = N ∧ (∀ x, ¬ OnR (Er (egs es) ts) x) ∧ ∀ H, Hgt (Er (egs es) ts) N H → (∀ x, x < N → H x ≤ N) → ∀ x, x < N → hs.getD x 0 = H x)
theorem rheights_two {w : World} {p : Option Addr} {n c : Nat} {es : List Eg} (hE : EIn w p n es) (hz : n ≤ 4500) :
    Calls Try.prog 12 #[.slice p n c] w fun e w' => ∃ (q r : Option Addr) (d d' N : Nat) (f : Int) (ts : List Int) (hs : List Nat), e = .returned (.tuple #[.slice q N d, .slice r N d', .int .i64 f]) ∧ w'.ownsRow w.heap.size 25 1 (.slice q N d) N (U64 ts) ∧ w'.ownsRow w.heap.size 3 1 (.slice r N d') N (I64 (nz hs)) ∧ N ≤ 9000 ∧ HD es N f ts hs ∧ RowKit.Below w.heap.size w w' := by
  refine (rheights_at hE hz).mono ?_
  rintro e w' ⟨hb, ts, N, hup, hN, (⟨rfl, hX⟩ | ⟨hX, hN9, q, d, g, hs, rfl, ho1, ho2, hl, hH⟩)⟩
  · exact ⟨none, none, 0, 0, 0, 2, [], [], rfl, World.ownsRow_nil _ _ _ _, World.ownsRow_nil _ _ _ _, by omega, .inl ⟨rfl, rfl, ts, hup, hX⟩, hb⟩
  · exact ⟨q, some ⟨g, 0, none⟩, d, N, N, 0, ts, hs, rfl, ho1, ho2, hN9, .inr ⟨rfl, hN9, hup, hN, hX, hH⟩, hb⟩
theorem Stl.len {E : Nat → Nat → Prop} {n : Nat} {o : List Nat} (h : Stl E n o) : o.length = n := by
  have h1 := nodup_lt (n := n) h.nd fun x hx => (h.all x).1 hx
  have h2 := nodup_le (l := List.range n) (m := o) List.nodup_range (fun x hx => (h.all x).2 (List.mem_range.1 hx))
  rw [List.length_range] at h2
  omega
theorem heights_two {w : World} {p : Option Addr} {n c N : Nat} {es : List Eg} {f : Int} {ts : List Int} {hs : List Nat} (hE : EIn w p n es) (hz : n ≤ 4500) (hw : ∀ e ∈ es, UW e.f ∧ UW e.t) (hD : HD es N f ts hs) :
    Calls Try.prog 15 #[.slice p n c] w fun e w' => ∃ mv, e = .returned (.tuple #[mv, .int .i64 f]) ∧ MS w' mv N ts hs ∧ (∀ b, mv = .map (some b) → w.heap.size ≤ b) ∧ RowKit.Below w.heap.size w w' := by
  refine (heights_at hE hz hw).mono ?_
  rintro e w' ⟨hb, ts2, nx, hG, hk9, hO⟩
  have hE2 := hG.er
  rcases hD with ⟨rfl, rfl, ts', ht', x, hx⟩ | ⟨rfl, hN9, ht, hl, hno, hH⟩
  · obtain rfl := ht'.one hG.tks
    rcases hO with ⟨rfl, _⟩ | ⟨hn, _⟩
    · exact ⟨.map none, rfl, .inl ⟨rfl, rfl⟩, fun b hb => by (cases hb), hb⟩
    · rw [hE2] at hn; exact absurd hx (hn x)
  · obtain rfl := ht.one hG.tks
    rcases hO with ⟨_, x, hx⟩ | ⟨_, mb, o, h, rfl, hmb, hStl, hHok, hmp⟩
    · rw [hE2] at hx; exact absurd hx (hno x)
    · have hol := hStl.len
      rw [hl] at hStl hol
      rw [hE2] at hStl hHok
      have hHg := hHok.done hStl
      have hbd : ∀ x, x < N → h x ≤ N := fun x hx => by
        have := hHok.low x ((hStl.all x).2 hx)
        omega
      rw [hol] at hmp
      refine ⟨.map (some mb), rfl, .inr ⟨mb, N, _, rfl, hN9, hmp, fun i hi => ?_⟩, fun b hb => by (cases hb; exact hmb), hb⟩
      have hu : UW (ts.getD i 0) := by
        have hm : ts.getD i 0 ∈ ts := by rw [List.getD, List.getElem?_eq_getElem (by omega)]; exact List.getElem_mem _
        obtain ⟨e, he, h1⟩ := (ht.2 _).1 hm
        obtain ⟨x, hx, rfl⟩ := List.mem_map.1 he
        rcases h1 with h1 | h1
        · rw [h1]; exact (hw x hx).1
        · rw [h1]; exact (hw x hx).2
      refine ⟨hu, ?_⟩
      rw [hmp_in ht.1 (fun x hx => by have := (hStl.all x).1 hx; omega) ((hStl.all i).2 hi), hH h hHg hbd i hi]
end Go.Proofs.Ytkgjmejpbklabaa
namespace Go.Proofs.Ytkgjmejpbklabaa
open Go.RowKit

open B (IIn I64)
/-- a row of one's own, in blocks of [lo, hi) -/
def Rw (W : World) (lo hi : Nat) (e : TypeId) (size : Nat) (v : Value) (n : Nat) (xs : List Value) : Prop := W.ownsRow lo e size v n xs ∧ ∀ g, v.ownBlock = some g → g < hi
section
variable {W W' : World} {lo hi size n : Nat} {e : TypeId} {v : Value} {xs : List Value}
theorem Rw.of (h : W.ownsRow lo e size v n xs) : Rw W lo W.heap.size e size v n xs := ⟨h, fun g hg => (h.lt g hg).2⟩
theorem Rw.later (h : Rw W lo hi e size v n xs) (hb : RowKit.Below W.heap.size W W') : Rw W' lo hi e size v n xs := ⟨O.own_later h.1 hb, h.2⟩
theorem Rw.far {S : Nat → Prop} (h : Rw W lo hi e size v n xs) (hk : Kept S W W') (hS : ∀ b, lo ≤ b → b < hi → ¬ S b) : Rw W' lo hi e size v n xs := ⟨O.own_far h.1 hk fun g hg => hS g (h.1.lt g hg).1 (h.2 g hg), h.2⟩
theorem Rw.in (h : Rw W lo hi e size v n xs) {g : Nat} (hg : v.ownBlock = some g) : lo ≤ g ∧ g < hi := ⟨(h.1.lt g hg).1, h.2 g hg⟩
end
/-- what stands in WaitsRing's walk: the edges as they were, the document's ring, tickets and heights, the first answer -/
structure Sg (w W : World) (s0 s1 s2 s3 s4 s5 n L N : Nat) (es : List Eg) (l0 ts : List Int) (hs : List Nat) (vw vr vt vh va : Value) : Prop where
  bel : RowKit.Below w.heap.size w W
  ww : Rw W s0 s1 45 4 vw n (ecs es)
  rr : Rw W s2 s3 25 1 vr L (U64 l0)
  tt : Rw W s3 s4 25 1 vt N (U64 ts)
  hh : Rw W s3 s4 3 1 vh N (I64 (nz hs))
  aa : Rw W s4 s5 25 1 va L (U64 l0)
  ord : w.heap.size ≤ s0 ∧ s0 ≤ s1 ∧ s1 ≤ s2 ∧ s2 ≤ s3 ∧ s3 ≤ s4 ∧ s4 ≤ s5
section
variable {w W W' : World} {s0 s1 s2 s3 s4 s5 n L N : Nat} {es : List Eg} {l0 ts : List Int} {hs : List Nat} {vw vr vt vh va : Value}
theorem Sg.later (h : Sg w W s0 s1 s2 s3 s4 s5 n L N es l0 ts hs vw vr vt vh va) (hb : RowKit.Below W.heap.size W W') : Sg w W' s0 s1 s2 s3 s4 s5 n L N es l0 ts hs vw vr vt vh va := { h with
  bel := below_then h.bel hb
  ww := h.ww.later hb
  rr := h.rr.later hb
  tt := h.tt.later hb
  hh := h.hh.later hb
  aa := h.aa.later hb }
theorem Sg.far {S : Nat → Prop} (h : Sg w W s0 s1 s2 s3 s4 s5 n L N es l0 ts hs vw vr vt vh va) (hk : Kept S W W') (hS : ∀ b, S b → (s1 ≤ b ∧ b < s2) ∨ s5 ≤ b) : Sg w W' s0 s1 s2 s3 s4 s5 n L N es l0 ts hs vw vr vt vh va := by
  obtain ⟨o0, o1, o2, o3, o4, o5⟩ := h.ord
  exact { h with
    bel := hk.into h.bel (fun b hb e => by rcases hS b e with h1 | h1 <;> omega) (Nat.le_refl _)
    ww := h.ww.far hk fun b h1 h2 e => by rcases hS b e with h1 | h1 <;> omega
    rr := h.rr.far hk fun b h1 h2 e => by rcases hS b e with h1 | h1 <;> omega
    tt := h.tt.far hk fun b h1 h2 e => by rcases hS b e with h1 | h1 <;> omega
    hh := h.hh.far hk fun b h1 h2 e => by rcases hS b e with h1 | h1 <;> omega
    aa := h.aa.far hk fun b h1 h2 e => by rcases hS b e with h1 | h1 <;> omega }
end
/-- what stands ahead of the walk of WaitsRing's rest -/
structure Fq (w W : World) (p : Option Addr) (n c : Nat) (es : List Eg) : Prop where
  bel : RowKit.Below w.heap.size w W
  e : EIn W p n es
  ew : ∀ x ∈ es, UW x.f ∧ UW x.t
  pc : p = none → c = 0
theorem Fq.later {w W W' : World} {p : Option Addr} {n c : Nat} {es : List Eg} (h : Fq w W p n c es) (hb : RowKit.Below W.heap.size W W') : Fq w W' p n c es := { h with
  bel := below_then h.bel hb
  e := h.e.later hb }
theorem in_ein {w : World} {base g m c : Nat} {es : List Eg} {x y : Eg} (h : w.ownsRow base 45 4 (.slice (some ⟨g, 0, none⟩) (m + 2) c) (m + 2) (ecs (es ++ [x, y]))) (hl : es.length = m) : EIn w (some ⟨g, 0, none⟩) m es := by
  have := (EIn.of_own h).take (k := m) (by omega)
  rw [List.take_left' hl] at this
  exact this
theorem nodup_leI : ∀ {l m : List Int}, l.Nodup → (∀ x ∈ l, x ∈ m) → l.length ≤ m.length
  | [], _, _, _ => by simp
  | a :: l, m, hd, hs => by
    have h1 : a ∈ m := hs a (by simp)
    have h2 : l.length ≤ (m.erase a).length := nodup_leI (List.nodup_cons.1 hd).2 fun x hx => by
      refine (List.mem_erase_of_ne ?_).2 (hs x (by simp [hx]))
      rintro rfl; exact (List.nodup_cons.1 hd).1 hx
    rw [List.length_erase_of_mem h1] at h2
    have : 0 < m.length := List.length_pos_of_mem h1
    simp; omega
theorem Tks.len {es : List Eg} {ts : List Int} (h : Tks es ts) : ts.length ≤ 2 * es.length := by
  have h1 := nodup_leI (m := ends (egs es)) (nd_of h.1) fun x hx => (ends_mem _ x).2 ((h.2 x).1 hx)
  rw [ends_length] at h1
  simpa using h1
theorem RingIs.len {E : Nat → Nat → Prop} {n : Nat} {l : List Nat} (h : RingIs E l) (hE : ∀ u v, E u v → u < n) : l.length ≤ n := by
  rcases h with ⟨rfl, _⟩ | ⟨t, L, h1, h2, h3, h4⟩
  · simp
  · rw [h4.len]
    obtain ⟨h5, ⟨y, hy, hw⟩, h7⟩ := h3.rat
    have hs : Sht E t (L - 1) y := ⟨hw, fun j hj hp => by have := h7 y j hy hp; omega⟩
    have := hs.lt hE (hE _ _ hy)
    omega
theorem RD.len {es : List Eg} {l0 : List Int} (h : RD es l0) : l0.length ≤ 2 * es.length := by
  obtain ⟨ts, l, h1, h2, rfl⟩ := h
  rw [tks_len]
  have := h2.len (n := ts.length) fun u v he => he.lt.1
  have := h1.len
  omega
end Go.Proofs.Ytkgjmejpbklabaa
namespace Go.Proofs.Ytkgjmejpbklabaa
open Go.RowKit

open B (IIn I64)
set_option maxHeartbeats 2000000 in
set_option maxRecDepth 100000 in
theorem waitsRing_any (w : World) {p : Option Addr} {n c : Nat} {es : List Eg} (hE : EIn w p n es) (hw : ∀ e ∈ es, UW e.f ∧ UW e.t) (hnc : n ≤ c) (hpc : p = none → c = 0) (hn : n ≤ 17592186044416) :
    Calls Try.prog 4 #[.slice p n c] w fun e w' => e = .returned (.bool true) ∧ RowKit.Below w.heap.size w w' := by
  go_enter Try.func4, Try.ntmps4
  go_wp2_with fail
  refine (awake_at _).mono ?_
  rintro e w1 ⟨rfl, hb1⟩
  have HF1 : Hid (Fq w w1 p n c es) := ⟨hb1, hE.later hb1, hw, hpc⟩
  clear hE hw hb1 hpc
  go_upto_if 26 with fail
  go_cut [0] from 27 to 28 (fun v W => ∃ (p' : Option Addr) (n' c' : Nat) (es' : List Eg), v = .slice p' n' c' ∧ n' ≤ 24 ∧ Hid (Fq w W p' n' c' es'))
  case first =>
    by_cases hn24 : 24 < n
    · have HF2 : Hid (Fq w w1 p 24 c (es.take 24)) := { HF1.out with
        e := HF1.out.e.take (by omega)
        ew := fun x hx => HF1.out.ew x (List.mem_of_mem_take hx) }
      go_wp2_with fail
      go_meet
      case rel => exact ⟨p, 24, c, _, rfl, by omega, HF2⟩
    · go_wp2_with fail
      go_meet
      case rel => exact ⟨p, n, c, es, rfl, by omega, HF1⟩
  case rest =>
    obtain ⟨p, n, c, es, rfl, hn24, HF⟩ := hcut
    clear HF1
    have HO0 : Hid ((wc.alloc (Obj.cells #[] 45)).ownsRow wc.heap.size 45 4 (.slice (some ⟨wc.heap.size, 0, none⟩) 0 0) 0 []) := O.own_empty wc (Nat.le_refl _)
    have HE0 : Hid (EIn (wc.alloc (Obj.cells #[] 45)) p n es) := HF.out.e.later (below_alloc _ _)
    have HS0 : Hid (wc.heap.size ≤ (wc.alloc (Obj.cells #[] 45)).heap.size) := by show _ ≤ _; simp
    go_wp2_with (at_builtin; refine O.wpList_edges rfl (.tmp 29) (.tmp 30) rfl rfl HO0.out rfl HE0.out HF.out.pc (by omega) HS0.out ?_; intro v1 wa ho1 hk1 _; have HBa : Hid (RowKit.Below wc.heap.size wc wa) := hk1.into (below_alloc wc _) (fun b hb e => by have := (HO0.out.lt b e).1; omega) (Nat.le_refl _); have HO1 : Hid (wa.ownsRow wc.heap.size 45 4 v1 (0 + n) ([] ++ ecs es)) := ho1; clear ho1 hk1)
    have HW1 : Hid (wa.ownsRow wc.heap.size 45 4 v1 n (ecs es)) := by
      have := HO1.out
      simp only [Nat.zero_add, List.nil_append] at this
      exact this
    obtain ⟨pw, cw, ev, -, -⟩ := O.own_form HW1.out
    subst ev
    have HFa : Hid (Fq w wa p n c es) := HF.out.later HBa.out
    have HRw : Hid (Rw wa wc.heap.size wa.heap.size 45 4 (.slice pw n cw) n (ecs es)) := Rw.of HW1.out
    have ho0 : w.heap.size ≤ wc.heap.size := HF.out.bel.size
    have ho1 : wc.heap.size ≤ wa.heap.size := HBa.out.size
    clear HO0 HE0 HS0 HBa HO1 HW1 HF
    refine (marked_at HFa.out.e (by omega) HFa.out.pc).mono ?_
    rintro e wd ⟨gm, cm, hcm, rfl, hom, hbd⟩
    have HFd : Hid (Fq w wd p n c es) := HFa.out.later hbd
    have HRd : Hid (Rw wd wc.heap.size wa.heap.size 45 4 (.slice pw n cw) n (ecs es)) := HRw.out.later hbd
    have HId : Hid (Rw wd wa.heap.size wd.heap.size 45 4 (.slice (some ⟨gm, 0, none⟩) (n + 2) cm) (n + 2) (ecs (es ++ [e77, e77]))) := Rw.of hom
    have ho2 : wa.heap.size ≤ wd.heap.size := hbd.size
    clear HFa HRw hom hbd
    generalize hs0 : wc.heap.size = s0 at *
    generalize hs1 : wa.heap.size = s1 at *
    generalize hs2 : wd.heap.size = s2 at *
    clear hs0 hs1
    have HEW : Hid (∀ x ∈ es, UW x.f ∧ UW x.t) := HFd.out.ew
    have HEL : Hid (es.length = n) := HFd.out.e.len
    have HBD : Hid (RowKit.Below w.heap.size w wd) := HFd.out.bel
    clear HFd
    go_wp2_with fail
    refine (given_at (EIn.of_own HRd.out.1) (by omega)).mono ?_
    rintro e w4 ⟨rg, cg, rfl, hog, hb4⟩
    have HG4 : Hid (EIn w4 rg n es) := EIn.of_ownR hog
    have HB4 : Hid (RowKit.Below wd.heap.size wd w4) := hb4
    clear hog hb4
    go_wp2_with fail
    refine (rring_two HG4.out (by omega)).mono ?_
    rintro e w5 ⟨qr, cr, L, l0, rfl, hor, hl0, hb5, hRD⟩
    have HB5 : Hid (RowKit.Below wd.heap.size wd w5) := below_then HB4.out hb5
    have HRR : Hid (Rw w5 s2 w5.heap.size 25 1 (.slice qr L cr) L (U64 l0)) := by
      have h1 := Rw.of hor
      refine ⟨B.own_mono h1.1 ?_, h1.2⟩
      rw [← hs2]; exact HB4.out.size
    have HRD : Hid (RD es l0) := hRD
    have HL0 : Hid (l0.length = L) := hl0
    have HR5 : Hid (Rw w5 s0 s1 45 4 (.slice pw n cw) n (ecs es)) := HRd.out.later HB5.out
    have HI5 : Hid (Rw w5 s1 s2 45 4 (.slice (some ⟨gm, 0, none⟩) (n + 2) cm) (n + 2) (ecs (es ++ [e77, e77]))) := HId.out.later HB5.out
    have HBw5 : Hid (RowKit.Below w.heap.size w w5) := below_then HBD.out HB5.out
    have ho3 : s2 ≤ w5.heap.size := by rw [← hs2]; exact HB5.out.size
    clear HG4 HB4 HRd HId HB5 HBD hor hl0 hb5 hRD hs2
    generalize hs3 : w5.heap.size = s3 at *
    go_wp2_with fail
    refine (given_at (EIn.of_own HR5.out.1) (by omega)).mono ?_
    rintro e w6 ⟨rg6, cg6, rfl, hog, hb6⟩
    have HG6 : Hid (EIn w6 rg6 n es) := EIn.of_ownR hog
    have HB6 : Hid (RowKit.Below w5.heap.size w5 w6) := hb6
    clear hog hb6
    go_wp2_with fail
    refine (rheights_two HG6.out (by omega)).mono ?_
    rintro e w7 ⟨qt, qh, dt, dh, N, f, ts, hs, rfl, hot, hoh, hN9, hHD, hb7⟩
    have HB7 : Hid (RowKit.Below w5.heap.size w5 w7) := below_then HB6.out hb7
    have hs6 : s3 ≤ w6.heap.size := by rw [← hs3]; exact HB6.out.size
    have HTT : Hid (Rw w7 s3 w7.heap.size 25 1 (.slice qt N dt) N (U64 ts)) := ⟨B.own_mono hot hs6, (Rw.of hot).2⟩
    have HHH : Hid (Rw w7 s3 w7.heap.size 3 1 (.slice qh N dh) N (I64 (nz hs))) := ⟨B.own_mono hoh hs6, (Rw.of hoh).2⟩
    have HHD : Hid (HD es N f ts hs) := hHD
    have HRR7 : Hid (Rw w7 s2 s3 25 1 (.slice qr L cr) L (U64 l0)) := HRR.out.later HB7.out
    have HR7 : Hid (Rw w7 s0 s1 45 4 (.slice pw n cw) n (ecs es)) := HR5.out.later HB7.out
    have HI7 : Hid (Rw w7 s1 s2 45 4 (.slice (some ⟨gm, 0, none⟩) (n + 2) cm) (n + 2) (ecs (es ++ [e77, e77]))) := HI5.out.later HB7.out
    have HBw7 : Hid (RowKit.Below w.heap.size w w7) := below_then HBw5.out HB7.out
    have ho4 : s3 ≤ w7.heap.size := by rw [← hs3]; exact HB7.out.size
    clear HG6 HB6 HB7 hot hoh hHD hb7 HRR HR5 HI5 HBw5 hs3 hs6
    generalize hs4 : w7.heap.size = s4 at *
    go_wp2_with fail
    refine (ring_two (in_ein HI7.out.1 HEL.out) (by omega) HRD.out HL0.out).mono ?_
    rintro e w8 ⟨qa, ca, rfl, hoa, hb8⟩
    have HSg8 : Hid (Sg w w8 s0 s1 s2 s3 s4 w8.heap.size n L N es l0 ts hs (.slice pw n cw) (.slice qr L cr) (.slice qt N dt) (.slice qh N dh) (.slice qa L ca)) := {
      bel := below_then HBw7.out hb8
      ww := HR7.out.later hb8
      rr := HRR7.out.later hb8
      tt := HTT.out.later hb8
      hh := HHH.out.later hb8
      aa := by rw [hs4] at hoa; exact Rw.of hoa
      ord := ⟨ho0, ho1, ho2, ho3, ho4, by rw [← hs4]; exact hb8.size⟩ }
    have HI8 : Hid (Rw w8 s1 s2 45 4 (.slice (some ⟨gm, 0, none⟩) (n + 2) cm) (n + 2) (ecs (es ++ [e77, e77]))) := HI7.out.later hb8
    clear hoa hb8 HR7 HRR7 HTT HHH HBw7 HI7 hs4
    generalize hs5 : w8.heap.size = s5 at *
    go_wp2_with fail
    refine (ring_two (in_ein HI8.out.1 HEL.out) (by omega) HRD.out HL0.out).mono ?_
    rintro e w9 ⟨qb, cb, rfl, hob, hb9⟩
    have HSg9 : Hid (Sg w w9 s0 s1 s2 s3 s4 s5 n L N es l0 ts hs (.slice pw n cw) (.slice qr L cr) (.slice qt N dt) (.slice qh N dh) (.slice qa L ca)) := HSg8.out.later hb9
    have HI9 : Hid (Rw w9 s1 s2 45 4 (.slice (some ⟨gm, 0, none⟩) (n + 2) cm) (n + 2) (ecs (es ++ [e77, e77]))) := HI8.out.later hb9
    have HBB : Hid (Rw w9 s5 w9.heap.size 25 1 (.slice qb L cb) L (U64 l0)) := by rw [hs5] at hob; exact Rw.of hob
    have ho6 : s5 ≤ w9.heap.size := by rw [← hs5]; exact hb9.size
    clear HSg8 HI8 hob hb9 hs5
    generalize hs6 : w9.heap.size = s6 at *
    have hL48 : L ≤ 48 := by
      have h1 := HRD.out.len
      have h2 := HL0.out
      have h3 := HEL.out
      omega
    go_wp2_with fail
    refine (same_is (uin_of_own HSg9.out.aa.1) (uin_of_own HSg9.out.rr.1) (by omega) rfl).mono ?_
    rintro e x1 ⟨rfl, k1, hx1⟩
    have HX1 : Hid (RowKit.Below w9.heap.size w9 x1) := by rw [hx1]; exact below_dr _ _ k1
    clear hx1
    go_wp2_with fail
    refine (same_is ((uin_of_own HBB.out.1).later HX1.out) ((uin_of_own HSg9.out.rr.1).later HX1.out) (by omega) rfl).mono ?_
    rintro e x2 ⟨rfl, k2, hx2⟩
    have HX2 : Hid (RowKit.Below w9.heap.size w9 x2) := by rw [hx2]; exact HX1.out.trans (below_dr _ _ k2)
    clear hx2 HX1
    go_wp2_with fail
    refine (held_at (HI9.out.later HX2.out).1 hcm (EIn.of_own (HSg9.out.ww.later HX2.out).1) (by omega)).mono ?_
    rintro e x3 ⟨rfl, hx3⟩
    have HX3 : Hid (RowKit.Below w9.heap.size w9 x3) := below_then HX2.out hx3
    have HSg : Hid (Sg w x3 s0 s1 s2 s3 s4 s5 n L N es l0 ts hs (.slice pw n cw) (.slice qr L cr) (.slice qt N dt) (.slice qh N dh) (.slice qa L ca)) := HSg9.out.later HX3.out
    have HIN : Hid (Rw x3 s1 s2 45 4 (.slice (some ⟨gm, 0, none⟩) (n + 2) cm) (n + 2) (ecs (es ++ [e77, e77]))) := HI9.out.later HX3.out
    have HBR : Hid (Rw x3 s5 s6 25 1 (.slice qb L cb) L (U64 l0)) := HBB.out.later HX3.out
    have hsz : s6 ≤ x3.heap.size := by rw [← hs6]; exact HX3.out.size
    have HOR : Hid (w.heap.size ≤ s0 ∧ s0 ≤ s1 ∧ s1 ≤ s2 ∧ s2 ≤ s3 ∧ s3 ≤ s4 ∧ s4 ≤ s5 ∧ s5 ≤ s6) := ⟨ho0, ho1, ho2, ho3, ho4, HSg9.out.ord.2.2.2.2.2, ho6⟩
    clear hx3 HX2 HX3 HSg9 HI9 HBB ho0 ho1 ho2 ho3 ho4 ho6 hs6
    go_wp2_with fail
    go_loopw [66] (fun v W => ∃ (j : Nat) (xs : List Value), v = .int .i64 (j : Int) ∧ j ≤ L ∧ Hid (Rw W s5 s6 25 1 (.slice qb L cb) L xs) ∧ Hid (Kept (fun b => s5 ≤ b ∧ b < s6) x3 W)) (fun v _ => L - (intV v).toNat)
    case atStart => exact ⟨0, _, rfl, by omega, HBR, Kept.refl _ _⟩
    case round =>
      obtain ⟨j, xs, rfl, hj, HXB, HKB⟩ := hrel
      by_cases hjl : j < L
      · obtain ⟨gb, cb', eb, hcb, hcell, hfr⟩ := O.own_some HXB.out.1 (by omega)
        have hxl : xs.length = L := by have := HXB.out.1.1; omega
        have hcj := hcell j xs[j] (by rw [List.getElem?_eq_getElem (by omega)])
        have hfj := hfr j
        cases eb
        have HXB2 : Hid (Rw (wr.setCell ⟨gb, j, none⟩ (.int .u64 7777)) s5 s6 25 1 (.slice (some ⟨gb, 0, none⟩) L cb) L (xs.set j (.int .u64 7777))) := ⟨O.own_set HXB.out.1 rfl j _, HXB.out.2⟩
        have HKB2 : Hid (Kept (fun b => s5 ≤ b ∧ b < s6) x3 (wr.setCell ⟨gb, j, none⟩ (.int .u64 7777))) := HKB.out.trans (Kept.setCell gb j _) (fun b _ e => by rw [e]; exact HXB.out.in rfl)
        clear hcell hfr hcb
        go_wp2_with fail
        go_roundw
        case rel => exact ⟨j + 1, _, rfl, by omega, HXB2, HKB2⟩
        case measure => simp [intV]; omega
      · have HS2 : Hid (Sg w wr s0 s1 s2 s3 s4 s5 n L N es l0 ts hs (.slice pw n cw) (.slice qr L cr) (.slice qt N dt) (.slice qh N dh) (.slice qa L ca)) := HSg.out.far HKB.out fun b hb => .inr hb.1
        have HI2 : Hid (Rw wr s1 s2 45 4 (.slice (some ⟨gm, 0, none⟩) (n + 2) cm) (n + 2) (ecs (es ++ [e77, e77]))) := HIN.out.far HKB.out fun b h1 h2 e => by have := HOR.out; omega
        have hz2 : s6 ≤ wr.heap.size := Nat.le_trans hsz HKB.out.size
        clear HXB HKB HSg HIN HBR hsz
        go_wp2_with fail
        refine (heights_two (in_ein HI2.out.1 HEL.out) (by omega) HEW.out HHD.out).mono ?_
        rintro e y1 ⟨mv, rfl, hMS, hmb, hby1⟩
        have HMV : Hid (MS y1 mv N ts hs ∧ ∀ b, mv = .map (some b) → s6 ≤ b ∧ b < y1.heap.size) := ⟨hMS, fun b hb => ⟨Nat.le_trans hz2 (hmb b hb), hMS.lt hb⟩⟩
        have HI3 : Hid (Rw y1 s1 s2 45 4 (.slice (some ⟨gm, 0, none⟩) (n + 2) cm) (n + 2) (ecs (es ++ [e77, e77]))) := HI2.out.later hby1
        have HS3 : Hid (Sg w y1 s0 s1 s2 s3 s4 s5 n L N es l0 ts hs (.slice pw n cw) (.slice qr L cr) (.slice qt N dt) (.slice qh N dh) (.slice qa L ca)) := HS2.out.later hby1
        have hz3 : s6 ≤ y1.heap.size := Nat.le_trans hz2 hby1.size
        clear hMS hmb hby1 HI2 HS2 hz2
        go_wp2_with fail
        refine (heights_two (in_ein HI3.out.1 HEL.out) (by omega) HEW.out HHD.out).mono ?_
        rintro e y2 ⟨nv, rfl, hNS, hnb, hby2⟩
        have HNV : Hid (MS y2 nv N ts hs ∧ ∀ b, nv = .map (some b) → y1.heap.size ≤ b) := ⟨hNS, hnb⟩
        have HMV2 : Hid (MS y2 mv N ts hs ∧ ∀ b, mv = .map (some b) → s6 ≤ b ∧ b < y1.heap.size) := ⟨HMV.out.1.later hby2, HMV.out.2⟩
        have HI4 : Hid (Rw y2 s1 s2 45 4 (.slice (some ⟨gm, 0, none⟩) (n + 2) cm) (n + 2) (ecs (es ++ [e77, e77]))) := HI3.out.later hby2
        have HS4 : Hid (Sg w y2 s0 s1 s2 s3 s4 s5 n L N es l0 ts hs (.slice pw n cw) (.slice qr L cr) (.slice qt N dt) (.slice qh N dh) (.slice qa L ca)) := HS3.out.later hby2
        have hz4 : y1.heap.size ≤ y2.heap.size := hby2.size
        clear hNS hnb hby2 HI3 HS3 HMV
        obtain ⟨s7, hs7⟩ : ∃ s7, y1.heap.size = s7 := ⟨_, rfl⟩
        rw [hs7] at HNV HMV2 hz3 hz4
        clear hs7
        have hlm := fun ty => HMV2.out.1.len ty
        have hln := fun ty => HNV.out.1.len ty
        go_wp2_with fail
        clear hlm hln
        refine (held_at HI4.out.1 hcm (EIn.of_own HS4.out.ww.1) (by omega)).mono ?_
        rintro e y3 ⟨rfl, hby3⟩
        have HNV3 : Hid (MS y3 nv N ts hs ∧ ∀ b, nv = .map (some b) → s7 ≤ b) := ⟨HNV.out.1.later hby3, HNV.out.2⟩
        have HMV3 : Hid (MS y3 mv N ts hs ∧ ∀ b, mv = .map (some b) → s6 ≤ b ∧ b < s7) := ⟨HMV2.out.1.later hby3, HMV2.out.2⟩
        have HI5 : Hid (Rw y3 s1 s2 45 4 (.slice (some ⟨gm, 0, none⟩) (n + 2) cm) (n + 2) (ecs (es ++ [e77, e77]))) := HI4.out.later hby3
        have HS5 : Hid (Sg w y3 s0 s1 s2 s3 s4 s5 n L N es l0 ts hs (.slice pw n cw) (.slice qr L cr) (.slice qt N dt) (.slice qh N dh) (.slice qa L ca)) := HS4.out.later hby3
        have hz5 : s7 ≤ y3.heap.size := Nat.le_trans hz4 hby3.size
        clear hby3 HNV HMV2 HI4 HS4 hz4 hjl hj
        go_wp2_with fail
        go_loopw [113] (fun v W => ∃ (i : Nat), v = .int .i64 (i : Int) ∧ i ≤ N ∧ Hid (RowKit.Below y3.heap.size y3 W)) (fun v _ => N - (intV v).toNat)
        case atStart => exact ⟨0, rfl, by omega, RowKit.Below.refl _ _⟩
        case round =>
          obtain ⟨i, rfl, hi, HB⟩ := hrel
          have HSi : Hid (Sg w wr s0 s1 s2 s3 s4 s5 n L N es l0 ts hs (.slice pw n cw) (.slice qr L cr) (.slice qt N dt) (.slice qh N dh) (.slice qa L ca)) := HS5.out.later HB.out
          by_cases hiN : i < N
          · obtain ⟨ub, uo, rfl, hcu⟩ := (uin_of_own HSi.out.tt.1).cells (by omega)
            obtain ⟨hb, ho, rfl, hch⟩ := (own_iin HSi.out.hh.1).cells (by omega)
            have hci := hcu i hiN
            have hhi := hch i hiN
            rw [nz_getD] at hhi
            have hlk := (HMV3.out.1.later HB.out).look hiN
            have HLN : Hid (∀ q, (Instr.lookup 39 nv (.int .u64 (ts.getD i 0)) false).run Try.prog (wr.drewN q) = .ok (.int .i64 ((hs.getD i 0 : Nat) : Int)) (wr.drewN q)) := fun q => (HNV3.out.1.later (HB.out.trans (below_dr _ _ q))).get hiN
            clear hcu hch
            generalize ts.getD i 0 = tI at *
            generalize hs.getD i 0 = hI at *
            go_wp2_with fail
            have hgn := HLN.out
            have hgn0 := HLN.out 0
            go_quiet (fail)
            have HB4 : Hid (RowKit.Below y3.heap.size y3 (wr.drewN nq)) := HB.out.trans (below_dr _ _ nq)
            clear hgn hgn0 hlk
            go_wp2_with fail
            go_roundw
            case rel => exact ⟨i + 1, rfl, by omega, HB4⟩
            case measure => simp [intV]; omega
          · obtain ⟨wR, cnt, hrange, hRgm, hbR⟩ := (HNV3.out.1.later HB.out).range
            have HRG : Hid (Rgm wR nv wr.heap.size cnt) := hRgm
            have HBR : Hid (RowKit.Below y3.heap.size y3 wR) := below_then HB.out hbR
            have hrb : s7 ≤ wr.heap.size := Nat.le_trans hz5 HB.out.size
            have hrb2 : wr.heap.size < wR.heap.size := by
              rcases hRgm with ⟨_, h1, _⟩ | ⟨b, _, h1⟩
              · exact (Array.getElem?_eq_some_iff.1 h1).1
              · obtain ⟨_, _, _, _, _, _, _, _, h4, _⟩ := h1
                exact (Array.getElem?_eq_some_iff.1 h4).1
            clear hRgm hbR HSi
            go_wp2_with fail
            clear hrange
            obtain ⟨rb, erb⟩ : ∃ rb, wr.heap.size = rb := ⟨_, rfl⟩
            rw [erb] at HRG hrb hrb2 ⊢
            clear erb
            go_loopw [19] (fun v W => ∃ (cnt : Nat), Hid (Rgm W nv rb cnt) ∧ Hid (Kept (fun z => z = rb ∨ nv = .map (some z)) wR W)) (fun v W => mleft W nv rb)
            case atStart => exact ⟨cnt, HRG, Kept.refl _ _⟩
            case round =>
              clear HRG HB
              obtain ⟨cnt, HRG, HKN⟩ := hrel
              rcases HRG.out.next 0 (.int .i64 (-1)) with hnx | ⟨x, v, w', w2, cnt', b, hnb, hnx, hen, hst, hR2, hlt, hK2⟩
              · go_wp2_with fail
                clear hnx
                have HS6 : Hid (Sg w wr s0 s1 s2 s3 s4 s5 n L N es l0 ts hs (.slice pw n cw) (.slice qr L cr) (.slice qt N dt) (.slice qh N dh) (.slice qa L ca)) := (HS5.out.later HBR.out).far HKN.out fun z hz => .inr (by
                  have h1 := HOR.out
                  rcases hz with e | e
                  · omega
                  · have := HNV3.out.2 z e; omega)
                have HI6 : Hid (Rw wr s1 s2 45 4 (.slice (some ⟨gm, 0, none⟩) (n + 2) cm) (n + 2) (ecs (es ++ [e77, e77]))) := (HI5.out.later HBR.out).far HKN.out fun b h1 h2 hz => by
                  have h1 := HOR.out
                  rcases hz with e | e
                  · omega
                  · have := HNV3.out.2 b e; omega
                have HM6 : Hid (MS wr mv N ts hs ∧ ∀ b, mv = .map (some b) → s6 ≤ b ∧ b < s7) := ⟨(HMV3.out.1.later HBR.out).far HKN.out fun b hb hz => by
                  have h1 := HMV3.out.2 b hb
                  rcases hz with e | e
                  · omega
                  · have := HNV3.out.2 b e; omega, HMV3.out.2⟩
                clear HKN HRG HS5 HI5 HMV3 HNV3 HBR
                go_loopw [159] (fun v W => ∃ (j : Nat) (xs : List Value), v = .int .i64 (j : Int) ∧ j ≤ n ∧ Hid (Rw W s1 s2 45 4 (.slice (some ⟨gm, 0, none⟩) (n + 2) cm) (n + 2) xs) ∧ Hid (Kept (· = gm) wr W)) (fun v _ => n - (intV v).toNat)
                case atStart => exact ⟨0, _, rfl, by omega, HI6, Kept.refl _ _⟩
                case round =>
                  obtain ⟨j, xs, rfl, hj, HXI, HKI⟩ := hrel
                  by_cases hjn : j < n
                  · have hxl : xs.length = (n + 2) * 4 := HXI.out.1.1
                    have hc0 : wr.cell? ⟨gm, j * 4, none⟩ = some xs[j * 4] := O.own_cell HXI.out.1 (by rw [List.getElem?_eq_getElem (by omega)])
                    have hc1 : wr.cell? ⟨gm, j * 4 + 1, none⟩ = some xs[j * 4 + 1] := O.own_cell HXI.out.1 (by rw [List.getElem?_eq_getElem (by omega)])
                    have hc2 : wr.cell? ⟨gm, j * 4 + 2, none⟩ = some xs[j * 4 + 2] := O.own_cell HXI.out.1 (by rw [List.getElem?_eq_getElem (by omega)])
                    have hc3 : wr.cell? ⟨gm, j * 4 + 3, none⟩ = some xs[j * 4 + 3] := O.own_cell HXI.out.1 (by rw [List.getElem?_eq_getElem (by omega)])
                    have hf0 : wr.frozen? ⟨gm, j * 4, none⟩ = false := O.own_free HXI.out.1 _
                    have hf1 : wr.frozen? ⟨gm, j * 4 + 1, none⟩ = false := O.own_free HXI.out.1 _
                    have hf2 : wr.frozen? ⟨gm, j * 4 + 2, none⟩ = false := O.own_free HXI.out.1 _
                    have hf3 : wr.frozen? ⟨gm, j * 4 + 3, none⟩ = false := O.own_free HXI.out.1 _
                    generalize xs[j * 4] = z0 at hc0
                    generalize xs[j * 4 + 1] = z1 at hc1
                    generalize xs[j * 4 + 2] = z2 at hc2
                    generalize xs[j * 4 + 3] = z3 at hc3
                    clear hxl
                    go_wp2_with fail
                    go_roundw
                    case rel => exact ⟨j + 1, _, rfl, by omega, ⟨O.own_set (O.own_set (O.own_set (O.own_set HXI.out.1 rfl _ _) rfl _ _) rfl _ _) rfl _ _, HXI.out.2⟩, (((HKI.out.trans (Kept.setCell gm _ _) fun _ _ h => h).trans (Kept.setCell gm _ _) fun _ _ h => h).trans (Kept.setCell gm _ _) fun _ _ h => h).trans (Kept.setCell gm _ _) fun _ _ h => h⟩
                    case measure => simp [intV]; omega
                  · have hgm := HXI.out.in (g := gm) rfl
                    have HS7 : Hid (Sg w wr s0 s1 s2 s3 s4 s5 n L N es l0 ts hs (.slice pw n cw) (.slice qr L cr) (.slice qt N dt) (.slice qh N dh) (.slice qa L ca)) := HS6.out.far HKI.out fun z hz => by rw [hz]; exact .inl hgm
                    have HM7 : Hid (MS wr mv N ts hs) := HM6.out.1.far HKI.out fun b hb hz => by
                      have h1 := HM6.out.2 b hb
                      have h2 := HOR.out
                      omega
                    clear hgm HXI HKI HS6 HI6 HM6
                    go_wp2_with fail
                    go_loopw [169] (fun v W => ∃ (i : Nat), v = .int .i64 (i : Int) ∧ i ≤ N ∧ Hid (RowKit.Below wr.heap.size wr W)) (fun v _ => N - (intV v).toNat)
                    case atStart => exact ⟨0, rfl, by omega, RowKit.Below.refl _ _⟩
                    case round =>
                      obtain ⟨i, rfl, hi, HB⟩ := hrel
                      have HSi : Hid (Sg w wr s0 s1 s2 s3 s4 s5 n L N es l0 ts hs (.slice pw n cw) (.slice qr L cr) (.slice qt N dt) (.slice qh N dh) (.slice qa L ca)) := HS7.out.later HB.out
                      by_cases hiN : i < N
                      · obtain ⟨ub, uo, rfl, hcu⟩ := (uin_of_own HSi.out.tt.1).cells (by omega)
                        obtain ⟨hb, ho, rfl, hch⟩ := (own_iin HSi.out.hh.1).cells (by omega)
                        have hci := hcu i hiN
                        have hhi := hch i hiN
                        rw [nz_getD] at hhi
                        have HLN : Hid (∀ q, (Instr.lookup 39 mv (.int .u64 (ts.getD i 0)) false).run Try.prog (wr.drewN q) = .ok (.int .i64 ((hs.getD i 0 : Nat) : Int)) (wr.drewN q)) := fun q => (HM7.out.later (HB.out.trans (below_dr _ _ q))).get hiN
                        clear hcu hch
                        generalize ts.getD i 0 = tI at *
                        generalize hs.getD i 0 = hI at *
                        go_wp2_with fail
                        have hgn := HLN.out
                        have hgn0 := HLN.out 0
                        go_quiet (fail)
                        have HB4 : Hid (RowKit.Below _ _ (wr.drewN nq)) := HB.out.trans (below_dr _ _ nq)
                        clear hgn hgn0
                        go_wp2_with fail
                        go_roundw
                        case rel => exact ⟨i + 1, rfl, by omega, HB4⟩
                        case measure => simp [intV]; omega
                      · go_wp2_with fail
                        refine (same_is (uin_of_own HSi.out.aa.1) (uin_of_own HSi.out.rr.1) (by omega) rfl).mono ?_
                        rintro e z1 ⟨rfl, k1, hz1⟩
                        have HZ1 : Hid (Sg w z1 s0 s1 s2 s3 s4 s5 n L N es l0 ts hs (.slice pw n cw) (.slice qr L cr) (.slice qt N dt) (.slice qh N dh) (.slice qa L ca)) := by rw [hz1]; exact HSi.out.later (below_dr _ _ k1)
                        clear hz1
                        go_wp2_with fail
                        refine (ring_two (EIn.of_own HZ1.out.ww.1) (by omega) HRD.out HL0.out).mono ?_
                        rintro e z2 ⟨qz, cz, rfl, hoz, hbz⟩
                        have HZ2 : Hid (Sg w z2 s0 s1 s2 s3 s4 s5 n L N es l0 ts hs (.slice pw n cw) (.slice qr L cr) (.slice qt N dt) (.slice qh N dh) (.slice qa L ca)) := HZ1.out.later hbz
                        have HUZ : Hid (UIn z2 qz L l0) := uin_of_own hoz
                        clear hoz hbz
                        go_wp2_with fail
                        refine (same_is HUZ.out (uin_of_own HZ2.out.rr.1) (by omega) rfl).mono ?_
                        rintro e z3 ⟨rfl, k3, hz3'⟩
                        have HZ3 : Hid (RowKit.Below w.heap.size w z3) := by rw [hz3']; exact HZ2.out.bel.trans (below_dr _ _ k3)
                        clear hz3'
                        go_wp2_with fail
                        go_ret
                        exact ⟨rfl, HZ3.out⟩
              · have HR2 : Hid (Rgm w2 nv rb cnt') := hR2
                have HK2 : Hid (Kept (fun z => z = rb ∨ nv = .map (some z)) wR w2) := HKN.out.trans hK2 fun z _ hz => by
                  rcases hz with e | e
                  · exact .inl e
                  · rw [e]; exact .inr hnb
                have HLT : Hid (mleft w2 nv rb < mleft wr nv rb) := by
                  show _ < _
                  rw [HR2.out.left, HRG.out.left]; exact hlt
                clear hR2 hK2 hnb hlt HRG HKN
                go_wp2_with fail
                go_roundw
                case rel => exact ⟨cnt', HR2, HK2⟩
                case measure => exact HLT.out
end Go.Proofs.Ytkgjmejpbklabaa
namespace Go.Proofs.Ytkgjmejpbklabaa
open Go.RowKit

open Go.ChangeShapes Go.WideShapes Go.ChangeAt Go.Deep

set_option maxRecDepth 100000 in
theorem waitsRing_lifted (os : Os) (started : os.Started) (H : Type) (enc : TypeId × Value → H) :
    ReturnsInHanded {} Try.checked os 4 .any (Rows.waitsRingSpec.pre6 enc Try.prog Try.f4 Rows.waitsRingRow.domain false) (Rows.waitsRingSpec.post enc Try.prog Try.f4 false true false false) := by
  refine returnsInHanded_of_change_sized (C := Try.checked) ownK started (by kernel_rfl) Try.func4
    (ChangeSpec.witness6 (enc := enc) (C := Try.checked) false ⟨#[], #[.slice none 0 0], []⟩ 8 (by kernel_rfl) (by kernel_rfl) (by kernel_rfl) (by kernel_rfl)) ?_
  intro W base args ds gs before hval0 hW _ hsz0 _
  have hval : ∀ (j : Nat) t v, Try.f4.params[j]? = some t → args[j]? = some v → Value.okWide Try.prog W .any base t v := hval0
  have hW' := hW
  obtain ⟨p, q, hA0, hV, rfl, hfz, hnd⟩ := hW
  have hA : DataW.TrodAll enc Try.prog W 0 (fun _ => true) true Try.f4.params.toList args.toList ds p := hA0
  have hsz := hsz0
  rw [Try.params4] at hA hval hsz
  obtain ⟨v0, vs0, d0, ds0, p0, q0, hargs, rfl, rfl, h0, r0⟩ := trodAll_cons hA
  obtain ⟨rfl, rfl, rfl⟩ := trodAll_nil r0
  obtain rfl : args = #[v0] := by cases args; simp_all
  obtain ⟨rfl, rfl⟩ := trodVars_none hV
  obtain ⟨a0, len0, cap0, rfl⟩ := okWide_slice Try.underlying22 (hval 0 22 v0 rfl rfl)
  have k0 := h0
  have lt0 : ∀ x ∈ p0, x.block < W.heap.size := by obtain ⟨m, hm⟩ := k0; exact DataW.trod_lt m _ _ _ hm
  obtain ⟨es, he, hlc0, hpc0, hd0, hew⟩ := openedE h0
  have hb0 := reachE hsz (j := 0) rfl rfl hd0
  clear hA0 hval0
  refine (waitsRing_any W he hew hlc0 hpc0 (by omega)).mono fun e W' ⟨he, bel⟩ => ?_
  subst he
  exact ⟨_, rfl, _, _, _, [], _, [], hW', trodAll_mk1 (shut_bool Try.underlying4 _), (trodAll_cons_mk (Below.trod laidK (by kernel_rfl) (of_decide_eq_true (by kernel_rfl)) k0 bel lt0) trodAll_mk0), rfl, bel.frame _, fun h => by cases h⟩

theorem waitsRing_holds : Rows.WaitsRingSaid :=
  OpenClaim.holds_of_wide 4 Try.f4 rfl rfl rfl rfl rfl rfl rfl ⟨rfl, rfl, rfl, rfl, rfl⟩ rfl rfl rfl rfl rfl (by kernel_rfl) Try.func4 (by kernel_rfl)
    (of_decide_eq_true (by kernel_rfl)) (by unfold Func.isWrapper; first | (rw [if_pos (by decide +kernel)]; kernel_rfl) | (rw [if_neg (by decide +kernel)]; exact ⟨rfl, rfl⟩))
    (fun os started H enc _ => waitsRing_lifted os started H enc)
#print axioms waitsRing_holds
end Go.Proofs.Ytkgjmejpbklabaa
