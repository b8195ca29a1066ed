/-
  Ring: plain mathematics: slots, owners and spans over Int. Imports nothing.
-/
import Derived.WalkKit
import Derived.WalkSpells
import Derived.WalkLawsBesides
import Derived.Test.YtmcpjokbkkfgfaaGreatDoorRows
import Derived.RangeFuncNested
import Derived.RangeFuncBound
import Derived.RangeFuncCalls
import Derived.RangeFuncLeaves
import Derived.Shelf.Abstract
import Derived.Shelf.RegionOpen
import Derived.OwnWalkIn
import Derived.TacticsInMore
import Derived.LoopNIn
import Derived.LoopIn
import Derived.Laws.BitsAllLaws
import Derived.Laws.Bits64
import Derived.Below
namespace Go.Proofs.YtmcpjokbkkfgfaaGreatDoor.G

/-- A capacity that may be. -/
abbrev Cap (n : Int) : Prop := 2 ≤ n ∧ n ≤ 64


def slotS (p n : Int) : Int × Int := if Cap n then (if p > 4611686018427387968 then (0, 31) else (p % n, 0)) else (0, 2)
def usedS (t e n : Int) : Int × Int := if Cap n then (if t > 4611686018427387904 then (0, 31) else if e < t ∨ n < e - t then (0, 30) else (e - t, 0)) else (0, 2)
def nextS (e n : Int) : Int × Int := if Cap n then (if e > 4611686018427387904 - n then (0, 31) else (e + n, 0)) else (0, 2)
/-- The one position from t on, below t + n, that has the slot s. -/
def own (s t n : Int) : Int := t + (s - t) % n
def ownerS (s t n : Int) : Int × Int := if Cap n ∧ 0 ≤ s ∧ s < n then (if t > 4611686018427387904 then (0, 31) else (own s t n, 0)) else (0, 2)

theorem own_ge (s t n : Int) (hn : 0 < n) : t ≤ own s t n := by
  have := Int.emod_nonneg (s - t) (Int.ne_of_gt hn); unfold own; omega
theorem own_lt (s t n : Int) (hn : 0 < n) : own s t n < t + n := by
  have := Int.emod_lt_of_pos (s - t) hn; unfold own; omega
theorem own_slot (s t n : Int) (_hn : 0 < n) (h0 : 0 ≤ s) (h1 : s < n) : own s t n % n = s := by
  unfold own
  rw [Int.add_emod_emod, show t + (s - t) = s by omega]
  exact Int.emod_eq_of_lt h0 h1
/-- Two positions of one lap with one slot are one. -/
theorem lap_inj (n p q : Int) (hn : 0 < n) (h : p % n = q % n) (h1 : p < q + n) (h2 : q < p + n) : p = q := by
  have hd : (p - q) % n = 0 := by rw [Int.sub_emod, h]; simp
  have h3 := Int.emod_add_mul_ediv (p - q) n
  rw [hd] at h3
  have h4 : (p - q) / n = 0 := by
    rcases Int.lt_trichotomy ((p - q) / n) 0 with h | h | h
    · exfalso
      have : n * ((p - q) / n) ≤ n * (-1) := Int.mul_le_mul_of_nonneg_left (by omega) (by omega)
      omega
    · exact h
    · exfalso
      have : n * 1 ≤ n * ((p - q) / n) := Int.mul_le_mul_of_nonneg_left (by omega) (by omega)
      omega
  rw [h4] at h3
  omega
theorem own_unique (s t n p : Int) (hn : 0 < n) (h0 : 0 ≤ s) (h1 : s < n) (hp : p % n = s) (h2 : t ≤ p) (h3 : p < t + n) : own s t n = p :=
  lap_inj n _ _ hn (by rw [own_slot s t n hn h0 h1, hp]) (by have := own_lt s t n hn; omega) (by have := own_ge s t n hn; omega)
theorem own_of_slot (t n p : Int) (hn : 0 < n) (h2 : t ≤ p) (h3 : p < t + n) : own (p % n) t n = p :=
  own_unique _ _ _ _ hn (Int.emod_nonneg _ (by omega)) (Int.emod_lt_of_pos _ hn) rfl h2 h3

/-- The numbers of 64 bits. -/
abbrev U64 := { x : Int // 0 ≤ x ∧ x < 18446744073709551616 }

/-- How many positions a span has. -/
def spanN (t e : Int) : Nat := min 64 (e - t).toNat
/-- The positions of a span. -/
def spanI (t e : Int) : List Int := (List.range (spanN t e)).map fun (i : Nat) => t + (i : Int)

theorem spanI_length (t e : Int) : (spanI t e).length = spanN t e := by simp [spanI]
theorem spanI_get (t e : Int) (i : Nat) (h : i < spanN t e) : (spanI t e)[i]? = some (t + (i : Int)) := by
  simp [spanI, h]
theorem spanI_mem (t e x : Int) (h : x ∈ spanI t e) : t ≤ x ∧ x < e ∧ x < t + 64 := by
  simp only [spanI, List.mem_map, List.mem_range] at h
  obtain ⟨i, hi, rfl⟩ := h
  unfold spanN at hi
  omega
theorem spanN_le (t e : Int) : spanN t e ≤ 64 := by unfold spanN; omega
theorem mem_spanI (t e x : Int) (h1 : t ≤ x) (h2 : x < e) (h3 : x < t + 64) : x ∈ spanI t e := by
  simp only [spanI, List.mem_map, List.mem_range]
  exact ⟨(x - t).toNat, by unfold spanN; omega, by omega⟩

/-- The first so many positions. -/
def upto (t : Int) (k : Nat) : List Int := (List.range k).map fun (i : Nat) => t + (i : Int)
theorem upto_succ (t : Int) (k : Nat) : upto t (k + 1) = upto t k ++ [t + (k : Int)] := by simp [upto, List.range_succ]
theorem upto_length (t : Int) (k : Nat) : (upto t k).length = k := by simp [upto]
theorem upto_span (t e : Int) : upto t (spanN t e) = spanI t e := rfl
theorem upto_prefix (t e : Int) (k : Nat) (h : k ≤ spanN t e) : upto t k <+: spanI t e := by
  unfold upto spanI
  obtain ⟨m, hm⟩ := Nat.exists_eq_add_of_le h
  rw [hm, List.range_add, List.map_append]
  exact List.prefix_append _ _

/-- A walk over a lap that stops at the first position with a slot stops at the owner. -/
theorem prefix_owner (s t n : Int) (hn : Cap n) (h0 : 0 ≤ s) (h1 : s < n) (pre : List Int) (x : Int) (hp : (pre ++ [x]) <+: spanI t (t + n)) (hx : x % n = s) : x = own s t n := by
  have hm : x ∈ spanI t (t + n) := hp.subset (by simp)
  have := spanI_mem _ _ _ hm
  exact (own_unique s t n x (by have := hn.1; omega) h0 h1 hx this.1 this.2.1).symm
theorem owner_in (s t n : Int) (hn : Cap n) : own s t n ∈ spanI t (t + n) := by
  have h1 := own_ge s t n (by have := hn.1; omega)
  have h2 := own_lt s t n (by have := hn.1; omega)
  have := hn.2
  exact mem_spanI _ _ _ h1 h2 (by omega)

end Go.Proofs.YtmcpjokbkkfgfaaGreatDoor.G

/-
  Contracts of layer 3, first part: what may be, slotOf, Slot, Used, Next, Span, num, lap.
-/
namespace Go.Proofs.YtmcpjokbkkfgfaaGreatDoor.G
open Go.RowKit
set_option maxHeartbeats 400000 in
set_option maxRecDepth 100000 in
theorem cap_any (n : Int) (w : World) :
    Calls Tryz.prog 93 #[.int .i64 n] w fun e w' => e = .returned (.bool (decide (Cap n))) ∧ w = w' := by
  go_enter Tryz.func93, Tryz.ntmps93
  go_wp2
  all_goals go_ret
  all_goals (refine ⟨?_, rfl⟩; simp [Cap]; omega)
theorem wrap_cap {n : Int} (h : Cap n) : IntKind.u64.wrap n = n := by
  have := h.1; have := h.2
  rw [IntKind.wrap_u64]
  omega
theorem mod_cap (p : Int) {n : Int} (h : Cap n) : 0 ≤ p % n ∧ p % n < 64 := by
  have h1 := h.1
  have h2 := h.2
  have h3 := Int.emod_nonneg p (show n ≠ 0 by omega)
  have h4 := Int.emod_lt_of_pos p (show 0 < n by omega)
  omega
theorem wrap_mod (p : Int) {n : Int} (h : Cap n) : wrap64 (p % n) = p % n := by
  have := mod_cap p h
  unfold wrap64
  omega
set_option maxHeartbeats 400000 in
set_option maxRecDepth 100000 in
theorem slotOf_any (p n : Int) (hp : 0 ≤ p) (hn : Cap n) (w : World) :
    Calls Tryz.prog 94 #[.int .u64 p, .int .i64 n] w fun e w' => e = .returned (.int .i64 (p % n)) ∧ w = w' := by
  have h1 := hn.1
  have h2 := hn.2
  have hw := wrap_cap hn
  have hm := wrap_mod p hn
  go_enter Tryz.func94, Tryz.ntmps94
  go_wp2
  all_goals go_ret
  all_goals (refine ⟨?_, rfl⟩)
  all_goals simp [hm]
/-- A pair of an int and an error; of a number of 64 bits and an error. -/
abbrev pairI (x : Int × Int) : Value := .tuple #[.int .i64 x.1, .int .i64 x.2]
abbrev pairU (x : Int × Int) : Value := .tuple #[.int .u64 x.1, .int .i64 x.2]
set_option maxHeartbeats 400000 in
set_option maxRecDepth 100000 in
theorem slot_any (p n : Int) (h0 : 0 ≤ p) (w : World) :
    Calls Tryz.prog 69 #[.int .u64 p, .int .i64 n] w fun e w' => e = .returned (pairI (slotS p n)) ∧ w = w' := by
  by_cases hn : Cap n
  · have hd := decide_eq_true hn
    by_cases hp : p > 4611686018427387968
    · have hs : Hid (slotS p n = (0, 31)) := by show _ = _; simp [slotS, hn, hp]
      have hp' : 4611686018427387968 < p := by omega
      clear hp
      go_enter Tryz.func69, Tryz.ntmps69
      go_wp2_with (go_at_call 93; refine (cap_any _ _).mono ?_; rintro e w' ⟨rfl, rfl⟩)
      go_ret2
      exact ⟨by rw [hs.out]; rfl, rfl⟩
    · have hs : Hid (slotS p n = (p % n, 0)) := by show _ = _; simp [slotS, hn, hp]
      have hp' : ¬ 4611686018427387968 < p := by omega
      clear hp
      go_enter Tryz.func69, Tryz.ntmps69
      go_wp2_with (first | (go_at_call 93; refine (cap_any _ _).mono ?_; rintro e w' ⟨rfl, rfl⟩) | (go_at_call 94; refine (slotOf_any _ _ h0 hn _).mono ?_; rintro e w' ⟨rfl, rfl⟩))
      go_ret2
      exact ⟨by rw [hs.out]; rfl, rfl⟩
  · have hd := decide_eq_false hn
    have hs : Hid (slotS p n = (0, 2)) := by show _ = _; simp [slotS, hn]
    go_enter Tryz.func69, Tryz.ntmps69
    go_wp2_with (go_at_call 93; refine (cap_any _ _).mono ?_; rintro e w' ⟨rfl, rfl⟩)
    go_ret2
    exact ⟨by rw [hs.out]; rfl, rfl⟩
theorem wrap_u {x : Int} (h0 : 0 ≤ x) (h1 : x < 18446744073709551616) : IntKind.u64.wrap x = x := by
  rw [IntKind.wrap_u64]; omega
theorem wrap_i {x : Int} (h0 : 0 ≤ x) (h1 : x < 9223372036854775808) : wrap64 x = x := by
  unfold wrap64; omega
/-- Span: the two numbers are boxed; the function captures both boxes. -/
theorem span_any (t e : Int) (w : World) :
    Calls Tryz.prog 81 #[.int .u64 t, .int .u64 e] w fun e' w' => e' = .returned (.func (.func 98) #[] #[.pointer (some ⟨w.heap.size, 0, none⟩), .pointer (some ⟨w.heap.size + 1, 0, none⟩)]) ∧ (w.alloc (.cells #[.int .u64 t] 24)).alloc (.cells #[.int .u64 e] 24) = w' := by
  have hmf : ∀ (fn : Fn) (first cap : Array Value) (w : World), (Instr.makeFunc fn first cap).run Tryz.prog w = .ok (.func fn first cap) w := fun _ _ _ _ => rfl
  go_enter Tryz.func81, Tryz.ntmps81
  go_wp2
  go_ret
  exact ⟨rfl, rfl⟩
theorem tmod_fix (m k : Int) (hk : 0 < k) : ((m.tmod k) + k).tmod k = m % k := by
  have h1 := Int.tmod_lt_of_pos m hk
  have h2 : -k < m.tmod k := by
    have := Int.lt_tmod_of_pos m hk
    omega
  rw [Int.tmod_eq_emod_of_nonneg (by omega), Int.add_emod_right]
  rw [Int.tmod_def, Int.sub_emod, Int.mul_emod_right]
  simp
end Go.Proofs.YtmcpjokbkkfgfaaGreatDoor.G

/-
  Contracts of layer 3, third part: the sequence that Span hands back, for every loop body.
-/
namespace Go.Proofs.YtmcpjokbkkfgfaaGreatDoor.G
open Go.RowKit Go.Shelf

attribute [local go_sem] Oper.semAt_some
/-- The plain numbers of a list. -/
abbrev nums (l : List U64) : List Int := l.map (·.1)
/-- What a round keeps of a sequence's own: its two boxes lie as they lay. -/
structure Kept2 (Bt Be : Nat) (W W' : World) : Prop where
  t : W'.heap[Bt]? = W.heap[Bt]?
  e : W'.heap[Be]? = W.heap[Be]?
theorem Kept2.trans {Bt Be : Nat} {A B C : World} (h : Kept2 Bt Be A B) (k : Kept2 Bt Be B C) : Kept2 Bt Be A C := ⟨k.t.trans h.t, k.e.trans h.e⟩
theorem Kept2.refl (Bt Be : Nat) (W : World) : Kept2 Bt Be W W := ⟨rfl, rfl⟩
theorem Kept2.of_below {Bt Be n₀ : Nat} {W W' : World} (h : Below n₀ W W') (ht : Bt < n₀) (he : Be < n₀) : Kept2 Bt Be W W' := ⟨h.block _ ht, h.block _ he⟩
theorem Kept2.set {Bt Be b : Nat} (W : World) (v : Value) (ht : Bt ≠ b) (he : Be ≠ b) : Kept2 Bt Be W (W.setCell ⟨b, 0, none⟩ v) := ⟨Below.heap_setCell _ _ _ _ ht, Below.heap_setCell _ _ _ _ he⟩
theorem Kept2.alloc {Bt Be : Nat} (W : World) (o : Obj) (ht : Bt < W.heap.size) (he : Be < W.heap.size) : Kept2 Bt Be W (W.alloc o) := ⟨Below.heap_alloc _ _ _ ht, Below.heap_alloc _ _ _ he⟩
theorem Kept2.keeps {Bt Be : Nat} {w : World} (ht : Bt < w.heap.size) (he : Be < w.heap.size) (W : World) (l : Nat) (o o' : Obj) (hl : w.heap.size ≤ l) (_ : W.heap[l]? = some o) (_ : o.isCells = false) (_ : o.isWalk = false) : Kept2 Bt Be W (W.putObj l o') :=
  ⟨World.putObj_heap_other (by omega), World.putObj_heap_other (by omega)⟩
set_option maxRecDepth 100000 in
set_option maxHeartbeats 1000000 in
set_option maxRecDepth 100000 in
theorem span1_in (F : Fence) (n : Nat) (h23 : F.fn 98) (hro : F.round = none) (hn : 1 ≤ n) (l Bt Be : Nat) (t e : Int) (ht0 : 0 ≤ t) (ht1 : t < 18446744073709551616) (he0 : 0 ≤ e) (he1 : e < 18446744073709551616) (J Jx : List U64 → World → Prop)
    (hY : ∀ pre x W, J pre W → pre.length < spanN t e → YieldAt F (n - 1) Tryz.prog l #[.int .u64 x.1] W fun e W' =>
      (e = .returned (.bool true) ∧ J (pre ++ [x]) W' ∧ Kept2 Bt Be W W') ∨ (e = .returned (.bool false) ∧ Jx (pre ++ [x]) W'))
    (W : World) (hct : W.cell? ⟨Bt, 0, none⟩ = some (.int .u64 t)) (hce : W.cell? ⟨Be, 0, none⟩ = some (.int .u64 e)) (h0 : J [] W) :
    CallsIn F n Tryz.prog 98 #[.func (.yield l) #[] #[], .pointer (some ⟨Bt, 0, none⟩), .pointer (some ⟨Be, 0, none⟩)] W fun e' W' => (∃ v, e' = .returned v) ∧
      ((∃ ys, nums ys = spanI t e ∧ J ys W') ∨ (∃ pre, nums pre <+: spanI t e ∧ Jx pre W')) := by
  refine callsIn_of_wp Tryz.func98 rfl h23 ?_ hro
  simp only [Tryz.ntmps98, List.size_toArray, List.length_cons, List.length_nil, Nat.reduceAdd, Nat.reduceSub, Array.replicate_succ, Array.replicate_zero, List.push_toArray, List.append_toArray, List.nil_append, List.cons_append]
  gi_wp2
  gi_loopw [4] (fun p wr => ∃ (pre : List U64) (k : Nat), p = .int .u64 (t + k) ∧ k ≤ spanN t e ∧ Hid (nums pre = upto t k) ∧ wr.cell? ⟨Bt, 0, none⟩ = some (.int .u64 t) ∧ wr.cell? ⟨Be, 0, none⟩ = some (.int .u64 e) ∧ J pre wr)
    (fun p _ => spanN t e - (intOf p - t).toNat)
  case atStart =>
    exact ⟨[], 0, by simp, Nat.zero_le _, rfl, hct, hce, h0⟩
  case round =>
    obtain ⟨pre, k, rfl, hk, HP, hct, hce, hJs⟩ := hrel
    have hN : spanN t e = min 64 (e - t).toNat := rfl
    by_cases hlt : k < spanN t e
    · have w0 : IntKind.u64.wrap (t + (k : Int) - t) = k := by rw [show t + (k : Int) - t = k by omega]; exact wrap_u (by omega) (by omega)
      have w1 : IntKind.u64.wrap (t + (k : Int) + 1) = t + (k : Int) + 1 := wrap_u (by omega) (by omega)
      have c1 : t + (k : Int) < e := by omega
      have c2 : (k : Int) < 64 := by omega
      have hpl : pre.length = k := by have := congrArg List.length HP.out; simpa [upto_length] using this
      obtain ⟨fn, tmps, assign, body, hy, hR⟩ := hY pre ⟨t + (k : Int), by omega, by omega⟩ wr hJs (by omega)
      dsimp only at hy
      have HQ : Hid (nums (pre ++ [⟨t + (k : Int), by omega, by omega⟩]) = upto t (k + 1)) := by
        show _ = _
        rw [upto_succ, ← HP.out]; simp [nums]
      clear hN
      gi_wp2
      refine hR.mono ?_
      rintro e' W3 (⟨rfl, hJ3, hk3⟩ | ⟨rfl, hJx3⟩)
      · have hct3 : W3.cell? ⟨Bt, 0, none⟩ = some (.int .u64 t) := (World.cell?_of_block hk3.t).trans hct
        have hce3 : W3.cell? ⟨Be, 0, none⟩ = some (.int .u64 e) := (World.cell?_of_block hk3.e).trans hce
        gi_wp2
        go_roundw
        case rel => exact ⟨_, k + 1, by congr 1; omega, by omega, HQ, hct3, hce3, hJ3⟩
        case measure => simp only [intOf]; omega
      · gi_wp2
        refine bodyPost_ret (results_none rfl _ _ _) rfl ?_
        exact ⟨⟨_, rfl⟩, .inr ⟨_, by rw [HQ.out]; exact upto_prefix t e (k + 1) (by omega), hJx3⟩⟩
    · have hke : k = spanN t e := by omega
      have HE : Hid (nums pre = spanI t e) := by show _ = _; rw [HP.out, hke]; rfl
      have w0 : IntKind.u64.wrap (t + (k : Int) - t) = k := by rw [show t + (k : Int) - t = k by omega]; exact wrap_u (by omega) (by omega)
      by_cases c1 : t + (k : Int) < e
      · have c2 : ¬ (k : Int) < 64 := by omega
        clear hN
        gi_wp2
        go_end0
        exact ⟨⟨_, rfl⟩, .inl ⟨pre, HE.out, hJs⟩⟩
      · clear hN
        gi_wp2
        go_end0
        exact ⟨⟨_, rfl⟩, .inl ⟨pre, HE.out, hJs⟩⟩
/-- **The sequence that Span hands back**: all positions, or a beginning of them, where a round has said 'no more'. -/
theorem span_stops (F : Fence) (n : Nat) (h23 : F.fn 98) (hro : F.round = none) (hn : 1 ≤ n) (Bt Be : Nat) (t e : Int) (ht0 : 0 ≤ t) (ht1 : t < 18446744073709551616) (he0 : 0 ≤ e) (he1 : e < 18446744073709551616) (w : World)
    (bT : Boxed w Bt 24 (.int .u64 t)) (bE : Boxed w Be 24 (.int .u64 e)) :
    SeqStopsK F n Tryz.prog 98 #[.pointer (some ⟨Bt, 0, none⟩), .pointer (some ⟨Be, 0, none⟩)] (fun x : U64 => #[Value.int .u64 x.1]) (Kept2 Bt Be) (fun ys => nums ys = spanI t e) (fun pre => nums pre <+: spanI t e) (spanN t e) w := fun l J Jx W hW _ _ hY h0 =>
  span1_in F n h23 hro hn l Bt Be t e ht0 ht1 he0 he1 J Jx hY W ((hW.cell (p := ⟨Bt, 0, none⟩) bT.lt).trans bT.cell) ((hW.cell (p := ⟨Be, 0, none⟩) bE.lt).trans bE.cell) h0
end Go.Proofs.YtmcpjokbkkfgfaaGreatDoor.G

/-
  A range over an iterator that ranges over another one itself. The library's contract of an iterator hands the loop's invariant on as one that abides new blocks and turns of walks; an iterator that holds a loop of its own turns that loop's record, too, and wants its record kept by the rounds that it asks for. So: a contract that says both (SeqIn), and the law of the loop over it (range_in).
-/
namespace Go.Proofs.YtmcpjokbkkfgfaaGreatDoor
open Go.RowKit Go.Shelf

/-- where no depth is asked, a round may be asked for from any depth, and from within another loop's round -/
theorem yield_deep {F : Fence} (hd : F.depth = none) {m : Nat} (m' l₁ : Nat) {P : Program} {l : Nat} {args : Array Value} {W : World} {R : Ending → World → Prop} (h : YieldAt F m P l args W R) : YieldAt (F.inRound l₁) m' P l args W R := by
  obtain ⟨fn, tmps, assign, body, hy, hf, hR⟩ := h
  exact ⟨fn, tmps, assign, body, hy, hf, fun c cs _ => hR c cs (fun d e => by rw [hd] at e; cases e)⟩

/-- the contract: the invariants abide whatever turns no cells from here on; a round keeps what is no cells and was laid from here on -/
def SeqIn {α : Type} (F : Fence) (n : Nat) (P : Program) (g : Nat) (lb : Array Value) (encs : α → Array Value) (Kp : World → World → Prop) (S Sp : List α → Prop) (N : Nat) (w : World) : Prop :=
  ∀ (l : Nat) (J Jx : List α → World → Prop) (W : World), Below w.heap.size w W → OwnFrom W.heap.size J → OwnFrom W.heap.size Jx →
    (∀ pre x V, J pre V → pre.length < N → YieldAt F (n - 1) P l (encs x) V fun e V' =>
      KeepsFrom W.heap.size V V' ∧ ((e = .returned (.bool true) ∧ J (pre ++ [x]) V' ∧ Kp V V') ∨ (e = .returned (.bool false) ∧ Jx (pre ++ [x]) V'))) →
    J [] W →
    CallsIn F n P g (#[.func (.yield l) #[] #[]] ++ lb) W fun e V => (∃ v, e = .returned v) ∧ ((∃ xs, S xs ∧ J xs V) ∨ (∃ pre, Sp pre ∧ Jx pre V))

/-- the two blocks that a loop lays: that of its rounds' deferred calls, and its record in this state -/
structure Laid2 (D : Nat) (r : Loop) (W : World) : Prop where
  rcd : W.heap[D + 1]? = some (.loop r)
  dfr : W.heap[D]? = some (.deferred (some []))
theorem Laid2.lt {D : Nat} {r : Loop} {W : World} (h : Laid2 D r W) : D + 1 < W.heap.size := (Array.getElem?_eq_some_iff.1 h.rcd).1
theorem Laid2.keeps {D : Nat} {r : Loop} {W W' : World} (h : Laid2 D r W) (hk : KeepsFrom D W W') : Laid2 D r W' := ⟨hk.same _ _ (by omega) h.rcd rfl, hk.same _ _ (Nat.le_refl _) h.dfr rfl⟩
theorem Laid2.put {D : Nat} {r : Loop} {W : World} (h : Laid2 D r W) (r' : Loop) : Laid2 D r' (W.putObj (D + 1) (.loop r')) := ⟨World.putObj_heap_same h.lt, (World.putObj_heap_other (by omega)).trans h.dfr⟩
theorem Laid2.own {D : Nat} {r : Loop} {β : Type} : OwnFrom (D + 2) (fun (_ : β) W => Laid2 D r W) := fun _ W W' row hs hg hr => by
  have e : ∀ k, k < D + 2 → k < W.heap.size → W'.heap[k]? = W.heap[k]? := fun k h1 h2 => hg.block k h2 fun e => by have := (hr k e.symm).1; omega
  have := hs.lt
  exact ⟨(e _ (by omega) (by omega)).trans hs.rcd, (e _ (by omega) (by omega)).trans hs.dfr⟩
theorem keeps_put (D : Nat) (W : World) (r' : Loop) : KeepsFrom (D + 2) W (W.putObj (D + 1) (.loop r')) :=
  ⟨by simp, fun _ _ hk h1 _ => (World.putObj_heap_other (by omega)).trans h1⟩
theorem keeps_more {B C : Nat} {W W' : World} (h : KeepsFrom B W W') (hb : B ≤ C) : KeepsFrom C W W' := ⟨h.size, fun k o hk => h.same k o (by omega)⟩

section
variable {F : Fence} {n : Nat} {P : Program}
/-- **the law** -/
theorem range_in {α : Type} {g : Operand} {ps : Array Tmp} {assign body : Code} {Q : Exit → Act → World → Prop} {a : Act} {w : World}
    (hro : F.round = none) (h1 : 1 ≤ n) {gf : Nat} {lb : Array Value} (hg : a.eval g = .func (.func gf) #[] lb) (hFg : F.fn gf) (eg : ∀ args w, (callFunc gf args).run P w = .ok (.enter gf args) w)
    {encs : α → Array Value} {Kp : World → World → Prop} {S Sp : List α → Prop} {N : Nat} {w0 : World} (hseq : SeqIn F (n - 1) P gf lb encs Kp S Sp N w0)
    (hKt : ∀ {A B C : World}, Kp A B → Kp B C → Kp A C) (hKb : ∀ (W : World) (l : Nat) (o o' : Obj), w.heap.size ≤ l → W.heap[l]? = some o → o.isCells = false → Kp W (W.putObj l o')) (hb0 : Below w0.heap.size w0 w) (hps : ∀ x, (encs x).size = ps.size)
    (I : List α → World → Prop) (Ix : Code → List α → World → Prop) (hI : OwnFrom w.heap.size I) (hIx : ∀ c, OwnFrom w.heap.size (Ix c)) (h0 : I [] w) (Ax : α → Act → World → Prop) (hAx : ∀ x a', OwnFrom w.heap.size (fun (_ : Unit) W => Ax x a' W))
    (hassign : ∀ (l : Nat) (pre : List α) (x : α) (W : World) (K : Act → World → Prop), I pre W → (∀ a' W', KeepsFrom w.heap.size W W' → Kp W W' → I pre W' → Ax x a' W' → K a' W') →
      assign.wpIn (F.inRound l) (n - 1 - 1) P (Exit.then K (fun _ _ _ => False)) { tmps := (ps.zip (encs x)).foldl (fun t (p, v) => t.setIfInBounds p v) a.tmps, defers := [] } W)
    (hbody : ∀ (l : Nat) (pre : List α) (x : α) (a' : Act) (W : World), I pre W → Ax x a' W → pre.length < N → body.wpIn (F.inRound l) (n - 1 - 1) P (ownPostG w.heap.size Kp I Ix (pre ++ [x]) W) a' W)
    (hdone : ∀ (D : Nat) (xs : List α) (W : World), w.heap.size ≤ D → S xs → I xs W → W.heap[D]? = some (.deferred (some [])) → Q .normal { a with defers := { target := .collected D, args := #[] } :: a.defers } W)
    (hstop : ∀ (D : Nat) (c : Code) (pre : List α) (W : World), w.heap.size ≤ D → Sp pre → Ix c pre W → W.heap[D]? = some (.deferred (some [])) → c.wpIn F n P Q { a with defers := { target := .collected D, args := #[] } :: a.defers } W) :
    (Code.rangeFunc g ps assign body).wpIn F n P Q a w := by
  obtain ⟨D, hD⟩ : ∃ D, D = w.heap.size := ⟨_, rfl⟩
  refine wpIn_rangeFunc fun fn hfn => ?_
  rw [hro]
  let rec0 : LoopState → Option Code → Loop := fun st pe => { state := st, pending := pe, fn, tmps := a.tmps, params := ps, assign, body, defers := w.heap.size }
  obtain ⟨V0, hV0⟩ : ∃ V, (w.alloc (.deferred (some []))).alloc (.loop (rec0 .ready none)) = V := ⟨_, rfl⟩
  have hs0 : V0.heap.size = D + 2 := by rw [← hV0, hD]; simp
  have L0 : Laid2 D (rec0 .ready none) V0 := by
    rw [← hV0, hD]
    refine ⟨?_, (Below.heap_alloc _ _ _ (by simp)).trans (World.alloc_heap_new w _)⟩
    have := World.alloc_heap_new (w.alloc (.deferred (some []))) (.loop (rec0 .ready none))
    rwa [World.size_alloc] at this
  have hb1 : Below w0.heap.size w0 V0 := by
    rw [← hV0]; exact hb0.trans ((((Below.refl _ w).alloc (Nat.le_refl _) _).alloc (by simp) _).mono hb0.size)
  refine ⟨D + 1, [{ target := .collected D, args := #[] }], V0, { target := .fn (.func gf) lb, args := #[.func (.yield (D + 1)) #[] #[]] }, V0, gf, #[.func (.yield (D + 1)) #[] #[]] ++ lb, V0, ?_, ?_, ?_, ?_, fun _ => h1, ?_⟩
  · rw [← hV0, hD]; exact run_enterLoop_outer _ _ _ _ _
  · simp only [resolve, hg]; simp [go_sem]
  · intro f' hf'; simp [Target.leads] at hf'; subst hf'; exact hFg
  · simp [invoke, go_sem, eg]
  have hIw : OwnFrom (D + 2) I := fun s A B row hs hg' hr => hI s A B row hs hg' fun r e => ⟨by have := (hr r e).1; omega, (hr r e).2⟩
  have hIxw : ∀ c, OwnFrom (D + 2) (Ix c) := fun c s A B row hs hg' hr => hIx c s A B row hs hg' fun r e => ⟨by have := (hr r e).1; omega, (hr r e).2⟩
  refine (hseq (D + 1) (fun pre W => I pre W ∧ Laid2 D (rec0 .ready none) W) (fun pre W => ∃ c, Ix c pre W ∧ Laid2 D (rec0 .done (some c)) W) V0 hb1 ?_ ?_ ?_ ⟨?_, L0⟩).mono ?_
  · rw [hs0]; exact OwnFrom.and hIw Laid2.own
  · rw [hs0]; intro s A B row hs hg' hr
    obtain ⟨c, hc, hl⟩ := hs
    exact ⟨c, hIxw c s A B row hc hg' hr, Laid2.own () A B row hl hg' hr⟩
  · rintro pre x W ⟨hi, hl⟩ hlen
    rw [hs0]
    refine ⟨fn, _, assign, body, run_yield hl.rcd (hps x), roundIn_of_wpIn hfn (hassign _ pre x W _ hi ?_)⟩
    intro a' Wa ka kpa hia hax
    rw [← hD] at ka
    have la := hl.keeps ka
    refine ⟨_, run_beginRound la.rcd rfl, ?_⟩
    have lb' := la.put { rec0 .ready none with state := .busy }
    refine wpIn_mono (hbody _ pre x a' _ (hI.putObj _ hia (by omega) la.rcd rfl) ((hAx x a').putObj (s := ()) _ hax (by omega) la.rcd rfl) hlen) ?_
    have fin : ∀ (jump : Option Code) (W3 : World), KeepsFrom w.heap.size (Wa.putObj (D + 1) (.loop { rec0 .ready none with state := .busy })) W3 →
        ∃ r, W3.heap[D + 1]? = some (.loop r) ∧ (Instr.endRound (D + 1) jump).run P W3 = .ok (.bool jump.isNone) (W3.putObj (D + 1) (.loop (rec0 (if jump.isNone then .ready else .done) jump))) ∧
        Laid2 D (rec0 (if jump.isNone then .ready else .done) jump) (W3.putObj (D + 1) (.loop (rec0 (if jump.isNone then .ready else .done) jump))) ∧
        KeepsFrom (D + 2) W (W3.putObj (D + 1) (.loop (rec0 (if jump.isNone then .ready else .done) jump))) := fun jump W3 k3 => by
      rw [← hD] at k3
      have l3 := lb'.keeps k3
      exact ⟨_, l3.rcd, run_endRound jump l3.rcd, l3.put _, (((keeps_more ka (by omega)).trans (keeps_put D _ _)).trans (keeps_more k3 (by omega))).trans (keeps_put D _ _)⟩
    rintro e a3 W3 hp
    cases e with
    | normal =>
      obtain ⟨k3, kp3, i3⟩ := hp
      obtain ⟨r, hr, e3, l3, kk⟩ := fin none W3 k3
      exact ⟨_, _, e3, kk, .inl ⟨rfl, ⟨hI.putObj _ i3 (by omega) hr rfl, l3⟩, hKt kpa (hKt (hKt (hKb _ _ _ _ (by omega) la.rcd rfl) kp3) (hKb _ _ _ _ (by omega) hr rfl))⟩⟩
    | ret =>
      obtain ⟨k3, i3⟩ := hp
      obtain ⟨r, hr, e3, l3, kk⟩ := fin (some .ret) W3 k3
      exact ⟨_, _, e3, kk, .inr ⟨rfl, .ret, (hIx _).putObj _ i3 (by omega) hr rfl, l3⟩⟩
    | exit id =>
      obtain ⟨k3, i3⟩ := hp
      obtain ⟨r, hr, e3, l3, kk⟩ := fin (some (.exit id)) W3 k3
      exact ⟨_, _, e3, kk, .inr ⟨rfl, .exit id, (hIx _).putObj _ i3 (by omega) hr rfl, l3⟩⟩
    | goto t =>
      obtain ⟨k3, i3⟩ := hp
      obtain ⟨r, hr, e3, l3, kk⟩ := fin (some (.goto t)) W3 k3
      exact ⟨_, _, e3, kk, .inr ⟨rfl, .goto t, (hIx _).putObj _ i3 (by omega) hr rfl, l3⟩⟩
    | panic ch => exact hp.elim
    | outgrown => exact hp.elim
  · rw [← hV0]; exact hI.alloc _ (hI.alloc _ h0)
  · rintro e W2 ⟨⟨v, rfl⟩, (⟨xs, hS, hi, hl⟩ | ⟨pre, hSp, c, hi, hl⟩)⟩
    · exact ⟨none, _, run_endLoop hl.rcd (by simp [rec0]), hdone _ xs _ (by omega) hS (hI.putObj _ hi (by omega) hl.rcd rfl) ((World.putObj_heap_other (by omega)).trans hl.dfr)⟩
    · exact ⟨some c, _, run_endLoop hl.rcd (by simp [rec0]), hstop _ c pre _ (by omega) hSp ((hIx c).putObj _ hi (by omega) hl.rcd rfl) ((World.putObj_heap_other (by omega)).trans hl.dfr)⟩
end
end Go.Proofs.YtmcpjokbkkfgfaaGreatDoor

/-
  Plain mathematics of layer 1 (octet): numbers and their bytes. Nothing of the dump.
-/
namespace Go.Proofs.YtmcpjokbkkfgfaaGreatDoor

/-- each number is a byte's -/
def Bytes (xs : List Int) : Prop := ∀ x ∈ xs, 0 ≤ x ∧ x < 256

/-- the number whose bytes these are, the lowest first -/
def worth : List Int → Int
  | [] => 0
  | x :: r => x + 256 * worth r

/-- the first k bytes of a number, the lowest first -/
def digits : Nat → Int → List Int
  | 0, _ => []
  | k + 1, n => (n % 256) :: digits k (n / 256)

theorem Bytes.nil : Bytes [] := fun x h => by cases h
theorem Bytes.cons {x : Int} {r : List Int} (h : 0 ≤ x ∧ x < 256) (hr : Bytes r) : Bytes (x :: r) := fun y hy => by
  rcases List.mem_cons.1 hy with rfl | hy
  · exact h
  · exact hr y hy
theorem Bytes.tail {x : Int} {r : List Int} (h : Bytes (x :: r)) : Bytes r := fun y hy => h y (List.mem_cons_of_mem _ hy)
theorem Bytes.head {x : Int} {r : List Int} (h : Bytes (x :: r)) : 0 ≤ x ∧ x < 256 := h x List.mem_cons_self
theorem Bytes.take {xs : List Int} (h : Bytes xs) (k : Nat) : Bytes (xs.take k) := fun y hy => h y (List.mem_of_mem_take hy)
theorem Bytes.drop {xs : List Int} (h : Bytes xs) (k : Nat) : Bytes (xs.drop k) := fun y hy => h y (List.mem_of_mem_drop hy)
theorem Bytes.append {xs ys : List Int} (h : Bytes xs) (k : Bytes ys) : Bytes (xs ++ ys) := fun y hy => by
  rcases List.mem_append.1 hy with hy | hy
  · exact h y hy
  · exact k y hy
theorem Bytes.at {xs : List Int} (h : Bytes xs) (i : Nat) (hi : i < xs.length) : 0 ≤ xs[i] ∧ xs[i] < 256 := h _ (List.getElem_mem hi)

theorem pow_pos (k : Nat) : (0 : Int) < 256 ^ k := Int.pow_pos (by omega)

theorem worth_bd : ∀ (xs : List Int), Bytes xs → 0 ≤ worth xs ∧ worth xs < 256 ^ xs.length
  | [], _ => by simp [worth]
  | x :: r, h => by
    have ih := worth_bd r h.tail
    have hx := h.head
    have e : (256 : Int) ^ (x :: r).length = 256 * 256 ^ r.length := by rw [List.length_cons, Int.pow_succ, Int.mul_comm]
    rw [e]
    simp only [worth]
    omega

theorem worth_append : ∀ (xs ys : List Int), worth (xs ++ ys) = worth xs + 256 ^ xs.length * worth ys
  | [], ys => by simp [worth]
  | x :: r, ys => by
    rw [List.cons_append, worth, worth_append r ys, worth, List.length_cons, Int.pow_succ]
    rw [Int.mul_add, Int.add_assoc, ← Int.mul_assoc, Int.mul_comm 256 (256 ^ r.length)]

theorem worth_take_succ (xs : List Int) (k : Nat) (hk : k < xs.length) : worth (xs.take (k + 1)) = worth (xs.take k) + xs[k] * 256 ^ k := by
  rw [List.take_succ_eq_append_getElem hk, worth_append, List.length_take, Nat.min_eq_left (by omega)]
  simp only [worth]
  rw [Int.mul_zero, Int.add_zero, Int.mul_comm]

theorem or_step (z x : Int) (k : Nat) (hk : k < 8) (hz0 : 0 ≤ z) (hz1 : z < 256 ^ k) (hx0 : 0 ≤ x) (hx1 : x < 256) :
    bits .or .u64 z (IntKind.u64.wrap (x * 2 ^ (8 * k))) = z + x * 256 ^ k := by
  have e256 : (256 : Int) ^ k = 2 ^ (8 * k) := by rw [Int.pow_mul]; rfl
  have hb : x * 2 ^ (8 * k) < 18446744073709551616 := by
    have h8 : k = 0 ∨ k = 1 ∨ k = 2 ∨ k = 3 ∨ k = 4 ∨ k = 5 ∨ k = 6 ∨ k = 7 := by omega
    rcases h8 with rfl | rfl | rfl | rfl | rfl | rfl | rfl | rfl <;> simp <;> omega
  have hp : (0 : Int) < 2 ^ (8 * k) := by rw [← e256]; exact pow_pos k
  have h0 : 0 ≤ x * 2 ^ (8 * k) := Int.mul_nonneg hx0 (Int.le_of_lt hp)
  have e2 : IntKind.u64.wrap (x * 2 ^ (8 * k)) = x * 2 ^ (8 * k) := by rw [IntKind.wrap_u64]; omega
  rw [e2, e256]
  rw [e256] at hz1
  have hz2 : z < 18446744073709551616 := by
    have h8 : k = 0 ∨ k = 1 ∨ k = 2 ∨ k = 3 ∨ k = 4 ∨ k = 5 ∨ k = 6 ∨ k = 7 := by omega
    rcases h8 with rfl | rfl | rfl | rfl | rfl | rfl | rfl | rfl <;> simp at hz1 <;> omega
  rw [u64_or z _ hz0 hz2 h0 hb]
  obtain ⟨zn, rfl⟩ := Int.eq_ofNat_of_zero_le hz0
  obtain ⟨xn, rfl⟩ := Int.eq_ofNat_of_zero_le hx0
  have e3 : (xn : Int) * 2 ^ (8 * k) = ((xn * 2 ^ (8 * k) : Nat) : Int) := by simp
  have hz3 : zn < 2 ^ (8 * k) := by
    have : (zn : Int) < ((2 ^ (8 * k) : Nat) : Int) := by simpa using hz1
    omega
  rw [e3, Int.toNat_natCast, Int.toNat_natCast, Nat.or_comm, nat_join (8 * k) (xn * 2 ^ (8 * k)) zn (by simp) hz3]
  omega

theorem digits_length : ∀ (k : Nat) (n : Int), (digits k n).length = k
  | 0, _ => rfl
  | k + 1, n => by simp [digits, digits_length k]

theorem digits_bytes : ∀ (k : Nat) (n : Int), Bytes (digits k n)
  | 0, _ => Bytes.nil
  | k + 1, n => Bytes.cons (by omega) (digits_bytes k _)

theorem digits_get : ∀ (k : Nat) (n : Int) (i : Nat) (hi : i < (digits k n).length), (digits k n)[i] = n / 256 ^ i % 256
  | 0, _, i, hi => by simp [digits] at hi
  | k + 1, n, 0, _ => by simp [digits]
  | k + 1, n, i + 1, hi => by
    have hi' : i < (digits k (n / 256)).length := by simpa [digits] using hi
    have ih := digits_get k (n / 256) i hi'
    simp only [digits, List.getElem_cons_succ]
    rw [ih, Int.pow_succ, Int.mul_comm, ← Int.ediv_ediv_of_nonneg (by omega)]

theorem worth_digits : ∀ (k : Nat) (n : Int), worth (digits k n) = n % 256 ^ k
  | 0, n => by simp [digits, worth, Int.emod_one]
  | k + 1, n => by
    rw [digits, worth, worth_digits k, Int.pow_succ, Int.mul_comm (256 ^ k) 256]
    have h := Int.emod_add_mul_ediv n 256
    have h2 := Int.emod_add_mul_ediv (n / 256) (256 ^ k)
    have hp := pow_pos k
    have hb := Int.emod_nonneg (n / 256) (Int.ne_of_gt hp)
    have hc := Int.emod_lt_of_pos (n / 256) hp
    have e : n = (n % 256 + 256 * (n / 256 % 256 ^ k)) + 256 * 256 ^ k * (n / 256 / 256 ^ k) := by
      rw [Int.mul_assoc, Int.add_assoc, ← Int.mul_add, h2, h]
    have hr : 0 ≤ n % 256 ∧ n % 256 < 256 := by omega
    have hl : (n % 256 + 256 * (n / 256 % 256 ^ k)) % (256 * 256 ^ k) = n % 256 + 256 * (n / 256 % 256 ^ k) := Int.emod_eq_of_lt (by omega) (by omega)
    conv => rhs; rw [e, Int.add_mul_emod_self_left, hl]

theorem digits_worth : ∀ (xs : List Int), Bytes xs → digits xs.length (worth xs) = xs
  | [], _ => rfl
  | x :: r, h => by
    have hx := h.head
    rw [List.length_cons, digits, worth]
    have e1 : (x + 256 * worth r) % 256 = x := by omega
    have e2 : (x + 256 * worth r) / 256 = worth r := by omega
    rw [e1, e2, digits_worth r h.tail]

theorem pow256 (k : Nat) : (256 : Int) ^ k = 2 ^ (8 * k) := by rw [Int.pow_mul]; rfl

/-- what Put answers: the bytes and the error's number -/
def putS (n s : Int) : List Int × Int :=
  if s < 1 ∨ 8 < s then ([], 2) else if n / 256 ^ s.toNat ≠ 0 then ([], 10) else (digits s.toNat n, 0)

theorem wide_yes (n : Int) (k : Nat) (h : n / 256 ^ k ≠ 0) : (n / 2 ^ (8 * k) != 0) = true := by rw [← pow256]; simpa using h
theorem wide_no (n : Int) (k : Nat) (h : n / 256 ^ k = 0) : (n / 2 ^ (8 * k) != 0) = false := by rw [← pow256, h]; rfl

/-- the digits so far, and zeros behind them -/
def filled (D : List Int) (j : Nat) : List Int := D.take j ++ List.replicate (D.length - j) 0

theorem filled_length (D : List Int) (j : Nat) (h : j ≤ D.length) : (filled D j).length = D.length := by simp [filled]; omega
theorem filled_zero (D : List Int) : filled D 0 = List.replicate D.length 0 := by simp [filled]
theorem filled_all (D : List Int) (j : Nat) (h : D.length ≤ j) : filled D j = D := by
  unfold filled
  rw [List.take_of_length_le h, Nat.sub_eq_zero_of_le h]
  simp
theorem filled_step (D : List Int) (j : Nat) (h : j < D.length) : (filled D j).set j D[j] = filled D (j + 1) := by
  unfold filled
  have e : D.length - j = (D.length - (j + 1)) + 1 := by omega
  rw [e, List.replicate_succ, List.set_append_right _ _ (by simp; omega), List.take_succ_eq_append_getElem h]
  have e2 : j - (D.take j).length = 0 := by simp; omega
  rw [e2, List.set_cons_zero, List.append_assoc]
  rfl

theorem byte_of (n : Int) (k j : Nat) (h : j < (digits k n).length) : n / 2 ^ (8 * j) % 256 = (digits k n)[j] := by
  rw [digits_get, pow256]

/-- what Take answers: the number, the rest, the error's number -/
def takeS (xs : List Int) (s : Int) : Int × List Int × Int :=
  if s < 1 ∨ 8 < s then (0, [], 2) else if (xs.length : Int) < s then (0, [], 11) else (worth (xs.take s.toNat), xs.drop s.toNat, 0)

/-- what Pad answers: the bytes and the error's number -/
def padS (xs : List Int) (s : Int) : List Int × Int :=
  if s < 0 ∨ 64 < s then ([], 2) else if s < (xs.length : Int) then ([], 10) else (xs ++ List.replicate (s.toNat - xs.length) 0, 0)

/-- are all 0? -/
def blankS (xs : List Int) : Bool := xs.all (· == 0)

theorem blank_no (xs : List Int) (k : Nat) (hk : k < xs.length) (h : (xs[k] != 0) = true) : blankS xs = false := by
  unfold blankS
  rw [List.all_eq_false]
  exact ⟨xs[k], List.getElem_mem hk, by simpa using h⟩
theorem blank_step (xs : List Int) (k : Nat) (hk : k < xs.length) (hb : blankS (xs.take k) = true) (h : (xs[k] != 0) = false) : blankS (xs.take (k + 1)) = true := by
  unfold blankS at *
  rw [List.take_succ_eq_append_getElem hk, List.all_append, hb]
  simpa using h

theorem flat_step {α : Type} (ls : List (List α)) (k : Nat) (hk : k < ls.length) : (ls.take (k + 1)).flatten = (ls.take k).flatten ++ ls[k] := by
  rw [List.take_succ_eq_append_getElem hk, List.flatten_append, List.flatten_cons, List.flatten_nil, List.append_nil]
theorem flat_len {α : Type} (ls : List (List α)) (k : Nat) : (ls.take k).flatten.length ≤ ls.flatten.length := by
  conv => rhs; rw [← List.take_append_drop k ls]
  rw [List.flatten_append, List.length_append]
  omega
theorem flat_all {α : Type} (ls : List (List α)) (k : Nat) (hk : ls.length ≤ k) : (ls.take k).flatten = ls.flatten := by rw [List.take_of_length_le hk]
/-- how many the first k lists hold -/
def flen {α : Type} (ls : List (List α)) (k : Nat) : Nat := (ls.take k).flatten.length
theorem flen_le {α : Type} (ls : List (List α)) (k : Nat) : flen ls k ≤ ls.flatten.length := flat_len ls k
theorem flen_step {α : Type} (ls : List (List α)) (k : Nat) (hk : k < ls.length) : flen ls (k + 1) = flen ls k + ls[k].length := by
  unfold flen; rw [flat_step ls k hk, List.length_append]
theorem flen_all {α : Type} (ls : List (List α)) (k : Nat) (hk : ls.length ≤ k) : flen ls k = ls.flatten.length := by unfold flen; rw [flat_all ls k hk]
theorem Bytes.flatten {ls : List (List Int)} (h : ∀ l ∈ ls, Bytes l) : Bytes ls.flatten := fun x hx => by
  obtain ⟨l, hl, hx⟩ := List.mem_flatten.1 hx
  exact h l hl x hx

/-- the numbers of these sizes, one behind the other -/
def nums : List Int → List Nat → List Int
  | _, [] => []
  | xs, z :: r => worth (xs.take z) :: nums (xs.drop z) r

theorem nums_length : ∀ (xs : List Int) (zs : List Nat), (nums xs zs).length = zs.length
  | _, [] => rfl
  | xs, z :: r => by simp [nums, nums_length]

/-- where the k-th of them begins -/
def tot (zs : List Nat) (k : Nat) : Nat := (zs.take k).sum
theorem tot_zero (zs : List Nat) : tot zs 0 = 0 := rfl
theorem tot_step (zs : List Nat) (k : Nat) (hk : k < zs.length) : tot zs (k + 1) = tot zs k + zs[k] := by
  unfold tot; rw [List.take_succ_eq_append_getElem hk, List.sum_append, List.sum_cons, List.sum_nil, Nat.add_zero]
theorem tot_all (zs : List Nat) (k : Nat) (hk : zs.length ≤ k) : tot zs k = zs.sum := by unfold tot; rw [List.take_of_length_le hk]
theorem tot_le (zs : List Nat) (k : Nat) : tot zs k ≤ zs.sum := by
  unfold tot
  conv => rhs; rw [← List.take_append_drop k zs]
  rw [List.sum_append]
  omega
theorem tot_bd : ∀ (zs : List Nat), (∀ z ∈ zs, z ≤ 8) → zs.sum ≤ 8 * zs.length
  | [], _ => by simp
  | z :: r, h => by
    have h1 := h z List.mem_cons_self
    have h2 := tot_bd r (fun y hy => h y (List.mem_cons_of_mem _ hy))
    simp only [List.sum_cons, List.length_cons]
    omega

theorem nums_get : ∀ (xs : List Int) (zs : List Nat) (k : Nat) (h : k < (nums xs zs).length) (h2 : k < zs.length), (nums xs zs)[k] = worth ((xs.drop (tot zs k)).take zs[k])
  | _, [], k, h, _ => by simp [nums] at h
  | xs, z :: r, 0, _, _ => by simp [nums, tot]
  | xs, z :: r, k + 1, h, h2 => by
    have h' : k < (nums (xs.drop z) r).length := by simpa [nums] using h
    have ih := nums_get (xs.drop z) r k h' (by simpa using h2)
    simp only [nums, List.getElem_cons_succ]
    rw [ih, List.drop_drop]
    rfl

/-- what Fields answers -/
def fieldsS (xs : List Int) (ss : List Int) : List Int × List Int × Int :=
  if ∃ s ∈ ss, s < 1 ∨ 8 < s then ([], [], 2)
  else if xs.length < (ss.map Int.toNat).sum then ([], [], 11)
  else (nums xs (ss.map Int.toNat), xs.drop (ss.map Int.toNat).sum, 0)

theorem toNats (ss : List Int) (h : ∀ s ∈ ss, ¬ (s < 1 ∨ 8 < s)) : (ss.map Int.toNat).map (fun z : Nat => (z : Int)) = ss := by
  rw [List.map_map]
  conv => rhs; rw [← List.map_id ss]
  apply List.map_congr_left
  intro s hs
  have := h s hs
  simp only [Function.comp_apply, id_eq]
  omega

end Go.Proofs.YtmcpjokbkkfgfaaGreatDoor
