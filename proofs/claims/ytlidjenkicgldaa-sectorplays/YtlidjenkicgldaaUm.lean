/-
  Layer 4: plays, whatever the step; how the pair begins.
-/
import Derived.Test.YtlidjenkicgldaaUd
import Derived.Test.YtlidjenkicgldaaUe
import Derived.Test.YtlidjenkicgldaaUf
import Derived.Test.YtlidjenkicgldaaUg
import Derived.Test.YtlidjenkicgldaaUh
import Derived.Test.YtlidjenkicgldaaUj
import Derived.Test.YtlidjenkicgldaaUk
import Derived.Test.YtlidjenkicgldaaUl
namespace Go.Proofs.Ytlidjenkicgldaa
open Go.RowKit

/-- a step: its numbers, its bytes, its list -/
structure OpV where
  kd : Int
  W : Int
  N : Int
  pd : Option Addr
  ld : Nat
  cd : Nat
  xs : List Int
  pk : Option Addr
  lk : Nat
  ck : Nat
  ys : List Int
def OpV.val (o : OpV) : List Value := [.int .i64 o.kd, .int .i64 o.W, .int .i64 o.N, .slice o.pd o.ld o.cd, .slice o.pk o.lk o.ck]
/-- a step whose lists lie below B -/
structure OpIn (w : World) (B : Nat) (o : OpV) : Prop where
  data : BIn w o.pd o.ld o.xs
  dn : o.pd = none → o.cd = 0
  dc : o.ld ≤ o.cd
  db : o.ld ≤ 140737488351232
  dB : ∀ a, o.pd = some a → 0 < o.ld → a.block < B
  keep : IIn w o.pk o.lk o.ys
  kn : o.pk = none → o.ck = 0
  kc : o.lk ≤ o.ck
  kb : o.lk ≤ 17592186043904
  kB : ∀ a, o.pk = some a → 0 < o.lk → a.block < B

theorem OpIn.below {w w' : World} {B : Nat} {o : OpV} (h : OpIn w B o) (hb : Below B w w') : OpIn w' B o :=
  ⟨h.data.below hb (fun a ea h0 => h.dB a ea h0), h.dn, h.dc, h.db, h.dB, IIn.kept0 (S := fun k => B ≤ k) h.keep ⟨hb.os, hb.tape, hb.output, hb.size, fun k _ hk => hb.block k (by omega)⟩ (fun a ea h0 => by have := h.kB a ea h0; omega), h.kn, h.kc, h.kb, h.kB⟩

theorem plays_any {w : World} {B P n K : Nat} (h : St w B P n K) (hK : K ≤ 100) (o : OpV) (ho : OpIn w B o) :
    Calls Try.prog 26 #[.pointer (some ⟨P, 0, none⟩), .agg #[.int .i64 o.kd, .int .i64 o.W, .int .i64 o.N, .slice o.pd o.ld o.cd, .slice o.pk o.lk o.ck]] w fun e0 w' => e0 = .returned (.bool true) ∧ St w' B P n (K + 1) ∧ Below B w w' := by
  by_cases k : o.kd < 1 ∨ 8 < o.kd
  · exact plays_none h hK o.W o.N o.pd o.pk o.ld o.cd o.lk o.ck o.kd k
  by_cases k1 : o.kd = 1
  · rw [k1]; exact plays_read h hK o.W o.N o.pd o.pk o.ld o.cd o.lk o.ck
  by_cases k2 : o.kd = 2
  · rw [k2]; exact plays_write h hK o.W o.N o.pd o.pk o.ld o.cd o.lk o.ck o.xs ho.data ho.dn ho.dc ho.db
  by_cases k3 : o.kd = 3
  · rw [k3]; exact plays_flush h hK o.W o.N o.pd o.pk o.ld o.cd o.lk o.ck
  by_cases k4 : o.kd = 4
  · rw [k4]; exact plays_crash h hK o.W o.N o.pd o.pk o.ld o.cd o.lk o.ck o.ys ho.keep ho.kB ho.kn ho.kc ho.kb
  by_cases k5 : o.kd = 5
  · rw [k5]; exact plays_waits h hK o.W o.N o.pd o.pk o.ld o.cd o.lk o.ck
  by_cases k6 : o.kd = 6
  · rw [k6]; exact plays_image h hK o.W o.N o.pd o.pk o.ld o.cd o.lk o.ck
  by_cases k7 : o.kd = 7
  · rw [k7]; exact plays_copy h hK o.W o.N o.pd o.pk o.ld o.cd o.lk o.ck
  · rw [show o.kd = 8 by omega]; exact plays_load h hK o.W o.N o.pd o.pk o.ld o.cd o.lk o.ck

/-- the roles at the beginning -/
def R0 (a1 a2 a3 a4 a5 : Nat) : Nat → Nat := fun k => if k < a1 then 0 else if k < a2 then 1 else if k < a3 then 3 else if k < a4 then 2 else if k < a5 then 4 else if k = a5 then 5 else 0
def two (a b : Nat) : Nat → Nat := fun i => if i = 0 then a else b

theorem St.start {w1 w2 w3 w4 w5 : World} {B n p q p' q' : Nat} {d : List Int} (hB : B ≤ w1.heap.size)
    (b2 : Below w1.heap.size w1 w2) (b3 : Below w2.heap.size w2 w3) (b4 : Below w3.heap.size w3 w4) (b5 : Below w4.heap.size w4 w5)
    (d0 : Dsk w2 (fun k => w1.heap.size ≤ k) p n d []) (r0 : Ref w3 (fun k => w2.heap.size ≤ k) q n d []) (d1 : Dsk w4 (fun k => w3.heap.size ≤ k) p' n d []) (r1 : Ref w5 (fun k => w4.heap.size ≤ k) q' n d []) :
    St (w5.alloc (.cells #[.pointer (some ⟨p, 0, none⟩), .pointer (some ⟨p', 0, none⟩), .pointer (some ⟨q, 0, none⟩), .pointer (some ⟨q', 0, none⟩), .slice none 0 0, .slice none 0 0] 58)) B w5.heap.size n 0 := by
  have s2 := b2.size
  have s3 := b3.size
  have s4 := b4.size
  have s5 := b5.size
  have b6 := below_alloc w5 (.cells #[.pointer (some ⟨p, 0, none⟩), .pointer (some ⟨p', 0, none⟩), .pointer (some ⟨q, 0, none⟩), .pointer (some ⟨q', 0, none⟩), .slice none 0 0, .slice none 0 0] 58)
  have hn := heap_alloc_new w5 (.cells #[.pointer (some ⟨p, 0, none⟩), .pointer (some ⟨p', 0, none⟩), .pointer (some ⟨q, 0, none⟩), .pointer (some ⟨q', 0, none⟩), .slice none 0 0, .slice none 0 0] 58)
  have hz : (w5.alloc (.cells #[.pointer (some ⟨p, 0, none⟩), .pointer (some ⟨p', 0, none⟩), .pointer (some ⟨q, 0, none⟩), .pointer (some ⟨q', 0, none⟩), .slice none 0 0, .slice none 0 0] 58)).heap.size = w5.heap.size + 1 := by simp
  revert b6 hn hz
  generalize w5.alloc (.cells #[.pointer (some ⟨p, 0, none⟩), .pointer (some ⟨p', 0, none⟩), .pointer (some ⟨q, 0, none⟩), .pointer (some ⟨q', 0, none⟩), .slice none 0 0, .slice none 0 0] 58) = w6
  intro b6 hn hz
  have cl : ∀ j v, (#[.pointer (some ⟨p, 0, none⟩), .pointer (some ⟨p', 0, none⟩), .pointer (some ⟨q, 0, none⟩), .pointer (some ⟨q', 0, none⟩), .slice none 0 0, .slice none 0 0] : Array Value)[j]? = some v → w6.cell? ⟨w5.heap.size, j, none⟩ = some v := fun j v hv => by rw [cell_of_row w6 w5.heap.size j _ 58 (0, 0) hn]; exact hv
  refine ⟨R0 w1.heap.size w2.heap.size w3.heap.size w4.heap.size w5.heap.size, two p p', two q q', fun _ => d, fun _ => [], 0, ⟨⟨_, hn, rfl⟩, ?_, fun i hi => ?_, fun i hi => ?_, fun i hi => ?_, fun i hi => ?_, ⟨.slice none 0 0, .slice none 0 0, [], [], cl 4 _ rfl, cl 5 _ rfl, ⟨rfl, .inl ⟨rfl, rfl⟩⟩, ⟨rfl, .inl ⟨rfl, rfl⟩⟩, fun k hk => by simp [Value.ownBlock] at hk, fun k hk => by simp [Value.ownBlock] at hk, fun i h1 _ => by simp at h1⟩, fun k hk => ?_, fun k hk => ?_⟩, fun _ _ => Nat.le_refl _, Nat.le_refl _, by omega⟩
  · unfold R0; rw [if_neg (by omega), if_neg (by omega), if_neg (by omega), if_neg (by omega), if_neg (by omega), if_pos rfl]
  · rcases (show i = 0 ∨ i = 1 by omega) with rfl | rfl
    · exact cl 0 _ rfl
    · exact cl 1 _ rfl
  · rcases (show i = 0 ∨ i = 1 by omega) with rfl | rfl
    · exact cl 2 _ rfl
    · exact cl 3 _ rfl
  · rcases (show i = 0 ∨ i = 1 by omega) with rfl | rfl
    · refine (d0.mono (fun k h1 h2 => ?_)).later (below_then (below_then (below_then b3 b4) b5) b6)
      unfold R0; rw [if_neg (by omega), if_pos h1]
    · refine (d1.mono (fun k h1 h2 => ?_)).later (below_then b5 b6)
      unfold R0; rw [if_neg (by omega), if_neg (by omega), if_neg (by omega), if_pos h1]
  · rcases (show i = 0 ∨ i = 1 by omega) with rfl | rfl
    · refine (r0.mono (fun k h1 h2 => ?_)).later (below_then (below_then b4 b5) b6)
      unfold R0; rw [if_neg (by omega), if_neg (by omega), if_pos h1]
    · refine (r1.mono (fun k h1 h2 => ?_)).later b6
      unfold R0; rw [if_neg (by omega), if_neg (by omega), if_neg (by omega), if_neg (by omega), if_pos h1]
  · unfold R0; rw [if_neg (by omega), if_neg (by omega), if_neg (by omega), if_neg (by omega), if_neg (by omega), if_neg (by omega)]
  · unfold R0; rw [if_pos (by omega)]

/-- how a script lies: l steps, five cells each -/
structure ScIn (w : World) (B : Nat) (p : Option Addr) (l : Nat) (os : List OpV) : Prop where
  len : os.length = l
  cells : 0 < l → ∃ b o, p = some ⟨b, o, none⟩ ∧ b < B ∧ ∀ i (h : i < os.length), w.rangeAt b (o + i * 5) os[i].val
  each : ∀ i (h : i < os.length), OpIn w B os[i]

theorem ScIn.below {w w' : World} {B l : Nat} {p : Option Addr} {os : List OpV} (h : ScIn w B p l os) (hb : Below B w w') : ScIn w' B p l os := by
  refine ⟨h.len, fun h0 => ?_, fun i hi => (h.each i hi).below hb⟩
  obtain ⟨b, o, e, hB, hc⟩ := h.cells h0
  exact ⟨b, o, e, hB, fun i hi => rangeAt_same (hc i hi) (hb.block b hB)⟩

end Go.Proofs.Ytlidjenkicgldaa
