/-
  Layer 9: what stands in a log; the calls over blocks that are ours alone.
-/
import Derived.Test.YtefnkjajjidfaaaDoorUf
import Derived.Test.YtefnkjajjidfaaaDoorHm
namespace Go.Proofs.YtefnkjajjidfaaaDoor
open Go.RowKit
/-- blocks of the log's and the disk's own kinds -/
abbrev Ours (t : TypeId) : Prop := t = 127 ∨ t = 105 ∨ t = 101 ∨ t = 115
/-- what such a call leaves alone: what lies below, and the blocks of other kinds -/
structure KT (B : Nat) (w w' : World) : Prop where
  low : Below B w w'
  other : ∀ (k : Nat) (cs : Array Value) (t : TypeId) (f : Nat × Nat), ¬ Ours t → w.heap[k]? = some (.cells cs t f) → w'.heap[k]? = some (.cells cs t f)
theorem KT.trans {B : Nat} {a b c : World} (h : KT B a b) (k : KT B b c) : KT B a c := ⟨h.low.trans k.low, fun i cs t f ht hi => k.other i cs t f ht (h.other i cs t f ht hi)⟩
theorem KT.refl (B : Nat) (w : World) : KT B w w := ⟨Below.refl _ _, fun _ _ _ _ _ h => h⟩
theorem KT.of_below {B : Nat} {w w' : World} (h : Below w.heap.size w w') (hb : B ≤ w.heap.size) : KT B w w' := ⟨h.mono hb, fun k _ _ _ _ hk => (h.block k (Array.getElem?_eq_some_iff.1 hk).1).trans hk⟩
/-- a log and its disk, over blocks from B on -/
abbrev LB (w : World) (B L p : Nat) (d : List Int) (ws : List Wr) (g : Lg) : Prop := LD w (fun k => B ≤ k) L p d ws g
section
variable {w w' : World} {B L p : Nat} {d d' : List Int} {ws ws' : List Wr} {g g' : Lg}
def Typ (w : World) (k : Nat) : Prop := ∃ cs t f, Ours t ∧ w.heap[k]? = some (.cells cs t f)
theorem LD.typed {S : Nat → Prop} (h : LD w S L p d ws g) : LD w (fun k => S k ∧ Typ w k) L p d ws g := by
  obtain ⟨q, cap, v, hp⟩ := h.dsk
  refine ⟨h.log, ⟨q, cap, v, ⟨hp.str, hp.pl, hp.wt, ⟨⟨hp.sp.1, ?_⟩, hp.sp.2⟩, ⟨⟨hp.sq.1, ?_⟩, hp.sq.2⟩, fun k hk => ⟨⟨(hp.sv k hk).1, ?_⟩, (hp.sv k hk).2⟩, hp.n1, hp.n2, hp.dl, hp.db, hp.fit⟩⟩, ⟨h.sl, ?_⟩, h.ok⟩
  · exact ⟨_, _, _, .inr (.inl rfl), hp.str⟩
  · obtain ⟨cur, hc, _⟩ := hp.pl.blk
    exact ⟨_, _, _, .inr (.inr (.inl rfl)), hc⟩
  · obtain ⟨sz, cur, hc, _⟩ := own_ownBlk hp.wt hk
    exact ⟨_, _, _, .inr (.inr (.inr rfl)), hc⟩
  · exact ⟨_, _, _, .inl rfl, h.log⟩
theorem LB.base (h : LB w B L p d ws g) : B ≤ w.heap.size := by have := h.sl; have := LAt.lt h.log; omega
theorem LB.after (h : LB w B L p d ws g) (hd : LD w' (More (fun k => B ≤ k ∧ Typ w k) w) L p d' ws' g') (hk : Kept (fun k => B ≤ k ∧ Typ w k) w w') : LB w' B L p d' ws' g' ∧ KT B w w' := by
  have hb := h.base
  refine ⟨hd.mono fun k _ s => s.elim (fun s => s.1) (fun s => by omega), hk.below hb fun k s => s.1, fun k cs t f ht hc => ?_⟩
  refine (hk.block k (Array.getElem?_eq_some_iff.1 hc).1 ?_).trans hc
  rintro ⟨_, cs', t', f', ht', hc'⟩
  rw [hc] at hc'
  cases hc'
  exact ht ht'
theorem LB.len (h : LB w B L p d ws g) : d.length = 64 * g.sz ∧ Fit g.sz ws := by
  obtain ⟨q, cap, v, hp⟩ := h.dsk
  exact ⟨hp.dl, hp.fit⟩
theorem image_B (h : LB w B L p d ws g) (hk : ws.length ≤ 100000) (ht : Tab w) (b : Int) (v : List Int) (hv : v.length = 32) (hvb : Bytes v) (hi : imgS g b = 0) :
    Calls Tryd.prog 33 #[.pointer (some ⟨L, 0, none⟩), .int .i64 b, .agg (U8 v).toArray] w fun e w' => e = .returned (.tuple #[.int .u64 g.fin, .int .i64 0]) ∧ LB w' B L p d (ws ++ [⟨(secN g g.fin).toNat, R.encS (imgR g b v)⟩]) (imgG g b) ∧ KT B w w' := by
  refine (image_ok h.typed hk ht b v hv hvb hi).mono ?_
  rintro e w' ⟨rfl, h1, h2⟩
  exact ⟨rfl, h.after h1 h2⟩
theorem commit_B (h : LB w B L p d ws g) (hk : ws.length ≤ 100000) (ht : Tab w) (hm : moreS g = 0) :
    Calls Tryd.prog 34 #[.pointer (some ⟨L, 0, none⟩)] w fun e w' => e = .returned (.tuple #[.int .u64 g.fin, .int .i64 0]) ∧ LB w' B L p d (ws ++ [⟨(secN g g.fin).toNat, R.encS (comR g)⟩]) (comG g) ∧ KT B w w' := by
  refine (commit_ok h.typed hk ht hm).mono ?_
  rintro e w' ⟨rfl, h1, h2⟩
  exact ⟨rfl, h.after h1 h2⟩
theorem flush_B (h : LB w B L p d ws g) (hk : ws.length ≤ 100000) :
    Calls Tryd.prog 26 #[.pointer (some ⟨L, 0, none⟩)] w fun e w' => e = .returned (.tuple #[.int .i64 ws.length, .int .i64 0]) ∧ LB w' B L p (settle (fun _ => true) ws d) [] g ∧ KT B w w' := by
  refine (wflush_at h.typed hk).mono ?_
  rintro e w' ⟨rfl, h1, h2⟩
  exact ⟨rfl, h.after (h1.mono fun k _ s => .inl s) h2⟩
end
end Go.Proofs.YtefnkjajjidfaaaDoor
