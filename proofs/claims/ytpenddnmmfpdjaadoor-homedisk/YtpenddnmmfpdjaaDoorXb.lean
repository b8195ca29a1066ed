/-
  The desk of the statement on disks: what holds of it between two steps.
-/
import Derived.Test.YtpenddnmmfpdjaaDoorXa
namespace Go.Proofs.YtpenddnmmfpdjaaDoor
open Go.RowKit

theorem own_lt {w : World} {base e size : Nat} {v : Value} {n : Nat} {xs : List Value} (h : w.ownsRow base e size v n xs) {k : Nat} (hk : v.ownBlock = some k) : k < w.heap.size := by
  obtain ⟨_, hb⟩ := own_ownBlk h hk; exact hb.lt
theorem cell_same {w w' : World} {g o : Nat} (e : w'.heap[g]? = w.heap[g]?) : w'.cell? ⟨g, o, none⟩ = w.cell? ⟨g, o, none⟩ := World.cell?_of_block (w := w) (a := ⟨g, o, none⟩) e
theorem Dsk.same {w w' : World} {S T : Nat → Prop} {p n : Nat} {d : List Int} {ws : List Wr} (h : Dsk w S p n d ws) (hs : ∀ k, k < w.heap.size → S k → T k) (e : ∀ k, k < w.heap.size → S k → w'.heap[k]? = w.heap[k]?) : Dsk w' T p n d ws := by
  obtain ⟨q, cap, v, h⟩ := h; exact ⟨q, cap, v, h.same hs e⟩
theorem Ref.same {w w' : World} {S T : Nat → Prop} {p n : Nat} {d : List Int} {ws : List Wr} (h : Ref w S p n d ws) (hs : ∀ k, k < w.heap.size → S k → T k) (e : ∀ k, k < w.heap.size → S k → w'.heap[k]? = w.heap[k]?) : Ref w' T p n d ws := by
  obtain ⟨g, L, cap, v, vs, h⟩ := h; exact ⟨g, L, cap, v, vs, h.same hs e⟩
theorem Tab.kept {w w' : World} (h : Tab w) (e0 : w'.heap[0]? = w.heap[0]?) (e1 : w'.heap[1]? = w.heap[1]?) : Tab w' :=
  ⟨fun i hi => (cell_same e1).trans (h.half i hi), fun i hi => ⟨(cell_same e0).trans (h.flds i hi).1, (cell_same e0).trans (h.flds i hi).2⟩⟩

/-- a list that was told, and the same again -/
structure Pair (w : World) (R : Nat → Nat) (i : Nat) (u v : Value) : Prop where
  both : ∃ (q : Option Addr) (n c : Nat) (q2 : Option Addr) (c2 : Nat) (vs : List (List Int)), u = .slice q n c ∧ v = .slice q2 n c2 ∧ n ≤ 64 ∧ vs.length = n ∧ (∀ l ∈ vs, l.length = 32) ∧ w.ownsRow 0 23 32 (.slice q n c) n (VC vs) ∧ w.ownsRow 0 23 32 (.slice q2 n c2) n (VC vs)
  ru : ∀ k, u.ownBlock = some k → R k = 10 + i
  rv : ∀ k, v.ownBlock = some k → R k = 6
theorem Pair.move {w w' : World} {R R' : Nat → Nat} {i : Nat} {u v : Value} (h : Pair w R i u v) (hR : ∀ k, k < w.heap.size → R' k = R k) (hs : ∀ k, k < w.heap.size → (R k = 6 ∨ R k = 10 + i) → w'.heap[k]? = w.heap[k]?) : Pair w' R' i u v := by
  obtain ⟨⟨q, n, c, q2, c2, vs, rfl, rfl, h1, h2, h3, h4, h5⟩, h6, h7⟩ := h
  exact ⟨⟨q, n, c, q2, c2, vs, rfl, rfl, h1, h2, h3, own_same h4 (fun k hk => hs k (own_lt h4 hk) (.inr (h6 k hk))), own_same h5 (fun k hk => hs k (own_lt h5 hk) (.inl (h7 k hk)))⟩,
    fun k hk => (hR k (own_lt h4 hk)).trans (h6 k hk), fun k hk => (hR k (own_lt h5 hk)).trans (h7 k hk)⟩

/-- what has been told so far: m lists, and the same again -/
structure TD (w : World) (R : Nat → Nat) (m : Nat) (vt vw : Value) (tl wl : List Value) : Prop where
  told : w.ownsRow 0 41 1 vt m tl
  want : w.ownsRow 0 41 1 vw m wl
  rt : ∀ k, vt.ownBlock = some k → R k = 4
  rw : ∀ k, vw.ownBlock = some k → R k = 5
  each : ∀ i (h : i < tl.length) (h2 : i < wl.length), Pair w R i tl[i] wl[i]
theorem TD.move {w w' : World} {R R' : Nat → Nat} {m : Nat} {vt vw : Value} {tl wl : List Value} (h : TD w R m vt vw tl wl) (hR : ∀ k, k < w.heap.size → R' k = R k)
    (hs : ∀ k, k < w.heap.size → 4 ≤ R k → w'.heap[k]? = w.heap[k]?) : TD w' R' m vt vw tl wl :=
  ⟨own_same h.told (fun k hk => hs k (own_lt h.told hk) (by rw [h.rt k hk]; omega)), own_same h.want (fun k hk => hs k (own_lt h.want hk) (by rw [h.rw k hk]; omega)),
   fun k hk => (hR k (own_lt h.told hk)).trans (h.rt k hk), fun k hk => (hR k (own_lt h.want hk)).trans (h.rw k hk),
   fun i h1 h2 => (h.each i h1 h2).move hR (fun k hk hr => hs k hk (by omega))⟩

/-- **the desk**: its block g; R: what each block is for (1: the program's disk; 2: the document's; 3: the desk; 4, 5: the lists of what has been told; 6: the lists that are wanted; 10 + i: list i that was told; 0: the rest) -/
structure Dk (w : World) (R : Nat → Nat) (B g p r n : Nat) (s : Sup) (d : List Int) (ws : List Wr) (e : List Int) (us : List Wr) (m : Nat) : Prop where
  tab : Tab w
  b1 : 1 < B
  desk : ∃ vt vw tl wl, KAt w g p r s vt vw ∧ TD w R m vt vw tl wl
  rg : R g = 3
  dsk : Dsk w (fun k => R k = 1) p n d ws
  ref : Ref w (fun k => R k = 2) r n e us
  hi : ∀ k, w.heap.size ≤ k → R k = 0
  lo : ∀ k, k < B → R k = 0
theorem Dk.later {w w' : World} {R : Nat → Nat} {B g p r n : Nat} {s : Sup} {d : List Int} {ws : List Wr} {e : List Int} {us : List Wr} {m : Nat} (h : Dk w R B g p r n s d ws e us m) (hb : Below w.heap.size w w') : Dk w' R B g p r n s d ws e us m := by
  obtain ⟨vt, vw, tl, wl, hk, ht⟩ := h.desk
  exact ⟨h.tab.later hb, h.b1, ⟨vt, vw, tl, wl, LAt.later hk hb, ht.move (fun _ _ => rfl) (fun k hk _ => hb.block k hk)⟩, h.rg, h.dsk.later hb, h.ref.later hb, fun k hk => h.hi k (Nat.le_trans hb.size hk), h.lo⟩

/-- the roles, with those of the new blocks X -/
def up (R : Nat → Nat) (a b X : Nat) : Nat → Nat := fun k => if a ≤ k then (if k < b then X else 0) else R k
theorem up_lo {R : Nat → Nat} {a b X k : Nat} (h : k < a) : up R a b X k = R k := by unfold up; rw [if_neg (by omega)]
theorem up_mid {R : Nat → Nat} {a b X k : Nat} (h : a ≤ k) (h2 : k < b) : up R a b X k = X := by unfold up; rw [if_pos h, if_pos h2]
theorem up_hi {R : Nat → Nat} {a b X k : Nat} (h : a ≤ k) (h2 : b ≤ k) : up R a b X k = 0 := by unfold up; rw [if_pos h, if_neg (by omega)]

/-- the program's disk is turned -/
theorem Dk.setD {w w' : World} {R : Nat → Nat} {B g p r n : Nat} {s : Sup} {d d' : List Int} {ws ws' : List Wr} {e : List Int} {us : List Wr} {m : Nat} (h : Dk w R B g p r n s d ws e us m)
    (hk : Kept (fun k => R k = 1) w w') (hd : Dsk w' (More (fun k => R k = 1) w) p n d' ws') (hB : B ≤ w.heap.size) : Dk w' (up R w.heap.size w'.heap.size 1) B g p r n s d' ws' e us m ∧ Below B w w' := by
  have hsz := hk.size
  have hs : ∀ k, k < w.heap.size → R k ≠ 1 → w'.heap[k]? = w.heap[k]? := fun k h1 h2 => hk.block k h1 h2
  obtain ⟨vt, vw, tl, wl, hK, ht⟩ := h.desk
  have hg := LAt.lt hK
  have b1 := h.b1
  refine ⟨⟨h.tab.kept (hs 0 (by omega) (by rw [h.lo 0 (by omega)]; omega)) (hs 1 (by omega) (by rw [h.lo 1 (by omega)]; omega)), h.b1,
    ⟨vt, vw, tl, wl, (hs g hg (by rw [h.rg]; omega)).trans hK, ht.move (fun k h1 => up_lo h1) (fun k h1 h2 => hs k h1 (by omega))⟩, (up_lo hg).trans h.rg, ?_, ?_, fun k h1 => up_hi (by omega) h1, fun k h1 => (up_lo (by omega)).trans (h.lo k h1)⟩, hk.below hB (fun k hs => Nat.le_of_not_lt fun c => by have := h.lo k c; omega)⟩
  · refine hd.mono (fun k h1 h2 => ?_)
    by_cases h3 : w.heap.size ≤ k
    · exact up_mid h3 h1
    · exact (up_lo (by omega)).trans (h2.elim id (fun h2 => by omega))
  · exact h.ref.same (fun k h1 h2 => (up_lo h1).trans h2) (fun k h1 h2 => hs k h1 (by rw [h2]; omega))
/-- the document's disk is turned -/
theorem Dk.setR {w w' : World} {R : Nat → Nat} {B g p r n : Nat} {s : Sup} {d : List Int} {ws : List Wr} {e e' : List Int} {us us' : List Wr} {m : Nat} (h : Dk w R B g p r n s d ws e us m)
    (hk : Kept (fun k => R k = 2) w w') (hd : Ref w' (More (fun k => R k = 2) w) r n e' us') (hB : B ≤ w.heap.size) : Dk w' (up R w.heap.size w'.heap.size 2) B g p r n s d ws e' us' m ∧ Below B w w' := by
  have hsz := hk.size
  have hs : ∀ k, k < w.heap.size → R k ≠ 2 → w'.heap[k]? = w.heap[k]? := fun k h1 h2 => hk.block k h1 h2
  obtain ⟨vt, vw, tl, wl, hK, ht⟩ := h.desk
  have hg := LAt.lt hK
  have b1 := h.b1
  refine ⟨⟨h.tab.kept (hs 0 (by omega) (by rw [h.lo 0 (by omega)]; omega)) (hs 1 (by omega) (by rw [h.lo 1 (by omega)]; omega)), h.b1,
    ⟨vt, vw, tl, wl, (hs g hg (by rw [h.rg]; omega)).trans hK, ht.move (fun k h1 => up_lo h1) (fun k h1 h2 => hs k h1 (by omega))⟩, (up_lo hg).trans h.rg, ?_, ?_, fun k h1 => up_hi (by omega) h1, fun k h1 => (up_lo (by omega)).trans (h.lo k h1)⟩, hk.below hB (fun k hs => Nat.le_of_not_lt fun c => by have := h.lo k c; omega)⟩
  · exact h.dsk.same (fun k h1 h2 => (up_lo h1).trans h2) (fun k h1 h2 => hs k h1 (by rw [h2]; omega))
  · refine hd.mono (fun k h1 h2 => ?_)
    by_cases h3 : w.heap.size ≤ k
    · exact up_mid h3 h1
    · exact (up_lo (by omega)).trans (h2.elim id (fun h2 => by omega))

/-- between two steps: both disks the same; at most K writes wait, at most 2 K lists were told -/
def St (w : World) (B g p r n : Nat) (s : Sup) (K : Nat) : Prop := ∃ R d ws m, Dk w R B g p r n s d ws d ws m ∧ ws.length ≤ K ∧ m ≤ 2 * K ∧ B ≤ w.heap.size
theorem St.later {w w' : World} {B g p r n : Nat} {s : Sup} {K : Nat} (h : St w B g p r n s K) (hb : Below w.heap.size w w') : St w' B g p r n s K := by
  obtain ⟨R, d, ws, m, h1, h2, h3, h4⟩ := h
  exact ⟨R, d, ws, m, h1.later hb, h2, h3, Nat.le_trans h4 hb.size⟩
theorem St.more {w : World} {B g p r n : Nat} {s : Sup} {K K' : Nat} (h : St w B g p r n s K) (hK : K ≤ K') : St w B g p r n s K' := by
  obtain ⟨R, d, ws, m, h1, h2, h3, h4⟩ := h
  exact ⟨R, d, ws, m, h1, by omega, by omega, h4⟩

/-- a step's cells -/
def ocells (kd b : Int) (v : List Int) (raw keep : Value) (o : Sup) (odd : Bool) : List Value := .int .i64 kd :: .int .i64 b :: (U8 v ++ ([raw, keep] ++ (ccells o ++ [.bool odd])))
theorem ocells_len {v : List Int} (kd b : Int) (hv : v.length = 32) (raw keep : Value) (o : Sup) (odd : Bool) : (ocells kd b v raw keep o odd).length = 42 := by simp [ocells, hv, ccells_len]
theorem ocells_at {v : List Int} (kd b : Int) (hv : v.length = 32) (raw keep : Value) (o : Sup) (odd : Bool) (j : Nat) : (ocells kd b v raw keep o odd)[34 + j]? = ([raw, keep] ++ (ccells o ++ [.bool odd]))[j]? := by
  unfold ocells
  rw [show 34 + j = 32 + j + 1 + 1 by omega, List.getElem?_cons_succ, List.getElem?_cons_succ, List.getElem?_append_right (by simp [hv])]
  simp [hv]
abbrev OAt (w : World) (g : Nat) (kd b : Int) (v : List Int) (raw keep : Value) (o : Sup) (odd : Bool) : Prop := LAt 73 w g (ocells kd b v raw keep o odd)
theorem OAt.kind {w : World} {g : Nat} {kd b : Int} {v : List Int} {raw keep : Value} {o : Sup} {odd : Bool} (h : OAt w g kd b v raw keep o odd) : w.cell? ⟨g, 0, none⟩ = some (.int .i64 kd) := LAt.cell h 0
theorem OAt.block {w : World} {g : Nat} {kd b : Int} {v : List Int} {raw keep : Value} {o : Sup} {odd : Bool} (h : OAt w g kd b v raw keep o odd) : w.cell? ⟨g, 1, none⟩ = some (.int .i64 b) := LAt.cell h 1
theorem OAt.raw {w : World} {g : Nat} {kd b : Int} {v : List Int} {raw keep : Value} {o : Sup} {odd : Bool} (h : OAt w g kd b v raw keep o odd) (hv : v.length = 32) : w.cell? ⟨g, 34, none⟩ = some raw := (LAt.cell h 34).trans (ocells_at kd b hv raw keep o odd 0)
theorem OAt.keep {w : World} {g : Nat} {kd b : Int} {v : List Int} {raw keep : Value} {o : Sup} {odd : Bool} (h : OAt w g kd b v raw keep o odd) (hv : v.length = 32) : w.cell? ⟨g, 35, none⟩ = some keep := (LAt.cell h 35).trans (ocells_at kd b hv raw keep o odd 1)
theorem OAt.odd {w : World} {g : Nat} {kd b : Int} {v : List Int} {raw keep : Value} {o : Sup} {odd : Bool} (h : OAt w g kd b v raw keep o odd) (hv : v.length = 32) : w.cell? ⟨g, 41, none⟩ = some (.bool odd) := (LAt.cell h 41).trans (ocells_at kd b hv raw keep o odd 7)
theorem OAt.val {w : World} {g : Nat} {kd b : Int} {v : List Int} {raw keep : Value} {o : Sup} {odd : Bool} (h : OAt w g kd b v raw keep o odd) : w.rangeAt g 2 (U8 v) := fun j u hu => by
  have hj : j < (U8 v).length := (List.getElem?_eq_some_iff.1 hu).1
  rw [LAt.cell h (2 + j), ← hu]
  unfold ocells
  rw [show 2 + j = j + 1 + 1 by omega, List.getElem?_cons_succ, List.getElem?_cons_succ, List.getElem?_append_left hj]
theorem OAt.cfg {w : World} {g : Nat} {kd b : Int} {v : List Int} {raw keep : Value} {o : Sup} {odd : Bool} (h : OAt w g kd b v raw keep o odd) (hv : v.length = 32) : w.rangeAt g 36 (ccells o) := fun j u hu => by
  have hj : j < (ccells o).length := (List.getElem?_eq_some_iff.1 hu).1
  rw [show 36 + j = 34 + (2 + j) by omega, LAt.cell h (34 + (2 + j)), ocells_at kd b hv raw keep o odd (2 + j), ← hu]
  rw [show 2 + j = j + 1 + 1 by omega]
  show (ccells o ++ [.bool odd])[j]? = _
  rw [List.getElem?_append_left hj]
theorem OAt.load39 {w : World} {g : Nat} {kd b : Int} {v : List Int} {raw keep : Value} {o : Sup} {odd : Bool} (h : OAt w g kd b v raw keep o odd) (hv : v.length = 32) : (Instr.loadAt 39 (.pointer (some ⟨g, 36, none⟩))).run Tryd.prog w = .ok (.agg (ccells o).toArray) w :=
  run_loadAt_mid w g 36 39 (ccells o) _ (h.cfg hv) Tryd.underlying39 rfl (by rw [size23, ccells_len])
theorem OAt.load23 {w : World} {g : Nat} {kd b : Int} {v : List Int} {raw keep : Value} {o : Sup} {odd : Bool} (h : OAt w g kd b v raw keep o odd) (hv : v.length = 32) : (Instr.loadAt 23 (.pointer (some ⟨g, 2, none⟩))).run Tryd.prog w = .ok (.agg (U8 v).toArray) w :=
  run_loadAt_mid w g 2 23 (U8 v) _ h.val Tryd.underlying23 rfl (by rw [sizeV, U8_length, hv])
end Go.Proofs.YtpenddnmmfpdjaaDoor
