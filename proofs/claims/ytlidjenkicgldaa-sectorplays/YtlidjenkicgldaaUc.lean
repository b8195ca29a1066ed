/-
  Layer 4: what the walk of plays needs beside.
-/
import Derived.Test.YtlidjenkicgldaaUb
namespace Go.Proofs.Ytlidjenkicgldaa
open Go.RowKit

/-- which disk -/
def sl2 (x : Int) : Nat := ((x.tmod 2 + 2) % 2).toNat
theorem sl2_lt (x : Int) : sl2 x < 2 := by unfold sl2; omega
theorem sl2_is (x : Int) : (x.tmod 2 + 2) % 2 = ((sl2 x : Nat) : Int) := by unfold sl2; omega
theorem tmod2 (x : Int) : -2 < x.tmod 2 ∧ x.tmod 2 < 2 := by
  rcases Int.le_total 0 x with h | h
  · rw [Int.tmod_eq_emod_of_nonneg h]; omega
  · rw [show x = -(-x) by omega, Int.neg_tmod, Int.tmod_eq_emod_of_nonneg (show 0 ≤ -x by omega)]; omega

/-- the step's own copy -/
def Box (w : World) (b : Nat) (kd W N : Int) (vd vk : Value) : Prop := w.heap[b]? = some (.cells #[.int .i64 kd, .int .i64 W, .int .i64 N, vd, vk] 61 (0, 0))
theorem Box.same {w w' : World} {b : Nat} {kd W N : Int} {vd vk : Value} (h : Box w b kd W N vd vk) (e : w'.heap[b]? = w.heap[b]?) : Box w' b kd W N vd vk := e.trans h
theorem Box.lt {w : World} {b : Nat} {kd W N : Int} {vd vk : Value} (h : Box w b kd W N vd vk) : b < w.heap.size := (Array.getElem?_eq_some_iff.1 h).1
theorem Box.later {w w' : World} {b : Nat} {kd W N : Int} {vd vk : Value} (h : Box w b kd W N vd vk) (hb : Below w.heap.size w w') : Box w' b kd W N vd vk := h.same (hb.block b h.lt)
theorem Box.at {w : World} {b : Nat} {kd W N : Int} {vd vk : Value} (h : Box w b kd W N vd vk) : w.cell? ⟨b, 0, none⟩ = some (.int .i64 kd) ∧ w.cell? ⟨b, 1, none⟩ = some (.int .i64 W) ∧ w.cell? ⟨b, 2, none⟩ = some (.int .i64 N) ∧ w.cell? ⟨b, 3, none⟩ = some vd ∧ w.cell? ⟨b, 4, none⟩ = some vk := by
  refine ⟨?_, ?_, ?_, ?_, ?_⟩ <;> (rw [cell_of_row w b _ _ 61 (0, 0) h]; rfl)

/-- blocks of a role lie beyond B -/
theorem Pr.beyond {w : World} {R : Nat → Nat} {B P : Nat} {x y : Nat → Nat} {n : Nat} {e : Nat → List Int} {u : Nat → List Wr} {f : Nat → List Int} {g : Nat → List Wr} {m : Nat} (h : Pr w R B P x y n e u f g m) {k : Nat} (hk : R k ≠ 0) : B ≤ k := Nat.le_of_not_lt (fun c => hk (h.lo k c))
theorem Pr.inside {w : World} {R : Nat → Nat} {B P : Nat} {x y : Nat → Nat} {n : Nat} {e : Nat → List Int} {u : Nat → List Wr} {f : Nat → List Int} {g : Nat → List Wr} {m : Nat} (h : Pr w R B P x y n e u f g m) {k : Nat} (hk : R k ≠ 0) : k < w.heap.size := Nat.lt_of_not_le (fun c => hk (h.hi k c))
theorem Pr.kb {w w' : World} {R : Nat → Nat} {B P : Nat} {x y : Nat → Nat} {n : Nat} {e : Nat → List Int} {u : Nat → List Wr} {f : Nat → List Int} {g : Nat → List Wr} {m : Nat} (h : Pr w R B P x y n e u f g m) (hB : B ≤ w.heap.size) {X : Nat} (hX : X ≠ 0) (hk : Kept (fun k => R k = X) w w') : Below B w w' :=
  hk.below hB (fun k hk' => h.beyond (by rw [hk']; exact hX))

/-- what a sector reads -/
def rdS (n : Nat) (ws : List Wr) (d : List Int) (i : Int) : List Int := if 0 ≤ i ∧ i < n then newest ws d i.toNat else []
theorem rdS_bytes {n : Nat} {ws : List Wr} {d : List Int} (hd : Bytes d) (hf : Fit n ws) (i : Int) : Bytes (rdS n ws d i) := by
  unfold rdS; split
  · exact newk_bytes hd hf _
  · exact Bytes.nil
theorem read_is {w : World} {S : Nat → Prop} {p n : Nat} {d : List Int} {ws : List Wr} (h : Dsk w S p n d ws) (i : Int) : Calls Try.prog 7 #[.pointer (some ⟨p, 0, none⟩), .int .i64 i] w fun e w' => ∃ q L c, e = .returned (.tuple #[.slice q L c, .int .i64 (refS n i)]) ∧ w'.ownsRow w.heap.size 5 1 (.slice q L c) L (U8 (rdS n ws d i)) ∧ Below w.heap.size w w' := by
  by_cases hi : 0 ≤ i ∧ i < (n : Int)
  · have e0 : ((i.toNat : Nat) : Int) = i := by omega
    have := read_good h i.toNat (by omega)
    rw [e0] at this
    refine this.mono ?_
    rintro e w' ⟨v, rfl, hown, hb⟩
    obtain ⟨q, c, rfl, _⟩ := own_slice hown
    refine ⟨q, 64, c, ?_, ?_, hb⟩
    · simp [refS, hi]
    · simpa [rdS, hi] using hown
  · refine (read_bad h i (by omega)).mono ?_
    rintro e w' ⟨rfl, rfl⟩
    refine ⟨none, 0, 0, by simp [refS, hi], ?_, Below.refl _ _⟩
    have : rdS n ws d i = [] := by simp [rdS, hi]
    rw [this]
    exact ⟨rfl, .inl ⟨rfl, rfl⟩⟩
theorem rread_is {w : World} {S : Nat → Prop} {p n : Nat} {d : List Int} {ws : List Wr} (h : Ref w S p n d ws) (hk : ws.length ≤ 1000) (i : Int) : Calls Try.prog 35 #[.pointer (some ⟨p, 0, none⟩), .int .i64 i] w fun e w' => ∃ q L c, e = .returned (.tuple #[.slice q L c, .int .i64 (refS n i)]) ∧ w'.ownsRow w.heap.size 5 1 (.slice q L c) L (U8 (rdS n ws d i)) ∧ Below w.heap.size w w' := by
  by_cases hi : 0 ≤ i ∧ i < (n : Int)
  · have e0 : ((i.toNat : Nat) : Int) = i := by omega
    have := rread_good h i.toNat (by omega) hk
    rw [e0] at this
    refine this.mono ?_
    rintro e w' ⟨v, rfl, hown, hb⟩
    obtain ⟨q, c, rfl, _⟩ := own_slice hown
    refine ⟨q, 64, c, ?_, ?_, hb⟩
    · simp [refS, hi]
    · simpa [rdS, hi] using hown
  · refine (rread_bad h i (by omega)).mono ?_
    rintro e w' ⟨rfl, rfl⟩
    refine ⟨none, 0, 0, by simp [refS, hi], ?_, Below.refl _ _⟩
    have : rdS n ws d i = [] := by simp [rdS, hi]
    rw [this]
    exact ⟨rfl, .inl ⟨rfl, rfl⟩⟩

/-- what a write answers, and what waits behind it -/
def wrE (n : Nat) (i : Int) (L : Nat) : Int := if 0 ≤ i ∧ i < n then (if L = 64 then 0 else 2) else 40
def wrU (n : Nat) (ws : List Wr) (i : Int) (b : List Int) : List Wr := if (0 ≤ i ∧ i < n) ∧ b.length = 64 then ws ++ [⟨i.toNat, b⟩] else ws
theorem wrU_length (n : Nat) (ws : List Wr) (i : Int) (b : List Int) : (wrU n ws i b).length ≤ ws.length + 1 := by unfold wrU; split <;> simp
theorem write_is {w : World} {S : Nat → Prop} {p n : Nat} {d : List Int} {ws : List Wr} (h : Dsk w S p n d ws) (i : Int) (a : Option Addr) (L c : Nat) (b : List Int) (hb : BIn w a L b) (hk : ws.length ≤ 1000) : Calls Try.prog 10 #[.pointer (some ⟨p, 0, none⟩), .int .i64 i, .slice a L c] w fun e w' => e = .returned (.int .i64 (wrE n i L)) ∧ Dsk w' (More S w) p n d (wrU n ws i b) ∧ Kept S w w' := by
  have hl := hb.len
  have hm : Dsk w (More S w) p n d ws := h.mono (fun k _ hs => .inl hs)
  by_cases hi : 0 ≤ i ∧ i < (n : Int)
  · have e0 : ((i.toNat : Nat) : Int) = i := by omega
    by_cases hL : L = 64
    · subst hL
      have := write_good h i.toNat (by omega) a c b hb hk
      rw [e0] at this
      refine this.mono ?_
      rintro e w' ⟨rfl, hd, hk⟩
      refine ⟨by simp [wrE, hi], ?_, hk⟩
      simpa [wrU, hi, hl] using hd
    · have := write_long h i.toNat (by omega) a L c hL
      rw [e0] at this
      refine this.mono ?_
      rintro e w' ⟨rfl, rfl⟩
      refine ⟨by simp [wrE, hi, hL], ?_, Kept.refl _ _⟩
      simpa [wrU, hi, hl, hL] using hm
  · refine (write_bad h i _ (by omega)).mono ?_
    rintro e w' ⟨rfl, rfl⟩
    refine ⟨by simp [wrE, hi], ?_, Kept.refl _ _⟩
    simpa [wrU, hi] using hm
theorem rwrite_is {w : World} {S : Nat → Prop} {p n : Nat} {d : List Int} {ws : List Wr} (h : Ref w S p n d ws) (i : Int) (a : Option Addr) (L c : Nat) (b : List Int) (hb : BIn w a L b) (hk : ws.length ≤ 1000) : Calls Try.prog 37 #[.pointer (some ⟨p, 0, none⟩), .int .i64 i, .slice a L c] w fun e w' => e = .returned (.int .i64 (wrE n i L)) ∧ Ref w' (More S w) p n d (wrU n ws i b) ∧ Kept S w w' := by
  have hl := hb.len
  have hm : Ref w (More S w) p n d ws := h.mono (fun k _ hs => .inl hs)
  by_cases hi : 0 ≤ i ∧ i < (n : Int)
  · have e0 : ((i.toNat : Nat) : Int) = i := by omega
    by_cases hL : L = 64
    · subst hL
      have := rwrite_good h i.toNat (by omega) a c b hb hk
      rw [e0] at this
      refine this.mono ?_
      rintro e w' ⟨rfl, hd, hk⟩
      refine ⟨by simp [wrE, hi], ?_, hk⟩
      simpa [wrU, hi, hl] using hd
    · have := rwrite_long h i.toNat (by omega) a L c hL
      rw [e0] at this
      refine this.mono ?_
      rintro e w' ⟨rfl, rfl⟩
      refine ⟨by simp [wrE, hi, hL], ?_, Kept.refl _ _⟩
      simpa [wrU, hi, hl, hL] using hm
  · refine (rwrite_bad h i _ (by omega)).mono ?_
    rintro e w' ⟨rfl, rfl⟩
    refine ⟨by simp [wrE, hi], ?_, Kept.refl _ _⟩
    simpa [wrU, hi] using hm

/-- a list of bytes that may be written over: where it lies -/
theorem own_bytes {w : World} {base L c : Nat} {q : Option Addr} {xs : List Value} (h : w.ownsRow base 5 1 (.slice q L c) L xs) : (0 < L → ∃ g, q = some ⟨g, 0, none⟩) ∧ (∀ g, q = some ⟨g, 0, none⟩ → Blk w g 5 c ∧ base ≤ g ∧ L ≤ c) := by
  refine ⟨fun h0 => ?_, fun g e => ?_⟩
  · rcases h.2 with ⟨h1, h2⟩ | ⟨g, cap, cur, h1, _⟩
    · omega
    · simp only [Value.slice.injEq] at h1; exact ⟨g, h1.1⟩
  · subst e
    obtain ⟨h1, h2, h3, h4⟩ := own_blk h
    rw [Nat.mul_one] at h1
    exact ⟨h1, h4, h2⟩
/-- a new block that is written over: role 8 -/
theorem Pr.mark {w w' : World} {R : Nat → Nat} {B P : Nat} {x y : Nat → Nat} {n : Nat} {e : Nat → List Int} {u : Nat → List Wr} {f : Nat → List Int} {g : Nat → List Wr} {m : Nat} (h : Pr w R B P x y n e u f g m) (hb : Below w.heap.size w w') {q : Nat} (hq : w.heap.size ≤ q) (hq' : q < w'.heap.size) (hB : B ≤ w.heap.size) : Pr w' (at2 R q 8) B P x y n e u f g m := by
  have lo' : ∀ k, k < w.heap.size → at2 R q 8 k = R k := fun k hk => at2_other _ _ _ _ (by omega)
  have hP := hb.block P h.blk.lt
  refine ⟨h.blk.same hP, (lo' P h.blk.lt).trans h.rp, fun i hi => (cell_same hP).trans (h.cx i hi), fun i hi => (cell_same hP).trans (h.cy i hi), fun i hi => (h.dsk i hi).same (fun k hk he => (lo' k hk).trans he) (fun k hk _ => hb.block k hk), fun i hi => (h.ref i hi).same (fun k hk he => (lo' k hk).trans he) (fun k hk _ => hb.block k hk), ?_, fun k hk => ?_, fun k hk => (lo' k (by omega)).trans (h.lo k hk)⟩
  · obtain ⟨tv, wv, tl, wl, ht⟩ := h.tld
    exact ⟨tv, wv, tl, wl, ht.move lo' (fun k hk _ => hb.block k hk) (cell_same hP) (cell_same hP)⟩
  · rw [at2_other _ _ _ _ (by omega)]; exact h.hi k (Nat.le_trans hb.size hk)
/-- and it is written over -/
theorem Pr.scratch {w w' : World} {R : Nat → Nat} {B P : Nat} {x y : Nat → Nat} {n : Nat} {e : Nat → List Int} {u : Nat → List Wr} {f : Nat → List Int} {g : Nat → List Wr} {m : Nat} (h : Pr w R B P x y n e u f g m) {q : Nat} (hk : Kept (fun k => k = q) w w') (hR : R q = 8) : Pr w' R B P x y n e u f g m := by
  have hs : ∀ k, k < w.heap.size → R k ≠ 8 → w'.heap[k]? = w.heap[k]? := fun k h1 h2 => hk.block k h1 (fun c => h2 (by rw [c]; exact hR))
  have hP := hs P h.blk.lt (by rw [h.rp]; omega)
  refine ⟨h.blk.same hP, h.rp, fun i hi => (cell_same hP).trans (h.cx i hi), fun i hi => (cell_same hP).trans (h.cy i hi), fun i hi => (h.dsk i hi).same (fun k _ he => he) (fun k h1 he => hs k h1 (by omega)), fun i hi => (h.ref i hi).same (fun k _ he => he) (fun k h1 he => hs k h1 (by omega)), ?_, fun k h1 => h.hi k (Nat.le_trans hk.size h1), h.lo⟩
  obtain ⟨tv, wv, tl, wl, ht⟩ := h.tld
  exact ⟨tv, wv, tl, wl, ht.move (fun _ _ => rfl) (fun k h1 _ => hs k h1 (by omega)) (cell_same hP) (cell_same hP)⟩

/-- what is owned is read, the slice written out -/
theorem own_bin {w : World} {base L c : Nat} {q : Option Addr} {xs : List Int} (h : w.ownsRow base 5 1 (.slice q L c) L (U8 xs)) (hb : Bytes xs) : BIn w q L xs ∧ L ≤ c ∧ (q = none → c = 0) := by
  obtain ⟨p', c', e, h1, h2, h3, _⟩ := own_in h hb
  simp only [Value.slice.injEq, true_and] at e
  obtain ⟨rfl, rfl⟩ := e
  exact ⟨h1, h2, h3⟩
theorem TIn.of {w : World} {R : Nat → Nat} {base L : Nat} {v : Value} {b : List Int} (h : w.ownsRow base 5 1 v L (U8 b)) (hb : Bytes b) (hR : ∀ k, base ≤ k → R k = 0) : TIn w R v b := by
  have hl : b.length = L := by have := own_len h; simpa using this
  refine ⟨?_, hb, fun k hk => hR k (h.lt k hk).1⟩
  rw [hl]; exact own_mono h (Nat.zero_le _)
theorem rdS_len {n : Nat} {ws : List Wr} {d : List Int} (hd : d.length = 64 * n) (hf : Fit n ws) (i : Int) : (rdS n ws d i).length ≤ 64 := by
  unfold rdS; split
  · rw [show (newest ws d i.toNat).length = 64 from newk_length hd hf (by omega) _]; omega
  · simp
theorem own_long {w : World} {base L c : Nat} {q : Option Addr} {xs : List Int} (h : w.ownsRow base 5 1 (.slice q L c) L (U8 xs)) : xs.length = L := by have := own_len h; simpa using this
end Go.Proofs.Ytlidjenkicgldaa
