/-
  Layer 10: full, one write, and what is kept beside it.
-/
import Derived.Test.YtefnkjajjidfaaaDoorM3
namespace Go.Proofs.YtefnkjajjidfaaaDoor
open Go.RowKit


theorem own_b1 (w : World) (v : Value) : (w.alloc (.cells #[v] 5)).ownsRow w.heap.size 5 1 (.slice (some ⟨w.heap.size, 0, none⟩) 1 1) 1 [v] :=
  ⟨by simp, .inr ⟨w.heap.size, 1, #[v], rfl, Nat.le_refl _, heap_alloc_new w _, Nat.le_refl _, by decide, by simp, by simp⟩⟩
/-- append([]byte{x}, xs...) -/
theorem app_b {w : World} {q : Option Addr} {m c : Nat} {xs : List Int} (x : Int) (hx : 0 ≤ x ∧ x < 256) (h : BIn w q m xs) (hm : m ≤ 3000000) : ∃ q' c' w', (Builtin.append_ #[41, 41] 41 #[.slice (some ⟨w.heap.size, 0, none⟩) 1 1, .slice q m c]).run Tryd.prog (w.alloc (.cells #[.int .u8 x] 5)) = .ok (.slice q' (1 + m) c') w' ∧ BIn w' q' (1 + m) (x :: xs) ∧ Below w.heap.size w w' := by
  obtain ⟨i0, hi0, hz0, hz1, hz2⟩ := info_parts info5
  have hb := below_alloc w (.cells #[.int .u8 x] 5)
  have own0 := own_b1 w (.int .u8 x)
  have h65 : (4000000 : Nat) ≤ maxLen := by decide
  have hby : Bytes (x :: xs) := Bytes.cons hx h.byte
  have go : ∀ (ad : Addr), q = some ad → ∃ q' c' w', (Builtin.append_ #[41, 41] 41 #[.slice (some ⟨w.heap.size, 0, none⟩) 1 1, .slice q m c]).run Tryd.prog (w.alloc (.cells #[.int .u8 x] 5)) = .ok (.slice q' (1 + m) c') w' ∧ BIn w' q' (1 + m) (x :: xs) ∧ Below w.heap.size w w' := by
    rintro ad rfl
    obtain ⟨v', w', hrun, hown', hgrow, -⟩ := run_append_own (P := Tryd.prog) (w.alloc (.cells #[.int .u8 x] 5)) w.heap.size 41 41 5 i0 _ 1 1 Tryd.underlying41 hi0 hz0 hz1 hz2 rfl (by decide) _ 1 [.int .u8 x] own0 ad m c (U8 xs) (by simp [U8, h.len]) (h.later hb).news (ones_u8 xs) (by omega) (by omega) (by simp)
    obtain ⟨q', c', rfl, hin, -, -, -⟩ := own_in (xs := x :: xs) hown' hby
    refine ⟨q', c', w', hrun, hin, ?_⟩
    exact ((Below.refl _ w).alloc (Nat.le_refl _) _).grown hgrow (by simp) fun j ej => by simp only [Value.ownBlock, Option.some.injEq] at ej; omega
  by_cases h0 : 0 < m
  · obtain ⟨b, o, e, -⟩ := h.cells h0
    exact go _ e
  · have m0 : m = 0 := by omega
    have l0 : xs = [] := List.length_eq_zero_iff.1 (by rw [h.len, m0])
    cases q with
    | none =>
      refine ⟨some ⟨w.heap.size, 0, none⟩, 1, w.alloc (.cells #[.int .u8 x] 5), ?_, ?_, hb⟩
      · subst m0; subst l0
        simp [Builtin.append_, run_underlying Tryd.underlying41, sizeOf, typeInfo, hi0, Builtin.lenOf, Builtin.firstCells, storeCells]
      · subst m0; subst l0
        obtain ⟨q', c', e, hin, -, -, -⟩ := own_in (xs := [x]) own0 hby
        cases e
        exact hin
    | some ad => exact go ad rfl
set_option maxHeartbeats 1000000 in
set_option maxRecDepth 100000 in
theorem full_any (p : Option Addr) (n c : Nat) (xs : List Int) (w : World) (hs : n ≤ 64) (h : BIn w p n xs) :
    Calls Tryd.prog 24 #[.slice p n c] w fun e w' => ∃ q c', e = .returned (.slice q 64 c') ∧ BIn w' q 64 (xs ++ List.replicate (64 - n) 0) ∧ Below w.heap.size w w' := by
  obtain ⟨i0, hi, hz0, hz1, hz2⟩ := info_parts info5
  go_enter Tryd.func24, Tryd.ntmps24
  go_wp2_with (at_make; refine wpList_make_full _ rfl _ _ 41 rfl w.heap.size 5 i0 (.int .u8 0) 1 Tryd.underlying41 hi hz0 hz1 .i64 .i64 _ _ 64 rfl rfl rfl rfl ?b2 ?b3 ?b4 ?_)
  case b2 => rw [hz2]; omega
  case b3 => unfold maxLen; omega
  case b4 => simp
  intro w1 hown hgrow
  rw [toList_madeCells_one] at hown
  have hb := (Below.refl w.heap.size w).grown hgrow (Nat.le_refl _) (by intro k hk; cases hk)
  have hg := row_of_full hown
  have h1 := h.later hb
  have HG : Hid (_) := hg
  have HB : Hid (_) := hb
  have HH : Hid (BIn w1 p n xs) := h1
  clear hgrow hown hg hb h1
  have HN : Hid ((U8 xs).length = Nat.min n 64) := by show _ = min n 64; rw [Nat.min_eq_left hs]; simp [U8, HH.out.len]
  have HF : Hid (0 + (U8 xs).length ≤ (List.replicate 64 (Value.int .u8 0)).length) := by show _ ≤ _; simp [U8, HH.out.len]; omega
  have HP : Hid (0 < (U8 xs).length → some (⟨w.heap.size, 0, none⟩ : Addr) = some ⟨w.heap.size, 0, none⟩ ∧ ∃ ad, p = some ad ∧ ∀ j v, (U8 xs)[j]? = some v → w1.cell? (ad.add j) = some v) := by
    intro h0
    have h0' : 0 < n := by simpa [U8, HH.out.len] using h0
    obtain ⟨b, o, e, hc⟩ := HH.out.cells h0'
    refine ⟨rfl, ⟨b, o, none⟩, e, ?_⟩
    have h2 := HH.out
    rw [e] at h2
    exact h2.news
  go_wp2_with (refine wpList_copy_splice rfl (.tmp 5) (.tmp 6) 41 41 rfl 5 Tryd.underlying41 size5 (some ⟨w.heap.size, 0, none⟩) p 64 64 n c rfl rfl w.heap.size 0 (List.replicate 64 (.int .u8 0)) 5 HG.out (U8 xs) HN.out HP.out HF.out (ones_u8 xs) w.heap.size w HB.out (Nat.le_refl _) ?_)
  intro w2 hg2 hb2
  have hby : Bytes (xs ++ List.replicate (64 - n) 0) := fun x hx => by
    rcases List.mem_append.1 hx with h' | h'
    · exact HH.out.byte x h'
    · rw [(List.mem_replicate.1 h').2]; omega
  have HO : Hid (BIn w2 (some ⟨w.heap.size, 0, none⟩) 64 (xs ++ List.replicate (64 - n) 0)) := by
    have : w2.heap[w.heap.size]? = some (.cells (splice (List.replicate 64 (Value.int .u8 0)) 0 (U8 xs)).toArray 5) := hg2.out
    rw [splice_pad xs 64 (by rw [HH.out.len]; exact hs), HH.out.len] at this
    obtain ⟨q', c', e, hin, -, -, -⟩ := own_in (full_of_row (base := w.heap.size) (n := 64) (Nat.le_refl _) (by simp [U8, HH.out.len]; omega) (by unfold maxLen; omega) this) hby
    cases e
    exact hin
  have HB2 : Hid (_) := hb2
  clear hg2 hb2 hby
  go_wp2
  go_ret
  exact ⟨_, _, rfl, HO.out, HB2.out⟩
theorem write_B {w : World} {B L p : Nat} {d : List Int} {ws : List Wr} {g : Lg} (h : LB w B L p d ws g) (i : Int) (h0 : 0 ≤ i) (h1 : i < (g.sz : Nat)) (a : Option Addr) (c : Nat) (b : List Int) (hb : BIn w a 64 b) (hk : ws.length ≤ 100000) :
    Calls Tryd.prog 19 #[.pointer (some ⟨p, 0, none⟩), .int .i64 i, .slice a 64 c] w fun e w' => e = .returned (.int .i64 0) ∧ LB w' B L p d (ws ++ [⟨i.toNat, b⟩]) g ∧ KT B w w' := by
  have ht := h.typed
  refine (write_at ht.dsk i h0 h1 a c b hb hk).mono ?_
  rintro e w' ⟨rfl, h1, h2⟩
  obtain ⟨l, k⟩ := ht.wrote h1 h2
  exact ⟨rfl, h.after l k⟩
/-- what stands while a told disk is written to -/
structure RS (w W : World) (C Bw Bc B L p : Nat) (c : Sup) (g : Lg) (ws : List Wr) (f : Int) (q : Option Addr) (N d : Nat) (txs : List TX) (vs : List Value) : Prop where
  lb : LB W B L p (newS c) ws g
  wt : LAt 48 W Bw (gcells 0 1 f (.slice q N d))
  cf : CAt W Bc c
  tx : XOwn 28 W C (.slice q N d) txs vs
  low : Below w.heap.size w W
  b0 : w.heap.size ≤ B
section
variable {w W W' : World} {C Bw Bc B L p : Nat} {c : Sup} {g : Lg} {ws ws' : List Wr} {f : Int} {q : Option Addr} {N d : Nat} {txs : List TX} {vs : List Value}
theorem RS.kt (h : RS w W C Bw Bc B L p c g ws f q N d txs vs) (hk : KT B W W') (hl : LB W' B L p (newS c) ws' g) : RS w W' C Bw Bc B L p c g ws' f q N d txs vs :=
  ⟨hl, lat_kt hk (by decide) h.wt, lat_kt hk (by decide) h.cf, xown_kt hk h.tx, h.low.trans (hk.low.mono h.b0), h.b0⟩
theorem RS.later (h : RS w W C Bw Bc B L p c g ws f q N d txs vs) (hb : Below W.heap.size W W') : RS w W' C Bw Bc B L p c g ws f q N d txs vs :=
  ⟨h.lb.later hb, LAt.later h.wt hb, LAt.later h.cf hb, h.tx.later hb, below_then h.low hb, h.b0⟩
theorem RS.xin (h : RS w W C Bw Bc B L p c g ws f q N d txs vs) (hN : txs.length = N) : XIn W q N txs := by
  obtain ⟨a1, a2, a3, a4, -, -⟩ := XOwn.in h.tx
  rw [hN] at a3 a4
  cases a3
  exact a4
end
end Go.Proofs.YtefnkjajjidfaaaDoor
