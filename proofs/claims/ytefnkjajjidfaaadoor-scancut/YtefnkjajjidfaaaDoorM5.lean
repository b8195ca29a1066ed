/-
  Layer 10: full, one write, and what is kept beside it. Layer 10: ScanRest. Layer 10, plain: what is found of a story, of which one position was turned. Layer 10: ahead: those of a story's transactions whose commits stand ahead of a position. Layer 10: ahead, walked.
-/
import Derived.Test.YtefnkjajjidfaaaDoorM3
namespace Go.Proofs.YtefnkjajjidfaaaDoor
open Go.RowKit


theorem own_b1 (w : World) (v : Value) : (w.alloc (.cells #[v] 5)).ownsRow w.heap.size 5 1 (.slice (some ⟨w.heap.size, 0, none⟩) 1 1) 1 [v] :=
  ⟨by simp, .inr ⟨w.heap.size, 1, #[v], rfl, Nat.le_refl _, heap_alloc_new w _, Nat.le_refl _, by decide, by simp, by simp⟩⟩
/-- append([]byte{x}, xs...) -/
theorem app_b {w : World} {q : Option Addr} {m c : Nat} {xs : List Int} (x : Int) (hx : 0 ≤ x ∧ x < 256) (h : BIn w q m xs) (hm : m ≤ 3000000) : ∃ q' c' w', (Builtin.append_ #[41, 41] 41 #[.slice (some ⟨w.heap.size, 0, none⟩) 1 1, .slice q m c]).run Tryd.prog (w.alloc (.cells #[.int .u8 x] 5)) = .ok (.slice q' (1 + m) c') w' ∧ BIn w' q' (1 + m) (x :: xs) ∧ Below w.heap.size w w' := by
  obtain ⟨i0, hi0, hz0, hz1, hz2⟩ := info_parts info5
  have hb := below_alloc w (.cells #[.int .u8 x] 5)
  have own0 := own_b1 w (.int .u8 x)
  have h65 : (4000000 : Nat) ≤ maxLen := by decide
  have hby : Bytes (x :: xs) := Bytes.cons hx h.byte
  have go : ∀ (ad : Addr), q = some ad → ∃ q' c' w', (Builtin.append_ #[41, 41] 41 #[.slice (some ⟨w.heap.size, 0, none⟩) 1 1, .slice q m c]).run Tryd.prog (w.alloc (.cells #[.int .u8 x] 5)) = .ok (.slice q' (1 + m) c') w' ∧ BIn w' q' (1 + m) (x :: xs) ∧ Below w.heap.size w w' := by
    rintro ad rfl
    obtain ⟨v', w', hrun, hown', hgrow, -⟩ := run_append_own (P := Tryd.prog) (w.alloc (.cells #[.int .u8 x] 5)) w.heap.size 41 41 5 i0 _ 1 1 Tryd.underlying41 hi0 hz0 hz1 hz2 rfl (by decide) _ 1 [.int .u8 x] own0 ad m c (U8 xs) (by simp [U8, h.len]) (h.later hb).news (ones_u8 xs) (by omega) (by omega) (by simp)
    obtain ⟨q', c', rfl, hin, -, -, -⟩ := own_in (xs := x :: xs) hown' hby
    refine ⟨q', c', w', hrun, hin, ?_⟩
    exact ((Below.refl _ w).alloc (Nat.le_refl _) _).grown hgrow (by simp) fun j ej => by simp only [Value.ownBlock, Option.some.injEq] at ej; omega
  by_cases h0 : 0 < m
  · obtain ⟨b, o, e, -⟩ := h.cells h0
    exact go _ e
  · have m0 : m = 0 := by omega
    have l0 : xs = [] := List.length_eq_zero_iff.1 (by rw [h.len, m0])
    cases q with
    | none =>
      refine ⟨some ⟨w.heap.size, 0, none⟩, 1, w.alloc (.cells #[.int .u8 x] 5), ?_, ?_, hb⟩
      · subst m0; subst l0
        simp [Builtin.append_, run_underlying Tryd.underlying41, sizeOf, typeInfo, hi0, Builtin.lenOf, Builtin.firstCells, storeCells]
      · subst m0; subst l0
        obtain ⟨q', c', e, hin, -, -, -⟩ := own_in (xs := [x]) own0 hby
        cases e
        exact hin
    | some ad => exact go ad rfl
set_option maxHeartbeats 1000000 in
set_option maxRecDepth 100000 in
theorem full_any (p : Option Addr) (n c : Nat) (xs : List Int) (w : World) (hs : n ≤ 64) (h : BIn w p n xs) :
    Calls Tryd.prog 24 #[.slice p n c] w fun e w' => ∃ q c', e = .returned (.slice q 64 c') ∧ BIn w' q 64 (xs ++ List.replicate (64 - n) 0) ∧ Below w.heap.size w w' := by
  obtain ⟨i0, hi, hz0, hz1, hz2⟩ := info_parts info5
  go_enter Tryd.func24, Tryd.ntmps24
  go_wp2_with (at_make; refine wpList_make_full _ rfl _ _ 41 rfl w.heap.size 5 i0 (.int .u8 0) 1 Tryd.underlying41 hi hz0 hz1 .i64 .i64 _ _ 64 rfl rfl rfl rfl ?b2 ?b3 ?b4 ?_)
  case b2 => rw [hz2]; omega
  case b3 => unfold maxLen; omega
  case b4 => simp
  intro w1 hown hgrow
  rw [toList_madeCells_one] at hown
  have hb := (Below.refl w.heap.size w).grown hgrow (Nat.le_refl _) (by intro k hk; cases hk)
  have hg := row_of_full hown
  have h1 := h.later hb
  have HG : Hid (_) := hg
  have HB : Hid (_) := hb
  have HH : Hid (BIn w1 p n xs) := h1
  clear hgrow hown hg hb h1
  have HN : Hid ((U8 xs).length = Nat.min n 64) := by show _ = min n 64; rw [Nat.min_eq_left hs]; simp [U8, HH.out.len]
  have HF : Hid (0 + (U8 xs).length ≤ (List.replicate 64 (Value.int .u8 0)).length) := by show _ ≤ _; simp [U8, HH.out.len]; omega
  have HP : Hid (0 < (U8 xs).length → some (⟨w.heap.size, 0, none⟩ : Addr) = some ⟨w.heap.size, 0, none⟩ ∧ ∃ ad, p = some ad ∧ ∀ j v, (U8 xs)[j]? = some v → w1.cell? (ad.add j) = some v) := by
    intro h0
    have h0' : 0 < n := by simpa [U8, HH.out.len] using h0
    obtain ⟨b, o, e, hc⟩ := HH.out.cells h0'
    refine ⟨rfl, ⟨b, o, none⟩, e, ?_⟩
    have h2 := HH.out
    rw [e] at h2
    exact h2.news
  go_wp2_with (refine wpList_copy_splice rfl (.tmp 5) (.tmp 6) 41 41 rfl 5 Tryd.underlying41 size5 (some ⟨w.heap.size, 0, none⟩) p 64 64 n c rfl rfl w.heap.size 0 (List.replicate 64 (.int .u8 0)) 5 HG.out (U8 xs) HN.out HP.out HF.out (ones_u8 xs) w.heap.size w HB.out (Nat.le_refl _) ?_)
  intro w2 hg2 hb2
  have hby : Bytes (xs ++ List.replicate (64 - n) 0) := fun x hx => by
    rcases List.mem_append.1 hx with h' | h'
    · exact HH.out.byte x h'
    · rw [(List.mem_replicate.1 h').2]; omega
  have HO : Hid (BIn w2 (some ⟨w.heap.size, 0, none⟩) 64 (xs ++ List.replicate (64 - n) 0)) := by
    have : w2.heap[w.heap.size]? = some (.cells (splice (List.replicate 64 (Value.int .u8 0)) 0 (U8 xs)).toArray 5) := hg2.out
    rw [splice_pad xs 64 (by rw [HH.out.len]; exact hs), HH.out.len] at this
    obtain ⟨q', c', e, hin, -, -, -⟩ := own_in (full_of_row (base := w.heap.size) (n := 64) (Nat.le_refl _) (by simp [U8, HH.out.len]; omega) (by unfold maxLen; omega) this) hby
    cases e
    exact hin
  have HB2 : Hid (_) := hb2
  clear hg2 hb2 hby
  go_wp2
  go_ret
  exact ⟨_, _, rfl, HO.out, HB2.out⟩
theorem write_B {w : World} {B L p : Nat} {d : List Int} {ws : List Wr} {g : Lg} (h : LB w B L p d ws g) (i : Int) (h0 : 0 ≤ i) (h1 : i < (g.sz : Nat)) (a : Option Addr) (c : Nat) (b : List Int) (hb : BIn w a 64 b) (hk : ws.length ≤ 100000) :
    Calls Tryd.prog 19 #[.pointer (some ⟨p, 0, none⟩), .int .i64 i, .slice a 64 c] w fun e w' => e = .returned (.int .i64 0) ∧ LB w' B L p d (ws ++ [⟨i.toNat, b⟩]) g ∧ KT B w w' := by
  have ht := h.typed
  refine (write_at ht.dsk i h0 h1 a c b hb hk).mono ?_
  rintro e w' ⟨rfl, h1, h2⟩
  obtain ⟨l, k⟩ := ht.wrote h1 h2
  exact ⟨rfl, h.after l k⟩
/-- what stands while a told disk is written to -/
structure RS (w W : World) (C Bw Bc B L p : Nat) (c : Sup) (g : Lg) (ws : List Wr) (f : Int) (q : Option Addr) (N d : Nat) (txs : List TX) (vs : List Value) : Prop where
  lb : LB W B L p (newS c) ws g
  wt : LAt 48 W Bw (gcells 0 1 f (.slice q N d))
  cf : CAt W Bc c
  tx : XOwn 28 W C (.slice q N d) txs vs
  low : Below w.heap.size w W
  b0 : w.heap.size ≤ B
section
variable {w W W' : World} {C Bw Bc B L p : Nat} {c : Sup} {g : Lg} {ws ws' : List Wr} {f : Int} {q : Option Addr} {N d : Nat} {txs : List TX} {vs : List Value}
theorem RS.kt (h : RS w W C Bw Bc B L p c g ws f q N d txs vs) (hk : KT B W W') (hl : LB W' B L p (newS c) ws' g) : RS w W' C Bw Bc B L p c g ws' f q N d txs vs :=
  ⟨hl, lat_kt hk (by decide) h.wt, lat_kt hk (by decide) h.cf, xown_kt hk h.tx, h.low.trans (hk.low.mono h.b0), h.b0⟩
theorem RS.later (h : RS w W C Bw Bc B L p c g ws f q N d txs vs) (hb : Below W.heap.size W W') : RS w W' C Bw Bc B L p c g ws f q N d txs vs :=
  ⟨h.lb.later hb, LAt.later h.wt hb, LAt.later h.cf hb, h.tx.later hb, below_then h.low hb, h.b0⟩
theorem RS.xin (h : RS w W C Bw Bc B L p c g ws f q N d txs vs) (hN : txs.length = N) : XIn W q N txs := by
  obtain ⟨a1, a2, a3, a4, -, -⟩ := XOwn.in h.tx
  rw [hN] at a3 a4
  cases a3
  exact a4
end
end Go.Proofs.YtefnkjajjidfaaaDoor
namespace Go.Proofs.YtefnkjajjidfaaaDoor
open Go.RowKit


theorem wrap_three {b k : Nat} (hb : b ≤ 6) (hk : k ≤ 13) : IntKind.i64.wrap (IntKind.i64.wrap (1 + (b : Int)) + (k : Int)) = 1 + (b : Int) + (k : Int) := by
  rw [IntKind.wrap_i64, IntKind.wrap_i64]; omega
theorem Sty.found2 {c : Sup} {g : Lg} {ws : List Wr} {al : List R.Rec} {s : Sc} (h : Sty c g ws al s) {rd : Nat → List Int} (hr0 : rd 0 = newest ws (newS c) 0) (hr : ∀ q : Nat, q ≤ al.length → q < c.lc.toNat → rd (1 + c.bl + q).toNat = newest ws (newS c) (1 + c.bl + q).toNat) (hb : ∀ i, Bytes (rd i)) :
    rdL c (cntS c) rd = (⟨0, 1, s.fin, s.txs⟩, 0) ∧ Sc.Ok c.mr 0 c.lc.toNat s := by
  have hm := h.mc
  obtain ⟨e1, e2⟩ := h.fin_is
  have hlc := hm.2.1
  have hbl := hm.1
  obtain ⟨s', f1, f2, -, -⟩ := h.run (rd := rd) (k := al.length) (Nat.le_refl _) (fun q hq => hr q (by omega) (by omega)) (fun hk => by
    have hq : ((al.length : Int) % c.lc) = al.length := lg_eq (by omega) (by omega)
    refine st_blank ?_
    rw [hq, hr _ (Nat.le_refl _) hk]
    have := h.blank al.length (by omega) (by omega)
    unfold secN at this
    rw [h.gc, hq] at this
    exact this)
  rw [List.take_length, h.fold] at f1
  obtain rfl : s = s' := by cases f1; rfl
  refine ⟨rdL_new hm (hr0.trans h.sup) f2, ?_⟩
  have hmr : 0 ≤ c.mr := by have := hm.2.2.1; omega
  have r := Sc.Ok.run (st := stS c rd) (mr := c.mr) (t := 0) hmr (Int.le_refl 0) (fun p => stS_wf hb) c.lc.toNat 0 ⟨[], 0, []⟩ (Sc.Ok.start hmr 0) (by have := hm.2.1; omega)
  rw [show ((0 : Int) + ((0 : Nat) : Int)) = 0 from rfl, f2, Nat.zero_add] at r
  exact r
/-- the superblock and the positions up to f (the next one too) stand as they stood -/
def Ag2 (bl f : Nat) (ws : List Wr) (c : Sup) (ws' : List Wr) : Prop := newest ws' (newS c) 0 = newest ws (newS c) 0 ∧ ∀ i : Nat, i ≤ f → newest ws' (newS c) (1 + (bl : Int) + i).toNat = newest ws (newS c) (1 + (bl : Int) + i).toNat
theorem Ag2.refl (bl f : Nat) (ws : List Wr) (c : Sup) : Ag2 bl f ws c ws := ⟨rfl, fun _ _ => rfl⟩
theorem Ag2.put {bl f : Nat} {ws ws' : List Wr} {c : Sup} (h : Ag2 bl f ws c ws') {x : Int} {b : List Int} (h0 : 1 ≤ x) (h1 : x ≤ bl ∨ 1 + (bl : Int) + f < x) : Ag2 bl f ws c (ws' ++ [⟨x.toNat, b⟩]) :=
  ⟨by rw [newest_snoc, if_neg (by omega)]; exact h.1, fun i hi => by rw [newest_snoc, if_neg (by omega)]; exact h.2 i hi⟩
set_option maxHeartbeats 4000000 in
set_option maxRecDepth 100000 in
theorem scanRest_any (s0 : Sup) (ps : Option Addr) (n cs : Nat) (sets : List Int) (sd : Int) (op : Bool) (pl : Option Addr) (m cl : Nat) (a : Option Addr) (len cap : Nat) (junk : List Int) (w : World) (ht : Tab w) (hS : UIn w ps n sets) (hn : n ≤ 140737488355328) (hJ : BIn w a len junk) (hlc0 : len ≤ cap) :
    Calls Tryd.prog 5 #[.agg (stc s0 ps n cs sd op pl m cl).toArray, .slice a len cap] w fun e w' => e = .returned (.bool true) ∧ Below w.heap.size w w' := by
  have HT : Hid (Tab w) := ht
  have HU : Hid (UIn w ps n sets) := hS
  have HJ : Hid (BIn w a len junk) := hJ
  obtain ⟨m1, hmin1, hm1, hm1l⟩ : ∃ m1 : Nat, min (len : Int) 60 = m1 ∧ m1 ≤ 60 ∧ m1 ≤ len := ⟨min len 60, by omega, by omega, by omega⟩
  obtain ⟨m2, hmin2, hm2, hm2l⟩ : ∃ m2 : Nat, min (len : Int) 64 = m2 ∧ m2 ≤ 64 ∧ m2 ≤ len := ⟨min len 64, by omega, by omega, by omega⟩
  have J1 : Hid (BIn w a m1 (junk.take m1)) := hJ.take m1 hm1l
  have J2 : Hid (BIn w a m2 (junk.take m2)) := hJ.take m2 hm2l
  have hmc1 : m1 ≤ cap := by omega
  have hmc2 : m2 ≤ cap := by omega
  obtain ⟨wa, hwa⟩ : ∃ y, y = w.alloc (.cells (stc s0 ps n cs sd op pl m cl).toArray 43) := ⟨_, rfl⟩
  have ewa := hwa.symm
  have B0 : Hid (Below w.heap.size w wa) := by rw [hwa]; exact below_alloc w _
  have S0 : Hid (LAt 43 wa w.heap.size (stc s0 ps n cs sd op pl m cl)) := by rw [hwa]; exact LAt.new 43 w _
  clear hwa ht hS hJ HJ
  go_enter Tryd.func5, Tryd.ntmps5
  go_wp2_with fail
  refine (awake_any wa (HT.out.later B0.out)).mono ?_
  rintro e w1 ⟨rfl, b1⟩
  have B1 : Hid (Below w.heap.size w w1) := below_then B0.out b1
  have S1 : Hid (LAt 43 w1 w.heap.size (stc s0 ps n cs sd op pl m cl)) := LAt.later S0.out b1
  have L1 : Hid (_) := LAt.loadSt S1.out
  clear b1 B0 S0 ewa
  go_wp2_with ((with_reducible refine at_ops ?_); (refine wpList_load_is (by rfl) 43 rfl rfl L1.out ?_); simp only [Act.put, List.setIfInBounds_toArray, List.set_cons_zero, List.set_cons_succ])
  refine (told_any s0 ps n cs sets sd op pl m cl w1 (HT.out.later B1.out) (HU.out.later B1.out) hn).mono ?_
  rintro e w2 ⟨p, L, q, d, vs, B, g, ws, al, s, rfl, lb, st, wl, xo, hB, b2⟩
  have hfin := st.fin_is
  generalize hN : s.txs.length = N at *
  have A2 : Hid (_) := allocR w2
  have T2 : Hid (_) := store_newR w2 0 1 s.fin (v := .slice q N d) rfl
  obtain ⟨w3, hw3⟩ : ∃ y, y = w2.alloc (.cells (gcells 0 1 s.fin (.slice q N d)).toArray 48) := ⟨_, rfl⟩
  rw [← hw3] at T2
  have b3 : Below w2.heap.size w2 w3 := by rw [hw3]; exact below_alloc w2 _
  have W3 : LAt 48 w3 w2.heap.size (gcells 0 1 s.fin (.slice q N d)) := by rw [hw3]; exact LAt.new 48 w2 _
  have b13 : Below w1.heap.size w1 w3 := below_then b2 b3
  have B3 : Below w.heap.size w w3 := below_then B1.out b13
  have S3 : Hid (LAt 43 w3 w.heap.size (stc s0 ps n cs sd op pl m cl)) := LAt.later S1.out b13
  have L4 : Hid (_) := stc_range S3.out
  have X3 : XOwn 28 w3 w1.heap.size (.slice q N d) s.txs vs := xo.later b3
  have G3 : LB w3 B L p (newS (cfgS s0)) ws g := lb.later b3
  have HY : Hid (Sty (cfgS s0) g ws al s) := st
  have hsz : g.sz = cntS (cfgS s0) := by unfold Lg.sz cntS; rw [st.gc]
  have hwB : w.heap.size ≤ B := Nat.le_trans B1.out.size hB
  clear hw3 b3 b13 b2 lb st xo L1 S1 B1 hB S3
  go_wp2_with ((with_reducible refine at_ops ?_); (first | (refine wpList_alloc_is (by rfl) 48 rfl A2.out ?_) | (refine wpList_store_is (by rfl) 48 rfl rfl rfl T2.out ?_) | (refine wpList_load_is (by rfl) 39 rfl rfl L4.out ?_)); simp only [Act.put, List.setIfInBounds_toArray, List.set_cons_zero, List.set_cons_succ])
  refine (config10_any s0 w3).mono ?_
  rintro e w6 ⟨rfl, b6⟩
  have A6 : Hid (_) := alloc23 w6
  have T6 : Hid (_) := store_new23 w6 (cfgS s0)
  obtain ⟨w7, hw7⟩ : ∃ y, y = w6.alloc (.cells (ccells (cfgS s0)).toArray 39) := ⟨_, rfl⟩
  rw [← hw7] at T6
  have b7 : Below w6.heap.size w6 w7 := by rw [hw7]; exact below_alloc w6 _
  have C7 : CAt w7 w6.heap.size (cfgS s0) := by rw [hw7]; exact LAt.new 39 w6 _
  have b37 : Below w3.heap.size w3 w7 := below_then b6 b7
  have R7 : Hid (RS w w7 w1.heap.size w2.heap.size w6.heap.size B L p (cfgS s0) g ws s.fin q N d s.txs vs) := ⟨G3.later b37, LAt.later W3 b37, C7, X3.later b37, below_then B3 b37, hwB⟩
  clear hw7 b6 b7 L4 A2 T2 C7 b37 G3 W3 X3 B3 hwB
  obtain ⟨bl, hbl⟩ : ∃ bl : Nat, (cfgS s0).bl = bl := ⟨(cfgS s0).bl.toNat, by have := (cfgS_may s0).1; omega⟩
  obtain ⟨lc, hlc⟩ : ∃ lc : Nat, (cfgS s0).lc = lc := ⟨(cfgS s0).lc.toNat, by have := (cfgS_may s0).2.1; omega⟩
  have hbl6 : bl ≤ 6 := by have := (cfgS_small s0).2; omega
  have hlc13 : lc ≤ 13 := by have := (cfgS_small s0).1; omega
  obtain ⟨f, hf⟩ : ∃ f : Nat, al.length = f := ⟨_, rfl⟩
  rw [hf] at hfin wl
  obtain ⟨hgf, hfl⟩ := hfin
  have hflc : f ≤ lc := by omega
  have hwl : ws.length ≤ 13 := by omega
  clear hfl
  go_wp2_with ((with_reducible refine at_ops ?_); (first | (refine wpList_alloc_is (by rfl) 39 rfl A6.out ?_) | (refine wpList_store_is (by rfl) 39 rfl rfl rfl T6.out ?_)); simp only [Act.put, List.setIfInBounds_toArray, List.set_cons_zero, List.set_cons_succ])
  go_loopw [10] (fun i wr => ∃ b : Nat, b ≤ bl ∧ i = .int .i64 b ∧ Hid (∃ ws', RS w wr w1.heap.size w2.heap.size w6.heap.size B L p (cfgS s0) g ws' s.fin q N d s.txs vs ∧ ws'.length ≤ f + b ∧ Ag2 bl f ws (cfgS s0) ws')) (fun i _ => bl - (intOf i).toNat)
  case atStart => exact ⟨0, Nat.zero_le _, rfl, ws, R7.out, by omega, Ag2.refl _ _ _ _⟩
  case round =>
    obtain ⟨b, hb, rfl, HI⟩ := hrel
    obtain ⟨ws', hr, hlw, hag⟩ := HI.out
    clear HI R7
    have c0 : wr.cell? ⟨w6.heap.size, 0, none⟩ = some (.int .i64 (bl : Int)) := by rw [← hbl]; exact CAt.c0 hr.cf
    have HR : Hid (RS w wr w1.heap.size w2.heap.size w6.heap.size B L p (cfgS s0) g ws' s.fin q N d s.txs vs ∧ ws'.length ≤ f + b ∧ Ag2 bl f ws (cfgS s0) ws') := ⟨hr, hlw, hag⟩
    clear hr hlw hag
    by_cases hlt : b < bl
    · obtain ⟨q1, c1, wx, hrun, hin, hbx⟩ := app_b (w := wr) (c := cap) (b : Int) (by omega) (J1.out.later HR.out.1.low) (by omega)
      have AP : Hid (_) := hrun
      have I1 : Hid (BIn wx q1 (1 + m1) _) := hin
      have R1 : Hid (RS w wx w1.heap.size w2.heap.size w6.heap.size B L p (cfgS s0) g ws' s.fin q N d s.txs vs) := HR.out.1.later hbx
      clear hrun hin hbx
      go_wp2_with ((with_reducible refine at_ops ?_); (refine wpList_append_is (u1 := .slice (some ⟨wr.heap.size, 0, none⟩) 1 1) (u2 := .slice a m1 cap) (by rfl) rfl rfl rfl rfl AP.out ?_); simp only [Act.put, List.setIfInBounds_toArray, List.set_cons_zero, List.set_cons_succ])
      refine (full_any q1 (1 + m1) c1 _ wx (by omega) I1.out).mono ?_
      rintro e wy ⟨q2, c2, rfl, hin2, b2⟩
      have R2 : Hid (RS w wy w1.heap.size w2.heap.size w6.heap.size B L p (cfgS s0) g ws' s.fin q N d s.txs vs) := R1.out.later b2
      have I2 : Hid (BIn wy q2 64 _) := hin2
      clear hin2 b2 R1 I1 AP
      go_wp2_with fail
      refine (write_B R2.out.lb (1 + (b : Int)) (by omega) (by rw [hsz]; unfold cntS; omega) q2 c2 _ I2.out (by have := HR.out.2.1; omega)).mono ?_
      rintro e wz ⟨rfl, lb3, kt3⟩
      have R3 : Hid (∃ ws3, RS w wz w1.heap.size w2.heap.size w6.heap.size B L p (cfgS s0) g ws3 s.fin q N d s.txs vs ∧ ws3.length ≤ f + (b + 1) ∧ Ag2 bl f ws (cfgS s0) ws3) := ⟨_, R2.out.kt kt3 lb3, by rw [List.length_append]; have := HR.out.2.1; simp; omega, HR.out.2.2.put (by omega) (by omega)⟩
      clear lb3 kt3 R2 I2 HR c0
      go_wp2_with (go_at_call 15; refine (num_any _ _).mono ?_; rintro e wn ⟨rfl, rfl⟩)
      go_roundw
      case rel => exact ⟨b + 1, by omega, by go_num, R3.out⟩
      case measure => simp [intOf]; omega
    · go_wp2_with fail
      refine (lend_at HR.out.1.lb.log).mono ?_
      rintro e wn ⟨rfl, rfl⟩
      rw [hgf]
      have hcv : IntKind.i64.wrap (f : Int) = f := wrap_nat f (by omega)
      have R4 : Hid (∃ ws4, RS w wr w1.heap.size w2.heap.size w6.heap.size B L p (cfgS s0) g ws4 s.fin q N d s.txs vs ∧ ws4.length ≤ f + bl + (f + 1) ∧ Ag2 bl f ws (cfgS s0) ws4) := ⟨ws', HR.out.1, by have := HR.out.2.1; omega, HR.out.2.2⟩
      clear HR c0
      obtain ⟨wo, hwo⟩ : ∃ wo, wo = wr := ⟨_, rfl⟩
      subst hwo
      go_wp2_with fail
      go_loopw [12] (fun i wr => ∃ k : Nat, f + 1 ≤ k ∧ (k ≤ lc ∨ k = f + 1) ∧ i = .int .i64 k ∧ Hid (∃ ws', RS w wr w1.heap.size w2.heap.size w6.heap.size B L p (cfgS s0) g ws' s.fin q N d s.txs vs ∧ ws'.length ≤ f + bl + k ∧ Ag2 bl f ws (cfgS s0) ws')) (fun i _ => lc - (intOf i).toNat)
      case atStart => exact ⟨f + 1, Nat.le_refl _, .inr rfl, by go_num, R4.out⟩
      case round =>
        obtain ⟨k, hk1, hk2, rfl, HI⟩ := hrel
        obtain ⟨ws', hr, hlw, hag⟩ := HI.out
        clear HI R4
        have c1 : wr.cell? ⟨w6.heap.size, 1, none⟩ = some (.int .i64 (lc : Int)) := by rw [← hlc]; exact CAt.c1 hr.cf
        have HR : Hid (RS w wr w1.heap.size w2.heap.size w6.heap.size B L p (cfgS s0) g ws' s.fin q N d s.txs vs ∧ ws'.length ≤ f + bl + k ∧ Ag2 bl f ws (cfgS s0) ws') := ⟨hr, hlw, hag⟩
        clear hr hlw hag
        by_cases hlt : k < lc
        · go_wp2_with fail
          clear c1
          refine wp_region_noPanic ?_
          refine wp_region_held_drew (S := fun w' => CAt w' w6.heap.size (cfgS s0)) (by kernel_rfl) (LAt.later HR.out.1.cf (below_drawn 1)) (fun hHeld => ?_)
          have D1 : Hid (Below wr.heap.size wr wr.drew) := below_drawn 1
          generalize wr.drew = wd at *
          refine wpAnyH_take (i := 0) (v := ?va1) (by simp; rfl) (by kernel_rfl) (by kernel_rfl) (by kernel_rfl) (fun _ _ _ h => h) (Or.inl ⟨by rfl, ?ya1⟩) hHeld ?ra1
          case ya1 => intro w hSw; clear hSw; go_simp; with_reducible rfl
          simp only [Act.put, List.setIfInBounds_toArray, List.set_cons_zero, List.set_cons_succ]
          refine wpAnyH_take (i := 1) (v := ?va2) (by simp; rfl) (by kernel_rfl) (by kernel_rfl) (by kernel_rfl) (fun _ _ _ h => h) (Or.inl ⟨by rfl, ?ya2⟩) hHeld ?ra2
          case ya2 => intro w hSw; clear hSw; go_simp; with_reducible rfl
          simp only [Act.put, List.setIfInBounds_toArray, List.set_cons_zero, List.set_cons_succ]
          refine wpAnyH_take (i := 2) (v := ?va3) (by simp; rfl) (by kernel_rfl) (by kernel_rfl) (by kernel_rfl) (fun _ _ _ h => h) (Or.inl ⟨by rfl, ?ya3⟩) hHeld ?ra3
          case ya3 => intro w hSw; have z := CAt.c0 hSw; rw [hbl] at z; clear hSw; go_simp; with_reducible rfl
          simp only [Act.put, List.setIfInBounds_toArray, List.set_cons_zero, List.set_cons_succ]
          refine wpAnyH_take (i := 3) (v := ?va4) (by simp; rfl) (by kernel_rfl) (by kernel_rfl) (by kernel_rfl) (fun _ _ _ h => h) (Or.inl ⟨by rfl, ?ya4⟩) hHeld ?ra4
          case ya4 => intro w hSw; clear hSw; go_simp; with_reducible rfl
          simp only [Act.put, List.setIfInBounds_toArray, List.set_cons_zero, List.set_cons_succ]
          refine wpAnyH_take (i := 4) (v := ?va5) (by simp; rfl) (by kernel_rfl) (by kernel_rfl) (by kernel_rfl) (fun _ _ _ h => h) (Or.inl ⟨by rfl, ?ya5⟩) hHeld ?ra5
          case ya5 => intro w hSw; clear hSw; go_simp; with_reducible rfl
          simp only [Act.put, List.setIfInBounds_toArray, List.set_cons_zero, List.set_cons_succ]
          refine wpAnyH_take (i := 5) (v := ?va6) (by simp; rfl) (by kernel_rfl) (by kernel_rfl) (by kernel_rfl) (fun _ _ _ h => h) (Or.inl ⟨by rfl, ?ya6⟩) hHeld ?ra6
          case ya6 => intro w hSw; clear hSw; go_simp; with_reducible rfl
          simp only [Act.put, List.setIfInBounds_toArray, List.set_cons_zero, List.set_cons_succ]
          refine wpAnyH_take (i := 6) (v := ?va7) (by simp; rfl) (by kernel_rfl) (by kernel_rfl) (by kernel_rfl) (fun _ _ _ h => h) (Or.inl ⟨by rfl, ?ya7⟩) hHeld ?ra7
          case ya7 => intro w hSw; clear hSw; go_simp; with_reducible rfl
          simp only [Act.put, List.setIfInBounds_toArray, List.set_cons_zero, List.set_cons_succ]
          refine wpAnyH_take (i := 7) (v := ?va8) (by simp; rfl) (by kernel_rfl) (by kernel_rfl) (by kernel_rfl) (fun _ _ _ h => h) (Or.inl ⟨by rfl, ?ya8⟩) hHeld ?ra8
          case ya8 => intro w hSw; clear hSw; go_simp; with_reducible rfl
          simp only [Act.put, List.setIfInBounds_toArray, List.set_cons_zero, List.set_cons_succ]
          refine wpAnyH_take (i := 8) (v := ?va9) (by simp; rfl) (by kernel_rfl) (by kernel_rfl) (by kernel_rfl) (fun _ _ _ h => h) (Or.inl ⟨by rfl, ?ya9⟩) hHeld ?ra9
          case ya9 => intro w hSw; clear hSw; go_simp; with_reducible rfl
          simp only [Act.put, List.setIfInBounds_toArray, List.set_cons_zero, List.set_cons_succ]
          refine wpAnyH_take (i := 9) (v := ?va10) (by simp; rfl) (by kernel_rfl) (by kernel_rfl) (by kernel_rfl) (fun _ _ _ h => h) (Or.inl ⟨by rfl, ?ya10⟩) hHeld ?ra10
          case ya10 => intro w hSw; clear hSw; go_simp; with_reducible rfl
          simp only [Act.put, List.setIfInBounds_toArray, List.set_cons_zero, List.set_cons_succ]
          refine wpAnyH_take (i := 10) (v := ?va11) (by simp; rfl) (by kernel_rfl) (by kernel_rfl) (by kernel_rfl) (fun _ _ _ h => h) (Or.inl ⟨by rfl, ?ya11⟩) hHeld ?ra11
          case ya11 => intro w hSw; clear hSw; go_simp; with_reducible rfl
          simp only [Act.put, List.setIfInBounds_toArray, List.set_cons_zero, List.set_cons_succ]
          refine wpAnyH_ready (rs := [11]) (by kernel_rfl) (by simp) ?_
          refine AllReadyH.cons (by simp; rfl) (fun Kc hKc => ?_) AllReadyH.nil
          go_simp
          refine (full_any a m2 cap _ wd hm2 (J2.out.later (below_then HR.out.1.low D1.out))).mono ?_
          rintro e wf ⟨q2, c2, rfl, hin2, b2⟩
          have R2 : Hid (RS w wf w1.heap.size w2.heap.size w6.heap.size B L p (cfgS s0) g ws' s.fin q N d s.txs vs) := (HR.out.1.later D1.out).later b2
          have I2 : Hid (BIn wf q2 64 _) := hin2
          refine hKc.out _ _ R2.out.cf (fun hHeld => ?_)
          clear hKc Kc hin2 b2 D1
          refine wpAnyH_ready (rs := [12]) (by kernel_rfl) (by simp) ?_
          refine AllReadyH.cons (by simp; rfl) (fun Kc hKc => ?_) AllReadyH.nil
          go_simp
          rw [wrap_three hbl6 (show k ≤ 13 by omega)]
          refine (write_B R2.out.lb (1 + (bl : Int) + (k : Int)) (by omega) (by rw [hsz]; unfold cntS; omega) q2 c2 _ I2.out (by have := HR.out.2.1; omega)).mono ?_
          rintro e wg ⟨rfl, lb3, kt3⟩
          have R3 : Hid (∃ ws3, RS w wg w1.heap.size w2.heap.size w6.heap.size B L p (cfgS s0) g ws3 s.fin q N d s.txs vs ∧ ws3.length ≤ f + bl + (k + 1) ∧ Ag2 bl f ws (cfgS s0) ws3) := ⟨_, R2.out.kt kt3 lb3, by rw [List.length_append]; have := HR.out.2.1; simp; omega, HR.out.2.2.put (by omega) (by omega)⟩
          refine hKc.out _ _ (R2.out.kt kt3 lb3).cf (fun hHeld => ?_)
          clear hKc Kc lb3 kt3 R2 I2
          refine wpAnyH_ready (rs := [13]) (by kernel_rfl) (by simp) ?_
          refine AllReadyH.cons (by simp; rfl) (fun Kc hKc => ?_) AllReadyH.nil
          go_simp
          refine (num_any _ _).mono ?_
          rintro e wn ⟨rfl, rfl⟩
          refine hKc.out _ _ hHeld (fun hHeld => ?_)
          clear hKc Kc
          refine wpAnyH_take (i := 14) (v := ?va12) (by simp; rfl) (by kernel_rfl) (by kernel_rfl) (by kernel_rfl) (fun _ _ _ h => h) (Or.inl ⟨by rfl, ?ya12⟩) hHeld ?ra12
          case ya12 => intro w hSw; clear hSw; go_simp; with_reducible rfl
          simp only [Act.put, List.setIfInBounds_toArray, List.set_cons_zero, List.set_cons_succ]
          clear hHeld
          refine wpAnyH_done (by kernel_rfl) (NoPanic.normal ?_) _
          clear HR
          go_wp2_with fail
          go_roundw
          case rel => exact ⟨k + 1, by omega, .inl (by omega), by go_num, R3.out⟩
          case measure => simp [intOf]; omega
        · have G7 : Hid (Dsk wr (fun k => B ≤ k ∧ k ≠ L) p (cntS (cfgS s0)) (newS (cfgS s0)) ws') := by rw [← hsz]; exact HR.out.1.lb.dsk
          have Y7 : Hid (rdL (cfgS s0) (cntS (cfgS s0)) (newest ws' (newS (cfgS s0))) = (⟨0, 1, s.fin, s.txs⟩, 0) ∧ Sc.Ok (cfgS s0).mr 0 (cfgS s0).lc.toNat s) := HY.out.found2 HR.out.2.2.1 (fun i h1 h2 => by rw [hbl]; exact HR.out.2.2.2 i (by omega)) (newest_bytes G7.out)
          have L7 : Hid (_) := CAt.load23 HR.out.1.cf
          go_wp2_with ((with_reducible refine at_ops ?_); (refine wpList_load_is (by rfl) 39 rfl rfl L7.out ?_); simp only [Act.put, List.setIfInBounds_toArray, List.set_cons_zero, List.set_cons_succ])
          refine (read_any10 G7.out (HT.out.later HR.out.1.low) (cfgS s0)).mono ?_
          rintro e w8 ⟨q8, c8, vs8, rfl, x8, -, b8⟩
          rw [Y7.out.1] at x8 ⊢
          have X8' : XIn w8 q8 N s.txs := by
            obtain ⟨a1, a2, a3, a4, -, -⟩ := XOwn.in x8
            rw [show (((⟨0, 1, s.fin, s.txs⟩ : LogS), (0 : Int)).1.txs).length = N from hN] at a3 a4
            cases a3
            exact a4
          have A8 : Hid (_) := allocLg w8
          have T8 : Hid (_) := storeLg w8 0 1 s.fin (v := .slice q8 N c8) rfl
          obtain ⟨w9, hw9⟩ : ∃ y, y = w8.alloc (.cells (gcells 0 1 s.fin (.slice q8 N c8)).toArray 66) := ⟨_, rfl⟩
          rw [← hw9] at T8
          have b9 : Below w8.heap.size w8 w9 := by rw [hw9]; exact below_alloc w8 _
          have M9 : Hid (LAt 66 w9 w8.heap.size (gcells 0 1 s.fin (.slice q8 N c8))) := by rw [hw9]; exact LAt.new 66 w8 _
          have R9 : Hid (RS w w9 w1.heap.size w2.heap.size w6.heap.size B L p (cfgS s0) g ws' s.fin q N d s.txs vs) := HR.out.1.later (below_then b8 b9)
          have X8 : Hid (XIn w9 q8 N s.txs) := X8'.later b9
          have hok := Y7.out.2
          have hN64 : N ≤ 64 := by have := hok.tl; have := (cfgS_may s0).2.1; omega
          have hwf := hok.tw
          have hms : ∀ x ∈ s.txs, x.ims.length ≤ 100000 := fun x hx => by have := hok.cm x hx; have := (cfgS_may s0).2.2.1; omega
          clear hw9 b8 b9 L7 x8 X8' hok Y7 G7 HR
          rw [show ((⟨0, 1, s.fin, s.txs⟩ : LogS), (0 : Int)).1.txs.length = N from hN]
          go_wp2_with ((with_reducible refine at_ops ?_); (first | (refine wpList_alloc_is (by rfl) 66 rfl A8.out ?_) | (refine wpList_store_is (by rfl) 66 rfl rfl rfl T8.out ?_)); simp only [Act.put, List.setIfInBounds_toArray, List.set_cons_zero, List.set_cons_succ])
          clear A8 T8
          refine wp_region_noPanic ?_
          refine wp_region_held_drew (S := fun w' => Below w9.heap.size w9 w') (by kernel_rfl) (below_drawn 1) (fun hHeld => ?_)
          have D2 : Hid (Below w9.heap.size w9 w9.drew) := hHeld
          generalize w9.drew = wd at *
          refine wpAnyH_take (i := 0) (v := ?va13) (by simp; rfl) (by kernel_rfl) (by kernel_rfl) (by kernel_rfl) (fun _ _ _ h => h) (Or.inl ⟨by rfl, ?ya13⟩) hHeld ?ra13
          case ya13 => intro w hSw; clear hSw; go_simp; with_reducible rfl
          simp only [Act.put, List.setIfInBounds_toArray, List.set_cons_zero, List.set_cons_succ]
          refine wpAnyH_ready (rs := [1]) (by kernel_rfl) (by simp) ?_
          refine AllReadyH.cons (by simp; rfl) (fun Kc hKc => ?_) AllReadyH.nil
          go_simp
          refine (num_any _ _).mono ?_
          rintro e wn ⟨rfl, rfl⟩
          refine hKc.out _ _ D2.out (fun hHeld => ?_)
          clear hKc Kc
          refine wpAnyH_take (i := 2) (v := ?va14) (by simp; rfl) (by kernel_rfl) (by kernel_rfl) (by kernel_rfl) (fun _ _ _ h => h) (Or.inl ⟨by rfl, ?ya14⟩) hHeld ?ra14
          case ya14 => intro w hSw; clear hSw; go_simp; with_reducible rfl
          simp only [Act.put, List.setIfInBounds_toArray, List.set_cons_zero, List.set_cons_succ]
          refine wpAnyH_take (i := 3) (v := ?va15) (by simp; rfl) (by kernel_rfl) (by kernel_rfl) (by kernel_rfl) (fun _ _ _ h => h) (Or.inl ⟨by rfl, ?ya15⟩) hHeld ?ra15
          case ya15 => intro w hSw; clear hSw; go_simp; with_reducible rfl
          simp only [Act.put, List.setIfInBounds_toArray, List.set_cons_zero, List.set_cons_succ]
          refine wpAnyH_take (i := 4) (v := _) (by simp; rfl) (by kernel_rfl) (by kernel_rfl) (by kernel_rfl) (fun _ _ _ h => h) (yieldsIf_load_mid (by rfl) 66 (.tmp 13) rfl w8.heap.size 0 rfl (gcells 0 1 s.fin (.slice q8 N c8)) _ (fun _ h => LAt.range (LAt.later M9.out h)) Tryd.underlying66 rfl sizeLg) hHeld ?_
          simp only [Act.put, List.setIfInBounds_toArray, List.set_cons_zero, List.set_cons_succ]
          refine wpAnyH_take (i := 6) (v := _) (by simp; rfl) (by kernel_rfl) (by kernel_rfl) (by kernel_rfl) (fun _ _ _ h => h) (yieldsIf_load_mid (by rfl) 48 (.tmp 7) rfl w2.heap.size 0 rfl (gcells 0 1 s.fin (.slice q N d)) _ (fun _ h => LAt.range (LAt.later R9.out.wt h)) Tryd.underlying48 rfl sizeR) hHeld ?_
          simp only [Act.put, List.setIfInBounds_toArray, List.set_cons_zero, List.set_cons_succ]
          refine wpAnyH_ready (rs := [5]) (by kernel_rfl) (by simp) ?_
          refine AllReadyH.cons (by simp; rfl) (fun Kc hKc => ?_) AllReadyH.nil
          go_simp
          refine (plain_any 0 1 s.fin q8 N c8 s.txs _ (X8.out.later D2.out) hwf (by omega) hms).mono ?_
          rintro e wp ⟨qp, dp, vp, rfl, xp, bp⟩
          have D3 : Hid (Below w9.heap.size w9 wp) := below_then D2.out bp
          have XP : Hid (XIn wp qp N s.txs) := by
            obtain ⟨a1, a2, a3, a4, -, -⟩ := XOwn.in xp
            rw [hN] at a3 a4
            cases a3
            exact a4
          refine hKc.out _ _ D3.out (fun hHeld => ?_)
          clear hKc Kc xp bp
          refine wpAnyH_ready (rs := [7]) (by kernel_rfl) (by simp) ?_
          refine AllReadyH.cons (by simp; rfl) (fun Kc hKc => ?_) AllReadyH.nil
          go_simp
          refine (same_eq 0 1 s.fin qp q N dp d s.txs wp XP.out ((R9.out.xin hN).later D3.out) (by omega) hms).mono ?_
          rintro e wq ⟨rfl, bq⟩
          have D4 : Hid (Below w9.heap.size w9 wq) := below_then D3.out bq
          refine hKc.out _ _ D4.out (fun hHeld => ?_)
          clear hKc Kc bq
          refine wpAnyH_take (i := 8) (v := ?va16) (by simp; rfl) (by kernel_rfl) (by kernel_rfl) (by kernel_rfl) (fun _ _ _ h => h) (Or.inl ⟨by rfl, ?ya16⟩) hHeld ?ra16
          case ya16 => intro w hSw; clear hSw; go_simp; with_reducible rfl
          simp only [Act.put, List.setIfInBounds_toArray, List.set_cons_zero, List.set_cons_succ]
          refine wpAnyH_take (i := 9) (v := ?va17) (by simp; rfl) (by kernel_rfl) (by kernel_rfl) (by kernel_rfl) (fun _ _ _ h => h) (Or.inl ⟨by rfl, ?ya17⟩) hHeld ?ra17
          case ya17 => intro w hSw; clear hSw; go_simp; with_reducible rfl
          simp only [Act.put, List.setIfInBounds_toArray, List.set_cons_zero, List.set_cons_succ]
          clear hHeld
          refine wpAnyH_done (by kernel_rfl) (NoPanic.normal ?_) _
          have FF : Hid (Below w.heap.size w wq) := below_then R9.out.low D4.out
          clear D2 D3 D4
          go_wp2_with fail
          go_ret
          exact ⟨rfl, FF.out⟩
end Go.Proofs.YtefnkjajjidfaaaDoor
namespace Go.Proofs.YtefnkjajjidfaaaDoor
open Go.RowKit


theorem Sty.cut {c : Sup} {g : Lg} {ws : List Wr} {al : List R.Rec} {s : Sc} (h : Sty c g ws al s) {rd : Nat → List Int} {k : Nat} (hk : k < al.length) (hr0 : rd 0 = newest ws (newS c) 0) (ha : ∀ q : Nat, q < k → rd (1 + c.bl + q).toNat = newest ws (newS c) (1 + c.bl + q).toNat) (ho : (stS c rd k).2 = false) (hb : ∀ i, Bytes (rd i)) :
    ∃ s', rdL c (cntS c) rd = (⟨0, 1, s'.fin, s'.txs⟩, 0) ∧ s'.txs = aheadT s.txs k ∧ s'.fin = endT (aheadT s.txs k) 0 ∧ Sc.Ok c.mr 0 c.lc.toNat s' := by
  have hm := h.mc
  obtain ⟨s', f1, f2, f3, f4⟩ := h.run (rd := rd) (k := k) (by omega) ha (fun _ => ho)
  refine ⟨s', rdL_new hm (hr0.trans h.sup) f2, f3, by rw [f4, f3], ?_⟩
  have hmr : 0 ≤ c.mr := by have := hm.2.2.1; omega
  have r := Sc.Ok.run (st := stS c rd) (mr := c.mr) (t := 0) hmr (Int.le_refl 0) (fun p => stS_wf hb) c.lc.toNat 0 ⟨[], 0, []⟩ (Sc.Ok.start hmr 0) (by have := hm.2.1; omega)
  rw [show ((0 : Int) + ((0 : Nat) : Int)) = 0 from rfl, f2, Nat.zero_add] at r
  exact r
theorem st_bad {c : Sup} {rd : Nat → List Int} {p : Int} {X : List Int} (h : rd (1 + c.bl + p % c.lc).toNat = X) (hX : (R.decS X).2 ≠ 0) : (stS c rd p).2 = false := by
  rw [stS_no fun k => hX (by rw [← h]; exact k.1)]
theorem st_pos {c : Sup} {rd : Nat → List Int} {p : Int} {r : R.Rec} (h : rd (1 + c.bl + p % c.lc).toNat = R.encS r) (hw : r.Wf) (hm : R.may r = true) (hp : r.pos ≠ p) : (stS c rd p).2 = false := by
  rw [stS_no fun k => hp ?_]
  have := k.2.1
  rw [h, R.decS_encS r hw hm] at this
  exact this
/-- four bytes side by side turned: no record -/
theorem burst_bad {Y : List Int} (hY : Bytes Y) {t L : Nat} (ht : t < 4294967296) (h0 : t ≠ 0) (hc : crc Y = 558161692 ^^^ R.acc t L 4) : (R.decS Y).2 ≠ 0 := fun h => by
  have h1 := R.good_sum Y hY h
  rw [hc] at h1
  exact h0 ((R.acc_four t L ht).1 ((R.xor_same _ _).1 h1))
/-- what stands at a position of a story: its record -/
theorem Sty.rec_at {c : Sup} {g : Lg} {ws : List Wr} {al : List R.Rec} {s : Sc} (h : Sty c g ws al s) {k : Nat} {r : R.Rec} (hk : al[k]? = some r) : newest ws (newS c) (1 + c.bl + k).toNat = R.encS r ∧ r.Wf ∧ R.may r = true ∧ r.pos = k := by
  have hl := (List.getElem?_eq_some_iff.1 hk).1
  have e2 := h.fin_is.2
  have hlc := h.mc.2.1
  have a := h.hold.at_ k r hk (by rw [h.gt]; omega)
  unfold secN at a
  rw [h.gc, Int.zero_add, lg_eq (by omega) (by omega)] at a
  exact a
end Go.Proofs.YtefnkjajjidfaaaDoor
namespace Go.Proofs.YtefnkjajjidfaaaDoor
open Go.RowKit


/-- transactions in a row of ours, whose images lie in rows that were there at w0 -/
structure XSh (w0 : World) (w : World) (B : Nat) (v : Value) (l : List TX) (vs : List Value) : Prop where
  len : vs.length = l.length
  row : w.ownsRow B 28 2 v l.length (TC ((l.map (·.p)).zip vs))
  each : ∀ (k : Nat) (t : TX) (u : Value), l[k]? = some t → vs[k]? = some u → ∃ q c, u = .slice q t.ims.length c ∧ MIn w0 q t.ims.length t.ims ∧ t.ims.length ≤ c ∧ c ≤ maxLen
theorem XSh.nil (w0 w : World) (B : Nat) : XSh w0 w B (.slice none 0 0) [] [] := ⟨rfl, World.ownsRow_nil _ _ _ _, fun k t u h => by simp at h⟩
theorem XSh.in {w0 w : World} {B : Nat} {v : Value} {l : List TX} {vs : List Value} (h : XSh w0 w B v l vs) (hb : Below w0.heap.size w0 w) : ∃ p c, v = .slice p l.length c ∧ XIn w p l.length l := by
  rcases h.row.2 with ⟨ev, e2⟩ | ⟨g, cap, cur, ev, _, hg, h1, h2, h3, h4⟩
  · refine ⟨none, 0, by rw [ev, e2], ?_⟩
    exact ⟨rfl, fun h0 => by omega⟩
  · refine ⟨_, cap, ev, ⟨rfl, fun _ => ⟨g, 0, rfl, fun k t hk => ?_⟩⟩⟩
    have hkl := (List.getElem?_eq_some_iff.1 hk).1
    have hkv : k < vs.length := by rw [h.len]; exact hkl
    have hz : ((l.map (·.p)).zip vs)[k]? = some (t.p, vs[k]) := by
      rw [List.getElem?_zip_eq_some]
      exact ⟨by rw [List.getElem?_map, hk]; rfl, by rw [List.getElem?_eq_getElem hkv]⟩
    have hc : ∀ j, j < 2 → w.cell? ⟨g, 0 + k * 2 + j, none⟩ = [Value.int .u64 t.p, vs[k]][j]? := fun j hj => by
      have a := TC_at _ hz j hj
      rw [← h4, List.getElem?_take, if_pos (by omega)] at a
      rw [cell_of_row w g _ cur 28 (0, 0) hg, show 0 + k * 2 + j = 2 * k + j by omega, ← a]
      simp
    obtain ⟨q, c, e1, m1, m2, m3⟩ := h.each k t vs[k] hk (by rw [List.getElem?_eq_getElem hkv])
    refine ⟨q, c, hc 0 (by omega), ?_, m1.later hb, m2, m3⟩
    rw [hc 1 (by omega)]
    show some vs[k] = _
    rw [e1]
theorem XSh.kept {w0 w w' : World} {B : Nat} {v : Value} {l : List TX} {vs : List Value} {row : Option Nat} (h : XSh w0 w B v l vs) (hg : w.grownBy w' row) (hv : v.ownBlock = none ∨ v.ownBlock ≠ row) : XSh w0 w' B v l vs :=
  ⟨h.len, h.row.kept hg hv, h.each⟩
theorem XSh.app {w0 V : World} {B Bo : Nat} {t l f : Int} {v : Value} {txs : List TX} {vs : List Value} (h : XSh w0 V B v txs vs) (hlg : LAt 48 V Bo (gcells t l f v)) (hB : B ≤ V.heap.size) (hl : txs.length ≤ 3000000) {p : Int} {q : Option Addr} {k m : Nat} {ims : List Im} (him : ∃ q1 c, Value.slice q k m = .slice q1 ims.length c ∧ MIn w0 q1 ims.length ims ∧ ims.length ≤ c ∧ c ≤ maxLen) :
    ∃ q' c' V4, (Builtin.append_ #[22, 22] 22 #[v, .slice (some ⟨V.heap.size, 0, none⟩) 1 1]).run Tryd.prog (V.alloc (.cells #[.int .u64 p, .slice q k m] 28)) = .ok (.slice q' (txs.length + 1) c') V4 ∧ LAt 48 V4 Bo (gcells t l f v) ∧ (∀ {g ty cs}, ty ≠ 28 → LAt ty V g cs → LAt ty V4 g cs) ∧ (∀ {g ty cs}, v.ownBlock ≠ some g → LAt ty V g cs → LAt ty V4 g cs) ∧ XSh w0 (V4.setCell ⟨Bo, 3, none⟩ (.slice q' (txs.length + 1) c')) B (.slice q' (txs.length + 1) c') (txs ++ [⟨p, ims⟩]) (vs ++ [.slice q k m]) ∧ Below B V V4 := by
  obtain ⟨i0, hi0, hz0, hz1, hz2⟩ := info_parts infoX
  have h65 : (4000000 : Nat) ≤ maxLen := by decide
  obtain ⟨v', V4, hrun, hown', hgrow, -⟩ := run_append_own (P := Tryd.prog) (V.alloc (.cells #[.int .u64 p, .slice q k m] 28)) B 22 22 28 i0 _ 2 32 Tryd.underlying22 hi0 hz0 hz1 hz2 rfl (by decide) v txs.length _ (h.row.alloc _) ⟨V.heap.size, 0, none⟩ 1 1 [.int .u64 p, .slice q k m] rfl (fun j u hu => by
    rw [Addr.add_mid, Nat.zero_add]; exact (LAt.cell (LAt.new 28 V [.int .u64 p, .slice q k m]) j).trans hu) (fun u hu => by
    simp only [List.mem_cons, List.not_mem_nil, or_false] at hu
    rcases hu with rfl | rfl <;> rfl) (by omega) (by omega) (by simp; omega)
  obtain ⟨g', c', rfl⟩ := ownsRow_succ hown'
  have hlg4 : LAt 48 V4 Bo (gcells t l f v) := lat_grown hlg (by decide) h.row hgrow
  refine ⟨_, c', V4, hrun, hlg4, fun hne hb => lat_grown hb hne h.row hgrow, fun {g ty cs} hne hb => ?_, ?_, ?_⟩
  · have h' : LAt ty (V.alloc (.cells #[.int .u64 p, .slice q k m] 28)) g cs := (Below.heap_alloc _ _ _ hb.lt).trans hb
    exact (hgrow.block g h'.lt fun e' => hne e'.symm).trans h'
  · refine ⟨by rw [List.length_append, List.length_append, h.len]; rfl, ?_, fun j y u a b => ?_⟩
    · rw [List.map_append, List.zip_append (by rw [List.length_map, h.len]), List.length_append]
      show World.ownsRow _ _ _ _ _ _ (TC ((txs.map (·.p)).zip vs ++ [(p, .slice q k m)]))
      rw [TC_snoc]
      refine ⟨hown'.1, ?_⟩
      rcases hown'.2 with hr | ⟨g, cap, cur, e1, e2, e3, e4⟩
      · exact .inl hr
      · have n1 : g ≠ Bo := fun e => by subst e; have := e3.symm.trans hlg4; simp at this
        exact .inr ⟨g, cap, cur, e1, e2, (heap_setCell_other _ ⟨Bo, 3, none⟩ g _ n1).trans e3, e4⟩
    · by_cases cj : j < txs.length
      · rw [List.getElem?_append_left cj] at a
        rw [List.getElem?_append_left (by rw [h.len]; exact cj)] at b
        exact h.each j y u a b
      · have hj : j = txs.length := by
          have := (List.getElem?_eq_some_iff.1 a).1
          simp only [List.length_append, List.length_singleton] at this
          omega
        subst hj
        rw [List.getElem?_append_right (Nat.le_refl _), Nat.sub_self] at a
        rw [← h.len, List.getElem?_append_right (Nat.le_refl _), Nat.sub_self] at b
        cases a; cases b
        exact him
  · exact ((Below.refl B V).alloc hB _).grown hgrow (by simp; omega) fun j ej => (h.row.lt j ej).1
theorem sizeX : (Tryd.prog.info? 28).map (·.size) = some 2 := by kernel_rfl
theorem allocX (w : World) : (Instr.alloc 28 true (.tuple #[])).run Tryd.prog w = .ok (.pointer (some ⟨w.heap.size, 0, none⟩)) (w.alloc (.cells #[.int .u64 0, .slice none 0 0] 28)) := by
  simp only [Instr.alloc, Sem.run_bind, zv 28 _ zeroX, Result.andThen_ok]
  simp [newVar, newRow, Value.cells]
theorem store_newX (w : World) (p : Int) (q : Option Addr) (n m : Nat) : (Instr.storeAt 28 (.pointer (some ⟨w.heap.size, 0, none⟩)) (.agg #[.int .u64 p, .slice q n m])).run Tryd.prog (w.alloc (.cells #[.int .u64 0, .slice none 0 0] 28)) = .ok () (w.alloc (.cells #[.int .u64 p, .slice q n m] 28)) := by
  have := (LAt.new 28 w [.int .u64 0, .slice none 0 0]).store (ds := [.int .u64 p, .slice q n m]) sizeX rfl (by simp [Value.oneCell'])
  rw [setRow_alloc] at this
  exact this
theorem load_rtx {w : World} {b o : Nat} {p : Int} {u : Value} (h0 : w.cell? ⟨b, o, none⟩ = some (.int .u64 p)) (h1 : w.cell? ⟨b, o + 1, none⟩ = some u) : (Instr.loadAt 28 (.pointer (some ⟨b, o, none⟩))).run Tryd.prog w = .ok (.agg #[.int .u64 p, u]) w := by
  refine run_loadAt_mid w b o 28 [.int .u64 p, u] _ (fun j v hv => ?_) Tryd.underlying28 rfl sizeX
  have hj : j < 2 := (List.getElem?_eq_some_iff.1 hv).1
  have : j = 0 ∨ j = 1 := by omega
  rcases this with rfl | rfl
  · exact h0.trans hv
  · exact h1.trans hv
theorem ahead_step (txs : List TX) {k : Nat} {x : TX} (h : txs[k]? = some x) (p : Int) : aheadT (txs.take (k + 1)) p = if x.p < p then aheadT (txs.take k) p ++ [x] else aheadT (txs.take k) p := by
  rw [List.take_add_one, h]
  exact aheadT_snoc _ _ _
end Go.Proofs.YtefnkjajjidfaaaDoor
namespace Go.Proofs.YtefnkjajjidfaaaDoor
open Go.RowKit


set_option maxHeartbeats 4000000 in
set_option maxRecDepth 100000 in
theorem ahead_any (t l f : Int) (q : Option Addr) (n c : Nat) (txs : List TX) (pp : Int) (w : World) (h : XIn w q n txs) (hn : n ≤ 100000) (hp : ∀ x ∈ txs, 0 ≤ x.p ∧ x.p < 1000) :
    Calls Tryd.prog 23 #[.agg (gcells t l f (.slice q n c)).toArray, .int .u64 pp] w fun e w' => ∃ q' d, e = .returned (.agg (gcells 0 1 (endT (aheadT txs pp) 0) (.slice q' (aheadT txs pp).length d)).toArray) ∧ XIn w' q' (aheadT txs pp).length (aheadT txs pp) ∧ Below w.heap.size w w' := by
  obtain ⟨wa, hwa⟩ : ∃ y, y = w.alloc (.cells (gcells t l f (.slice q n c)).toArray 48) := ⟨_, rfl⟩
  obtain ⟨wb, hwb⟩ : ∃ y, y = wa.alloc (.cells (gcells 0 0 0 (.slice none 0 0)).toArray 48) := ⟨_, rfl⟩
  obtain ⟨wc, hwc⟩ : ∃ y, y = wb.alloc (.cells (gcells 0 1 0 (.slice none 0 0)).toArray 48) := ⟨_, rfl⟩
  have ewa := hwa.symm
  have sa : wa.heap.size = w.heap.size + 1 := by rw [hwa]; simp
  have sb : wb.heap.size = w.heap.size + 1 + 1 := by rw [hwb, ← sa]; simp
  have A1 : Hid (_) := allocR wa
  rw [← hwb, sa] at A1
  have U1 : Hid (_) := buildR1 wb 1
  have A2 : Hid (_) := allocR wb
  have T2 : Hid (_) := store_newR wb 0 1 0 (v := .slice none 0 0) rfl
  rw [← hwc, sb] at T2
  rw [sb] at A2
  have bwa : Below w.heap.size w wa := by rw [hwa]; exact below_alloc w _
  have bab : Below wa.heap.size wa wb := by rw [hwb]; exact below_alloc wa _
  have bbc : Below wb.heap.size wb wc := by rw [hwc]; exact below_alloc wb _
  have LA : LAt 48 wb w.heap.size (gcells t l f (.slice q n c)) := by
    refine LAt.later ?_ bab
    rw [hwa]; exact LAt.new 48 w _
  have LAc := LAt.later LA bbc
  have LZ : Hid (LAt 48 wc (w.heap.size + 1) (gcells 0 0 0 (.slice none 0 0))) := by
    refine LAt.later ?_ bbc
    rw [hwb, ← sa]; exact LAt.new 48 wa _
  have LO : Hid (LAt 48 wc (w.heap.size + 1 + 1) (gcells 0 1 0 (.slice none 0 0))) := by rw [hwc, ← sb]; exact LAt.new 48 wb _
  have B0 : Hid (Below w.heap.size w wc) := below_then (below_then bwa bab) bbc
  have a3 : wc.cell? ⟨w.heap.size, 3, none⟩ = some (.slice q n c) := LAt.cell LAc 3
  have HX : Hid (XIn w q n txs) := h
  have HP : Hid (∀ x ∈ txs, 0 ≤ x.p ∧ x.p < 1000) := hp
  have hlen := h.len
  clear hwa hwb hwc bwa bab bbc LA LAc h hp
  go_enter Tryd.func23, Tryd.ntmps23
  go_wp2_with ((with_reducible refine at_ops ?_); (first | (refine wpList_alloc_is (by rfl) 48 rfl A1.out ?_) | (refine wpList_build_is (vs := [(1, .int .u64 1)]) (by rfl) 48 rfl (by rfl) U1.out ?_) | (refine wpList_alloc_is (by rfl) 48 rfl A2.out ?_) | (refine wpList_store_is (by rfl) 48 rfl rfl rfl T2.out ?_)); simp only [Act.put, List.setIfInBounds_toArray, List.set_cons_zero, List.set_cons_succ])
  clear A1 U1 A2 T2 a3 ewa
  go_loopw [12] (fun i wr => ∃ k : Nat, k ≤ n ∧ i = .int .i64 k ∧ Hid (∃ v vs, LAt 48 wr (w.heap.size + 1 + 1) (gcells 0 1 (endT (aheadT (txs.take k) pp) 0) v) ∧ LAt 48 wr (w.heap.size + 1) (gcells 0 0 0 (.slice none 0 0)) ∧ XSh w wr w.heap.size v (aheadT (txs.take k) pp) vs ∧ Below w.heap.size w wr)) (fun i _ => n - (intOf i).toNat)
  case atStart => exact ⟨0, Nat.zero_le _, rfl, _, [], LO.out, LZ.out, XSh.nil _ _ _, B0.out⟩
  case round =>
    obtain ⟨k, hk, rfl, HI⟩ := hrel
    clear LO LZ B0
    obtain ⟨v, vs, i1, i2, i3, i4⟩ := HI.out
    clear HI
    by_cases hlt : k < n
    · obtain ⟨x, hxk⟩ : ∃ x, txs[k]? = some x := ⟨_, List.getElem?_eq_getElem (by omega)⟩
      obtain ⟨b, o, rfl, hcell⟩ := HX.out.cells (by omega)
      obtain ⟨q2, c2, e0', e1', mi, mi2, mi3⟩ := hcell k x hxk
      have e0 := (i4.cell (p := ⟨b, o + k * 2, none⟩) (World.block_lt_of_cell? w _ e0')).trans e0'
      have e1 := (i4.cell (p := ⟨b, o + k * 2 + 1, none⟩) (World.block_lt_of_cell? w _ e1')).trans e1'
      have hxp := HP.out x (List.mem_of_getElem? hxk)
      have hst := ahead_step txs hxk pp
      have L7 : Hid (_) := load_rtx e0 e1
      have A8 : Hid (_) := allocX wr
      have T8 : Hid (_) := store_newX wr x.p q2 x.ims.length c2
      obtain ⟨w8, hw8⟩ : ∃ y, y = wr.alloc (.cells #[.int .u64 x.p, .slice q2 x.ims.length c2] 28) := ⟨_, rfl⟩
      rw [← hw8] at T8
      have b8 : Below wr.heap.size wr w8 := by rw [hw8]; exact below_alloc wr _
      have s8 : wr.heap.size < w8.heap.size := by rw [hw8]; simp
      have l8 : LAt 28 w8 wr.heap.size [.int .u64 x.p, .slice q2 x.ims.length c2] := by rw [hw8]; exact LAt.new 28 wr _
      have c80 : w8.cell? ⟨wr.heap.size, 0, none⟩ = some (.int .u64 x.p) := LAt.cell l8 0
      have L8 : Hid (_) := load_rtx (w := w8) (b := wr.heap.size) (o := 0) c80 (LAt.cell l8 1)
      have j1 := LAt.later i1 b8
      have j2 := LAt.later i2 b8
      have j3 : XSh w w8 w.heap.size v (aheadT (txs.take k) pp) vs := by rw [hw8]; exact ⟨i3.len, i3.row.alloc _, i3.each⟩
      have j4 := below_then i4 b8
      have hsz := i4.size
      have hbo := LAt.lt i1
      have hnb : v.ownBlock ≠ some wr.heap.size := fun ej => by have := (i3.row.lt _ ej).2; omega
      have hal : (aheadT (txs.take k) pp).length ≤ k := by
        refine Nat.le_trans (List.length_filter_le _ _) ?_
        rw [List.length_take]; omega
      clear hw8 i1 i2 i3 i4 e0' e1' hcell
      by_cases hpos : x.p < pp
      · rw [if_pos hpos] at hst
        obtain ⟨q4, c4, V4, hrun, lg4, oth, ne4, xs4, bl4⟩ := j3.app (p := x.p) (q := q2) (k := x.ims.length) (m := c2) (ims := x.ims) j1 (by omega) (by omega) ⟨q2, c2, rfl, mi, mi2, mi3⟩
        obtain ⟨qv, cv, hv, -⟩ := j3.in j4
        have j13 : w8.cell? ⟨w.heap.size + 1 + 1, 3, none⟩ = some v := LAt.cell j1 3
        have y3 : V4.cell? ⟨w.heap.size + 1 + 1, 3, none⟩ = some v := LAt.cell lg4 3
        have y3f := LAt.free lg4 3
        have lg5 := LAt.set lg4 3 (.slice q4 ((aheadT (txs.take k) pp).length + 1) c4)
        have ne5 : LAt 28 (V4.setCell ⟨w.heap.size + 1 + 1, 3, none⟩ (.slice q4 ((aheadT (txs.take k) pp).length + 1) c4)) wr.heap.size _ := (heap_setCell_other _ ⟨w.heap.size + 1 + 1, 3, none⟩ wr.heap.size _ (by show wr.heap.size ≠ w.heap.size + 1 + 1; omega)).trans (ne4 hnb l8)
        have z0 : (V4.setCell ⟨w.heap.size + 1 + 1, 3, none⟩ (.slice q4 ((aheadT (txs.take k) pp).length + 1) c4)).cell? ⟨wr.heap.size, 0, none⟩ = some (.int .u64 x.p) := LAt.cell ne5 0
        have y2 : (V4.setCell ⟨w.heap.size + 1 + 1, 3, none⟩ (.slice q4 ((aheadT (txs.take k) pp).length + 1) c4)).cell? ⟨w.heap.size + 1 + 1, 2, none⟩ = some (.int .u64 _) := LAt.cell lg5 2
        have y2f := LAt.free lg5 2
        have lg6 := LAt.set lg5 2 (.int .u64 (x.p + 1))
        have hadd : IntKind.u64.wrap (x.p + 1) = x.p + 1 := G.wrap_u (by omega) (by omega)
        have xs6 : XSh w ((V4.setCell ⟨w.heap.size + 1 + 1, 3, none⟩ (.slice q4 ((aheadT (txs.take k) pp).length + 1) c4)).setCell ⟨w.heap.size + 1 + 1, 2, none⟩ (.int .u64 (x.p + 1))) w.heap.size (.slice q4 ((aheadT (txs.take k) pp).length + 1) c4) (aheadT (txs.take k) pp ++ [⟨x.p, x.ims⟩]) (vs ++ [.slice q2 x.ims.length c2]) := by
          refine ⟨xs4.len, ⟨xs4.row.1, ?_⟩, xs4.each⟩
          rcases xs4.row.2 with hr | ⟨g, cap, cur, u1, u2, u3, u4⟩
          · exact .inl hr
          · have n1 : g ≠ w.heap.size + 1 + 1 := fun e => by subst e; have := u3.symm.trans lg5; simp at this
            exact .inr ⟨g, cap, cur, u1, u2, (heap_setCell_other _ ⟨w.heap.size + 1 + 1, 2, none⟩ g _ n1).trans u3, u4⟩
        have bl6 : Below w.heap.size w ((V4.setCell ⟨w.heap.size + 1 + 1, 3, none⟩ (.slice q4 ((aheadT (txs.take k) pp).length + 1) c4)).setCell ⟨w.heap.size + 1 + 1, 2, none⟩ (.int .u64 (x.p + 1))) := ((j4.trans bl4).setCell (p := ⟨w.heap.size + 1 + 1, 3, none⟩) (by show w.heap.size ≤ w.heap.size + 1 + 1; omega) _).setCell (p := ⟨w.heap.size + 1 + 1, 2, none⟩) (by show w.heap.size ≤ w.heap.size + 1 + 1; omega) _
        have F5 : Hid (∃ v vs, LAt 48 ((V4.setCell ⟨w.heap.size + 1 + 1, 3, none⟩ (.slice q4 ((aheadT (txs.take k) pp).length + 1) c4)).setCell ⟨w.heap.size + 1 + 1, 2, none⟩ (.int .u64 (x.p + 1))) (w.heap.size + 1 + 1) (gcells 0 1 (endT (aheadT (txs.take (k + 1)) pp) 0) v) ∧ LAt 48 ((V4.setCell ⟨w.heap.size + 1 + 1, 3, none⟩ (.slice q4 ((aheadT (txs.take k) pp).length + 1) c4)).setCell ⟨w.heap.size + 1 + 1, 2, none⟩ (.int .u64 (x.p + 1))) (w.heap.size + 1) (gcells 0 0 0 (.slice none 0 0)) ∧ XSh w ((V4.setCell ⟨w.heap.size + 1 + 1, 3, none⟩ (.slice q4 ((aheadT (txs.take k) pp).length + 1) c4)).setCell ⟨w.heap.size + 1 + 1, 2, none⟩ (.int .u64 (x.p + 1))) w.heap.size v (aheadT (txs.take (k + 1)) pp) vs ∧ Below w.heap.size w ((V4.setCell ⟨w.heap.size + 1 + 1, 3, none⟩ (.slice q4 ((aheadT (txs.take k) pp).length + 1) c4)).setCell ⟨w.heap.size + 1 + 1, 2, none⟩ (.int .u64 (x.p + 1)))) := by
          rw [hst, endT_snoc]
          refine ⟨_, _, lg6, ?_, xs6, bl6⟩
          exact (heap_setCell_other _ ⟨w.heap.size + 1 + 1, 2, none⟩ _ _ (by show w.heap.size + 1 ≠ w.heap.size + 1 + 1; omega)).trans ((heap_setCell_other _ ⟨w.heap.size + 1 + 1, 3, none⟩ _ _ (by show w.heap.size + 1 ≠ w.heap.size + 1 + 1; omega)).trans (oth (by decide) j2))
        subst hv
        have BX : Hid (_) := build_rtx w8 x.p q2 x.ims.length c2
        have AP : Hid (_) := hrun
        clear hrun lg4 lg5 lg6 xs4 xs6 bl4 bl6 oth ne4 ne5 j1 j2 j3 j4 hst l8 b8 mi mi2 mi3 hsz hal hbo
        go_wp2_with ((with_reducible refine at_ops ?_); (first | (refine wpList_load_is (by rfl) 28 rfl rfl L7.out ?_) | (refine wpList_alloc_is (by rfl) 28 rfl A8.out ?_) | (refine wpList_store_is (by rfl) 28 rfl rfl rfl T8.out ?_) | (refine wpList_load_is (by rfl) 28 rfl rfl L8.out ?_) | (refine wpList_slice_is (u := .agg #[.int .u64 x.p, .slice q2 x.ims.length c2]) (by rfl) 22 rfl rfl BX.out ?_) | (refine wpList_append_is (u1 := .slice qv (aheadT (txs.take k) pp).length cv) (u2 := .slice (some ⟨w8.heap.size, 0, none⟩) 1 1) (by rfl) rfl rfl rfl rfl AP.out ?_)); simp only [Act.put, List.setIfInBounds_toArray, List.set_cons_zero, List.set_cons_succ])
        go_roundw
        case rel => exact ⟨k + 1, by omega, by go_num, F5.out⟩
        case measure => simp [intOf]; omega
      · rw [if_neg hpos] at hst
        have F5 : Hid (∃ v vs, LAt 48 w8 (w.heap.size + 1 + 1) (gcells 0 1 (endT (aheadT (txs.take (k + 1)) pp) 0) v) ∧ LAt 48 w8 (w.heap.size + 1) (gcells 0 0 0 (.slice none 0 0)) ∧ XSh w w8 w.heap.size v (aheadT (txs.take (k + 1)) pp) vs ∧ Below w.heap.size w w8) := by
          rw [hst]; exact ⟨v, vs, j1, j2, j3, j4⟩
        clear j1 j2 j3 j4 hst l8 b8 mi mi2 mi3 hsz hal hbo L8
        go_wp2_with ((with_reducible refine at_ops ?_); (first | (refine wpList_load_is (by rfl) 28 rfl rfl L7.out ?_) | (refine wpList_alloc_is (by rfl) 28 rfl A8.out ?_) | (refine wpList_store_is (by rfl) 28 rfl rfl rfl T8.out ?_)); simp only [Act.put, List.setIfInBounds_toArray, List.set_cons_zero, List.set_cons_succ])
        go_roundw
        case rel => exact ⟨k + 1, by omega, by go_num, F5.out⟩
        case measure => simp [intOf]; omega
    · obtain rfl : n = k := by omega
      rw [← hlen, List.take_length] at i1 i3
      obtain ⟨qv, cv, rfl, -⟩ := XSh.in i3 i4
      have LL : Hid (_) := LAt.loadR i1
      have TL : Hid (_) := LAt.store (ds := gcells 0 1 (endT (aheadT txs pp) 0) (.slice qv (aheadT txs pp).length cv)) i2 sizeR rfl (all_oneCell_toArray (gcells_ones rfl 0 1 (endT (aheadT txs pp) 0)))
      have F6 : Hid (LAt 48 (wr.setRow (w.heap.size + 1) (gcells 0 1 (endT (aheadT txs pp) 0) (.slice qv (aheadT txs pp).length cv)).toArray) (w.heap.size + 1) (gcells 0 1 (endT (aheadT txs pp) 0) (.slice qv (aheadT txs pp).length cv))) := LAt.stored i2 _
      have G6 : Hid (XIn (wr.setRow (w.heap.size + 1) (gcells 0 1 (endT (aheadT txs pp) 0) (.slice qv (aheadT txs pp).length cv)).toArray) qv (aheadT txs pp).length (aheadT txs pp) ∧ Below w.heap.size w (wr.setRow (w.heap.size + 1) (gcells 0 1 (endT (aheadT txs pp) 0) (.slice qv (aheadT txs pp).length cv)).toArray)) := by
        have bb := below_setRow i4 (Nat.le_succ _) (gcells 0 1 (endT (aheadT txs pp) 0) (.slice qv (aheadT txs pp).length cv)).toArray
        obtain ⟨a1, a2, a3, a4⟩ := (i3.kept (grownBy_setRow wr (w.heap.size + 1) (gcells 0 1 (endT (aheadT txs pp) 0) (.slice qv (aheadT txs pp).length cv)).toArray) (.inr (lat_not_row i2 (by decide) i3.row))).in bb
        cases a3
        exact ⟨a4, bb⟩
      clear i1 i2 i3 i4
      go_wp2_with ((with_reducible refine at_ops ?_); (first | (refine wpList_load_is (by rfl) 48 rfl rfl LL.out ?_) | (refine wpList_store_is (by rfl) 48 rfl rfl rfl TL.out ?_)); simp only [Act.put, List.setIfInBounds_toArray, List.set_cons_zero, List.set_cons_succ])
      refine bodyPost_ret (results_lat1 Tryd.results23 _ _ (w.heap.size + 1) 48 _ _ (by rfl) F6.out Tryd.underlying48 rfl sizeR) rfl ?_
      exact ⟨qv, cv, rfl, G6.out.1, G6.out.2⟩
end Go.Proofs.YtefnkjajjidfaaaDoor
