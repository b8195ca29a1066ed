/-
  The document's own disk: Crash, Flush.
-/
import Derived.Test.YtpenddnmmfpdjaaDoorDRc
namespace Go.Proofs.YtpenddnmmfpdjaaDoor
open Go.RowKit
theorem BIn.kept {w w' : World} {S : Nat → Prop} {p : Option Addr} {n : Nat} {xs : List Int} (h : BIn w p n xs) (hk : Kept S w w') (hs : ∀ a, p = some a → ¬ S a.block) : BIn w' p n xs := by
  refine ⟨h.len, h.byte, fun h0 => ?_⟩
  obtain ⟨b, o, rfl, hc⟩ := h.cells h0
  refine ⟨b, o, rfl, fun i hi => ?_⟩
  rw [World.cell?_of_block (w := w) (a := ⟨b, o + i, none⟩) (hk.block b (h.lt h0) (hs _ rfl))]
  exact hc i hi
theorem IIn.kept {w w' : World} {S : Nat → Prop} {p : Option Addr} {n : Nat} {xs : List Int} (h : IIn w p n xs) (hk : Kept S w w') (hs : ∀ a, p = some a → ¬ S a.block) : IIn w' p n xs := by
  refine ⟨h.len, fun h0 => ?_⟩
  obtain ⟨b, o, rfl, hc⟩ := h.cells h0
  refine ⟨b, o, rfl, fun i hi => ?_⟩
  rw [World.cell?_of_block (w := w) (a := ⟨b, o + i, none⟩) (hk.block b (h.lt h0) (hs _ rfl))]
  exact hc i hi
abbrev I64 (xs : List Int) : List Value := xs.map (Value.int .i64)
theorem ones_i64 (xs : List Int) : ∀ v ∈ I64 xs, v.oneCell' = true := by
  intro u hu; obtain ⟨x, _, rfl⟩ := List.mem_map.1 hu; rfl
theorem IIn.news {w : World} {a : Addr} {n : Nat} {xs : List Int} (h : IIn w (some a) n xs) : ∀ j u, (I64 xs)[j]? = some u → w.cell? (a.add j) = some u := by
  intro j u hj
  have hjn : j < xs.length := by
    have := (List.getElem?_eq_some_iff.1 hj).1
    simpa using this
  obtain ⟨b, o, e, hc⟩ := h.cells (by have := h.len; omega)
  simp only [Option.some.injEq] at e
  subst e
  rw [Addr.add_mid, hc j (by have := h.len; omega), ← hj]
  simp [List.getD, List.getElem?_eq_getElem hjn]
theorem ints_in {w : World} {base : Nat} {v : Value} {n : Nat} {xs : List Int} (h : w.ownsRow base 3 1 v n (I64 xs)) : ∃ p c, v = .slice p n c ∧ IIn w p n xs ∧ n ≤ c ∧ (p = none → c = 0) ∧ (∀ a, p = some a → base ≤ a.block ∧ a.block < w.heap.size) := by
  have hl : xs.length = n := by have := h.1; simpa [I64] using this
  rcases h.2 with ⟨rfl, rfl⟩ | ⟨g, cap, cur, rfl, h1, hg, hnc, hcm, hsz, htake⟩
  · exact ⟨none, 0, rfl, ⟨hl, fun h0 => absurd h0 (Nat.lt_irrefl 0)⟩, Nat.le_refl _, fun _ => rfl, fun a e => by cases e⟩
  · refine ⟨_, cap, rfl, ⟨hl, fun h0 => ⟨g, 0, rfl, fun i hi => ?_⟩⟩, hnc, (fun e => by cases e), fun a e => ?_⟩
    · have := h.cellAt i (by omega)
      rw [Nat.zero_add, this]
      simp [I64, List.getD, List.getElem?_eq_getElem (show i < xs.length by omega)]
    · simp only [Option.some.injEq] at e
      subst e
      exact ⟨h1, (Array.getElem?_eq_some_iff.1 hg).1⟩
/-- the first j bytes of a sector written -/
def putj (e : List Int) (s : Nat) (b : List Int) (j : Nat) : List Int := e.take (64 * s) ++ b.take j ++ e.drop (64 * s + j)
theorem putj_zero (e : List Int) (s : Nat) (b : List Int) : putj e s b 0 = e := by simp [putj]
theorem putj_all {e b : List Int} {s : Nat} (hb : b.length = 64) : putj e s b 64 = put e s b := by unfold putj put; rw [show b.take 64 = b from List.take_of_length_le (by omega)]
theorem putj_length {e b : List Int} {n s j : Nat} (he : e.length = 64 * n) (hs : s < n) (hb : b.length = 64) (hj : j ≤ 64) : (putj e s b j).length = 64 * n := by
  simp [putj, he, hb]; omega
theorem putj_step {e b : List Int} {n s j : Nat} (he : e.length = 64 * n) (hs : s < n) (hb : b.length = 64) (hj : j < 64) : (putj e s b j).set (s * 64 + j) (b.getD j 0) = putj e s b (j + 1) := by
  have hjb : j < b.length := by omega
  have e1 : b.getD j 0 = b[j] := by simp [List.getD, List.getElem?_eq_getElem hjb]
  have hd : 64 * s + j < e.length := by omega
  unfold putj
  rw [e1, List.take_succ_eq_append_getElem hjb, List.append_assoc, List.append_assoc]
  rw [List.set_append_right _ _ (by simp [he]; omega)]
  congr 1
  rw [show s * 64 + j - (e.take (64 * s)).length = j by simp [he]; omega, List.set_append_right _ _ (by simp; omega)]
  rw [show j - (b.take j).length = 0 by simp; omega, List.append_assoc]
  congr 1
  rw [List.drop_eq_getElem_cons hd, List.set_cons_zero]
  rfl
theorem putj_bytes {e b : List Int} {s j : Nat} (he : Bytes e) (hb : Bytes b) : Bytes (putj e s b j) := ((he.take _).append (hb.take _)).append (he.drop _)
theorem put_put {e b : List Int} {n s : Nat} (he : e.length = 64 * n) (hs : s < n) (hb : b.length = 64) : put (put e s b) s b = put e s b := by
  apply ext_sec (put_length (put_length he hs hb) hs hb) (put_length he hs hb)
  intro i hi
  rw [sec_put (put_length he hs hb) hs hb hi, sec_put he hs hb hi]
  split <;> rfl
/-- the bytes behind write number i, once k of the numbers that are kept have been looked at -/
def rk (K : List Int) (ws : List Wr) (d : List Int) (X : Wr) (i k : Nat) : List Int := if (i : Int) ∈ K.take k then put (setl (keepsK K) ws d i) X.s X.b else setl (keepsK K) ws d i
theorem rk_zero (K : List Int) (ws : List Wr) (d : List Int) (X : Wr) (i : Nat) : rk K ws d X i 0 = setl (keepsK K) ws d i := by simp [rk]
theorem rk_all {K : List Int} {ws : List Wr} {d : List Int} {i : Nat} (hi : i < ws.length) : rk K ws d ws[i] i K.length = setl (keepsK K) ws d (i + 1) := by
  unfold rk
  rw [setl_step _ ws d i hi, List.take_of_length_le (Nat.le_refl _)]
  by_cases h : (i : Int) ∈ K
  · rw [if_pos h, if_pos (show keepsK K i = true by simpa [keepsK] using h)]
  · rw [if_neg h, if_neg (show ¬ keepsK K i = true by simpa [keepsK] using h)]
theorem rk_miss {K : List Int} {ws : List Wr} {d : List Int} {X : Wr} {i k : Nat} (hk : k < K.length) (h : ¬ K[k] = (i : Int)) : rk K ws d X i (k + 1) = rk K ws d X i k := by
  unfold rk
  rw [List.take_succ_eq_append_getElem hk]
  by_cases c : (i : Int) ∈ K.take k
  · rw [if_pos (List.mem_append_left _ c), if_pos c]
  · rw [if_neg (fun hh => (List.mem_append.1 hh).elim c (fun e => h (List.mem_singleton.1 e).symm)), if_neg c]
theorem rk_hit {K : List Int} {ws : List Wr} {d : List Int} {X : Wr} {n i k : Nat} (hk : k < K.length) (h : K[k] = (i : Int)) (hd : d.length = 64 * n) (hf : Fit n ws) (hX : X.s < n ∧ X.b.length = 64) : put (rk K ws d X i k) X.s X.b = rk K ws d X i (k + 1) := by
  unfold rk
  rw [List.take_succ_eq_append_getElem hk, h]
  rw [if_pos (show (i : Int) ∈ K.take k ++ [(i : Int)] by simp)]
  split
  · exact put_put (setl_length hd hf i) hX.1 hX.2
  · rfl
theorem rk_length {K : List Int} {ws : List Wr} {d : List Int} {X : Wr} {n i k : Nat} (hd : d.length = 64 * n) (hf : Fit n ws) (hX : X.s < n ∧ X.b.length = 64) : (rk K ws d X i k).length = 64 * n := by
  unfold rk
  split
  · exact put_length (setl_length hd hf i) hX.1 hX.2
  · exact setl_length hd hf i
/-- what stands while the writes become durable -/
structure RMid (w wr : World) (S : Nat → Prop) (p : Nat) (g L cap : Nat) (v : Value) (vs : List Value) (ws : List Wr) (e : List Int) : Prop where
  str : wr.heap[p]? = some (.cells #[.slice (some ⟨g, 0, none⟩) L cap, v] 112 (0, 0))
  dur : wr.ownsRow 0 5 1 (.slice (some ⟨g, 0, none⟩) L cap) L (U8 e)
  kp : Kept (fun k => k = g) w wr
theorem RMid.start {w : World} {S : Nat → Prop} {p n : Nat} {d : List Int} {ws : List Wr} {g L cap : Nat} {v : Value} {vs : List Value} (h : RD w S p n d ws g L cap v vs) : RMid w w S p g L cap v vs ws d := ⟨h.str, h.dur, Kept.refl _ _⟩
theorem RMid.below {w wr w' : World} {S : Nat → Prop} {p : Nat} {g L cap : Nat} {v : Value} {vs : List Value} {ws : List Wr} {e : List Int} (h : RMid w wr S p g L cap v vs ws e) (hb : Below wr.heap.size wr w') : RMid w w' S p g L cap v vs ws e :=
  ⟨(hb.block p (Blk.lt (t := 112) (sz := 2) ⟨_, h.str, rfl⟩)).trans h.str, own_later h.dur hb, h.kp.trans (T := fun _ => False) (Kept.of_below hb) (fun _ _ f => f.elim)⟩
theorem RMid.cell0 {w wr : World} {S : Nat → Prop} {p : Nat} {g L cap : Nat} {v : Value} {vs : List Value} {ws : List Wr} {e : List Int} (h : RMid w wr S p g L cap v vs ws e) : wr.cell? ⟨p, 0, none⟩ = some (.slice (some ⟨g, 0, none⟩) L cap) := by
  rw [cell_of_row _ _ _ _ 112 (0, 0) h.str]; rfl
theorem RMid.cell1 {w wr : World} {S : Nat → Prop} {p : Nat} {g L cap : Nat} {v : Value} {vs : List Value} {ws : List Wr} {e : List Int} (h : RMid w wr S p g L cap v vs ws e) : wr.cell? ⟨p, 1, none⟩ = some v := by
  rw [cell_of_row _ _ _ _ 112 (0, 0) h.str]; rfl
/-- write number k, read in the middle -/
theorem RMid.at {w wr : World} {S : Nat → Prop} {p n : Nat} {d : List Int} {ws : List Wr} {g L cap : Nat} {v : Value} {vs : List Value} {e : List Int} (h : RMid w wr S p g L cap v vs ws e) (h0 : RD w S p n d ws g L cap v vs) (k : Nat) (hk : k < ws.length) :
    ∃ gv cv gb cb, v = .slice (some ⟨gv, 0, none⟩) ws.length cv ∧ wr.cell? ⟨gv, k * 2, none⟩ = some (.int .i64 (ws[k].s : Int)) ∧ wr.cell? ⟨gv, k * 2 + 1, none⟩ = some (.slice (some ⟨gb, 0, none⟩) 64 cb) ∧ BIn wr (some ⟨gb, 0, none⟩) 64 ws[k].b ∧ gb ≠ g := by
  obtain ⟨gv, cv, gb, cb, rfl, t1, t2, t3, t4⟩ := h0.at k hk
  have hgv : gv ≠ g := (own_blk h0.wr).1.ne (own_blk h0.dur).1 (by decide)
  have b1 := h.kp.block gv (World.block_lt_of_cell? w _ t1) hgv
  exact ⟨gv, cv, gb, cb, rfl, (World.cell?_of_block (w := w) (a := ⟨gv, k * 2, none⟩) b1).trans t1, (World.cell?_of_block (w := w) (a := ⟨gv, k * 2 + 1, none⟩) b1).trans t2, t3.kept h.kp (fun a e => by simp only [Option.some.injEq] at e; subst e; exact t4), t4⟩
/-- a byte stored -/
theorem RMid.set {w wr : World} {S : Nat → Prop} {p : Nat} {g L cap : Nat} {v : Value} {vs : List Value} {ws : List Wr} {e : List Int} (h : RMid w wr S p g L cap v vs ws e) (k : Nat) (x : Int) : RMid w (wr.setCell ⟨g, k, none⟩ (.int .u8 x)) S p g L cap v vs ws (e.set k x) := by
  have hpg : p ≠ g := Blk.ne (t := 112) (sz := 2) ⟨_, h.str, rfl⟩ (own_blk h.dur).1 (by decide)
  refine ⟨(heap_setCell_other _ _ _ _ hpg).trans h.str, ?_, h.kp.setCell (fun _ => rfl) _⟩
  have := (h.dur.stored k (.int .u8 x)).1
  rwa [show (U8 e).set k (.int .u8 x) = U8 (e.set k x) by simp [U8, List.map_set]] at this
theorem RMid.done {w wr : World} {S : Nat → Prop} {p n : Nat} {d : List Int} {ws : List Wr} {g L cap : Nat} {v : Value} {vs : List Value} {e : List Int} (h : RMid w wr S p g L cap v vs ws e) (h0 : RD w S p n d ws g L cap v vs) (he : e.length = 64 * n) (hy : Bytes e) :
    Ref (wr.setCell ⟨p, 1, none⟩ (.slice none 0 0)) S p n e [] ∧ Kept S w (wr.setCell ⟨p, 1, none⟩ (.slice none 0 0)) := by
  have hpg : p ≠ g := Blk.ne (t := 112) (sz := 2) ⟨_, h.str, rfl⟩ (own_blk h.dur).1 (by decide)
  refine ⟨⟨g, L, cap, .slice none 0 0, [], setCell_row (cs := [_, _]) h.str 1 _, own_same h.dur (fun k hk => heap_setCell_other _ _ _ _ (by simp only [Value.ownBlock, Option.some.injEq] at hk; rw [← hk]; exact fun e => hpg e.symm)), World.ownsRow_nil _ _ _ _, rfl, fun i h => by simp at h, fun i h => by simp at h, h0.sp, h0.sg, fun k hk => by simp [Value.ownBlock] at hk, fun i h => by simp at h, h0.hL, h0.n1, h0.n2, he, hy, Fit.nil _⟩, ?_⟩
  exact (h.kp.mono (fun i _ e => by subst e; exact h0.sg)).setCell (fun _ => h0.sp) _
set_option maxHeartbeats 8000000 in
set_option maxRecDepth 100000 in
theorem rcrash_any {w : World} {S : Nat → Prop} {p n : Nat} {d : List Int} {ws : List Wr} (h : Ref w S p n d ws) (hk : ws.length ≤ 1000) (a : Option Addr) (m c : Nat) (xs : List Int) (hx : IIn w a m xs) (ha : ∀ b, a = some b → 0 < m → ¬ S b.block) (hm : m ≤ 140737488355328) :
    Calls Tryd.prog 57 #[.pointer (some ⟨p, 0, none⟩), .slice a m c] w fun e w' => e = .returned (.int .i64 ws.length) ∧ Ref w' S p n (settle (keepsK xs) ws d) [] ∧ Kept S w w' := by
  obtain ⟨g, L, cap, v, vs, h⟩ := h
  have s1 := h.cell1
  have HH : Hid (RD w S p n d ws g L cap v vs) := h
  have HX : Hid (IIn w a m xs ∧ (∀ b, a = some b → 0 < m → b.block ≠ g)) := ⟨hx, fun b e h0 e2 => ha b e h0 (by rw [e2]; exact h.sg)⟩
  obtain ⟨pv, cv, rfl, _⟩ := own_slice h.wr
  have HLn : Hid (L = 64 * n ∧ n ≤ 4096 ∧ L ≤ cap) := ⟨h.hL, h.n2, (own_blk h.dur).2.1⟩
  have HM0 : Hid (RMid w w S p g L cap (.slice pv ws.length cv) vs ws d) := RMid.start h
  clear h hx ha
  go_enter Tryd.func57, Tryd.ntmps57
  go_wp2
  clear s1
  go_loopw [6] (fun j wr => ∃ i : Nat, i ≤ ws.length ∧ j = .int .i64 i ∧ Hid (RMid w wr S p g L cap (.slice pv ws.length cv) vs ws (setl (keepsK xs) ws d i))) (fun j _ => ws.length - (intOf j).toNat)
  case atStart => exact ⟨0, by omega, rfl, HM0.out⟩
  case round =>
    obtain ⟨i, hil, rfl, HR⟩ := hrel
    clear HM0
    by_cases hlt : i < ws.length
    · have HXi := HH.out.fit.at i hlt
      have HR1 : Hid (RMid w wr S p g L cap (.slice pv ws.length cv) vs ws (rk xs ws d ws[i] i 0)) := by rw [rk_zero]; exact HR
      have HAll : Hid (rk xs ws d ws[i] i xs.length = setl (keepsK xs) ws d (i + 1)) := rk_all hlt
      have HAt : Hid (∀ (wr : World) (e : List Int), RMid w wr S p g L cap (.slice pv ws.length cv) vs ws e → ∃ gv cv' gb cb, Value.slice pv ws.length cv = .slice (some ⟨gv, 0, none⟩) ws.length cv' ∧ wr.cell? ⟨gv, i * 2, none⟩ = some (.int .i64 (ws[i].s : Int)) ∧ wr.cell? ⟨gv, i * 2 + 1, none⟩ = some (.slice (some ⟨gb, 0, none⟩) 64 cb) ∧ BIn wr (some ⟨gb, 0, none⟩) 64 ws[i].b ∧ gb ≠ g) := fun wr e hM => hM.at HH.out i hlt
      generalize ws[i] = X at *
      clear HR
      go_wp2
      go_loopw [7] (fun j wr => ∃ k : Nat, k ≤ m ∧ j = .int .i64 k ∧ Hid (RMid w wr S p g L cap (.slice pv ws.length cv) vs ws (rk xs ws d X i k))) (fun j _ => m - (intOf j).toNat)
      case atStart => exact ⟨0, by omega, rfl, HR1.out⟩
      case round =>
        obtain ⟨k, hkm, rfl, HQ⟩ := hrel
        clear HR1
        by_cases hkl : k < m
        · obtain ⟨ga, oa, hae, hca⟩ := (HX.out.1.kept HQ.out.kp (fun b e => HX.out.2 b e (by omega))).cells (by omega)
          have hck := hca k hkl
          have hkx : k < xs.length := by rw [HX.out.1.len]; exact hkl
          have ey : xs.getD k 0 = xs[k] := by simp [List.getD, List.getElem?_eq_getElem hkx]
          rw [ey] at hck
          obtain ⟨y, hy⟩ : ∃ y, y = xs[k] := ⟨_, rfl⟩
          have HY : Hid (y = xs[k]) := hy
          rw [← hy] at hck
          have HA : Hid (a = some ⟨ga, oa, none⟩) := hae
          clear hy hca hae ey
          rw [HA.out]
          by_cases hyi : y = (i : Int)
          · subst hyi
            obtain ⟨gv, cv', gb, cb, hv, t1, t2, t3, t4⟩ := HAt.out _ _ HQ.out
            simp only [Value.slice.injEq, true_and] at hv
            obtain ⟨rfl, rfl⟩ := hv
            have s1 := HQ.out.cell1
            have HHit : Hid (put (rk xs ws d X i k) X.s X.b = rk xs ws d X i (k + 1)) := rk_hit hkx HY.out.symm HH.out.dl HH.out.fit ⟨HXi.1, HXi.2.1⟩
            have HLen : Hid ((rk xs ws d X i k).length = 64 * n) := rk_length HH.out.dl HH.out.fit ⟨HXi.1, HXi.2.1⟩
            obtain ⟨wk, hwk⟩ : ∃ wk, wk = wr := ⟨_, rfl⟩
            subst hwk
            have HV : Hid (RMid w (wk.alloc (.cells #[.int .i64 (X.s : Int), .slice (some ⟨gb, 0, none⟩) 64 cb] 113)) S p g L cap (.slice (some ⟨gv, 0, none⟩) ws.length cv) vs ws (putj (rk xs ws d X i k) X.s X.b 0) ∧ (wk.alloc (.cells #[.int .i64 (X.s : Int), .slice (some ⟨gb, 0, none⟩) 64 cb] 113)).heap[wk.heap.size]? = some (.cells #[.int .i64 (X.s : Int), .slice (some ⟨gb, 0, none⟩) 64 cb] 113 (0, 0)) ∧ BIn (wk.alloc (.cells #[.int .i64 (X.s : Int), .slice (some ⟨gb, 0, none⟩) 64 cb] 113)) (some ⟨gb, 0, none⟩) 64 X.b) := ⟨by rw [putj_zero]; exact HQ.out.below (below_alloc _ _), heap_alloc_new _ _, t3.later (below_alloc _ _)⟩
            have HGl : Hid (g < wk.heap.size ∧ p < wk.heap.size) := ⟨(own_blk HQ.out.dur).1.lt, Blk.lt (t := 112) (sz := 2) ⟨_, HQ.out.str, rfl⟩⟩
            clear t3
            go_wp2
            clear t1 t2 s1 hck HQ
            generalize wk.alloc (.cells #[.int .i64 (X.s : Int), .slice (some ⟨gb, 0, none⟩) 64 cb] 113) = W1 at *
            go_loopw [9] (fun jj wr => ∃ j : Nat, j ≤ 64 ∧ jj = .int .i64 j ∧ Hid (RMid w wr S p g L cap (.slice (some ⟨gv, 0, none⟩) ws.length cv) vs ws (putj (rk xs ws d X i k) X.s X.b j) ∧ wr.heap[wk.heap.size]? = some (.cells #[.int .i64 (X.s : Int), .slice (some ⟨gb, 0, none⟩) 64 cb] 113 (0, 0)) ∧ BIn wr (some ⟨gb, 0, none⟩) 64 X.b)) (fun jj _ => 64 - (intOf jj).toNat)
            case atStart => exact ⟨0, by omega, rfl, HV.out⟩
            case round =>
              obtain ⟨j, hj, rfl, HJ⟩ := hrel
              clear HV
              by_cases hj2 : j < 64
              · have u0 := HJ.out.1.cell0
                have u1 : wr.cell? ⟨wk.heap.size, 0, none⟩ = some (.int .i64 (X.s : Int)) := by rw [cell_of_row _ _ _ _ _ _ HJ.out.2.1]; rfl
                have u2 : wr.cell? ⟨wk.heap.size, 1, none⟩ = some (.slice (some ⟨gb, 0, none⟩) 64 cb) := by rw [cell_of_row _ _ _ _ _ _ HJ.out.2.1]; rfl
                obtain ⟨_, _, eg, hcg⟩ := HJ.out.2.2.cells (by omega)
                simp only [Option.some.injEq, Addr.mk.injEq, and_true] at eg
                obtain ⟨rfl, rfl⟩ := eg
                have u3 := hcg j hj2
                rw [Nat.zero_add] at u3
                have hpl := putj_length (j := j) HLen.out HXi.1 HXi.2.1 hj
                have hsn : X.s < n := HXi.1
                have u4 : ∃ u, wr.cell? ⟨g, X.s * 64 + j, none⟩ = some u := (own_blk HJ.out.1.dur).1.some _ (by have := HLn.out; rw [Nat.mul_one]; omega)
                obtain ⟨u, u4⟩ := u4
                have u5 := (own_blk HJ.out.1.dur).1.free (X.s * 64 + j)
                have hx0 := (HXi.2.2.getD j)
                obtain ⟨bx, hbx⟩ : ∃ bx, bx = X.b.getD j 0 := ⟨_, rfl⟩
                have HBx : Hid (bx = X.b.getD j 0) := hbx
                rw [← hbx] at u3 hx0
                have hVg : wk.heap.size ≠ g := by have := HGl.out; omega
                have hpg : p ≠ g := Blk.ne (t := 112) (sz := 2) ⟨_, HJ.out.1.str, rfl⟩ (own_blk HJ.out.1.dur).1 (by decide)
                have HU : Hid (RMid w (wr.setCell ⟨g, X.s * 64 + j, none⟩ (.int .u8 bx)) S p g L cap (.slice (some ⟨gv, 0, none⟩) ws.length cv) vs ws (putj (rk xs ws d X i k) X.s X.b (j + 1)) ∧ (wr.setCell ⟨g, X.s * 64 + j, none⟩ (.int .u8 bx)).heap[wk.heap.size]? = some (.cells #[.int .i64 (X.s : Int), .slice (some ⟨gb, 0, none⟩) 64 cb] 113 (0, 0)) ∧ BIn (wr.setCell ⟨g, X.s * 64 + j, none⟩ (.int .u8 bx)) (some ⟨gb, 0, none⟩) 64 X.b) := by
                  refine ⟨?_, (heap_setCell_other _ _ _ _ hVg).trans HJ.out.2.1, HJ.out.2.2.kept (S := fun k => k = g) ((Kept.refl (fun k => k = g) wr).setCell (p := ⟨g, X.s * 64 + j, none⟩) (fun _ => rfl) _) (fun a e => by simp only [Option.some.injEq] at e; subst e; exact t4)⟩
                  rw [← putj_step HLen.out HXi.1 HXi.2.1 hj2, ← HBx.out]
                  exact HJ.out.1.set _ _
                have k0 : (wr.setCell ⟨g, X.s * 64 + j, none⟩ (.int .u8 bx)).cell? ⟨p, 0, none⟩ = some (.slice (some ⟨g, 0, none⟩) L cap) := HU.out.1.cell0
                have k1 : (wr.setCell ⟨g, X.s * 64 + j, none⟩ (.int .u8 bx)).cell? ⟨wk.heap.size, 0, none⟩ = some (.int .i64 (X.s : Int)) := by rw [cell_of_row _ _ _ _ _ _ HU.out.2.1]; rfl
                have k2 : (wr.setCell ⟨g, X.s * 64 + j, none⟩ (.int .u8 bx)).cell? ⟨wk.heap.size, 1, none⟩ = some (.slice (some ⟨gb, 0, none⟩) 64 cb) := by rw [cell_of_row _ _ _ _ _ _ HU.out.2.1]; rfl
                have k3 : (wr.setCell ⟨g, X.s * 64 + j, none⟩ (.int .u8 bx)).cell? ⟨gb, j, none⟩ = some (.int .u8 bx) := by rw [World.cell?_setCell_far _ _ _ _ (by show g ≠ gb; exact fun e => t4 e.symm)]; exact u3
                clear hcg hpl hbx HBx HJ
                go_wp2
                have hLn := HLn.out
                have m1 : IntKind.i64.wrap ((X.s : Int) * 64) = (X.s : Int) * 64 := by rw [IntKind.wrap_i64]; omega
                have m2 : IntKind.i64.wrap ((X.s : Int) * 64 + (j : Int)) = (X.s : Int) * 64 + (j : Int) := by rw [IntKind.wrap_i64]; omega
                have m3 : (X.s : Int) * 64 + (j : Int) < (L : Int) := by omega
                have m4 : (0 : Int) ≤ (X.s : Int) * 64 + (j : Int) := by omega
                have m5 : (j : Int) < 64 := by omega
                have m6 : (0 : Int) ≤ (j : Int) := by omega
                have m7 : ((X.s : Int) * 64 + (j : Int)).toNat = X.s * 64 + j := by omega
                clear hLn
                go_region_held3 (fun w' => w'.cell? ⟨p, 0, none⟩ = some (.slice (some ⟨g, 0, none⟩) L cap) ∧ w'.cell? ⟨wk.heap.size, 0, none⟩ = some (.int .i64 (X.s : Int)) ∧ w'.cell? ⟨wk.heap.size, 1, none⟩ = some (.slice (some ⟨gb, 0, none⟩) 64 cb) ∧ w'.cell? ⟨gb, j, none⟩ = some (.int .u8 bx)) (first | exact ⟨u0, u1, u2, u3⟩ | exact ⟨k0, k1, k2, k3⟩) (fail)
                clear k0 k1 k2 k3 u0 u1 u2 u3 u4 u5 m1 m2 m3 m4 m5 m6 m7
                go_wp2
                go_roundw
                case rel => exact ⟨j + 1, by omega, by go_num, HU.out.1.below ⟨rfl, rfl, rfl, Nat.le_refl _, fun _ _ => rfl⟩, HU.out.2.1, HU.out.2.2.drew⟩
                case measure => simp [intOf]; omega
              · obtain rfl : j = 64 := by omega
                have HQ2 : Hid (RMid w wr S p g L cap (.slice (some ⟨gv, 0, none⟩) ws.length cv) vs ws (rk xs ws d X i (k + 1))) := by
                  have := HJ.out.1
                  rw [putj_all HXi.2.1, HHit.out] at this
                  exact this
                clear HJ
                go_wp2
                go_roundw
                case rel => exact ⟨k + 1, by omega, by go_num, HQ2⟩
                case measure => simp [intOf]; omega
          · have HM : Hid (rk xs ws d X i (k + 1) = rk xs ws d X i k) := rk_miss hkx (fun e => hyi (HY.out.trans e))
            have by1 : (y == (i : Int)) = false := by rw [beq_eq_false_iff_ne]; exact hyi
            go_wp2
            go_roundw
            case rel => exact ⟨k + 1, by omega, by go_num, by rw [HM.out]; exact HQ⟩
            case measure => simp [intOf]; omega
        · obtain rfl : k = m := by omega
          have HQ2 : Hid (RMid w wr S p g L cap (.slice pv ws.length cv) vs ws (setl (keepsK xs) ws d (i + 1))) := by
            rw [← HAll.out, HX.out.1.len]; exact HQ
          go_wp2
          go_roundw
          case rel => exact ⟨i + 1, by omega, by go_num, HQ2⟩
          case measure => simp [intOf]; omega
    · obtain rfl : i = ws.length := by omega
      have f1 := frozen_of_row wr p 1 _ 112 HR.out.str
      have s1 := HR.out.cell1
      have HD : Hid (Ref (wr.setCell ⟨p, 1, none⟩ (.slice none 0 0)) S p n (settle (keepsK xs) ws d) [] ∧ Kept S w (wr.setCell ⟨p, 1, none⟩ (.slice none 0 0))) := HR.out.done HH.out (setl_length HH.out.dl HH.out.fit _) (setl_bytes HH.out.db HH.out.fit _)
      clear HR
      go_wp2
      go_ret
      exact ⟨rfl, HD.out.1, HD.out.2⟩
end Go.Proofs.YtpenddnmmfpdjaaDoor
