/-
  Layer 9: what stands in a log; the calls over blocks that are ours alone.
-/
import Derived.Test.YtmcpjokbkkfgfaaDoorVd
namespace Go.Proofs.YtmcpjokbkkfgfaaDoor
open Go.RowKit


/-- what is all kept is what reads -/
theorem setl_newk {ws : List Wr} {d : List Int} {n : Nat} (hd : d.length = 64 * n) (hw : Fit n ws) {i : Nat} (hi : i < n) : ∀ k, k ≤ ws.length → sec (setl (fun _ => true) ws d k) i = newk ws d i k
  | 0, _ => rfl
  | k + 1, hk => by
    rw [setl_step _ ws d k (by omega), newk_step ws d i k (by omega), if_pos rfl, sec_put (setl_length hd hw k) (hw.at k (by omega)).1 (hw.at k (by omega)).2.1 hi, setl_newk hd hw hi k (by omega)]
    by_cases c : i = ws[k].s
    · rw [if_pos c, if_pos c.symm]
    · rw [if_neg c, if_neg fun e => c e.symm]
theorem newest_settled {ws : List Wr} {d : List Int} {n : Nat} (hd : d.length = 64 * n) (hw : Fit n ws) {i : Nat} (hi : i < n) : newest [] (settle (fun _ => true) ws d) i = newest ws d i := by
  rw [newest_nil]; exact setl_newk hd hw hi _ (Nat.le_refl _)
/-- **what stands in a log**: 'all' are the records that were appended, the first at 'from'; those from the tail on are read -/
structure Holds (g : Lg) (ws : List Wr) (d : List Int) (fr : Int) (all : List R.Rec) : Prop where
  len : fr + all.length = g.fin
  le : fr ≤ g.tail
  at_ : ∀ (i : Nat) (r : R.Rec), all[i]? = some r → g.tail ≤ fr + i → newest ws d (secN g (fr + i)).toNat = R.encS r ∧ r.Wf ∧ R.may r = true ∧ r.pos = fr + i
theorem sec_ne {g : Lg} (ok : g.Ok) {p q : Int} (h : p ≠ q) (h1 : p < q + g.c.lc) (h2 : q < p + g.c.lc) : (secN g p).toNat ≠ (secN g q).toNat := fun e => by
  have a := secN_in ok p; have b := secN_in ok q
  have hc := ok.cf.2.1
  have e' : secN g p = secN g q := by omega
  unfold secN at e'
  exact h (G.lap_inj g.c.lc p q (by omega) (by omega) h1 h2)
theorem Holds.app {g g' : Lg} {ws : List Wr} {d : List Int} {fr : Int} {all : List R.Rec} (h : Holds g ws d fr all) (ok : g.Ok) (hm : moreS g = 0) (hc : g'.c = g.c) (ht : g'.tail = g.tail) (hf : g'.fin = g.fin + 1) {r : R.Rec} (hw : r.Wf) (hmay : R.may r = true) (hp : r.pos = g.fin) :
    Holds g' (ws ++ [⟨(secN g g.fin).toNat, R.encS r⟩]) d fr (all ++ [r]) := by
  have hl := h.len
  have hu := ok.us
  have m2 := (moreS_zero hm).2
  have hs : ∀ p, secN g' p = secN g p := fun p => by unfold secN; rw [hc]
  refine ⟨by rw [hf]; simp; omega, by rw [ht]; exact h.le, fun i x hx hi => ?_⟩
  rw [ht] at hi
  rw [hs, newest_snoc]
  by_cases c : i < all.length
  · rw [List.getElem?_append_left c] at hx
    have := h.at_ i x hx hi
    rw [if_neg (sec_ne ok (by omega) (by omega) (by omega))]
    exact this
  · have ci : i = all.length := by
      have := (List.getElem?_eq_some_iff.1 hx).1
      simp at this; omega
    subst ci
    rw [List.getElem?_append_right (Nat.le_refl _), Nat.sub_self] at hx
    obtain rfl : r = x := by simpa using hx
    rw [if_pos (by rw [hl]), hl]
    exact ⟨rfl, hw, hmay, hp⟩
theorem Holds.img {g : Lg} {ws : List Wr} {d : List Int} {fr : Int} {all : List R.Rec} (h : Holds g ws d fr all) (ok : g.Ok) {b : Int} (h0 : imgS g b = 0) {v : List Int} (hv : v.length = 32) (hvb : Bytes v) : Holds (imgG g b) (ws ++ [⟨(secN g g.fin).toNat, R.encS (imgR g b v)⟩]) d fr (all ++ [imgR g b v]) :=
  h.app (g' := imgG g b) ok (imgS_zero h0).1 rfl rfl rfl (imgR_wf ok (imgS_zero h0).2 hv hvb) (imgR_may ok (imgS_zero h0).2) rfl
theorem Holds.com {g : Lg} {ws : List Wr} {d : List Int} {fr : Int} {all : List R.Rec} (h : Holds g ws d fr all) (ok : g.Ok) (h0 : moreS g = 0) : Holds (comG g) (ws ++ [⟨(secN g g.fin).toNat, R.encS (comR g)⟩]) d fr (all ++ [comR g]) :=
  h.app (g' := comG g) ok h0 rfl rfl rfl (comR_wf ok) (comR_may ok) rfl
theorem Holds.mark {g : Lg} {ws : List Wr} {d : List Int} {fr : Int} {all : List R.Rec} (h : Holds g ws d fr all) (ok : g.Ok) (t : Int) (b : List Int) : Holds (mkG g t) (ws ++ [⟨0, b⟩]) d fr all :=
  ⟨h.len, h.le, fun i x hx hi => by
    rw [newest_snoc, if_neg]
    · exact h.at_ i x hx hi
    · have hc := ok.cf
      show (secN g (fr + i)).toNat ≠ 0
      have h4 := Int.emod_nonneg (fr + i) (show g.c.lc ≠ 0 by have := hc.2.1; omega)
      unfold secN; have := hc.1; omega⟩
theorem Holds.flush {g : Lg} {ws : List Wr} {d : List Int} {fr : Int} {all : List R.Rec} (h : Holds g ws d fr all) (ok : g.Ok) (hd : d.length = 64 * g.sz) (hw : Fit g.sz ws) : Holds g [] (settle (fun _ => true) ws d) fr all :=
  ⟨h.len, h.le, fun i x hx hi => by
    have hs := secN_in ok (fr + i)
    rw [newest_settled hd hw (by omega)]
    exact h.at_ i x hx hi⟩
theorem Holds.free {g : Lg} {ws : List Wr} {d : List Int} {fr : Int} {all : List R.Rec} (h : Holds g ws d fr all) (ok : g.Ok) : Holds (frG g) ws d fr all :=
  ⟨h.len, by have := h.le; have := ok.tm; show fr ≤ g.mark; omega, fun i x hx hi => h.at_ i x hx (by have := ok.tm; have : g.mark ≤ fr + i := hi; omega)⟩
theorem Holds.start (s : Sup) (t l : Int) (ws : List Wr) (d : List Int) : Holds (opnG s t l) ws d t [] := ⟨by show t + ((0 : Nat) : Int) = t; omega, Int.le_refl t, fun i r h => by simp at h⟩
theorem Holds.read {g : Lg} {ws : List Wr} {d : List Int} {fr : Int} {all : List R.Rec} (h : Holds g ws d fr all) {p : Int} (h1 : g.tail ≤ p) {r : R.Rec} (hr : all[(p - fr).toNat]? = some r) : rdS g (newest ws d) p = (r, 0) := by
  have hl := h.len; have hle := h.le
  have hi := (List.getElem?_eq_some_iff.1 hr).1
  have ep : fr + ((p - fr).toNat : Int) = p := by omega
  obtain ⟨a1, a2, a3, a4⟩ := h.at_ _ r hr (by omega)
  rw [ep] at a1 a4
  have e : R.decS (newest ws d (secN g p).toNat) = (r, 0) := by rw [a1]; exact R.decS_encS r a2 a3
  rw [rdS_ok (by omega) (by rw [e]) (by rw [e]; exact a4), e]
theorem allR_some (rd : Int → R.Rec × Int) : ∀ (k : Nat) (p : Int) (xs : List R.Rec), xs.length = k → (∀ i (r : R.Rec), xs[i]? = some r → rd (p + (i : Nat)) = (r, 0)) → allR rd p k = xs
  | 0, _, xs, hl, _ => (List.length_eq_zero_iff.1 hl).symm
  | k + 1, p, [], hl, _ => by simp at hl
  | k + 1, p, x :: xs, hl, h => by
    have h0 := h 0 x rfl
    rw [show p + ((0 : Nat) : Int) = p by omega] at h0
    show (if (rd p).2 = 0 then (rd p).1 :: allR rd (p + 1) k else []) = _
    rw [h0, if_pos rfl, allR_some rd k (p + 1) xs (by simpa using hl) (fun i r hi => by
      have := h (i + 1) r (by simpa using hi)
      rw [← this]; congr 1; omega)]
theorem Holds.all {g : Lg} {ws : List Wr} {d : List Int} {fr : Int} {all : List R.Rec} (h : Holds g ws d fr all) (ok : g.Ok) : allS g (newest ws d) = all.drop (g.tail - fr).toNat := by
  have hl := h.len; have hle := h.le; have := ok.tm; have := ok.mf
  refine allR_some _ _ _ _ (by simp; omega) fun i r hi => ?_
  rw [List.getElem?_drop] at hi
  refine h.read (by omega) ?_
  rw [← hi]; congr 1; omega

/-- blocks of the log's and the disk's own kinds -/
abbrev Ours (t : TypeId) : Prop := t = 71 ∨ t = 82 ∨ t = 78 ∨ t = 98
/-- what such a call leaves alone: what lies below, and the blocks of other kinds -/
structure KT (B : Nat) (w w' : World) : Prop where
  low : Below B w w'
  other : ∀ (k : Nat) (cs : Array Value) (t : TypeId) (f : Nat × Nat), ¬ Ours t → w.heap[k]? = some (.cells cs t f) → w'.heap[k]? = some (.cells cs t f)
theorem KT.trans {B : Nat} {a b c : World} (h : KT B a b) (k : KT B b c) : KT B a c := ⟨h.low.trans k.low, fun i cs t f ht hi => k.other i cs t f ht (h.other i cs t f ht hi)⟩
theorem KT.refl (B : Nat) (w : World) : KT B w w := ⟨Below.refl _ _, fun _ _ _ _ _ h => h⟩
theorem KT.of_below {B : Nat} {w w' : World} (h : Below w.heap.size w w') (hb : B ≤ w.heap.size) : KT B w w' := ⟨h.mono hb, fun k _ _ _ _ hk => (h.block k (Array.getElem?_eq_some_iff.1 hk).1).trans hk⟩
/-- a log and its disk, over blocks from B on -/
abbrev LB (w : World) (B L p : Nat) (d : List Int) (ws : List Wr) (g : Lg) : Prop := LD w (fun k => B ≤ k) L p d ws g
section
variable {w w' : World} {B L p : Nat} {d d' : List Int} {ws ws' : List Wr} {g g' : Lg}
def Typ (w : World) (k : Nat) : Prop := ∃ cs t f, Ours t ∧ w.heap[k]? = some (.cells cs t f)
theorem LD.typed {S : Nat → Prop} (h : LD w S L p d ws g) : LD w (fun k => S k ∧ Typ w k) L p d ws g := by
  obtain ⟨q, cap, v, hp⟩ := h.dsk
  refine ⟨h.log, ⟨q, cap, v, ⟨hp.str, hp.pl, hp.wt, ⟨⟨hp.sp.1, ?_⟩, hp.sp.2⟩, ⟨⟨hp.sq.1, ?_⟩, hp.sq.2⟩, fun k hk => ⟨⟨(hp.sv k hk).1, ?_⟩, (hp.sv k hk).2⟩, hp.n1, hp.n2, hp.dl, hp.db, hp.fit⟩⟩, ⟨h.sl, ?_⟩, h.ok⟩
  · exact ⟨_, _, _, .inr (.inl rfl), hp.str⟩
  · obtain ⟨cur, hc, _⟩ := hp.pl.blk
    exact ⟨_, _, _, .inr (.inr (.inl rfl)), hc⟩
  · obtain ⟨sz, cur, hc, _⟩ := own_ownBlk hp.wt hk
    exact ⟨_, _, _, .inr (.inr (.inr rfl)), hc⟩
  · exact ⟨_, _, _, .inl rfl, h.log⟩
theorem LB.base (h : LB w B L p d ws g) : B ≤ w.heap.size := by have := h.sl; have := LAt.lt h.log; omega
theorem LB.after (h : LB w B L p d ws g) (hd : LD w' (More (fun k => B ≤ k ∧ Typ w k) w) L p d' ws' g') (hk : Kept (fun k => B ≤ k ∧ Typ w k) w w') : LB w' B L p d' ws' g' ∧ KT B w w' := by
  have hb := h.base
  refine ⟨hd.mono fun k _ s => s.elim (fun s => s.1) (fun s => by omega), hk.below hb fun k s => s.1, fun k cs t f ht hc => ?_⟩
  refine (hk.block k (Array.getElem?_eq_some_iff.1 hc).1 ?_).trans hc
  rintro ⟨_, cs', t', f', ht', hc'⟩
  rw [hc] at hc'
  cases hc'
  exact ht ht'
theorem LB.len (h : LB w B L p d ws g) : d.length = 64 * g.sz ∧ Fit g.sz ws := by
  obtain ⟨q, cap, v, hp⟩ := h.dsk
  exact ⟨hp.dl, hp.fit⟩
theorem image_B (h : LB w B L p d ws g) (hk : ws.length ≤ 100000) (ht : Tab w) (b : Int) (v : List Int) (hv : v.length = 32) (hvb : Bytes v) (hi : imgS g b = 0) :
    Calls Tryd.prog 8 #[.pointer (some ⟨L, 0, none⟩), .int .i64 b, .agg (U8 v).toArray] w fun e w' => e = .returned (.tuple #[.int .u64 g.fin, .int .i64 0]) ∧ LB w' B L p d (ws ++ [⟨(secN g g.fin).toNat, R.encS (imgR g b v)⟩]) (imgG g b) ∧ KT B w w' := by
  refine (image_ok h.typed hk ht b v hv hvb hi).mono ?_
  rintro e w' ⟨rfl, h1, h2⟩
  exact ⟨rfl, h.after h1 h2⟩
theorem commit_B (h : LB w B L p d ws g) (hk : ws.length ≤ 100000) (ht : Tab w) (hm : moreS g = 0) :
    Calls Tryd.prog 9 #[.pointer (some ⟨L, 0, none⟩)] w fun e w' => e = .returned (.tuple #[.int .u64 g.fin, .int .i64 0]) ∧ LB w' B L p d (ws ++ [⟨(secN g g.fin).toNat, R.encS (comR g)⟩]) (comG g) ∧ KT B w w' := by
  refine (commit_ok h.typed hk ht hm).mono ?_
  rintro e w' ⟨rfl, h1, h2⟩
  exact ⟨rfl, h.after h1 h2⟩
theorem mark_B (h : LB w B L p d ws g) (hk : ws.length ≤ 100000) (ht : Tab w) (t : Int) (ho : ¬ Out g t) :
    Calls Tryd.prog 12 #[.pointer (some ⟨L, 0, none⟩), .int .u64 t] w fun e w' => e = .returned (.int .i64 0) ∧ LB w' B L p d (ws ++ [⟨0, encS (supL g t)⟩]) (mkG g t) ∧ KT B w w' := by
  refine (mark_ok h.typed hk ht t ho).mono ?_
  rintro e w' ⟨rfl, h1, h2⟩
  exact ⟨rfl, h.after h1 h2⟩
theorem flush_B (h : LB w B L p d ws g) (hk : ws.length ≤ 100000) :
    Calls Tryd.prog 17 #[.pointer (some ⟨L, 0, none⟩)] w fun e w' => e = .returned (.tuple #[.int .i64 ws.length, .int .i64 0]) ∧ LB w' B L p (settle (fun _ => true) ws d) [] g ∧ KT B w w' := by
  refine (wflush_at h.typed hk).mono ?_
  rintro e w' ⟨rfl, h1, h2⟩
  exact ⟨rfl, h.after (h1.mono fun k _ s => .inl s) h2⟩
theorem free_B (h : LB w B L p d ws g) (hk : ws.length ≤ 100000) :
    Calls Tryd.prog 13 #[.pointer (some ⟨L, 0, none⟩)] w fun e w' => e = .returned (.tuple #[.int .i64 (g.mark - g.tail), .int .i64 0]) ∧ LB w' B L p (settle (fun _ => true) ws d) [] (frG g) ∧ KT B w w' := by
  refine (free_at h.typed hk).mono ?_
  rintro e w' ⟨rfl, h1, h2⟩
  exact ⟨rfl, h.after (h1.mono fun k _ s => .inl s) h2⟩
theorem told_B (h : LB w B L p d ws g) (ht : Tab w) (k : Int) (hk0 : -9223372036854775808 ≤ k) (hk1 : k ≤ 9223372036854775807) :
    Calls Tryd.prog 18 #[.pointer (some ⟨L, 0, none⟩), .int .i64 k] w fun r w' => ∃ v, r = .returned (.tuple #[v, .bool true]) ∧ w'.ownsRow w.heap.size 95 36 v ((allS g (newest ws d)).take k.toNat).length (RC ((allS g (newest ws d)).take k.toNat)) ∧ Below w.heap.size w w' :=
  told_any (LD.rdr h ht) k hk0 hk1
end
end Go.Proofs.YtmcpjokbkkfgfaaDoor
