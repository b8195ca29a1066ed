/-
  Layer 9: what stands in a log; the calls over blocks that are ours alone.
-/
import Derived.Test.YtmcpjokbkkfgfaaGreatDoorT16
import Derived.ProofKit
import Derived.LaidMore
import Derived.OpenShut
import Derived.Stop.Joined
import Derived.Stop.LaidErr
import Derived.ChangeSame
import Derived.Lib.LaidTab
import Derived.ShutString
import Derived.ChangeOld
import Derived.SizedLaws
import Derived.Test.YtmcpjokbkkfgfaaGreatDoorT09
namespace Go.Proofs.YtmcpjokbkkfgfaaGreatDoor
open Go.RowKit


/-- what is all kept is what reads -/
theorem setl_newk {ws : List Wr} {d : List Int} {n : Nat} (hd : d.length = 64 * n) (hw : Fit n ws) {i : Nat} (hi : i < n) : ∀ k, k ≤ ws.length → sec (setl (fun _ => true) ws d k) i = newk ws d i k
  | 0, _ => rfl
  | k + 1, hk => by
    rw [setl_step _ ws d k (by omega), newk_step ws d i k (by omega), if_pos rfl, sec_put (setl_length hd hw k) (hw.at k (by omega)).1 (hw.at k (by omega)).2.1 hi, setl_newk hd hw hi k (by omega)]
    by_cases c : i = ws[k].s
    · rw [if_pos c, if_pos c.symm]
    · rw [if_neg c, if_neg fun e => c e.symm]
theorem newest_settled {ws : List Wr} {d : List Int} {n : Nat} (hd : d.length = 64 * n) (hw : Fit n ws) {i : Nat} (hi : i < n) : newest [] (settle (fun _ => true) ws d) i = newest ws d i := by
  rw [newest_nil]; exact setl_newk hd hw hi _ (Nat.le_refl _)
/-- **what stands in a log**: 'all' are the records that were appended, the first at 'from'; those from the tail on are read -/
structure Holds (g : Lg) (ws : List Wr) (d : List Int) (fr : Int) (all : List R.Rec) : Prop where
  len : fr + all.length = g.fin
  le : fr ≤ g.tail
  at_ : ∀ (i : Nat) (r : R.Rec), all[i]? = some r → g.tail ≤ fr + i → newest ws d (secN g (fr + i)).toNat = R.encS r ∧ r.Wf ∧ R.may r = true ∧ r.pos = fr + i
theorem sec_ne {g : Lg} (ok : g.Ok) {p q : Int} (h : p ≠ q) (h1 : p < q + g.c.lc) (h2 : q < p + g.c.lc) : (secN g p).toNat ≠ (secN g q).toNat := fun e => by
  have a := secN_in ok p; have b := secN_in ok q
  have hc := ok.cf.2.1
  have e' : secN g p = secN g q := by omega
  unfold secN at e'
  exact h (G.lap_inj g.c.lc p q (by omega) (by omega) h1 h2)
theorem Holds.app {g g' : Lg} {ws : List Wr} {d : List Int} {fr : Int} {all : List R.Rec} (h : Holds g ws d fr all) (ok : g.Ok) (hm : moreS g = 0) (hc : g'.c = g.c) (ht : g'.tail = g.tail) (hf : g'.fin = g.fin + 1) {r : R.Rec} (hw : r.Wf) (hmay : R.may r = true) (hp : r.pos = g.fin) :
    Holds g' (ws ++ [⟨(secN g g.fin).toNat, R.encS r⟩]) d fr (all ++ [r]) := by
  have hl := h.len
  have hu := ok.us
  have m2 := (moreS_zero hm).2
  have hs : ∀ p, secN g' p = secN g p := fun p => by unfold secN; rw [hc]
  refine ⟨by rw [hf]; simp; omega, by rw [ht]; exact h.le, fun i x hx hi => ?_⟩
  rw [ht] at hi
  rw [hs, newest_snoc]
  by_cases c : i < all.length
  · rw [List.getElem?_append_left c] at hx
    have := h.at_ i x hx hi
    rw [if_neg (sec_ne ok (by omega) (by omega) (by omega))]
    exact this
  · have ci : i = all.length := by
      have := (List.getElem?_eq_some_iff.1 hx).1
      simp at this; omega
    subst ci
    rw [List.getElem?_append_right (Nat.le_refl _), Nat.sub_self] at hx
    obtain rfl : r = x := by simpa using hx
    rw [if_pos (by rw [hl]), hl]
    exact ⟨rfl, hw, hmay, hp⟩
theorem Holds.img {g : Lg} {ws : List Wr} {d : List Int} {fr : Int} {all : List R.Rec} (h : Holds g ws d fr all) (ok : g.Ok) {b : Int} (h0 : imgS g b = 0) {v : List Int} (hv : v.length = 32) (hvb : Bytes v) : Holds (imgG g b) (ws ++ [⟨(secN g g.fin).toNat, R.encS (imgR g b v)⟩]) d fr (all ++ [imgR g b v]) :=
  h.app (g' := imgG g b) ok (imgS_zero h0).1 rfl rfl rfl (imgR_wf ok (imgS_zero h0).2 hv hvb) (imgR_may ok (imgS_zero h0).2) rfl
theorem Holds.com {g : Lg} {ws : List Wr} {d : List Int} {fr : Int} {all : List R.Rec} (h : Holds g ws d fr all) (ok : g.Ok) (h0 : moreS g = 0) : Holds (comG g) (ws ++ [⟨(secN g g.fin).toNat, R.encS (comR g)⟩]) d fr (all ++ [comR g]) :=
  h.app (g' := comG g) ok h0 rfl rfl rfl (comR_wf ok) (comR_may ok) rfl
theorem Holds.mark {g : Lg} {ws : List Wr} {d : List Int} {fr : Int} {all : List R.Rec} (h : Holds g ws d fr all) (ok : g.Ok) (t : Int) (b : List Int) : Holds (mkG g t) (ws ++ [⟨0, b⟩]) d fr all :=
  ⟨h.len, h.le, fun i x hx hi => by
    rw [newest_snoc, if_neg]
    · exact h.at_ i x hx hi
    · have hc := ok.cf
      show (secN g (fr + i)).toNat ≠ 0
      have h4 := Int.emod_nonneg (fr + i) (show g.c.lc ≠ 0 by have := hc.2.1; omega)
      unfold secN; have := hc.1; omega⟩
theorem Holds.flush {g : Lg} {ws : List Wr} {d : List Int} {fr : Int} {all : List R.Rec} (h : Holds g ws d fr all) (ok : g.Ok) (hd : d.length = 64 * g.sz) (hw : Fit g.sz ws) : Holds g [] (settle (fun _ => true) ws d) fr all :=
  ⟨h.len, h.le, fun i x hx hi => by
    have hs := secN_in ok (fr + i)
    rw [newest_settled hd hw (by omega)]
    exact h.at_ i x hx hi⟩
theorem Holds.free {g : Lg} {ws : List Wr} {d : List Int} {fr : Int} {all : List R.Rec} (h : Holds g ws d fr all) (ok : g.Ok) : Holds (frG g) ws d fr all :=
  ⟨h.len, by have := h.le; have := ok.tm; show fr ≤ g.mark; omega, fun i x hx hi => h.at_ i x hx (by have := ok.tm; have : g.mark ≤ fr + i := hi; omega)⟩
theorem Holds.start (s : Sup) (t l : Int) (ws : List Wr) (d : List Int) : Holds (opnG s t l) ws d t [] := ⟨by show t + ((0 : Nat) : Int) = t; omega, Int.le_refl t, fun i r h => by simp at h⟩
theorem Holds.read {g : Lg} {ws : List Wr} {d : List Int} {fr : Int} {all : List R.Rec} (h : Holds g ws d fr all) {p : Int} (h1 : g.tail ≤ p) {r : R.Rec} (hr : all[(p - fr).toNat]? = some r) : rdS g (newest ws d) p = (r, 0) := by
  have hl := h.len; have hle := h.le
  have hi := (List.getElem?_eq_some_iff.1 hr).1
  have ep : fr + ((p - fr).toNat : Int) = p := by omega
  obtain ⟨a1, a2, a3, a4⟩ := h.at_ _ r hr (by omega)
  rw [ep] at a1 a4
  have e : R.decS (newest ws d (secN g p).toNat) = (r, 0) := by rw [a1]; exact R.decS_encS r a2 a3
  rw [rdS_ok (by omega) (by rw [e]) (by rw [e]; exact a4), e]
theorem allR_some (rd : Int → R.Rec × Int) : ∀ (k : Nat) (p : Int) (xs : List R.Rec), xs.length = k → (∀ i (r : R.Rec), xs[i]? = some r → rd (p + (i : Nat)) = (r, 0)) → allR rd p k = xs
  | 0, _, xs, hl, _ => (List.length_eq_zero_iff.1 hl).symm
  | k + 1, p, [], hl, _ => by simp at hl
  | k + 1, p, x :: xs, hl, h => by
    have h0 := h 0 x rfl
    rw [show p + ((0 : Nat) : Int) = p by omega] at h0
    show (if (rd p).2 = 0 then (rd p).1 :: allR rd (p + 1) k else []) = _
    rw [h0, if_pos rfl, allR_some rd k (p + 1) xs (by simpa using hl) (fun i r hi => by
      have := h (i + 1) r (by simpa using hi)
      rw [← this]; congr 1; omega)]
theorem Holds.all {g : Lg} {ws : List Wr} {d : List Int} {fr : Int} {all : List R.Rec} (h : Holds g ws d fr all) (ok : g.Ok) : allS g (newest ws d) = all.drop (g.tail - fr).toNat := by
  have hl := h.len; have hle := h.le; have := ok.tm; have := ok.mf
  refine allR_some _ _ _ _ (by simp; omega) fun i r hi => ?_
  rw [List.getElem?_drop] at hi
  refine h.read (by omega) ?_
  rw [← hi]; congr 1; omega

/-- blocks of the log's and the disk's own kinds -/
abbrev Ours (t : TypeId) : Prop := t = 82 ∨ t = 76 ∨ t = 124 ∨ t = 127
/-- what such a call leaves alone: what lies below, and the blocks of other kinds -/
structure KT (B : Nat) (w w' : World) : Prop where
  low : Below B w w'
  other : ∀ (k : Nat) (cs : Array Value) (t : TypeId) (f : Nat × Nat), ¬ Ours t → w.heap[k]? = some (.cells cs t f) → w'.heap[k]? = some (.cells cs t f)
theorem KT.trans {B : Nat} {a b c : World} (h : KT B a b) (k : KT B b c) : KT B a c := ⟨h.low.trans k.low, fun i cs t f ht hi => k.other i cs t f ht (h.other i cs t f ht hi)⟩
theorem KT.refl (B : Nat) (w : World) : KT B w w := ⟨Below.refl _ _, fun _ _ _ _ _ h => h⟩
theorem KT.of_below {B : Nat} {w w' : World} (h : Below w.heap.size w w') (hb : B ≤ w.heap.size) : KT B w w' := ⟨h.mono hb, fun k _ _ _ _ hk => (h.block k (Array.getElem?_eq_some_iff.1 hk).1).trans hk⟩
/-- a log and its disk, over blocks from B on -/
abbrev LB (w : World) (B L p : Nat) (d : List Int) (ws : List Wr) (g : Lg) : Prop := LD w (fun k => B ≤ k) L p d ws g
section
variable {w w' : World} {B L p : Nat} {d d' : List Int} {ws ws' : List Wr} {g g' : Lg}
def Typ (w : World) (k : Nat) : Prop := ∃ cs t f, Ours t ∧ w.heap[k]? = some (.cells cs t f)
theorem LD.typed {S : Nat → Prop} (h : LD w S L p d ws g) : LD w (fun k => S k ∧ Typ w k) L p d ws g := by
  obtain ⟨q, cap, v, hp⟩ := h.dsk
  refine ⟨h.log, ⟨q, cap, v, ⟨hp.str, hp.pl, hp.wt, ⟨⟨hp.sp.1, ?_⟩, hp.sp.2⟩, ⟨⟨hp.sq.1, ?_⟩, hp.sq.2⟩, fun k hk => ⟨⟨(hp.sv k hk).1, ?_⟩, (hp.sv k hk).2⟩, hp.n1, hp.n2, hp.dl, hp.db, hp.fit⟩⟩, ⟨h.sl, ?_⟩, h.ok⟩
  · exact ⟨_, _, _, .inr (.inl rfl), hp.str⟩
  · obtain ⟨cur, hc, _⟩ := hp.pl.blk
    exact ⟨_, _, _, .inr (.inr (.inl rfl)), hc⟩
  · obtain ⟨sz, cur, hc, _⟩ := own_ownBlk hp.wt hk
    exact ⟨_, _, _, .inr (.inr (.inr rfl)), hc⟩
  · exact ⟨_, _, _, .inl rfl, h.log⟩
theorem LB.base (h : LB w B L p d ws g) : B ≤ w.heap.size := by have := h.sl; have := LAt.lt h.log; omega
theorem LB.after (h : LB w B L p d ws g) (hd : LD w' (More (fun k => B ≤ k ∧ Typ w k) w) L p d' ws' g') (hk : Kept (fun k => B ≤ k ∧ Typ w k) w w') : LB w' B L p d' ws' g' ∧ KT B w w' := by
  have hb := h.base
  refine ⟨hd.mono fun k _ s => s.elim (fun s => s.1) (fun s => by omega), hk.below hb fun k s => s.1, fun k cs t f ht hc => ?_⟩
  refine (hk.block k (Array.getElem?_eq_some_iff.1 hc).1 ?_).trans hc
  rintro ⟨_, cs', t', f', ht', hc'⟩
  rw [hc] at hc'
  cases hc'
  exact ht ht'
theorem LB.len (h : LB w B L p d ws g) : d.length = 64 * g.sz ∧ Fit g.sz ws := by
  obtain ⟨q, cap, v, hp⟩ := h.dsk
  exact ⟨hp.dl, hp.fit⟩
theorem image_B (h : LB w B L p d ws g) (hk : ws.length ≤ 100000) (ht : Tab w) (b : Int) (v : List Int) (hv : v.length = 32) (hvb : Bytes v) (hi : imgS g b = 0) :
    Calls Tryz.prog 12 #[.pointer (some ⟨L, 0, none⟩), .int .i64 b, .agg (U8 v).toArray] w fun e w' => e = .returned (.tuple #[.int .u64 g.fin, .int .i64 0]) ∧ LB w' B L p d (ws ++ [⟨(secN g g.fin).toNat, R.encS (imgR g b v)⟩]) (imgG g b) ∧ KT B w w' := by
  refine (image_ok h.typed hk ht b v hv hvb hi).mono ?_
  rintro e w' ⟨rfl, h1, h2⟩
  exact ⟨rfl, h.after h1 h2⟩
theorem commit_B (h : LB w B L p d ws g) (hk : ws.length ≤ 100000) (ht : Tab w) (hm : moreS g = 0) :
    Calls Tryz.prog 13 #[.pointer (some ⟨L, 0, none⟩)] w fun e w' => e = .returned (.tuple #[.int .u64 g.fin, .int .i64 0]) ∧ LB w' B L p d (ws ++ [⟨(secN g g.fin).toNat, R.encS (comR g)⟩]) (comG g) ∧ KT B w w' := by
  refine (commit_ok h.typed hk ht hm).mono ?_
  rintro e w' ⟨rfl, h1, h2⟩
  exact ⟨rfl, h.after h1 h2⟩
theorem mark_B (h : LB w B L p d ws g) (hk : ws.length ≤ 100000) (ht : Tab w) (t : Int) (ho : ¬ Out g t) :
    Calls Tryz.prog 16 #[.pointer (some ⟨L, 0, none⟩), .int .u64 t] w fun e w' => e = .returned (.int .i64 0) ∧ LB w' B L p d (ws ++ [⟨0, encS (supL g t)⟩]) (mkG g t) ∧ KT B w w' := by
  refine (mark_ok h.typed hk ht t ho).mono ?_
  rintro e w' ⟨rfl, h1, h2⟩
  exact ⟨rfl, h.after h1 h2⟩
theorem flush_B (h : LB w B L p d ws g) (hk : ws.length ≤ 100000) :
    Calls Tryz.prog 15 #[.pointer (some ⟨L, 0, none⟩)] w fun e w' => e = .returned (.tuple #[.int .i64 ws.length, .int .i64 0]) ∧ LB w' B L p (settle (fun _ => true) ws d) [] g ∧ KT B w w' := by
  refine (wflush_at h.typed hk).mono ?_
  rintro e w' ⟨rfl, h1, h2⟩
  exact ⟨rfl, h.after (h1.mono fun k _ s => .inl s) h2⟩
theorem free_B (h : LB w B L p d ws g) (hk : ws.length ≤ 100000) :
    Calls Tryz.prog 17 #[.pointer (some ⟨L, 0, none⟩)] w fun e w' => e = .returned (.tuple #[.int .i64 (g.mark - g.tail), .int .i64 0]) ∧ LB w' B L p (settle (fun _ => true) ws d) [] (frG g) ∧ KT B w w' := by
  refine (free_at h.typed hk).mono ?_
  rintro e w' ⟨rfl, h1, h2⟩
  exact ⟨rfl, h.after (h1.mono fun k _ s => .inl s) h2⟩
theorem told_B (h : LB w B L p d ws g) (ht : Tab w) (k : Int) (hk0 : -9223372036854775808 ≤ k) (hk1 : k ≤ 9223372036854775807) :
    Calls Tryz.prog 18 #[.pointer (some ⟨L, 0, none⟩), .int .i64 k] w fun r w' => ∃ v, r = .returned (.tuple #[v, .bool true]) ∧ w'.ownsRow w.heap.size 87 36 v ((allS g (newest ws d)).take k.toNat).length (RC ((allS g (newest ws d)).take k.toNat)) ∧ Below w.heap.size w w' :=
  told_any (LD.rdr h ht) k hk0 hk1
end
end Go.Proofs.YtmcpjokbkkfgfaaGreatDoor

/-
  What the rows of layer 9 share: the listed tables.
-/
namespace Go.Proofs.YtmcpjokbkkfgfaaGreatDoor
open Go.ChangeShapes Go.WideShapes Go.ChangeAt Go.RowKit

theorem ownK : ownKnob Tryz.prog.godebug = none := by kernel_rfl
theorem gHalves : Tryz.prog.globalNamed "wicket/sum.halves" = some 1 := by kernel_rfl
theorem tHalves : (Tryz.prog.globals[1]?).map (·.type) = some 185 := by kernel_rfl
theorem gFields : Tryz.prog.globalNamed "wicket/super.fields" = some 0 := by kernel_rfl
theorem tFields : (Tryz.prog.globals[0]?).map (·.type) = some 150 := by kernel_rfl
theorem cells38 : Tryz.prog.cellsOf 153 = 1 := by kernel_rfl
theorem cells78 : Tryz.prog.cellsOf 185 = 16 := by kernel_rfl
theorem cells62 : Tryz.prog.cellsOf 149 = 2 := by kernel_rfl
theorem cells3 : Tryz.prog.cellsOf 3 = 1 := by kernel_rfl

def zs16 : List Int := [0, 498536548, 997073096, 651767980, 1994146192, 1802195444, 1303535960, 1342533948, 3988292384, 4027552580, 3604390888, 3412177804, 2607071920, 2262029012, 2685067896, 3183342108]
theorem zs16_table : ∀ i, i < 16 → zs16[i]? = some ((table.getD i 0 : Nat) : Int) := by decide

abbrev laidS : List (String × DataW Unit) := [("wicket/sum.halves", Rows.laid_wicket_sum_halves), ("wicket/super.fields", Rows.laid_wicket_super_fields)]

/-- the door's own heap meets the condition -/
theorem door_met (os : Os) (args : Array Value) : laidMetH Tryz.prog laidS ((World.doorLaid Tryz.prog 400 os).forCall (fun _ _ => 0) ⟨#[], args, []⟩).memory :=
  laidMetH_of_parts3 (fuel := 8) (laidMet_of_run' 8 (by kernel_rfl) (by kernel_rfl)) (by kernel_rfl) (by kernel_rfl)

def pairD {H : Type} (a k : Nat) : DataW H := .agg [.lit (.int .i64 (a : Int)), .lit (.int .i64 (k : Int))]
theorem drop_one {α : Type} (l : List α) (i : Nat) (v : α) (h : (l.drop i).take 1 = [v]) : l[i]? = some v := by
  have e : ((l.drop i).take 1)[0]? = some v := by rw [h]; rfl
  rw [List.getElem?_take, if_pos (by omega), List.getElem?_drop] at e
  exact e
theorem pair_of {H : Type} {enc : TypeId × Value → H} {W : World} {b : Nat} {sp : Nat → Bool} {held : Bool} {m : Nat} {cs : List Value} {p : List MemPlace} {a k : Nat} (h : DataW.trod enc Tryz.prog W b sp held m 149 cs = some (pairD a k, p)) :
    cs[0]? = some (.int .i64 (a : Int)) ∧ cs[1]? = some (.int .i64 (k : Int)) := by
  obtain ⟨xs, n, _, e, _, hxl, hg⟩ := DataW.trod_struct Tryz.underlying149 h
  have hxl2 : xs.length = 2 := hxl
  have g0 : DataW.trod enc Tryz.prog W b sp held n 3 ((cs.drop 0).take (Tryz.prog.cellsOf 3)) = xs[0]? := hg 0 _ rfl
  have g1 : DataW.trod enc Tryz.prog W b sp held n 3 ((cs.drop 1).take (Tryz.prog.cellsOf 3)) = xs[1]? := hg 1 _ rfl
  rw [cells3, List.getElem?_eq_getElem (by omega)] at g0 g1
  obtain ⟨a0, e0, d0, _⟩ := DataW.trod_int Tryz.underlying3 g0
  obtain ⟨a1, e1, d1, _⟩ := DataW.trod_int Tryz.underlying3 g1
  have f0 := drop_one _ _ _ e0
  have f1 := drop_one _ _ _ e1
  have ed := congrArg Prod.fst e
  match xs, hxl2 with
  | [y0, y1], _ =>
    simp only [List.getElem_cons_zero, List.getElem_cons_succ] at d0 d1
    rw [d0, d1] at ed
    simp [pairD] at ed
    rw [f0, f1, ed.1, ed.2]
    exact ⟨rfl, rfl⟩
def fdata {H : Type} : List (DataW H) := [pairD 6 1, pairD 8 1, pairD 9 1, pairD 10 1, pairD 11 1, pairD 12 1, pairD 16 8, pairD 24 8]
theorem fdata_at {H : Type} (i : Nat) (h : i < 8) : (fdata (H := H))[i]? = some (pairD (fa.getD i 0) (fw.getD i 0)) := by
  have : i = 0 ∨ i = 1 ∨ i = 2 ∨ i = 3 ∨ i = 4 ∨ i = 5 ∨ i = 6 ∨ i = 7 := by omega
  rcases this with rfl | rfl | rfl | rfl | rfl | rfl | rfl | rfl <;> rfl
theorem flds_of {H : Type} {enc : TypeId × Value → H} {W : World} {b : Nat} {sp : Nat → Bool} {held : Bool} {m : Nat} {cs : List Value} {p : List MemPlace} (h : DataW.trod enc Tryz.prog W b sp held m 150 cs = some (.agg fdata, p)) (i : Nat) (hi : i < 8) :
    cs[2 * i]? = some (.int .i64 ((fa.getD i 0 : Nat) : Int)) ∧ cs[2 * i + 1]? = some (.int .i64 ((fw.getD i 0 : Nat) : Int)) := by
  obtain ⟨xs, m', _, e, _, hxl, hf⟩ := DataW.trod_array Tryz.underlying150 h
  have e1 : fdata = xs.map (·.1) := by
    have := congrArg Prod.fst e
    injection this
  have g := hf i hi
  rw [cells62] at g
  have hx : (xs.map (·.1))[i]? = some (pairD (fa.getD i 0) (fw.getD i 0)) := by rw [← e1]; exact fdata_at i hi
  rw [List.getElem?_map] at hx
  obtain ⟨y, hy, hy1⟩ := Option.map_eq_some_iff.1 hx
  rw [hy] at g
  obtain ⟨d, pp⟩ := y
  simp only at hy1
  subst hy1
  have hp := pair_of g
  rw [List.getElem?_take, if_pos (by omega), List.getElem?_drop, List.getElem?_take, if_pos (by omega), List.getElem?_drop] at hp
  rw [show i * 2 + 0 = 2 * i by omega, show i * 2 + 1 = 2 * i + 1 by omega] at hp
  exact hp

/-- what the condition gives the walks: the tables -/
theorem tab_of {W : World} (h : laidMetH Tryz.prog laidS W) : Tab W := by
  rw [MakeChecks.laidMetH_plain _ _ _ (by kernel_rfl)] at h
  have h' : laidMet Tryz.prog [("wicket/sum.halves", Lib.tabData .u32 zs16), ("wicket/super.fields", .agg fdata)] W := h
  refine ⟨?_, ?_⟩
  · have hT := Lib.tabIs_of_head gHalves tHalves Tryz.underlying185 Tryz.underlying153 cells38 cells78 h'
    intro i hi
    rw [World.var?_cell gHalves hT i]
    have := zs16_table i hi
    simp [this]
  · obtain ⟨ps, ⟨g', t', cs, fuel, p, q, hg', ht', hvar, hd, _, _⟩, _⟩ := h'.tail
    obtain rfl := Option.some.inj (gFields.symm.trans hg')
    obtain rfl := Option.some.inj (tFields.symm.trans ht')
    intro i hi
    have hf := flds_of hd i hi
    rw [World.var?_cell gFields hvar (2 * i), World.var?_cell gFields hvar (2 * i + 1)]
    simpa using hf
end Go.Proofs.YtmcpjokbkkfgfaaGreatDoor

/-
  Contracts of layer 4, seventh part: Waiting.
-/
namespace Go.Proofs.YtmcpjokbkkfgfaaGreatDoor
open Go.RowKit
/-- a list of writes that was told: its row g, the bytes' lists vs, in blocks from B on that rise -/
structure Told (w : World) (B g : Nat) (ws : List Wr) (vs : List Value) : Prop where
  len : vs.length = ws.length
  blk : Blk w g 136 (ws.length * 2)
  hg : B ≤ g
  sect : ∀ i (h : i < ws.length), w.cell? ⟨g, i * 2, none⟩ = some (.int .i64 (ws[i].s : Int))
  data : ∀ i (h : i < vs.length), w.cell? ⟨g, i * 2 + 1, none⟩ = some vs[i]
  each : ∀ i (h : i < ws.length) (h2 : i < vs.length), w.ownsRow B 5 1 vs[i] 64 (U8 ws[i].b)
  apart : ∀ i j (hi : i < vs.length) (hj : j < vs.length), i < j → ∀ a b, vs[i].ownBlock = some a → vs[j].ownBlock = some b → a < b
theorem Told.later {w w' : World} {B g : Nat} {ws : List Wr} {vs : List Value} (h : Told w B g ws vs) (hb : Below w.heap.size w w') : Told w' B g ws vs :=
  ⟨h.len, h.blk.same (hb.block g h.blk.lt), h.hg, fun i hi => (hb.cell (p := ⟨g, i * 2, none⟩) h.blk.lt).trans (h.sect i hi), fun i hi => (hb.cell (p := ⟨g, i * 2 + 1, none⟩) h.blk.lt).trans (h.data i hi), fun i h1 h2 => own_later (h.each i h1 h2) hb, h.apart⟩
/-- while it is told: the first k -/
structure Tel (w wr : World) (ws : List Wr) (k : Nat) (vs : List Value) : Prop where
  len : vs.length = k
  hk : k ≤ ws.length
  blk : Blk wr w.heap.size 136 (ws.length * 2)
  sect : ∀ i (h : i < ws.length), i < k → wr.cell? ⟨w.heap.size, i * 2, none⟩ = some (.int .i64 (ws[i].s : Int))
  data : ∀ i (h : i < vs.length), wr.cell? ⟨w.heap.size, i * 2 + 1, none⟩ = some vs[i]
  each : ∀ i (h : i < ws.length) (h2 : i < vs.length), wr.ownsRow (w.heap.size + 1) 5 1 vs[i] 64 (U8 ws[i].b)
  apart : ∀ i j (hi : i < vs.length) (hj : j < vs.length), i < j → ∀ a b, vs[i].ownBlock = some a → vs[j].ownBlock = some b → a < b
  below : Below w.heap.size w wr
theorem Tel.later {w wr w' : World} {ws : List Wr} {k : Nat} {vs : List Value} (h : Tel w wr ws k vs) (hb : Below wr.heap.size wr w') : Tel w w' ws k vs :=
  ⟨h.len, h.hk, h.blk.same (hb.block _ h.blk.lt), fun i hi hik => (hb.cell (p := ⟨w.heap.size, i * 2, none⟩) h.blk.lt).trans (h.sect i hi hik), fun i hi => (hb.cell (p := ⟨w.heap.size, i * 2 + 1, none⟩) h.blk.lt).trans (h.data i hi), fun i h1 h2 => own_later (h.each i h1 h2) hb, h.apart, h.below.trans (hb.mono h.below.size)⟩
theorem Blk.some {w : World} {g t sz : Nat} (h : Blk w g t sz) (o : Nat) (ho : o < sz) : ∃ u, w.cell? ⟨g, o, none⟩ = some u := by
  obtain ⟨cur, h, hs⟩ := h
  exact ⟨cur[o], by rw [cell_of_row w g o cur t (0, 0) h, Array.getElem?_eq_getElem (by omega)]⟩
theorem Blk.free {w : World} {g t sz : Nat} (h : Blk w g t sz) (o : Nat) : w.frozen? ⟨g, o, none⟩ = false := by
  obtain ⟨cur, h, hs⟩ := h
  exact frozen_of_row w g o _ t h
theorem Tel.step {w wr w1 : World} {ws : List Wr} {k : Nat} {vs : List Value} {v : Value} (h : Tel w wr ws k vs) (hb : Below wr.heap.size wr w1) (hk : k < ws.length) (hv : w1.ownsRow wr.heap.size 5 1 v 64 (U8 ws[k].b)) :
    Tel w ((w1.setCell ⟨w.heap.size, k * 2, none⟩ (.int .i64 (ws[k].s : Int))).setCell ⟨w.heap.size, k * 2 + 1, none⟩ v) ws (k + 1) (vs ++ [v]) := by
  have h1 := h.later hb
  have hlt := h.blk.lt
  obtain ⟨u0, c0⟩ := h1.blk.some (k * 2) (by omega)
  obtain ⟨u1, c1⟩ := (h1.blk.setCell (g' := w.heap.size) (o := k * 2) (.int .i64 (ws[k].s : Int))).some (k * 2 + 1) (by omega)
  have hold : ∀ {vv : Value} {xs : List Value} {nn : Nat}, w1.ownsRow (w.heap.size + 1) 5 1 vv nn xs → ((w1.setCell ⟨w.heap.size, k * 2, none⟩ (.int .i64 (ws[k].s : Int))).setCell ⟨w.heap.size, k * 2 + 1, none⟩ v).ownsRow (w.heap.size + 1) 5 1 vv nn xs := fun {vv xs nn} ho =>
    own_same ho (fun b hb' => (heap_setCell_other _ _ _ _ (by have := (ho.lt b hb').1; show b ≠ w.heap.size; omega)).trans (heap_setCell_other _ _ _ _ (by have := (ho.lt b hb').1; show b ≠ w.heap.size; omega)))
  refine ⟨by simp [h.len], by omega, (h1.blk.setCell _).setCell _, fun i hi hik => ?_, fun i hi => ?_, fun i hi h2 => ?_, fun i j hi hj hij a b ha hb' => ?_, (h1.below.setCell (Nat.le_refl _) _).setCell (Nat.le_refl _) _⟩
  · rw [World.cell?_setCell_other _ _ _ _ (by intro e; simp only [Addr.mk.injEq] at e; omega)]
    by_cases c : i = k
    · subst c
      exact World.cell?_setCell_same _ _ _ c0
    · rw [World.cell?_setCell_other _ _ _ _ (by intro e; simp only [Addr.mk.injEq] at e; omega)]
      exact h1.sect i hi (by omega)
  · by_cases c : i < vs.length
    · have hl := h.len
      rw [World.cell?_setCell_other _ _ _ _ (by intro e; simp only [Addr.mk.injEq] at e; omega), World.cell?_setCell_other _ _ _ _ (by intro e; simp only [Addr.mk.injEq] at e; omega), List.getElem_append_left c]
      exact h1.data i c
    · have e : i = k := by simp at hi; have := h.len; omega
      subst e
      rw [World.cell?_setCell_same _ _ _ c1]
      simp [← h.len]
  · by_cases c : i < vs.length
    · rw [List.getElem_append_left c]
      exact hold (h1.each i hi c)
    · have e : i = k := by simp at h2; have := h.len; omega
      subst e
      have e2 : (vs ++ [v])[i] = v := by simp [← h.len]
      rw [e2]
      exact hold (own_mono hv (by have := h.blk.lt; omega))
  · by_cases c : j < vs.length
    · rw [List.getElem_append_left c] at hb'
      rw [List.getElem_append_left (by omega)] at ha
      exact h.apart i j (by omega) c hij a b ha hb'
    · have e : j = k := by simp at hj; have := h.len; omega
      subst e
      have e2 : (vs ++ [v])[j] = v := by simp [← h.len]
      rw [e2] at hb'
      have hi' : i < vs.length := by have := h.len; omega
      rw [List.getElem_append_left hi'] at ha
      have f1 := (hv.lt b hb').1
      have f2 := ((h.each i (by omega) hi').lt a ha).2
      omega
theorem info82 : (Tryz.prog.info? 136).map (fun i => (i.zero, i.size, i.bytes)) = some (some (.agg #[.int .i64 0, .slice none 0 0]), 2, 32) := by kernel_rfl
set_option maxHeartbeats 400000 in
set_option maxRecDepth 100000 in
theorem waiting_nil (w : World) : Calls Tryz.prog 64 #[.pointer none] w fun e w' => e = .returned (.slice none 0 0) ∧ w = w' := by
  go_enter Tryz.func64, Tryz.ntmps64
  go_wp2
  go_ret
  exact ⟨rfl, rfl⟩
set_option maxHeartbeats 2000000 in
set_option maxRecDepth 100000 in
theorem waiting_any {w : World} {S : Nat → Prop} {p n : Nat} {d : List Int} {ws : List Wr} (h : Dsk w S p n d ws) (hk : ws.length ≤ 100000) :
    Calls Tryz.prog 64 #[.pointer (some ⟨p, 0, none⟩)] w fun e w' => ∃ g vs, e = .returned (.slice (some ⟨g, 0, none⟩) ws.length ws.length) ∧ Told w' w.heap.size g ws vs ∧ Below w.heap.size w w' := by
  obtain ⟨i0, hi, hz0, hz1, hz2⟩ := info_parts info82
  obtain ⟨q, cap, v, h⟩ := h
  have h1 := h.cell1
  have HH : Hid (PD w S p n d ws q cap v) := h
  obtain ⟨pv, cv, rfl, _⟩ := own_slice h.wt
  clear h
  have hmk := run_make (P := Tryz.prog) w 133 136 i0 _ Tryz.underlying133 hi hz0 .i64 .i64 (ws.length : Int) (ws.length : Int) (by omega) (Int.le_refl _) (by rw [hz2]; omega) (by omega)
  rw [hz1] at hmk
  simp only [Int.toNat_natCast, Value.cells] at hmk
  have HT : Hid (Tel w (w.alloc (.cells (madeCells #[.int .i64 0, .slice none 0 0] (ws.length * 2)) 136)) ws 0 []) :=
    ⟨rfl, Nat.zero_le _, ⟨_, heap_alloc_new w _, size_madeCells _ _⟩, fun i _ h => by omega, fun i h => by simp at h, fun i _ h => by simp at h, fun i j h => by simp at h, below_alloc w _⟩
  obtain ⟨ob, hob⟩ : ∃ ob, Obj.cells (madeCells #[.int .i64 0, .slice none 0 0] (ws.length * 2)) 136 = ob := ⟨_, rfl⟩
  rw [hob] at hmk HT
  clear hob
  have h1' : (w.alloc ob).cell? ⟨p, 1, none⟩ = some (.slice pv ws.length cv) := (HH.out.later (below_alloc w ob)).cell1
  go_enter Tryz.func64, Tryz.ntmps64
  go_wp2
  clear hmk h1'
  generalize w.alloc ob = W0 at *
  go_loopw [19] (fun i wr => ∃ (k : Nat) (vs : List Value), i = .int .i64 k ∧ Hid (Tel w wr ws k vs)) (fun i _ => ws.length - (intOf i).toNat)
  case atStart => exact ⟨0, [], rfl, HT.out⟩
  case round =>
    obtain ⟨k, vs, rfl, HR⟩ := hrel
    clear HT
    have hkl := HR.out.hk
    by_cases hlt : k < ws.length
    · have hp1 := HH.out.later HR.out.below
      obtain ⟨g, c', e, hr⟩ := wt_range hp1.wt HH.out.fit hlt
      simp only [Value.slice.injEq, true_and] at e
      obtain ⟨rfl, rfl⟩ := e
      have HX := HH.out.fit.at k hlt
      have HS : Hid (∀ (w1 : World) (v : Value), Below (wr.alloc (.cells (wcell ws[k]).toArray 127)).heap.size (wr.alloc (.cells (wcell ws[k]).toArray 127)) w1 → w1.ownsRow (wr.alloc (.cells (wcell ws[k]).toArray 127)).heap.size 5 1 v 64 (U8 ws[k].b) → Tel w ((w1.setCell ⟨w.heap.size, k * 2, none⟩ (.int .i64 (ws[k].s : Int))).setCell ⟨w.heap.size, k * 2 + 1, none⟩ v) ws (k + 1) (vs ++ [v])) :=
        fun w1 v hb ho => (HR.out.later (below_alloc wr _)).step hb hlt ho
      have HB0 : Hid (Blk (wr.alloc (.cells (wcell ws[k]).toArray 127)) w.heap.size 136 (ws.length * 2)) := (HR.out.later (below_alloc wr _)).blk
      generalize ws[k] = X at *
      have t1 : (wr.alloc (.cells (wcell X).toArray 127)).cell? ⟨wr.heap.size, 0, none⟩ = some (.int .i64 (X.s : Int)) := by
        rw [cell_of_row _ _ _ _ 127 (0, 0) (heap_alloc_new wr _)]; rfl
      have t2 : (wr.alloc (.cells (wcell X).toArray 127)).rangeAt wr.heap.size 1 (U8 X.b) := new_range_at wr _ _ 1 127 (wcell_data X)
      have hsz : (wr.alloc (.cells (wcell X).toArray 127)).heap.size = wr.heap.size + 1 := by simp
      have hwlt : w.heap.size < wr.heap.size := HR.out.blk.lt
      have HXl : Hid (X.b.length = 64) := HX.2.1
      clear HR hp1 h1
      go_wp2_with (first | (refine wpList_load_mid (by rfl) 127 (.tmp 22) (by rfl) g (k * 65) (by rfl) (wcell X) _ hr Tryz.underlying127 rfl (by rw [size80]; simp [wcell, HX.2.1]) ?_) | (refine wpList_alloc80 (by rfl) (by rfl) ?_) | (refine wpList_store80 (by rfl) (.tmp 5) (.tmp 23) (by rfl) X (by rfl) (by rfl) HX.2.1 ?_) | fail)
      simp only [Act.put]
      obtain ⟨W, hW⟩ : ∃ W, wr.alloc (.cells (wcell X).toArray 127) = W := ⟨_, rfl⟩
      rw [hW] at t1 t2 HS HB0 hsz ⊢
      clear hW hr HX
      have i1 : (k : Int) < (ws.length : Int) := by omega
      have i0' : (0 : Int) ≤ (k : Int) := by omega
      have hne : ¬ wr.heap.size = w.heap.size := by omega
      go_region_held3 (fun w' => w'.cell? ⟨wr.heap.size, 0, none⟩ = some (.int .i64 (X.s : Int)) ∧ w'.rangeAt wr.heap.size 1 (U8 X.b)) (first | exact ⟨t1, t2⟩ | exact ⟨a1, a2⟩ | exact ⟨b1, b2⟩) (first | (go_at_call 68; refine (clone_range wr.heap.size 1 64 64 X.b _ HXl.out (by omega) ?_).mono ?_; exact (‹_ ∧ World.rangeAt _ _ _ _›).2; rintro e wa ⟨v1, rfl, hown, hba⟩; have hba' : Below W.heap.size W wa := ⟨hba.os, hba.tape, hba.output, hba.size, hba.block⟩; obtain ⟨pv1, cv1, rfl, _⟩ := own_slice hown; have a1 : wa.cell? ⟨wr.heap.size, 0, none⟩ = some (.int .i64 (X.s : Int)) := (hba'.cell (p := ⟨wr.heap.size, 0, none⟩) (by show wr.heap.size < W.heap.size; omega)).trans t1; have a2 := rangeAt_same t2 (hba'.block wr.heap.size (by omega)); have HB1 := HB0.out.same (hba'.block w.heap.size HB0.out.lt); obtain ⟨u0, s0⟩ := HB1.some (k * 2) (by omega); obtain ⟨u1, s1⟩ := HB1.some (k * 2 + 1) (by omega); have f0 := HB1.free (k * 2); have f1 := HB1.free (k * 2 + 1); have HN := HS.out wa _ hba' hown; have b1 : ((wa.setCell ⟨w.heap.size, k * 2, none⟩ (.int .i64 (X.s : Int))).setCell ⟨w.heap.size, k * 2 + 1, none⟩ (.slice pv1 64 cv1)).cell? ⟨wr.heap.size, 0, none⟩ = some (.int .i64 (X.s : Int)) := by { rw [World.cell?_setCell_far _ _ _ _ (by show w.heap.size ≠ wr.heap.size; omega), World.cell?_setCell_far _ _ _ _ (by show w.heap.size ≠ wr.heap.size; omega)]; exact a1 }; have b2 : ((wa.setCell ⟨w.heap.size, k * 2, none⟩ (.int .i64 (X.s : Int))).setCell ⟨w.heap.size, k * 2 + 1, none⟩ (.slice pv1 64 cv1)).rangeAt wr.heap.size 1 (U8 X.b) := rangeAt_same a2 ((heap_setCell_other _ _ _ _ (by show wr.heap.size ≠ w.heap.size; omega)).trans (heap_setCell_other _ _ _ _ (by show wr.heap.size ≠ w.heap.size; omega)))))
      clear b1 b2 a1 a2 s0 s1 f0 f1 HB1 HS t1 t2
      have HN2 : Hid (Tel w ((wa.setCell ⟨w.heap.size, k * 2, none⟩ (.int .i64 (X.s : Int))).setCell ⟨w.heap.size, k * 2 + 1, none⟩ (.slice pv1 64 cv1)) ws (k + 1) (vs ++ [.slice pv1 64 cv1])) := HN
      clear HN
      go_wp2
      go_roundw
      case rel => exact ⟨k + 1, _, by go_num, HN2.out⟩
      case measure => simp [intOf]; omega
    · obtain rfl : k = ws.length := by omega
      have HF : Hid (Told wr w.heap.size w.heap.size ws vs ∧ Below w.heap.size w wr) :=
        ⟨⟨HR.out.len, HR.out.blk, Nat.le_refl _, fun i hi => HR.out.sect i hi hi, HR.out.data, fun i h1 h2 => own_mono (HR.out.each i h1 h2) (Nat.le_succ _), HR.out.apart⟩, HR.out.below⟩
      clear HR
      go_wp2
      go_ret
      exact ⟨_, vs, rfl, HF.out.1, HF.out.2⟩
end Go.Proofs.YtmcpjokbkkfgfaaGreatDoor

/-
  Layer 4: how the document's own disk lies; its Len, New, Load.
-/
namespace Go.Proofs.YtmcpjokbkkfgfaaGreatDoor
open Go.RowKit
/-- the cells of the document's waiting writes -/
def ZC (ws : List Wr) (vs : List Value) : List Value := (List.zipWith (fun (x : Wr) u => [Value.int .i64 (x.s : Int), u]) ws vs).flatten
/-- **a disk of the document**: its block p, its durable bytes in block g, its writes v, their bytes vs -/
structure RD (w : World) (S : Nat → Prop) (p n : Nat) (d : List Int) (ws : List Wr) (g L cap : Nat) (v : Value) (vs : List Value) : Prop where
  str : w.heap[p]? = some (.cells #[.slice (some ⟨g, 0, none⟩) L cap, v] 79 (0, 0))
  dur : w.ownsRow 0 5 1 (.slice (some ⟨g, 0, none⟩) L cap) L (U8 d)
  wr : w.ownsRow 0 129 2 v ws.length (ZC ws vs)
  len : vs.length = ws.length
  dat : ∀ i (h : i < ws.length) (h2 : i < vs.length), w.ownsRow 0 5 1 vs[i] 64 (U8 ws[i].b)
  ne : ∀ i (h2 : i < vs.length), vs[i].ownBlock ≠ some g
  sp : S p
  sg : S g
  sv : ∀ k, v.ownBlock = some k → S k
  sd : ∀ i (h2 : i < vs.length) k, vs[i].ownBlock = some k → S k
  hL : L = 64 * n
  n1 : 1 ≤ n
  n2 : n ≤ 4096
  dl : d.length = 64 * n
  db : Bytes d
  fit : Fit n ws
def Ref (w : World) (S : Nat → Prop) (p n : Nat) (d : List Int) (ws : List Wr) : Prop := ∃ g L cap v vs, RD w S p n d ws g L cap v vs
theorem RD.blk {w : World} {S : Nat → Prop} {p n : Nat} {d : List Int} {ws : List Wr} {g L cap : Nat} {v : Value} {vs : List Value} (h : RD w S p n d ws g L cap v vs) : Blk w p 79 2 := ⟨_, h.str, rfl⟩
theorem RD.cell0 {w : World} {S : Nat → Prop} {p n : Nat} {d : List Int} {ws : List Wr} {g L cap : Nat} {v : Value} {vs : List Value} (h : RD w S p n d ws g L cap v vs) : w.cell? ⟨p, 0, none⟩ = some (.slice (some ⟨g, 0, none⟩) L cap) := by
  rw [cell_of_row w p 0 _ 79 (0, 0) h.str]; rfl
theorem RD.cell1 {w : World} {S : Nat → Prop} {p n : Nat} {d : List Int} {ws : List Wr} {g L cap : Nat} {v : Value} {vs : List Value} (h : RD w S p n d ws g L cap v vs) : w.cell? ⟨p, 1, none⟩ = some v := by
  rw [cell_of_row w p 1 _ 79 (0, 0) h.str]; rfl
theorem RD.free {w : World} {S : Nat → Prop} {p n : Nat} {d : List Int} {ws : List Wr} {g L cap : Nat} {v : Value} {vs : List Value} (h : RD w S p n d ws g L cap v vs) (j : Nat) : w.frozen? ⟨p, j, none⟩ = false := frozen_of_row w p j _ 79 h.str
theorem RD.same {w w' : World} {S T : Nat → Prop} {p n : Nat} {d : List Int} {ws : List Wr} {g L cap : Nat} {v : Value} {vs : List Value} (h : RD w S p n d ws g L cap v vs) (hs : ∀ k, k < w.heap.size → S k → T k) (e : ∀ k, k < w.heap.size → S k → w'.heap[k]? = w.heap[k]?) : RD w' T p n d ws g L cap v vs :=
  have hp := h.blk.lt
  have hg := (own_blk h.dur).1.lt
  have hv : ∀ k, v.ownBlock = some k → k < w.heap.size := fun _ hk => (own_ownBlk h.wr hk).elim fun _ hb => hb.lt
  have hd : ∀ i (h2 : i < vs.length) k, vs[i].ownBlock = some k → k < w.heap.size := fun i h2 _ hk => (own_ownBlk (h.dat i (by have := h.len; omega) h2) hk).elim fun _ hb => hb.lt
  ⟨(e p hp h.sp).trans h.str, own_same h.dur (fun k hk => by simp only [Value.ownBlock, Option.some.injEq] at hk; subst hk; exact e _ hg h.sg), own_same h.wr (fun k hk => e k (hv k hk) (h.sv k hk)), h.len, fun i h1 h2 => own_same (h.dat i h1 h2) (fun k hk => e k (hd i h2 k hk) (h.sd i h2 k hk)), h.ne, hs p hp h.sp, hs g hg h.sg, fun k hk => hs k (hv k hk) (h.sv k hk), fun i h2 k hk => hs k (hd i h2 k hk) (h.sd i h2 k hk), h.hL, h.n1, h.n2, h.dl, h.db, h.fit⟩
theorem RD.later {w w' : World} {S : Nat → Prop} {p n : Nat} {d : List Int} {ws : List Wr} {g L cap : Nat} {v : Value} {vs : List Value} (h : RD w S p n d ws g L cap v vs) (hb : Below w.heap.size w w') : RD w' S p n d ws g L cap v vs :=
  h.same (fun _ _ => id) (fun k' hk' _ => hb.block k' hk')
theorem Ref.later {w w' : World} {S : Nat → Prop} {p n : Nat} {d : List Int} {ws : List Wr} (h : Ref w S p n d ws) (hb : Below w.heap.size w w') : Ref w' S p n d ws := by
  obtain ⟨g, L, cap, v, vs, h⟩ := h; exact ⟨g, L, cap, v, vs, h.later hb⟩
theorem Ref.kept {w w' : World} {S T : Nat → Prop} {p n : Nat} {d : List Int} {ws : List Wr} (h : Ref w S p n d ws) (hk : Kept T w w') (hd : ∀ k, S k → T k → False) : Ref w' S p n d ws := by
  obtain ⟨g, L, cap, v, vs, h⟩ := h; exact ⟨g, L, cap, v, vs, h.same (fun _ _ => id) (fun k hk' hs => hk.block k hk' (fun t => hd k hs t))⟩
theorem Ref.mono {w : World} {S T : Nat → Prop} {p n : Nat} {d : List Int} {ws : List Wr} (h : Ref w S p n d ws) (hs : ∀ k, k < w.heap.size → S k → T k) : Ref w T p n d ws := by
  obtain ⟨g, L, cap, v, vs, h⟩ := h; exact ⟨g, L, cap, v, vs, h.same hs (fun _ _ _ => rfl)⟩
/-- a new one out of its bytes -/
theorem ref_fin {w w1 : World} {g L cap n : Nat} {d : List Int} (hb : Below w.heap.size w w1) (hd : w1.ownsRow w.heap.size 5 1 (.slice (some ⟨g, 0, none⟩) L cap) L (U8 d)) (hL : L = 64 * n) (hn1 : 1 ≤ n) (hn2 : n ≤ 4096) (hy : Bytes d) :
    Ref (w1.alloc (.cells #[.slice (some ⟨g, 0, none⟩) L cap, .slice none 0 0] 79)) (fun k => w.heap.size ≤ k) w1.heap.size n d [] ∧ Below w.heap.size w (w1.alloc (.cells #[.slice (some ⟨g, 0, none⟩) L cap, .slice none 0 0] 79)) := by
  have hl : d.length = 64 * n := by have := hd.1; rw [U8_length] at this; omega
  refine ⟨⟨g, L, cap, .slice none 0 0, [], heap_alloc_new _ _, own_mono (hd.alloc _) (Nat.zero_le _), World.ownsRow_nil _ _ _ _, rfl, fun i h => by simp at h, fun i h => by simp at h, hb.size, (own_blk hd).2.2.2, fun k hk => by simp [Value.ownBlock] at hk, fun i h => by simp at h, hL, hn1, hn2, hl, hy, Fit.nil _⟩, hb.alloc hb.size _⟩
set_option maxHeartbeats 400000 in
set_option maxRecDepth 100000 in
theorem rlen_any {w : World} {S : Nat → Prop} {p n : Nat} {d : List Int} {ws : List Wr} (h : Ref w S p n d ws) : Calls Tryz.prog 25 #[.pointer (some ⟨p, 0, none⟩)] w fun e w' => e = .returned (.int .i64 n) ∧ w = w' := by
  obtain ⟨g, L, cap, v, vs, h⟩ := h
  have h0 := h.cell0
  have e1 : (L : Int) / 64 = (n : Int) := by have := h.hL; omega
  have hn2 := h.n2
  have hw : Go.RowKit.wrap64 (n : Int) = (n : Int) := by have := IntKind.wrap_i64 (n : Int); unfold Go.RowKit.wrap64; omega
  clear h
  go_enter Tryz.func25, Tryz.ntmps25
  go_wp2
  go_ret
  exact ⟨rfl, rfl⟩
end Go.Proofs.YtmcpjokbkkfgfaaGreatDoor

/-
  A law for a region that draws its order and ends in a store into a cell that it reads itself ('x.f = append(x.f, v)'): what holds ahead of the last operation L is asked ahead of L alone.
-/
namespace Go.Proofs.YtmcpjokbkkfgfaaGreatDoor
open Go.RowKit
section
variable {P : Program} {ops : Array Oper} {Q : Exit → Act → World → Prop} {md : Region.Mode} {S : World → Prop} {L : Nat}
/-- whatever order is picked; S holds behind every operation but L -/
def wpAnyL (P : Program) (md : Region.Mode) (ops : Array Oper) (Q : Exit → Act → World → Prop) (S : World → Prop) (L : Nat) : Nat → Array Bool → Act → World → Prop
  | 0, listed, a, w => Region.ready md ops listed = [] ∧ Q .normal a w
  | fuel + 1, listed, a, w =>
    (Region.ready md ops listed = [] → Q .normal a w) ∧
    ∀ i ∈ Region.ready md ops listed, wpOp P ops Q i (fun a' w' => (i ≠ L → S w') ∧ wpAnyL P md ops Q S L fuel (listed.setIfInBounds i true) a' w') a w
theorem wpAny_of_L : ∀ (fuel : Nat) (listed : Array Bool) (a : Act) (w : World), wpAnyL P md ops Q S L fuel listed a w → wpAny P md ops Q fuel listed a w
  | 0, _, _, _, h => h
  | fuel + 1, _, _, _, h => ⟨h.1, fun i hi => wpOp_mono (fun a' w' h' => wpAny_of_L fuel _ a' w' h'.2) (h.2 i hi)⟩
theorem wpAnyL_first {i : Nat} {oi : Oper} {v : Value} (hi : ops[i]? = some oi) (hsel : ∀ (j : Nat) (o : Oper) cs b, ops[j]? = some o → o.op ≠ .select cs b)
    (hQ : ∀ c a w, Q (.panic c) (a.put oi.dst v) w → Q (.panic c) a w) (hdep : ∀ o, ops[L]? = some o → ∃ e ∈ o.after, Region.binds md e = true ∧ e.on = i) :
    ∀ (fuel : Nat) (listed : Array Bool) (a : Act) (w : World),
      (∀ j oj, ops[j]? = some oj → j ≠ i → listed.getD j true = false → (∀ e ∈ oj.after, Region.binds md e = true → e.on ≠ i) → oi.apart ops oj = true) →
      i ∈ Region.ready md ops listed → YieldsIf P ops S oi v a → S w →
      wpAnyL P md ops Q S L fuel (listed.setIfInBounds i true) (a.put oi.dst v) w → wpAnyL P md ops Q S L (fuel + 1) listed a w := by
  intro fuel
  induction fuel with
  | zero =>
    intro listed a w _ hr hy hS H
    refine ⟨fun h => (by rw [h] at hr; cases hr), fun j hj => ?_⟩
    by_cases hji : j = i
    · subst hji; exact hy.wpOp hi hS ⟨fun _ => hS, H⟩
    · have := ready_mono hj hji
      rw [H.1] at this
      cases this
  | succ fuel ih =>
    intro listed a w hfree hr hy hS H
    refine ⟨fun h => (by rw [h] at hr; cases hr), fun j hj => ?_⟩
    by_cases hji : j = i
    · subst hji; exact hy.wpOp hi hS ⟨fun _ => hS, H⟩
    · have h1 := H.2 j (ready_mono hj hji)
      obtain ⟨hjun, oj, hoj, hall⟩ := mem_ready.1 hj
      have hnot : ∀ e ∈ oj.after, Region.binds md e = true → e.on ≠ i := fun e he hb heq => by
        have h1 := hall e he hb
        have h0 := (mem_ready.1 hr).1
        rw [heq] at h1
        rcases Nat.lt_or_ge i listed.size with h' | h'
        · simp [h'] at h0 h1; rw [h0] at h1; cases h1
        · simp [Array.getElem?_eq_none h'] at h1
      have hjL : j ≠ L := fun e => by
        subst e
        obtain ⟨e, he, hb, ho⟩ := hdep oj hoj
        exact hnot e he hb ho
      have h2 := wpOp_putIf hoj (hfree j oj hoj hji hjun hnot) (fun cs b => hsel i oi cs b hi) (fun cs b => hsel j oj cs b hoj) hQ hy h1
      have hfree' : ∀ k ok, ops[k]? = some ok → k ≠ i → (listed.setIfInBounds j true).getD k true = false →
          (∀ e ∈ ok.after, Region.binds md e = true → e.on ≠ i) → oi.apart ops ok = true := fun k ok hk hki hun hno => by
        refine hfree k ok hk hki ?_ hno
        by_cases hjk : j = k
        · subst hjk; exact hjun
        · rw [getD_set_ne true hjk] at hun; exact hun
      refine wpOp_mono (fun a' w' h3 => ⟨fun _ => h3.2.1 hjL, ih (listed.setIfInBounds j true) a' w' hfree' (ready_mono hr (Ne.symm hji)) h3.1 (h3.2.1 hjL) ?_⟩) h2
      rw [Array.setIfInBounds_comm _ _ hji]
      exact h3.2.2
/-- take number i first -/
theorem wpAnyL_take {i : Nat} {oi : Oper} {v : Value} {fuel : Nat} {listed : Array Bool} {a : Act} {w : World} (hi : ops[i]? = some oi)
    (hs : Region.noSelect ops = true) (hf : Region.free md ops listed i = true) (hr : (Region.ready md ops listed).contains i = true)
    (hd : (match ops[L]? with | some o => o.after.any (fun e => Region.binds md e && e.on == i) | none => true) = true)
    (hQ : ∀ c a w, Q (.panic c) (a.put oi.dst v) w → Q (.panic c) a w) (hy : YieldsIf P ops S oi v a) (hS : S w)
    (h : wpAnyL P md ops Q S L fuel (listed.setIfInBounds i true) (a.put oi.dst v) w) : wpAnyL P md ops Q S L (fuel + 1) listed a w :=
  wpAnyL_first hi (Region.noSelect_spec hs) hQ (fun o ho => by
    rw [ho] at hd
    obtain ⟨e, he, hb⟩ := Array.any_eq_true'.1 hd
    simp only [Bool.and_eq_true, beq_iff_eq] at hb
    exact ⟨e, he, hb.1, hb.2⟩) fuel listed a w (Region.free_spec hi hf) (by simpa using hr) hy hS h
def AllReadyL (P : Program) (md : Region.Mode) (ops : Array Oper) (Q : Exit → Act → World → Prop) (S : World → Prop) (L fuel : Nat) (listed : Array Bool) (a : Act) (w : World) (rs : List Nat) : Prop :=
  ∀ i ∈ rs, wpOp P ops Q i (fun a' w' => (i ≠ L → S w') ∧ wpAnyL P md ops Q S L fuel (listed.setIfInBounds i true) a' w') a w
theorem AllReadyL.nil {fuel : Nat} {listed : Array Bool} {a : Act} {w : World} : AllReadyL P md ops Q S L fuel listed a w [] := fun _ h => by cases h
theorem AllReadyL.cons {fuel : Nat} {listed : Array Bool} {a : Act} {w : World} {i : Nat} {o : Oper} {rs : List Nat} (ho : ops[i]? = some o)
    (h : ∀ K' : Act → World → Prop, Shut (∀ a w, (i ≠ L → S w) → wpAnyL P md ops Q S L fuel (listed.setIfInBounds i true) a w → K' a w) → if Region.wanted o (yielded ops a.tmps) = true then Oper.wp P o a w K' Q else K' (a.put o.dst undef) w)
    (hs : AllReadyL P md ops Q S L fuel listed a w rs) : AllReadyL P md ops Q S L fuel listed a w (i :: rs) := fun j hj => by
  rcases List.mem_cons.1 hj with rfl | hj
  · exact wpOp_step ho (fun K' hK => h K' (fun a w hS hW => hK a w ⟨hS, hW⟩))
  · exact hs j hj
theorem wpAnyL_ready {rs : List Nat} {fuel : Nat} {listed : Array Bool} {a : Act} {w : World} (hr : Region.ready md ops listed = rs) (hne : rs ≠ [])
    (h : AllReadyL P md ops Q S L fuel listed a w rs) : wpAnyL P md ops Q S L (fuel + 1) listed a w :=
  ⟨fun h0 => absurd (hr ▸ h0) hne, hr ▸ h⟩
theorem wpAnyL_done {listed : Array Bool} {a : Act} {w : World} (hr : Region.ready md ops listed = []) (h : Q .normal a w) :
    ∀ fuel, wpAnyL P md ops Q S L fuel listed a w
  | 0 => ⟨hr, h⟩
  | _ + 1 => ⟨fun _ => h, by rw [hr]; simp⟩
theorem wp_region_last {id : Nat} {a : Act} {w : World} (L : Nat) (S : World → Prop) (hm : P.follows .mixedOrders = true)
    (h : wpAnyL P .any ops Q S L ops.size (Array.replicate ops.size false) a w.drew) : (Code.region id ops true).wp P Q a w :=
  wp_region_any hm (wpAny_of_L _ _ _ _ h)
end
end Go.Proofs.YtmcpjokbkkfgfaaGreatDoor
