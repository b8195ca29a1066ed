/-
  Layer 9: disks: Crash.
-/
import Derived.Test.YtmcpjokbkkfgfaaGreatDoorT30
import Derived.Test.YtmcpjokbkkfgfaaGreatDoorT19
import Derived.Test.YtmcpjokbkkfgfaaGreatDoorT20
import Derived.Test.YtmcpjokbkkfgfaaGreatDoorT25
import Derived.Test.YtmcpjokbkkfgfaaGreatDoorT12
import Derived.Test.YtmcpjokbkkfgfaaGreatDoorT22
namespace Go.Proofs.YtmcpjokbkkfgfaaGreatDoor
open Go.RowKit


/-- three blocks are as they were -/
def Three (a b c : Nat) (w w' : World) : Prop := w'.heap[a]? = w.heap[a]? ∧ w'.heap[b]? = w.heap[b]? ∧ w'.heap[c]? = w.heap[c]?
theorem LD.disk {w w' : World} {S : Nat → Prop} {L p : Nat} {d d' : List Int} {ws ws' : List Wr} {g : Lg} (h : LD w S L p d ws g) (hd : Dsk w' (More (fun k => S k ∧ k ≠ L) w) p g.sz d' ws') (hk : Kept (fun k => S k ∧ k ≠ L) w w') : LD w' (More S w) L p d' ws' g ∧ Kept S w w' :=
  have hl := LAt.lt h.log
  ⟨⟨(hk.block L hl (fun c => c.2 rfl)).trans h.log, hd.mono (fun k _ hs => hs.elim (fun s => ⟨.inl s.1, s.2⟩) (fun s => ⟨.inr s, by omega⟩)), .inl h.sl, h.ok⟩, hk.mono (fun _ _ s => s.1)⟩
theorem RL.disk {w w' : World} {S : Nat → Prop} {L p : Nat} {d d' : List Int} {ws ws' : List Wr} {g : Lg} {b : Int} (h : RL w S L p d ws g b) (hd : Ref w' (More (fun k => S k ∧ k ≠ L) w) p g.sz d' ws') (hk : Kept (fun k => S k ∧ k ≠ L) w w') : RL w' (More S w) L p d' ws' g b ∧ Kept S w w' :=
  have hl := LAt.lt h.log
  ⟨⟨(hk.block L hl (fun c => c.2 rfl)).trans h.log, hd.mono (fun k _ hs => hs.elim (fun s => ⟨.inl s.1, s.2⟩) (fun s => ⟨.inr s, by omega⟩)), .inl h.sl, h.ok, h.bk⟩, hk.mono (fun _ _ s => s.1)⟩
/-- a sector written: the answer, what waits -/
def wrE (n : Nat) (i : Int) : Int := if i < 0 ∨ (n : Int) ≤ i then 40 else 0
def wrU (n : Nat) (ws : List Wr) (i : Int) (b : List Int) : List Wr := if i < 0 ∨ (n : Int) ≤ i then ws else ws ++ [⟨i.toNat, b⟩]
theorem wrU_length (n : Nat) (ws : List Wr) (i : Int) (b : List Int) : (wrU n ws i b).length ≤ ws.length + 1 := by unfold wrU; split <;> simp
theorem write64 {w : World} {S : Nat → Prop} {p n : Nat} {d : List Int} {ws : List Wr} (h : Dsk w S p n d ws) (i : Int) (a : Option Addr) (c : Nat) (b : List Int) (hb : BIn w a 64 b) (hk : ws.length ≤ 100000) : Calls Tryz.prog 46 #[.pointer (some ⟨p, 0, none⟩), .int .i64 i, .slice a 64 c] w fun e w' => e = .returned (.int .i64 (wrE n i)) ∧ Dsk w' (More S w) p n d (wrU n ws i b) ∧ Kept S w w' := by
  by_cases hi : i < 0 ∨ (n : Int) ≤ i
  · refine (write_bad h i _ hi).mono ?_
    rintro e w' ⟨rfl, rfl⟩
    unfold wrE wrU
    rw [if_pos hi, if_pos hi]
    exact ⟨rfl, h.mono (fun _ _ hs => .inl hs), Kept.refl _ _⟩
  · refine (write_at h i (by omega) (by omega) a c b hb hk).mono ?_
    rintro e w' ⟨rfl, hd, hk⟩
    unfold wrE wrU
    rw [if_neg hi, if_neg hi]
    exact ⟨rfl, hd, hk⟩
theorem rwrite64 {w : World} {S : Nat → Prop} {p n : Nat} {d : List Int} {ws : List Wr} (h : Ref w S p n d ws) (i : Int) (a : Option Addr) (c : Nat) (b : List Int) (hb : BIn w a 64 b) (hk : ws.length ≤ 100000) : Calls Tryz.prog 63 #[.pointer (some ⟨p, 0, none⟩), .int .i64 i, .slice a 64 c] w fun e w' => e = .returned (.int .i64 (wrE n i)) ∧ Ref w' (More S w) p n d (wrU n ws i b) ∧ Kept S w w' := by
  by_cases hi : i < 0 ∨ (n : Int) ≤ i
  · refine (rwrite_bad h i _ hi).mono ?_
    rintro e w' ⟨rfl, rfl⟩
    unfold wrE wrU
    rw [if_pos hi, if_pos hi]
    exact ⟨rfl, h.mono (fun _ _ hs => .inl hs), Kept.refl _ _⟩
  · refine (rwrite_at h i (by omega) (by omega) a c b hb hk).mono ?_
    rintro e w' ⟨rfl, hd, hk⟩
    unfold wrE wrU
    rw [if_neg hi, if_neg hi]
    exact ⟨rfl, hd, hk⟩
/-- 'append(s, x...)', s the call's own and not nil, x whatever -/
theorem wpList_append_some {P : Program} (w : World) {ops : Array Oper} {rest : List Oper} {o : Oper} {a : Act} {Q : Exit → Act → World → Prop} (hgd : o.guard = none) (s x : Operand) (t : TypeId)
    (ho : o.op = .call { callee := .builtin .append, args := #[s, x], argTypes := #[t, t] })
    (base : Nat) (e : TypeId) (i : TypeInfo) (z : Value) (size bytes : Nat) (ht : P.underlying t = some (.slice e)) (hi : P.info? e = some i) (hz : i.zero = some z)
    (hsize : i.size = size) (hby : i.bytes = bytes) (hzs : z.cells.size = size) (hsz : 0 < size)
    (g0 n c0 : Nat) (xs : List Value) (hs : a.eval s = .slice (some ⟨g0, 0, none⟩) n c0) (hown : w.ownsRow base e size (.slice (some ⟨g0, 0, none⟩) n c0) n xs)
    (ao : Option Addr) (m c : Nat) (news : List Value) (hx : a.eval x = .slice ao m c) (hnone : ao = none → m = 0 ∧ c = 0) (hl : news.length = m * size) (hnews : ∀ ad, ao = some ad → ∀ j u, news[j]? = some u → w.cell? (ad.add j) = some u) (h1 : ∀ u ∈ news, u.oneCell' = true)
    (h63 : n + m ≤ maxLen) (hbytes : (n + m) * bytes ≤ 140737488355328) (hbase : base ≤ w.heap.size)
    (h : ∀ g cap w', w'.ownsRow base e size (.slice (some ⟨g, 0, none⟩) (n + m) cap) (n + m) (xs ++ news) → w.grownBy w' (some g0) → wpList P ops Q rest (a.put o.dst (.slice (some ⟨g, 0, none⟩) (n + m) cap)) w') : wpList P ops Q (o :: rest) a w := by
  cases ao with
  | some ad =>
    refine wpList_append_own w hgd s x t ho base e i z size bytes ht hi hz hsize hby hzs hsz _ n xs hs hown ad m c news hx hl (hnews ad rfl) h1 h63 hbytes hbase fun v' w' h2 h3 h4 => ?_
    obtain ⟨p, cap, rfl, hn, hsm⟩ := own_slice h2
    cases p with
    | none =>
      have hc := (hn rfl).2
      have hm := (hn rfl).1
      rw [hm] at h4
      subst hc
      have := h4.1 rfl
      simp at this
    | some ad' =>
      obtain ⟨g, rfl⟩ := hsm ad' rfl
      exact h g cap w' h2 h3
  | none =>
    obtain ⟨rfl, rfl⟩ := hnone rfl
    obtain rfl : news = [] := List.eq_nil_of_length_eq_zero (by simpa using hl)
    exact wpList_append_own_none hgd s x t ho base e i size ht hi _ n xs hs hown hx (h g0 c0 w (by simpa using hown) (World.grownBy.refl _ _))

theorem JIn.kept0 {w w' : World} {S : Nat → Prop} {p : Option Addr} {n : Nat} {xs : List Int} (h : JIn w p n xs) (hk : Kept S w w') (hs : ∀ a, p = some a → 0 < n → ¬ S a.block) : JIn w' p n xs := by
  by_cases h0 : 0 < n
  · exact h.kept hk (fun a ea => hs a ea h0)
  · exact ⟨h.len, fun c => absurd c h0⟩
set_option maxHeartbeats 8000000 in
set_option maxRecDepth 100000 in
theorem disk_crash {w : World} {B P M k i : Nat} (h : Sq w B P M k) (hi : i < M) (hk : k ≤ 1000) (wh b : Int) (v : List Int) (hv : v.length = 32) (pos : Int) (pk : Option Addr) (lk ck : Nat) (ys : List Int) (hj : JIn w pk lk ys) (hkB : ∀ a, pk = some a → 0 < lk → a.block < B) (hkb : lk ≤ 140737488355328) (data : Value) :
    Calls Tryz.prog 36 #[.pointer (some ⟨P, 0, none⟩), .int .i64 i, .agg (ocells 10 wh b v pos (.slice pk lk ck) data).toArray] w fun r w' => r = .returned (.bool true) ∧ Sq w' B P M (k + 1) ∧ Below B w w' := by
  obtain ⟨⟨R, L, x, K, y, e, bo, hW, hl, hB⟩, ht, hb1⟩ := h
  have hm2 := hW.m2
  obtain ⟨w0, hw0⟩ : ∃ x, x = w.alloc (.cells (ocells 10 wh b v pos (.slice pk lk ck) data).toArray 53) := ⟨_, rfl⟩
  have ew := hw0.symm
  have b0 : Below w.heap.size w w0 := by rw [hw0]; exact below_alloc w _
  have O0 : OAt w0 w.heap.size 10 wh b v pos (.slice pk lk ck) data := by rw [hw0]; exact LAt.new 53 w _
  have HW0 : Hid (Wd w0 R B P M L x K y e e bo) := hW.later b0
  have HB0 : Hid (Below w.heap.size w w0) := b0
  have HBB : Hid (B ≤ w.heap.size) := hB
  have HT : Hid (Tab w) := ht
  have H1 : Hid (1 < B) := hb1
  have HL : Hid (∀ i, i < M → (e i).ws.length ≤ k) := hl
  have HR0 : Hid (R w.heap.size = 0 ∧ R P = 5 ∧ (∀ k, w.heap.size ≤ k → R k = 0) ∧ (∀ k, k < B → R k = 0)) := ⟨hW.hi _ (Nat.le_refl _), hW.rp, hW.hi, hW.lo⟩
  have hle : (e i).ws.length ≤ 100000 := by have := hl i hi; omega
  have i0 : (0 : Int) ≤ (i : Int) := by omega
  have i2 : (i : Int) < 2 := by omega
  have HO0 : Hid (OAt w0 w.heap.size 10 wh b v pos (.slice pk lk ck) data) := O0
  have HV : Hid (v.length = 32) := hv
  have ckd := OAt.kind O0
  have c1 := HW0.out.cd i hi
  have ckp := OAt.keep O0 hv
  have HJ0 : Hid (JIn w0 pk lk ys) := hj.later b0
  clear hw0 hW hl ht hB b0 O0 hv hj
  go_enter Tryz.func36, Tryz.ntmps36
  go_wp2_with fail
  clear ew ckd
  refine wp_region_noPanic ?_
  refine wp_region_held_drew (S := fun w' => Three P w.heap.size (K i) w0 w') (by kernel_rfl) ⟨rfl, rfl, rfl⟩ (fun hHeld => ?_)
  have HWd : Hid (Wd w0.drew R B P M L x K y e e bo) := HW0.out.later (below_drawn 1)
  have HOd : Hid (OAt w0.drew w.heap.size 10 wh b v pos (.slice pk lk ck) data) := HO0.out
  have HJd : Hid (JIn w0.drew pk lk ys) := HJ0.out.later (below_drawn 1)
  have HBd : Hid (Below w.heap.size w w0.drew) := below_then HB0.out (below_drawn 1)
  have HTd : Hid (Tab w0.drew) := HT.out.later HBd.out
  have HLo : Hid (w.heap.size < w0.drew.heap.size) := LAt.lt HOd.out
  have HLe : Hid (B ≤ w0.drew.heap.size) := Nat.le_trans HBB.out HBd.out.size
  clear HW0 HO0 HJ0 HB0
  generalize w0.drew = wd at *
  refine wpAnyH_take (i := 0) (v := ?va1) (by simp; rfl) (by kernel_rfl) (by kernel_rfl) (by kernel_rfl) (fun _ _ _ h => h) (Or.inl ⟨by rfl, ?ya1⟩) hHeld ?ra1
  case ya1 => intro w hSw; clear hSw; go_simp; with_reducible rfl
  simp only [Act.put, List.setIfInBounds_toArray, List.set_cons_zero, List.set_cons_succ]
  refine wpAnyH_take (i := 1) (v := ?va2) (by simp; rfl) (by kernel_rfl) (by kernel_rfl) (by kernel_rfl) (fun _ _ _ h => h) (Or.inl ⟨by rfl, ?ya2⟩) hHeld ?ra2
  case ya2 => intro w hSw; clear hSw; go_simp; with_reducible rfl
  simp only [Act.put, List.setIfInBounds_toArray, List.set_cons_zero, List.set_cons_succ]
  refine wpAnyH_take (i := 2) (v := ?va3) (by simp; rfl) (by kernel_rfl) (by kernel_rfl) (by kernel_rfl) (fun _ _ _ h => h) (Or.inl ⟨by rfl, ?ya3⟩) hHeld ?ra3
  case ya3 => intro w hSw; clear hSw; go_simp; with_reducible rfl
  simp only [Act.put, List.setIfInBounds_toArray, List.set_cons_zero, List.set_cons_succ]
  refine wpAnyH_take (i := 3) (v := ?va4) (by simp; rfl) (by kernel_rfl) (by kernel_rfl) (by kernel_rfl) (fun _ _ _ h => h) (Or.inl ⟨by rfl, ?ya4⟩) hHeld ?ra4
  case ya4 => intro w hSw; clear hSw; go_simp; with_reducible rfl
  simp only [Act.put, List.setIfInBounds_toArray, List.set_cons_zero, List.set_cons_succ]
  refine wpAnyH_take (i := 4) (v := ?va5) (by simp; rfl) (by kernel_rfl) (by kernel_rfl) (by kernel_rfl) (fun _ _ _ h => h) (Or.inl ⟨by rfl, ?ya5⟩) hHeld ?ra5
  case ya5 => intro w hSw; clear hSw; go_simp; with_reducible rfl
  simp only [Act.put, List.setIfInBounds_toArray, List.set_cons_zero, List.set_cons_succ]
  refine wpAnyH_take (i := 5) (v := ?va6) (by simp; rfl) (by kernel_rfl) (by kernel_rfl) (by kernel_rfl) (fun _ _ _ h => h) (Or.inl ⟨by rfl, ?ya6⟩) hHeld ?ra6
  case ya6 => intro w hSw; have z := (cell_same hSw.1).trans c1; clear hSw; go_simp; with_reducible rfl
  simp only [Act.put, List.setIfInBounds_toArray, List.set_cons_zero, List.set_cons_succ]
  refine wpAnyH_take (i := 6) (v := ?va7) (by simp; rfl) (by kernel_rfl) (by kernel_rfl) (by kernel_rfl) (fun _ _ _ h => h) (Or.inl ⟨by rfl, ?ya7⟩) hHeld ?ra7
  case ya7 => intro w hSw; clear hSw; go_simp; with_reducible rfl
  simp only [Act.put, List.setIfInBounds_toArray, List.set_cons_zero, List.set_cons_succ]
  refine wpAnyH_take (i := 7) (v := ?va8) (by simp; rfl) (by kernel_rfl) (by kernel_rfl) (by kernel_rfl) (fun _ _ _ h => h) (Or.inl ⟨by rfl, ?ya8⟩) hHeld ?ra8
  case ya8 => intro w hSw; have z := (cell_same hSw.2.1).trans ckp; clear hSw; go_simp; with_reducible rfl
  simp only [Act.put, List.setIfInBounds_toArray, List.set_cons_zero, List.set_cons_succ]
  refine wpAnyH_ready (rs := [8]) (by kernel_rfl) (by simp) ?_
  refine AllReadyH.cons (by simp; rfl) (fun Kc hKc => ?_) AllReadyH.nil
  go_simp
  refine (crash_any (HWd.out.ls i hi).dsk hle pk lk ck ys HJd.out hkb).mono ?_
  rintro e1 w1 ⟨rfl, hd1, hk1⟩
  obtain ⟨hl1, hq1⟩ := (HWd.out.ls i hi).disk (hd1.mono (fun _ _ s => .inl s)) hk1
  have sp : w1.heap[P]? = wd.heap[P]? := hq1.block P HWd.out.blk.lt (by rw [HR0.out.2.1]; omega)
  have so : w1.heap[w.heap.size]? = wd.heap[w.heap.size]? := hq1.block _ (LAt.lt HOd.out) (by rw [HR0.out.1]; omega)
  have sk : w1.heap[K i]? = wd.heap[K i]? := hq1.block _ (LAt.lt (HWd.out.rs i hi).log) (by have h3 := (HWd.out.rs i hi).sl; have : R (K i) = 3 + i := h3; omega)
  have HK1 : Hid (Kept (fun k => R k = 1 + i) wd w1) := hq1
  have HD1 : Hid (LS w1 (More (fun k => R k = 1 + i) wd) (L i) (x i) ⟨settle (keepsK ys) (e i).ws (e i).d, [], (e i).g⟩) := hl1
  have HO1 : Hid (OAt w1 w.heap.size 10 wh b v pos (.slice pk lk ck) data) := so.trans HOd.out
  have HJ1 : Hid (JIn w1 pk lk ys) := HJd.out.kept0 hq1 (fun a ea h0 => by have := HR0.out.2.2.2 _ (hkB a ea h0); omega)
  clear hd1 hk1 hl1 hq1 HJd HOd
  refine hKc.out _ _ ⟨sp.trans hHeld.1, so.trans hHeld.2.1, sk.trans hHeld.2.2⟩ (fun hHeld => ?_)
  clear hKc Kc sp so sk
  refine wpAnyH_take (i := 9) (v := ?va9) (by simp; rfl) (by kernel_rfl) (by kernel_rfl) (by kernel_rfl) (fun _ _ _ h => h) (Or.inl ⟨by rfl, ?ya9⟩) hHeld ?ra9
  case ya9 => intro w hSw; clear hSw; go_simp; with_reducible rfl
  simp only [Act.put, List.setIfInBounds_toArray, List.set_cons_zero, List.set_cons_succ]
  refine wpAnyH_take (i := 10) (v := ?va10) (by simp; rfl) (by kernel_rfl) (by kernel_rfl) (by kernel_rfl) (fun _ _ _ h => h) (Or.inl ⟨by rfl, ?ya10⟩) hHeld ?ra10
  case ya10 => intro w hSw; clear hSw; go_simp; with_reducible rfl
  simp only [Act.put, List.setIfInBounds_toArray, List.set_cons_zero, List.set_cons_succ]
  refine wpAnyH_take (i := 11) (v := ?va11) (by simp; rfl) (by kernel_rfl) (by kernel_rfl) (by kernel_rfl) (fun _ _ _ h => h) (Or.inl ⟨by rfl, ?ya11⟩) hHeld ?ra11
  case ya11 => intro w hSw; clear hSw; go_simp; with_reducible rfl
  simp only [Act.put, List.setIfInBounds_toArray, List.set_cons_zero, List.set_cons_succ]
  refine wpAnyH_take (i := 12) (v := ?va12) (by simp; rfl) (by kernel_rfl) (by kernel_rfl) (by kernel_rfl) (fun _ _ _ h => h) (Or.inl ⟨by rfl, ?ya12⟩) hHeld ?ra12
  case ya12 => intro w hSw; clear hSw; go_simp; with_reducible rfl
  simp only [Act.put, List.setIfInBounds_toArray, List.set_cons_zero, List.set_cons_succ]
  refine wpAnyH_take (i := 13) (v := ?va13) (by simp; rfl) (by kernel_rfl) (by kernel_rfl) (by kernel_rfl) (fun _ _ _ h => h) (Or.inl ⟨by rfl, ?ya13⟩) hHeld ?ra13
  case ya13 => intro w hSw; clear hSw; go_simp; with_reducible rfl
  simp only [Act.put, List.setIfInBounds_toArray, List.set_cons_zero, List.set_cons_succ]
  clear hHeld
  refine wpAnyH_done (by kernel_rfl) (NoPanic.normal ?_) _
  clear c1 ckp
  have c2 := (HWd.out.setL hi HK1.out HD1.out HLe.out).cr i hi
  have c3 := HAt.c0 ((HWd.out.setL hi HK1.out HD1.out HLe.out).rs i hi).log
  have ckp := OAt.keep HO1.out HV.out
  go_wp2_with fail
  refine wp_region_noPanic ?_
  refine wp_region_held_drew (S := fun w' => Three P w.heap.size (K i) w1 w') (by kernel_rfl) ⟨rfl, rfl, rfl⟩ (fun hHeld => ?_)
  have HK2 : Hid (Kept (fun k => R k = 1 + i) wd w1.drew) := HK1.out.drew
  have HD2 : Hid (LS w1.drew (More (fun k => R k = 1 + i) wd) (L i) (x i) ⟨settle (keepsK ys) (e i).ws (e i).d, [], (e i).g⟩) := LD.later HD1.out (below_drawn 1)
  have G1 : Hid (_) := HWd.out.setL hi HK2.out HD2.out HLe.out
  have HO2 : Hid (OAt w1.drew w.heap.size 10 wh b v pos (.slice pk lk ck) data) := HO1.out
  have HJ2 : Hid (JIn w1.drew pk lk ys) := HJ1.out.later (below_drawn 1)
  have HR2 : Hid (up R wd.heap.size w1.drew.heap.size (1 + i) w.heap.size = 0) := by show _ = _; rw [up_lo HLo.out]; exact HR0.out.1
  clear HK1 HD1 HO1 HJ1
  generalize w1.drew = wf at *
  refine wpAnyH_take (i := 0) (v := ?va14) (by simp; rfl) (by kernel_rfl) (by kernel_rfl) (by kernel_rfl) (fun _ _ _ h => h) (Or.inl ⟨by rfl, ?ya14⟩) hHeld ?ra14
  case ya14 => intro w hSw; clear hSw; go_simp; with_reducible rfl
  simp only [Act.put, List.setIfInBounds_toArray, List.set_cons_zero, List.set_cons_succ]
  refine wpAnyH_take (i := 1) (v := ?va15) (by simp; rfl) (by kernel_rfl) (by kernel_rfl) (by kernel_rfl) (fun _ _ _ h => h) (Or.inl ⟨by rfl, ?ya15⟩) hHeld ?ra15
  case ya15 => intro w hSw; clear hSw; go_simp; with_reducible rfl
  simp only [Act.put, List.setIfInBounds_toArray, List.set_cons_zero, List.set_cons_succ]
  refine wpAnyH_take (i := 2) (v := ?va16) (by simp; rfl) (by kernel_rfl) (by kernel_rfl) (by kernel_rfl) (fun _ _ _ h => h) (Or.inl ⟨by rfl, ?ya16⟩) hHeld ?ra16
  case ya16 => intro w hSw; clear hSw; go_simp; with_reducible rfl
  simp only [Act.put, List.setIfInBounds_toArray, List.set_cons_zero, List.set_cons_succ]
  refine wpAnyH_take (i := 3) (v := ?va17) (by simp; rfl) (by kernel_rfl) (by kernel_rfl) (by kernel_rfl) (fun _ _ _ h => h) (Or.inl ⟨by rfl, ?ya17⟩) hHeld ?ra17
  case ya17 => intro w hSw; clear hSw; go_simp; with_reducible rfl
  simp only [Act.put, List.setIfInBounds_toArray, List.set_cons_zero, List.set_cons_succ]
  refine wpAnyH_take (i := 4) (v := ?va18) (by simp; rfl) (by kernel_rfl) (by kernel_rfl) (by kernel_rfl) (fun _ _ _ h => h) (Or.inl ⟨by rfl, ?ya18⟩) hHeld ?ra18
  case ya18 => intro w hSw; clear hSw; go_simp; with_reducible rfl
  simp only [Act.put, List.setIfInBounds_toArray, List.set_cons_zero, List.set_cons_succ]
  refine wpAnyH_take (i := 5) (v := ?va19) (by simp; rfl) (by kernel_rfl) (by kernel_rfl) (by kernel_rfl) (fun _ _ _ h => h) (Or.inl ⟨by rfl, ?ya19⟩) hHeld ?ra19
  case ya19 => intro w hSw; clear hSw; go_simp; with_reducible rfl
  simp only [Act.put, List.setIfInBounds_toArray, List.set_cons_zero, List.set_cons_succ]
  refine wpAnyH_take (i := 6) (v := ?va20) (by simp; rfl) (by kernel_rfl) (by kernel_rfl) (by kernel_rfl) (fun _ _ _ h => h) (Or.inl ⟨by rfl, ?ya20⟩) hHeld ?ra20
  case ya20 => intro w hSw; clear hSw; go_simp; with_reducible rfl
  simp only [Act.put, List.setIfInBounds_toArray, List.set_cons_zero, List.set_cons_succ]
  refine wpAnyH_take (i := 7) (v := ?va21) (by simp; rfl) (by kernel_rfl) (by kernel_rfl) (by kernel_rfl) (fun _ _ _ h => h) (Or.inl ⟨by rfl, ?ya21⟩) hHeld ?ra21
  case ya21 => intro w hSw; clear hSw; go_simp; with_reducible rfl
  simp only [Act.put, List.setIfInBounds_toArray, List.set_cons_zero, List.set_cons_succ]
  refine wpAnyH_take (i := 8) (v := ?va22) (by simp; rfl) (by kernel_rfl) (by kernel_rfl) (by kernel_rfl) (fun _ _ _ h => h) (Or.inl ⟨by rfl, ?ya22⟩) hHeld ?ra22
  case ya22 => intro w hSw; clear hSw; go_simp; with_reducible rfl
  simp only [Act.put, List.setIfInBounds_toArray, List.set_cons_zero, List.set_cons_succ]
  refine wpAnyH_take (i := 9) (v := ?va23) (by simp; rfl) (by kernel_rfl) (by kernel_rfl) (by kernel_rfl) (fun _ _ _ h => h) (Or.inl ⟨by rfl, ?ya23⟩) hHeld ?ra23
  case ya23 => intro w hSw; have z := (cell_same hSw.1).trans c2; clear hSw; go_simp; with_reducible rfl
  simp only [Act.put, List.setIfInBounds_toArray, List.set_cons_zero, List.set_cons_succ]
  refine wpAnyH_take (i := 10) (v := ?va24) (by simp; rfl) (by kernel_rfl) (by kernel_rfl) (by kernel_rfl) (fun _ _ _ h => h) (Or.inl ⟨by rfl, ?ya24⟩) hHeld ?ra24
  case ya24 => intro w hSw; clear hSw; go_simp; with_reducible rfl
  simp only [Act.put, List.setIfInBounds_toArray, List.set_cons_zero, List.set_cons_succ]
  refine wpAnyH_take (i := 11) (v := ?va25) (by simp; rfl) (by kernel_rfl) (by kernel_rfl) (by kernel_rfl) (fun _ _ _ h => h) (Or.inl ⟨by rfl, ?ya25⟩) hHeld ?ra25
  case ya25 => intro w hSw; clear hSw; go_simp; with_reducible rfl
  simp only [Act.put, List.setIfInBounds_toArray, List.set_cons_zero, List.set_cons_succ]
  refine wpAnyH_take (i := 12) (v := ?va26) (by simp; rfl) (by kernel_rfl) (by kernel_rfl) (by kernel_rfl) (fun _ _ _ h => h) (Or.inl ⟨by rfl, ?ya26⟩) hHeld ?ra26
  case ya26 => intro w hSw; have z := (cell_same hSw.2.2).trans c3; clear hSw; go_simp; with_reducible rfl
  simp only [Act.put, List.setIfInBounds_toArray, List.set_cons_zero, List.set_cons_succ]
  refine wpAnyH_take (i := 13) (v := ?va27) (by simp; rfl) (by kernel_rfl) (by kernel_rfl) (by kernel_rfl) (fun _ _ _ h => h) (Or.inl ⟨by rfl, ?ya27⟩) hHeld ?ra27
  case ya27 => intro w hSw; clear hSw; go_simp; with_reducible rfl
  simp only [Act.put, List.setIfInBounds_toArray, List.set_cons_zero, List.set_cons_succ]
  refine wpAnyH_take (i := 14) (v := ?va28) (by simp; rfl) (by kernel_rfl) (by kernel_rfl) (by kernel_rfl) (fun _ _ _ h => h) (Or.inl ⟨by rfl, ?ya28⟩) hHeld ?ra28
  case ya28 => intro w hSw; have z := (cell_same hSw.2.1).trans ckp; clear hSw; go_simp; with_reducible rfl
  simp only [Act.put, List.setIfInBounds_toArray, List.set_cons_zero, List.set_cons_succ]
  refine wpAnyH_ready (rs := [15]) (by kernel_rfl) (by simp) ?_
  refine AllReadyH.cons (by simp; rfl) (fun Kc hKc => ?_) AllReadyH.nil
  go_simp
  refine (rcrash_any (G1.out.rs i hi).dsk hle pk lk ck ys HJ2.out (fun a ea h0 c => by have := G1.out.lo _ (hkB a ea h0); have := c.1; omega) hkb).mono ?_
  rintro e2 w2 ⟨rfl, hd2, hk2⟩
  obtain ⟨hl2, hq2⟩ := (G1.out.rs i hi).disk (hd2.mono (fun _ _ s => .inl s)) hk2
  have sp : w2.heap[P]? = wf.heap[P]? := hq2.block P G1.out.blk.lt (by rw [G1.out.rp]; omega)
  have so : w2.heap[w.heap.size]? = wf.heap[w.heap.size]? := hk2.block _ (LAt.lt HO2.out) (fun c => by have h0 : _ = _ := c.1; rw [HR2.out] at h0; omega)
  have sk : w2.heap[K i]? = wf.heap[K i]? := hk2.block _ (LAt.lt (G1.out.rs i hi).log) (fun c => c.2 rfl)
  have HF : Hid (Sq w2 B P M (k + 1) ∧ Below B wd w2) := HWd.out.step hi HL.out HLe.out HTd.out H1.out (E := ⟨settle (keepsK ys) (e i).ws (e i).d, [], (e i).g⟩) (b := bo i) HK2.out HD2.out hq2 hl2 (Nat.zero_le _)
  clear hd2 hk2 hl2 hq2 G1 HJ2 HO2
  refine hKc.out _ _ ⟨sp.trans hHeld.1, so.trans hHeld.2.1, sk.trans hHeld.2.2⟩ (fun hHeld => ?_)
  clear hKc Kc sp so sk
  refine wpAnyH_take (i := 16) (v := ?va29) (by simp; rfl) (by kernel_rfl) (by kernel_rfl) (by kernel_rfl) (fun _ _ _ h => h) (Or.inl ⟨by rfl, ?ya29⟩) hHeld ?ra29
  case ya29 => intro w hSw; clear hSw; go_simp; with_reducible rfl
  simp only [Act.put, List.setIfInBounds_toArray, List.set_cons_zero, List.set_cons_succ]
  refine wpAnyH_take (i := 17) (v := ?va30) (by simp; rfl) (by kernel_rfl) (by kernel_rfl) (by kernel_rfl) (fun _ _ _ h => h) (Or.inl ⟨by rfl, ?ya30⟩) hHeld ?ra30
  case ya30 => intro w hSw; clear hSw; go_simp; with_reducible rfl
  simp only [Act.put, List.setIfInBounds_toArray, List.set_cons_zero, List.set_cons_succ]
  refine wpAnyH_take (i := 18) (v := ?va31) (by simp; rfl) (by kernel_rfl) (by kernel_rfl) (by kernel_rfl) (fun _ _ _ h => h) (Or.inl ⟨by rfl, ?ya31⟩) hHeld ?ra31
  case ya31 => intro w hSw; clear hSw; go_simp; with_reducible rfl
  simp only [Act.put, List.setIfInBounds_toArray, List.set_cons_zero, List.set_cons_succ]
  clear hHeld
  refine wpAnyH_done (by kernel_rfl) (NoPanic.normal ?_) _
  go_wp2_with fail
  go_ret
  exact ⟨rfl, HF.out.1, below_of HBd.out HBB.out HF.out.2⟩
end Go.Proofs.YtmcpjokbkkfgfaaGreatDoor

/-
  Layer 9: disks: Write.
-/
namespace Go.Proofs.YtmcpjokbkkfgfaaGreatDoor
open Go.RowKit

set_option maxHeartbeats 8000000 in
set_option maxRecDepth 100000 in
theorem disk_write {w : World} {B P M k i : Nat} (h : Sq w B P M k) (hi : i < M) (hk : k ≤ 1000) (wh b : Int) (v : List Int) (hv : v.length = 32) (pos : Int) (pd : Option Addr) (ld cd : Nat) (xs : List Int) (hx : BIn w pd ld xs) (hdn : pd = none → ld = 0 ∧ cd = 0) (hdb : ld + 64 ≤ 140737488355328) (keep : Value) :
    Calls Tryz.prog 36 #[.pointer (some ⟨P, 0, none⟩), .int .i64 i, .agg (ocells 11 wh b v pos keep (.slice pd ld cd)).toArray] w fun r w' => r = .returned (.bool true) ∧ Sq w' B P M (k + 1) ∧ Below B w w' := by
  obtain ⟨j0, hj, hz0, hz1, hz2⟩ := info_parts info5
  obtain ⟨⟨R, L, x, K, y, e, bo, hW, hl, hB⟩, ht, hb1⟩ := h
  have hm2 := hW.m2
  obtain ⟨w0, hw0⟩ : ∃ x, x = w.alloc (.cells (ocells 11 wh b v pos keep (.slice pd ld cd)).toArray 53) := ⟨_, rfl⟩
  have ew := hw0.symm
  have b0 : Below w.heap.size w w0 := by rw [hw0]; exact below_alloc w _
  have O0 : OAt w0 w.heap.size 11 wh b v pos keep (.slice pd ld cd) := by rw [hw0]; exact LAt.new 53 w _
  have HW0 : Hid (Wd w0 R B P M L x K y e e bo) := hW.later b0
  have HB0 : Hid (Below w.heap.size w w0) := b0
  have HBB : Hid (B ≤ w.heap.size) := hB
  have HT : Hid (Tab w) := ht
  have H1 : Hid (1 < B) := hb1
  have HL : Hid (∀ i, i < M → (e i).ws.length ≤ k) := hl
  have HR0 : Hid (R w.heap.size = 0 ∧ R P = 5 ∧ (∀ k, w.heap.size ≤ k → R k = 0) ∧ (∀ k, k < B → R k = 0)) := ⟨hW.hi _ (Nat.le_refl _), hW.rp, hW.hi, hW.lo⟩
  have hle : (e i).ws.length ≤ 100000 := by have := hl i hi; omega
  have i0 : (0 : Int) ≤ (i : Int) := by omega
  have i2 : (i : Int) < 2 := by omega
  have HO0 : Hid (OAt w0 w.heap.size 11 wh b v pos keep (.slice pd ld cd)) := O0
  have HV : Hid (v.length = 32) := hv
  have ckd := OAt.kind O0
  have HX0 : Hid (BIn (w0.alloc (.cells #[] 5)) pd ld xs) := (hx.later b0).later (below_alloc _ _)
  have HXN : Hid (∀ ad, pd = some ad → ∀ j u, (U8 xs)[j]? = some u → (w0.alloc (.cells #[] 5)).cell? (ad.add j) = some u) := fun ad ea => by
    have h := HX0.out; rw [ea] at h; exact h.news
  have HXL : Hid ((U8 xs).length = ld * 1) := by show _ = _; rw [U8_length, hx.len]; omega
  have HXB : Hid (Bytes xs) := hx.byte
  have B00 : Hid (Below w.heap.size w (w0.alloc (.cells #[] 5))) := below_then b0 (below_alloc _ _)
  have HE0 : Hid ((w0.alloc (.cells #[] 5)).ownsRow w0.heap.size 5 1 (.slice (some ⟨w0.heap.size, 0, none⟩) 0 0) 0 []) := World.ownsRow_made w0 #[] 0 (Nat.le_refl _) (Nat.zero_le _) rfl
  have cdt : (w0.alloc (.cells #[] 5)).cell? ⟨w.heap.size, 37, none⟩ = some (.slice pd ld cd) := OAt.data (LAt.later O0 (below_alloc _ _)) hv
  have HSZ : Hid (w0.heap.size = w.heap.size + 1) := (by rw [hw0]; simp : w0.heap.size = w.heap.size + 1)
  clear hw0 hW hl ht hB b0 O0 hv hx
  go_enter Tryz.func36, Tryz.ntmps36
  go_wp2_with (at_builtin; refine wpList_append_some _ rfl (.tmp 44) (.tmp 46) 51 rfl w0.heap.size 5 j0 (.int .u8 0) 1 1 Tryz.underlying51 hj hz0 hz1 hz2 rfl (by decide) w0.heap.size 0 0 [] rfl HE0.out pd ld cd (U8 xs) rfl hdn HXL.out HXN.out (ones_u8 _) (by unfold maxLen; omega) (by omega) (by simp) ?_)
  intro g5 c5 w5 hown5 hgrow5
  try simp only [Nat.zero_add, List.nil_append] at hown5
  try simp only [Nat.zero_add]
  have HO5 : Hid (w5.ownsRow w0.heap.size 5 1 (.slice (some ⟨g5, 0, none⟩) ld c5) ld (U8 xs)) := hown5
  have HB5 : Hid (Below w0.heap.size w0 w5) := ((Below.refl _ _).alloc (Nat.le_refl _) _).grown hgrow5 (by simp) (fun k hk => by cases hk; exact Nat.le_refl _)
  clear hown5 hgrow5 HE0 HX0 HXN HXL B00 cdt ew ckd
  go_wp2_with (at_builtin; refine wpList_append_zeros_own _ rfl (.tmp 47) _ 51 3 rfl w0.heap.size 5 j0 (.int .u8 0) 1 .i64 .i64 Tryz.underlying51 Tryz.underlying3 hj hz0 hz1 hz2 rfl rfl g5 ld c5 (U8 xs) rfl HO5.out 64 rfl (by omega) (by unfold maxLen; omega) (by omega) HB5.out.size ?_)
  intro v9 w9 hown9 hgrow9
  obtain ⟨g9, c9, rfl, hc9⟩ := own_shape hown9 (by omega)
  have HB9 : Hid (Below w0.heap.size w0 w9) := HB5.out.grown hgrow9 HB5.out.size (fun k hk => by cases hk; exact (HO5.out.lt _ rfl).1)
  have HG9 : Hid (w.heap.size ≤ g9) := by have := (hown9.lt g9 rfl).1; have := HSZ.out; show _ ≤ _; omega
  have HY9 : Hid (BIn w9 (some ⟨g9, 0, none⟩) 64 ((xs ++ List.replicate 64 0).take 64)) := by
    refine BIn.take (n := ld + 64) (own_bin (base := w0.heap.size) (cap := c9) ?_ (HXB.out.append (fun q hq => by rw [List.eq_of_mem_replicate hq]; decide))) 64 (by omega)
    rw [show U8 (xs ++ List.replicate 64 0) = U8 xs ++ List.replicate 64 (Value.int .u8 0) by simp [U8]]
    exact hown9
  generalize (xs ++ List.replicate 64 0).take 64 = bs at *
  clear hown9 hgrow9 HO5 HB5 HXB
  have HWn : Hid (Wd w9 R B P M L x K y e e bo) := HW0.out.later HB9.out
  have HOn : Hid (OAt w9 w.heap.size 11 wh b v pos keep (.slice pd ld cd)) := LAt.later HO0.out HB9.out
  have HBn : Hid (Below w.heap.size w w9) := below_then HB0.out HB9.out
  have c1 := HWn.out.cd i hi
  have cb := OAt.block HOn.out
  have hc64 : 64 ≤ c9 := by omega
  clear HW0 HO0 HB0 HB9 hc9
  go_wp2_with fail
  refine wp_region_noPanic ?_
  refine wp_region_held_drew (S := fun w' => Three P w.heap.size (K i) w9 w') (by kernel_rfl) ⟨rfl, rfl, rfl⟩ (fun hHeld => ?_)
  have HWd : Hid (Wd w9.drew R B P M L x K y e e bo) := HWn.out.later (below_drawn 1)
  have HOd : Hid (OAt w9.drew w.heap.size 11 wh b v pos keep (.slice pd ld cd)) := HOn.out
  have HYd : Hid (BIn w9.drew (some ⟨g9, 0, none⟩) 64 bs) := HY9.out.drew
  have HBd : Hid (Below w.heap.size w w9.drew) := below_then HBn.out (below_drawn 1)
  have HTd : Hid (Tab w9.drew) := HT.out.later HBd.out
  have HLo : Hid (w.heap.size < w9.drew.heap.size) := LAt.lt HOd.out
  have HLe : Hid (B ≤ w9.drew.heap.size) := Nat.le_trans HBB.out HBd.out.size
  clear HWn HOn HY9 HBn
  generalize w9.drew = wd at *
  refine wpAnyH_take (i := 0) (v := ?va32) (by simp; rfl) (by kernel_rfl) (by kernel_rfl) (by kernel_rfl) (fun _ _ _ h => h) (Or.inl ⟨by rfl, ?ya32⟩) hHeld ?ra32
  case ya32 => intro w hSw; clear hSw; go_simp; with_reducible rfl
  simp only [Act.put, List.setIfInBounds_toArray, List.set_cons_zero, List.set_cons_succ]
  refine wpAnyH_take (i := 1) (v := ?va33) (by simp; rfl) (by kernel_rfl) (by kernel_rfl) (by kernel_rfl) (fun _ _ _ h => h) (Or.inl ⟨by rfl, ?ya33⟩) hHeld ?ra33
  case ya33 => intro w hSw; clear hSw; go_simp; with_reducible rfl
  simp only [Act.put, List.setIfInBounds_toArray, List.set_cons_zero, List.set_cons_succ]
  refine wpAnyH_take (i := 2) (v := ?va34) (by simp; rfl) (by kernel_rfl) (by kernel_rfl) (by kernel_rfl) (fun _ _ _ h => h) (Or.inl ⟨by rfl, ?ya34⟩) hHeld ?ra34
  case ya34 => intro w hSw; clear hSw; go_simp; with_reducible rfl
  simp only [Act.put, List.setIfInBounds_toArray, List.set_cons_zero, List.set_cons_succ]
  refine wpAnyH_take (i := 3) (v := ?va35) (by simp; rfl) (by kernel_rfl) (by kernel_rfl) (by kernel_rfl) (fun _ _ _ h => h) (Or.inl ⟨by rfl, ?ya35⟩) hHeld ?ra35
  case ya35 => intro w hSw; clear hSw; go_simp; with_reducible rfl
  simp only [Act.put, List.setIfInBounds_toArray, List.set_cons_zero, List.set_cons_succ]
  refine wpAnyH_take (i := 4) (v := ?va36) (by simp; rfl) (by kernel_rfl) (by kernel_rfl) (by kernel_rfl) (fun _ _ _ h => h) (Or.inl ⟨by rfl, ?ya36⟩) hHeld ?ra36
  case ya36 => intro w hSw; clear hSw; go_simp; with_reducible rfl
  simp only [Act.put, List.setIfInBounds_toArray, List.set_cons_zero, List.set_cons_succ]
  refine wpAnyH_take (i := 5) (v := ?va37) (by simp; rfl) (by kernel_rfl) (by kernel_rfl) (by kernel_rfl) (fun _ _ _ h => h) (Or.inl ⟨by rfl, ?ya37⟩) hHeld ?ra37
  case ya37 => intro w hSw; have z := (cell_same hSw.1).trans c1; clear hSw; go_simp; with_reducible rfl
  simp only [Act.put, List.setIfInBounds_toArray, List.set_cons_zero, List.set_cons_succ]
  refine wpAnyH_take (i := 6) (v := ?va38) (by simp; rfl) (by kernel_rfl) (by kernel_rfl) (by kernel_rfl) (fun _ _ _ h => h) (Or.inl ⟨by rfl, ?ya38⟩) hHeld ?ra38
  case ya38 => intro w hSw; clear hSw; go_simp; with_reducible rfl
  simp only [Act.put, List.setIfInBounds_toArray, List.set_cons_zero, List.set_cons_succ]
  refine wpAnyH_take (i := 7) (v := ?va39) (by simp; rfl) (by kernel_rfl) (by kernel_rfl) (by kernel_rfl) (fun _ _ _ h => h) (Or.inl ⟨by rfl, ?ya39⟩) hHeld ?ra39
  case ya39 => intro w hSw; have z := (cell_same hSw.2.1).trans cb; clear hSw; go_simp; with_reducible rfl
  simp only [Act.put, List.setIfInBounds_toArray, List.set_cons_zero, List.set_cons_succ]
  refine wpAnyH_take (i := 8) (v := ?va40) (by simp; rfl) (by kernel_rfl) (by kernel_rfl) (by kernel_rfl) (fun _ _ _ h => h) (Or.inl ⟨by rfl, ?ya40⟩) hHeld ?ra40
  case ya40 => intro w hSw; clear hSw; go_simp; with_reducible rfl
  simp only [Act.put, List.setIfInBounds_toArray, List.set_cons_zero, List.set_cons_succ]
  refine wpAnyH_ready (rs := [9]) (by kernel_rfl) (by simp) ?_
  refine AllReadyH.cons (by simp; rfl) (fun Kc hKc => ?_) AllReadyH.nil
  go_simp
  refine (write64 (HWd.out.ls i hi).dsk b (some ⟨g9, 0, none⟩) c9 bs HYd.out hle).mono ?_
  rintro e1 w1 ⟨rfl, hd1, hk1⟩
  obtain ⟨hl1, hq1⟩ := (HWd.out.ls i hi).disk hd1 hk1
  have sp : w1.heap[P]? = wd.heap[P]? := hq1.block P HWd.out.blk.lt (by rw [HR0.out.2.1]; omega)
  have so : w1.heap[w.heap.size]? = wd.heap[w.heap.size]? := hq1.block _ (LAt.lt HOd.out) (by rw [HR0.out.1]; omega)
  have sk : w1.heap[K i]? = wd.heap[K i]? := hq1.block _ (LAt.lt (HWd.out.rs i hi).log) (by have h3 := (HWd.out.rs i hi).sl; have : R (K i) = 3 + i := h3; omega)
  have HK1 : Hid (Kept (fun k => R k = 1 + i) wd w1) := hq1
  have HD1 : Hid (LS w1 (More (fun k => R k = 1 + i) wd) (L i) (x i) ⟨(e i).d, wrU (e i).g.sz (e i).ws b bs, (e i).g⟩) := hl1
  have HO1 : Hid (OAt w1 w.heap.size 11 wh b v pos keep (.slice pd ld cd)) := so.trans HOd.out
  have HY1 : Hid (BIn w1 (some ⟨g9, 0, none⟩) 64 bs) := HYd.out.kept hq1 (fun a ea => by cases ea; show ¬ R g9 = _; rw [HR0.out.2.2.1 g9 HG9.out]; omega)
  clear hd1 hk1 hl1 hq1 HYd HOd
  refine hKc.out _ _ ⟨sp.trans hHeld.1, so.trans hHeld.2.1, sk.trans hHeld.2.2⟩ (fun hHeld => ?_)
  clear hKc Kc sp so sk
  refine wpAnyH_take (i := 10) (v := ?va41) (by simp; rfl) (by kernel_rfl) (by kernel_rfl) (by kernel_rfl) (fun _ _ _ h => h) (Or.inl ⟨by rfl, ?ya41⟩) hHeld ?ra41
  case ya41 => intro w hSw; clear hSw; go_simp; with_reducible rfl
  simp only [Act.put, List.setIfInBounds_toArray, List.set_cons_zero, List.set_cons_succ]
  clear hHeld
  refine wpAnyH_done (by kernel_rfl) (NoPanic.normal ?_) _
  clear c1 cb
  have c2 := (HWd.out.setL hi HK1.out HD1.out HLe.out).cr i hi
  have c3 := HAt.c0 ((HWd.out.setL hi HK1.out HD1.out HLe.out).rs i hi).log
  have cb := OAt.block HO1.out
  go_wp2_with fail
  refine wp_region_noPanic ?_
  refine wp_region_held_drew (S := fun w' => Three P w.heap.size (K i) w1 w') (by kernel_rfl) ⟨rfl, rfl, rfl⟩ (fun hHeld => ?_)
  have HK2 : Hid (Kept (fun k => R k = 1 + i) wd w1.drew) := HK1.out.drew
  have HD2 : Hid (LS w1.drew (More (fun k => R k = 1 + i) wd) (L i) (x i) ⟨(e i).d, wrU (e i).g.sz (e i).ws b bs, (e i).g⟩) := LD.later HD1.out (below_drawn 1)
  have G1 : Hid (_) := HWd.out.setL hi HK2.out HD2.out HLe.out
  have HO2 : Hid (OAt w1.drew w.heap.size 11 wh b v pos keep (.slice pd ld cd)) := HO1.out
  have HY2 : Hid (BIn w1.drew (some ⟨g9, 0, none⟩) 64 bs) := HY1.out.drew
  have HR2 : Hid (up R wd.heap.size w1.drew.heap.size (1 + i) w.heap.size = 0) := by show _ = _; rw [up_lo HLo.out]; exact HR0.out.1
  clear HK1 HD1 HO1 HY1
  generalize w1.drew = wf at *
  refine wpAnyH_take (i := 0) (v := ?va42) (by simp; rfl) (by kernel_rfl) (by kernel_rfl) (by kernel_rfl) (fun _ _ _ h => h) (Or.inl ⟨by rfl, ?ya42⟩) hHeld ?ra42
  case ya42 => intro w hSw; clear hSw; go_simp; with_reducible rfl
  simp only [Act.put, List.setIfInBounds_toArray, List.set_cons_zero, List.set_cons_succ]
  refine wpAnyH_take (i := 1) (v := ?va43) (by simp; rfl) (by kernel_rfl) (by kernel_rfl) (by kernel_rfl) (fun _ _ _ h => h) (Or.inl ⟨by rfl, ?ya43⟩) hHeld ?ra43
  case ya43 => intro w hSw; clear hSw; go_simp; with_reducible rfl
  simp only [Act.put, List.setIfInBounds_toArray, List.set_cons_zero, List.set_cons_succ]
  refine wpAnyH_take (i := 2) (v := ?va44) (by simp; rfl) (by kernel_rfl) (by kernel_rfl) (by kernel_rfl) (fun _ _ _ h => h) (Or.inl ⟨by rfl, ?ya44⟩) hHeld ?ra44
  case ya44 => intro w hSw; clear hSw; go_simp; with_reducible rfl
  simp only [Act.put, List.setIfInBounds_toArray, List.set_cons_zero, List.set_cons_succ]
  refine wpAnyH_take (i := 3) (v := ?va45) (by simp; rfl) (by kernel_rfl) (by kernel_rfl) (by kernel_rfl) (fun _ _ _ h => h) (Or.inl ⟨by rfl, ?ya45⟩) hHeld ?ra45
  case ya45 => intro w hSw; clear hSw; go_simp; with_reducible rfl
  simp only [Act.put, List.setIfInBounds_toArray, List.set_cons_zero, List.set_cons_succ]
  refine wpAnyH_take (i := 4) (v := ?va46) (by simp; rfl) (by kernel_rfl) (by kernel_rfl) (by kernel_rfl) (fun _ _ _ h => h) (Or.inl ⟨by rfl, ?ya46⟩) hHeld ?ra46
  case ya46 => intro w hSw; clear hSw; go_simp; with_reducible rfl
  simp only [Act.put, List.setIfInBounds_toArray, List.set_cons_zero, List.set_cons_succ]
  refine wpAnyH_take (i := 5) (v := ?va47) (by simp; rfl) (by kernel_rfl) (by kernel_rfl) (by kernel_rfl) (fun _ _ _ h => h) (Or.inl ⟨by rfl, ?ya47⟩) hHeld ?ra47
  case ya47 => intro w hSw; clear hSw; go_simp; with_reducible rfl
  simp only [Act.put, List.setIfInBounds_toArray, List.set_cons_zero, List.set_cons_succ]
  refine wpAnyH_take (i := 6) (v := ?va48) (by simp; rfl) (by kernel_rfl) (by kernel_rfl) (by kernel_rfl) (fun _ _ _ h => h) (Or.inl ⟨by rfl, ?ya48⟩) hHeld ?ra48
  case ya48 => intro w hSw; have z := (cell_same hSw.1).trans c2; clear hSw; go_simp; with_reducible rfl
  simp only [Act.put, List.setIfInBounds_toArray, List.set_cons_zero, List.set_cons_succ]
  refine wpAnyH_take (i := 7) (v := ?va49) (by simp; rfl) (by kernel_rfl) (by kernel_rfl) (by kernel_rfl) (fun _ _ _ h => h) (Or.inl ⟨by rfl, ?ya49⟩) hHeld ?ra49
  case ya49 => intro w hSw; clear hSw; go_simp; with_reducible rfl
  simp only [Act.put, List.setIfInBounds_toArray, List.set_cons_zero, List.set_cons_succ]
  refine wpAnyH_take (i := 8) (v := ?va50) (by simp; rfl) (by kernel_rfl) (by kernel_rfl) (by kernel_rfl) (fun _ _ _ h => h) (Or.inl ⟨by rfl, ?ya50⟩) hHeld ?ra50
  case ya50 => intro w hSw; clear hSw; go_simp; with_reducible rfl
  simp only [Act.put, List.setIfInBounds_toArray, List.set_cons_zero, List.set_cons_succ]
  refine wpAnyH_take (i := 9) (v := ?va51) (by simp; rfl) (by kernel_rfl) (by kernel_rfl) (by kernel_rfl) (fun _ _ _ h => h) (Or.inl ⟨by rfl, ?ya51⟩) hHeld ?ra51
  case ya51 => intro w hSw; have z := (cell_same hSw.2.2).trans c3; clear hSw; go_simp; with_reducible rfl
  simp only [Act.put, List.setIfInBounds_toArray, List.set_cons_zero, List.set_cons_succ]
  refine wpAnyH_take (i := 10) (v := ?va52) (by simp; rfl) (by kernel_rfl) (by kernel_rfl) (by kernel_rfl) (fun _ _ _ h => h) (Or.inl ⟨by rfl, ?ya52⟩) hHeld ?ra52
  case ya52 => intro w hSw; clear hSw; go_simp; with_reducible rfl
  simp only [Act.put, List.setIfInBounds_toArray, List.set_cons_zero, List.set_cons_succ]
  refine wpAnyH_take (i := 11) (v := ?va53) (by simp; rfl) (by kernel_rfl) (by kernel_rfl) (by kernel_rfl) (fun _ _ _ h => h) (Or.inl ⟨by rfl, ?ya53⟩) hHeld ?ra53
  case ya53 => intro w hSw; have z := (cell_same hSw.2.1).trans cb; clear hSw; go_simp; with_reducible rfl
  simp only [Act.put, List.setIfInBounds_toArray, List.set_cons_zero, List.set_cons_succ]
  refine wpAnyH_take (i := 12) (v := ?va54) (by simp; rfl) (by kernel_rfl) (by kernel_rfl) (by kernel_rfl) (fun _ _ _ h => h) (Or.inl ⟨by rfl, ?ya54⟩) hHeld ?ra54
  case ya54 => intro w hSw; clear hSw; go_simp; with_reducible rfl
  simp only [Act.put, List.setIfInBounds_toArray, List.set_cons_zero, List.set_cons_succ]
  refine wpAnyH_ready (rs := [13]) (by kernel_rfl) (by simp) ?_
  refine AllReadyH.cons (by simp; rfl) (fun Kc hKc => ?_) AllReadyH.nil
  go_simp
  refine (rwrite64 (G1.out.rs i hi).dsk b (some ⟨g9, 0, none⟩) c9 bs HY2.out hle).mono ?_
  rintro e2 w2 ⟨rfl, hd2, hk2⟩
  obtain ⟨hl2, hq2⟩ := (G1.out.rs i hi).disk hd2 hk2
  have sp : w2.heap[P]? = wf.heap[P]? := hq2.block P G1.out.blk.lt (by rw [G1.out.rp]; omega)
  have so : w2.heap[w.heap.size]? = wf.heap[w.heap.size]? := hk2.block _ (LAt.lt HO2.out) (fun c => by have h0 : _ = _ := c.1; rw [HR2.out] at h0; omega)
  have sk : w2.heap[K i]? = wf.heap[K i]? := hk2.block _ (LAt.lt (G1.out.rs i hi).log) (fun c => c.2 rfl)
  have HF : Hid (Sq w2 B P M (k + 1) ∧ Below B wd w2) := HWd.out.step hi HL.out HLe.out HTd.out H1.out (E := ⟨(e i).d, wrU (e i).g.sz (e i).ws b bs, (e i).g⟩) (b := bo i) HK2.out HD2.out hq2 hl2 (Nat.le_trans (wrU_length _ _ _ _) (by have := HL.out i hi; omega))
  clear hd2 hk2 hl2 hq2 G1 HY2 HO2
  refine hKc.out _ _ ⟨sp.trans hHeld.1, so.trans hHeld.2.1, sk.trans hHeld.2.2⟩ (fun hHeld => ?_)
  clear hKc Kc sp so sk
  refine wpAnyH_take (i := 14) (v := ?va55) (by simp; rfl) (by kernel_rfl) (by kernel_rfl) (by kernel_rfl) (fun _ _ _ h => h) (Or.inl ⟨by rfl, ?ya55⟩) hHeld ?ra55
  case ya55 => intro w hSw; clear hSw; go_simp; with_reducible rfl
  simp only [Act.put, List.setIfInBounds_toArray, List.set_cons_zero, List.set_cons_succ]
  refine wpAnyH_take (i := 15) (v := ?va56) (by simp; rfl) (by kernel_rfl) (by kernel_rfl) (by kernel_rfl) (fun _ _ _ h => h) (Or.inl ⟨by rfl, ?ya56⟩) hHeld ?ra56
  case ya56 => intro w hSw; clear hSw; go_simp; with_reducible rfl
  simp only [Act.put, List.setIfInBounds_toArray, List.set_cons_zero, List.set_cons_succ]
  clear hHeld
  refine wpAnyH_done (by kernel_rfl) (NoPanic.normal ?_) _
  go_wp2_with fail
  go_ret
  exact ⟨by simp, HF.out.1, below_of HBd.out HBB.out HF.out.2⟩
end Go.Proofs.YtmcpjokbkkfgfaaGreatDoor
