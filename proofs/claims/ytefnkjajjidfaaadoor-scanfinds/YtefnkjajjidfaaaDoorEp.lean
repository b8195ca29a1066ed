/-
  The laws' own: what told has in memory.
-/
import Derived.Test.YtefnkjajjidfaaaDoorEo
import Derived.Test.YtefnkjajjidfaaaDoorHm
namespace Go.Proofs.YtefnkjajjidfaaaDoor
open Go.RowKit


theorem LB.side {V V' : World} {B L p : Nat} {d : List Int} {ws : List Wr} {g : Lg} (h : LB V B L p d ws g) {T : Nat → Prop} (hk : Kept T V V') (hT : ∀ k, T k → k < V.heap.size → ∃ cs t f, ¬ Ours t ∧ V.heap[k]? = some (.cells cs t f)) : LB V' B L p d ws g :=
  (h.typed.kept (hk.mono (T := fun k => T k ∧ k < V.heap.size) fun k hl hT => ⟨hT, hl⟩) (fun k s t => by
    obtain ⟨cs, t', f, ho, hc⟩ := s.2
    obtain ⟨cs2, t2, f2, ho2, hc2⟩ := hT k t.1 t.2
    rw [hc] at hc2
    cases hc2
    exact ho2 ho)).mono fun k _ s => s.1
theorem own_kt {B : Nat} {V V' : World} (hk : KT B V V') {C : Nat} {e : TypeId} {sz : Nat} {v : Value} {n : Nat} {xs : List Value} (he : ¬ Ours e) (h : V.ownsRow C e sz v n xs) : V'.ownsRow C e sz v n xs := by
  refine ⟨h.1, ?_⟩
  rcases h.2 with h | ⟨g, cap, cur, h1, h2, h3, h4⟩
  · exact .inl h
  · exact .inr ⟨g, cap, cur, h1, h2, hk.other g _ _ _ he h3, h4⟩
theorem lat_kt {B : Nat} {V V' : World} (hk : KT B V V') {t : TypeId} {g : Nat} {cs : List Value} (he : ¬ Ours t) (h : LAt t V g cs) : LAt t V' g cs := hk.other g _ _ _ he h
theorem kt_size {B : Nat} {V V' : World} (hk : KT B V V') : V.heap.size ≤ V'.heap.size := hk.low.size
/-- a story's cells -/
def stc (c : Sup) (ps : Option Addr) (n cs : Nat) (sd : Int) (op : Bool) (pl : Option Addr) (m cl : Nat) : List Value := ccells c ++ [.slice ps n cs, .int .u8 sd, .bool op, .slice pl m cl]
structure TS (w W : World) (Bs Br Bc Bw B L p : Nat) (stl : List Value) (c : Sup) (g : Lg) (ws : List Wr) (all : List R.Rec) (s : Sc) (v : Value) (vs : List Value) : Prop where
  st : LAt 43 W Bs stl
  rs : LAt 48 W Br (gcells 0 0 0 (.slice none 0 0))
  cf : CAt W Bc c
  wt : LAt 48 W Bw (gcells 0 1 s.fin v)
  tx : XOwn 28 W w.heap.size v s.txs vs
  lb : LB W B L p (newS c) ws g
  sty : Sty c g ws all s
  wl : ws.length = all.length
  low : Below w.heap.size w W
  b0 : w.heap.size ≤ B
  r0 : w.heap.size ≤ Br
  w0 : w.heap.size ≤ Bw
  ne : Br ≠ Bw
theorem foldS_len {mr : Int} : ∀ (l : List R.Rec) (p : Int) (s s' : Sc), foldS mr l p s = some s' → s'.txs.length ≤ s.txs.length + l.length
  | [], _, s, s', h => by obtain rfl : s = s' := Option.some.inj h; simp
  | r :: l, p, s, s', h => by
    have h' : (scStep mr s p r).bind (fun s1 => foldS mr l (p + 1) s1) = some s' := h
    cases e : scStep mr s p r with
    | none => rw [e] at h'; cases h'
    | some s1 =>
      rw [e] at h'
      have ih := foldS_len l (p + 1) s1 s' h'
      have h1 : s1.txs.length ≤ s.txs.length + 1 := by
        by_cases c1 : r.kind = 1 ∧ Folls s.come r.block mr
        · rw [scStep_img c1] at e; cases e; exact Nat.le_succ _
        · by_cases c2 : r.kind = 2 ∧ r.images = s.come.length
          · rw [scStep_com c2] at e; cases e; simp
          · rw [scStep_no c1 c2] at e; cases e
      simp only [List.length_cons]; omega
section
variable {w V : World} {Bs Br Bc Bw B L p : Nat} {stl : List Value} {c : Sup} {g : Lg} {ws : List Wr} {all : List R.Rec} {s : Sc} {v : Value} {vs : List Value}
theorem TS.later (h : TS w V Bs Br Bc Bw B L p stl c g ws all s v vs) {V' : World} (hb : Below V.heap.size V V') : TS w V' Bs Br Bc Bw B L p stl c g ws all s v vs :=
  ⟨LAt.later h.st hb, LAt.later h.rs hb, LAt.later h.cf hb, LAt.later h.wt hb, h.tx.later hb, LD.later h.lb hb, h.sty, h.wl, below_then h.low hb, h.b0, h.r0, h.w0, h.ne⟩
theorem TS.fin_le (h : TS w V Bs Br Bc Bw B L p stl c g ws all s v vs) : ws.length ≤ 64 := by
  have := h.sty.fin_is; have := h.sty.mc.2.1; have := h.wl; omega
theorem TS.txs_le (h : TS w V Bs Br Bc Bw B L p stl c g ws all s v vs) : s.txs.length ≤ 64 := by
  have h1 := foldS_len all 0 ⟨[], 0, []⟩ s h.sty.fold
  have hl := h.fin_le; have := h.wl
  simp only [List.length_nil] at h1
  omega
theorem TS.xown_kt (h : TS w V Bs Br Bc Bw B L p stl c g ws all s v vs) {V' : World} (hk : KT B V V') : XOwn 28 V' w.heap.size v s.txs vs :=
  ⟨h.tx.len, own_kt hk (by decide) h.tx.row, fun k t u a b => own_kt hk (by decide) (h.tx.each k t u a b), h.tx.wf⟩
/-- an image is written -/
theorem TS.img (h : TS w V Bs Br Bc Bw B L p stl c g ws all s v vs) {b : Int} (h0 : imgS g b = 0) {x : List Int} (hv : x.length = 32) (hvb : Bytes x) {V' : World} (hl : LB V' B L p (newS c) (ws ++ [⟨(secN g g.fin).toNat, R.encS (imgR g b x)⟩]) (imgG g b)) (hk : KT B V V') :
    TS w V' Bs Br Bc Bw B L p stl c (imgG g b) (ws ++ [⟨(secN g g.fin).toNat, R.encS (imgR g b x)⟩]) (all ++ [imgR g b x]) ⟨s.txs, s.fin, s.come ++ [⟨b, x⟩]⟩ v vs :=
  ⟨lat_kt hk (by decide) h.st, lat_kt hk (by decide) h.rs, lat_kt hk (by decide) h.cf, lat_kt hk (by decide) h.wt, h.xown_kt hk, hl, h.sty.img h0 hv hvb, by rw [List.length_append, List.length_append, h.wl]; rfl, h.low.trans (hk.low.mono h.b0), h.b0, h.r0, h.w0, h.ne⟩
/-- a commit is written, and wanted -/
theorem TS.com (h : TS w V Bs Br Bc Bw B L p stl c g ws all s v vs) (h0 : moreS g = 0) {V' : World} (hl : LB V' B L p (newS c) (ws ++ [⟨(secN g g.fin).toNat, R.encS (comR g)⟩]) (comG g)) (hk : KT B V V') {q : Option Addr} {k m : Nat} (hcw : ImsWf s.come) (him : IOwn V' w.heap.size (.slice q k m) s.come) :
    ∃ q' c' V4, (Builtin.append_ #[22, 22] 22 #[v, .slice (some ⟨V'.heap.size, 0, none⟩) 1 1]).run Tryd.prog (V'.alloc (.cells #[.int .u64 g.fin, .slice q k m] 28)) = .ok (.slice q' (s.txs.length + 1) c') V4 ∧ LAt 48 V4 Bw (gcells 0 1 s.fin v) ∧
      TS w ((V4.setCell ⟨Bw, 3, none⟩ (.slice q' (s.txs.length + 1) c')).setCell ⟨Bw, 2, none⟩ (.int .u64 (g.fin + 1))) Bs Br Bc Bw B L p stl c (comG g) (ws ++ [⟨(secN g g.fin).toNat, R.encS (comR g)⟩]) (all ++ [comR g]) ⟨s.txs ++ [⟨g.fin, s.come⟩], g.fin + 1, []⟩ (.slice q' (s.txs.length + 1) c') (vs ++ [.slice q k m]) := by
  have hsz := kt_size hk
  have hlow := h.low.size
  have hf := h.sty.ok.fM
  have hf0 : 0 ≤ g.fin := by have := h.sty.ok.t0; have := h.sty.ok.tm; have := h.sty.ok.mf; omega
  obtain ⟨q', c', V4, hrun, lg4, oth4, xo4, bl4, gr4⟩ := XOwn.app (h.xown_kt hk) (lat_kt hk (by decide) h.wt) (by omega) (by have := h.txs_le; omega) (p := g.fin) ⟨hf0, by omega⟩ hcw him
  have hbw : w.heap.size ≤ Bw := h.w0
  have k1 : Kept (fun k => k = Bw ∨ v.ownBlock = some k) V' ((V4.setCell ⟨Bw, 3, none⟩ (.slice q' (s.txs.length + 1) c')).setCell ⟨Bw, 2, none⟩ (.int .u64 (g.fin + 1))) :=
    ((((Kept.refl _ V').alloc _).grown gr4 fun k hk' _ => .inr hk').setCell (p := ⟨Bw, 3, none⟩) (fun _ => .inl rfl) _).setCell (p := ⟨Bw, 2, none⟩) (fun _ => .inl rfl) _
  refine ⟨q', c', V4, hrun, lg4, ?_, ?_, ?_, ?_, ?_, ?_, h.sty.com h0, by rw [List.length_append, List.length_append, h.wl]; rfl, ?_, h.b0, h.r0, h.w0, h.ne⟩
  · have a := oth4 (by decide) (lat_kt hk (by decide) h.st)
    have ne : Bs ≠ Bw := fun e => by have := h.st; rw [e] at this; have := this.symm.trans h.wt; simp only [Option.some.injEq, Obj.cells.injEq] at this; exact absurd this.2.1 (by decide)
    exact LAt.setO (LAt.setO a 3 _ ne) 2 _ ne
  · have a := oth4 (by decide) (lat_kt hk (by decide) h.rs)
    exact LAt.setO (LAt.setO a 3 _ h.ne) 2 _ h.ne
  · have a := oth4 (by decide) (lat_kt hk (by decide) h.cf)
    have ne : Bc ≠ Bw := fun e => by have := h.cf; rw [e] at this; have := this.symm.trans h.wt; simp only [Option.some.injEq, Obj.cells.injEq] at this; exact absurd this.2.1 (by decide)
    exact LAt.setO (LAt.setO a 3 _ ne) 2 _ ne
  · exact LAt.set (LAt.set lg4 3 _) 2 _
  · have lg5 : LAt 48 (V4.setCell ⟨Bw, 3, none⟩ (.slice q' (s.txs.length + 1) c')) Bw (gcells 0 1 s.fin (.slice q' (s.txs.length + 1) c')) := LAt.set lg4 3 _
    refine xo4.kept (row := some Bw) ⟨rfl, rfl, rfl, by simp, fun k _ hk => heap_setCell_other _ ⟨Bw, 2, none⟩ k _ (fun e => hk (by rw [e]))⟩ (.inr (lat_not_row lg5 (by decide) xo4.row)) fun u hu => ?_
    obtain ⟨j, hj, rfl⟩ := List.getElem_of_mem hu
    have hj' : j < (s.txs ++ [(⟨g.fin, s.come⟩ : TX)]).length := by rw [← xo4.len]; exact hj
    exact .inr (lat_not_row lg5 (by decide) (xo4.each j _ _ (List.getElem?_eq_getElem hj') (List.getElem?_eq_getElem hj)))
  · refine hl.side k1 fun k hk' _ => ?_
    rcases hk' with rfl | hk'
    · exact ⟨_, _, _, by decide, lat_kt hk (by decide) h.wt⟩
    · rcases (h.xown_kt hk).row.2 with ⟨e, _⟩ | ⟨g', cap', cur', e, _, e3, _⟩
      · rw [e] at hk'; cases hk'
      · rw [e] at hk'
        simp only [Value.ownBlock, Option.some.injEq] at hk'
        subst hk'
        exact ⟨_, _, _, by decide, e3⟩
  · exact (((h.low.trans (hk.low.mono h.b0)).trans bl4).setCell (p := ⟨Bw, 3, none⟩) hbw _).setCell (p := ⟨Bw, 2, none⟩) hbw _
end
end Go.Proofs.YtefnkjajjidfaaaDoor
