import Derived.Test.YtdadpepfpiimgaaGreatDoorZ21
set_option maxHeartbeats 20000000
set_option maxRecDepth 100000
namespace Go.Proofs.YtdadpepfpiimgaaGreatDoor.Q
open Go.RowKit
def wantI (l : List Im) (b : Int) : List Int := if b ∈ blks l then lastV l b else zs 32
theorem wantI_nil (b : Int) : wantI [] b = zs 32 := if_neg (by simp)
theorem wantI_snoc (l : List Im) (x : Im) (b : Int) : wantI (l ++ [x]) b = if x.b = b then x.v else wantI l b := by
  unfold wantI
  rw [lastV_snoc]
  by_cases e : x.b = b
  · rw [if_pos e, if_pos e, if_pos]
    show b ∈ (l ++ [x]).map (·.b)
    rw [List.map_append]; exact List.mem_append.2 (.inr (by simp [e]))
  · rw [if_neg e, if_neg e]
    have : (b ∈ blks (l ++ [x])) ↔ b ∈ blks l := by
      show b ∈ (l ++ [x]).map (·.b) ↔ _
      rw [List.map_append, List.mem_append]
      exact ⟨fun h => h.elim id fun h => absurd (by simpa using h : b = x.b).symm e, .inl⟩
    by_cases h : b ∈ blks l
    · rw [if_pos h, if_pos (this.2 h)]
    · rw [if_neg h, if_neg (fun k => h (this.1 k))]
def vlsI (c : Sup) (l : List Im) : List (List Int) := (List.range c.bl.toNat).map fun (b : Nat) => wantI l (b : Int)
theorem vlsI_len (c : Sup) (l : List Im) : (vlsI c l).length = c.bl.toNat := by simp [vlsI]
theorem vlsI_nil (c : Sup) : vlsI c [] = List.replicate c.bl.toNat (zs 32) := by
  unfold vlsI
  rw [show (fun b : Nat => wantI [] (b : Int)) = fun _ => zs 32 from funext fun b => wantI_nil b, List.map_const', List.length_range]
theorem vlsI_snoc (c : Sup) (l : List Im) (x : Im) (h0 : 0 ≤ x.b) : vlsI c (l ++ [x]) = (vlsI c l).set x.b.toNat x.v := by
  apply List.ext_getElem?
  intro i
  rw [List.getElem?_set, vlsI_len]
  unfold vlsI
  simp only [List.getElem?_map]
  by_cases hi : i < c.bl.toNat
  · rw [List.getElem?_range hi]
    simp only [Option.map_some]
    rw [wantI_snoc]
    by_cases e : x.b.toNat = i
    · rw [if_pos (show x.b = (i : Int) by omega), if_pos e, if_pos (by omega)]
    · rw [if_neg (show ¬ x.b = (i : Int) by omega), if_neg e]
  · have : (List.range c.bl.toNat)[i]? = none := List.getElem?_eq_none (by simpa using hi)
    rw [this]
    simp only [Option.map_none]
    by_cases e : x.b.toNat = i
    · rw [if_pos e, if_neg (by omega)]
    · rw [if_neg e]
theorem lastV_len : ∀ {l : List Im} {b : Int}, (∀ i ∈ l, i.v.length = 32) → b ∈ blks l → (lastV l b).length = 32
  | [], _, _, h => by simp at h
  | x :: l, b, hl, h => by
    unfold lastV
    by_cases c : b ∈ blks l
    · rw [if_pos c]; exact lastV_len (fun i hi => hl i (List.mem_cons.2 (.inr hi))) c
    · have e : x.b = b := by
        rcases List.mem_cons.1 h with e | e
        · exact e.symm
        · exact absurd e c
      rw [if_neg c, if_pos e]; exact hl x (List.mem_cons.2 (.inl rfl))
theorem wantI_len {l : List Im} (h : ∀ i ∈ l, i.v.length = 32) (b : Int) : (wantI l b).length = 32 := by
  unfold wantI
  by_cases c : b ∈ blks l
  · rw [if_pos c]; exact lastV_len h c
  · rw [if_neg c]; exact zs_len 32
theorem vlsI_each {c : Sup} {l : List Im} (h : ∀ i ∈ l, i.v.length = 32) : ∀ v ∈ vlsI c l, v.length = 32 := fun v hv => by
  obtain ⟨b, _, rfl⟩ := List.mem_map.1 hv
  exact wantI_len h _
def mpsS (c : Sup) (tx : List TX) : List (List (List Int)) := (List.range (tx.length + 1)).map fun k => vlsI c (flat (tx.take k))
theorem mpsS_len (c : Sup) (tx : List TX) : (mpsS c tx).length = tx.length + 1 := by simp [mpsS]
theorem mpsS_snoc (c : Sup) (tx : List TX) (t : TX) : mpsS c (tx ++ [t]) = mpsS c tx ++ [vlsI c (flat (tx ++ [t]))] := by
  unfold mpsS
  rw [List.length_append, List.length_singleton, List.range_succ, List.map_append]
  congr 1
  · refine List.map_congr_left fun k hk => ?_
    have := List.mem_range.1 hk
    rw [List.take_append_of_le_length (by omega)]
  · simp [List.take_of_length_le]
theorem mpsS_at (c : Sup) (tx : List TX) {k : Nat} (h : k ≤ tx.length) : (mpsS c tx)[k]? = some (vlsI c (flat (tx.take k))) := by
  unfold mpsS
  rw [List.getElem?_map, List.getElem?_range (by omega)]; rfl
theorem foldS_up {mr : Int} : ∀ (l : List R.Rec) (p : Int) (s s' : Sc), (∀ t ∈ s.txs, t.p < p) → s.txs.Pairwise (fun a b => a.p < b.p) → foldS mr l p s = some s' → s'.txs.Pairwise (fun a b => a.p < b.p)
  | [], p, s, s', _, h, e => by cases e; exact h
  | r :: l, p, s, s', hp, h, e => by
    have e : (scStep mr s p r).bind (fun s' => foldS mr l (p + 1) s') = some s' := e
    cases e1 : scStep mr s p r with
    | none => rw [e1] at e; cases e
    | some s1 =>
      rw [e1] at e
      have key : (∀ t ∈ s1.txs, t.p < p + 1) ∧ s1.txs.Pairwise (fun a b => a.p < b.p) := by
        by_cases c1 : r.kind = 1 ∧ Folls s.come r.block mr
        · rw [scStep_img c1] at e1; cases e1; exact ⟨fun t ht => by have := hp t ht; omega, h⟩
        · by_cases c2 : r.kind = 2 ∧ r.images = s.come.length
          · rw [scStep_com c2] at e1; cases e1
            refine ⟨fun t ht => ?_, List.pairwise_append.2 ⟨h, List.pairwise_singleton _ _, fun a ha b hb => ?_⟩⟩
            · rcases List.mem_append.1 ht with ht | ht
              · have := hp t ht; omega
              · rw [List.mem_singleton.1 ht]; show p < p + 1; omega
            · rw [List.mem_singleton.1 hb]; exact hp a ha
          · rw [scStep_no c1 c2] at e1; cases e1
      exact foldS_up l (p + 1) s1 s' key.1 key.2 e
theorem ahead_take : ∀ (l : List TX) (n : Int), l.Pairwise (fun a b => a.p < b.p) → aheadT l n = l.take (aheadT l n).length
  | [], n, _ => rfl
  | t :: l, n, h => by
    obtain ⟨h1, h2⟩ := List.pairwise_cons.1 h
    by_cases c : t.p < n
    · have e : aheadT (t :: l) n = t :: aheadT l n := List.filter_cons_of_pos (by simpa using c)
      rw [e, List.length_cons, List.take_succ_cons, ← ahead_take l n h2]
    · have e : aheadT (t :: l) n = aheadT l n := List.filter_cons_of_neg (by simpa using c)
      have e2 : aheadT l n = [] := List.filter_eq_nil_iff.2 fun u hu => by have := h1 u hu; simp; omega
      rw [e, e2]; rfl
theorem Wt.ahead {c : Sup} {g : Lg} {D : Dd} {al : List R.Rec} {s : Sc} {sf : Nat} (h : Wt c g D al s sf) (n : Int) : aheadT s.txs n = s.txs.take (aheadT s.txs n).length :=
  ahead_take _ _ (foldS_up al 0 _ s (fun t ht => (by cases ht)) List.Pairwise.nil h.fold)
structure Nt (c : Sup) (g : Lg) (D : Dd) (al : List R.Rec) (s : Sc) (sf : Nat) : Prop where
  wt : Wt c g D al s sf
  wf : ∀ i ∈ flat s.txs ++ s.come, i.v.length = 32
section
variable {c : Sup} {g : Lg} {D : Dd} {al : List R.Rec} {s : Sc} {sf : Nat}
theorem Nt.start (h : MayC c) : Nt c (opnG c 0 1) ⟨newS c, []⟩ [] ⟨[], 0, []⟩ 0 := ⟨Wt.start h, fun i hi => by simp [flat] at hi⟩
theorem Nt.more (h : Nt c g D al s sf) (hr : (al.length : Int) < c.lc) : moreS g = 0 := by
  have hf := h.wt.fin; have ht := h.wt.gt; have hc := h.wt.gc; have hl := h.wt.mc.2.1
  refine moreS_ok (by omega) ?_
  rw [hc]; omega
theorem Nt.imgok (h : Nt c g D al s sf) (hr : (al.length : Int) < c.lc) {b : Int} (h0 : 0 ≤ b) (h1 : b < c.bl) (h2 : (s.come.length : Int) < c.mr) (h3 : s.come.length ≠ 0 → lastB s.come < b) : imgS g b = 0 := by
  refine imgS_ok (h.more hr) ?_
  have hc := h.wt.gc; have hi := h.wt.imgs
  rintro (e | e | e)
  · by_cases k : s.come.length = 0
    · have := h.wt.lst0 k; omega
    · have := h.wt.last k; have := h3 k; omega
  · rw [hc] at e; omega
  · rw [hc] at e; omega
theorem Nt.img (h : Nt c g D al s sf) {b : Int} (h0 : imgS g b = 0) {v : List Int} (hv : v.length = 32) (hvb : Bytes v) : Nt c (imgG g b) (D.wr (secN g g.fin).toNat (R.encS (imgR g b v))) (al ++ [imgR g b v]) ⟨s.txs, s.fin, s.come ++ [⟨b, v⟩]⟩ sf :=
  ⟨h.wt.img h0 hv hvb, fun i hi => by
    have hi : i ∈ flat s.txs ++ (s.come ++ [⟨b, v⟩]) := hi
    rw [← List.append_assoc] at hi
    rcases List.mem_append.1 hi with hi | hi
    · exact h.wf i hi
    · rw [List.mem_singleton.1 hi]; exact hv⟩
theorem Nt.com (h : Nt c g D al s sf) (h0 : moreS g = 0) : Nt c (comG g) (D.wr (secN g g.fin).toNat (R.encS (comR g))) (al ++ [comR g]) ⟨s.txs ++ [⟨g.fin, s.come⟩], g.fin + 1, []⟩ sf :=
  ⟨h.wt.com h0, fun i hi => by
    have hi : i ∈ flat (s.txs ++ [⟨g.fin, s.come⟩]) ++ [] := hi
    rw [List.append_nil, flat_snoc] at hi
    exact h.wf i hi⟩
theorem Nt.fls (h : Nt c g D al s sf) : Nt c g D.fls al s al.length := ⟨h.wt.fls, h.wf⟩
theorem Nt.ws (h : Nt c g D al s sf) : D.ws.length ≤ 64 := by
  have a := h.wt.wsl; have b := h.wt.len; have d := h.wt.mc.2.1; omega
end
end Go.Proofs.YtdadpepfpiimgaaGreatDoor.Q
namespace Go.Proofs.YtdadpepfpiimgaaGreatDoor.Q
open Go.RowKit
def Th.log (S : Nat → Prop) (L p : Nat) (D : Dd) (g : Lg) : Th := ⟨fun w _ => LD w S L p D.d D.ws g ∧ ∀ k, S k → k < w.heap.size, S, fun _ _ _ h hb => h.2 _ hb, fun _ _ _ _ _ h hk hf _ _ => ⟨h.1.kept hk (fun k a b => hf k a b), fun k a => Nat.lt_of_lt_of_le (h.2 k a) hk.size⟩⟩
def kw (L p : Nat) (D : Dd) (g : Lg) : Kd := fun t => ∃ S, t = Th.log S L p D g
section
variable {w0 w w' : World} {X : List Kd} {i j L p n : Nat} {D : Dd} {g : Lg} {c : Sup}
theorem Fz.atw (h : Fz w0 w X) (hi : X[i]? = some (kw L p D g)) : ∃ S, LD w S L p D.d D.ws g ∧ (∀ k, S k → k < w.heap.size) ∧ ∀ (w' : World) (S' : Nat → Prop) (D' : Dd) (g' : Lg), LD w' S' L p D'.d D'.ws g' → Kept S w w' → (∀ k, S' k → S k ∨ w.heap.size ≤ k) → Fz w0 w' (X.set i (kw L p D' g')) := by
  obtain ⟨t, G, ⟨S, rfl⟩, ha, hf, hl⟩ := h.at hi
  exact ⟨S, ha.1, ha.2, fun w' S' D' g' hd hk hs => hl w' (.log (fun k => S' k ∧ k < w'.heap.size) L p D' g') G S _ ⟨hd.mono fun _ h1 h2 => ⟨h2, h1⟩, fun _ h1 => h1.2⟩ hk (fun _ _ e => e) (fun b hb => hs b hb.1) (fun _ e => e) (fun _ e => .inl e) ⟨_, rfl⟩⟩
theorem l_open (h : Fz w0 w X) (hi : X[i]? = some (kd p n D)) (hc : MayC c) (hn : (n : Int) = 1 + c.bl + c.lc) : Calls Tryz.prog 17 #[qp p, .agg (ccells c).toArray, .int .u64 0, .int .u64 1] w fun e w' => ∃ L, e = .returned (.tuple #[qp L, .int .i64 0]) ∧ Fz w0 w' (X.set i (kw L p D (opnG c 0 1))) := by
  obtain ⟨t, G, ⟨S, rfl⟩, ha, hf, hl⟩ := h.at hi
  refine (open_ok c 0 1 (by omega) (by omega) ha.1 (opnS_ok hc hn (by omega) (by omega))).mono ?_
  rintro e w' ⟨L, rfl, h1, h2, h3⟩
  exact ⟨L, rfl, hl w' (.log (fun k => More S w k ∧ k < w'.heap.size) L p D (opnG c 0 1)) G (fun _ => False) _ ⟨h2.mono fun _ a b => ⟨b, a⟩, fun _ a => a.2⟩ (Kept.of_below h3) (fun _ _ e => e.elim) (fun b hb => hb.1) (fun _ e => e) (fun _ e => .inl e) ⟨_, rfl⟩⟩
theorem l_image (ht : Tab w0) (h : Fz w0 w X) (hi : X[i]? = some (kw L p D g)) (hk : D.ws.length ≤ 100000) {b : Int} {v : List Int} (hv : v.length = 32) (hvb : Bytes v) (h0 : imgS g b = 0) : Calls Tryz.prog 47 #[qp L, .int .i64 b, .agg (U8 v).toArray] w fun e w' => e = .returned (.tuple #[.int .u64 g.fin, .int .i64 0]) ∧ Fz w0 w' (X.set i (kw L p (D.wr (secN g g.fin).toNat (R.encS (imgR g b v))) (imgG g b))) := by
  obtain ⟨S, hd, _, hl⟩ := h.atw hi
  refine (image_ok hd hk (h.tab ht) b v hv hvb h0).mono ?_
  rintro e w' ⟨rfl, h1, h2⟩
  exact ⟨rfl, hl w' _ (D.wr _ _) _ h1 h2 fun _ a => a⟩
theorem l_commit (ht : Tab w0) (h : Fz w0 w X) (hi : X[i]? = some (kw L p D g)) (hk : D.ws.length ≤ 100000) (h0 : moreS g = 0) : Calls Tryz.prog 48 #[qp L] w fun e w' => e = .returned (.tuple #[.int .u64 g.fin, .int .i64 0]) ∧ Fz w0 w' (X.set i (kw L p (D.wr (secN g g.fin).toNat (R.encS (comR g))) (comG g))) := by
  obtain ⟨S, hd, _, hl⟩ := h.atw hi
  refine (commit_ok hd hk (h.tab ht) h0).mono ?_
  rintro e w' ⟨rfl, h1, h2⟩
  exact ⟨rfl, hl w' _ (D.wr _ _) _ h1 h2 fun _ a => a⟩
theorem l_flush (h : Fz w0 w X) (hi : X[i]? = some (kw L p D g)) (hk : D.ws.length ≤ 100000) : Calls Tryz.prog 49 #[qp L] w fun e w' => e = .returned (.tuple #[.int .i64 D.ws.length, .int .i64 0]) ∧ Fz w0 w' (X.set i (kw L p D.fls g)) := by
  obtain ⟨S, hd, _, hl⟩ := h.atw hi
  refine (wflush_at hd hk).mono ?_
  rintro e w' ⟨rfl, h1, h2⟩
  exact ⟨rfl, hl w' S D.fls g h1 h2 fun _ a => .inl a⟩
theorem Fz.unlog (h : Fz w0 w X) (hi : X[i]? = some (kw L p D g)) : Fz w0 w (X.set i (kd p g.sz D)) := by
  obtain ⟨t, G, ⟨S, rfl⟩, ha, hf, hl⟩ := h.at hi
  exact hl w (.dsk (fun k => S k ∧ k ≠ L) p g.sz D) G (fun _ => False) _ ⟨ha.1.dsk, fun k a => ha.2 k a.1⟩ (Kept.of_below (Below.refl _ _)) (fun _ _ e => e.elim) (fun b hb => .inl hb.1) (fun _ e => e) (fun _ e => .inl e) ⟨_, rfl⟩
theorem p_crash (h : Fz w0 w X) (hj : X[j]? = some (kd p n D)) (hk : D.ws.length ≤ 100000) {a : Option Addr} {m cp : Nat} {K : List Int} (hx : JIn w a m K) (hm : m ≤ 140737488355328) : Calls Tryz.prog 21 #[qp p, .slice a m cp] w fun e w' => e = .returned (.tuple #[.int .i64 D.ws.length, .int .i64 0]) ∧ Fz w0 w' (X.set j (kd p n (D.crs K))) := by
  obtain ⟨S, hd, _, hl⟩ := h.atd hj
  refine (crash_any hd hk a m cp K hx hm).mono ?_
  rintro e w' ⟨rfl, h1, h2⟩
  exact ⟨rfl, hl w' S (D.crs K) h1 h2 fun _ a => .inl a⟩
end
structure MAt (w : World) (G : Nat → Prop) (v : Value) (ms : List (List (List Int))) : Prop where
  ex : ∃ vs : List Value, vs.length = ms.length ∧ w.ownsRow 0 66 1 v vs.length vs ∧ ∀ (i : Nat) (m : List (List Int)), ms[i]? = some m → ∃ b c, vs[i]? = some (.slice (some ⟨b, 0, none⟩) m.length c) ∧ G b ∧ w.rangeAt b 0 (VC m) ∧ 0 < (VC m).length
theorem MAt.nil (w : World) (G : Nat → Prop) : MAt w G (.slice none 0 0) [] := ⟨⟨[], rfl, World.ownsRow_nil _ _ _ _, fun i m h => (by simp at h)⟩⟩
def Th.maps (v : Value) (ms : List (List (List Int))) : Th := ⟨fun w G => MAt w G v ms, fun b => v.ownBlock = some b, fun w _ b h hb => by
    obtain ⟨vs, _, ho, _⟩ := h.ex
    exact (World.ownsRow.lt ho b hb).2, fun w w' G G' S h hk hf hS hG => by
    obtain ⟨vs, e, ho, hm⟩ := h.ex
    refine ⟨vs, e, own_same ho fun k ek => hk.block k (World.ownsRow.lt ho k ek).2 (hf k ek), fun i m hi => ?_⟩
    obtain ⟨b, c, e1, e2, e3, e4⟩ := hm i m hi
    have hl := range_lt e3 e4
    exact ⟨b, c, e1, hG b e2, range_block e3 (hk.block b hl (hS b e2 hl)), e4⟩⟩
def km (v : Value) (ms : List (List (List Int))) : Kd := fun t => t = Th.maps v ms
theorem infoV : (Tryz.prog.info? 66).map (fun i => (i.zero, i.size, i.bytes)) = some (some (.slice none 0 0), 1, 24) := by kernel_rfl
theorem infoE : (Tryz.prog.info? 39).map (fun i => (i.zero, i.size, i.bytes)) = some (some (.agg (List.replicate 32 (Value.int .u8 0)).toArray), 32, 32) := by kernel_rfl
theorem VC_ones (l : List (List Int)) : ∀ u ∈ VC l, u.oneCell' = true := fun u hu => by
  obtain ⟨x, hx, hu⟩ := List.mem_flatten.1 hu
  obtain ⟨y, _, rfl⟩ := List.mem_map.1 hx
  obtain ⟨z, _, rfl⟩ := List.mem_map.1 hu
  rfl
section
variable {w0 w w' : World} {X : List Kd} {i j N : Nat}
theorem Fz.nomaps (h : Fz w0 w X) : Fz w0 w (km (.slice none 0 0) [] :: X) := h.push (Below.refl _ _) (u := .maps (.slice none 0 0) []) (fun G => MAt.nil w G) (fun b hb => by cases hb) rfl
theorem Fz.noints (h : Fz w0 w X) : Fz w0 w (ki (.slice none 0 0) [] :: X) := h.push (Below.refl _ _) (u := .int (.slice none 0 0) []) (fun _ => World.ownsRow_nil _ _ _ _) (fun b hb => by cases hb) rfl
theorem slice0_is (w : World) : (Instr.buildSlice 66 0 #[]).run Tryz.prog w = .ok (.slice (some ⟨w.heap.size, 0, none⟩) 0 0) (w.alloc (.cells #[] 39)) := by
  obtain ⟨i0, hi0, hz0, hz1, hz2⟩ := info_parts infoE
  have hu : Tryz.prog.underlying 66 = some (.slice 39) := Tryz.underlying66
  simp [Instr.buildSlice, run_underlying hu, sizeOf, typeInfo, hi0, newRow, Instr.fill]
  rw [show Array.range 0 = #[] by simp [Array.range]]; simp
theorem slice1_is (w : World) (q : Option Addr) (m c : Nat) : (Instr.buildSlice 60 1 #[(0, .slice q m c)]).run Tryz.prog w = .ok (.slice (some ⟨w.heap.size, 0, none⟩) 1 1) (w.alloc (.cells #[.slice q m c] 66)) := by
  obtain ⟨i0, hi, hz0, hz1, hz2⟩ := info_parts infoV
  refine run_buildSlice w 60 66 1 _ _ i0 _ Tryz.underlying60 hi hz0 (by rw [hz1]; decide) (by rw [hz1]; decide) ?_
  rw [hz1]
  have hA : ∀ A : Array Value, A.size = 1 → Instr.fill (fun i => some (i * 1, 1)) A [(0, .slice q m c)] = some #[.slice q m c] := by
    intro A hA
    have a0 := part_fill 0 [Value.slice q m c] A.toList (by simp; omega)
    simp only [Instr.fill, Value.cells, List.size_toArray, Nat.zero_mul]
    rw [if_neg (by simp [hA])]
    have a0' : (#[Value.slice q m c] : Array Value).zipIdx.foldl (fun cs x => match x with | (c, j) => cs.setIfInBounds (0 + j) c) A = ((A.toList.take 0 ++ [Value.slice q m c] ++ A.toList.drop (0 + 1))).toArray := a0
    rw [a0', List.drop_eq_nil_of_le (by simp [hA])]
    simp
  exact hA _ (by simp)
theorem Fz.addmap {v : Value} {ms : List (List (List Int))} {now : List (List Int)} (h : Fz w0 w X) (hi : X[i]? = some (km v ms)) (hj : X[j]? = some (kb N 39 (VC now))) (h32 : ∀ x ∈ now, x.length = 32) {m : Nat} (hm0 : now.length = m) (h0 : 0 < now.length) (h64 : now.length ≤ 64) (hml : ms.length ≤ 1000) : ∃ b c w2 v4 w4,
    (Builtin.append_ #[66, 66] 66 #[.slice (some ⟨w.heap.size, 0, none⟩) 0 0, .slice (some ⟨N, 0, none⟩) m m]).run Tryz.prog (w.alloc (.cells #[] 39)) = .ok (.slice (some ⟨b, 0, none⟩) m c) w2 ∧ Fz w0 w2 X ∧
    (Builtin.append_ #[60, 60] 60 #[v, .slice (some ⟨w2.heap.size, 0, none⟩) 1 1]).run Tryz.prog (w2.alloc (.cells #[.slice (some ⟨b, 0, none⟩) m c] 66)) = .ok v4 w4 ∧ Fz w0 w4 (X.set i (km v4 (ms ++ [now]))) := by
  subst hm0
  obtain ⟨i0, hi0, hz0, hz1, hz2⟩ := info_parts infoE
  obtain ⟨i1, hi1, hy0, hy1, hy2⟩ := info_parts infoV
  have hlN := (h.atb hj).1
  have hltN := (h.atb hj).2.1
  have hb := below_alloc w (.cells #[] 39)
  have own0 : (w.alloc (.cells #[] 39)).ownsRow w.heap.size 39 32 (.slice (some ⟨w.heap.size, 0, none⟩) 0 0) 0 [] := World.ownsRow_made w #[] 0 (Nat.le_refl _) (Nat.zero_le _) rfl
  have hmx : (4000000 : Nat) ≤ maxLen := by decide
  obtain ⟨u, w2, hrun, hown, hgrow, _, _⟩ := run_append_own_at (P := Tryz.prog) (w.alloc (.cells #[] 39)) w.heap.size 66 66 39 i0 _ 32 32 Tryz.underlying66 hi0 hz0 hz1 hz2 rfl (by decide) _ 0 [] own0 ⟨N, 0, none⟩ now.length now.length (VC now) (VC_length h32) (fun k x hx => by
    rw [Addr.add_mid]
    exact (LAt.range (hlN.later hb)) k x hx) (VC_ones now) (by omega) (by omega) (by simp)
  rw [Nat.zero_add, List.nil_append] at hown
  obtain ⟨q, c, rfl, hq1, hq2⟩ := own_slice hown
  have hne : 0 < (VC now).length := by rw [VC_length h32]; omega
  obtain ⟨b, rfl⟩ : ∃ b, q = some ⟨b, 0, none⟩ := by
    rcases hown.2 with ⟨_, e⟩ | ⟨b, cap, cur, e, _⟩
    · omega
    · cases e; exact ⟨b, rfl⟩
  have hbl : Below w.heap.size w w2 := ((Below.refl _ w).alloc (Nat.le_refl _) _).grown hgrow (by simp) fun j ej => by simp only [Value.ownBlock, Option.some.injEq] at ej; omega
  have hbb := World.ownsRow.lt hown b rfl
  have hr2 : w2.rangeAt b 0 (VC now) := own_range hown
  have hb3 : Below w2.heap.size w2 (w2.alloc (.cells #[.slice (some ⟨b, 0, none⟩) now.length c] 66)) := below_alloc _ _
  obtain ⟨t, G, rfl, ha, hf, hL⟩ := h.at hi
  obtain ⟨vs, el, ho, hm⟩ := (show MAt w G v ms from ha).ex
  have ho3 := own_later ho (below_then hbl hb3)
  obtain ⟨v4, w4, hrun4, hown4, hgrow4, _, h5⟩ := run_append_own_at (P := Tryz.prog) (w2.alloc (.cells #[.slice (some ⟨b, 0, none⟩) now.length c] 66)) 0 60 60 66 i1 _ 1 24 Tryz.underlying60 hi1 hy0 hy1 hy2 rfl (by decide) v vs.length vs ho3 ⟨w2.heap.size, 0, none⟩ 1 1 [.slice (some ⟨b, 0, none⟩) now.length c] rfl (cell_one_new _ _ _) (fun x hx => by rw [List.mem_singleton.1 hx]; rfl) (by omega) (by omega) (Nat.zero_le _)
  have hsz : w.heap.size ≤ w2.heap.size := hbl.size
  have hsz3 : w2.heap.size ≤ (w2.alloc (.cells #[.slice (some ⟨b, 0, none⟩) now.length c] 66)).heap.size := hb3.size
  have hvo : ∀ k, v.ownBlock = some k → k < w.heap.size := fun k hk => (World.ownsRow.lt ho k hk).2
  have hkeep : ∀ k, k < w2.heap.size → v.ownBlock ≠ some k → w4.heap[k]? = w2.heap[k]? := fun k hk hne => (hgrow4.block k (by omega) fun e => hne e.symm).trans (hb3.block k hk)
  refine ⟨b, c, w2, v4, w4, hrun, h.later hbl, hrun4, hL w4 (.maps v4 (ms ++ [now])) (fun g => G g ∨ g = b) (fun k => v.ownBlock = some k) _ ?_ ⟨hgrow4.os.trans ((hb3.os).trans hbl.os), hgrow4.tape.trans ((hb3.tape).trans hbl.tape), hgrow4.output.trans ((hb3.output).trans hbl.output), Nat.le_trans hsz (Nat.le_trans hsz3 hgrow4.size), fun k hk hne => (hkeep k (by omega) hne).trans (hbl.block k hk)⟩ (fun k _ hk => hk) (fun k hk => ?_) (fun _ a => .inl a) (fun k hk => ?_) rfl⟩
  · refine ⟨vs ++ [.slice (some ⟨b, 0, none⟩) now.length c], by simp [el], by rw [List.length_append, List.length_singleton]; exact hown4, fun k m hk => ?_⟩
    by_cases hlt : k < ms.length
    · rw [List.getElem?_append_left hlt] at hk
      obtain ⟨b', c', e1, e2, e3, e4⟩ := hm k m hk
      have hl := range_lt e3 e4
      exact ⟨b', c', by rw [List.getElem?_append_left (by omega)]; exact e1, .inl e2, range_block e3 ((hkeep b' (by omega) fun e => (hf b' e).2.2 e2).trans (hbl.block b' hl)), e4⟩
    · have hl2 := (List.getElem?_eq_some_iff.1 hk).1
      rw [List.length_append, List.length_singleton] at hl2
      obtain rfl : k = ms.length := by omega
      rw [List.getElem?_append_right (Nat.le_refl _), Nat.sub_self] at hk
      obtain rfl : now = m := by simpa using hk
      exact ⟨b, c, by rw [List.getElem?_append_right (by omega), el, Nat.sub_self]; rfl, .inr rfl, range_block hr2 (hkeep b hbb.2 fun e => by have := hvo b e; omega), hne⟩
  · have hk : v4.ownBlock = some k := hk
    rcases h5 with e | e
    · exact .inl (by rw [e] at hk; exact hk)
    · refine .inr ?_
      rw [e] at hk
      injection hk with hk
      omega
  · rcases hk with hk | rfl
    · exact .inl hk
    · refine .inr ⟨hbb.1, by have := hbb.2; have := hgrow4.size; omega, fun hk => ?_⟩
      have hk : v4.ownBlock = some k := hk
      rcases h5 with e | e
      · rw [e] at hk; have := hvo k hk; omega
      · rw [e] at hk
        injection hk with hk
        have := hbb.2; omega
end
end Go.Proofs.YtdadpepfpiimgaaGreatDoor.Q
namespace Go.Proofs.YtdadpepfpiimgaaGreatDoor.Q
open Go.RowKit
structure TxV where
  a : Option Addr
  n : Nat
  c : Nat
  f : Int
  m : Bool
  xs : List Int
abbrev TxV.cells (t : TxV) : List Value := tcells t.a t.n t.c t.f t.m
structure TsIn (w : World) (p : Option Addr) (n : Nat) (ts : List TxV) : Prop where
  len : ts.length = n
  rows : 0 < n → ∃ b o, p = some ⟨b, o, none⟩ ∧ b < w.heap.size ∧ ∀ (i : Nat) t, ts[i]? = some t → w.rangeAt b (o + i * 3) t.cells
  ins : ∀ t ∈ ts, IIn w .i64 t.a t.n t.xs ∧ t.n ≤ 140737488355328 ∧ (0 ≤ t.f ∧ t.f < 256)
structure T1 (w0 : World) (b o : Nat) (t : TxV) : Prop where
  lt : b < w0.heap.size
  row : w0.rangeAt b o t.cells
  blk : IIn w0 .i64 t.a t.n t.xs
  few : t.n ≤ 140737488355328
  f0 : 0 ≤ t.f
  f1 : t.f < 256
theorem TsIn.at {w : World} {p : Option Addr} {n : Nat} {ts : List TxV} (h : TsIn w p n ts) {r : Nat} (hr : r < n) : ∃ b o t, p = some ⟨b, o, none⟩ ∧ ts[r]? = some t ∧ T1 w b (o + r * 3) t := by
  obtain ⟨b, o, e, hl, hc⟩ := h.rows (by omega)
  have hlt : r < ts.length := by rw [h.len]; exact hr
  have hin := h.ins _ (List.getElem_mem hlt)
  exact ⟨b, o, ts[r], e, List.getElem?_eq_getElem hlt, hl, hc r _ (List.getElem?_eq_getElem hlt), hin.1, hin.2.1, hin.2.2.1, hin.2.2.2⟩
section
variable {w0 w w' W : World} {X : List Kd} {i j B b o : Nat} {t : TxV}
theorem T1.range (h : T1 w0 b o t) (hb : Below w0.heap.size w0 W) : W.rangeAt b o t.cells := rangeAt_same h.row (hb.block b h.lt)
theorem T1.load (h : T1 w0 b o t) (hb : Below w0.heap.size w0 W) : (Instr.loadAt 127 (.pointer (some ⟨b, o, none⟩))).run Tryz.prog W = .ok (.agg t.cells.toArray) W :=
  run_loadAt_mid W b o 127 t.cells _ (h.range hb) Tryz.underlying127 rfl (by kernel_rfl)
theorem T1.c1 (h : T1 w0 b o t) (hb : Below w0.heap.size w0 W) : W.cell? ⟨b, o + 1, none⟩ = some (.int .u8 t.f) := h.range hb 1 _ rfl
theorem T1.c2 (h : T1 w0 b o t) (hb : Below w0.heap.size w0 W) : W.cell? ⟨b, o + 2, none⟩ = some (.bool t.m) := h.range hb 2 _ rfl
def mcl (r s : Int) (vc vm : Value) : List Value := [.int .i64 r, .int .i64 s, vc, vm]
theorem mc0 {r s : Int} {vc vm : Value} (h : LAt 62 W B (mcl r s vc vm)) : W.cell? ⟨B, 0, none⟩ = some (.int .i64 r) := by rw [LAt.cell h 0]; rfl
theorem mc1 {r s : Int} {vc vm : Value} (h : LAt 62 W B (mcl r s vc vm)) : W.cell? ⟨B, 1, none⟩ = some (.int .i64 s) := by rw [LAt.cell h 1]; rfl
theorem mc2 {r s : Int} {vc vm : Value} (h : LAt 62 W B (mcl r s vc vm)) : W.cell? ⟨B, 2, none⟩ = some vc := by rw [LAt.cell h 2]; rfl
theorem mc3 {r s : Int} {vc vm : Value} (h : LAt 62 W B (mcl r s vc vm)) : W.cell? ⟨B, 3, none⟩ = some vm := by rw [LAt.cell h 3]; rfl
theorem mfr {r s : Int} {vc vm : Value} (h : LAt 62 W B (mcl r s vc vm)) (k : Nat) : W.frozen? ⟨B, k, none⟩ = false := frozen_of_row W B k _ 62 h
theorem cfc {c : Sup} (h : Fz w0 w X) (hi : X[i]? = some (kb B 23 (ccells c))) : CAt w B c := (h.atb hi).1
theorem cfl {c : Sup} (h : Fz w0 w X) (hi : X[i]? = some (kb B 23 (ccells c))) : (Instr.loadAt 23 (.pointer (some ⟨B, 0, none⟩))).run Tryz.prog w = .ok (.agg (ccells c).toArray) w := CAt.load23 (h.atb hi).1
theorem Fz.intcell {q m cap : Nat} {l : List Int} (h : Fz w0 w X) (hi : X[i]? = some (ki (.slice (some ⟨q, 0, none⟩) m cap) l)) {k : Nat} {y : Int} (hm : l.length = m) (hy : l[k]? = some y) : w.cell? ⟨q, k, none⟩ = some (.int .i64 y) := by
  subst hm
  obtain ⟨t, G, rfl, ha, -, -⟩ := h.at hi
  have := own_range (show w.ownsRow 0 3 1 (.slice (some ⟨q, 0, none⟩) l.length cap) l.length _ from ha) k (.int .i64 y) (by rw [List.getElem?_map, hy]; rfl)
  rwa [Nat.zero_add] at this
theorem Fz.intslice {v : Value} {l : List Int} (h : Fz w0 w X) (hi : X[i]? = some (ki v l)) : ∃ q n c, v = .slice q n c := by
  obtain ⟨t, G, rfl, ha, -, -⟩ := h.at hi
  obtain ⟨q, c, e, -, -⟩ := own_slice (show w.ownsRow 0 3 1 v l.length _ from ha)
  exact ⟨q, _, c, e⟩
theorem Fz.mapslice {v : Value} {ms : List (List (List Int))} (h : Fz w0 w X) (hi : X[i]? = some (km v ms)) : ∃ q n c, v = .slice q n c := by
  obtain ⟨t, G, rfl, ha, -, -⟩ := h.at hi
  obtain ⟨vs, _, ho, _⟩ := (show MAt w G v ms from ha).ex
  obtain ⟨q, c, e, -, -⟩ := own_slice ho
  exact ⟨q, _, c, e⟩
theorem Fz.cells {ty : TypeId} : ∀ (vs : List Value) (o : Nat) {w : World} {X : List Kd} {cs : List Value}, Fz w0 w X → X[i]? = some (kb B ty cs) → o + vs.length ≤ cs.length → Fz w0 (w.setCells B o vs) (X.set i (kb B ty (cs.take o ++ vs ++ cs.drop (o + vs.length))))
  | [], o, w, X, cs, h, hi, _ => by
    have e : cs.take o ++ ([] : List Value) ++ cs.drop (o + ([] : List Value).length) = cs := by simp
    rw [e, Fz.set_same hi]; exact h
  | v :: r, o, w, X, cs, h, hi, hl => by
    simp only [List.length_cons] at hl
    have hlt := (List.getElem?_eq_some_iff.1 hi).1
    have := Fz.cells r (o + 1) (h.cell hi o v) (List.getElem?_set_self hlt) (by rw [List.length_set]; omega)
    have e : (cs.set o v).take (o + 1) ++ r ++ (cs.set o v).drop (o + 1 + r.length) = cs.take o ++ v :: r ++ cs.drop (o + (r.length + 1)) := by
      rw [List.take_succ_eq_append_getElem (by rw [List.length_set]; omega), List.take_set_of_le (by omega), List.drop_set_of_lt (by omega), List.getElem_set_self]
      simp [Nat.add_comm, Nat.add_left_comm]
    rw [e, List.set_set] at this
    exact this
theorem VC_cons (v : List Int) (l : List (List Int)) : VC (v :: l) = U8 v ++ VC l := rfl
theorem VC_set : ∀ (l : List (List Int)) (k : Nat) (v : List Int), (∀ x ∈ l, x.length = 32) → v.length = 32 → k < l.length → (VC l).take (k * 32) ++ U8 v ++ (VC l).drop (k * 32 + (U8 v).length) = VC (l.set k v)
  | [], k, v, _, _, hk => absurd hk (Nat.not_lt_zero _)
  | x :: l, 0, v, h, hv, _ => by
    have hx : (U8 x).length = 32 := by rw [U8_length]; exact h x (List.mem_cons.2 (.inl rfl))
    rw [VC_cons, List.set_cons_zero, VC_cons, U8_length, hv, Nat.zero_mul, List.take_zero, List.nil_append, Nat.zero_add, List.drop_append, hx, Nat.sub_self, List.drop_of_length_le (by omega)]
    rfl
  | x :: l, k + 1, v, h, hv, hk => by
    have hx : (U8 x).length = 32 := by rw [U8_length]; exact h x (List.mem_cons.2 (.inl rfl))
    have ih := VC_set l k v (fun y hy => h y (List.mem_cons.2 (.inr hy))) hv (by simpa using hk)
    have hU : (U8 v).length = 32 := by rw [U8_length, hv]
    rw [hU] at ih ⊢
    rw [VC_cons, List.set_cons_succ, VC_cons, ← ih, List.take_append, List.drop_append, hx, List.take_of_length_le (l := U8 x) (by omega), List.drop_of_length_le (l := U8 x) (by omega), show (k + 1) * 32 - 32 = k * 32 by omega, show (k + 1) * 32 + 32 - 32 = k * 32 + 32 by omega]
    simp
theorem VC_rep (n : Nat) : VC (List.replicate n (zs 32)) = List.replicate (n * 32) (Value.int .u8 0) := by
  induction n with
  | zero => rfl
  | succ n ih =>
    rw [List.replicate_succ, VC_cons, ih, show U8 (zs 32) = List.replicate 32 (Value.int .u8 0) from rfl, List.replicate_append_replicate]; congr 1; omega
end
def v93 (a b c : Int) : List Int := a :: b :: c :: zs 29
theorem v93_len (a b c : Int) : (v93 a b c).length = 32 := by simp [v93, zs_len]
theorem v93_bytes {a b c : Int} (ha : 0 ≤ a ∧ a < 256) (hb : 0 ≤ b ∧ b < 256) (hc : 0 ≤ c ∧ c < 256) : Bytes (v93 a b c) := fun y hy => by
  simp only [v93, List.mem_cons] at hy
  rcases hy with rfl | rfl | rfl | hy
  · exact ha
  · exact hb
  · exact hc
  · exact zs_bytes 29 y hy
theorem build_v3 (w : World) (a b c : Int) : (Instr.build 39 #[(0, .int .u8 a), (1, .int .u8 b), (2, .int .u8 c)]).run Tryz.prog w = .ok (.agg (U8 (v93 a b c)).toArray) w := run_build w 39 _ _ (by kernel_rfl)
theorem build_v99 (w : World) : (Instr.build 39 #[(0, .int .u8 99)]).run Tryz.prog w = .ok (.agg (U8 (v93 99 0 0)).toArray) w := run_build w 39 _ _ (by kernel_rfl)
section
variable {P : Program} {ops : Array Oper} {o : Oper} {a : Act} {w w' : World} {K : Act → World → Prop} {Q : Exit → Act → World → Prop} {E : Prop}
theorem step_slice_is (hw : Region.wanted o (yielded ops a.tmps) = true) (ty n : Nat) {ps : Array (Nat × Operand)} (ho : o.op = .buildSlice ty n ps) {vs : List (Nat × Value)} {v : Value} (hx : ps.toList.map (fun (i, x) => (i, a.eval x)) = vs) (hrun : (Instr.buildSlice ty n vs.toArray).run P w = .ok v w') (hK : K (a.put o.dst v) w') : if Region.wanted o (yielded ops a.tmps) = true then Oper.wp P o a w K Q else E := by
  rw [if_pos hw]
  have hr : (execOp a.eval o).run P w = .ok (.value v) w' := by unfold execOp; simp only [ho]; rw [show ps.map (fun (i, x) => (i, a.eval x)) = vs.toArray by rw [← hx, ← Array.toList_map]]; simp only [Sem.run_bind, hrun, Result.andThen_ok, Sem.run_pure]
  unfold Oper.wp
  rw [hr]
  exact hK
theorem step_append_is (hw : Region.wanted o (yielded ops a.tmps) = true) {s x : Operand} {t ty : TypeId} (ho : o.op = .call { callee := .builtin .append, args := #[s, x], argTypes := #[t, t] }) (hty : o.type = ty) {u1 u2 v : Value} (hs : a.eval s = u1) (hx : a.eval x = u2) (hrun : (Builtin.append_ #[t, t] ty #[u1, u2]).run P w = .ok v w') (hK : K (a.put o.dst v) w') : if Region.wanted o (yielded ops a.tmps) = true then Oper.wp P o a w K Q else E := by
  rw [if_pos hw]
  have hr : (execOp a.eval o).run P w = .ok (.value v) w' := by subst hty; simp [execOp, ho, resolve, invoke, builtin, hs, hx, hrun, Result.andThen]
  unfold Oper.wp
  rw [hr]
  exact hK
end
end Go.Proofs.YtdadpepfpiimgaaGreatDoor.Q
