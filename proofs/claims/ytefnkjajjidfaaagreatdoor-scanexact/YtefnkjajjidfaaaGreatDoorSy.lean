/-
  Plain mathematics of layer 10, third part: a story that is written into a log, and what of it is found.
-/
import Derived.Test.YtefnkjajjidfaaaGreatDoorSc
import Derived.Test.YtefnkjajjidfaaaGreatDoorHm
namespace Go.Proofs.YtefnkjajjidfaaaGreatDoor

/-- records, one behind the other from a position on -/
def foldS (mr : Int) : List R.Rec → Int → Sc → Option Sc
  | [], _, s => some s
  | r :: l, p, s => (scStep mr s p r).bind fun s' => foldS mr l (p + 1) s'
theorem foldS_append (mr : Int) : ∀ (l m : List R.Rec) (p : Int) (s : Sc), foldS mr (l ++ m) p s = (foldS mr l p s).bind fun s' => foldS mr m (p + l.length) s'
  | [], m, p, s => by show foldS mr m p s = foldS mr m (p + ((0 : Nat) : Int)) s; rw [show p + ((0 : Nat) : Int) = p by omega]
  | r :: l, m, p, s => by
    show (scStep mr s p r).bind (fun s' => foldS mr (l ++ m) (p + 1) s') = ((scStep mr s p r).bind (fun s' => foldS mr l (p + 1) s')).bind _
    cases scStep mr s p r with
    | none => rfl
    | some s1 =>
      show foldS mr (l ++ m) (p + 1) s1 = (foldS mr l (p + 1) s1).bind _
      rw [foldS_append mr l m (p + 1) s1]
      congr 1
      funext s'
      rw [show p + 1 + (l.length : Int) = p + ((r :: l).length : Nat) by simp only [List.length_cons]; omega]
theorem foldS_snoc (mr : Int) (l : List R.Rec) (r : R.Rec) (p : Int) (s : Sc) : foldS mr (l ++ [r]) p s = (foldS mr l p s).bind fun s' => scStep mr s' (p + l.length) r := by
  rw [foldS_append]
  congr 1
  funext s'
  show (scStep mr s' (p + l.length) r).bind (fun s'' => some s'') = _
  cases scStep mr s' (p + l.length) r <;> rfl
theorem scRun_fold {st : Int → R.Rec × Bool} {mr : Int} : ∀ (l : List R.Rec) (p : Int) (s s' : Sc) (k : Nat), l.length ≤ k → (∀ (i : Nat) (r : R.Rec), l[i]? = some r → st (p + i) = (r, true)) → foldS mr l p s = some s' → scRun st mr k p s = scRun st mr (k - l.length) (p + l.length) s'
  | [], p, s, s', k, _, _, h => by
    obtain rfl : s = s' := Option.some.inj h
    show scRun st mr k p s = scRun st mr k (p + ((0 : Nat) : Int)) s
    rw [show p + ((0 : Nat) : Int) = p by omega]
  | r :: l, p, s, s', k, hk, hs, h => by
    obtain ⟨k', rfl⟩ : ∃ k', k = k' + 1 := ⟨k - 1, by simp only [List.length_cons] at hk; omega⟩
    have h0 := hs 0 r rfl
    rw [show p + ((0 : Nat) : Int) = p by omega] at h0
    have h' : (scStep mr s p r).bind (fun s1 => foldS mr l (p + 1) s1) = some s' := h
    cases e : scStep mr s p r with
    | none => rw [e] at h'; cases h'
    | some s1 =>
      rw [e] at h'
      rw [scRun_go (by rw [h0]) (by rw [h0]; exact e)]
      rw [scRun_fold l (p + 1) s1 s' k' (by simp only [List.length_cons] at hk; omega) (fun i x hx => by
        have := hs (i + 1) x (by simpa using hx)
        rw [show p + 1 + (i : Int) = p + ((i + 1 : Nat) : Int) by omega]; exact this) h']
      simp only [List.length_cons]
      rw [show k' + 1 - (l.length + 1) = k' - l.length by omega, show p + 1 + (l.length : Int) = p + ((l.length + 1 : Nat) : Int) by omega]
/-- those whose commits stand ahead of a position; the end behind them -/
def aheadT (l : List TX) (p : Int) : List TX := l.filter fun t => decide (t.p < p)
def endT (l : List TX) (e : Int) : Int := l.foldl (fun _ t => t.p + 1) e
theorem endT_snoc (l : List TX) (t : TX) (e : Int) : endT (l ++ [t]) e = t.p + 1 := by simp [endT]
theorem aheadT_snoc (l : List TX) (t : TX) (p : Int) : aheadT (l ++ [t]) p = if t.p < p then aheadT l p ++ [t] else aheadT l p := by
  unfold aheadT
  rw [List.filter_append]
  by_cases h : t.p < p
  · rw [if_pos h]; simp [h]
  · rw [if_neg h]; simp [h]
theorem aheadT_all {l : List TX} {p : Int} (h : ∀ t ∈ l, t.p < p) : aheadT l p = l := List.filter_eq_self.2 fun t ht => by simpa using h t ht
/-- what has been read of the first k records -/
theorem foldS_take {mr : Int} : ∀ (n : Nat) (l : List R.Rec), l.length = n → ∀ s, foldS mr l 0 ⟨[], 0, []⟩ = some s → (∀ t ∈ s.txs, t.p < n) ∧ s.fin = endT s.txs 0 ∧ ∀ k, k ≤ n → ∃ s', foldS mr (l.take k) 0 ⟨[], 0, []⟩ = some s' ∧ s'.txs = aheadT s.txs k ∧ s'.fin = endT s'.txs 0
  | 0, l, hl, s, h => by
    obtain rfl : l = [] := List.length_eq_zero_iff.1 hl
    obtain rfl := Option.some.inj h
    refine ⟨fun t ht => (by cases ht), rfl, fun k hk => ⟨_, by rw [List.take_nil]; rfl, rfl, rfl⟩⟩
  | n + 1, l, hl, s, h => by
    obtain ⟨l, r, rfl⟩ : ∃ l' r', l = l' ++ [r'] := ⟨l.dropLast, l.getLast (by intro e; rw [e] at hl; cases hl), (List.dropLast_concat_getLast _).symm⟩
    have hn : l.length = n := by simpa using hl
    rw [foldS_snoc] at h
    cases e : foldS mr l 0 ⟨[], 0, []⟩ with
    | none => rw [e] at h; cases h
    | some s1 =>
      rw [e] at h
      have h' : scStep mr s1 (0 + (l.length : Int)) r = some s := h
      obtain ⟨i1, i2, i3⟩ := foldS_take n l hn s1 e
      have hs : (s.txs = s1.txs ∧ s.fin = s1.fin) ∨ (s.txs = s1.txs ++ [⟨(n : Int), s1.come⟩] ∧ s.fin = n + 1) := by
        by_cases c1 : r.kind = 1 ∧ Folls s1.come r.block mr
        · rw [scStep_img c1] at h'; cases h'; exact .inl ⟨rfl, rfl⟩
        · by_cases c2 : r.kind = 2 ∧ r.images = s1.come.length
          · rw [scStep_com c2, hn] at h'; cases h'; refine .inr ⟨?_, ?_⟩
            · show s1.txs ++ [(⟨0 + (n : Int), s1.come⟩ : TX)] = _; rw [show (0 : Int) + n = n by omega]
            · show (0 : Int) + n + 1 = n + 1; omega
          · rw [scStep_no c1 c2] at h'; cases h'
      have hall : (∀ t ∈ s.txs, t.p < ((n + 1 : Nat) : Int)) ∧ s.fin = endT s.txs 0 := by
        rcases hs with ⟨a, b⟩ | ⟨a, b⟩
        · rw [a, b]; exact ⟨fun t ht => by have := i1 t ht; omega, i2⟩
        · rw [a, b, endT_snoc]
          refine ⟨fun t ht => ?_, rfl⟩
          rcases List.mem_append.1 ht with ht | ht
          · have := i1 t ht; omega
          · rw [List.mem_singleton.1 ht]; show (n : Int) < _; omega
      refine ⟨hall.1, hall.2, fun k hk => ?_⟩
      by_cases ck : k = n + 1
      · subst ck
        rw [List.take_of_length_le (by rw [hl]; exact Nat.le_refl _), foldS_snoc, e]
        exact ⟨s, h', by rw [aheadT_all hall.1], hall.2⟩
      · have hk' : k ≤ n := by omega
        obtain ⟨s', f1, f2, f3⟩ := i3 k hk'
        refine ⟨s', by rw [List.take_append_of_le_length (by omega)]; exact f1, ?_, f3⟩
        rcases hs with ⟨a, _⟩ | ⟨a, _⟩
        · rw [a]; exact f2
        · rw [a, aheadT_snoc, if_neg (by show ¬ (n : Int) < k; omega)]; exact f2
theorem lg_eq {q c : Int} (h0 : 0 ≤ q) (h1 : q < c) : q % c = q := Int.emod_eq_of_lt h0 h1

/-- **a story that is being written** -/
structure Sty (c : Sup) (g : Lg) (ws : List Wr) (all : List R.Rec) (s : Sc) : Prop where
  mc : MayC c
  ok : g.Ok
  gc : g.c = c
  gt : g.tail = 0
  gl : g.life = 1
  hold : Holds g ws (newS c) 0 all
  fold : foldS c.mr all 0 ⟨[], 0, []⟩ = some s
  blank : ∀ q, g.fin ≤ q → q < c.lc → newest ws (newS c) (secN g q).toNat = zs 64
  sup : newest ws (newS c) 0 = encS (sup1 c)
  imgs : g.imgs = s.come.length
  last : s.come.length ≠ 0 → g.last = lastB s.come
  lst0 : s.come.length = 0 → g.last = -1
  bd : ∀ r ∈ all, r.block < c.bl
theorem newS_sup (s : Sup) : sec (newS s) 0 = encS (sup1 s) := by
  have := encS_len (sup1 s)
  unfold newS sec
  rw [Nat.mul_zero, List.drop_zero, List.append_assoc, List.take_append_of_le_length (by omega), List.take_of_length_le (by omega)]
theorem newS_log (s : Sup) (i : Nat) (h1 : 1 + s.bl.toNat ≤ i) (h2 : i < cntS s) : sec (newS s) i = zs 64 := by
  have e1 := encS_len (sup1 s); have e2 := homes_len s.bl.toNat
  unfold cntS at h2
  unfold newS sec
  have hl : (encS (sup1 s) ++ homes s.bl.toNat).length = 64 * (1 + s.bl.toNat) := by rw [List.length_append, e1, e2]; omega
  rw [List.drop_append, hl, List.drop_of_length_le (by rw [hl]; omega), List.nil_append]
  unfold zs
  rw [List.drop_replicate, List.take_replicate]
  congr 1
  omega
theorem Sty.start {c : Sup} (h : MayC c) : Sty c (opnG c 0 1) [] [] ⟨[], 0, []⟩ := by
  have hb := h.1; have hl := h.2.1
  have h0 : opnS c (1 + c.bl + c.lc) 0 1 = 0 := opnS_ok h rfl (by omega) (by omega)
  refine ⟨h, opnG_ok h0 (by omega) (by omega), rfl, rfl, rfl, Holds.start c 0 1 [] (newS c), rfl, fun q h1 h2 => ?_, newS_sup c, rfl, fun k => absurd rfl k, fun _ => rfl, fun r h => (by cases h)⟩
  have h1' : (0 : Int) ≤ q := h1
  rw [newest_nil]
  refine newS_log c _ ?_ ?_
  · show _ ≤ (1 + c.bl + q % c.lc).toNat; rw [lg_eq h1' h2]; omega
  · show (1 + c.bl + q % c.lc).toNat < _; rw [lg_eq h1' h2]; unfold cntS; omega
theorem Sty.app {c : Sup} {g g' : Lg} {ws : List Wr} {all : List R.Rec} {s s' : Sc} (h : Sty c g ws all s) (hm : moreS g = 0) (ok' : g'.Ok) (hc : g'.c = g.c) (ht : g'.tail = g.tail) (hl : g'.life = g.life) (hf : g'.fin = g.fin + 1) {r : R.Rec} (hw : r.Wf) (hmay : R.may r = true) (hp : r.pos = g.fin) (hstep : scStep c.mr s g.fin r = some s') (hi : g'.imgs = s'.come.length) (hla : s'.come.length ≠ 0 → g'.last = lastB s'.come) (hla0 : s'.come.length = 0 → g'.last = -1) (hbd : r.block < c.bl) :
    Sty c g' (ws ++ [⟨(secN g g.fin).toNat, R.encS r⟩]) (all ++ [r]) s' := by
  have hlen := h.hold.len
  have hs : ∀ p, secN g' p = secN g p := fun p => by unfold secN; rw [hc]
  have m2 := (moreS_zero hm).2
  have hu := h.ok.us
  rw [h.gc, h.gt] at m2 hu
  have f0 : 0 ≤ g.fin := by omega
  refine ⟨h.mc, ok', by rw [hc, h.gc], by rw [ht, h.gt], by rw [hl, h.gl], h.hold.app h.ok hm hc ht hf hw hmay hp, ?_, fun q h1 h2 => ?_, ?_, hi, hla, hla0, fun x hx => (List.mem_append.1 hx).elim (h.bd x) fun e => by rw [List.mem_singleton.1 e]; exact hbd⟩
  · rw [foldS_snoc, h.fold]
    show scStep c.mr s (0 + (all.length : Int)) r = some s'
    rw [hlen]; exact hstep
  · rw [hf] at h1
    rw [hs, newest_snoc, if_neg (sec_ne h.ok (by omega) (by rw [h.gc]; omega) (by rw [h.gc]; omega))]
    exact h.blank q (by omega) h2
  · rw [newest_snoc, if_neg]
    · exact h.sup
    · have h4 := Int.emod_nonneg g.fin (show g.c.lc ≠ 0 by have := h.ok.cf.2.1; omega)
      have := h.ok.cf.1
      unfold secN; omega
theorem Sty.img {c : Sup} {g : Lg} {ws : List Wr} {all : List R.Rec} {s : Sc} (h : Sty c g ws all s) {b : Int} (h0 : imgS g b = 0) {v : List Int} (hv : v.length = 32) (hvb : Bytes v) :
    Sty c (imgG g b) (ws ++ [⟨(secN g g.fin).toNat, R.encS (imgR g b v)⟩]) (all ++ [imgR g b v]) ⟨s.txs, s.fin, s.come ++ [⟨b, v⟩]⟩ := by
  obtain ⟨hm, hb⟩ := imgS_zero h0
  have hi := h.imgs
  refine h.app hm (imgG_ok h.ok h0) rfl rfl rfl rfl (imgR_wf h.ok hb hv hvb) (imgR_may h.ok hb) rfl (scStep_img ⟨rfl, ?_, ?_⟩) ?_ (fun _ => ?_) (fun k => ?_) (by have := h.gc; show b < c.bl; rw [← this]; omega)
  · have := h.gc; rw [← this]; omega
  · by_cases c0 : s.come.length = 0
    · exact .inl c0
    · refine .inr ?_
      have := h.last c0
      show lastB s.come < b; omega
  · show g.imgs + 1 = ((s.come ++ [(⟨b, v⟩ : Im)]).length : Nat); rw [List.length_append, List.length_singleton]; omega
  · show b = lastB (s.come ++ [⟨b, v⟩]); rw [lastB_snoc]
  · exfalso; have k' : (s.come ++ [(⟨b, v⟩ : Im)]).length = 0 := k; rw [List.length_append, List.length_singleton] at k'; omega
theorem Sty.com {c : Sup} {g : Lg} {ws : List Wr} {all : List R.Rec} {s : Sc} (h : Sty c g ws all s) (h0 : moreS g = 0) :
    Sty c (comG g) (ws ++ [⟨(secN g g.fin).toNat, R.encS (comR g)⟩]) (all ++ [comR g]) ⟨s.txs ++ [⟨g.fin, s.come⟩], g.fin + 1, []⟩ :=
  h.app h0 (comG_ok h.ok h0) rfl rfl rfl rfl (comR_wf h.ok) (comR_may h.ok) rfl (scStep_com ⟨rfl, h.imgs⟩) rfl (fun k => absurd rfl k) (fun _ => rfl) (by have := h.mc.1; show (0 : Int) < c.bl; omega)
theorem zs64_no : (R.decS (zs 64)).2 ≠ 0 := by decide
theorem Sty.fin_is {c : Sup} {g : Lg} {ws : List Wr} {all : List R.Rec} {s : Sc} (h : Sty c g ws all s) : g.fin = all.length ∧ all.length ≤ c.lc.toNat := by
  have h1 := h.hold.len; have h2 := h.ok.us; have h3 := h.mc.2.1
  rw [h.gc, h.gt] at h2
  omega
/-- what is found where the first k of its records stand, and no more -/
theorem Sty.run {c : Sup} {g : Lg} {ws : List Wr} {all : List R.Rec} {s : Sc} (h : Sty c g ws all s) {rd : Nat → List Int} {k : Nat} (hk : k ≤ all.length) (ha : ∀ q : Nat, q < k → rd (1 + c.bl + q).toNat = newest ws (newS c) (1 + c.bl + q).toNat) (ho : k < c.lc.toNat → (stS c rd k).2 = false) :
    ∃ s', foldS c.mr (all.take k) 0 ⟨[], 0, []⟩ = some s' ∧ scRun (stS c rd) c.mr c.lc.toNat 0 ⟨[], 0, []⟩ = s' ∧ s'.txs = aheadT s.txs k ∧ s'.fin = endT s'.txs 0 := by
  obtain ⟨_, _, h3⟩ := foldS_take all.length all rfl s h.fold
  obtain ⟨s', f1, f2, f3⟩ := h3 k hk
  obtain ⟨e1, e2⟩ := h.fin_is
  have hl : (all.take k).length = k := by rw [List.length_take]; omega
  have hlc := h.mc.2.1
  refine ⟨s', f1, ?_, f2, f3⟩
  rw [scRun_fold (all.take k) 0 ⟨[], 0, []⟩ s' c.lc.toNat (by omega) (fun i r hi => ?_) f1, hl]
  · by_cases ck : k < c.lc.toNat
    · refine scRun_off ?_
      rw [show (0 : Int) + (k : Int) = k by omega]; exact ho ck
    · rw [show c.lc.toNat - k = 0 by omega]; rfl
  · have hik : i < k := by have := (List.getElem?_eq_some_iff.1 hi).1; omega
    rw [List.getElem?_take, if_pos hik] at hi
    obtain ⟨a1, a2, a3, a4⟩ := h.hold.at_ i r hi (by rw [h.gt]; omega)
    have hs : (secN g (0 + (i : Int))) = 1 + c.bl + i := by unfold secN; rw [h.gc, lg_eq (by omega) (by omega)]; omega
    rw [hs] at a1
    have hr : rd (1 + c.bl + (0 + (i : Int)) % c.lc).toNat = R.encS r := by
      rw [lg_eq (by omega) (by omega), show 1 + c.bl + (0 + (i : Int)) = 1 + c.bl + i by omega, ha i hik, a1]
    have hd : R.decS (rd (1 + c.bl + (0 + (i : Int)) % c.lc).toNat) = (r, 0) := by rw [hr]; exact R.decS_encS r a2 a3
    rw [stS_yes ⟨by rw [hd], by rw [hd]; exact a4, ?_⟩, hd]
    rw [hd]
    exact h.bd r (List.mem_of_getElem? hi)
end Go.Proofs.YtefnkjajjidfaaaGreatDoor
