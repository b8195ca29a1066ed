import Derived.Test.YtdadpepfpiimgaaGreatDoorZ11
import Derived.Shelf.SlIterI.Nil
import Derived.Shelf.SortM.Plain
import Derived.Shelf.SortM.SortNone
set_option maxHeartbeats 20000000
set_option maxRecDepth 100000
namespace Go.Proofs.YtdadpepfpiimgaaGreatDoor
theorem homes_len (n : Nat) : (homes n).length = 64 * n := by
  induction n with
  | zero => rfl
  | succ n ih => rw [homes_succ, List.length_append, ih, homeS_len _ (zs_len 32)]; omega
theorem cntS_is {s : Sup} (h : MayC s) : ((cntS s : Nat) : Int) = 1 + s.bl + s.lc := by have := h.1; have := h.2.1; unfold cntS; omega
end Go.Proofs.YtdadpepfpiimgaaGreatDoor
namespace Go.Proofs.YtdadpepfpiimgaaGreatDoor
theorem lastB_snoc (l : List Im) (i : Im) : lastB (l ++ [i]) = i.b := by simp [lastB]
theorem log0_wf : log0.Wf := ⟨by decide, by decide, by decide, TxsWf.nil, Nat.zero_le _, fun x hx => by cases hx⟩
theorem scanS_ok {c : Sup} {n : Int} {rd : Nat → List Int} (hb : ∀ i, Bytes (rd i)) (h : (supOf c n rd).2 = 0) : Sc.Ok c.mr (supOf c n rd).1.tail c.lc.toNat (scRun (stS c rd) c.mr c.lc.toNat (supOf c n rd).1.tail ⟨[], (supOf c n rd).1.tail, []⟩) := by
  obtain ⟨h1, h2, h3, h4, h5⟩ := supOf_zero h
  have hm := (decS_good _ h3).1
  have hw := decS_wf _ (hb 0)
  rw [h5]
  have ht := hw.tail
  have hT := hm.2.1
  have := Sc.Ok.run (st := stS c rd) (mr := c.mr) (t := (decS (rd 0)).1.tail) (by have := h1.2.2.1.1; omega) ht.1 (fun p => stS_wf hb) c.lc.toNat 0 ⟨[], (decS (rd 0)).1.tail, []⟩ (Sc.Ok.start (by have := h1.2.2.1.1; omega) _) (by have := h1.2.1.2; omega)
  rw [show (decS (rd 0)).1.tail + ((0 : Nat) : Int) = (decS (rd 0)).1.tail by omega, Nat.zero_add] at this
  exact this
theorem rdL_wf {c : Sup} {n : Int} {rd : Nat → List Int} (hb : ∀ i, Bytes (rd i)) : (rdL c n rd).1.Wf := by
  by_cases h : (supOf c n rd).2 = 0
  · rw [rdL_ok h]
    obtain ⟨h1, h2, h3, h4, h5⟩ := supOf_zero h
    have k : Sc.Ok c.mr (decS (rd 0)).1.tail c.lc.toNat (scRun (stS c rd) c.mr c.lc.toNat (decS (rd 0)).1.tail ⟨[], (decS (rd 0)).1.tail, []⟩) := by
      have := scanS_ok hb h
      rw [h5] at this
      exact this
    have hm := (decS_good _ h3).1
    have hw := decS_wf _ (hb 0)
    rw [h5]
    show (scanS c rd (decS (rd 0)).1).Wf
    have ht := hw.tail; have hT := hm.2.1; have hl := hw.life
    have hlc := h1.2.1
    have hmr := h1.2.2.1
    refine ⟨ht, hl, ⟨by have := k.f0; show 0 ≤ (scRun _ _ _ _ _).fin; omega, by have := k.f1; show (scRun _ _ _ _ _).fin ≤ _; omega⟩, k.tw, by have := k.tl; show (scRun _ _ _ _ _).txs.length ≤ _; omega, fun x hx => by have := k.cm x hx; omega⟩
  · rw [rdL_no h]; exact log0_wf
end Go.Proofs.YtdadpepfpiimgaaGreatDoor
namespace Go.Proofs.YtdadpepfpiimgaaGreatDoor
theorem withS_wf {l : List Im} {x : Im} (h : ImsWf l) (hx : x.Wf) : ImsWf (withS l x) := by
  induction l with
  | nil => intro z hz; rw [show z = x by simpa [withS] using hz]; exact hx
  | cons y l ih =>
    have hy := h y (List.mem_cons.2 (.inl rfl))
    have hl : ImsWf l := fun z hz => h z (List.mem_cons.2 (.inr hz))
    rcases Int.lt_trichotomy y.b x.b with c | c | c
    · rw [withS_lt l c]; intro z hz
      rcases List.mem_cons.1 hz with e | hz
      · rw [e]; exact hy
      · exact ih hl z hz
    · rw [withS_eq l c]; exact h
    · rw [withS_gt l c]; intro z hz
      rcases List.mem_cons.1 hz with e | hz
      · rw [e]; exact hx
      · exact h z hz
theorem withS_len (l : List Im) (x : Im) : (withS l x).length ≤ l.length + 1 := by
  induction l with
  | nil => simp [withS]
  | cons y l ih =>
    rcases Int.lt_trichotomy y.b x.b with c | c | c
    · rw [withS_lt l c]; simp only [List.length_cons]; omega
    · rw [withS_eq l c]; omega
    · rw [withS_gt l c]; simp only [List.length_cons]; omega
theorem nwS_wf : ∀ {l}, ImsWf l → ImsWf (nwS l)
  | [], _ => ImsWf.nil
  | x :: _, h => withS_wf (nwS_wf fun z hz => h z (List.mem_cons.2 (.inr hz))) (h x (List.mem_cons.2 (.inl rfl)))
theorem nwS_len : ∀ l, (nwS l).length ≤ l.length
  | [] => Nat.le_refl _
  | x :: xs => by
    have := withS_len (nwS xs) x; have := nwS_len xs
    show (withS (nwS xs) x).length ≤ xs.length + 1
    omega
end Go.Proofs.YtdadpepfpiimgaaGreatDoor
namespace Go.Proofs.YtdadpepfpiimgaaGreatDoor
def foldS (mr : Int) : List R.Rec → Int → Sc → Option Sc
  | [], _, s => some s
  | r :: l, p, s => (scStep mr s p r).bind fun s' => foldS mr l (p + 1) s'
theorem foldS_append (mr : Int) : ∀ (l m : List R.Rec) (p : Int) (s : Sc), foldS mr (l ++ m) p s = (foldS mr l p s).bind fun s' => foldS mr m (p + l.length) s'
  | [], m, p, s => by show foldS mr m p s = foldS mr m (p + ((0 : Nat) : Int)) s; rw [show p + ((0 : Nat) : Int) = p by omega]
  | r :: l, m, p, s => by
    show (scStep mr s p r).bind (fun s' => foldS mr (l ++ m) (p + 1) s') = ((scStep mr s p r).bind (fun s' => foldS mr l (p + 1) s')).bind _
    cases scStep mr s p r with
    | none => rfl
    | some s1 =>
      show foldS mr (l ++ m) (p + 1) s1 = (foldS mr l (p + 1) s1).bind _
      rw [foldS_append mr l m (p + 1) s1]
      congr 1
      funext s'
      rw [show p + 1 + (l.length : Int) = p + ((r :: l).length : Nat) by simp only [List.length_cons]; omega]
theorem foldS_snoc (mr : Int) (l : List R.Rec) (r : R.Rec) (p : Int) (s : Sc) : foldS mr (l ++ [r]) p s = (foldS mr l p s).bind fun s' => scStep mr s' (p + l.length) r := by
  rw [foldS_append]
  congr 1
  funext s'
  show (scStep mr s' (p + l.length) r).bind (fun s'' => some s'') = _
  cases scStep mr s' (p + l.length) r <;> rfl
theorem scRun_fold {st : Int → R.Rec × Bool} {mr : Int} : ∀ (l : List R.Rec) (p : Int) (s s' : Sc) (k : Nat), l.length ≤ k → (∀ (i : Nat) (r : R.Rec), l[i]? = some r → st (p + i) = (r, true)) → foldS mr l p s = some s' → scRun st mr k p s = scRun st mr (k - l.length) (p + l.length) s'
  | [], p, s, s', k, _, _, h => by
    obtain rfl : s = s' := Option.some.inj h
    show scRun st mr k p s = scRun st mr k (p + ((0 : Nat) : Int)) s
    rw [show p + ((0 : Nat) : Int) = p by omega]
  | r :: l, p, s, s', k, hk, hs, h => by
    obtain ⟨k', rfl⟩ : ∃ k', k = k' + 1 := ⟨k - 1, by simp only [List.length_cons] at hk; omega⟩
    have h0 := hs 0 r rfl
    rw [show p + ((0 : Nat) : Int) = p by omega] at h0
    have h' : (scStep mr s p r).bind (fun s1 => foldS mr l (p + 1) s1) = some s' := h
    cases e : scStep mr s p r with
    | none => rw [e] at h'; cases h'
    | some s1 =>
      rw [e] at h'
      rw [scRun_go (by rw [h0]) (by rw [h0]; exact e)]
      rw [scRun_fold l (p + 1) s1 s' k' (by simp only [List.length_cons] at hk; omega) (fun i x hx => by
        have := hs (i + 1) x (by simpa using hx)
        rw [show p + 1 + (i : Int) = p + ((i + 1 : Nat) : Int) by omega]; exact this) h']
      simp only [List.length_cons]
      rw [show k' + 1 - (l.length + 1) = k' - l.length by omega, show p + 1 + (l.length : Int) = p + ((l.length + 1 : Nat) : Int) by omega]
def aheadT (l : List TX) (p : Int) : List TX := l.filter fun t => decide (t.p < p)
def endT (l : List TX) (e : Int) : Int := l.foldl (fun _ t => t.p + 1) e
theorem endT_snoc (l : List TX) (t : TX) (e : Int) : endT (l ++ [t]) e = t.p + 1 := by simp [endT]
theorem aheadT_snoc (l : List TX) (t : TX) (p : Int) : aheadT (l ++ [t]) p = if t.p < p then aheadT l p ++ [t] else aheadT l p := by
  unfold aheadT
  rw [List.filter_append]
  by_cases h : t.p < p
  · rw [if_pos h]; simp [h]
  · rw [if_neg h]; simp [h]
theorem aheadT_all {l : List TX} {p : Int} (h : ∀ t ∈ l, t.p < p) : aheadT l p = l := List.filter_eq_self.2 fun t ht => by simpa using h t ht
theorem foldS_take {mr : Int} : ∀ (n : Nat) (l : List R.Rec), l.length = n → ∀ s, foldS mr l 0 ⟨[], 0, []⟩ = some s → (∀ t ∈ s.txs, t.p < n) ∧ s.fin = endT s.txs 0 ∧ ∀ k, k ≤ n → ∃ s', foldS mr (l.take k) 0 ⟨[], 0, []⟩ = some s' ∧ s'.txs = aheadT s.txs k ∧ s'.fin = endT s'.txs 0
  | 0, l, hl, s, h => by
    obtain rfl : l = [] := List.length_eq_zero_iff.1 hl
    obtain rfl := Option.some.inj h
    refine ⟨fun t ht => (by cases ht), rfl, fun k hk => ⟨_, by rw [List.take_nil]; rfl, rfl, rfl⟩⟩
  | n + 1, l, hl, s, h => by
    obtain ⟨l, r, rfl⟩ : ∃ l' r', l = l' ++ [r'] := ⟨l.dropLast, l.getLast (by intro e; rw [e] at hl; cases hl), (List.dropLast_concat_getLast _).symm⟩
    have hn : l.length = n := by simpa using hl
    rw [foldS_snoc] at h
    cases e : foldS mr l 0 ⟨[], 0, []⟩ with
    | none => rw [e] at h; cases h
    | some s1 =>
      rw [e] at h
      have h' : scStep mr s1 (0 + (l.length : Int)) r = some s := h
      obtain ⟨i1, i2, i3⟩ := foldS_take n l hn s1 e
      have hs : (s.txs = s1.txs ∧ s.fin = s1.fin) ∨ (s.txs = s1.txs ++ [⟨(n : Int), s1.come⟩] ∧ s.fin = n + 1) := by
        by_cases c1 : r.kind = 1 ∧ Folls s1.come r.block mr
        · rw [scStep_img c1] at h'; cases h'; exact .inl ⟨rfl, rfl⟩
        · by_cases c2 : r.kind = 2 ∧ r.images = s1.come.length
          · rw [scStep_com c2, hn] at h'; cases h'; refine .inr ⟨?_, ?_⟩
            · show s1.txs ++ [(⟨0 + (n : Int), s1.come⟩ : TX)] = _; rw [show (0 : Int) + n = n by omega]
            · show (0 : Int) + n + 1 = n + 1; omega
          · rw [scStep_no c1 c2] at h'; cases h'
      have hall : (∀ t ∈ s.txs, t.p < ((n + 1 : Nat) : Int)) ∧ s.fin = endT s.txs 0 := by
        rcases hs with ⟨a, b⟩ | ⟨a, b⟩
        · rw [a, b]; exact ⟨fun t ht => by have := i1 t ht; omega, i2⟩
        · rw [a, b, endT_snoc]
          refine ⟨fun t ht => ?_, rfl⟩
          rcases List.mem_append.1 ht with ht | ht
          · have := i1 t ht; omega
          · rw [List.mem_singleton.1 ht]; show (n : Int) < _; omega
      refine ⟨hall.1, hall.2, fun k hk => ?_⟩
      by_cases ck : k = n + 1
      · subst ck
        rw [List.take_of_length_le (by rw [hl]; exact Nat.le_refl _), foldS_snoc, e]
        exact ⟨s, h', by rw [aheadT_all hall.1], hall.2⟩
      · have hk' : k ≤ n := by omega
        obtain ⟨s', f1, f2, f3⟩ := i3 k hk'
        refine ⟨s', by rw [List.take_append_of_le_length (by omega)]; exact f1, ?_, f3⟩
        rcases hs with ⟨a, _⟩ | ⟨a, _⟩
        · rw [a]; exact f2
        · rw [a, aheadT_snoc, if_neg (by show ¬ (n : Int) < k; omega)]; exact f2
theorem newS_sup (s : Sup) : sec (newS s) 0 = encS (sup1 s) := by
  have := encS_len (sup1 s)
  unfold newS sec
  rw [Nat.mul_zero, List.drop_zero, List.append_assoc, List.take_append_of_le_length (by omega), List.take_of_length_le (by omega)]
theorem newS_log (s : Sup) (i : Nat) (h1 : 1 + s.bl.toNat ≤ i) (h2 : i < cntS s) : sec (newS s) i = zs 64 := by
  have e1 := encS_len (sup1 s); have e2 := homes_len s.bl.toNat
  unfold cntS at h2
  unfold newS sec
  have hl : (encS (sup1 s) ++ homes s.bl.toNat).length = 64 * (1 + s.bl.toNat) := by rw [List.length_append, e1, e2]; omega
  rw [List.drop_append, hl, List.drop_of_length_le (by rw [hl]; omega), List.nil_append]
  unfold zs
  rw [List.drop_replicate, List.take_replicate]
  congr 1
  omega
theorem zs64_no : (R.decS (zs 64)).2 ≠ 0 := by decide
end Go.Proofs.YtdadpepfpiimgaaGreatDoor
namespace Go.Proofs.YtdadpepfpiimgaaGreatDoor
open Go.RowKit
theorem supOf_new {c : Sup} (h : MayC c) {rd : Nat → List Int} (h0 : rd 0 = encS (sup1 c)) : supOf c (cntS c) rd = (sup1 c, 0) := by
  have e : decS (rd 0) = (sup1 c, 0) := by rw [h0]; exact decS_encS _ (sup1_wf h) (sup1_may h)
  rw [supOf_ok h (cntS_is h) (by rw [e]) (by rw [e]; exact ⟨rfl, rfl, rfl, rfl, rfl⟩), e]
theorem rdL_new {c : Sup} (h : MayC c) {rd : Nat → List Int} (h0 : rd 0 = encS (sup1 c)) {s : Sc} (hs : scRun (stS c rd) c.mr c.lc.toNat 0 ⟨[], 0, []⟩ = s) : rdL c (cntS c) rd = (⟨0, 1, s.fin, s.txs⟩, 0) := by
  have e := supOf_new h h0
  rw [rdL_ok (by rw [e]), e]
  show (scanS c rd (sup1 c), (0 : Int)) = _
  unfold scanS
  show ((⟨0, 1, (scRun (stS c rd) c.mr c.lc.toNat 0 ⟨[], 0, []⟩).fin, (scRun (stS c rd) c.mr c.lc.toNat 0 ⟨[], 0, []⟩).txs⟩ : LogS), (0 : Int)) = _
  rw [hs]
theorem st_blank {c : Sup} {rd : Nat → List Int} {p : Int} (h : rd (1 + c.bl + p % c.lc).toNat = zs 64) : (stS c rd p).2 = false := by
  rw [stS_no fun k => zs64_no (by rw [← h]; exact k.1)]
end Go.Proofs.YtdadpepfpiimgaaGreatDoor
