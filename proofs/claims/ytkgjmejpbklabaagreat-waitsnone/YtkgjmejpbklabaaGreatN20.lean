/-
  Layer 15, plain mathematics: a line and locks as a run has them. Layer 15: a line and locks side by side, and the tickets that are laid.
-/
import Derived.Test.YtkgjmejpbklabaaGreatAm
import Derived.Test.YtkgjmejpbklabaaGreatLm
import Derived.Test.YtkgjmejpbklabaaGreatN11
import Derived.Test.YtkgjmejpbklabaaGreatAj
import Derived.Test.YtkgjmejpbklabaaGreatN19
import Derived.Test.YtkgjmejpbklabaaGreatHa
import Derived.Test.YtkgjmejpbklabaaGreatHb
namespace Go.Proofs.YtkgjmejpbklabaaGreat
open Go.RowKit
open M (Ad wt it)
open K (Lk tix qS)
/-- a line and locks as a run has them; the tickets that are laid -/
structure Rm (a : Ad) (k : Lk) (laid : List Int) : Prop where
  la : a.Ok
  lk : K.Ok k
  bl : (k.bl : Int) = a.bl
  last : k.last = a.got
  tx : tix k.L = laid
  sub : ∀ t ∈ it a.I, t ∈ laid
  frm : ∀ x ∈ a.W, x.2.Pairwise (· < ·) ∧ ∀ b ∈ x.2, 0 ≤ b ∧ b < a.bl
theorem Rm.new {bl : Nat} {lc mr hi cl : Int} (h : M.mayC bl lc mr hi cl) : Rm (M.newA bl lc mr hi cl) ⟨bl, 0, []⟩ [] where
  la := M.Ad.Ok.new h
  lk := K.Ok.new (by have := h.1; omega) (by have := h.2.1; omega)
  bl := rfl
  last := rfl
  tx := rfl
  sub := fun t ht => by simp [M.newA, it] at ht
  frm := fun x hx => by simp [M.newA] at hx
section
variable {a : Ad} {k : Lk} {laid : List Int}
theorem Rm.pos (h : Rm a k laid) : ∀ t ∈ laid, 0 < t ∧ t ≤ a.got := fun t ht => by
  rw [← h.tx, K.mem_tix] at ht
  obtain ⟨e, he, rfl⟩ := ht
  have h1 := h.lk.pos e he
  have h2 := h.lk.top e he
  rw [h.last] at h2
  exact ⟨h1, h2⟩
theorem Rm.rise (h : Rm a k laid) : laid.Pairwise (· < ·) := by rw [← h.tx]; exact h.lk.rise
theorem Rm.wpos (h : Rm a k laid) : ∀ t ∈ wt a.W, a.got < t ∧ t < a.next := fun t ht => by
  obtain ⟨x, hx, rfl⟩ := List.mem_map.1 ht
  exact h.la.win x hx
theorem Rm.len (h : Rm a k laid) : (laid.length : Int) ≤ a.next := by
  have := M.rise_length h.rise (lo := 0) (hi := a.got + 1) (fun x hx => by have := h.pos x hx; omega) (by have := h.la.got0; omega)
  have := h.la.gotN
  omega
theorem Rm.beg (h : Rm a k laid) (xs : List Int) : Rm (a.begS xs) k laid := by
  have hok := h.la.beg xs
  by_cases e : a.begE xs = 0
  · have e1 : a.begS xs = { a with next := a.next + 1, W := a.W ++ [(a.next, a.begF xs)] } := by simp only [Ad.begS, if_pos e]
    rw [e1] at hok ⊢
    refine ⟨hok, h.lk, h.bl, h.last, h.tx, h.sub, fun x hx => ?_⟩
    rcases List.mem_append.1 hx with hx | hx
    · exact h.frm x hx
    · rw [List.mem_singleton.1 hx]
      obtain ⟨f1, -, -, f4, -⟩ := B.formS_ok (xs := xs) (b := a.bl) (m := a.mr) e
      have f5 : a.begF xs = B.diffS xs := f1
      show (a.begF xs).Pairwise _ ∧ ∀ b ∈ a.begF xs, 0 ≤ b ∧ b < a.bl
      rw [f5]
      refine ⟨B.up_diffS xs, fun b hb => ?_⟩
      rw [B.mem_diffS] at hb
      unfold B.belS at f4
      simp at f4
      have := f4 b hb
      omega
  · rw [show a.begS xs = a by simp only [Ad.begS, if_neg e]]; exact h
theorem Rm.entW (h : Rm a k laid) (e : a.entE = 0) : a.fF ≠ [] ∧ a.fF.Pairwise (· < ·) ∧ (∀ b ∈ a.fF, 0 ≤ b ∧ b < k.bl) ∧ k.last < a.fT ∧ a.fT < a.next := by
  obtain ⟨x, r, hW, -⟩ := M.Ad.entE_ok e
  have e1 : a.fT = x.1 := by simp [Ad.fT, hW]
  have e2 : a.fF = x.2 := by simp [Ad.fF, hW]
  have hx : x ∈ a.W := by rw [hW]; exact List.mem_cons_self ..
  have h1 := h.la.win x hx
  have h2 := h.la.wform x hx
  have h3 := h.frm x hx
  have h4 := h.bl
  rw [e1, e2, h.last]
  exact ⟨fun e => by rw [e] at h2; simp at h2, h3.1, fun b hb => by have := h3.2 b hb; omega, h1.1, h1.2⟩
theorem Rm.lays (h : Rm a k laid) (e : a.entE = 0) : K.layE k a.fT a.fF = 0 := K.layE_zero.2 ⟨(h.entW e).1, (h.entW e).2.1, (h.entW e).2.2.1, (h.entW e).2.2.2.1⟩
theorem Rm.ent (h : Rm a k laid) (e : a.entE = 0) (hU : a.next ≤ 1000) : Rm a.entS (K.layS k a.fT a.fF) (laid ++ [a.fT]) := by
  have hl := h.lays e
  have hok := h.la.ent
  have hlk := h.lk.layS (t := a.fT) (s := a.fF) (by have := (h.entW e).2.2.2.2; omega)
  have e1 : K.layS k a.fT a.fF = ⟨k.bl, a.fT, k.L ++ [⟨a.fT, a.fF, 0⟩]⟩ := by unfold K.layS; rw [if_pos hl]
  have e2 : a.entS = { a with W := a.W.tail, I := a.I ++ [(a.fT, a.fF, (a.fF.length : Int) + 1)], got := a.fT } := by unfold Ad.entS; rw [if_pos e]
  rw [e1] at hlk ⊢
  rw [e2] at hok ⊢
  refine ⟨hok, hlk, h.bl, rfl, ?_, fun t ht => ?_, fun x hx => h.frm x (List.mem_of_mem_tail hx)⟩
  · show tix (k.L ++ [_]) = _
    rw [K.tix_snoc, h.tx]
  · have ht' : t ∈ it a.I ++ [a.fT] := by
      have := ht
      simpa [it] using this
    rcases List.mem_append.1 ht' with ht' | ht'
    · exact List.mem_append.2 (.inl (h.sub t ht'))
    · exact List.mem_append.2 (.inr ht')
theorem Rm.tak (h : Rm a k laid) (t : Int) : Rm a (K.takS k t) laid := by
  refine ⟨h.la, h.lk.takS t, h.bl, h.last, ?_, h.sub, h.frm⟩
  show tix (K.takL k.L t) = laid
  unfold K.takL
  split
  · rw [K.tix_bmp, h.tx]
  · exact h.tx
theorem Rm.app (h : Rm a k laid) (t : Int) : Rm (a.appS t) k laid := by
  have hok := h.la.app t
  by_cases e : a.appE t = 0
  · have e1 : a.appS t = { a with used := a.used + 1, I := M.decI t a.I } := by unfold Ad.appS; rw [if_pos e]
    rw [e1] at hok ⊢
    refine ⟨hok, h.lk, h.bl, h.last, h.tx, fun u hu => h.sub u ?_, h.frm⟩
    have : u ∈ it (M.decI t a.I) := hu
    rwa [M.it_dec] at this
  · rw [show a.appS t = a by unfold Ad.appS; rw [if_neg e]]; exact h
theorem don_it (h : a.Ok) (t : Int) : ∀ u ∈ it (a.donS t).I, u ∈ it a.I ∧ u ≠ t := by
  intro u hu
  by_cases e : a.donE t = 0
  · have e1 : a.donS t = { a with used := a.used + 1, I := M.cutI t a.I } := by unfold Ad.donS; rw [if_pos e]
    rw [e1] at hu
    have hu' : u ∈ it (M.cutI t a.I) := hu
    rw [M.it_cut] at hu'
    refine ⟨List.mem_of_mem_erase hu', fun e2 => ?_⟩
    subst e2
    have hnd : (it a.I).Nodup := nd_of h.irise
    exact (List.Nodup.mem_erase_iff hnd).1 hu' |>.1 rfl
  · have e1 : a.donS t = a := by unfold Ad.donS; rw [if_neg e]
    rw [e1] at hu
    refine ⟨hu, fun e2 => ?_⟩
    subst e2
    have : ¬ M.fi u a.I = none := fun hn => (M.fi_none.1 hn) hu
    apply e
    unfold Ad.donE
    cases hf : M.fi u a.I with
    | none => exact absurd hf this
    | some x => rfl
theorem don_same (t : Int) : (a.donS t).W = a.W ∧ (a.donS t).bl = a.bl ∧ (a.donS t).got = a.got ∧ (a.donS t).next = a.next := by
  unfold Ad.donS; split <;> exact ⟨rfl, rfl, rfl, rfl⟩
theorem Rm.don (h : Rm a k laid) (t : Int) : Rm (a.donS t) k laid := by
  obtain ⟨e1, e2, e3, e4⟩ := don_same (a := a) t
  exact ⟨h.la.don t, h.lk, by rw [e2]; exact h.bl, by rw [e3]; exact h.last, h.tx, fun u hu => h.sub u (don_it h.la t u hu).1, fun x hx => by rw [e1] at hx; rw [e2]; exact h.frm x hx⟩
theorem filter_ne {l : List Int} : ∀ {n : Nat}, l.Pairwise (· < ·) → n < l.length → l.filter (· != l.getD n 0) = l.take n ++ l.drop (n + 1) := by
  induction l with
  | nil => intro n _ hn; simp at hn
  | cons x r ih =>
    intro n hp hn
    have hp' := List.pairwise_cons.1 hp
    cases n with
    | zero =>
      have : r.filter (· != x) = r := by
        rw [List.filter_eq_self]
        intro y hy
        have := hp'.1 y hy
        simp; omega
      simp [List.getD, this]
    | succ n =>
      have hn' : n < r.length := by simpa using hn
      have h1 := ih hp'.2 hn'
      have h2 : (x :: r).getD (n + 1) 0 = r.getD n 0 := by simp [List.getD]
      have h3 : r.getD n 0 ∈ r := by rw [List.getD, List.getElem?_eq_getElem hn']; exact List.getElem_mem _
      have h4 := hp'.1 _ h3
      rw [h2, List.filter_cons, h1]
      have : (x != r.getD n 0) = true := by simp only [bne_iff_ne]; omega
      rw [this]; simp
theorem Rm.drp (h : Rm a k laid) {n : Nat} (hn : n < laid.length) : Rm (a.donS (laid.getD n 0)) (K.drpS k (laid.getD n 0)) (laid.take n ++ laid.drop (n + 1)) := by
  have h' := h.don (laid.getD n 0)
  have e := filter_ne h.rise hn
  refine ⟨h'.la, h.lk.drpS _, h'.bl, h'.last, ?_, fun u hu => ?_, h'.frm⟩
  · show tix (K.drpL k.L _) = _
    rw [K.tix_drp, h.tx, e]
  · obtain ⟨h1, h2⟩ := don_it h.la _ u hu
    rw [← e]
    exact List.mem_filter.2 ⟨h.sub u h1, by simpa using h2⟩
theorem Rm.fre (h : Rm a k laid) (n : Int) : Rm (a.freS n) k laid := by
  have hok := h.la.fre n
  by_cases e : 0 ≤ n ∧ n ≤ a.used
  · have e1 : a.freS n = { a with used := a.used - n } := by unfold Ad.freS; rw [if_pos e]
    rw [e1] at hok ⊢
    exact ⟨hok, h.lk, h.bl, h.last, h.tx, h.sub, h.frm⟩
  · rw [show a.freS n = a by unfold Ad.freS; rw [if_neg e]]; exact h
end
theorem begS_next (a : Ad) (xs : List Int) : (a.begS xs).next ≤ a.next + 1 := by
  unfold Ad.begS
  split
  · exact Int.le_refl _
  · omega
theorem entS_next (a : Ad) : a.entS.next = a.next := by unfold Ad.entS; split <;> rfl
theorem appS_next (a : Ad) (t : Int) : (a.appS t).next = a.next := by unfold Ad.appS; split <;> rfl
theorem freS_next (a : Ad) (t : Int) : (a.freS t).next = a.next := by unfold Ad.freS; split <;> rfl

/-! ### All edges -/
/-- of each ticket of a queue, the first one left out, the edge to the one directly ahead -/
def bhd (y b : Int) : List Int → List Eg
  | x :: z :: r => ⟨z, x, y, b⟩ :: bhd y b (z :: r)
  | _ => []
theorem bhd_len (y b : Int) : ∀ l, (bhd y b l).length = l.length - 1
  | [] => rfl
  | [_] => rfl
  | x :: z :: r => by simp [bhd, bhd_len y b (z :: r)]
theorem bhd_get (y b : Int) : ∀ (l : List Int) (i : Nat), i + 1 < l.length → (bhd y b l)[i]? = some ⟨l.getD (i + 1) 0, l.getD i 0, y, b⟩
  | [], i, h => by simp at h
  | [_], i, h => by simp at h
  | x :: z :: r, 0, h => by simp [bhd, List.getD]
  | x :: z :: r, i + 1, h => by
    have := bhd_get y b (z :: r) i (by simpa using h)
    simp only [bhd, List.getElem?_cons_succ, this]
    simp [List.getD]
theorem bhd_take (y b : Int) (l : List Int) {i : Nat} (h : i + 1 < l.length) : (bhd y b l).take (i + 1) = (bhd y b l).take i ++ [⟨l.getD (i + 1) 0, l.getD i 0, y, b⟩] := by
  rw [List.take_add_one, bhd_get y b l i h]; rfl
theorem bhd_mem {y b : Int} : ∀ {l : List Int}, l.Pairwise (· < ·) → ∀ e ∈ bhd y b l, e.f ∈ l ∧ e.t ∈ l ∧ e.t < e.f
  | [], _, e, h => by simp [bhd] at h
  | [_], _, e, h => by simp [bhd] at h
  | x :: z :: r, hp, e, h => by
    have hp' := List.pairwise_cons.1 hp
    simp only [bhd, List.mem_cons] at h
    rcases h with rfl | h
    · exact ⟨by simp, by simp, hp'.1 z (by simp)⟩
    · obtain ⟨h1, h2, h3⟩ := bhd_mem hp'.2 e h
      exact ⟨List.mem_cons_of_mem _ h1, List.mem_cons_of_mem _ h2, h3⟩
/-- of the first that waits, and does not fit, the edges to those that have room reserved -/
def rmE (x : Int) (I : List Int) : List Eg := I.map fun t => ⟨x, t, 2, -1⟩
/-- of n blocks' queues -/
def qE (q : Nat → List Int) (n : Nat) : List Eg := (List.range n).flatMap fun (b : Nat) => bhd 3 (b : Int) (q b)
theorem qE_succ (q : Nat → List Int) (n : Nat) : qE q (n + 1) = qE q n ++ bhd 3 n (q n) := by simp [qE, List.range_succ]
theorem qE_more {q : Nat → List Int} {m : Nat} (h : ∀ b, m ≤ b → q b = []) : ∀ n, m ≤ n → qE q n = qE q m := by
  intro n hn
  obtain ⟨d, rfl⟩ : ∃ d, n = m + d := ⟨n - m, by omega⟩
  clear hn
  induction d with
  | zero => rfl
  | succ d ih => rw [← Nat.add_assoc, qE_succ, ih, h _ (by omega)]; simp [bhd]
/-- all edges -/
def ofS (W : List Int) (fits : Bool) (I : List Int) (q : Nat → List Int) (n : Nat) : List Eg := bhd 1 (-1) W ++ (if 0 < W.length ∧ fits = false then rmE (W.getD 0 0) I else []) ++ qE q n
/-- .. of a line and locks -/
def ofR (a : Ad) (k : Lk) (n : Nat) : List Eg := ofS (wt a.W) a.fits (it a.I) (fun b => qS k.L b) n
section
variable {a : Ad} {k : Lk} {laid : List Int}
theorem Rm.qout (h : Rm a k laid) (b : Nat) (hb : k.bl ≤ b) : qS k.L (b : Int) = [] := h.lk.qout (by omega)
theorem Rm.of64 (h : Rm a k laid) {n : Nat} (hn : k.bl ≤ n) : ofR a k n = ofR a k k.bl := by
  unfold ofR ofS
  rw [qE_more (fun b hb => h.qout b hb) n hn]
theorem qE_mem {q : Nat → List Int} (hq : ∀ b, (q b).Pairwise (· < ·)) {n : Nat} {e : Eg} (he : e ∈ qE q n) : ∃ b, e.f ∈ q b ∧ e.t ∈ q b ∧ e.t < e.f := by
  obtain ⟨b, _, hb⟩ := List.mem_flatMap.1 he
  exact ⟨b, bhd_mem (hq b) e hb⟩
/-- every edge leads down, from one that is there to one that is there -/
theorem Rm.down (h : Rm a k laid) {n : Nat} {e : Eg} (he : e ∈ ofR a k n) : e.t < e.f ∧ 0 < e.t ∧ e.f < a.next ∧ (∃ u ∈ laid ++ wt a.W, u < e.f) := by
  have hgn := h.la.gotN
  have hg0 := h.la.got0
  unfold ofR ofS at he
  rcases List.mem_append.1 he with he | he
  · rcases List.mem_append.1 he with he | he
    · obtain ⟨h1, h2, h3⟩ := bhd_mem h.la.wrise e he
      have h4 := h.wpos _ h1
      have h5 := h.wpos _ h2
      exact ⟨h3, by omega, h4.2, e.t, List.mem_append.2 (.inr h2), h3⟩
    · by_cases hc : 0 < (wt a.W).length ∧ a.fits = false
      · rw [if_pos hc] at he
        obtain ⟨t, ht, rfl⟩ := List.mem_map.1 he
        have h1 : (wt a.W).getD 0 0 ∈ wt a.W := by rw [List.getD, List.getElem?_eq_getElem hc.1]; exact List.getElem_mem _
        have h2 := h.wpos _ h1
        have h3 := h.pos t (h.sub t ht)
        exact ⟨by show t < (wt a.W).getD 0 0; omega, h3.1, h2.2, t, List.mem_append.2 (.inl (h.sub t ht)), by show t < (wt a.W).getD 0 0; omega⟩
      · rw [if_neg hc] at he; simp at he
  · obtain ⟨b, h1, h2, h3⟩ := qE_mem (fun b => h.lk.qrise (b : Int)) he
    have h4 : e.f ∈ laid := by rw [← h.tx]; exact (K.qS_sub k.L b).subset h1
    have h5 : e.t ∈ laid := by rw [← h.tx]; exact (K.qS_sub k.L b).subset h2
    have h6 := h.pos _ h4
    have h7 := h.pos _ h5
    exact ⟨h3, h7.1, by omega, e.t, List.mem_append.2 (.inl h5), h3⟩
theorem Rm.none (h : Rm a k laid) (h0 : laid ++ wt a.W = []) (n : Nat) : ofR a k n = [] := by
  cases hE : ofR a k n with
  | nil => rfl
  | cons e r =>
    obtain ⟨_, _, _, u, hu, _⟩ := h.down (n := n) (e := e) (by rw [hE]; simp)
    rw [h0] at hu; simp at hu
theorem qE_len {q : Nat → List Int} {M : Nat} (hq : ∀ b, (q b).length ≤ M) : ∀ n, (qE q n).length ≤ n * M
  | 0 => by simp [qE]
  | n + 1 => by
    have := qE_len hq n
    have h2 := hq n
    rw [qE_succ, List.length_append, bhd_len, Nat.succ_mul]; omega
theorem Rm.elen (h : Rm a k laid) {m : Nat} (hN : a.next ≤ m) {n : Nat} : (ofR a k n).length ≤ 2 * m + n * m := by
  have h1 := h.la.wlen
  have h2 := h.la.ilen
  have h3 := h.len
  have hq : ∀ b : Nat, (qS k.L (b : Int)).length ≤ m := fun b => by
    have := (K.qS_sub k.L b).length_le
    rw [h.tx] at this
    omega
  have h4 := qE_len (q := fun b => qS k.L (b : Int)) hq n
  unfold ofR ofS
  rw [List.length_append, List.length_append, bhd_len]
  have h5 : (if 0 < (wt a.W).length ∧ a.fits = false then rmE ((wt a.W).getD 0 0) (it a.I) else []).length ≤ m := by
    split
    · simp only [rmE, List.length_map, it]; omega
    · simp
  have h6 : (wt a.W).length ≤ m := by simp only [wt, List.length_map]; omega
  omega
end
end Go.Proofs.YtkgjmejpbklabaaGreat
namespace Go.Proofs.YtkgjmejpbklabaaGreat
open Go.RowKit
open M (Ad wt it)
open K (Lk tix qS)
/-- a line and locks of one's own, apart; n: more than there were calls -/
structure Rz (w0 w : World) (F : M.Ft) (G : K.Ft) (n : Nat) (a : Ad) (k : Lk) : Prop where
  bel : RowKit.Below w0.heap.size w0 w
  pm : M.PL w F n a
  pk : K.PL w G n k
  ap : ∀ b, F.has b → ¬ G.has k.bl b
  lm : ∀ b, F.has b → w0.heap.size ≤ b
  lk : ∀ b, G.has k.bl b → w0.heap.size ≤ b
theorem kd_two (w : World) (b : Nat) : M.kd w b = K.kd w b := rfl
section
variable {w0 w w' : World} {F F' : M.Ft} {G G' : K.Ft} {n n' N : Nat} {a a' : Ad} {k k' : Lk}
theorem Rz.later (h : Rz w0 w F G n a k) (hb : RowKit.Below w.heap.size w w') : Rz w0 w' F G n a k := { h with
  bel := below_then h.bel hb
  pm := h.pm.later hb
  pk := h.pk.later hb }
theorem Rz.line (h : Rz w0 w F G n a k) (hp : M.PL w' F' n' a') (hn' : n' ≤ N) (hn : n ≤ N) (hF : ∀ b, F'.has b → F.has b ∨ w.heap.size ≤ b) (hk : Kept F.has w w') : Rz w0 w' F' G N a' k where
  bel := hk.into h.bel (fun b hb e => by have := h.lm b e; omega) (Nat.le_refl _)
  pm := hp.mono hn'
  pk := (h.pk.far hk (fun b hb e => h.ap b e hb) (fun g _ h3 e => h.pm.noInts (by rw [kd_two]; exact h3) e)).mono hn
  ap := fun b hb e => by
    rcases hF b hb with h1 | h1
    · exact h.ap b h1 e
    · have := h.pk.lt e; omega
  lm := fun b hb => by
    rcases hF b hb with h1 | h1
    · exact h.lm b h1
    · exact Nat.le_trans h.bel.size h1
  lk := h.lk
theorem Rz.locks (h : Rz w0 w F G n a k) (hp : K.PL w' G' n' k') (hn' : n' ≤ N) (hn : n ≤ N) (hbl : k'.bl = k.bl) (hG : K.Grw w w' k.bl G G') (hk : Kept (G.has k.bl) w w') : Rz w0 w' F G' N a k' where
  bel := hk.into h.bel (fun b hb e => by have := h.lk b e; omega) (Nat.le_refl _)
  pm := (h.pm.far hk (fun b hb e => h.ap b hb e) (fun g _ h3 e => h.pk.noInts (by rw [← kd_two]; exact h3) e)).mono hn
  pk := hp.mono hn'
  ap := fun b hb e => by
    rw [hbl] at e
    rcases hG.has b e with h1 | h1
    · exact h.ap b hb h1
    · have := h.pm.lt hb; omega
  lm := h.lm
  lk := fun b hb => by
    rw [hbl] at hb
    rcases hG.has b hb with h1 | h1
    · exact h.lk b h1
    · exact Nat.le_trans h.bel.size h1
end
/-- .. and a row of tickets beside them -/
structure Rt (w0 w : World) (F : M.Ft) (G : K.Ft) (n : Nat) (a : Ad) (k : Lk) (laid : List Int) (m : Nat) (v : Value) : Prop where
  rz : Rz w0 w F G n a k
  ow : w.ownsRow w0.heap.size 44 1 v m (U64 laid)
  ln : laid.length = m
  nf : ∀ g, v.ownBlock = some g → ¬ F.has g ∧ ¬ G.has k.bl g
/-- what stands behind steps: the line at Q, the locks at R -/
def Rs (w0 w : World) (Q R n : Nat) (a : Ad) (k : Lk) (laid : List Int) (m : Nat) (v : Value) : Prop := ∃ F G, F.Q = Q ∧ G.Q = R ∧ Rt w0 w F G n a k laid m v
section
variable {w0 w w' : World} {Q R n m : Nat} {a : Ad} {k : Lk} {laid : List Int} {v : Value}
theorem Rs.later (h : Rs w0 w Q R n a k laid m v) (hb : RowKit.Below w.heap.size w w') : Rs w0 w' Q R n a k laid m v := by
  obtain ⟨F, G, h1, h2, h3⟩ := h
  exact ⟨F, G, h1, h2, h3.rz.later hb, O.own_later h3.ow hb, h3.ln, h3.nf⟩
theorem Rs.bel (h : Rs w0 w Q R n a k laid m v) : RowKit.Below w0.heap.size w0 w := by obtain ⟨F, G, _, _, h⟩ := h; exact h.rz.bel
theorem Rs.own (h : Rs w0 w Q R n a k laid m v) : w.ownsRow w0.heap.size 44 1 v m (U64 laid) := by obtain ⟨F, G, _, _, h⟩ := h; exact h.ow
theorem Rs.len (h : Rs w0 w Q R n a k laid m v) : laid.length = m := by obtain ⟨F, G, _, _, h⟩ := h; exact h.ln
theorem Rs.line {F F' : M.Ft} {G : K.Ft} {n' N : Nat} {a' : Ad} (h : Rt w0 w F G n a k laid m v) (hp : M.PL w' F' n' a') (hn' : n' ≤ N) (hn : n ≤ N) (hQ : F'.Q = F.Q) (hF : ∀ b, F'.has b → F.has b ∨ w.heap.size ≤ b) (hk : Kept F.has w w') : Rs w0 w' F.Q G.Q N a' k laid m v :=
  ⟨F', G, hQ, rfl, h.rz.line hp hn' hn hF hk, O.own_far h.ow hk fun g hg => (h.nf g hg).1, h.ln, fun g hg => ⟨fun e => by
    rcases hF g e with h1 | h1
    · exact (h.nf g hg).1 h1
    · have := (h.ow.lt g hg).2; omega, (h.nf g hg).2⟩⟩
theorem Rs.locks {F : M.Ft} {G G' : K.Ft} {n' N : Nat} {k' : Lk} (h : Rt w0 w F G n a k laid m v) (hp : K.PL w' G' n' k') (hn' : n' ≤ N) (hn : n ≤ N) (hbl : k'.bl = k.bl) (hG : K.Grw w w' k.bl G G') (hk : Kept (G.has k.bl) w w') : Rs w0 w' F.Q G.Q N a k' laid m v :=
  ⟨F, G', rfl, hG.q, h.rz.locks hp hn' hn hbl hG hk, O.own_far h.ow hk fun g hg => (h.nf g hg).2, h.ln, fun g hg => ⟨(h.nf g hg).1, fun e => by
    rw [hbl] at e
    rcases hG.has g e with h1 | h1
    · exact (h.nf g hg).2 h1
    · have := (h.ow.lt g hg).2; omega⟩⟩
/-- the row has grown, or another one has taken its place -/
theorem Rs.row {laid' : List Int} {m' : Nat} {v' : Value} (h : Rs w0 w Q R n a k laid m v) (hk : Kept (fun b => v.ownBlock = some b) w w') (ho : w'.ownsRow w0.heap.size 44 1 v' m' (U64 laid')) (hl : laid'.length = m') (hv : ∀ g, v'.ownBlock = some g → v.ownBlock = some g ∨ w.heap.size ≤ g) : Rs w0 w' Q R n a k laid' m' v' := by
  obtain ⟨F, G, h1, h2, h3⟩ := h
  have ty : ∀ g, M.kd w g = 3 → ¬ v.ownBlock = some g := fun g hg e => by
    obtain ⟨cur, hc⟩ := O.own_typ h3.ow e
    rw [M.kd_cells hc] at hg
    exact absurd hg (by decide)
  refine ⟨F, G, h1, h2, ⟨?_, ?_, ?_, h3.rz.ap, h3.rz.lm, h3.rz.lk⟩, ho, hl, fun g hg => ?_⟩
  · exact hk.into h3.rz.bel (fun b hb e => by have := (h3.ow.lt b e).1; omega) (Nat.le_refl _)
  · exact h3.rz.pm.far hk (fun b hb e => (h3.nf b e).1 hb) (fun g _ hg => ty g hg)
  · exact h3.rz.pk.far hk (fun b hb e => (h3.nf b e).2 hb) (fun g _ hg => ty g (by rw [kd_two]; exact hg))
  · rcases hv g hg with e | e
    · exact h3.nf g e
    · exact ⟨fun hf => by have := h3.rz.pm.lt hf; omega, fun hf => by have := h3.rz.pk.lt hf; omega⟩
/-! ### Calls -/
theorem r_in (h : Rs w0 w Q R n a k laid m v) (hx : a.next ≤ 1000) : Calls Tryz.prog 18 #[qp Q] w fun e w' => ∃ q c, e = .returned (.slice q (it a.I).length c) ∧ w'.ownsRow w.heap.size 44 1 (.slice q (it a.I).length c) (it a.I).length (U64 (it a.I)) ∧ Rs w0 w' Q R n a k laid m v ∧ RowKit.Below w.heap.size w w' := by
  obtain ⟨F, G, rfl, rfl, h3⟩ := h
  refine (M.in_at h3.rz.pm hx).mono ?_
  rintro e w' ⟨u, rfl, hm⟩
  obtain ⟨q, c, rfl, -, -, -⟩ := hm.read
  exact ⟨q, c, rfl, hm.own, Rs.later ⟨F, G, rfl, rfl, h3⟩ hm.below, hm.below⟩
theorem r_waiting (h : Rs w0 w Q R n a k laid m v) (hx : a.next ≤ 1000) : Calls Tryz.prog 14 #[qp Q] w fun e w' => ∃ q c, e = .returned (.slice q (wt a.W).length c) ∧ w'.ownsRow w.heap.size 44 1 (.slice q (wt a.W).length c) (wt a.W).length (U64 (wt a.W)) ∧ Rs w0 w' Q R n a k laid m v ∧ RowKit.Below w.heap.size w w' := by
  obtain ⟨F, G, rfl, rfl, h3⟩ := h
  refine (M.waiting_at h3.rz.pm hx).mono ?_
  rintro e w' ⟨u, rfl, hm⟩
  obtain ⟨q, c, rfl, -, -, -⟩ := hm.read
  exact ⟨q, c, rfl, hm.own, Rs.later ⟨F, G, rfl, rfl, h3⟩ hm.below, hm.below⟩
theorem r_fits (h : Rs w0 w Q R n a k laid m v) (hx : a.next ≤ 1000) : Calls Tryz.prog 17 #[qp Q] w fun e w' => e = .returned (.bool a.fits) ∧ Rs w0 w' Q R n a k laid m v ∧ RowKit.Below w.heap.size w w' := by
  obtain ⟨F, G, rfl, rfl, h3⟩ := h
  refine (M.fits_at h3.rz.pm hx).mono ?_
  rintro e w' ⟨rfl, hb⟩
  exact ⟨rfl, Rs.later ⟨F, G, rfl, rfl, h3⟩ hb, hb⟩
theorem r_queue (h : Rs w0 w Q R n a k laid m v) (hn : n ≤ 10000) (b : Int) : Calls Tryz.prog 15 #[qp R, .int .i64 b] w fun e w' => ∃ q c, e = .returned (.slice q (qS k.L b).length c) ∧ w'.ownsRow w.heap.size 44 1 (.slice q (qS k.L b).length c) (qS k.L b).length (U64 (qS k.L b)) ∧ Rs w0 w' Q R n a k laid m v ∧ RowKit.Below w.heap.size w w' := by
  obtain ⟨F, G, rfl, rfl, h3⟩ := h
  refine (K.queue_at h3.rz.pk hn b).mono ?_
  rintro e w' ⟨u, rfl, hm⟩
  obtain ⟨q, c, rfl, -, -, -⟩ := hm.read
  exact ⟨q, c, rfl, hm.own, Rs.later ⟨F, G, rfl, rfl, h3⟩ hm.below, hm.below⟩
theorem r_begin (h : Rs w0 w Q R n a k laid m v) (hn : n < 10000) (hx : a.next ≤ 1000) {p : Option Addr} {j c : Nat} {xs : List Int} (hI : B.IIn w p j xs) (hj : j + 80 ≤ 17592186044416) : Calls Tryz.prog 31 #[qp Q, .slice p j c] w fun e w' => ∃ u, e = .returned u ∧ Rs w0 w' Q R (n + 1) (a.begS xs) k laid m v := by
  obtain ⟨F, G, rfl, rfl, h3⟩ := h
  refine (M.begin_at h3.rz.pm hn hx hI hj).mono ?_
  rintro e w' ⟨q, d, v', rfl, ho, hp, hv, hk⟩
  exact ⟨_, rfl, Rs.line h3 hp (Nat.le_refl _) (Nat.le_succ n) rfl (fun b hb => M.Ft.has_new (F := F) (v1' := v') (v2' := F.v2) hv (.inl rfl) b hb) hk⟩
theorem r_enter (h : Rs w0 w Q R n a k laid m v) (hn : n < 10000) (hx : a.next ≤ 1000) : Calls Tryz.prog 32 #[qp Q] w fun e w' => ∃ q d, e = .returned (.tuple #[.int .u64 a.entT, .slice q a.entF.length d, .int .i64 a.entE]) ∧ w'.ownsRow w.heap.size 3 1 (.slice q a.entF.length d) a.entF.length (B.I64 a.entF) ∧ Rs w0 w' Q R (n + 1) a.entS k laid m v := by
  obtain ⟨F, G, rfl, rfl, h3⟩ := h
  refine (M.enter_at h3.rz.pm hn hx).mono ?_
  rintro e w' ⟨q, d, v1', v2', rfl, ho, hp, hv1, hv2, hk⟩
  exact ⟨q, d, rfl, ho, Rs.line h3 hp (Nat.le_refl _) (Nat.le_succ n) rfl (fun b hb => M.Ft.has_new (F := F) (v1' := v1') (v2' := v2') (G := F.G) (.inl hv1) hv2 b hb) hk⟩
theorem r_append (h : Rs w0 w Q R n a k laid m v) (hn : n < 10000) {t : Int} (ht : L.U64 t) : Calls Tryz.prog 35 #[qp Q, .int .u64 t] w fun e w' => ∃ u, e = .returned u ∧ Rs w0 w' Q R (n + 1) (a.appS t) k laid m v := by
  obtain ⟨F, G, rfl, rfl, h3⟩ := h
  refine (M.append_at h3.rz.pm hn ht).mono ?_
  rintro e w' ⟨rfl, hp, hk⟩
  exact ⟨_, rfl, Rs.line h3 hp (Nat.le_refl _) (Nat.le_succ n) rfl (fun b hb => .inl hb) hk⟩
theorem r_freed (h : Rs w0 w Q R n a k laid m v) (x : Int) : Calls Tryz.prog 38 #[qp Q, .int .i64 x] w fun e w' => ∃ u, e = .returned u ∧ Rs w0 w' Q R (n + 1) (a.freS x) k laid m v := by
  obtain ⟨F, G, rfl, rfl, h3⟩ := h
  refine (M.freed_at h3.rz.pm x).mono ?_
  rintro e w' ⟨rfl, hp, hk⟩
  exact ⟨_, rfl, Rs.line h3 hp (Nat.le_refl _) (Nat.le_succ n) rfl (fun b hb => .inl hb) hk⟩
theorem r_done (h : Rs w0 w Q R n a k laid m v) (hn : n < 10000) (hx : a.next ≤ 1000) {t : Int} (ht : L.U64 t) : Calls Tryz.prog 36 #[qp Q, .int .u64 t] w fun e w' => ∃ u, e = .returned u ∧ Rs w0 w' Q R (n + 2) (a.donS t) k laid m v := by
  obtain ⟨F, G, rfl, rfl, h3⟩ := h
  refine (M.done_at h3.rz.pm hn hx ht).mono ?_
  rintro e w' ⟨rfl, v', hp, hv, hk⟩
  exact ⟨_, rfl, Rs.line h3 hp (Nat.le_refl _) (by omega) rfl (fun b hb => .inl ((M.Ft.has_v2 hv b).1 hb)) hk⟩
theorem r_lay (h : Rs w0 w Q R n a k laid m v) (hn : n < 10000) {t : Int} (ht : L.U64 t) {p : Option Addr} {c base : Nat} {s : List Int} (ho : w.ownsRow base 3 1 (.slice p s.length c) s.length (B.I64 s)) (hs : s.length ≤ 1000) : Calls Tryz.prog 33 #[qp R, .int .u64 t, .slice p s.length c] w fun e w' => e = .returned (.int .i64 (K.layE k t s)) ∧ Rs w0 w' Q R (n + 1) a (K.layS k t s) laid m v := by
  obtain ⟨F, G, rfl, rfl, h3⟩ := h
  obtain ⟨p', c', e', hI, hkc, hp0, -⟩ := B.ints_in ho
  simp only [Value.slice.injEq] at e'
  obtain ⟨rfl, _, rfl⟩ := e'
  refine (K.lay_at h3.rz.pk hn t ht hI hkc hp0 (by omega) fun ad hd => ?_).mono ?_
  · subst hd
    obtain ⟨cur, hc⟩ := O.own_typ ho rfl
    exact K.kd_cells hc
  · rintro e w' ⟨rfl, G', hp, hk, hg⟩
    exact ⟨rfl, Rs.locks h3 hp (Nat.le_refl _) (Nat.le_succ n) (by unfold K.layS; split <;> rfl) hg hk⟩
theorem r_take (h : Rs w0 w Q R n a k laid m v) (hn : n < 10000) {t : Int} (ht : L.U64 t) : Calls Tryz.prog 34 #[qp R, .int .u64 t] w fun e w' => ∃ u, e = .returned u ∧ Rs w0 w' Q R (n + 1) a (K.takS k t) laid m v := by
  obtain ⟨F, G, rfl, rfl, h3⟩ := h
  refine (K.take_at h3.rz.pk hn ht).mono ?_
  rintro e w' ⟨rfl, G', hp, hk, hg⟩
  exact ⟨_, rfl, Rs.locks h3 hp (Nat.le_refl _) (Nat.le_succ n) rfl hg hk⟩
theorem r_drop (h : Rs w0 w Q R n a k laid m v) (hn : n < 10000) {t : Int} (ht : L.U64 t) : Calls Tryz.prog 37 #[qp R, .int .u64 t] w fun e w' => ∃ u, e = .returned u ∧ Rs w0 w' Q R (n + 1) a (K.drpS k t) laid m v := by
  obtain ⟨F, G, rfl, rfl, h3⟩ := h
  refine (K.dropL_at h3.rz.pk (by omega) ht).mono ?_
  rintro e w' ⟨rfl, G', hp, hk, hg⟩
  exact ⟨_, rfl, Rs.locks h3 hp (Nat.le_succ n) (Nat.le_succ n) rfl hg hk⟩
end
end Go.Proofs.YtkgjmejpbklabaaGreat
