/-
  Layer 14, plain mathematics: locks are the list of tickets that are there, each with its set and how much of it is locked.
-/
namespace Go.Proofs.YtkgjmejpbklabaaGreat.K
/-- a ticket that is there -/
structure En where
  t : Int
  s : List Int
  d : Nat
/-- locks -/
structure Lk where
  bl : Nat
  last : Int
  L : List En
/-- is it in the list -/
def hsS (xs : List Int) (b : Int) : Bool := decide (b ∈ xs)
theorem hsS_iff {xs : List Int} {b : Int} : hsS xs b = true ↔ b ∈ xs := by unfold hsS; rw [decide_eq_true_eq]
/-- the tickets -/
def tix (L : List En) : List Int := L.map En.t
/-- a block's queue -/
def qS (L : List En) (b : Int) : List Int := (L.filter fun e => hsS e.s b).map En.t
/-- the first of a list; 0 -/
def hdv : List Int → Int
  | [] => 0
  | x :: _ => x
/-- a ticket's entry -/
def fnd (L : List En) (t : Int) : Option En := L.find? fun e => e.t == t
/-- what a ticket that is not there has -/
def noE (t : Int) : En := ⟨t, [], 0⟩
def ent (L : List En) (t : Int) : En := (fnd L t).getD (noE t)
def isIn (L : List En) (t : Int) : Bool := (fnd L t).isSome
/-- its next block -/
def En.nxN (e : En) : Int := e.s.getD e.d 0
def En.nxB (e : En) : Bool := decide (e.d < e.s.length)
def En.nx (e : En) : Int := if e.d < e.s.length then e.s.getD e.d 0 else 0
def En.held (e : En) : List Int := e.s.take e.d
def rdyS (L : List En) (t : Int) : Bool := (ent L t).nxB && (hdv (qS L (ent L t).nx) == t)
def risS (s : List Int) : Bool := decide (s.Pairwise (· < ·))
def inS (bl : Nat) (s : List Int) : Bool := decide (∀ b ∈ s, 0 ≤ b ∧ b < bl)
def layE (a : Lk) (t : Int) (s : List Int) : Int := if s = [] ∨ ¬ s.Pairwise (· < ·) then 53 else if ¬ ∀ b ∈ s, 0 ≤ b ∧ b < a.bl then 51 else if t ≤ a.last then 110 else 0
def layS (a : Lk) (t : Int) (s : List Int) : Lk := if layE a t s = 0 then ⟨a.bl, t, a.L ++ [⟨t, s, 0⟩]⟩ else a
def takE (L : List En) (t : Int) : Int := if isIn L t = false then 110 else if (ent L t).nxB = false then 180 else if rdyS L t = false then 130 else 0
def takN (L : List En) (t : Int) : Int := if takE L t = 0 then (ent L t).nx else 0
def bmp (t : Int) (e : En) : En := if e.t = t then ⟨e.t, e.s, e.d + 1⟩ else e
def takL (L : List En) (t : Int) : List En := if takE L t = 0 then L.map (bmp t) else L
def takS (a : Lk) (t : Int) : Lk := ⟨a.bl, a.last, takL a.L t⟩
def drpE (L : List En) (t : Int) : Int := if isIn L t = false then 110 else 0
def drpN (L : List En) (t : Int) : Int := (ent L t).d
def drpL (L : List En) (t : Int) : List En := L.filter fun e => e.t != t
def drpS (a : Lk) (t : Int) : Lk := ⟨a.bl, a.last, drpL a.L t⟩
/-- who has locked a block, as the program looks for it -/
def hldB (L : List En) (b : Int) : Bool := hsS (ent L (hdv (qS L b))).held b
def hldN (L : List En) (b : Int) : Int := if hldB L b then hdv (qS L b) else 0
structure Ok (a : Lk) : Prop where
  b1 : 1 ≤ a.bl
  b64 : a.bl ≤ 64
  rise : (tix a.L).Pairwise (· < ·)
  top : ∀ e ∈ a.L, e.t ≤ a.last
  pos : ∀ e ∈ a.L, 0 < e.t
  last0 : 0 ≤ a.last
  lastU : a.last ≤ 18446744073709551615
  ne : ∀ e ∈ a.L, e.s ≠ []
  up : ∀ e ∈ a.L, e.s.Pairwise (· < ·)
  rng : ∀ e ∈ a.L, ∀ b ∈ e.s, 0 ≤ b ∧ b < a.bl
  don : ∀ e ∈ a.L, e.d ≤ e.s.length
  own : ∀ e ∈ a.L, ∀ b ∈ e.held, hdv (qS a.L b) = e.t
theorem Ok.new {n : Nat} (h1 : 1 ≤ n) (h2 : n ≤ 64) : Ok ⟨n, 0, []⟩ := ⟨h1, h2, List.Pairwise.nil, by simp, by simp, by simp, by simp, by simp, by simp, by simp, by simp, by simp⟩
/-- a rising list of numbers of [lo, lo+n) has at most n -/
theorem up_len : ∀ (n : Nat) (lo : Int) (l : List Int), l.Pairwise (· < ·) → (∀ b ∈ l, lo ≤ b ∧ b < lo + n) → l.length ≤ n
  | _, _, [], _, _ => by simp
  | 0, lo, x :: l, _, h => by have := h x (by simp); omega
  | n + 1, lo, x :: l, hp, h => by
    have hx := h x (by simp)
    have h' := List.pairwise_cons.1 hp
    have := up_len n (lo + 1) l h'.2 (fun b hb => by have := h'.1 b hb; have := h b (by simp [hb]); omega)
    simp; omega
theorem Ok.slen {a : Lk} (h : Ok a) {e : En} (he : e ∈ a.L) : e.s.length ≤ 64 := by
  have := up_len a.bl 0 e.s (h.up e he) (fun b hb => by have := h.rng e he b hb; omega)
  have := h.b64
  omega
theorem tix_mem {L : List En} {e : En} (h : e ∈ L) : e.t ∈ tix L := List.mem_map_of_mem h
theorem mem_tix {L : List En} {t : Int} : t ∈ tix L ↔ ∃ e ∈ L, e.t = t := by simp [tix]
/-- tickets are told apart -/
theorem one_of : ∀ {L : List En}, (tix L).Pairwise (· < ·) → ∀ {e f : En}, e ∈ L → f ∈ L → e.t = f.t → e = f
  | [], _, _, _, he, _, _ => by cases he
  | x :: L, h, e, f, he, hf, ht => by
    have h' := List.pairwise_cons.1 (show (x.t :: tix L).Pairwise (· < ·) from h)
    rcases List.mem_cons.1 he with rfl | he'
    · rcases List.mem_cons.1 hf with rfl | hf'
      · rfl
      · have := h'.1 _ (tix_mem hf'); omega
    · rcases List.mem_cons.1 hf with rfl | hf'
      · have := h'.1 _ (tix_mem he'); omega
      · exact one_of h'.2 he' hf' ht
theorem fnd_of {L : List En} (h : (tix L).Pairwise (· < ·)) {e : En} (he : e ∈ L) : fnd L e.t = some e := by
  cases hf : fnd L e.t with
  | none =>
    have := List.find?_eq_none.1 hf e he
    simp at this
  | some f =>
    have h1 := List.mem_of_find?_eq_some hf
    have h2 : f.t = e.t := by have := List.find?_some hf; simpa using this
    rw [one_of h h1 he h2]
theorem fnd_some {L : List En} {t : Int} {e : En} (h : fnd L t = some e) : e ∈ L ∧ e.t = t := ⟨List.mem_of_find?_eq_some h, by have := List.find?_some h; simpa using this⟩
theorem fnd_none {L : List En} {t : Int} (h : fnd L t = none) : t ∉ tix L := by
  rw [mem_tix]
  rintro ⟨e, he, rfl⟩
  have := List.find?_eq_none.1 h e he
  simp at this
theorem isIn_iff {L : List En} {t : Int} : isIn L t = true ↔ t ∈ tix L := by
  unfold isIn
  cases h : fnd L t with
  | none => simp [fnd_none h]
  | some e => have := fnd_some h; simp [mem_tix]; exact ⟨e, this⟩
theorem isIn_ent {L : List En} {t : Int} (h : isIn L t = true) : fnd L t = some (ent L t) ∧ ent L t ∈ L ∧ (ent L t).t = t := by
  unfold isIn at h
  cases hf : fnd L t with
  | none => rw [hf] at h; cases h
  | some e => have := fnd_some hf; simp [ent, hf, this]
theorem ent_out {L : List En} {t : Int} (h : isIn L t = false) : ent L t = noE t ∧ fnd L t = none := by
  unfold isIn at h
  cases hf : fnd L t with
  | none => simp [ent, hf]
  | some e => rw [hf] at h; cases h
theorem ent_of {L : List En} (h : (tix L).Pairwise (· < ·)) {e : En} (he : e ∈ L) : ent L e.t = e ∧ isIn L e.t = true := by simp [ent, isIn, fnd_of h he]
theorem out_nx {L : List En} {t : Int} (h : isIn L t = false) : (ent L t).nxB = false ∧ (ent L t).nx = 0 ∧ (ent L t).held = [] ∧ (ent L t).d = 0 ∧ (ent L t).s = [] := by
  rw [(ent_out h).1]; simp [noE, En.nxB, En.nx, En.held]
theorem ent_don {a : Lk} (h : Ok a) (t : Int) : (ent a.L t).d ≤ (ent a.L t).s.length := by
  cases hi : isIn a.L t with
  | false => have := out_nx hi; simp [this.2.2.2.1, this.2.2.2.2]
  | true => exact h.don _ (isIn_ent hi).2.1
theorem ent_len {a : Lk} (h : Ok a) (t : Int) : (ent a.L t).s.length ≤ 64 := by
  cases hi : isIn a.L t with
  | false => have := out_nx hi; simp [this.2.2.2.2]
  | true => exact h.slen (isIn_ent hi).2.1
theorem ent_rng {a : Lk} (h : Ok a) (t : Int) : ∀ b ∈ (ent a.L t).s, 0 ≤ b ∧ b < a.bl := by
  cases hi : isIn a.L t with
  | false => have := out_nx hi; simp [this.2.2.2.2]
  | true => exact h.rng _ (isIn_ent hi).2.1
theorem ent_up {a : Lk} (h : Ok a) (t : Int) : (ent a.L t).s.Pairwise (· < ·) := by
  cases hi : isIn a.L t with
  | false => have := out_nx hi; simp [this.2.2.2.2]
  | true => exact h.up _ (isIn_ent hi).2.1
theorem qS_sub (L : List En) (b : Int) : (qS L b).Sublist (tix L) := List.Sublist.map _ List.filter_sublist
theorem qS_mem {L : List En} {b t : Int} : t ∈ qS L b ↔ ∃ e ∈ L, b ∈ e.s ∧ e.t = t := by
  simp only [qS, List.mem_map, List.mem_filter, hsS_iff]
  constructor
  · rintro ⟨e, ⟨h1, h2⟩, h3⟩; exact ⟨e, h1, h2, h3⟩
  · rintro ⟨e, h1, h2, h3⟩; exact ⟨e, ⟨h1, h2⟩, h3⟩
theorem Ok.qrise {a : Lk} (h : Ok a) (b : Int) : (qS a.L b).Pairwise (· < ·) := h.rise.sublist (qS_sub _ _)
theorem Ok.qout {a : Lk} (h : Ok a) {b : Int} (hb : ¬ (0 ≤ b ∧ b < a.bl)) : qS a.L b = [] := by
  rw [List.eq_nil_iff_forall_not_mem]
  intro t ht
  obtain ⟨e, he, hbs, _⟩ := qS_mem.1 ht
  exact hb (h.rng e he b hbs)
theorem qS_snoc (L : List En) (e : En) (b : Int) : qS (L ++ [e]) b = if hsS e.s b = true then qS L b ++ [e.t] else qS L b := by
  simp only [qS, List.filter_append, List.map_append]
  by_cases h : hsS e.s b = true
  · rw [if_pos h]; simp [h]
  · rw [if_neg h]; simp [Bool.of_not_eq_true h]
theorem tix_snoc (L : List En) (e : En) : tix (L ++ [e]) = tix L ++ [e.t] := by simp [tix]
theorem hdv_append {x y : List Int} (h : x ≠ []) : hdv (x ++ y) = hdv x := by
  cases x with
  | nil => exact absurd rfl h
  | cons a l => rfl
theorem hdv_mem {x : List Int} (h : x ≠ []) : hdv x ∈ x := by
  cases x with
  | nil => exact absurd rfl h
  | cons a l => simp [hdv]
theorem Ok.lay {a : Lk} (h : Ok a) {t : Int} {s : List Int} (hs : s ≠ []) (hu : s.Pairwise (· < ·)) (hr : ∀ b ∈ s, 0 ≤ b ∧ b < a.bl) (ht : a.last < t) (hU : t ≤ 18446744073709551615) : Ok ⟨a.bl, t, a.L ++ [⟨t, s, 0⟩]⟩ := by
  have l0 := h.last0
  refine ⟨h.b1, h.b64, ?_, ?_, ?_, by show 0 ≤ t; omega, hU, ?_, ?_, ?_, ?_, ?_⟩
  · rw [tix_snoc, List.pairwise_append]
    refine ⟨h.rise, List.pairwise_singleton _ _, ?_⟩
    intro x hx y hy
    obtain ⟨e, he, rfl⟩ := mem_tix.1 hx
    simp at hy
    have := h.top e he
    omega
  all_goals (intro e he; rcases List.mem_append.1 he with he | he)
  · have := h.top e he; show e.t ≤ t; omega
  · simp at he; subst he; exact Int.le_refl _
  · exact h.pos e he
  · simp at he; subst he; show 0 < t; omega
  · exact h.ne e he
  · simp at he; subst he; exact hs
  · exact h.up e he
  · simp at he; subst he; exact hu
  · exact h.rng e he
  · simp at he; subst he; exact hr
  · exact h.don e he
  · simp at he; subst he; exact Nat.zero_le _
  · intro b hb
    have h1 := h.own e he b hb
    show hdv (qS (a.L ++ [⟨t, s, 0⟩]) b) = e.t
    rw [qS_snoc]
    have hne : qS a.L b ≠ [] := fun e0 => by
      have : e.t ∈ qS a.L b := qS_mem.2 ⟨e, he, List.mem_of_mem_take hb, rfl⟩
      rw [e0] at this; cases this
    split
    · rw [hdv_append hne]; exact h1
    · exact h1
  · simp at he; subst he; intro b hb; simp [En.held] at hb
theorem layE_zero {a : Lk} {t : Int} {s : List Int} : layE a t s = 0 ↔ s ≠ [] ∧ s.Pairwise (· < ·) ∧ (∀ b ∈ s, 0 ≤ b ∧ b < a.bl) ∧ a.last < t := by
  unfold layE
  split
  · rename_i h; constructor
    · intro h0; cases h0
    · rintro ⟨h1, h2, _⟩; rcases h with h | h
      · exact absurd h h1
      · exact absurd h2 h
  · rename_i h
    split
    · rename_i h2; constructor
      · intro h0; cases h0
      · rintro ⟨_, _, h3, _⟩; exact absurd h3 h2
    · rename_i h2
      split
      · rename_i h3; constructor
        · intro h0; cases h0
        · rintro ⟨_, _, _, h4⟩; omega
      · rename_i h3
        simp only [true_iff]
        refine ⟨fun e => h (.inl e), Classical.byContradiction fun e => h (.inr e), Classical.byContradiction h2, by omega⟩
theorem Ok.layS {a : Lk} (h : Ok a) {t : Int} {s : List Int} (hU : t ≤ 18446744073709551615) : Ok (layS a t s) := by
  unfold Go.Proofs.YtkgjmejpbklabaaGreat.K.layS
  split
  · rename_i h0
    obtain ⟨h1, h2, h3, h4⟩ := layE_zero.1 h0
    exact h.lay h1 h2 h3 h4 hU
  · exact h
theorem bmp_t (t : Int) (e : En) : (bmp t e).t = e.t := by unfold bmp; split <;> rfl
theorem bmp_s (t : Int) (e : En) : (bmp t e).s = e.s := by unfold bmp; split <;> rfl
theorem tix_bmp (t : Int) (L : List En) : tix (L.map (bmp t)) = tix L := by simp [tix, Function.comp_def, bmp_t]
theorem qS_bmp (t : Int) (L : List En) (b : Int) : qS (L.map (bmp t)) b = qS L b := by
  simp only [qS, List.filter_map, List.map_map]
  congr 1
  · funext e; simp [bmp_t]
  · congr 1; funext e; simp [bmp_s]
theorem fnd_bmp (L : List En) (t u : Int) : fnd (L.map (bmp t)) u = (fnd L u).map (bmp t) := by
  simp only [fnd, List.find?_map, Function.comp_def, bmp_t]
theorem takE_zero {L : List En} {t : Int} : takE L t = 0 ↔ isIn L t = true ∧ (ent L t).nxB = true ∧ rdyS L t = true := by
  unfold takE
  cases isIn L t <;> cases (ent L t).nxB <;> cases rdyS L t <;> simp
theorem nx_get {e : En} (h : e.nxB = true) : ∃ hd : e.d < e.s.length, e.nx = e.s[e.d] := by
  have hd : e.d < e.s.length := by simpa [En.nxB] using h
  exact ⟨hd, by simp [En.nx, hd, List.getD]⟩
theorem Ok.bump {a : Lk} (h : Ok a) {t : Int} (h0 : takE a.L t = 0) : Ok ⟨a.bl, a.last, a.L.map (bmp t)⟩ := by
  obtain ⟨h1, h2, h3⟩ := takE_zero.1 h0
  obtain ⟨_, hin, het⟩ := isIn_ent h1
  obtain ⟨hd, hnx⟩ := nx_get h2
  have hr : hdv (qS a.L (ent a.L t).nx) = t := by
    unfold rdyS at h3
    rw [h2] at h3
    simpa using h3
  refine ⟨h.b1, h.b64, by show (tix (a.L.map (bmp t))).Pairwise _; rw [tix_bmp]; exact h.rise, ?_, ?_, h.last0, h.lastU, ?_, ?_, ?_, ?_, ?_⟩
  all_goals (intro e' he'; obtain ⟨e, he, rfl⟩ := List.mem_map.1 he')
  · rw [bmp_t]; exact h.top e he
  · rw [bmp_t]; exact h.pos e he
  · rw [bmp_s]; exact h.ne e he
  · rw [bmp_s]; exact h.up e he
  · rw [bmp_s]; exact h.rng e he
  · rw [bmp_s]
    unfold bmp
    split
    · rename_i ht
      have := one_of h.rise he hin (by rw [ht, het])
      subst this
      exact hd
    · exact h.don e he
  · intro b hb
    show hdv (qS (a.L.map (bmp t)) b) = _
    rw [qS_bmp, bmp_t]
    by_cases ht : e.t = t
    · have := one_of h.rise he hin (by rw [ht, het])
      have hb' : b ∈ e.s.take (e.d + 1) := by
        have : (bmp t e).held = e.s.take (e.d + 1) := by simp [bmp, ht, En.held]
        rw [this] at hb; exact hb
      subst this
      rw [List.take_succ_eq_append_getElem hd, List.mem_append] at hb'
      rcases hb' with hb' | hb'
      · exact h.own _ he b hb'
      · simp at hb'
        rw [hb', ← hnx, hr, het]
    · have : bmp t e = e := by simp [bmp, ht]
      rw [this] at hb
      exact h.own e he b hb
theorem Ok.takS {a : Lk} (h : Ok a) (t : Int) : Ok (takS a t) := by
  unfold Go.Proofs.YtkgjmejpbklabaaGreat.K.takS takL
  split
  · rename_i h0; exact h.bump h0
  · exact h
theorem qS_drp (t : Int) (L : List En) (b : Int) : qS (drpL L t) b = (qS L b).filter (· != t) := by
  simp only [qS, drpL, List.filter_map, List.filter_filter]
  congr 1
  congr 1
  funext e
  simp only [Function.comp_def]
  exact Bool.and_comm _ _
theorem tix_drp (t : Int) (L : List En) : tix (drpL L t) = (tix L).filter (· != t) := by
  simp only [tix, drpL, List.filter_map]; rfl
theorem hdv_filter {x : List Int} {t : Int} (h : hdv x ≠ t) : hdv (x.filter (· != t)) = hdv x := by
  cases x with
  | nil => rfl
  | cons a l => rw [List.filter_cons, if_pos (by simpa [hdv] using h)]; rfl
theorem Ok.drpS {a : Lk} (h : Ok a) (t : Int) : Ok (drpS a t) := by
  have hm : ∀ e, e ∈ drpL a.L t → e ∈ a.L ∧ e.t ≠ t := fun e he => by simpa [drpL] using he
  refine ⟨h.b1, h.b64, by show (tix (drpL a.L t)).Pairwise _; rw [tix_drp]; exact h.rise.sublist List.filter_sublist, fun e he => h.top e (hm e he).1, fun e he => h.pos e (hm e he).1, h.last0, h.lastU, fun e he => h.ne e (hm e he).1, fun e he => h.up e (hm e he).1, fun e he => h.rng e (hm e he).1, fun e he => h.don e (hm e he).1, fun e he b hb => ?_⟩
  show hdv (qS (drpL a.L t) b) = e.t
  have h1 := h.own e (hm e he).1 b hb
  rw [qS_drp, hdv_filter (by rw [h1]; exact (hm e he).2), h1]
theorem fnd_drp (L : List En) (t u : Int) : fnd (drpL L t) u = if u = t then none else fnd L u := by
  unfold fnd drpL
  rw [List.find?_filter]
  split
  · rename_i h; subst h
    rw [List.find?_eq_none]
    intro e _; simp
  · rename_i h
    congr 1
    funext e
    by_cases h2 : e.t = u
    · subst h2; simp [h]
    · simp [h2]
theorem fnd_snoc (L : List En) (e : En) (u : Int) (h : u ∈ tix L → u ≠ e.t) : fnd (L ++ [e]) u = if u = e.t then some e else fnd L u := by
  unfold fnd
  rw [List.find?_append]
  split
  · rename_i h1; subst h1
    have : L.find? (fun x => x.t == e.t) = none := by
      rw [List.find?_eq_none]
      intro x hx hxt
      simp at hxt
      exact h (mem_tix.2 ⟨x, hx, hxt⟩) rfl
    rw [this]; simp
  · rename_i h1
    have : List.find? (fun x => x.t == u) [e] = none := by simp; exact fun e0 => h1 e0.symm
    rw [this]; simp
/-- who has locked a block stands first there: what the program asks is what there is -/
theorem hld_iff {a : Lk} (h : Ok a) (b : Int) : (hldB a.L b = true ↔ ∃ e ∈ a.L, b ∈ e.held) ∧ ∀ e ∈ a.L, b ∈ e.held → hldB a.L b = true ∧ hldN a.L b = e.t := by
  have key : ∀ e ∈ a.L, b ∈ e.held → hldB a.L b = true ∧ hldN a.L b = e.t := fun e he hb => by
    have h1 := h.own e he b hb
    have h2 : hldB a.L b = true := by rw [hldB, h1, (ent_of h.rise he).1, hsS_iff]; exact hb
    exact ⟨h2, by rw [hldN, if_pos h2, h1]⟩
  refine ⟨⟨fun hb => ?_, fun ⟨e, he, hb⟩ => (key e he hb).1⟩, key⟩
  rw [hldB, hsS_iff] at hb
  cases hi : isIn a.L (hdv (qS a.L b)) with
  | false => rw [(out_nx hi).2.2.1] at hb; cases hb
  | true => exact ⟨_, (isIn_ent hi).2.1, hb⟩
end Go.Proofs.YtkgjmejpbklabaaGreat.K
