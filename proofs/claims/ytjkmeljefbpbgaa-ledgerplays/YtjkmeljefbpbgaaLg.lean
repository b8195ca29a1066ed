/-
  Layer 12: LedgerRoom: what stands.
-/
import Derived.Test.YtjkmeljefbpbgaaLf
namespace Go.Proofs.Ytjkmeljefbpbgaa
open Go.RowKit


abbrev V64 (xs : List Int) : List Value := xs.map (Value.int .u64)
abbrev VI (xs : List Int) : List Value := xs.map (Value.int .i64)
theorem ones_u64 (xs : List Int) : ∀ v ∈ V64 xs, v.oneCell' = true := by
  intro u hu; obtain ⟨x, _, rfl⟩ := List.mem_map.1 hu; rfl
theorem ones_i64 (xs : List Int) : ∀ v ∈ VI xs, v.oneCell' = true := by
  intro u hu; obtain ⟨x, _, rfl⟩ := List.mem_map.1 hu; rfl
def sl63 (x : Int) : Nat := ((x.tmod 63 + 63) % 63).toNat
theorem sl63_is (x : Int) : (x.tmod 63 + 63) % 63 = ((sl63 x : Nat) : Int) := by unfold sl63; omega
theorem sl63_lt (x : Int) : sl63 x < 63 := by unfold sl63; omega
theorem tmod63 (x : Int) : -63 < x.tmod 63 ∧ x.tmod 63 < 63 := by
  by_cases h : 0 ≤ x
  · rw [Int.tmod_eq_emod_of_nonneg h]; omega
  · rw [show x = -(-x) by omega, Int.neg_tmod, Int.tmod_eq_emod_of_nonneg (show 0 ≤ -x by omega)]; omega

/-- where a ticket stands among the first j -/
def atv (t : Int) (L : List (Int × Int)) (j : Nat) : Int := if pos t L < j then (pos t L : Int) else -1
theorem atv_zero (t : Int) (L : List (Int × Int)) : atv t L 0 = -1 := if_neg (by omega)
theorem atv_hit {t : Int} {L : List (Int × Int)} (h : Fine L) {j : Nat} (hj : j < L.length) (e : (L[j]).1 = t) : atv t L (j + 1) = j := by
  have := pos_is h hj e
  unfold atv
  rw [this, if_pos (by omega)]
theorem atv_miss {t : Int} {L : List (Int × Int)} {j : Nat} (hj : j < L.length) (e : ¬ (L[j]).1 = t) : atv t L (j + 1) = atv t L j := by
  have hne : pos t L ≠ j := fun e2 => by
    subst e2
    exact e (pos_fst t hj)
  unfold atv
  by_cases h : pos t L < j
  · rw [if_pos (by omega), if_pos h]
  · rw [if_neg (by omega), if_neg h]
theorem atv_none {t : Int} {L : List (Int × Int)} (h : look t L = none) : atv t L L.length = -1 := if_neg (by rw [pos_none h]; omega)
theorem atv_some {t n : Int} {L : List (Int × Int)} (h : look t L = some n) : atv t L L.length = pos t L := if_pos (pos_some h).1
theorem total_take {L : List (Int × Int)} {j : Nat} (hj : j < L.length) : total (L.take (j + 1)) = total (L.take j) + (L[j]).2 := by
  rw [List.take_succ_eq_append_getElem hj]
  exact total_app _ _ _
theorem total_take_le {L : List (Int × Int)} (h : Fine L) (j : Nat) : 0 ≤ total (L.take j) ∧ total (L.take j) ≤ total L := by
  have hf : Fine (L.take j) := ⟨fun x hx => h.nonneg x (List.mem_of_mem_take hx), by rw [List.map_take]; exact h.once.sublist (List.take_sublist _ _)⟩
  refine ⟨total_nonneg hf, ?_⟩
  have hd : Fine (L.drop j) := ⟨fun x hx => h.nonneg x (List.mem_of_mem_drop hx), by rw [List.map_drop]; exact h.once.sublist (List.drop_sublist _ _)⟩
  have e : ∀ A B : List (Int × Int), total (A ++ B) = total A + total B := by
    intro A B
    induction A with
    | nil => simp [total]
    | cons x xs ih => simp only [List.cons_append, total, ih]; omega
  have h2 := e (L.take j) (L.drop j)
  rw [List.take_append_drop] at h2
  have := total_nonneg hd
  omega

/-- the two lists beside the ledger -/
structure TL (w0 w : World) (tv lv : Value) (L : List (Int × Int)) : Prop where
  tk : w.ownsRow w0.heap.size 30 1 tv L.length (V64 (L.map Prod.fst))
  lf : w.ownsRow w0.heap.size 3 1 lv L.length (VI (L.map Prod.snd))
section
variable {w0 w w' : World} {Q b n : Nat} {s s' : Lg} {tv lv : Value} {L : List (Int × Int)}
theorem TL.later (h : TL w0 w tv lv L) (hb : Below w.heap.size w w') : TL w0 w' tv lv L := ⟨own_later h.tk hb, own_later h.lf hb⟩
theorem TL.far (h : TL w0 w tv lv L) (hl : LAt w Q b n s) (hk : Kept (LF Q b) w w') : TL w0 w' tv lv L := by
  obtain ⟨es, clock, hm⟩ := hl.mp.typ
  have nt : ∀ g, tv.ownBlock = some g → ¬ LF Q b g := fun g hg e => by
    rcases e with rfl | rfl
    · exact own_not h.tk hl.st (by decide) hg
    · exact own_notMap h.tk hm hg
  have nl : ∀ g, lv.ownBlock = some g → ¬ LF Q b g := fun g hg e => by
    rcases e with rfl | rfl
    · exact own_not h.lf hl.st (by decide) hg
    · exact own_notMap h.lf hm hg
  exact ⟨own_far h.tk hk nt, own_far h.lf hk nl⟩
theorem TL.empty (w0 w : World) : TL w0 w (.slice none 0 0) (.slice none 0 0) [] := ⟨World.ownsRow_nil _ _ _ _, World.ownsRow_nil _ _ _ _⟩
/-- the ledger, the lists, the step -/
structure RB (w0 w : World) (Q b n : Nat) (s : Lg) (tv lv : Value) (L : List (Int × Int)) (B : Nat) (kd wh t N : Int) : Prop where
  own : Own w0 w Q b n s
  tl : TL w0 w tv lv L
  box : w.heap[B]? = some (.cells (ocells kd wh t N) 32 (0, 0))
variable {B : Nat} {kd wh t N : Int}
theorem RB.later (h : RB w0 w Q b n s tv lv L B kd wh t N) (hb : Below w.heap.size w w') : RB w0 w' Q b n s tv lv L B kd wh t N :=
  ⟨h.own.later hb, h.tl.later hb, (hb.block B (Array.getElem?_eq_some_iff.1 h.box).1).trans h.box⟩
theorem RB.drawn (h : RB w0 w Q b n s tv lv L B kd wh t N) (m : Nat) : RB w0 (w.drewN m) Q b n s tv lv L B kd wh t N := h.later (below_drawn m)
theorem RB.turn {n' : Nat} (h : RB w0 w Q b n s tv lv L B kd wh t N) (h' : LAt w' Q b n' s') (ok : Ok s') (hk : Kept (LF Q b) w w') : RB w0 w' Q b n' s' tv lv L B kd wh t N := by
  refine ⟨h.own.turn h' ok hk, h.tl.far h.own.at' hk, (hk.block B (Array.getElem?_eq_some_iff.1 h.box).1 fun e => ?_).trans h.box⟩
  rcases e with rfl | rfl
  · have := h.own.at'.st
    rw [h.box] at this
    simp at this
  · obtain ⟨es, clock, hm⟩ := h.own.at'.mp.typ
    rw [h.box] at hm
    cases hm
theorem r_used (h : RB w0 w Q b n s tv lv L B kd wh t N) : Calls Try.prog 8 #[lp Q] w fun e w' => e = .returned (.int .i64 s.used) ∧ w' = w := used_at h.own.at'
theorem r_reserved (h : RB w0 w Q b n s tv lv L B kd wh t N) : Calls Try.prog 9 #[lp Q] w fun e w' => e = .returned (.int .i64 (total s.L)) ∧ w' = w := reserved_at h.own.at'
theorem r_reserve (h : RB w0 w Q b n s tv lv L B kd wh t N) (hn : n < 10000) (ht : U64 t) {r : Int} (hr : rsvE s t N = r) (hs : rsvS s t N = s') :
    Calls Try.prog 10 #[lp Q, .int .u64 t, .int .i64 N] w fun e w' => e = .returned (.int .i64 r) ∧ RB w0 w' Q b (n + 1) s' tv lv L B kd wh t N := by
  subst hr hs
  exact (reserve_at h.own.at' h.own.ok hn ht N).mono fun e w' ⟨h1, h2, h3⟩ => ⟨h1, h.turn h2 (h.own.ok.rsv t N) h3⟩
theorem r_append (h : RB w0 w Q b n s tv lv L B kd wh t N) (hn : n < 10000) (ht : U64 t) {r : Int} (hr : appE s t = r) (hs : appS s t = s') :
    Calls Try.prog 11 #[lp Q, .int .u64 t] w fun e w' => e = .returned (.int .i64 r) ∧ RB w0 w' Q b (n + 1) s' tv lv L B kd wh t N := by
  subst hr hs
  exact (append_at h.own.at' h.own.ok hn ht).mono fun e w' ⟨h1, h2, h3⟩ => ⟨h1, h.turn h2 (h.own.ok.app t) h3⟩
theorem r_close (h : RB w0 w Q b n s tv lv L B kd wh t N) (ht : U64 t) {r : Int} (hr : clsE s t = r) (hs : clsS s t = s') :
    Calls Try.prog 12 #[lp Q, .int .u64 t] w fun e w' => e = .returned (.int .i64 r) ∧ RB w0 w' Q b (n + 1) s' tv lv L B kd wh t N := by
  subst hr hs
  exact (close_at h.own.at' h.own.ok ht).mono fun e w' ⟨h1, h2, h3⟩ => ⟨h1, h.turn h2 (h.own.ok.cls t) h3⟩
theorem r_free (h : RB w0 w Q b n s tv lv L B kd wh t N) {r : Int} (hr : freE s N = r) (hs : freS s N = s') :
    Calls Try.prog 13 #[lp Q, .int .i64 N] w fun e w' => e = .returned (.int .i64 r) ∧ RB w0 w' Q b (n + 1) s' tv lv L B kd wh t N := by
  subst hr hs
  exact (free_at h.own.at' h.own.ok N).mono fun e w' ⟨h1, h2, h3⟩ => ⟨h1, h.turn h2 (h.own.ok.fre N) h3⟩
theorem RB.make (h : Own w0 w Q b n s) (ht : TL w0 w tv lv L) (kd wh t N : Int) : RB w0 (w.alloc (.cells (ocells kd wh t N) 32)) Q b n s tv lv L w.heap.size kd wh t N :=
  ⟨h.later (below_alloc w _), ht.later (below_alloc w _), heap_alloc_new w _⟩
/-- a row that was made since we -/
structure FR (we w : World) (base : Nat) (e : TypeId) (size : Nat) (v : Value) (n : Nat) (xs : List Value) : Prop where
  own : w.ownsRow base e size v n xs
  below : Below we.heap.size we w
  new : ∀ g, v.ownBlock = some g → we.heap.size ≤ g
theorem FR.empty {we w : World} {base : Nat} (e : TypeId) (size : Nat) (hb : Below we.heap.size we w) (hB : base ≤ we.heap.size) : FR we (w.alloc (.cells #[] e)) base e size (.slice (some ⟨w.heap.size, 0, none⟩) 0 0) 0 [] :=
  ⟨own_empty w (Nat.le_trans hB hb.size), below_then hb (below_alloc w _), fun g hg => by have := hb.size; simp [Value.ownBlock] at hg; omega⟩
theorem FR.app {we w w' : World} {base : Nat} {e : TypeId} {size : Nat} {v v' : Value} {n n' : Nat} {xs ys : List Value} (h : FR we w base e size v n xs) (ho : w'.ownsRow base e size v' n' ys) (hk : Kept (fun b => v.ownBlock = some b) w w') (hv : v'.ownBlock = v.ownBlock ∨ v'.ownBlock = some w.heap.size) : FR we w' base e size v' n' ys :=
  ⟨ho, hk.into h.below (fun b hb e => by have := h.new b e; omega) (Nat.le_refl _), fun g hg => by
    rcases hv with e | e
    · exact h.new g (e ▸ hg)
    · rw [e] at hg; have := h.below.size; simp at hg; omega⟩
/-- the ledger, the two lists on their way, the step -/
structure RC (w0 w : World) (Q b n : Nat) (s : Lg) (tv : Value) (nt : Nat) (xt : List Value) (lv : Value) (nl : Nat) (xl : List Value) (B : Nat) (kd wh t N : Int) : Prop where
  own : Own w0 w Q b n s
  tk : w.ownsRow w0.heap.size 30 1 tv nt xt
  lf : w.ownsRow w0.heap.size 3 1 lv nl xl
  box : w.heap[B]? = some (.cells (ocells kd wh t N) 32 (0, 0))
theorem RB.rc (h : RB w0 w Q b n s tv lv L B kd wh t N) : RC w0 w Q b n s tv L.length (V64 (L.map Prod.fst)) lv L.length (VI (L.map Prod.snd)) B kd wh t N := ⟨h.own, h.tl.tk, h.tl.lf, h.box⟩
variable {nt nl : Nat} {xt xl : List Value}
theorem RC.later (h : RC w0 w Q b n s tv nt xt lv nl xl B kd wh t N) (hb : Below w.heap.size w w') : RC w0 w' Q b n s tv nt xt lv nl xl B kd wh t N :=
  ⟨h.own.later hb, own_later h.tk hb, own_later h.lf hb, (hb.block B (Array.getElem?_eq_some_iff.1 h.box).1).trans h.box⟩
theorem RC.row {e : TypeId} {v : Value} {n' : Nat} {xs : List Value} (h : RC w0 w Q b n s tv nt xt lv nl xl B kd wh t N) (hv : w.ownsRow w0.heap.size e 1 v n' xs) (he : e ≠ 56 ∧ e ≠ 32) (hk : Kept (fun x => v.ownBlock = some x) w w') :
    Own w0 w' Q b n s ∧ w'.heap[B]? = some (.cells (ocells kd wh t N) 32 (0, 0)) := by
  obtain ⟨es, clock, hm⟩ := h.own.at'.mp.typ
  refine ⟨⟨h.own.at'.kept (hk.block Q h.own.at'.lt (own_not hv h.own.at'.st (Ne.symm he.1))) (hk.block b h.own.at'.mp.lt (own_notMap hv hm)), h.own.ok, h.own.lo, h.own.lob, hk.into h.own.below (fun x hx e => by have := (hv.lt x e).1; omega) (Nat.le_refl _)⟩, (hk.block B (Array.getElem?_eq_some_iff.1 h.box).1 (own_not hv h.box (Ne.symm he.2))).trans h.box⟩
theorem RC.turnT (h : RC w0 w Q b n s tv nt xt lv nl xl B kd wh t N) {v' : Value} {n' : Nat} {ys : List Value} (ho : w'.ownsRow w0.heap.size 30 1 v' n' ys) (hk : Kept (fun x => tv.ownBlock = some x) w w') : RC w0 w' Q b n s v' n' ys lv nl xl B kd wh t N := by
  obtain ⟨h1, h2⟩ := h.row h.tk (by decide) hk
  exact ⟨h1, ho, own_far h.lf hk fun g hg => own_ne h.lf h.tk (by decide) hg, h2⟩
theorem RC.turnL (h : RC w0 w Q b n s tv nt xt lv nl xl B kd wh t N) {v' : Value} {n' : Nat} {ys : List Value} (ho : w'.ownsRow w0.heap.size 3 1 v' n' ys) (hk : Kept (fun x => lv.ownBlock = some x) w w') : RC w0 w' Q b n s tv nt xt v' n' ys B kd wh t N := by
  obtain ⟨h1, h2⟩ := h.row h.lf (by decide) hk
  exact ⟨h1, own_far h.tk hk fun g hg => own_ne h.tk h.lf (by decide) hg, ho, h2⟩
/-- a list of one that waits to be appended -/
def One (w : World) (g : Nat) (e : TypeId) (v : Value) : Prop := w.heap[g]? = some (.cells #[v] e (0, 0))
theorem One.made (w : World) (e : TypeId) (v : Value) : One (w.alloc (.cells #[v] e)) w.heap.size e v := heap_alloc_new w _
theorem One.later {g : Nat} {e : TypeId} {v : Value} (h : One w g e v) (hb : Below w.heap.size w w') : One w' g e v := (hb.block g (Array.getElem?_eq_some_iff.1 h).1).trans h
theorem One.far {g : Nat} {e e' : TypeId} {v u : Value} {base n' : Nat} {xs : List Value} (h : One w g e v) (hu : w.ownsRow base e' 1 u n' xs) (hne : e ≠ e') (hk : Kept (fun x => u.ownBlock = some x) w w') : One w' g e v := (hk.block g (Array.getElem?_eq_some_iff.1 h).1 (own_not hu h hne)).trans h
theorem One.news {g : Nat} {e : TypeId} {v : Value} (h : One w g e v) : ∀ j u, [v][j]? = some u → w.cell? ((⟨g, 0, none⟩ : Addr).add j) = some u := by
  intro j u hj
  rw [Go.WideShapes.add_plain, cell_of_row _ g (0 + j) _ e (0, 0) h, Nat.zero_add]
  simpa using hj
theorem one_one {v : Value} (h : v.oneCell' = true) : ∀ u ∈ [v], u.oneCell' = true := by
  intro u hu; obtain rfl := List.mem_singleton.1 hu; exact h
theorem cut_len {t v : Int} {L : List (Int × Int)} (h : look t L = some v) : pos t L < L.length ∧ (cut t L).length = 0 + pos t L + (L.length - (pos t L + 1)) := by
  obtain ⟨hp, _⟩ := pos_some h
  refine ⟨hp, ?_⟩
  rw [cut_pos, List.length_append, List.length_take, List.length_drop]
  omega
theorem cut_cells {α : Type} (F : Int × Int → α) (t : Int) (L : List (Int × Int)) : (cut t L).map F = [] ++ ((L.map F).drop 0).take (pos t L) ++ ((L.map F).drop (pos t L + 1)).take (L.length - (pos t L + 1)) := by
  rw [cut_pos, List.map_append, List.map_take, List.map_drop, List.nil_append, List.drop_zero]
  congr 1
  rw [List.take_of_length_le (by simp)]
theorem own_shape {base : Nat} {e : TypeId} {size : Nat} {v : Value} {n : Nat} {xs : List Value} (h : w.ownsRow base e size v n xs) : ∃ p c, v = .slice p n c := by
  obtain ⟨p, c, e1, _⟩ := own_form h
  exact ⟨p, c, e1⟩
theorem TL.app (h1 : w.ownsRow w0.heap.size 30 1 tv (L.length + 1) (V64 (L.map Prod.fst) ++ [.int .u64 t])) (h2 : w.ownsRow w0.heap.size 3 1 lv (L.length + 1) (VI (L.map Prod.snd) ++ [.int .i64 N])) : TL w0 w tv lv (L ++ [(t, N)]) := ⟨by simpa [V64] using h1, by simpa [VI] using h2⟩
theorem cut_V64 (t : Int) (L : List (Int × Int)) : V64 ((cut t L).map Prod.fst) = [] ++ ((V64 (L.map Prod.fst)).drop 0).take (pos t L) ++ ((V64 (L.map Prod.fst)).drop (pos t L + 1)).take (L.length - (pos t L + 1)) := by
  simp only [V64, List.map_map]
  exact cut_cells _ t L
theorem cut_VI (t : Int) (L : List (Int × Int)) : VI ((cut t L).map Prod.snd) = [] ++ ((VI (L.map Prod.snd)).drop 0).take (pos t L) ++ ((VI (L.map Prod.snd)).drop (pos t L + 1)).take (L.length - (pos t L + 1)) := by
  simp only [VI, List.map_map]
  exact cut_cells _ t L
theorem ones_piece {xs : List Value} (h : ∀ u ∈ xs, u.oneCell' = true) (k l : Nat) : ∀ u ∈ (xs.drop k).take l, u.oneCell' = true := fun u hu => h u (List.mem_of_mem_drop (List.mem_of_mem_take hu))
theorem len_piece {xs : List Value} {k l n : Nat} (h : xs.length = n) (hkl : k + l ≤ n) : ((xs.drop k).take l).length = l * 1 := by
  rw [List.length_take, List.length_drop]
  omega
theorem len_V64 (L : List (Int × Int)) : (V64 (L.map Prod.fst)).length = L.length := by simp [V64]
theorem len_VI (L : List (Int × Int)) : (VI (L.map Prod.snd)).length = L.length := by simp [VI]
theorem piece_addr (g : Nat) {c pp n : Nat} (hc : n ≤ c) : ∃ ad : Addr, (if c = pp + 1 then some (⟨g, 0, none⟩ : Addr) else some ⟨g, pp + 1, none⟩) = some ad ∧ (ad = ⟨g, pp + 1, none⟩ ∨ n - (pp + 1) = 0) := by
  by_cases h : c = pp + 1
  · exact ⟨_, if_pos h, .inr (by omega)⟩
  · exact ⟨_, if_neg h, .inl rfl⟩
theorem own_piece2 {base : Nat} {e : TypeId} {size : Nat} {v : Value} {n : Nat} {xs : List Value} (h : w.ownsRow base e size v n xs) {g : Nat} (hg : v.ownBlock = some g) {ad : Addr} {k l : Nat} (ha : ad = ⟨g, k, none⟩ ∨ l = 0) : ∀ j u, ((xs.drop k).take l)[j]? = some u → w.cell? (ad.add j) = some u := by
  rcases ha with rfl | rfl
  · exact own_piece h hg k l
  · intro j u hj
    simp at hj
theorem wrap_succ {pp n : Nat} (h : pp < n) (hn : n ≤ 10000) : IntKind.i64.wrap ((pp : Int) + 1) = (pp : Int) + 1 := by
  simp only [IntKind.wrap, IntKind.bits, IntKind.signed]
  simp
  omega
end
end Go.Proofs.Ytjkmeljefbpbgaa
