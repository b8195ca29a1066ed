/-
  Layer 14: marked: what stands while all lists are marked, grown and looked at.
-/
import Derived.Test.YtkffmglcllhbmaaMa
namespace Go.Proofs.Ytkffmglcllhbmaa
open Go.RowKit

open Go.Shelf
/-- the marks -/
def Pq (c _j : Nat) (v : Value) : Prop := v = .int .u64 (1000 + (c : Int))
def Ph (c _j : Nat) (v : Value) : Prop := v = .int .i64 (2000 + (c : Int))
theorem wpList_app_is {w w' : World} {ops : Array Oper} {rest : List Oper} {o : Oper} {A : Act} {Q : Exit → Act → World → Prop} (hgd : o.guard = none) (s x : Operand) (t : TypeId) (ho : o.op = .call { callee := .builtin .append, args := #[s, x], argTypes := #[t, t] }) (v u v' : Value) (hs : A.eval s = v) (hx : A.eval x = u)
    (hr : (Builtin.append_ #[t, t] o.type #[v, u]).run Try.prog w = .ok v' w') (hK : wpList Try.prog ops Q rest (A.put o.dst v') w') : wpList Try.prog ops Q (o :: rest) A w := by
  refine wpList_plain hgd fun K hK' => ?_
  unfold Oper.wp
  simp [execOp, ho, resolve, invoke, builtin, hs, hx, hr, Result.andThen]
  exact hK' _ _ hK
/-- an element of a row of lists -/
theorem list_at {W : World} {B : Nat} {t : TypeId} {p : Option Addr} {n c : Nat} {vs : List Value} (h : W.ownsRow B t 1 (.slice p n c) vs.length vs) {k : Nat} {u : Value} (hk : vs[k]? = some u) : ∃ g, p = some ⟨g, 0, none⟩ ∧ W.cell? ⟨g, k, none⟩ = some u := by
  have hkl := (List.getElem?_eq_some_iff.1 hk).1
  rcases h.2 with ⟨_, e⟩ | ⟨g, cap, cur, e, h0, hg, _⟩
  · omega
  · injection e with e1 e2 e3
    subst e1
    refine ⟨g, rfl, ?_⟩
    have := h.cells (g := g) rfl k u hk
    rw [Go.WideShapes.add_plain, Nat.zero_add] at this
    exact this
theorem info_u64s : (Try.prog.info? 22).map (fun i => (i.zero, i.size, i.bytes)) = some (some nils, 1, 24) := by kernel_rfl
theorem own_typ {w : World} {base : Nat} {e : TypeId} {size n : Nat} {v : Value} {xs : List Value} (h : w.ownsRow base e size v n xs) {b : Nat} (hb : v.ownBlock = some b) : ∃ cur, w.heap[b]? = some (.cells cur e (0, 0)) := by
  rcases h.2 with ⟨rfl, _⟩ | ⟨g, cap, cur, rfl, _, hg, _⟩
  · cases hb
  · cases hb; exact ⟨cur, hg⟩
theorem own_keeps {w w' : World} {base : Nat} {e : TypeId} {size n : Nat} {v : Value} {xs : List Value} (h : w.ownsRow base e size v n xs) (hk : ∀ g, v.ownBlock = some g → w'.heap[g]? = w.heap[g]?) : w'.ownsRow base e size v n xs := by
  refine ⟨h.1, ?_⟩
  rcases h.2 with h | ⟨g, cap, cur, rfl, e2, e3, r⟩
  · exact .inl h
  · exact .inr ⟨g, cap, cur, rfl, e2, (hk g rfl).trans e3, r⟩
theorem own_far {w w' : World} {base : Nat} {e : TypeId} {size n : Nat} {v : Value} {xs : List Value} {S : Nat → Prop} (h : w.ownsRow base e size v n xs) (hk : Kept S w w') (hS : ∀ g, v.ownBlock = some g → ¬ S g) : w'.ownsRow base e size v n xs := own_keeps h fun g hg => hk.block g (h.lt g hg).2 (hS g hg)
theorem own_later {w w' : World} {base : Nat} {e : TypeId} {size n : Nat} {v : Value} {xs : List Value} (h : w.ownsRow base e size v n xs) (hb : Below w.heap.size w w') : w'.ownsRow base e size v n xs := own_keeps h fun g hg => hb.block g (h.lt g hg).2
theorem own_not {w : World} {base : Nat} {e : TypeId} {size n : Nat} {v : Value} {xs : List Value} (h : w.ownsRow base e size v n xs) {b : Nat} {cur : Array Value} {ty : TypeId} {f : Nat × Nat} (hx : w.heap[b]? = some (.cells cur ty f)) (hne : ty ≠ e) : v.ownBlock ≠ some b := fun hg => by
  obtain ⟨c, hc⟩ := own_typ h hg
  rw [hc] at hx
  simp only [Option.some.injEq, Obj.cells.injEq] at hx
  exact hne hx.2.1.symm
/-- one more in a row of lists -/
theorem run_more {W : World} {B : Nat} {t e : TypeId} {v : Value} {us : List Value} {i0 : TypeInfo} (ht : Try.prog.underlying t = some (.slice e)) (hi : Try.prog.info? e = some i0) (hz0 : i0.zero = some nils) (hz1 : i0.size = 1) (hz2 : i0.bytes = 24) (h : W.ownsRow B e 1 v us.length us) (hB : B ≤ W.heap.size) (hl : us.length ≤ 5000) (x : Value) (h1 : x.oneCell' = true) :
    ∃ v' W', (Builtin.append_ #[t, t] t #[v, .slice (some ⟨W.heap.size, 0, none⟩) 1 1]).run Try.prog (W.alloc (.cells #[x] e)) = .ok v' W' ∧ W'.ownsRow B e 1 v' (us ++ [x]).length (us ++ [x]) ∧ Kept (fun b => v.ownBlock = some b) W W' ∧ ∀ g, v'.ownBlock = some g → v.ownBlock = some g ∨ W.heap.size ≤ g := by
  have hml : 10000 ≤ maxLen := by decide
  have hs1 : (W.alloc (.cells #[x] e)).heap.size = W.heap.size + 1 := by simp
  obtain ⟨v', W', hr, h2, h3, -, h5⟩ := run_append_own_at (P := Try.prog) (W.alloc (.cells #[x] e)) B t t e i0 nils 1 24 ht hi hz0 hz1 hz2 rfl (by decide) v us.length us (h.alloc _) ⟨W.heap.size, 0, none⟩ 1 1 [x] rfl (one_news x e _ rfl) (by intro u hu; obtain rfl := List.mem_singleton.1 hu; exact h1) (by omega) (by omega) (by omega)
  refine ⟨v', W', hr, by rw [List.length_append, List.length_singleton]; exact h2, (Kept.of_below _ (below_alloc W _)).trans (T := fun b => v.ownBlock = some b) ⟨h3.os, h3.tape, h3.output, h3.size, fun b hb hn => h3.block b hb fun e => hn e.symm⟩ (fun x _ e => e), fun g hg => ?_⟩
  rcases h5 with e | e
  · exact .inl (e ▸ hg)
  · rw [e, hs1] at hg; cases hg; exact .inr (by omega)
theorem col_kept {e : TypeId} {Pr : Nat → Nat → Value → Prop} {D : Nat → Nat → Prop} {F : Value → Nat → Prop} {W W' : World} {S : Nat → Prop} {B0 : Nat} (h : Col e 1 Pr D W B0 F) (hk : Kept S W W') (hS : ∀ b cur, W.heap[b]? = some (.cells cur e (0, 0)) → ¬ S b) : Col e 1 Pr D W' B0 F :=
  ⟨fun v c hv => by
    obtain ⟨xs, o, m⟩ := h.own v c hv
    exact ⟨xs, own_far o hk (fun g hg => by obtain ⟨cur, hc⟩ := own_typ o hg; exact hS g cur hc), m⟩, h.sep⟩
abbrev TA : Nat → Nat → Prop := fun _ _ => True
/-- all that stands -/
structure Ag (W0 : World) (S : Nat → Prop) (vq : Value) (usq : List Value) (vh : Value) (ush : List Value) (vl : Value) (lo : List Value) (vm : Value) (mo : List Value) (D D2 : Nat → Nat → Prop) (F G : Value → Nat → Prop) (W : World) : Prop where
  lq : W.ownsRow 0 22 1 vq usq.length usq
  lh : W.ownsRow 0 37 1 vh ush.length ush
  low : Kept S W0 W
  cq : Col 30 1 Pq D W 0 F
  ch : Col 3 1 Ph D2 W 0 G
  sq : ∀ v c, F v c → ∀ g, v.ownBlock = some g → S g ∨ W0.heap.size ≤ g
  sh : ∀ v c, G v c → ∀ g, v.ownBlock = some g → S g ∨ W0.heap.size ≤ g
  f0 : ∀ (c : Nat) u, usq[c]? = some u → F u c
  g0 : ∀ (c : Nat) u, ush[c]? = some u → G u c
  lr : W.ownsRow W0.heap.size 22 1 vl lo.length lo
  le : ∀ (m : Nat) u, lo[m]? = some u → F u (m % usq.length)
  mr : W.ownsRow W0.heap.size 37 1 vm mo.length mo
  me : ∀ (m : Nat) u, mo[m]? = some u → G u (m % ush.length)
  bq : ∀ g, vq.ownBlock = some g → g < W0.heap.size
  bh : ∀ g, vh.ownBlock = some g → g < W0.heap.size
section
variable {W0 : World} {S : Nat → Prop} {vq vh vl vm : Value} {usq ush lo mo : List Value} {D D' D2 : Nat → Nat → Prop} {F F' G G' : Value → Nat → Prop} {W W' : World}
theorem Ag.later (h : Ag W0 S vq usq vh ush vl lo vm mo D D2 F G W) (hb : Below W.heap.size W W') : Ag W0 S vq usq vh ush vl lo vm mo D D2 F G W' :=
  ⟨own_later h.lq hb, own_later h.lh hb, h.low.trans (Kept.of_below (fun _ => False) hb) (fun _ _ e => e.elim), h.cq.later hb, h.ch.later hb, h.sq, h.sh, h.f0, h.g0, own_later h.lr hb, h.le, own_later h.mr hb, h.me, h.bq, h.bh⟩
/-- only lists of one kind have turned -/
theorem Ag.onlyQ (h : Ag W0 S vq usq vh ush vl lo vm mo D D2 F G W) (ho : Only 30 W W') {T : Nat → Prop} (hk : Kept T W W') (hT : ∀ g, T g → S g ∨ W0.heap.size ≤ g) (hc : Col 30 1 Pq D' W' 0 F') (hF : ∀ v c, F v c → F' v c) (hs : ∀ v c, F' v c → ∀ g, v.ownBlock = some g → S g ∨ W0.heap.size ≤ g) : Ag W0 S vq usq vh ush vl lo vm mo D' D2 F' G W' :=
  ⟨ho.row (by decide) h.lq, ho.row (by decide) h.lh, h.low.trans hk (fun x hx e => (hT x e).elim id (fun e => by omega)), hc, h.ch.only ho (by decide), hs, h.sh, fun c u hu => hF _ _ (h.f0 c u hu), h.g0, ho.row (by decide) h.lr, fun m u hu => hF _ _ (h.le m u hu), ho.row (by decide) h.mr, h.me, h.bq, h.bh⟩
theorem Ag.onlyH (h : Ag W0 S vq usq vh ush vl lo vm mo D D2 F G W) (ho : Only 3 W W') {T : Nat → Prop} (hk : Kept T W W') (hT : ∀ g, T g → S g ∨ W0.heap.size ≤ g) (hc : Col 3 1 Ph D' W' 0 G') (hF : ∀ v c, G v c → G' v c) (hs : ∀ v c, G' v c → ∀ g, v.ownBlock = some g → S g ∨ W0.heap.size ≤ g) : Ag W0 S vq usq vh ush vl lo vm mo D D' F G' W' :=
  ⟨ho.row (by decide) h.lq, ho.row (by decide) h.lh, h.low.trans hk (fun x hx e => (hT x e).elim id (fun e => by omega)), h.cq.only ho (by decide), hc, h.sq, hs, h.f0, fun c u hu => hF _ _ (h.g0 c u hu), ho.row (by decide) h.lr, h.le, ho.row (by decide) h.mr, fun m u hu => hF _ _ (h.me m u hu), h.bq, h.bh⟩
theorem Ag.weakQ (h : Ag W0 S vq usq vh ush vl lo vm mo D D2 F G W) (hD : ∀ v c, F v c → ∀ m, m < vlen v * 1 → D' c m → D c m) : Ag W0 S vq usq vh ush vl lo vm mo D' D2 F G W :=
  ⟨h.lq, h.lh, h.low, h.cq.weak hD, h.ch, h.sq, h.sh, h.f0, h.g0, h.lr, h.le, h.mr, h.me, h.bq, h.bh⟩
theorem Ag.weakH (h : Ag W0 S vq usq vh ush vl lo vm mo D D2 F G W) (hD : ∀ v c, G v c → ∀ m, m < vlen v * 1 → D' c m → D2 c m) : Ag W0 S vq usq vh ush vl lo vm mo D D' F G W :=
  ⟨h.lq, h.lh, h.low, h.cq, h.ch.weak hD, h.sq, h.sh, h.f0, h.g0, h.lr, h.le, h.mr, h.me, h.bq, h.bh⟩
/-- one cell marked -/
theorem Ag.markQ (h : Ag W0 S vq usq vh ush vl lo vm mo D D2 F G W) {g n c i : Nat} (hx : F (.slice (some ⟨g, 0, none⟩) n c) i) (hu : ∀ v, F v i → v = .slice (some ⟨g, 0, none⟩) n c) (k : Nat) (hk : k < n) (hD : ∀ c' m, D' c' m → D c' m ∨ (c' = i ∧ m = k)) : Ag W0 S vq usq vh ush vl lo vm mo D' D2 F G (W.setCell ⟨g, k, none⟩ (.int .u64 (1000 + (i : Int)))) := by
  obtain ⟨h1, h2, h3⟩ := h.cq.put1 (D' := D') hx hu k hk _ rfl hD
  exact h.onlyQ h2 (Kept.setCell g k _) (fun b e => by subst e; exact h.sq _ _ hx _ rfl) h1 (fun _ _ h => h) h.sq
/-- one number more -/
theorem Ag.appQ (h : Ag W0 S vq usq vh ush vl lo vm mo TA D2 F G W) {q : Option Addr} {n c i : Nat} (hx : F (.slice q n c) i) (hn : n ≤ 3000000) :
    ∃ q' c' W' F', (Builtin.append_ #[22, 22] 22 #[.slice q n c, .slice (some ⟨W.heap.size, 0, none⟩) 1 1]).run Try.prog (W.alloc (.cells #[.int .u64 (1000 + (i : Int))] 30)) = .ok (.slice q' (n + 1) c') W' ∧ F' (.slice q' (n + 1) c') i ∧ Ag W0 S vq usq vh ush vl lo vm mo TA D2 F' G W' := by
  obtain ⟨i0, hi0, hz0, hz1, hz2⟩ := info_parts info26
  obtain ⟨q', c', W', hr, hc, hb, ho, hk, hg⟩ := Col.app (P := Try.prog) Try.underlying22 hi0 hz0 hz1 hz2 rfl (by decide) (by decide) h.cq hx [.int .u64 (1000 + (i : Int))] rfl (one_u64 _) (fun j u hu => by
    cases j with
    | zero => cases hu; rfl
    | succ j => cases hu) hn (Nat.zero_le _)
  have hsz := h.low.size
  refine ⟨q', c', W', _, hr, .inl ⟨rfl, rfl⟩, h.onlyQ ho hk (fun b e => h.sq _ _ hx _ e) hc (fun _ _ h => .inr h) (fun v c hv g hgv => ?_)⟩
  rcases hv with ⟨rfl, rfl⟩ | hv
  · rcases hg g hgv with e | e
    · exact h.sq _ _ hx _ e
    · exact .inr (by omega)
  · exact h.sq _ _ hv _ hgv
/-- a list more in the row of the longer ones -/
theorem Ag.moreQ (h : Ag W0 S vq usq vh ush vl lo vm mo D D2 F G W) {x : Value} (hx : F x (lo.length % usq.length)) (hl : lo.length ≤ 5000) (h1 : x.oneCell' = true) :
    ∃ vl' W', (Builtin.append_ #[35, 35] 35 #[vl, .slice (some ⟨W.heap.size, 0, none⟩) 1 1]).run Try.prog (W.alloc (.cells #[x] 22)) = .ok vl' W' ∧ Ag W0 S vq usq vh ush vl' (lo ++ [x]) vm mo D D2 F G W' := by
  obtain ⟨i0, hi, hz0, hz1, hz2⟩ := info_parts info_u64s
  obtain ⟨v', W', hr, ho, hk, hv⟩ := run_more (t := 35) Try.underlying35 hi hz0 hz1 hz2 h.lr h.low.size hl x h1
  have hS : ∀ (b : Nat) cur (e : TypeId), W.heap[b]? = some (.cells cur e (0, 0)) → e ≠ 22 → ¬ vl.ownBlock = some b := fun b cur e hb hne hg => own_not h.lr hb hne hg
  have kq : W'.ownsRow 0 22 1 vq usq.length usq := own_far h.lq hk (fun g hg e => by have := h.bq g hg; have := (h.lr.lt g e).1; omega)
  have kh := own_far h.lh hk (fun g hg e => by obtain ⟨cur, hc⟩ := own_typ h.lh hg; exact hS g cur _ hc (by decide) e)
  have ko := own_far h.mr hk (fun g hg e => by obtain ⟨cur, hc⟩ := own_typ h.mr hg; exact hS g cur _ hc (by decide) e)
  have km : ∀ (m : Nat) u, (lo ++ [x])[m]? = some u → F u (m % usq.length) := fun m u hu => by
    rcases Nat.lt_or_ge m lo.length with a | a
    · rw [List.getElem?_append_left a] at hu
      exact h.le m u hu
    · rw [List.getElem?_append_right a] at hu
      have hm := (List.getElem?_eq_some_iff.1 hu).1
      simp only [List.length_singleton] at hm
      have em : m = lo.length := by omega
      subst em
      simp at hu
      rw [← hu]
      exact hx
  exact ⟨v', W', hr, kq, kh, h.low.trans hk (fun b hb e => by have := (h.lr.lt b e).1; omega), col_kept h.cq hk (fun b cur hb => hS b cur _ hb (by decide)), col_kept h.ch hk (fun b cur hb => hS b cur _ hb (by decide)), h.sq, h.sh, h.f0, h.g0, ho, km, ko, h.me, h.bq, h.bh⟩

/-- one cell marked -/
theorem Ag.markH (h : Ag W0 S vq usq vh ush vl lo vm mo D D2 F G W) {g n c i : Nat} (hx : G (.slice (some ⟨g, 0, none⟩) n c) i) (hu : ∀ v, G v i → v = .slice (some ⟨g, 0, none⟩) n c) (k : Nat) (hk : k < n) (hD : ∀ c' m, D' c' m → D2 c' m ∨ (c' = i ∧ m = k)) : Ag W0 S vq usq vh ush vl lo vm mo D D' F G (W.setCell ⟨g, k, none⟩ (.int .i64 (2000 + (i : Int)))) := by
  obtain ⟨h1, h2, h3⟩ := h.ch.put1 (D' := D') hx hu k hk _ rfl hD
  exact h.onlyH h2 (Kept.setCell g k _) (fun b e => by subst e; exact h.sh _ _ hx _ rfl) h1 (fun _ _ h => h) h.sh
/-- one number more -/
theorem Ag.appH (h : Ag W0 S vq usq vh ush vl lo vm mo D TA F G W) {q : Option Addr} {n c i : Nat} (hx : G (.slice q n c) i) (hn : n ≤ 3000000) :
    ∃ q' c' W' G', (Builtin.append_ #[37, 37] 37 #[.slice q n c, .slice (some ⟨W.heap.size, 0, none⟩) 1 1]).run Try.prog (W.alloc (.cells #[.int .i64 (2000 + (i : Int))] 3)) = .ok (.slice q' (n + 1) c') W' ∧ G' (.slice q' (n + 1) c') i ∧ Ag W0 S vq usq vh ush vl lo vm mo D TA F G' W' := by
  obtain ⟨i0, hi0, hz0, hz1, hz2⟩ := info_parts B.info3
  obtain ⟨q', c', W', hr, hc, hb, ho, hk, hg⟩ := Col.app (P := Try.prog) Try.underlying37 hi0 hz0 hz1 hz2 rfl (by decide) (by decide) h.ch hx [.int .i64 (2000 + (i : Int))] rfl (B.one_i64 _) (fun j u hu => by
    cases j with
    | zero => cases hu; rfl
    | succ j => cases hu) hn (Nat.zero_le _)
  have hsz := h.low.size
  refine ⟨q', c', W', _, hr, .inl ⟨rfl, rfl⟩, h.onlyH ho hk (fun b e => h.sh _ _ hx _ e) hc (fun _ _ h => .inr h) (fun v c hv g hgv => ?_)⟩
  rcases hv with ⟨rfl, rfl⟩ | hv
  · rcases hg g hgv with e | e
    · exact h.sh _ _ hx _ e
    · exact .inr (by omega)
  · exact h.sh _ _ hv _ hgv
/-- a list more in the row of the longer ones -/
theorem Ag.moreH (h : Ag W0 S vq usq vh ush vl lo vm mo D D2 F G W) {x : Value} (hx : G x (mo.length % ush.length)) (hl : mo.length ≤ 5000) (h1 : x.oneCell' = true) :
    ∃ vm' W', (Builtin.append_ #[25, 25] 25 #[vm, .slice (some ⟨W.heap.size, 0, none⟩) 1 1]).run Try.prog (W.alloc (.cells #[x] 37)) = .ok vm' W' ∧ Ag W0 S vq usq vh ush vl lo vm' (mo ++ [x]) D D2 F G W' := by
  obtain ⟨i0, hi, hz0, hz1, hz2⟩ := info_parts info_ints
  obtain ⟨v', W', hr, ho, hk, hv⟩ := run_more (t := 25) Try.underlying25 hi hz0 hz1 hz2 h.mr h.low.size hl x h1
  have hS : ∀ (b : Nat) cur (e : TypeId), W.heap[b]? = some (.cells cur e (0, 0)) → e ≠ 37 → ¬ vm.ownBlock = some b := fun b cur e hb hne hg => own_not h.mr hb hne hg
  have kq : W'.ownsRow 0 37 1 vh ush.length ush := own_far h.lh hk (fun g hg e => by have := h.bh g hg; have := (h.mr.lt g e).1; omega)
  have kh := own_far h.lq hk (fun g hg e => by obtain ⟨cur, hc⟩ := own_typ h.lq hg; exact hS g cur _ hc (by decide) e)
  have ko := own_far h.lr hk (fun g hg e => by obtain ⟨cur, hc⟩ := own_typ h.lr hg; exact hS g cur _ hc (by decide) e)
  have km : ∀ (m : Nat) u, (mo ++ [x])[m]? = some u → G u (m % ush.length) := fun m u hu => by
    rcases Nat.lt_or_ge m mo.length with a | a
    · rw [List.getElem?_append_left a] at hu
      exact h.me m u hu
    · rw [List.getElem?_append_right a] at hu
      have hm := (List.getElem?_eq_some_iff.1 hu).1
      simp only [List.length_singleton] at hm
      have em : m = mo.length := by omega
      subst em
      simp at hu
      rw [← hu]
      exact hx
  exact ⟨v', W', hr, kh, kq, h.low.trans hk (fun b hb e => by have := (h.mr.lt b e).1; omega), col_kept h.cq hk (fun b cur hb => hS b cur _ hb (by decide)), col_kept h.ch hk (fun b cur hb => hS b cur _ hb (by decide)), h.sq, h.sh, h.f0, h.g0, ko, h.le, ho, km, h.bq, h.bh⟩
end
/-- how the lists lie, ahead of all marks -/
theorem col_start {w : World} {e : TypeId} {us : List Value} (he : ∀ (k : Nat) u, us[k]? = some u → ∃ xs, w.ownsRow 0 e 1 u (vlen u) xs) (hs : us.Pairwise (fun u u' => ∀ g, u.ownBlock = some g → u'.ownBlock ≠ some g)) (Pr : Nat → Nat → Value → Prop) : Col e 1 Pr (fun c _ => c < 0) w 0 (fun v c => us[c]? = some v) := by
  refine ⟨fun u k hu => ?_, fun u k hu u' k' hu' hne g hg hg' => ?_⟩
  · obtain ⟨xs, o⟩ := he k u hu
    exact ⟨_, o, fun m x _ hd => absurd hd (Nat.not_lt_zero _)⟩
  · obtain ⟨h1, e1⟩ := List.getElem?_eq_some_iff.1 hu
    obtain ⟨h2, e2⟩ := List.getElem?_eq_some_iff.1 hu'
    rcases Nat.lt_or_ge k k' with a | a
    · have := List.pairwise_iff_getElem.1 hs k k' h1 h2 a
      rw [e1, e2] at this
      exact this g hg hg'
    · have := List.pairwise_iff_getElem.1 hs k' k h2 h1 (by omega)
      rw [e1, e2] at this
      exact this g hg' hg
end Go.Proofs.Ytkffmglcllhbmaa
