/-
  Layer 13: a line of one's own; contracts with their answers written out.
-/
import Derived.Test.YtkgjmejpbklabaaGreatAi
namespace Go.Proofs.YtkgjmejpbklabaaGreat.M
open Go.RowKit
/-- lists of numbers stay -/
def Ks (w w' : World) : Prop := ∀ v f, Frm w v f → Frm w' v f
theorem Ks.below {w w' : World} (h : Below w.heap.size w w') : Ks w w' := fun _ _ hf => hf.later h
theorem Ks.trans {a b c : World} (h : Ks a b) (k : Ks b c) : Ks a c := fun v f hf => k v f (h v f hf)
/-- a line that was made since w0, with at most N calls -/
structure Own (w0 w : World) (Q N : Nat) (a : Ad) : Prop where
  pl : ∃ F n, PL w F n a ∧ F.Q = Q ∧ n ≤ N ∧ ∀ b, F.has b → w0.heap.size ≤ b
  below : Below w0.heap.size w0 w
section
variable {w0 w w' : World} {Q N : Nat} {a : Ad}
theorem Own.later (h : Own w0 w Q N a) (hb : Below w.heap.size w w') : Own w0 w' Q N a := by
  obtain ⟨F, n, h1, h2, h3, h4⟩ := h.pl
  exact ⟨⟨F, n, h1.later hb, h2, h3, h4⟩, h.below.trans (hb.mono h.below.size)⟩
theorem Own.step {F F' : Ft} {n n' M : Nat} {a' : Ad} (hb : Below w0.heap.size w0 w) (h1 : PL w F n a) (h2 : F.Q = Q) (h4 : ∀ b, F.has b → w0.heap.size ≤ b) (hp : PL w' F' n' a') (hQ : F'.Q = F.Q) (hn : n' ≤ M) (hF : ∀ b, F'.has b → F.has b ∨ w.heap.size ≤ b) (hk : Kept F.has w w') : Own w0 w' Q M a' ∧ Ks w w' := by
  refine ⟨⟨⟨F', n', hp, hQ.trans h2, hn, fun b hb' => ?_⟩, hk.into hb (fun b hlt hs => ?_) (Nat.le_refl _)⟩, fun v f hf => hf.far hk (fun g _ hg => h1.noInts hg)⟩
  · rcases hF b hb' with e | e
    · exact h4 b e
    · exact Nat.le_trans hb.size e
  · have := h4 b hs; omega
theorem Ft.has_new {F : Ft} {v1' v2' : Value} {G : Nat → Prop} {s : Nat} (h1 : blk v1' = blk F.v1 ∨ ∃ g, blk v1' = some g ∧ s ≤ g) (h2 : blk v2' = blk F.v2 ∨ ∃ g, blk v2' = some g ∧ s ≤ g) (b : Nat) (hb : ({ F with v1 := v1', v2 := v2', G := G } : Ft).has b) : F.has b ∨ s ≤ b := by
  rcases hb with e | e | e | e | e | e | e | e
  · exact .inl (.inl e)
  · exact .inl (.inr (.inl e))
  · exact .inl (.inr (.inr (.inl e)))
  · rcases h1 with h | ⟨g, h, hg⟩
    · exact .inl (.inr (.inr (.inr (.inl (h.symm.trans e)))))
    · rw [show ({ F with v1 := v1', v2 := v2', G := G } : Ft).v1 = v1' from rfl, h] at e; cases e; exact .inr hg
  · rcases h2 with h | ⟨g, h, hg⟩
    · exact .inl (.inr (.inr (.inr (.inr (.inl (h.symm.trans e))))))
    · rw [show ({ F with v1 := v1', v2 := v2', G := G } : Ft).v2 = v2' from rfl, h] at e; cases e; exact .inr hg
  · exact .inl (.inr (.inr (.inr (.inr (.inr (.inl e))))))
  · exact .inl (.inr (.inr (.inr (.inr (.inr (.inr (.inl e)))))))
  · exact .inl (.inr (.inr (.inr (.inr (.inr (.inr (.inr e)))))))
theorem o_new (w0 w : World) (hb : Below w0.heap.size w0 w) {bl lc mr hi cl : Int} (h : mayC bl lc mr hi cl) : Calls Tryz.prog 6 #[cfgV bl lc mr hi cl] w fun e w' => ∃ Q, e = .returned (.tuple #[qp Q, .int .i64 0]) ∧ Own w0 w' Q 0 (newA bl lc mr hi cl) := by
  refine (new_ok w h).mono ?_
  rintro e w' ⟨F, rfl, h1, h2, h3⟩
  exact ⟨F.Q, rfl, ⟨F, 0, h1, rfl, Nat.le_refl _, fun b hb' => Nat.le_trans hb.size (h2 b hb')⟩, hb.trans (h3.mono hb.size)⟩
theorem o_begin (h : Own w0 w Q N a) (hN : N < 10000) (hx : a.next ≤ 1000) {p : Option Addr} {m c : Nat} {xs : List Int} (hI : B.IIn w p m xs) (hm : m + 80 ≤ 17592186044416) {t E : Int} {f : List Int} {a' : Ad} (e1 : a.begT xs = t) (e2 : a.begF xs = f) (e3 : a.begE xs = E) (e4 : a.begS xs = a') :
    Calls Tryz.prog 31 #[qp Q, .slice p m c] w fun e w' => ∃ q d, e = .returned (.tuple #[.int .u64 t, .slice q f.length d, .int .i64 E]) ∧ Frm w' (.slice q f.length d) f ∧ Own w0 w' Q (N + 1) a' ∧ Ks w w' := by
  obtain ⟨F, n, h1, rfl, h3, h4⟩ := h.pl
  rw [← e1, ← e2, ← e3, ← e4]
  refine (begin_at h1 (by omega) hx hI hm).mono ?_
  rintro e w' ⟨q, d, v', rfl, ho, hp, hv, hk⟩
  obtain ⟨g1, g2⟩ := Own.step h.below h1 rfl h4 hp rfl (M := N + 1) (by omega) (fun b hb => Ft.has_new (F := F) (v1' := v') (v2' := F.v2) hv (.inl rfl) b hb) hk
  exact ⟨q, d, rfl, B.own_mono ho (Nat.zero_le _), g1, g2⟩
theorem o_enter (h : Own w0 w Q N a) (hN : N < 10000) (hx : a.next ≤ 1000) {t E : Int} {f : List Int} {a' : Ad} (e1 : a.entT = t) (e2 : a.entF = f) (e3 : a.entE = E) (e4 : a.entS = a') :
    Calls Tryz.prog 32 #[qp Q] w fun e w' => ∃ q d, e = .returned (.tuple #[.int .u64 t, .slice q f.length d, .int .i64 E]) ∧ Frm w' (.slice q f.length d) f ∧ Own w0 w' Q (N + 1) a' ∧ Ks w w' := by
  obtain ⟨F, n, h1, rfl, h3, h4⟩ := h.pl
  rw [← e1, ← e2, ← e3, ← e4]
  refine (enter_at h1 (by omega) hx).mono ?_
  rintro e w' ⟨q, d, v1', v2', rfl, ho, hp, hv1, hv2, hk⟩
  obtain ⟨g1, g2⟩ := Own.step h.below h1 rfl h4 hp rfl (M := N + 1) (by omega) (fun b hb => Ft.has_new (F := F) (v1' := v1') (v2' := v2') (.inl hv1) hv2 b hb) hk
  exact ⟨q, d, rfl, B.own_mono ho (Nat.zero_le _), g1, g2⟩
theorem o_append (h : Own w0 w Q N a) (hN : N < 10000) {t E : Int} (ht : L.U64 t) {a' : Ad} (e3 : a.appE t = E) (e4 : a.appS t = a') :
    Calls Tryz.prog 35 #[qp Q, .int .u64 t] w fun e w' => e = .returned (.int .i64 E) ∧ Own w0 w' Q (N + 1) a' ∧ Ks w w' := by
  obtain ⟨F, n, h1, rfl, h3, h4⟩ := h.pl
  rw [← e3, ← e4]
  refine (append_at h1 (by omega) ht).mono ?_
  rintro e w' ⟨rfl, hp, hk⟩
  exact ⟨rfl, Own.step h.below h1 rfl h4 hp rfl (by omega) (fun b hb => .inl hb) hk⟩
theorem o_freed (h : Own w0 w Q N a) (k : Int) {E : Int} {a' : Ad} (e3 : a.freE k = E) (e4 : a.freS k = a') :
    Calls Tryz.prog 38 #[qp Q, .int .i64 k] w fun e w' => e = .returned (.int .i64 E) ∧ Own w0 w' Q (N + 1) a' ∧ Ks w w' := by
  obtain ⟨F, n, h1, rfl, h3, h4⟩ := h.pl
  rw [← e3, ← e4]
  refine (freed_at h1 k).mono ?_
  rintro e w' ⟨rfl, hp, hk⟩
  exact ⟨rfl, Own.step h.below h1 rfl h4 hp rfl (by omega) (fun b hb => .inl hb) hk⟩
theorem o_done (h : Own w0 w Q N a) (hN : N < 10000) (hx : a.next ≤ 1000) {t E : Int} (ht : L.U64 t) {a' : Ad} (e3 : a.donE t = E) (e4 : a.donS t = a') :
    Calls Tryz.prog 36 #[qp Q, .int .u64 t] w fun e w' => e = .returned (.int .i64 E) ∧ Own w0 w' Q (N + 2) a' ∧ Ks w w' := by
  obtain ⟨F, n, h1, rfl, h3, h4⟩ := h.pl
  rw [← e3, ← e4]
  refine (done_at h1 (by omega) hx ht).mono ?_
  rintro e w' ⟨rfl, v', hp, hv, hk⟩
  exact ⟨rfl, Own.step h.below h1 rfl h4 hp rfl (by omega) (fun b hb => .inl ((Ft.has_v2 hv b).1 hb)) hk⟩
theorem o_left (h : Own w0 w Q N a) {t x : Int} {y : Bool} (ht : L.U64 t) (e : a.leftN t = x) (e' : a.leftB t = y) : Calls Tryz.prog 69 #[qp Q, .int .u64 t] w fun e w' => e = .returned (.tuple #[.int .i64 x, .bool y]) ∧ Own w0 w' Q N a ∧ Below w.heap.size w w' := by
  obtain ⟨F, n, h1, rfl, h3, h4⟩ := h.pl
  rw [← e, ← e']
  refine (left_at h1 ht).mono ?_
  rintro e w' ⟨rfl, hw⟩
  rw [hw]
  exact ⟨rfl, h, Below.refl _ _⟩
theorem o_fits (h : Own w0 w Q N a) (hx : a.next ≤ 1000) {y : Bool} (e : a.fits = y) : Calls Tryz.prog 17 #[qp Q] w fun e w' => e = .returned (.bool y) ∧ Own w0 w' Q N a ∧ Below w.heap.size w w' := by
  obtain ⟨F, n, h1, rfl, h3, h4⟩ := h.pl
  rw [← e]
  refine (fits_at h1 hx).mono ?_
  rintro e w' ⟨rfl, hb⟩
  exact ⟨rfl, h.later hb, hb⟩
theorem o_waiting (h : Own w0 w Q N a) (hx : a.next ≤ 1000) {l : List Int} (e : wt a.W = l) : Calls Tryz.prog 14 #[qp Q] w fun e w' => ∃ v, e = .returned v ∧ MadeU w w' v l ∧ Own w0 w' Q N a ∧ Below w.heap.size w w' := by
  obtain ⟨F, n, h1, rfl, h3, h4⟩ := h.pl
  rw [← e]
  refine (waiting_at h1 hx).mono ?_
  rintro e w' ⟨v, rfl, hm⟩
  exact ⟨v, rfl, hm, h.later hm.below, hm.below⟩
theorem o_in (h : Own w0 w Q N a) (hx : a.next ≤ 1000) {l : List Int} (e : it a.I = l) : Calls Tryz.prog 18 #[qp Q] w fun e w' => ∃ v, e = .returned v ∧ MadeU w w' v l ∧ Own w0 w' Q N a ∧ Below w.heap.size w w' := by
  obtain ⟨F, n, h1, rfl, h3, h4⟩ := h.pl
  rw [← e]
  refine (in_at h1 hx).mono ?_
  rintro e w' ⟨v, rfl, hm⟩
  exact ⟨v, rfl, hm, h.later hm.below, hm.below⟩
end
theorem litU_in (w : World) (xs : List Int) (n : Nat) (hl : xs.length = n) : UIn (w.alloc (.cells (V64 xs).toArray 44)) (some ⟨w.heap.size, 0, none⟩) n xs := by
  refine ⟨hl, fun _ => ⟨w.heap.size, 0, rfl, fun i hi => ?_⟩⟩
  rw [Nat.zero_add, cell_of_row _ w.heap.size i _ 44 (0, 0) (heap_alloc_new w _)]
  have h : i < xs.length := by omega
  simp [V64, List.getD, List.getElem?_eq_getElem h]
end Go.Proofs.YtkgjmejpbklabaaGreat.M
