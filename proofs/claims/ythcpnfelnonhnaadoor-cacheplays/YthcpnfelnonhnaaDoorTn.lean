/-
  Layer 17: apart: a list is grown.
-/
import Derived.Test.YthcpnfelnonhnaaDoorTm
namespace Go.Proofs.YthcpnfelnonhnaaDoor
open Go.RowKit

namespace W
def mkA (j : Nat) : En := ⟨-100 - (j : Int), zs 32, 0⟩
theorem mkA_wf {j : Nat} (h : j ≤ 100000) : (mkA j).Wf := ⟨by show i64 (-100 - (j : Int)); unfold i64; omega, zs_len 32, zs_bytes 32, Int.le_refl _, by show (0 : Int) < 18446744073709551616; decide⟩
abbrev rp (k j : Nat) : List En := List.replicate k (mkA j)
/-- the lists, marked; those that were grown; nothing else has turned -/
structure Lg (W0 W : World) (us vs : List Value) (ns : Nat → Nat) : Prop where
  a : ∀ (j : Nat) u, us[j]? = some u → EOwn 57 W 0 u (rp (ns j) j)
  b : ∀ (j : Nat) x, vs[j]? = some x → EOwn 57 W 0 x (rp (ns j + 16) j)
  kp : Kept (fun k => ∃ u ∈ us, u.ownBlock = some k) W0 W
  vo : ∀ (j : Nat) y g, vs[j]? = some y → y.ownBlock = some g → (∃ u, us[j]? = some u ∧ u.ownBlock = some g) ∨ W0.heap.size ≤ g
/-- the one that is being grown -/
structure Cu (W0 W : World) (us vs : List Value) (ns : Nat → Nat) (i b : Nat) (x : Value) : Prop where
  lg : Lg W0 W us vs ns
  row : EOwn 57 W 0 x (rp (ns i + b) i)
  own : ∀ g, x.ownBlock = some g → (∃ u, us[i]? = some u ∧ u.ownBlock = some g) ∨ W0.heap.size ≤ g
  sepu : ∀ (j : Nat) u g, us[j]? = some u → j ≠ i → x.ownBlock = some g → u.ownBlock ≠ some g
  sepv : ∀ (j : Nat) y g, vs[j]? = some y → x.ownBlock = some g → y.ownBlock ≠ some g
theorem Lg.later {W0 W W' : World} {us vs : List Value} {ns : Nat → Nat} (h : Lg W0 W us vs ns) (hb : Below W.heap.size W W') : Lg W0 W' us vs ns :=
  ⟨fun j u hu => O.own_later (h.a j u hu) hb, fun j x hx => O.own_later (h.b j x hx) hb, h.kp.trans (Kept.of_below (fun _ => False) hb) (fun _ _ e => e.elim), h.vo⟩
theorem Cu.later {W0 W W' : World} {us vs : List Value} {ns : Nat → Nat} {i b : Nat} {x : Value} (h : Cu W0 W us vs ns i b x) (hb : Below W.heap.size W W') : Cu W0 W' us vs ns i b x := ⟨h.lg.later hb, O.own_later h.row hb, h.own, h.sepu, h.sepv⟩
/-- one more -/
theorem Cu.app {W0 W : World} {us vs : List Value} {ns : Nat → Nat} {i b : Nat} {x : Value} (h : Cu W0 W us vs ns i b x) (hi : i ≤ 9000) (hb : ns i + b ≤ 5000) :
    ∃ g cap W', (Builtin.append_ #[60, 60] 60 #[x, .slice (some ⟨W.heap.size, 0, none⟩) 1 1]).run Tryd.prog (W.alloc (.cells (ecells (mkA i)).toArray 57)) = .ok (.slice (some ⟨g, 0, none⟩) (ns i + b + 1) cap) W' ∧ Cu W0 W' us vs ns i (b + 1) (.slice (some ⟨g, 0, none⟩) (ns i + b + 1) cap) ∧ ∀ (B : Nat) (t : TypeId) (s : Nat) (v : Value) (n : Nat) (xs : List Value), t ≠ 57 → W.ownsRow B t s v n xs → W'.ownsRow B t s v n xs := by
  have hlen : (rp (ns i + b) i).length = ns i + b := List.length_replicate
  obtain ⟨g, cap, W', hr, ho, hg, hat, hst⟩ := app_stay h.row (x := mkA i) (mkA_wf (by omega)) (by rw [hlen]; exact hb)
  have hb1 := below_alloc W (.cells (ecells (mkA i)).toArray 57)
  have h1 := h.later hb1
  rw [hlen] at hr ho hst
  have hk := O.kept_grown hg
  have hsz : W0.heap.size ≤ (W.alloc (.cells (ecells (mkA i)).toArray 57)).heap.size := h1.lg.kp.size
  refine ⟨g, cap, W', hr, ⟨⟨fun j u hu => ?_, fun j y hy => O.own_far (h1.lg.b j y hy) hk (fun b' hb' e => h.sepv j y b' hy e hb'), ?_, h.lg.vo⟩, ?_, fun g' hg' => ?_, fun j u g' hu hj hg' e => ?_, fun j y g' hy hg' e => ?_⟩, fun B t s v n xs hne hv => O.own_far (O.own_later hv hb1) hk (fun b' hb' e => O.own_ne hv h.row hne hb' e)⟩
  · by_cases e : j = i
    · subst e
      by_cases e2 : u.ownBlock = x.ownBlock
      · exact hst.row (h1.lg.a j u hu) e2 (by rw [List.length_replicate]; omega)
      · exact O.own_far (h1.lg.a j u hu) hk (fun b' hb' e3 => e2 (hb'.trans e3.symm))
    · exact O.own_far (h1.lg.a j u hu) hk (fun b' hb' e3 => h.sepu j u b' hu e e3 hb')
  · refine h1.lg.kp.trans hk (fun b' hb' e => ?_)
    rcases h.own b' e with ⟨u, hu, hu2⟩ | hge
    · exact ⟨u, List.mem_of_getElem? hu, hu2⟩
    · omega
  · have e : rp (ns i + b) i ++ [mkA i] = rp (ns i + (b + 1)) i := by show _ = List.replicate (ns i + b + 1) (mkA i); exact List.replicate_succ'.symm
    rw [← e]; exact ho
  · rcases hat with h2 | h2
    · exact h.own g' (h2.trans hg')
    · cases hg'; exact .inr (h2 ▸ hsz)
  · rcases hat with h2 | h2
    · exact h.sepu j u g' hu hj (h2.trans hg') e
    · cases hg'
      have := ((h1.lg.a j u hu).lt g e).2
      omega
  · rcases hat with h2 | h2
    · exact h.sepv j y g' hy (h2.trans hg') e
    · cases hg'
      have := ((h1.lg.b j y hy).lt g e).2
      omega
/-- a row of other elements is written -/
theorem Lg.far {W0 W W' : World} {us vs : List Value} {ns : Nat → Nat} {t : TypeId} {s n : Nat} {v : Value} {xs : List Value} (h : Lg W0 W us vs ns) (hne : t ≠ 57) (hv : W.ownsRow W0.heap.size t s v n xs) (hk : Kept (fun b => v.ownBlock = some b) W W') : Lg W0 W' us vs ns :=
  ⟨fun j u hu => O.own_far (h.a j u hu) hk (fun _ hg e => O.own_ne hv (h.a j u hu) hne e hg), fun j x hx => O.own_far (h.b j x hx) hk (fun _ hg e => O.own_ne hv (h.b j x hx) hne e hg), h.kp.trans hk (fun b hb e => by have := (hv.lt b e).1; omega), h.vo⟩
section
variable {W0 W : World} {us vs : List Value} {ns : Nat → Nat} {i : Nat} {x : Value}
theorem us_apart (hsep : us.Pairwise fun u u' => ∀ g, u.ownBlock = some g → u'.ownBlock ≠ some g) {j j' : Nat} {u u' : Value} {g : Nat} (hu : us[j]? = some u) (hu' : us[j']? = some u') (hne : j ≠ j') (hg : u.ownBlock = some g) : u'.ownBlock ≠ some g := fun hg' => by
  obtain ⟨l1, e1⟩ := List.getElem?_eq_some_iff.1 hu
  obtain ⟨l2, e2⟩ := List.getElem?_eq_some_iff.1 hu'
  rcases Nat.lt_or_ge j j' with hlt | hge
  · exact (List.pairwise_iff_getElem.1 hsep j j' l1 l2 hlt) g (by rw [e1]; exact hg) (by rw [e2]; exact hg')
  · exact (List.pairwise_iff_getElem.1 hsep j' j l2 l1 (by omega)) g (by rw [e2]; exact hg') (by rw [e1]; exact hg)
/-- a list begins to grow -/
theorem Lg.start (h : Lg W0 W us vs ns) (hsep : us.Pairwise fun u u' => ∀ g, u.ownBlock = some g → u'.ownBlock ≠ some g) (hlt : ∀ u ∈ us, ∀ g, u.ownBlock = some g → g < W0.heap.size) (hv : vs.length = i) (hx : us[i]? = some x) : Cu W0 W us vs ns i 0 x :=
  ⟨h, h.a i x hx, fun g hg => .inl ⟨x, hx, hg⟩, fun j u g hu hj hg e => us_apart hsep hu hx hj e hg, fun j y g hy hg e => by
    have hj := (List.getElem?_eq_some_iff.1 hy).1
    rcases h.vo j y g hy e with ⟨u, hu, hug⟩ | hge
    · exact us_apart hsep hu hx (by omega) hug hg
    · have := hlt x (List.mem_of_getElem? hx) g hg
      omega⟩
/-- it has grown -/
theorem Cu.done (h : Cu W0 W us vs ns i 16 x) (hv : vs.length = i) : Lg W0 W us (vs ++ [x]) ns := by
  have key : ∀ (j : Nat) y, (vs ++ [x])[j]? = some y → vs[j]? = some y ∨ (j = i ∧ y = x) := fun j y hy => by
    rcases Nat.lt_or_ge j vs.length with hlt | hge
    · rw [List.getElem?_append_left hlt] at hy; exact .inl hy
    · rw [List.getElem?_append_right hge] at hy
      have hj0 : j - vs.length = 0 := by have := (List.getElem?_eq_some_iff.1 hy).1; simp at this; omega
      rw [hj0] at hy
      exact .inr ⟨by omega, by simpa using hy.symm⟩
  refine ⟨h.lg.a, fun j y hy => ?_, h.lg.kp, fun j y g hy hg => ?_⟩
  · rcases key j y hy with h1 | ⟨rfl, rfl⟩
    · exact h.lg.b j y h1
    · exact h.row
  · rcases key j y hy with h1 | ⟨rfl, rfl⟩
    · exact h.lg.vo j y g h1 hg
    · exact h.own g hg
end
end W
end Go.Proofs.YthcpnfelnonhnaaDoor
