/-
  Plain mathematics of layer 9, second part: what stands in a log.
-/
import Derived.Test.YtefnkjajjidfaaaGreatDoorWal
namespace Go.Proofs.YtefnkjajjidfaaaGreatDoor

/-- what is all kept is what reads -/
theorem setl_newk {ws : List Wr} {d : List Int} {n : Nat} (hd : d.length = 64 * n) (hw : Fit n ws) {i : Nat} (hi : i < n) : ∀ k, k ≤ ws.length → sec (setl (fun _ => true) ws d k) i = newk ws d i k
  | 0, _ => rfl
  | k + 1, hk => by
    rw [setl_step _ ws d k (by omega), newk_step ws d i k (by omega), if_pos rfl, sec_put (setl_length hd hw k) (hw.at k (by omega)).1 (hw.at k (by omega)).2.1 hi, setl_newk hd hw hi k (by omega)]
    by_cases c : i = ws[k].s
    · rw [if_pos c, if_pos c.symm]
    · rw [if_neg c, if_neg fun e => c e.symm]
theorem newest_settled {ws : List Wr} {d : List Int} {n : Nat} (hd : d.length = 64 * n) (hw : Fit n ws) {i : Nat} (hi : i < n) : newest [] (settle (fun _ => true) ws d) i = newest ws d i := by
  rw [newest_nil]; exact setl_newk hd hw hi _ (Nat.le_refl _)
/-- **what stands in a log**: 'all' are the records that were appended, the first at 'from'; those from the tail on are read -/
structure Holds (g : Lg) (ws : List Wr) (d : List Int) (fr : Int) (all : List R.Rec) : Prop where
  len : fr + all.length = g.fin
  le : fr ≤ g.tail
  at_ : ∀ (i : Nat) (r : R.Rec), all[i]? = some r → g.tail ≤ fr + i → newest ws d (secN g (fr + i)).toNat = R.encS r ∧ r.Wf ∧ R.may r = true ∧ r.pos = fr + i
theorem sec_ne {g : Lg} (ok : g.Ok) {p q : Int} (h : p ≠ q) (h1 : p < q + g.c.lc) (h2 : q < p + g.c.lc) : (secN g p).toNat ≠ (secN g q).toNat := fun e => by
  have a := secN_in ok p; have b := secN_in ok q
  have hc := ok.cf.2.1
  have e' : secN g p = secN g q := by omega
  unfold secN at e'
  exact h (G.lap_inj g.c.lc p q (by omega) (by omega) h1 h2)
theorem Holds.app {g g' : Lg} {ws : List Wr} {d : List Int} {fr : Int} {all : List R.Rec} (h : Holds g ws d fr all) (ok : g.Ok) (hm : moreS g = 0) (hc : g'.c = g.c) (ht : g'.tail = g.tail) (hf : g'.fin = g.fin + 1) {r : R.Rec} (hw : r.Wf) (hmay : R.may r = true) (hp : r.pos = g.fin) :
    Holds g' (ws ++ [⟨(secN g g.fin).toNat, R.encS r⟩]) d fr (all ++ [r]) := by
  have hl := h.len
  have hu := ok.us
  have m2 := (moreS_zero hm).2
  have hs : ∀ p, secN g' p = secN g p := fun p => by unfold secN; rw [hc]
  refine ⟨by rw [hf]; simp; omega, by rw [ht]; exact h.le, fun i x hx hi => ?_⟩
  rw [ht] at hi
  rw [hs, newest_snoc]
  by_cases c : i < all.length
  · rw [List.getElem?_append_left c] at hx
    have := h.at_ i x hx hi
    rw [if_neg (sec_ne ok (by omega) (by omega) (by omega))]
    exact this
  · have ci : i = all.length := by
      have := (List.getElem?_eq_some_iff.1 hx).1
      simp at this; omega
    subst ci
    rw [List.getElem?_append_right (Nat.le_refl _), Nat.sub_self] at hx
    obtain rfl : r = x := by simpa using hx
    rw [if_pos (by rw [hl]), hl]
    exact ⟨rfl, hw, hmay, hp⟩
theorem Holds.img {g : Lg} {ws : List Wr} {d : List Int} {fr : Int} {all : List R.Rec} (h : Holds g ws d fr all) (ok : g.Ok) {b : Int} (h0 : imgS g b = 0) {v : List Int} (hv : v.length = 32) (hvb : Bytes v) : Holds (imgG g b) (ws ++ [⟨(secN g g.fin).toNat, R.encS (imgR g b v)⟩]) d fr (all ++ [imgR g b v]) :=
  h.app (g' := imgG g b) ok (imgS_zero h0).1 rfl rfl rfl (imgR_wf ok (imgS_zero h0).2 hv hvb) (imgR_may ok (imgS_zero h0).2) rfl
theorem Holds.com {g : Lg} {ws : List Wr} {d : List Int} {fr : Int} {all : List R.Rec} (h : Holds g ws d fr all) (ok : g.Ok) (h0 : moreS g = 0) : Holds (comG g) (ws ++ [⟨(secN g g.fin).toNat, R.encS (comR g)⟩]) d fr (all ++ [comR g]) :=
  h.app (g' := comG g) ok h0 rfl rfl rfl (comR_wf ok) (comR_may ok) rfl
theorem Holds.flush {g : Lg} {ws : List Wr} {d : List Int} {fr : Int} {all : List R.Rec} (h : Holds g ws d fr all) (ok : g.Ok) (hd : d.length = 64 * g.sz) (hw : Fit g.sz ws) : Holds g [] (settle (fun _ => true) ws d) fr all :=
  ⟨h.len, h.le, fun i x hx hi => by
    have hs := secN_in ok (fr + i)
    rw [newest_settled hd hw (by omega)]
    exact h.at_ i x hx hi⟩
theorem Holds.start (s : Sup) (t l : Int) (ws : List Wr) (d : List Int) : Holds (opnG s t l) ws d t [] := ⟨by show t + ((0 : Nat) : Int) = t; omega, Int.le_refl t, fun i r h => by simp at h⟩
end Go.Proofs.YtefnkjajjidfaaaGreatDoor
