/-
  Layer 16: writing images again, in their order or turned.
-/
import Derived.Test.YthgkdpniaednaaaQb
import Derived.Test.YthgkdpniaednaaaBFb
namespace Go.Proofs.Ythgkdpniaednaaa
open Go.RowKit

open B (I64)
theorem pt_end {A : List Im} {x : Im} (h : UpI (A ++ [x])) : pt A x.b x.v = A ++ [x] := by
  have h1 := (List.pairwise_append.1 h).2.2
  have hp : plc A x.b = A.length := by
    rw [plc, List.countP_eq_length]
    intro y hy
    have := h1 y hy x (List.mem_singleton.2 rfl)
    simpa using this
  have ha : isAt A x.b = false := by unfold isAt; rw [hp, List.getElem?_eq_none (Nat.le_refl _)]; rfl
  unfold pt
  rw [if_neg (by rw [ha]; decide), hp, List.take_length, List.drop_length, List.append_nil]
theorem pt_front {A : List Im} {x : Im} (h : UpI (x :: A)) : pt A x.b x.v = x :: A := by
  have h1 := (List.pairwise_cons.1 h).1
  have hp : plc A x.b = 0 := plc_zero fun y hy => by have := h1 y hy; omega
  have ha : isAt A x.b = false := by
    unfold isAt
    rw [hp]
    cases A with
    | nil => rfl
    | cons y A =>
      have := h1 y (List.mem_cons_self ..)
      show decide (y.b = x.b) = false
      exact decide_eq_false (by omega)
  unfold pt
  rw [if_neg (by rw [ha]; decide), hp]
  rfl
/-- what has been written again after i of them -/
def prt (t : Bool) (L : List Im) (i : Nat) : List Im := if t = true then L.drop (L.length - i) else L.take i
theorem prt_zero (t : Bool) (L : List Im) : prt t L 0 = [] := by cases t <;> simp [prt]
theorem prt_all (t : Bool) (L : List Im) : prt t L L.length = L := by cases t <;> simp [prt]
def plk (t : Bool) (n i : Nat) : Nat := if t = true then n - 1 - i else i
theorem prt_step {t : Bool} {L : List Im} (hu : UpI L) {i : Nat} {x : Im} (hx : L[plk t L.length i]? = some x) (hi : i < L.length) : pt (prt t L i) x.b x.v = prt t L (i + 1) := by
  obtain ⟨hk, ex⟩ := List.getElem?_eq_some_iff.1 hx
  cases t with
  | false =>
    have e : L.take (i + 1) = L.take i ++ [x] := by rw [List.take_add_one]; show L.take i ++ (L[i]?).toList = _; rw [show L[i]? = some x from hx]; rfl
    show pt (L.take i) x.b x.v = L.take (i + 1)
    rw [e]
    refine pt_end ?_
    rw [← e]
    exact hu.sublist (List.take_sublist _ _)
  | true =>
    have hx' : L[L.length - 1 - i]? = some x := hx
    obtain ⟨hk', ex'⟩ := List.getElem?_eq_some_iff.1 hx'
    have e : L.drop (L.length - (i + 1)) = x :: L.drop (L.length - i) := by
      rw [show L.length - (i + 1) = L.length - 1 - i by omega, List.drop_eq_getElem_cons hk', ex', show L.length - 1 - i + 1 = L.length - i by omega]
    show pt (L.drop (L.length - i)) x.b x.v = L.drop (L.length - (i + 1))
    rw [e]
    refine pt_front ?_
    rw [← e]
    exact hu.sublist (List.drop_sublist _ _)
theorem prt_ok {t : Bool} {F : List Int} {L : List Im} (h : Okb F L) (i : Nat) : Okb F (prt t L i) := by
  have hs : (prt t L i).Sublist L := by
    cases t
    · exact List.take_sublist _ _
    · exact List.drop_sublist _ _
  exact ⟨h.is, h.up.sublist hs, fun x hx => h.ins x (hs.subset hx), fun x hx => h.wf x (hs.subset hx)⟩
theorem wr_in {F : List Int} {L : List Im} {b : Int} {v : List Int} (hb : b ∈ F) : wrS F L b v = pt L b v := if_pos (B.hasS_iff.2 hb)
theorem wr_out {F : List Int} {L : List Im} {b : Int} {v : List Int} (hb : ¬ b ∈ F) : wrS F L b v = L := if_neg (by rw [has_out hb]; decide)
/-- what was written is read -/
theorem rd_wrote {F : List Int} {L : List Im} (h : Okb F L) {b : Int} {v : List Int} (hb : b ∈ F) : rdV F (wrS F L b v) b = v ∧ rdB F (wrS F L b v) b = true := by
  have hH := B.hasS_iff.2 hb
  have e : gt (wrS F L b v) b = some v := by rw [wr_in hb, gt_pt h.up, if_pos rfl]
  exact ⟨by unfold rdV; rw [if_pos hH, e]; rfl, by unfold rdB; rw [hH, e]; rfl⟩
theorem rd_outside {F : List Int} {L : List Im} {b : Int} (hb : ¬ b ∈ F) : rdV F L b = zs 32 ∧ rdB F L b = false := by
  have e := has_out hb
  exact ⟨by unfold rdV; rw [e]; rfl, by unfold rdB; rw [e]; rfl⟩
end Go.Proofs.Ythgkdpniaednaaa
