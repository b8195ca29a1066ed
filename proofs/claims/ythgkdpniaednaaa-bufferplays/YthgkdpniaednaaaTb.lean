/-
  Layer 16: what stands between two calls.
-/
import Derived.Test.YthgkdpniaednaaaTa
namespace Go.Proofs.Ythgkdpniaednaaa
open Go.RowKit

open B (I64)
namespace W
abbrev Th.il (fl : Bool) (v : Value) (us : List Value) (ls : List (List Im)) : Th := .ls fl 23 33 33 (fun l : List Im => l.length) IC v us ls
abbrev Th.fo (fl : Bool) (v : Value) (us : List Value) (fs : List (List Int)) : Th := .ls fl 22 3 1 (fun l : List Int => l.length) I64 v us fs
abbrev Th.em (u : Value) (l : List Im) : Th := .el 33 33 (fun l : List Im => l.length) IC u l
abbrev Th.ei (u : Value) (l : List Int) : Th := .el 3 1 (fun l : List Int => l.length) I64 u l
/-- which is which -/
structure Sh (T : Nat → Th) (F : Nat → List Int) (D : Nat → List Im) (fl : Bool) (N a : Nat) : Prop where
  buf : ∀ j, j < 2 → ∃ Q pf cf vi, T j = .buf Q pf cf (F j) vi (ims (F j) (D j))
  ref : ∀ j, j < 2 → ∃ R ps cs vw, T (j + 2) = .ref R ps cs (F j) vw (D j)
  is : ∀ j, j < 2 → B.isS (F j) = true
  wf : ∀ j, j < 2 → ImsWf (D j) ∧ (D j).length ≤ N
  im : ∃ v4 us4 v5 us5 ls, T 4 = .il fl v4 us4 ls ∧ T 5 = .il fl v5 us5 ls ∧ ls.length ≤ a ∧ ∀ l ∈ ls, l.length ≤ 16 ∧ ImsWf l
  fo : ∃ v6 us6 fs, T 6 = .fo fl v6 us6 fs ∧ fs.length ≤ a ∧ ∀ f ∈ fs, f.length ≤ 16
/-- what stands between two calls -/
def St (w0 w : World) (P : Nat) (F : Nat → List Int) (D : Nat → List Im) (fl : Bool) (N a : Nat) : Prop := ∃ T G, PS w0 w P (pcs T) T G ∧ Sh T F D fl N a
section
variable {w0 w w' : World} {P N a j : Nat} {F : Nat → List Int} {D : Nat → List Im} {fl : Bool}
theorem St.later (h : St w0 w P F D fl N a) (hb : Below w.heap.size w w') : St w0 w' P F D fl N a := by
  obtain ⟨T, G, h, hs⟩ := h
  exact ⟨T, G, h.later hb, hs⟩
theorem St.below (h : St w0 w P F D fl N a) : Below w0.heap.size w0 w := by
  obtain ⟨T, G, h, _⟩ := h
  exact h.below
theorem Sh.okb {T : Nat → Th} (h : Sh T F D fl N a) (hj : j < 2) : Okb (F j) (ims (F j) (D j)) := okb_ims (h.is j hj) (h.wf j hj).1
theorem PS.buf {cs : Array Value} {T : Nat → Th} {G : Nat → Prop} {Q cf : Nat} {pf : Option Addr} {f : List Int} {vi : Value} {L : List Im} (h : PS w0 w P cs T G) (hj : j < 15) (e : T j = .buf Q pf cf f vi L) : BAt w Q pf cf f vi L ∧ ∀ a, pf = some a → G a.block := by
  have := h.fam.at' j hj
  rw [e] at this
  exact this
theorem PS.ref {cs : Array Value} {T : Nat → Th} {G : Nat → Prop} {Q cf : Nat} {pf : Option Addr} {f : List Int} {vi : Value} {L : List Im} (h : PS w0 w P cs T G) (hj : j < 15) (e : T j = .ref Q pf cf f vi L) : RAt w Q pf cf f vi L ∧ ∀ a, pf = some a → G a.block := by
  have := h.fam.at' j hj
  rw [e] at this
  exact this
theorem PS.ls {α : Type} {cs : Array Value} {T : Nat → Th} {G : Nat → Prop} {t e : TypeId} {s : Nat} {n : α → Nat} {c : α → List Value} {v : Value} {us : List Value} {fs : List α} (h : PS w0 w P cs T G) (hj : j < 15) (e1 : T j = .ls fl t e s n c v us fs) : Ls w fl t e s n c v us fs := by
  have := h.fam.at' j hj
  rw [e1] at this
  exact this
theorem pcs_get {T : Nat → Th} (hj : j < 7) : (pcs T)[j]? = some (T j).val := by
  rcases (show j = 0 ∨ j = 1 ∨ j = 2 ∨ j = 3 ∨ j = 4 ∨ j = 5 ∨ j = 6 by omega) with rfl | rfl | rfl | rfl | rfl | rfl | rfl <;> rfl
/-- a pair's cells -/
theorem PS.c {T : Nat → Th} {G : Nat → Prop} (h : PS w0 w P (pcs T) T G) (hj : j < 7) : w.cell? ⟨P, j, none⟩ = some (T j).val := h.cell (pcs_get hj)
/-- one buffer on both sides -/
theorem St.two (h : St w0 w P F D fl N a) (hj : j < 2) : ∃ T G Q pf cf vi R ps cs vw, PS w0 w P (pcs T) T G ∧ Sh T F D fl N a ∧ T j = .buf Q pf cf (F j) vi (ims (F j) (D j)) ∧ T (j + 2) = .ref R ps cs (F j) vw (D j) ∧ BAt w Q pf cf (F j) vi (ims (F j) (D j)) ∧ RAt w R ps cs (F j) vw (D j) ∧
    (∀ W, Below w.heap.size w W → W.cell? ⟨P, j, none⟩ = some (.pointer (some ⟨Q, 0, none⟩)) ∧ W.cell? ⟨P, 2 + j, none⟩ = some (.pointer (some ⟨R, 0, none⟩))) := by
  obtain ⟨T, G, h, hs⟩ := h
  obtain ⟨Q, pf, cf, vi, e1⟩ := hs.buf j hj
  obtain ⟨R, ps, cs, vw, e2⟩ := hs.ref j hj
  refine ⟨T, G, Q, pf, cf, vi, R, ps, cs, vw, h, hs, e1, e2, (h.buf (by omega) e1).1, (h.ref (by omega) e2).1, fun W hW => ⟨?_, ?_⟩⟩
  · rw [(h.later hW).c (by omega), e1]; rfl
  · rw [Nat.add_comm 2 j, (h.later hW).c (by omega), e2]; rfl
/-- three lists more -/
theorem Sh.told {T T' : Nat → Th} {v4' v5' v6' u4 u5 u6 : Value} {us4 us5 us6 : List Value} {ls : List (List Im)} {l : List Im} {fs : List (List Int)} {f : List Int} (h : Sh T F D fl N a) (hT : ∀ j, j < 4 → T' j = T j) (hl : ls.length ≤ a ∧ ∀ l ∈ ls, l.length ≤ 16 ∧ ImsWf l) (hf : fs.length ≤ a ∧ ∀ f ∈ fs, f.length ≤ 16) (hl2 : l.length ≤ 16 ∧ ImsWf l) (hf2 : f.length ≤ 16)
    (e4 : T' 4 = .il fl v4' (us4 ++ [u4]) (ls ++ [l])) (e5 : T' 5 = .il fl v5' (us5 ++ [u5]) (ls ++ [l])) (e6 : T' 6 = .fo fl v6' (us6 ++ [u6]) (fs ++ [f])) : Sh T' F D fl N (a + 1) := by
  refine ⟨fun j hj => ?_, fun j hj => ?_, h.is, h.wf, ⟨_, _, _, _, _, e4, e5, by simp; omega, fun x hx => ?_⟩, ⟨_, _, _, e6, by simp; omega, fun x hx => ?_⟩⟩
  · rw [hT j (by omega)]; exact h.buf j hj
  · rw [hT (j + 2) (by omega)]; exact h.ref j hj
  · rcases List.mem_append.1 hx with hx | hx
    · exact hl.2 x hx
    · rw [List.mem_singleton.1 hx]; exact hl2
  · rcases List.mem_append.1 hx with hx | hx
    · exact hf.2 x hx
    · rw [List.mem_singleton.1 hx]; exact hf2
end
end W
end Go.Proofs.Ythgkdpniaednaaa
