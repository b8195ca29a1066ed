/-
  What OctetJoins' loops hold, outside of the walk: lists with room behind them, in a list.
-/
import Derived.Test.YtdfnpapnoedpkaaEf
import Derived.Test.YtdfnpapnoedpkaaFc
namespace Go.Proofs.Ytdfnpapnoedpkaa
open Go.RowKit

def ent (g : Nat × Nat) (l : List Int) : Value := .slice (some ⟨g.1, 0, none⟩) l.length g.2

structure Ins (w : World) (B : Nat) (V : Value) (gs : List (Nat × Nat)) (ls : List (List Int)) : Prop where
  len : gs.length = ls.length
  row : w.ownsRow B 23 1 V ls.length (List.zipWith ent gs ls)
  room : ∀ i (h : i < gs.length) (h2 : i < ls.length), RoomAt w B gs[i].1 ls[i].length gs[i].2 ls[i]
  apart : ∀ i j (hi : i < gs.length) (hj : j < gs.length), i ≠ j → gs[i].1 ≠ gs[j].1

theorem Ins.nil (w : World) (B : Nat) : Ins w B (.slice none 0 0) [] [] :=
  ⟨rfl, World.ownsRow_nil _ _ _ _, fun _ h => absurd h (Nat.not_lt_zero _), fun _ _ h => absurd h (Nat.not_lt_zero _)⟩

theorem Ins.later {w w' : World} {B : Nat} {V : Value} {gs : List (Nat × Nat)} {ls : List (List Int)} (h : Ins w B V gs ls) (hb : Below w.heap.size w w') : Ins w' B V gs ls :=
  ⟨h.len, own_later h.row hb, fun i h1 h2 => (h.room i h1 h2).later hb, h.apart⟩

/-- a row of bytes is no row of lists -/
theorem kinds_apart {w : World} {B B' g n cap m : Nat} {V : Value} {xs ys : List Value} (h : w.ownsRow B 5 1 (.slice (some ⟨g, 0, none⟩) n cap) n xs) (hV : w.ownsRow B' 23 1 V m ys) : (Value.slice (some ⟨g, 0, none⟩) n cap).ownBlock ≠ V.ownBlock := by
  intro e
  rcases own_at h with ⟨h1, _⟩ | ⟨g', cs, h1, _, hg⟩
  · cases h1
  · simp only [Option.some.injEq, Addr.mk.injEq, and_true] at h1
    subst h1
    rcases hV.2 with ⟨h2, _⟩ | ⟨gV, capV, curV, h2, _, hgV, _⟩
    · rw [h2] at e; cases e
    · rw [h2] at e
      simp only [Value.ownBlock, Option.some.injEq] at e
      subst e
      rw [hg] at hgV
      simp at hgV

theorem Ins.push {w w1 w2 : World} {B g cap : Nat} {V V' : Value} {gs : List (Nat × Nat)} {ls : List (List Int)} {l : List Int} {O : Obj} (h : Ins w B V gs ls) (hB : B ≤ w.heap.size) (hb : Below w.heap.size w w1)
    (hr : RoomAt w1 w.heap.size g l.length cap l) (ho : w2.ownsRow B 23 1 V' (ls.length + 1) (List.zipWith ent gs ls ++ [ent (g, cap) l])) (hg : (w1.alloc O).grownBy w2 V.ownBlock) : Ins w2 B V' (gs ++ [(g, cap)]) (ls ++ [l]) := by
  have hV : (w1.alloc O).ownsRow B 23 1 V ls.length (List.zipWith ent gs ls) := own_later (own_later h.row hb) (below_alloc _ _)
  have keep : ∀ {g0 n0 cap0 : Nat} {l0 : List Int}, RoomAt w1 B g0 n0 cap0 l0 → RoomAt w2 B g0 n0 cap0 l0 := by
    intro g0 n0 cap0 l0 h0
    have h1 := h0.later (below_alloc w1 O)
    exact ⟨h1.own.kept hg (.inr (kinds_apart h1.own hV)), h1.len, h1.byte, h1.cap2⟩
  refine ⟨by simp [h.len], ?_, fun i h1 h2 => ?_, fun i j hi hj hne => ?_⟩
  · rw [List.zipWith_append (by exact h.len), List.length_append]
    exact ho
  · by_cases hlt : i < gs.length
    · have hl2 : i < ls.length := by rw [← h.len]; exact hlt
      simp only [List.getElem_append_left hlt, List.getElem_append_left hl2]
      exact keep ((h.room i hlt hl2).later hb)
    · have e1 : i = gs.length := by simp at h1; omega
      subst e1
      have e2 : gs.length = ls.length := h.len
      simp only [List.getElem_append_right (Nat.le_refl _), Nat.sub_self, List.getElem_cons_zero]
      rw [List.getElem_append_right (by omega)]
      simp only [e2, Nat.sub_self, List.getElem_cons_zero]
      exact keep ⟨own_mono hr.own hB, hr.len, hr.byte, hr.cap2⟩
  · have hlow : ∀ k (hk : k < gs.length), gs[k].1 < g := fun k hk => by
      have h1 := (h.room k hk (by rw [← h.len]; exact hk)).at.2
      have h2 := hr.at.1
      omega
    by_cases hi2 : i < gs.length
    · by_cases hj2 : j < gs.length
      · simp only [List.getElem_append_left hi2, List.getElem_append_left hj2]
        exact h.apart i j hi2 hj2 hne
      · have e : j = gs.length := by simp at hj; omega
        subst e
        simp only [List.getElem_append_left hi2, List.getElem_append_right (Nat.le_refl _), Nat.sub_self, List.getElem_cons_zero]
        exact Nat.ne_of_lt (hlow i hi2)
    · have e : i = gs.length := by simp at hi; omega
      subst e
      have hj2 : j < gs.length := by simp at hj; omega
      simp only [List.getElem_append_left hj2, List.getElem_append_right (Nat.le_refl _), Nat.sub_self, List.getElem_cons_zero]
      exact Nat.ne_of_gt (hlow j hj2)

theorem Ins.pin {w : World} {B : Nat} {V : Value} {gs : List (Nat × Nat)} {ls : List (List Int)} (h : Ins w B V gs ls) : ∃ p c, V = .slice p ls.length c ∧ PIn w p ls.length (List.zipWith ent gs ls) ls := by
  have hzl : (List.zipWith ent gs ls).length = ls.length := by simp [h.len]
  have parts : ∀ i (h1 : i < (List.zipWith ent gs ls).length) (h2 : i < ls.length), SIn w (List.zipWith ent gs ls)[i] ls[i] := by
    intro i h1 h2
    have hg : i < gs.length := by rw [h.len]; exact h2
    have hr := h.room i hg h2
    rw [List.getElem_zipWith]
    exact ⟨_, _, _, rfl, hr.read, by have := hr.cap2; omega, fun e => by cases e⟩
  rcases h.row.2 with ⟨h1, h2⟩ | ⟨g, cap, cur, h1, h2, h3, h4, h5, h6, h7⟩
  · subst h1
    exact ⟨none, 0, by rw [h2], ⟨hzl, rfl, fun h0 => by omega, parts⟩⟩
  · refine ⟨_, cap, h1, ⟨hzl, rfl, fun h0 => ⟨g, 0, rfl, fun i hi => ?_⟩, parts⟩⟩
    have hrow := h.row
    rw [h1] at hrow
    rw [Nat.zero_add, hrow.cellAt i (by omega), List.getElem?_eq_getElem hi]

/-- the first k lists turned -/
def turnL (k : Nat) (ls : List (List Int)) : List (List Int) := (ls.take k).map (fun l => l.map flip) ++ ls.drop k
theorem turnL_length (k : Nat) (ls : List (List Int)) : (turnL k ls).length = ls.length := by
  simp [turnL]
  omega
theorem turnL_zero (ls : List (List Int)) : turnL 0 ls = ls := by simp [turnL]
theorem turnL_all (ls : List (List Int)) : turnL ls.length ls = ls.map (fun l => l.map flip) := by simp [turnL]
theorem turnL_get (k i : Nat) (ls : List (List Int)) (h : i < (turnL k ls).length) (h2 : i < ls.length) : (turnL k ls)[i] = if i < k then ls[i].map flip else ls[i] := by
  simp only [turnL]
  by_cases hlt : i < k
  · rw [List.getElem_append_left (by simp; omega), if_pos hlt]
    simp
  · rw [List.getElem_append_right (by simp; omega), if_neg hlt, List.getElem_drop]
    congr 1
    simp
    omega
theorem turnL_flat (ls : List (List Int)) : (ls.map (fun l => l.map flip)).flatten = ls.flatten.map flip := by
  rw [List.map_flatten]

theorem ent_turn (gs : List (Nat × Nat)) (ls : List (List Int)) (k : Nat) : List.zipWith ent gs (turnL k ls) = List.zipWith ent gs ls := by
  apply List.ext_getElem (by simp [turnL_length])
  intro i h1 h2
  have hi : i < ls.length := by simp at h2; omega
  rw [List.getElem_zipWith, List.getElem_zipWith, turnL_get k i ls (by rw [turnL_length]; exact hi) hi]
  unfold ent
  split
  · simp
  · rfl

theorem Ins.turn {w w' : World} {B : Nat} {V : Value} {gs : List (Nat × Nat)} {ls : List (List Int)} {k : Nat} (h : Ins w B V gs (turnL k ls)) (hk : k < gs.length) (hkl : k < ls.length)
    (hr : RoomAt w' B gs[k].1 ls[k].length gs[k].2 (ls[k].map flip)) (hg : w.grownBy w' (some gs[k].1)) : Ins w' B V gs (turnL (k + 1) ls) := by
  have hrow := h.row
  have hk2 : k < (turnL k ls).length := by rw [turnL_length]; exact hkl
  refine ⟨by rw [h.len, turnL_length, turnL_length], ?_, fun i h1 h2 => ?_, h.apart⟩
  · rw [ent_turn, turnL_length]
    rw [ent_turn, turnL_length] at hrow
    refine hrow.kept hg ?_
    have := kinds_apart (h.room k hk hk2).own h.row
    right
    intro e
    exact this (by rw [e]; rfl)
  · have hil : i < ls.length := by rw [turnL_length] at h2; exact h2
    rw [turnL_get (k + 1) i ls h2 hil]
    by_cases e : i = k
    · subst e
      rw [if_pos (by omega)]
      have e2 : (ls[i].map flip).length = ls[i].length := by simp
      rw [e2]
      exact hr
    · have hold := h.room i h1 (by rw [turnL_length]; exact hil)
      rw [turnL_get k i ls (by rw [turnL_length]; exact hil) hil] at hold
      have e3 : (if i < k + 1 then ls[i].map flip else ls[i]) = (if i < k then ls[i].map flip else ls[i]) := by
        by_cases hlt : i < k
        · rw [if_pos hlt, if_pos (by omega)]
        · rw [if_neg hlt, if_neg (by omega)]
      rw [e3]
      refine ⟨hold.own.kept hg (.inr ?_), hold.len, hold.byte, hold.cap2⟩
      intro e4
      simp only [Value.ownBlock, Option.some.injEq] at e4
      exact h.apart i k h1 hk e e4

theorem BIn.turn {w w' : World} {p : Option Addr} {n g : Nat} {xs : List Int} (h : BIn w p n xs) (hg : w.grownBy w' (some g)) (hp : ∀ a, p = some a → 0 < n → a.block ≠ g) : BIn w' p n xs := by
  refine ⟨h.len, h.byte, fun h0 => ?_⟩
  obtain ⟨b, o, rfl, hc⟩ := h.cells h0
  refine ⟨b, o, rfl, fun i hi => ?_⟩
  have := hc i hi
  have hlt := World.block_lt_of_cell? w ⟨b, o + i, none⟩ this
  rw [World.cell?_of_block (w := w) (w' := w') (a := ⟨b, o + i, none⟩) (hg.block b hlt (fun e => by simp only [Option.some.injEq] at e; exact hp ⟨b, o, none⟩ rfl h0 e))]
  exact this

theorem Chain.turn {w w' : World} {g : Nat} : ∀ {rs : List Trip} {B : Nat}, Chain w B rs → w.grownBy w' (some g) → g < B → Chain w' B rs
  | [], _, _, _, _ => trivial
  | _ :: _, _, ⟨T, hs, hc⟩, hg, hlt => ⟨T, hs.turn hg hlt, hc.turn hg (Nat.lt_of_lt_of_le hlt hs.le)⟩

set_option maxHeartbeats 400000 in
theorem turn_nil (c : Nat) (w : World) : Calls Try.prog 20 #[.slice none 0 c] w fun e w' => e = .returned (.tuple #[]) ∧ w = w' := by
  go_enter Try.func20, Try.ntmps20
  go_wp2
  refine wp_loop_rounds 1 ?_
  rw [rounds_succ]
  go_wp2
  go_end0
  exact ⟨rfl, rfl⟩

theorem turn_own (B : Nat) (v : Value) (n : Nat) (X : List Int) (w : World) (h : w.ownsRow B 5 1 v n (U8 X)) (hbig : n ≤ 140737488355328) :
    Calls Try.prog 20 #[v] w fun e w' => e = .returned (.tuple #[]) ∧ w'.ownsRow B 5 1 v n (U8 (X.map flip)) ∧ w.grownBy w' v.ownBlock := by
  have hl : X.length = n := by have := own_len h; simpa [U8] using this
  rcases h.2 with ⟨h1, h2⟩ | ⟨g, cap, cur, h1, _⟩
  · subst h1
    subst h2
    obtain rfl : X = [] := List.eq_nil_of_length_eq_zero hl
    refine (turn_nil 0 w).mono ?_
    rintro e w' ⟨rfl, rfl⟩
    exact ⟨rfl, h, World.grownBy.refl _ _⟩
  · subst h1
    refine (turn_any B g n n cap X w h (Nat.le_refl _) hbig).mono ?_
    rintro e w' ⟨rfl, ho, hg⟩
    have e : turnS n X = X.map flip := by
      unfold turnS
      rw [List.take_of_length_le (by omega), List.drop_eq_nil_of_le (by omega), List.append_nil]
    rw [e] at ho
    exact ⟨rfl, ho, hg⟩

end Go.Proofs.Ytdfnpapnoedpkaa
