/-
  RecordDecodes: lists with marked room (Roomy, Whole).
-/
import Derived.Test.YtndildimnanlpaaDoorRd
namespace Go.Proofs.YtndildimnanlpaaDoor
open Go.RowKit

/-- a value that is a []byte of these numbers, as the calls want it -/
structure SB (w : World) (p : Option Addr) (n c : Nat) (xs : List Int) : Prop where
  inn : BIn w p n xs
  le : n ≤ c
  nil : p = none → c = 0
theorem SB.later {w w' : World} {p : Option Addr} {n c : Nat} {xs : List Int} (h : SB w p n c xs) (hb : Below w.heap.size w w') : SB w' p n c xs := ⟨h.inn.later hb, h.le, h.nil⟩
/-- a row's value: nil, or at the head of a block -/
theorem own_at {w : World} {base e : Nat} {p : Option Addr} {n c : Nat} {xs : List Value} (h : w.ownsRow base e 1 (.slice p n c) n xs) : (p = none ∧ n = 0) ∨ ∃ g cs, p = some ⟨g, 0, none⟩ ∧ base ≤ g ∧ w.heap[g]? = some (.cells cs e (0, 0)) := by
  rcases h.2 with ⟨e1, e2⟩ | ⟨g, cap, cur, e1, hb, hg, _⟩
  · simp only [Value.slice.injEq] at e1
    exact .inl ⟨e1.1, e2⟩
  · simp only [Value.slice.injEq] at e1
    exact .inr ⟨g, cur, e1.1, hb, hg⟩
theorem own_len {w : World} {base e : Nat} {v : Value} {n : Nat} {xs : List Value} (h : w.ownsRow base e 1 v n xs) : xs.length = n := by have := h.1; omega
/-- what Roomy has made is read -/
theorem roomy_in {w : World} {B g n cap : Nat} {xs : List Int} (h : w.ownsRow B 5 1 (.slice (some ⟨g, 0, none⟩) (n + 3) cap) (n + 3) (U8 (xs ++ [77, 78, 79]))) (hl : xs.length = n) (hx : Bytes xs) :
    BIn w (some ⟨g, 0, none⟩) n xs ∧ w.cell? ⟨g, n, none⟩ = some (.int .u8 77) ∧ w.cell? ⟨g, n + 1, none⟩ = some (.int .u8 78) ∧ w.cell? ⟨g, n + 2, none⟩ = some (.int .u8 79) := by
  have hc : ∀ i, i < n + 3 → w.cell? ⟨g, i, none⟩ = (U8 (xs ++ [77, 78, 79]))[i]? := fun i hi => h.cellAt i (by omega)
  refine ⟨⟨hl, hx, fun h0 => ⟨g, 0, rfl, fun i hi => ?_⟩⟩, ?_, ?_, ?_⟩
  · rw [Nat.zero_add, hc i (by omega)]
    have hix : i < xs.length := by omega
    simp [U8, List.getD, List.getElem?_append_left, hix]
  · rw [hc n (by omega), ← hl]
    simp [U8]
  · rw [hc (n + 1) (by omega), ← hl]
    simp [U8]
  · rw [hc (n + 2) (by omega), ← hl]
    simp [U8]
/-- a list with marked room behind it, in a block of its own from B on -/
structure RoomAt (w : World) (B g n cap : Nat) (xs : List Int) : Prop where
  own : w.ownsRow B 5 1 (.slice (some ⟨g, 0, none⟩) (n + 3) cap) (n + 3) (U8 (xs ++ [77, 78, 79]))
  len : xs.length = n
  byte : Bytes xs
  cap2 : n + 3 ≤ cap
theorem RoomAt.later {w w' : World} {B g n cap : Nat} {xs : List Int} (h : RoomAt w B g n cap xs) (hb : Below w.heap.size w w') : RoomAt w' B g n cap xs := ⟨own_later h.own hb, h.len, h.byte, h.cap2⟩
theorem RoomAt.read {w : World} {B g n cap : Nat} {xs : List Int} (h : RoomAt w B g n cap xs) : BIn w (some ⟨g, 0, none⟩) n xs := (roomy_in h.own h.len h.byte).1
theorem RoomAt.at {w : World} {B g n cap : Nat} {xs : List Int} (h : RoomAt w B g n cap xs) : B ≤ g ∧ g < w.heap.size := h.own.lt g rfl
set_option maxHeartbeats 1000000 in
theorem roomy_any (p : Option Addr) (n c : Nat) (xs : List Int) (w : World) (h : SB w p n c xs) (hbig : n + 80 ≤ 140737488355328) :
    Calls Tryd.prog 17 #[.slice p n c] w fun e w' => ∃ g cap, e = .returned (.slice (some ⟨g, 0, none⟩) n cap) ∧ RoomAt w' w.heap.size g n cap xs ∧ Below w.heap.size w w' := by
  obtain ⟨i0, hi, hz0, hz1, hz2⟩ := info_parts info5
  have HH : Hid (SB w p n c xs) := h
  clear h
  have HN : Hid (∀ ad, p = some ad → ∀ j u, (U8 xs)[j]? = some u → (w.alloc (.cells #[] 5)).cell? (ad.add j) = some u) := by
    intro ad had
    have := (HH.out.later (below_alloc w (.cells #[] 5))).inn
    rw [had] at this
    exact this.news
  have HL : Hid ((U8 xs).length = n * 1) := by show _ = _; rw [List.length_map, HH.out.inn.len, Nat.mul_one]
  have HM : Hid ((w.alloc (.cells #[] 5)).ownsRow w.heap.size 5 1 (.slice (some ⟨w.heap.size, 0, none⟩) 0 0) 0 []) := World.ownsRow_made w #[] 0 (Nat.le_refl _) (Nat.zero_le _) rfl
  have HNn : Hid (p = none → n = 0 ∧ c = 0) := fun h => by have := HH.out.nil h; have := HH.out.le; omega
  go_enter Tryd.func17, Tryd.ntmps17
  go_wp2_with (at_builtin; refine wpList_append_ownany _ rfl (.tmp 3) (.tmp 4) 25 rfl w.heap.size 5 i0 (.int .u8 0) 1 1 Tryd.underlying25 hi hz0 hz1 hz2 rfl (by decide) _ 0 [] rfl HM.out p n c (U8 xs) rfl HNn.out HL.out HN.out (ones_u8 _) (by unfold maxLen; omega) (by omega) (by simp) ?_)
  intro v w1 hown1 hgrow1
  have HO : Hid (w1.ownsRow w.heap.size 5 1 v n (U8 xs)) := by
    have : w1.ownsRow w.heap.size 5 1 v n (U8 xs) := by simpa using hown1
    exact this
  have HB : Hid (Below w.heap.size w w1) := ((Below.refl _ w).alloc (Nat.le_refl _) _).grown hgrow1 (by simp) (by intro k hk; simp [Value.ownBlock] at hk; omega)
  clear hown1 hgrow1 HN HL HM HNn
  have HN : Hid (∀ j u, (U8 [77, 78, 79])[j]? = some u → (w1.alloc (.cells #[.int .u8 77, .int .u8 78, .int .u8 79] 5)).cell? ((⟨w1.heap.size, 0, none⟩ : Addr).add j) = some u) := (lit_in w1 [77, 78, 79] 3 rfl (bytes_of (by decide))).news
  go_wp2_with (at_builtin; refine wpList_append_lies _ rfl (.tmp 5) (.tmp 6) 25 rfl w.heap.size 5 i0 (.int .u8 0) 1 1 Tryd.underlying25 hi hz0 hz1 hz2 rfl (by omega) v n (U8 xs) rfl (HO.out.alloc _) ⟨w1.heap.size, 0, none⟩ 3 3 (U8 [77, 78, 79]) rfl rfl HN.out (ones_u8 _) (by omega) (by unfold maxLen; omega) (by omega) (by have := HB.out.size; simp; omega) _ rfl ?_)
  intro g cap w2 hown2 hgrow2 hat hlt
  have hcap : n + 3 ≤ cap := by
    rcases hown2.2 with ⟨h1, _⟩ | ⟨g', cap', cur, h1, _, _, h2, _⟩
    · cases h1
    · simp only [Value.slice.injEq] at h1
      omega
  have HO2 : Hid (w2.ownsRow w.heap.size 5 1 (.slice (some ⟨g, 0, none⟩) (n + 3) cap) (n + 3) (U8 (xs ++ [77, 78, 79]))) := by
    have e : U8 (xs ++ [77, 78, 79]) = U8 xs ++ U8 [77, 78, 79] := by simp [U8]
    rw [e]
    exact hown2
  have HB2 : Hid (Below w.heap.size w w2) := (HB.out.alloc HB.out.size _).grown hgrow2 (by have := HB.out.size; simp; omega) (fun k hk => (HO.out.lt k hk).1)
  clear hown2 hgrow2 hat hlt HO HB
  have hc1 : (n : Int) ≤ (cap : Int) := by omega
  have hc0 : ¬ cap = 0 := by omega
  go_wp2
  go_ret
  exact ⟨g, cap, rfl, ⟨HO2.out, HH.out.inn.len, HH.out.inn.byte, hcap⟩, HB2.out⟩
set_option maxHeartbeats 2000000 in
theorem whole_any (g n cap d : Nat) (q : Option Addr) (xs : List Int) (w : World) (hin : BIn w (some ⟨g, 0, none⟩) n xs) (h77 : w.cell? ⟨g, n, none⟩ = some (.int .u8 77)) (h78 : w.cell? ⟨g, n + 1, none⟩ = some (.int .u8 78)) (h79 : w.cell? ⟨g, n + 2, none⟩ = some (.int .u8 79))
    (hcap : n + 3 ≤ cap) (hbig : n + 80 ≤ 140737488355328) (hw : BIn w q n xs) :
    Calls Tryd.prog 20 #[.slice (some ⟨g, 0, none⟩) n cap, .slice q n d] w fun e w' => e = .returned (.bool true) ∧ w = w' := by
  have hc1 : (n : Int) + 3 ≤ (cap : Int) := by omega
  have hc0 : ¬ cap = 0 := by omega
  have hc2 : (n : Int) ≤ (cap : Int) := by omega
  have z1 := hin.str cap
  have z2 := hw.str d
  clear hin hw
  go_enter Tryd.func20, Tryd.ntmps20
  go_wp2
  go_ret
  exact ⟨rfl, rfl⟩
theorem room_set (xs : List Int) (k : Nat) (hk : k < xs.length) (v : Int) : (U8 (xs ++ [77, 78, 79])).set k (.int .u8 v) = U8 (xs.set k v ++ [77, 78, 79]) := by
  rw [← List.set_append_left _ _ hk]
  simp [U8, List.map_set]
theorem RoomAt.put {w : World} {B g n cap k : Nat} {xs : List Int} (h : RoomAt w B g n cap xs) (hk : k < n) (v : Int) (h0 : 0 ≤ v) (h1 : v < 256) : RoomAt (w.setCell ⟨g, k, none⟩ (.int .u8 v)) B g n cap (xs.set k v) := by
  have hs := (h.own.stored k (.int .u8 v)).1
  rw [room_set xs k (by rw [h.len]; exact hk) v] at hs
  refine ⟨hs, by rw [List.length_set]; exact h.len, fun y hy => ?_, h.cap2⟩
  rcases List.mem_or_eq_of_mem_set hy with hy | rfl
  · exact h.byte y hy
  · exact ⟨h0, h1⟩
end Go.Proofs.YtndildimnanlpaaDoor
