/-
  Contracts of the statements' own helpers: Roomy, Whole; lists with room behind them, in a list.
-/
import Derived.Test.YtaencchobpgogaaDoorTb
import Derived.Maps.AppendAt
namespace Go.Proofs.YtaencchobpgogaaDoor
open Go.RowKit

theorem info25 : (Tryd.prog.info? 25).map (fun i => (i.zero, i.size, i.bytes)) = some (some (.slice none 0 0), 1, 24) := by kernel_rfl
theorem one_slice (p : Option Addr) (n c : Nat) : ∀ u ∈ [Value.slice p n c], u.oneCell' = true := by
  intro u hu; obtain rfl := List.mem_singleton.1 hu; rfl
/-- the law for append onto a list of the call's own, of a source that may be nil, with where it lies -/
theorem wpList_append_at {P : Program} (w : World) {ops : Array Oper} {rest : List Oper} {o : Oper} {a : Act} {Q : Exit → Act → World → Prop} (hgd : o.guard = none) (s x : Operand) (t : TypeId)
    (ho : o.op = .call { callee := .builtin .append, args := #[s, x], argTypes := #[t, t] })
    (base : Nat) (e : TypeId) (i : TypeInfo) (z : Value) (size bytes : Nat) (ht : P.underlying t = some (.slice e)) (hi : P.info? e = some i) (hz : i.zero = some z)
    (hsize : i.size = size) (hby : i.bytes = bytes) (hzs : z.cells.size = size) (hsz : 0 < size)
    (v : Value) (n : Nat) (xs : List Value) (hs : a.eval s = v) (hown : w.ownsRow base e size v n xs)
    (ao : Option Addr) (m c : Nat) (news : List Value) (hx : a.eval x = .slice ao m c) (hnone : ao = none → m = 0 ∧ c = 0) (hl : news.length = m * size) (hnews : ∀ ad, ao = some ad → ∀ j u, news[j]? = some u → w.cell? (ad.add j) = some u) (h1 : ∀ u ∈ news, u.oneCell' = true)
    (h63 : n + m ≤ maxLen) (hbytes : (n + m) * bytes ≤ 140737488355328) (hbase : base ≤ w.heap.size)
    (h : ∀ v' w', w'.ownsRow base e size v' (n + m) (xs ++ news) → w.grownBy w' v.ownBlock → (v'.ownBlock = v.ownBlock ∨ v'.ownBlock = some w.heap.size) → wpList P ops Q rest (a.put o.dst v') w') : wpList P ops Q (o :: rest) a w := by
  cases ao with
  | some ad => exact wpList_append_own_at w hgd s x t ho base e i z size bytes ht hi hz hsize hby hzs hsz v n xs hs hown ad m c news hx hl (hnews ad rfl) h1 h63 hbytes hbase fun v' w' a b _ d => h v' w' a b d
  | none =>
    obtain ⟨rfl, rfl⟩ := hnone rfl
    obtain rfl : news = [] := List.eq_nil_of_length_eq_zero (by simpa using hl)
    exact wpList_append_own_none hgd s x t ho base e i size ht hi v n xs hs hown hx (h v w (by simpa using hown) (World.grownBy.refl _ _) (.inl rfl))

/-- a row's value: nil, or at the head of a block -/
theorem own_at {w : World} {base e : Nat} {p : Option Addr} {n c : Nat} {xs : List Value} (h : w.ownsRow base e 1 (.slice p n c) n xs) : (p = none ∧ n = 0) ∨ ∃ g cs, p = some ⟨g, 0, none⟩ ∧ base ≤ g ∧ w.heap[g]? = some (.cells cs e (0, 0)) := by
  rcases h.2 with ⟨e1, e2⟩ | ⟨g, cap, cur, e1, hb, hg, _⟩
  · simp only [Value.slice.injEq] at e1
    exact .inl ⟨e1.1, e2⟩
  · simp only [Value.slice.injEq] at e1
    exact .inr ⟨g, cur, e1.1, hb, hg⟩

theorem own_len {w : World} {base e : Nat} {v : Value} {n : Nat} {xs : List Value} (h : w.ownsRow base e 1 v n xs) : xs.length = n := by have := h.1; omega

/-- what Roomy has made is read -/
theorem roomy_in {w : World} {B g n cap : Nat} {xs : List Int} (h : w.ownsRow B 5 1 (.slice (some ⟨g, 0, none⟩) (n + 3) cap) (n + 3) (U8 (xs ++ [77, 78, 79]))) (hl : xs.length = n) (hx : Bytes xs) :
    BIn w (some ⟨g, 0, none⟩) n xs ∧ w.cell? ⟨g, n, none⟩ = some (.int .u8 77) ∧ w.cell? ⟨g, n + 1, none⟩ = some (.int .u8 78) ∧ w.cell? ⟨g, n + 2, none⟩ = some (.int .u8 79) := by
  have hc : ∀ i, i < n + 3 → w.cell? ⟨g, i, none⟩ = (U8 (xs ++ [77, 78, 79]))[i]? := fun i hi => h.cellAt i (by omega)
  refine ⟨⟨hl, hx, fun h0 => ⟨g, 0, rfl, fun i hi => ?_⟩⟩, ?_, ?_, ?_⟩
  · rw [Nat.zero_add, hc i (by omega)]
    have hix : i < xs.length := by omega
    simp [U8, List.getD, List.getElem?_append_left, hix]
  · rw [hc n (by omega), ← hl]
    simp [U8]
  · rw [hc (n + 1) (by omega), ← hl]
    simp [U8]
  · rw [hc (n + 2) (by omega), ← hl]
    simp [U8]

/-- a list with marked room behind it, in a block of its own from B on -/
structure RoomAt (w : World) (B g n cap : Nat) (xs : List Int) : Prop where
  own : w.ownsRow B 5 1 (.slice (some ⟨g, 0, none⟩) (n + 3) cap) (n + 3) (U8 (xs ++ [77, 78, 79]))
  len : xs.length = n
  byte : Bytes xs
  cap2 : n + 3 ≤ cap

theorem RoomAt.later {w w' : World} {B g n cap : Nat} {xs : List Int} (h : RoomAt w B g n cap xs) (hb : Below w.heap.size w w') : RoomAt w' B g n cap xs := ⟨own_later h.own hb, h.len, h.byte, h.cap2⟩

theorem RoomAt.read {w : World} {B g n cap : Nat} {xs : List Int} (h : RoomAt w B g n cap xs) : BIn w (some ⟨g, 0, none⟩) n xs := (roomy_in h.own h.len h.byte).1

theorem RoomAt.at {w : World} {B g n cap : Nat} {xs : List Int} (h : RoomAt w B g n cap xs) : B ≤ g ∧ g < w.heap.size := h.own.lt g rfl

def ent (g : Nat × Nat) (l : List Int) : Value := .slice (some ⟨g.1, 0, none⟩) l.length g.2

structure Ins (w : World) (B : Nat) (V : Value) (gs : List (Nat × Nat)) (ls : List (List Int)) : Prop where
  len : gs.length = ls.length
  row : w.ownsRow B 25 1 V ls.length (List.zipWith ent gs ls)
  room : ∀ i (h : i < gs.length) (h2 : i < ls.length), RoomAt w B gs[i].1 ls[i].length gs[i].2 ls[i]
  apart : ∀ i j (hi : i < gs.length) (hj : j < gs.length), i ≠ j → gs[i].1 ≠ gs[j].1

theorem Ins.nil (w : World) (B : Nat) : Ins w B (.slice none 0 0) [] [] :=
  ⟨rfl, World.ownsRow_nil _ _ _ _, fun _ h => absurd h (Nat.not_lt_zero _), fun _ _ h => absurd h (Nat.not_lt_zero _)⟩

theorem Ins.later {w w' : World} {B : Nat} {V : Value} {gs : List (Nat × Nat)} {ls : List (List Int)} (h : Ins w B V gs ls) (hb : Below w.heap.size w w') : Ins w' B V gs ls :=
  ⟨h.len, own_later h.row hb, fun i h1 h2 => (h.room i h1 h2).later hb, h.apart⟩

/-- a row of bytes is no row of lists -/
theorem kinds_apart {w : World} {B B' g n cap m : Nat} {V : Value} {xs ys : List Value} (h : w.ownsRow B 5 1 (.slice (some ⟨g, 0, none⟩) n cap) n xs) (hV : w.ownsRow B' 25 1 V m ys) : (Value.slice (some ⟨g, 0, none⟩) n cap).ownBlock ≠ V.ownBlock := by
  intro e
  rcases own_at h with ⟨h1, _⟩ | ⟨g', cs, h1, _, hg⟩
  · cases h1
  · simp only [Option.some.injEq, Addr.mk.injEq, and_true] at h1
    subst h1
    rcases hV.2 with ⟨h2, _⟩ | ⟨gV, capV, curV, h2, _, hgV, _⟩
    · rw [h2] at e; cases e
    · rw [h2] at e
      simp only [Value.ownBlock, Option.some.injEq] at e
      subst e
      rw [hg] at hgV
      simp at hgV

theorem Ins.push {w w1 w2 : World} {B g cap : Nat} {V V' : Value} {gs : List (Nat × Nat)} {ls : List (List Int)} {l : List Int} {O : Obj} (h : Ins w B V gs ls) (hB : B ≤ w.heap.size) (hb : Below w.heap.size w w1)
    (hr : RoomAt w1 w.heap.size g l.length cap l) (ho : w2.ownsRow B 25 1 V' (ls.length + 1) (List.zipWith ent gs ls ++ [ent (g, cap) l])) (hg : (w1.alloc O).grownBy w2 V.ownBlock) : Ins w2 B V' (gs ++ [(g, cap)]) (ls ++ [l]) := by
  have hV : (w1.alloc O).ownsRow B 25 1 V ls.length (List.zipWith ent gs ls) := own_later (own_later h.row hb) (below_alloc _ _)
  have keep : ∀ {g0 n0 cap0 : Nat} {l0 : List Int}, RoomAt w1 B g0 n0 cap0 l0 → RoomAt w2 B g0 n0 cap0 l0 := by
    intro g0 n0 cap0 l0 h0
    have h1 := h0.later (below_alloc w1 O)
    exact ⟨h1.own.kept hg (.inr (kinds_apart h1.own hV)), h1.len, h1.byte, h1.cap2⟩
  refine ⟨by simp [h.len], ?_, fun i h1 h2 => ?_, fun i j hi hj hne => ?_⟩
  · rw [List.zipWith_append (by exact h.len), List.length_append]
    exact ho
  · by_cases hlt : i < gs.length
    · have hl2 : i < ls.length := by rw [← h.len]; exact hlt
      simp only [List.getElem_append_left hlt, List.getElem_append_left hl2]
      exact keep ((h.room i hlt hl2).later hb)
    · have e1 : i = gs.length := by simp at h1; omega
      subst e1
      have e2 : gs.length = ls.length := h.len
      simp only [List.getElem_append_right (Nat.le_refl _), Nat.sub_self, List.getElem_cons_zero]
      rw [List.getElem_append_right (by omega)]
      simp only [e2, Nat.sub_self, List.getElem_cons_zero]
      exact keep ⟨own_mono hr.own hB, hr.len, hr.byte, hr.cap2⟩
  · have hlow : ∀ k (hk : k < gs.length), gs[k].1 < g := fun k hk => by
      have h1 := (h.room k hk (by rw [← h.len]; exact hk)).at.2
      have h2 := hr.at.1
      omega
    by_cases hi2 : i < gs.length
    · by_cases hj2 : j < gs.length
      · simp only [List.getElem_append_left hi2, List.getElem_append_left hj2]
        exact h.apart i j hi2 hj2 hne
      · have e : j = gs.length := by simp at hj; omega
        subst e
        simp only [List.getElem_append_left hi2, List.getElem_append_right (Nat.le_refl _), Nat.sub_self, List.getElem_cons_zero]
        exact Nat.ne_of_lt (hlow i hi2)
    · have e : i = gs.length := by simp at hi; omega
      subst e
      have hj2 : j < gs.length := by simp at hj; omega
      simp only [List.getElem_append_left hj2, List.getElem_append_right (Nat.le_refl _), Nat.sub_self, List.getElem_cons_zero]
      exact Nat.ne_of_gt (hlow j hj2)

theorem Ins.pin {w : World} {B : Nat} {V : Value} {gs : List (Nat × Nat)} {ls : List (List Int)} (h : Ins w B V gs ls) : ∃ p c, V = .slice p ls.length c ∧ PIn w p ls.length (List.zipWith ent gs ls) ls := by
  have hzl : (List.zipWith ent gs ls).length = ls.length := by simp [h.len]
  have parts : ∀ i (h1 : i < (List.zipWith ent gs ls).length) (h2 : i < ls.length), SIn w (List.zipWith ent gs ls)[i] ls[i] := by
    intro i h1 h2
    have hg : i < gs.length := by rw [h.len]; exact h2
    have hr := h.room i hg h2
    rw [List.getElem_zipWith]
    exact ⟨_, _, _, rfl, hr.read, by have := hr.cap2; omega, fun e => by cases e⟩
  rcases h.row.2 with ⟨h1, h2⟩ | ⟨g, cap, cur, h1, h2, h3, h4, h5, h6, h7⟩
  · subst h1
    exact ⟨none, 0, by rw [h2], ⟨hzl, rfl, fun h0 => by omega, parts⟩⟩
  · refine ⟨_, cap, h1, ⟨hzl, rfl, fun h0 => ⟨g, 0, rfl, fun i hi => ?_⟩, parts⟩⟩
    have hrow := h.row
    rw [h1] at hrow
    rw [Nat.zero_add, hrow.cellAt i (by omega), List.getElem?_eq_getElem hi]

theorem Ins.cell {w : World} {B bV oV n cv : Nat} {gs : List (Nat × Nat)} {ls : List (List Int)} (h : Ins w B (.slice (some ⟨bV, oV, none⟩) n cv) gs ls) (i : Nat) (hi : i < gs.length) (hl : i < ls.length) : w.cell? ⟨bV, oV + i, none⟩ = some (ent gs[i] ls[i]) := by
  obtain ⟨p, c, e, hP⟩ := h.pin
  simp only [Value.slice.injEq] at e
  obtain ⟨rfl, _, _⟩ := e
  obtain ⟨b, o, e2, hc⟩ := hP.cells (by omega)
  simp only [Option.some.injEq, Addr.mk.injEq, and_true] at e2
  obtain ⟨rfl, rfl⟩ := e2
  rw [hc i (by simp; omega), List.getElem_zipWith]

set_option maxHeartbeats 1000000 in
theorem roomy_any (p : Option Addr) (n c : Nat) (xs : List Int) (w : World) (h : SB w p n c xs) (hbig : n ≤ 3000) :
    Calls Tryd.prog 15 #[.slice p n c] w fun e w' => ∃ g cap, e = .returned (.slice (some ⟨g, 0, none⟩) n cap) ∧ RoomAt w' w.heap.size g n cap xs ∧ Below w.heap.size w w' := by
  obtain ⟨i0, hi, hz0, hz1, hz2⟩ := info_parts info5
  have HH : Hid (SB w p n c xs) := h
  clear h
  have HN : Hid (∀ ad, p = some ad → ∀ j u, (U8 xs)[j]? = some u → (w.alloc (.cells #[] 5)).cell? (ad.add j) = some u) := by
    intro ad had
    have := (HH.out.later (below_alloc w (.cells #[] 5))).inn
    rw [had] at this
    exact this.news
  have HL : Hid ((U8 xs).length = n * 1) := by show _ = _; rw [List.length_map, HH.out.inn.len, Nat.mul_one]
  have HM : Hid ((w.alloc (.cells #[] 5)).ownsRow w.heap.size 5 1 (.slice (some ⟨w.heap.size, 0, none⟩) 0 0) 0 []) := World.ownsRow_made w #[] 0 (Nat.le_refl _) (Nat.zero_le _) rfl
  have HNn : Hid (p = none → n = 0 ∧ c = 0) := fun h => by have := HH.out.nil h; have := HH.out.le; omega
  go_enter Tryd.func15, Tryd.ntmps15
  go_wp2_with (at_builtin; refine wpList_append_ownany _ rfl (.tmp 3) (.tmp 4) 25 rfl w.heap.size 5 i0 (.int .u8 0) 1 1 Tryd.underlying25 hi hz0 hz1 hz2 rfl (by decide) _ 0 [] rfl HM.out p n c (U8 xs) rfl HNn.out HL.out HN.out (ones_u8 _) (by unfold maxLen; omega) (by omega) (by simp) ?_)
  intro v w1 hown1 hgrow1
  have HO : Hid (w1.ownsRow w.heap.size 5 1 v n (U8 xs)) := by
    have : w1.ownsRow w.heap.size 5 1 v n (U8 xs) := by simpa using hown1
    exact this
  have HB : Hid (Below w.heap.size w w1) := ((Below.refl _ w).alloc (Nat.le_refl _) _).grown hgrow1 (by simp) (by intro k hk; simp [Value.ownBlock] at hk; omega)
  clear hown1 hgrow1 HN HL HM HNn
  have HN : Hid (∀ j u, (U8 [77, 78, 79])[j]? = some u → (w1.alloc (.cells #[.int .u8 77, .int .u8 78, .int .u8 79] 5)).cell? ((⟨w1.heap.size, 0, none⟩ : Addr).add j) = some u) := (lit_in w1 [77, 78, 79] 3 rfl (bytes_of (by decide))).news
  go_wp2_with (at_builtin; refine wpList_append_lies _ rfl (.tmp 5) (.tmp 6) 25 rfl w.heap.size 5 i0 (.int .u8 0) 1 1 Tryd.underlying25 hi hz0 hz1 hz2 rfl (by omega) v n (U8 xs) rfl (HO.out.alloc _) ⟨w1.heap.size, 0, none⟩ 3 3 (U8 [77, 78, 79]) rfl rfl HN.out (ones_u8 _) (by omega) (by unfold maxLen; omega) (by omega) (by have := HB.out.size; simp; omega) _ rfl ?_)
  intro g cap w2 hown2 hgrow2 hat hlt
  have hcap : n + 3 ≤ cap := by
    rcases hown2.2 with ⟨h1, _⟩ | ⟨g', cap', cur, h1, _, _, h2, _⟩
    · cases h1
    · simp only [Value.slice.injEq] at h1
      omega
  have HO2 : Hid (w2.ownsRow w.heap.size 5 1 (.slice (some ⟨g, 0, none⟩) (n + 3) cap) (n + 3) (U8 (xs ++ [77, 78, 79]))) := by
    have e : U8 (xs ++ [77, 78, 79]) = U8 xs ++ U8 [77, 78, 79] := by simp [U8]
    rw [e]
    exact hown2
  have HB2 : Hid (Below w.heap.size w w2) := (HB.out.alloc HB.out.size _).grown hgrow2 (by have := HB.out.size; simp; omega) (fun k hk => (HO.out.lt k hk).1)
  clear hown2 hgrow2 hat hlt HO HB
  have hc1 : (n : Int) ≤ (cap : Int) := by omega
  have hc0 : ¬ cap = 0 := by omega
  go_wp2
  go_ret
  exact ⟨g, cap, rfl, ⟨HO2.out, HH.out.inn.len, HH.out.inn.byte, hcap⟩, HB2.out⟩

set_option maxHeartbeats 2000000 in
theorem whole_any (g n cap d : Nat) (q : Option Addr) (xs : List Int) (w : World) (hin : BIn w (some ⟨g, 0, none⟩) n xs) (h77 : w.cell? ⟨g, n, none⟩ = some (.int .u8 77)) (h78 : w.cell? ⟨g, n + 1, none⟩ = some (.int .u8 78)) (h79 : w.cell? ⟨g, n + 2, none⟩ = some (.int .u8 79))
    (hcap : n + 3 ≤ cap) (hbig : n ≤ 3000) (hw : BIn w q n xs) :
    Calls Tryd.prog 17 #[.slice (some ⟨g, 0, none⟩) n cap, .slice q n d] w fun e w' => e = .returned (.bool true) ∧ w = w' := by
  have hc1 : (n : Int) + 3 ≤ (cap : Int) := by omega
  have hc0 : ¬ cap = 0 := by omega
  have hc2 : (n : Int) ≤ (cap : Int) := by omega
  have z1 := hin.str cap
  have z2 := hw.str d
  clear hin hw
  go_enter Tryd.func17, Tryd.ntmps17
  go_wp2
  go_ret
  exact ⟨rfl, rfl⟩
end Go.Proofs.YtaencchobpgogaaDoor
