/-
  Contracts of layer 1, fourth part: octet.Pad, octet.Blank.
-/
import Derived.Test.YtmcpjokbkkfgfaaGreatDoorT03
import Derived.Laws.CopyOwn
import Derived.Deep.AppendLies
import Derived.Deep.QuietTactic
import Derived.BigQuiet
import Derived.Laws.BytesString
import Derived.Laws.BytesArg
import Derived.Laws.AppendOwn
import Derived.Laws.MakeOwn
import Derived.Laws.OwnMore
import Derived.Laws.AppendOwnNone
namespace Go.Proofs.YtmcpjokbkkfgfaaGreatDoor
open Go.RowKit

theorem size5 : (Tryz.prog.info? 5).map (·.size) = some 1 := by kernel_rfl

set_option maxHeartbeats 400000 in
set_option maxRecDepth 100000 in
theorem pad_input (p : Option Addr) (n c : Nat) (s : Int) (w : World) (hs : s < 0 ∨ 64 < s) :
    Calls Tryz.prog 75 #[.slice p n c, .int .i64 s] w fun e w' => e = .returned (.tuple #[.slice none 0 0, .int .i64 2]) ∧ w = w' := by
  rcases hs with hs | hs
  · go_enter Tryz.func75, Tryz.ntmps75
    go_wp2
    go_ret2
    exact ⟨rfl, rfl⟩
  · have hn : ¬ s < 0 := by omega
    go_enter Tryz.func75, Tryz.ntmps75
    go_wp2
    go_ret2
    exact ⟨rfl, rfl⟩

set_option maxHeartbeats 400000 in
set_option maxRecDepth 100000 in
theorem pad_wide (p : Option Addr) (n c : Nat) (k : Nat) (w : World) (hk : k ≤ 64) (hs : k < n) :
    Calls Tryz.prog 75 #[.slice p n c, .int .i64 k] w fun e w' => e = .returned (.tuple #[.slice none 0 0, .int .i64 10]) ∧ w = w' := by
  go_enter Tryz.func75, Tryz.ntmps75
  go_wp2
  go_ret2
  exact ⟨rfl, rfl⟩

/-- a row of n cells, all of them -/
theorem row_of_full {w : World} {base g n : Nat} {e : TypeId} {xs : List Value} (h : w.ownsRow base e 1 (.slice (some ⟨g, 0, none⟩) n n) n xs) : w.heap[g]? = some (.cells xs.toArray e (0, 0)) := by
  rcases h.2 with ⟨h', _⟩ | ⟨g', cap', cur, h', _, hg, _, _, hsz, htake⟩
  · simp at h'
  · simp only [Value.slice.injEq, Option.some.injEq, Addr.mk.injEq, and_true, true_and] at h'
    obtain ⟨rfl, rfl⟩ := h'
    rw [List.take_of_length_le (by simpa using Nat.le_of_eq hsz)] at htake
    rw [hg, ← htake]

theorem full_of_row {w : World} {base g n : Nat} {e : TypeId} {xs : List Value} (hb : base ≤ g) (hn : xs.length = n) (hm : n ≤ maxLen) (h : w.heap[g]? = some (.cells xs.toArray e (0, 0))) : w.ownsRow base e 1 (.slice (some ⟨g, 0, none⟩) n n) n xs :=
  ⟨by omega, .inr ⟨g, n, xs.toArray, rfl, hb, h, Nat.le_refl _, hm, by simpa using hn, by rw [Nat.mul_one, List.toList_toArray]; exact List.take_of_length_le (by omega)⟩⟩

theorem splice_pad (xs : List Int) (k : Nat) (_h : xs.length ≤ k) : splice (List.replicate k (Value.int .u8 0)) 0 (U8 xs) = U8 (xs ++ List.replicate (k - xs.length) 0) := by
  simp [splice, U8]

theorem ones_u8 (xs : List Int) : ∀ v ∈ U8 xs, v.oneCell' = true := by
  intro u hu; obtain ⟨x, _, rfl⟩ := List.mem_map.1 hu; rfl

theorem BIn.news {w : World} {a : Addr} {n : Nat} {xs : List Int} (h : BIn w (some a) n xs) : ∀ j u, (U8 xs)[j]? = some u → w.cell? (a.add j) = some u := by
  intro j u hj
  have hjn : j < xs.length := by
    have := (List.getElem?_eq_some_iff.1 hj).1
    simpa using this
  rw [h.at j (by have := h.len; omega), ← hj]
  simp [List.getD, List.getElem?_eq_getElem hjn]

theorem BIn.below {B : Nat} {w w' : World} {p : Option Addr} {n : Nat} {xs : List Int} (h : BIn w p n xs) (hb : Below B w w') (hp : ∀ a, p = some a → 0 < n → a.block < B) : BIn w' p n xs := by
  refine ⟨h.len, h.byte, fun h0 => ?_⟩
  obtain ⟨b, o, rfl, hc⟩ := h.cells h0
  refine ⟨b, o, rfl, fun i hi => ?_⟩
  rw [hb.cell (p := ⟨b, o + i, none⟩) (hp ⟨b, o, none⟩ rfl h0)]
  exact hc i hi

theorem BIn.lt {w : World} {a : Addr} {n : Nat} {xs : List Int} (h : BIn w (some a) n xs) (h0 : 0 < n) : a.block < w.heap.size := by
  obtain ⟨b, o, e, hc⟩ := h.cells h0
  simp only [Option.some.injEq] at e
  subst e
  exact World.block_lt_of_cell? w _ (hc 0 h0)

theorem BIn.later {w w' : World} {p : Option Addr} {n : Nat} {xs : List Int} (h : BIn w p n xs) (hb : Below w.heap.size w w') : BIn w' p n xs :=
  h.below hb (fun a e h0 => by subst e; exact h.lt h0)

set_option maxHeartbeats 1000000 in
set_option maxRecDepth 100000 in
theorem pad_ok (p : Option Addr) (n c : Nat) (xs : List Int) (k : Nat) (w : World) (hk : k ≤ 64) (hs : n ≤ k) (h : BIn w p n xs) :
    Calls Tryz.prog 75 #[.slice p n c, .int .i64 k] w fun e w' => ∃ v', e = .returned (.tuple #[v', .int .i64 0]) ∧ w'.ownsRow w.heap.size 5 1 v' k (U8 (xs ++ List.replicate (k - n) 0)) ∧ Below w.heap.size w w' := by
  obtain ⟨i0, hi, hz0, hz1, hz2⟩ := info_parts info5
  go_enter Tryz.func75, Tryz.ntmps75
  go_wp2_with (at_make; refine wpList_make_full _ rfl _ _ 51 rfl w.heap.size 5 i0 (.int .u8 0) 1 Tryz.underlying51 hi hz0 hz1 .i64 .i64 _ _ k rfl rfl rfl rfl ?b2 ?b3 ?b4 ?_)
  case b2 => rw [hz2]; omega
  case b3 => unfold maxLen; omega
  case b4 => simp
  intro w1 hown hgrow
  rw [toList_madeCells_one] at hown
  have hb := (Below.refl w.heap.size w).grown hgrow (Nat.le_refl _) (by intro k hk; cases hk)
  have hg := row_of_full hown
  have h1 := h.later hb
  have HG : Hid (_) := hg
  have HB : Hid (_) := hb
  have HH : Hid (BIn w1 p n xs) := h1
  clear hgrow hown hg hb h1
  have HN : Hid ((U8 xs).length = Nat.min n k) := by show _ = min n k; rw [Nat.min_eq_left hs]; simp [U8, HH.out.len]
  have HF : Hid (0 + (U8 xs).length ≤ (List.replicate k (Value.int .u8 0)).length) := by show _ ≤ _; simp [U8, HH.out.len]; omega
  have HP : Hid (0 < (U8 xs).length → some (⟨w.heap.size, 0, none⟩ : Addr) = some ⟨w.heap.size, 0, none⟩ ∧ ∃ ad, p = some ad ∧ ∀ j v, (U8 xs)[j]? = some v → w1.cell? (ad.add j) = some v) := by
    intro h0
    have h0' : 0 < n := by simpa [U8, HH.out.len] using h0
    obtain ⟨b, o, e, hc⟩ := HH.out.cells h0'
    refine ⟨rfl, ⟨b, o, none⟩, e, ?_⟩
    have h2 := HH.out
    rw [e] at h2
    exact h2.news
  go_wp2_with (refine wpList_copy_splice rfl (.tmp 19) (.tmp 20) 51 51 rfl 5 Tryz.underlying51 size5 (some ⟨w.heap.size, 0, none⟩) p k k n c rfl rfl w.heap.size 0 (List.replicate k (.int .u8 0)) 5 HG.out (U8 xs) HN.out HP.out HF.out (ones_u8 xs) w.heap.size w HB.out (Nat.le_refl _) ?_)
  intro w2 hg2 hb2
  go_wp2
  go_ret2
  refine ⟨_, rfl, full_of_row (Nat.le_refl _) ?_ ?_ ?_, hb2⟩
  · simp [U8, HH.out.len]; omega
  · unfold maxLen; omega
  · have := hg2.out
    rw [splice_pad xs k (by rw [HH.out.len]; exact hs), HH.out.len] at this
    exact this

theorem pad_any (p : Option Addr) (n c : Nat) (xs : List Int) (s : Int) (w : World) (h : BIn w p n xs) :
    Calls Tryz.prog 75 #[.slice p n c, .int .i64 s] w fun e w' => ∃ v', e = .returned (.tuple #[v', .int .i64 (padS xs s).2]) ∧
      w'.ownsRow w.heap.size 5 1 v' (padS xs s).1.length (U8 (padS xs s).1) ∧ Below w.heap.size w w' := by
  unfold padS
  by_cases hs : s < 0 ∨ 64 < s
  · rw [if_pos hs]
    refine (pad_input p n c s w hs).mono ?_
    rintro e w' ⟨rfl, rfl⟩
    exact ⟨_, rfl, World.ownsRow_nil _ _ _ _, Below.refl _ _⟩
  · rw [if_neg hs]
    obtain ⟨k, rfl⟩ := Int.eq_ofNat_of_zero_le (show 0 ≤ s by omega)
    rw [Int.toNat_natCast, h.len]
    by_cases hk : (k : Int) < n
    · rw [if_pos hk]
      refine (pad_wide p n c k w (by omega) (by omega)).mono ?_
      rintro e w' ⟨rfl, rfl⟩
      exact ⟨_, rfl, World.ownsRow_nil _ _ _ _, Below.refl _ _⟩
    · rw [if_neg hk]
      have e : (xs ++ List.replicate (k - n) 0).length = k := by simp [h.len]; omega
      rw [e]
      exact pad_ok p n c xs k w (by omega) (by omega) h

end Go.Proofs.YtmcpjokbkkfgfaaGreatDoor

/-
  Contracts of layer 1, fifth part: octet.Join.
-/
namespace Go.Proofs.YtmcpjokbkkfgfaaGreatDoor
open Go.RowKit

/-- a value that is a []byte of these numbers -/
def SIn (w : World) (v : Value) (xs : List Int) : Prop := ∃ p n c, v = .slice p n c ∧ BIn w p n xs ∧ n ≤ c ∧ (p = none → c = 0)

/-- how a [][]byte lies that is read -/
structure PIn (w : World) (p : Option Addr) (n : Nat) (vs : List Value) (ls : List (List Int)) : Prop where
  len : vs.length = n
  len2 : ls.length = n
  cells : 0 < n → ∃ b o, p = some ⟨b, o, none⟩ ∧ ∀ i (h : i < vs.length), w.cell? ⟨b, o + i, none⟩ = some vs[i]
  parts : ∀ i (h : i < vs.length) (h2 : i < ls.length), SIn w vs[i] ls[i]

theorem SIn.later {w w' : World} {v : Value} {xs : List Int} (h : SIn w v xs) (hb : Below w.heap.size w w') : SIn w' v xs := by
  obtain ⟨p, n, c, rfl, h1, h2, h3⟩ := h
  exact ⟨p, n, c, rfl, h1.later hb, h2, h3⟩

theorem PIn.later {w w' : World} {p : Option Addr} {n : Nat} {vs : List Value} {ls : List (List Int)} (h : PIn w p n vs ls) (hb : Below w.heap.size w w') : PIn w' p n vs ls := by
  refine ⟨h.len, h.len2, fun h0 => ?_, fun i h1 h2 => (h.parts i h1 h2).later hb⟩
  obtain ⟨b, o, rfl, hc⟩ := h.cells h0
  refine ⟨b, o, rfl, fun i hi => ?_⟩
  rw [hb.cell (p := ⟨b, o + i, none⟩) (World.block_lt_of_cell? w ⟨b, o + i, none⟩ (hc i hi))]
  exact hc i hi

set_option maxHeartbeats 1000000 in
set_option maxRecDepth 100000 in
theorem join_pos (b o n c : Nat) (vs : List Value) (ls : List (List Int)) (w : World) (h : PIn w (some ⟨b, o, none⟩) n vs ls) (h0 : 0 < n) (hbig : ls.flatten.length ≤ 140737488355328) (hn : n ≤ 140737488355328) :
    Calls Tryz.prog 78 #[.slice (some ⟨b, o, none⟩) n c] w fun e w' => ∃ v', e = .returned v' ∧ w'.ownsRow w.heap.size 5 1 v' ls.flatten.length (U8 ls.flatten) ∧ Below w.heap.size w w' := by
  obtain ⟨i0, hi, hz0, hz1, hz2⟩ := info_parts info5
  have HV : Hid (vs.length = n) := h.len
  have HL : Hid (ls.length = n) := h.len2
  go_enter Tryz.func78, Tryz.ntmps78
  go_wp2
  go_loop [3, 11] (fun t i => ∃ k : Nat, k ≤ n ∧ i = .int .i64 k ∧ t = .int .i64 (flen ls k)) (fun _ i => n - (intOf i).toNat)
  case atStart => exact ⟨0, Nat.zero_le _, rfl, rfl⟩
  case round =>
    obtain ⟨k, hk, rfl, rfl⟩ := hrel
    have hfl := flen_le ls k
    by_cases hlt : k < n
    · have hkv : k < vs.length := by rw [HV.out]; exact hlt
      have hkl : k < ls.length := by rw [HL.out]; exact hlt
      obtain ⟨b', o', e, hc0⟩ := h.cells h0
      simp only [Option.some.injEq, Addr.mk.injEq, and_true] at e
      obtain ⟨rfl, rfl⟩ := e
      have hc := hc0 k hkv
      obtain ⟨p1, n1, c1, e1, h1, h2, h3⟩ := h.parts k hkv hkl
      rw [e1] at hc
      have hfl2 := flen_le ls (k + 1)
      have hsl : flen ls (k + 1) = flen ls k + n1 := by rw [flen_step ls k hkl, h1.len]
      have hs2 : flen ls k + n1 ≤ ls.flatten.length := by omega
      have HS : Hid (_) := hsl
      clear hc0 hsl hfl2 e1 h1 h2 h3
      go_wp2
      go_round
      case rel => exact ⟨k + 1, by omega, by go_num, by rw [HS.out]; go_num⟩
      case measure => simp [intOf]; omega
    · have hall : flen ls k = ls.flatten.length := by exact flen_all ls k (by rw [HL.out]; omega)
      have HA : Hid (_) := hall
      clear hall hfl
      rw [HA.out]
      clear HA
      generalize hT : ls.flatten.length = T at *
      have HT : Hid (ls.flatten.length = T) := hT
      clear hT
      go_wp2_with (at_make; refine wpList_make_own _ rfl _ _ 51 rfl w.heap.size 5 i0 (.int .u8 0) 1 Tryz.underlying51 hi hz0 hz1 .i64 .i64 _ T rfl rfl rfl (by rw [hz2]; omega) (by unfold maxLen; omega) (Nat.le_refl _) ?_)
      intro w1 hown hgrow
      have hb := (Below.refl w.heap.size w).grown hgrow (Nat.le_refl _) (by intro k hk; cases hk)
      clear hgrow
      go_wp2
      go_loopw [6, 24] (fun v i wr => ∃ k : Nat, k ≤ n ∧ i = .int .i64 k ∧ v = .slice (some ⟨w.heap.size, 0, none⟩) (flen ls k) T ∧
          wr.ownsRow w.heap.size 5 1 (.slice (some ⟨w.heap.size, 0, none⟩) (flen ls k) T) (flen ls k) (U8 (ls.take k).flatten) ∧ Below w.heap.size w wr) (fun _ i _ => n - (intOf i).toNat)
      case atStart => exact ⟨0, Nat.zero_le _, rfl, rfl, hown, hb⟩
      case round =>
        obtain ⟨j, hj, rfl, rfl, hownr, hbr⟩ := hrel
        have hfl := flen_le ls j
        rw [HT.out] at hfl
        by_cases hlt : j < n
        · have hkv : j < vs.length := by rw [HV.out]; exact hlt
          have hkl : j < ls.length := by rw [HL.out]; exact hlt
          have h' := h.later hbr
          obtain ⟨b', o', e, hc0⟩ := h'.cells h0
          simp only [Option.some.injEq, Addr.mk.injEq, and_true] at e
          obtain ⟨rfl, rfl⟩ := e
          have hc := hc0 j hkv
          obtain ⟨p1, n1, c1, e1, h1, h2, h3⟩ := h'.parts j hkv hkl
          rw [e1] at hc
          have hfl2 := flen_le ls (j + 1)
          rw [HT.out] at hfl2
          have hst := flat_step ls j hkl
          have hsl : flen ls (j + 1) = flen ls j + n1 := by rw [flen_step ls j hkl, h1.len]
          have hs2 : flen ls j + n1 ≤ T := by omega
          have HS : Hid (_) := hsl
          have HST : Hid (_) := hst
          have HB : Hid (_) := hbr
          have HO : Hid (wr.ownsRow w.heap.size 5 1 (.slice (some ⟨w.heap.size, 0, none⟩) (flen ls j) T) (flen ls j) (U8 (ls.take j).flatten)) := hownr
          have H1 : Hid (BIn wr p1 n1 ls[j]) := h1
          have HN : Hid ((U8 ls[j]).length = n1 * 1) := by show _ = _; simp [U8, h1.len]
          have HZ : Hid (p1 = none → n1 = 0 ∧ c1 = 0) := fun e => ⟨by have := h3 e; omega, h3 e⟩
          have HC : Hid (∀ ad, p1 = some ad → ∀ j' u, (U8 ls[j])[j']? = some u → wr.cell? (ad.add j') = some u) := fun ad e => by subst e; exact h1.news
          clear hc0 hst hsl hfl2 e1 h1 h2 h3 h' hownr hbr hb hown
          go_wp2_with (at_builtin; refine wpList_append_fits_any _ rfl (.tmp 28) (.tmp 29) 51 rfl w.heap.size 5 i0 1 Tryz.underlying51 hi hz1 w.heap.size _ T _ rfl HO.out p1 n1 c1 (U8 ls[j]) rfl HN.out HZ.out HC.out (ones_u8 _) hs2 ?_)
          intro w2 hown2 hgrow2
          have R : w2.ownsRow w.heap.size 5 1 (.slice (some ⟨w.heap.size, 0, none⟩) (flen ls (j + 1)) T) (flen ls (j + 1)) (U8 (ls.take (j + 1)).flatten) := by
            rw [HS.out, HST.out]
            simpa [U8] using hown2
          have RB := HB.out.grown hgrow2 (HB.out.size) (by intro q hq; simp at hq; omega)
          have HR : Hid (_) := R
          have HRB : Hid (_) := RB
          clear R RB hown2 hgrow2
          go_wp2
          go_roundw
          case rel => exact ⟨j + 1, by omega, by go_num, by rw [HS.out], HR.out, HRB.out⟩
          case measure => simp [intOf]; omega
        · have e : (ls.take j).flatten = ls.flatten := flat_all ls j (by rw [HL.out]; omega)
          have e2 : flen ls j = T := (flen_all ls j (by rw [HL.out]; omega)).trans HT.out
          rw [e, e2] at hownr
          rw [e2]
          have HB : Hid (_) := hbr
          have HO : Hid (wr.ownsRow w.heap.size 5 1 (.slice (some ⟨w.heap.size, 0, none⟩) T T) T (U8 ls.flatten)) := hownr
          clear hownr hbr hb hown e e2
          go_wp2
          go_ret
          refine ⟨_, rfl, ?_, HB.out⟩
          rw [HT.out]
          exact HO.out

set_option maxHeartbeats 1000000 in
set_option maxRecDepth 100000 in
theorem join_zero (p : Option Addr) (c : Nat) (w : World) :
    Calls Tryz.prog 78 #[.slice p 0 c] w fun e w' => ∃ v', e = .returned v' ∧ w'.ownsRow w.heap.size 5 1 v' 0 [] ∧ Below w.heap.size w w' := by
  obtain ⟨i0, hi, hz0, hz1, hz2⟩ := info_parts info5
  go_enter Tryz.func78, Tryz.ntmps78
  go_wp2
  refine wp_loop_rounds 1 ?_
  rw [rounds_succ]
  go_wp2_with (at_make; refine wpList_make_own _ rfl _ _ 51 rfl w.heap.size 5 i0 (.int .u8 0) 1 Tryz.underlying51 hi hz0 hz1 .i64 .i64 _ 0 rfl rfl rfl (by rw [hz2]; omega) (Nat.zero_le _) (Nat.le_refl _) ?_)
  intro w1 hown hgrow
  have hb := (Below.refl w.heap.size w).grown hgrow (Nat.le_refl _) (by intro k hk; cases hk)
  go_wp2
  refine wp_loop_rounds 1 ?_
  rw [rounds_succ]
  go_wp2
  go_ret
  exact ⟨_, rfl, hown, hb⟩

theorem join_any (p : Option Addr) (n c : Nat) (vs : List Value) (ls : List (List Int)) (w : World) (h : PIn w p n vs ls) (hbig : ls.flatten.length ≤ 140737488355328) (hn : n ≤ 140737488355328) :
    Calls Tryz.prog 78 #[.slice p n c] w fun e w' => ∃ v', e = .returned v' ∧ w'.ownsRow w.heap.size 5 1 v' ls.flatten.length (U8 ls.flatten) ∧ Below w.heap.size w w' := by
  by_cases h0 : 0 < n
  · obtain ⟨b, o, rfl, hc⟩ := h.cells h0
    exact join_pos b o n c vs ls w h h0 hbig hn
  · obtain rfl : n = 0 := by omega
    obtain rfl : ls = [] := List.eq_nil_of_length_eq_zero h.len2
    exact join_zero p c w

end Go.Proofs.YtmcpjokbkkfgfaaGreatDoor

/-
  Contracts of layer 1, sixth part: octet.Fields.
-/
namespace Go.Proofs.YtmcpjokbkkfgfaaGreatDoor
open Go.RowKit

/-- how a slice of ints lies that is read -/
structure IIn (w : World) (k : IntKind) (p : Option Addr) (n : Nat) (ss : List Int) : Prop where
  len : ss.length = n
  cells : 0 < n → ∃ b o, p = some ⟨b, o, none⟩ ∧ ∀ i (h : i < ss.length), w.cell? ⟨b, o + i, none⟩ = some (.int k ss[i])

theorem IIn.later {w w' : World} {k : IntKind} {p : Option Addr} {n : Nat} {ss : List Int} (h : IIn w k p n ss) (hb : Below w.heap.size w w') : IIn w' k p n ss := by
  refine ⟨h.len, fun h0 => ?_⟩
  obtain ⟨b, o, rfl, hc⟩ := h.cells h0
  refine ⟨b, o, rfl, fun i hi => ?_⟩
  rw [hb.cell (p := ⟨b, o + i, none⟩) (World.block_lt_of_cell? w ⟨b, o + i, none⟩ (hc i hi))]
  exact hc i hi

abbrev U64 (xs : List Int) : List Value := xs.map (Value.int .u64)

set_option maxHeartbeats 1000000 in
set_option maxRecDepth 100000 in
theorem fields_input (p q : Option Addr) (n c m d : Nat) (ss : List Int) (w : World) (h : IIn w .i64 q m ss) (hm : m * 8 ≤ 140737488355328) (hbad : ∃ s ∈ ss, s < 1 ∨ 8 < s) :
    Calls Tryz.prog 95 #[.slice p n c, .slice q m d] w fun e w' => e = .returned (.tuple #[.slice none 0 0, .slice none 0 0, .int .i64 2]) ∧ w = w' := by
  have hl := h.len
  have h0 : 0 < m := by
    obtain ⟨s, hs, _⟩ := hbad
    have := List.length_pos_of_mem hs
    omega
  obtain ⟨b, o, rfl, hc0⟩ := h.cells h0
  have HL : Hid (ss.length = m) := hl
  have HB : Hid (∃ s ∈ ss, s < 1 ∨ 8 < s) := hbad
  have HC : Hid (∀ i (h : i < ss.length), w.cell? ⟨b, o + i, none⟩ = some (.int .i64 ss[i])) := hc0
  clear hl hbad hc0 h
  go_enter Tryz.func95, Tryz.ntmps95
  go_wp2
  go_loop [7, 15] (fun t i => ∃ k : Nat, k ≤ m ∧ i = .int .i64 k ∧ (∃ T : Nat, T ≤ 8 * k ∧ t = .int .i64 T) ∧ Hid (∀ j (h : j < ss.length), j < k → ¬ (ss[j] < 1 ∨ 8 < ss[j]))) (fun _ i => m - (intOf i).toNat)
  case atStart => exact ⟨0, Nat.zero_le _, rfl, ⟨0, Nat.zero_le _, rfl⟩, fun j _ hj => absurd hj (Nat.not_lt_zero _)⟩
  case round =>
    obtain ⟨k, hk, rfl, ⟨T, hT, rfl⟩, HG⟩ := hrel
    have hlt : k < m := by
      by_cases hlt : k < m
      · exact hlt
      · exfalso
        obtain ⟨s, hs, hx⟩ := HB.out
        obtain ⟨j, hj, e⟩ := List.getElem_of_mem hs
        have := HG.out j hj (by have := HL.out; omega)
        rw [e] at this
        exact this hx
    have hkl : k < ss.length := by rw [HL.out]; exact hlt
    have hc := HC.out k hkl
    by_cases hs : ss[k] < 1 ∨ 8 < ss[k]
    · have hd : decide (1 ≤ ss[k] ∧ ss[k] ≤ 8) = false := decide_eq_false (by omega)
      generalize ss[k] = s at *
      go_wp2_with (first | (go_at_call 106; refine (isSize_any _ _).mono ?_; rintro e w' ⟨rfl, rfl⟩))
      go_ret3
      exact ⟨rfl, rfl⟩
    · have hd : decide (1 ≤ ss[k] ∧ ss[k] ≤ 8) = true := decide_eq_true (by omega)
      have HG2 : Hid (∀ j (h : j < ss.length), j < k + 1 → ¬ (ss[j] < 1 ∨ 8 < ss[j])) := by
        intro j hj hjk
        by_cases e : j = k
        · subst e; exact hs
        · exact HG.out j hj (by omega)
      obtain ⟨s, hsk⟩ := Int.eq_ofNat_of_zero_le (show 0 ≤ ss[k] by omega)
      rw [hsk] at hd hs hc
      clear hsk HG
      go_wp2_with (first | (go_at_call 106; refine (isSize_any _ _).mono ?_; rintro e w' ⟨rfl, rfl⟩))
      go_round
      case rel => exact ⟨k + 1, by omega, by go_num, ⟨T + s, by omega, by go_num⟩, HG2⟩
      case measure => simp [intOf]; omega

/-- what is owned stays owned behind a call that turns nothing that was there -/
theorem own_later {w w' : World} {base : Nat} {e : TypeId} {size : Nat} {v : Value} {n : Nat} {xs : List Value} (h : w.ownsRow base e size v n xs) (hb : Below w.heap.size w w') : w'.ownsRow base e size v n xs := by
  refine ⟨h.1, ?_⟩
  rcases h.2 with hn | ⟨g, cap, cur, rfl, h1, hg, rest⟩
  · exact .inl hn
  · exact .inr ⟨g, cap, cur, rfl, h1, (hb.block g (Array.getElem?_eq_some_iff.1 hg).1).trans hg, rest⟩
theorem own_mono {w : World} {base base' : Nat} {e : TypeId} {size : Nat} {v : Value} {n : Nat} {xs : List Value} (h : w.ownsRow base e size v n xs) (hb : base' ≤ base) : w.ownsRow base' e size v n xs := by
  refine ⟨h.1, ?_⟩
  rcases h.2 with hn | ⟨g, cap, cur, rfl, h1, rest⟩
  · exact .inl hn
  · exact .inr ⟨g, cap, cur, rfl, Nat.le_trans hb h1, rest⟩

/-- the sizes, all of which may be -/
structure ZIn (w : World) (b o m : Nat) (zs : List Nat) : Prop where
  len : zs.length = m
  ok : ∀ i (h : i < zs.length), 1 ≤ zs[i] ∧ zs[i] ≤ 8
  cells : ∀ i (h : i < zs.length), w.cell? ⟨b, o + i, none⟩ = some (.int .i64 (zs[i] : Int))

theorem ZIn.bd {w : World} {b o m : Nat} {zs : List Nat} (h : ZIn w b o m zs) : zs.sum ≤ 8 * m := by
  rw [← h.len]
  refine tot_bd zs fun z hz => ?_
  obtain ⟨i, hi, rfl⟩ := List.getElem_of_mem hz
  exact (h.ok i hi).2

theorem ZIn.later {w w' : World} {b o m : Nat} {zs : List Nat} (h : ZIn w b o m zs) (hb : Below w.heap.size w w') : ZIn w' b o m zs := by
  refine ⟨h.len, h.ok, fun i hi => ?_⟩
  rw [hb.cell (p := ⟨b, o + i, none⟩) (World.block_lt_of_cell? w ⟨b, o + i, none⟩ (h.cells i hi))]
  exact h.cells i hi

set_option maxHeartbeats 1000000 in
set_option maxRecDepth 100000 in
theorem fields_short (p : Option Addr) (n c b o m d : Nat) (zs : List Nat) (w : World) (h : ZIn w b o m zs) (hm : m * 8 ≤ 140737488355328) (hs : n < zs.sum) :
    Calls Tryz.prog 95 #[.slice p n c, .slice (some ⟨b, o, none⟩) m d] w fun e w' => e = .returned (.tuple #[.slice none 0 0, .slice none 0 0, .int .i64 11]) ∧ w = w' := by
  have hbd := h.bd
  have HZ : Hid (ZIn w b o m zs) := h
  clear h
  go_enter Tryz.func95, Tryz.ntmps95
  go_wp2
  go_loop [7, 15] (fun t i => ∃ k : Nat, k ≤ m ∧ i = .int .i64 k ∧ t = .int .i64 (tot zs k)) (fun _ i => m - (intOf i).toNat)
  case atStart => exact ⟨0, Nat.zero_le _, rfl, rfl⟩
  case round =>
    obtain ⟨k, hk, rfl, rfl⟩ := hrel
    have htl := tot_le zs k
    by_cases hlt : k < m
    · have hkl : k < zs.length := by rw [HZ.out.len]; exact hlt
      have hc := HZ.out.cells k hkl
      have hok := HZ.out.ok k hkl
      have HS : Hid (_) := tot_step zs k hkl
      generalize zs[k] = s at *
      have hd : decide (1 ≤ (s : Int) ∧ (s : Int) ≤ 8) = true := decide_eq_true (by omega)
      go_wp2_with (first | (go_at_call 106; refine (isSize_any _ _).mono ?_; rintro e w' ⟨rfl, rfl⟩))
      go_round
      case rel => exact ⟨k + 1, by omega, by go_num, by rw [HS.out]; go_num⟩
      case measure => simp [intOf]; omega
    · have e : tot zs k = zs.sum := tot_all zs k (by rw [HZ.out.len]; omega)
      rw [e]
      clear e htl
      generalize zs.sum = T at *
      go_wp2
      go_ret3
      exact ⟨rfl, rfl⟩

theorem made_u64 (N : List Int) (m : Nat) (h : N.length = m) : (madeCells #[Value.int .u64 0] m).toList = U64 (filled N 0) := by
  rw [filled_zero, h, toList_madeCells_one]
  simp [U64]

set_option maxHeartbeats 2000000 in
set_option maxRecDepth 100000 in
theorem fields_pos (b o n c b2 o2 m d : Nat) (xs : List Int) (zs : List Nat) (w : World) (hx : BIn w (some ⟨b, o, none⟩) n xs) (h : ZIn w b2 o2 m zs) (hnc : n ≤ c) (hbig : n ≤ 140737488355328) (hm : m * 8 ≤ 140737488355328) (hs : zs.sum ≤ n) (h0 : 0 < m) :
    Calls Tryz.prog 95 #[.slice (some ⟨b, o, none⟩) n c, .slice (some ⟨b2, o2, none⟩) m d] w fun e w' => ∃ v1 v2, e = .returned (.tuple #[v1, v2, .int .i64 0]) ∧
      w'.ownsRow w.heap.size 24 1 v1 m (U64 (nums xs zs)) ∧ w'.ownsRow w.heap.size 5 1 v2 (n - zs.sum) (U8 (xs.drop zs.sum)) ∧ Below w.heap.size w w' := by
  have hbd := h.bd
  obtain ⟨i0, hi, hz0, hz1, hz2⟩ := info_parts info27
  have HZ : Hid (ZIn w b2 o2 m zs) := h
  have HX : Hid (BIn w (some ⟨b, o, none⟩) n xs) := hx
  have HNL : Hid ((nums xs zs).length = m) := by show _ = _; rw [nums_length, h.len]
  clear h hx
  go_enter Tryz.func95, Tryz.ntmps95
  go_wp2
  go_loop [7, 15] (fun t i => ∃ k : Nat, k ≤ m ∧ i = .int .i64 k ∧ t = .int .i64 (tot zs k)) (fun _ i => m - (intOf i).toNat)
  case atStart => exact ⟨0, Nat.zero_le _, rfl, rfl⟩
  case round =>
    obtain ⟨k, hk, rfl, rfl⟩ := hrel
    have htl := tot_le zs k
    by_cases hlt : k < m
    · have hkl : k < zs.length := by rw [HZ.out.len]; exact hlt
      have hc := HZ.out.cells k hkl
      have hok := HZ.out.ok k hkl
      have HS : Hid (_) := tot_step zs k hkl
      generalize zs[k] = s at *
      have hd : decide (1 ≤ (s : Int) ∧ (s : Int) ≤ 8) = true := decide_eq_true (by omega)
      go_wp2_with (first | (go_at_call 106; refine (isSize_any _ _).mono ?_; rintro e w' ⟨rfl, rfl⟩))
      go_round
      case rel => exact ⟨k + 1, by omega, by go_num, by rw [HS.out]; go_num⟩
      case measure => simp [intOf]; omega
    · have e : tot zs k = zs.sum := tot_all zs k (by rw [HZ.out.len]; omega)
      rw [e]
      clear e htl
      obtain ⟨T, hT⟩ : ∃ T, T = zs.sum := ⟨_, rfl⟩
      rw [← hT] at hbd hs ⊢
      have HT : Hid (T = zs.sum) := hT
      clear hT
      go_wp2_with (first | (at_make; refine wpList_make_full _ rfl _ _ 169 rfl w.heap.size 24 i0 (.int .u64 0) 1 Tryz.underlying169 hi hz0 hz1 .i64 .i64 _ _ m rfl rfl rfl rfl (by rw [hz2]; omega) (by unfold maxLen; omega) (Nat.le_refl _) ?_))
      intro w1 hown hgrow
      rw [made_u64 (nums xs zs) m HNL.out] at hown
      have hb := (Below.refl w.heap.size w).grown hgrow (Nat.le_refl _) (by intro k hk; cases hk)
      clear hgrow
      go_wp2
      go_loopw [10, 35] (fun a i wr => ∃ j : Nat, j ≤ m ∧ i = .int .i64 j ∧ a = .int .i64 (tot zs j) ∧ wr.ownsRow w.heap.size 24 1 (.slice (some ⟨w.heap.size, 0, none⟩) m m) m (U64 (filled (nums xs zs) j)) ∧ Below w.heap.size w wr) (fun _ i _ => m - (intOf i).toNat)
      case atStart => exact ⟨0, Nat.zero_le _, rfl, rfl, hown, hb⟩
      case round =>
        obtain ⟨j, hj, rfl, rfl, hownr, hbr⟩ := hrel
        by_cases hlt : j < m
        · have hkl : j < zs.length := by rw [HZ.out.len]; exact hlt
          have hnl : j < (nums xs zs).length := by rw [HNL.out]; exact hlt
          have hc := (HZ.out.later hbr).cells j hkl
          have hok := HZ.out.ok j hkl
          have hst := tot_step zs j hkl
          have hle := tot_le zs (j + 1)
          rw [← HT.out] at hle
          have hng := nums_get xs zs j hnl hkl
          have hstore := hownr.stored j (.int .u64 ((nums xs zs)[j]))
          have hcell := hownr.cellAt j (by omega)
          have hlen : (U64 (filled (nums xs zs) j)).length = m := by simp [U64, filled_length _ _ (Nat.le_of_lt hnl), HNL.out]
          obtain ⟨u, hu⟩ : ∃ u, wr.cell? ⟨w.heap.size, j, none⟩ = some u := ⟨_, by rw [hcell]; exact List.getElem?_eq_getElem (by omega)⟩
          have hfz := hownr.frozenAt j
          have hset : (U64 (filled (nums xs zs) j)).set j (.int .u64 ((nums xs zs)[j])) = U64 (filled (nums xs zs) (j + 1)) := by
            rw [← filled_step _ _ hnl]
            simp [U64, List.map_set]
          have H1 := hstore.1
          rw [hset] at H1
          have HO : Hid (_) := H1
          have HG : Hid (_) := hstore.2
          have HB : Hid (Below w.heap.size w wr) := hbr
          have HS : Hid (_) := hst
          have HN : Hid (_) := hng
          obtain ⟨A, hA⟩ : ∃ A, A = tot zs j := ⟨_, rfl⟩
          obtain ⟨s, hsz⟩ : ∃ s, s = zs[j] := ⟨_, rfl⟩
          rw [← hsz] at hok hc hst
          rw [← hA] at hst ⊢
          have hAs : A + s ≤ T := by omega
          have HBI : Hid (BIn wr (some ⟨b, o + A, none⟩) s ((xs.drop A).take s)) := ((HX.out.later hbr).drop A (by omega)).take s (by omega)
          have HA : Hid (A = tot zs j) := hA
          have HSZ : Hid (s = zs[j]) := hsz
          clear hA hsz hst hle hng hstore hcell hlen hset H1 hownr hbr hown hb
          have hcA : ¬ c = A := by omega
          have hAc : (A : Int) + s ≤ c := by omega
          go_wp2_with (first | (go_at_call 107; refine (number_any _ _ _ ((xs.drop A).take s) _ (by omega) HBI.out).mono ?_; rintro e w' ⟨rfl, rfl⟩))
          have e : worth ((xs.drop A).take s) = (nums xs zs)[j] := by rw [HN.out, ← HSZ.out, ← HA.out]
          have HE : Hid (_) := e
          clear e
          go_roundw
          case rel =>
            rw [HE.out]
            exact ⟨j + 1, by omega, by go_num, by rw [HS.out, ← HSZ.out, ← HA.out]; go_num, HO.out, HB.out.grown HG.out HB.out.size (by intro q hq; simp at hq; omega)⟩
          case measure => simp [intOf]; omega
        · have e : tot zs j = T := (tot_all zs j (by rw [HZ.out.len]; omega)).trans HT.out.symm
          rw [e]
          rw [filled_all _ _ (by rw [HNL.out]; omega)] at hownr
          have HO : Hid (_) := hownr
          have HB : Hid (Below w.heap.size w wr) := hbr
          have HXr : Hid (BIn wr (some ⟨b, o, none⟩) n xs) := HX.out.later hbr
          clear e hownr hbr hown hb
          by_cases hcT : c = T
          · obtain rfl : T = n := by omega
            obtain rfl : T = c := hcT.symm
            have hd0 : xs.drop T = [] := List.drop_eq_nil_of_le (by rw [HXr.out.len]; omega)
            have HD0 : Hid (_) := hd0
            clear hd0
            go_wp2_with (first | (go_at_call 68; refine (clone_any _ _ _ [] _ BIn.empty (by omega)).mono ?_; rintro e w' ⟨v, rfl, hown2, hbel2⟩))
            go_ret3
            have hsz := HB.out.size
            refine ⟨_, v, rfl, ?_, ?_, HB.out.trans (hbel2.mono HB.out.size)⟩
            · exact own_later (show wr.ownsRow _ _ _ _ _ _ from HO.out) hbel2
            · rw [← HT.out, HD0.out, Nat.sub_self]
              exact own_mono hown2 hsz
          · have HBI : Hid (BIn wr (some ⟨b, o + T, none⟩) (n - T) (xs.drop T)) := HXr.out.drop T (by omega)
            go_wp2_with (first | (go_at_call 68; refine (clone_any _ _ _ (xs.drop T) _ HBI.out (by omega)).mono ?_; rintro e w' ⟨v, rfl, hown2, hbel2⟩))
            go_ret3
            have hsz := HB.out.size
            refine ⟨_, v, rfl, ?_, ?_, HB.out.trans (hbel2.mono HB.out.size)⟩
            · exact own_later (show wr.ownsRow _ _ _ _ _ _ from HO.out) hbel2
            · rw [← HT.out]
              exact own_mono hown2 hsz

set_option maxHeartbeats 1000000 in
set_option maxRecDepth 100000 in
theorem fields_none_end (p q : Option Addr) (d : Nat) (w : World) :
    Calls Tryz.prog 95 #[.slice p 0 0, .slice q 0 d] w fun e w' => ∃ v1 v2, e = .returned (.tuple #[v1, v2, .int .i64 0]) ∧
      w'.ownsRow w.heap.size 24 1 v1 0 [] ∧ w'.ownsRow w.heap.size 5 1 v2 0 [] ∧ Below w.heap.size w w' := by
  obtain ⟨i0, hi, hz0, hz1, hz2⟩ := info_parts info27
  go_enter Tryz.func95, Tryz.ntmps95
  go_wp2
  refine wp_loop_rounds 1 ?_
  rw [rounds_succ]
  go_wp2_with (first | (at_make; refine wpList_make_full _ rfl _ _ 169 rfl w.heap.size 24 i0 (.int .u64 0) 1 Tryz.underlying169 hi hz0 hz1 .i64 .i64 _ _ 0 rfl rfl rfl rfl (by rw [hz2]; omega) (Nat.zero_le _) (Nat.le_refl _) ?_))
  intro w1 hown hgrow
  have hb := (Below.refl w.heap.size w).grown hgrow (Nat.le_refl _) (by intro k hk; cases hk)
  rw [toList_madeCells_one] at hown
  have HO : Hid (w1.ownsRow w.heap.size 24 1 (.slice (some ⟨w.heap.size, 0, none⟩) 0 0) 0 []) := hown
  have HB : Hid (_) := hb
  clear hown hb hgrow
  go_wp2
  refine wp_loop_rounds 1 ?_
  rw [rounds_succ]
  go_wp2_with (first | (go_at_call 68; refine (clone_any _ _ _ [] _ BIn.empty (by omega)).mono ?_; rintro e w' ⟨v, rfl, hown2, hbel2⟩))
  go_ret3
  refine ⟨_, v, rfl, own_later (show w1.ownsRow _ _ _ _ _ _ from HO.out) hbel2, own_mono hown2 HB.out.size, HB.out.trans (hbel2.mono HB.out.size)⟩

set_option maxHeartbeats 1000000 in
set_option maxRecDepth 100000 in
theorem fields_none_more (a : Addr) (q : Option Addr) (n c d : Nat) (xs : List Int) (w : World) (hx : BIn w (some a) n xs) (hbig : n ≤ 140737488355328) (hc : ¬ c = 0) :
    Calls Tryz.prog 95 #[.slice (some a) n c, .slice q 0 d] w fun e w' => ∃ v1 v2, e = .returned (.tuple #[v1, v2, .int .i64 0]) ∧
      w'.ownsRow w.heap.size 24 1 v1 0 [] ∧ w'.ownsRow w.heap.size 5 1 v2 n (U8 xs) ∧ Below w.heap.size w w' := by
  obtain ⟨i0, hi, hz0, hz1, hz2⟩ := info_parts info27
  have HX : Hid (BIn w (some a) n xs) := hx
  clear hx
  go_enter Tryz.func95, Tryz.ntmps95
  go_wp2
  refine wp_loop_rounds 1 ?_
  rw [rounds_succ]
  go_wp2_with (first | (at_make; refine wpList_make_full _ rfl _ _ 169 rfl w.heap.size 24 i0 (.int .u64 0) 1 Tryz.underlying169 hi hz0 hz1 .i64 .i64 _ _ 0 rfl rfl rfl rfl (by rw [hz2]; omega) (Nat.zero_le _) (Nat.le_refl _) ?_))
  intro w1 hown hgrow
  have hb := (Below.refl w.heap.size w).grown hgrow (Nat.le_refl _) (by intro k hk; cases hk)
  rw [toList_madeCells_one] at hown
  have HO : Hid (w1.ownsRow w.heap.size 24 1 (.slice (some ⟨w.heap.size, 0, none⟩) 0 0) 0 []) := hown
  have HB : Hid (_) := hb
  have HX1 : Hid (BIn w1 (some a) n xs) := HX.out.later hb
  clear hown hb hgrow
  go_wp2
  refine wp_loop_rounds 1 ?_
  rw [rounds_succ]
  go_wp2_with (first | (go_at_call 68; refine (clone_any _ _ _ xs _ ?_ (by omega)).mono ?_; (exact HX1.out); rintro e w' ⟨v, rfl, hown2, hbel2⟩))
  go_ret3
  refine ⟨_, v, rfl, own_later (show w1.ownsRow _ _ _ _ _ _ from HO.out) hbel2, own_mono hown2 HB.out.size, HB.out.trans (hbel2.mono HB.out.size)⟩

theorem fields_any (p q : Option Addr) (n c m d : Nat) (xs ss : List Int) (w : World) (hx : BIn w p n xs) (hi : IIn w .i64 q m ss) (hnc : n ≤ c) (hpc : p = none → c = 0) (hbig : n ≤ 140737488355328) (hm : m * 8 ≤ 140737488355328) :
    Calls Tryz.prog 95 #[.slice p n c, .slice q m d] w fun e w' => ∃ v1 v2, e = .returned (.tuple #[v1, v2, .int .i64 (fieldsS xs ss).2.2]) ∧
      w'.ownsRow w.heap.size 24 1 v1 (fieldsS xs ss).1.length (U64 (fieldsS xs ss).1) ∧ w'.ownsRow w.heap.size 5 1 v2 (fieldsS xs ss).2.1.length (U8 (fieldsS xs ss).2.1) ∧ Below w.heap.size w w' := by
  unfold fieldsS
  by_cases hbad : ∃ s ∈ ss, s < 1 ∨ 8 < s
  · rw [if_pos hbad]
    refine (fields_input p q n c m d ss w hi hm hbad).mono ?_
    rintro e w' ⟨rfl, rfl⟩
    exact ⟨_, _, rfl, World.ownsRow_nil _ _ _ _, World.ownsRow_nil _ _ _ _, Below.refl _ _⟩
  · rw [if_neg hbad]
    have hgood : ∀ s ∈ ss, ¬ (s < 1 ∨ 8 < s) := fun s hs hx => hbad ⟨s, hs, hx⟩
    have hz := toNats ss hgood
    obtain ⟨zs, hzs⟩ : ∃ zs, zs = ss.map Int.toNat := ⟨_, rfl⟩
    rw [← hzs] at hz ⊢
    have hlz : zs.length = m := by rw [hzs, List.length_map, hi.len]
    have hget : ∀ i (h : i < zs.length) (h2 : i < ss.length), ss[i] = (zs[i] : Int) := by
      intro i h h2
      have : ss[i] = (zs.map (fun z : Nat => (z : Int)))[i]'(by simpa using h) := by simp only [hz]
      rw [this, List.getElem_map]
    by_cases h0 : 0 < m
    · obtain ⟨b2, o2, rfl, hc⟩ := hi.cells h0
      have hZ : ZIn w b2 o2 m zs := by
        refine ⟨hlz, fun i h => ?_, fun i h => ?_⟩
        · have h2 : i < ss.length := by rw [hi.len, ← hlz]; exact h
          have e := hget i h h2
          have := hgood ss[i] (List.getElem_mem h2)
          omega
        · have h2 : i < ss.length := by rw [hi.len, ← hlz]; exact h
          rw [hc i h2, hget i h h2]
      by_cases hs : xs.length < zs.sum
      · rw [if_pos hs]
        refine (fields_short p n c b2 o2 m d zs w hZ hm (by rw [← hx.len]; exact hs)).mono ?_
        rintro e w' ⟨rfl, rfl⟩
        exact ⟨_, _, rfl, World.ownsRow_nil _ _ _ _, World.ownsRow_nil _ _ _ _, Below.refl _ _⟩
      · rw [if_neg hs]
        have hs' : zs.sum ≤ n := by rw [← hx.len]; omega
        have h1 : 1 ≤ zs.sum := by
          have := hZ.ok 0 (by omega)
          have := tot_step zs 0 (by omega)
          have h3 := tot_le zs (0 + 1)
          rw [tot_zero] at *
          omega
        obtain ⟨b, o, rfl, _⟩ := hx.cells (by omega)
        simp only [nums_length, List.length_drop, hlz, hx.len]
        exact fields_pos b o n c b2 o2 m d xs zs w hx hZ hnc hbig hm hs' h0
    · obtain rfl : m = 0 := by omega
      obtain rfl : zs = [] := List.eq_nil_of_length_eq_zero hlz
      simp only [List.sum_nil, Nat.not_lt_zero, if_false, List.drop_zero, nums, List.length_nil, hx.len]
      by_cases hc : c = 0
      · subst hc
        obtain rfl : n = 0 := by omega
        obtain rfl : xs = [] := List.eq_nil_of_length_eq_zero hx.len
        exact fields_none_end p q d w
      · cases p with
        | none => exact absurd (hpc rfl) hc
        | some a => exact fields_none_more a q n c d xs w hx hbig hc

end Go.Proofs.YtmcpjokbkkfgfaaGreatDoor

/-
  Byte slices beside the calls: strings of them, rows that a call owns, literals.
-/
namespace Go.Proofs.YtmcpjokbkkfgfaaGreatDoor
open Go.RowKit

/-- string(b) of a []byte that lies so -/
theorem BIn.str {w : World} {p : Option Addr} {n : Nat} {xs : List Int} (h : BIn w p n xs) (c : Nat) :
    (convert 51 9 (.slice p n c)).run Tryz.prog w = .ok (.string (strOfNums xs)) w := by
  by_cases h0 : 0 < n
  · obtain ⟨b, o, rfl, hc⟩ := h.cells h0
    exact run_convert_bytes_arg w 51 5 Tryz.underlying51 Tryz.underlying5 b o n c xs h.len hc 9 Tryz.underlying9
  · obtain rfl : n = 0 := by omega
    obtain rfl : xs = [] := List.eq_nil_of_length_eq_zero h.len
    rw [run_convert_bytes_string w 51 9 5 _ 0 c Tryz.underlying51 Tryz.underlying5 Tryz.underlying9]
    cases p <;> simp [Conv.bytesToString, loadCells]
    all_goals rfl
/-- what is owned is read -/
theorem own_in {w : World} {base : Nat} {v : Value} {n : Nat} {xs : List Int} (h : w.ownsRow base 5 1 v n (U8 xs)) (hb : Bytes xs) : ∃ p c, v = .slice p n c ∧ BIn w p n xs ∧ n ≤ c ∧ (p = none → c = 0) ∧ c ≤ maxLen := by
  have hl : xs.length = n := by have := h.1; simpa [U8] using this
  rcases h.2 with ⟨rfl, rfl⟩ | ⟨g, cap, cur, rfl, h1, hg, hnc, hcm, hsz, htake⟩
  · exact ⟨none, 0, rfl, ⟨hl, hb, fun h0 => absurd h0 (Nat.lt_irrefl 0)⟩, Nat.le_refl _, fun _ => rfl, Nat.zero_le _⟩
  · refine ⟨_, cap, rfl, ⟨hl, hb, fun h0 => ⟨g, 0, rfl, fun i hi => ?_⟩⟩, hnc, (fun e => by cases e), hcm⟩
    have := h.cellAt i (by omega)
    rw [Nat.zero_add, this]
    simp [U8, List.getD, List.getElem?_eq_getElem (show i < xs.length by omega)]
theorem own_in64 {w : World} {base : Nat} {v : Value} {n : Nat} {xs : List Int} (h : w.ownsRow base 24 1 v n (U64 xs)) : ∃ p c, v = .slice p n c ∧ IIn w .u64 p n xs ∧ n ≤ c := by
  have hl : xs.length = n := by have := h.1; simpa [U64] using this
  rcases h.2 with ⟨rfl, rfl⟩ | ⟨g, cap, cur, rfl, h1, hg, hnc, hcm, hsz, htake⟩
  · exact ⟨none, 0, rfl, ⟨hl, fun h0 => absurd h0 (Nat.lt_irrefl 0)⟩, Nat.le_refl _⟩
  · refine ⟨_, cap, rfl, ⟨hl, fun h0 => ⟨g, 0, rfl, fun i hi => ?_⟩⟩, hnc⟩
    have := h.cellAt i (by omega)
    rw [Nat.zero_add, this]
    simp [U64, List.getElem?_eq_getElem (show i < xs.length by omega)]
theorem str_list (xs : List Int) : (strOfNums xs).toList = xs.map fun n => UInt8.ofNat n.toNat := by rw [ByteArray.toList_eq]; rfl
theorem bytes_of {xs : List Int} (h : xs.all (fun x => decide (0 ≤ x ∧ x < 256)) = true) : Bytes xs := by
  intro x hx
  have := List.all_eq_true.1 h x hx
  simpa using this
/-- a literal's block -/
theorem lit_in (w : World) (xs : List Int) (n : Nat) (hl : xs.length = n) (hb : Bytes xs) : BIn (w.alloc (.cells (U8 xs).toArray 5)) (some ⟨w.heap.size, 0, none⟩) n xs := by
  refine ⟨hl, hb, fun h0 => ⟨_, 0, rfl, fun i hi => ?_⟩⟩
  rw [Nat.zero_add, cell_of_row _ w.heap.size i (U8 xs).toArray 5 (0, 0) (heap_alloc_new w _)]
  simp [U8, List.getD, List.getElem?_eq_getElem (show i < xs.length by omega)]
theorem lit_in64 (w : World) (k : IntKind) (t : TypeId) (xs : List Int) (n : Nat) (hl : xs.length = n) : IIn (w.alloc (.cells (xs.map (Value.int k)).toArray t)) k (some ⟨w.heap.size, 0, none⟩) n xs := by
  refine ⟨hl, fun h0 => ⟨_, 0, rfl, fun i hi => ?_⟩⟩
  rw [Nat.zero_add, cell_of_row _ w.heap.size i (xs.map (Value.int k)).toArray t (0, 0) (heap_alloc_new w _)]
  simp [List.getElem?_eq_getElem hi]
theorem BIn.drewN {w : World} {p : Option Addr} {n : Nat} {xs : List Int} (h : BIn w p n xs) (j : Nat) : BIn (w.drewN j) p n xs := ⟨h.len, h.byte, h.cells⟩
theorem below_alloc (w : World) (o : Obj) : Below w.heap.size w (w.alloc o) := (Below.refl _ _).alloc (Nat.le_refl _) o
theorem below_of_alloc {w w' : World} {o : Obj} (h : Below (w.alloc o).heap.size (w.alloc o) w') : Below w.heap.size w w' := (below_alloc w o).trans (h.mono (by simp))
/-- one call behind another -/
theorem below_then {a b c : World} (h : Below a.heap.size a b) (k : Below b.heap.size b c) : Below a.heap.size a c := h.trans (k.mono h.size)
theorem str_inj {xs ys : List Int} (hx : Bytes xs) (hy : Bytes ys) (h : (strOfNums xs).toList = (strOfNums ys).toList) : xs = ys := by
  rw [str_list, str_list] at h
  have hl : xs.length = ys.length := by have := congrArg List.length h; simpa using this
  apply List.ext_getElem hl
  intro i h1 h2
  have e := congrArg (fun l : List UInt8 => l[i]?) h
  simp only [List.getElem?_map, List.getElem?_eq_getElem h1, List.getElem?_eq_getElem h2, Option.map_some, Option.some.injEq] at e
  have e2 := congrArg UInt8.toNat e
  have b1 := hx.at i h1
  have b2 := hy.at i h2
  simp only [UInt8.toNat_ofNat'] at e2
  omega
theorem str_eq (xs ys : List Int) (hx : Bytes xs) (hy : Bytes ys) : ((strOfNums xs).toList == (strOfNums ys).toList) = decide (xs = ys) := by
  by_cases e : xs = ys
  · subst e; simp
  · rw [decide_eq_false e, beq_eq_false_iff_ne]
    exact fun h => e (str_inj hx hy h)
theorem below_drawn {B : Nat} {w : World} (nq : Nat) : Below B w (w.drewN nq) := ⟨rfl, rfl, rfl, Nat.le_refl _, fun _ _ => rfl⟩
/-- how long a slice is -/
def lenOf : Value → Nat | .slice _ n _ => n | _ => 0
/-- 'append(out, x...)', out the call's own, x whatever: nil too -/
theorem wpList_append_ownany {P : Program} (w : World) {ops : Array Oper} {rest : List Oper} {o : Oper} {a : Act} {Q : Exit → Act → World → Prop} (hgd : o.guard = none) (s x : Operand) (t : TypeId)
    (ho : o.op = .call { callee := .builtin .append, args := #[s, x], argTypes := #[t, t] })
    (base : Nat) (e : TypeId) (i : TypeInfo) (z : Value) (size bytes : Nat) (ht : P.underlying t = some (.slice e)) (hi : P.info? e = some i) (hz : i.zero = some z)
    (hsize : i.size = size) (hby : i.bytes = bytes) (hzs : z.cells.size = size) (hsz : 0 < size)
    (v : Value) (n : Nat) (xs : List Value) (hs : a.eval s = v) (hown : w.ownsRow base e size v n xs)
    (ao : Option Addr) (m c : Nat) (news : List Value) (hx : a.eval x = .slice ao m c) (hnone : ao = none → m = 0 ∧ c = 0) (hl : news.length = m * size) (hnews : ∀ ad, ao = some ad → ∀ j u, news[j]? = some u → w.cell? (ad.add j) = some u) (h1 : ∀ u ∈ news, u.oneCell' = true)
    (h63 : n + m ≤ maxLen) (hbytes : (n + m) * bytes ≤ 140737488355328) (hbase : base ≤ w.heap.size)
    (h : ∀ v' w', w'.ownsRow base e size v' (n + m) (xs ++ news) → w.grownBy w' v.ownBlock → wpList P ops Q rest (a.put o.dst v') w') : wpList P ops Q (o :: rest) a w := by
  cases ao with
  | some ad => exact wpList_append_own w hgd s x t ho base e i z size bytes ht hi hz hsize hby hzs hsz v n xs hs hown ad m c news hx hl (hnews ad rfl) h1 h63 hbytes hbase fun v' w' a b _ => h v' w' a b
  | none =>
    obtain ⟨rfl, rfl⟩ := hnone rfl
    obtain rfl : news = [] := List.eq_nil_of_length_eq_zero (by simpa using hl)
    exact wpList_append_own_none hgd s x t ho base e i size ht hi v n xs hs hown hx (h v w (by simpa using hown) (World.grownBy.refl _ _))
end Go.Proofs.YtmcpjokbkkfgfaaGreatDoor
