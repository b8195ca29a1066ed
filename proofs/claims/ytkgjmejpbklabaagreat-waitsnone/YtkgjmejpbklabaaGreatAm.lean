/-
  Layer 13: lines, as plain mathematics.
-/
import Derived.Test.YtkgjmejpbklabaaGreatN1
namespace Go.Proofs.YtkgjmejpbklabaaGreat.M

/-- a line: its configuration, the next ticket, the greatest that was let in, those that wait, those that are in (ticket, form, what is left), what is used -/
structure Ad where
  bl : Int
  lc : Int
  mr : Int
  hi : Int
  cl : Int
  next : Int
  got : Int
  W : List (Int × List Int)
  I : List (Int × List Int × Int)
  used : Int
abbrev mayC (bl lc mr hi cl : Int) : Prop := 1 ≤ bl ∧ bl ≤ 64 ∧ 2 ≤ lc ∧ lc ≤ 64 ∧ 1 ≤ mr ∧ mr ≤ 16 ∧ mr ≤ bl ∧ mr ≤ lc - 1 ∧ 1 ≤ hi ∧ hi ≤ lc ∧ 1 ≤ cl ∧ cl ≤ 8
def newA (bl lc mr hi cl : Int) : Ad := ⟨bl, lc, mr, hi, cl, 1, 0, [], [], 0⟩
def lefts (I : List (Int × List Int × Int)) : List (Int × Int) := I.map fun x => (x.1, x.2.2)
def wt (W : List (Int × List Int)) : List Int := W.map Prod.fst
def it (I : List (Int × List Int × Int)) : List Int := I.map Prod.fst
def Ad.rsv (a : Ad) : Int := L.total (lefts a.I)
def Ad.lg (a : Ad) : L.Lg := ⟨a.lc, a.hi, a.used, lefts a.I⟩
/-- who is in, by its ticket -/
def fi (t : Int) : List (Int × List Int × Int) → Option (List Int × Int)
  | [] => none
  | x :: xs => if x.1 = t then some x.2 else fi t xs
def cutI (t : Int) : List (Int × List Int × Int) → List (Int × List Int × Int)
  | [] => []
  | x :: xs => if x.1 = t then xs else x :: cutI t xs
def decI (t : Int) : List (Int × List Int × Int) → List (Int × List Int × Int)
  | [] => []
  | x :: xs => if x.1 = t then (x.1, x.2.1, x.2.2 - 1) :: xs else x :: decI t xs
theorem look_lefts (t : Int) : ∀ I, L.look t (lefts I) = (fi t I).map Prod.snd
  | [] => rfl
  | x :: xs => by
    by_cases e : x.1 = t
    · simp [lefts, L.look, fi, e]
    · have := look_lefts t xs
      simp only [lefts] at this
      simp [lefts, L.look, fi, e, this]
theorem lefts_cut (t : Int) : ∀ I, lefts (cutI t I) = L.cut t (lefts I)
  | [] => rfl
  | x :: xs => by
    by_cases e : x.1 = t
    · simp [lefts, L.cut, cutI, e]
    · have := lefts_cut t xs
      simp only [lefts] at this
      simp [lefts, L.cut, cutI, e, this]
theorem lefts_dec {t : Int} : ∀ {I : List (Int × List Int × Int)} {f : List Int} {n : Int}, fi t I = some (f, n) → lefts (decI t I) = L.set t (n - 1) (lefts I)
  | [], _, _, h => by simp [fi] at h
  | x :: xs, f, n, h => by
    by_cases e : x.1 = t
    · simp only [fi, if_pos e, Option.some.injEq] at h
      simp [lefts, L.set, decI, e, h]
    · simp only [fi, if_neg e] at h
      have := lefts_dec h
      simp only [lefts] at this
      simp [lefts, L.set, decI, e, this]
theorem lefts_app (I : List (Int × List Int × Int)) (t : Int) (f : List Int) (n : Int) : lefts (I ++ [(t, f, n)]) = lefts I ++ [(t, n)] := by simp [lefts]
theorem lefts_fst (I : List (Int × List Int × Int)) : (lefts I).map Prod.fst = it I := by simp [lefts, it]
theorem it_cut (t : Int) : ∀ I, it (cutI t I) = (it I).erase t
  | [] => rfl
  | x :: xs => by
    by_cases e : x.1 = t
    · simp [it, cutI, e]
    · have := it_cut t xs
      simp only [it] at this
      have e' : ¬ (x.1 == t) = true := by simp [e]
      simp [it, cutI, e, this]
theorem it_dec (t : Int) : ∀ I, it (decI t I) = it I
  | [] => rfl
  | x :: xs => by
    by_cases e : x.1 = t
    · simp [it, decI, e]
    · have := it_dec t xs
      simp only [it] at this
      simp [it, decI, e, this]
theorem it_app (I : List (Int × List Int × Int)) (x : Int × List Int × Int) : it (I ++ [x]) = it I ++ [x.1] := by simp [it]
theorem cutI_sub (t : Int) : ∀ I, (cutI t I).Sublist I
  | [] => List.Sublist.refl _
  | x :: xs => by
    by_cases e : x.1 = t
    · simp only [cutI, if_pos e]; exact List.sublist_cons_self x xs
    · simp only [cutI, if_neg e]; exact (cutI_sub t xs).cons_cons x
theorem decI_mem {t : Int} : ∀ {I : List (Int × List Int × Int)} {y}, y ∈ decI t I → y ∈ I ∨ ∃ f n, (t, f, n) ∈ I ∧ fi t I = some (f, n) ∧ y = (t, f, n - 1)
  | [], y, h => by simp [decI] at h
  | x :: xs, y, h => by
    by_cases e : x.1 = t
    · simp only [decI, if_pos e, List.mem_cons] at h
      rcases h with rfl | h
      · exact .inr ⟨x.2.1, x.2.2, by rw [← e]; exact List.mem_cons_self .., by simp [fi, e], by rw [e]⟩
      · exact .inl (List.mem_cons_of_mem _ h)
    · simp only [decI, if_neg e, List.mem_cons] at h
      rcases h with rfl | h
      · exact .inl (List.mem_cons_self ..)
      · rcases decI_mem h with h | ⟨f, n, h1, h2, h3⟩
        · exact .inl (List.mem_cons_of_mem _ h)
        · exact .inr ⟨f, n, List.mem_cons_of_mem _ h1, by simpa [fi, e] using h2, h3⟩
theorem fi_mem {t : Int} {f : List Int} {n : Int} : ∀ {I : List (Int × List Int × Int)}, fi t I = some (f, n) → (t, f, n) ∈ I
  | [], h => by simp [fi] at h
  | x :: xs, h => by
    by_cases e : x.1 = t
    · simp only [fi, if_pos e, Option.some.injEq] at h
      have : x = (t, f, n) := by rw [← e, ← h]
      rw [this]; exact List.mem_cons_self ..
    · simp only [fi, if_neg e] at h
      exact List.mem_cons_of_mem _ (fi_mem h)
theorem fi_none {t : Int} : ∀ {I : List (Int × List Int × Int)}, fi t I = none ↔ t ∉ it I
  | [] => by simp [fi, it]
  | x :: xs => by
    by_cases e : x.1 = t
    · simp [fi, it, e]
    · have := fi_none (t := t) (I := xs)
      simp only [it] at this
      simp [fi, it, e, this]
      exact fun _ h => e h.symm

/-- what always holds of a line -/
structure Ad.Ok (a : Ad) : Prop where
  may : mayC a.bl a.lc a.mr a.hi a.cl
  got0 : 0 ≤ a.got
  gotN : a.got < a.next
  wrise : (wt a.W).Pairwise (· < ·)
  win : ∀ x ∈ a.W, a.got < x.1 ∧ x.1 < a.next
  wform : ∀ x ∈ a.W, 1 ≤ x.2.length ∧ (x.2.length : Int) ≤ a.mr
  irise : (it a.I).Pairwise (· < ·)
  iin : ∀ x ∈ a.I, 1 ≤ x.1 ∧ x.1 ≤ a.got
  iform : ∀ x ∈ a.I, 1 ≤ x.2.1.length ∧ (x.2.1.length : Int) ≤ a.mr ∧ 1 ≤ x.2.2 ∧ x.2.2 ≤ (x.2.1.length : Int) + 1
  used0 : 0 ≤ a.used
  room : a.used + a.rsv ≤ a.lc
theorem Ad.Ok.new {bl lc mr hi cl : Int} (h : mayC bl lc mr hi cl) : (newA bl lc mr hi cl).Ok :=
  ⟨h, Int.le_refl _, by simp [newA], List.Pairwise.nil, fun _ h => absurd h List.not_mem_nil, fun _ h => absurd h List.not_mem_nil, List.Pairwise.nil, fun _ h => absurd h List.not_mem_nil, fun _ h => absurd h List.not_mem_nil, Int.le_refl _, by have := h.2.2.1; show (0 : Int) + 0 ≤ lc; omega⟩
theorem rise_length : ∀ {xs : List Int} {lo hi : Int}, xs.Pairwise (· < ·) → (∀ x ∈ xs, lo < x ∧ x < hi) → lo ≤ hi → (xs.length : Int) ≤ hi - lo
  | [], lo, hi, _, _, h => by simp; omega
  | x :: xs, lo, hi, hp, hm, h => by
    have h1 := hm x (List.mem_cons_self ..)
    have h2 := List.pairwise_cons.1 hp
    have := rise_length (lo := x) (hi := hi) h2.2 (fun y hy => ⟨h2.1 y hy, (hm y (List.mem_cons_of_mem _ hy)).2⟩) (by omega)
    simp only [List.length_cons]
    omega
theorem Ad.Ok.wlen {a : Ad} (h : a.Ok) : (a.W.length : Int) ≤ a.next := by
  have := rise_length h.wrise (lo := a.got) (hi := a.next) (fun x hx => by obtain ⟨y, hy, rfl⟩ := List.mem_map.1 hx; exact h.win y hy) (by have := h.gotN; omega)
  have h0 := h.got0
  simp only [wt, List.length_map] at this
  omega
theorem Ad.Ok.ilen {a : Ad} (h : a.Ok) : (a.I.length : Int) ≤ a.next := by
  have := rise_length h.irise (lo := 0) (hi := a.got + 1) (fun x hx => by obtain ⟨y, hy, rfl⟩ := List.mem_map.1 hx; have := h.iin y hy; exact ⟨by omega, by omega⟩) (by have := h.got0; omega)
  have h0 := h.gotN
  simp only [it, List.length_map] at this
  omega
theorem Ad.Ok.fine {a : Ad} (h : a.Ok) : L.Fine (lefts a.I) := by
  refine ⟨fun x hx => ?_, ?_⟩
  · obtain ⟨y, hy, rfl⟩ := List.mem_map.1 hx
    have := h.iform y hy
    show 0 ≤ y.2.2
    omega
  · rw [lefts_fst]; exact nd_of h.irise
theorem Ad.Ok.lok {a : Ad} (h : a.Ok) : L.Ok a.lg := ⟨h.may.2.2.1, h.may.2.2.2.1, h.used0, h.room, h.fine⟩
theorem Ad.Ok.rsv0 {a : Ad} (h : a.Ok) : 0 ≤ a.rsv := L.total_nonneg h.fine

def Ad.fT (a : Ad) : Int := match a.W with | [] => 0 | x :: _ => x.1
def Ad.fF (a : Ad) : List Int := match a.W with | [] => [] | x :: _ => x.2
def Ad.isW (a : Ad) : Bool := match a.W with | [] => false | _ :: _ => true
def Ad.fits (a : Ad) : Bool := match a.W with | [] => false | x :: _ => decide (a.used + a.rsv + x.2.length + 1 ≤ a.lc)
/-- Begin -/
def Ad.begE (a : Ad) (xs : List Int) : Int := (B.formS xs a.bl a.mr).2
def Ad.begF (a : Ad) (xs : List Int) : List Int := (B.formS xs a.bl a.mr).1
def Ad.begT (a : Ad) (xs : List Int) : Int := if a.begE xs = 0 then a.next else 0
def Ad.begS (a : Ad) (xs : List Int) : Ad := if a.begE xs = 0 then { a with next := a.next + 1, W := a.W ++ [(a.next, a.begF xs)] } else a
/-- Enter -/
def Ad.entE (a : Ad) : Int := match a.W with | [] => 110 | _ :: _ => if a.fits then 0 else 120
def Ad.entT (a : Ad) : Int := if a.entE = 0 then a.fT else 0
def Ad.entF (a : Ad) : List Int := if a.entE = 0 then a.fF else []
def Ad.entS (a : Ad) : Ad := if a.entE = 0 then { a with W := a.W.tail, I := a.I ++ [(a.fT, a.fF, (a.fF.length : Int) + 1)], got := a.fT } else a
/-- Append, Done, Leave, Freed -/
def Ad.appE (a : Ad) (t : Int) : Int := match fi t a.I with | none => 110 | some x => if x.2 = 1 then 120 else 0
def Ad.appS (a : Ad) (t : Int) : Ad := if a.appE t = 0 then { a with used := a.used + 1, I := decI t a.I } else a
def Ad.donE (a : Ad) (t : Int) : Int := match fi t a.I with | none => 110 | some _ => 0
def Ad.donS (a : Ad) (t : Int) : Ad := if a.donE t = 0 then { a with used := a.used + 1, I := cutI t a.I } else a
def Ad.leaE (a : Ad) (t : Int) : Int := match fi t a.I with | none => 110 | some x => if x.2 < (x.1.length : Int) + 1 then 180 else 0
def Ad.leaS (a : Ad) (t : Int) : Ad := if a.leaE t = 0 then { a with I := cutI t a.I } else a
def Ad.freE (a : Ad) (n : Int) : Int := if 0 ≤ n ∧ n ≤ a.used then 0 else 2
def Ad.freS (a : Ad) (n : Int) : Ad := if 0 ≤ n ∧ n ≤ a.used then { a with used := a.used - n } else a
def Ad.leftN (a : Ad) (t : Int) : Int := ((fi t a.I).map Prod.snd).getD 0
def Ad.leftB (a : Ad) (t : Int) : Bool := (fi t a.I).isSome

theorem Ad.Ok.beg {a : Ad} (h : a.Ok) (xs : List Int) : (a.begS xs).Ok := by
  unfold Ad.begS
  split
  · rename_i e
    have hf := B.formS_ok (xs := xs) (b := a.bl) (m := a.mr) e
    have hg := h.gotN
    refine ⟨h.may, h.got0, by show a.got < a.next + 1; omega, ?_, fun x hx => ?_, fun x hx => ?_, h.irise, h.iin, h.iform, h.used0, h.room⟩
    · show (wt (a.W ++ [_])).Pairwise _
      simp only [wt, List.map_append, List.map_cons, List.map_nil]
      refine List.pairwise_append.2 ⟨h.wrise, List.pairwise_singleton _ _, fun x hx y hy => ?_⟩
      obtain ⟨z, hz, rfl⟩ := List.mem_map.1 hx
      rw [List.mem_singleton.1 hy]
      exact (h.win z hz).2
    · show a.got < x.1 ∧ x.1 < a.next + 1
      rcases List.mem_append.1 hx with hx | hx
      · have := h.win x hx; omega
      · rw [List.mem_singleton.1 hx]; exact ⟨hg, by show a.next < a.next + 1; omega⟩
    · rcases List.mem_append.1 hx with hx | hx
      · exact h.wform x hx
      · rw [List.mem_singleton.1 hx]
        show 1 ≤ (a.begF xs).length ∧ ((a.begF xs).length : Int) ≤ a.mr
        have e1 : a.begF xs = B.diffS xs := hf.1
        rw [e1]
        refine ⟨?_, hf.2.2.2.2⟩
        rcases Nat.eq_zero_or_pos (B.diffS xs).length with h0 | h0
        · exact absurd (B.diffS_nil (List.eq_nil_of_length_eq_zero h0)) hf.2.2.1
        · exact h0
  · exact h
theorem Ad.entE_ok {a : Ad} (e : a.entE = 0) : ∃ x r, a.W = x :: r ∧ a.fits = true := by
  unfold Ad.entE at e
  cases hW : a.W with
  | nil => rw [hW] at e; cases e
  | cons x r =>
    rw [hW] at e
    refine ⟨x, r, rfl, ?_⟩
    cases hf : a.fits with
    | true => rfl
    | false => rw [hf] at e; cases e
theorem Ad.Ok.ent {a : Ad} (h : a.Ok) : a.entS.Ok := by
  unfold Ad.entS
  split
  · rename_i e
    obtain ⟨x, r, hW, hf⟩ := Ad.entE_ok e
    have e1 : a.fT = x.1 := by simp [Ad.fT, hW]
    have e2 : a.fF = x.2 := by simp [Ad.fF, hW]
    have hr := h.room
    have hu := h.used0
    have hx : x ∈ a.W := by rw [hW]; exact List.mem_cons_self ..
    have hx1 := h.win x hx
    have hx2 := h.wform x hx
    have hp : (wt a.W).Pairwise (· < ·) := h.wrise
    rw [hW] at hp
    have hp2 := List.pairwise_cons.1 hp
    have hfit : a.used + a.rsv + x.2.length + 1 ≤ a.lc := by simpa [Ad.fits, hW] using hf
    refine ⟨h.may, ?_, ?_, ?_, fun y hy => ?_, fun y hy => ?_, ?_, fun y hy => ?_, fun y hy => ?_, h.used0, ?_⟩
    · show 0 ≤ a.fT; have := h.got0; omega
    · show a.fT < a.next; omega
    · show (wt a.W.tail).Pairwise _; rw [hW]; exact hp2.2
    · have hy' : y ∈ r := by simpa [hW] using hy
      have h1 := hp2.1 y.1 (List.mem_map.2 ⟨y, hy', rfl⟩)
      have h2 := h.win y (by rw [hW]; exact List.mem_cons_of_mem _ hy')
      show a.fT < y.1 ∧ y.1 < a.next
      omega
    · have hy' : y ∈ r := by simpa [hW] using hy
      exact h.wform y (by rw [hW]; exact List.mem_cons_of_mem _ hy')
    · show (it (a.I ++ [_])).Pairwise _
      rw [it_app]
      refine List.pairwise_append.2 ⟨h.irise, List.pairwise_singleton _ _, fun y hy z hz => ?_⟩
      obtain ⟨v, hv, rfl⟩ := List.mem_map.1 hy
      rw [List.mem_singleton.1 hz]
      have := h.iin v hv
      show v.1 < a.fT
      omega
    · show 1 ≤ y.1 ∧ y.1 ≤ a.fT
      have := h.got0
      rcases List.mem_append.1 hy with hy | hy
      · have := h.iin y hy; omega
      · rw [List.mem_singleton.1 hy]; exact ⟨by show 1 ≤ a.fT; omega, Int.le_refl _⟩
    · rcases List.mem_append.1 hy with hy | hy
      · exact h.iform y hy
      · rw [List.mem_singleton.1 hy]
        show 1 ≤ a.fF.length ∧ (a.fF.length : Int) ≤ a.mr ∧ 1 ≤ (a.fF.length : Int) + 1 ∧ (a.fF.length : Int) + 1 ≤ (a.fF.length : Int) + 1
        rw [e2]
        omega
    · show a.used + L.total (lefts (a.I ++ [(a.fT, a.fF, (a.fF.length : Int) + 1)])) ≤ a.lc
      rw [lefts_app, L.total_app, e2]
      have : L.total (lefts a.I) = a.rsv := rfl
      omega
  · exact h
theorem Ad.fi_of {a : Ad} {t : Int} {E : Int} (h : (match fi t a.I with | none => (110 : Int) | some _ => E) = 0) : ∃ f n, fi t a.I = some (f, n) := by
  cases e : fi t a.I with
  | none => rw [e] at h; cases h
  | some x => exact ⟨x.1, x.2, rfl⟩
theorem Ad.appE_ok {a : Ad} {t : Int} (h : a.appE t = 0) : ∃ f n, fi t a.I = some (f, n) ∧ n ≠ 1 := by
  unfold Ad.appE at h
  cases e : fi t a.I with
  | none => rw [e] at h; cases h
  | some x =>
    rw [e] at h
    refine ⟨x.1, x.2, rfl, fun e1 => ?_⟩
    simp [e1] at h
theorem Ad.Ok.cutted {a : Ad} (h : a.Ok) (t : Int) (u : Int) (hu : 0 ≤ u) (hr : u + L.total (lefts (cutI t a.I)) ≤ a.lc) : ({ a with used := u, I := cutI t a.I } : Ad).Ok :=
  ⟨h.may, h.got0, h.gotN, h.wrise, h.win, h.wform, by show (it (cutI t a.I)).Pairwise _; exact h.irise.sublist ((cutI_sub t a.I).map _), fun x hx => h.iin x ((cutI_sub t a.I).subset hx), fun x hx => h.iform x ((cutI_sub t a.I).subset hx), hu, hr⟩
theorem Ad.Ok.app {a : Ad} (h : a.Ok) (t : Int) : (a.appS t).Ok := by
  unfold Ad.appS
  split
  · rename_i e
    obtain ⟨f, n, hf, hn⟩ := Ad.appE_ok e
    have hr := h.room
    refine ⟨h.may, h.got0, h.gotN, h.wrise, h.win, h.wform, ?_, fun x hx => ?_, fun x hx => ?_, by have := h.used0; show 0 ≤ a.used + 1; omega, ?_⟩
    · show (it (decI t a.I)).Pairwise _; rw [it_dec]; exact h.irise
    · rcases decI_mem hx with hx | ⟨f', n', h1, _, rfl⟩
      · exact h.iin x hx
      · exact h.iin (t, f', n') h1
    · rcases decI_mem hx with hx | ⟨f', n', h1, h2, rfl⟩
      · exact h.iform x hx
      · have h3 := h.iform _ h1
        rw [hf] at h2
        cases h2
        show 1 ≤ f.length ∧ (f.length : Int) ≤ a.mr ∧ 1 ≤ n - 1 ∧ n - 1 ≤ (f.length : Int) + 1
        simp only at h3
        omega
    · show a.used + 1 + L.total (lefts (decI t a.I)) ≤ a.lc
      rw [lefts_dec hf, L.total_set (n := n) (by rw [look_lefts, hf]; rfl)]
      have : L.total (lefts a.I) = a.rsv := rfl
      omega
  · exact h
theorem Ad.Ok.don {a : Ad} (h : a.Ok) (t : Int) : (a.donS t).Ok := by
  unfold Ad.donS
  split
  · rename_i e
    obtain ⟨f, n, hf⟩ := Ad.fi_of e
    refine h.cutted t _ (by have := h.used0; omega) ?_
    have h3 := h.iform _ (fi_mem hf)
    have hr := h.room
    have : L.total (lefts a.I) = a.rsv := rfl
    rw [lefts_cut, L.total_cut (n := n) (by rw [look_lefts, hf]; rfl)]
    simp only at h3
    omega
  · exact h
theorem Ad.leaE_ok {a : Ad} {t : Int} (h : a.leaE t = 0) : ∃ f n, fi t a.I = some (f, n) ∧ ¬ n < (f.length : Int) + 1 := by
  unfold Ad.leaE at h
  cases e : fi t a.I with
  | none => rw [e] at h; cases h
  | some x =>
    rw [e] at h
    refine ⟨x.1, x.2, rfl, fun e1 => ?_⟩
    simp [e1] at h
theorem Ad.Ok.lea {a : Ad} (h : a.Ok) (t : Int) : (a.leaS t).Ok := by
  unfold Ad.leaS
  split
  · rename_i e
    obtain ⟨f, n, hf, _⟩ := Ad.leaE_ok e
    refine h.cutted t _ h.used0 ?_
    have h3 := h.iform _ (fi_mem hf)
    have hr := h.room
    have : L.total (lefts a.I) = a.rsv := rfl
    rw [lefts_cut, L.total_cut (n := n) (by rw [look_lefts, hf]; rfl)]
    simp only at h3
    omega
  · exact h
theorem Ad.Ok.fre {a : Ad} (h : a.Ok) (n : Int) : (a.freS n).Ok := by
  unfold Ad.freS
  split
  · rename_i e
    exact ⟨h.may, h.got0, h.gotN, h.wrise, h.win, h.wform, h.irise, h.iin, h.iform, by show 0 ≤ a.used - n; omega, by have := h.room; show a.used - n + a.rsv ≤ a.lc; omega⟩
  · exact h
end Go.Proofs.YtkgjmejpbklabaaGreat.M
