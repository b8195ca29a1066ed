/-
  The statement OctetBack: contracts as it calls them.
-/
import Derived.Test.YtdfnpapnoedpkaaCi
namespace Go.Proofs.Ytdfnpapnoedpkaa
open Go.RowKit

theorem small_div (N : Int) (k : Nat) (h0 : 0 ≤ N) (h1 : N < 256 ^ k) : N / 256 ^ k = 0 := Int.ediv_eq_zero_of_lt h0 h1

theorem putS_good (N : Int) (k : Nat) (hk : 1 ≤ k ∧ k ≤ 8) (h0 : 0 ≤ N) (h1 : N < 256 ^ k) : putS N k = (digits k N, 0) := by
  unfold putS
  rw [if_neg (by omega), Int.toNat_natCast, if_neg (by rw [small_div N k h0 h1]; simp)]

theorem takeS_good (xs : List Int) (k : Nat) (hk : 1 ≤ k ∧ k ≤ 8) (hl : k ≤ xs.length) : takeS xs k = (worth (xs.take k), xs.drop k, 0) := by
  unfold takeS
  rw [if_neg (by omega), if_neg (by omega), Int.toNat_natCast]

theorem put_good (N K : Int) (k : Nat) (hK : K = k) (hk : 1 ≤ k ∧ k ≤ 8) (h0 : 0 ≤ N) (h1 : N < 256 ^ k) (w : World) :
    Calls Try.prog 10 #[.int .u64 N, .int .i64 K] w fun e w' => ∃ p c, e = .returned (.tuple #[.slice p k c, .int .i64 0]) ∧ BIn w' p k (digits k N) ∧ k ≤ c ∧ (p = none → c = 0) ∧ Below w.heap.size w w' := by
  subst hK
  refine (put_any N k w h0).mono ?_
  rintro e w' ⟨v, rfl, ho, hb⟩
  rw [putS_good N k hk h0 h1] at *
  simp only [digits_length] at *
  obtain ⟨p, c, rfl, h, hc, hpc, _⟩ := own_in ho (digits_bytes k N)
  exact ⟨p, c, rfl, h, hc, hpc, hb⟩

theorem take_good (p : Option Addr) (l c : Nat) (xs : List Int) (K : Int) (k : Nat) (hK : K = k) (hk : 1 ≤ k ∧ k ≤ 8) (w : World) (h : BIn w p l xs) (hlc : l ≤ c) (hbig : l ≤ 140737488355328) (hl : k ≤ l) :
    Calls Try.prog 11 #[.slice p l c, .int .i64 K] w fun e w' => ∃ p' c', e = .returned (.tuple #[.int .u64 (worth (xs.take k)), .slice p' (l - k) c', .int .i64 0]) ∧ BIn w' p' (l - k) (xs.drop k) ∧ l - k ≤ c' ∧ (p' = none → c' = 0) ∧ Below w.heap.size w w' := by
  subst hK
  refine (take_any p l c xs k w h hlc hbig).mono ?_
  rintro e w' ⟨v, rfl, ho, hb⟩
  rw [takeS_good xs k hk (by rw [h.len]; exact hl)] at *
  simp only [List.length_drop, h.len] at *
  obtain ⟨p, c, rfl, h, hc, hpc, _⟩ := own_in ho (h.byte.drop k)
  exact ⟨p, c, rfl, h, hc, hpc, hb⟩

/-- a number's own bytes are taken back, and nothing is left -/
theorem take_back (p : Option Addr) (c : Nat) (N K : Int) (k : Nat) (hK : K = k) (hk : 1 ≤ k ∧ k ≤ 8) (h0 : 0 ≤ N) (h1 : N < 256 ^ k) (w : World) (h : BIn w p k (digits k N)) (hlc : k ≤ c) :
    Calls Try.prog 11 #[.slice p k c, .int .i64 K] w fun e w' => ∃ p' c', e = .returned (.tuple #[.int .u64 N, .slice p' 0 c', .int .i64 0]) ∧ Below w.heap.size w w' := by
  refine (take_good p k c (digits k N) K k hK hk w h hlc (by omega) (Nat.le_refl _)).mono ?_
  rintro e w' ⟨p', c', rfl, _, _, _, hb⟩
  rw [List.take_of_length_le (by rw [digits_length]; omega), worth_digits, Int.emod_eq_of_lt h0 h1, Nat.sub_self]
  exact ⟨p', c', rfl, hb⟩

theorem str_inj {xs ys : List Int} (hx : Bytes xs) (hy : Bytes ys) (h : (strOfNums xs).toList = (strOfNums ys).toList) : xs = ys := by
  rw [str_list, str_list] at h
  have hl : xs.length = ys.length := by have := congrArg List.length h; simpa using this
  apply List.ext_getElem hl
  intro i h1 h2
  have e := congrArg (fun l : List UInt8 => l[i]?) h
  simp only [List.getElem?_map, List.getElem?_eq_getElem h1, List.getElem?_eq_getElem h2, Option.map_some, Option.some.injEq] at e
  have e2 := congrArg UInt8.toNat e
  have b1 := hx.at i h1
  have b2 := hy.at i h2
  simp only [UInt8.toNat_ofNat'] at e2
  omega

theorem str_eq (xs ys : List Int) (hx : Bytes xs) (hy : Bytes ys) : ((strOfNums xs).toList == (strOfNums ys).toList) = decide (xs = ys) := by
  by_cases e : xs = ys
  · subst e; simp
  · rw [decide_eq_false e, beq_eq_false_iff_ne]
    exact fun h => e (str_inj hx hy h)

theorem str_num (k : Nat) (N M : Int) (h0 : 0 ≤ N) (h1 : N < 256 ^ k) (g0 : 0 ≤ M) (g1 : M < 256 ^ k) : ((strOfNums (digits k N)).toList == (strOfNums (digits k M)).toList) = (N == M) := by
  rw [str_eq _ _ (digits_bytes k N) (digits_bytes k M)]
  by_cases e : N = M
  · subst e; simp
  · have hne : ¬ digits k N = digits k M := by
      intro h
      have := congrArg worth h
      rw [worth_digits, worth_digits, Int.emod_eq_of_lt h0 h1, Int.emod_eq_of_lt g0 g1] at this
      exact e this
    rw [decide_eq_false hne]
    exact (beq_eq_false_iff_ne.2 e).symm

theorem join_two (w : World) (p q : Option Addr) (n m c d : Nat) (xs ys : List Int) (hx : BIn w p n xs) (hy : BIn w q m ys) (hc : n ≤ c) (hp : p = none → c = 0) (hd : m ≤ d) (hq : q = none → d = 0) (hbig : n + m ≤ 140737488355328) :
    Calls Try.prog 14 #[.slice (some ⟨w.heap.size, 0, none⟩) 2 2] (w.alloc (.cells #[.slice p n c, .slice q m d] 23)).drew fun e w' => ∃ p' c', e = .returned (.slice p' (n + m) c') ∧ BIn w' p' (n + m) (xs ++ ys) ∧ Below w.heap.size w w' := by
  have hbA := below_alloc w (.cells #[.slice p n c, .slice q m d] 23)
  have hP : PIn (w.alloc (.cells #[.slice p n c, .slice q m d] 23)).drew (some ⟨w.heap.size, 0, none⟩) 2 [.slice p n c, .slice q m d] [xs, ys] := by
    refine ⟨rfl, rfl, fun _ => ⟨_, 0, rfl, fun i hi => ?_⟩, fun i h1 h2 => ?_⟩
    · show (w.alloc (.cells #[.slice p n c, .slice q m d] 23)).cell? _ = _
      rw [Nat.zero_add, cell_of_row _ w.heap.size i #[.slice p n c, .slice q m d] 23 (0, 0) (heap_alloc_new w _)]
      match i, hi with
      | 0, _ => rfl
      | 1, _ => rfl
    · match i, h1, h2 with
      | 0, _, _ => exact ⟨_, _, _, rfl, (hx.later hbA).drew, hc, hp⟩
      | 1, _, _ => exact ⟨_, _, _, rfl, (hy.later hbA).drew, hd, hq⟩
  have hl : [xs, ys].flatten.length = n + m := by simp [hx.len, hy.len]
  refine (join_any _ 2 2 _ [xs, ys] _ hP (by omega) (by omega)).mono ?_
  rintro e w' ⟨v, rfl, ho, hb⟩
  rw [hl] at ho
  have e2 : [xs, ys].flatten = xs ++ ys := by simp
  rw [e2] at ho
  obtain ⟨p', c', rfl, h, _⟩ := own_in ho (hx.byte.append hy.byte)
  have hb' : Below (w.alloc (.cells #[.slice p n c, .slice q m d] 23)).heap.size (w.alloc (.cells #[.slice p n c, .slice q m d] 23)) w' := ⟨hb.os, hb.tape, hb.output, hb.size, hb.block⟩
  exact ⟨p', c', rfl, h, below_of_alloc hb'⟩

theorem join_back (w : World) (p q : Option Addr) (k l c d : Nat) (xs : List Int) (hx : BIn w p k (xs.take k)) (hy : BIn w q (l - k) (xs.drop k)) (hc : k ≤ c) (hp : p = none → c = 0) (hd : l - k ≤ d) (hq : q = none → d = 0) (hkl : k ≤ l) (hbig : l ≤ 140737488355328) :
    Calls Try.prog 14 #[.slice (some ⟨w.heap.size, 0, none⟩) 2 2] (w.alloc (.cells #[.slice p k c, .slice q (l - k) d] 23)).drew fun e w' => ∃ p' c', e = .returned (.slice p' l c') ∧ BIn w' p' l xs ∧ Below w.heap.size w w' := by
  have h := join_two w p q k (l - k) c d (xs.take k) (xs.drop k) hx hy hc hp hd hq (by omega)
  rw [List.take_append_drop, show k + (l - k) = l from by omega] at h
  exact h


end Go.Proofs.Ytdfnpapnoedpkaa
