/-
  Layer 15, the library's slices.Sort, Compact at []uint64.
-/
import Derived.Test.YtkgjmejpbklabaaSl
import Derived.Shelf.SlicesE.Compact
namespace Go.Proofs.Ytkgjmejpbklabaa
open Go.RowKit

open Go.Sort

theorem len_is (n : Nat) (hn : n < 2305843009213693952) (w : World) : Calls Try.prog 42 #[.int .u64 (n : Int)] w fun e w' => (∃ l : Nat, e = .returned (.int .i64 (l : Int)) ∧ l < 2305843009213693952) ∧ w' = w := by
  refine (calls_of_every_depth fun D => AnyS.bits_LenIn { B.lays189 with } D (n : Int) w (by omega) (by omega)).mono ?_
  rintro e w' ⟨rfl, h2⟩
  refine ⟨⟨_, rfl, ?_⟩, h2⟩
  rw [Int.toNat_natCast, bitLen_eq _ (by omega)]
  have : bitsLen n ≤ 62 := (bitsLen_le_iff n 62).2 (by omega)
  omega
/-- sorted, and the same numbers -/
theorem sorted_list {d R : Array Int} {n : Nat} (hd : d.size = n) (h1 : PermIn 0 n d R) (h2 : SortedIn ltInt 0 n R) : R.toList.Perm d.toList ∧ R.toList.Pairwise (· ≤ ·) := by
  have hR : R.size = n := by rw [h1.1]; exact hd
  constructor
  · have := h1.2.2
    have e1 : (R.extract 0 n).toList = R.toList := by rw [← hR]; simp
    have e2 : (d.extract 0 n).toList = d.toList := by rw [← hd]; simp
    rw [e1, e2] at this
    exact this
  · rw [List.pairwise_iff_getElem]
    intro i j hi hj hij
    have hi' : i < R.size := by simpa using hi
    have hj' : j < R.size := by simpa using hj
    have := h2 i j (Nat.zero_le _) hij (by omega)
    rw [getElem!_pos R i hi', getElem!_pos R j hj'] at this
    simp only [ltInt, decide_eq_false_iff_not, Int.not_lt] at this
    simpa using this
set_option maxHeartbeats 2000000 in
set_option maxRecDepth 100000 in
theorem sort_at {blk off cap n : Nat} {d : Array Int} {w : World} (hN : d.size = n) (hH : Holds uE w blk off d) (hk : blk < w.heap.size) (hz : n < 2305843009213693952) :
    Calls Try.prog 29 #[.slice (some ⟨blk, off, none⟩) n cap] w fun e w' => e = .returned (.tuple #[]) ∧ ∃ R, R.toList.Perm d.toList ∧ R.toList.Pairwise (· ≤ ·) ∧ SR blk off w R w' := by
  have HP : Hid (∀ l : Nat, l < 2305843009213693952 → Calls Try.prog 41 #[.slice (some ⟨blk, off, none⟩) n cap, .int .i64 ((0 : Nat) : Int), .int .i64 n, .int .i64 l] w fun e w' => e = .returned (.tuple #[]) ∧ Sorts blk off 0 n w d w') :=
    fun l hl => pdq_at n (by omega) hN hH hk (by omega) (Nat.le_refl _) hz hl (.inl rfl)
  go_enter Try.func29, Try.ntmps29
  go_wp2_with fail
  refine (len_is n hz _).mono ?_
  rintro e w1 ⟨⟨l, rfl, hl⟩, hw⟩
  have hw2 := hw.symm
  clear hw
  subst hw2
  go_wp2_with fail
  refine (HP.out l hl).mono ?_
  rintro e w2 ⟨rfl, h1⟩
  have H1 : Hid (Sorts blk off 0 n w d w2) := h1
  clear h1
  go_wp2_with fail
  go_end0
  obtain ⟨R, h1, h2, h3⟩ := H1.out
  have := sorted_list hN h1 h2
  exact ⟨rfl, R, this.1, this.2, h3⟩

/-! ### slices.Compact -/
def cpRen : Shelf.Ren := ⟨fun | 43 => 30 | x => x, fun | 0 => 0 | 3 => 3 | 4 => 4 | 22 => 23 | 23 => 25 | x => x, fun x => x⟩
theorem cpLays : SlLaysE.n43 Try.prog cpRen := {
  mixed := by kernel_rfl
  f43 := ⟨Try.f30.name, by kernel_rfl, Try.func30.trans (congrArg some (by kernel_rfl))⟩
  t0 := Try.underlying0
  a0 := Try.isAgg0
  z0 := Try.sizeOf0
  v0 := Try.zeroValue0
  t3 := Try.underlying3
  a3 := Try.isAgg3
  z3 := Try.sizeOf3
  v3 := Try.zeroValue3
  t4 := Try.underlying4
  a4 := Try.isAgg4
  z4 := Try.sizeOf4
  v4 := Try.zeroValue4
  t22 := Try.underlying23
  a22 := Try.isAgg23
  z22 := Try.sizeOf23
  v22 := Try.zeroValue23
  a23 := Try.isAgg25
  z23 := Try.sizeOf25 }
theorem ahead_below (w : World) (b o q : Nat) (d : Array Int) : SR b o w d (putRow uE (Sort.ahead w q) b o d) := ⟨rfl, rfl, rfl, by simp, fun _ _ => rfl⟩
theorem compact_at {blk off cap n : Nat} {d : Array Int} {w : World} (hN : d.size = n) (hH : Holds uE w blk off d) (hz : n < 2305843009213693952) (hc : n ≤ cap) :
    Calls Try.prog 30 #[.slice (some ⟨blk, off, none⟩) n cap] w fun e w' => e = .returned (.slice (some ⟨blk, off, none⟩) (Lib.compactUpTo d d.size).length cap) ∧ SR blk off w (Lib.compactUpTo d d.size ++ List.replicate (d.size - (Lib.compactUpTo d d.size).length) 0).toArray w' := by
  subst hN
  refine (AnyE.slices_Compact cpLays (Value.int .u64) ?_ (EqlAt.intD _ _ _) (NeqAt.intD _ _ _) 0 ?_ blk off cap d w hH (by omega) hc).mono ?_
  · intro _; rfl
  · exact Try.zeroValue25
  · rintro e w' ⟨rfl, q, rfl⟩
    exact ⟨rfl, ahead_below _ _ _ _ _⟩
end Go.Proofs.Ytkgjmejpbklabaa
