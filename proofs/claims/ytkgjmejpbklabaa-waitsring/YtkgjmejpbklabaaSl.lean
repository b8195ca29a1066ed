/-
  Layer 15, the library's sort at []uint64: pdqsort.
-/
import Derived.Test.YtkgjmejpbklabaaSb
import Derived.Test.YtkgjmejpbklabaaSc
import Derived.Test.YtkgjmejpbklabaaSd
import Derived.Test.YtkgjmejpbklabaaSe
import Derived.Test.YtkgjmejpbklabaaSf
import Derived.Test.YtkgjmejpbklabaaSj
import Derived.Test.YtkgjmejpbklabaaSk
namespace Go.Proofs.Ytkgjmejpbklabaa
open Go.RowKit

open Go.Sort

/-- behind the call the part [a, b) of the row is sorted -/
def Sorts (blk off a b : Nat) (w : World) (d : Array Int) (w' : World) : Prop := ∃ R, PermIn a b d R ∧ SortedIn ltInt a b R ∧ SR blk off w R w'
/-- who sorts a part has sorted the whole -/
def Leads (a b : Nat) (D : Array Int) (a0 b0 : Nat) (d : Array Int) : Prop := ∀ R, PermIn a b D R → SortedIn ltInt a b R → PermIn a0 b0 d R ∧ SortedIn ltInt a0 b0 R

theorem heap_n {blk off cap a b n : Nat} {d : Array Int} {w : World} (hN : d.size = n) (hH : Holds uE w blk off d) (hk : blk < w.heap.size) (hab : a < b) (hb : b ≤ n) (hz : n < 2305843009213693952) :
    Calls Try.prog 50 #[.slice (some ⟨blk, off, none⟩) n cap, .int .i64 a, .int .i64 b] w fun e w' => e = .returned (.tuple #[]) ∧ SR blk off w (heapSort ltInt d a b) w' := by
  subst hN; exact heap_at hH hk hab hb hz
theorem ins_n {blk off cap a b n : Nat} {d : Array Int} {w : World} (hN : d.size = n) (hH : Holds uE w blk off d) (hk : blk < w.heap.size) (hab : a ≤ b) (hb : b ≤ n) (hz : n < 2305843009213693952) :
    Calls Try.prog 49 #[.slice (some ⟨blk, off, none⟩) n cap, .int .i64 a, .int .i64 b] w fun e w' => e = .returned (.tuple #[]) ∧ SR blk off w (insertionSort ltInt d a b) w' := by
  subst hN; exact insertion_at hH hk hab hb (by omega)
theorem Leads.perm {a b a0 b0 : Nat} {D D1 d : Array Int} (h : Leads a b D a0 b0 d) (hp : PermIn a b D D1) : Leads a b D1 a0 b0 d := fun R h1 h2 => h R (permIn_trans _ _ _ a b hp h1) h2

set_option maxHeartbeats 2000000 in
set_option maxRecDepth 100000 in
theorem pdq_at : ∀ (m : Nat) {blk off cap n a0 b0 l0 : Nat} {d : Array Int} {w : World}, b0 - a0 ≤ m → d.size = n → Holds uE w blk off d → blk < w.heap.size → a0 ≤ b0 → b0 ≤ n → n < 2305843009213693952 → l0 < 2305843009213693952 → Sort.Below ltInt a0 b0 d →
    Calls Try.prog 41 #[.slice (some ⟨blk, off, none⟩) n cap, .int .i64 a0, .int .i64 b0, .int .i64 l0] w fun e w' => e = .returned (.tuple #[]) ∧ Sorts blk off a0 b0 w d w' := by
  intro m
  induction m using Nat.strongRecOn with
  | ind m ih =>
  intro blk off cap n a0 b0 l0 d w hm hN hH hk hab0 hb0 hz hl0 hB0
  have IH : Hid (∀ (k : Nat), k < m → ∀ {a b l : Nat} {d : Array Int} {w : World}, b - a ≤ k → d.size = n → Holds uE w blk off d → blk < w.heap.size → a ≤ b → b ≤ n → l < 2305843009213693952 → Sort.Below ltInt a b d →
    Calls Try.prog 41 #[.slice (some ⟨blk, off, none⟩) n cap, .int .i64 a, .int .i64 b, .int .i64 l] w fun e w' => e = .returned (.tuple #[]) ∧ Sorts blk off a b w d w') :=
    fun k hk {a b l d w} h1 h2 h3 h4 h5 h6 h7 h8 => ih k hk h1 h2 h3 h4 h5 h6 hz h7 h8
  clear ih
  have HB0 : Hid (Sort.Below ltInt a0 b0 d) := hB0
  clear hB0
  go_enter Try.func41, Try.ntmps41
  go_wp2_with fail
  go_loopw [1, 2, 3, 8, 9] (fun v1 v2 v3 v8 v9 W => ∃ (a b l : Nat) (wb wp : Bool) (D : Array Int), v1 = .int .i64 a ∧ v2 = .int .i64 b ∧ v3 = .int .i64 l ∧ v8 = .bool wb ∧ v9 = .bool wp ∧ (a ≤ b ∧ b ≤ n ∧ b - a ≤ m ∧ l < 2305843009213693952) ∧ D.size = n ∧ Hid (SR blk off w D W) ∧ Hid (Sort.Below ltInt a b D) ∧ Hid (Leads a b D a0 b0 d)) (fun v1 v2 _ _ _ _ => (intV v2 - intV v1).toNat)
  case atStart => exact ⟨a0, b0, l0, true, true, d, rfl, rfl, rfl, rfl, rfl, by omega, hN, SR.self hH, HB0, fun R h1 h2 => ⟨h1, h2⟩⟩
  case round =>
    obtain ⟨a, b, l, wb, wp, D, rfl, rfl, rfl, rfl, rfl, hr, hDn, HS, HB, HL⟩ := hrel
    by_cases h12 : b - a ≤ 12
    · have h12I : (b : Int) - (a : Int) ≤ 12 := by omega
      go_wp2_with (go_at_call 49; refine (ins_n hDn (HS.out.holds hH hk (by omega)) (Nat.lt_of_lt_of_le hk HS.out.size) (by omega) (by omega) hz).mono ?_; rintro e w' ⟨rfl, h1⟩; have H1 : Hid (SR blk off wr (insertionSort ltInt D a b) w') := h1; clear h1)
      (try simp only [Exit.inBlock, Exit.then])
      refine bodyPost_ret (results_none rfl _ _ _) rfl ?_
      have hI := insertionSort_holds (lt := ltInt) swo_ltInt D a b (by omega) (by omega)
      have hL := HL.out _ hI.1 hI.2
      exact ⟨rfl, _, hL.1, hL.2, HS.out.trans H1.out hI.1.1⟩
    have h12I : ¬ (b : Int) - (a : Int) ≤ 12 := by omega
    by_cases hl0' : l = 0
    · subst hl0'
      go_wp2_with (go_at_call 50; refine (heap_n hDn (HS.out.holds hH hk (by omega)) (Nat.lt_of_lt_of_le hk HS.out.size) (by omega) (by omega) hz).mono ?_; rintro e w' ⟨rfl, h1⟩; have H1 : Hid (SR blk off wr (heapSort ltInt D a b) w') := h1; clear h1)
      (try simp only [Exit.inBlock, Exit.then])
      refine bodyPost_ret (results_none rfl _ _ _) rfl ?_
      have hI := heapSort_holds (lt := ltInt) swo_ltInt D a b (by omega) (by omega)
      have hL := HL.out _ hI.1 hI.2
      exact ⟨rfl, _, hL.1, hL.2, HS.out.trans H1.out hI.1.1⟩
    have hl0I : ¬ (l : Int) = 0 := by omega
    go_upto_if 35 with fail
    go_cut [3] from 19 to 133 (fun v W => ∃ (l1 : Nat) (D1 : Array Int), v = .int .i64 l1 ∧ l1 < 2305843009213693952 ∧ D1.size = n ∧ Hid (SR blk off w D1 W) ∧ Hid (PermIn a b D D1))
    case first =>
      cases wb with
      | true =>
        go_wp2_with fail
        go_meet
        case rel => exact ⟨l, D, rfl, hr.2.2.2, hDn, HS, permIn_refl _ _ _⟩
      | false =>
        go_wp2_with (go_at_call 51; refine (break_at hDn (HS.out.holds hH hk (by omega)) (Nat.lt_of_lt_of_le hk HS.out.size) (by omega) (by omega) hz).mono ?_; rintro e w' ⟨rfl, h1⟩; have H1 : Hid (SR blk off wr (breakPatterns D a b) w') := h1; clear h1)
        go_meet
        case rel =>
          have hp := breakPatterns_holds D a b (by omega) (by omega)
          exact ⟨l - 1, breakPatterns D a b, by congr 1; omega, by omega, by rw [hp.1]; exact hDn, HS.out.trans H1.out hp.1, hp⟩
    case rest =>
      obtain ⟨l1, D1, rfl, hl1, hD1n, HS1, HP1⟩ := hcut
      have hpv := choosePivot_holds ltInt D1 a b (by omega)
      obtain ⟨p, hp⟩ : ∃ p, p = (choosePivot ltInt D1 a b).1 := ⟨_, rfl⟩
      obtain ⟨h, hh⟩ : ∃ h, h = hintN (choosePivot ltInt D1 a b).2 := ⟨_, rfl⟩
      have HC : Hid (Calls Try.prog 52 #[.slice (some ⟨blk, off, none⟩) n cap, .int .i64 a, .int .i64 b] wc fun e w' => e = .returned (.tuple #[.int .i64 (p : Nat), .int .i64 h]) ∧ RowKit.Below wc.heap.size wc w') := by
        rw [hp, hh]; exact pivot_at hD1n (HS1.out.holds hH hk (by omega)) (Nat.lt_of_lt_of_le hk HS1.out.size) (by omega) (by omega) hz
      rw [← hp] at hpv
      clear hp hh
      go_upto_if 50 with (go_at_call 52; refine HC.out.mono ?_; rintro e w' ⟨rfl, h1⟩; have H1 : Hid (SR blk off w D1 w') := HS1.out.new (h1.mono HS1.out.size); clear h1)
      clear HC HS1
      go_cut [11, 12] from 19 to 133 (fun v v2 W => ∃ (p2 : Nat) (h2 : Int) (D2 : Array Int), v = .int .i64 p2 ∧ v2 = .int .i64 h2 ∧ (a ≤ p2 ∧ p2 < b) ∧ D2.size = n ∧ Hid (SR blk off w D2 W) ∧ Hid (PermIn a b D D2))
      case first =>
        by_cases hd2 : h = 2
        · subst hd2
          go_wp2_with (go_at_call 53; refine (reverse_at hD1n (H1.out.holds hH hk (by omega)) (Nat.lt_of_lt_of_le hk H1.out.size) (by omega) (by omega) hz).mono ?_; rintro e w'' ⟨rfl, h1⟩; have H2 : Hid (SR blk off w' (reverseRange D1 a b) w'') := h1; clear h1)
          go_meet
          case rel =>
            have hp := reverseRange_holds D1 a b (by omega) (by omega)
            exact ⟨(b - 1) - (p - a), 1, reverseRange D1 a b, by congr 1; omega, rfl, by omega, by rw [hp.1]; exact hD1n, H1.out.trans H2.out hp.1, permIn_trans _ _ _ a b HP1.out hp⟩
        · go_wp2_with fail
          go_meet
          case rel => exact ⟨p, h, D1, rfl, rfl, hpv, hD1n, H1, HP1⟩
      case rest =>
        obtain ⟨p2, h2, D2, rfl, rfl, hp2, hD2n, HS2, HP2⟩ := hcut
        clear HP1 H1 hpv
        have HB2 : Hid (Sort.Below ltInt a b D2) := HB.out.perm (by omega) HP2.out
        have HL2 : Hid (Leads a b D2 a0 b0 d) := HL.out.perm HP2.out
        clear HB HL HP2 HS
        go_upto_region 15 with fail
        go_cut [68] from 19 to 133 (fun v W => ∃ B : Bool, v = .bool B ∧ Hid (SR blk off w D2 W))
        case first =>
          cases wb with
          | false =>
            go_wp2_with fail
            go_meet
            case rel => exact ⟨_, rfl, HS2⟩
          | true =>
            cases wp with
            | false =>
              go_wp2_with fail
              go_meet
              case rel => exact ⟨_, rfl, HS2⟩
            | true =>
              go_wp2_with fail
              go_meet
              case rel => exact ⟨_, rfl, HS2⟩
        case rest =>
          obtain ⟨B, rfl, HS3⟩ := hcut
          clear HS2
          go_upto_if 68 with fail
          go_cut [] from 19 to 133 (fun W => ∃ (D3 : Array Int), D3.size = n ∧ Hid (SR blk off w D3 W) ∧ Hid (PermIn a b D2 D3))
          case first =>
            cases B with
            | false =>
              go_wp2_with fail
              go_meet
              case rel => exact ⟨D2, hD2n, HS3, permIn_refl _ _ _⟩
            | true =>
              have hpi := partialInsertionSort_holds (lt := ltInt) swo_ltInt D2 a b (by omega) (by omega) HB2.out
              have HPI : Hid (PermIn a b D2 (partialInsertionSort ltInt D2 a b).1 ∧ ((partialInsertionSort ltInt D2 a b).2 = true → SortedIn ltInt a b (partialInsertionSort ltInt D2 a b).1)) := hpi
              have HC := @pins_at blk off cap n a b D2 wc hD2n (HS3.out.holds hH hk (by omega)) (Nat.lt_of_lt_of_le hk HS3.out.size) (by omega) (by omega) hz
              have HC : Hid (Calls _ _ _ _ _) := HC
              clear hpi
              generalize partialInsertionSort ltInt D2 a b = PI at HPI HC
              obtain ⟨D3, B3⟩ := PI
              simp only at HPI HC
              cases B3 with
              | true =>
                go_wp2_with (go_at_call 54; refine HC.out.mono ?_; rintro e w3 ⟨rfl, h1⟩; have H3 : Hid (SR blk off wc D3 w3) := h1; clear h1)
                (try simp only [Exit.inBlock, Exit.then])
                refine bodyPost_ret (results_none rfl _ _ _) rfl ?_
                have hL := HL2.out _ HPI.out.1 (HPI.out.2 trivial)
                exact ⟨rfl, _, hL.1, hL.2, HS3.out.trans H3.out HPI.out.1.1⟩
              | false =>
                go_wp2_with (go_at_call 54; refine HC.out.mono ?_; rintro e w3 ⟨rfl, h1⟩; have H3 : Hid (SR blk off wc D3 w3) := h1; clear h1)
                go_meet
                case rel => exact ⟨D3, by rw [HPI.out.1.1]; exact hD2n, HS3.out.trans H3.out HPI.out.1.1, HPI.out.1⟩
          case rest =>
            obtain ⟨D3, hD3n, HS4, HP4⟩ := hcut
            clear HS3
            have HB3 : Hid (Sort.Below ltInt a b D3) := HB2.out.perm (by omega) HP4.out
            have HL3 : Hid (Leads a b D3 a0 b0 d) := HL2.out.perm HP4.out
            clear HB2 HL2 HP4
            obtain ⟨G, HG⟩ : ∃ G : Nat → Int, Hid (∀ t, G t = D3[t]!) := ⟨fun t => D3[t]!, fun _ => rfl⟩
            have hcw : ∀ t, t < n → wc.cell? ⟨blk, off + t, none⟩ = some (.int .u64 (G t)) := fun t ht => by rw [HG.out]; exact HS4.out.cell hH hk (by omega) t (by omega)
            have hfw : ∀ t, t < n → wc.frozen? ⟨blk, off + t, none⟩ = false := fun t ht => HS4.out.frz hH hk t (by omega)
            go_upto_region 17 with fail
            go_cut [87] from 19 to 133 (fun v W => ∃ B : Bool, v = .bool B ∧ Hid (SR blk off w D3 W) ∧ Hid (B = true → 0 < a ∧ ltInt D3[a - 1]! D3[p2]! = false))
            case first =>
              by_cases ha0 : 0 < a
              · have ha0I : decide (0 < (a : Int)) = true := decide_eq_true (by omega)
                have ha0J : 0 < (a : Int) := by omega
                have han : a - 1 < n := by omega
                go_quiet (first | (go_at_call 55; refine Calls.quiet_of_same (less_is _ _ _)))
                go_wp2_with fail
                go_meet
                case rel =>
                  exact ⟨_, rfl, HS4.out.draws nq, fun h => ⟨ha0, by rw [← HG.out, ← HG.out]; simpa using h⟩⟩
              · have ha0I : decide (0 < (a : Int)) = false := decide_eq_false (by omega)
                go_quiet (first | (go_at_call 55; refine Calls.quiet_of_same (less_is _ _ _)))
                go_wp2_with fail
                go_meet
                case rel => exact ⟨false, rfl, HS4.out.draws nq, fun h => by cases h⟩
            case rest =>
              obtain ⟨B5, rfl, HS5, HQ5⟩ := hcut
              clear hcw hfw HS4
              have HH5 : Hid (Holds uE wc blk off D3) := HS5.out.holds hH hk (by omega)
              have HK5 : Hid (blk < wc.heap.size) := Nat.lt_of_lt_of_le hk HS5.out.size
              cases B5 with
              | true =>
                obtain ⟨ha0, hnl⟩ := HQ5.out rfl
                have HC := @parteq_at blk off cap n a b p2 D3 wc hD3n HH5.out HK5.out hp2.1 hp2.2 (by omega) hz
                have HC : Hid (Calls _ _ _ _ _) := HC
                have hre := fun mid d4 => @round_eq Int _ ltInt swo_ltInt (partitionEqual_holds _) D3 d4 a b p2 mid ha0 hp2.1 hp2.2 (by omega) HB3.out hnl
                have HRE : Hid (∀ mid d4, partitionEqual ltInt D3 a b p2 = (mid, d4) → a < mid ∧ mid ≤ b ∧ d4.size = D3.size ∧ Sort.Below ltInt mid b d4 ∧ Leads mid b d4 a b D3) := fun mid d4 e => hre mid d4 e
                clear hre hnl
                generalize partitionEqual ltInt D3 a b p2 = PE at HRE HC
                obtain ⟨mid, D6⟩ := PE
                simp only at HC
                have hR := HRE.out mid D6 rfl
                have hmid : a < mid ∧ mid ≤ b := ⟨hR.1, hR.2.1⟩
                have hD6n : D6.size = n := by rw [hR.2.2.1]; exact hD3n
                have HR2 : Hid (Sort.Below ltInt mid b D6 ∧ Leads mid b D6 a0 b0 d) := ⟨hR.2.2.2.1, fun R h1 h2 => by have := hR.2.2.2.2 R h1 h2; exact HL3.out R this.1 this.2⟩
                clear hR HRE
                go_wp2_with (go_at_call 56; refine HC.out.mono ?_; rintro e w6 ⟨rfl, h1⟩; have H6 : Hid (SR blk off w D6 w6) := HS5.out.trans h1 (by omega); clear h1)
                go_roundw
                case rel => exact ⟨mid, b, l1, wb, wp, D6, rfl, rfl, rfl, rfl, rfl, by omega, hD6n, H6, HR2.out.1, HR2.out.2⟩
                case measure => simp [intV]; omega
              | false =>
                have HC := @part_at blk off cap n a b p2 D3 wc hD3n HH5.out HK5.out hp2.1 hp2.2 (by omega) hz
                have HC : Hid (Calls _ _ _ _ _) := HC
                have hre := fun mid ap d4 => @round_part Int _ ltInt swo_ltInt (partition_holds _) D3 d4 a b p2 mid ap hp2.1 hp2.2 (by omega) HB3.out
                have HRE : Hid (∀ mid ap d4, partition ltInt D3 a b p2 = (mid, ap, d4) → a ≤ mid ∧ mid < b ∧ d4.size = D3.size ∧ Sort.Below ltInt a mid d4 ∧ Sort.Below ltInt (mid + 1) b d4 ∧
                    (∀ L, PermIn a mid d4 L → SortedIn ltInt a mid L → Sort.Below ltInt (mid + 1) b L ∧ Leads (mid + 1) b L a b D3) ∧
                    (∀ L, PermIn (mid + 1) b d4 L → SortedIn ltInt (mid + 1) b L → Sort.Below ltInt a mid L ∧ Leads a mid L a b D3)) := fun mid ap d4 e => hre mid ap d4 e
                clear hre
                generalize partition ltInt D3 a b p2 = PE at HRE HC
                obtain ⟨mid, ap, D6⟩ := PE
                simp only at HC
                have hR := HRE.out mid ap D6 rfl
                have hmid : a ≤ mid ∧ mid < b := ⟨hR.1, hR.2.1⟩
                have hD6n : D6.size = n := by rw [hR.2.2.1]; exact hD3n
                have HR2 : Hid (Sort.Below ltInt a mid D6 ∧ Sort.Below ltInt (mid + 1) b D6 ∧ (∀ L, PermIn a mid D6 L → SortedIn ltInt a mid L → Sort.Below ltInt (mid + 1) b L ∧ Leads (mid + 1) b L a0 b0 d) ∧
                    (∀ L, PermIn (mid + 1) b D6 L → SortedIn ltInt (mid + 1) b L → Sort.Below ltInt a mid L ∧ Leads a mid L a0 b0 d)) :=
                  ⟨hR.2.2.2.1, hR.2.2.2.2.1, fun L h1 h2 => ⟨(hR.2.2.2.2.2.1 L h1 h2).1, fun R h3 h4 => by have := (hR.2.2.2.2.2.1 L h1 h2).2 R h3 h4; exact HL3.out R this.1 this.2⟩,
                    fun L h1 h2 => ⟨(hR.2.2.2.2.2.2 L h1 h2).1, fun R h3 h4 => by have := (hR.2.2.2.2.2.2 L h1 h2).2 R h3 h4; exact HL3.out R this.1 this.2⟩⟩
                clear hR HRE
                by_cases hlr : mid - a < b - mid
                · have hlrI : (mid : Int) - (a : Int) < (b : Int) - (mid : Int) := by omega
                  go_wp2_with (first
                    | (go_at_call 57; refine HC.out.mono ?_; rintro e w6 ⟨rfl, h1⟩; have H6 : Hid (SR blk off w D6 w6) := HS5.out.trans h1 (by omega); clear h1)
                    | (go_at_call 41; refine (IH.out (mid - a) (by omega) (Nat.le_refl _) hD6n (H6.out.holds hH hk (by omega)) (Nat.lt_of_lt_of_le hk H6.out.size) (by omega) (by omega) hl1 HR2.out.1).mono ?_; rintro e w7 ⟨rfl, h1⟩; have H7 : Hid (Sorts blk off a mid w6 D6 w7) := h1; clear h1))
                  go_roundw
                  case rel =>
                    obtain ⟨R, h1, h2, h3⟩ := H7.out
                    exact ⟨mid + 1, b, l1, _, ap, R, rfl, rfl, rfl, rfl, rfl, by omega, by rw [h1.1]; exact hD6n, H6.out.trans h3 h1.1, (HR2.out.2.2.1 R h1 h2).1, (HR2.out.2.2.1 R h1 h2).2⟩
                  case measure => simp [intV]; omega
                · have hlrI : ¬ (mid : Int) - (a : Int) < (b : Int) - (mid : Int) := by omega
                  go_wp2_with (first
                    | (go_at_call 57; refine HC.out.mono ?_; rintro e w6 ⟨rfl, h1⟩; have H6 : Hid (SR blk off w D6 w6) := HS5.out.trans h1 (by omega); clear h1)
                    | (go_at_call 41; rw [show (mid : Int) + 1 = ((mid + 1 : Nat) : Int) by omega]; refine (IH.out (b - (mid + 1)) (by omega) (Nat.le_refl _) hD6n (H6.out.holds hH hk (by omega)) (Nat.lt_of_lt_of_le hk H6.out.size) (by omega) (by omega) hl1 HR2.out.2.1).mono ?_; rintro e w7 ⟨rfl, h1⟩; have H7 : Hid (Sorts blk off (mid + 1) b w6 D6 w7) := h1; clear h1))
                  go_roundw
                  case rel =>
                    obtain ⟨R, h1, h2, h3⟩ := H7.out
                    exact ⟨a, mid, l1, _, ap, R, rfl, rfl, rfl, rfl, rfl, by omega, by rw [h1.1]; exact hD6n, H6.out.trans h3 h1.1, (HR2.out.2.2.2 R h1 h2).1, (HR2.out.2.2.2 R h1 h2).2⟩
                  case measure => simp [intV]; omega
end Go.Proofs.Ytkgjmejpbklabaa
