/-
  Contracts of layer 4, fifth part: Image, Copy, Load. Contracts of layer 4, sixth part: Copy, Load. Contracts of layer 4, seventh part: Waiting. Layer 4: how the document's own disk lies; its Len, New, Load. A law for a region that draws its order and ends in a store into a cell that it reads itself ('x.f = append(x.f, v)'): what holds ahead of the last operation L is asked ahead of L alone. The document's own disk: Write, Read. The document's own disk: Read, Crash, Flush. Layer 8, the program's functions, first part: isBlock, put, Encode, Decode. Layer 7, the document's own functions, second part: low, Laid. Layer 8, the program's functions, fourth part: New; the small configuration.
-/
import Derived.Test.YtefnkjajjidfaaaGreatDoorDLd
import Derived.Test.YtefnkjajjidfaaaGreatDoorVa
import Derived.BigQuiet
import Derived.Test.YtefnkjajjidfaaaGreatDoorLc
import Derived.Lib.AppendZerosOnto
import Derived.Maps.AppendAt
import Derived.ArgAppend
namespace Go.Proofs.YtefnkjajjidfaaaGreatDoor
open Go.RowKit
set_option maxHeartbeats 400000 in
set_option maxRecDepth 100000 in
theorem image_nil (w : World) : Calls Tryz.prog 32 #[.pointer none] w fun e w' => e = .returned (.slice none 0 0) ∧ w = w' := by
  go_enter Tryz.func32, Tryz.ntmps32
  go_wp2
  go_ret
  exact ⟨rfl, rfl⟩
set_option maxHeartbeats 2000000 in
set_option maxRecDepth 100000 in
theorem image_any {w : World} {S : Nat → Prop} {p n : Nat} {d : List Int} {ws : List Wr} (h : Dsk w S p n d ws) :
    Calls Tryz.prog 32 #[.pointer (some ⟨p, 0, none⟩)] w fun e w' => ∃ v, e = .returned v ∧ w'.ownsRow w.heap.size 5 1 v (64 * n) (U8 d) ∧ Below w.heap.size w w' := by
  obtain ⟨i0, hi, hz0, hz1, hz2⟩ := info_parts info5
  obtain ⟨q, cap, v, h⟩ := h
  have h0 := h.cell0
  have HH : Hid (PD w S p n d ws q cap v) := h
  have hn2 := h.n2
  have hmul : IntKind.i64.wrap ((n : Int) * 64) = (n : Int) * 64 := by rw [IntKind.wrap_i64]; omega
  clear h
  have hmk := run_make (P := Tryz.prog) w 24 5 i0 _ Tryz.underlying24 hi hz0 .i64 .i64 0 ((n : Int) * 64) (by omega) (by omega) (by rw [hz2]; omega) (by omega)
  rw [hz1, show ((n : Int) * 64).toNat = n * 64 by omega] at hmk
  simp only [Int.toNat_zero, Nat.mul_one, Value.cells] at hmk
  have HO : Hid ((w.alloc (.cells (madeCells #[.int .u8 0] (n * 64)) 5)).ownsRow w.heap.size 5 1 (.slice (some ⟨w.heap.size, 0, none⟩) 0 (n * 64)) 0 []) := World.ownsRow_made w _ (n * 64) (Nat.le_refl _) (by unfold maxLen; omega) (by rw [size_madeCells]; omega)
  obtain ⟨ob, hob⟩ : ∃ ob, Obj.cells (madeCells #[.int .u8 0] (n * 64)) 5 = ob := ⟨_, rfl⟩
  rw [hob] at hmk HO
  clear hob
  have HB : Hid (Below w.heap.size w (w.alloc ob)) := below_alloc w ob
  have h0' : (w.alloc ob).cell? ⟨p, 0, none⟩ = some (.slice (some ⟨q, 0, none⟩) n cap) := (HB.out.cell (p := ⟨p, 0, none⟩) HH.out.blk.lt).trans h0
  go_enter Tryz.func32, Tryz.ntmps32
  go_wp2
  clear hmk hmul
  generalize w.alloc ob = W0 at *
  go_loopw [3, 19] (fun b i wr => ∃ k : Nat, k ≤ n ∧ i = .int .i64 k ∧ Hid (wr.ownsRow w.heap.size 5 1 b (64 * k) (U8 (d.take (64 * k))) ∧ Below w.heap.size w wr)) (fun _ i _ => n - (intOf i).toNat)
  case atStart => exact ⟨0, by omega, rfl, by simpa using HO.out, HB.out⟩
  case round =>
    obtain ⟨k, hkm, rfl, HR⟩ := hrel
    clear HO HB h0'
    by_cases hlt : k < n
    · have c0 : wr.cell? ⟨p, 0, none⟩ = some (.slice (some ⟨q, 0, none⟩) n cap) := (HR.out.2.cell (p := ⟨p, 0, none⟩) HH.out.blk.lt).trans h0
      have HN : Hid (∀ j u, (U8 (sec d k))[j]? = some u → wr.cell? ((⟨q, k * 128, none⟩ : Addr).add j) = some u) := fun j u hu => by
        rw [Addr.add_mid]
        exact rangeAt_same (HH.out.pl.dur k hlt) (HR.out.2.block q HH.out.pl.blk.lt) j u hu
      have HL : Hid ((sec d k).length = 64) := HH.out.pl.dl k hlt
      obtain ⟨bp, bc, rfl, _⟩ := own_slice HR.out.1
      go_wp2_with (at_builtin; refine wpList_append_own _ rfl (.tmp 22) (.tmp 30) 24 rfl w.heap.size 5 i0 (.int .u8 0) 1 1 Tryz.underlying24 hi hz0 hz1 hz2 rfl (by omega) _ (64 * k) _ rfl HR.out.1 ⟨q, k * 128, none⟩ 64 64 (U8 (sec d k)) rfl (by rw [U8_length]; exact HL.out) HN.out (ones_u8 _) (by unfold maxLen; omega) (by omega) HR.out.2.size ?_; intro v' w1 hown hgrow _; have HO1 : Hid (w1.ownsRow w.heap.size 5 1 v' (64 * (k + 1)) (U8 (d.take (64 * (k + 1)))) ∧ Below w.heap.size w w1) := ⟨by rw [sec_step, show 64 * (k + 1) = 64 * k + 64 by omega, show U8 (d.take (64 * k) ++ sec d k) = U8 (d.take (64 * k)) ++ U8 (sec d k) from List.map_append]; exact hown, HR.out.2.grown hgrow HR.out.2.size (fun j hj => (HR.out.1.lt j hj).1)⟩; clear hown hgrow HN)
      go_roundw
      case rel => exact ⟨k + 1, by omega, by go_num, HO1.out⟩
      case measure => simp [intOf]; omega
    · obtain rfl : k = n := by omega
      have HE : Hid (d.take (64 * k) = d) := List.take_of_length_le (by rw [HH.out.dl]; omega)
      go_wp2
      go_ret
      exact ⟨_, rfl, by have := HR.out.1; rw [HE.out] at this; exact this, HR.out.2⟩
end Go.Proofs.YtefnkjajjidfaaaGreatDoor
namespace Go.Proofs.YtefnkjajjidfaaaGreatDoor
open Go.RowKit
/-- what stands while an image is loaded -/
structure Ldn (w wr : World) (p q n cap : Nat) (v : Value) (D N : Nat → List Int) : Prop where
  str : wr.heap[p]? = some (.cells #[.slice (some ⟨q, 0, none⟩) n cap, v] 114 (0, 0))
  pl : Pl wr q n cap D N
  wt : wr.ownsRow 0 121 65 v 0 []
  below : Below w.heap.size w wr
  hp : w.heap.size ≤ p
  hq : w.heap.size ≤ q
  hv : ∀ k, v.ownBlock = some k → w.heap.size ≤ k
theorem Ldn.later {w wr w' : World} {p q n cap : Nat} {v : Value} {D N : Nat → List Int} (h : Ldn w wr p q n cap v D N) (hb : Below wr.heap.size wr w') : Ldn w w' p q n cap v D N :=
  ⟨(hb.block p (Blk.lt (t := 114) (sz := 2) ⟨_, h.str, rfl⟩)).trans h.str, h.pl.same (hb.block q h.pl.blk.lt), own_later h.wt hb, h.below.trans (hb.mono h.below.size), h.hp, h.hq, h.hv⟩
theorem Ldn.cell0 {w wr : World} {p q n cap : Nat} {v : Value} {D N : Nat → List Int} (h : Ldn w wr p q n cap v D N) : wr.cell? ⟨p, 0, none⟩ = some (.slice (some ⟨q, 0, none⟩) n cap) := by
  rw [cell_of_row _ _ _ _ 114 (0, 0) h.str]; rfl
theorem setCells_append (g : Nat) : ∀ (vs us : List Value) (o : Nat) (w : World), w.setCells g o (vs ++ us) = (w.setCells g o vs).setCells g (o + vs.length) us
  | [], us, o, w => rfl
  | v :: r, us, o, w => by
    show (w.setCell ⟨g, o, none⟩ v).setCells g (o + 1) (r ++ us) = _
    rw [setCells_append g r us (o + 1) _, List.length_cons, show o + 1 + r.length = o + (r.length + 1) by omega]
    rfl
theorem Ldn.set {w wr : World} {p q n cap k : Nat} {v : Value} {D N : Nat → List Int} (h : Ldn w wr p q n cap v D N) (b : List Int) (hb : b.length = 64) (hk : k < n) : Ldn w (wr.setCells q (k * 128) (U8 b ++ U8 b)) p q n cap v (fun i => if i = k then b else D i) (fun i => if i = k then b else N i) := by
  have hpq : p ≠ q := Blk.ne (t := 114) (sz := 2) ⟨_, h.str, rfl⟩ h.pl.blk (by decide)
  refine ⟨(setCells_other hpq _ _ _).trans h.str, ?_, own_same h.wt (fun k hk => ?_), below_setCells h.hq _ _ _ _ h.below, h.hp, h.hq, h.hv⟩
  · rw [setCells_append, U8_length, hb]
    exact (h.pl.setD b hb hk).setN b hb hk
  · obtain ⟨sz, hk'⟩ := own_ownBlk h.wt hk
    exact setCells_other (hk'.ne h.pl.blk (by decide)) _ _ _
/-- the sectors of the first k, and zeros -/
def upk (xs : List Int) (k : Nat) : Nat → List Int := fun i => if i < k then sec xs i else List.replicate 64 0
theorem upk_step (xs : List Int) (k : Nat) : (fun i => if i = k then sec xs k else upk xs k i) = upk xs (k + 1) := by
  funext i
  simp only [upk]
  by_cases c : i = k
  · subst c; simp
  · by_cases c2 : i < k
    · simp [c, c2, show i < k + 1 by omega]
    · simp [c, c2, show ¬ i < k + 1 by omega]
set_option maxHeartbeats 1000000 in
set_option maxRecDepth 100000 in
theorem load_odd (a : Option Addr) (m c : Nat) (w : World) (h : ¬ m % 64 = 0) (hm : m ≤ 140737488355328) : Calls Tryz.prog 17 #[.slice a m c] w fun e w' => e = .returned (.tuple #[.pointer none, .int .i64 2]) ∧ w = w' := by
  have e1 : ((m : Int) % 64 != 0) = true := by rw [bne_iff_ne]; omega
  go_enter Tryz.func17, Tryz.ntmps17
  go_wp2
  go_ret2
  exact ⟨rfl, rfl⟩
set_option maxHeartbeats 1000000 in
set_option maxRecDepth 100000 in
theorem load_bad (a : Option Addr) (m c : Nat) (w : World) (h : m % 64 = 0) (h2 : m = 0 ∨ 262144 < m) (hm : m ≤ 140737488355328) : Calls Tryz.prog 17 #[.slice a m c] w fun e w' => e = .returned (.tuple #[.pointer none, .int .i64 2]) ∧ w = w' := by
  have e1 : ((m : Int) % 64 != 0) = false := by rw [show (m : Int) % 64 = 0 by omega]; rfl
  go_enter Tryz.func17, Tryz.ntmps17
  go_wp2_with fail
  refine (new_bad ((m : Int) / 64) w (by omega)).mono ?_
  rintro e w1 ⟨rfl, rfl⟩
  go_wp2
  go_ret2
  exact ⟨rfl, rfl⟩
theorem sec_range {w : World} {g o m n k : Nat} {xs : List Int} (h : BIn w (some ⟨g, o, none⟩) m xs) (hm : m = 64 * n) (hk : k < n) : w.rangeAt g (o + k * 64) (U8 (sec xs k)) := fun j v hv => by
  have hj : j < 64 := by have := (List.getElem?_eq_some_iff.1 hv).1; rw [U8_length, sec_length (h.len.trans hm) hk] at this; exact this
  rw [Nat.add_assoc]
  refine h.range (k * 64 + j) v ?_
  rw [← hv]
  simp only [U8, List.getElem?_map, sec_get xs k j hj]
  rw [Nat.mul_comm]
set_option maxHeartbeats 2000000 in
set_option maxRecDepth 100000 in
theorem load_good (g o m c n : Nat) (xs : List Int) (w : World) (h : BIn w (some ⟨g, o, none⟩) m xs) (hm : m = 64 * n) (hmc : m ≤ c) (hn1 : 1 ≤ n) (hn2 : n ≤ 4096) :
    Calls Tryz.prog 17 #[.slice (some ⟨g, o, none⟩) m c] w fun e w' => ∃ p, e = .returned (.tuple #[.pointer (some ⟨p, 0, none⟩), .int .i64 0]) ∧ Dsk w' (fun k => w.heap.size ≤ k) p n xs [] ∧ Below w.heap.size w w' := by
  have e1 : ((m : Int) % 64 != 0) = false := by rw [show (m : Int) % 64 = 0 by omega]; rfl
  have e2 : (m : Int) / 64 = (n : Int) := by omega
  have HX : Hid (BIn w (some ⟨g, o, none⟩) m xs) := h
  have HL : Hid (xs.length = 64 * n) := h.len.trans hm
  have HM : Hid (m = 64 * n) := hm
  clear h hm
  go_enter Tryz.func17, Tryz.ntmps17
  go_wp2_with fail
  clear e1 e2
  refine (new_good n w hn1 hn2).mono ?_
  rintro e w1 ⟨p, rfl, ⟨q, cap, v, hd⟩, hb1⟩
  have h0 := hd.cell0
  have HD0 : Hid (Ldn w w1 p q n cap v (upk xs 0) (upk xs 0)) := by
    refine ⟨hd.str, hd.pl.congr (fun i hi => ?_) (fun i hi => ?_), hd.wt, hb1, hd.sp, hd.sq, hd.sv⟩
    · rw [sec_zeros n i hi]; rfl
    · rw [newest_nil, sec_zeros n i hi]; rfl
  clear hd
  go_wp2
  clear h0
  go_loopw [27] (fun i wr => ∃ k : Nat, k ≤ n ∧ i = .int .i64 k ∧ Hid (Ldn w wr p q n cap v (upk xs k) (upk xs k))) (fun i _ => n - (intOf i).toNat)
  case atStart => exact ⟨0, by omega, rfl, HD0.out⟩
  case round =>
    obtain ⟨k, hkm, rfl, HR⟩ := hrel
    clear HD0
    by_cases hlt : k < n
    · have hm := HM.out
      have hmul : IntKind.i64.wrap ((k : Int) * 64) = (k : Int) * 64 := by rw [IntKind.wrap_i64]; omega
      have l1 : (k : Int) * 64 ≤ (m : Int) := by omega
      have l2 : (m : Int) ≤ (c : Int) := by omega
      have l3 : ¬ (c : Int) = (k : Int) * 64 := by omega
      have l4 : (0 : Int) ≤ (k : Int) * 64 := by omega
      have hr : wr.rangeAt g (o + k * 64) (U8 (sec xs k)) := sec_range (HX.out.later HR.out.below) hm hlt
      have HLk : Hid ((sec xs k).length = 64) := sec_length HL.out hlt
      have hat : ∀ (w : World) (a : Option Addr) (l c : Nat), 64 ≤ l → (Instr.arrayAt 116 (.slice a l c)).run Tryz.prog w = .ok (.pointer a) w := fun w a l c hl => run_arrayAt w 116 _ 64 _ l c Tryz.underlying116 hl
      have hat2 := fun w c => hat w (some ⟨g, o + k * 64, none⟩) (m - k * 64) c (by omega)
      have HRb : Hid (Bytes (sec xs k)) := HX.out.byte.sec k
      have HU : Hid (Ldn w ((wr.alloc (.cells (U8 (sec xs k)).toArray 116)).setCells q (k * 128) (U8 (sec xs k) ++ U8 (sec xs k))) p q n cap v (upk xs (k + 1)) (upk xs (k + 1))) := by
        have := (HR.out.later (below_alloc wr (.cells (U8 (sec xs k)).toArray 116))).set (sec xs k) HLk.out hlt
        rw [upk_step] at this
        exact this
      have hD := HR.out.later (below_alloc wr (.cells (U8 (sec xs k)).toArray 116))
      have t0 := hD.cell0
      have t1 : (wr.alloc (.cells (U8 (sec xs k)).toArray 116)).rangeAt wr.heap.size 0 (U8 (sec xs k)) := new_range wr _ 116
      have t2 : (wr.alloc (.cells (U8 (sec xs k)).toArray 116)).there q (k * 128) 128 := hD.pl.blk.there _ _ (by have := hD.pl.ncap; omega)
      have HNE : Hid (p ≠ q ∧ wr.heap.size ≠ q) := ⟨Blk.ne (t := 114) (sz := 2) ⟨_, hD.str, rfl⟩ hD.pl.blk (by decide), by have := HR.out.pl.blk.lt; omega⟩
      clear hat hm HR hD
      generalize sec xs k = b at *
      go_wp2_with (first | (refine wpList_load_mid (by rfl) 116 (.tmp 34) (by rfl) g (o + k * 64) (by rfl) (U8 b) _ hr Tryz.underlying116 rfl (by rw [size69, U8_length, HLk.out]) ?_) | (refine wpList_alloc69 (by rfl) (by rfl) ?_) | (refine wpList_store69 (by rfl) (.tmp 7) (.tmp 35) (by rfl) b (by rfl) (by rfl) HLk.out ?_) | fail)
      simp only [Act.put, List.setIfInBounds_toArray, List.set_cons_zero, List.set_cons_succ]
      obtain ⟨W, hW⟩ : ∃ W, wr.alloc (.cells (U8 b).toArray 116) = W := ⟨_, rfl⟩
      rw [hW] at t0 t1 t2 HU ⊢
      clear hW hr hat2 hmul l1 l2 l3 l4
      have i1 : (k : Int) < (n : Int) := by omega
      have i0 : (0 : Int) ≤ (k : Int) := by omega
      have k0 : (W.drew.setCells q (k * 128) (U8 b ++ U8 b)).cell? ⟨p, 0, none⟩ = some (.slice (some ⟨q, 0, none⟩) n cap) := by
        rw [World.cell?_setCells_out _ _ _ _ _ (fun e => absurd e HNE.out.1)]; exact t0
      have k1 : (W.drew.setCells q (k * 128) (U8 b ++ U8 b)).rangeAt wr.heap.size 0 (U8 b) := World.rangeAt_setCells_apart (w := W.drew) t1 _ _ _ (Or.inl HNE.out.2)
      have k2 : (W.drew.setCells q (k * 128) (U8 b ++ U8 b)).there q (k * 128) 128 := World.there_setCells (w := W.drew) t2 _ _ _
      refine wp_region_noPanic ?_
      refine wp_region_held_drew (S := (fun w' => w'.cell? ⟨p, 0, none⟩ = some (.slice (some ⟨q, 0, none⟩) n cap) ∧ w'.rangeAt wr.heap.size 0 (U8 b) ∧ w'.there q (k * 128) 128)) (by kernel_rfl) ⟨t0, t1, t2⟩ (fun hHeld => ?_)
      refine wpAnyH_take (i := 0) (v := ?v0) (by simp; rfl) (by kernel_rfl) (by kernel_rfl) (by kernel_rfl) (fun _ _ _ h => h) (Or.inl ⟨by rfl, ?y0⟩) hHeld ?r0
      case y0 => intro w hSw; obtain ⟨hSw, -, -⟩ := hSw; go_simp; with_reducible rfl
      simp only [Act.put, List.setIfInBounds_toArray, List.set_cons_zero, List.set_cons_succ]
      refine wpAnyH_take (i := 1) (v := ?v1) (by simp; rfl) (by kernel_rfl) (by kernel_rfl) (by kernel_rfl) (fun _ _ _ h => h) (Or.inl ⟨by rfl, ?y1⟩) hHeld ?r1
      case y1 => intro w hSw; obtain ⟨hSw, -, -⟩ := hSw; go_simp; with_reducible rfl
      simp only [Act.put, List.setIfInBounds_toArray, List.set_cons_zero, List.set_cons_succ]
      refine wpAnyH_take (i := 2) (v := ?v2) (by simp; rfl) (by kernel_rfl) (by kernel_rfl) (by kernel_rfl) (fun _ _ _ h => h) (Or.inl ⟨by rfl, ?y2⟩) hHeld ?r2
      case y2 => intro w hSw; obtain ⟨hSw, -, -⟩ := hSw; go_simp; with_reducible rfl
      simp only [Act.put, List.setIfInBounds_toArray, List.set_cons_zero, List.set_cons_succ]
      refine wpAnyH_take (i := 3) (v := ?v3) (by simp; rfl) (by kernel_rfl) (by kernel_rfl) (by kernel_rfl) (fun _ _ _ h => h) (Or.inl ⟨by rfl, ?y3⟩) hHeld ?r3
      case y3 => intro w hSw; obtain ⟨hSw, -, -⟩ := hSw; go_simp; with_reducible rfl
      simp only [Act.put, List.setIfInBounds_toArray, List.set_cons_zero, List.set_cons_succ]
      refine wpAnyH_take (i := 4) (v := ?v4) (by simp; rfl) (by kernel_rfl) (by kernel_rfl) (by kernel_rfl) (fun _ _ _ h => h) (Or.inl ⟨by rfl, ?y4⟩) hHeld ?r4
      case y4 => intro w hSw; obtain ⟨hSw, -, -⟩ := hSw; go_simp; with_reducible rfl
      simp only [Act.put, List.setIfInBounds_toArray, List.set_cons_zero, List.set_cons_succ]
      refine wpAnyH_take (i := 5) (v := _) (by simp; rfl) (by kernel_rfl) (by kernel_rfl) (by kernel_rfl) (fun _ _ _ h => h) (yieldsIf_load_mid (by rfl) 116 (.tmp 7) rfl wr.heap.size 0 rfl (U8 b) _ (fun _ h => h.2.1) Tryz.underlying116 rfl (by rw [size69, U8_length, HLk.out])) hHeld ?_
      simp only [Act.put, List.setIfInBounds_toArray, List.set_cons_zero, List.set_cons_succ]
      refine wpAnyH_take (i := 6) (v := _) (by simp; rfl) (by kernel_rfl) (by kernel_rfl) (by kernel_rfl) (fun _ _ _ h => h) (yieldsIf_load_mid (by rfl) 116 (.tmp 7) rfl wr.heap.size 0 rfl (U8 b) _ (fun _ h => h.2.1) Tryz.underlying116 rfl (by rw [size69, U8_length, HLk.out])) hHeld ?_
      simp only [Act.put, List.setIfInBounds_toArray, List.set_cons_zero, List.set_cons_succ]
      refine wpAnyH_take (i := 7) (v := _) (by simp; rfl) (by kernel_rfl) (by kernel_rfl) (by kernel_rfl) (fun _ _ _ h => h) (yields_build71 (by rfl) (.tmp 41) (.tmp 42) rfl b b rfl rfl HLk.out HLk.out) hHeld ?_
      simp only [Act.put, List.setIfInBounds_toArray, List.set_cons_zero, List.set_cons_succ]
      refine wpAnyH_take (i := 8) (v := ?v8) (by simp; rfl) (by kernel_rfl) (by kernel_rfl) (by kernel_rfl) (fun _ _ _ h => h) (Or.inl ⟨by rfl, ?y8⟩) hHeld ?r8
      case y8 => intro w hSw; clear hSw; go_simp; with_reducible rfl
      simp only [Act.put, List.setIfInBounds_toArray, List.set_cons_zero, List.set_cons_succ]
      refine wpAnyH_ready (rs := [9]) (by kernel_rfl) (by simp) ?_
      refine AllReadyH.cons (by simp; rfl) (fun K hK => ?_) AllReadyH.nil
      rw [if_pos (by rfl)]
      refine wp_store_mid 118 (.tmp 44) (.tmp 43) rfl q (k * 128) (U8 b ++ U8 b).toArray rfl rfl (by rw [List.size_toArray, List.length_append, U8_length, HLk.out]; exact t2) (by rw [size71, List.size_toArray, List.length_append, U8_length, HLk.out]) (all_oneCell_toArray (fun u hu => (List.mem_append.1 hu).elim (ones_u8 b u) (ones_u8 b u))) ?_
      rw [List.toList_toArray]
      refine hK.out _ _ ⟨k0, k1, k2⟩ (fun hHeld => ?_)
      clear hK K
      refine wpAnyH_done (by kernel_rfl) (NoPanic.normal ?_) _
      simp only [Act.put]
      rw [setCells_drew]
      clear k0 k1 k2 t0 t1 t2
      go_wp2
      go_roundw
      case rel => exact ⟨k + 1, by omega, by go_num, HU.out.later ⟨rfl, rfl, rfl, Nat.le_refl _, fun _ _ => rfl⟩⟩
      case measure => simp [intOf]; omega
    · obtain rfl : k = n := by omega
      have HF : Hid (Dsk wr (fun k => w.heap.size ≤ k) p k xs [] ∧ Below w.heap.size w wr) := by
        refine ⟨⟨q, cap, v, HR.out.str, HR.out.pl.congr (fun i hi => ?_) (fun i hi => ?_), HR.out.wt, HR.out.hp, HR.out.hq, HR.out.hv, hn1, hn2, HL.out, HX.out.byte, Fit.nil _⟩, HR.out.below⟩
        · simp [upk, hi]
        · simp [upk, hi, newest_nil]
      clear HR
      go_wp2
      go_ret2
      exact ⟨_, rfl, HF.out.1, HF.out.2⟩
end Go.Proofs.YtefnkjajjidfaaaGreatDoor
namespace Go.Proofs.YtefnkjajjidfaaaGreatDoor
open Go.RowKit
/-- a list of writes that was told: its row g, the bytes' lists vs, in blocks from B on that rise -/
structure Told (w : World) (B g : Nat) (ws : List Wr) (vs : List Value) : Prop where
  len : vs.length = ws.length
  blk : Blk w g 98 (ws.length * 2)
  hg : B ≤ g
  sect : ∀ i (h : i < ws.length), w.cell? ⟨g, i * 2, none⟩ = some (.int .i64 (ws[i].s : Int))
  data : ∀ i (h : i < vs.length), w.cell? ⟨g, i * 2 + 1, none⟩ = some vs[i]
  each : ∀ i (h : i < ws.length) (h2 : i < vs.length), w.ownsRow B 5 1 vs[i] 64 (U8 ws[i].b)
  apart : ∀ i j (hi : i < vs.length) (hj : j < vs.length), i < j → ∀ a b, vs[i].ownBlock = some a → vs[j].ownBlock = some b → a < b
theorem Told.later {w w' : World} {B g : Nat} {ws : List Wr} {vs : List Value} (h : Told w B g ws vs) (hb : Below w.heap.size w w') : Told w' B g ws vs :=
  ⟨h.len, h.blk.same (hb.block g h.blk.lt), h.hg, fun i hi => (hb.cell (p := ⟨g, i * 2, none⟩) h.blk.lt).trans (h.sect i hi), fun i hi => (hb.cell (p := ⟨g, i * 2 + 1, none⟩) h.blk.lt).trans (h.data i hi), fun i h1 h2 => own_later (h.each i h1 h2) hb, h.apart⟩
/-- while it is told: the first k -/
structure Tel (w wr : World) (ws : List Wr) (k : Nat) (vs : List Value) : Prop where
  len : vs.length = k
  hk : k ≤ ws.length
  blk : Blk wr w.heap.size 98 (ws.length * 2)
  sect : ∀ i (h : i < ws.length), i < k → wr.cell? ⟨w.heap.size, i * 2, none⟩ = some (.int .i64 (ws[i].s : Int))
  data : ∀ i (h : i < vs.length), wr.cell? ⟨w.heap.size, i * 2 + 1, none⟩ = some vs[i]
  each : ∀ i (h : i < ws.length) (h2 : i < vs.length), wr.ownsRow (w.heap.size + 1) 5 1 vs[i] 64 (U8 ws[i].b)
  apart : ∀ i j (hi : i < vs.length) (hj : j < vs.length), i < j → ∀ a b, vs[i].ownBlock = some a → vs[j].ownBlock = some b → a < b
  below : Below w.heap.size w wr
theorem Tel.later {w wr w' : World} {ws : List Wr} {k : Nat} {vs : List Value} (h : Tel w wr ws k vs) (hb : Below wr.heap.size wr w') : Tel w w' ws k vs :=
  ⟨h.len, h.hk, h.blk.same (hb.block _ h.blk.lt), fun i hi hik => (hb.cell (p := ⟨w.heap.size, i * 2, none⟩) h.blk.lt).trans (h.sect i hi hik), fun i hi => (hb.cell (p := ⟨w.heap.size, i * 2 + 1, none⟩) h.blk.lt).trans (h.data i hi), fun i h1 h2 => own_later (h.each i h1 h2) hb, h.apart, h.below.trans (hb.mono h.below.size)⟩
theorem Blk.some {w : World} {g t sz : Nat} (h : Blk w g t sz) (o : Nat) (ho : o < sz) : ∃ u, w.cell? ⟨g, o, none⟩ = some u := by
  obtain ⟨cur, h, hs⟩ := h
  exact ⟨cur[o], by rw [cell_of_row w g o cur t (0, 0) h, Array.getElem?_eq_getElem (by omega)]⟩
theorem Blk.free {w : World} {g t sz : Nat} (h : Blk w g t sz) (o : Nat) : w.frozen? ⟨g, o, none⟩ = false := by
  obtain ⟨cur, h, hs⟩ := h
  exact frozen_of_row w g o _ t h
theorem Tel.step {w wr w1 : World} {ws : List Wr} {k : Nat} {vs : List Value} {v : Value} (h : Tel w wr ws k vs) (hb : Below wr.heap.size wr w1) (hk : k < ws.length) (hv : w1.ownsRow wr.heap.size 5 1 v 64 (U8 ws[k].b)) :
    Tel w ((w1.setCell ⟨w.heap.size, k * 2, none⟩ (.int .i64 (ws[k].s : Int))).setCell ⟨w.heap.size, k * 2 + 1, none⟩ v) ws (k + 1) (vs ++ [v]) := by
  have h1 := h.later hb
  have hlt := h.blk.lt
  obtain ⟨u0, c0⟩ := h1.blk.some (k * 2) (by omega)
  obtain ⟨u1, c1⟩ := (h1.blk.setCell (g' := w.heap.size) (o := k * 2) (.int .i64 (ws[k].s : Int))).some (k * 2 + 1) (by omega)
  have hold : ∀ {vv : Value} {xs : List Value} {nn : Nat}, w1.ownsRow (w.heap.size + 1) 5 1 vv nn xs → ((w1.setCell ⟨w.heap.size, k * 2, none⟩ (.int .i64 (ws[k].s : Int))).setCell ⟨w.heap.size, k * 2 + 1, none⟩ v).ownsRow (w.heap.size + 1) 5 1 vv nn xs := fun {vv xs nn} ho =>
    own_same ho (fun b hb' => (heap_setCell_other _ _ _ _ (by have := (ho.lt b hb').1; show b ≠ w.heap.size; omega)).trans (heap_setCell_other _ _ _ _ (by have := (ho.lt b hb').1; show b ≠ w.heap.size; omega)))
  refine ⟨by simp [h.len], by omega, (h1.blk.setCell _).setCell _, fun i hi hik => ?_, fun i hi => ?_, fun i hi h2 => ?_, fun i j hi hj hij a b ha hb' => ?_, (h1.below.setCell (Nat.le_refl _) _).setCell (Nat.le_refl _) _⟩
  · rw [World.cell?_setCell_other _ _ _ _ (by intro e; simp only [Addr.mk.injEq] at e; omega)]
    by_cases c : i = k
    · subst c
      exact World.cell?_setCell_same _ _ _ c0
    · rw [World.cell?_setCell_other _ _ _ _ (by intro e; simp only [Addr.mk.injEq] at e; omega)]
      exact h1.sect i hi (by omega)
  · by_cases c : i < vs.length
    · have hl := h.len
      rw [World.cell?_setCell_other _ _ _ _ (by intro e; simp only [Addr.mk.injEq] at e; omega), World.cell?_setCell_other _ _ _ _ (by intro e; simp only [Addr.mk.injEq] at e; omega), List.getElem_append_left c]
      exact h1.data i c
    · have e : i = k := by simp at hi; have := h.len; omega
      subst e
      rw [World.cell?_setCell_same _ _ _ c1]
      simp [← h.len]
  · by_cases c : i < vs.length
    · rw [List.getElem_append_left c]
      exact hold (h1.each i hi c)
    · have e : i = k := by simp at h2; have := h.len; omega
      subst e
      have e2 : (vs ++ [v])[i] = v := by simp [← h.len]
      rw [e2]
      exact hold (own_mono hv (by have := h.blk.lt; omega))
  · by_cases c : j < vs.length
    · rw [List.getElem_append_left c] at hb'
      rw [List.getElem_append_left (by omega)] at ha
      exact h.apart i j (by omega) c hij a b ha hb'
    · have e : j = k := by simp at hj; have := h.len; omega
      subst e
      have e2 : (vs ++ [v])[j] = v := by simp [← h.len]
      rw [e2] at hb'
      have hi' : i < vs.length := by have := h.len; omega
      rw [List.getElem_append_left hi'] at ha
      have f1 := (hv.lt b hb').1
      have f2 := ((h.each i (by omega) hi').lt a ha).2
      omega
theorem info82 : (Tryz.prog.info? 98).map (fun i => (i.zero, i.size, i.bytes)) = some (some (.agg #[.int .i64 0, .slice none 0 0]), 2, 32) := by kernel_rfl
set_option maxHeartbeats 400000 in
set_option maxRecDepth 100000 in
theorem waiting_nil (w : World) : Calls Tryz.prog 31 #[.pointer none] w fun e w' => e = .returned (.slice none 0 0) ∧ w = w' := by
  go_enter Tryz.func31, Tryz.ntmps31
  go_wp2
  go_ret
  exact ⟨rfl, rfl⟩
set_option maxHeartbeats 2000000 in
set_option maxRecDepth 100000 in
theorem waiting_any {w : World} {S : Nat → Prop} {p n : Nat} {d : List Int} {ws : List Wr} (h : Dsk w S p n d ws) (hk : ws.length ≤ 100000) :
    Calls Tryz.prog 31 #[.pointer (some ⟨p, 0, none⟩)] w fun e w' => ∃ g vs, e = .returned (.slice (some ⟨g, 0, none⟩) ws.length ws.length) ∧ Told w' w.heap.size g ws vs ∧ Below w.heap.size w w' := by
  obtain ⟨i0, hi, hz0, hz1, hz2⟩ := info_parts info82
  obtain ⟨q, cap, v, h⟩ := h
  have h1 := h.cell1
  have HH : Hid (PD w S p n d ws q cap v) := h
  obtain ⟨pv, cv, rfl, _⟩ := own_slice h.wt
  clear h
  have hmk := run_make (P := Tryz.prog) w 92 98 i0 _ Tryz.underlying92 hi hz0 .i64 .i64 (ws.length : Int) (ws.length : Int) (by omega) (Int.le_refl _) (by rw [hz2]; omega) (by omega)
  rw [hz1] at hmk
  simp only [Int.toNat_natCast, Value.cells] at hmk
  have HT : Hid (Tel w (w.alloc (.cells (madeCells #[.int .i64 0, .slice none 0 0] (ws.length * 2)) 98)) ws 0 []) :=
    ⟨rfl, Nat.zero_le _, ⟨_, heap_alloc_new w _, size_madeCells _ _⟩, fun i _ h => by omega, fun i h => by simp at h, fun i _ h => by simp at h, fun i j h => by simp at h, below_alloc w _⟩
  obtain ⟨ob, hob⟩ : ∃ ob, Obj.cells (madeCells #[.int .i64 0, .slice none 0 0] (ws.length * 2)) 98 = ob := ⟨_, rfl⟩
  rw [hob] at hmk HT
  clear hob
  have h1' : (w.alloc ob).cell? ⟨p, 1, none⟩ = some (.slice pv ws.length cv) := (HH.out.later (below_alloc w ob)).cell1
  go_enter Tryz.func31, Tryz.ntmps31
  go_wp2
  clear hmk h1'
  generalize w.alloc ob = W0 at *
  go_loopw [19] (fun i wr => ∃ (k : Nat) (vs : List Value), i = .int .i64 k ∧ Hid (Tel w wr ws k vs)) (fun i _ => ws.length - (intOf i).toNat)
  case atStart => exact ⟨0, [], rfl, HT.out⟩
  case round =>
    obtain ⟨k, vs, rfl, HR⟩ := hrel
    clear HT
    have hkl := HR.out.hk
    by_cases hlt : k < ws.length
    · have hp1 := HH.out.later HR.out.below
      obtain ⟨g, c', e, hr⟩ := wt_range hp1.wt HH.out.fit hlt
      simp only [Value.slice.injEq, true_and] at e
      obtain ⟨rfl, rfl⟩ := e
      have HX := HH.out.fit.at k hlt
      have HS : Hid (∀ (w1 : World) (v : Value), Below (wr.alloc (.cells (wcell ws[k]).toArray 121)).heap.size (wr.alloc (.cells (wcell ws[k]).toArray 121)) w1 → w1.ownsRow (wr.alloc (.cells (wcell ws[k]).toArray 121)).heap.size 5 1 v 64 (U8 ws[k].b) → Tel w ((w1.setCell ⟨w.heap.size, k * 2, none⟩ (.int .i64 (ws[k].s : Int))).setCell ⟨w.heap.size, k * 2 + 1, none⟩ v) ws (k + 1) (vs ++ [v])) :=
        fun w1 v hb ho => (HR.out.later (below_alloc wr _)).step hb hlt ho
      have HB0 : Hid (Blk (wr.alloc (.cells (wcell ws[k]).toArray 121)) w.heap.size 98 (ws.length * 2)) := (HR.out.later (below_alloc wr _)).blk
      generalize ws[k] = X at *
      have t1 : (wr.alloc (.cells (wcell X).toArray 121)).cell? ⟨wr.heap.size, 0, none⟩ = some (.int .i64 (X.s : Int)) := by
        rw [cell_of_row _ _ _ _ 121 (0, 0) (heap_alloc_new wr _)]; rfl
      have t2 : (wr.alloc (.cells (wcell X).toArray 121)).rangeAt wr.heap.size 1 (U8 X.b) := new_range_at wr _ _ 1 121 (wcell_data X)
      have hsz : (wr.alloc (.cells (wcell X).toArray 121)).heap.size = wr.heap.size + 1 := by simp
      have hwlt : w.heap.size < wr.heap.size := HR.out.blk.lt
      have HXl : Hid (X.b.length = 64) := HX.2.1
      clear HR hp1 h1
      go_wp2_with (first | (refine wpList_load_mid (by rfl) 121 (.tmp 22) (by rfl) g (k * 65) (by rfl) (wcell X) _ hr Tryz.underlying121 rfl (by rw [size80]; simp [wcell, HX.2.1]) ?_) | (refine wpList_alloc80 (by rfl) (by rfl) ?_) | (refine wpList_store80 (by rfl) (.tmp 5) (.tmp 23) (by rfl) X (by rfl) (by rfl) HX.2.1 ?_) | fail)
      simp only [Act.put]
      obtain ⟨W, hW⟩ : ∃ W, wr.alloc (.cells (wcell X).toArray 121) = W := ⟨_, rfl⟩
      rw [hW] at t1 t2 HS HB0 hsz ⊢
      clear hW hr HX
      have i1 : (k : Int) < (ws.length : Int) := by omega
      have i0' : (0 : Int) ≤ (k : Int) := by omega
      have hne : ¬ wr.heap.size = w.heap.size := by omega
      go_region_held3 (fun w' => w'.cell? ⟨wr.heap.size, 0, none⟩ = some (.int .i64 (X.s : Int)) ∧ w'.rangeAt wr.heap.size 1 (U8 X.b)) (first | exact ⟨t1, t2⟩ | exact ⟨a1, a2⟩ | exact ⟨b1, b2⟩) (first | (go_at_call 49; refine (clone_range wr.heap.size 1 64 64 X.b _ HXl.out (by omega) ?_).mono ?_; exact (‹_ ∧ World.rangeAt _ _ _ _›).2; rintro e wa ⟨v1, rfl, hown, hba⟩; have hba' : Below W.heap.size W wa := ⟨hba.os, hba.tape, hba.output, hba.size, hba.block⟩; obtain ⟨pv1, cv1, rfl, _⟩ := own_slice hown; have a1 : wa.cell? ⟨wr.heap.size, 0, none⟩ = some (.int .i64 (X.s : Int)) := (hba'.cell (p := ⟨wr.heap.size, 0, none⟩) (by show wr.heap.size < W.heap.size; omega)).trans t1; have a2 := rangeAt_same t2 (hba'.block wr.heap.size (by omega)); have HB1 := HB0.out.same (hba'.block w.heap.size HB0.out.lt); obtain ⟨u0, s0⟩ := HB1.some (k * 2) (by omega); obtain ⟨u1, s1⟩ := HB1.some (k * 2 + 1) (by omega); have f0 := HB1.free (k * 2); have f1 := HB1.free (k * 2 + 1); have HN := HS.out wa _ hba' hown; have b1 : ((wa.setCell ⟨w.heap.size, k * 2, none⟩ (.int .i64 (X.s : Int))).setCell ⟨w.heap.size, k * 2 + 1, none⟩ (.slice pv1 64 cv1)).cell? ⟨wr.heap.size, 0, none⟩ = some (.int .i64 (X.s : Int)) := by { rw [World.cell?_setCell_far _ _ _ _ (by show w.heap.size ≠ wr.heap.size; omega), World.cell?_setCell_far _ _ _ _ (by show w.heap.size ≠ wr.heap.size; omega)]; exact a1 }; have b2 : ((wa.setCell ⟨w.heap.size, k * 2, none⟩ (.int .i64 (X.s : Int))).setCell ⟨w.heap.size, k * 2 + 1, none⟩ (.slice pv1 64 cv1)).rangeAt wr.heap.size 1 (U8 X.b) := rangeAt_same a2 ((heap_setCell_other _ _ _ _ (by show wr.heap.size ≠ w.heap.size; omega)).trans (heap_setCell_other _ _ _ _ (by show wr.heap.size ≠ w.heap.size; omega)))))
      clear b1 b2 a1 a2 s0 s1 f0 f1 HB1 HS t1 t2
      have HN2 : Hid (Tel w ((wa.setCell ⟨w.heap.size, k * 2, none⟩ (.int .i64 (X.s : Int))).setCell ⟨w.heap.size, k * 2 + 1, none⟩ (.slice pv1 64 cv1)) ws (k + 1) (vs ++ [.slice pv1 64 cv1])) := HN
      clear HN
      go_wp2
      go_roundw
      case rel => exact ⟨k + 1, _, by go_num, HN2.out⟩
      case measure => simp [intOf]; omega
    · obtain rfl : k = ws.length := by omega
      have HF : Hid (Told wr w.heap.size w.heap.size ws vs ∧ Below w.heap.size w wr) :=
        ⟨⟨HR.out.len, HR.out.blk, Nat.le_refl _, fun i hi => HR.out.sect i hi hi, HR.out.data, fun i h1 h2 => own_mono (HR.out.each i h1 h2) (Nat.le_succ _), HR.out.apart⟩, HR.out.below⟩
      clear HR
      go_wp2
      go_ret
      exact ⟨_, vs, rfl, HF.out.1, HF.out.2⟩
end Go.Proofs.YtefnkjajjidfaaaGreatDoor
namespace Go.Proofs.YtefnkjajjidfaaaGreatDoor
open Go.RowKit
/-- the cells of the document's waiting writes -/
def ZC (ws : List Wr) (vs : List Value) : List Value := (List.zipWith (fun (x : Wr) u => [Value.int .i64 (x.s : Int), u]) ws vs).flatten
/-- **a disk of the document**: its block p, its durable bytes in block g, its writes v, their bytes vs -/
structure RD (w : World) (S : Nat → Prop) (p n : Nat) (d : List Int) (ws : List Wr) (g L cap : Nat) (v : Value) (vs : List Value) : Prop where
  str : w.heap[p]? = some (.cells #[.slice (some ⟨g, 0, none⟩) L cap, v] 97 (0, 0))
  dur : w.ownsRow 0 5 1 (.slice (some ⟨g, 0, none⟩) L cap) L (U8 d)
  wr : w.ownsRow 0 99 2 v ws.length (ZC ws vs)
  len : vs.length = ws.length
  dat : ∀ i (h : i < ws.length) (h2 : i < vs.length), w.ownsRow 0 5 1 vs[i] 64 (U8 ws[i].b)
  ne : ∀ i (h2 : i < vs.length), vs[i].ownBlock ≠ some g
  sp : S p
  sg : S g
  sv : ∀ k, v.ownBlock = some k → S k
  sd : ∀ i (h2 : i < vs.length) k, vs[i].ownBlock = some k → S k
  hL : L = 64 * n
  n1 : 1 ≤ n
  n2 : n ≤ 4096
  dl : d.length = 64 * n
  db : Bytes d
  fit : Fit n ws
def Ref (w : World) (S : Nat → Prop) (p n : Nat) (d : List Int) (ws : List Wr) : Prop := ∃ g L cap v vs, RD w S p n d ws g L cap v vs
theorem RD.blk {w : World} {S : Nat → Prop} {p n : Nat} {d : List Int} {ws : List Wr} {g L cap : Nat} {v : Value} {vs : List Value} (h : RD w S p n d ws g L cap v vs) : Blk w p 97 2 := ⟨_, h.str, rfl⟩
theorem RD.cell0 {w : World} {S : Nat → Prop} {p n : Nat} {d : List Int} {ws : List Wr} {g L cap : Nat} {v : Value} {vs : List Value} (h : RD w S p n d ws g L cap v vs) : w.cell? ⟨p, 0, none⟩ = some (.slice (some ⟨g, 0, none⟩) L cap) := by
  rw [cell_of_row w p 0 _ 97 (0, 0) h.str]; rfl
theorem RD.cell1 {w : World} {S : Nat → Prop} {p n : Nat} {d : List Int} {ws : List Wr} {g L cap : Nat} {v : Value} {vs : List Value} (h : RD w S p n d ws g L cap v vs) : w.cell? ⟨p, 1, none⟩ = some v := by
  rw [cell_of_row w p 1 _ 97 (0, 0) h.str]; rfl
theorem RD.free {w : World} {S : Nat → Prop} {p n : Nat} {d : List Int} {ws : List Wr} {g L cap : Nat} {v : Value} {vs : List Value} (h : RD w S p n d ws g L cap v vs) (j : Nat) : w.frozen? ⟨p, j, none⟩ = false := frozen_of_row w p j _ 97 h.str
theorem RD.same {w w' : World} {S T : Nat → Prop} {p n : Nat} {d : List Int} {ws : List Wr} {g L cap : Nat} {v : Value} {vs : List Value} (h : RD w S p n d ws g L cap v vs) (hs : ∀ k, k < w.heap.size → S k → T k) (e : ∀ k, k < w.heap.size → S k → w'.heap[k]? = w.heap[k]?) : RD w' T p n d ws g L cap v vs :=
  have hp := h.blk.lt
  have hg := (own_blk h.dur).1.lt
  have hv : ∀ k, v.ownBlock = some k → k < w.heap.size := fun _ hk => (own_ownBlk h.wr hk).elim fun _ hb => hb.lt
  have hd : ∀ i (h2 : i < vs.length) k, vs[i].ownBlock = some k → k < w.heap.size := fun i h2 _ hk => (own_ownBlk (h.dat i (by have := h.len; omega) h2) hk).elim fun _ hb => hb.lt
  ⟨(e p hp h.sp).trans h.str, own_same h.dur (fun k hk => by simp only [Value.ownBlock, Option.some.injEq] at hk; subst hk; exact e _ hg h.sg), own_same h.wr (fun k hk => e k (hv k hk) (h.sv k hk)), h.len, fun i h1 h2 => own_same (h.dat i h1 h2) (fun k hk => e k (hd i h2 k hk) (h.sd i h2 k hk)), h.ne, hs p hp h.sp, hs g hg h.sg, fun k hk => hs k (hv k hk) (h.sv k hk), fun i h2 k hk => hs k (hd i h2 k hk) (h.sd i h2 k hk), h.hL, h.n1, h.n2, h.dl, h.db, h.fit⟩
theorem RD.later {w w' : World} {S : Nat → Prop} {p n : Nat} {d : List Int} {ws : List Wr} {g L cap : Nat} {v : Value} {vs : List Value} (h : RD w S p n d ws g L cap v vs) (hb : Below w.heap.size w w') : RD w' S p n d ws g L cap v vs :=
  h.same (fun _ _ => id) (fun k' hk' _ => hb.block k' hk')
theorem Ref.later {w w' : World} {S : Nat → Prop} {p n : Nat} {d : List Int} {ws : List Wr} (h : Ref w S p n d ws) (hb : Below w.heap.size w w') : Ref w' S p n d ws := by
  obtain ⟨g, L, cap, v, vs, h⟩ := h; exact ⟨g, L, cap, v, vs, h.later hb⟩
theorem Ref.kept {w w' : World} {S T : Nat → Prop} {p n : Nat} {d : List Int} {ws : List Wr} (h : Ref w S p n d ws) (hk : Kept T w w') (hd : ∀ k, S k → T k → False) : Ref w' S p n d ws := by
  obtain ⟨g, L, cap, v, vs, h⟩ := h; exact ⟨g, L, cap, v, vs, h.same (fun _ _ => id) (fun k hk' hs => hk.block k hk' (fun t => hd k hs t))⟩
theorem Ref.mono {w : World} {S T : Nat → Prop} {p n : Nat} {d : List Int} {ws : List Wr} (h : Ref w S p n d ws) (hs : ∀ k, k < w.heap.size → S k → T k) : Ref w T p n d ws := by
  obtain ⟨g, L, cap, v, vs, h⟩ := h; exact ⟨g, L, cap, v, vs, h.same hs (fun _ _ _ => rfl)⟩
/-- a new one out of its bytes -/
theorem ref_fin {w w1 : World} {g L cap n : Nat} {d : List Int} (hb : Below w.heap.size w w1) (hd : w1.ownsRow w.heap.size 5 1 (.slice (some ⟨g, 0, none⟩) L cap) L (U8 d)) (hL : L = 64 * n) (hn1 : 1 ≤ n) (hn2 : n ≤ 4096) (hy : Bytes d) :
    Ref (w1.alloc (.cells #[.slice (some ⟨g, 0, none⟩) L cap, .slice none 0 0] 97)) (fun k => w.heap.size ≤ k) w1.heap.size n d [] ∧ Below w.heap.size w (w1.alloc (.cells #[.slice (some ⟨g, 0, none⟩) L cap, .slice none 0 0] 97)) := by
  have hl : d.length = 64 * n := by have := hd.1; rw [U8_length] at this; omega
  refine ⟨⟨g, L, cap, .slice none 0 0, [], heap_alloc_new _ _, own_mono (hd.alloc _) (Nat.zero_le _), World.ownsRow_nil _ _ _ _, rfl, fun i h => by simp at h, fun i h => by simp at h, hb.size, (own_blk hd).2.2.2, fun k hk => by simp [Value.ownBlock] at hk, fun i h => by simp at h, hL, hn1, hn2, hl, hy, Fit.nil _⟩, hb.alloc hb.size _⟩
set_option maxHeartbeats 400000 in
set_option maxRecDepth 100000 in
theorem rlen_any {w : World} {S : Nat → Prop} {p n : Nat} {d : List Int} {ws : List Wr} (h : Ref w S p n d ws) : Calls Tryz.prog 22 #[.pointer (some ⟨p, 0, none⟩)] w fun e w' => e = .returned (.int .i64 n) ∧ w = w' := by
  obtain ⟨g, L, cap, v, vs, h⟩ := h
  have h0 := h.cell0
  have e1 : (L : Int) / 64 = (n : Int) := by have := h.hL; omega
  have hn2 := h.n2
  have hw : Go.RowKit.wrap64 (n : Int) = (n : Int) := by have := IntKind.wrap_i64 (n : Int); unfold Go.RowKit.wrap64; omega
  clear h
  go_enter Tryz.func22, Tryz.ntmps22
  go_wp2
  go_ret
  exact ⟨rfl, rfl⟩
set_option maxHeartbeats 1000000 in
set_option maxRecDepth 100000 in
theorem rload_bad (a : Option Addr) (m c : Nat) (w : World) (h : m = 0 ∨ ¬ m % 64 = 0 ∨ 262144 < m) (hm : m ≤ 140737488355328) : Calls Tryz.prog 16 #[.slice a m c] w fun e w' => e = .returned (.tuple #[.pointer none, .int .i64 2]) ∧ w = w' := by
  by_cases h0 : m = 0
  · subst h0
    go_enter Tryz.func16, Tryz.ntmps16
    go_wp2
    go_ret2
    exact ⟨rfl, rfl⟩
  · have e0 : ((m : Int) == 0) = false := by rw [beq_eq_false_iff_ne]; omega
    by_cases hr : m % 64 = 0
    · have e1 : ((m : Int) % 64 != 0) = false := by rw [show (m : Int) % 64 = 0 by omega]; rfl
      have e2 : (262144 : Int) < (m : Int) := by omega
      clear h h0
      go_enter Tryz.func16, Tryz.ntmps16
      go_wp2
      go_ret2
      exact ⟨rfl, rfl⟩
    · have e1 : ((m : Int) % 64 != 0) = true := by rw [bne_iff_ne]; omega
      clear h h0
      go_enter Tryz.func16, Tryz.ntmps16
      go_wp2
      go_ret2
      exact ⟨rfl, rfl⟩
set_option maxHeartbeats 1000000 in
set_option maxRecDepth 100000 in
theorem rload_good (g o m c n : Nat) (xs : List Int) (w : World) (h : BIn w (some ⟨g, o, none⟩) m xs) (hm : m = 64 * n) (hn1 : 1 ≤ n) (hn2 : n ≤ 4096) :
    Calls Tryz.prog 16 #[.slice (some ⟨g, o, none⟩) m c] w fun e w' => ∃ p, e = .returned (.tuple #[.pointer (some ⟨p, 0, none⟩), .int .i64 0]) ∧ Ref w' (fun k => w.heap.size ≤ k) p n xs [] ∧ Below w.heap.size w w' := by
  obtain ⟨i0, hi, hz0, hz1, hz2⟩ := info_parts info5
  have e0 : ((m : Int) == 0) = false := by rw [beq_eq_false_iff_ne]; omega
  have e1 : ((m : Int) % 64 != 0) = false := by rw [show (m : Int) % 64 = 0 by omega]; rfl
  have e2 : ¬ (262144 : Int) < (m : Int) := by omega
  have HH : Hid (BIn w (some ⟨g, o, none⟩) m xs) := h
  have HM : Hid (m = 64 * n) := hm
  have HN : Hid (∀ j u, (U8 xs)[j]? = some u → (w.alloc (.cells #[] 5)).cell? ((⟨g, o, none⟩ : Addr).add j) = some u) := (HH.out.later (below_alloc w _)).news
  have hm1 : 0 < m := by omega
  have hm2 : m ≤ 262144 := by omega
  clear h hm
  go_enter Tryz.func16, Tryz.ntmps16
  go_wp2_with (at_builtin; refine wpList_append_lies _ rfl (.tmp 18) (.tmp 19) 24 rfl w.heap.size 5 i0 (.int .u8 0) 1 1 Tryz.underlying24 hi hz0 hz1 hz2 rfl (by omega) _ 0 [] rfl (World.ownsRow_made w #[] 0 (Nat.le_refl _) (Nat.zero_le _) rfl) ⟨g, o, none⟩ m c (U8 xs) rfl (by rw [U8_length, HH.out.len, Nat.mul_one]) HN.out (ones_u8 _) hm1 (by unfold maxLen; omega) (by omega) (by simp) _ rfl ?_)
  intro g1 c1 w1 hown hgrow hat hlt
  try simp only [Nat.zero_add, List.nil_append] at hown ⊢
  have hb : Below w.heap.size w w1 := ((Below.refl _ w).alloc (Nat.le_refl _) _).grown hgrow (by simp) (by intro k hk; simp [Value.ownBlock] at hk; omega)
  have HF : Hid (Ref (w1.alloc (.cells #[.slice (some ⟨g1, 0, none⟩) m c1, .slice none 0 0] 97)) (fun k => w.heap.size ≤ k) w1.heap.size n xs [] ∧ Below w.heap.size w (w1.alloc (.cells #[.slice (some ⟨g1, 0, none⟩) m c1, .slice none 0 0] 97))) := ref_fin hb hown HM.out hn1 hn2 HH.out.byte
  clear hown hgrow hat hlt hb
  go_wp2
  go_ret2
  exact ⟨_, rfl, HF.out.1, HF.out.2⟩
end Go.Proofs.YtefnkjajjidfaaaGreatDoor
namespace Go.Proofs.YtefnkjajjidfaaaGreatDoor
open Go.RowKit
section
variable {P : Program} {ops : Array Oper} {Q : Exit → Act → World → Prop} {md : Region.Mode} {S : World → Prop} {L : Nat}
/-- whatever order is picked; S holds behind every operation but L -/
def wpAnyL (P : Program) (md : Region.Mode) (ops : Array Oper) (Q : Exit → Act → World → Prop) (S : World → Prop) (L : Nat) : Nat → Array Bool → Act → World → Prop
  | 0, listed, a, w => Region.ready md ops listed = [] ∧ Q .normal a w
  | fuel + 1, listed, a, w =>
    (Region.ready md ops listed = [] → Q .normal a w) ∧
    ∀ i ∈ Region.ready md ops listed, wpOp P ops Q i (fun a' w' => (i ≠ L → S w') ∧ wpAnyL P md ops Q S L fuel (listed.setIfInBounds i true) a' w') a w
theorem wpAny_of_L : ∀ (fuel : Nat) (listed : Array Bool) (a : Act) (w : World), wpAnyL P md ops Q S L fuel listed a w → wpAny P md ops Q fuel listed a w
  | 0, _, _, _, h => h
  | fuel + 1, _, _, _, h => ⟨h.1, fun i hi => wpOp_mono (fun a' w' h' => wpAny_of_L fuel _ a' w' h'.2) (h.2 i hi)⟩
theorem wpAnyL_first {i : Nat} {oi : Oper} {v : Value} (hi : ops[i]? = some oi) (hsel : ∀ (j : Nat) (o : Oper) cs b, ops[j]? = some o → o.op ≠ .select cs b)
    (hQ : ∀ c a w, Q (.panic c) (a.put oi.dst v) w → Q (.panic c) a w) (hdep : ∀ o, ops[L]? = some o → ∃ e ∈ o.after, Region.binds md e = true ∧ e.on = i) :
    ∀ (fuel : Nat) (listed : Array Bool) (a : Act) (w : World),
      (∀ j oj, ops[j]? = some oj → j ≠ i → listed.getD j true = false → (∀ e ∈ oj.after, Region.binds md e = true → e.on ≠ i) → oi.apart ops oj = true) →
      i ∈ Region.ready md ops listed → YieldsIf P ops S oi v a → S w →
      wpAnyL P md ops Q S L fuel (listed.setIfInBounds i true) (a.put oi.dst v) w → wpAnyL P md ops Q S L (fuel + 1) listed a w := by
  intro fuel
  induction fuel with
  | zero =>
    intro listed a w _ hr hy hS H
    refine ⟨fun h => (by rw [h] at hr; cases hr), fun j hj => ?_⟩
    by_cases hji : j = i
    · subst hji; exact hy.wpOp hi hS ⟨fun _ => hS, H⟩
    · have := ready_mono hj hji
      rw [H.1] at this
      cases this
  | succ fuel ih =>
    intro listed a w hfree hr hy hS H
    refine ⟨fun h => (by rw [h] at hr; cases hr), fun j hj => ?_⟩
    by_cases hji : j = i
    · subst hji; exact hy.wpOp hi hS ⟨fun _ => hS, H⟩
    · have h1 := H.2 j (ready_mono hj hji)
      obtain ⟨hjun, oj, hoj, hall⟩ := mem_ready.1 hj
      have hnot : ∀ e ∈ oj.after, Region.binds md e = true → e.on ≠ i := fun e he hb heq => by
        have h1 := hall e he hb
        have h0 := (mem_ready.1 hr).1
        rw [heq] at h1
        rcases Nat.lt_or_ge i listed.size with h' | h'
        · simp [h'] at h0 h1; rw [h0] at h1; cases h1
        · simp [Array.getElem?_eq_none h'] at h1
      have hjL : j ≠ L := fun e => by
        subst e
        obtain ⟨e, he, hb, ho⟩ := hdep oj hoj
        exact hnot e he hb ho
      have h2 := wpOp_putIf hoj (hfree j oj hoj hji hjun hnot) (fun cs b => hsel i oi cs b hi) (fun cs b => hsel j oj cs b hoj) hQ hy h1
      have hfree' : ∀ k ok, ops[k]? = some ok → k ≠ i → (listed.setIfInBounds j true).getD k true = false →
          (∀ e ∈ ok.after, Region.binds md e = true → e.on ≠ i) → oi.apart ops ok = true := fun k ok hk hki hun hno => by
        refine hfree k ok hk hki ?_ hno
        by_cases hjk : j = k
        · subst hjk; exact hjun
        · rw [getD_set_ne true hjk] at hun; exact hun
      refine wpOp_mono (fun a' w' h3 => ⟨fun _ => h3.2.1 hjL, ih (listed.setIfInBounds j true) a' w' hfree' (ready_mono hr (Ne.symm hji)) h3.1 (h3.2.1 hjL) ?_⟩) h2
      rw [Array.setIfInBounds_comm _ _ hji]
      exact h3.2.2
/-- take number i first -/
theorem wpAnyL_take {i : Nat} {oi : Oper} {v : Value} {fuel : Nat} {listed : Array Bool} {a : Act} {w : World} (hi : ops[i]? = some oi)
    (hs : Region.noSelect ops = true) (hf : Region.free md ops listed i = true) (hr : (Region.ready md ops listed).contains i = true)
    (hd : (match ops[L]? with | some o => o.after.any (fun e => Region.binds md e && e.on == i) | none => true) = true)
    (hQ : ∀ c a w, Q (.panic c) (a.put oi.dst v) w → Q (.panic c) a w) (hy : YieldsIf P ops S oi v a) (hS : S w)
    (h : wpAnyL P md ops Q S L fuel (listed.setIfInBounds i true) (a.put oi.dst v) w) : wpAnyL P md ops Q S L (fuel + 1) listed a w :=
  wpAnyL_first hi (Region.noSelect_spec hs) hQ (fun o ho => by
    rw [ho] at hd
    obtain ⟨e, he, hb⟩ := Array.any_eq_true'.1 hd
    simp only [Bool.and_eq_true, beq_iff_eq] at hb
    exact ⟨e, he, hb.1, hb.2⟩) fuel listed a w (Region.free_spec hi hf) (by simpa using hr) hy hS h
def AllReadyL (P : Program) (md : Region.Mode) (ops : Array Oper) (Q : Exit → Act → World → Prop) (S : World → Prop) (L fuel : Nat) (listed : Array Bool) (a : Act) (w : World) (rs : List Nat) : Prop :=
  ∀ i ∈ rs, wpOp P ops Q i (fun a' w' => (i ≠ L → S w') ∧ wpAnyL P md ops Q S L fuel (listed.setIfInBounds i true) a' w') a w
theorem AllReadyL.nil {fuel : Nat} {listed : Array Bool} {a : Act} {w : World} : AllReadyL P md ops Q S L fuel listed a w [] := fun _ h => by cases h
theorem AllReadyL.cons {fuel : Nat} {listed : Array Bool} {a : Act} {w : World} {i : Nat} {o : Oper} {rs : List Nat} (ho : ops[i]? = some o)
    (h : ∀ K' : Act → World → Prop, Shut (∀ a w, (i ≠ L → S w) → wpAnyL P md ops Q S L fuel (listed.setIfInBounds i true) a w → K' a w) → if Region.wanted o (yielded ops a.tmps) = true then Oper.wp P o a w K' Q else K' (a.put o.dst undef) w)
    (hs : AllReadyL P md ops Q S L fuel listed a w rs) : AllReadyL P md ops Q S L fuel listed a w (i :: rs) := fun j hj => by
  rcases List.mem_cons.1 hj with rfl | hj
  · exact wpOp_step ho (fun K' hK => h K' (fun a w hS hW => hK a w ⟨hS, hW⟩))
  · exact hs j hj
theorem wpAnyL_ready {rs : List Nat} {fuel : Nat} {listed : Array Bool} {a : Act} {w : World} (hr : Region.ready md ops listed = rs) (hne : rs ≠ [])
    (h : AllReadyL P md ops Q S L fuel listed a w rs) : wpAnyL P md ops Q S L (fuel + 1) listed a w :=
  ⟨fun h0 => absurd (hr ▸ h0) hne, hr ▸ h⟩
theorem wpAnyL_done {listed : Array Bool} {a : Act} {w : World} (hr : Region.ready md ops listed = []) (h : Q .normal a w) :
    ∀ fuel, wpAnyL P md ops Q S L fuel listed a w
  | 0 => ⟨hr, h⟩
  | _ + 1 => ⟨fun _ => h, by rw [hr]; simp⟩
theorem wp_region_last {id : Nat} {a : Act} {w : World} (L : Nat) (S : World → Prop) (hm : P.follows .mixedOrders = true)
    (h : wpAnyL P .any ops Q S L ops.size (Array.replicate ops.size false) a w.drew) : (Code.region id ops true).wp P Q a w :=
  wp_region_any hm (wpAny_of_L _ _ _ _ h)
end
end Go.Proofs.YtefnkjajjidfaaaGreatDoor
namespace Go.Proofs.YtefnkjajjidfaaaGreatDoor
open Go.RowKit
theorem info85 : (Tryz.prog.info? 99).map (fun i => (i.zero, i.size, i.bytes)) = some (some (.agg #[.int .i64 0, .slice none 0 0]), 2, 32) := by kernel_rfl
theorem ZC_snoc {ws : List Wr} {vs : List Value} (h : vs.length = ws.length) (x : Wr) (u : Value) : ZC (ws ++ [x]) (vs ++ [u]) = ZC ws vs ++ [.int .i64 (x.s : Int), u] := by
  unfold ZC
  rw [List.zipWith_append h.symm]
  simp
theorem ZC_len {ws : List Wr} {vs : List Value} : ∀ l ∈ List.zipWith (fun (x : Wr) u => [Value.int .i64 (x.s : Int), u]) ws vs, l.length = 2 := fun l hl => by
  obtain ⟨i, hi, e⟩ := List.getElem_of_mem hl
  rw [← e]
  simp
theorem ZC_at {ws : List Wr} {vs : List Value} (h : vs.length = ws.length) (i : Nat) (hi : i < ws.length) : (ZC ws vs)[i * 2]? = some (.int .i64 (ws[i].s : Int)) ∧ (ZC ws vs)[i * 2 + 1]? = some (vs[i]'(by omega)) := by
  have hl : i < (List.zipWith (fun (x : Wr) u => [Value.int .i64 (x.s : Int), u]) ws vs).length := by simp; omega
  have e0 := flat_at _ (ZC_len (ws := ws) (vs := vs)) i hl 0 (by omega)
  have e1 := flat_at _ (ZC_len (ws := ws) (vs := vs)) i hl 1 (by omega)
  rw [Nat.mul_comm] at e0 e1
  constructor
  · unfold ZC
    rw [show i * 2 = i * 2 + 0 from rfl, e0]
    simp
  · unfold ZC
    rw [e1]
    simp
/-- what a write leaves -/
theorem rwrite_fin {w w3 w4 : World} {S : Nat → Prop} {p n : Nat} {d : List Int} {ws : List Wr} {g L cap : Nat} {v : Value} {vs : List Value} {i : Nat} {b : List Int} {sl : Value} {g' c' : Nat}
    (h : RD w S p n d ws g L cap v vs) (hb : Below w.heap.size w w3) (hsl : w3.ownsRow w.heap.size 5 1 sl 64 (U8 b))
    (hown : w4.ownsRow 0 99 2 (.slice (some ⟨g', 0, none⟩) (ws.length + 1) c') (ws.length + 1) (ZC ws vs ++ [.int .i64 (i : Int), sl])) (hgrow : w3.grownBy w4 v.ownBlock) (hat : v.ownBlock = some g' ∨ w.heap.size ≤ g') (hi : i < n) (hbl : b.length = 64) (hby : Bytes b) :
    w4.cell? ⟨p, 1, none⟩ = some v ∧ w4.frozen? ⟨p, 1, none⟩ = false ∧
    Ref (w4.setCell ⟨p, 1, none⟩ (.slice (some ⟨g', 0, none⟩) (ws.length + 1) c')) (More S w) p n d (ws ++ [⟨i, b⟩]) ∧ Kept S w (w4.setCell ⟨p, 1, none⟩ (.slice (some ⟨g', 0, none⟩) (ws.length + 1) c')) := by
  have h3 := h.later hb
  have hp3 := h3.blk.lt
  have hg3 := (own_blk h3.dur).1
  have nv : ∀ k sz t, Blk w3 k t sz → t ≠ 99 → some k ≠ v.ownBlock := fun k sz t hk ht e => by
    obtain ⟨sz', hk'⟩ := own_ownBlk h3.wr e.symm
    exact hk.ne hk' ht rfl
  have bp : w4.heap[p]? = some (.cells #[.slice (some ⟨g, 0, none⟩) L cap, v] 97 (0, 0)) := (hgrow.block p hp3 (nv p 2 97 h3.blk (by decide))).trans h3.str
  have b5 : ∀ {base : Nat} {u : Value} {m : Nat} {xs : List Value}, w3.ownsRow base 5 1 u m xs → w4.ownsRow base 5 1 u m xs := fun {base u m xs} ho =>
    own_same ho (fun k hk => by
      obtain ⟨sz, hb'⟩ := own_ownBlk ho hk
      exact hgrow.block k hb'.lt (nv k sz 5 hb' (by decide)))
  have hgp : g' ≠ p := (own_blk hown).1.ne ⟨_, bp, rfl⟩ (by decide)
  have np : ∀ k sz t, Blk w4 k t sz → t ≠ 97 → k ≠ p := fun k sz t hk ht => hk.ne (sz' := 2) ⟨_, bp, rfl⟩ ht
  have b5' : ∀ {base : Nat} {u : Value} {m : Nat} {xs : List Value}, w3.ownsRow base 5 1 u m xs → (w4.setCell ⟨p, 1, none⟩ (.slice (some ⟨g', 0, none⟩) (ws.length + 1) c')).ownsRow base 5 1 u m xs := fun {base u m xs} ho =>
    own_same (b5 ho) (fun k hk => by
      obtain ⟨sz, hb'⟩ := own_ownBlk (b5 ho) hk
      exact heap_setCell_other _ _ _ _ (np k sz 5 hb' (by decide)))
  refine ⟨by rw [cell_of_row _ _ _ _ 97 (0, 0) bp]; rfl, frozen_of_row _ _ _ _ 97 bp, ⟨g, L, cap, .slice (some ⟨g', 0, none⟩) (ws.length + 1) c', vs ++ [sl], ?_⟩, ?_⟩
  · refine ⟨setCell_row (cs := [_, _]) bp 1 _, b5' h3.dur, ?_, by simp [h.len], fun j h1 h2 => ?_, fun j h2 => ?_, .inl h.sp, .inl h.sg, fun k hk => ?_, fun j h2 k hk => ?_, h.hL, h.n1, h.n2, h.dl, h.db, h.fit.snoc hi hbl hby⟩
    · rw [ZC_snoc h.len, List.length_append, List.length_singleton]
      exact own_same hown (fun k hk => heap_setCell_other _ _ _ _ (by simp only [Value.ownBlock, Option.some.injEq] at hk; rw [← hk]; exact hgp))
    · by_cases c : j < vs.length
      · rw [List.getElem_append_left c, List.getElem_append_left (by have := h.len; omega)]
        exact b5' (h3.dat j (by have := h.len; omega) c)
      · have e : j = ws.length := by simp at h1; have := h.len; omega
        subst e
        have e2 : (vs ++ [sl])[ws.length] = sl := by simp [← h.len]
        rw [e2]
        simp only [List.getElem_concat_length]
        exact own_mono (b5' hsl) (Nat.zero_le _)
    · by_cases c : j < vs.length
      · rw [List.getElem_append_left c]; exact h.ne j c
      · have e : j = vs.length := by simp at h2; omega
        subst e
        simp only [List.getElem_concat_length]
        intro e
        have := (hsl.lt g e).1
        have := (own_blk h.dur).1.lt
        omega
    · simp only [Value.ownBlock, Option.some.injEq] at hk
      subst hk
      exact or_map hat (h.sv _) id
    · by_cases c : j < vs.length
      · rw [List.getElem_append_left c] at hk; exact .inl (h.sd j c k hk)
      · have e : j = vs.length := by simp at h2; omega
        subst e
        simp only [List.getElem_concat_length] at hk
        exact .inr (hsl.lt k hk).1
  · exact ((Kept.of_below hb).grown hgrow (fun k hk _ => h.sv k hk)).setCell (fun _ => h.sp) _
set_option maxHeartbeats 1000000 in
set_option maxRecDepth 100000 in
theorem rwrite_bad {w : World} {S : Nat → Prop} {p n : Nat} {d : List Int} {ws : List Wr} (h : Ref w S p n d ws) (i : Int) (v : Value) (hi : i < 0 ∨ (n : Int) ≤ i) : Calls Tryz.prog 18 #[.pointer (some ⟨p, 0, none⟩), .int .i64 i, v] w fun e w' => e = .returned (.int .i64 40) ∧ w = w' := by
  by_cases c : i < 0
  · go_enter Tryz.func18, Tryz.ntmps18
    go_wp2
    go_ret
    exact ⟨rfl, rfl⟩
  · have c2 : (n : Int) ≤ i := by omega
    go_enter Tryz.func18, Tryz.ntmps18
    go_wp2_with fail
    refine (rlen_any h).mono ?_
    rintro e w1 ⟨rfl, rfl⟩
    go_wp2
    go_ret
    exact ⟨rfl, rfl⟩
set_option maxHeartbeats 1000000 in
set_option maxRecDepth 100000 in
theorem rwrite_long {w : World} {S : Nat → Prop} {p n : Nat} {d : List Int} {ws : List Wr} (h : Ref w S p n d ws) (i : Nat) (hi : i < n) (a : Option Addr) (m c : Nat) (hm : ¬ m = 64) : Calls Tryz.prog 18 #[.pointer (some ⟨p, 0, none⟩), .int .i64 i, .slice a m c] w fun e w' => e = .returned (.int .i64 2) ∧ w = w' := by
  have c1 : ¬ (i : Int) < 0 := by omega
  have c2 : ¬ (n : Int) ≤ (i : Int) := by omega
  have hm' : ((m : Int) != 64) = true := by rw [bne_iff_ne]; omega
  go_enter Tryz.func18, Tryz.ntmps18
  go_wp2_with fail
  refine (rlen_any h).mono ?_
  rintro e w1 ⟨rfl, rfl⟩
  clear hm
  go_wp2
  go_ret
  exact ⟨rfl, rfl⟩
set_option maxHeartbeats 4000000 in
set_option maxRecDepth 100000 in
theorem rwrite_good {w : World} {S : Nat → Prop} {p n : Nat} {d : List Int} {ws : List Wr} (h : Ref w S p n d ws) (i : Nat) (hi : i < n) (a : Option Addr) (c : Nat) (b : List Int) (hb : BIn w a 64 b) (hk : ws.length ≤ 100000) : Calls Tryz.prog 18 #[.pointer (some ⟨p, 0, none⟩), .int .i64 i, .slice a 64 c] w fun e w' => e = .returned (.int .i64 0) ∧ Ref w' (More S w) p n d (ws ++ [⟨i, b⟩]) ∧ Kept S w w' := by
  obtain ⟨i5, hi5, hz50, hz51, hz52⟩ := info_parts info5
  obtain ⟨i85, hi85, hz850, hz851, hz852⟩ := info_parts info85
  have c1 : ¬ (i : Int) < 0 := by omega
  have c2 : ¬ (n : Int) ≤ (i : Int) := by omega
  obtain ⟨ga, oa, rfl, _⟩ := hb.cells (by omega)
  have HBi : Hid (BIn w (some ⟨ga, oa, none⟩) 64 b) := hb
  clear hb
  go_enter Tryz.func18, Tryz.ntmps18
  go_wp2_with fail
  refine (rlen_any h).mono ?_
  rintro e w1 ⟨rfl, rfl⟩
  obtain ⟨g, L, cap, v, vs, h⟩ := h
  have HH : Hid (RD w S p n d ws g L cap v vs) := h
  have s0 := h.cell1
  obtain ⟨pv, cv, rfl, _⟩ := own_slice h.wr
  clear h
  go_wp2
  refine wp_region_noPanic ?_
  refine wp_region_last 14 (fun w' => w'.cell? ⟨p, 1, none⟩ = some (.slice pv ws.length cv)) (by kernel_rfl) ?_
  have hHeld : w.drew.cell? ⟨p, 1, none⟩ = some (.slice pv ws.length cv) := s0
  refine wpAnyL_take (i := 0) (v := ?v0) (by simp; rfl) (by kernel_rfl) (by kernel_rfl) (by kernel_rfl) (by kernel_rfl) (fun _ _ _ h => h) (Or.inl ⟨by rfl, ?y0⟩) hHeld ?r0
  case y0 => intro w hSw; clear hSw; go_simp; with_reducible rfl
  simp only [Act.put, List.setIfInBounds_toArray, List.set_cons_zero, List.set_cons_succ]
  refine wpAnyL_take (i := 1) (v := ?v1) (by simp; rfl) (by kernel_rfl) (by kernel_rfl) (by kernel_rfl) (by kernel_rfl) (fun _ _ _ h => h) (Or.inl ⟨by rfl, ?y1⟩) hHeld ?r1
  case y1 => intro w hSw; clear hSw; go_simp; with_reducible rfl
  simp only [Act.put, List.setIfInBounds_toArray, List.set_cons_zero, List.set_cons_succ]
  refine wpAnyL_take (i := 2) (v := ?v2) (by simp; rfl) (by kernel_rfl) (by kernel_rfl) (by kernel_rfl) (by kernel_rfl) (fun _ _ _ h => h) (Or.inl ⟨by rfl, ?y2⟩) hHeld ?r2
  case y2 => intro w hSw; clear hSw; go_simp; with_reducible rfl
  simp only [Act.put, List.setIfInBounds_toArray, List.set_cons_zero, List.set_cons_succ]
  refine wpAnyL_take (i := 3) (v := ?v3) (by simp; rfl) (by kernel_rfl) (by kernel_rfl) (by kernel_rfl) (by kernel_rfl) (fun _ _ _ h => h) (Or.inl ⟨by rfl, ?y3⟩) hHeld ?r3
  case y3 => intro w hSw; clear hSw; go_simp; with_reducible rfl
  simp only [Act.put, List.setIfInBounds_toArray, List.set_cons_zero, List.set_cons_succ]
  refine wpAnyL_take (i := 4) (v := ?v4) (by simp; rfl) (by kernel_rfl) (by kernel_rfl) (by kernel_rfl) (by kernel_rfl) (fun _ _ _ h => h) (Or.inl ⟨by rfl, ?y4⟩) hHeld ?r4
  case y4 => intro w hSw; go_simp; with_reducible rfl
  simp only [Act.put, List.setIfInBounds_toArray, List.set_cons_zero, List.set_cons_succ]
  refine wpAnyL_take (i := 5) (v := ?v5) (by simp; rfl) (by kernel_rfl) (by kernel_rfl) (by kernel_rfl) (by kernel_rfl) (fun _ _ _ h => h) (Or.inl ⟨by rfl, ?y5⟩) hHeld ?r5
  case y5 => intro w hSw; clear hSw; go_simp; with_reducible rfl
  simp only [Act.put, List.setIfInBounds_toArray, List.set_cons_zero, List.set_cons_succ]
  refine wpAnyL_take (i := 7) (v := ?v7) (by simp; rfl) (by kernel_rfl) (by kernel_rfl) (by kernel_rfl) (by kernel_rfl) (fun _ _ _ h => h) (Or.inl ⟨by rfl, ?y7⟩) hHeld ?r7
  case y7 => intro w hSw; clear hSw; go_simp; with_reducible rfl
  simp only [Act.put, List.setIfInBounds_toArray, List.set_cons_zero, List.set_cons_succ]
  refine wpAnyL_ready (rs := [6]) (by kernel_rfl) (by simp) ?_
  refine AllReadyL.cons (by simp; rfl) (fun K hK => ?_) AllReadyL.nil
  go_simp
  have hH6 : (w.alloc (.cells #[] 5)).drew.cell? ⟨p, 1, none⟩ = some (.slice pv ws.length cv) := (HH.out.later (below_alloc w _)).cell1
  refine hK.out _ _ (fun _ => hH6) ?_
  clear hK K hHeld
  have hHeld := hH6
  refine wpAnyL_ready (rs := [8]) (by kernel_rfl) (by simp) ?_
  refine AllReadyL.cons (by simp; rfl) (fun K hK => ?_) AllReadyL.nil
  refine step_append_lies _ rfl (.tmp 24) (.tmp 25) 24 rfl w.heap.size 5 i5 (.int .u8 0) 1 1 Tryz.underlying24 hi5 hz50 hz51 hz52 rfl (by omega) _ 0 [] rfl (World.ownsRow_made w #[] 0 (Nat.le_refl _) (Nat.zero_le _) rfl) ⟨ga, oa, none⟩ 64 c (U8 b) rfl (by rw [U8_length]; exact HBi.out.len) ((HBi.out.later (below_alloc w _)).news) (ones_u8 _) (by omega) (by unfold maxLen; omega) (by omega) (by simp) _ rfl ?_
  intro g2 cap2 w2 hown2 hgrow2 hat2 hlt2
  simp only [Nat.zero_add, List.nil_append] at hown2 ⊢
  have hb2 : Below w.heap.size w w2 := ((Below.refl _ w).alloc (Nat.le_refl _) (.cells #[] 5)).trans ⟨hgrow2.os, hgrow2.tape, hgrow2.output, hgrow2.size, fun k hk => hgrow2.block k (Nat.lt_of_lt_of_le hk (by show _ ≤ (w.alloc _).heap.size; simp)) (fun e => by have e' : k = w.heap.size := Option.some.inj e; omega)⟩
  have hH8 := (HH.out.later hb2).cell1
  refine hK.out _ _ (fun _ => hH8) ?_
  clear hK K hHeld hH6 hgrow2 hat2 hlt2
  have hHeld := hH8
  simp only [Act.put, List.setIfInBounds_toArray, List.set_cons_zero, List.set_cons_succ]
  refine wpAnyL_take (i := 9) (v := ?v9) (by simp; rfl) (by kernel_rfl) (by kernel_rfl) (by kernel_rfl) (by kernel_rfl) (fun _ _ _ h => h) (Or.inl ⟨by rfl, ?y9⟩) hHeld ?r9
  case y9 => intro w hSw; clear hSw; go_simp; with_reducible rfl
  simp only [Act.put, List.setIfInBounds_toArray, List.set_cons_zero, List.set_cons_succ]
  refine wpAnyL_ready (rs := [10]) (by kernel_rfl) (by simp) ?_
  refine AllReadyL.cons (by simp; rfl) (fun K hK => ?_) AllReadyL.nil
  go_simp
  have hb3 : Below w.heap.size w (w2.alloc (.cells #[.int .i64 (i : Int), .slice (some ⟨g2, 0, none⟩) 64 cap2] 99)) := hb2.alloc hb2.size _
  have hHA := (HH.out.later hb3).cell1
  refine hK.out _ _ (fun _ => hHA) ?_
  clear hK K hHeld hH8
  have hHeld := hHA
  refine wpAnyL_ready (rs := [11]) (by kernel_rfl) (by simp) ?_
  refine AllReadyL.cons (by simp; rfl) (fun K hK => ?_) AllReadyL.nil
  have hz2 := hb2.size
  refine step_append_lies _ rfl (.tmp 22) (.tmp 28) 95 rfl 0 99 i85 (.agg #[.int .i64 0, .slice none 0 0]) 2 32 Tryz.underlying95 hi85 hz850 hz851 hz852 rfl (by omega) _ ws.length (ZC ws vs) rfl (HH.out.later hb3).wr ⟨w2.heap.size, 0, none⟩ 1 1 [.int .i64 (i : Int), .slice (some ⟨g2, 0, none⟩) 64 cap2] rfl rfl ?_ (by simp [Value.oneCell']) (by omega) (by unfold maxLen; omega) (by omega) (Nat.zero_le _) _ rfl ?_
  · intro j u hu
    have e := new_range w2 [.int .i64 (i : Int), .slice (some ⟨g2, 0, none⟩) 64 cap2] 99 j u hu
    rw [Addr.add_mid]
    exact e
  intro g4 cap4 w4 hown4 hgrow4 hat4 hlt4
  obtain ⟨f1, f2, f3, f4⟩ := rwrite_fin HH.out hb3 (hown2.alloc _) hown4 hgrow4 (or_map hat4 id (fun e => by rw [e]; simp; omega)) hi HBi.out.len HBi.out.byte
  refine hK.out _ _ (fun _ => f1) ?_
  clear hK K hHeld hHA hgrow4 hat4 hlt4 hown4
  have HF : Hid (Ref (w4.setCell ⟨p, 1, none⟩ (.slice (some ⟨g4, 0, none⟩) (ws.length + 1) cap4)) (More S w) p n d (ws ++ [⟨i, b⟩]) ∧ Kept S w (w4.setCell ⟨p, 1, none⟩ (.slice (some ⟨g4, 0, none⟩) (ws.length + 1) cap4))) := ⟨f3, f4⟩
  clear f3 f4
  have hHeld := f1
  simp only [Act.put, List.setIfInBounds_toArray, List.set_cons_zero, List.set_cons_succ]
  refine wpAnyL_ready (rs := [12]) (by kernel_rfl) (by simp) ?_
  refine AllReadyL.cons (by simp; rfl) (fun K hK => ?_) AllReadyL.nil
  go_simp
  refine hK.out _ _ (fun _ => f1) ?_
  clear hK K
  refine wpAnyL_ready (rs := [13]) (by kernel_rfl) (by simp) ?_
  refine AllReadyL.cons (by simp; rfl) (fun K hK => ?_) AllReadyL.nil
  go_simp
  refine hK.out _ _ (fun _ => f1) ?_
  clear hK K
  refine wpAnyL_ready (rs := [14]) (by kernel_rfl) (by simp) ?_
  refine AllReadyL.cons (by simp; rfl) (fun K hK => ?_) AllReadyL.nil
  go_simp
  refine hK.out _ _ (fun h => absurd rfl h) ?_
  clear hK K
  refine wpAnyL_done (by kernel_rfl) (NoPanic.normal ?_) _
  clear f1 f2 hHeld
  go_wp2
  go_ret
  exact ⟨rfl, HF.out.1, HF.out.2⟩
end Go.Proofs.YtefnkjajjidfaaaGreatDoor
namespace Go.Proofs.YtefnkjajjidfaaaGreatDoor
open Go.RowKit
set_option maxHeartbeats 1000000 in
set_option maxRecDepth 100000 in
theorem rread_bad {w : World} {S : Nat → Prop} {p n : Nat} {d : List Int} {ws : List Wr} (h : Ref w S p n d ws) (i : Int) (hi : i < 0 ∨ (n : Int) ≤ i) : Calls Tryz.prog 23 #[.pointer (some ⟨p, 0, none⟩), .int .i64 i] w fun e w' => e = .returned (.tuple #[.slice none 0 0, .int .i64 40]) ∧ w = w' := by
  by_cases c : i < 0
  · go_enter Tryz.func23, Tryz.ntmps23
    go_wp2
    go_ret2
    exact ⟨rfl, rfl⟩
  · have c2 : (n : Int) ≤ i := by omega
    go_enter Tryz.func23, Tryz.ntmps23
    go_wp2_with fail
    refine (rlen_any h).mono ?_
    rintro e w1 ⟨rfl, rfl⟩
    go_wp2
    go_ret2
    exact ⟨rfl, rfl⟩
/-- write number k of the document's disk -/
theorem RD.at {w : World} {S : Nat → Prop} {p n : Nat} {d : List Int} {ws : List Wr} {g L cap : Nat} {v : Value} {vs : List Value} (h : RD w S p n d ws g L cap v vs) (k : Nat) (hk : k < ws.length) :
    ∃ gv cv gb cb, v = .slice (some ⟨gv, 0, none⟩) ws.length cv ∧ w.cell? ⟨gv, k * 2, none⟩ = some (.int .i64 (ws[k].s : Int)) ∧ w.cell? ⟨gv, k * 2 + 1, none⟩ = some (.slice (some ⟨gb, 0, none⟩) 64 cb) ∧ BIn w (some ⟨gb, 0, none⟩) 64 ws[k].b ∧ gb ≠ g := by
  obtain ⟨pv, cv, e, h0, h1⟩ := own_slice h.wr
  cases pv with
  | none => have := (h0 rfl).1; omega
  | some a =>
    obtain ⟨gv, rfl⟩ := h1 a rfl
    subst e
    have hkv : k < vs.length := by rw [h.len]; exact hk
    have hd := h.dat k hk hkv
    obtain ⟨pb, cb, e, hb, _⟩ := own_in hd (h.fit.at k hk).2.2
    obtain ⟨gb, ob, rfl, _⟩ := hb.cells (by omega)
    have h00 : ob = 0 := by
      obtain ⟨_, _, e2, _, h3⟩ := own_slice hd
      rw [e] at e2
      simp only [Value.slice.injEq] at e2
      obtain ⟨g3, h4⟩ := h3 ⟨gb, ob, none⟩ e2.1.symm
      simp only [Addr.mk.injEq] at h4
      exact h4.2.1
    subst h00
    obtain ⟨c0, c1⟩ := ZC_at h.len k hk
    have hr := own_range h.wr
    refine ⟨gv, cv, gb, cb, rfl, ?_, ?_, hb, fun e3 => ?_⟩
    · have := hr (k * 2) _ c0
      rwa [Nat.zero_add] at this
    · have := hr (k * 2 + 1) _ c1
      rw [Nat.zero_add] at this
      rw [this, e]
    · apply h.ne k hkv
      rw [e, ← e3]
      rfl
set_option maxHeartbeats 4000000 in
set_option maxRecDepth 100000 in
theorem rread_good {w : World} {S : Nat → Prop} {p n : Nat} {d : List Int} {ws : List Wr} (h : Ref w S p n d ws) (i : Nat) (hi : i < n) (hk : ws.length ≤ 100000) : Calls Tryz.prog 23 #[.pointer (some ⟨p, 0, none⟩), .int .i64 i] w fun e w' => ∃ v, e = .returned (.tuple #[v, .int .i64 0]) ∧ w'.ownsRow w.heap.size 5 1 v 64 (U8 (newest ws d i)) ∧ Below w.heap.size w w' := by
  obtain ⟨i5, hi5, hz50, hz51, hz52⟩ := info_parts info5
  have c1 : ¬ (i : Int) < 0 := by omega
  have c2 : ¬ (n : Int) ≤ (i : Int) := by omega
  go_enter Tryz.func23, Tryz.ntmps23
  go_wp2_with fail
  refine (rlen_any h).mono ?_
  rintro e w1 ⟨rfl, rfl⟩
  obtain ⟨g, L, cap, v, vs, h⟩ := h
  have s0 := h.cell0
  have HH : Hid (RD w S p n d ws g L cap v vs) := h
  have hL := h.hL
  have hn2 := h.n2
  have hLc := (own_blk h.dur).2.1
  have e1 : IntKind.i64.wrap ((i : Int) * 64) = (i : Int) * 64 := by rw [IntKind.wrap_i64]; omega
  have e2 : IntKind.i64.wrap (((i : Int) + 1) * 64) = ((i : Int) + 1) * 64 := by rw [IntKind.wrap_i64]; omega
  have e3 : (i : Int) * 64 ≤ ((i : Int) + 1) * 64 := by omega
  have e4 : ((i : Int) + 1) * 64 ≤ (cap : Int) := by omega
  have e5 : ¬ (cap : Int) = (i : Int) * 64 := by omega
  have E6 : Hid ((i + 1) * 64 - i * 64 = 64) := by show _ = _; omega
  have s0' : (w.alloc (.cells #[] 5)).cell? ⟨p, 0, none⟩ = some (.slice (some ⟨g, 0, none⟩) L cap) := (h.later (below_alloc w _)).cell0
  have HN : Hid (∀ j u, (U8 (sec d i))[j]? = some u → (w.alloc (.cells #[] 5)).cell? ((⟨g, i * 64, none⟩ : Addr).add j) = some u) := fun j u hu => by
    have hj : j < 64 := by have := (List.getElem?_eq_some_iff.1 hu).1; rw [U8_length, sec_length h.dl hi] at this; exact this
    have hr := own_range (h.later (below_alloc w (.cells #[] 5))).dur (i * 64 + j) u (by rw [← hu]; simp only [U8, List.getElem?_map, sec_get d i j hj]; rw [Nat.mul_comm])
    rw [Addr.add_mid]
    rwa [Nat.zero_add] at hr
  have HL : Hid ((sec d i).length = 64) := sec_length h.dl hi
  clear h hL
  go_wp2_with (at_builtin; refine wpList_append_own _ rfl (.tmp 16) (.tmp 26) 24 rfl w.heap.size 5 i5 (.int .u8 0) 1 1 Tryz.underlying24 hi5 hz50 hz51 hz52 rfl (by omega) _ 0 [] rfl (World.ownsRow_made w #[] 0 (Nat.le_refl _) (Nat.zero_le _) rfl) ⟨g, i * 64, none⟩ ((i + 1) * 64 - i * 64) (cap - i * 64) (U8 (sec d i)) rfl ?_ ?_ ?_ ?_ ?_ ?_ ?_)
  · rw [E6.out, U8_length]; exact HL.out
  · exact HN.out
  · exact ones_u8 _
  · rw [E6.out]; unfold maxLen; omega
  · rw [E6.out]; omega
  · simp
  intro v0 w0 hown hgrow _
  rw [E6.out] at hown
  have HR0 : Hid (w0.ownsRow w.heap.size 5 1 v0 64 (U8 (newk ws d i 0)) ∧ Below w.heap.size w w0) := ⟨hown, ((Below.refl _ w).alloc (Nat.le_refl _) _).grown hgrow (by simp) (by intro k hk; simp [Value.ownBlock] at hk; omega)⟩
  clear hown hgrow HN
  go_wp2
  clear e1 e2 e3 e4 e5 E6 s0 s0'
  go_loopw [6, 7] (fun o j wr => ∃ k : Nat, k ≤ ws.length ∧ j = .int .i64 k ∧ Hid (wr.ownsRow w.heap.size 5 1 o 64 (U8 (newk ws d i k)) ∧ Below w.heap.size w wr)) (fun _ j _ => ws.length - (intOf j).toNat)
  case atStart => exact ⟨0, by omega, rfl, HR0.out⟩
  case round =>
    obtain ⟨k, hkl, rfl, HR⟩ := hrel
    clear HR0
    have h1 := HH.out.later HR.out.2
    have s1 := h1.cell1
    by_cases hlt : k < ws.length
    · obtain ⟨gv, cv, gb, cb, rfl, t1, t2, t3, _⟩ := h1.at k hlt
      have HS : Hid (newk ws d i (k + 1) = if ws[k].s = i then ws[k].b else newk ws d i k) := newk_step ws d i k hlt
      have HXl : Hid (ws[k].b.length = 64) := (HH.out.fit.at k hlt).2.1
      generalize ws[k] = X at *
      by_cases hx : X.s = i
      · have HE : Hid (newk ws d i (k + 1) = X.b) := by show _ = _; rw [HS.out, if_pos hx]
        have ex : ((X.s : Int) == (i : Int)) = true := by rw [hx]; simp
        have s1' : (wr.alloc (.cells #[] 5)).cell? ⟨p, 1, none⟩ = some (.slice (some ⟨gv, 0, none⟩) ws.length cv) := (h1.later (below_alloc wr _)).cell1
        have t2' : (wr.alloc (.cells #[] 5)).cell? ⟨gv, k * 2 + 1, none⟩ = some (.slice (some ⟨gb, 0, none⟩) 64 cb) := by
          rw [World.cell?_alloc_lt _ _ _ (World.block_lt_of_cell? wr _ t2)]; exact t2
        have HN : Hid (∀ j u, (U8 X.b)[j]? = some u → (wr.alloc (.cells #[] 5)).cell? ((⟨gb, 0, none⟩ : Addr).add j) = some u) := (t3.later (below_alloc wr _)).news
        have hle := HR.out.2.size
        clear hx h1 t3
        go_wp2_with (at_builtin; refine wpList_append_own _ rfl (.tmp 47) (.tmp 55) 24 rfl wr.heap.size 5 i5 (.int .u8 0) 1 1 Tryz.underlying24 hi5 hz50 hz51 hz52 rfl (by omega) _ 0 [] rfl (World.ownsRow_made wr #[] 0 (Nat.le_refl _) (Nat.zero_le _) rfl) ⟨gb, 0, none⟩ 64 cb (U8 X.b) rfl ?_ ?_ ?_ ?_ ?_ ?_ ?_)
        · rw [U8_length]; exact HXl.out
        · exact HN.out
        · exact ones_u8 _
        · unfold maxLen; omega
        · omega
        · simp
        intro v2 w2 hown hgrow _
        have HU : Hid (w2.ownsRow w.heap.size 5 1 v2 64 (U8 (newk ws d i (k + 1))) ∧ Below w.heap.size w w2) := by
          rw [HE.out]
          exact ⟨own_mono hown hle, (HR.out.2.alloc hle _).grown hgrow (by simp; omega) (by intro j hj; simp [Value.ownBlock] at hj; omega)⟩
        clear hown hgrow HN
        go_wp2
        go_roundw
        case rel => exact ⟨k + 1, by omega, by go_num, HU.out⟩
        case measure => simp [intOf]; omega
      · have HU : Hid (wr.ownsRow w.heap.size 5 1 u6 64 (U8 (newk ws d i (k + 1))) ∧ Below w.heap.size w wr) := by rw [HS.out, if_neg hx]; exact HR
        have ex : ((X.s : Int) == (i : Int)) = false := by rw [beq_eq_false_iff_ne]; omega
        clear hx h1 t3 t2 HS HR
        go_wp2
        go_roundw
        case rel => exact ⟨k + 1, by omega, by go_num, HU.out⟩
        case measure => simp [intOf]; omega
    · obtain rfl : k = ws.length := by omega
      obtain ⟨pv, cv, rfl, _⟩ := own_slice HH.out.wr
      go_wp2
      go_ret2
      exact ⟨_, rfl, HR.out.1, HR.out.2⟩
end Go.Proofs.YtefnkjajjidfaaaGreatDoor
namespace Go.Proofs.YtefnkjajjidfaaaGreatDoor
open Go.RowKit
set_option maxHeartbeats 400000 in
set_option maxRecDepth 100000 in
theorem isBlock_any (b n : Int) (w : World) :
    Calls Tryz.prog 56 #[.int .i64 b, .int .i64 n] w fun e w' => e = .returned (.bool (decide (0 ≤ b ∧ b < n))) ∧ w = w' := by
  go_enter Tryz.func56, Tryz.ntmps56
  go_wp2
  all_goals go_ret
  all_goals (refine ⟨?_, rfl⟩; simp; try omega)
set_option maxHeartbeats 400000 in
set_option maxRecDepth 100000 in
theorem hput_any (n : Int) (k : Nat) (w : World) (hn0 : 0 ≤ n) (hk : 1 ≤ k ∧ k ≤ 8) (hn : n / 256 ^ k = 0) :
    Calls Tryz.prog 57 #[.int .u64 n, .int .i64 k] w fun e w' => ∃ p c, e = .returned (.slice p k c) ∧ Made w w' p k c (digits k n) := by
  go_enter Tryz.func57, Tryz.ntmps57
  go_wp2_with fail
  refine (put_ok n k w hn0 hk hn).mono ?_
  rintro e w1 ⟨v, rfl, ho, hb⟩
  obtain ⟨p, c, rfl, hm⟩ := made_of ho (digits_bytes k n) hb
  clear ho hb hn
  go_wp2_with fail
  go_ret
  exact ⟨p, c, rfl, hm⟩
/-- three parts joined -/
theorem join_three {w : World} (u v x : Value) (xs ys zs : List Int) (hu : SIn w u xs) (hv : SIn w v ys) (hx : SIn w x zs) (n : Nat) (hn : (xs ++ (ys ++ zs)).length = n) (hb : n ≤ 100000) :
    Calls Tryz.prog 54 #[.slice (some ⟨w.heap.size, 0, none⟩) 3 3] (w.alloc (.cells [u, v, x].toArray 24)) fun e w' => e = .returned (.slice (some ⟨w.heap.size + 1, 0, none⟩) n n) ∧ Made w w' (some ⟨w.heap.size + 1, 0, none⟩) n n (xs ++ (ys ++ zs)) := by
  have hs : SIns w [u, v, x] [xs, ys, zs] := ⟨hu, hv, hx, trivial⟩
  have e : [xs, ys, zs].flatten = xs ++ (ys ++ zs) := by simp
  have hB : Bytes (xs ++ (ys ++ zs)) := by
    obtain ⟨_, _, _, _, h1, _⟩ := hu
    obtain ⟨_, _, _, _, h2, _⟩ := hv
    obtain ⟨_, _, _, _, h3, _⟩ := hx
    exact h1.byte.append (h2.byte.append h3.byte)
  have := join_full w.heap.size 0 3 3 [u, v, x] [xs, ys, zs] (w.alloc (.cells [u, v, x].toArray 24)) (pin_new hs 3 rfl) (by omega) (by rw [e, hn]; omega) (by omega)
  rw [e, hn] at this
  refine this.mono ?_
  have e2 : (w.alloc (.cells [u, v, x].toArray 24)).heap.size = w.heap.size + 1 := by simp
  rintro e w' ⟨rfl, ho, hb2⟩
  rw [e2] at ho hb2 ⊢
  have hb3 : Below w.heap.size w w' := (below_alloc w _).trans (hb2.mono (by omega))
  obtain ⟨p, c, e3, hr, hc, hp, _⟩ := own_in ho hB
  simp only [Value.slice.injEq, true_and] at e3
  obtain ⟨rfl, rfl⟩ := e3
  exact ⟨rfl, own_mono ho (by omega), hr, hc, hp, hb3⟩
abbrev HM : Array Value := #[.int .u8 72, .int .u8 79, .int .u8 77, .int .u8 69]
def hm : List Int := [72, 79, 77, 69]
theorem hm_bytes : Bytes hm := by intro x hx; simp [hm] at hx; omega
theorem dig1 (n : Int) (h0 : 0 ≤ n) (h1 : n < 256) : digits 1 n = [n] := by simp [digits]; omega
theorem div1 (n : Int) (h0 : 0 ≤ n) (h1 : n < 256) : n / 256 ^ 1 = 0 := Int.ediv_eq_zero_of_lt h0 (by rw [show (256 : Int) ^ 1 = 256 by decide]; omega)
theorem hbody_is (b : Int) (v : List Int) : (hm ++ ([1] ++ [b]) ++ List.replicate (28 - 6) 0) ++ v = hbody b v := by
  simp [hm, hbody, zs]
set_option maxHeartbeats 400000 in
set_option maxRecDepth 100000 in
theorem hencode_bad (b : Int) (v : List Int) (hb : ¬ inB b) (w : World) :
    Calls Tryz.prog 34 #[.int .i64 b, .agg (U8 v).toArray] w fun e w' => e = .returned (.tuple #[.slice none 0 0, .int .i64 51]) ∧ Below w.heap.size w w' := by
  have HB : Hid (Below w.heap.size w (w.alloc (.cells (U8 v).toArray 55))) := below_alloc w _
  go_enter Tryz.func34, Tryz.ntmps34
  go_wp2_with fail
  refine (isBlock_any b 64 _).mono ?_
  rintro e w1 ⟨rfl, rfl⟩
  rw [decide_eq_false hb]
  clear hb
  go_wp2_with fail
  go_ret2
  exact ⟨rfl, HB.out⟩
set_option maxHeartbeats 2000000 in
set_option maxRecDepth 100000 in
theorem hencode_good (b : Int) (v : List Int) (hb : inB b) (hv : v.length = 32) (hvb : Bytes v) (w : World) (ht : Tab w) :
    Calls Tryz.prog 34 #[.int .i64 b, .agg (U8 v).toArray] w fun e w' => ∃ g, e = .returned (.tuple #[.slice (some ⟨g, 0, none⟩) 64 64, .int .i64 0]) ∧ Made w w' (some ⟨g, 0, none⟩) 64 64 (homeS b v) := by
  obtain ⟨w0, hw0⟩ : ∃ x, x = w.alloc (.cells (U8 v).toArray 55) := ⟨_, rfl⟩
  have ew0 := hw0.symm
  have V0 : Hid (VAt w0 w.heap.size v) := by rw [hw0]; exact LAt.new 55 w (U8 v)
  have B0 : Hid (Below w.heap.size w w0) := by rw [hw0]; exact below_alloc w _
  have HT : Hid (Tab w) := ht
  have HV : Hid (v.length = 32 ∧ Bytes v) := ⟨hv, hvb⟩
  have HB : Hid (inB b) := hb
  have hb0 := hb.1
  have hb1 := hb.2
  clear hw0 ht hv hvb
  go_enter Tryz.func34, Tryz.ntmps34
  go_wp2_with fail
  clear ew0
  refine (isBlock_any b 64 _).mono ?_
  rintro e w1 ⟨rfl, rfl⟩
  rw [decide_eq_true hb]
  clear hb
  have cv := conv_const w0 HM 4 w0.heap.size rfl
  have C1 : Hid (Below w0.heap.size w0 (w0.alloc (.cells HM 5 (4, 5)))) := below_alloc w0 _
  have N1 : Hid (BIn (w0.alloc (.cells HM 5 (4, 5))) (some ⟨w0.heap.size, 0, none⟩) 4 hm) := lit_mark w0 hm 4 (4, 5) rfl hm_bytes
  go_wp2_with fail
  clear cv
  generalize w0.alloc (.cells HM 5 (4, 5)) = w1 at *
  refine (hput_any 1 1 w1 (by omega) (by omega) (by decide)).mono ?_
  rintro e w2 ⟨p2, c2, rfl, m2⟩
  have S2 : Hid (SIn w2 (.slice p2 1 c2) [1]) := m2.sin
  have N2 : Hid (SIn w2 (.slice (some ⟨w0.heap.size, 0, none⟩) 4 4) hm) := ⟨_, 4, 4, rfl, N1.out.later m2.below, Nat.le_refl _, fun e => by cases e⟩
  have C2 : Hid (Below w0.heap.size w0 w2) := below_then C1.out m2.below
  clear m2 N1 C1
  have ks : IntKind.u64.wrap b = b := by rw [IntKind.wrap_u64]; omega
  go_wp2_with fail
  refine (hput_any b 1 w2 hb0 (by omega) (div1 _ hb0 (by omega))).mono ?_
  rintro e w3 ⟨p3, c3, rfl, m3⟩
  have S3 : Hid (SIn w3 (.slice p3 1 c3) [b]) := by have := m3.sin; rw [dig1 b hb0 (by omega)] at this; exact this
  have T3 : Hid (SIn w3 (.slice p2 1 c2) [1]) := S2.out.later m3.below
  have N3 : Hid (SIn w3 (.slice (some ⟨w0.heap.size, 0, none⟩) 4 4) hm) := N2.out.later m3.below
  have C3 : Hid (Below w0.heap.size w0 w3) := below_then C2.out m3.below
  clear m3 S2 N2 C2
  go_wp2_with fail
  refine (join_three _ _ _ _ _ _ N3.out T3.out S3.out 6 (by simp [hm]) (by omega)).mono ?_
  rintro e w4 ⟨rfl, m4⟩
  have N4 : Hid (BIn w4 (some ⟨w3.heap.size + 1, 0, none⟩) 6 (hm ++ ([1] ++ [b]))) := m4.read
  have C4 : Hid (Below w0.heap.size w0 w4) := below_then C3.out m4.below
  clear m4 S3 T3 N3 C3
  go_wp2_with fail
  refine (pad_full (some ⟨w3.heap.size + 1, 0, none⟩) 6 6 (hm ++ ([1] ++ [b])) 28 w4 (by omega) (by omega) N4.out).mono ?_
  rintro e w5 ⟨rfl, g5, b5⟩
  have C5 : Hid (Below w0.heap.size w0 w5) := below_then C4.out b5
  have S5 : Hid (SIn w5 (.slice (some ⟨w4.heap.size, 0, none⟩) 28 28) (hm ++ ([1] ++ [b]) ++ List.replicate (28 - 6) 0)) := by
    have hB : Bytes (hm ++ ([1] ++ [b]) ++ List.replicate (28 - 6) 0) := by
      refine (N4.out.byte).append (zs_bytes 22)
    refine ⟨_, 28, 28, rfl, ⟨by simp [hm], hB, fun _ => ⟨_, 0, rfl, fun i hi => ?_⟩⟩, Nat.le_refl _, fun e => by cases e⟩
    rw [Nat.zero_add, g5.cell i]
    have : i < (hm ++ ([1] ++ [b]) ++ List.replicate (28 - 6) (0 : Int)).length := by simp [hm]; omega
    simp only [U8, List.getElem?_map, List.getElem?_eq_getElem this, List.getD, Option.map_some, Option.getD_some]
  have V5 : Hid (SIn w5 (.slice (some ⟨w.heap.size, 0, none⟩) 32 32) v) := VAt.sin (LAt.later V0.out (below_then (Below.refl _ _) C5.out)) HV.out.1 HV.out.2
  clear g5 b5 C4 N4 V0
  go_wp2_with fail
  refine (join_two _ _ _ _ S5.out V5.out 60 (by rw [hbody_is, hbody_len b HV.out.1]) (by omega)).mono ?_
  rintro e w6 ⟨rfl, m6⟩
  rw [hbody_is] at m6
  have N6 : Hid (SIn w6 (.slice (some ⟨w5.heap.size + 1, 0, none⟩) 60 60) (hbody b v)) := m6.sin
  have C6 : Hid (Below w0.heap.size w0 w6) := below_then C5.out m6.below
  have HL : Hid ((hbody b v).length = 60) := hbody_len b HV.out.1
  clear m6 S5 V5 C5
  go_wp2_with fail
  refine (of_new (some ⟨w5.heap.size + 1, 0, none⟩) 60 60 (hbody b v) N6.out (by rw [HL.out]; omega) (HT.out.later (below_then B0.out C6.out)).half).mono ?_
  rintro e w7 ⟨rfl, b7⟩
  have N7 : Hid (SIn w7 (.slice (some ⟨w5.heap.size + 1, 0, none⟩) 60 60) (hbody b v)) := N6.out.later b7
  have C7 : Hid (Below w0.heap.size w0 w7) := below_then C6.out b7
  have hcl := crc_lt (hbody b v) (hbody_bytes HB.out HV.out.2)
  have HE : Hid (homeS b v = hbody b v ++ digits 4 ((crc (hbody b v) : Nat) : Int)) := rfl
  have HEL : Hid ((homeS b v).length = 64) := homeS_len b HV.out.1
  clear b7 N6 C6
  generalize crc (hbody b v) = S at *
  go_wp2_with fail
  refine (hput_any (S : Int) 4 w7 (by omega) (by omega) (div4 _ (by omega) (by omega))).mono ?_
  rintro e w8 ⟨p8, c8, rfl, m8⟩
  have N8 : Hid (SIn w8 (.slice (some ⟨w5.heap.size + 1, 0, none⟩) 60 60) (hbody b v)) := N7.out.later m8.below
  have S8 : Hid (SIn w8 (.slice p8 4 c8) (digits 4 (S : Int))) := m8.sin
  have C8 : Hid (Below w.heap.size w w8) := below_then B0.out (below_then C7.out m8.below)
  clear m8 N7 C7
  go_wp2_with fail
  refine (join_two _ _ _ _ N8.out S8.out 64 (by rw [← HE.out]; exact HEL.out) (by omega)).mono ?_
  rintro e w9 ⟨rfl, m9⟩
  rw [← HE.out] at m9
  have M9 : Hid (Made w8 w9 (some ⟨w8.heap.size + 1, 0, none⟩) 64 64 (homeS b v)) := m9
  clear m9 N8 S8
  go_wp2_with fail
  go_ret2
  exact ⟨w8.heap.size + 1, rfl, own_mono M9.out.own C8.out.size, M9.out.read, M9.out.le, M9.out.nil, below_then C8.out M9.out.below⟩
/-- Encode, of whatever block: its answers -/
theorem hencode_any (b : Int) (v : List Int) (hv : v.length = 32) (hvb : Bytes v) (w : World) (ht : Tab w) :
    Calls Tryz.prog 34 #[.int .i64 b, .agg (U8 v).toArray] w fun e w' => ∃ p n c, e = .returned (.tuple #[.slice p n c, .int .i64 (hencE b)]) ∧ n = (hencT b v).length ∧ Made w w' p n c (hencT b v) := by
  by_cases hb : inB b
  · rw [hencT_yes v hb, hencE_yes hb]
    refine (hencode_good b v hb hv hvb w ht).mono ?_
    rintro e w' ⟨g, rfl, m⟩
    exact ⟨_, 64, 64, rfl, (homeS_len b hv).symm, m⟩
  · rw [hencT_no v hb, hencE_no hb]
    refine (hencode_bad b v hb w).mono ?_
    rintro e w' ⟨rfl, bb⟩
    exact ⟨none, 0, 0, rfl, rfl, World.ownsRow_nil _ _ _ _, BIn.empty, Nat.le_refl _, fun _ => rfl, bb⟩
theorem yields_neq_is {P : Program} {ops : Array Oper} {S : World → Prop} {o : Oper} {a : Act} (hw : Region.wanted o (yielded ops a.tmps) = true) (ty : TypeId) {x y : Operand} {t2 : TypeId} (ho : o.op = .binOp .neq ty x y t2) {xs ys : Array Value} {v : Value} (hx : a.eval x = .agg xs) (hy : a.eval y = .agg ys) (hg : P.eqGuardType P.depth ty = false) (hrun : ∀ w, (binOp .neq ty (.agg xs) (.agg ys)).run P w = .ok v w) : YieldsIf P ops S o v a :=
  .inl ⟨hw, fun w _ => by unfold execOp; simp only [ho, hx, hy, Sem.run_bind, run_eqGuard_agg w .neq ty x y xs ys hg, hrun w, Result.andThen_ok, Sem.run_pure]⟩
theorem yields_eql_is {P : Program} {ops : Array Oper} {S : World → Prop} {o : Oper} {a : Act} (hw : Region.wanted o (yielded ops a.tmps) = true) (ty : TypeId) {x y : Operand} {t2 : TypeId} (ho : o.op = .binOp .eql ty x y t2) {xs ys : Array Value} {v : Value} (hx : a.eval x = .agg xs) (hy : a.eval y = .agg ys) (hg : P.eqGuardType P.depth ty = false) (hrun : ∀ w, (binOp .eql ty (.agg xs) (.agg ys)).run P w = .ok v w) : YieldsIf P ops S o v a :=
  .inl ⟨hw, fun w _ => by unfold execOp; simp only [ho, hx, hy, Sem.run_bind, run_eqGuard_agg w .eql ty x y xs ys hg, hrun w, Result.andThen_ok, Sem.run_pure]⟩
end Go.Proofs.YtefnkjajjidfaaaGreatDoor
namespace Go.Proofs.YtefnkjajjidfaaaGreatDoor
open Go.RowKit
theorem zeros_one (z : Value) (k : Nat) : Builtin.zeroCells #[z] k = (List.replicate k z).toArray := by
  have h := toList_madeCells_one z k
  have e : Builtin.zeroCells #[z] k = madeCells #[z] k := by simp [Builtin.zeroCells, madeCells]
  rw [e, ← h]
section
variable {P : Program} (w : World)
/-- 'append(s, make([]T, k)...)', s the call's own -/
theorem run_append_zeros_own (base : Nat) (t tn ty e : TypeId) (i : TypeInfo) (z : Value) (bytes : Nat) (kq kn : IntKind) (ht : P.underlying t = some (.slice e)) (htn : P.underlying tn = some (.int kn)) (hi : P.info? e = some i) (hz : i.zero = some z)
    (hsize : i.size = 1) (hby : i.bytes = bytes) (hzc : z.cells = #[z]) (hone : z.oneCell' = true) (g n cap : Nat) (xs : List Value) (hown : w.ownsRow base e 1 (.slice (some ⟨g, 0, none⟩) n cap) n xs) (k : Nat) (hk : 0 < k)
    (h63 : n + k ≤ maxLen) (hbytes : (n + k) * bytes ≤ 140737488355328) (hbase : base ≤ w.heap.size) :
    ∃ v' w', (Builtin.append_ #[t, tn] ty #[.slice (some ⟨g, 0, none⟩) n cap, .int kq k]).run P w = .ok v' w' ∧ w'.ownsRow base e 1 v' (n + k) (xs ++ List.replicate k z) ∧ w.grownBy w' (some g) := by
  have hsmall : n + k ≤ 9223372036854775807 := by simp only [maxLen] at h63; omega
  have hlen : (xs ++ List.replicate k z).length = (n + k) * 1 := by rw [List.length_append, hown.1, List.length_replicate]; omega
  have hkb : k * i.bytes ≤ 140737488355328 := by
    rw [hby]
    exact Nat.le_trans (Nat.mul_le_mul_right _ (by omega)) hbytes
  rcases hown.2 with ⟨h, _⟩ | ⟨g', cap', cur, h, hbg, hg, hnc, hcm, hcs, htake⟩
  · simp at h
  · simp only [Value.slice.injEq, Option.some.injEq, Addr.mk.injEq, and_true, true_and] at h
    obtain ⟨rfl, rfl⟩ := h
    by_cases hroom : n + k ≤ cap
    · have hst := run_storeCells_at P g n e (List.replicate k z) 0 cur w hg (by simp; omega) (by intro v hv; rw [List.eq_of_mem_replicate hv]; exact hone)
      simp only [Nat.add_zero] at hst
      have hw : IntKind.i64.wrap (k : Int) = k := by rw [IntKind.wrap_i64]; omega
      have hneg : ¬ ((k : Int) < 0) := by omega
      have h48i : ¬ (281474976710656 < (k : Int) * (i.bytes : Int)) := by
        rw [← Int.natCast_mul]
        omega
      have hk0 : k ≠ 0 := by omega
      have hr : (Builtin.append_ #[t, tn] ty #[.slice (some ⟨g, 0, none⟩) n cap, .int kq k]).run P w = .ok (.slice (some ⟨g, 0, none⟩) (n + k) cap) (w.setRow g (cur.toList.take n ++ List.replicate k z ++ cur.toList.drop (n + (List.replicate k z).length)).toArray) := by

        simp [Builtin.append_, run_underlying ht, run_underlying htn, sizeOf, typeInfo, zeroValue, hi, hz, hsize, asInt, asIntOf, hw, hneg, h48i, hroom, hk0, hzc, zeros_one, Addr.add_lit, hst]
      refine ⟨_, _, hr, ⟨hlen, .inr ⟨g, cap, _, rfl, hbg, setRow_heap w g cur _ e _ hg, hroom, hcm, ?_, ?_⟩⟩, ⟨rfl, rfl, rfl, by simp, fun k _ hk => setRow_other w g k _ (fun e => hk (by simp [e]))⟩⟩
      · simp only [List.size_toArray, List.length_append, List.length_take, List.length_drop, Array.length_toList, List.length_replicate]
        omega
      · rw [Nat.mul_one] at htake
        rw [htake, ← hlen]
        exact List.take_left
    · have holds : ∀ j u, xs[j]? = some u → w.drew.cell? ((⟨g, 0, none⟩ : Addr).add j) = some u := hown.cells (g := g) rfl
      have hf := run_firstCells_some (P := P) w.drew i.size n ⟨g, 0, none⟩ n cap xs (by rw [hsize]; exact hown.1) holds
      have hr := Lib.run_append_grow_zeros (P := P) w t tn ty e i z kq kn ht htn hi hz (some ⟨g, 0, none⟩) n cap xs hf k hk (by omega) (by omega) (by omega) (by omega) (growslice_fits (by omega) (by rw [hby]; exact hbytes))
      have hge := grownCap_ge w (n + k) cap e
      have hcm2 : grownCap w (n + k) cap e ≤ maxLen := grownCap_le_maxLen w (n + k) cap e h63
      refine ⟨_, _, hr, ⟨hlen, .inr ⟨w.heap.size, _, _, rfl, hbase, heap_alloc_new w.drew _, hge, hcm2, ?_, ?_⟩⟩, ⟨rfl, rfl, rfl, by simp, fun k hk _ => heap_alloc_old w.drew _ hk⟩⟩
      · have := hown.1
        simp only [Array.size_append, List.size_toArray, size_zeroCells, hzc]
        simp
        omega
      · simp only [Array.toList_append, hzc, zeros_one, List.append_assoc]
        rw [← List.append_assoc, ← hlen]
        exact List.take_left
theorem wpList_append_zeros_own {ops : Array Oper} {rest : List Oper} {o : Oper} {a : Act} {Q : Exit → Act → World → Prop} (hgd : o.guard = none) (s x : Operand) (t tn : TypeId)
    (ho : o.op = .call { callee := .builtin .append, args := #[s, x], argTypes := #[t, tn] }) (base : Nat) (e : TypeId) (i : TypeInfo) (z : Value) (bytes : Nat) (kq kn : IntKind) (ht : P.underlying t = some (.slice e)) (htn : P.underlying tn = some (.int kn)) (hi : P.info? e = some i) (hz : i.zero = some z)
    (hsize : i.size = 1) (hby : i.bytes = bytes) (hzc : z.cells = #[z]) (hone : z.oneCell' = true) (g n cap : Nat) (xs : List Value) (hs : a.eval s = .slice (some ⟨g, 0, none⟩) n cap) (hown : w.ownsRow base e 1 (.slice (some ⟨g, 0, none⟩) n cap) n xs) (k : Nat) (hx : a.eval x = .int kq k) (hk : 0 < k)
    (h63 : n + k ≤ maxLen) (hbytes : (n + k) * bytes ≤ 140737488355328) (hbase : base ≤ w.heap.size)
    (h : ∀ v' w', w'.ownsRow base e 1 v' (n + k) (xs ++ List.replicate k z) → w.grownBy w' (some g) → wpList P ops Q rest (a.put o.dst v') w') : wpList P ops Q (o :: rest) a w := by
  refine wpList_plain hgd fun K hK => ?_
  obtain ⟨v', w', hr, h1, h2⟩ := run_append_zeros_own (P := P) w base t tn o.type e i z bytes kq kn ht htn hi hz hsize hby hzc hone g n cap xs hown k hk h63 hbytes hbase
  unfold Oper.wp
  simp [execOp, ho, resolve, invoke, builtin, hs, hx, hr, Result.andThen]
  exact hK _ _ (h v' w' h1 h2)
end
end Go.Proofs.YtefnkjajjidfaaaGreatDoor
namespace Go.Proofs.YtefnkjajjidfaaaGreatDoor
open Go.RowKit
theorem own_shape {w : World} {base : Nat} {v : Value} {n : Nat} {xs : List Value} (h : w.ownsRow base 5 1 v n xs) (h0 : 0 < n) : ∃ g cap, v = .slice (some ⟨g, 0, none⟩) n cap ∧ n ≤ cap := by
  rcases h.2 with ⟨_, h2⟩ | ⟨g, cap, cur, h2, _, _, h3, _⟩
  · omega
  · exact ⟨g, cap, h2, h3⟩
theorem own_bin {w : World} {base g cap n : Nat} {xs : List Int} (h : w.ownsRow base 5 1 (.slice (some ⟨g, 0, none⟩) n cap) n (U8 xs)) (hb : Bytes xs) : BIn w (some ⟨g, 0, none⟩) n xs := by
  obtain ⟨p, c, e, hr, _⟩ := own_in h hb
  simp only [Value.slice.injEq] at e
  rw [e.1]
  exact hr
/-- a box of another kind stays while a row of bytes grows -/
theorem box_kept {w w' : World} {t : TypeId} {g : Nat} {cs : List Value} {base n : Nat} {v : Value} {xs : List Value} (hb : LAt t w g cs) (ho : w.ownsRow base 5 1 v n xs) (hg : w.grownBy w' v.ownBlock) (ht : t ≠ 5) : LAt t w' g cs := by
  refine (hg.block g hb.lt (fun e => ?_)).trans hb
  rcases ho.2 with ⟨rfl, _⟩ | ⟨g', cap, cur, rfl, _, h2, _⟩
  · simp [Value.ownBlock] at e
  · simp only [Value.ownBlock, Option.some.injEq] at e
    subst e
    unfold LAt at hb
    rw [hb] at h2
    simp only [Option.some.injEq, Obj.cells.injEq] at h2
    exact ht h2.2.1
theorem build_new (w : World) (s : Sup) : (Instr.build 81 #[(0, .agg (ccells s).toArray), (1, .int .u64 0), (2, .int .u64 1)]).run Tryz.prog w = .ok (.agg (scells (sup1 s)).toArray) w :=
  build29 w _ (sup1 s) (fill_all (sup1 s))
set_option maxHeartbeats 400000 in
set_option maxRecDepth 100000 in
theorem hnew_bad (s : Sup) (hc : ¬ MayC s) (w : World) :
    Calls Tryz.prog 13 #[.agg (ccells s).toArray] w fun e w' => e = .returned (.tuple #[.pointer none, .int .i64 3]) ∧ Below w.heap.size w w' := by
  have L1 : Hid (_) := CAt.load23 (LAt.new 23 w (ccells s))
  have HB : Hid (Below w.heap.size w (w.alloc (.cells (ccells s).toArray 23))) := below_alloc w _
  have U1 : Hid (_) := build_new (w.alloc (.cells (ccells s).toArray 23)) s
  have HC : Hid (chk (sup1 s) = 3) := (sup1_chk s).trans (cfg_no s hc)
  have HM : Hid (¬ May (sup1 s)) := fun h => hc h.1
  clear hc
  go_enter Tryz.func13, Tryz.ntmps13
  go_wp2_with ((with_reducible refine at_ops ?_); (first | (refine wpList_load_is (by rfl) 23 rfl rfl L1.out ?_) | (refine wpList_build_is (vs := [(0, .agg (ccells s).toArray), (1, .int .u64 0), (2, .int .u64 1)]) (by rfl) 81 rfl (by rfl) U1.out ?_)); simp only [Act.put, List.setIfInBounds_toArray, List.set_cons_zero, List.set_cons_succ])
  refine (encode_bad (sup1 s) HM.out _).mono ?_
  rintro e w1 ⟨rfl, b1⟩
  rw [HC.out]
  have HB1 : Hid (Below w.heap.size w w1) := below_then HB.out b1
  clear b1 HB L1 U1
  go_wp2_with fail
  go_ret2
  exact ⟨rfl, HB1.out⟩
set_option maxHeartbeats 2000000 in
set_option maxRecDepth 100000 in
theorem hnew_good (s : Sup) (hc : MayC s) (w : World) (ht : Tab w) :
    Calls Tryz.prog 13 #[.agg (ccells s).toArray] w fun e w' => ∃ p, e = .returned (.tuple #[.pointer (some ⟨p, 0, none⟩), .int .i64 0]) ∧ Dsk w' (fun k => w.heap.size ≤ k) p (cntS s) (newS s) [] ∧ Below w.heap.size w w' := by
  obtain ⟨i0, hi, hz0, hz1, hz2⟩ := info_parts info5
  have L1 : Hid (_) := CAt.load23 (LAt.new 23 w (ccells s))
  have HA : Hid (CAt (w.alloc (.cells (ccells s).toArray 23)) w.heap.size s) := LAt.new 23 w (ccells s)
  have HB : Hid (Below w.heap.size w (w.alloc (.cells (ccells s).toArray 23))) := below_alloc w _
  have U1 : Hid (_) := build_new (w.alloc (.cells (ccells s).toArray 23)) s
  have HC : Hid (MayC s) := hc
  have HT : Hid (Tab w) := ht
  obtain ⟨m, hm⟩ : ∃ m, m = s.bl.toNat := ⟨_, rfl⟩
  obtain ⟨l, hl⟩ : ∃ l, l = s.lc.toNat := ⟨_, rfl⟩
  have hb1 := hc.1
  have hl1 := hc.2.1
  have hmi : s.bl = (m : Int) := by omega
  have hli : s.lc = (l : Int) := by omega
  have hm1 : 1 ≤ m := by omega
  have hm2 : m ≤ 64 := by omega
  have hl0 : 2 ≤ l := by omega
  have hl2 : l ≤ 64 := by omega
  obtain ⟨K, hK⟩ : ∃ K, K = 64 * l := ⟨_, rfl⟩
  have HN : Hid (newS s = encS (sup1 s) ++ homes m ++ zs K ∧ 64 * (m + 1) + K = 64 * cntS s ∧ cntS s ≤ 4096) := by
    refine ⟨by unfold newS; rw [hK, hl, hm], ?_, ?_⟩
    · unfold cntS; omega
    · have := (cntS_bd hc).2; omega
  have hk3 : (l : Int) * 64 = (K : Int) := by omega
  have hk1 : 0 < K := by omega
  have hk2 : K ≤ 4096 := by omega
  have HCI : Hid (∀ w', CAt w' w.heap.size s → w'.cell? ⟨w.heap.size, 0, none⟩ = some (.int .i64 (m : Int)) ∧ w'.cell? ⟨w.heap.size, 1, none⟩ = some (.int .i64 (l : Int))) := by
    rw [← hmi, ← hli]; exact fun w' h => ⟨CAt.c0 h, CAt.c1 h⟩
  clear hc ht hm hl hb1 hl1 hmi hli hK
  go_enter Tryz.func13, Tryz.ntmps13
  go_wp2_with ((with_reducible refine at_ops ?_); (first | (refine wpList_load_is (by rfl) 23 rfl rfl L1.out ?_) | (refine wpList_build_is (vs := [(0, .agg (ccells s).toArray), (1, .int .u64 0), (2, .int .u64 1)]) (by rfl) 81 rfl (by rfl) U1.out ?_)); simp only [Act.put, List.setIfInBounds_toArray, List.set_cons_zero, List.set_cons_succ])
  refine (encode_good (sup1 s) (sup1_wf HC.out) (sup1_may HC.out) _ (HT.out.later HB.out)).mono ?_
  rintro e w1 ⟨g1, rfl, m1⟩
  have A1 : Hid (CAt w1 w.heap.size s) := LAt.later HA.out m1.below
  have B1 : Hid (Below w.heap.size w w1) := below_then HB.out m1.below
  have O1 : Hid (w1.ownsRow w.heap.size 5 1 (.slice (some ⟨g1, 0, none⟩) 64 64) 64 (U8 (encS (sup1 s)))) := own_mono m1.own HB.out.size
  clear m1 HA HB L1 U1
  have c0 := (HCI.out _ A1.out).1
  go_wp2_with fail
  clear c0
  go_loopw [4, 20] (fun v i wr => ∃ k : Nat, k ≤ m ∧ i = .int .i64 k ∧ Hid (CAt wr w.heap.size s ∧ wr.ownsRow w.heap.size 5 1 v (64 * (k + 1)) (U8 (encS (sup1 s) ++ homes k)) ∧ Below w.heap.size w wr)) (fun _ i _ => m - (intOf i).toNat)
  case atStart => exact ⟨0, Nat.zero_le _, rfl, A1.out, by simpa [homes] using O1.out, B1.out⟩
  case round =>
    obtain ⟨k, hk, rfl, HI⟩ := hrel
    clear A1 B1 O1
    have Ar : Hid (CAt wr w.heap.size s) := HI.out.1
    have Or : Hid (wr.ownsRow w.heap.size 5 1 u4 (64 * (k + 1)) (U8 (encS (sup1 s) ++ homes k))) := HI.out.2.1
    have Br : Hid (Below w.heap.size w wr) := HI.out.2.2
    clear HI
    by_cases hlt : k < m
    · have U2 : Hid (_) := buildV wr
      go_wp2_with ((with_reducible refine at_ops ?_); (refine wpList_build_is (vs := []) (by rfl) 55 rfl (by rfl) U2.out ?_); simp only [Act.put, List.setIfInBounds_toArray, List.set_cons_zero, List.set_cons_succ])
      refine (hencode_good (k : Int) (zs 32) ⟨by omega, by omega⟩ (zs_len 32) (zs_bytes 32) wr (HT.out.later Br.out)).mono ?_
      rintro e w2 ⟨g2, rfl, m2⟩
      have A2 : Hid (CAt w2 w.heap.size s) := LAt.later Ar.out m2.below
      have B2 : Hid (Below w.heap.size w w2) := below_then Br.out m2.below
      have O2 : Hid (w2.ownsRow w.heap.size 5 1 u4 (64 * (k + 1)) (U8 (encS (sup1 s) ++ homes k))) := own_later Or.out m2.below
      have X2 : Hid (BIn w2 (some ⟨g2, 0, none⟩) 64 (homeS (k : Int) (zs 32))) := m2.read
      have HL : Hid ((homeS (k : Int) (zs 32)).length = 64) := homeS_len _ (zs_len 32)
      have HX : Hid (U8 (encS (sup1 s) ++ homes (k + 1)) = U8 (encS (sup1 s) ++ homes k) ++ U8 (homeS (k : Int) (zs 32))) := by show _ = _; rw [homes_succ]; simp only [U8, List.map_append, List.append_assoc]
      clear m2 Ar Or Br U2
      generalize homeS (k : Int) (zs 32) = hs at *
      go_wp2_with (at_builtin; refine wpList_append_own _ rfl (.tmp 32) (.tmp 33) 24 rfl w.heap.size 5 i0 (.int .u8 0) 1 1 Tryz.underlying24 hi hz0 hz1 hz2 rfl (by decide) u4 (64 * (k + 1)) (U8 (encS (sup1 s) ++ homes k)) rfl O2.out ⟨g2, 0, none⟩ 64 64 (U8 hs) rfl (by rw [U8_length, HL.out]) X2.out.news (ones_u8 _) (by unfold maxLen; omega) (by omega) B2.out.size ?_)
      intro v3 w3 hown3 hgrow3 _
      have F3 : Hid (CAt w3 w.heap.size s ∧ w3.ownsRow w.heap.size 5 1 v3 (64 * (k + 1 + 1)) (U8 (encS (sup1 s) ++ homes (k + 1))) ∧ Below w.heap.size w w3) := by
        refine ⟨box_kept A2.out O2.out hgrow3 (by decide), ?_, B2.out.grown hgrow3 B2.out.size (fun g hg => (O2.out.lt g hg).1)⟩
        rw [HX.out, show 64 * (k + 1 + 1) = 64 * (k + 1) + 64 by omega]
        exact hown3
      clear hown3 hgrow3 A2 B2 O2 X2
      go_wp2_with fail
      go_roundw
      case rel => exact ⟨k + 1, by omega, by go_num, F3.out⟩
      case measure => simp [intOf]; omega
    · obtain rfl : m = k := by omega
      have c1 := (HCI.out _ Ar.out).2
      obtain ⟨g4, c4, rfl, -⟩ := own_shape Or.out (by omega)
      go_wp2_with (at_builtin; refine wpList_append_zeros_own _ rfl (.tmp 36) _ 24 3 rfl w.heap.size 5 i0 (.int .u8 0) 1 .i64 .i64 Tryz.underlying24 Tryz.underlying3 hi hz0 hz1 hz2 rfl rfl g4 (64 * (m + 1)) c4 (U8 (encS (sup1 s) ++ homes m)) rfl Or.out K rfl hk1 (by unfold maxLen; omega) (by omega) Br.out.size ?_)
      intro v5 w5 hown5 hgrow5
      have B5 : Hid (Below w.heap.size w w5) := Br.out.grown hgrow5 Br.out.size (fun k hk => (Or.out.lt k hk).1)
      have O5 : Hid (w5.ownsRow w.heap.size 5 1 v5 (64 * (m + 1) + K) (U8 (newS s))) := by
        show w5.ownsRow _ _ _ _ _ _
        rw [HN.out.1]
        simp only [U8, zs, List.map_append, List.map_replicate] at hown5 ⊢
        exact hown5
      clear hown5 hgrow5 Or Br Ar c1
      obtain ⟨g5, c5, rfl, hc5⟩ := own_shape O5.out (by omega)
      have X5 : Hid (BIn w5 (some ⟨g5, 0, none⟩) (64 * (m + 1) + K) (newS s)) := own_bin O5.out (newS_bytes HC.out)
      go_wp2_with fail
      refine (load_good g5 0 (64 * (m + 1) + K) c5 (cntS s) (newS s) w5 X5.out HN.out.2.1 hc5 (by unfold cntS; omega) HN.out.2.2).mono ?_
      rintro e w6 ⟨p, rfl, d6, b6⟩
      have F6 : Hid (Dsk w6 (fun k => w.heap.size ≤ k) p (cntS s) (newS s) [] ∧ Below w.heap.size w w6) := ⟨d6.mono (fun k _ hk => Nat.le_trans B5.out.size hk), below_then B5.out b6⟩
      clear d6 b6 X5 O5 B5
      go_wp2_with fail
      go_ret2
      exact ⟨p, rfl, F6.out.1, F6.out.2⟩
end Go.Proofs.YtefnkjajjidfaaaGreatDoor
