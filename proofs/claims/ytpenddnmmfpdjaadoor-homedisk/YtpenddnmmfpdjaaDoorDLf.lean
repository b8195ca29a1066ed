/-
  Contracts of layer 4, sixth part: Copy, Load.
-/
import Derived.Test.YtpenddnmmfpdjaaDoorN5
namespace Go.Proofs.YtpenddnmmfpdjaaDoor
open Go.RowKit
/-- what stands while an image is loaded -/
structure Ldn (w wr : World) (p q n cap : Nat) (v : Value) (D N : Nat → List Int) : Prop where
  str : wr.heap[p]? = some (.cells #[.slice (some ⟨q, 0, none⟩) n cap, v] 97 (0, 0))
  pl : Pl wr q n cap D N
  wt : wr.ownsRow 0 100 65 v 0 []
  below : Below w.heap.size w wr
  hp : w.heap.size ≤ p
  hq : w.heap.size ≤ q
  hv : ∀ k, v.ownBlock = some k → w.heap.size ≤ k
theorem Ldn.later {w wr w' : World} {p q n cap : Nat} {v : Value} {D N : Nat → List Int} (h : Ldn w wr p q n cap v D N) (hb : Below wr.heap.size wr w') : Ldn w w' p q n cap v D N :=
  ⟨(hb.block p (Blk.lt (t := 97) (sz := 2) ⟨_, h.str, rfl⟩)).trans h.str, h.pl.same (hb.block q h.pl.blk.lt), own_later h.wt hb, h.below.trans (hb.mono h.below.size), h.hp, h.hq, h.hv⟩
theorem Ldn.cell0 {w wr : World} {p q n cap : Nat} {v : Value} {D N : Nat → List Int} (h : Ldn w wr p q n cap v D N) : wr.cell? ⟨p, 0, none⟩ = some (.slice (some ⟨q, 0, none⟩) n cap) := by
  rw [cell_of_row _ _ _ _ 97 (0, 0) h.str]; rfl
theorem setCells_append (g : Nat) : ∀ (vs us : List Value) (o : Nat) (w : World), w.setCells g o (vs ++ us) = (w.setCells g o vs).setCells g (o + vs.length) us
  | [], us, o, w => rfl
  | v :: r, us, o, w => by
    show (w.setCell ⟨g, o, none⟩ v).setCells g (o + 1) (r ++ us) = _
    rw [setCells_append g r us (o + 1) _, List.length_cons, show o + 1 + r.length = o + (r.length + 1) by omega]
    rfl
theorem Ldn.set {w wr : World} {p q n cap k : Nat} {v : Value} {D N : Nat → List Int} (h : Ldn w wr p q n cap v D N) (b : List Int) (hb : b.length = 64) (hk : k < n) : Ldn w (wr.setCells q (k * 128) (U8 b ++ U8 b)) p q n cap v (fun i => if i = k then b else D i) (fun i => if i = k then b else N i) := by
  have hpq : p ≠ q := Blk.ne (t := 97) (sz := 2) ⟨_, h.str, rfl⟩ h.pl.blk (by decide)
  refine ⟨(setCells_other hpq _ _ _).trans h.str, ?_, own_same h.wt (fun k hk => ?_), below_setCells h.hq _ _ _ _ h.below, h.hp, h.hq, h.hv⟩
  · rw [setCells_append, U8_length, hb]
    exact (h.pl.setD b hb hk).setN b hb hk
  · obtain ⟨sz, hk'⟩ := own_ownBlk h.wt hk
    exact setCells_other (hk'.ne h.pl.blk (by decide)) _ _ _
/-- the sectors of the first k, and zeros -/
def upk (xs : List Int) (k : Nat) : Nat → List Int := fun i => if i < k then sec xs i else List.replicate 64 0
theorem upk_step (xs : List Int) (k : Nat) : (fun i => if i = k then sec xs k else upk xs k i) = upk xs (k + 1) := by
  funext i
  simp only [upk]
  by_cases c : i = k
  · subst c; simp
  · by_cases c2 : i < k
    · simp [c, c2, show i < k + 1 by omega]
    · simp [c, c2, show ¬ i < k + 1 by omega]
set_option maxHeartbeats 1000000 in
set_option maxRecDepth 100000 in
theorem load_odd (a : Option Addr) (m c : Nat) (w : World) (h : ¬ m % 64 = 0) (hm : m ≤ 140737488355328) : Calls Tryd.prog 39 #[.slice a m c] w fun e w' => e = .returned (.tuple #[.pointer none, .int .i64 2]) ∧ w = w' := by
  have e1 : ((m : Int) % 64 != 0) = true := by rw [bne_iff_ne]; omega
  go_enter Tryd.func39, Tryd.ntmps39
  go_wp2
  go_ret2
  exact ⟨rfl, rfl⟩
set_option maxHeartbeats 1000000 in
set_option maxRecDepth 100000 in
theorem load_bad (a : Option Addr) (m c : Nat) (w : World) (h : m % 64 = 0) (h2 : m = 0 ∨ 262144 < m) (hm : m ≤ 140737488355328) : Calls Tryd.prog 39 #[.slice a m c] w fun e w' => e = .returned (.tuple #[.pointer none, .int .i64 2]) ∧ w = w' := by
  have e1 : ((m : Int) % 64 != 0) = false := by rw [show (m : Int) % 64 = 0 by omega]; rfl
  go_enter Tryd.func39, Tryd.ntmps39
  go_wp2_with fail
  refine (new_bad ((m : Int) / 64) w (by omega)).mono ?_
  rintro e w1 ⟨rfl, rfl⟩
  go_wp2
  go_ret2
  exact ⟨rfl, rfl⟩
theorem sec_range {w : World} {g o m n k : Nat} {xs : List Int} (h : BIn w (some ⟨g, o, none⟩) m xs) (hm : m = 64 * n) (hk : k < n) : w.rangeAt g (o + k * 64) (U8 (sec xs k)) := fun j v hv => by
  have hj : j < 64 := by have := (List.getElem?_eq_some_iff.1 hv).1; rw [U8_length, sec_length (h.len.trans hm) hk] at this; exact this
  rw [Nat.add_assoc]
  refine h.range (k * 64 + j) v ?_
  rw [← hv]
  simp only [U8, List.getElem?_map, sec_get xs k j hj]
  rw [Nat.mul_comm]
set_option maxHeartbeats 2000000 in
set_option maxRecDepth 100000 in
theorem load_good (g o m c n : Nat) (xs : List Int) (w : World) (h : BIn w (some ⟨g, o, none⟩) m xs) (hm : m = 64 * n) (hmc : m ≤ c) (hn1 : 1 ≤ n) (hn2 : n ≤ 4096) :
    Calls Tryd.prog 39 #[.slice (some ⟨g, o, none⟩) m c] w fun e w' => ∃ p, e = .returned (.tuple #[.pointer (some ⟨p, 0, none⟩), .int .i64 0]) ∧ Dsk w' (fun k => w.heap.size ≤ k) p n xs [] ∧ Below w.heap.size w w' := by
  have e1 : ((m : Int) % 64 != 0) = false := by rw [show (m : Int) % 64 = 0 by omega]; rfl
  have e2 : (m : Int) / 64 = (n : Int) := by omega
  have HX : Hid (BIn w (some ⟨g, o, none⟩) m xs) := h
  have HL : Hid (xs.length = 64 * n) := h.len.trans hm
  have HM : Hid (m = 64 * n) := hm
  clear h hm
  go_enter Tryd.func39, Tryd.ntmps39
  go_wp2_with fail
  clear e1 e2
  refine (new_good n w hn1 hn2).mono ?_
  rintro e w1 ⟨p, rfl, ⟨q, cap, v, hd⟩, hb1⟩
  have h0 := hd.cell0
  have HD0 : Hid (Ldn w w1 p q n cap v (upk xs 0) (upk xs 0)) := by
    refine ⟨hd.str, hd.pl.congr (fun i hi => ?_) (fun i hi => ?_), hd.wt, hb1, hd.sp, hd.sq, hd.sv⟩
    · rw [sec_zeros n i hi]; rfl
    · rw [newest_nil, sec_zeros n i hi]; rfl
  clear hd
  go_wp2
  clear h0
  go_loopw [27] (fun i wr => ∃ k : Nat, k ≤ n ∧ i = .int .i64 k ∧ Hid (Ldn w wr p q n cap v (upk xs k) (upk xs k))) (fun i _ => n - (intOf i).toNat)
  case atStart => exact ⟨0, by omega, rfl, HD0.out⟩
  case round =>
    obtain ⟨k, hkm, rfl, HR⟩ := hrel
    clear HD0
    by_cases hlt : k < n
    · have hm := HM.out
      have hmul : IntKind.i64.wrap ((k : Int) * 64) = (k : Int) * 64 := by rw [IntKind.wrap_i64]; omega
      have l1 : (k : Int) * 64 ≤ (m : Int) := by omega
      have l2 : (m : Int) ≤ (c : Int) := by omega
      have l3 : ¬ (c : Int) = (k : Int) * 64 := by omega
      have l4 : (0 : Int) ≤ (k : Int) * 64 := by omega
      have hr : wr.rangeAt g (o + k * 64) (U8 (sec xs k)) := sec_range (HX.out.later HR.out.below) hm hlt
      have HLk : Hid ((sec xs k).length = 64) := sec_length HL.out hlt
      have hat : ∀ (w : World) (a : Option Addr) (l c : Nat), 64 ≤ l → (Instr.arrayAt 98 (.slice a l c)).run Tryd.prog w = .ok (.pointer a) w := fun w a l c hl => run_arrayAt w 98 _ 64 _ l c Tryd.underlying98 hl
      have hat2 := fun w c => hat w (some ⟨g, o + k * 64, none⟩) (m - k * 64) c (by omega)
      have HRb : Hid (Bytes (sec xs k)) := HX.out.byte.sec k
      have HU : Hid (Ldn w ((wr.alloc (.cells (U8 (sec xs k)).toArray 98)).setCells q (k * 128) (U8 (sec xs k) ++ U8 (sec xs k))) p q n cap v (upk xs (k + 1)) (upk xs (k + 1))) := by
        have := (HR.out.later (below_alloc wr (.cells (U8 (sec xs k)).toArray 98))).set (sec xs k) HLk.out hlt
        rw [upk_step] at this
        exact this
      have hD := HR.out.later (below_alloc wr (.cells (U8 (sec xs k)).toArray 98))
      have t0 := hD.cell0
      have t1 : (wr.alloc (.cells (U8 (sec xs k)).toArray 98)).rangeAt wr.heap.size 0 (U8 (sec xs k)) := new_range wr _ 98
      have t2 : (wr.alloc (.cells (U8 (sec xs k)).toArray 98)).there q (k * 128) 128 := hD.pl.blk.there _ _ (by have := hD.pl.ncap; omega)
      have HNE : Hid (p ≠ q ∧ wr.heap.size ≠ q) := ⟨Blk.ne (t := 97) (sz := 2) ⟨_, hD.str, rfl⟩ hD.pl.blk (by decide), by have := HR.out.pl.blk.lt; omega⟩
      clear hat hm HR hD
      generalize sec xs k = b at *
      go_wp2_with (first | (refine wpList_load_mid (by rfl) 98 (.tmp 34) (by rfl) g (o + k * 64) (by rfl) (U8 b) _ hr Tryd.underlying98 rfl (by rw [size69, U8_length, HLk.out]) ?_) | (refine wpList_alloc69 (by rfl) (by rfl) ?_) | (refine wpList_store69 (by rfl) (.tmp 7) (.tmp 35) (by rfl) b (by rfl) (by rfl) HLk.out ?_) | fail)
      simp only [Act.put, List.setIfInBounds_toArray, List.set_cons_zero, List.set_cons_succ]
      obtain ⟨W, hW⟩ : ∃ W, wr.alloc (.cells (U8 b).toArray 98) = W := ⟨_, rfl⟩
      rw [hW] at t0 t1 t2 HU ⊢
      clear hW hr hat2 hmul l1 l2 l3 l4
      have i1 : (k : Int) < (n : Int) := by omega
      have i0 : (0 : Int) ≤ (k : Int) := by omega
      have k0 : (W.drew.setCells q (k * 128) (U8 b ++ U8 b)).cell? ⟨p, 0, none⟩ = some (.slice (some ⟨q, 0, none⟩) n cap) := by
        rw [World.cell?_setCells_out _ _ _ _ _ (fun e => absurd e HNE.out.1)]; exact t0
      have k1 : (W.drew.setCells q (k * 128) (U8 b ++ U8 b)).rangeAt wr.heap.size 0 (U8 b) := World.rangeAt_setCells_apart (w := W.drew) t1 _ _ _ (Or.inl HNE.out.2)
      have k2 : (W.drew.setCells q (k * 128) (U8 b ++ U8 b)).there q (k * 128) 128 := World.there_setCells (w := W.drew) t2 _ _ _
      refine wp_region_noPanic ?_
      refine wp_region_held_drew (S := (fun w' => w'.cell? ⟨p, 0, none⟩ = some (.slice (some ⟨q, 0, none⟩) n cap) ∧ w'.rangeAt wr.heap.size 0 (U8 b) ∧ w'.there q (k * 128) 128)) (by kernel_rfl) ⟨t0, t1, t2⟩ (fun hHeld => ?_)
      refine wpAnyH_take (i := 0) (v := ?v0) (by simp; rfl) (by kernel_rfl) (by kernel_rfl) (by kernel_rfl) (fun _ _ _ h => h) (Or.inl ⟨by rfl, ?y0⟩) hHeld ?r0
      case y0 => intro w hSw; obtain ⟨hSw, -, -⟩ := hSw; go_simp; with_reducible rfl
      simp only [Act.put, List.setIfInBounds_toArray, List.set_cons_zero, List.set_cons_succ]
      refine wpAnyH_take (i := 1) (v := ?v1) (by simp; rfl) (by kernel_rfl) (by kernel_rfl) (by kernel_rfl) (fun _ _ _ h => h) (Or.inl ⟨by rfl, ?y1⟩) hHeld ?r1
      case y1 => intro w hSw; obtain ⟨hSw, -, -⟩ := hSw; go_simp; with_reducible rfl
      simp only [Act.put, List.setIfInBounds_toArray, List.set_cons_zero, List.set_cons_succ]
      refine wpAnyH_take (i := 2) (v := ?v2) (by simp; rfl) (by kernel_rfl) (by kernel_rfl) (by kernel_rfl) (fun _ _ _ h => h) (Or.inl ⟨by rfl, ?y2⟩) hHeld ?r2
      case y2 => intro w hSw; obtain ⟨hSw, -, -⟩ := hSw; go_simp; with_reducible rfl
      simp only [Act.put, List.setIfInBounds_toArray, List.set_cons_zero, List.set_cons_succ]
      refine wpAnyH_take (i := 3) (v := ?v3) (by simp; rfl) (by kernel_rfl) (by kernel_rfl) (by kernel_rfl) (fun _ _ _ h => h) (Or.inl ⟨by rfl, ?y3⟩) hHeld ?r3
      case y3 => intro w hSw; obtain ⟨hSw, -, -⟩ := hSw; go_simp; with_reducible rfl
      simp only [Act.put, List.setIfInBounds_toArray, List.set_cons_zero, List.set_cons_succ]
      refine wpAnyH_take (i := 4) (v := ?v4) (by simp; rfl) (by kernel_rfl) (by kernel_rfl) (by kernel_rfl) (fun _ _ _ h => h) (Or.inl ⟨by rfl, ?y4⟩) hHeld ?r4
      case y4 => intro w hSw; obtain ⟨hSw, -, -⟩ := hSw; go_simp; with_reducible rfl
      simp only [Act.put, List.setIfInBounds_toArray, List.set_cons_zero, List.set_cons_succ]
      refine wpAnyH_take (i := 5) (v := _) (by simp; rfl) (by kernel_rfl) (by kernel_rfl) (by kernel_rfl) (fun _ _ _ h => h) (yieldsIf_load_mid (by rfl) 98 (.tmp 7) rfl wr.heap.size 0 rfl (U8 b) _ (fun _ h => h.2.1) Tryd.underlying98 rfl (by rw [size69, U8_length, HLk.out])) hHeld ?_
      simp only [Act.put, List.setIfInBounds_toArray, List.set_cons_zero, List.set_cons_succ]
      refine wpAnyH_take (i := 6) (v := _) (by simp; rfl) (by kernel_rfl) (by kernel_rfl) (by kernel_rfl) (fun _ _ _ h => h) (yieldsIf_load_mid (by rfl) 98 (.tmp 7) rfl wr.heap.size 0 rfl (U8 b) _ (fun _ h => h.2.1) Tryd.underlying98 rfl (by rw [size69, U8_length, HLk.out])) hHeld ?_
      simp only [Act.put, List.setIfInBounds_toArray, List.set_cons_zero, List.set_cons_succ]
      refine wpAnyH_take (i := 7) (v := _) (by simp; rfl) (by kernel_rfl) (by kernel_rfl) (by kernel_rfl) (fun _ _ _ h => h) (yields_build71 (by rfl) (.tmp 41) (.tmp 42) rfl b b rfl rfl HLk.out HLk.out) hHeld ?_
      simp only [Act.put, List.setIfInBounds_toArray, List.set_cons_zero, List.set_cons_succ]
      refine wpAnyH_take (i := 8) (v := ?v8) (by simp; rfl) (by kernel_rfl) (by kernel_rfl) (by kernel_rfl) (fun _ _ _ h => h) (Or.inl ⟨by rfl, ?y8⟩) hHeld ?r8
      case y8 => intro w hSw; clear hSw; go_simp; with_reducible rfl
      simp only [Act.put, List.setIfInBounds_toArray, List.set_cons_zero, List.set_cons_succ]
      refine wpAnyH_ready (rs := [9]) (by kernel_rfl) (by simp) ?_
      refine AllReadyH.cons (by simp; rfl) (fun K hK => ?_) AllReadyH.nil
      rw [if_pos (by rfl)]
      refine wp_store_mid 104 (.tmp 44) (.tmp 43) rfl q (k * 128) (U8 b ++ U8 b).toArray rfl rfl (by rw [List.size_toArray, List.length_append, U8_length, HLk.out]; exact t2) (by rw [size71, List.size_toArray, List.length_append, U8_length, HLk.out]) (all_oneCell_toArray (fun u hu => (List.mem_append.1 hu).elim (ones_u8 b u) (ones_u8 b u))) ?_
      rw [List.toList_toArray]
      refine hK.out _ _ ⟨k0, k1, k2⟩ (fun hHeld => ?_)
      clear hK K
      refine wpAnyH_done (by kernel_rfl) (NoPanic.normal ?_) _
      simp only [Act.put]
      rw [setCells_drew]
      clear k0 k1 k2 t0 t1 t2
      go_wp2
      go_roundw
      case rel => exact ⟨k + 1, by omega, by go_num, HU.out.later ⟨rfl, rfl, rfl, Nat.le_refl _, fun _ _ => rfl⟩⟩
      case measure => simp [intOf]; omega
    · obtain rfl : k = n := by omega
      have HF : Hid (Dsk wr (fun k => w.heap.size ≤ k) p k xs [] ∧ Below w.heap.size w wr) := by
        refine ⟨⟨q, cap, v, HR.out.str, HR.out.pl.congr (fun i hi => ?_) (fun i hi => ?_), HR.out.wt, HR.out.hp, HR.out.hq, HR.out.hv, hn1, hn2, HL.out, HX.out.byte, Fit.nil _⟩, HR.out.below⟩
        · simp [upk, hi]
        · simp [upk, hi, newest_nil]
      clear HR
      go_wp2
      go_ret2
      exact ⟨_, rfl, HF.out.1, HF.out.2⟩
end Go.Proofs.YtpenddnmmfpdjaaDoor
