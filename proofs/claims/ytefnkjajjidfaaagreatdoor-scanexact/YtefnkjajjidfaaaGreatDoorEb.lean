/-
  Layer 10, the functions: follows, recordAt.
-/
import Derived.Test.YtefnkjajjidfaaaGreatDoorEa
import Derived.Test.YtefnkjajjidfaaaGreatDoorDLd
import Derived.Test.YtefnkjajjidfaaaGreatDoorGRc
namespace Go.Proofs.YtefnkjajjidfaaaGreatDoor
open Go.RowKit


theorem rd_at {w : World} {S : Nat → Prop} {p n : Nat} {d : List Int} {ws : List Wr} (h : Dsk w S p n d ws) (i : Int) (h0 : 0 ≤ i) (h1 : i < n) : Calls Tryz.prog 44 #[.pointer (some ⟨p, 0, none⟩), .int .i64 i] w fun e w' => ∃ q c, e = .returned (.tuple #[.slice q 64 c, .int .i64 0]) ∧ BIn w' q 64 (newest ws d i.toNat) ∧ 64 ≤ c ∧ Below w.heap.size w w' := by
  obtain ⟨k, rfl⟩ : ∃ k : Nat, i = k := ⟨i.toNat, by omega⟩
  have hb : Bytes (newest ws d k) ∧ (newest ws d k).length = 64 := by
    obtain ⟨q, cap, v, hp⟩ := h
    exact ⟨newk_bytes hp.db hp.fit _, newk_length hp.dl hp.fit (by omega) _⟩
  refine (read_good h k (by omega)).mono ?_
  rintro e w' ⟨v, rfl, ho, hw⟩
  obtain ⟨q, c, rfl, hr, hc⟩ := own_in ho hb.1
  exact ⟨q, c, rfl, by rw [Int.toNat_natCast]; exact hr, hc.1, hw⟩
set_option maxHeartbeats 1000000 in
set_option maxRecDepth 100000 in
theorem follows_any (q : Option Addr) (n c : Nat) (l : List Im) (b mr : Int) (w : World) (h : MIn w q n l) (hn : n ≤ 1000) : Calls Tryz.prog 29 #[.slice q n c, .int .i64 b, .int .i64 mr] w fun e w' => e = .returned (.bool (decide (Folls l b mr))) ∧ w = w' := by
  have hl := h.len
  by_cases h1 : mr ≤ (n : Int)
  · have hd : decide (Folls l b mr) = false := decide_eq_false fun k => by have := k.1; omega
    rw [hd]
    clear h hl hd
    go_enter Tryz.func29, Tryz.ntmps29
    go_wp2
    go_ret
    exact ⟨rfl, rfl⟩
  · by_cases h2 : n = 0
    · have hd : decide (Folls l b mr) = true := decide_eq_true ⟨by omega, .inl (by omega)⟩
      rw [hd]
      have h1' : ¬ mr ≤ 0 := by omega
      clear hd h
      subst h2
      go_enter Tryz.func29, Tryz.ntmps29
      go_wp2
      go_ret
      exact ⟨rfl, rfl⟩
    · obtain ⟨m, rfl⟩ : ∃ m, n = m + 1 := ⟨n - 1, by omega⟩
      obtain ⟨g, o, rfl, _⟩ := h.cells (by omega)
      obtain ⟨i, hm⟩ : ∃ i, l[m]? = some i := ⟨_, List.getElem?_eq_getElem (by omega)⟩
      have c0 := h.c0 hm
      have hlb : lastB l = i.b := by
        unfold lastB
        rw [List.getD, hl, Nat.add_sub_cancel, hm]; rfl
      have hd : decide (Folls l b mr) = decide (i.b < b) := by
        unfold Folls
        rw [hlb]
        simp only [hl]
        by_cases hq : i.b < b
        · rw [decide_eq_true hq, decide_eq_true ⟨by omega, .inr hq⟩]
        · rw [decide_eq_false hq, decide_eq_false fun k => k.2.elim (by omega) hq]
      rw [hd]
      obtain ⟨y, hy⟩ : ∃ y, y = i.b := ⟨_, rfl⟩
      rw [← hy] at c0 ⊢
      have e0 : ¬ ((m : Int) + 1 = 0) := by omega
      have e1 : ((m + 1 : Nat) : Int) = (m : Int) + 1 := by omega
      have e2 : (m : Int) + 1 - 1 = m := by omega
      clear h hd hlb hm hy hl
      go_enter Tryz.func29, Tryz.ntmps29
      go_wp2
      go_ret
      exact ⟨by simp; omega, rfl⟩
set_option maxHeartbeats 2000000 in
set_option maxRecDepth 100000 in
theorem recordAt_any {w : World} {S : Nat → Prop} {p n : Nat} {d : List Int} {ws : List Wr} (h : Dsk w S p n d ws) (ht : Tab w) (c : Sup) (hc : MayC c) (hn : (n : Int) = 1 + c.bl + c.lc) (x : Int) (h0 : 0 ≤ x) :
    Calls Tryz.prog 28 #[.pointer (some ⟨p, 0, none⟩), .agg (ccells c).toArray, .int .u64 x] w fun e w' => e = .returned (.tuple #[.agg (R.rcells (stS c (newest ws d) x).1).toArray, .bool (stS c (newest ws d) x).2]) ∧ Below w.heap.size w w' := by
  obtain ⟨wa, hwa⟩ : ∃ y, y = w.alloc (.cells (ccells c).toArray 23) := ⟨_, rfl⟩
  obtain ⟨w0, hw0⟩ : ∃ y, y = wa.alloc (.cells (R.rcells R.rec0).toArray 87) := ⟨_, rfl⟩
  have ewa := hwa.symm
  have sa : wa.heap.size = w.heap.size + 1 := by rw [hwa]; simp
  have A1 : Hid (_) := R.alloc31 wa
  rw [← hw0, sa] at A1
  have Ba : Below w.heap.size w wa := by rw [hwa]; exact below_alloc w _
  have B0 : Hid (Below w.heap.size w w0) := by rw [hw0]; exact below_then Ba (below_alloc wa _)
  have C0 : Hid (CAt w0 w.heap.size c) := by
    rw [hw0]
    refine LAt.later ?_ (below_alloc wa _)
    rw [hwa]; exact LAt.new 23 w _
  have V0 : Hid (R.RAt 87 w0 (w.heap.size + 1) R.rec0) := by rw [hw0, ← sa]; exact R.RAt.new 87 wa _
  have HD : Hid (Dsk w S p n d ws) := h
  have HT : Hid (Tab w) := ht
  have c1 := CAt.c1 C0.out
  have hb1 := hc.1
  have hl1 := hc.2.1
  have HC : Hid (MayC c) := hc
  obtain ⟨y, f, hslot, hy0, hy1, hy⟩ : ∃ y f, G.slotS x c.lc = (y, f) ∧ 0 ≤ y ∧ y < c.lc ∧ (x ≤ 4611686018427387904 → x % c.lc = y) := by
    by_cases hx : x ≤ 4611686018427387968
    · exact ⟨x % c.lc, 0, by unfold G.slotS; rw [if_pos hl1, if_neg (by omega)], Int.emod_nonneg x (by omega), Int.emod_lt_of_pos x (by omega), fun _ => rfl⟩
    · exact ⟨0, 31, by unfold G.slotS; rw [if_pos hl1, if_pos (by omega)], Int.le_refl 0, by omega, fun h => by omega⟩
  have HST : Hid (∀ z, R.decS (newest ws d (1 + c.bl + y).toNat) = z → (¬ z.2 = 0 → stS c (newest ws d) x = (R.rec0, false)) ∧ (¬ z.1.pos = x → stS c (newest ws d) x = (R.rec0, false)) ∧ (c.bl ≤ z.1.block → stS c (newest ws d) x = (R.rec0, false)) ∧ (z.2 = 0 → z.1.pos = x → z.1.block < c.bl → stS c (newest ws d) x = (z.1, true))) := by
    rintro z rfl
    by_cases hx : x ≤ 4611686018427387904
    · rw [← hy hx]
      exact ⟨fun a => stS_no fun k => a k.1, fun a => stS_no fun k => a k.2.1, fun a => stS_no fun k => by have := k.2.2; omega, fun a b e => stS_yes ⟨a, b, e⟩⟩
    · have hno : stS c (newest ws d) x = (R.rec0, false) := stS_no fun k => hx (by rw [← k.2.1]; exact R.may_pos (R.decS_good _ k.1).1)
      exact ⟨fun _ => hno, fun _ => hno, fun _ => hno, fun a b _ => absurd (by rw [← b]; exact R.may_pos (R.decS_good _ a).1) hx⟩
  clear hwa hw0 h ht hc hy Ba
  go_enter Tryz.func28, Tryz.ntmps28
  go_wp2_with ((with_reducible refine at_ops ?_); (refine wpList_alloc_is (by rfl) 87 rfl A1.out ?_); simp only [Act.put, List.setIfInBounds_toArray, List.set_cons_zero, List.set_cons_succ])
  refine (G.slot_any x c.lc h0 _).mono ?_
  rintro e w1 ⟨rfl, rfl⟩
  rw [hslot]
  have c0 := CAt.c0 C0.out
  clear c1 hslot A1 ewa
  go_wp2_with fail
  refine (rd_at (HD.out.later B0.out) (1 + c.bl + y) (by omega) (by omega)).mono ?_
  rintro e w2 ⟨q2, c2, rfl, x2, hc2, b2⟩
  have X2 : Hid (BIn w2 q2 64 (newest ws d (1 + c.bl + y).toNat)) := x2
  have B2 : Hid (Below w.heap.size w w2) := below_then B0.out b2
  have C2 : Hid (CAt w2 w.heap.size c) := LAt.later C0.out b2
  have V2 : Hid (R.RAt 87 w2 (w.heap.size + 1) R.rec0) := R.RAt.later V0.out b2
  clear x2 b2 c0 C0 V0 B0
  go_wp2_with fail
  refine (R.decode_any q2 64 c2 _ w2 X2.out hc2 (HT.out.later B2.out).half).mono ?_
  rintro e w3 ⟨rfl, b3⟩
  have B3 : Hid (Below w.heap.size w w3) := below_then B2.out b3
  have V3 : Hid (R.RAt 87 w3 (w.heap.size + 1) R.rec0) := R.RAt.later V2.out b3
  have C3 : Hid (CAt w3 w.heap.size c) := LAt.later C2.out b3
  have HW : Hid ((R.decS (newest ws d (1 + c.bl + y).toNat)).1.Wf) := R.decS_wf _ X2.out.byte
  clear b3 X2 B2 V2 C2 HD HT
  obtain ⟨⟨r, k⟩, hz⟩ : ∃ z, R.decS (newest ws d (1 + c.bl + y).toNat) = z := ⟨_, rfl⟩
  have HZ : Hid (_) := HST.out _ hz
  rw [hz] at HW ⊢
  clear hz HST
  obtain ⟨w4, hw4⟩ : ∃ y, y = w3.alloc (.cells (R.rcells r).toArray 87) := ⟨_, rfl⟩
  have A4 : Hid (_) := R.alloc31 w3
  have T4 : Hid (_) := R.store_new R.size31 w3 r HW.out.len
  rw [← hw4] at T4
  have B34 : Hid (Below w3.heap.size w3 w4) := by rw [hw4]; exact below_alloc w3 _
  have B4 : Hid (Below w.heap.size w w4) := below_then B3.out B34.out
  have V4 : Hid (R.RAt 87 w4 (w.heap.size + 1) R.rec0) := R.RAt.later V3.out B34.out
  have C4 : Hid (CAt w4 w.heap.size c) := LAt.later C3.out B34.out
  have R4 : Hid (R.RAt 87 w4 w3.heap.size r) := by rw [hw4]; exact R.RAt.new 87 w3 r
  have hne : w.heap.size + 1 < w3.heap.size := R.RAt.lt V3.out
  clear hw4 B34 V3 B3 C3
  have U4 : Hid (_) := R.build31 w4 #[] R.rec0 R.fill_none
  have T5 : Hid (_) := R.RAt.store R.size31 (s := R.rec0) V4.out R.rec0_len R.rec0_len
  have F5 : Hid (R.RAt 87 (w4.setRow (w.heap.size + 1) (R.rcells R.rec0).toArray) (w.heap.size + 1) R.rec0) := R.RAt.stored V4.out _
  have G5 : Hid (Below w.heap.size w (w4.setRow (w.heap.size + 1) (R.rcells R.rec0).toArray)) := below_setRow B4.out (Nat.le_succ _) _
  have c0 := CAt.c0 C4.out
  have c1 := R.RAt.c1 R4.out
  have c2' := R.RAt.c2 R4.out
  by_cases hk : k = 0
  · subst hk
    by_cases hp : r.pos = x
    · by_cases hbk : c.bl ≤ r.block
      · have HR : Hid (_) := HZ.out.2.2.1 hbk
        clear HZ
        have hq : (r.pos != x) = false := by simp [hp]
        have hbk' : r.block ≥ c.bl := hbk
        go_wp2_with ((with_reducible refine at_ops ?_); (first | (refine wpList_alloc_is (by rfl) 87 rfl A4.out ?_) | (refine wpList_store_is (by rfl) 87 rfl rfl rfl T4.out ?_) | (refine wpList_build_is (vs := []) (by rfl) 87 rfl (by rfl) U4.out ?_) | (refine wpList_store_is (by rfl) 87 rfl rfl rfl T5.out ?_)); simp only [Act.put, List.setIfInBounds_toArray, List.set_cons_zero, List.set_cons_succ])
        rw [HR.out]
        exact bodyPost_ret (R.results_rec Tryz.results28 _ _ (w.heap.size + 1) 87 R.rec0 _ (by rfl) F5.out R.rec0_len Tryz.underlying87 rfl R.size31) rfl ⟨rfl, G5.out⟩
      · have HR : Hid (_) := HZ.out.2.2.2 rfl hp (by show r.block < c.bl; omega)
        have L6 : Hid (_) := R.RAt.load31 R4.out HW.out.len
        have T6 : Hid (_) := R.RAt.store R.size31 (s := r) V4.out R.rec0_len HW.out.len
        have F6 : Hid (R.RAt 87 (w4.setRow (w.heap.size + 1) (R.rcells r).toArray) (w.heap.size + 1) r) := R.RAt.stored V4.out _
        have G6 : Hid (Below w.heap.size w (w4.setRow (w.heap.size + 1) (R.rcells r).toArray)) := below_setRow B4.out (Nat.le_succ _) _
        have hq : (r.pos != x) = false := by simp [hp]
        clear HZ T5 F5 G5 U4
        go_wp2_with ((with_reducible refine at_ops ?_); (first | (refine wpList_alloc_is (by rfl) 87 rfl A4.out ?_) | (refine wpList_load_is (by rfl) 87 rfl rfl L6.out ?_) | (refine wpList_store_is (by rfl) 87 rfl rfl rfl T4.out ?_) | (refine wpList_store_is (by rfl) 87 rfl rfl rfl T6.out ?_)); simp only [Act.put, List.setIfInBounds_toArray, List.set_cons_zero, List.set_cons_succ])
        rw [HR.out]
        exact bodyPost_ret (R.results_rec Tryz.results28 _ _ (w.heap.size + 1) 87 r _ (by rfl) F6.out HW.out.len Tryz.underlying87 rfl R.size31) rfl ⟨rfl, G6.out⟩
    · have HR : Hid (_) := HZ.out.2.1 hp
      have hq : (r.pos != x) = true := by simp [hp]
      clear HZ
      go_wp2_with ((with_reducible refine at_ops ?_); (first | (refine wpList_alloc_is (by rfl) 87 rfl A4.out ?_) | (refine wpList_store_is (by rfl) 87 rfl rfl rfl T4.out ?_) | (refine wpList_build_is (vs := []) (by rfl) 87 rfl (by rfl) U4.out ?_) | (refine wpList_store_is (by rfl) 87 rfl rfl rfl T5.out ?_)); simp only [Act.put, List.setIfInBounds_toArray, List.set_cons_zero, List.set_cons_succ])
      rw [HR.out]
      exact bodyPost_ret (R.results_rec Tryz.results28 _ _ (w.heap.size + 1) 87 R.rec0 _ (by rfl) F5.out R.rec0_len Tryz.underlying87 rfl R.size31) rfl ⟨rfl, G5.out⟩
  · have HR : Hid (_) := HZ.out.1 hk
    have hq : (k != 0) = true := by simp [hk]
    clear HZ
    go_wp2_with ((with_reducible refine at_ops ?_); (first | (refine wpList_alloc_is (by rfl) 87 rfl A4.out ?_) | (refine wpList_store_is (by rfl) 87 rfl rfl rfl T4.out ?_) | (refine wpList_build_is (vs := []) (by rfl) 87 rfl (by rfl) U4.out ?_) | (refine wpList_store_is (by rfl) 87 rfl rfl rfl T5.out ?_)); simp only [Act.put, List.setIfInBounds_toArray, List.set_cons_zero, List.set_cons_succ])
    rw [HR.out]
    exact bodyPost_ret (R.results_rec Tryz.results28 _ _ (w.heap.size + 1) 87 R.rec0 _ (by rfl) F5.out R.rec0_len Tryz.underlying87 rfl R.size31) rfl ⟨rfl, G5.out⟩
end Go.Proofs.YtefnkjajjidfaaaGreatDoor
