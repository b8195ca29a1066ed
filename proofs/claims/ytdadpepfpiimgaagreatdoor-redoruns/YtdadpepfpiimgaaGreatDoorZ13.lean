import Derived.Test.YtdadpepfpiimgaaGreatDoorZ11
set_option maxHeartbeats 20000000
set_option maxRecDepth 100000
namespace Go.Proofs.YtdadpepfpiimgaaGreatDoor
open Go.RowKit
theorem rd_at {w : World} {S : Nat → Prop} {p n : Nat} {d : List Int} {ws : List Wr} (h : Dsk w S p n d ws) (i : Int) (h0 : 0 ≤ i) (h1 : i < n) : Calls Tryz.prog 53 #[.pointer (some ⟨p, 0, none⟩), .int .i64 i] w fun e w' => ∃ q c, e = .returned (.tuple #[.slice q 64 c, .int .i64 0]) ∧ BIn w' q 64 (newest ws d i.toNat) ∧ 64 ≤ c ∧ Below w.heap.size w w' := by
  obtain ⟨k, rfl⟩ : ∃ k : Nat, i = k := ⟨i.toNat, by omega⟩
  have hb : Bytes (newest ws d k) ∧ (newest ws d k).length = 64 := by
    obtain ⟨q, cap, v, hp⟩ := h
    exact ⟨newk_bytes hp.db hp.fit _, newk_length hp.dl hp.fit (by omega) _⟩
  refine (read_good h k (by omega)).mono ?_
  rintro e w' ⟨v, rfl, ho, hw⟩
  obtain ⟨q, c, rfl, hr, hc⟩ := own_in ho hb.1
  exact ⟨q, c, rfl, by rw [Int.toNat_natCast]; exact hr, hc.1, hw⟩
set_option maxHeartbeats 1000000 in
set_option maxRecDepth 100000 in
theorem follows_any (q : Option Addr) (n c : Nat) (l : List Im) (b mr : Int) (w : World) (h : MIn w q n l) (hn : n ≤ 1000) : Calls Tryz.prog 108 #[.slice q n c, .int .i64 b, .int .i64 mr] w fun e w' => e = .returned (.bool (decide (Folls l b mr))) ∧ w = w' := by
  have hl := h.len
  by_cases h1 : mr ≤ (n : Int)
  · have hd : decide (Folls l b mr) = false := decide_eq_false fun k => by have := k.1; omega
    rw [hd]
    clear h hl hd
    go_enter Tryz.func108, Tryz.ntmps108
    go_wp2
    go_ret
    exact ⟨rfl, rfl⟩
  · by_cases h2 : n = 0
    · have hd : decide (Folls l b mr) = true := decide_eq_true ⟨by omega, .inl (by omega)⟩
      rw [hd]
      have h1' : ¬ mr ≤ 0 := by omega
      clear hd h
      subst h2
      go_enter Tryz.func108, Tryz.ntmps108
      go_wp2
      go_ret
      exact ⟨rfl, rfl⟩
    · obtain ⟨m, rfl⟩ : ∃ m, n = m + 1 := ⟨n - 1, by omega⟩
      obtain ⟨g, o, rfl, _⟩ := h.cells (by omega)
      obtain ⟨i, hm⟩ : ∃ i, l[m]? = some i := ⟨_, List.getElem?_eq_getElem (by omega)⟩
      have c0 := h.c0 hm
      have hlb : lastB l = i.b := by
        unfold lastB
        rw [List.getD, hl, Nat.add_sub_cancel, hm]; rfl
      have hd : decide (Folls l b mr) = decide (i.b < b) := by
        unfold Folls
        rw [hlb]
        simp only [hl]
        by_cases hq : i.b < b
        · rw [decide_eq_true hq, decide_eq_true ⟨by omega, .inr hq⟩]
        · rw [decide_eq_false hq, decide_eq_false fun k => k.2.elim (by omega) hq]
      rw [hd]
      obtain ⟨y, hy⟩ : ∃ y, y = i.b := ⟨_, rfl⟩
      rw [← hy] at c0 ⊢
      have e0 : ¬ ((m : Int) + 1 = 0) := by omega
      have e1 : ((m + 1 : Nat) : Int) = (m : Int) + 1 := by omega
      have e2 : (m : Int) + 1 - 1 = m := by omega
      clear h hd hlb hm hy hl
      go_enter Tryz.func108, Tryz.ntmps108
      go_wp2
      go_ret
      exact ⟨by simp; omega, rfl⟩
set_option maxHeartbeats 2000000 in
set_option maxRecDepth 100000 in
theorem recordAt_any {w : World} {S : Nat → Prop} {p n : Nat} {d : List Int} {ws : List Wr} (h : Dsk w S p n d ws) (ht : Tab w) (c : Sup) (hc : MayC c) (hn : (n : Int) = 1 + c.bl + c.lc) (x : Int) (h0 : 0 ≤ x) :
    Calls Tryz.prog 107 #[.pointer (some ⟨p, 0, none⟩), .agg (ccells c).toArray, .int .u64 x] w fun e w' => e = .returned (.tuple #[.agg (R.rcells (stS c (newest ws d) x).1).toArray, .bool (stS c (newest ws d) x).2]) ∧ Below w.heap.size w w' := by
  obtain ⟨wa, hwa⟩ : ∃ y, y = w.alloc (.cells (ccells c).toArray 23) := ⟨_, rfl⟩
  obtain ⟨w0, hw0⟩ : ∃ y, y = wa.alloc (.cells (R.rcells R.rec0).toArray 139) := ⟨_, rfl⟩
  have ewa := hwa.symm
  have sa : wa.heap.size = w.heap.size + 1 := by rw [hwa]; simp
  have A1 : Hid (_) := R.alloc31 wa
  rw [← hw0, sa] at A1
  have Ba : Below w.heap.size w wa := by rw [hwa]; exact below_alloc w _
  have B0 : Hid (Below w.heap.size w w0) := by rw [hw0]; exact below_then Ba (below_alloc wa _)
  have C0 : Hid (CAt w0 w.heap.size c) := by
    rw [hw0]
    refine LAt.later ?_ (below_alloc wa _)
    rw [hwa]; exact LAt.new 23 w _
  have V0 : Hid (R.RAt 139 w0 (w.heap.size + 1) R.rec0) := by rw [hw0, ← sa]; exact R.RAt.new 139 wa _
  have HD : Hid (Dsk w S p n d ws) := h
  have HT : Hid (Tab w) := ht
  have c1 := CAt.c1 C0.out
  have hb1 := hc.1
  have hl1 := hc.2.1
  have HC : Hid (MayC c) := hc
  obtain ⟨y, f, hslot, hy0, hy1, hy⟩ : ∃ y f, G.slotS x c.lc = (y, f) ∧ 0 ≤ y ∧ y < c.lc ∧ (x ≤ 4611686018427387904 → x % c.lc = y) := by
    by_cases hx : x ≤ 4611686018427387968
    · exact ⟨x % c.lc, 0, by unfold G.slotS; rw [if_pos hl1, if_neg (by omega)], Int.emod_nonneg x (by omega), Int.emod_lt_of_pos x (by omega), fun _ => rfl⟩
    · exact ⟨0, 31, by unfold G.slotS; rw [if_pos hl1, if_pos (by omega)], Int.le_refl 0, by omega, fun h => by omega⟩
  have HST : Hid (∀ z, R.decS (newest ws d (1 + c.bl + y).toNat) = z → (¬ z.2 = 0 → stS c (newest ws d) x = (R.rec0, false)) ∧ (¬ z.1.pos = x → stS c (newest ws d) x = (R.rec0, false)) ∧ (c.bl ≤ z.1.block → stS c (newest ws d) x = (R.rec0, false)) ∧ (z.2 = 0 → z.1.pos = x → z.1.block < c.bl → stS c (newest ws d) x = (z.1, true))) := by
    rintro z rfl
    by_cases hx : x ≤ 4611686018427387904
    · rw [← hy hx]
      exact ⟨fun a => stS_no fun k => a k.1, fun a => stS_no fun k => a k.2.1, fun a => stS_no fun k => by have := k.2.2; omega, fun a b e => stS_yes ⟨a, b, e⟩⟩
    · have hno : stS c (newest ws d) x = (R.rec0, false) := stS_no fun k => hx (by rw [← k.2.1]; exact R.may_pos (R.decS_good _ k.1).1)
      exact ⟨fun _ => hno, fun _ => hno, fun _ => hno, fun a b _ => absurd (by rw [← b]; exact R.may_pos (R.decS_good _ a).1) hx⟩
  clear hwa hw0 h ht hc hy Ba
  go_enter Tryz.func107, Tryz.ntmps107
  go_wp2_with ((with_reducible refine at_ops ?_); (refine wpList_alloc_is (by rfl) 139 rfl A1.out ?_); simp only [Act.put, List.setIfInBounds_toArray, List.set_cons_zero, List.set_cons_succ])
  refine (G.slot_any x c.lc h0 _).mono ?_
  rintro e w1 ⟨rfl, rfl⟩
  rw [hslot]
  have c0 := CAt.c0 C0.out
  clear c1 hslot A1 ewa
  go_wp2_with fail
  refine (rd_at (HD.out.later B0.out) (1 + c.bl + y) (by omega) (by omega)).mono ?_
  rintro e w2 ⟨q2, c2, rfl, x2, hc2, b2⟩
  have X2 : Hid (BIn w2 q2 64 (newest ws d (1 + c.bl + y).toNat)) := x2
  have B2 : Hid (Below w.heap.size w w2) := below_then B0.out b2
  have C2 : Hid (CAt w2 w.heap.size c) := LAt.later C0.out b2
  have V2 : Hid (R.RAt 139 w2 (w.heap.size + 1) R.rec0) := R.RAt.later V0.out b2
  clear x2 b2 c0 C0 V0 B0
  go_wp2_with fail
  refine (R.decode_any q2 64 c2 _ w2 X2.out hc2 (HT.out.later B2.out).half).mono ?_
  rintro e w3 ⟨rfl, b3⟩
  have B3 : Hid (Below w.heap.size w w3) := below_then B2.out b3
  have V3 : Hid (R.RAt 139 w3 (w.heap.size + 1) R.rec0) := R.RAt.later V2.out b3
  have C3 : Hid (CAt w3 w.heap.size c) := LAt.later C2.out b3
  have HW : Hid ((R.decS (newest ws d (1 + c.bl + y).toNat)).1.Wf) := R.decS_wf _ X2.out.byte
  clear b3 X2 B2 V2 C2 HD HT
  obtain ⟨⟨r, k⟩, hz⟩ : ∃ z, R.decS (newest ws d (1 + c.bl + y).toNat) = z := ⟨_, rfl⟩
  have HZ : Hid (_) := HST.out _ hz
  rw [hz] at HW ⊢
  clear hz HST
  obtain ⟨w4, hw4⟩ : ∃ y, y = w3.alloc (.cells (R.rcells r).toArray 139) := ⟨_, rfl⟩
  have A4 : Hid (_) := R.alloc31 w3
  have T4 : Hid (_) := R.store_new R.size31 w3 r HW.out.len
  rw [← hw4] at T4
  have B34 : Hid (Below w3.heap.size w3 w4) := by rw [hw4]; exact below_alloc w3 _
  have B4 : Hid (Below w.heap.size w w4) := below_then B3.out B34.out
  have V4 : Hid (R.RAt 139 w4 (w.heap.size + 1) R.rec0) := R.RAt.later V3.out B34.out
  have C4 : Hid (CAt w4 w.heap.size c) := LAt.later C3.out B34.out
  have R4 : Hid (R.RAt 139 w4 w3.heap.size r) := by rw [hw4]; exact R.RAt.new 139 w3 r
  have hne : w.heap.size + 1 < w3.heap.size := R.RAt.lt V3.out
  clear hw4 B34 V3 B3 C3
  have U4 : Hid (_) := R.build31 w4 #[] R.rec0 R.fill_none
  have T5 : Hid (_) := R.RAt.store R.size31 (s := R.rec0) V4.out R.rec0_len R.rec0_len
  have F5 : Hid (R.RAt 139 (w4.setRow (w.heap.size + 1) (R.rcells R.rec0).toArray) (w.heap.size + 1) R.rec0) := R.RAt.stored V4.out _
  have G5 : Hid (Below w.heap.size w (w4.setRow (w.heap.size + 1) (R.rcells R.rec0).toArray)) := below_setRow B4.out (Nat.le_succ _) _
  have c0 := CAt.c0 C4.out
  have c1 := R.RAt.c1 R4.out
  have c2' := R.RAt.c2 R4.out
  by_cases hk : k = 0
  · subst hk
    by_cases hp : r.pos = x
    · by_cases hbk : c.bl ≤ r.block
      · have HR : Hid (_) := HZ.out.2.2.1 hbk
        clear HZ
        have hq : (r.pos != x) = false := by simp [hp]
        have hbk' : r.block ≥ c.bl := hbk
        go_wp2_with ((with_reducible refine at_ops ?_); (first | (refine wpList_alloc_is (by rfl) 139 rfl A4.out ?_) | (refine wpList_store_is (by rfl) 139 rfl rfl rfl T4.out ?_) | (refine wpList_build_is (vs := []) (by rfl) 139 rfl (by rfl) U4.out ?_) | (refine wpList_store_is (by rfl) 139 rfl rfl rfl T5.out ?_)); simp only [Act.put, List.setIfInBounds_toArray, List.set_cons_zero, List.set_cons_succ])
        rw [HR.out]
        exact bodyPost_ret (R.results_rec Tryz.results107 _ _ (w.heap.size + 1) 139 R.rec0 _ (by rfl) F5.out R.rec0_len Tryz.underlying139 rfl R.size31) rfl ⟨rfl, G5.out⟩
      · have HR : Hid (_) := HZ.out.2.2.2 rfl hp (by show r.block < c.bl; omega)
        have L6 : Hid (_) := R.RAt.load31 R4.out HW.out.len
        have T6 : Hid (_) := R.RAt.store R.size31 (s := r) V4.out R.rec0_len HW.out.len
        have F6 : Hid (R.RAt 139 (w4.setRow (w.heap.size + 1) (R.rcells r).toArray) (w.heap.size + 1) r) := R.RAt.stored V4.out _
        have G6 : Hid (Below w.heap.size w (w4.setRow (w.heap.size + 1) (R.rcells r).toArray)) := below_setRow B4.out (Nat.le_succ _) _
        have hq : (r.pos != x) = false := by simp [hp]
        clear HZ T5 F5 G5 U4
        go_wp2_with ((with_reducible refine at_ops ?_); (first | (refine wpList_alloc_is (by rfl) 139 rfl A4.out ?_) | (refine wpList_load_is (by rfl) 139 rfl rfl L6.out ?_) | (refine wpList_store_is (by rfl) 139 rfl rfl rfl T4.out ?_) | (refine wpList_store_is (by rfl) 139 rfl rfl rfl T6.out ?_)); simp only [Act.put, List.setIfInBounds_toArray, List.set_cons_zero, List.set_cons_succ])
        rw [HR.out]
        exact bodyPost_ret (R.results_rec Tryz.results107 _ _ (w.heap.size + 1) 139 r _ (by rfl) F6.out HW.out.len Tryz.underlying139 rfl R.size31) rfl ⟨rfl, G6.out⟩
    · have HR : Hid (_) := HZ.out.2.1 hp
      have hq : (r.pos != x) = true := by simp [hp]
      clear HZ
      go_wp2_with ((with_reducible refine at_ops ?_); (first | (refine wpList_alloc_is (by rfl) 139 rfl A4.out ?_) | (refine wpList_store_is (by rfl) 139 rfl rfl rfl T4.out ?_) | (refine wpList_build_is (vs := []) (by rfl) 139 rfl (by rfl) U4.out ?_) | (refine wpList_store_is (by rfl) 139 rfl rfl rfl T5.out ?_)); simp only [Act.put, List.setIfInBounds_toArray, List.set_cons_zero, List.set_cons_succ])
      rw [HR.out]
      exact bodyPost_ret (R.results_rec Tryz.results107 _ _ (w.heap.size + 1) 139 R.rec0 _ (by rfl) F5.out R.rec0_len Tryz.underlying139 rfl R.size31) rfl ⟨rfl, G5.out⟩
  · have HR : Hid (_) := HZ.out.1 hk
    have hq : (k != 0) = true := by simp [hk]
    clear HZ
    go_wp2_with ((with_reducible refine at_ops ?_); (first | (refine wpList_alloc_is (by rfl) 139 rfl A4.out ?_) | (refine wpList_store_is (by rfl) 139 rfl rfl rfl T4.out ?_) | (refine wpList_build_is (vs := []) (by rfl) 139 rfl (by rfl) U4.out ?_) | (refine wpList_store_is (by rfl) 139 rfl rfl rfl T5.out ?_)); simp only [Act.put, List.setIfInBounds_toArray, List.set_cons_zero, List.set_cons_succ])
    rw [HR.out]
    exact bodyPost_ret (R.results_rec Tryz.results107 _ _ (w.heap.size + 1) 139 R.rec0 _ (by rfl) F5.out R.rec0_len Tryz.underlying139 rfl R.size31) rfl ⟨rfl, G5.out⟩
end Go.Proofs.YtdadpepfpiimgaaGreatDoor
namespace Go.Proofs.YtdadpepfpiimgaaGreatDoor
open Go.RowKit
set_option maxHeartbeats 400000 in
set_option maxRecDepth 100000 in
theorem take_input (p : Option Addr) (n c : Nat) (s : Int) (w : World) (hs : s < 1 ∨ 8 < s) :
    Calls Tryz.prog 153 #[.slice p n c, .int .i64 s] w fun e w' => e = .returned (.tuple #[.int .u64 0, .slice none 0 0, .int .i64 2]) ∧ w = w' := by
  have hd : decide (1 ≤ s ∧ s ≤ 8) = false := decide_eq_false (by omega)
  go_enter Tryz.func153, Tryz.ntmps153
  go_wp2_with (first | (go_at_call 132; refine (isSize_any _ _).mono ?_; rintro e w' ⟨rfl, rfl⟩))
  go_ret3
  exact ⟨rfl, rfl⟩
set_option maxHeartbeats 400000 in
set_option maxRecDepth 100000 in
theorem take_short (p : Option Addr) (n c : Nat) (k : Nat) (w : World) (hs : 1 ≤ k ∧ k ≤ 8) (hk : n < k) :
    Calls Tryz.prog 153 #[.slice p n c, .int .i64 k] w fun e w' => e = .returned (.tuple #[.int .u64 0, .slice none 0 0, .int .i64 11]) ∧ w = w' := by
  have hd : decide (1 ≤ (k : Int) ∧ (k : Int) ≤ 8) = true := decide_eq_true (by omega)
  go_enter Tryz.func153, Tryz.ntmps153
  go_wp2_with (first | (go_at_call 132; refine (isSize_any _ _).mono ?_; rintro e w' ⟨rfl, rfl⟩))
  go_ret3
  exact ⟨rfl, rfl⟩
set_option maxHeartbeats 1000000 in
set_option maxRecDepth 100000 in
theorem take_more (b o n c : Nat) (xs : List Int) (k : Nat) (w : World) (hs : 1 ≤ k ∧ k ≤ 8) (hk : k ≤ n) (hnc : n ≤ c) (hbig : n ≤ 140737488355328) (h : BIn w (some ⟨b, o, none⟩) n xs) (hck : ¬ c = k) :
    Calls Tryz.prog 153 #[.slice (some ⟨b, o, none⟩) n c, .int .i64 k] w fun e w' => ∃ v', e = .returned (.tuple #[.int .u64 (worth (xs.take k)), v', .int .i64 0]) ∧
      w'.ownsRow w.heap.size 5 1 v' (n - k) (U8 (xs.drop k)) ∧ Below w.heap.size w w' := by
  have hd : decide (1 ≤ (k : Int) ∧ (k : Int) ≤ 8) = true := decide_eq_true (by omega)
  have k0 : (0 : Int) ≤ k := by omega
  have k1 : (k : Int) ≤ (c : Int) := by omega
  have k2 : (k : Int) ≤ (n : Int) := by omega
  go_enter Tryz.func153, Tryz.ntmps153
  go_wp2_with (first | (go_at_call 132; refine (isSize_any _ _).mono ?_; rintro e w' ⟨rfl, rfl⟩))
  go_region_with (first | (go_at_call 135; refine (number_any _ _ _ (xs.take k) _ (by omega) ?_).mono ?_; exact (h.take k hk).drew; rintro e w' ⟨rfl, rfl⟩) | (go_at_call 42; refine (clone_any _ _ _ (xs.drop k) _ ?_ (by omega)).mono ?_; exact (h.drop k hk).drew; rintro e w' ⟨v, rfl, hown, hbel⟩))
  all_goals go_wp2
  all_goals go_ret3
  exact ⟨v, rfl, hown, below_undrew hbel⟩
set_option maxHeartbeats 1000000 in
set_option maxRecDepth 100000 in
theorem take_end (b o : Nat) (xs : List Int) (k : Nat) (w : World) (hs : 1 ≤ k ∧ k ≤ 8) (h : BIn w (some ⟨b, o, none⟩) k xs) :
    Calls Tryz.prog 153 #[.slice (some ⟨b, o, none⟩) k k, .int .i64 k] w fun e w' => ∃ v', e = .returned (.tuple #[.int .u64 (worth xs), v', .int .i64 0]) ∧
      w'.ownsRow w.heap.size 5 1 v' 0 [] ∧ Below w.heap.size w w' := by
  have hd : decide (1 ≤ (k : Int) ∧ (k : Int) ≤ 8) = true := decide_eq_true (by omega)
  have k0 : (0 : Int) ≤ k := by omega
  go_enter Tryz.func153, Tryz.ntmps153
  go_wp2_with (first | (go_at_call 132; refine (isSize_any _ _).mono ?_; rintro e w' ⟨rfl, rfl⟩))
  go_region_with (first | (go_at_call 135; refine (number_any _ _ _ xs _ (by omega) ?_).mono ?_; exact h.drew; rintro e w' ⟨rfl, rfl⟩) | (go_at_call 42; refine (clone_any _ _ _ [] _ ?_ (by omega)).mono ?_; exact BIn.empty; rintro e w' ⟨v, rfl, hown, hbel⟩))
  all_goals go_wp2
  all_goals go_ret3
  exact ⟨v, rfl, hown, below_undrew hbel⟩
theorem take_any (p : Option Addr) (n c : Nat) (xs : List Int) (s : Int) (w : World) (h : BIn w p n xs) (hnc : n ≤ c) (hbig : n ≤ 140737488355328) :
    Calls Tryz.prog 153 #[.slice p n c, .int .i64 s] w fun e w' => ∃ v', e = .returned (.tuple #[.int .u64 (takeS xs s).1, v', .int .i64 (takeS xs s).2.2]) ∧
      w'.ownsRow w.heap.size 5 1 v' (takeS xs s).2.1.length (U8 (takeS xs s).2.1) ∧ Below w.heap.size w w' := by
  unfold takeS
  by_cases hs : s < 1 ∨ 8 < s
  · rw [if_pos hs]
    refine (take_input p n c s w hs).mono ?_
    rintro e w' ⟨rfl, rfl⟩
    exact ⟨_, rfl, World.ownsRow_nil _ _ _ _, Below.refl _ _⟩
  · rw [if_neg hs]
    obtain ⟨k, rfl⟩ := Int.eq_ofNat_of_zero_le (show 0 ≤ s by omega)
    rw [Int.toNat_natCast, h.len]
    by_cases hk : (n : Int) < k
    · rw [if_pos hk]
      refine (take_short p n c k w (by omega) (by omega)).mono ?_
      rintro e w' ⟨rfl, rfl⟩
      exact ⟨_, rfl, World.ownsRow_nil _ _ _ _, Below.refl _ _⟩
    · rw [if_neg hk]
      obtain ⟨b, o, rfl, _⟩ := h.cells (by omega)
      by_cases hck : c = k
      · subst hck
        obtain rfl : n = c := by omega
        have e1 : xs.take n = xs := List.take_of_length_le (by rw [h.len]; omega)
        have e2 : xs.drop n = [] := List.drop_eq_nil_of_le (by rw [h.len]; omega)
        rw [e1, e2]
        exact take_end b o xs n w (by omega) h
      · simp only [List.length_drop, h.len]
        exact take_more b o n c xs k w (by omega) (by omega) hnc hbig h hck
end Go.Proofs.YtdadpepfpiimgaaGreatDoor
namespace Go.Proofs.YtdadpepfpiimgaaGreatDoor
open Go.RowKit
set_option maxHeartbeats 400000 in
set_option maxRecDepth 100000 in
theorem equal_any (p q : Option Addr) (n c m d : Nat) (xs ys : List Int) (w : World) (hx : BIn w p n xs) (hy : BIn w q m ys) :
    Calls Tryz.prog 94 #[.slice p n c, .slice q m d] w fun e w' => e = .returned (.bool (decide (xs = ys))) ∧ w = w' := by
  have q1 := hx.str c
  have q2 := hy.str d
  have HE : Hid (_) := str_eq xs ys hx.byte hy.byte
  clear hx hy
  go_enter Tryz.func94, Tryz.ntmps94
  go_wp2
  go_ret
  refine ⟨?_, rfl⟩
  rw [← HE.out]
  rfl
def fcells : List Value := [.int .i64 6, .int .i64 1, .int .i64 8, .int .i64 1, .int .i64 9, .int .i64 1, .int .i64 10, .int .i64 1, .int .i64 11, .int .i64 1, .int .i64 12, .int .i64 1, .int .i64 16, .int .i64 8, .int .i64 24, .int .i64 8]
theorem size63 : (Tryz.prog.info? 175).map (·.size) = some 16 := by kernel_rfl
theorem size62 : (Tryz.prog.info? 174).map (·.size) = some 2 := by kernel_rfl
theorem fcells_at (j : Nat) (hj : j < 8) : fcells[2 * j]? = some (.int .i64 ((fa.getD j 0 : Nat) : Int)) ∧ fcells[2 * j + 1]? = some (.int .i64 ((fw.getD j 0 : Nat) : Int)) := by
  have : j = 0 ∨ j = 1 ∨ j = 2 ∨ j = 3 ∨ j = 4 ∨ j = 5 ∨ j = 6 ∨ j = 7 := by omega
  rcases this with rfl | rfl | rfl | rfl | rfl | rfl | rfl | rfl <;> exact ⟨rfl, rfl⟩
theorem Flds.range {w : World} (h : Flds w) : w.rangeAt 0 0 fcells := fun j v hv => by
  have hj : j < 16 := (List.getElem?_eq_some_iff.1 hv).1
  rw [Nat.zero_add]
  rcases Nat.mod_two_eq_zero_or_one j with he | he
  · obtain ⟨k, rfl⟩ : ∃ k, j = 2 * k := ⟨j / 2, by omega⟩
    rw [(h k (by omega)).1, ← hv]
    exact (fcells_at k (by omega)).1.symm
  · obtain ⟨k, rfl⟩ : ∃ k, j = 2 * k + 1 := ⟨j / 2, by omega⟩
    rw [(h k (by omega)).2, ← hv]
    exact (fcells_at k (by omega)).2.symm
theorem load63 {w : World} (h : Flds w) : (Instr.loadAt 175 (.pointer (some ⟨0, 0, none⟩))).run Tryz.prog w = .ok (.agg fcells.toArray) w :=
  run_loadAt_mid w 0 0 175 fcells _ h.range Tryz.underlying175 rfl size63
theorem sizeOf62 (w : World) : (sizeOf 174).run Tryz.prog w = .ok 2 w := by
  cases hi : Tryz.prog.info? 174 with
  | none => have := size62; simp [hi] at this
  | some i =>
    have h := size62
    simp only [hi, Option.map_some, Option.some.injEq] at h
    simp [sizeOf, typeInfo, hi, h]
def fpair (a k : Nat) : List Value := [.int .i64 (a : Int), .int .i64 (k : Int)]
theorem fpair_at (j : Nat) (hj : j < 8) : fcells.toArray.extract (j * 2) (j * 2 + 2) = (fpair (fa.getD j 0) (fw.getD j 0)).toArray := by
  have : j = 0 ∨ j = 1 ∨ j = 2 ∨ j = 3 ∨ j = 4 ∨ j = 5 ∨ j = 6 ∨ j = 7 := by omega
  rcases this with rfl | rfl | rfl | rfl | rfl | rfl | rfl | rfl <;> rfl
theorem index63 (w : World) (j : Nat) (hj : j < 8) : (Instr.index 175 (.agg fcells.toArray) (.int .i64 (j : Int))).run Tryz.prog w = .ok (.agg (fpair (fa.getD j 0) (fw.getD j 0)).toArray) w := by
  have h1 : (0 : Int) ≤ j ∧ (j : Int) < ((8 : Nat) : Int) := by omega
  have hagg : (isAgg 174).run Tryz.prog w = .ok true w := by
    unfold isAgg
    rw [Sem.run_bind, run_underlying Tryz.underlying174 w]
    rfl
  unfold Instr.index
  simp only [Sem.run_bind, asIntOf, Sem.run_pure, Result.andThen_ok, run_underlying Tryz.underlying175]
  rw [if_pos h1]
  simp only [Sem.run_bind, sizeOf62, Result.andThen_ok, Int.toNat_natCast, part, hagg, if_true, Sem.run_pure]
  rw [fpair_at j hj]
theorem zero62 : (Tryz.prog.info? 174).bind (·.zero) = some (.agg (fpair 0 0).toArray) := by kernel_rfl
theorem alloc62 (w : World) : (Instr.alloc 174 true (.tuple #[])).run Tryz.prog w = .ok (.pointer (some ⟨w.heap.size, 0, none⟩)) (w.alloc (.cells (fpair 0 0).toArray 174)) := by
  simp only [Instr.alloc, Sem.run_bind, zv 174 _ zero62, Result.andThen_ok]
  simp [newVar, newRow, Value.cells]
theorem fpair_all (a k : Nat) : (fpair a k).toArray.all (·.oneCell') = true := by
  apply all_oneCell_toArray
  intro v hv
  simp only [fpair, List.mem_cons, List.not_mem_nil, or_false] at hv
  rcases hv with rfl | rfl <;> rfl
theorem store_new62 (w : World) (a k : Nat) : (Instr.storeAt 174 (.pointer (some ⟨w.heap.size, 0, none⟩)) (.agg (fpair a k).toArray)).run Tryz.prog (w.alloc (.cells (fpair 0 0).toArray 174)) = .ok () (w.alloc (.cells (fpair a k).toArray 174)) := by
  rw [(LAt.new 174 w (fpair 0 0)).store (ds := fpair a k) size62 rfl (fpair_all a k), setRow_alloc]
def rds (xs : List Int) : List Int := [rd xs 0, rd xs 1, rd xs 2, rd xs 3, rd xs 4, rd xs 5, rd xs 6, rd xs 7]
theorem rds_at (xs : List Int) (j : Nat) (hj : j < (rds xs).length) : (rds xs)[j] = rd xs j := by
  have hj' : j < 8 := hj
  have : j = 0 ∨ j = 1 ∨ j = 2 ∨ j = 3 ∨ j = 4 ∨ j = 5 ∨ j = 6 ∨ j = 7 := by omega
  rcases this with rfl | rfl | rfl | rfl | rfl | rfl | rfl | rfl <;> rfl
theorem take_worth (xs : List Int) (k : Nat) (h1 : 1 ≤ k) (h2 : k ≤ 8) (h3 : k ≤ xs.length) : (takeS xs (k : Int)).1 = worth (xs.take k) ∧ (takeS xs (k : Int)).2.2 = 0 := by
  unfold takeS
  rw [if_neg (by omega), if_neg (by omega), Int.toNat_natCast]
  exact ⟨rfl, rfl⟩
set_option maxHeartbeats 4000000 in
set_option maxRecDepth 100000 in
theorem read_any (b o c : Nat) (xs : List Int) (w : World) (hx : BIn w (some ⟨b, o, none⟩) 64 xs) (hc : 64 ≤ c) (ht : Tab w) :
    Calls Tryz.prog 145 #[.slice (some ⟨b, o, none⟩) 64 c] w fun e w' => e = .returned (.agg (scells (readS xs)).toArray) ∧ Below w.heap.size w w' := by
  have HX : Hid (BIn w (some ⟨b, o, none⟩) 64 xs) := hx
  have HT : Hid (Tab w) := ht
  have A0 : Hid (_) := alloc29 w
  obtain ⟨w0, hw0⟩ : ∃ x, x = w.alloc (.cells (scells sup0).toArray 121) := ⟨_, rfl⟩
  have hs0 : w0.heap.size = w.heap.size + 1 := by rw [hw0]; simp
  have B0 : Below w.heap.size w w0 := by rw [hw0]; exact below_alloc w _
  have S0 : SAt 121 w0 w.heap.size sup0 := by rw [hw0]; exact LAt.new 121 w _
  rw [← hw0] at A0
  have A1 : Hid (_) := alloc59 w0
  obtain ⟨w1, hw1⟩ : ∃ x, x = w0.alloc (.cells (List.replicate 8 (Value.int .u64 0)).toArray 171) := ⟨_, rfl⟩
  have B1 : Below w.heap.size w w1 := by rw [hw1]; exact below_then B0 (below_alloc w0 _)
  have S1 : SAt 121 w1 w.heap.size sup0 := by rw [hw1]; exact LAt.later S0 (below_alloc w0 _)
  have N1 : LAt 171 w1 (w.heap.size + 1) (U64 (filled (rds xs) 0)) := by rw [hw1, ← hs0]; exact LAt.new 171 w0 _
  rw [hs0, ← hw1] at A1
  have L1 : Hid (_) := load63 (ht.later B1).flds
  have HI : Hid (LAt 171 w1 (w.heap.size + 1) (U64 (filled (rds xs) 0)) ∧ SAt 121 w1 w.heap.size sup0 ∧ Below w.heap.size w w1) := ⟨N1, S1, B1⟩
  clear hw0 hw1 hs0 B0 S0 B1 S1 N1 hx ht
  go_enter Tryz.func145, Tryz.ntmps145
  go_wp2_with ((with_reducible refine at_ops ?_); (first | (refine wpList_alloc_is (by rfl) 121 rfl A0.out ?_) | (refine wpList_alloc_is (by rfl) 171 rfl A1.out ?_) | (refine wpList_load_is (by rfl) 175 rfl rfl L1.out ?_)); simp only [Act.put, List.setIfInBounds_toArray, List.set_cons_zero, List.set_cons_succ])
  clear A0 A1 L1
  go_loopw [7] (fun i wr => ∃ j : Nat, j ≤ 8 ∧ i = .int .i64 j ∧ Hid (LAt 171 wr (w.heap.size + 1) (U64 (filled (rds xs) j)) ∧ SAt 121 wr w.heap.size sup0 ∧ Below w.heap.size w wr)) (fun i _ => 8 - (intOf i).toNat)
  case atStart => exact ⟨0, Nat.zero_le _, rfl, HI.out⟩
  case round =>
    obtain ⟨j, hj, rfl, HR⟩ := hrel
    clear HI
    by_cases hlt : j < 8
    · have HLJ : Hid (j < (rds xs).length) := hlt
      have HRD : Hid ((rds xs)[j]'HLJ.out = worth ((xs.drop (fa.getD j 0)).take (fw.getD j 0))) := rds_at xs j hlt
      have HK := fld_bd j hlt
      have HIX : Hid (∀ w, (Instr.index 175 (.agg fcells.toArray) (.int .i64 (j : Int))).run Tryz.prog w = .ok (.agg (fpair (fa.getD j 0) (fw.getD j 0)).toArray) w) := fun w => index63 w j hlt
      generalize fa.getD j 0 = a0 at *
      generalize fw.getD j 0 = k0 at *
      obtain ⟨k1, k2, k3⟩ := HK
      have A2 : Hid (_) := alloc62 wr
      have T2 : Hid (_) := store_new62 wr a0 k0
      obtain ⟨w2, hw2⟩ : ∃ x, x = wr.alloc (.cells (fpair a0 k0).toArray 174) := ⟨_, rfl⟩
      have b2 : Below wr.heap.size wr w2 := by rw [hw2]; exact below_alloc wr _
      have P2 : Hid (LAt 174 w2 wr.heap.size (fpair a0 k0)) := by rw [hw2]; exact LAt.new 174 wr _
      have R2 : Hid (LAt 171 w2 (w.heap.size + 1) (U64 (filled (rds xs) j)) ∧ SAt 121 w2 w.heap.size sup0 ∧ Below w.heap.size w w2) := ⟨HR.out.1.later b2, LAt.later HR.out.2.1 b2, below_then HR.out.2.2 b2⟩
      rw [← hw2] at T2
      have HLT : Hid (w.heap.size + 1 < wr.heap.size) := HR.out.1.lt
      clear hw2 b2 HR
      have hI : (a0 : Int) ≤ 64 := by omega
      have hI2 : (a0 : Int) ≤ c := by omega
      have hne : ¬ c = a0 := by omega
      go_wp2_with ((with_reducible refine at_ops ?_); (first | (refine wpList_index_is (by rfl) 175 rfl rfl rfl (HIX.out _) ?_) | (refine wpList_alloc_is (by rfl) 174 rfl A2.out ?_) | (refine wpList_store_is (by rfl) 174 rfl rfl rfl T2.out ?_)); simp only [Act.put, List.setIfInBounds_toArray, List.set_cons_zero, List.set_cons_succ])
      clear A2 T2 HIX
      refine wp_region_noPanic ?_
      refine wp_region_held_drew (S := fun w' => LAt 174 w' wr.heap.size (fpair a0 k0)) (by kernel_rfl) P2.out.drew (fun hHeld => ?_)
      refine wpAnyH_take (i := 0) (v := ?v0) (by simp; rfl) (by kernel_rfl) (by kernel_rfl) (by kernel_rfl) (fun _ _ _ h => h) (Or.inl ⟨by rfl, ?y0⟩) hHeld ?r0
      case y0 => intro w hSw; clear hSw; go_simp; with_reducible rfl
      simp only [Act.put, List.setIfInBounds_toArray, List.set_cons_zero, List.set_cons_succ]
      refine wpAnyH_take (i := 1) (v := ?v1) (by simp; rfl) (by kernel_rfl) (by kernel_rfl) (by kernel_rfl) (fun _ _ _ h => h) (Or.inl ⟨by rfl, ?y1⟩) hHeld ?r1
      case y1 => intro w hSw; clear hSw; go_simp; with_reducible rfl
      simp only [Act.put, List.setIfInBounds_toArray, List.set_cons_zero, List.set_cons_succ]
      refine wpAnyH_take (i := 2) (v := ?v2) (by simp; rfl) (by kernel_rfl) (by kernel_rfl) (by kernel_rfl) (fun _ _ _ h => h) (Or.inl ⟨by rfl, ?y2⟩) hHeld ?r2
      case y2 => intro w hSw; clear hSw; go_simp; with_reducible rfl
      simp only [Act.put, List.setIfInBounds_toArray, List.set_cons_zero, List.set_cons_succ]
      refine wpAnyH_take (i := 3) (v := ?v3) (by simp; rfl) (by kernel_rfl) (by kernel_rfl) (by kernel_rfl) (fun _ _ _ h => h) (Or.inl ⟨by rfl, ?y3⟩) hHeld ?r3
      case y3 => intro w hSw; have z := LAt.cell hSw 0; simp only [fpair, List.getElem?_cons_zero] at z; clear hSw; go_simp; with_reducible rfl
      simp only [Act.put, List.setIfInBounds_toArray, List.set_cons_zero, List.set_cons_succ]
      refine wpAnyH_take (i := 4) (v := ?v4) (by simp; rfl) (by kernel_rfl) (by kernel_rfl) (by kernel_rfl) (fun _ _ _ h => h) (Or.inl ⟨by rfl, ?y4⟩) hHeld ?r4
      case y4 => intro w hSw; clear hSw; go_simp; with_reducible rfl
      simp only [Act.put, List.setIfInBounds_toArray, List.set_cons_zero, List.set_cons_succ]
      refine wpAnyH_take (i := 5) (v := ?v5) (by simp; rfl) (by kernel_rfl) (by kernel_rfl) (by kernel_rfl) (fun _ _ _ h => h) (Or.inl ⟨by rfl, ?y5⟩) hHeld ?r5
      case y5 => intro w hSw; clear hSw; go_simp; with_reducible rfl
      simp only [Act.put, List.setIfInBounds_toArray, List.set_cons_zero, List.set_cons_succ]
      refine wpAnyH_take (i := 6) (v := ?v6) (by simp; rfl) (by kernel_rfl) (by kernel_rfl) (by kernel_rfl) (fun _ _ _ h => h) (Or.inl ⟨by rfl, ?y6⟩) hHeld ?r6
      case y6 => intro w hSw; have z := LAt.cell hSw 1; simp only [fpair, List.getElem?_cons_zero, List.getElem?_cons_succ] at z; clear hSw; go_simp; with_reducible rfl
      simp only [Act.put, List.setIfInBounds_toArray, List.set_cons_zero, List.set_cons_succ]
      refine wpAnyH_ready (rs := [7]) (by kernel_rfl) (by simp) ?_
      refine AllReadyH.cons (by simp; rfl) (fun Kc hKc => ?_) AllReadyH.nil
      go_simp
      have hx2 := ((HX.out.later R2.out.2.2).drew).drop a0 (by omega)
      refine (take_any (some ⟨b, o + a0, none⟩) (64 - a0) (c - a0) (xs.drop a0) (k0 : Int) w2.drew hx2 (by omega) (by omega)).mono ?_
      rintro e w3 ⟨v3, rfl, -, b3⟩
      have htk := take_worth (xs.drop a0) k0 k1 k2 (by rw [hx2.len]; omega)
      rw [htk.1, htk.2, ← HRD.out]
      have B3 : Hid (Below w2.heap.size w2 w3) := below_undrew b3
      have R3 : Hid (LAt 171 w3 (w.heap.size + 1) (U64 (filled (rds xs) j)) ∧ SAt 121 w3 w.heap.size sup0 ∧ Below w.heap.size w w3) := ⟨R2.out.1.later B3.out, LAt.later R2.out.2.1 B3.out, below_then R2.out.2.2 B3.out⟩
      have P3 : Hid (LAt 174 w3 wr.heap.size (fpair a0 k0)) := P2.out.later B3.out
      clear b3 hx2 htk
      refine hKc.out _ _ P3.out (fun hHeld => ?_)
      clear hKc Kc
      refine wpAnyH_take (i := 8) (v := ?v8) (by simp; rfl) (by kernel_rfl) (by kernel_rfl) (by kernel_rfl) (fun _ _ _ h => h) (Or.inl ⟨by rfl, ?y8⟩) hHeld ?r8
      case y8 => intro w hSw; clear hSw; go_simp; with_reducible rfl
      simp only [Act.put, List.setIfInBounds_toArray, List.set_cons_zero, List.set_cons_succ]
      refine wpAnyH_take (i := 9) (v := ?v9) (by simp; rfl) (by kernel_rfl) (by kernel_rfl) (by kernel_rfl) (fun _ _ _ h => h) (Or.inl ⟨by rfl, ?y9⟩) hHeld ?r9
      case y9 => intro w hSw; clear hSw; go_simp; with_reducible rfl
      simp only [Act.put, List.setIfInBounds_toArray, List.set_cons_zero, List.set_cons_succ]
      refine wpAnyH_take (i := 10) (v := ?v10) (by simp; rfl) (by kernel_rfl) (by kernel_rfl) (by kernel_rfl) (fun _ _ _ h => h) (Or.inl ⟨by rfl, ?y10⟩) hHeld ?r10
      case y10 => intro w hSw; clear hSw; go_simp; with_reducible rfl
      simp only [Act.put, List.setIfInBounds_toArray, List.set_cons_zero, List.set_cons_succ]
      refine wpAnyH_take (i := 11) (v := ?v11) (by simp; rfl) (by kernel_rfl) (by kernel_rfl) (by kernel_rfl) (fun _ _ _ h => h) (Or.inl ⟨by rfl, ?y11⟩) hHeld ?r11
      case y11 => intro w hSw; clear hSw; go_simp; with_reducible rfl
      simp only [Act.put, List.setIfInBounds_toArray, List.set_cons_zero, List.set_cons_succ]
      refine wpAnyH_take (i := 12) (v := ?v12) (by simp; rfl) (by kernel_rfl) (by kernel_rfl) (by kernel_rfl) (fun _ _ _ h => h) (Or.inl ⟨by rfl, ?y12⟩) hHeld ?r12
      case y12 => intro w hSw; clear hSw; go_simp; with_reducible rfl
      simp only [Act.put, List.setIfInBounds_toArray, List.set_cons_zero, List.set_cons_succ]
      refine wpAnyH_ready (rs := [13]) (by kernel_rfl) (by simp) ?_
      refine AllReadyH.cons (by simp; rfl) (fun Kc hKc => ?_) AllReadyH.nil
      have z : ∃ u, w3.cell? ⟨w.heap.size + 1, j, none⟩ = some u := by
        rw [R3.out.1.cell j]
        exact ⟨_, List.getElem?_eq_getElem (by simp [filled_length (rds xs) j (Nat.le_of_lt HLJ.out)]; exact hlt)⟩
      obtain ⟨u, hu⟩ := z
      have hfz : w3.frozen? ⟨w.heap.size + 1, j, none⟩ = false := by simp [World.frozen?, show w3.heap[w.heap.size + 1]? = _ from R3.out.1]
      have HQ : Hid (LAt 171 (w3.setCell ⟨w.heap.size + 1, j, none⟩ (.int .u64 ((rds xs)[j]'HLJ.out))) (w.heap.size + 1) (U64 (filled (rds xs) (j + 1))) ∧ SAt 121 (w3.setCell ⟨w.heap.size + 1, j, none⟩ (.int .u64 ((rds xs)[j]'HLJ.out))) w.heap.size sup0 ∧ Below w.heap.size w (w3.setCell ⟨w.heap.size + 1, j, none⟩ (.int .u64 ((rds xs)[j]'HLJ.out)))) := by
        refine ⟨?_, LAt.setO R3.out.2.1 j _ (by omega), R3.out.2.2.setCell (by show _ ≤ _; simp) _⟩
        have := R3.out.1.set j (.int .u64 ((rds xs)[j]'HLJ.out))
        rw [← filled_step (rds xs) j HLJ.out]
        simpa [U64, List.map_set] using this
      have P4 : Hid (LAt 174 (w3.setCell ⟨w.heap.size + 1, j, none⟩ (.int .u64 ((rds xs)[j]'HLJ.out))) wr.heap.size (fpair a0 k0)) := LAt.setO P3.out j _ (by have := HLT.out; omega)
      generalize (rds xs)[j]'HLJ.out = V at *
      go_simp
      refine hKc.out _ _ P4.out (fun hHeld => ?_)
      clear hKc Kc
      refine wpAnyH_done (by kernel_rfl) (NoPanic.normal ?_) _
      clear hHeld P4 P3 R3 R2 P2 hu hfz
      go_wp2_with fail
      go_roundw
      case rel => exact ⟨j + 1, by omega, by go_num, HQ.out⟩
      case measure => simp [intOf]; omega
    · obtain rfl : j = 8 := by omega
      have HN : Hid (LAt 171 wr (w.heap.size + 1) (U64 (rds xs))) := by have := HR.out.1; rw [filled_all (rds xs) 8 (Nat.le_refl _)] at this; exact this
      have r1 := rd_one xs HX.out.byte 1 (by omega)
      have r2 := rd_one xs HX.out.byte 2 (by omega)
      have r3 := rd_one xs HX.out.byte 3 (by omega)
      have r4 := rd_one xs HX.out.byte 4 (by omega)
      have r5 := rd_one xs HX.out.byte 5 (by omega)
      have c1 : wr.cell? ⟨w.heap.size + 1, 1, none⟩ = some (.int .u64 (rd xs 1)) := HN.out.cell 1
      have c2 : wr.cell? ⟨w.heap.size + 1, 2, none⟩ = some (.int .u64 (rd xs 2)) := HN.out.cell 2
      have c3 : wr.cell? ⟨w.heap.size + 1, 3, none⟩ = some (.int .u64 (rd xs 3)) := HN.out.cell 3
      have c4 : wr.cell? ⟨w.heap.size + 1, 4, none⟩ = some (.int .u64 (rd xs 4)) := HN.out.cell 4
      have c5 : wr.cell? ⟨w.heap.size + 1, 5, none⟩ = some (.int .u64 (rd xs 5)) := HN.out.cell 5
      have c6 : wr.cell? ⟨w.heap.size + 1, 6, none⟩ = some (.int .u64 (rd xs 6)) := HN.out.cell 6
      have c7 : wr.cell? ⟨w.heap.size + 1, 7, none⟩ = some (.int .u64 (rd xs 7)) := HN.out.cell 7
      obtain ⟨r, hr⟩ : ∃ r, r = readS xs := ⟨_, rfl⟩
      have HE : Hid (r = readS xs) := hr
      have e1 : rd xs 1 = r.bl := by rw [hr]; rfl
      have e2 : rd xs 2 = r.lc := by rw [hr]; rfl
      have e3 : rd xs 3 = r.mr := by rw [hr]; rfl
      have e4 : rd xs 4 = r.hi := by rw [hr]; rfl
      have e5 : rd xs 5 = r.cl := by rw [hr]; rfl
      have e6 : rd xs 6 = r.tail := by rw [hr]; rfl
      have e7 : rd xs 7 = r.life := by rw [hr]; rfl
      rw [e1] at r1 c1
      rw [e2] at r2 c2
      rw [e3] at r3 c3
      rw [e4] at r4 c4
      rw [e5] at r5 c5
      rw [e6] at c6
      rw [e7] at c7
      obtain ⟨r10, r11⟩ := r1
      obtain ⟨r20, r21⟩ := r2
      obtain ⟨r30, r31⟩ := r3
      obtain ⟨r40, r41⟩ := r4
      obtain ⟨r50, r51⟩ := r5
      have q1 : IntKind.i64.wrap r.bl = r.bl := by rw [IntKind.wrap_i64]; omega
      have q2 : IntKind.i64.wrap r.lc = r.lc := by rw [IntKind.wrap_i64]; omega
      have q3 : IntKind.i64.wrap r.mr = r.mr := by rw [IntKind.wrap_i64]; omega
      have q4 : IntKind.i64.wrap r.hi = r.hi := by rw [IntKind.wrap_i64]; omega
      have q5 : IntKind.i64.wrap r.cl = r.cl := by rw [IntKind.wrap_i64]; omega
      have ST : Hid (_) := LAt.store (ds := scells r) HR.out.2.1 size29 rfl (scells_all r)
      have HF : Hid (SAt 121 (wr.setRow w.heap.size (scells r).toArray) w.heap.size r ∧ Below w.heap.size w (wr.setRow w.heap.size (scells r).toArray)) := ⟨LAt.stored HR.out.2.1 _, below_setRow HR.out.2.2 (Nat.le_refl _) _⟩
      clear hr e1 e2 e3 e4 e5 e6 e7 r10 r11 r20 r21 r30 r31 r40 r41 r50 r51 HN HR
      go_wp2_with ((with_reducible refine at_ops ?_); (refine wpList_store_is (by rfl) 121 rfl rfl rfl ST.out ?_); simp only [Act.put])
      rw [← HE.out]
      exact bodyPost_ret (results_cell1 Tryz.results145 _ _ w.heap.size 121 _ _ (by rfl) HF.out.1 Tryz.underlying121 rfl size29) rfl ⟨rfl, HF.out.2⟩
set_option maxHeartbeats 1000000 in
set_option maxRecDepth 100000 in
theorem decode_len (p : Option Addr) (n c : Nat) (w : World) (hn : n ≠ 64) :
    Calls Tryz.prog 126 #[.slice p n c] w fun e w' => e = .returned (.tuple #[.agg (scells sup0).toArray, .int .i64 2]) ∧ Below w.heap.size w w' := by
  have A1 : Hid (_) := alloc29 w
  have R1 : Hid (SAt 121 (w.alloc (.cells (scells sup0).toArray 121)) w.heap.size sup0) := LAt.new 121 w _
  have S1 : Hid (_) := store_new29 w sup0
  have hn' : (((n : Nat) : Int) != 64) = true := by simp; omega
  go_enter Tryz.func126, Tryz.ntmps126
  go_wp2_with ((with_reducible refine at_ops ?_); (first | (refine wpList_alloc_is (by rfl) 121 rfl A1.out ?_) | (refine wpList_build_is (vs := []) (by rfl) 121 rfl (by rfl) (build29 _ #[] sup0 fill_none) ?_) | (refine wpList_store_is (by rfl) 121 rfl rfl rfl S1.out ?_)); simp only [Act.put, List.setIfInBounds_toArray, List.set_cons_zero, List.set_cons_succ])
  exact bodyPost_ret (results_sup Tryz.results126 _ _ w.heap.size 121 _ _ (by rfl) R1.out Tryz.underlying121 rfl size29) rfl ⟨rfl, below_alloc w _⟩
set_option maxHeartbeats 2000000 in
set_option maxRecDepth 100000 in
theorem decode_64 (b o c : Nat) (xs : List Int) (w : World) (hx : BIn w (some ⟨b, o, none⟩) 64 xs) (hc : 64 ≤ c) (ht : Tab w) :
    Calls Tryz.prog 126 #[.slice (some ⟨b, o, none⟩) 64 c] w fun e w' => e = .returned (.tuple #[.agg (scells (decS xs).1).toArray, .int .i64 (decS xs).2]) ∧ Below w.heap.size w w' := by
  have A1 : Hid (_) := alloc29 w
  have R1 : Hid (SAt 121 (w.alloc (.cells (scells sup0).toArray 121)) w.heap.size sup0) := LAt.new 121 w _
  have B1 : Hid (Below w.heap.size w (w.alloc (.cells (scells sup0).toArray 121))) := below_alloc w _
  have HX : Hid (BIn (w.alloc (.cells (scells sup0).toArray 121)) (some ⟨b, o, none⟩) 64 xs) := hx.later (below_alloc w _)
  have HT : Hid (Tab w) := ht
  have HW : Hid ((readS xs).Wf) := readS_wf xs hx.byte
  have HL : Hid (xs.length = 64) := hx.len
  clear hx ht
  go_enter Tryz.func126, Tryz.ntmps126
  go_wp2_with ((with_reducible refine at_ops ?_); (refine wpList_alloc_is (by rfl) 121 rfl A1.out ?_); simp only [Act.put, List.setIfInBounds_toArray, List.set_cons_zero, List.set_cons_succ])
  refine (read_any b o c xs _ HX.out hc (HT.out.later B1.out)).mono ?_
  rintro e w1 ⟨rfl, b1⟩
  have R2 : Hid (SAt 121 w1 w.heap.size sup0) := LAt.later R1.out b1
  have B2 : Hid (Below w.heap.size w w1) := below_of_alloc b1
  have X2 : Hid (BIn w1 (some ⟨b, o, none⟩) 64 xs) := HX.out.later b1
  clear b1 R1 HX A1 B1
  obtain ⟨r, hr⟩ : ∃ r, r = readS xs := ⟨_, rfl⟩
  have HRR : Hid (r = readS xs) := hr
  rw [← hr] at HW ⊢
  clear hr
  have A2 : Hid (_) := alloc29 w1
  have S2 : Hid (_) := store_new29 w1 r
  have R3 : Hid (SAt 121 (w1.alloc (.cells (scells r).toArray 121)) w1.heap.size r) := LAt.new 121 w1 _
  have L3 : Hid (_) := SAt.load29 R3.out
  go_wp2_with ((with_reducible refine at_ops ?_); (first | (refine wpList_alloc_is (by rfl) 121 rfl A2.out ?_) | (refine wpList_store_is (by rfl) 121 rfl rfl rfl S2.out ?_) | (refine wpList_load_is (by rfl) 121 rfl rfl L3.out ?_)); simp only [Act.put, List.setIfInBounds_toArray, List.set_cons_zero, List.set_cons_succ])
  have B3 : Below w1.heap.size w1 (w1.alloc (.cells (scells r).toArray 121)) := below_alloc w1 _
  refine (encode_any r HW.out _ (HT.out.later (below_then B2.out B3))).mono ?_
  rintro e w2 ⟨p2, n2, c2, rfl, hn2, m2⟩
  have B4 := below_then B3 m2.below
  have R4 : Hid (SAt 121 w2 w1.heap.size r) := LAt.later R3.out m2.below
  have R5 : Hid (SAt 121 w2 w.heap.size sup0) := LAt.later R2.out B4
  have HB : Hid (Below w.heap.size w w2) := below_then B2.out B4
  have X4 : Hid (BIn w2 (some ⟨b, o, none⟩) 64 xs) := X2.out.later B4
  have E4 : Hid (BIn w2 p2 n2 (encT r)) := m2.read
  clear m2 B3 B4 R3 L3 S2 A2 R2 B2 X2 hn2
  have L4 : Hid (_) := SAt.load29 R4.out
  have ST : Hid (_) := LAt.store (ds := scells r) R5.out size29 rfl (scells_all r)
  have SZ : Hid (_) := LAt.store (ds := scells sup0) R5.out size29 rfl (scells_all sup0)
  have F1 : Hid (SAt 121 (w2.setRow w.heap.size (scells r).toArray) w.heap.size r ∧ Below w.heap.size w (w2.setRow w.heap.size (scells r).toArray)) := ⟨LAt.stored R5.out _, below_setRow HB.out (Nat.le_refl _) _⟩
  have F0 : Hid (SAt 121 (w2.setRow w.heap.size (scells sup0).toArray) w.heap.size sup0 ∧ Below w.heap.size w (w2.setRow w.heap.size (scells sup0).toArray)) := ⟨LAt.stored R5.out _, below_setRow HB.out (Nat.le_refl _) _⟩
  by_cases hm : May r
  · rw [chk_yes r hm]
    by_cases he : encS r = xs
    · have hq : decide (encT r = xs) = true := by rw [encT_yes r hm, he]; simp
      have HD : Hid (decS xs = (r, 0)) := by
        show _ = _
        rw [decS_ok xs HL.out (by unfold Good; rw [← HRR.out]; exact ⟨hm, he⟩), HRR.out]
      clear he hm
      go_wp2_with fail
      refine (equal_any p2 (some ⟨b, o, none⟩) n2 c2 64 c (encT r) xs w2 E4.out X4.out).mono ?_
      rintro e w3 ⟨rfl, rfl⟩
      go_wp2_with ((with_reducible refine at_ops ?_); (first | (refine wpList_store_is (by rfl) 121 rfl rfl rfl ST.out ?_) | (refine wpList_load_is (by rfl) 121 rfl rfl L4.out ?_)); simp only [Act.put, List.setIfInBounds_toArray, List.set_cons_zero, List.set_cons_succ])
      rw [HD.out]
      exact bodyPost_ret (results_sup Tryz.results126 _ _ w.heap.size 121 _ _ (by rfl) F1.out.1 Tryz.underlying121 rfl size29) rfl ⟨rfl, F1.out.2⟩
    · have hq : decide (encT r = xs) = false := by rw [encT_yes r hm]; simp [he]
      have HD : Hid (decS xs = (sup0, 70)) := decS_bad xs HL.out (by unfold Good; rw [← HRR.out]; exact fun h => he h.2)
      clear he hm
      go_wp2_with fail
      refine (equal_any p2 (some ⟨b, o, none⟩) n2 c2 64 c (encT r) xs w2 E4.out X4.out).mono ?_
      rintro e w3 ⟨rfl, rfl⟩
      go_wp2_with ((with_reducible refine at_ops ?_); (first | (refine wpList_store_is (by rfl) 121 rfl rfl rfl SZ.out ?_) | (refine wpList_build_is (vs := []) (by rfl) 121 rfl (by rfl) (build29 _ #[] sup0 fill_none) ?_)); simp only [Act.put, List.setIfInBounds_toArray, List.set_cons_zero, List.set_cons_succ])
      rw [HD.out]
      exact bodyPost_ret (results_sup Tryz.results126 _ _ w.heap.size 121 _ _ (by rfl) F0.out.1 Tryz.underlying121 rfl size29) rfl ⟨rfl, F0.out.2⟩
  · have hc0 : chk r ≠ 0 := fun h => hm ((chk_zero r).1 h)
    generalize chk r = q at *
    have HD : Hid (decS xs = (sup0, 70)) := decS_bad xs HL.out (by unfold Good; rw [← HRR.out]; exact fun h => hm h.1)
    clear hm
    go_wp2_with ((with_reducible refine at_ops ?_); (first | (refine wpList_store_is (by rfl) 121 rfl rfl rfl SZ.out ?_) | (refine wpList_build_is (vs := []) (by rfl) 121 rfl (by rfl) (build29 _ #[] sup0 fill_none) ?_)); simp only [Act.put, List.setIfInBounds_toArray, List.set_cons_zero, List.set_cons_succ])
    rw [HD.out]
    exact bodyPost_ret (results_sup Tryz.results126 _ _ w.heap.size 121 _ _ (by rfl) F0.out.1 Tryz.underlying121 rfl size29) rfl ⟨rfl, F0.out.2⟩
theorem decode_any (p : Option Addr) (n c : Nat) (xs : List Int) (w : World) (hx : BIn w p n xs) (hc : n ≤ c) (ht : Tab w) :
    Calls Tryz.prog 126 #[.slice p n c] w fun e w' => e = .returned (.tuple #[.agg (scells (decS xs).1).toArray, .int .i64 (decS xs).2]) ∧ Below w.heap.size w w' := by
  by_cases h : n = 64
  · subst h
    obtain ⟨b, o, rfl, -⟩ := hx.cells (by omega)
    exact decode_64 b o c xs w hx hc ht
  · rw [decS_len xs (by rw [hx.len]; exact h)]
    exact decode_len p n c w h
end Go.Proofs.YtdadpepfpiimgaaGreatDoor
namespace Go.Proofs.YtdadpepfpiimgaaGreatDoor
open Go.RowKit
theorem eqg23 : Tryz.prog.eqGuardType Tryz.prog.depth 23 = false := by kernel_rfl
theorem neq23 (w : World) (r s : Sup) : (binOp .neq 23 (.agg (ccells r).toArray) (.agg (ccells s).toArray)).run Tryz.prog w = .ok (.bool (!cfgB r s)) w := by
  rw [run_neq_struct, equal23 w 9998 r s]
  rfl
theorem cfgB_iff (r s : Sup) : cfgB r s = true ↔ SameC r s := by simp [cfgB, SameC]
set_option maxHeartbeats 2000000 in
set_option maxRecDepth 100000 in
theorem superOf_any {w : World} {S : Nat → Prop} {p n : Nat} {d : List Int} {ws : List Wr} (h : Dsk w S p n d ws) (ht : Tab w) (c : Sup) :
    Calls Tryz.prog 105 #[.pointer (some ⟨p, 0, none⟩), .agg (ccells c).toArray] w fun e w' => e = .returned (.tuple #[.agg (scells (supOf c n (newest ws d)).1).toArray, .int .i64 (supOf c n (newest ws d)).2]) ∧ Below w.heap.size w w' := by
  obtain ⟨wa, hwa⟩ : ∃ y, y = w.alloc (.cells (ccells c).toArray 23) := ⟨_, rfl⟩
  obtain ⟨w0, hw0⟩ : ∃ y, y = wa.alloc (.cells (scells sup0).toArray 121) := ⟨_, rfl⟩
  have ewa := hwa.symm
  have sa : wa.heap.size = w.heap.size + 1 := by rw [hwa]; simp
  have A1 : Hid (_) := alloc29 wa
  rw [← hw0, sa] at A1
  have Ba : Below w.heap.size w wa := by rw [hwa]; exact below_alloc w _
  have B0 : Hid (Below w.heap.size w w0) := by rw [hw0]; exact below_then Ba (below_alloc wa _)
  have C0 : Hid (CAt w0 w.heap.size c) := by
    rw [hw0]
    refine LAt.later ?_ (below_alloc wa _)
    rw [hwa]; exact LAt.new 23 w _
  have V0 : Hid (SAt 121 w0 (w.heap.size + 1) sup0) := by rw [hw0, ← sa]; exact LAt.new 121 wa _
  clear hwa hw0 Ba
  have HD : Hid (Dsk w S p n d ws) := h
  have HT : Hid (Tab w) := ht
  have L0 : Hid (_) := CAt.load23 C0.out
  clear h ht
  go_enter Tryz.func105, Tryz.ntmps105
  go_wp2_with ((with_reducible refine at_ops ?_); (first | (refine wpList_alloc_is (by rfl) 121 rfl A1.out ?_) | (refine wpList_load_is (by rfl) 23 rfl rfl L0.out ?_)); simp only [Act.put, List.setIfInBounds_toArray, List.set_cons_zero, List.set_cons_succ])
  clear ewa A1
  refine (config_any c _).mono ?_
  rintro e w1 ⟨rfl, b1⟩
  have B1 : Hid (Below w.heap.size w w1) := below_then B0.out b1
  have C1 : Hid (CAt w1 w.heap.size c) := LAt.later C0.out b1
  have V1 : Hid (SAt 121 w1 (w.heap.size + 1) sup0) := LAt.later V0.out b1
  clear b1 B0 C0 V0 L0
  by_cases hc : MayC c
  · rw [cfg_yes c hc]
    have HC : Hid (MayC c) := hc
    obtain ⟨⟨a1, a2⟩, ⟨a3, a4⟩, -⟩ := hc
    obtain ⟨bl, hbl⟩ : ∃ x, x = c.bl := ⟨_, rfl⟩
    obtain ⟨lc, hlc⟩ : ∃ x, x = c.lc := ⟨_, rfl⟩
    have k1 : IntKind.i64.wrap (1 + bl) = 1 + bl := by rw [IntKind.wrap_i64]; omega
    have k2 : IntKind.i64.wrap (1 + bl + lc) = 1 + bl + lc := by rw [IntKind.wrap_i64]; omega
    have HE : Hid ((¬ (n : Int) = 1 + bl + lc → supOf c n (newest ws d) = (sup0, 40)) ∧ ((n : Int) = 1 + bl + lc → ∀ z, decS (newest ws d 0) = z → (¬ z.2 = 0 → supOf c n (newest ws d) = (sup0, z.2)) ∧ (z.2 = 0 → cfgB z.1 c = false → supOf c n (newest ws d) = (sup0, 3)) ∧ (z.2 = 0 → cfgB z.1 c = true → supOf c n (newest ws d) = (z.1, 0)))) := by
      rw [hbl, hlc]
      refine ⟨fun h => supOf_len _ HC.out h, fun h z hz => ?_⟩
      subst hz
      exact ⟨fun k => supOf_bad HC.out h k, fun k k2 => supOf_other HC.out h k fun e => (by rw [(cfgB_iff _ _).2 e] at k2; cases k2), fun k k2 => supOf_ok HC.out h k ((cfgB_iff _ _).1 k2)⟩
    have HC0 : Hid (∀ w', CAt w' w.heap.size c → w'.cell? ⟨w.heap.size, 0, none⟩ = some (.int .i64 bl) ∧ w'.cell? ⟨w.heap.size, 1, none⟩ = some (.int .i64 lc)) := by rw [hbl, hlc]; exact fun w' h => ⟨CAt.c0 h, CAt.c1 h⟩
    have hn4 : 1 + bl + lc ≤ 129 := by omega
    have hn0 : 0 < 1 + bl + lc := by omega
    clear hbl hlc a1 a2 a3 a4
    go_wp2_with fail
    refine wp_region_noPanic ?_
    refine wp_region_held_drew (S := fun w' => Below w1.heap.size w1 w') (by kernel_rfl) (below_drawn 1) (fun hHeld => ?_)
    have D1 : Hid (Below w1.heap.size w1 w1.drew) := hHeld
    generalize w1.drew = wd at *
    refine wpAnyH_take (i := 0) (v := ?va1) (by simp; rfl) (by kernel_rfl) (by kernel_rfl) (by kernel_rfl) (fun _ _ _ h => h) (Or.inl ⟨by rfl, ?ya1⟩) hHeld ?ra1
    case ya1 => intro w hSw; clear hSw; go_simp; with_reducible rfl
    simp only [Act.put, List.setIfInBounds_toArray, List.set_cons_zero, List.set_cons_succ]
    refine wpAnyH_take (i := 2) (v := ?va2) (by simp; rfl) (by kernel_rfl) (by kernel_rfl) (by kernel_rfl) (fun _ _ _ h => h) (Or.inl ⟨by rfl, ?ya2⟩) hHeld ?ra2
    case ya2 => intro w hSw; clear hSw; go_simp; with_reducible rfl
    simp only [Act.put, List.setIfInBounds_toArray, List.set_cons_zero, List.set_cons_succ]
    refine wpAnyH_take (i := 3) (v := ?va3) (by simp; rfl) (by kernel_rfl) (by kernel_rfl) (by kernel_rfl) (fun _ _ _ h => h) (Or.inl ⟨by rfl, ?ya3⟩) hHeld ?ra3
    case ya3 => intro w hSw; have z := (HC0.out _ (LAt.later C1.out hSw)).1; clear hSw; go_simp; with_reducible rfl
    simp only [Act.put, List.setIfInBounds_toArray, List.set_cons_zero, List.set_cons_succ]
    refine wpAnyH_take (i := 4) (v := ?va4) (by simp; rfl) (by kernel_rfl) (by kernel_rfl) (by kernel_rfl) (fun _ _ _ h => h) (Or.inl ⟨by rfl, ?ya4⟩) hHeld ?ra4
    case ya4 => intro w hSw; clear hSw; go_simp; with_reducible rfl
    simp only [Act.put, List.setIfInBounds_toArray, List.set_cons_zero, List.set_cons_succ]
    refine wpAnyH_take (i := 5) (v := ?va5) (by simp; rfl) (by kernel_rfl) (by kernel_rfl) (by kernel_rfl) (fun _ _ _ h => h) (Or.inl ⟨by rfl, ?ya5⟩) hHeld ?ra5
    case ya5 => intro w hSw; clear hSw; go_simp; with_reducible rfl
    simp only [Act.put, List.setIfInBounds_toArray, List.set_cons_zero, List.set_cons_succ]
    refine wpAnyH_take (i := 6) (v := ?va6) (by simp; rfl) (by kernel_rfl) (by kernel_rfl) (by kernel_rfl) (fun _ _ _ h => h) (Or.inl ⟨by rfl, ?ya6⟩) hHeld ?ra6
    case ya6 => intro w hSw; have z := (HC0.out _ (LAt.later C1.out hSw)).2; clear hSw; go_simp; with_reducible rfl
    simp only [Act.put, List.setIfInBounds_toArray, List.set_cons_zero, List.set_cons_succ]
    refine wpAnyH_take (i := 7) (v := ?va7) (by simp; rfl) (by kernel_rfl) (by kernel_rfl) (by kernel_rfl) (fun _ _ _ h => h) (Or.inl ⟨by rfl, ?ya7⟩) hHeld ?ra7
    case ya7 => intro w hSw; clear hSw; go_simp; with_reducible rfl
    simp only [Act.put, List.setIfInBounds_toArray, List.set_cons_zero, List.set_cons_succ]
    refine wpAnyH_ready (rs := [1]) (by kernel_rfl) (by simp) ?_
    refine AllReadyH.cons (by simp; rfl) (fun Kc hKc => ?_) AllReadyH.nil
    go_simp
    refine (len_any (HD.out.later (below_then B1.out D1.out))).mono ?_
    rintro e wn ⟨rfl, rfl⟩
    refine hKc.out _ _ D1.out (fun hHeld => ?_)
    clear hKc Kc
    refine wpAnyH_take (i := 8) (v := ?va8) (by simp; rfl) (by kernel_rfl) (by kernel_rfl) (by kernel_rfl) (fun _ _ _ h => h) (Or.inl ⟨by rfl, ?ya8⟩) hHeld ?ra8
    case ya8 => intro w hSw; clear hSw; go_simp; with_reducible rfl
    simp only [Act.put, List.setIfInBounds_toArray, List.set_cons_zero, List.set_cons_succ]
    have B2 : Hid (Below w.heap.size w wd) := below_then B1.out D1.out
    have C2 : Hid (CAt wd w.heap.size c) := LAt.later C1.out D1.out
    have V2 : Hid (SAt 121 wd (w.heap.size + 1) sup0) := LAt.later V1.out D1.out
    clear hHeld D1 HC0 B1 C1 V1
    refine wpAnyH_done (by kernel_rfl) (NoPanic.normal ?_) _
    obtain ⟨w2, hw2⟩ : ∃ y, y = wd := ⟨_, rfl⟩
    rw [← hw2] at B2 C2 V2 ⊢
    clear hw2
    by_cases he : (n : Int) = 1 + bl + lc
    · have hq : ((n : Int) != 1 + bl + lc) = false := by rw [he]; simp
      have HZ0 : Hid (_) := HE.out.2 he
      have hn : 0 < n := by omega
      clear he HE
      go_wp2_with fail
      refine (rd_at (HD.out.later B2.out) 0 (Int.le_refl 0) (by omega)).mono ?_
      rintro e w3 ⟨q2, c2, rfl, x2, hc2, b2⟩
      have X3 : Hid (BIn w3 q2 64 (newest ws d 0)) := x2
      have B3 : Hid (Below w.heap.size w w3) := below_then B2.out b2
      have C3 : Hid (CAt w3 w.heap.size c) := LAt.later C2.out b2
      have V3 : Hid (SAt 121 w3 (w.heap.size + 1) sup0) := LAt.later V2.out b2
      clear x2 b2 B2 C2 V2
      go_wp2_with fail
      refine (decode_any q2 64 c2 _ w3 X3.out hc2 (HT.out.later B3.out)).mono ?_
      rintro e w4 ⟨rfl, b4⟩
      have B4 : Hid (Below w.heap.size w w4) := below_then B3.out b4
      have C4 : Hid (CAt w4 w.heap.size c) := LAt.later C3.out b4
      have V4 : Hid (SAt 121 w4 (w.heap.size + 1) sup0) := LAt.later V3.out b4
      clear b4 X3 B3 C3 V3
      obtain ⟨⟨r, k⟩, hz⟩ : ∃ z, decS (newest ws d 0) = z := ⟨_, rfl⟩
      have HZ : Hid (_) := HZ0.out _ hz
      rw [hz]
      clear hz HZ0
      obtain ⟨w5, hw5⟩ : ∃ y, y = w4.alloc (.cells (scells r).toArray 121) := ⟨_, rfl⟩
      have A5 : Hid (_) := alloc29 w4
      have T45 : Hid (_) := store_new29 w4 r
      rw [← hw5] at T45
      have b5 : Below w4.heap.size w4 w5 := by rw [hw5]; exact below_alloc w4 _
      have B5 : Hid (Below w.heap.size w w5) := below_then B4.out b5
      have C5 : Hid (CAt w5 w.heap.size c) := LAt.later C4.out b5
      have V5 : Hid (SAt 121 w5 (w.heap.size + 1) sup0) := LAt.later V4.out b5
      have R5 : Hid (SAt 121 w5 w4.heap.size r) := by rw [hw5]; exact LAt.new 121 w4 _
      clear hw5 b5 B4 C4 V4
      have U5 : Hid (_) := build29 w5 #[] sup0 fill_none
      have T5 : Hid (_) := LAt.store (ds := scells sup0) V5.out size29 rfl (scells_all sup0)
      have F5 : Hid (SAt 121 (w5.setRow (w.heap.size + 1) (scells sup0).toArray) (w.heap.size + 1) sup0) := LAt.stored V5.out _
      have G5 : Hid (Below w.heap.size w (w5.setRow (w.heap.size + 1) (scells sup0).toArray)) := below_setRow B5.out (Nat.le_succ _) _
      by_cases hk : k = 0
      · subst hk
        have L5 : Hid (_) := SAt.load23 R5.out
        have M5 : Hid (_) := CAt.load23 C5.out
        have N5 : Hid (_) := neq23 w5 r c
        cases hb : cfgB r c with
        | true =>
          have HR : Hid (_) := HZ.out.2.2 rfl hb
          have Q5 : Hid (_) := SAt.load29 R5.out
          have T6 : Hid (_) := LAt.store (ds := scells r) V5.out size29 rfl (scells_all r)
          have F6 : Hid (SAt 121 (w5.setRow (w.heap.size + 1) (scells r).toArray) (w.heap.size + 1) r) := LAt.stored V5.out _
          have G6 : Hid (Below w.heap.size w (w5.setRow (w.heap.size + 1) (scells r).toArray)) := below_setRow B5.out (Nat.le_succ _) _
          rw [hb] at N5
          clear HZ T5 F5 G5 U5 hb
          go_wp2_with ((with_reducible refine at_ops ?_); (first | (refine wpList_alloc_is (by rfl) 121 rfl A5.out ?_) | (refine wpList_store_is (by rfl) 121 rfl rfl rfl T45.out ?_) | (refine wpList_load_is (by rfl) 23 rfl rfl L5.out ?_) | (refine wpList_load_is (by rfl) 23 rfl rfl M5.out ?_) | (refine wpList_neq_is (by rfl) 23 rfl rfl rfl eqg23 N5.out ?_) | (refine wpList_load_is (by rfl) 121 rfl rfl Q5.out ?_) | (refine wpList_store_is (by rfl) 121 rfl rfl rfl T6.out ?_)); simp only [Act.put, List.setIfInBounds_toArray, List.set_cons_zero, List.set_cons_succ])
          rw [HR.out]
          exact bodyPost_ret (results_sup Tryz.results105 _ _ (w.heap.size + 1) 121 r _ (by rfl) F6.out Tryz.underlying121 rfl size29) rfl ⟨rfl, G6.out⟩
        | false =>
          have HR : Hid (_) := HZ.out.2.1 rfl hb
          rw [hb] at N5
          clear HZ hb
          go_wp2_with ((with_reducible refine at_ops ?_); (first | (refine wpList_alloc_is (by rfl) 121 rfl A5.out ?_) | (refine wpList_store_is (by rfl) 121 rfl rfl rfl T45.out ?_) | (refine wpList_load_is (by rfl) 23 rfl rfl L5.out ?_) | (refine wpList_load_is (by rfl) 23 rfl rfl M5.out ?_) | (refine wpList_neq_is (by rfl) 23 rfl rfl rfl eqg23 N5.out ?_) | (refine wpList_build_is (vs := []) (by rfl) 121 rfl (by rfl) U5.out ?_) | (refine wpList_store_is (by rfl) 121 rfl rfl rfl T5.out ?_)); simp only [Act.put, List.setIfInBounds_toArray, List.set_cons_zero, List.set_cons_succ])
          rw [HR.out]
          exact bodyPost_ret (results_sup Tryz.results105 _ _ (w.heap.size + 1) 121 sup0 _ (by rfl) F5.out Tryz.underlying121 rfl size29) rfl ⟨rfl, G5.out⟩
      · have HR : Hid (_) := HZ.out.1 hk
        have hq : (k != 0) = true := by simp [hk]
        clear HZ
        go_wp2_with ((with_reducible refine at_ops ?_); (first | (refine wpList_alloc_is (by rfl) 121 rfl A5.out ?_) | (refine wpList_store_is (by rfl) 121 rfl rfl rfl T45.out ?_) | (refine wpList_build_is (vs := []) (by rfl) 121 rfl (by rfl) U5.out ?_) | (refine wpList_store_is (by rfl) 121 rfl rfl rfl T5.out ?_)); simp only [Act.put, List.setIfInBounds_toArray, List.set_cons_zero, List.set_cons_succ])
        rw [HR.out]
        exact bodyPost_ret (results_sup Tryz.results105 _ _ (w.heap.size + 1) 121 sup0 _ (by rfl) F5.out Tryz.underlying121 rfl size29) rfl ⟨rfl, G5.out⟩
    · have hq : ((n : Int) != 1 + bl + lc) = true := by simp [he]
      have HR : Hid (_) := HE.out.1 he
      clear he HE
      have U2 : Hid (_) := build29 w2 #[] sup0 fill_none
      have T2 : Hid (_) := LAt.store (ds := scells sup0) V2.out size29 rfl (scells_all sup0)
      have F2 : Hid (SAt 121 (w2.setRow (w.heap.size + 1) (scells sup0).toArray) (w.heap.size + 1) sup0) := LAt.stored V2.out _
      have G2 : Hid (Below w.heap.size w (w2.setRow (w.heap.size + 1) (scells sup0).toArray)) := below_setRow B2.out (Nat.le_succ _) _
      go_wp2_with ((with_reducible refine at_ops ?_); (first | (refine wpList_build_is (vs := []) (by rfl) 121 rfl (by rfl) U2.out ?_) | (refine wpList_store_is (by rfl) 121 rfl rfl rfl T2.out ?_)); simp only [Act.put, List.setIfInBounds_toArray, List.set_cons_zero, List.set_cons_succ])
      rw [HR.out]
      exact bodyPost_ret (results_sup Tryz.results105 _ _ (w.heap.size + 1) 121 sup0 _ (by rfl) F2.out Tryz.underlying121 rfl size29) rfl ⟨rfl, G2.out⟩
  · rw [cfg_no c hc]
    have HR : Hid (_) := supOf_no n (newest ws d) hc
    clear hc
    have U1 : Hid (_) := build29 w1 #[] sup0 fill_none
    have T1 : Hid (_) := LAt.store (ds := scells sup0) V1.out size29 rfl (scells_all sup0)
    have F1 : Hid (SAt 121 (w1.setRow (w.heap.size + 1) (scells sup0).toArray) (w.heap.size + 1) sup0) := LAt.stored V1.out _
    have G1 : Hid (Below w.heap.size w (w1.setRow (w.heap.size + 1) (scells sup0).toArray)) := below_setRow B1.out (Nat.le_succ _) _
    go_wp2_with ((with_reducible refine at_ops ?_); (first | (refine wpList_build_is (vs := []) (by rfl) 121 rfl (by rfl) U1.out ?_) | (refine wpList_store_is (by rfl) 121 rfl rfl rfl T1.out ?_)); simp only [Act.put, List.setIfInBounds_toArray, List.set_cons_zero, List.set_cons_succ])
    rw [HR.out]
    exact bodyPost_ret (results_sup Tryz.results105 _ _ (w.heap.size + 1) 121 sup0 _ (by rfl) F1.out Tryz.underlying121 rfl size29) rfl ⟨rfl, G1.out⟩
end Go.Proofs.YtdadpepfpiimgaaGreatDoor
