/-
  Layer 13: Freed, Append, Done, Leave.
-/
import Derived.Test.YtnbegddpgmejnaaAd
namespace Go.Proofs.Ytnbegddpgmejnaa
open Go.RowKit


/-- a line's blocks are all different -/
structure Ne (F : Ft) : Prop where
  Qq1 : F.Q ≠ F.q1
  Qq2 : F.Q ≠ F.q2
  Qm : F.Q ≠ F.mb
  Ql : F.Q ≠ F.lb
  Qn : F.Q ≠ F.lm
  q1m : F.q1 ≠ F.mb
  q1l : F.q1 ≠ F.lb
  q1n : F.q1 ≠ F.lm
  q2m : F.q2 ≠ F.mb
  q2l : F.q2 ≠ F.lb
  q2n : F.q2 ≠ F.lm
  q12 : F.q1 ≠ F.q2
  ml : F.mb ≠ F.lb
  mn : F.mb ≠ F.lm
  v1 : ∀ g, blk F.v1 = some g → g ≠ F.Q ∧ g ≠ F.q1 ∧ g ≠ F.q2 ∧ g ≠ F.mb ∧ g ≠ F.lb ∧ g ≠ F.lm
  v2 : ∀ g, blk F.v2 = some g → g ≠ F.Q ∧ g ≠ F.q1 ∧ g ≠ F.q2 ∧ g ≠ F.mb ∧ g ≠ F.lb ∧ g ≠ F.lm
  v12 : ∀ g, blk F.v1 = some g → ¬ blk F.v2 = some g
section
variable {w w' : World} {F : Ft} {n : Nat} {a : Ad}
theorem PL.ne (h : PL w F n a) : Ne F :=
  ⟨ne_kd h.kQ h.k1 (by decide), ne_kd h.kQ h.k2 (by decide), ne_kd h.kQ h.km (by decide), ne_kd h.kQ h.kl (by decide), ne_kd h.kQ h.kn (by decide),
   ne_kd h.k1 h.km (by decide), ne_kd h.k1 h.kl (by decide), ne_kd h.k1 h.kn (by decide), ne_kd h.k2 h.km (by decide), ne_kd h.k2 h.kl (by decide), ne_kd h.k2 h.kn (by decide), h.q12, ne_kd h.km h.kl (by decide), h.mm,
   fun g hg => ⟨ne_kd (h.kv1 hg) h.kQ (by decide), ne_kd (h.kv1 hg) h.k1 (by decide), ne_kd (h.kv1 hg) h.k2 (by decide), ne_kd (h.kv1 hg) h.km (by decide), ne_kd (h.kv1 hg) h.kl (by decide), ne_kd (h.kv1 hg) h.kn (by decide)⟩,
   fun g hg => ⟨ne_kd (h.kv2 hg) h.kQ (by decide), ne_kd (h.kv2 hg) h.k1 (by decide), ne_kd (h.kv2 hg) h.k2 (by decide), ne_kd (h.kv2 hg) h.km (by decide), ne_kd (h.kv2 hg) h.kl (by decide), ne_kd (h.kv2 hg) h.kn (by decide)⟩, h.v12⟩
theorem PL.hasL (F : Ft) {b : Nat} (hb : L.LF F.lb F.lm b) : F.has b := by
  rcases hb with rfl | rfl
  · exact .inr (.inr (.inr (.inr (.inr (.inr (.inl rfl))))))
  · exact .inr (.inr (.inr (.inr (.inr (.inr (.inr rfl))))))
theorem PL.intL (h : PL w F n a) {g : Nat} (hg : kd w g = 3) : ¬ L.LF F.lb F.lm g := fun e => h.noInts hg (PL.hasL F e)
/-- the ledger alone has turned -/
theorem PL.led {a' : Ad} {k : Nat} (h : PL w F n a) (hk : Kept (L.LF F.lb F.lm) w w') (hr : L.LAt w' F.lb F.lm k a'.lg) (hn : n ≤ k) (e1 : lcells F a' = lcells F a) (e2 : a'.W = a.W) (e3 : it a'.I = it a.I) (e4 : a'.got = a.got) (e5 : a'.next = a.next) (e6 : ∀ x ∈ a'.fl, x ∈ a.fl) (ok : a'.Ok) : PL w' F k a' := by
  have N := h.ne
  refine ⟨?_, ?_, ?_, ?_, hr, ok, h.q12, h.v12, h.mm⟩
  · rw [e1]; exact (hk.block _ (h.lt (.inl rfl)) (by rintro (e | e); exact N.Ql e; exact N.Qn e)).trans h.st
  · rw [e2, e5]; exact h.l1.far hk (by rintro (e | e); exact N.q1l e; exact N.q1n e) (fun g hg => by rintro (e | e); exact (N.v1 g hg).2.2.2.2.1 e; exact (N.v1 g hg).2.2.2.2.2 e)
  · rw [e3, e4]; exact h.l2.far hk (by rintro (e | e); exact N.q2l e; exact N.q2n e) (fun g hg => by rintro (e | e); exact (N.v2 g hg).2.2.2.2.1 e; exact (N.v2 g hg).2.2.2.2.2 e)
  · exact ((h.fm.far hk (by rintro (e | e); exact N.ml e; exact N.mn e) (fun g _ hg => h.intL hg)).mono hn).sub e6
theorem lg_fre (a : Ad) (k : Int) : L.freS a.lg k = (a.freS k).lg := by
  unfold L.freS Ad.freS
  by_cases e : 0 ≤ k ∧ k ≤ a.used
  · have e' : 0 ≤ k ∧ k ≤ a.lg.used := e
    rw [if_pos e', if_pos e]; rfl
  · have e' : ¬ (0 ≤ k ∧ k ≤ a.lg.used) := e
    rw [if_neg e', if_neg e]
set_option maxHeartbeats 1000000 in
set_option maxRecDepth 100000 in
theorem freed_at (h : PL w F n a) (k : Int) : Calls Try.prog 19 #[qp F.Q, .int .i64 k] w fun e w' => e = .returned (.int .i64 (a.freE k)) ∧ PL w' F (n + 1) (a.freS k) ∧ Kept F.has w w' := by
  have c9 : w.cell? ⟨F.Q, 9, none⟩ = some (qp F.lb) := h.c 9
  have H : Hid (PL w F n a) := h
  clear h
  go_enter Try.func19, Try.ntmps19
  go_wp2_with (go_at_call 43; refine (L.free_at H.out.rm H.out.ok.lok k).mono ?_; rintro e w' ⟨rfl, h1, h2⟩; have HR : Hid (L.LAt w' F.lb F.lm (n + 1) (L.freS a.lg k) ∧ Kept (L.LF F.lb F.lm) w w') := ⟨h1, h2⟩; clear h1 h2)
  go_ret
  refine ⟨rfl, ?_, HR.out.2.wider fun x _ e => PL.hasL F e⟩
  have hr := HR.out.1
  rw [lg_fre] at hr
  have hok := H.out.ok.fre k
  unfold Ad.freS at hr hok ⊢
  by_cases e : 0 ≤ k ∧ k ≤ a.used
  · rw [if_pos e] at hr hok ⊢
    exact H.out.led HR.out.2 hr (Nat.le_succ _) rfl rfl rfl rfl rfl (fun x hx => hx) hok
  · rw [if_neg e] at hr hok ⊢
    exact H.out.led HR.out.2 hr (Nat.le_succ _) rfl rfl rfl rfl rfl (fun x hx => hx) hok
set_option maxHeartbeats 1000000 in
set_option maxRecDepth 100000 in
theorem freed_nil (w : World) (k : Int) : Calls Try.prog 19 #[nilq, .int .i64 k] w fun e w' => e = .returned (.int .i64 1) ∧ w' = w := by
  go_enter Try.func19, Try.ntmps19
  go_wp2
  go_ret
  exact ⟨rfl, rfl⟩
theorem dec_forms (t : Int) : ∀ I : List (Int × List Int × Int), ((decI t I).map fun x => (x.1, x.2.1)) = I.map fun x => (x.1, x.2.1)
  | [] => rfl
  | x :: xs => by
    by_cases e : x.1 = t
    · simp [decI, e]
    · simp [decI, e, dec_forms t xs]
theorem lg_app {a : Ad} {t : Int} {f : List Int} {k : Int} (hf : fi t a.I = some (f, k)) (h0 : k ≠ 0) (h1 : k ≠ 1) : L.appE a.lg t = 0 ∧ L.appS a.lg t = (a.appS t).lg ∧ a.appE t = 0 := by
  have e1 : L.look t a.lg.L = some k := by show L.look t (lefts a.I) = _; rw [look_lefts, hf]; rfl
  have e2 : a.appE t = 0 := by simp [Ad.appE, hf, h1]
  refine ⟨by simp [L.appE, e1, h0], ?_, e2⟩
  unfold L.appS
  rw [e1]
  simp only [if_neg h0]
  unfold Ad.appS
  rw [if_pos e2]
  simp only [Ad.lg, lefts_dec hf]
theorem left_some {a : Ad} {t : Int} {f : List Int} {k : Int} (hf : fi t a.I = some (f, k)) : a.leftN t = k ∧ a.leftB t = true := by simp [Ad.leftN, Ad.leftB, hf]
theorem left_none {a : Ad} {t : Int} (hf : fi t a.I = none) : a.leftN t = 0 ∧ a.leftB t = false := by simp [Ad.leftN, Ad.leftB, hf]
set_option maxHeartbeats 1000000 in
set_option maxRecDepth 100000 in
theorem append_at (h : PL w F n a) (hn : n < 10000) {t : Int} (ht : L.U64 t) : Calls Try.prog 15 #[qp F.Q, .int .u64 t] w fun e w' => e = .returned (.int .i64 (a.appE t)) ∧ PL w' F (n + 1) (a.appS t) ∧ Kept F.has w w' := by
  have c9 : w.cell? ⟨F.Q, 9, none⟩ = some (qp F.lb) := h.c 9
  have H : Hid (PL w F n a) := h
  have HC := left_at h ht
  clear h
  cases hf : fi t a.I with
  | none =>
    rw [(left_none hf).1, (left_none hf).2] at HC
    have e1 : Hid (a.appE t = 110) := by show _ = _; simp [Ad.appE, hf]
    have e2 : Hid (a.appS t = a) := by show _ = _; simp [Ad.appS, e1.out]
    have HC' : Hid (Calls Try.prog 21 #[qp F.Q, .int .u64 t] w fun e w' => e = .returned (.tuple #[.int .i64 0, .bool false]) ∧ w' = w) := HC
    clear HC hf
    go_enter Try.func15, Try.ntmps15
    go_wp2_with (go_at_call 21; refine HC'.out.mono ?_; rintro e w' ⟨rfl, rfl⟩)
    go_ret
    exact ⟨by rw [e1.out]; rfl, by rw [e2.out]; exact H.out.mono (Nat.le_succ _), Kept.refl _ _⟩
  | some x =>
    obtain ⟨f, k⟩ := x
    rw [(left_some hf).1, (left_some hf).2] at HC
    have HC' : Hid (Calls Try.prog 21 #[qp F.Q, .int .u64 t] w fun e w' => e = .returned (.tuple #[.int .i64 k, .bool true]) ∧ w' = w) := HC
    have h3 := H.out.ok.iform _ (fi_mem hf)
    simp only at h3
    clear HC
    by_cases hk : k = 1
    · have e1 : Hid (a.appE t = 120) := by show _ = _; simp [Ad.appE, hf, hk]
      have e2 : Hid (a.appS t = a) := by show _ = _; simp [Ad.appS, e1.out]
      subst hk
      clear hf h3
      go_enter Try.func15, Try.ntmps15
      go_wp2_with (go_at_call 21; refine HC'.out.mono ?_; rintro e w' ⟨rfl, rfl⟩)
      go_ret
      exact ⟨by rw [e1.out]; rfl, by rw [e2.out]; exact H.out.mono (Nat.le_succ _), Kept.refl _ _⟩
    · have h0 : k ≠ 0 := by omega
      have HG : Hid (_) := lg_app hf h0 hk
      have hb : (k == 1) = false := by rw [beq_eq_false_iff_ne]; exact hk
      have HF : Hid (fi t a.I = some (f, k)) := hf
      clear hf h3 hk
      go_enter Try.func15, Try.ntmps15
      go_wp2_with (first | (go_at_call 21; refine HC'.out.mono ?_; rintro e w' ⟨rfl, rfl⟩) | (go_at_call 40; refine (L.append_at H.out.rm H.out.ok.lok hn ht).mono ?_; rintro e w2 ⟨rfl, h1, h2⟩; have HR : Hid (L.LAt w2 F.lb F.lm (n + 1) (L.appS a.lg t) ∧ Kept (L.LF F.lb F.lm) _ w2) := ⟨h1, h2⟩; clear h1 h2))
      go_ret
      refine ⟨by rw [HG.out.2.2, ← HG.out.1]; rfl, ?_, HR.out.2.wider fun x _ e => PL.hasL F e⟩
      have hr := HR.out.1
      rw [HG.out.2.1] at hr
      have hok := H.out.ok.app t
      unfold Ad.appS at hr hok ⊢
      rw [if_pos HG.out.2.2] at hr hok ⊢
      refine H.out.led HR.out.2 hr (Nat.le_succ _) rfl rfl (it_dec t a.I) rfl rfl (fun x hx => ?_) hok
      have e3 : ({ a with used := a.used + 1, I := decI t a.I } : Ad).fl = a.fl := by simp only [Ad.fl, dec_forms]
      rw [e3] at hx
      exact hx
set_option maxHeartbeats 1000000 in
set_option maxRecDepth 100000 in
theorem append_nil (w : World) (t : Int) : Calls Try.prog 15 #[nilq, .int .u64 t] w fun e w' => e = .returned (.int .i64 1) ∧ w' = w := by
  go_enter Try.func15, Try.ntmps15
  go_wp2_with (go_at_call 21; refine (left_nil _ _).mono ?_; rintro e w' ⟨rfl, rfl⟩)
  go_ret
  exact ⟨rfl, rfl⟩
/-- what out turns -/
def OF (F : Ft) (b : Nat) : Prop := b = F.mb ∨ b = F.q2 ∨ blk F.v2 = some b ∨ b = F.lb ∨ b = F.lm
theorem OF.has {F : Ft} {b : Nat} (h : OF F b) : F.has b := by
  rcases h with rfl | rfl | e | rfl | rfl
  · exact .inr (.inr (.inr (.inr (.inr (.inl rfl)))))
  · exact .inr (.inr (.inl rfl))
  · exact .inr (.inr (.inr (.inr (.inl e))))
  · exact .inr (.inr (.inr (.inr (.inr (.inr (.inl rfl))))))
  · exact .inr (.inr (.inr (.inr (.inr (.inr (.inr rfl))))))
set_option maxHeartbeats 1000000 in
set_option maxRecDepth 100000 in
theorem out_at {M : Int → Option Value} {zs : List Int} {m : Int} {s : L.Lg} {k : Nat} (N : Ne F) (c7 : w.cell? ⟨F.Q, 7, none⟩ = some (qp F.q2)) (c8 : w.cell? ⟨F.Q, 8, none⟩ = some (.map (some F.mb))) (c9 : w.cell? ⟨F.Q, 9, none⟩ = some (qp F.lb)) (hm : VMp w F.mb n M) (hq : QAt 63 w F.q2 F.v2 zs m) (hr : L.LAt w F.lb F.lm k s) (ok : L.Ok s) {t : Int} (hu : L.U64 t) (ht : t ∈ zs) (hl : zs.length ≤ 1000) :
    Calls Try.prog 41 #[qp F.Q, .int .u64 t] w fun e w' => e = .returned (.int .i64 (L.clsE s t)) ∧ VMp w' F.mb n (fun u => if u = t then none else M u) ∧ (∃ v', QAt 63 w' F.q2 v' (zs.erase t) m ∧ blk v' = blk F.v2) ∧ L.LAt w' F.lb F.lm (k + 1) (L.clsS s t) ∧ Kept (OF F) w w' := by
  have HM : Hid (VMp w F.mb n M) := hm
  have HQ : Hid (QAt 63 w F.q2 F.v2 zs m) := hq
  have HR : Hid (L.LAt w F.lb F.lm k s) := hr
  have hQlt : F.Q < w.heap.size := World.block_lt_of_cell? w _ c7
  have C7 : Hid (_) := c7
  have C9 : Hid (_) := c9
  clear hm hq hr c7 c9
  go_enter Try.func41, Try.ntmps41
  go_wp2_with (first
    | (at_delete; refine wpList_delete_v rfl (.tmp 8) (.tmp 9) rfl M rfl HM.out t hu rfl ?_; intro w1 h1 h2; have H1 : Hid (VMp w1 F.mb n (fun u => if u = t then none else M u) ∧ Kept (· = F.mb) w w1) := ⟨h1, h2⟩; clear h1 h2; have d7 : w1.cell? ⟨F.Q, 7, none⟩ = some (qp F.q2) := (World.cell?_of_block (w := w) (a := ⟨F.Q, 7, none⟩) (H1.out.2.block _ hQlt N.Qm)).trans C7.out; have Q1 : Hid (QAt 63 w1 F.q2 F.v2 zs m) := HQ.out.far H1.out.2 N.q2m (fun g hg => (N.v2 g hg).2.2.2.1); have R1 : Hid (L.LAt w1 F.lb F.lm k s) := HR.out.kept (H1.out.2.block _ HR.out.lt (Ne.symm N.ml)) (H1.out.2.block _ HR.out.mp.lt (Ne.symm N.mn)))
    | (go_at_call 58; refine (drop_in Q1.out t ht (by omega)).mono ?_; rintro e w2 ⟨rfl, v', h1, h2, h3⟩; have H2 : Hid (QAt 63 w2 F.q2 v' (zs.erase t) m ∧ blk v' = blk F.v2 ∧ Kept (fun b => b = F.q2 ∨ blk F.v2 = some b) w1 w2) := ⟨h1, h2, h3⟩; clear h1 h2 h3; have hQ1 : F.Q < w1.heap.size := Nat.lt_of_lt_of_le hQlt H1.out.2.size; have d9 : w2.cell? ⟨F.Q, 9, none⟩ = some (qp F.lb) := (World.cell?_of_block (w := w1) (a := ⟨F.Q, 9, none⟩) (H2.out.2.2.block _ hQ1 (by rintro (e | e); exact N.Qq2 e; exact (N.v2 _ e).1 rfl))).trans ((World.cell?_of_block (w := w) (a := ⟨F.Q, 9, none⟩) (H1.out.2.block _ hQlt N.Qm)).trans C9.out); have R2 : Hid (L.LAt w2 F.lb F.lm k s) := R1.out.kept (H2.out.2.2.block _ R1.out.lt (by rintro (e | e); exact N.q2l e.symm; exact (N.v2 _ e).2.2.2.2.1 rfl)) (H2.out.2.2.block _ R1.out.mp.lt (by rintro (e | e); exact N.q2n e.symm; exact (N.v2 _ e).2.2.2.2.2 rfl)))
    | (go_at_call 59; refine (L.close_at R2.out ok hu).mono ?_; rintro e w3 ⟨rfl, h1, h2⟩; have H3 : Hid (L.LAt w3 F.lb F.lm (k + 1) (L.clsS s t) ∧ Kept (L.LF F.lb F.lm) w2 w3) := ⟨h1, h2⟩; clear h1 h2))
  go_ret
  refine ⟨rfl, ?_, ⟨v', ?_, H2.out.2.1⟩, H3.out.1, ?_⟩
  · refine (H1.out.1.kept (H2.out.2.2.block _ H1.out.1.lt (by rintro (e | e); exact N.q2m e.symm; exact (N.v2 _ e).2.2.2.1 rfl))).kept (H3.out.2.block _ (Nat.lt_of_lt_of_le H1.out.1.lt H2.out.2.2.size) (by rintro (e | e); exact N.ml e; exact N.mn e))
  · exact H2.out.1.far H3.out.2 (by rintro (e | e); exact N.q2l e; exact N.q2n e) (fun g hg => by rw [H2.out.2.1] at hg; rintro (e | e); exact (N.v2 g hg).2.2.2.2.1 e; exact (N.v2 g hg).2.2.2.2.2 e)
  · refine ((H1.out.2.wider (T := OF F) (fun x _ e => .inl e)).trans H2.out.2.2 (fun x _ e => ?_)).trans H3.out.2 (fun x _ e => ?_)
    · rcases e with e | e
      · exact .inr (.inl e)
      · exact .inr (.inr (.inl e))
    · rcases e with e | e
      · exact .inr (.inr (.inr (.inl e)))
      · exact .inr (.inr (.inr (.inr e)))
theorem cutI_ne {t : Int} : ∀ {I : List (Int × List Int × Int)}, (it I).Nodup → ∀ x ∈ cutI t I, x.1 ≠ t
  | [], _, x, hx => by simp [cutI] at hx
  | y :: ys, h, x, hx => by
    have h2 := List.nodup_cons.1 h
    by_cases e : y.1 = t
    · simp only [cutI, if_pos e] at hx
      intro e2
      exact h2.1 (by rw [e, ← e2]; exact List.mem_map.2 ⟨x, hx, rfl⟩)
    · simp only [cutI, if_neg e, List.mem_cons] at hx
      rcases hx with rfl | hx
      · exact e
      · exact cutI_ne h2.2 x hx
theorem fi_it {t : Int} {I : List (Int × List Int × Int)} {x : List Int × Int} (h : fi t I = some x) : t ∈ it I := List.mem_map.2 ⟨(t, x.1, x.2), fi_mem h, rfl⟩
/-- behind out the line is one with the ticket gone -/
theorem PL.outd {t u : Int} {k : Nat} {v' : Value} {M : Int → Option Value} (h : PL w F n a) (_hm : VMp w F.mb n M) (hs : ∀ t v, M t = some v → ∃ p n c, v = .slice p n c) (hf : ∀ x ∈ a.fl, ∃ v, M x.1 = some v ∧ Frm w v x.2 ∧ ∀ g, blk v = some g → F.G g) {f : List Int} {x : Int} (hfi : fi t a.I = some (f, x)) (hk : Kept (OF F) w w') (hn : n ≤ k)
    (hm' : VMp w' F.mb n (fun u => if u = t then none else M u)) (hq : QAt 63 w' F.q2 v' ((it a.I).erase t) a.got) (hb : blk v' = blk F.v2) (hr : L.LAt w' F.lb F.lm k ({ a with used := u, I := cutI t a.I } : Ad).lg) (ok : ({ a with used := u, I := cutI t a.I } : Ad).Ok) :
    PL w' { F with v2 := v' } k { a with used := u, I := cutI t a.I } := by
  have N := h.ne
  have hint : ∀ g, kd w g = 3 → ¬ OF F g := fun g hg e => h.noInts hg e.has
  have hnd : (it a.I).Nodup := nd_of h.ok.irise
  refine ⟨?_, ?_, ?_, ?_, hr, ok, h.q12, fun g hg => by rw [hb]; exact h.v12 g hg, h.mm⟩
  · exact (hk.block _ (h.lt (.inl rfl)) (by rintro (e | e | e | e | e); exact N.Qm e; exact N.Qq2 e; exact (N.v2 _ e).1 rfl; exact N.Ql e; exact N.Qn e)).trans h.st
  · exact h.l1.far hk (by rintro (e | e | e | e | e); exact N.q1m e; exact N.q12 e; exact (N.v2 _ e).2.1 rfl; exact N.q1l e; exact N.q1n e) (fun g hg => by have e1 := N.v1 g hg; rintro (e | e | e | e | e); exact e1.2.2.2.1 e; exact e1.2.2.1 e; exact N.v12 g hg e; exact e1.2.2.2.2.1 e; exact e1.2.2.2.2.2 e)
  · show QAt _ _ _ _ (it (cutI t a.I)) _
    rw [it_cut]
    exact hq
  · refine ⟨_, hm'.mono hn, fun y v hv => ?_, fun y hy => ?_⟩
    · by_cases e : y = t
      · rw [if_pos e] at hv; cases hv
      · rw [if_neg e] at hv; exact hs y v hv
    · have hy' : y ∈ a.fl ∧ y.1 ≠ t := by
        rcases List.mem_append.1 hy with hy | hy
        · refine ⟨List.mem_append.2 (.inl hy), fun e => ?_⟩
          have h1 := h.ok.win y hy
          have h2 := h.ok.iin _ (fi_mem hfi)
          simp only at h2
          omega
        · obtain ⟨z, hz, rfl⟩ := List.mem_map.1 hy
          exact ⟨List.mem_append.2 (.inr (List.mem_map.2 ⟨z, (cutI_sub t a.I).subset hz, rfl⟩)), cutI_ne hnd z hz⟩
      obtain ⟨v, hv, hfr, hG⟩ := hf y hy'.1
      exact ⟨v, by rw [if_neg hy'.2]; exact hv, hfr.far hk (fun g _ => hint g), hG⟩
theorem cut_set (t v : Int) : ∀ l : List (Int × Int), L.cut t (L.set t v l) = L.cut t l
  | [] => rfl
  | x :: xs => by
    by_cases e : x.1 = t
    · simp [L.cut, L.set, e]
    · simp [L.cut, L.set, e, cut_set t v xs]
theorem Ft.has_v2 {F : Ft} {v' : Value} (hb : blk v' = blk F.v2) (b : Nat) : ({ F with v2 := v' } : Ft).has b ↔ F.has b := by simp only [Ft.has, hb]
set_option maxHeartbeats 1000000 in
set_option maxRecDepth 100000 in
theorem done_at (h : PL w F n a) (hn : n < 10000) (hN : a.next ≤ 1000) {t : Int} (ht : L.U64 t) : Calls Try.prog 17 #[qp F.Q, .int .u64 t] w fun e w' => e = .returned (.int .i64 (a.donE t)) ∧ ∃ v', PL w' { F with v2 := v' } (n + 2) (a.donS t) ∧ blk v' = blk F.v2 ∧ Kept F.has w w' := by
  have c9 : w.cell? ⟨F.Q, 9, none⟩ = some (qp F.lb) := h.c 9
  have H : Hid (PL w F n a) := h
  clear h
  cases hf : fi t a.I with
  | none =>
    have e0 : L.look t a.lg.L = none := by show L.look t (lefts a.I) = _; rw [look_lefts, hf]; rfl
    have e1 : Hid (a.donE t = 110 ∧ a.donS t = a ∧ L.appE a.lg t = 110 ∧ L.appS a.lg t = a.lg) := ⟨by simp [Ad.donE, hf], by simp [Ad.donS, Ad.donE, hf], by simp [L.appE, e0], by simp [L.appS, e0]⟩
    clear hf e0
    go_enter Try.func17, Try.ntmps17
    go_wp2_with (go_at_call 40; refine (L.append_at H.out.rm H.out.ok.lok hn ht).mono ?_; rw [e1.out.2.2.1, e1.out.2.2.2]; rintro e w2 ⟨rfl, h1, h2⟩; have HR : Hid (L.LAt w2 F.lb F.lm (n + 1) a.lg ∧ Kept (L.LF F.lb F.lm) _ w2) := ⟨h1, h2⟩; clear h1 h2)
    go_ret
    exact ⟨by rw [e1.out.1]; rfl, F.v2, by rw [e1.out.2.1]; exact (H.out.led HR.out.2 HR.out.1 (Nat.le_succ _) rfl rfl rfl rfl rfl (fun x hx => hx) H.out.ok).mono (by omega), rfl, HR.out.2.wider fun x _ e => PL.hasL F e⟩
  | some x =>
    obtain ⟨f, k⟩ := x
    have h3 := H.out.ok.iform _ (fi_mem hf)
    simp only at h3
    have h0 : k ≠ 0 := by omega
    have e0 : L.look t a.lg.L = some k := by show L.look t (lefts a.I) = _; rw [look_lefts, hf]; rfl
    have e1 : Hid (a.donE t = 0 ∧ a.donS t = { a with used := a.used + 1, I := cutI t a.I } ∧ L.appE a.lg t = 0 ∧ L.appS a.lg t = { a.lg with used := a.used + 1, L := L.set t (k - 1) (lefts a.I) }) := ⟨by simp [Ad.donE, hf], by simp [Ad.donS, Ad.donE, hf], by simp [L.appE, e0, h0], by simp [L.appS, e0, h0]; exact ⟨rfl, rfl⟩⟩
    have HF : Hid (fi t a.I = some (f, k)) := hf
    have hmem : Hid (t ∈ it a.I) := fi_it hf
    have hl : Hid ((it a.I).length ≤ 1000) := by show _ ≤ _; have := H.out.ok.ilen; simp only [it, List.length_map]; omega
    clear hf e0 h3 h0
    obtain ⟨M, hm, hms, hmf⟩ := H.out.fm
    have HM : Hid (VMp w F.mb n M ∧ (∀ t v, M t = some v → ∃ p n c, v = .slice p n c) ∧ ∀ x ∈ a.fl, ∃ v, M x.1 = some v ∧ Frm w v x.2 ∧ ∀ g, blk v = some g → F.G g) := ⟨hm, hms, hmf⟩
    clear hm hms hmf
    have N := H.out.ne
    go_enter Try.func17, Try.ntmps17
    go_wp2_with (first
      | (go_at_call 40; refine (L.append_at H.out.rm H.out.ok.lok hn ht).mono ?_; rw [e1.out.2.2.1]; rintro e w2 ⟨rfl, h1, h2⟩; have HR : Hid (L.LAt w2 F.lb F.lm (n + 1) (L.appS a.lg t) ∧ Kept (L.LF F.lb F.lm) w w2 ∧ L.Ok (L.appS a.lg t)) := ⟨h1, h2, H.out.ok.lok.app t⟩; clear h1 h2; have HP : Hid (w2.heap[F.Q]? = some (.cells (lcells F a) 66 (0, 0)) ∧ QAt 63 w2 F.q2 F.v2 (it a.I) a.got ∧ VMp w2 F.mb n M) := ⟨(HR.out.2.1.block _ (H.out.lt (.inl rfl)) (by rintro (e | e); exact N.Ql e; exact N.Qn e)).trans H.out.st, H.out.l2.far HR.out.2.1 (by rintro (e | e); exact N.q2l e; exact N.q2n e) (fun g hg => by rintro (e | e); exact (N.v2 g hg).2.2.2.2.1 e; exact (N.v2 g hg).2.2.2.2.2 e), HM.out.1.kept (HR.out.2.1.block _ HM.out.1.lt (by rintro (e | e); exact N.ml e; exact N.mn e))⟩)
      | (go_at_call 41; refine (out_at N (cell_of_row _ F.Q 7 _ 66 (0, 0) HP.out.1) (cell_of_row _ F.Q 8 _ 66 (0, 0) HP.out.1) (cell_of_row _ F.Q 9 _ 66 (0, 0) HP.out.1) HP.out.2.2 HP.out.2.1 HR.out.1 HR.out.2.2 ht hmem.out hl.out).mono ?_; rintro e w3 ⟨rfl, h1, ⟨v', h2, h2'⟩, h3, h4⟩; have HO : Hid (VMp w3 F.mb n (fun u => if u = t then none else M u) ∧ QAt 63 w3 F.q2 v' ((it a.I).erase t) a.got ∧ blk v' = blk F.v2 ∧ L.LAt w3 F.lb F.lm (n + 1 + 1) (L.clsS (L.appS a.lg t) t) ∧ Kept (OF F) w2 w3) := ⟨h1, h2, h2', h3, h4⟩; clear h1 h2 h2' h3 h4))
    go_ret
    have hkk : Kept (OF F) w w3 := (HR.out.2.1.wider (T := OF F) (fun x _ e => by rcases e with e | e; exact .inr (.inr (.inr (.inl e))); exact .inr (.inr (.inr (.inr e))))).trans HO.out.2.2.2.2 (fun _ _ e => e)
    have ecl : L.clsE (L.appS a.lg t) t = 0 := by
      rw [e1.out.2.2.2]
      have : L.look t (L.set t (k - 1) (lefts a.I)) = some (k - 1) := by rw [L.look_set (n := k) (by rw [look_lefts, HF.out]; rfl)]; simp
      simp [L.clsE, this]
    have els : L.clsS (L.appS a.lg t) t = ({ a with used := a.used + 1, I := cutI t a.I } : Ad).lg := by
      rw [e1.out.2.2.2]
      simp only [L.clsS, cut_set, Ad.lg, lefts_cut]
    have hok := H.out.ok.don t
    rw [e1.out.2.1] at hok
    refine ⟨by rw [e1.out.1, ← ecl]; rfl, v', ?_, HO.out.2.2.1, hkk.wider fun x _ e => e.has⟩
    rw [e1.out.2.1]
    have hr := HO.out.2.2.2.1
    rw [els] at hr
    exact H.out.outd HM.out.1 HM.out.2.1 HM.out.2.2 HF.out hkk (by omega) HO.out.1 HO.out.2.1 HO.out.2.2.1 hr hok
set_option maxHeartbeats 1000000 in
set_option maxRecDepth 100000 in
theorem done_nil (w : World) (t : Int) : Calls Try.prog 17 #[nilq, .int .u64 t] w fun e w' => e = .returned (.int .i64 1) ∧ w' = w := by
  go_enter Try.func17, Try.ntmps17
  go_wp2
  go_ret
  exact ⟨rfl, rfl⟩
set_option maxHeartbeats 1000000 in
set_option maxRecDepth 100000 in
theorem leave_nilL (w : World) (t : Int) : Calls Try.prog 16 #[nilq, .int .u64 t] w fun e w' => e = .returned (.int .i64 1) ∧ w' = w := by
  go_enter Try.func16, Try.ntmps16
  go_wp2_with (go_at_call 21; refine (left_nil _ _).mono ?_; rintro e w' ⟨rfl, rfl⟩)
  go_ret
  exact ⟨rfl, rfl⟩
set_option maxHeartbeats 1000000 in
set_option maxRecDepth 100000 in
theorem leave_at1 (h : PL w F n a) (_hn : n < 10000) (hN : a.next ≤ 1000) {t : Int} (ht : L.U64 t) : Calls Try.prog 16 #[qp F.Q, .int .u64 t] w fun e w' => e = .returned (.int .i64 (a.leaE t)) ∧ ∃ v', PL w' { F with v2 := v' } (n + 2) (a.leaS t) ∧ blk v' = blk F.v2 ∧ Kept F.has w w' := by
  have c8 : w.cell? ⟨F.Q, 8, none⟩ = some (.map (some F.mb)) := h.c 8
  have H : Hid (PL w F n a) := h
  have HC := left_at h ht
  clear h
  cases hf : fi t a.I with
  | none =>
    rw [(left_none hf).1, (left_none hf).2] at HC
    have e1 : Hid (a.leaE t = 110 ∧ a.leaS t = a) := ⟨by simp [Ad.leaE, hf], by simp [Ad.leaS, Ad.leaE, hf]⟩
    have HC' : Hid (Calls Try.prog 21 #[qp F.Q, .int .u64 t] w fun e w' => e = .returned (.tuple #[.int .i64 0, .bool false]) ∧ w' = w) := HC
    clear HC hf
    go_enter Try.func16, Try.ntmps16
    go_wp2_with (go_at_call 21; refine HC'.out.mono ?_; rintro e w' ⟨rfl, rfl⟩)
    go_ret
    exact ⟨by rw [e1.out.1]; rfl, F.v2, by rw [e1.out.2]; exact H.out.mono (by omega), rfl, Kept.refl _ _⟩
  | some x =>
    obtain ⟨f, k⟩ := x
    rw [(left_some hf).1, (left_some hf).2] at HC
    have HC' : Hid (Calls Try.prog 21 #[qp F.Q, .int .u64 t] w fun e w' => e = .returned (.tuple #[.int .i64 k, .bool true]) ∧ w' = w) := HC
    have h3 := H.out.ok.iform _ (fi_mem hf)
    have h4 := H.out.ok.may.2.2.2.2.2.1
    simp only at h3
    have hfl : f.length ≤ 16 := by omega
    obtain ⟨M, hm, hms, hmf⟩ := H.out.fm
    have HM : Hid (VMp w F.mb n M ∧ (∀ t v, M t = some v → ∃ p n c, v = .slice p n c) ∧ ∀ x ∈ a.fl, ∃ v, M x.1 = some v ∧ Frm w v x.2 ∧ ∀ g, blk v = some g → F.G g) := ⟨hm, hms, hmf⟩
    obtain ⟨v, hv, hfr, -⟩ := hmf (t, f) (List.mem_append.2 (.inr (List.mem_map.2 ⟨_, fi_mem hf, rfl⟩)))
    obtain ⟨p, c, rfl, -⟩ := hfr.read
    have hlk := hm.run_look ht
    simp only at hv
    rw [hv] at hlk
    simp only [Option.getD_some] at hlk
    have N := H.out.ne
    clear HC hm hms hmf hfr hv
    have HF : Hid (fi t a.I = some (f, k)) := hf
    by_cases hk : k < (f.length : Int) + 1
    · have e1 : Hid (a.leaE t = 180 ∧ a.leaS t = a) := ⟨by simp [Ad.leaE, hf, hk], by simp [Ad.leaS, Ad.leaE, hf, hk]⟩
      clear hf h3
      go_enter Try.func16, Try.ntmps16
      go_wp2_with (first | (go_at_call 21; refine HC'.out.mono ?_; rintro e w' ⟨rfl, rfl⟩) | (go_at_call 34; refine (reservation_is _ _ _ (by omega) _).mono ?_; rintro e w' ⟨rfl, rfl⟩))
      go_ret
      exact ⟨by rw [e1.out.1]; rfl, F.v2, by rw [e1.out.2]; exact H.out.mono (by omega), rfl, Kept.refl _ _⟩
    · have e1 : Hid (a.leaE t = 0 ∧ a.leaS t = { a with used := a.used, I := cutI t a.I }) := ⟨by simp [Ad.leaE, hf, hk], by simp [Ad.leaS, Ad.leaE, hf, hk]⟩
      have hmem : Hid (t ∈ it a.I) := fi_it hf
      have hl : Hid ((it a.I).length ≤ 1000) := by show _ ≤ _; have := H.out.ok.ilen; simp only [it, List.length_map]; omega
      clear hf h3
      go_enter Try.func16, Try.ntmps16
      go_wp2_with (first
        | (go_at_call 21; refine HC'.out.mono ?_; rintro e w' ⟨rfl, hw'⟩; subst hw')
        | (go_at_call 34; refine (reservation_is _ _ _ (by omega) _).mono ?_; rintro e w' ⟨rfl, hw'⟩; subst hw')
        | (go_at_call 41; refine (out_at N (H.out.c 7) (H.out.c 8) (H.out.c 9) HM.out.1 H.out.l2 H.out.rm H.out.ok.lok ht hmem.out hl.out).mono ?_; rintro e w3 ⟨rfl, h1, ⟨v', h2, h2'⟩, h3, h4⟩; have HO : Hid (VMp w3 F.mb n (fun u => if u = t then none else M u) ∧ QAt 63 w3 F.q2 v' ((it a.I).erase t) a.got ∧ blk v' = blk F.v2 ∧ L.LAt w3 F.lb F.lm (n + 1) (L.clsS a.lg t) ∧ Kept (OF F) _ w3) := ⟨h1, h2, h2', h3, h4⟩; clear h1 h2 h2' h3 h4))
      go_ret
      have ecl : L.clsE a.lg t = 0 := by
        have : L.look t a.lg.L = some k := by show L.look t (lefts a.I) = _; rw [look_lefts, HF.out]; rfl
        simp [L.clsE, this]
      have els : L.clsS a.lg t = ({ a with used := a.used, I := cutI t a.I } : Ad).lg := by simp only [L.clsS, Ad.lg, lefts_cut]
      have hok := H.out.ok.lea t
      rw [e1.out.2] at hok
      refine ⟨by rw [e1.out.1, ← ecl]; rfl, v', ?_, HO.out.2.2.1, HO.out.2.2.2.2.wider fun x _ e => e.has⟩
      rw [e1.out.2]
      have hr := HO.out.2.2.2.1
      rw [els] at hr
      exact H.out.outd HM.out.1 HM.out.2.1 HM.out.2.2 HF.out HO.out.2.2.2.2 (by omega) HO.out.1 HO.out.2.1 HO.out.2.2.1 (hr.mono (by omega)) hok
end
end Go.Proofs.Ytnbegddpgmejnaa
