/-
  Layer 13: told.
-/
import Derived.Test.YtnbegddpgmejnaaAj
namespace Go.Proofs.Ytnbegddpgmejnaa
open Go.RowKit


/-- 'append' of a list onto one of one's own -/
theorem wpList_append_i (w : World) {ops : Array Oper} {rest : List Oper} {o : Oper} {a : Act} {Q : Exit → Act → World → Prop} (hgd : o.guard = none) (s x : Operand)
    (ho : o.op = .call { callee := .builtin .append, args := #[s, x], argTypes := #[31, 31] }) (base : Nat) (v : Value) (xs : List Int) (hs : a.eval s = v) (hown : w.ownsRow base 3 1 v xs.length (B.I64 xs))
    (p : Option Addr) (m c : Nat) (ys : List Int) (hx : a.eval x = .slice p m c) (hI : B.IIn w p m ys) (hp : p = none → c = 0) (hmc : m ≤ c) (hlen : xs.length + m ≤ 10000) (hbase : base ≤ w.heap.size)
    (h : ∀ v' w', w'.ownsRow base 3 1 v' (xs ++ ys).length (B.I64 (xs ++ ys)) → Kept (fun b => blk v = some b) w w' → wpList Try.prog ops Q rest (a.put o.dst v') w') : wpList Try.prog ops Q (o :: rest) a w := by
  obtain ⟨i0, hi, hz0, hz1, hz2⟩ := info_parts B.info3
  have hml : 10000 ≤ maxLen := by decide
  refine B.wpList_append_any w hgd s x 31 ho base 3 i0 (.int .i64 0) 8 Try.underlying31 hi hz0 hz1 hz2 rfl v xs.length (B.I64 xs) hs hown p m c (B.I64 ys) hx hp hmc (by rw [B.I64_length, hI.len]) hI.newsAny (B.ones_i64 ys) (by omega) (by omega) hbase ?_
  intro v' w' h1 h2
  refine h v' w' ?_ ⟨h2.os, h2.tape, h2.output, h2.size, fun b hb hne => h2.block b hb fun e => hne ?_⟩
  · rw [List.length_append, hI.len]; simpa using h1
  · cases v <;> simp [Value.ownBlock] at e
    rename_i p' _ _
    cases p' with
    | none => simp at e
    | some ad => simp at e; simp [blk, e]
def flatI (I : List (Int × List Int × Int)) : List Int := I.flatMap fun x => [x.1, x.2.2]
/-- told: all that a line tells, as numbers -/
def Ad.told (a : Ad) : List Int := [a.fT, (a.fF.length : Int), a.used, a.rsv] ++ a.fF ++ (if a.isW then [-1] else []) ++ wt a.W ++ [-2] ++ flatI a.I
/-- what stands while told is made -/
structure TT (w0 w : World) (F : Ft) (n : Nat) (a : Ad) (v : Value) (xs : List Int) : Prop where
  pl : PL w F n a
  low : ∀ b, F.has b → b < w0.heap.size
  own : w.ownsRow w0.heap.size 3 1 v xs.length (B.I64 xs)
  below : Below w0.heap.size w0 w
theorem same_below' {P : Program} {f : FuncId} {args : Array Value} {w : World} {r : Ending} (h : Calls P f args w fun e w' => e = r ∧ w' = w) : Calls P f args w fun e w' => e = r ∧ Below w.heap.size w w' := h.mono fun e w' ⟨h1, h2⟩ => ⟨h1, by rw [h2]; exact Below.refl _ _⟩
section
variable {w0 w w' : World} {F : Ft} {n : Nat} {a : Ad} {v : Value} {xs : List Int}
theorem TT.later (h : TT w0 w F n a v xs) (hb : Below w.heap.size w w') : TT w0 w' F n a v xs := ⟨h.pl.later hb, h.low, B.own_later h.own hb, h.below.trans (hb.mono h.below.size)⟩
theorem own_kd {w : World} {base : Nat} {e : TypeId} {size : Nat} {v : Value} {n : Nat} {xs : List Value} (h : w.ownsRow base e size v n xs) {g : Nat} (hg : blk v = some g) : kd w g = e := by
  rcases h.2 with ⟨rfl, _⟩ | ⟨g', cap, cur, rfl, h1, h2, _⟩
  · cases hg
  · cases hg; exact kd_cells h2
theorem TT.app {v' : Value} {ys : List Int} (h : TT w0 w F n a v xs) (ho : w'.ownsRow w0.heap.size 3 1 v' (xs ++ ys).length (B.I64 (xs ++ ys))) (hk : Kept (fun b => blk v = some b) w w') (hG : ∀ g, F.G g → g < w0.heap.size) : TT w0 w' F n a v' (xs ++ ys) :=
  ⟨h.pl.far hk (fun b hb e => by have h1 := h.low b hb; have h2 := own_blk h.own e; omega) (fun g hg _ e => by have h1 := hG g hg; have h2 := own_blk h.own e; omega), h.low, ho, hk.into h.below (fun b hb e => by have h2 := own_blk h.own e; omega) (Nat.le_refl _)⟩
/-- a list of tickets stays beside it -/
theorem TT.row {v' : Value} {ts : List Int} (h : TT w0 w F n a v xs) (hr : Row w v' ts) (hk : Kept (fun b => blk v = some b) w w') : Row w' v' ts :=
  hr.far hk fun g hg e => by have h1 := hr.kd hg; rw [own_kd h.own e] at h1; cases h1
theorem flat_len : ∀ (I : List (Int × List Int × Int)), (flatI I).length = 2 * I.length
  | [] => rfl
  | x :: r => by have := flat_len r; simp only [flatI] at this; simp [flatI, this]; omega
theorem left_at_i {a : Ad} (h : a.Ok) {k : Nat} (hk : k < a.I.length) : a.leftN (a.I[k]).1 = (a.I[k]).2.2 ∧ a.leftB (a.I[k]).1 = true := by
  have hnd : (it a.I).Nodup := nd_of h.irise
  have key : ∀ (I : List (Int × List Int × Int)) (k : Nat) (hk : k < I.length), (it I).Nodup → fi (I[k]).1 I = some (I[k]).2 := by
    intro I
    induction I with
    | nil => intro k hk; simp at hk
    | cons x r ih =>
      intro k hk hn
      have hn' := List.nodup_cons.1 hn
      cases k with
      | zero => simp [fi]
      | succ k =>
        have hk' : k < r.length := by simpa using hk
        have hne : ¬ x.1 = (r[k]).1 := fun e => hn'.1 (by rw [e]; exact List.mem_map.2 ⟨r[k], List.getElem_mem hk', rfl⟩)
        simp only [List.getElem_cons_succ, fi, if_neg hne]
        exact ih k hk' hn'.2
  have := key a.I k hk hnd
  exact ⟨by simp [Ad.leftN, this], by simp [Ad.leftB, this]⟩
set_option maxHeartbeats 4000000 in
set_option maxRecDepth 100000 in
theorem told_true (h : PL w F n a) (hN : a.next ≤ 1000) (hG : ∀ g, F.G g → g < w.heap.size) (hW : a.isW = true) : Calls Try.prog 23 #[qp F.Q] w fun e w' => ∃ q d, e = .returned (.slice q a.told.length d) ∧ B.Made w w' q a.told.length d a.told := by
  have hl := h.ok.flen
  have h0 := h.ok.got0
  have hwl : (wt a.W).length ≤ 1000 := by have := h.ok.wlen; simp only [wt, List.length_map]; omega
  have hil : a.I.length ≤ 1000 := by have := h.ok.ilen; omega
  have hil2 : (it a.I).length = a.I.length := by simp [it]
  have hfT : 0 ≤ a.fT ∧ a.fT ≤ 1000 := by
    unfold Ad.fT
    cases hW : a.W with
    | nil => simp
    | cons x r => have := h.ok.win x (by rw [hW]; exact List.mem_cons_self ..); show 0 ≤ x.1 ∧ x.1 ≤ 1000; omega
  have hwr : IntKind.i64.wrap a.fT = a.fT := by rw [IntKind.wrap_i64]; omega
  have hwU : Hid (∀ k, 0 ≤ (wt a.W).getD k 0 ∧ (wt a.W).getD k 0 ≤ 1000) := fun k => by
    rw [List.getD]
    cases hk : (wt a.W)[k]? with
    | none => simp
    | some y =>
      obtain ⟨x, hx, rfl⟩ := List.mem_map.1 (List.mem_of_getElem? hk)
      have := h.ok.win x hx
      show 0 ≤ x.1 ∧ x.1 ≤ 1000
      omega
  have hiU : Hid (∀ k, 0 ≤ (it a.I).getD k 0 ∧ (it a.I).getD k 0 ≤ 1000) := fun k => by
    rw [List.getD]
    cases hk : (it a.I)[k]? with
    | none => simp
    | some y =>
      obtain ⟨x, hx, rfl⟩ := List.mem_map.1 (List.mem_of_getElem? hk)
      have := h.ok.iin x hx
      have := h.ok.gotN
      show 0 ≤ x.1 ∧ x.1 ≤ 1000
      omega
  have HO : Hid a.Ok := h.ok
  have HTd : Hid (a.told = (([] ++ [a.fT, (a.fF.length : Int), a.used, a.rsv] ++ a.fF) ++ [-1]) ++ wt a.W ++ [-2] ++ flatI a.I) := by
    show _ = _
    simp [Ad.told, hW]
  have H0 : Hid (TT w w F n a nils []) := ⟨h, fun b hb => h.lt hb, World.ownsRow_nil _ _ _ _, Below.refl _ _⟩
  have HG : Hid (∀ g, F.G g → g < w.heap.size) := hG
  have HF1 := First_at h hN
  rw [hW] at HF1
  have HF : Hid (Calls Try.prog 20 #[qp F.Q] w fun e w' => ∃ q d, e = .returned (.tuple #[.int .u64 a.fT, .slice q a.fF.length d, .bool true]) ∧ B.Made w w' q a.fF.length d a.fF) := HF1
  clear h h0 hG hW HF1
  go_enter Try.func23, Try.ntmps23
  go_wp2_with fail
  refine HF.out.mono ?_
  rintro e w1 ⟨q, d, rfl, hm⟩
  have H1 : Hid (TT w w1 F n a nils []) := H0.out.later hm.below
  have M1 : Hid (B.IIn w1 q a.fF.length a.fF ∧ a.fF.length ≤ d ∧ (q = none → d = 0)) := ⟨hm.read, hm.room.1, hm.room.2⟩
  clear hm H0
  go_wp2_with fail
  refine (same_below' (used_at H1.out.pl)).mono ?_
  rintro e w2 ⟨rfl, hb⟩
  have H2 : Hid (TT w w2 F n a nils []) := H1.out.later hb
  have M2 : Hid (B.IIn w2 q a.fF.length a.fF) := M1.out.1.later hb
  clear hb
  go_wp2_with fail
  refine (same_below' (reserved_at H2.out.pl)).mono ?_
  rintro e w3 ⟨rfl, hb⟩
  have H3 : Hid (TT w w3 F n a nils []) := H2.out.later hb
  have M3 : Hid (B.IIn w3 q a.fF.length a.fF) := M2.out.later hb
  clear hb H2 H1 M2
  have HT : Hid (TT w (w3.alloc (.cells #[.int .i64 a.fT, .int .i64 (a.fF.length : Int), .int .i64 a.used, .int .i64 a.rsv] 3)) F n a nils []) := H3.out.later (below_alloc _ _)
  have HL : Hid (B.IIn (w3.alloc (.cells #[.int .i64 a.fT, .int .i64 (a.fF.length : Int), .int .i64 a.used, .int .i64 a.rsv] 3)) (some ⟨w3.heap.size, 0, none⟩) 4 [a.fT, (a.fF.length : Int), a.used, a.rsv]) := B.lit_in w3 [a.fT, (a.fF.length : Int), a.used, a.rsv] 4 rfl
  have HM : Hid (B.IIn (w3.alloc (.cells #[.int .i64 a.fT, .int .i64 (a.fF.length : Int), .int .i64 a.used, .int .i64 a.rsv] 3)) q a.fF.length a.fF) := M3.out.later (below_alloc _ _)
  have hsz : Hid (w.heap.size ≤ (w3.alloc (.cells #[.int .i64 a.fT, .int .i64 (a.fF.length : Int), .int .i64 a.used, .int .i64 a.rsv] 3)).heap.size) := HT.out.below.size
  go_wp2_with (first
    | (at_builtin; refine wpList_append_i _ rfl (.tmp 19) (.tmp 28) rfl w.heap.size nils [] rfl HT.out.own (some ⟨w3.heap.size, 0, none⟩) 4 4 [a.fT, (a.fF.length : Int), a.used, a.rsv] rfl HL.out (by simp) (by omega) (by simp) hsz.out ?_; intro v1 w4 ho hk; have H4 : Hid (TT w w4 F n a v1 ([] ++ [a.fT, (a.fF.length : Int), a.used, a.rsv])) := HT.out.app ho hk HG.out; have M4 : Hid (B.IIn w4 q a.fF.length a.fF) := HM.out.later (hk.below (fun b _ e => by cases e)); clear ho hk)
    | (at_builtin; refine wpList_append_i _ rfl (.tmp 30) (.tmp 31) rfl w.heap.size v1 ([] ++ [a.fT, (a.fF.length : Int), a.used, a.rsv]) rfl H4.out.own q a.fF.length d a.fF rfl M4.out M1.out.2.2 M1.out.2.1 (by simp; omega) H4.out.below.size ?_; intro v2 w5 ho hk; have H5 : Hid (TT w w5 F n a v2 ([] ++ [a.fT, (a.fF.length : Int), a.used, a.rsv] ++ a.fF)) := H4.out.app ho hk HG.out; have L5 : Hid (TT w (w5.alloc (.cells #[.int .i64 (-1)] 3)) F n a v2 ([] ++ [a.fT, (a.fF.length : Int), a.used, a.rsv] ++ a.fF) ∧ B.IIn (w5.alloc (.cells #[.int .i64 (-1)] 3)) (some ⟨w5.heap.size, 0, none⟩) 1 [-1]) := ⟨H5.out.later (below_alloc _ _), B.lit_in w5 [-1] 1 rfl⟩; clear ho hk)
    | (at_builtin; refine wpList_append_i _ rfl (.tmp 34) (.tmp 35) rfl w.heap.size v2 ([] ++ [a.fT, (a.fF.length : Int), a.used, a.rsv] ++ a.fF) rfl L5.out.1.own (some ⟨w5.heap.size, 0, none⟩) 1 1 [-1] rfl L5.out.2 (by simp) (by omega) (by simp; omega) L5.out.1.below.size ?_; intro v3 w6 ho hk; have H6 : Hid (TT w w6 F n a v3 (([] ++ [a.fT, (a.fF.length : Int), a.used, a.rsv] ++ a.fF) ++ [-1])) := L5.out.1.app ho hk HG.out; clear ho hk))
  refine (waiting_at H6.out.pl hN).mono ?_
  rintro e w7 ⟨vw, rfl, hm⟩
  obtain ⟨pw, cw, rfl, -⟩ := hm.read
  have H7 : Hid (TT w w7 F n a v3 (([] ++ [a.fT, (a.fF.length : Int), a.used, a.rsv] ++ a.fF) ++ [-1])) := H6.out.later hm.below
  have R7 : Hid (Row w7 (.slice pw (wt a.W).length cw) (wt a.W)) := (Row.own hm.own).1
  clear hm
  go_wp2_with fail
  refine (in_at H7.out.pl hN).mono ?_
  rintro e w8 ⟨vi, rfl, hm⟩
  obtain ⟨pi, ci, rfl, -⟩ := hm.read
  rw [hil2]
  have H8 : Hid (TT w w8 F n a v3 (([] ++ [a.fT, (a.fF.length : Int), a.used, a.rsv] ++ a.fF) ++ [-1])) := H7.out.later hm.below
  have R8 : Hid (Row w8 (.slice pw (wt a.W).length cw) (wt a.W)) := R7.out.later hm.below
  have S8 : Hid (Row w8 (.slice pi a.I.length ci) (it a.I)) := by have := (Row.own hm.own).1; rw [hil2] at this; exact this
  clear hm
  go_wp2
  go_loopw [9, 3] (fun i o wr => ∃ k : Nat, k ≤ (wt a.W).length ∧ i = .int .i64 k ∧ Hid (TT w wr F n a o ((([] ++ [a.fT, (a.fF.length : Int), a.used, a.rsv] ++ a.fF) ++ [-1]) ++ (wt a.W).take k) ∧ Row wr (.slice pw (wt a.W).length cw) (wt a.W) ∧ Row wr (.slice pi a.I.length ci) (it a.I))) (fun i _ _ => (wt a.W).length - (intOf i).toNat)
  case atStart => exact ⟨0, Nat.zero_le _, rfl, by simpa using H8.out, R8.out, S8.out⟩
  case round =>
    obtain ⟨k, hk, rfl, HR⟩ := hrel
    by_cases hlt : k < (wt a.W).length
    · have i1 : (k : Int) < ((wt a.W).length : Int) := by omega
      obtain ⟨_, _, e0, hU, _⟩ := HR.out.2.1.form
      simp only [Value.slice.injEq] at e0
      obtain ⟨rfl, _, rfl⟩ := e0
      obtain ⟨b', o', rfl, hcx⟩ := hU.cells (by omega)
      have h1 := hcx k hlt
      have hx := hwU.out k
      have HT2 : Hid ((wt a.W).take (k + 1) = (wt a.W).take k ++ [(wt a.W).getD k 0]) := by
        show _ = _
        rw [List.take_succ_eq_append_getElem hlt, List.getD, List.getElem?_eq_getElem hlt]; rfl
      clear hcx hU
      obtain ⟨x, hxx⟩ : ∃ x, (wt a.W).getD k 0 = x := ⟨_, rfl⟩
      rw [hxx] at h1 hx HT2
      clear hxx
      have hw2 : IntKind.i64.wrap x = x := by rw [IntKind.wrap_i64]; omega
      have HTa : Hid (TT w (wr.alloc (.cells #[.int .i64 x] 3)) F n a u3 ((([] ++ [a.fT, (a.fF.length : Int), a.used, a.rsv] ++ a.fF) ++ [-1]) ++ (wt a.W).take k)) := HR.out.1.later (below_alloc _ _)
      have HLa : Hid (B.IIn (wr.alloc (.cells #[.int .i64 x] 3)) (some ⟨wr.heap.size, 0, none⟩) 1 [x]) := B.lit_in wr [x] 1 rfl
      have hlen : Hid (((([] ++ [a.fT, (a.fF.length : Int), a.used, a.rsv] ++ a.fF) ++ [-1]) ++ (wt a.W).take k).length + 1 ≤ 10000) := by show _ ≤ _; simp; omega
      go_wp2_with (at_builtin; refine wpList_append_i _ rfl (.tmp 47) (.tmp 53) rfl w.heap.size u3 ((([] ++ [a.fT, (a.fF.length : Int), a.used, a.rsv] ++ a.fF) ++ [-1]) ++ (wt a.W).take k) rfl HTa.out.own (some ⟨wr.heap.size, 0, none⟩) 1 1 [x] rfl HLa.out (by simp) (by omega) hlen.out HTa.out.below.size ?_; intro v4 wa ho hk; have HA : Hid (TT w wa F n a v4 ((([] ++ [a.fT, (a.fF.length : Int), a.used, a.rsv] ++ a.fF) ++ [-1]) ++ (wt a.W).take k ++ [x]) ∧ Row wa (.slice (some ⟨b', o', none⟩) (wt a.W).length cw) (wt a.W) ∧ Row wa (.slice pi a.I.length ci) (it a.I)) := ⟨HTa.out.app ho hk HG.out, HTa.out.row (HR.out.2.1.later (below_alloc _ _)) hk, HTa.out.row (HR.out.2.2.later (below_alloc _ _)) hk⟩; clear ho hk)
      go_roundw
      case rel => exact ⟨k + 1, by omega, by go_num, by rw [HT2.out, ← List.append_assoc]; exact HA.out.1, HA.out.2.1, HA.out.2.2⟩
      case measure => simp [intOf]; omega
    · have HT2 : Hid (((([] ++ [a.fT, (a.fF.length : Int), a.used, a.rsv] ++ a.fF) ++ [-1]) ++ (wt a.W).take k) = (([] ++ [a.fT, (a.fF.length : Int), a.used, a.rsv] ++ a.fF) ++ [-1]) ++ wt a.W) := by
        show _ = _
        rw [List.take_of_length_le (by omega)]
      have HX : Hid (TT w wr F n a u3 ((([] ++ [a.fT, (a.fF.length : Int), a.used, a.rsv] ++ a.fF) ++ [-1]) ++ wt a.W) ∧ Row wr (.slice pi a.I.length ci) (it a.I)) := ⟨by rw [← HT2.out]; exact HR.out.1, HR.out.2.2⟩
      have HTa : Hid (TT w (wr.alloc (.cells #[.int .i64 (-2)] 3)) F n a u3 ((([] ++ [a.fT, (a.fF.length : Int), a.used, a.rsv] ++ a.fF) ++ [-1]) ++ wt a.W)) := HX.out.1.later (below_alloc _ _)
      have HLa : Hid (B.IIn (wr.alloc (.cells #[.int .i64 (-2)] 3)) (some ⟨wr.heap.size, 0, none⟩) 1 [-2]) := B.lit_in wr [-2] 1 rfl
      have hlen : Hid (((([] ++ [a.fT, (a.fF.length : Int), a.used, a.rsv] ++ a.fF) ++ [-1]) ++ wt a.W).length + 1 ≤ 10000) := by show _ ≤ _; simp; omega
      clear HR HT2
      go_wp2_with (at_builtin; refine wpList_append_i _ rfl (.tmp 55) (.tmp 56) rfl w.heap.size u3 ((([] ++ [a.fT, (a.fF.length : Int), a.used, a.rsv] ++ a.fF) ++ [-1]) ++ wt a.W) rfl HTa.out.own (some ⟨wr.heap.size, 0, none⟩) 1 1 [-2] rfl HLa.out (by simp) (by omega) hlen.out HTa.out.below.size ?_; intro v5 wb ho hk; have HB : Hid (TT w wb F n a v5 ((([] ++ [a.fT, (a.fF.length : Int), a.used, a.rsv] ++ a.fF) ++ [-1]) ++ wt a.W ++ [-2]) ∧ Row wb (.slice pi a.I.length ci) (it a.I)) := ⟨HTa.out.app ho hk HG.out, HTa.out.row (HX.out.2.later (below_alloc _ _)) hk⟩; clear ho hk)
      go_loopw [10, 3] (fun i o wr2 => ∃ k : Nat, k ≤ a.I.length ∧ i = .int .i64 k ∧ Hid (TT w wr2 F n a o ((([] ++ [a.fT, (a.fF.length : Int), a.used, a.rsv] ++ a.fF) ++ [-1]) ++ wt a.W ++ [-2] ++ flatI (a.I.take k)) ∧ Row wr2 (.slice pi a.I.length ci) (it a.I))) (fun i _ _ => a.I.length - (intOf i).toNat)
      case atStart => exact ⟨0, Nat.zero_le _, rfl, by simpa [flatI] using HB.out.1, HB.out.2⟩
      case round =>
        obtain ⟨k2, hk2, rfl, HR⟩ := hrel
        by_cases hlt2 : k2 < a.I.length
        · have i1 : (k2 : Int) < (a.I.length : Int) := by omega
          obtain ⟨_, _, e0, hU, _⟩ := HR.out.2.form
          simp only [Value.slice.injEq] at e0
          obtain ⟨rfl, h9, rfl⟩ := e0
          clear h9
          obtain ⟨b', o', rfl, hcx⟩ := hU.cells (by omega)
          have h1 := hcx k2 (by omega)
          have hx := hiU.out k2
          have hge : (it a.I).getD k2 0 = (a.I[k2]).1 := by rw [List.getD, List.getElem?_eq_getElem (by omega)]; simp [it]
          have HLf := left_at_i HO.out hlt2
          have HT2 : Hid (flatI (a.I.take (k2 + 1)) = flatI (a.I.take k2) ++ [(a.I[k2]).1, (a.I[k2]).2.2]) := by
            show _ = _
            rw [List.take_succ_eq_append_getElem hlt2, flatI, List.flatMap_append]; simp [flatI]
          have hfl : Hid ((flatI (a.I.take k2)).length ≤ 2000) := by show _ ≤ _; rw [flat_len, List.length_take]; omega
          clear hcx hU
          rw [hge] at h1 hx
          obtain ⟨x, hxx⟩ : ∃ x, (a.I[k2]).1 = x := ⟨_, rfl⟩
          obtain ⟨y, hyy⟩ : ∃ y, (a.I[k2]).2.2 = y := ⟨_, rfl⟩
          rw [hxx, hyy] at HLf HT2
          rw [hxx] at h1 hx
          clear hxx hyy hge
          have HLc := left_at HR.out.1.pl (u64_small hx.1 hx.2)
          rw [HLf.1, HLf.2] at HLc
          have HLd : Hid (Calls Try.prog 21 #[qp F.Q, .int .u64 x] wr fun e w' => e = .returned (.tuple #[.int .i64 y, .bool true]) ∧ w' = wr) := HLc
          clear HLc HLf
          have hw2 : IntKind.i64.wrap x = x := by rw [IntKind.wrap_i64]; omega
          have HTb : Hid (TT w (wr.alloc (.cells #[.int .i64 x, .int .i64 y] 3)) F n a u3 ((([] ++ [a.fT, (a.fF.length : Int), a.used, a.rsv] ++ a.fF) ++ [-1]) ++ wt a.W ++ [-2] ++ flatI (a.I.take k2))) := HR.out.1.later (below_alloc _ _)
          have HLb : Hid (B.IIn (wr.alloc (.cells #[.int .i64 x, .int .i64 y] 3)) (some ⟨wr.heap.size, 0, none⟩) 2 [x, y]) := B.lit_in wr [x, y] 2 rfl
          have hlen2 : Hid (((([] ++ [a.fT, (a.fF.length : Int), a.used, a.rsv] ++ a.fF) ++ [-1]) ++ wt a.W ++ [-2] ++ flatI (a.I.take k2)).length + 2 ≤ 10000) := by show _ ≤ _; rw [List.length_append]; have := hfl.out; simp only [List.length_append, List.length_cons, List.length_nil] at *; omega
          go_wp2_with (first
            | (go_at_call 21; refine HLd.out.mono ?_; rintro e w' ⟨rfl, rfl⟩)
            | (at_builtin; refine wpList_append_i _ rfl (.tmp 73) (.tmp 80) rfl w.heap.size u3 ((([] ++ [a.fT, (a.fF.length : Int), a.used, a.rsv] ++ a.fF) ++ [-1]) ++ wt a.W ++ [-2] ++ flatI (a.I.take k2)) rfl HTb.out.own (some ⟨_, 0, none⟩) 2 2 [x, y] rfl HLb.out (by simp) (by omega) hlen2.out HTb.out.below.size ?_; intro v6 wc ho hk; have HC : Hid (TT w wc F n a v6 ((([] ++ [a.fT, (a.fF.length : Int), a.used, a.rsv] ++ a.fF) ++ [-1]) ++ wt a.W ++ [-2] ++ flatI (a.I.take k2) ++ [x, y]) ∧ Row wc (.slice (some ⟨b', o', none⟩) a.I.length ci) (it a.I)) := ⟨HTb.out.app ho hk HG.out, HTb.out.row (HR.out.2.later (below_alloc _ _)) hk⟩; clear ho hk))
          go_roundw
          case rel => exact ⟨k2 + 1, by omega, by go_num, by rw [HT2.out, ← List.append_assoc]; exact HC.out.1, HC.out.2⟩
          case measure => simp [intOf]; omega
        · have HT2 : Hid (a.told = (([] ++ [a.fT, (a.fF.length : Int), a.used, a.rsv] ++ a.fF) ++ [-1]) ++ wt a.W ++ [-2] ++ flatI (a.I.take k2)) := by
            show _ = _
            rw [HTd.out, List.take_of_length_le (by omega)]
          have HF2 : Hid (TT w wr F n a u3 a.told) := by rw [HT2.out]; exact HR.out.1
          go_wp2
          go_ret
          obtain ⟨q', d', e1, hm⟩ := B.made_of HF2.out.own HF2.out.below
          exact ⟨q', d', by rw [← e1]; rfl, hm⟩
set_option maxHeartbeats 4000000 in
set_option maxRecDepth 100000 in
theorem told_false (h : PL w F n a) (hN : a.next ≤ 1000) (hG : ∀ g, F.G g → g < w.heap.size) (hW : a.isW = false) : Calls Try.prog 23 #[qp F.Q] w fun e w' => ∃ q d, e = .returned (.slice q a.told.length d) ∧ B.Made w w' q a.told.length d a.told := by
  have hl := h.ok.flen
  have h0 := h.ok.got0
  have hwl : (wt a.W).length ≤ 1000 := by have := h.ok.wlen; simp only [wt, List.length_map]; omega
  have hil : a.I.length ≤ 1000 := by have := h.ok.ilen; omega
  have hil2 : (it a.I).length = a.I.length := by simp [it]
  have hfT : 0 ≤ a.fT ∧ a.fT ≤ 1000 := by
    unfold Ad.fT
    cases hW : a.W with
    | nil => simp
    | cons x r => have := h.ok.win x (by rw [hW]; exact List.mem_cons_self ..); show 0 ≤ x.1 ∧ x.1 ≤ 1000; omega
  have hwr : IntKind.i64.wrap a.fT = a.fT := by rw [IntKind.wrap_i64]; omega
  have hwU : Hid (∀ k, 0 ≤ (wt a.W).getD k 0 ∧ (wt a.W).getD k 0 ≤ 1000) := fun k => by
    rw [List.getD]
    cases hk : (wt a.W)[k]? with
    | none => simp
    | some y =>
      obtain ⟨x, hx, rfl⟩ := List.mem_map.1 (List.mem_of_getElem? hk)
      have := h.ok.win x hx
      show 0 ≤ x.1 ∧ x.1 ≤ 1000
      omega
  have hiU : Hid (∀ k, 0 ≤ (it a.I).getD k 0 ∧ (it a.I).getD k 0 ≤ 1000) := fun k => by
    rw [List.getD]
    cases hk : (it a.I)[k]? with
    | none => simp
    | some y =>
      obtain ⟨x, hx, rfl⟩ := List.mem_map.1 (List.mem_of_getElem? hk)
      have := h.ok.iin x hx
      have := h.ok.gotN
      show 0 ≤ x.1 ∧ x.1 ≤ 1000
      omega
  have HO : Hid a.Ok := h.ok
  have HTd : Hid (a.told = ([] ++ [a.fT, (a.fF.length : Int), a.used, a.rsv] ++ a.fF) ++ wt a.W ++ [-2] ++ flatI a.I) := by
    show _ = _
    simp [Ad.told, hW]
  have H0 : Hid (TT w w F n a nils []) := ⟨h, fun b hb => h.lt hb, World.ownsRow_nil _ _ _ _, Below.refl _ _⟩
  have HG : Hid (∀ g, F.G g → g < w.heap.size) := hG
  have HF1 := First_at h hN
  rw [hW] at HF1
  have HF : Hid (Calls Try.prog 20 #[qp F.Q] w fun e w' => ∃ q d, e = .returned (.tuple #[.int .u64 a.fT, .slice q a.fF.length d, .bool false]) ∧ B.Made w w' q a.fF.length d a.fF) := HF1
  clear h h0 hG hW HF1
  go_enter Try.func23, Try.ntmps23
  go_wp2_with fail
  refine HF.out.mono ?_
  rintro e w1 ⟨q, d, rfl, hm⟩
  have H1 : Hid (TT w w1 F n a nils []) := H0.out.later hm.below
  have M1 : Hid (B.IIn w1 q a.fF.length a.fF ∧ a.fF.length ≤ d ∧ (q = none → d = 0)) := ⟨hm.read, hm.room.1, hm.room.2⟩
  clear hm H0
  go_wp2_with fail
  refine (same_below' (used_at H1.out.pl)).mono ?_
  rintro e w2 ⟨rfl, hb⟩
  have H2 : Hid (TT w w2 F n a nils []) := H1.out.later hb
  have M2 : Hid (B.IIn w2 q a.fF.length a.fF) := M1.out.1.later hb
  clear hb
  go_wp2_with fail
  refine (same_below' (reserved_at H2.out.pl)).mono ?_
  rintro e w3 ⟨rfl, hb⟩
  have H3 : Hid (TT w w3 F n a nils []) := H2.out.later hb
  have M3 : Hid (B.IIn w3 q a.fF.length a.fF) := M2.out.later hb
  clear hb H2 H1 M2
  have HT : Hid (TT w (w3.alloc (.cells #[.int .i64 a.fT, .int .i64 (a.fF.length : Int), .int .i64 a.used, .int .i64 a.rsv] 3)) F n a nils []) := H3.out.later (below_alloc _ _)
  have HL : Hid (B.IIn (w3.alloc (.cells #[.int .i64 a.fT, .int .i64 (a.fF.length : Int), .int .i64 a.used, .int .i64 a.rsv] 3)) (some ⟨w3.heap.size, 0, none⟩) 4 [a.fT, (a.fF.length : Int), a.used, a.rsv]) := B.lit_in w3 [a.fT, (a.fF.length : Int), a.used, a.rsv] 4 rfl
  have HM : Hid (B.IIn (w3.alloc (.cells #[.int .i64 a.fT, .int .i64 (a.fF.length : Int), .int .i64 a.used, .int .i64 a.rsv] 3)) q a.fF.length a.fF) := M3.out.later (below_alloc _ _)
  have hsz : Hid (w.heap.size ≤ (w3.alloc (.cells #[.int .i64 a.fT, .int .i64 (a.fF.length : Int), .int .i64 a.used, .int .i64 a.rsv] 3)).heap.size) := HT.out.below.size
  go_wp2_with (first
    | (at_builtin; refine wpList_append_i _ rfl (.tmp 19) (.tmp 28) rfl w.heap.size nils [] rfl HT.out.own (some ⟨w3.heap.size, 0, none⟩) 4 4 [a.fT, (a.fF.length : Int), a.used, a.rsv] rfl HL.out (by simp) (by omega) (by simp) hsz.out ?_; intro v1 w4 ho hk; have H4 : Hid (TT w w4 F n a v1 ([] ++ [a.fT, (a.fF.length : Int), a.used, a.rsv])) := HT.out.app ho hk HG.out; have M4 : Hid (B.IIn w4 q a.fF.length a.fF) := HM.out.later (hk.below (fun b _ e => by cases e)); clear ho hk)
    | (at_builtin; refine wpList_append_i _ rfl (.tmp 30) (.tmp 31) rfl w.heap.size v1 ([] ++ [a.fT, (a.fF.length : Int), a.used, a.rsv]) rfl H4.out.own q a.fF.length d a.fF rfl M4.out M1.out.2.2 M1.out.2.1 (by simp; omega) H4.out.below.size ?_; intro v2 w5 ho hk; have H5 : Hid (TT w w5 F n a v2 ([] ++ [a.fT, (a.fF.length : Int), a.used, a.rsv] ++ a.fF)) := H4.out.app ho hk HG.out; have L5 : Hid (TT w (w5.alloc (.cells #[.int .i64 (-1)] 3)) F n a v2 ([] ++ [a.fT, (a.fF.length : Int), a.used, a.rsv] ++ a.fF) ∧ B.IIn (w5.alloc (.cells #[.int .i64 (-1)] 3)) (some ⟨w5.heap.size, 0, none⟩) 1 [-1]) := ⟨H5.out.later (below_alloc _ _), B.lit_in w5 [-1] 1 rfl⟩; clear ho hk)
    | (at_builtin; refine wpList_append_i _ rfl (.tmp 34) (.tmp 35) rfl w.heap.size v2 ([] ++ [a.fT, (a.fF.length : Int), a.used, a.rsv] ++ a.fF) rfl L5.out.1.own (some ⟨w5.heap.size, 0, none⟩) 1 1 [-1] rfl L5.out.2 (by simp) (by omega) (by simp; omega) L5.out.1.below.size ?_; intro v3 w6 ho hk; have H6 : Hid (TT w w6 F n a v3 (([] ++ [a.fT, (a.fF.length : Int), a.used, a.rsv] ++ a.fF) ++ [-1])) := L5.out.1.app ho hk HG.out; clear ho hk))
  refine (waiting_at H5.out.pl hN).mono ?_
  rintro e w7 ⟨vw, rfl, hm⟩
  obtain ⟨pw, cw, rfl, -⟩ := hm.read
  have H7 : Hid (TT w w7 F n a v2 ([] ++ [a.fT, (a.fF.length : Int), a.used, a.rsv] ++ a.fF)) := H5.out.later hm.below
  have R7 : Hid (Row w7 (.slice pw (wt a.W).length cw) (wt a.W)) := (Row.own hm.own).1
  clear hm
  go_wp2_with fail
  refine (in_at H7.out.pl hN).mono ?_
  rintro e w8 ⟨vi, rfl, hm⟩
  obtain ⟨pi, ci, rfl, -⟩ := hm.read
  rw [hil2]
  have H8 : Hid (TT w w8 F n a v2 ([] ++ [a.fT, (a.fF.length : Int), a.used, a.rsv] ++ a.fF)) := H7.out.later hm.below
  have R8 : Hid (Row w8 (.slice pw (wt a.W).length cw) (wt a.W)) := R7.out.later hm.below
  have S8 : Hid (Row w8 (.slice pi a.I.length ci) (it a.I)) := by have := (Row.own hm.own).1; rw [hil2] at this; exact this
  clear hm
  go_wp2
  go_loopw [9, 3] (fun i o wr => ∃ k : Nat, k ≤ (wt a.W).length ∧ i = .int .i64 k ∧ Hid (TT w wr F n a o (([] ++ [a.fT, (a.fF.length : Int), a.used, a.rsv] ++ a.fF) ++ (wt a.W).take k) ∧ Row wr (.slice pw (wt a.W).length cw) (wt a.W) ∧ Row wr (.slice pi a.I.length ci) (it a.I))) (fun i _ _ => (wt a.W).length - (intOf i).toNat)
  case atStart => exact ⟨0, Nat.zero_le _, rfl, by simpa using H8.out, R8.out, S8.out⟩
  case round =>
    obtain ⟨k, hk, rfl, HR⟩ := hrel
    by_cases hlt : k < (wt a.W).length
    · have i1 : (k : Int) < ((wt a.W).length : Int) := by omega
      obtain ⟨_, _, e0, hU, _⟩ := HR.out.2.1.form
      simp only [Value.slice.injEq] at e0
      obtain ⟨rfl, _, rfl⟩ := e0
      obtain ⟨b', o', rfl, hcx⟩ := hU.cells (by omega)
      have h1 := hcx k hlt
      have hx := hwU.out k
      have HT2 : Hid ((wt a.W).take (k + 1) = (wt a.W).take k ++ [(wt a.W).getD k 0]) := by
        show _ = _
        rw [List.take_succ_eq_append_getElem hlt, List.getD, List.getElem?_eq_getElem hlt]; rfl
      clear hcx hU
      obtain ⟨x, hxx⟩ : ∃ x, (wt a.W).getD k 0 = x := ⟨_, rfl⟩
      rw [hxx] at h1 hx HT2
      clear hxx
      have hw2 : IntKind.i64.wrap x = x := by rw [IntKind.wrap_i64]; omega
      have HTa : Hid (TT w (wr.alloc (.cells #[.int .i64 x] 3)) F n a u3 (([] ++ [a.fT, (a.fF.length : Int), a.used, a.rsv] ++ a.fF) ++ (wt a.W).take k)) := HR.out.1.later (below_alloc _ _)
      have HLa : Hid (B.IIn (wr.alloc (.cells #[.int .i64 x] 3)) (some ⟨wr.heap.size, 0, none⟩) 1 [x]) := B.lit_in wr [x] 1 rfl
      have hlen : Hid ((([] ++ [a.fT, (a.fF.length : Int), a.used, a.rsv] ++ a.fF) ++ (wt a.W).take k).length + 1 ≤ 10000) := by show _ ≤ _; simp; omega
      go_wp2_with (at_builtin; refine wpList_append_i _ rfl (.tmp 47) (.tmp 53) rfl w.heap.size u3 (([] ++ [a.fT, (a.fF.length : Int), a.used, a.rsv] ++ a.fF) ++ (wt a.W).take k) rfl HTa.out.own (some ⟨wr.heap.size, 0, none⟩) 1 1 [x] rfl HLa.out (by simp) (by omega) hlen.out HTa.out.below.size ?_; intro v4 wa ho hk; have HA : Hid (TT w wa F n a v4 (([] ++ [a.fT, (a.fF.length : Int), a.used, a.rsv] ++ a.fF) ++ (wt a.W).take k ++ [x]) ∧ Row wa (.slice (some ⟨b', o', none⟩) (wt a.W).length cw) (wt a.W) ∧ Row wa (.slice pi a.I.length ci) (it a.I)) := ⟨HTa.out.app ho hk HG.out, HTa.out.row (HR.out.2.1.later (below_alloc _ _)) hk, HTa.out.row (HR.out.2.2.later (below_alloc _ _)) hk⟩; clear ho hk)
      go_roundw
      case rel => exact ⟨k + 1, by omega, by go_num, by rw [HT2.out, ← List.append_assoc]; exact HA.out.1, HA.out.2.1, HA.out.2.2⟩
      case measure => simp [intOf]; omega
    · have HT2 : Hid ((([] ++ [a.fT, (a.fF.length : Int), a.used, a.rsv] ++ a.fF) ++ (wt a.W).take k) = ([] ++ [a.fT, (a.fF.length : Int), a.used, a.rsv] ++ a.fF) ++ wt a.W) := by
        show _ = _
        rw [List.take_of_length_le (by omega)]
      have HX : Hid (TT w wr F n a u3 (([] ++ [a.fT, (a.fF.length : Int), a.used, a.rsv] ++ a.fF) ++ wt a.W) ∧ Row wr (.slice pi a.I.length ci) (it a.I)) := ⟨by rw [← HT2.out]; exact HR.out.1, HR.out.2.2⟩
      have HTa : Hid (TT w (wr.alloc (.cells #[.int .i64 (-2)] 3)) F n a u3 (([] ++ [a.fT, (a.fF.length : Int), a.used, a.rsv] ++ a.fF) ++ wt a.W)) := HX.out.1.later (below_alloc _ _)
      have HLa : Hid (B.IIn (wr.alloc (.cells #[.int .i64 (-2)] 3)) (some ⟨wr.heap.size, 0, none⟩) 1 [-2]) := B.lit_in wr [-2] 1 rfl
      have hlen : Hid ((([] ++ [a.fT, (a.fF.length : Int), a.used, a.rsv] ++ a.fF) ++ wt a.W).length + 1 ≤ 10000) := by show _ ≤ _; simp; omega
      clear HR HT2
      go_wp2_with (at_builtin; refine wpList_append_i _ rfl (.tmp 55) (.tmp 56) rfl w.heap.size u3 (([] ++ [a.fT, (a.fF.length : Int), a.used, a.rsv] ++ a.fF) ++ wt a.W) rfl HTa.out.own (some ⟨wr.heap.size, 0, none⟩) 1 1 [-2] rfl HLa.out (by simp) (by omega) hlen.out HTa.out.below.size ?_; intro v5 wb ho hk; have HB : Hid (TT w wb F n a v5 (([] ++ [a.fT, (a.fF.length : Int), a.used, a.rsv] ++ a.fF) ++ wt a.W ++ [-2]) ∧ Row wb (.slice pi a.I.length ci) (it a.I)) := ⟨HTa.out.app ho hk HG.out, HTa.out.row (HX.out.2.later (below_alloc _ _)) hk⟩; clear ho hk)
      go_loopw [10, 3] (fun i o wr2 => ∃ k : Nat, k ≤ a.I.length ∧ i = .int .i64 k ∧ Hid (TT w wr2 F n a o (([] ++ [a.fT, (a.fF.length : Int), a.used, a.rsv] ++ a.fF) ++ wt a.W ++ [-2] ++ flatI (a.I.take k)) ∧ Row wr2 (.slice pi a.I.length ci) (it a.I))) (fun i _ _ => a.I.length - (intOf i).toNat)
      case atStart => exact ⟨0, Nat.zero_le _, rfl, by simpa [flatI] using HB.out.1, HB.out.2⟩
      case round =>
        obtain ⟨k2, hk2, rfl, HR⟩ := hrel
        by_cases hlt2 : k2 < a.I.length
        · have i1 : (k2 : Int) < (a.I.length : Int) := by omega
          obtain ⟨_, _, e0, hU, _⟩ := HR.out.2.form
          simp only [Value.slice.injEq] at e0
          obtain ⟨rfl, h9, rfl⟩ := e0
          clear h9
          obtain ⟨b', o', rfl, hcx⟩ := hU.cells (by omega)
          have h1 := hcx k2 (by omega)
          have hx := hiU.out k2
          have hge : (it a.I).getD k2 0 = (a.I[k2]).1 := by rw [List.getD, List.getElem?_eq_getElem (by omega)]; simp [it]
          have HLf := left_at_i HO.out hlt2
          have HT2 : Hid (flatI (a.I.take (k2 + 1)) = flatI (a.I.take k2) ++ [(a.I[k2]).1, (a.I[k2]).2.2]) := by
            show _ = _
            rw [List.take_succ_eq_append_getElem hlt2, flatI, List.flatMap_append]; simp [flatI]
          have hfl : Hid ((flatI (a.I.take k2)).length ≤ 2000) := by show _ ≤ _; rw [flat_len, List.length_take]; omega
          clear hcx hU
          rw [hge] at h1 hx
          obtain ⟨x, hxx⟩ : ∃ x, (a.I[k2]).1 = x := ⟨_, rfl⟩
          obtain ⟨y, hyy⟩ : ∃ y, (a.I[k2]).2.2 = y := ⟨_, rfl⟩
          rw [hxx, hyy] at HLf HT2
          rw [hxx] at h1 hx
          clear hxx hyy hge
          have HLc := left_at HR.out.1.pl (u64_small hx.1 hx.2)
          rw [HLf.1, HLf.2] at HLc
          have HLd : Hid (Calls Try.prog 21 #[qp F.Q, .int .u64 x] wr fun e w' => e = .returned (.tuple #[.int .i64 y, .bool true]) ∧ w' = wr) := HLc
          clear HLc HLf
          have hw2 : IntKind.i64.wrap x = x := by rw [IntKind.wrap_i64]; omega
          have HTb : Hid (TT w (wr.alloc (.cells #[.int .i64 x, .int .i64 y] 3)) F n a u3 (([] ++ [a.fT, (a.fF.length : Int), a.used, a.rsv] ++ a.fF) ++ wt a.W ++ [-2] ++ flatI (a.I.take k2))) := HR.out.1.later (below_alloc _ _)
          have HLb : Hid (B.IIn (wr.alloc (.cells #[.int .i64 x, .int .i64 y] 3)) (some ⟨wr.heap.size, 0, none⟩) 2 [x, y]) := B.lit_in wr [x, y] 2 rfl
          have hlen2 : Hid ((([] ++ [a.fT, (a.fF.length : Int), a.used, a.rsv] ++ a.fF) ++ wt a.W ++ [-2] ++ flatI (a.I.take k2)).length + 2 ≤ 10000) := by show _ ≤ _; rw [List.length_append]; have := hfl.out; simp only [List.length_append, List.length_cons, List.length_nil] at *; omega
          go_wp2_with (first
            | (go_at_call 21; refine HLd.out.mono ?_; rintro e w' ⟨rfl, rfl⟩)
            | (at_builtin; refine wpList_append_i _ rfl (.tmp 73) (.tmp 80) rfl w.heap.size u3 (([] ++ [a.fT, (a.fF.length : Int), a.used, a.rsv] ++ a.fF) ++ wt a.W ++ [-2] ++ flatI (a.I.take k2)) rfl HTb.out.own (some ⟨_, 0, none⟩) 2 2 [x, y] rfl HLb.out (by simp) (by omega) hlen2.out HTb.out.below.size ?_; intro v6 wc ho hk; have HC : Hid (TT w wc F n a v6 (([] ++ [a.fT, (a.fF.length : Int), a.used, a.rsv] ++ a.fF) ++ wt a.W ++ [-2] ++ flatI (a.I.take k2) ++ [x, y]) ∧ Row wc (.slice (some ⟨b', o', none⟩) a.I.length ci) (it a.I)) := ⟨HTb.out.app ho hk HG.out, HTb.out.row (HR.out.2.later (below_alloc _ _)) hk⟩; clear ho hk))
          go_roundw
          case rel => exact ⟨k2 + 1, by omega, by go_num, by rw [HT2.out, ← List.append_assoc]; exact HC.out.1, HC.out.2⟩
          case measure => simp [intOf]; omega
        · have HT2 : Hid (a.told = ([] ++ [a.fT, (a.fF.length : Int), a.used, a.rsv] ++ a.fF) ++ wt a.W ++ [-2] ++ flatI (a.I.take k2)) := by
            show _ = _
            rw [HTd.out, List.take_of_length_le (by omega)]
          have HF2 : Hid (TT w wr F n a u3 a.told) := by rw [HT2.out]; exact HR.out.1
          go_wp2
          go_ret
          obtain ⟨q', d', e1, hm⟩ := B.made_of HF2.out.own HF2.out.below
          exact ⟨q', d', by rw [← e1]; rfl, hm⟩
theorem told_at (h : PL w F n a) (hN : a.next ≤ 1000) (hG : ∀ g, F.G g → g < w.heap.size) : Calls Try.prog 23 #[qp F.Q] w fun e w' => ∃ q d, e = .returned (.slice q a.told.length d) ∧ B.Made w w' q a.told.length d a.told := by
  cases hW : a.isW with
  | true => exact told_true h hN hG hW
  | false => exact told_false h hN hG hW
end
end Go.Proofs.Ytnbegddpgmejnaa
