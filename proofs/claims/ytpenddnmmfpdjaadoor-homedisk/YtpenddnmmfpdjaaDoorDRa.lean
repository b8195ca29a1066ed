/-
  Layer 4: how the document's own disk lies; its Len, New, Load.
-/
import Derived.Test.YtpenddnmmfpdjaaDoorDLg
namespace Go.Proofs.YtpenddnmmfpdjaaDoor
open Go.RowKit
/-- the cells of the document's waiting writes -/
def RC (ws : List Wr) (vs : List Value) : List Value := (List.zipWith (fun (x : Wr) u => [Value.int .i64 (x.s : Int), u]) ws vs).flatten
/-- **a disk of the document**: its block p, its durable bytes in block g, its writes v, their bytes vs -/
structure RD (w : World) (S : Nat → Prop) (p n : Nat) (d : List Int) (ws : List Wr) (g L cap : Nat) (v : Value) (vs : List Value) : Prop where
  str : w.heap[p]? = some (.cells #[.slice (some ⟨g, 0, none⟩) L cap, v] 112 (0, 0))
  dur : w.ownsRow 0 5 1 (.slice (some ⟨g, 0, none⟩) L cap) L (U8 d)
  wr : w.ownsRow 0 113 2 v ws.length (RC ws vs)
  len : vs.length = ws.length
  dat : ∀ i (h : i < ws.length) (h2 : i < vs.length), w.ownsRow 0 5 1 vs[i] 64 (U8 ws[i].b)
  ne : ∀ i (h2 : i < vs.length), vs[i].ownBlock ≠ some g
  sp : S p
  sg : S g
  sv : ∀ k, v.ownBlock = some k → S k
  sd : ∀ i (h2 : i < vs.length) k, vs[i].ownBlock = some k → S k
  hL : L = 64 * n
  n1 : 1 ≤ n
  n2 : n ≤ 4096
  dl : d.length = 64 * n
  db : Bytes d
  fit : Fit n ws
def Ref (w : World) (S : Nat → Prop) (p n : Nat) (d : List Int) (ws : List Wr) : Prop := ∃ g L cap v vs, RD w S p n d ws g L cap v vs
theorem RD.blk {w : World} {S : Nat → Prop} {p n : Nat} {d : List Int} {ws : List Wr} {g L cap : Nat} {v : Value} {vs : List Value} (h : RD w S p n d ws g L cap v vs) : Blk w p 112 2 := ⟨_, h.str, rfl⟩
theorem RD.cell0 {w : World} {S : Nat → Prop} {p n : Nat} {d : List Int} {ws : List Wr} {g L cap : Nat} {v : Value} {vs : List Value} (h : RD w S p n d ws g L cap v vs) : w.cell? ⟨p, 0, none⟩ = some (.slice (some ⟨g, 0, none⟩) L cap) := by
  rw [cell_of_row w p 0 _ 112 (0, 0) h.str]; rfl
theorem RD.cell1 {w : World} {S : Nat → Prop} {p n : Nat} {d : List Int} {ws : List Wr} {g L cap : Nat} {v : Value} {vs : List Value} (h : RD w S p n d ws g L cap v vs) : w.cell? ⟨p, 1, none⟩ = some v := by
  rw [cell_of_row w p 1 _ 112 (0, 0) h.str]; rfl
theorem RD.free {w : World} {S : Nat → Prop} {p n : Nat} {d : List Int} {ws : List Wr} {g L cap : Nat} {v : Value} {vs : List Value} (h : RD w S p n d ws g L cap v vs) (j : Nat) : w.frozen? ⟨p, j, none⟩ = false := frozen_of_row w p j _ 112 h.str
theorem RD.same {w w' : World} {S T : Nat → Prop} {p n : Nat} {d : List Int} {ws : List Wr} {g L cap : Nat} {v : Value} {vs : List Value} (h : RD w S p n d ws g L cap v vs) (hs : ∀ k, k < w.heap.size → S k → T k) (e : ∀ k, k < w.heap.size → S k → w'.heap[k]? = w.heap[k]?) : RD w' T p n d ws g L cap v vs :=
  have hp := h.blk.lt
  have hg := (own_blk h.dur).1.lt
  have hv : ∀ k, v.ownBlock = some k → k < w.heap.size := fun _ hk => (own_ownBlk h.wr hk).elim fun _ hb => hb.lt
  have hd : ∀ i (h2 : i < vs.length) k, vs[i].ownBlock = some k → k < w.heap.size := fun i h2 _ hk => (own_ownBlk (h.dat i (by have := h.len; omega) h2) hk).elim fun _ hb => hb.lt
  ⟨(e p hp h.sp).trans h.str, own_same h.dur (fun k hk => by simp only [Value.ownBlock, Option.some.injEq] at hk; subst hk; exact e _ hg h.sg), own_same h.wr (fun k hk => e k (hv k hk) (h.sv k hk)), h.len, fun i h1 h2 => own_same (h.dat i h1 h2) (fun k hk => e k (hd i h2 k hk) (h.sd i h2 k hk)), h.ne, hs p hp h.sp, hs g hg h.sg, fun k hk => hs k (hv k hk) (h.sv k hk), fun i h2 k hk => hs k (hd i h2 k hk) (h.sd i h2 k hk), h.hL, h.n1, h.n2, h.dl, h.db, h.fit⟩
theorem RD.later {w w' : World} {S : Nat → Prop} {p n : Nat} {d : List Int} {ws : List Wr} {g L cap : Nat} {v : Value} {vs : List Value} (h : RD w S p n d ws g L cap v vs) (hb : Below w.heap.size w w') : RD w' S p n d ws g L cap v vs :=
  h.same (fun _ _ => id) (fun k' hk' _ => hb.block k' hk')
theorem Ref.later {w w' : World} {S : Nat → Prop} {p n : Nat} {d : List Int} {ws : List Wr} (h : Ref w S p n d ws) (hb : Below w.heap.size w w') : Ref w' S p n d ws := by
  obtain ⟨g, L, cap, v, vs, h⟩ := h; exact ⟨g, L, cap, v, vs, h.later hb⟩
theorem Ref.kept {w w' : World} {S T : Nat → Prop} {p n : Nat} {d : List Int} {ws : List Wr} (h : Ref w S p n d ws) (hk : Kept T w w') (hd : ∀ k, S k → T k → False) : Ref w' S p n d ws := by
  obtain ⟨g, L, cap, v, vs, h⟩ := h; exact ⟨g, L, cap, v, vs, h.same (fun _ _ => id) (fun k hk' hs => hk.block k hk' (fun t => hd k hs t))⟩
theorem Ref.mono {w : World} {S T : Nat → Prop} {p n : Nat} {d : List Int} {ws : List Wr} (h : Ref w S p n d ws) (hs : ∀ k, k < w.heap.size → S k → T k) : Ref w T p n d ws := by
  obtain ⟨g, L, cap, v, vs, h⟩ := h; exact ⟨g, L, cap, v, vs, h.same hs (fun _ _ _ => rfl)⟩
/-- a new one out of its bytes -/
theorem ref_fin {w w1 : World} {g L cap n : Nat} {d : List Int} (hb : Below w.heap.size w w1) (hd : w1.ownsRow w.heap.size 5 1 (.slice (some ⟨g, 0, none⟩) L cap) L (U8 d)) (hL : L = 64 * n) (hn1 : 1 ≤ n) (hn2 : n ≤ 4096) (hy : Bytes d) :
    Ref (w1.alloc (.cells #[.slice (some ⟨g, 0, none⟩) L cap, .slice none 0 0] 112)) (fun k => w.heap.size ≤ k) w1.heap.size n d [] ∧ Below w.heap.size w (w1.alloc (.cells #[.slice (some ⟨g, 0, none⟩) L cap, .slice none 0 0] 112)) := by
  have hl : d.length = 64 * n := by have := hd.1; rw [U8_length] at this; omega
  refine ⟨⟨g, L, cap, .slice none 0 0, [], heap_alloc_new _ _, own_mono (hd.alloc _) (Nat.zero_le _), World.ownsRow_nil _ _ _ _, rfl, fun i h => by simp at h, fun i h => by simp at h, hb.size, (own_blk hd).2.2.2, fun k hk => by simp [Value.ownBlock] at hk, fun i h => by simp at h, hL, hn1, hn2, hl, hy, Fit.nil _⟩, hb.alloc hb.size _⟩
set_option maxHeartbeats 400000 in
set_option maxRecDepth 100000 in
theorem rlen_any {w : World} {S : Nat → Prop} {p n : Nat} {d : List Int} {ws : List Wr} (h : Ref w S p n d ws) : Calls Tryd.prog 70 #[.pointer (some ⟨p, 0, none⟩)] w fun e w' => e = .returned (.int .i64 n) ∧ w = w' := by
  obtain ⟨g, L, cap, v, vs, h⟩ := h
  have h0 := h.cell0
  have e1 : (L : Int) / 64 = (n : Int) := by have := h.hL; omega
  have hn2 := h.n2
  have hw : Go.RowKit.wrap64 (n : Int) = (n : Int) := by have := IntKind.wrap_i64 (n : Int); unfold Go.RowKit.wrap64; omega
  clear h
  go_enter Tryd.func70, Tryd.ntmps70
  go_wp2
  go_ret
  exact ⟨rfl, rfl⟩
set_option maxHeartbeats 1000000 in
set_option maxRecDepth 100000 in
theorem rload_bad (a : Option Addr) (m c : Nat) (w : World) (h : m = 0 ∨ ¬ m % 64 = 0 ∨ 262144 < m) (hm : m ≤ 140737488355328) : Calls Tryd.prog 50 #[.slice a m c] w fun e w' => e = .returned (.tuple #[.pointer none, .int .i64 2]) ∧ w = w' := by
  by_cases h0 : m = 0
  · subst h0
    go_enter Tryd.func50, Tryd.ntmps50
    go_wp2
    go_ret2
    exact ⟨rfl, rfl⟩
  · have e0 : ((m : Int) == 0) = false := by rw [beq_eq_false_iff_ne]; omega
    by_cases hr : m % 64 = 0
    · have e1 : ((m : Int) % 64 != 0) = false := by rw [show (m : Int) % 64 = 0 by omega]; rfl
      have e2 : (262144 : Int) < (m : Int) := by omega
      clear h h0
      go_enter Tryd.func50, Tryd.ntmps50
      go_wp2
      go_ret2
      exact ⟨rfl, rfl⟩
    · have e1 : ((m : Int) % 64 != 0) = true := by rw [bne_iff_ne]; omega
      clear h h0
      go_enter Tryd.func50, Tryd.ntmps50
      go_wp2
      go_ret2
      exact ⟨rfl, rfl⟩
set_option maxHeartbeats 1000000 in
set_option maxRecDepth 100000 in
theorem rload_good (g o m c n : Nat) (xs : List Int) (w : World) (h : BIn w (some ⟨g, o, none⟩) m xs) (hm : m = 64 * n) (hn1 : 1 ≤ n) (hn2 : n ≤ 4096) :
    Calls Tryd.prog 50 #[.slice (some ⟨g, o, none⟩) m c] w fun e w' => ∃ p, e = .returned (.tuple #[.pointer (some ⟨p, 0, none⟩), .int .i64 0]) ∧ Ref w' (fun k => w.heap.size ≤ k) p n xs [] ∧ Below w.heap.size w w' := by
  obtain ⟨i0, hi, hz0, hz1, hz2⟩ := info_parts info5
  have e0 : ((m : Int) == 0) = false := by rw [beq_eq_false_iff_ne]; omega
  have e1 : ((m : Int) % 64 != 0) = false := by rw [show (m : Int) % 64 = 0 by omega]; rfl
  have e2 : ¬ (262144 : Int) < (m : Int) := by omega
  have HH : Hid (BIn w (some ⟨g, o, none⟩) m xs) := h
  have HM : Hid (m = 64 * n) := hm
  have HN : Hid (∀ j u, (U8 xs)[j]? = some u → (w.alloc (.cells #[] 5)).cell? ((⟨g, o, none⟩ : Addr).add j) = some u) := (HH.out.later (below_alloc w _)).news
  have hm1 : 0 < m := by omega
  have hm2 : m ≤ 262144 := by omega
  clear h hm
  go_enter Tryd.func50, Tryd.ntmps50
  go_wp2_with (at_builtin; refine wpList_append_lies _ rfl (.tmp 18) (.tmp 19) 24 rfl w.heap.size 5 i0 (.int .u8 0) 1 1 Tryd.underlying24 hi hz0 hz1 hz2 rfl (by omega) _ 0 [] rfl (World.ownsRow_made w #[] 0 (Nat.le_refl _) (Nat.zero_le _) rfl) ⟨g, o, none⟩ m c (U8 xs) rfl (by rw [U8_length, HH.out.len, Nat.mul_one]) HN.out (ones_u8 _) hm1 (by unfold maxLen; omega) (by omega) (by simp) _ rfl ?_)
  intro g1 c1 w1 hown hgrow hat hlt
  try simp only [Nat.zero_add, List.nil_append] at hown ⊢
  have hb : Below w.heap.size w w1 := ((Below.refl _ w).alloc (Nat.le_refl _) _).grown hgrow (by simp) (by intro k hk; simp [Value.ownBlock] at hk; omega)
  have HF : Hid (Ref (w1.alloc (.cells #[.slice (some ⟨g1, 0, none⟩) m c1, .slice none 0 0] 112)) (fun k => w.heap.size ≤ k) w1.heap.size n xs [] ∧ Below w.heap.size w (w1.alloc (.cells #[.slice (some ⟨g1, 0, none⟩) m c1, .slice none 0 0] 112))) := ref_fin hb hown HM.out hn1 hn2 HH.out.byte
  clear hown hgrow hat hlt hb
  go_wp2
  go_ret2
  exact ⟨_, rfl, HF.out.1, HF.out.2⟩
end Go.Proofs.YtpenddnmmfpdjaaDoor
