/-
  Layer 12: Copy.
-/
import Derived.Test.YtjkmeljefbpbgaaLb
namespace Go.Proofs.Ytjkmeljefbpbgaa
open Go.RowKit


def Try.cloneM_ren : Go.Shelf.Ren := ⟨fun | 5 => 21 | 7 => 32 | n => n, fun | 23 => 54 | 25 => 30 | 3 => 3 | 4 => 4 | 20 => 20 | n => n, fun | n => n⟩
theorem Try.cloneM : Go.Proofs.SlLaysW.n5 Try.prog Try.cloneM_ren := {
  mixed := by kernel_rfl
  f5 := ⟨Try.f21.name, by decide, Try.func21.trans (congrArg some (by kernel_rfl))⟩
  f7 := Try.func32.trans (congrArg some (by kernel_rfl))
  t4 := Try.underlying4
  a4 := Try.isAgg4
  z4 := Try.sizeOf4
  v4 := Try.zeroValue4
  t20 := Try.underlying20
  a20 := Try.isAgg20
  z20 := Try.sizeOf20
  v20 := Try.zeroValue20
  t23 := Try.underlying54
  a23 := Try.isAgg54
  z23 := Try.sizeOf54
  v23 := Try.zeroValue54 }
section
variable {w w' : World} {Q b n : Nat} {s : Lg}
theorem clone_at {L : List (Int × Int)} (h : Mp w b n L) : Calls Try.prog 21 #[.map (some b)] w fun e w' => e = .returned (.map (some w.heap.size)) ∧ Mp w' w.heap.size n L ∧ Below w.heap.size w w' := by
  obtain ⟨D, ho, hD⟩ := h
  have hcon := Go.Proofs.AnyW.maps_Clone_owns Try.cloneM 30 _ b n D w ho
  change Calls Try.prog 21 _ _ _ at hcon
  exact hcon.mono fun e w' ⟨h1, h2, _, h4⟩ => ⟨h1, ⟨D, h2, hD⟩, h4⟩
set_option maxHeartbeats 1000000 in
set_option maxRecDepth 100000 in
theorem copy_at (h : LAt w Q b n s) :
    Calls Try.prog 17 #[lp Q] w fun e w' => e = .returned (lp w.heap.size) ∧ LAt w' w.heap.size (w.heap.size + 1) n s ∧ Below w.heap.size w w' := by
  have H : Hid (LAt w Q b n s) := h
  have c0 := h.c0
  have c1 := h.c1
  have c2 := h.c2
  have c3 := h.c3
  have c4 := h.c4
  clear h
  have HB : Hid (Below w.heap.size w (w.alloc (.cells #[.int .i64 s.cap, .int .i64 s.mark, .int .i64 s.used, .map (some b), .int .i64 (total s.L)] 56)) ∧ (w.alloc (.cells #[.int .i64 s.cap, .int .i64 s.mark, .int .i64 s.used, .map (some b), .int .i64 (total s.L)] 56)).heap[w.heap.size]? = some (.cells #[.int .i64 s.cap, .int .i64 s.mark, .int .i64 s.used, .map (some b), .int .i64 (total s.L)] 56 (0, 0))) := ⟨below_alloc w _, heap_alloc_new w _⟩
  have hsz : Hid ((w.alloc (.cells #[.int .i64 s.cap, .int .i64 s.mark, .int .i64 s.used, .map (some b), .int .i64 (total s.L)] 56)).heap.size = w.heap.size + 1) := by show _ = _; simp
  have d3 : (w.alloc (.cells #[.int .i64 s.cap, .int .i64 s.mark, .int .i64 s.used, .map (some b), .int .i64 (total s.L)] 56)).cell? ⟨Q, 3, none⟩ = some (.map (some b)) := (HB.out.1.cell (p := ⟨Q, 3, none⟩) H.out.lt).trans c3
  go_enter Try.func17, Try.ntmps17
  go_wp2_with fail
  clear c0 c1 c2 c3 c4 d3
  generalize w.alloc (.cells #[.int .i64 s.cap, .int .i64 s.mark, .int .i64 s.used, .map (some b), .int .i64 (total s.L)] 56) = w1 at *
  have M1 : Hid (Mp w1 b n s.L) := H.out.mp.kept (HB.out.1.block b H.out.mp.lt)
  refine (clone_at M1.out).mono ?_
  rintro e w2 ⟨rfl, h2, b2⟩
  rw [hsz.out] at h2 ⊢
  have H2 : Hid (Mp w2 (w.heap.size + 1) n s.L ∧ Below w1.heap.size w1 w2) := ⟨h2, b2⟩
  have hs2 : Hid (w2.heap[w.heap.size]? = some (.cells #[.int .i64 s.cap, .int .i64 s.mark, .int .i64 s.used, .map (some b), .int .i64 (total s.L)] 56 (0, 0))) := (b2.block _ (by rw [hsz.out]; omega)).trans HB.out.2
  obtain ⟨_, _, _, e3, _, ef⟩ := five hs2.out
  have e3f := ef 3
  clear h2 b2 ef
  go_wp2
  go_ret
  refine ⟨rfl, ⟨?_, H2.out.1.kept ((Kept.setCell w.heap.size 3 _).block _ H2.out.1.lt (by omega))⟩, ?_⟩
  · rw [st_set 3 _ hs2.out]
    rfl
  · exact ((Kept.of_below (· = w.heap.size) (below_then HB.out.1 H2.out.2)).trans (Kept.setCell w.heap.size 3 _) fun x _ e => e).below fun b hb e => by omega
end
end Go.Proofs.Ytjkmeljefbpbgaa
