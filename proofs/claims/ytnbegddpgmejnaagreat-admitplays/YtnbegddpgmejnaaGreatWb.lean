/-
  Layer 13: the calls of a line and of the document's, with all that stands beside them.
-/
import Derived.Test.YtnbegddpgmejnaaGreatWa
import Derived.Test.YtnbegddpgmejnaaGreatAx
import Derived.Test.YtnbegddpgmejnaaGreatRc
import Derived.Test.YtnbegddpgmejnaaGreatRg
import Derived.Test.YtnbegddpgmejnaaGreatRh
import Derived.Test.YtnbegddpgmejnaaGreatAj
namespace Go.Proofs.YtnbegddpgmejnaaGreat
open Go.RowKit

variable {w0 w w' : World} {P : Nat} {q : Nat → Nat} {S D : Nat → Ad} {X : Nat → Th} {N a b j k : Nat}

theorem St.line (h : St w0 w P q S D X N a b) (hj : j < 2) : ∃ T G F n, PS w0 w P T G ∧ Sh T q S D X N a b ∧ T j = .led F n (S j) ∧ F.Q = q j ∧ n ≤ N ∧ PL w F n (S j) ∧ ∀ g, F.G g → G g := by
  obtain ⟨T, G, h, hs⟩ := h
  obtain ⟨F, n, e1, e2, e3⟩ := hs.led j hj
  have h4 := h.fam.at' j (by omega)
  rw [e1] at h4
  exact ⟨T, G, F, n, h, hs, e1, e2, e3, h4.1, h4.2⟩
theorem St.doc (h : St w0 w P q S D X N a b) (hj : j < 2) : ∃ T G vW vI ws is, PS w0 w P T G ∧ Sh T q S D X N a b ∧ RL w G (q (j + 2)) vW vI (D j) ws is ∧ (D j).Ok ∧ ¬ G (q (j + 2)) := by
  obtain ⟨T, G, h, hs⟩ := h
  have e1 := hs.ref j hj
  have h4 := h.fam.at' (j + 2) (by omega)
  rw [e1] at h4
  obtain ⟨⟨vW, vI, ws, is, h5⟩, ok⟩ := h4
  refine ⟨T, G, vW, vI, ws, is, h, hs, h5, ok, fun hg => h.fam.im (j + 2) (by omega) (q (j + 2)) (by rw [e1]; rfl) hg⟩
theorem St.ok (h : St w0 w P q S D X N a b) (hj : j < 2) : (S j).Ok := by
  obtain ⟨T, G, F, n, _, _, _, _, _, h, _⟩ := h.line hj
  exact h.ok
theorem St.dok (h : St w0 w P q S D X N a b) (hj : j < 2) : (D j).Ok := by
  obtain ⟨T, G, vW, vI, ws, is, _, _, _, h, _⟩ := h.doc hj
  exact h
/-- the cells of the world -/
theorem St.cells (h : St w0 w P q S D X N a b) (hj : j < 2) : w.cell? ⟨P, j, none⟩ = some (qp (q j)) ∧ w.cell? ⟨P, 2 + j, none⟩ = some (qp (q (j + 2))) := by
  obtain ⟨T, G, h, hs⟩ := h
  obtain ⟨F, n, e1, e2, e3⟩ := hs.led j hj
  have h1 := h.cl (j := j) (by omega)
  have h2 := h.cl (j := j + 2) (by omega)
  rw [e1] at h1
  rw [hs.ref j hj] at h2
  refine ⟨by rw [← e2]; exact h1, by rw [Nat.add_comm]; exact h2⟩
/-- a loose thing -/
theorem St.at (h : St w0 w P q S D X N a b) (hk : k < 6) : ∃ G, (X k).at w G := by
  obtain ⟨T, G, h, hs⟩ := h
  have := h.fam.at' (8 + k) (by omega)
  rw [hs.x k hk] at this
  exact ⟨G, this⟩
theorem St.frm {u : Value} {f : List Int} (h : St w0 w P q S D X N a b) (hk : k < 6) (e : X k = .lf u f) : Frm w u f := by
  obtain ⟨G, h⟩ := h.at hk
  rw [e] at h
  exact h
theorem St.immF {u : Value} {f : List Int} (h : St w0 w P q S D X N a b) (hk : k < 6) (e : X k = .im u f) : Frm w u f := by
  obtain ⟨G, h⟩ := h.at hk
  rw [e] at h
  exact h.1
theorem St.lu {u : Value} {l : List Int} (h : St w0 w P q S D X N a b) (hk : k < 6) (e : X k = .lu u l) : w.ownsRow 0 44 1 u l.length (V64 l) := by
  obtain ⟨G, h⟩ := h.at hk
  rw [e] at h
  exact h
theorem St.box {B : Nat} {cs : Array Value} (h : St w0 w P q S D X N a b) (hk : k < 6) (e : X k = .box B cs) : w.heap[B]? = some (.cells cs 46 (0, 0)) := by
  obtain ⟨G, h⟩ := h.at hk
  rw [e] at h
  exact h
theorem St.drop (h : St w0 w P q S D X N a b) (hk : k < 6) : St w0 w P q S D (put X k .no) N a b := by
  obtain ⟨T, G, h, hs⟩ := h
  exact ⟨_, G, h.drop (k := 8 + k) (by omega), hs.loose hk⟩
/-- something made just now -/
theorem St.fresh {u : Th} (h : St w0 w P q S D X N a b) (hb : Below w.heap.size w w') (hk : k < 6) (hu : ∀ G, u.at w' G) (hf : ∀ b, u.foot b → w.heap.size ≤ b) : St w0 w' P q S D (put X k u) N a b := by
  obtain ⟨T, G, h, hs⟩ := h
  exact ⟨_, G, (h.later hb).fresh h (k := 8 + k) (by omega) (hu G) hf, hs.loose hk⟩
theorem own_zero {base : Nat} {e : TypeId} {size : Nat} {v : Value} {n : Nat} {xs : List Value} (h : w.ownsRow base e size v n xs) : w.ownsRow 0 e size v n xs := own_base h fun _ _ => Nat.zero_le _
theorem s_first (h : St w0 w P q S D X N a b) (hj : j < 2) (hk : k < 6) (hN : (S j).next ≤ 1000) : Calls Tryz.prog 36 #[qp (q j)] w fun e w' => ∃ p c, e = .returned (.tuple #[.int .u64 (S j).fT, .slice p (S j).fF.length c, .bool (S j).isW]) ∧ St w0 w' P q S D (put X k (.lf (.slice p (S j).fF.length c) (S j).fF)) N a b := by
  obtain ⟨T, G, F, n, hp, hs, e1, e2, e3, hl, hG⟩ := h.line hj
  rw [← e2]
  refine (First_at hl hN).mono ?_
  rintro e w' ⟨p, c, rfl, hm⟩
  exact ⟨p, c, rfl, h.fresh hm.below hk (fun _ => own_zero hm.own) (fun b hb => (hm.own.lt b hb).1)⟩
theorem s_waiting (h : St w0 w P q S D X N a b) (hj : j < 2) (hk : k < 6) (hN : (S j).next ≤ 1000) : Calls Tryz.prog 42 #[qp (q j)] w fun e w' => ∃ p c, e = .returned (.slice p (wt (S j).W).length c) ∧ St w0 w' P q S D (put X k (.lu (.slice p (wt (S j).W).length c) (wt (S j).W))) N a b := by
  obtain ⟨T, G, F, n, hp, hs, e1, e2, e3, hl, hG⟩ := h.line hj
  rw [← e2]
  refine (waiting_at hl hN).mono ?_
  rintro e w' ⟨v, rfl, hm⟩
  obtain ⟨p, c, rfl⟩ := own_shape hm.own
  exact ⟨p, c, rfl, h.fresh hm.below hk (fun _ => own_zero hm.own) (fun b hb => (hm.own.lt b hb).1)⟩
theorem s_in (h : St w0 w P q S D X N a b) (hj : j < 2) (hk : k < 6) (hN : (S j).next ≤ 1000) : Calls Tryz.prog 43 #[qp (q j)] w fun e w' => ∃ p c, e = .returned (.slice p (it (S j).I).length c) ∧ St w0 w' P q S D (put X k (.lu (.slice p (it (S j).I).length c) (it (S j).I))) N a b := by
  obtain ⟨T, G, F, n, hp, hs, e1, e2, e3, hl, hG⟩ := h.line hj
  rw [← e2]
  refine (in_at hl hN).mono ?_
  rintro e w' ⟨v, rfl, hm⟩
  obtain ⟨p, c, rfl⟩ := own_shape hm.own
  exact ⟨p, c, rfl, h.fresh hm.below hk (fun _ => own_zero hm.own) (fun b hb => (hm.own.lt b hb).1)⟩
theorem s_fits (h : St w0 w P q S D X N a b) (hj : j < 2) (hN : (S j).next ≤ 1000) : Calls Tryz.prog 14 #[qp (q j)] w fun e w' => e = .returned (.bool (S j).fits) ∧ Below w.heap.size w w' := by
  obtain ⟨T, G, F, n, hp, hs, e1, e2, e3, hl, hG⟩ := h.line hj
  rw [← e2]
  exact fits_at hl hN
theorem s_left (h : St w0 w P q S D X N a b) (hj : j < 2) {t : Int} (ht : L.U64 t) : Calls Tryz.prog 16 #[qp (q j), .int .u64 t] w fun e w' => e = .returned (.tuple #[.int .i64 ((S j).leftN t), .bool ((S j).leftB t)]) ∧ w' = w := by
  obtain ⟨T, G, F, n, hp, hs, e1, e2, e3, hl, hG⟩ := h.line hj
  rw [← e2]
  exact left_at hl ht
theorem s_used (h : St w0 w P q S D X N a b) (hj : j < 2) : Calls Tryz.prog 20 #[qp (q j)] w fun e w' => e = .returned (.int .i64 (S j).used) ∧ w' = w := by
  obtain ⟨T, G, F, n, hp, hs, e1, e2, e3, hl, hG⟩ := h.line hj
  rw [← e2]
  exact used_at hl
theorem s_reserved (h : St w0 w P q S D X N a b) (hj : j < 2) : Calls Tryz.prog 18 #[qp (q j)] w fun e w' => e = .returned (.int .i64 (S j).rsv) ∧ w' = w := by
  obtain ⟨T, G, F, n, hp, hs, e1, e2, e3, hl, hG⟩ := h.line hj
  rw [← e2]
  exact reserved_at hl
theorem d_left (h : St w0 w P q S D X N a b) (hj : j < 2) (hN : (D j).next ≤ 1000) (t : Int) : Calls Tryz.prog 37 #[qp (q (j + 2)), .int .u64 t] w fun e w' => e = .returned (.tuple #[.int .i64 ((D j).leftN t), .bool ((D j).leftB t)]) ∧ w' = w := by
  obtain ⟨T, G, vW, vI, ws, is, hp, hs, hr, ok, hg⟩ := h.doc hj
  exact rleft_at hr ok hN t
theorem d_fits (h : St w0 w P q S D X N a b) (hj : j < 2) (hN : (D j).next ≤ 1000) : Calls Tryz.prog 38 #[qp (q (j + 2))] w fun e w' => e = .returned (.bool (D j).fits) ∧ Below w.heap.size w w' := by
  obtain ⟨T, G, vW, vI, ws, is, hp, hs, hr, ok, hg⟩ := h.doc hj
  refine (rfits_at hr ok hN).mono ?_
  rintro e w' ⟨rfl, m, rfl⟩
  exact ⟨rfl, below_drawn m⟩
theorem d_reserved (h : St w0 w P q S D X N a b) (hj : j < 2) (hN : (D j).next ≤ 1000) : Calls Tryz.prog 39 #[qp (q (j + 2))] w fun e w' => e = .returned (.int .i64 (D j).rsv) ∧ Below w.heap.size w w' := by
  obtain ⟨T, G, vW, vI, ws, is, hp, hs, hr, ok, hg⟩ := h.doc hj
  refine (rreserved_at hr ok hN).mono ?_
  rintro e w' ⟨rfl, m, rfl⟩
  exact ⟨rfl, below_drawn m⟩
/-- what the world reads of the document's line -/
theorem d_cells (h : St w0 w P q S D X N a b) (hj : j < 2) : ∃ pw pi cw ci, w.cell? ⟨q (j + 2), 6, none⟩ = some (.slice pw (D j).W.length cw) ∧ w.cell? ⟨q (j + 2), 7, none⟩ = some (.slice pi (D j).I.length ci) ∧ w.cell? ⟨q (j + 2), 8, none⟩ = some (.int .i64 (D j).used) ∧
    (∀ w', Below w.heap.size w w' → (D j).next ≤ 1000 → Calls Tryz.prog 40 #[.slice pw (D j).W.length cw] w' fun e w'' => ∃ u, e = .returned u ∧ MadeU w' w'' u (wt (D j).W)) ∧
    (∀ w', Below w.heap.size w w' → (D j).next ≤ 1000 → Calls Tryz.prog 40 #[.slice pi (D j).I.length ci] w' fun e w'' => ∃ u, e = .returned u ∧ MadeU w' w'' u (it (D j).I)) := by
  obtain ⟨T, G, vW, vI, ws, is, hp, hs, hr, ok, hg⟩ := h.doc hj
  obtain ⟨pw, cw, e1, -, -⟩ := own_form hr.wr
  obtain ⟨pi, ci, e2, -, -⟩ := own_form hr.ir
  have t1 : ws.map Who.t = wt (D j).W := by
    refine List.ext_getElem (by simp [wt, hr.wlen]) fun n h1 h2 => ?_
    have h3 : n < ws.length := by simpa using h1
    have h4 : n < (D j).W.length := by simpa [wt] using h2
    have := (hr.wm.get n (by simpa [wl] using h4) h3).t
    simpa [wl, wt] using this
  have t2 : is.map Who.t = it (D j).I := by
    refine List.ext_getElem (by simp [it, hr.ilen]) fun n h1 h2 => ?_
    have h3 : n < is.length := by simpa using h1
    have h4 : n < (D j).I.length := by simpa [it] using h2
    have := (hr.im.get n h4 h3).t
    simpa [it] using this
  refine ⟨pw, pi, cw, ci, ?_, ?_, hr.c 8, fun w' hb hN => ?_, fun w' hb hN => ?_⟩
  · rw [← hr.wlen, ← e1]; exact hr.c 6
  · rw [← hr.ilen, ← e2]; exact hr.c 7
  · rw [← hr.wlen, ← e1, ← t1]
    exact tickets_is vW ws (hr.later hb).wr (by have := hr.wlen; have := ok.wlen; omega)
  · rw [← hr.ilen, ← e2, ← t2]
    exact tickets_is vI is (hr.later hb).ir (by have := hr.ilen; have := ok.ilen; omega)
/-- the first one that waits, as the document has it: its form stays -/
theorem d_first (h : St w0 w P q S D X N a b) (hj : j < 2) (hk : k < 6) {x : Int × List Int} {r : List (Int × List Int)} (hW : (D j).W = x :: r) : ∃ g c yp yc, w.cell? ⟨q (j + 2), 6, none⟩ = some (.slice (some ⟨g, 0, none⟩) (D j).W.length c) ∧ w.cell? ⟨g, 0, none⟩ = some (.int .u64 x.1) ∧ w.cell? ⟨g, 1, none⟩ = some (.slice yp x.2.length yc) ∧ St w0 w P q S D (put X k (.im (.slice yp x.2.length yc) x.2)) N a b := by
  obtain ⟨T, G, vW, vI, ws, is, hp, hs, hr, ok, hg⟩ := h.doc hj
  obtain ⟨y, ys, g, c, -, ev, -, x0, x1, -, -, em, hm, -, -⟩ := hr.head hW
  have c6 : w.cell? ⟨q (j + 2), 6, none⟩ = some vW := hr.c 6
  rw [ev, hr.wlen] at c6
  refine ⟨g, c, y.p, y.c, c6, x0, by rw [← em]; exact x1, _, G, hp.add (k := 8 + k) (by omega) (u := .im (.slice y.p x.2.length y.c) x.2) ?_ (fun b hb => hb.elim), hs.loose hk⟩
  rw [← em]
  exact ⟨hm.f, hm.g⟩
/-- a line has turned -/
theorem St.turned {F F' : Ft} {n n' N' : Nat} {A : Ad} {T : Nat → Th} {G : Nat → Prop} (hp : PS w0 w P T G) (hs : Sh T q S D X N a b) (hj : j < 2) (e1 : T j = .led F n (S j)) (e2 : F.Q = q j) (hG : ∀ g, F.G g → G g) (hl : PL w' F' n' A) (hQ : F'.Q = F.Q) (hFG : F'.G = F.G) (hF : ∀ b, F'.has b → F.has b ∨ w.heap.size ≤ b) (hk : Kept F.has w w') (hn : n' ≤ N') (hN : N ≤ N') : PS w0 w' P (put T j (.led F' n' A)) G ∧ Sh (put T j (.led F' n' A)) q (put S j A) D X N' a b := by
  refine ⟨hp.turn (i := j) (t := .led F' n' A) (S := F.has) (by omega) (by rw [e1]; show qp F'.Q = qp F.Q; rw [hQ]) ⟨hl, by rw [hFG]; exact hG⟩ hk (fun b hb => by rw [e1]; exact hb) (fun b hb => by rw [e1]; exact hF b hb) (fun _ hg => hg) (fun _ hg => .inl hg), hs.line hj (hQ.trans e2) hn hN⟩
theorem s_append (h : St w0 w P q S D X N a b) (hj : j < 2) (hN : N < 10000) {t : Int} (ht : L.U64 t) : Calls Tryz.prog 19 #[qp (q j), .int .u64 t] w fun e w' => e = .returned (.int .i64 ((S j).appE t)) ∧ St w0 w' P q (put S j ((S j).appS t)) D X (N + 2) a b := by
  obtain ⟨T, G, F, n, hp, hs, e1, e2, e3, hl, hG⟩ := h.line hj
  rw [← e2]
  refine (append_at hl (by omega) ht).mono ?_
  rintro e w' ⟨rfl, hl', hk⟩
  exact ⟨rfl, _, G, St.turned hp hs hj e1 e2 hG hl' rfl rfl (fun b hb => .inl hb) hk (by omega) (by omega)⟩
theorem s_freed (h : St w0 w P q S D X N a b) (hj : j < 2) (m : Int) : Calls Tryz.prog 34 #[qp (q j), .int .i64 m] w fun e w' => e = .returned (.int .i64 ((S j).freE m)) ∧ St w0 w' P q (put S j ((S j).freS m)) D X (N + 2) a b := by
  obtain ⟨T, G, F, n, hp, hs, e1, e2, e3, hl, hG⟩ := h.line hj
  rw [← e2]
  refine (freed_at hl m).mono ?_
  rintro e w' ⟨rfl, hl', hk⟩
  exact ⟨rfl, _, G, St.turned hp hs hj e1 e2 hG hl' rfl rfl (fun b hb => .inl hb) hk (by omega) (by omega)⟩
theorem s_done (h : St w0 w P q S D X N a b) (hj : j < 2) (hN : N < 10000) (hx : (S j).next ≤ 1000) {t : Int} (ht : L.U64 t) : Calls Tryz.prog 21 #[qp (q j), .int .u64 t] w fun e w' => e = .returned (.int .i64 ((S j).donE t)) ∧ St w0 w' P q (put S j ((S j).donS t)) D X (N + 2) a b := by
  obtain ⟨T, G, F, n, hp, hs, e1, e2, e3, hl, hG⟩ := h.line hj
  rw [← e2]
  refine (done_at hl (by omega) hx ht).mono ?_
  rintro e w' ⟨rfl, v', hl', hv, hk⟩
  exact ⟨rfl, _, G, St.turned hp hs hj e1 e2 hG hl' rfl rfl (fun b hb => .inl ((Ft.has_v2 hv b).1 hb)) hk (by omega) (by omega)⟩
theorem s_leave (h : St w0 w P q S D X N a b) (hj : j < 2) (hN : N < 10000) (hx : (S j).next ≤ 1000) {t : Int} (ht : L.U64 t) : Calls Tryz.prog 32 #[qp (q j), .int .u64 t] w fun e w' => e = .returned (.int .i64 ((S j).leaE t)) ∧ St w0 w' P q (put S j ((S j).leaS t)) D X (N + 2) a b := by
  obtain ⟨T, G, F, n, hp, hs, e1, e2, e3, hl, hG⟩ := h.line hj
  rw [← e2]
  refine (leave_at1 hl (by omega) hx ht).mono ?_
  rintro e w' ⟨rfl, v', hl', hv, hk⟩
  exact ⟨rfl, _, G, St.turned hp hs hj e1 e2 hG hl' rfl rfl (fun b hb => .inl ((Ft.has_v2 hv b).1 hb)) hk (by omega) (by omega)⟩
theorem frm_kd {u : Value} {f : List Int} (h : Frm w u f) {g : Nat} (hg : u.ownBlock = some g) : kd w g = 3 := by
  obtain ⟨cur, hc⟩ := own_typ h hg
  exact kd_cells hc
theorem s_enter (h : St w0 w P q S D X N a b) (hj : j < 2) (hk : k < 6) (hN : N < 10000) (hx : (S j).next ≤ 1000) : Calls Tryz.prog 15 #[qp (q j)] w fun e w' => ∃ p c, e = .returned (.tuple #[.int .u64 (S j).entT, .slice p (S j).entF.length c, .int .i64 (S j).entE]) ∧ St w0 w' P q (put S j (S j).entS) D (put X k (.lf (.slice p (S j).entF.length c) (S j).entF)) (N + 2) a b := by
  obtain ⟨T, G, F, n, hp, hs, e1, e2, e3, hl, hG⟩ := h.line hj
  rw [← e2]
  refine (enter_at hl (by omega) hx).mono ?_
  rintro e w' ⟨p, c, v1', v2', rfl, ho, hl', hv1, hv2, hkp⟩
  have hps := St.turned (N' := N + 2) hp hs hj e1 e2 hG hl' rfl rfl (fun b hb => Ft.has_new (F := F) (G := F.G) (.inl hv1) hv2 b hb) hkp (by omega) (by omega)
  have hfr : Frm w' (.slice p (S j).entF.length c) (S j).entF := own_zero ho
  refine ⟨p, c, rfl, _, G, hps.1.add (k := 8 + k) (by omega) (u := .lf (.slice p (S j).entF.length c) (S j).entF) hfr (fun b hb => ?_), hps.2.loose hk⟩
  have hb2 := (ho.lt b hb).1
  refine ⟨Nat.le_trans hp.below.size hb2, fun hg => ?_, fun e => ?_, fun i hi _ hx => ?_⟩
  · have := hp.fam.glt b hg; omega
  · have := hp.plt; omega
  · by_cases e : i = j
    · subst e
      rw [put_same] at hx
      exact hl'.noInts (frm_kd hfr hb) hx
    · rw [put_other _ _ e] at hx
      have := Th.lt (hp.fam.at' i hi) hx
      omega
theorem s_begin (h : St w0 w P q S D X N a b) (hj : j < 2) (hk : k < 6) (hN : N < 10000) (hx : (S j).next ≤ 1000) {p : Option Addr} {m c : Nat} {xs : List Int} (hI : B.IIn w p m xs) (hm : m ≤ 1000) : Calls Tryz.prog 13 #[qp (q j), .slice p m c] w fun e w' => ∃ p' c', e = .returned (.tuple #[.int .u64 ((S j).begT xs), .slice p' ((S j).begF xs).length c', .int .i64 ((S j).begE xs)]) ∧ St w0 w' P q (put S j ((S j).begS xs)) D (put X k (.lf (.slice p' ((S j).begF xs).length c') ((S j).begF xs))) (N + 2) a b := by
  obtain ⟨T, G, F, n, hp, hs, e1, e2, e3, hl, hG⟩ := h.line hj
  rw [← e2]
  refine (begin2_at hl (by omega) hx hI hm).mono ?_
  rintro e w' ⟨p', c', v', fv, rfl, ⟨s, ho, hs1, hfv, hfs⟩, hl', hv, hkp⟩
  have hfr : Frm w' (.slice p' ((S j).begF xs).length c') ((S j).begF xs) := own_zero ho
  have hfoot : ∀ b, ({ F with v1 := v', G := fun b => F.G b ∨ blk fv = some b } : Ft).has b → F.has b ∨ w.heap.size ≤ b := fun b hb => Ft.has_new (F := F) (v1' := v') (v2' := F.v2) hv (.inl rfl) b hb
  have hps : PS w0 w' P (put T j (.led { F with v1 := v', G := fun b => F.G b ∨ blk fv = some b } (n + 1) ((S j).begS xs))) (fun g => G g ∨ blk fv = some g) :=
    hp.turn (i := j) (t := .led { F with v1 := v', G := fun b => F.G b ∨ blk fv = some b } (n + 1) ((S j).begS xs)) (S := F.has) (by omega) (by rw [e1]; rfl) ⟨hl', fun g hg => (by rcases hg with h | h; exact .inl (hG g h); exact .inr h)⟩ hkp (fun b hb => by rw [e1]; exact hb) (fun b hb => by rw [e1]; exact hfoot b hb) (fun _ hg => .inl hg) (fun g hg => by
      rcases hg with hg | hg
      · exact .inl hg
      · refine .inr ⟨(hfs g hg).1, hfv.lt hg, fun hh => hl'.noInts (frm_kd hfv (by rw [← blk_own]; exact hg)) hh⟩)
  refine ⟨p', c', rfl, _, _, hps.add (k := 8 + k) (by omega) (u := .lf (.slice p' ((S j).begF xs).length c') ((S j).begF xs)) hfr (fun b hb => ?_), (hs.line (F := { F with v1 := v', G := fun b => F.G b ∨ blk fv = some b }) (n := n + 1) (A := (S j).begS xs) (N' := N + 2) hj e2 (by omega) (by omega)).loose hk⟩
  have hb2 := (ho.lt b hb).1
  refine ⟨Nat.le_trans hp.below.size (Nat.le_trans hs1 hb2), fun hg => ?_, fun e => ?_, fun i hi _ hx => ?_⟩
  · rcases hg with hg | hg
    · have := hp.fam.glt b hg; omega
    · have := (hfs b hg).2; omega
  · have := hp.plt; omega
  · by_cases e : i = j
    · subst e
      rw [put_same] at hx
      exact hl'.noInts (frm_kd hfr hb) hx
    · rw [put_other _ _ e] at hx
      have := Th.lt (hp.fam.at' i hi) hx
      omega
/-- the document's line has turned -/
theorem St.docd {A : Ad} {T : Nat → Th} {G : Nat → Prop} (hp : PS w0 w P T G) (hs : Sh T q S D X N a b) (hj : j < 2) (h : RAf w w' G (q (j + 2)) A) (ok : A.Ok) : PS w0 w' P (put T (j + 2) (.ref (q (j + 2)) A)) (Gp w w' G) ∧ Sh (put T (j + 2) (.ref (q (j + 2)) A)) q S (put D j A) X N a b := by
  have e1 := hs.ref j hj
  have hlt : q (j + 2) < w.heap.size := Th.lt (hp.fam.at' (j + 2) (by omega)) (by rw [e1]; rfl)
  refine ⟨hp.turn (i := j + 2) (t := .ref (q (j + 2)) A) (S := (· = q (j + 2))) (by omega) (by rw [e1]; rfl) ⟨h.rl, ok⟩ h.kept (fun b hb => by rw [e1]; exact hb) (fun b hb => by rw [e1]; exact .inl hb) (fun _ hg => .inl hg) (fun g hg => ?_), hs.doc hj⟩
  rcases hg with hg | ⟨h1, h2⟩
  · exact .inl hg
  · exact .inr ⟨h1, h2, fun e => by have e' : g = q (j + 2) := e; omega⟩
theorem d_append (h : St w0 w P q S D X N a b) (hj : j < 2) (hN : (D j).next ≤ 1000) (t : Int) : Calls Tryz.prog 30 #[qp (q (j + 2)), .int .u64 t] w fun e w' => e = .returned (.int .i64 ((D j).appE t)) ∧ St w0 w' P q S (put D j ((D j).appS t)) X N a b := by
  obtain ⟨T, G, vW, vI, ws, is, hp, hs, hr, ok, hg⟩ := h.doc hj
  exact (rappend_at hr hg ok hN t).mono fun e w' ⟨h1, h2⟩ => ⟨h1, _, _, St.docd hp hs hj h2 (ok.app t)⟩
theorem d_done (h : St w0 w P q S D X N a b) (hj : j < 2) (hN : (D j).next ≤ 1000) (t : Int) : Calls Tryz.prog 31 #[qp (q (j + 2)), .int .u64 t] w fun e w' => e = .returned (.int .i64 ((D j).donE t)) ∧ St w0 w' P q S (put D j ((D j).donS t)) X N a b := by
  obtain ⟨T, G, vW, vI, ws, is, hp, hs, hr, ok, hg⟩ := h.doc hj
  exact (rdone_at hr hg ok hN t).mono fun e w' ⟨h1, h2⟩ => ⟨h1, _, _, St.docd hp hs hj h2 (ok.don t)⟩
theorem d_leave (h : St w0 w P q S D X N a b) (hj : j < 2) (hN : (D j).next ≤ 1000) (t : Int) : Calls Tryz.prog 33 #[qp (q (j + 2)), .int .u64 t] w fun e w' => e = .returned (.int .i64 ((D j).leaE t)) ∧ St w0 w' P q S (put D j ((D j).leaS t)) X N a b := by
  obtain ⟨T, G, vW, vI, ws, is, hp, hs, hr, ok, hg⟩ := h.doc hj
  exact (rleave_at hr hg ok hN t).mono fun e w' ⟨h1, h2⟩ => ⟨h1, _, _, St.docd hp hs hj h2 (ok.lea t)⟩
theorem d_freed (h : St w0 w P q S D X N a b) (hj : j < 2) (m : Int) : Calls Tryz.prog 35 #[qp (q (j + 2)), .int .i64 m] w fun e w' => e = .returned (.int .i64 ((D j).freE m)) ∧ St w0 w' P q S (put D j ((D j).freS m)) X N a b := by
  obtain ⟨T, G, vW, vI, ws, is, hp, hs, hr, ok, hg⟩ := h.doc hj
  exact (rfreed_at hr hg ok m).mono fun e w' ⟨h1, h2⟩ => ⟨h1, _, _, St.docd hp hs hj h2 (ok.fre m)⟩
theorem d_enter (h : St w0 w P q S D X N a b) (hj : j < 2) (hk : k < 6) (hN : (D j).next ≤ 1000) : Calls Tryz.prog 28 #[qp (q (j + 2))] w fun e w' => ∃ p c, e = .returned (.tuple #[.int .u64 (D j).entT, .slice p (D j).entF.length c, .int .i64 (D j).entE]) ∧ St w0 w' P q S (put D j (D j).entS) (put X k (.im (.slice p (D j).entF.length c) (D j).entF)) N a b := by
  obtain ⟨T, G, vW, vI, ws, is, hp, hs, hr, ok, hg⟩ := h.doc hj
  refine (renter_at hr hg ok hN).mono fun e w' ⟨p, c, h1, h2, h3, h4⟩ => ⟨p, c, h1, ?_⟩
  obtain ⟨hp', hs'⟩ := St.docd hp hs hj h4 ok.ent
  exact ⟨_, _, hp'.add (k := 8 + k) (by omega) (u := .im (.slice p (D j).entF.length c) (D j).entF) ⟨h2, h3⟩ (fun b hb => hb.elim), hs'.loose hk⟩
theorem d_begin (h : St w0 w P q S D X N a b) (hj : j < 2) (hk : k < 6) (hN : (D j).next ≤ 1000) {p : Option Addr} {m c : Nat} {xs : List Int} (hI : B.IIn w p m xs) (hm : m ≤ 1000) : Calls Tryz.prog 62 #[qp (q (j + 2)), .slice p m c] w fun e w' => ∃ p' c', e = .returned (.tuple #[.int .u64 ((D j).begT xs), .slice p' ((D j).begF xs).length c', .int .i64 ((D j).begE xs)]) ∧ St w0 w' P q S (put D j ((D j).begS xs)) (put X k (.im (.slice p' ((D j).begF xs).length c') ((D j).begF xs))) N a b := by
  obtain ⟨T, G, vW, vI, ws, is, hp, hs, hr, ok, hg⟩ := h.doc hj
  refine (rbegin_at hr hg ok hN hI hm).mono fun e w' ⟨p', c', h1, h2, h3, h4⟩ => ⟨p', c', h1, ?_⟩
  obtain ⟨hp', hs'⟩ := St.docd hp hs hj h4 (ok.beg xs)
  exact ⟨_, _, hp'.add (k := 8 + k) (by omega) (u := .im (.slice p' ((D j).begF xs).length c') ((D j).begF xs)) ⟨h2, fun g hg => .inr ⟨h3 g hg, h2.lt hg⟩⟩ (fun b hb => hb.elim), hs'.loose hk⟩
end Go.Proofs.YtnbegddpgmejnaaGreat
