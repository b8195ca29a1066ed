import Derived.Test.YtcdjepkhdjpjcaaGreatDoorY30
set_option maxHeartbeats 20000000
set_option maxRecDepth 100000
namespace Go.Proofs.YtcdjepkhdjpjcaaGreatDoor.Q
open Go.Proofs.Tryz
open Go.RowKit
section
variable {w0 w w':World} {K:Ks} {x y:Sx} {pd:List Cm} {X X':Nat→Th}
theorem tx_any (ht : Tab w0) (h : DS w0 w K x x pd X) (eX : ∀ i, 30 ≤ i → i < 40 → X i = .no) {kd nn : Int} {ps pv : Option Addr} {ms cs mv cv : Nat} {xs : List Int} {vs : List (List Int)} {pb : Bool} (hrd : ∀ W x y pd X', DS w0 W K x y pd X' → (∀ i, 8 ≤ i → i < 30 → X' i = X i) → E.B.IIn W ps ms xs ∧ VsIn W pv mv vs) (few : ms + 80 ≤ 17592186044416) (hc : x.c ≤ 3900) (hN : x.a.next ≤ 999) (hw : x.ws.length ≤ 99000) (hp : pd.length ≤ 4900) : Calls prog 31 #[qp K.P, .agg #[.int .i64 kd, .slice ps ms cs, .slice pv mv cv, .bool pb, .int .i64 nn]] w fun e w' => e = .returned (.bool true) ∧ DS w0 w' K (txS x pd xs vs pb).1 (txS x pd xs vs pb).1 (txS x pd xs vs pb).2 X := by
  obtain ⟨w1, hw1⟩ : ∃ W, w.alloc (.cells #[.int .i64 kd, .slice ps ms cs, .slice pv mv cv, .bool pb, .int .i64 nn] 81) = W := ⟨_, rfl⟩
  obtain ⟨BO, hBO⟩ : ∃ B, w.heap.size = B := ⟨_, rfl⟩
  have H1 : Hid (DS w0 w1 K x x pd (put X 30 (.blk BO 81 #[.int .i64 kd, .slice ps ms cs, .slice pv mv cv, .bool pb, .int .i64 nn]))) := h.fresh (by rw [← hw1]; exact C.below_alloc w _) (by decide) (fun _ => by rw [← hw1, ← hBO]; exact heap_alloc_new w _) (fun b hb => by have : b = BO := hb; omega)
  have FIN : Hid (∀ W x' pd' X', txS x pd xs vs pb = (x', pd') → DS w0 W K x' x' pd' X' → (∀ i, 8 ≤ i → i < 30 → X' i = X i) → DS w0 W K (txS x pd xs vs pb).1 (txS x pd xs vs pb).1 (txS x pd xs vs pb).2 X) := fun W x' pd' X' e hd hX => by rw [e]; exact hd.trim hX eX
  have HRD : Hid (∀ W x y pd X', DS w0 W K x y pd X' → (∀ i, 8 ≤ i → i < 30 → X' i = X i) → E.B.IIn W ps ms xs ∧ VsIn W pv mv vs) := hrd
  have HF : Hid (ms + 80 ≤ 17592186044416) := few
  have H1x : Hid (x.Ok) := h.okx
  have HEX : Hid (∀ i, 30 ≤ i → i < 40 → X i = .no) := eX
  clear h hrd few eX
  go_enter func31, ntmps31
  go_wp2_with fail
  clear hw1 hBO
  have HD1 : Hid (DS w0 w1.drew K x x pd (put X 30 (.blk BO 81 #[.int .i64 kd, .slice ps ms cs, .slice pv mv cv, .bool pb, .int .i64 nn]))) := H1.out.later (C.below_drawn 1)
  clear H1
  refine wp_region_noPanic ?_
  refine wp_region_held_drew (S := fun W => Sees W K ∧ W.heap[BO]? = some (.cells #[.int .i64 kd, .slice ps ms cs, .slice pv mv cv, .bool pb, .int .i64 nn] 81 (0, 0))) (by kernel_rfl) ⟨HD1.out.sees, HD1.out.blk (i := 30) (by decide) (by decide) rfl⟩ (fun hHeld => ?_)
  generalize w1.drew = w2 at *
  refine tk 0 hHeld ?_
  refine tk 1 hHeld ?_
  refine tk 2 hHeld ?_
  refine tk 3 hHeld ?_
  refine tkl 4 hHeld (fun _ s => s.1.ap) ?_
  refine tk 5 hHeld ?_
  refine tkl 6 hHeld (fun _ s => (op_c s.2).1) ?_
  refine tkr 7 fun Kc hKc => ?_
  go_simp
  refine (p_begin HD1.out (by omega) (by omega) (HRD.out _ _ _ _ _ HD1.out (fun i h8 h30 => put_other _ _ (by omega))).1 HF.out).mono ?_
  rintro e w3 ⟨fq, fd, rfl, hfo, hd⟩
  have HD2 : Hid (DS w0 w3 K (x.beg xs) x pd (put X 30 (.blk BO 81 #[.int .i64 kd, .slice ps ms cs, .slice pv mv cv, .bool pb, .int .i64 nn]))) := hd
  have HFO : Hid (w3.ownsRow w2.heap.size 3 1 (.slice fq (x.a.begF xs).length fd) (x.a.begF xs).length (E.B.I64 (x.a.begF xs))) := hfo
  have HAR : Hid (K.ar < w2.heap.size) := HD1.out.arlt
  clear hd hfo HD1
  refine hKc.out _ _ ⟨HD2.out.sees, HD2.out.blk (i := 30) (by decide) (by decide) rfl⟩ (fun hHeld => ?_)
  clear hKc Kc
  refine tk 8 hHeld ?_
  refine tk 9 hHeld ?_
  refine tk 10 hHeld ?_
  refine tk 11 hHeld ?_
  refine tk 12 hHeld ?_
  refine tk 13 hHeld ?_
  refine tk 14 hHeld ?_
  clear hHeld
  refine wpAnyH_done (by kernel_rfl) (NoPanic.normal ?_) _
  go_wp2_with fail
  have HD3 : Hid (DS w0 w3.drew K (x.beg xs) x pd (put X 30 (.blk BO 81 #[.int .i64 kd, .slice ps ms cs, .slice pv mv cv, .bool pb, .int .i64 nn]))) := HD2.out.later (C.below_drawn 1)
  have HFO' : Hid (w3.drew.ownsRow w2.heap.size 3 1 (.slice fq (x.a.begF xs).length fd) (x.a.begF xs).length (E.B.I64 (x.a.begF xs))) := C.O.own_later HFO.out (C.below_drawn 1)
  clear HD2 HFO
  have HFO := HFO'
  clear HFO'
  refine wp_region_noPanic ?_
  refine wp_region_held_drew (S := fun W => Sees W K ∧ W.heap[BO]? = some (.cells #[.int .i64 kd, .slice ps ms cs, .slice pv mv cv, .bool pb, .int .i64 nn] 81 (0, 0))) (by kernel_rfl) ⟨HD3.out.sees, HD3.out.blk (i := 30) (by decide) (by decide) rfl⟩ (fun hHeld => ?_)
  generalize w3.drew = w4 at *
  refine tk 0 hHeld ?_
  refine tk 1 hHeld ?_
  refine tk 2 hHeld ?_
  refine tk 3 hHeld ?_
  refine tkl 4 hHeld (fun _ s => s.1.ar) ?_
  refine tk 5 hHeld ?_
  refine tkl 6 hHeld (fun _ s => (op_c s.2).1) ?_
  refine tkr 7 fun Kc hKc => ?_
  go_simp
  refine (r_begin HD3.out (by omega) (HRD.out _ _ _ _ _ HD3.out (fun i h8 h30 => put_other _ _ (by omega))).1 HF.out (j := 31) (by decide)).mono ?_
  rintro e w5 ⟨rq, rd, rfl, hk5, -, hd⟩
  have HD4 : Hid (DS w0 w5 K (x.beg xs) (x.beg xs) pd (put (put X 30 (.blk BO 81 #[.int .i64 kd, .slice ps ms cs, .slice pv mv cv, .bool pb, .int .i64 nn])) 31 (.gfrm (.slice rq (x.a.begF xs).length rd) (x.a.begF xs)))) := hd
  have HF5 : Hid (E.Frm w5 (.slice fq (x.a.begF xs).length fd) (x.a.begF xs)) := C.O.own_far (E.B.own_mono HFO.out (Nat.zero_le _)) hk5 (fun g hg e => by have := (HFO.out.lt g hg).1; have := HAR.out; omega)
  clear hd hk5 HD3 HFO HAR
  refine hKc.out _ _ ⟨HD4.out.sees, HD4.out.blk (i := 30) (by decide) (by decide) rfl⟩ (fun hHeld => ?_)
  clear hKc Kc
  refine tk 8 hHeld ?_
  refine tk 9 hHeld ?_
  refine tk 10 hHeld ?_
  refine tk 11 hHeld ?_
  refine tk 12 hHeld ?_
  refine tk 13 hHeld ?_
  refine tk 14 hHeld ?_
  clear hHeld
  refine wpAnyH_done (by kernel_rfl) (NoPanic.normal ?_) _
  go_wp2_with fail
  obtain ⟨p1, c1, e1, hI1, -, -⟩ := HF5.out.read
  cases e1
  obtain ⟨p2, c2, e2, hI2, -, -⟩ := (HD4.out.gfrm (i := 31) (by decide) (by decide) (put_same _ _ _)).read
  cases e2
  have HFL : Hid (x.a.begE xs = 0 → (x.a.begF xs).length ≤ 16 ∧ x.a.begT xs = x.a.next) := fun e => begF_few H1x.out e
  refine (E.sameF_is _ _ _ _ _ _ _ _ _ hI1 hI2 (begF_any H1x.out)).mono ?_
  rintro e w6 ⟨rfl, m6, rfl⟩
  rw [decide_eq_true rfl]
  have HD5 : Hid (DS w0 (w5.drewN m6) K (x.beg xs) (x.beg xs) pd (put (put X 30 (.blk BO 81 #[.int .i64 kd, .slice ps ms cs, .slice pv mv cv, .bool pb, .int .i64 nn])) 31 (.gfrm (.slice rq (x.a.begF xs).length rd) (x.a.begF xs)))) := HD4.out.later (C.below_drawn m6)
  clear HD4 HF5 hI1 hI2
  generalize w5.drewN m6 = w6 at *
  by_cases hbe : x.a.begE xs = 0
  rotate_left
  · have hz : (x.a.begE xs == 0) = false := by simpa using hbe
    go_wp2
    go_ret
    exact ⟨rfl, FIN.out _ _ _ _ (txS_beg hbe) HD5.out (fun i h8 h30 => by rw [put_other _ _ (by omega), put_other _ _ (by omega)])⟩
  have HNX : Hid ((x.a.begF xs).length ≤ 16 ∧ x.a.begT xs = x.a.next ∧ 1 ≤ x.a.next ∧ (x.beg xs).a.next ≤ x.a.next + 1) := ⟨(HFL.out hbe).1, (HFL.out hbe).2, by have := H1x.out.a.got0; have := H1x.out.a.gotN; omega, beg_next x xs⟩
  have HB1 : Hid ((x.beg xs).c = x.c + 1 ∧ (x.beg xs).ws = x.ws) := ⟨rfl, rfl⟩
  have s1 := HD5.out.sees.ap
  go_wp2_with fail
  refine (p_enter HD5.out (by have := HB1.out.1; omega) (by have := HNX.out.2.2.2; omega)).mono ?_
  rintro e w7 ⟨eq1, ed1, rfl, hd⟩
  have HD6 : Hid (DS w0 w7 K (x.beg xs).ent (x.beg xs) pd (put (put X 30 (.blk BO 81 #[.int .i64 kd, .slice ps ms cs, .slice pv mv cv, .bool pb, .int .i64 nn])) 31 (.gfrm (.slice rq (x.a.begF xs).length rd) (x.a.begF xs)))) := hd
  have s2 := hd.sees.ar
  clear hd HD5 s1
  go_wp2_with fail
  refine (r_enter HD6.out (by have := HNX.out.2.2.2; omega)).mono ?_
  rintro e w8 ⟨eq2, ed2, rfl, hd⟩
  have HD7 : Hid (DS w0 w8 K (x.beg xs).ent (x.beg xs).ent pd (put (put X 30 (.blk BO 81 #[.int .i64 kd, .slice ps ms cs, .slice pv mv cv, .bool pb, .int .i64 nn])) 31 (.gfrm (.slice rq (x.a.begF xs).length rd) (x.a.begF xs)))) := hd
  clear hd HD6 s2
  by_cases hen : (x.beg xs).a.entE = 0 ∧ (x.beg xs).a.entT = x.a.begT xs
  rotate_left
  · by_cases he0 : (x.beg xs).a.entE = 0
    · have he1 : ((x.beg xs).a.entT == x.a.begT xs) = false := by
        have : ¬ (x.beg xs).a.entT = x.a.begT xs := fun e => hen ⟨he0, e⟩
        simpa using this
      go_wp2
      go_ret
      exact ⟨rfl, FIN.out _ _ _ _ (txS_ent hbe hen) HD7.out (fun i h8 h30 => by rw [put_other _ _ (by omega), put_other _ _ (by omega)])⟩
    · have he1 : ((x.beg xs).a.entE == 0) = false := by simpa using he0
      go_wp2
      go_ret
      exact ⟨rfl, FIN.out _ _ _ _ (txS_ent hbe hen) HD7.out (fun i h8 h30 => by rw [put_other _ _ (by omega), put_other _ _ (by omega)])⟩
  have HEN : Hid ((x.beg xs).a.entE = 0 ∧ (x.beg xs).a.entT = x.a.begT xs) := hen
  obtain ⟨he0, he1⟩ := hen
  have he2 : ((x.beg xs).a.entT == x.a.begT xs) = true := by simpa using he1
  clear he1
  have FI : Hid (∀ y, imR (x.a.begT xs) (x.beg xs).ent ((x.a.begF xs).zip vs) = (y, false) → txS x pd xs vs pb = (y, pd)) := fun y h => txS_img hbe HEN.out h
  have FC : Hid (∀ y, imR (x.a.begT xs) (x.beg xs).ent ((x.a.begF xs).zip vs) = (y, true) → ¬ moreS y.g = 0 → txS x pd xs vs pb = (y, pd)) := fun y h h4 => txS_com hbe HEN.out h h4
  have FA : Hid (∀ y, imR (x.a.begT xs) (x.beg xs).ent ((x.a.begF xs).zip vs) = (y, true) → moreS y.g = 0 → txS x pd xs vs pb = if pb = true then ackN (pd.length + 1) (y.com.don (x.a.begT xs)) (pd ++ [(imsOf ((x.a.begF xs).zip vs), y.g.fin)]) else (y.com.don (x.a.begT xs), pd ++ [(imsOf ((x.a.begF xs).zip vs), y.g.fin)])) := fun y h h4 => txS_all hbe HEN.out h h4
  have HFB : Hid (∀ b ∈ x.a.begF xs, 0 ≤ b ∧ b < 64) := (begF_in H1x.out hbe).1
  have HX2 : Hid ((x.beg xs).ent.c ≤ 3902 ∧ (x.beg xs).ent.ws.length ≤ 99000 ∧ (x.beg xs).ent.a.next ≤ 1000) := ⟨by show x.c + 1 + 1 ≤ _; omega, hw, by rw [ent_next]; have := HNX.out.2.2.2; omega⟩
  have HT : Hid (0 ≤ x.a.begT xs ∧ x.a.begT xs ≤ 1000) := by have := HNX.out.2; show _ ∧ _; omega
  have hf16 := HNX.out.1
  go_wp2_with fail
  rw [show ((x.beg xs).a.entT != x.a.begT xs) = false by rw [HEN.out.2]; exact bne_self_eq_false _]
  clear he0 he2 HEN HNX hbe HB1 HFL hw hc hN H1x
  generalize x.a.begF xs = f at *
  generalize x.a.begT xs = t at *
  generalize (x.beg xs).ent = x2 at *
  obtain ⟨zs, hzs⟩ : ∃ zs, f.zip vs = zs := ⟨_, rfl⟩
  rw [hzs] at FI FC FA
  have HVW : Hid (vs.length = mv ∧ ∀ v ∈ vs, v.length = 32 ∧ Bytes v) := by
    have := (HRD.out _ _ _ _ _ HD7.out (fun i h8 h30 => by rw [put_other _ _ (by omega), put_other _ _ (by omega)])).2
    exact ⟨this.len, this.wf⟩
  have HZ : Hid (∀ k, k < f.length → k < mv → ∃ b v, f[k]? = some b ∧ vs[k]? = some v ∧ zs[k]? = some (b, v)) := fun k h1 h2 => by
    have h3 : k < vs.length := by rw [HVW.out.1]; exact h2
    refine ⟨f[k], vs[k], List.getElem?_eq_getElem h1, List.getElem?_eq_getElem h3, ?_⟩
    rw [← hzs, List.getElem?_zip_eq_some]
    exact ⟨List.getElem?_eq_getElem h1, List.getElem?_eq_getElem h3⟩
  have HZL : Hid (zs.length = min f.length mv) := by show _ = _; rw [← hzs, List.length_zip, HVW.out.1]
  clear hzs
  have HD8 : Hid (DS w0 w8 K x2 x2 pd (put (put (put X 30 (.blk BO 81 #[.int .i64 kd, .slice ps ms cs, .slice pv mv cv, .bool pb, .int .i64 nn])) 31 (.gfrm (.slice rq f.length rd) f)) 32 (.row 84 33 (.slice none 0 0) (imsOf (zs.take 0)).length (C.IC (imsOf (zs.take 0)))))) := HD7.out.fresh (Below.refl _ _) (k := 32) (u := .row 84 33 (.slice none 0 0) 0 []) (by decide) (fun _ => (World.ownsRow_nil w8 0 84 33 : w8.ownsRow 0 84 33 (.slice none 0 0) 0 [])) (fun b hb => by cases hb)
  clear HD7
  go_loopw [15, 16] (fun im i W => ∃ (k : Nat) (y : Sx), i = .int .i64 (k : Int) ∧ k ≤ f.length ∧ k ≤ mv ∧ (∃ p c, im = .slice p k c) ∧ Hid (imR t x2 zs = imR t y (zs.drop k)) ∧ Hid (y.c ≤ x2.c + k ∧ y.ws.length ≤ x2.ws.length + k ∧ y.a.next ≤ 1000) ∧ Hid (DS w0 W K y y pd (put (put (put X 30 (.blk BO 81 #[.int .i64 kd, .slice ps ms cs, .slice pv mv cv, .bool pb, .int .i64 nn])) 31 (.gfrm (.slice rq f.length rd) f)) 32 (.row 84 33 im (imsOf (zs.take k)).length (C.IC (imsOf (zs.take k))))))) (fun _ i _ => f.length - (intOf i).toNat)
  case atStart => exact ⟨0, x2, rfl, by omega, by omega, ⟨none, 0, rfl⟩, by show _ = _; rw [List.drop_zero], ⟨by omega, by omega, HX2.out.2.2⟩, HD8⟩
  case round =>
    obtain ⟨k, y, rfl, hk1, hk2, ⟨ip, ic, rfl⟩, HI, HBy, HDk⟩ := hrel
    clear HD8
    by_cases hgo : k < f.length ∧ k < mv
    · obtain ⟨h1, h2⟩ := hgo
      obtain ⟨b, v, hfk, hvk, hzk⟩ := HZ.out k h1 h2
      have HV : Hid (v.length = 32 ∧ Bytes v) := HVW.out.2 v (List.mem_of_getElem? hvk)
      have HBB : Hid (0 ≤ b ∧ b < 64) := HFB.out b (List.mem_of_getElem? hfk)
      obtain ⟨g, gc, eg, -, -, -⟩ := C.O.own_some (HDk.out.gfrm (i := 31) (by decide) (by decide) (v := .slice rq f.length rd) (f := f) rfl) (by omega)
      obtain ⟨rfl, -, rfl⟩ := Value.slice.inj eg
      obtain ⟨vb, vo, epv, -⟩ := (HRD.out _ _ _ _ _ HDk.out (fun i h8 h30 => by rw [put_other _ _ (by omega), put_other _ _ (by omega), put_other _ _ (by omega)])).2.cells (by omega)
      subst epv
      have HS0 : SS w0 K X BO #[.int .i64 kd, .slice ps ms cs, .slice (some ⟨vb, vo, none⟩) mv cv, .bool pb, .int .i64 nn] (.slice (some ⟨g, 0, none⟩) f.length rd) f wr := (SS.of HDk.out (fun i h8 h30 => by rw [put_other _ _ (by omega), put_other _ _ (by omega), put_other _ _ (by omega)]) rfl rfl)
      have o2 := (op_c HS0.op).2.1
      have i1 : (k : Int) < (f.length : Int) := by omega
      have i2 : (k : Int) < (mv : Int) := by omega
      have HK : Hid (zs[k]? = some (b, v)) := hzk
      clear HS0 hzk HZ hHeld
      go_wp2_with fail
      have HDa : Hid (DS w0 wr.drew K y y pd (put (put (put X 30 (.blk BO 81 #[.int .i64 kd, .slice ps ms cs, .slice (some ⟨vb, vo, none⟩) mv cv, .bool pb, .int .i64 nn])) 31 (.gfrm (.slice (some ⟨g, 0, none⟩) f.length rd) f)) 32 (.row 84 33 (.slice ip k ic) (imsOf (zs.take k)).length (C.IC (imsOf (zs.take k)))))) := HDk.out.later (C.below_drawn 1)
      clear HDk o2
      refine wp_region_noPanic ?_
      refine wp_region_held_drew (S := SS w0 K X BO #[.int .i64 kd, .slice ps ms cs, .slice (some ⟨vb, vo, none⟩) mv cv, .bool pb, .int .i64 nn] (.slice (some ⟨g, 0, none⟩) f.length rd) f) (by kernel_rfl) (SS.of HDa.out (fun i h8 h30 => by rw [put_other _ _ (by omega), put_other _ _ (by omega), put_other _ _ (by omega)]) rfl rfl) (fun hHeld => ?_)
      generalize wr.drew = wa at *
      refine tk 0 hHeld ?_
      refine tk 1 hHeld ?_
      refine tk 2 hHeld ?_
      refine tk 3 hHeld ?_
      refine tkl 4 hHeld (fun _ s => s.sees.lp) ?_
      refine tk 5 hHeld ?_
      refine tk 6 hHeld ?_
      refine tk 7 hHeld ?_
      refine tkl 8 hHeld (fun _ s => s.want hfk) ?_
      refine tk 9 hHeld ?_
      refine tkl 10 hHeld (fun _ s => (op_c s.op).2.1) ?_
      refine tk 11 hHeld ?_
      refine tk 12 hHeld ?_
      refine tkm 13 hHeld (fun _ s => (s.val HRD.out).load hvk) ?_
      refine tkr 14 fun Kc hKc => ?_
      go_simp
      refine (p_image ht HDa.out (by have := HBy.out; have := HX2.out; omega) b v HV.out.1 HV.out.2).mono ?_
      rintro e wb ⟨rfl, hd⟩
      have HDb : Hid (DS w0 wb K (y.img b v) y pd (put (put (put X 30 (.blk BO 81 #[.int .i64 kd, .slice ps ms cs, .slice (some ⟨vb, vo, none⟩) mv cv, .bool pb, .int .i64 nn])) 31 (.gfrm (.slice (some ⟨g, 0, none⟩) f.length rd) f)) 32 (.row 84 33 (.slice ip k ic) (imsOf (zs.take k)).length (C.IC (imsOf (zs.take k)))))) := hd
      clear hd HDa
      refine hKc.out _ _ (SS.of HDb.out (fun i h8 h30 => by rw [put_other _ _ (by omega), put_other _ _ (by omega), put_other _ _ (by omega)]) rfl rfl) (fun hHeld => ?_)
      clear hKc Kc
      refine tk 15 hHeld ?_
      refine tk 16 hHeld ?_
      refine tk 17 hHeld ?_
      refine tk 18 hHeld ?_
      refine tk 19 hHeld ?_
      clear hHeld
      refine wpAnyH_done (by kernel_rfl) (NoPanic.normal ?_) _
      go_wp2_with fail
      have HDc : Hid (DS w0 wb.drew K (y.img b v) y pd (put (put (put X 30 (.blk BO 81 #[.int .i64 kd, .slice ps ms cs, .slice (some ⟨vb, vo, none⟩) mv cv, .bool pb, .int .i64 nn])) 31 (.gfrm (.slice (some ⟨g, 0, none⟩) f.length rd) f)) 32 (.row 84 33 (.slice ip k ic) (imsOf (zs.take k)).length (C.IC (imsOf (zs.take k)))))) := HDb.out.later (C.below_drawn 1)
      clear HDb
      refine wp_region_noPanic ?_
      refine wp_region_held_drew (S := SS w0 K X BO #[.int .i64 kd, .slice ps ms cs, .slice (some ⟨vb, vo, none⟩) mv cv, .bool pb, .int .i64 nn] (.slice (some ⟨g, 0, none⟩) f.length rd) f) (by kernel_rfl) (SS.of HDc.out (fun i h8 h30 => by rw [put_other _ _ (by omega), put_other _ _ (by omega), put_other _ _ (by omega)]) rfl rfl) (fun hHeld => ?_)
      generalize wb.drew = wc at *
      refine tk 0 hHeld ?_
      refine tk 1 hHeld ?_
      refine tk 2 hHeld ?_
      refine tk 3 hHeld ?_
      refine tkl 4 hHeld (fun _ s => s.sees.lr) ?_
      refine tk 5 hHeld ?_
      refine tk 6 hHeld ?_
      refine tk 7 hHeld ?_
      refine tkl 8 hHeld (fun _ s => s.want hfk) ?_
      refine tk 9 hHeld ?_
      refine tkl 10 hHeld (fun _ s => (op_c s.op).2.1) ?_
      refine tk 11 hHeld ?_
      refine tk 12 hHeld ?_
      refine tkm 13 hHeld (fun _ s => (s.val HRD.out).load hvk) ?_
      refine tkr 14 fun Kc hKc => ?_
      go_simp
      refine (r_image HDc.out (by have := HBy.out; have := HX2.out; omega) b v HV.out.1 HV.out.2).mono ?_
      rintro e wd ⟨rfl, hd⟩
      have HDd : Hid (DS w0 wd K (y.img b v) (y.img b v) pd (put (put (put X 30 (.blk BO 81 #[.int .i64 kd, .slice ps ms cs, .slice (some ⟨vb, vo, none⟩) mv cv, .bool pb, .int .i64 nn])) 31 (.gfrm (.slice (some ⟨g, 0, none⟩) f.length rd) f)) 32 (.row 84 33 (.slice ip k ic) (imsOf (zs.take k)).length (C.IC (imsOf (zs.take k)))))) := hd
      clear hd HDc
      refine hKc.out _ _ (SS.of HDd.out (fun i h8 h30 => by rw [put_other _ _ (by omega), put_other _ _ (by omega), put_other _ _ (by omega)]) rfl rfl) (fun hHeld => ?_)
      clear hKc Kc
      refine tk 15 hHeld ?_
      refine tk 16 hHeld ?_
      refine tk 17 hHeld ?_
      refine tk 18 hHeld ?_
      refine tk 19 hHeld ?_
      clear hHeld
      refine wpAnyH_done (by kernel_rfl) (NoPanic.normal ?_) _
      by_cases hi : imgS y.g b = 0
      rotate_left
      · have hz : (imgS y.g b == 0) = false := by simpa using hi
        have ey : y.img b v = y := by unfold Sx.img; rw [if_neg hi]
        rw [ey] at HDd
        go_wp2
        go_ret
        exact ⟨rfl, FIN.out _ _ _ _ (FI.out y (HI.out.trans (by rw [drop_cons HK.out]; exact imR_no hi))) HDd.out (fun i h8 h30 => by rw [put_other _ _ (by omega), put_other _ _ (by omega), put_other _ _ (by omega)])⟩
      have HIM : Hid (imgS y.g b = 0) := hi
      go_wp2_with fail
      have HDe : Hid (DS w0 wd.drew K (y.img b v) (y.img b v) pd (put (put (put X 30 (.blk BO 81 #[.int .i64 kd, .slice ps ms cs, .slice (some ⟨vb, vo, none⟩) mv cv, .bool pb, .int .i64 nn])) 31 (.gfrm (.slice (some ⟨g, 0, none⟩) f.length rd) f)) 32 (.row 84 33 (.slice ip k ic) (imsOf (zs.take k)).length (C.IC (imsOf (zs.take k)))))) := HDd.out.later (C.below_drawn 1)
      clear HDd hi
      refine wp_region_noPanic ?_
      refine wp_region_held_drew (S := SS w0 K X BO #[.int .i64 kd, .slice ps ms cs, .slice (some ⟨vb, vo, none⟩) mv cv, .bool pb, .int .i64 nn] (.slice (some ⟨g, 0, none⟩) f.length rd) f) (by kernel_rfl) (SS.of HDe.out (fun i h8 h30 => by rw [put_other _ _ (by omega), put_other _ _ (by omega), put_other _ _ (by omega)]) rfl rfl) (fun hHeld => ?_)
      generalize wd.drew = we at *
      refine tk 0 hHeld ?_
      refine tk 1 hHeld ?_
      refine tk 2 hHeld ?_
      refine tk 3 hHeld ?_
      refine tkl 4 hHeld (fun _ s => s.sees.ap) ?_
      refine tk 5 hHeld ?_
      refine tk 7 hHeld ?_
      refine tk 8 hHeld ?_
      refine tk 9 hHeld ?_
      refine tk 10 hHeld ?_
      refine tkl 11 hHeld (fun _ s => s.sees.ar) ?_
      refine tk 12 hHeld ?_
      refine tkr 6 fun Kc hKc => ?_
      go_simp
      refine (p_append HDe.out (img_c (by have := HBy.out; have := HX2.out; omega)) HT.out.1 HT.out.2).mono ?_
      rintro e wg ⟨rfl, hd⟩
      have HDf : Hid (DS w0 wg K ((y.img b v).app t) (y.img b v) pd (put (put (put X 30 (.blk BO 81 #[.int .i64 kd, .slice ps ms cs, .slice (some ⟨vb, vo, none⟩) mv cv, .bool pb, .int .i64 nn])) 31 (.gfrm (.slice (some ⟨g, 0, none⟩) f.length rd) f)) 32 (.row 84 33 (.slice ip k ic) (imsOf (zs.take k)).length (C.IC (imsOf (zs.take k)))))) := hd
      clear hd HDe
      refine hKc.out _ _ (SS.of HDf.out (fun i h8 h30 => by rw [put_other _ _ (by omega), put_other _ _ (by omega), put_other _ _ (by omega)]) rfl rfl) (fun hHeld => ?_)
      clear hKc Kc
      refine tkr 13 fun Kc hKc => ?_
      go_simp
      refine (r_append HDf.out (by rw [(img_is y b v).1]; exact HBy.out.2.2) t).mono ?_
      rintro e wh ⟨rfl, hd⟩
      have HDg : Hid (DS w0 wh K ((y.img b v).app t) ((y.img b v).app t) pd (put (put (put X 30 (.blk BO 81 #[.int .i64 kd, .slice ps ms cs, .slice (some ⟨vb, vo, none⟩) mv cv, .bool pb, .int .i64 nn])) 31 (.gfrm (.slice (some ⟨g, 0, none⟩) f.length rd) f)) 32 (.row 84 33 (.slice ip k ic) (imsOf (zs.take k)).length (C.IC (imsOf (zs.take k)))))) := hd
      clear hd HDf
      rw [(img_is y b v).1]
      refine hKc.out _ _ (SS.of HDg.out (fun i h8 h30 => by rw [put_other _ _ (by omega), put_other _ _ (by omega), put_other _ _ (by omega)]) rfl rfl) (fun hHeld => ?_)
      clear hKc Kc
      refine tk 14 hHeld ?_
      clear hHeld
      refine wpAnyH_done (by kernel_rfl) (NoPanic.normal ?_) _
      go_wp2_with fail
      have HDh : Hid (DS w0 wh.drew K ((y.img b v).app t) ((y.img b v).app t) pd (put (put (put X 30 (.blk BO 81 #[.int .i64 kd, .slice ps ms cs, .slice (some ⟨vb, vo, none⟩) mv cv, .bool pb, .int .i64 nn])) 31 (.gfrm (.slice (some ⟨g, 0, none⟩) f.length rd) f)) 32 (.row 84 33 (.slice ip k ic) (imsOf (zs.take k)).length (C.IC (imsOf (zs.take k)))))) := HDg.out.later (C.below_drawn 1)
      clear HDg
      have HLK : Hid ((imsOf (zs.take k)).length = k) := by show _ = _; rw [imsOf, List.length_map, List.length_take, Nat.min_eq_left (by have := (List.getElem?_eq_some_iff.1 HK.out).1; omega)]
      obtain ⟨v', wn, hap, ⟨np, nc, rfl⟩, hdn⟩ := HDh.out.appIm (i := 32) (by decide) (by decide) (v := .slice ip k ic) (l := imsOf (zs.take k)) rfl (by rw [HLK.out]; omega) (m := ⟨b, v⟩) ⟨by have := HBB.out; show -9223372036854775808 ≤ b ∧ b ≤ 9223372036854775807; omega, HV.out.1, HV.out.2⟩
      rw [HLK.out] at hap
      have HAP : Hid ((Builtin.append_ #[85, 85] 85 #[.slice ip k ic, .slice (some ⟨wh.drew.heap.size, 0, none⟩) 1 1]).run prog (wh.drew.alloc (.cells (C.icells ⟨b, v⟩).toArray 84)) = .ok (.slice np (k + 1) nc) wn) := hap
      have HDj : Hid (DS w0 (wh.drew.alloc (.cells (C.icells ⟨b, v⟩).toArray 84)) K ((y.img b v).app t) ((y.img b v).app t) pd (put (put (put X 30 (.blk BO 81 #[.int .i64 kd, .slice ps ms cs, .slice (some ⟨vb, vo, none⟩) mv cv, .bool pb, .int .i64 nn])) 31 (.gfrm (.slice (some ⟨g, 0, none⟩) f.length rd) f)) 32 (.row 84 33 (.slice ip k ic) (imsOf (zs.take k)).length (C.IC (imsOf (zs.take k)))))) := HDh.out.later (C.below_alloc wh.drew _)
      rw [put_put] at hdn
      have HDn : Hid (DS w0 wn K ((y.img b v).app t) ((y.img b v).app t) pd (put (put (put X 30 (.blk BO 81 #[.int .i64 kd, .slice ps ms cs, .slice (some ⟨vb, vo, none⟩) mv cv, .bool pb, .int .i64 nn])) 31 (.gfrm (.slice (some ⟨g, 0, none⟩) f.length rd) f)) 32 (.row 84 33 (.slice np (k + 1) nc) (imsOf (zs.take k) ++ [(⟨b, v⟩ : C.Im)]).length (C.IC (imsOf (zs.take k) ++ [(⟨b, v⟩ : C.Im)]))))) := by rw [HLK.out] at hdn; exact hdn
      clear hap hdn
      refine wp_region_noPanic ?_
      refine wp_region_held_drew (S := SS w0 K X BO #[.int .i64 kd, .slice ps ms cs, .slice (some ⟨vb, vo, none⟩) mv cv, .bool pb, .int .i64 nn] (.slice (some ⟨g, 0, none⟩) f.length rd) f) (by kernel_rfl) (SS.of HDh.out (fun i h8 h30 => by rw [put_other _ _ (by omega), put_other _ _ (by omega), put_other _ _ (by omega)]) rfl rfl) (fun hHeld => ?_)
      generalize wh.drew = wi at *
      refine tk 0 hHeld ?_
      refine tk 1 hHeld ?_
      refine tk 2 hHeld ?_
      refine tk 3 hHeld ?_
      refine tkl 4 hHeld (fun _ s => s.want hfk) ?_
      refine tk 5 hHeld ?_
      refine tkl 6 hHeld (fun _ s => (op_c s.op).2.1) ?_
      refine tk 7 hHeld ?_
      refine tk 8 hHeld ?_
      refine tkm 9 hHeld (fun _ s => (s.val HRD.out).load hvk) ?_
      refine tkb 10 [(0, .int .i64 b), (1, .agg (U8 v).toArray)] hHeld (fun w => C.buildI w b v HV.out.1) ?_
      refine tkr 11 fun Kc hKc => ?_
      refine C.step_slice_is (by rfl) 85 1 rfl (vs := [(0, .agg (C.icells ⟨b, v⟩).toArray)]) rfl (C.build_im _ ⟨b, v⟩ HV.out.1) ?_
      simp only [Act.put, zA, zB, zC]
      refine hKc.out _ _ (SS.of HDj.out (fun i h8 h30 => by rw [put_other _ _ (by omega), put_other _ _ (by omega), put_other _ _ (by omega)]) rfl rfl) (fun hHeld => ?_)
      clear hKc Kc
      refine tkr 12 fun Kc hKc => ?_
      refine C.step_append_is (by rfl) rfl rfl (u1 := .slice ip k ic) (u2 := .slice (some ⟨wi.heap.size, 0, none⟩) 1 1) rfl rfl HAP.out ?_
      simp only [Act.put, zA, zB, zC]
      refine hKc.out _ _ (SS.of HDn.out (fun i h8 h30 => by rw [put_other _ _ (by omega), put_other _ _ (by omega), put_other _ _ (by omega)]) rfl rfl) (fun hHeld => ?_)
      clear hKc Kc
      refine tk 13 hHeld ?_
      clear hHeld
      refine wpAnyH_done (by kernel_rfl) (NoPanic.normal ?_) _
      go_wp2_with fail
      go_roundw
      case rel =>
        have hi' := imgapp_is y b v t
        have R : ∃ (k1 : Nat) (y1 : Sx), (Value.int .i64 ((k : Int) + 1)) = .int .i64 (k1 : Int) ∧ k1 ≤ f.length ∧ k1 ≤ mv ∧ (∃ p c, (Value.slice np (k + 1) nc) = .slice p k1 c) ∧ Hid (imR t x2 zs = imR t y1 (zs.drop k1)) ∧ Hid (y1.c ≤ x2.c + k1 ∧ y1.ws.length ≤ x2.ws.length + k1 ∧ y1.a.next ≤ 1000) ∧ Hid (DS w0 wn K y1 y1 pd (put (put (put X 30 (.blk BO 81 #[.int .i64 kd, .slice ps ms cs, .slice (some ⟨vb, vo, none⟩) mv cv, .bool pb, .int .i64 nn])) 31 (.gfrm (.slice (some ⟨g, 0, none⟩) f.length rd) f)) 32 (.row 84 33 (Value.slice np (k + 1) nc) (imsOf (zs.take k1)).length (C.IC (imsOf (zs.take k1)))))) := by
         refine ⟨k + 1, (y.img b v).app t, by congr 1, by omega, by omega, ⟨np, nc, rfl⟩, HI.out.trans (by rw [drop_cons HK.out]; exact imR_cons HIM.out), ?_, ?_⟩
         · exact ⟨by have := hi'.1; have := HBy.out.1; omega, by have := hi'.2.1; have := HBy.out.2.1; omega, by rw [hi'.2.2]; exact HBy.out.2.2⟩
         · show DS w0 wn K _ _ pd _
           rw [imsOf_take HK.out]; exact HDn.out
        clear hi'
        first
          | exact R
          | ((repeat apply Exists.intro); exact ⟨R, rfl⟩)
      case measure => simp [intOf]; omega
    · have HEND : Hid (imR t x2 zs = (y, true)) := HI.out.trans (by rw [List.drop_eq_nil_of_le (by rw [HZL.out]; omega)]; rfl)
      have HZT : zs.take k = zs := List.take_of_length_le (by rw [HZL.out]; omega)
      have HLK : Hid ((imsOf zs).length = k) := by show _ = _; rw [imsOf, List.length_map, HZL.out]; omega
      have HWF : Hid (C.ImsWf (imsOf zs)) := fun m hm => by
        obtain ⟨z, hz, rfl⟩ := List.mem_map.1 hm
        obtain ⟨j, hj⟩ := List.getElem?_of_mem hz
        have hl := (List.getElem?_eq_some_iff.1 hj).1
        have hl2 := HZL.out
        obtain ⟨b, v, h1, h2, h3⟩ := HZ.out j (by omega) (by omega)
        rw [hj] at h3
        cases h3
        have hb := HFB.out b (List.mem_of_getElem? h1)
        have hv := HVW.out.2 v (List.mem_of_getElem? h2)
        exact ⟨by show -9223372036854775808 ≤ b ∧ b ≤ 9223372036854775807; omega, hv.1, hv.2⟩
      rw [HZT] at HDk
      have HOK0 : Hid y.Ok := HDk.out.okx
      have o2 := (op_c (HDk.out.blk (i := 30) (by decide) (by decide) rfl)).2.1
      have s1 := HDk.out.sees.lp
      clear HZT HZ HZL HVW HFB HI FI hHeld
      by_cases hA : k < f.length
      case' pos =>
        have i1 : (k : Int) < (f.length : Int) := by omega
        have i2 : ¬ (k : Int) < (mv : Int) := by omega
        go_wp2_with fail
      case' neg =>
        have i1 : ¬ (k : Int) < (f.length : Int) := by omega
        go_wp2_with fail
      all_goals
        refine (p_commit ht HDk.out (by have := HBy.out; have := HX2.out; omega)).mono ?_
        rintro e wa ⟨rfl, hd⟩
        have HDa : Hid (DS w0 wa K y.com y pd (put (put (put X 30 (.blk BO 81 #[.int .i64 kd, .slice ps ms cs, .slice pv mv cv, .bool pb, .int .i64 nn])) 31 (.gfrm (.slice rq f.length rd) f)) 32 (.row 84 33 (.slice ip k ic) (imsOf zs).length (C.IC (imsOf zs))))) := hd
        have s2 := hd.sees.lr
        clear hd HDk
        go_wp2_with fail
        refine (r_commit HDa.out (by have := HBy.out; have := HX2.out; omega)).mono ?_
        rintro e wb ⟨rfl, hd⟩
        have HDb : Hid (DS w0 wb K y.com y.com pd (put (put (put X 30 (.blk BO 81 #[.int .i64 kd, .slice ps ms cs, .slice pv mv cv, .bool pb, .int .i64 nn])) 31 (.gfrm (.slice rq f.length rd) f)) 32 (.row 84 33 (.slice ip k ic) (imsOf zs).length (C.IC (imsOf zs))))) := hd
        have HOK : Hid y.Ok := HOK0.out
        clear hd HDa s2
        by_cases hm : moreS y.g = 0
        rotate_left
        · have hz : (moreS y.g == 0) = false := by simpa using hm
          have ey : y.com = y := by unfold Sx.com; rw [if_neg hm]
          rw [ey] at HDb
          go_wp2
          go_ret
          exact ⟨rfl, FIN.out _ _ _ _ (FC.out y HEND.out hm) HDb.out (fun i h8 h30 => by rw [put_other _ _ (by omega), put_other _ _ (by omega), put_other _ _ (by omega)])⟩
        have HMO : Hid (moreS y.g = 0) := hm
        go_wp2_with fail
        have HDc : Hid (DS w0 wb.drew K y.com y.com pd (put (put (put X 30 (.blk BO 81 #[.int .i64 kd, .slice ps ms cs, .slice pv mv cv, .bool pb, .int .i64 nn])) 31 (.gfrm (.slice rq f.length rd) f)) 32 (.row 84 33 (.slice ip k ic) (imsOf zs).length (C.IC (imsOf zs))))) := HDb.out.later (C.below_drawn 1)
        have HOY : Hid (0 ≤ y.comP ∧ y.comP < 18446744073709551616 ∧ y.comP = y.g.fin) := comP_is HOK.out HMO.out
        clear HDb hm
        refine wp_region_noPanic ?_
        refine wp_region_held_drew (S := fun W => Sees W K) (by kernel_rfl) HDc.out.sees (fun hHeld => ?_)
        generalize wb.drew = wc at *
        refine tk 0 hHeld ?_
        refine tk 1 hHeld ?_
        refine tk 2 hHeld ?_
        refine tk 3 hHeld ?_
        refine tkl 4 hHeld (fun _ s => s.ap) ?_
        refine tk 5 hHeld ?_
        refine tk 7 hHeld ?_
        refine tk 8 hHeld ?_
        refine tk 9 hHeld ?_
        refine tk 10 hHeld ?_
        refine tkl 11 hHeld (fun _ s => s.ar) ?_
        refine tk 12 hHeld ?_
        refine tkr 6 fun Kc hKc => ?_
        go_simp
        refine (p_done HDc.out (com_c (by have := HBy.out; have := HX2.out; omega)) (by rw [(com_is y).1]; exact HBy.out.2.2) HT.out.1 HT.out.2).mono ?_
        rintro e wg ⟨rfl, hd⟩
        have HDf : Hid (DS w0 wg K (y.com.don t) y.com pd (put (put (put X 30 (.blk BO 81 #[.int .i64 kd, .slice ps ms cs, .slice pv mv cv, .bool pb, .int .i64 nn])) 31 (.gfrm (.slice rq f.length rd) f)) 32 (.row 84 33 (.slice ip k ic) (imsOf zs).length (C.IC (imsOf zs))))) := hd
        clear hd HDc
        refine hKc.out _ _ HDf.out.sees (fun hHeld => ?_)
        clear hKc Kc
        refine tkr 13 fun Kc hKc => ?_
        go_simp
        refine (r_done HDf.out (by rw [(com_is y).1]; exact HBy.out.2.2) t).mono ?_
        rintro e wh ⟨rfl, hd⟩
        have HDg : Hid (DS w0 wh K (y.com.don t) (y.com.don t) pd (put (put (put X 30 (.blk BO 81 #[.int .i64 kd, .slice ps ms cs, .slice pv mv cv, .bool pb, .int .i64 nn])) 31 (.gfrm (.slice rq f.length rd) f)) 32 (.row 84 33 (.slice ip k ic) (imsOf zs).length (C.IC (imsOf zs))))) := hd
        clear hd HDf
        rw [(com_is y).1]
        refine hKc.out _ _ HDg.out.sees (fun hHeld => ?_)
        clear hKc Kc
        refine tk 14 hHeld ?_
        clear hHeld
        refine wpAnyH_done (by kernel_rfl) (NoPanic.normal ?_) _
        obtain ⟨pw, c23, f23, v', wn, hap, ⟨np, nc, rfl⟩, f24, c24, hdn⟩ := HDg.out.push (i := 32) (by decide) (by decide) (v := .slice ip k ic) (l := imsOf zs) rfl HWF.out (by rw [HLK.out]; omega) (q := y.comP) ⟨HOY.out.1, HOY.out.2.1⟩ (by omega)
        have HAP : Hid ((Builtin.append_ #[44, 44] 44 #[pw, .slice (some ⟨wh.heap.size, 0, none⟩) 1 1]).run prog (wh.alloc (.cells #[.slice ip k ic, .int .u64 y.comP] 153)) = .ok (.slice np (pd.length + 1) nc) wn) := hap
        have HDn : Hid (DS w0 (wn.setCell ⟨K.P, 23, none⟩ (.slice np (pd.length + 1) nc)) K (y.com.don t) (y.com.don t) (pd ++ [(imsOf zs, y.comP)]) (put (put (put (put X 30 (.blk BO 81 #[.int .i64 kd, .slice ps ms cs, .slice pv mv cv, .bool pb, .int .i64 nn])) 31 (.gfrm (.slice rq f.length rd) f)) 32 (.row 84 33 (.slice ip k ic) (imsOf zs).length (C.IC (imsOf zs)))) 32 .no)) := hdn
        have HFA : Hid (txS x pd xs vs pb = if pb = true then ackN (pd.length + 1) (y.com.don t) (pd ++ [(imsOf zs, y.comP)]) else (y.com.don t, pd ++ [(imsOf zs, y.comP)])) := by show _ = _; rw [HOY.out.2.2]; exact FA.out y HEND.out HMO.out
        have HPL : Hid ((pd ++ [(imsOf zs, y.comP)]).length = pd.length + 1) := by show _ = _; rw [List.length_append]; rfl
        have HZ0 : Hid ((y.com.don t).ws.length ≤ 100000) := by have := comdon_is y t; have := HBy.out; have := HX2.out; show _ ≤ _; omega
        clear hap hdn HDg FC FA
        go_wp2_with ((with_reducible refine C.at_ops ?_); (refine C.wpList_append_is (u1 := pw) (u2 := .slice (some ⟨wh.heap.size, 0, none⟩) 1 1) (by rfl) rfl rfl rfl rfl HAP.out ?_); simp only [Act.put, zA, zB, zC])
        clear c23 f23 f24 c24 HAP
        generalize y.com.don t = z0 at *
        generalize pd ++ [(imsOf zs, y.comP)] = pd0 at *
        generalize wn.setCell ⟨K.P, 23, none⟩ (.slice np (pd.length + 1) nc) = wz at *
        go_loopg [252] (pd.length + 1) (fun j _ W => ∃ z1 pd1, pd1.length = j ∧ Hid ((pb = true → ackN (pd.length + 1) z0 pd0 = ackN j z1 pd1) ∧ (pb = false → z1 = z0 ∧ pd1 = pd0) ∧ z1.ws.length ≤ 100000 ∧ j ≤ pd.length + 1) ∧ Hid (DS w0 W K z1 z1 pd1 (put (put (put (put X 30 (.blk BO 81 #[.int .i64 kd, .slice ps ms cs, .slice pv mv cv, .bool pb, .int .i64 nn])) 31 (.gfrm (.slice rq f.length rd) f)) 32 (.row 84 33 (.slice ip k ic) (imsOf zs).length (C.IC (imsOf zs)))) 32 .no)))
        case atStart => exact ⟨z0, pd0, HPL.out, ⟨fun _ => rfl, fun _ => ⟨rfl, rfl⟩, HZ0.out, Nat.le_refl _⟩, HDn⟩
        case round =>
          obtain ⟨z1, pd1, hj, HR, HD1⟩ := hrel
          have HFN : Hid (∀ i, 8 ≤ i → i < 30 → (put (put (put (put X 30 (.blk BO 81 #[.int .i64 kd, .slice ps ms cs, .slice pv mv cv, .bool pb, .int .i64 nn])) 31 (.gfrm (.slice rq f.length rd) f)) 32 (.row 84 33 (.slice ip k ic) (imsOf zs).length (C.IC (imsOf zs)))) 32 .no) i = X i) := fun i h8 h30 => by rw [put_other _ _ (by omega), put_other _ _ (by omega), put_other _ _ (by omega), put_other _ _ (by omega)]
          have o3 := (op_c (HD1.out.blk (i := 30) (by decide) (by decide) rfl)).2.2
          clear HDn
          cases pb with
          | false =>
            obtain ⟨e1, e2⟩ := HR.out.2.1 rfl
            subst e1
            subst e2
            go_wp2
            go_ret
            exact ⟨rfl, FIN.out _ _ _ _ (by rw [HFA.out, if_neg (by decide)]) HD1.out HFN.out⟩
          | true =>
            cases pd1 with
            | nil =>
              obtain ⟨pn, cn, cP⟩ := HD1.out.nopend
              go_wp2
              go_ret
              exact ⟨rfl, FIN.out _ _ _ _ (by rw [HFA.out, if_pos trivial, HR.out.1 trivial, ackN_nil]) HD1.out HFN.out⟩
            | cons q r =>
              obtain ⟨g3, c3, u3, cP, -, -, -, -, -⟩ := HD1.out.head (l := q.1) (q := q.2) (j := 38) (by decide)
              have HJ : Hid (r.length + 1 = gk) := hj
              have hg0 : ¬ ((r.length : Int) + 1 ≤ 0) := by omega
              clear hj
              go_wp2_with fail
              refine (ack_at HD1.out HR.out.2.2.1 (by have := HR.out.2.2.2; have := HJ.out; rw [List.length_cons]; omega) (by rw [put_other _ _ (by decide), put_other _ _ (by decide), put_other _ _ (by decide), put_other _ _ (by decide)]; exact HEX.out 38 (by decide) (by decide)) (by rw [put_other _ _ (by decide), put_other _ _ (by decide), put_other _ _ (by decide), put_other _ _ (by decide)]; exact HEX.out 39 (by decide) (by decide))).mono ?_
              rintro e w9 ⟨rfl, hd⟩
              have HD2 : Hid (DS w0 w9 K (ackX z1 (q :: r)) (ackX z1 (q :: r)) r (put (put (put (put X 30 (.blk BO 81 #[.int .i64 kd, .slice ps ms cs, .slice pv mv cv, .bool true, .int .i64 nn])) 31 (.gfrm (.slice rq f.length rd) f)) 32 (.row 84 33 (.slice ip k ic) (imsOf zs).length (C.IC (imsOf zs)))) 32 .no)) := hd
              clear hd HD1 cP o3
              go_wp2_with fail
              go_roundg r.length
              case measure => have := HJ.out; omega
              case rel => exact ⟨_, r, rfl, ⟨fun _ => (HR.out.1 trivial).trans (by rw [← HJ.out]; rfl), by intro h; simp at h, ackX_ws HR.out.2.2.1, by have := HR.out.2.2.2; have := HJ.out; omega⟩, HD2⟩
theorem tx_at (ht:Tab w0)(h:DS w0 w K x x pd X)(eX:∀i,30≤i→i<40→X i=.no){o:Opv}(ho:OpR w0 K X o)(hc:x.c≤3900)(hN:x.a.next≤999)(hw:x.ws.length≤99000)(hp:pd.length≤4900):Calls prog 31 #[qp K.P,.agg o.cells] w fun e w'=>e=.returned (.bool true)∧DS w0 w' K (txS x pd o.xs o.vs o.pb).1 (txS x pd o.xs o.vs o.pb).1 (txS x pd o.xs o.vs o.pb).2 X :=
 tx_any ht h eX ho.rd ho.few hc hN hw hp
end
end Go.Proofs.YtcdjepkhdjpjcaaGreatDoor.Q
