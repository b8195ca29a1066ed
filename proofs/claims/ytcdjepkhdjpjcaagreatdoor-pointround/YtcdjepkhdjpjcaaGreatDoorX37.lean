import Derived.Test.YtcdjepkhdjpjcaaGreatDoorX36
set_option maxHeartbeats 20000000
set_option maxRecDepth 100000
namespace Go.Proofs.YtcdjepkhdjpjcaaGreatDoor.Q
open Go.Proofs.Tryz
open Go.RowKit
theorem wtB_lo {ws:List Wr}(h:∀z∈ws,1≤z.s):wtB ws 0 1=false:=List.any_eq_false.2 fun z hz=>by have:=h z hz;simp;omega
section
variable {w:World}
theorem pointRound_no (s:Sup)(hc:¬MayC s)(ht:Tab w)(p:Option Addr)(m c:Nat):Calls prog 4 #[.agg (ccells s).toArray,.slice p m c] w fun e w'=>e=.returned (.bool true)∧Below w.heap.size w w':=by
 obtain ⟨BC,hBC⟩:∃B,w.heap.size=B:=⟨_,rfl⟩
 obtain ⟨w1,hw1⟩:∃W,w.alloc (.cells (ccells s).toArray 23)=W:=⟨_,rfl⟩
 have B1:Hid (Below w.heap.size w w1):=by rw[← hw1];exact C.below_alloc w _
 have HC1:Hid (∀W,Below w1.heap.size w1 W→CAt W BC s):=fun W hb=>by
  have h:CAt w1 BC s:=by rw[← hw1,← hBC];exact LAt.new 23 w (ccells s)
  exact LAt.later h hb
 have HT:Hid (Tab w1):=ht.later B1.out
 clear ht
 go_enter func4,ntmps4
 go_wp2_with fail
 clear hw1 hBC
 refine (awake_is HT.out).mono ?_
 rintro e w2 ⟨rfl,b2⟩
 have B2:Hid (Below w1.heap.size w1 w2):=b2
 have L2:Hid (_):=(HC1.out w2 b2).load23
 clear b2
 go_wp2_with ((with_reducible refine C.at_ops ?_);(refine ldI 23 L2.out ?_))
 refine (rmay_any s w2).mono ?_
 rintro e w3 ⟨rfl,b3⟩
 have B3:Hid (Below w1.heap.size w1 w3):=C.below_then B2.out b3
 clear b3 L2 B2
 rw[decide_eq_false hc]
 go_wp2_with fail
 refine (awake_is (HT.out.later B3.out)).mono ?_
 rintro e w4 ⟨rfl,b4⟩
 have B4:Hid (Below w.heap.size w w4):=C.below_then B1.out (C.below_then B3.out b4)
 clear b4
 go_wp2
 go_ret
 exact⟨rfl,B4.out⟩
theorem pointRound_yes (s:Sup)(hc:MayC s)(ht:Tab w){p:Option Addr}{m c:Nat}{os:List Opv}(hS:ScIn w p m os):Calls prog 4 #[.agg (ccells s).toArray,.slice p m c] w fun e w'=>e=.returned (.bool true)∧Below w.heap.size w w':=by
 obtain ⟨BC,hBC⟩:∃B,w.heap.size=B:=⟨_,rfl⟩
 obtain ⟨w1,hw1⟩:∃W,w.alloc (.cells (ccells s).toArray 23)=W:=⟨_,rfl⟩
 have B1:Hid (Below w.heap.size w w1):=by rw[← hw1];exact C.below_alloc w _
 have HC1:Hid (∀W,Below w1.heap.size w1 W→CAt W BC s):=fun W hb=>by
  have h:CAt w1 BC s:=by rw[← hw1,← hBC];exact LAt.new 23 w (ccells s)
  exact LAt.later h hb
 have HT:Hid (Tab w1):=ht.later B1.out
 clear ht
 go_enter func4,ntmps4
 go_wp2_with fail
 clear hw1 hBC
 refine (awake_is HT.out).mono ?_
 rintro e w2 ⟨rfl,b2⟩
 have B2:Hid (Below w1.heap.size w1 w2):=b2
 have L2:Hid (_):=(HC1.out w2 b2).load23
 clear b2
 go_wp2_with ((with_reducible refine C.at_ops ?_);(refine ldI 23 L2.out ?_))
 refine (rmay_any s w2).mono ?_
 rintro e w3 ⟨rfl,b3⟩
 have B3:Hid (Below w1.heap.size w1 w3):=C.below_then B2.out b3
 clear b3 L2 B2
 rw[decide_eq_true hc]
 have HC:Hid (∀W,Below w3.heap.size w3 W→CAt W BC s):=fun W hb=>HC1.out W (C.below_then B3.out hb)
 have HT3:Hid (Tab w3):=HT.out.later B3.out
 have BW:Hid (Below w.heap.size w w3):=C.below_then B1.out B3.out
 have HS:Hid (ScIn w3 p m os):=hS.later BW.out
 have HM:Hid (MayC s):=hc
 have L3:Hid (_):=(HC.out w3 (Below.refl _ _)).load23
 clear HC1 HT B1 B3 hS hc
 go_wp2_with ((with_reducible refine C.at_ops ?_);(refine ldI 23 L3.out ?_))
 refine (run_ok s HM.out HT3.out HS.out).mono ?_
 rintro e w4 ⟨K,rfl,hK,x,pd,kr,hkr,hR,hd⟩
 have HK:Hid (K.c=s):=hK
 have HR:Hid (Ran s x pd kr):=hR
 have HKR:Hid (kr≤40):=hkr
 have HD4:Hid (DS w3 w4 K x x pd (fun _=>.no)):=hd
 clear hd hK hR hkr L3 HS
 go_wp2_with fail
 refine (new_pt w4).mono ?_
 rintro e w5 ⟨rfl,hw5⟩
 obtain ⟨B,hB⟩:∃B,w4.heap.size=B:=⟨_,rfl⟩
 have HD5:Hid (DS w3 w5 K x x pd (put (fun _=>.no) 8 (.pp B (.slice none 0 0) ⟨1,0,[],0⟩))):=by rw[hw5,← hB];exact HD4.out.newpt (by decide)
 rw[hB]
 clear hw5 hB HD4
 have LK:Hid (_):=HD5.out.ldk
 obtain ⟨DB,hDB⟩:∃B,w5.heap.size=B:=⟨_,rfl⟩
 have HA:Hid (_):=alloc_dk w5
 have HST:Hid (_):=store_dk w5 K
 have hd6:=HD5.out.newblk (k:=9) (by decide) (pdk K).toArray 37
 obtain ⟨w6,hw6⟩:∃W,w5.alloc (.cells (pdk K).toArray 37)=W:=⟨_,rfl⟩
 rw[hDB] at HA HST hd6
 rw[hw6] at HST hd6
 have HD6:Hid (DS w3 w6 K x x pd (put (put (fun _=>.no) 8 (.pp B (.slice none 0 0) ⟨1,0,[],0⟩)) 9 (.blk DB 37 (pdk K).toArray))):=hd6
 have k6:=DkIn.kp (B:=DB) (hd6.blk (i:=9) (by decide) (by decide) rfl)
 clear hd6 hw6 hDB HD5
 go_wp2_with ((with_reducible refine C.at_ops ?_);(first | (refine ldI 37 LK.out ?_) | (refine alI 37 HA.out ?_) | (refine stI 37 HST.out ?_)))
 clear LK HA HST
 refine (p_entries HD6.out).mono ?_
 rintro e w7 ⟨hv,rfl,ho,b7⟩
 obtain ⟨hq,hcp,rfl,-⟩:=C.EOwn.in ho HD6.out.okx.k.wf
 have hd7:=HD6.out.fresh b7 (k:=10) (by decide) (u:=.row 54 34 (.slice hq x.L.length hcp) x.L.length (C.EC x.L)) (fun _=>own_zero ho) (fun b hb=>(World.ownsRow.lt ho b hb).1)
 have HX:Hid (∃XX:Nat→Th,XX 9=.blk DB 37 (pdk K).toArray∧XX 10=.row 54 34 (.slice hq x.L.length hcp) x.L.length (C.EC x.L)∧(∀j,11≤j→XX j=.no)∧DS w3 w7 K x x pd (put XX 8 (.pp B (.slice none 0 0) ⟨1,0,[],0⟩))):=by
  refine⟨put (put (fun _=>.no) 9 (.blk DB 37 (pdk K).toArray)) 10 (.row 54 34 (.slice hq x.L.length hcp) x.L.length (C.EC x.L)),rfl,rfl,fun j hj=>by rw[put_other _ _ (by omega),put_other _ _ (by omega)],?_⟩
  rw[put_comm _ _ _ (show 10≠8 by decide),put_comm _ _ _ (show 9≠8 by decide)]
  exact hd7
 obtain ⟨XX,e9,e10,e11,hd8⟩:=HX.out
 have E9:Hid (XX 9=.blk DB 37 (pdk K).toArray):=e9
 have E10:Hid (XX 10=.row 54 34 (.slice hq x.L.length hcp) x.L.length (C.EC x.L)):=e10
 have E11:Hid (∀j,11≤j→XX j=.no):=e11
 have HD7:Hid (DS w3 w7 K x x pd (put XX 8 (.pp B (.slice none 0 0) ⟨1,0,[],0⟩))):=hd8
 have HDK:Hid (∀W y p pv,DS w3 W K y x pd (put XX 8 (.pp B pv p))→DkIn W DB K):=fun W y p pv h=>h.blk (i:=9) (by decide) (by decide) ((put_other _ _ (by decide)).trans E9.out)
 have HHD:Hid (∀W y p pv,DS w3 W K y x pd (put XX 8 (.pp B pv p))→C.EIn W hq x.L.length x.L):=fun W y p pv h=>by
  have h1:=h.rowin (i:=10) (by decide) (by decide) ((put_other _ _ (by decide)).trans E10.out)
  have h2:C.EOwn 54 W 0 (.slice hq x.L.length hcp) x.L:=h1
  obtain ⟨q',c',e',hE,-⟩:=C.EOwn.in h2 HD7.out.okx.k.wf
  cases e'
  exact hE
 have HOX:Hid x.Ok:=hd8.okx
 have hp0:=hd8.okx.p0
 clear hd7 hd8 HX HD6 b7 ho e9 e10 e11
 have k7:=(HDK.out w7 _ _ _ HD7.out).kp
 go_wp2_with fail
 refine (p_last HD7.out).mono ?_
 rintro e w' ⟨rfl,hw'⟩
 rw[hw']
 clear hw' w' k6 k7
 go_wp2_with fail
 have HD8:Hid (DS w3 w7.drew K x x pd (put XX 8 (.pp B (.slice none 0 0) ⟨1,0,[],0⟩))):=HD7.out.later (C.below_drawn 1)
 clear HD7
 refine wp_region_noPanic ?_
 refine wp_region_held_drew (S:=fun W=>DkIn W DB K) (by kernel_rfl) (HDK.out _ _ _ _ HD8.out) (fun hHeld=>?_)
 generalize w7.drew=w8 at *
 refine tk 0 hHeld ?_
 refine tkl 1 hHeld (fun _ s=>s.lp) ?_
 refine tk 3 hHeld ?_
 refine tkl 4 hHeld (fun _ s=>s.ap) ?_
 refine tkr 2 fun Kc hKc=>?_
 go_simp
 refine (p_tail HD8.out).mono ?_
 rintro e w' ⟨rfl,rfl⟩
 refine hKc.out _ _ hHeld (fun hHeld=>?_)
 clear hKc Kc
 refine tkr 5 fun Kc hKc=>?_
 go_simp
 refine (p_used HD8.out).mono ?_
 rintro e w' ⟨rfl,hw'⟩
 rw[hw']
 clear hw' w'
 refine hKc.out _ _ hHeld (fun hHeld=>?_)
 clear hKc Kc
 refine tk 6 hHeld ?_
 refine tk 7 hHeld ?_
 clear hHeld
 refine wpAnyH_done (by kernel_rfl) (NoPanic.normal ?_) _
 have LK:Hid (_):=(HDK.out w8 _ _ _ HD8.out).load
 go_wp2_with ((with_reducible refine C.at_ops ?_);(refine ldI 37 LK.out ?_))
 have HNX:Hid (x.a.next≤1000∧x.ws.length≤2000):=by have:=HR.out.nx;have:=HR.out.ws;have:=HKR.out;show _∧_;omega
 refine (enabled_idle HD8.out HNX.out.1 (i:=8) (by decide) (by decide) (put_same _ _ _)).mono ?_
 rintro e w9 ⟨rfl,b9⟩
 have HD9:Hid (DS w3 w9 K x x pd (put XX 8 (.pp B (.slice none 0 0) ⟨1,0,[],0⟩))):=HD8.out.later b9
 have LK:Hid (_):=(HDK.out w9 _ _ _ HD9.out).load
 clear b9 HD8
 cases hdue:dueS x K.c.hi with
 | false =>
  go_wp2_with ((with_reducible refine C.at_ops ?_);(refine ldI 37 LK.out ?_))
  refine (step_idle HD9.out (i:=8) (by decide) (by decide) ((put_other _ _ (by decide)).trans (E11.out 33 (by decide))) ((put_other _ _ (by decide)).trans (E11.out 34 (by decide))) HNX.out.1 hdue (put_same _ _ _)).mono ?_
  rintro e w10 ⟨rfl,hd⟩
  have HA:Hid (_):=alloc_row w10
  have HST:Hid (_):=store_row (LAt.new 61 w10 row0) (ds:=row0) (rowC_len (C.zs_len 32)) (rowC_one _ _ _ _ _)
  have hdr:=hd.newrow (k:=11) (by decide) (by decide) row0
  have HBZ:Hid (_):=C.below_then BW.out hdr.below
  have c3:=(HC.out _ hdr.below).c3
  have hdu:x.s=false∨x.p+1≤x.g.tail∨x.a.used<s.hi:=by
   unfold dueS at hdue
   rw[HK.out] at hdue
   cases hs:x.s with
   | false=>exact .inl rfl
   | true =>
    by_cases h2:x.p+1≤x.g.tail
    ·exact .inr (.inl h2)
    ·refine .inr (.inr ?_)
     rw[hs,decide_eq_true (show x.g.tail<x.p+1 by omega)] at hdue
     by_cases h3:s.hi≤x.a.used
     ·rw[decide_eq_true h3] at hdue;simp at hdue
     ·omega
  generalize (w10.alloc (.cells row0.toArray 61)).setRow w10.heap.size row0.toArray=wz at *
  clear hd hdr LK HD9 hdue
  cases hs:x.s with
  | false =>
   go_wp2_with ((with_reducible refine C.at_ops ?_);(first | (refine alI 61 HA.out ?_) | (refine stI 61 HST.out ?_)))
   go_ret
   exact⟨rfl,HBZ.out⟩
  | true =>
   by_cases h2:x.p+1≤x.g.tail
   ·go_wp2_with ((with_reducible refine C.at_ops ?_);(first | (refine alI 61 HA.out ?_) | (refine stI 61 HST.out ?_)))
    go_ret
    exact⟨rfl,HBZ.out⟩
   ·have h3:x.a.used<s.hi:=by
     rcases hdu with e | e | e
     ·rw[hs] at e;cases e
     ·exact absurd e h2
     ·exact e
    go_wp2_with ((with_reducible refine C.at_ops ?_);(first | (refine alI 61 HA.out ?_) | (refine stI 61 HST.out ?_)))
    go_ret
    exact⟨rfl,HBZ.out⟩
 | true =>
  have HDUE:Hid (dueS x K.c.hi=true):=hdue
  have HSC:Hid (∀z∈x.ws,1≤z.s):=fun z hz=>by have:=HR.out.sc z hz;have:=HM.out.1;omega
  have HRG:Hid (0≤x.g.tail∧x.g.tail≤x.p∧x.p+1-x.g.tail≤x.a.used):=by
   unfold dueS at hdue
   simp only[Bool.and_eq_true,decide_eq_true_eq] at hdue
   have h1:=HR.out.run.ls hdue.1.1
   have h2:=HR.out.run.us
   have h3:=HOX.out.g.t0
   show _∧_∧_
   omega
  clear hdue LK
  go_wp2_with fail
  go_loopw [16] (fun v W=>∃(j:Nat) (y:Sx) (p:Pt) (pv:Value),v=.int .i64 (j:Int)∧j≤x.L.length+4∧Hid (Rd x j y p)∧Hid (DS w3 W K y x pd (put XX 8 (.pp B pv p)))) (fun v _=>100-(intOf v).toNat)
  case atStart=>exact⟨0,x,⟨1,0,[],0⟩,.slice none 0 0,rfl,by omega,.inl ⟨rfl,rfl,rfl⟩,HD9⟩
  case round =>
   obtain ⟨j,y,p,pv,rfl,hj,HRD,HD⟩:=hrel
   clear HD9
   have hL64:x.L.length≤64:=nx_few HOX.out
   by_cases hlt:j<x.L.length+4
   ·have S:=Rd.step HR.out.run HOX.out HDUE.out HSC.out HRD.out hlt HD.out.okx HD.out.dk
    obtain ⟨kd0,rb,rv,rq,rc,hrl,erow,hkd⟩:=S.row
    have HRL:Hid (rv.length=32):=hrl
    have HSTEP:Hid (∀W,DS w3 W K y x pd (put XX 8 (.pp B pv p))→Calls prog 16 #[qp B,.agg (pdk K).toArray] W fun e w'=>∃v,e=.returned (.tuple #[.agg (rowC kd0 rb rv rq rc).toArray,.int .i64 0])∧DS w3 w' K (stepS K.c.hi y p).2.2.1 x pd (put XX 8 (.pp B v (stepS K.c.hi y p).2.2.2))):=fun W hW=>by
     have hst:=step_at HT3.out hW (by have:=S.nm.1;have:=HNX.out;omega) (by rw[S.nm.2.1];exact HNX.out.1) (i:=8) (by decide) (by decide) S.ok (put_same _ _ _) (fun j h1 h2=>by rw[put_other _ _ (by omega)];exact E11.out j (by omega))
     rw[erow,S.er] at hst
     refine hst.mono ?_
     rintro e w' ⟨v,rfl,hd⟩
     rw[put_put] at hd
     exact⟨v,rfl,hd⟩
    have HRD2:Hid (Rd x (j+1) (stepS K.c.hi y p).2.2.1 (stepS K.c.hi y p).2.2.2):=S.rd
    have hs5:=S.s5
    have hs4:=S.s4
    have hlo:=S.lo
    have hs1:=S.s1
    have HNM:Hid (y.ws.length≤x.ws.length+70):=S.nm.1
    have HN2:Hid ((stepS K.c.hi y p).2.2.1.ws.length≤x.ws.length+70):=S.n2
    clear S erow hrl
    generalize (stepS K.c.hi y p).2.2.1=y' at *
    generalize (stepS K.c.hi y p).2.2.2=p' at *
    have hub:(x.a.used != x.a.used)=false:=bne_self_eq_false _
    have htb:(x.g.tail != x.g.tail)=false:=bne_self_eq_false _
    by_cases c0:j=0
    ·subst c0
     have e1:p=⟨1,0,[],0⟩:=by
      rcases HRD.out with ⟨-,-,e⟩ | h | ⟨e,-,-⟩
      ·exact e
      ·have:=h.ph.j1;omega
      ·omega
     subst e1
     obtain ⟨-,ne,eu,et⟩:(1:Int)≠5∧p'.st≠1∧y'.a.used=x.a.used∧y'.g.tail=x.g.tail:=by
      rcases hs5 with ⟨e,-⟩ | h
      ·cases e
      ·exact h
     obtain ⟨st',pt',pL',pk'⟩:=p'
     have h1':(st' != 1)=true:=by simpa using ne
     have h16:(kd0 == 16)=false:=by
      rw[beq_eq_false_iff_ne]
      intro e
      have:=hkd.1 e
      cases this
     have HLO:Hid (∀z∈y'.ws,1≤z.s):=hlo (by decide) (by decide)
     clear hs5 hs4 hlo hs1 hkd ne HRD
     obtain ⟨pt,pL,pk,ept⟩:∃(pt:Int) (pL:List C.En) (pk:Nat),pt=0∧pL=[]∧pk=0:=⟨_,_,_,rfl,rfl,rfl⟩
     obtain ⟨rfl,rfl,rfl⟩:=ept
     have HP:Hid (C.PtAt wr B 1 0 pv [] 0):=HD.out.pt (i:=8) (by decide) (by decide) (put_same _ _ _)
     have kd:=(HDK.out _ _ _ _ HD.out).dp
     have c0:=(HC.out _ HD.out.below).c0
     have LK:Hid (_):=(HDK.out _ _ _ _ HD.out).load
     go_wp2_with fail
     refine (state_at HP.out).mono ?_
     rintro e w' ⟨rfl,hw'⟩
     rw[hw']
     clear hw' w'
     clear kd c0 HP
     go_wp2_with ((with_reducible refine C.at_ops ?_);(refine ldI 37 LK.out ?_))
     refine (HSTEP.out _ HD.out).mono ?_
     rintro e wb ⟨pv',rfl,hd⟩
     obtain ⟨R,hR⟩:∃B,wb.heap.size=B:=⟨_,rfl⟩
     have HA:Hid (_):=alloc_row wb
     have HST:Hid (_):=store_row (LAt.new 61 wb row0) (ds:=rowC kd0 rb rv rq rc) (rowC_len HRL.out) (rowC_one _ _ _ _ _)
     have hdr:=hd.newrow (k:=11) (by decide) (by decide) (rowC kd0 rb rv rq rc)
     rw[hR] at HA HST hdr
     obtain ⟨wc,hwc⟩:∃W,(wb.alloc (.cells row0.toArray 61)).setRow R (rowC kd0 rb rv rq rc).toArray=W:=⟨_,rfl⟩
     rw[hwc] at HST hdr
     have ck:=(row_c HRL.out (hdr.blk (i:=11) (by decide) (by decide) (put_same _ _ _))).1
     have hdc:=hdr.undo ((put_other _ _ (by decide)).trans (E11.out 11 (by decide)))
     have HDc:Hid (DS w3 wc K y' x pd (put XX 8 (.pp B pv' ⟨st',pt',pL',pk'⟩))):=hdc
     have HP':Hid (C.PtAt wc B st' pt' pv' pL' pk'):=hdc.pt (i:=8) (by decide) (by decide) (put_same _ _ _)
     have kl:=(HDK.out _ _ _ _ hdc).lp
     have ka:=(HDK.out _ _ _ _ hdc).ap
     have kdc:=(HDK.out _ _ _ _ hdc).dp
     clear hdr hdc hd hwc hR HD LK HSTEP
     go_wp2_with ((with_reducible refine C.at_ops ?_);(first | (refine alI 61 HA.out ?_) | (refine stI 61 HST.out ?_)))
     clear HA HST
     refine (state_at HP'.out).mono ?_
     rintro e w' ⟨rfl,hw'⟩
     rw[hw']
     clear hw' w'
     go_wp2_with fail
     refine (p_used HDc.out).mono ?_
     rintro e w' ⟨rfl,hw'⟩
     rw[hw']
     clear hw' w'
     rw[eu]
     go_wp2_with fail
     refine (p_tail HDc.out).mono ?_
     rintro e w' ⟨rfl,rfl⟩
     rw[et]
     go_wp2_with fail
     refine (waits_at HDc.out (by have:=HN2.out;have:=HNX.out;omega) 0 1).mono ?_
     rintro e wd ⟨rfl,bd⟩
     rw[wtB_lo HLO.out]
     have HDd:Hid (DS w3 wd K y' x pd (put XX 8 (.pp B pv' ⟨st',pt',pL',pk'⟩))):=HDc.out.later bd
     clear bd HDc HP' ck kl ka kdc
     go_wp2_with fail
     go_roundw
     case rel=>exact⟨0+1,y',⟨st',pt',pL',pk'⟩,pv',by congr 1,by omega,HRD2,HDd⟩
     case measure=>simp[intOf]
    ·have ne1:p.st≠1:=hs1.elim (fun e=>absurd e c0) id
     obtain ⟨st,pt,pL,pk⟩:=p
     have ne1:st≠1:=ne1
     have hj0:((j:Int) == 0)=false:=by rw[beq_eq_false_iff_ne];omega
     have hj80:(j:Int)<80:=by omega
     by_cases c4:st=4
     ·subst c4
      obtain rfl:kd0=16:=hkd.2 rfl
      have HS4:Hid (y.ws=[]):=hs4 rfl
      obtain ⟨-,ne,eu,et⟩:(4:Int)≠5∧p'.st≠1∧y'.a.used=x.a.used∧y'.g.tail=x.g.tail:=by
       rcases hs5 with ⟨e,-⟩ | h
       ·cases e
       ·exact h
      obtain ⟨st',pt',pL',pk'⟩:=p'
      have h1':(st' != 1)=true:=by simpa using ne
      clear hs5 hs4 hlo hs1 hkd ne HRD ne1
      have hbl:=HM.out.1
      have HP:Hid (C.PtAt wr B 4 pt pv pL pk):=HD.out.pt (i:=8) (by decide) (by decide) (put_same _ _ _)
      have kd:=(HDK.out _ _ _ _ HD.out).dp
      have c0:=(HC.out _ HD.out.below).c0
      have LK:Hid (_):=(HDK.out _ _ _ _ HD.out).load
      go_wp2_with fail
      refine (state_at HP.out).mono ?_
      rintro e w' ⟨rfl,hw'⟩
      rw[hw']
      clear hw' w'
      go_wp2_with fail
      refine (state_at HP.out).mono ?_
      rintro e w' ⟨rfl,hw'⟩
      rw[hw']
      clear hw' w'
      go_wp2_with fail
      refine (waits_at HD.out (by have:=HNM.out;have:=HNX.out;omega) 1 (1+s.bl)).mono ?_
      rintro e wa ⟨rfl,ba⟩
      have ew:wtB y.ws 1 (1+s.bl)=false:=by rw[HS4.out];rfl
      rw[ew]
      have HDa:Hid (DS w3 wa K y x pd (put XX 8 (.pp B pv ⟨4,pt,pL,pk⟩))):=HD.out.later ba
      have LKa:Hid (_):=(HDK.out _ _ _ _ HDa.out).load
      clear ba ew HD LK kd c0 HP
      go_wp2_with ((with_reducible refine C.at_ops ?_);(refine ldI 37 LKa.out ?_))
      refine (HSTEP.out _ HDa.out).mono ?_
      rintro e wb ⟨pv',rfl,hd⟩
      obtain ⟨R,hR⟩:∃B,wb.heap.size=B:=⟨_,rfl⟩
      have HA:Hid (_):=alloc_row wb
      have HST:Hid (_):=store_row (LAt.new 61 wb row0) (ds:=rowC 16 rb rv rq rc) (rowC_len HRL.out) (rowC_one _ _ _ _ _)
      have hdr:=hd.newrow (k:=11) (by decide) (by decide) (rowC 16 rb rv rq rc)
      rw[hR] at HA HST hdr
      obtain ⟨wc,hwc⟩:∃W,(wb.alloc (.cells row0.toArray 61)).setRow R (rowC 16 rb rv rq rc).toArray=W:=⟨_,rfl⟩
      rw[hwc] at HST hdr
      have ck:=(row_c HRL.out (hdr.blk (i:=11) (by decide) (by decide) (put_same _ _ _))).1
      have hdc:=hdr.undo ((put_other _ _ (by decide)).trans (E11.out 11 (by decide)))
      have HDc:Hid (DS w3 wc K y' x pd (put XX 8 (.pp B pv' ⟨st',pt',pL',pk'⟩))):=hdc
      have HP':Hid (C.PtAt wc B st' pt' pv' pL' pk'):=hdc.pt (i:=8) (by decide) (by decide) (put_same _ _ _)
      have kl:=(HDK.out _ _ _ _ hdc).lp
      have ka:=(HDK.out _ _ _ _ hdc).ap
      have kdc:=(HDK.out _ _ _ _ hdc).dp
      clear hdr hdc hd hwc hR HDa LKa HSTEP
      go_wp2_with ((with_reducible refine C.at_ops ?_);(first | (refine alI 61 HA.out ?_) | (refine stI 61 HST.out ?_)))
      clear HA HST
      refine (state_at HP'.out).mono ?_
      rintro e w' ⟨rfl,hw'⟩
      rw[hw']
      clear hw' w'
      go_wp2_with fail
      refine (p_used HDc.out).mono ?_
      rintro e w' ⟨rfl,hw'⟩
      rw[hw']
      clear hw' w'
      rw[eu]
      go_wp2_with fail
      refine (p_tail HDc.out).mono ?_
      rintro e w' ⟨rfl,rfl⟩
      rw[et]
      go_wp2_with fail
      go_roundw
      case rel=>exact⟨j+1,y',⟨st',pt',pL',pk'⟩,pv',by congr 1,by omega,HRD2,HDc⟩
      case measure=>simp[intOf];omega
     ·by_cases c5:st=5
      ·subst c5
       obtain rfl:p'=⟨1,0,[],0⟩:=by
        rcases hs5 with ⟨-,e⟩ | h
        ·exact e
        ·exact absurd rfl h.1
       have h16:(kd0 == 16)=false:=by
        rw[beq_eq_false_iff_ne]
        intro e
        have:=hkd.1 e
        cases this
       clear hs5 hs4 hlo hs1 hkd HRD ne1 c4
       have HP:Hid (C.PtAt wr B 5 pt pv pL pk):=HD.out.pt (i:=8) (by decide) (by decide) (put_same _ _ _)
       have kd:=(HDK.out _ _ _ _ HD.out).dp
       have c0:=(HC.out _ HD.out.below).c0
       have LK:Hid (_):=(HDK.out _ _ _ _ HD.out).load
       go_wp2_with fail
       refine (state_at HP.out).mono ?_
       rintro e w' ⟨rfl,hw'⟩
       rw[hw']
       clear hw' w'
       go_wp2_with fail
       refine (state_at HP.out).mono ?_
       rintro e w' ⟨rfl,hw'⟩
       rw[hw']
       clear hw' w'
       clear kd c0 HP
       go_wp2_with ((with_reducible refine C.at_ops ?_);(refine ldI 37 LK.out ?_))
       refine (HSTEP.out _ HD.out).mono ?_
       rintro e wb ⟨pv',rfl,hd⟩
       obtain ⟨R,hR⟩:∃B,wb.heap.size=B:=⟨_,rfl⟩
       have HA:Hid (_):=alloc_row wb
       have HST:Hid (_):=store_row (LAt.new 61 wb row0) (ds:=rowC kd0 rb rv rq rc) (rowC_len HRL.out) (rowC_one _ _ _ _ _)
       have hdr:=hd.newrow (k:=11) (by decide) (by decide) (rowC kd0 rb rv rq rc)
       rw[hR] at HA HST hdr
       obtain ⟨wc,hwc⟩:∃W,(wb.alloc (.cells row0.toArray 61)).setRow R (rowC kd0 rb rv rq rc).toArray=W:=⟨_,rfl⟩
       rw[hwc] at HST hdr
       have ck:=(row_c HRL.out (hdr.blk (i:=11) (by decide) (by decide) (put_same _ _ _))).1
       have hdc:=hdr.undo ((put_other _ _ (by decide)).trans (E11.out 11 (by decide)))
       have HDc:Hid (DS w3 wc K y' x pd (put XX 8 (.pp B pv' ⟨1,0,[],0⟩))):=hdc
       have HP':Hid (C.PtAt wc B 1 0 pv' [] 0):=hdc.pt (i:=8) (by decide) (by decide) (put_same _ _ _)
       have kl:=(HDK.out _ _ _ _ hdc).lp
       have ka:=(HDK.out _ _ _ _ hdc).ap
       have kdc:=(HDK.out _ _ _ _ hdc).dp
       clear hdr hdc hd hwc hR HD LK HSTEP
       go_wp2_with ((with_reducible refine C.at_ops ?_);(first | (refine alI 61 HA.out ?_) | (refine stI 61 HST.out ?_)))
       clear HA HST
       refine (state_at HP'.out).mono ?_
       rintro e w' ⟨rfl,hw'⟩
       rw[hw']
       clear hw' w'
       go_wp2_with fail
       go_roundw
       case rel=>exact⟨j+1,y',⟨1,0,[],0⟩,pv',by congr 1,by omega,HRD2,HDc⟩
       case measure=>simp[intOf];omega
      ·obtain ⟨-,ne,eu,et⟩:st≠5∧p'.st≠1∧y'.a.used=x.a.used∧y'.g.tail=x.g.tail:=by
        rcases hs5 with ⟨e,-⟩ | h
        ·exact absurd e c5
        ·exact h
       obtain ⟨st',pt',pL',pk'⟩:=p'
       have h1':(st' != 1)=true:=by simpa using ne
       have h16:(kd0 == 16)=false:=by
        rw[beq_eq_false_iff_ne]
        intro e
        exact c4 (hkd.1 e)
       have HLO:Hid (∀z∈y'.ws,1≤z.s):=hlo c5 c4
       have h4:(st == 4)=false:=by rw[beq_eq_false_iff_ne];exact c4
       have h4':(st != 4)=true:=by simpa using c4
       have h5':(st != 5)=true:=by simpa using c5
       have h1:(st != 1)=true:=by simpa using ne1
       clear hs5 hs4 hlo hs1 hkd ne HRD ne1 c4 c5
       have HP:Hid (C.PtAt wr B st pt pv pL pk):=HD.out.pt (i:=8) (by decide) (by decide) (put_same _ _ _)
       have kd:=(HDK.out _ _ _ _ HD.out).dp
       have c0:=(HC.out _ HD.out.below).c0
       have LK:Hid (_):=(HDK.out _ _ _ _ HD.out).load
       go_wp2_with fail
       refine (state_at HP.out).mono ?_
       rintro e w' ⟨rfl,hw'⟩
       rw[hw']
       clear hw' w'
       go_wp2_with fail
       refine (state_at HP.out).mono ?_
       rintro e w' ⟨rfl,hw'⟩
       rw[hw']
       clear hw' w'
       clear kd c0 HP
       go_wp2_with ((with_reducible refine C.at_ops ?_);(refine ldI 37 LK.out ?_))
       refine (HSTEP.out _ HD.out).mono ?_
       rintro e wb ⟨pv',rfl,hd⟩
       obtain ⟨R,hR⟩:∃B,wb.heap.size=B:=⟨_,rfl⟩
       have HA:Hid (_):=alloc_row wb
       have HST:Hid (_):=store_row (LAt.new 61 wb row0) (ds:=rowC kd0 rb rv rq rc) (rowC_len HRL.out) (rowC_one _ _ _ _ _)
       have hdr:=hd.newrow (k:=11) (by decide) (by decide) (rowC kd0 rb rv rq rc)
       rw[hR] at HA HST hdr
       obtain ⟨wc,hwc⟩:∃W,(wb.alloc (.cells row0.toArray 61)).setRow R (rowC kd0 rb rv rq rc).toArray=W:=⟨_,rfl⟩
       rw[hwc] at HST hdr
       have ck:=(row_c HRL.out (hdr.blk (i:=11) (by decide) (by decide) (put_same _ _ _))).1
       have hdc:=hdr.undo ((put_other _ _ (by decide)).trans (E11.out 11 (by decide)))
       have HDc:Hid (DS w3 wc K y' x pd (put XX 8 (.pp B pv' ⟨st',pt',pL',pk'⟩))):=hdc
       have HP':Hid (C.PtAt wc B st' pt' pv' pL' pk'):=hdc.pt (i:=8) (by decide) (by decide) (put_same _ _ _)
       have kl:=(HDK.out _ _ _ _ hdc).lp
       have ka:=(HDK.out _ _ _ _ hdc).ap
       have kdc:=(HDK.out _ _ _ _ hdc).dp
       clear hdr hdc hd hwc hR HD LK HSTEP
       go_wp2_with ((with_reducible refine C.at_ops ?_);(first | (refine alI 61 HA.out ?_) | (refine stI 61 HST.out ?_)))
       clear HA HST
       refine (state_at HP'.out).mono ?_
       rintro e w' ⟨rfl,hw'⟩
       rw[hw']
       clear hw' w'
       go_wp2_with fail
       refine (p_used HDc.out).mono ?_
       rintro e w' ⟨rfl,hw'⟩
       rw[hw']
       clear hw' w'
       rw[eu]
       go_wp2_with fail
       refine (p_tail HDc.out).mono ?_
       rintro e w' ⟨rfl,rfl⟩
       rw[et]
       go_wp2_with fail
       refine (waits_at HDc.out (by have:=HN2.out;have:=HNX.out;omega) 0 1).mono ?_
       rintro e wd ⟨rfl,bd⟩
       rw[wtB_lo HLO.out]
       have HDd:Hid (DS w3 wd K y' x pd (put XX 8 (.pp B pv' ⟨st',pt',pL',pk'⟩))):=HDc.out.later bd
       clear bd HDc HP' ck kl ka kdc
       go_wp2_with fail
       go_roundw
       case rel=>exact⟨j+1,y',⟨st',pt',pL',pk'⟩,pv',by congr 1,by omega,HRD2,HDd⟩
       case measure=>simp[intOf];omega
   ·have ej:j=x.L.length+4:=by omega
    obtain ⟨e1,HFN⟩:p=⟨1,0,[],0⟩∧Hid (Fn x y):=by
     rcases HRD.out with ⟨e,-⟩ | h | ⟨-,e,h⟩
     ·omega
     ·have:=h.ph.j2;omega
     ·exact⟨e,h⟩
    subst e1
    have HP:Hid (C.PtAt wr B 1 0 pv [] 0):=HD.out.pt (i:=8) (by decide) (by decide) (put_same _ _ _)
    have hj0:((j:Int) == 0)=false:=by rw[beq_eq_false_iff_ne];omega
    have hj80:(j:Int)<80:=by omega
    have HJ4:Hid (((j:Int) == 4+(x.L.length:Int))=true):=by show _=true;rw[beq_iff_eq];omega
    have HWL:Hid (∀k (e:C.En),x.L[k]?=some e→e.v.length=32):=fun k e he=>(HOX.out.k.wf e (List.mem_of_getElem? he)).len
    have HLD0:Hid (∀W (e:C.En),e∈x.L→DS w3 W K y x pd (put XX 8 (.pp B pv ⟨1,0,[],0⟩))→Calls prog 18 #[qp K.dp,.agg (ccells s).toArray,.int .i64 e.b] W fun e' w'=>e'=.returned (.tuple #[.agg (U8 e.v).toArray,.int .i64 0])∧Below W.heap.size W w'):=fun W e he hW=>by
     have hl:=p_load HT3.out hW e.b
     have h1:=HFN.out.ld e he
     have h2:y.g.sz=x.g.sz:=by unfold Lg.sz;rw[HFN.out.cf]
     rw[HK.out,h2] at hl
     rw[HR.out.cf] at h1
     rw[h1] at hl
     exact hl
    clear HRD hlt HDUE HSC ej hj
    go_wp2_with fail
    refine (state_at HP.out).mono ?_
    rintro e w' ⟨rfl,hw'⟩
    rw[hw']
    clear hw' w' HP hj0 hj80
    go_wp2_with fail
    obtain ⟨wo,HDo⟩:∃wo,Hid (DS w3 wo K y x pd (put XX 8 (.pp B pv ⟨1,0,[],0⟩))):=⟨_,HD⟩
    go_loopw [20] (fun v W=>∃k:Nat,v=.int .i64 (k:Int)∧k≤x.L.length∧Hid (DS w3 W K y x pd (put XX 8 (.pp B pv ⟨1,0,[],0⟩)))) (fun v _=>x.L.length-(intOf v).toNat)
    case atStart=>exact⟨0,rfl,by omega,HD⟩
    case round =>
     obtain ⟨k,rfl,hk,HDk⟩:=hrel
     clear HD HDo
     by_cases hk2:k<x.L.length
     ·obtain ⟨e,he⟩:∃e,x.L[k]?=some e:=⟨_,List.getElem?_eq_getElem hk2⟩
      obtain ⟨g,og,ehq,-⟩:=(HHD.out _ _ _ _ HDk.out).cells (by omega)
      subst ehq
      have HE:Hid (x.L[k]?=some e):=he
      have HEL:Hid (e.v.length=32):=HWL.out k e he
      have HLD:Hid (∀W,DS w3 W K y x pd (put XX 8 (.pp B pv ⟨1,0,[],0⟩))→Calls prog 18 #[qp K.dp,.agg (ccells s).toArray,.int .i64 e.b] W fun e' w'=>e'=.returned (.tuple #[.agg (U8 e.v).toArray,.int .i64 0])∧Below W.heap.size W w'):=fun W hW=>HLD0.out W e (List.mem_of_getElem? he) hW
      have i1:(k:Int)<(x.L.length:Int):=by omega
      have i0:(0:Int)≤(k:Int):=by omega
      clear he
      go_wp2_with fail
      have HDa:Hid (DS w3 wr.drew K y x pd (put XX 8 (.pp B pv ⟨1,0,[],0⟩))):=HDk.out.later (C.below_drawn 1)
      clear HDk
      refine wp_region_noPanic ?_
      refine wp_region_held_drew (S:=fun W=>DS w3 W K y x pd (put XX 8 (.pp B pv ⟨1,0,[],0⟩))) (by kernel_rfl) HDa.out (fun hHeld=>?_)
      generalize wr.drew=wa at *
      refine tk 0 hHeld ?_
      refine tkl 1 hHeld (fun _ s=>(HDK.out _ _ _ _ s).dp) ?_
      refine tkm 2 hHeld (fun _ s=>(HC.out _ s.below).load23) ?_
      refine tk 3 hHeld ?_
      refine tk 4 hHeld ?_
      refine tk 5 hHeld ?_
      refine tk 6 hHeld ?_
      refine tkl 7 hHeld (fun _ s=>(HHD.out _ _ _ _ s).c0 HE.out) ?_
      refine wpAnyH_ready (rs:=[8,12]) (by kernel_rfl) (by simp) ?_
      refine AllReadyH.cons (by simp;rfl) (fun Kc hKc=>?_) (AllReadyH.cons (by simp;rfl) (fun Kc hKc=>?_) AllReadyH.nil)
      ·go_simp
       refine (HLD.out _ hHeld).mono ?_
       rintro e' wl ⟨rfl,bl⟩
       have HDl:Hid (DS w3 wl K y x pd (put XX 8 (.pp B pv ⟨1,0,[],0⟩))):=HDa.out.later bl
       clear bl HDa
       refine hKc.out _ _ (HDl.out) (fun hHeld=>?_)
       clear hKc Kc
       refine tk 9 hHeld ?_
       refine tk 10 hHeld ?_
       refine tk 11 hHeld ?_
       refine tkr 12 fun Kc hKc=>?_
       obtain ⟨R,hR⟩:∃B,wl.heap.size=B:=⟨_,rfl⟩
       have hdv:=HDl.out.newblk (k:=11) (by decide) (U8 (zs 32)).toArray 51
       have hal:=allocV wl
       rw[hR] at hdv hal
       refine C.step_alloc_is (by rfl) 51 rfl hal ?_
       simp only[Act.put,zA,zB,zC]
       have HDv:Hid (DS w3 (wl.alloc (.cells (U8 (zs 32)).toArray 51)) K y x pd (put (put XX 8 (.pp B pv ⟨1,0,[],0⟩)) 11 (.blk R 51 (U8 (zs 32)).toArray))):=hdv
       clear hdv hal hR HDl
       generalize wl.alloc (.cells (U8 (zs 32)).toArray 51)=wv at *
       refine hKc.out _ _ (HDv.out.undo ((put_other _ _ (by decide)).trans (E11.out 11 (by decide)))) (fun hHeld=>?_)
       clear hKc Kc
       refine tkr 13 fun Kc hKc=>?_
       have hst:=VAt.store (HDv.out.blk (i:=11) (by decide) (by decide) (put_same _ _ _)) (zs_len 32) HEL.out
       have hds:=HDv.out.blkput (j:=11) (by decide) (by decide) (put_same _ _ _) (U8 e.v).toArray
       rw[put_put] at hds
       refine C.step_store_is (by rfl) 51 rfl rfl rfl hst ?_
       simp only[Act.put]
       have HDs:Hid (DS w3 (wv.setRow R (U8 e.v).toArray) K y x pd (put (put XX 8 (.pp B pv ⟨1,0,[],0⟩)) 11 (.blk R 51 (U8 e.v).toArray))):=hds
       clear hds hst HDv
       generalize wv.setRow R (U8 e.v).toArray=wt at *
       refine hKc.out _ _ (HDs.out.undo ((put_other _ _ (by decide)).trans (E11.out 11 (by decide)))) (fun hHeld=>?_)
       clear hKc Kc
       refine tk 14 hHeld ?_
       clear hHeld
       refine wpAnyH_done (by kernel_rfl) (NoPanic.normal ?_) _
       go_wp2_with fail
       have HDb:Hid (DS w3 wt.drew K y x pd (put (put XX 8 (.pp B pv ⟨1,0,[],0⟩)) 11 (.blk R 51 (U8 e.v).toArray))):=HDs.out.later (C.below_drawn 1)
       clear HDs
       refine wp_region_noPanic ?_
       refine wp_region_held_drew (S:=fun W=>DS w3 W K y x pd (put (put XX 8 (.pp B pv ⟨1,0,[],0⟩)) 11 (.blk R 51 (U8 e.v).toArray))) (by kernel_rfl) HDb.out (fun hHeld=>?_)
       generalize wt.drew=wn at *
       refine tk 0 hHeld ?_
       refine tk 1 hHeld ?_
       refine tk 2 hHeld ?_
       refine tkm 3 hHeld (fun _ s=>load_blkV (s.blk (i:=11) (by decide) (by decide) (put_same _ _ _)) HEL.out) ?_
       refine tk 4 hHeld ?_
       refine tk 5 hHeld ?_
       refine tk 6 hHeld ?_
       refine tk 7 hHeld ?_
       refine tkm 8 hHeld (fun _ s=>(HHD.out _ _ _ _ (s.undo ((put_other _ _ (by decide)).trans (E11.out 11 (by decide))))).loadv HE.out) ?_
       refine tkq 9 hHeld eqg_val (fun w=>neqV_same w e.v HEL.out) ?_
       refine tk 10 hHeld ?_
       clear hHeld
       refine wpAnyH_done (by kernel_rfl) (NoPanic.normal ?_) _
       go_wp2_with fail
       go_roundw
       case rel=>exact⟨k+1,by congr 1,by omega,HDb.out.undo ((put_other _ _ (by decide)).trans (E11.out 11 (by decide)))⟩
       case measure=>simp[intOf];omega
      ·obtain ⟨R,hR⟩:∃B,wa.heap.size=B:=⟨_,rfl⟩
       have hdv:=HDa.out.newblk (k:=11) (by decide) (U8 (zs 32)).toArray 51
       have hal:=allocV wa
       rw[hR] at hdv hal
       refine C.step_alloc_is (by rfl) 51 rfl hal ?_
       simp only[Act.put,zA,zB,zC]
       have HDv:Hid (DS w3 (wa.alloc (.cells (U8 (zs 32)).toArray 51)) K y x pd (put (put XX 8 (.pp B pv ⟨1,0,[],0⟩)) 11 (.blk R 51 (U8 (zs 32)).toArray))):=hdv
       clear hdv hal hR HDa
       generalize wa.alloc (.cells (U8 (zs 32)).toArray 51)=wv at *
       refine hKc.out _ _ (HDv.out.undo ((put_other _ _ (by decide)).trans (E11.out 11 (by decide)))) (fun hHeld=>?_)
       clear hKc Kc
       refine tkr 8 fun Kc hKc=>?_
       go_simp
       refine (HLD.out _ hHeld).mono ?_
       rintro e' wl ⟨rfl,bl⟩
       have HDl:Hid (DS w3 wl K y x pd (put (put XX 8 (.pp B pv ⟨1,0,[],0⟩)) 11 (.blk R 51 (U8 (zs 32)).toArray))):=HDv.out.later bl
       clear bl HDv
       refine hKc.out _ _ (HDl.out.undo ((put_other _ _ (by decide)).trans (E11.out 11 (by decide)))) (fun hHeld=>?_)
       clear hKc Kc
       refine tk 9 hHeld ?_
       refine tk 10 hHeld ?_
       refine tk 11 hHeld ?_
       refine tkr 13 fun Kc hKc=>?_
       have hst:=VAt.store (HDl.out.blk (i:=11) (by decide) (by decide) (put_same _ _ _)) (zs_len 32) HEL.out
       have hds:=HDl.out.blkput (j:=11) (by decide) (by decide) (put_same _ _ _) (U8 e.v).toArray
       rw[put_put] at hds
       refine C.step_store_is (by rfl) 51 rfl rfl rfl hst ?_
       simp only[Act.put]
       have HDs:Hid (DS w3 (wl.setRow R (U8 e.v).toArray) K y x pd (put (put XX 8 (.pp B pv ⟨1,0,[],0⟩)) 11 (.blk R 51 (U8 e.v).toArray))):=hds
       clear hds hst HDl
       generalize wl.setRow R (U8 e.v).toArray=wt at *
       refine hKc.out _ _ (HDs.out.undo ((put_other _ _ (by decide)).trans (E11.out 11 (by decide)))) (fun hHeld=>?_)
       clear hKc Kc
       refine tk 14 hHeld ?_
       clear hHeld
       refine wpAnyH_done (by kernel_rfl) (NoPanic.normal ?_) _
       go_wp2_with fail
       have HDb:Hid (DS w3 wt.drew K y x pd (put (put XX 8 (.pp B pv ⟨1,0,[],0⟩)) 11 (.blk R 51 (U8 e.v).toArray))):=HDs.out.later (C.below_drawn 1)
       clear HDs
       refine wp_region_noPanic ?_
       refine wp_region_held_drew (S:=fun W=>DS w3 W K y x pd (put (put XX 8 (.pp B pv ⟨1,0,[],0⟩)) 11 (.blk R 51 (U8 e.v).toArray))) (by kernel_rfl) HDb.out (fun hHeld=>?_)
       generalize wt.drew=wn at *
       refine tk 0 hHeld ?_
       refine tk 1 hHeld ?_
       refine tk 2 hHeld ?_
       refine tkm 3 hHeld (fun _ s=>load_blkV (s.blk (i:=11) (by decide) (by decide) (put_same _ _ _)) HEL.out) ?_
       refine tk 4 hHeld ?_
       refine tk 5 hHeld ?_
       refine tk 6 hHeld ?_
       refine tk 7 hHeld ?_
       refine tkm 8 hHeld (fun _ s=>(HHD.out _ _ _ _ (s.undo ((put_other _ _ (by decide)).trans (E11.out 11 (by decide))))).loadv HE.out) ?_
       refine tkq 9 hHeld eqg_val (fun w=>neqV_same w e.v HEL.out) ?_
       refine tk 10 hHeld ?_
       clear hHeld
       refine wpAnyH_done (by kernel_rfl) (NoPanic.normal ?_) _
       go_wp2_with fail
       go_roundw
       case rel=>exact⟨k+1,by congr 1,by omega,HDb.out.undo ((put_other _ _ (by decide)).trans (E11.out 11 (by decide)))⟩
       case measure=>simp[intOf];omega
     ·have ek:k=x.L.length:=by omega
      subst ek
      have hdt:0≤x.g.tail∧x.g.tail≤x.p∧x.p+1-x.g.tail≤x.a.used:=HRG.out
      have hub:=used_bounds HOX.out
      have hj4:=HJ4.out
      have kk:=(HDK.out _ _ _ _ HDk.out).kp
      have kd:=(HDK.out _ _ _ _ HDk.out).dp
      have kl:=(HDK.out _ _ _ _ HDk.out).lp
      have ka:=(HDK.out _ _ _ _ HDk.out).ap
      clear HHD HLD0 HWL
      go_wp2_with fail
      refine (p_len HDk.out).mono ?_
      rintro e w' ⟨rfl,hw'⟩
      rw[hw',show (y.L.length:Int)=0 by rw[HFN.out.L];rfl]
      clear hw' w'
      go_wp2_with fail
      refine (p_waiting HDk.out (by rw[HFN.out.ws];exact Nat.zero_le _)).mono ?_
      rintro e wq ⟨gq,vq,rfl,-,bq⟩
      rw[show y.ws.length=0 by rw[HFN.out.ws];rfl]
      have HDq:Hid (DS w3 wq K y x pd (put XX 8 (.pp B pv ⟨1,0,[],0⟩))):=HDk.out.later bq
      have kl2:=(HDK.out _ _ _ _ HDq.out).lp
      have ka2:=(HDK.out _ _ _ _ HDq.out).ap
      clear bq HDk kk kd kl ka
      go_wp2_with fail
      refine (p_tail HDq.out).mono ?_
      rintro e w' ⟨rfl,rfl⟩
      rw[HFN.out.ta]
      have hpb:((x.p+1) == (x.p+1))=true:=by simp
      go_wp2_with fail
      refine (p_used HDq.out).mono ?_
      rintro e w' ⟨rfl,hw'⟩
      rw[hw',HFN.out.us]
      clear hw' w'
      have hu2:(x.a.used-(x.p+1-x.g.tail) == x.a.used-(x.p+1-x.g.tail))=true:=by simp
      have HBZ:Hid (Below w.heap.size w wq):=C.below_then BW.out HDq.out.below
      go_wp2
      go_ret
      exact⟨rfl,HBZ.out⟩
theorem pointRound_any (s:Sup)(ht:Tab w){p:Option Addr}{m c:Nat}{os:List Opv}(hS:ScIn w p m os):Calls prog 4 #[.agg (ccells s).toArray,.slice p m c] w fun e w'=>e=.returned (.bool true)∧Below w.heap.size w w':=by
 by_cases hc:MayC s
 ·exact pointRound_yes s hc ht hS
 ·exact pointRound_no s hc ht p m c
end
end Go.Proofs.YtcdjepkhdjpjcaaGreatDoor.Q
