import Derived.Test.YtcdjepkhdjpjcaaGreatDoorV37
set_option maxHeartbeats 20000000
set_option maxRecDepth 100000
namespace Go.Proofs.YtcdjepkhdjpjcaaGreatDoor.Q
open Go.Proofs.Tryz
open Go.RowKit
theorem at_wrap {a:Int}{L n:Nat}(hL:L≤64)(h:1+((a.tmod (3+(L:Int))+3+(L:Int)).tmod (3+(L:Int)))=(n:Int)):RowKit.wrap64 (1+(RowKit.wrap64 (RowKit.wrap64 (a.tmod (3+(L:Int))+3)+(L:Int))).tmod (3+(L:Int)))=(n:Int):=by
 have h1:=Int.tmod_lt_of_pos a (show 0<3+(L:Int) by omega)
 have h2:=Int.lt_tmod_of_pos a (show 0<3+(L:Int) by omega)
 have h3:=Int.tmod_lt_of_pos (a.tmod (3+(L:Int))+3+(L:Int)) (show 0<3+(L:Int) by omega)
 have h4:=Int.tmod_nonneg (3+(L:Int)) (show 0≤a.tmod (3+(L:Int))+3+(L:Int) by omega)
 rw[IntWalk.wrap64_in (a.tmod (3+(L:Int))+3) (by omega),IntWalk.wrap64_in (a.tmod (3+(L:Int))+3+(L:Int)) (by omega),h,IntWalk.wrap64_in (n:Int) (by omega)]
theorem build_v9 (w:World):(Instr.build 51 #[(0,.int .u8 9),(1,.int .u8 9)]).run prog w=.ok (.agg (U8 (9 :: 9 :: C.zs 30)).toArray) w:=run_build w 51 _ _ (by kernel_rfl)
section
variable {w0 w:World} {K:Ks} {x y:Sx} {pd:List Cm} {X:Nat→Th}
theorem DS.pend (h:DS w0 w K x y pd X):∃q c,w.cell? ⟨K.P,23,none⟩=some (.slice q pd.length c):=by
 obtain ⟨v,h,G,hp⟩:=h.desk
 obtain ⟨us,hr,-⟩:=hp.ex
 obtain ⟨p,c,rfl⟩:=C.O.own_shape hr
 exact⟨p,c,by rw[cell_of_row _ _ _ _ _ _ h];rfl⟩
end
section
variable {w:World}
theorem pointKeeps_no (s:Sup)(hc:¬MayC s)(ht:Tab w)(p:Option Addr)(m c:Nat)(at':Int)(sm:Bool):Calls prog 3 #[.agg (ccells s).toArray,.slice p m c,.int .i64 at',.bool sm] w fun e w'=>e=.returned (.bool true)∧Below w.heap.size w w':=by
 obtain ⟨BC,hBC⟩:∃B,w.heap.size=B:=⟨_,rfl⟩
 obtain ⟨w1,hw1⟩:∃W,w.alloc (.cells (ccells s).toArray 23)=W:=⟨_,rfl⟩
 have B1:Hid (Below w.heap.size w w1):=by rw[← hw1];exact C.below_alloc w _
 have HC1:Hid (∀W,Below w1.heap.size w1 W→CAt W BC s):=fun W hb=>by
  have h:CAt w1 BC s:=by rw[← hw1,← hBC];exact LAt.new 23 w (ccells s)
  exact LAt.later h hb
 have HT:Hid (Tab w1):=ht.later B1.out
 clear ht
 go_enter func3,ntmps3
 go_wp2_with fail
 clear hw1 hBC
 refine (awake_is HT.out).mono ?_
 rintro e w2 ⟨rfl,b2⟩
 have B2:Hid (Below w1.heap.size w1 w2):=b2
 have L2:Hid (_):=(HC1.out w2 b2).load23
 clear b2
 go_wp2_with ((with_reducible refine C.at_ops ?_);(refine ldI 23 L2.out ?_))
 refine (rmay_any s w2).mono ?_
 rintro e w3 ⟨rfl,b3⟩
 have B3:Hid (Below w1.heap.size w1 w3):=C.below_then B2.out b3
 clear b3 L2 B2
 rw[decide_eq_false hc]
 go_wp2_with fail
 refine (awake_is (HT.out.later B3.out)).mono ?_
 rintro e w4 ⟨rfl,b4⟩
 have B4:Hid (Below w.heap.size w w4):=C.below_then B1.out (C.below_then B3.out b4)
 clear b4
 go_wp2
 go_ret
 exact⟨rfl,B4.out⟩
theorem pointKeeps_yes (s:Sup)(hc:MayC s)(ht:Tab w){p:Option Addr}{m c:Nat}{os:List Opv}(hS:ScIn w p m os)(at':Int)(sm:Bool):Calls prog 3 #[.agg (ccells s).toArray,.slice p m c,.int .i64 at',.bool sm] w fun e w'=>e=.returned (.bool true)∧Below w.heap.size w w':=by
 obtain ⟨BC,hBC⟩:∃B,w.heap.size=B:=⟨_,rfl⟩
 obtain ⟨w1,hw1⟩:∃W,w.alloc (.cells (ccells s).toArray 23)=W:=⟨_,rfl⟩
 have B1:Hid (Below w.heap.size w w1):=by rw[← hw1];exact C.below_alloc w _
 have HC1:Hid (∀W,Below w1.heap.size w1 W→CAt W BC s):=fun W hb=>by
  have h:CAt w1 BC s:=by rw[← hw1,← hBC];exact LAt.new 23 w (ccells s)
  exact LAt.later h hb
 have HT:Hid (Tab w1):=ht.later B1.out
 clear ht
 go_enter func3,ntmps3
 go_wp2_with fail
 clear hw1 hBC
 refine (awake_is HT.out).mono ?_
 rintro e w2 ⟨rfl,b2⟩
 have B2:Hid (Below w1.heap.size w1 w2):=b2
 have L2:Hid (_):=(HC1.out w2 b2).load23
 clear b2
 go_wp2_with ((with_reducible refine C.at_ops ?_);(refine ldI 23 L2.out ?_))
 refine (rmay_any s w2).mono ?_
 rintro e w3 ⟨rfl,b3⟩
 have B3:Hid (Below w1.heap.size w1 w3):=C.below_then B2.out b3
 clear b3 L2 B2
 rw[decide_eq_true hc]
 have HC:Hid (∀W,Below w3.heap.size w3 W→CAt W BC s):=fun W hb=>HC1.out W (C.below_then B3.out hb)
 have HT3:Hid (Tab w3):=HT.out.later B3.out
 have BW:Hid (Below w.heap.size w w3):=C.below_then B1.out B3.out
 have HS:Hid (ScIn w3 p m os):=hS.later BW.out
 have HM:Hid (MayC s):=hc
 have L3:Hid (_):=(HC.out w3 (Below.refl _ _)).load23
 clear HC1 HT B1 B3 hS hc
 go_wp2_with ((with_reducible refine C.at_ops ?_);(refine ldI 23 L3.out ?_))
 refine (run_ok s HM.out HT3.out HS.out).mono ?_
 rintro e w4 ⟨K,rfl,hK,x,pd,kr,hkr,hR,hd⟩
 have HK:Hid (K.c=s):=hK
 have HR:Hid (Ran s x pd kr):=hR
 have HKR:Hid (kr≤40):=hkr
 have HD4:Hid (DS w3 w4 K x x pd (fun _=>.no)):=hd
 clear hd hK hR hkr L3 HS
 go_wp2_with fail
 refine (new_pt w4).mono ?_
 rintro e w5 ⟨rfl,hw5⟩
 obtain ⟨B,hB⟩:∃B,w4.heap.size=B:=⟨_,rfl⟩
 have HD5:Hid (DS w3 w5 K x x pd (put (fun _=>.no) 8 (.pp B (.slice none 0 0) ⟨1,0,[],0⟩))):=by rw[hw5,← hB];exact HD4.out.newpt (by decide)
 rw[hB]
 clear hw5 hB HD4
 have LK:Hid (_):=HD5.out.ldk
 obtain ⟨DB,hDB⟩:∃B,w5.heap.size=B:=⟨_,rfl⟩
 have HA:Hid (_):=alloc_dk w5
 have HST:Hid (_):=store_dk w5 K
 have hd6:=HD5.out.newblk (k:=9) (by decide) (pdk K).toArray 37
 obtain ⟨w6,hw6⟩:∃W,w5.alloc (.cells (pdk K).toArray 37)=W:=⟨_,rfl⟩
 rw[hDB] at HA HST hd6
 rw[hw6] at HST hd6
 have HD6:Hid (DS w3 w6 K x x pd (put (put (fun _=>.no) 8 (.pp B (.slice none 0 0) ⟨1,0,[],0⟩)) 9 (.blk DB 37 (pdk K).toArray))):=hd6
 have k6:=DkIn.kp (B:=DB) (hd6.blk (i:=9) (by decide) (by decide) rfl)
 clear hd6 hw6 hDB HD5
 go_wp2_with ((with_reducible refine C.at_ops ?_);(first | (refine ldI 37 LK.out ?_) | (refine alI 37 HA.out ?_) | (refine stI 37 HST.out ?_)))
 clear LK HA HST
 refine (p_entries HD6.out).mono ?_
 rintro e w7 ⟨hv,rfl,ho,b7⟩
 obtain ⟨hq,hcp,rfl,-⟩:=C.EOwn.in ho HD6.out.okx.k.wf
 have hd7:=HD6.out.fresh b7 (k:=10) (by decide) (u:=.row 54 34 (.slice hq x.L.length hcp) x.L.length (C.EC x.L)) (fun _=>own_zero ho) (fun b hb=>(World.ownsRow.lt ho b hb).1)
 have HX:Hid (∃XX:Nat→Th,XX 9=.blk DB 37 (pdk K).toArray∧XX 10=.row 54 34 (.slice hq x.L.length hcp) x.L.length (C.EC x.L)∧(∀j,11≤j→XX j=.no)∧DS w3 w7 K x x pd (put XX 8 (.pp B (.slice none 0 0) ⟨1,0,[],0⟩))):=by
  refine⟨put (put (fun _=>.no) 9 (.blk DB 37 (pdk K).toArray)) 10 (.row 54 34 (.slice hq x.L.length hcp) x.L.length (C.EC x.L)),rfl,rfl,fun j hj=>by rw[put_other _ _ (by omega),put_other _ _ (by omega)],?_⟩
  rw[put_comm _ _ _ (show 10≠8 by decide),put_comm _ _ _ (show 9≠8 by decide)]
  exact hd7
 obtain ⟨XX,e9,e10,e11,hd8⟩:=HX.out
 have E9:Hid (XX 9=.blk DB 37 (pdk K).toArray):=e9
 have E10:Hid (XX 10=.row 54 34 (.slice hq x.L.length hcp) x.L.length (C.EC x.L)):=e10
 have E11:Hid (∀j,11≤j→XX j=.no):=e11
 have HD7:Hid (DS w3 w7 K x x pd (put XX 8 (.pp B (.slice none 0 0) ⟨1,0,[],0⟩))):=hd8
 have HDK:Hid (∀W y p pv,DS w3 W K y x pd (put XX 8 (.pp B pv p))→DkIn W DB K):=fun W y p pv h=>h.blk (i:=9) (by decide) (by decide) ((put_other _ _ (by decide)).trans E9.out)
 have HHD:Hid (∀W y p pv,DS w3 W K y x pd (put XX 8 (.pp B pv p))→C.EIn W hq x.L.length x.L):=fun W y p pv h=>by
  have h1:=h.rowin (i:=10) (by decide) (by decide) ((put_other _ _ (by decide)).trans E10.out)
  have h2:C.EOwn 54 W 0 (.slice hq x.L.length hcp) x.L:=h1
  obtain ⟨q',c',e',hE,-⟩:=C.EOwn.in h2 HD7.out.okx.k.wf
  cases e'
  exact hE
 have HOX:Hid x.Ok:=hd8.okx
 have hp0:=hd8.okx.p0
 clear hd7 hd8 HX HD6 b7 ho e9 e10 e11
 have LK:Hid (_):=(HDK.out w7 _ _ _ HD7.out).load
 have HNX:Hid (x.a.next≤800∧x.ws.length≤2000∧x.c≤1500∧x.g.fin≤1500):=by have:=HR.out.nx;have:=HR.out.ws;have:=HKR.out;have:=HR.out.c;have:=HR.out.fn;show _∧_;omega
 clear k6
 go_wp2_with ((with_reducible refine C.at_ops ?_);(refine ldI 37 LK.out ?_))
 refine (enabled_idle HD7.out (by have:=HNX.out;omega) (i:=8) (by decide) (by decide) (put_same _ _ _)).mono ?_
 rintro e w8 ⟨rfl,b8⟩
 have HD8:Hid (DS w3 w8 K x x pd (put XX 8 (.pp B (.slice none 0 0) ⟨1,0,[],0⟩))):=HD7.out.later b8
 obtain ⟨pq,pc,cP⟩:=HD8.out.pend
 have HBZ:Hid (Below w.heap.size w w8):=C.below_then BW.out HD8.out.below
 clear b8 HD7 LK
 cases hdue:dueS x K.c.hi with
 | false =>
  go_wp2
  go_ret
  exact⟨rfl,HBZ.out⟩
 | true =>
  by_cases hl0:x.L.length=0
  ·rw[hl0]
   go_wp2
   go_ret
   exact⟨rfl,HBZ.out⟩
  ·have hl1:((x.L.length:Int) == 0)=false:=by rw[beq_eq_false_iff_ne];omega
   by_cases hp1:0<pd.length
   ·have hp2:(0:Int)<(pd.length:Int):=by omega
    go_wp2
    go_ret
    exact⟨rfl,HBZ.out⟩
   ·have hp2:¬(0:Int)<(pd.length:Int):=by omega
    have HDUE:Hid (dueS x K.c.hi=true):=hdue
    have HSC:Hid (∀z∈x.ws,1≤z.s):=fun z hz=>by have:=HR.out.sc z hz;have:=HM.out.1;omega
    obtain ⟨n,hn,hn1,hn2⟩:=at_in at' x.L.length
    have hL64:x.L.length≤64:=nx_few HOX.out
    have HN:Hid (1≤n∧n≤x.L.length+3):=⟨hn1,hn2⟩
    have HNE:Hid (RowKit.wrap64 (1+(RowKit.wrap64 (RowKit.wrap64 (at'.tmod (3+(x.L.length:Int))+3)+(x.L.length:Int))).tmod (3+(x.L.length:Int)))=(n:Int)):=at_wrap hL64 hn
    clear hdue HBZ hn hn1 hn2
    go_upto_region 12 with fail
    rw[HNE.out]
    clear HNE cP hp2 hp1 hl1
    obtain ⟨g,og,ehq,-⟩:=(HHD.out _ _ _ _ HD8.out).cells (by omega)
    subst ehq
    obtain ⟨e0,he0⟩:∃e,x.L[0]?=some e:=⟨_,List.getElem?_eq_getElem (by omega)⟩
    have HE0:Hid (x.L[0]?=some e0):=he0
    have HEW:Hid (e0.Wf):=HOX.out.k.wf e0 (List.mem_of_getElem? he0)
    have i00:(0:Int)<(x.L.length:Int):=by omega
    have i0n:0<x.L.length:=by omega
    clear he0
    obtain ⟨VB,hVB⟩:∃B,w8.heap.size=B:=⟨_,rfl⟩
    have HB9:Hid (_):=build_v9 w8
    have HA9:Hid (_):=allocV w8
    have HS9:Hid (_):=store_newV w8 (9 :: 9 :: C.zs 30) rfl
    have hd9:=HD8.out.newblk (k:=11) (by decide) (U8 (9 :: 9 :: C.zs 30)).toArray 51
    rw[hVB] at HA9 HS9 hd9
    obtain ⟨w9,hw9⟩:∃W,w8.alloc (.cells (U8 (9 :: 9 :: C.zs 30)).toArray 51)=W:=⟨_,rfl⟩
    rw[hw9] at HS9 hd9
    rw[← put_comm _ _ _ (show 11≠8 by decide)] at hd9
    have HD9:Hid (DS w3 w9 K x x pd (put (put XX 11 (.blk VB 51 (U8 (9 :: 9 :: C.zs 30)).toArray)) 8 (.pp B (.slice none 0 0) ⟨1,0,[],0⟩))):=hd9
    clear hd9 hw9 hVB HD8
    go_upto_if 83 with ((with_reducible refine C.at_ops ?_);(first | ((refine C.wpList_build_is (vs:=[(0,.int .u8 9),(1,.int .u8 9)]) (by rfl) 51 rfl (by rfl) HB9.out ?_);simp only[Act.put,zA,zB,zC]) | (refine alI 51 HA9.out ?_) | (refine stI 51 HS9.out ?_)))
    clear HB9 HA9 HS9
    go_cut [15] from 83 to 87 (fun u W=>∃vv:List Int,u=.pointer (some ⟨VB,0,none⟩)∧Hid (vv.length=32∧Bytes vv)∧Hid (DS w3 W K x x pd (put (put XX 11 (.blk VB 51 (U8 vv).toArray)) 8 (.pp B (.slice none 0 0) ⟨1,0,[],0⟩))))
    case first =>
     cases sm with
     | false =>
      go_wp2_with fail
      go_meet
      case rel=>exact⟨9 :: 9 :: C.zs 30,rfl,⟨rfl,by unfold Bytes;decide⟩,HD9⟩
     | true =>
      have hE:C.EIn w9 (some ⟨g,og,none⟩) x.L.length x.L:=by
       have h1:=HD9.out.rowin (i:=10) (by decide) (by decide) ((put_other _ _ (by decide)).trans ((put_other _ _ (by decide)).trans E10.out))
       have h2:C.EOwn 54 w9 0 (.slice (some ⟨g,og,none⟩) x.L.length hcp) x.L:=h1
       obtain ⟨q',c',e',hE,-⟩:=C.EOwn.in h2 HOX.out.k.wf
       cases e'
       exact hE
      have HL0:Hid ((Instr.loadAt 51 (.pointer (some ⟨g,og+1,none⟩))).run prog w9=.ok (.agg (U8 e0.v).toArray) w9):=by
       have:=hE.loadv HE0.out
       rw[Nat.zero_mul,Nat.add_zero] at this
       exact this
      have HST:Hid (_):=VAt.store (HD9.out.blk (i:=11) (by decide) (by decide) (B:=VB) (t:=51) ((put_other _ _ (by decide)).trans (put_same _ _ _))) (v:=e0.v) rfl HEW.out.len
      have hdr:=HD9.out.blkput (j:=11) (by decide) (by decide) (R:=VB) (ty:=51) ((put_other _ _ (by decide)).trans (put_same _ _ _)) (U8 e0.v).toArray
      rw[put_comm _ _ _ (show 8≠11 by decide),put_put] at hdr
      have HDr:Hid (_):=hdr
      clear hdr hE
      go_wp2_with ((with_reducible refine C.at_ops ?_);(first | (refine ldI 51 HL0.out ?_) | (refine stI 51 HST.out ?_)))
      go_meet
      case rel=>exact⟨e0.v,rfl,⟨HEW.out.len,HEW.out.byte⟩,HDr⟩
    case rest =>
     obtain ⟨vv,rfl,HVV,HDc⟩:=hcut
     clear HD9
     obtain ⟨YY,hYY⟩:∃YY,put XX 11 (.blk VB 51 (U8 vv).toArray)=YY:=⟨_,rfl⟩
     have F9:Hid (YY 9=.blk DB 37 (pdk K).toArray):=by show _=_;rw[← hYY];exact (put_other _ _ (by decide)).trans E9.out
     have F10:Hid (YY 10=.row 54 34 (.slice (some ⟨g,og,none⟩) x.L.length hcp) x.L.length (C.EC x.L)):=by show _=_;rw[← hYY];exact (put_other _ _ (by decide)).trans E10.out
     have F11:Hid (YY 11=.blk VB 51 (U8 vv).toArray):=by show _=_;rw[← hYY];exact put_same _ _ _
     have F12:Hid (∀j,12≤j→YY j=.no):=fun j hj=>by rw[← hYY,put_other _ _ (by omega)];exact E11.out j (by omega)
     rw[hYY] at HDc
     clear hYY HDK HHD E9 E10 E11
     have HDK:Hid (∀W y p pv,DS w3 W K y x pd (put YY 8 (.pp B pv p))→DkIn W DB K):=fun W y p pv h=>h.blk (i:=9) (by decide) (by decide) ((put_other _ _ (by decide)).trans F9.out)
     have HHD:Hid (∀W y p pv,DS w3 W K y x pd (put YY 8 (.pp B pv p))→W.cell? ⟨g,og,none⟩=some (.int .i64 e0.b)∧(Instr.loadAt 51 (.pointer (some ⟨g,og+1,none⟩))).run prog W=.ok (.agg (U8 e0.v).toArray) W):=fun W y p pv h=>by
      have h1:=h.rowin (i:=10) (by decide) (by decide) ((put_other _ _ (by decide)).trans F10.out)
      have h2:C.EOwn 54 W 0 (.slice (some ⟨g,og,none⟩) x.L.length hcp) x.L:=h1
      obtain ⟨q',c',e',hE,-⟩:=C.EOwn.in h2 HOX.out.k.wf
      cases e'
      have c0:=hE.c0 HE0.out
      have l0:=hE.loadv HE0.out
      rw[Nat.zero_mul,Nat.add_zero] at c0 l0
      exact⟨c0,l0⟩
     have HVL:Hid (∀W y p pv,DS w3 W K y x pd (put YY 8 (.pp B pv p))→(Instr.loadAt 51 (.pointer (some ⟨VB,0,none⟩))).run prog W=.ok (.agg (U8 vv).toArray) W):=fun W y p pv h=>load_blkV (h.blk (i:=11) (by decide) (by decide) ((put_other _ _ (by decide)).trans F11.out)) HVV.out.1
     have kl:=(HDK.out _ _ _ _ HDc.out).lp
     have HEP:Hid (∀z∈x.L,z.p≠(⟨e0.b,vv,x.g.fin+1⟩:C.En).p):=fun z hz=>by have:=HR.out.run.L z hz;show z.p≠x.g.fin+1;omega
     have HB0:Hid (0≤e0.b∧e0.b<x.g.c.bl):=by have:=HOX.out.k.ins e0 (List.mem_of_getElem? HE0.out);have:=HR.out.run.n;show _∧_;omega
     go_wp2_with fail
     refine (p_end HDc.out).mono ?_
     rintro e w' ⟨rfl,rfl⟩
     clear kl
     go_wp2_with fail
     go_loopw [18,17] (fun vi vp W=>∃(j:Nat) (y:Sx) (p:Pt) (pv:Value) (pb:Bool) (kc:Nat),vi=.int .i64 (j:Int)∧vp=.bool pb∧j≤x.L.length+4∧Hid ((j≤n→kc=0)∧kc≤7)∧Hid (Kd x ⟨e0.b,vv,x.g.fin+1⟩ j y p pb kc)∧Hid (DS w3 W K y x pd (put YY 8 (.pp B pv p)))) (fun vi _ _=>100-(intOf vi).toNat)
     case atStart=>exact⟨0,x,⟨1,0,[],0⟩,.slice none 0 0,false,0,rfl,rfl,by omega,⟨fun _=>rfl,by omega⟩,.inl ⟨rfl,rfl,rfl,rfl,rfl⟩,HDc⟩
     case round =>
      obtain ⟨j,y,p,pv,pb,kc,rfl,rfl,hj,HKC,HRD,HD⟩:=hrel
      clear HDc
      by_cases hlt:j<x.L.length+4
      ·have i1:(j:Int)<4+(x.L.length:Int):=by omega
       by_cases hjn:j=n
       ·have HG:Hid (Gk x ⟨e0.b,vv,x.g.fin+1⟩ j y p pb 0):=by
         have hk0:=HKC.out.1 (by omega)
         rcases HRD.out with ⟨e,-⟩ | h | ⟨e,-⟩
         ·have:=HN.out;omega
         ·rw[hk0] at h;exact h
         ·omega
        have hjb:((j:Int) == (n:Int))=true:=by rw[beq_iff_eq,hjn]
        have HJN:Hid (j=n):=hjn
        clear hjn HRD
        go_wp2_with fail
        have HDa:Hid (DS w3 wr.drew K y x pd (put YY 8 (.pp B pv p))):=HD.out.later (C.below_drawn 1)
        clear HD
        refine wp_region_noPanic ?_
        refine wp_region_held_drew (S:=fun W=>∃y1,DS w3 W K y1 x pd (put YY 8 (.pp B pv p))) (by kernel_rfl) ⟨y,HDa.out⟩ (fun hHeld=>?_)
        generalize wr.drew=wa at *
        refine tkm 0 hHeld (fun _ s=>s.elim fun _ s=>(HDK.out _ _ _ _ s).load) ?_
        refine tk 1 hHeld ?_
        refine tk 2 hHeld ?_
        refine tk 3 hHeld ?_
        refine tkl 4 hHeld (fun _ s=>s.elim fun _ s=>(HHD.out _ _ _ _ s).1) ?_
        refine tkm 5 hHeld (fun _ s=>s.elim fun _ s=>HVL.out _ _ _ _ s) ?_
        refine tkr 6 fun Kc hKc=>?_
        go_simp
        refine (writes_at HT3.out HDa.out (fun j hj=>by rw[put_other _ _ (by omega)];exact F12.out j (by omega)) HG.out.rn (by have:=HG.out.fn rfl;have:=HNX.out;omega) (by have:=HG.out.c;have:=HNX.out;omega) (by have:=HG.out.nx;have:=HNX.out;omega) (by have:=HG.out.ws;have:=HNX.out;omega) (b:=e0.b) (by rw[HG.out.cf];exact HB0.out) HVV.out.1 HVV.out.2).mono ?_
        rintro e w11 ⟨dn,rfl,y1,hwd,hd⟩
        have HG1:Hid (Gk x ⟨e0.b,vv,x.g.fin+1⟩ j y1 p dn 7):=HG.out.wr hwd
        have HDw:Hid (DS w3 w11 K y1 x pd (put YY 8 (.pp B pv p))):=hd
        clear hd hwd HDa HG
        refine hKc.out _ _ ⟨y1,HDw.out⟩ (fun hHeld=>?_)
        clear hKc Kc
        refine tk 7 hHeld ?_
        refine tk 8 hHeld ?_
        refine tk 9 hHeld ?_
        refine tk 10 hHeld ?_
        refine tk 11 hHeld ?_
        clear hHeld
        refine wpAnyH_done (by kernel_rfl) (NoPanic.normal ?_) _
        have S:=Kd.step HR.out.run HOX.out HDUE.out HSC.out HEP.out (.inr (.inl HG1.out)) hlt HDw.out.okx HDw.out.dk
        obtain ⟨kd0,rb,rv,rq,rc,hrl,erow⟩:=S.row
        have HRL:Hid (rv.length=32):=hrl
        have HSTEP:Hid (∀W,DS w3 W K y1 x pd (put YY 8 (.pp B pv p))→Calls prog 16 #[qp B,.agg (pdk K).toArray] W fun e w'=>∃v,e=.returned (.tuple #[.agg (rowC kd0 rb rv rq rc).toArray,.int .i64 0])∧DS w3 w' K (stepS K.c.hi y1 p).2.2.1 x pd (put YY 8 (.pp B v (stepS K.c.hi y1 p).2.2.2))):=fun W hW=>by
         have hst:=step_at HT3.out hW (by have:=S.nm.1;have:=HNX.out;omega) (by have:=S.nm.2;have:=HNX.out;have:=HKC.out;omega) (i:=8) (by decide) (by decide) S.ok (put_same _ _ _) (fun j h1 h2=>by rw[put_other _ _ (by omega)];exact F12.out j (by omega))
         rw[erow,S.er] at hst
         refine hst.mono ?_
         rintro e w' ⟨v,rfl,hd⟩
         rw[put_put] at hd
         exact⟨v,rfl,hd⟩
        have HRD2:Hid (Kd x ⟨e0.b,vv,x.g.fin+1⟩ (j+1) (stepS K.c.hi y1 p).2.2.1 (stepS K.c.hi y1 p).2.2.2 dn 7):=S.rd
        clear S erow hrl
        generalize (stepS K.c.hi y1 p).2.2.1=y' at *
        generalize (stepS K.c.hi y1 p).2.2.2=p' at *
        have LK:Hid (_):=(HDK.out _ _ _ _ HDw.out).load
        go_wp2_with ((with_reducible refine C.at_ops ?_);(refine ldI 37 LK.out ?_))
        refine (HSTEP.out _ HDw.out).mono ?_
        rintro e wb ⟨pv',rfl,hd⟩
        have HA:Hid (_):=alloc_row wb
        have HST:Hid (_):=store_row (LAt.new 61 wb row0) (ds:=rowC kd0 rb rv rq rc) (rowC_len HRL.out) (rowC_one _ _ _ _ _)
        have hdr:=hd.newrow (k:=12) (by decide) (by decide) (rowC kd0 rb rv rq rc)
        have hdc:=hdr.undo ((put_other _ _ (by decide)).trans (F12.out 12 (by decide)))
        obtain ⟨wc',hwc⟩:∃W,(wb.alloc (.cells row0.toArray 61)).setRow wb.heap.size (rowC kd0 rb rv rq rc).toArray=W:=⟨_,rfl⟩
        rw[hwc] at HST hdc
        have HDz:Hid (DS w3 wc' K y' x pd (put YY 8 (.pp B pv' p'))):=hdc
        clear hdr hdc hd hwc HDw LK HSTEP
        go_wp2_with ((with_reducible refine C.at_ops ?_);(first | (refine alI 61 HA.out ?_) | (refine stI 61 HST.out ?_)))
        go_roundw
        case rel=>exact⟨j+1,y',p',pv',dn,7,by congr 1,rfl,by omega,⟨fun h=>absurd h (by have:=HJN.out;omega),by omega⟩,HRD2,HDz⟩
        case measure=>simp[intOf];omega
       ·have hjb:((j:Int) == (n:Int))=false:=by rw[beq_eq_false_iff_ne];omega
        have S:=Kd.step HR.out.run HOX.out HDUE.out HSC.out HEP.out HRD.out hlt HD.out.okx HD.out.dk
        obtain ⟨kd0,rb,rv,rq,rc,hrl,erow⟩:=S.row
        have HRL:Hid (rv.length=32):=hrl
        have HSTEP:Hid (∀W,DS w3 W K y x pd (put YY 8 (.pp B pv p))→Calls prog 16 #[qp B,.agg (pdk K).toArray] W fun e w'=>∃v,e=.returned (.tuple #[.agg (rowC kd0 rb rv rq rc).toArray,.int .i64 0])∧DS w3 w' K (stepS K.c.hi y p).2.2.1 x pd (put YY 8 (.pp B v (stepS K.c.hi y p).2.2.2))):=fun W hW=>by
         have hst:=step_at HT3.out hW (by have:=S.nm.1;have:=HNX.out;omega) (by have:=S.nm.2;have:=HNX.out;have:=HKC.out;omega) (i:=8) (by decide) (by decide) S.ok (put_same _ _ _) (fun j h1 h2=>by rw[put_other _ _ (by omega)];exact F12.out j (by omega))
         rw[erow,S.er] at hst
         refine hst.mono ?_
         rintro e w' ⟨v,rfl,hd⟩
         rw[put_put] at hd
         exact⟨v,rfl,hd⟩
        have HRD2:Hid (Kd x ⟨e0.b,vv,x.g.fin+1⟩ (j+1) (stepS K.c.hi y p).2.2.1 (stepS K.c.hi y p).2.2.2 pb kc):=S.rd
        clear S erow hrl
        generalize (stepS K.c.hi y p).2.2.1=y' at *
        generalize (stepS K.c.hi y p).2.2.2=p' at *
        have LK:Hid (_):=(HDK.out _ _ _ _ HD.out).load
        go_wp2_with ((with_reducible refine C.at_ops ?_);(refine ldI 37 LK.out ?_))
        refine (HSTEP.out _ HD.out).mono ?_
        rintro e wb ⟨pv',rfl,hd⟩
        have HA:Hid (_):=alloc_row wb
        have HST:Hid (_):=store_row (LAt.new 61 wb row0) (ds:=rowC kd0 rb rv rq rc) (rowC_len HRL.out) (rowC_one _ _ _ _ _)
        have hdr:=hd.newrow (k:=12) (by decide) (by decide) (rowC kd0 rb rv rq rc)
        have hdc:=hdr.undo ((put_other _ _ (by decide)).trans (F12.out 12 (by decide)))
        obtain ⟨wc',hwc⟩:∃W,(wb.alloc (.cells row0.toArray 61)).setRow wb.heap.size (rowC kd0 rb rv rq rc).toArray=W:=⟨_,rfl⟩
        rw[hwc] at HST hdc
        have HDz:Hid (DS w3 wc' K y' x pd (put YY 8 (.pp B pv' p'))):=hdc
        clear hdr hdc hd hwc HD LK HSTEP
        go_wp2_with ((with_reducible refine C.at_ops ?_);(first | (refine alI 61 HA.out ?_) | (refine stI 61 HST.out ?_)))
        go_roundw
        case rel=>exact⟨j+1,y',p',pv',pb,kc,by congr 1,rfl,by omega,⟨fun h=>HKC.out.1 (by omega),HKC.out.2⟩,HRD2,HDz⟩
        case measure=>simp[intOf];omega
      ·have i1:¬(j:Int)<4+(x.L.length:Int):=by omega
       obtain ⟨e1,HFK⟩:p=⟨1,0,[],0⟩∧Hid (Fk x ⟨e0.b,vv,x.g.fin+1⟩ y pb):=by
        rcases HRD.out with ⟨e,-⟩ | h | ⟨-,e,h⟩
        ·omega
        ·have:=h.ph.j2;omega
        ·exact⟨e,h⟩
       subst e1
       clear HRD HKC hlt hj
       obtain ⟨g1,g2,g3⟩:=HFK.out.get
       replace g1:C.getB y.L e0.b=pb:=g1
       obtain ⟨z,hz⟩:∃z,C.getV y.L e0.b=z:=⟨_,rfl⟩
       have HZ:Hid (z.v.length=32):=by
        show _=_
        rw[← hz]
        unfold C.getV
        cases hg:C.gtE y.L e0.b with
        | none=>exact C.zs_len 32
        | some u=>exact (HD.out.okx.k.wf u (C.gt_some hg).1).len
       have HZE:Hid (pb=true→z=⟨e0.b,vv,x.g.fin+1⟩):=fun e=>hz.symm.trans (g3 e)
       have HLN:Hid ((y.L.length:Int)=if pb=true then 1 else 0):=g2
       have HLD:Hid (∀W,DS w3 W K y x pd (put YY 8 (.pp B pv ⟨1,0,[],0⟩))→Calls prog 17 #[qp K.kp,.int .i64 e0.b] W fun e' w'=>e'=.returned (.tuple #[.agg (C.ecells z).toArray,.bool pb])∧Below W.heap.size W w'):=fun W hW=>by
        have:=p_get hW e0.b
        rw[g1,hz] at this
        exact this
       clear g1 g2 g3 hz
       go_upto_region 27 with fail
       go_cut [23,24] from 122 to 131 (fun u u2 W=>∃RN,u=.pointer (some ⟨RN,0,none⟩)∧u2=.bool pb∧Hid (DS w3 W K y x pd (put (put YY 8 (.pp B pv ⟨1,0,[],0⟩)) 12 (.blk RN 54 (C.ecells z).toArray))))
       case first =>
        go_wp2_with fail
        have HDa:Hid (DS w3 wr.drew K y x pd (put YY 8 (.pp B pv ⟨1,0,[],0⟩))):=HD.out.later (C.below_drawn 1)
        clear HD
        refine wp_region_noPanic ?_
        refine wp_region_held_drew (S:=fun W=>DS w3 W K y x pd (put YY 8 (.pp B pv ⟨1,0,[],0⟩))) (by kernel_rfl) HDa.out (fun hHeld=>?_)
        generalize wr.drew=wa at *
        refine tk 0 hHeld ?_
        refine tkl 1 hHeld (fun _ s=>(HDK.out _ _ _ _ s).kp) ?_
        refine tk 2 hHeld ?_
        refine tk 3 hHeld ?_
        refine tk 4 hHeld ?_
        refine tkl 5 hHeld (fun _ s=>(HHD.out _ _ _ _ s).1) ?_
        refine wpAnyH_ready (rs:=[6,10]) (by kernel_rfl) (by simp) ?_
        refine AllReadyH.cons (by simp;rfl) (fun Kc hKc=>?_) (AllReadyH.cons (by simp;rfl) (fun Kc hKc=>?_) AllReadyH.nil)
        ·go_simp
         refine (HLD.out _ hHeld).mono ?_
         rintro e' wl ⟨rfl,bl⟩
         have HDl:Hid (DS w3 wl K y x pd (put YY 8 (.pp B pv ⟨1,0,[],0⟩))):=HDa.out.later bl
         clear bl HDa
         refine hKc.out _ _ (HDl.out) (fun hHeld=>?_)
         clear hKc Kc
         refine tk 7 hHeld ?_
         refine tk 8 hHeld ?_
         refine tk 9 hHeld ?_
         refine tkr 10 fun Kc hKc=>?_
         obtain ⟨RN,hRN⟩:∃B,wl.heap.size=B:=⟨_,rfl⟩
         have hdv:=HDl.out.newblk (k:=12) (by decide) (C.ecells C.en0).toArray 54
         have hal:=C.allocE C.etC wl
         rw[hRN] at hdv hal
         refine C.step_alloc_is (by rfl) 54 rfl hal ?_
         simp only[Act.put,zA,zB,zC]
         have HDv:Hid (DS w3 (wl.alloc (.cells (C.ecells C.en0).toArray 54)) K y x pd (put (put YY 8 (.pp B pv ⟨1,0,[],0⟩)) 12 (.blk RN 54 (C.ecells C.en0).toArray))):=hdv
         clear hdv hal hRN HDl
         generalize wl.alloc (.cells (C.ecells C.en0).toArray 54)=wv at *
         refine hKc.out _ _ (HDv.out.undo ((put_other _ _ (by decide)).trans (F12.out 12 (by decide)))) (fun hHeld=>?_)
         clear hKc Kc
         refine tkr 11 fun Kc hKc=>?_
         have hst:=C.lay0E _ RN z HZ.out (HDv.out.blk (i:=12) (by decide) (by decide) (put_same _ _ _))
         have hds:=HDv.out.blkput (j:=12) (by decide) (by decide) (put_same _ _ _) (C.ecells z).toArray
         rw[put_put] at hds
         refine C.step_store_is (by rfl) 54 rfl rfl rfl hst ?_
         simp only[Act.put]
         have HDs:Hid (DS w3 (wv.setRow RN (C.ecells z).toArray) K y x pd (put (put YY 8 (.pp B pv ⟨1,0,[],0⟩)) 12 (.blk RN 54 (C.ecells z).toArray))):=hds
         clear hds hst HDv
         generalize wv.setRow RN (C.ecells z).toArray=wt at *
         refine hKc.out _ _ (HDs.out.undo ((put_other _ _ (by decide)).trans (F12.out 12 (by decide)))) (fun hHeld=>?_)
         clear hKc Kc
         refine tk 12 hHeld ?_
         clear hHeld
         refine wpAnyH_done (by kernel_rfl) (NoPanic.normal ?_) _
         go_wp2_with fail
         go_meet
         case rel=>exact⟨RN,rfl,rfl,HDs⟩
        ·obtain ⟨RN,hRN⟩:∃B,wa.heap.size=B:=⟨_,rfl⟩
         have hdv:=HDa.out.newblk (k:=12) (by decide) (C.ecells C.en0).toArray 54
         have hal:=C.allocE C.etC wa
         rw[hRN] at hdv hal
         refine C.step_alloc_is (by rfl) 54 rfl hal ?_
         simp only[Act.put,zA,zB,zC]
         have HDv:Hid (DS w3 (wa.alloc (.cells (C.ecells C.en0).toArray 54)) K y x pd (put (put YY 8 (.pp B pv ⟨1,0,[],0⟩)) 12 (.blk RN 54 (C.ecells C.en0).toArray))):=hdv
         clear hdv hal hRN HDa
         generalize wa.alloc (.cells (C.ecells C.en0).toArray 54)=wv at *
         refine hKc.out _ _ (HDv.out.undo ((put_other _ _ (by decide)).trans (F12.out 12 (by decide)))) (fun hHeld=>?_)
         clear hKc Kc
         refine tkr 6 fun Kc hKc=>?_
         go_simp
         refine (HLD.out _ hHeld).mono ?_
         rintro e' wl ⟨rfl,bl⟩
         have HDl:Hid (DS w3 wl K y x pd (put (put YY 8 (.pp B pv ⟨1,0,[],0⟩)) 12 (.blk RN 54 (C.ecells C.en0).toArray))):=HDv.out.later bl
         clear bl HDv
         refine hKc.out _ _ (HDl.out.undo ((put_other _ _ (by decide)).trans (F12.out 12 (by decide)))) (fun hHeld=>?_)
         clear hKc Kc
         refine tk 7 hHeld ?_
         refine tk 8 hHeld ?_
         refine tk 9 hHeld ?_
         refine tkr 11 fun Kc hKc=>?_
         have hst:=C.lay0E _ RN z HZ.out (HDl.out.blk (i:=12) (by decide) (by decide) (put_same _ _ _))
         have hds:=HDl.out.blkput (j:=12) (by decide) (by decide) (put_same _ _ _) (C.ecells z).toArray
         rw[put_put] at hds
         refine C.step_store_is (by rfl) 54 rfl rfl rfl hst ?_
         simp only[Act.put]
         have HDs:Hid (DS w3 (wl.setRow RN (C.ecells z).toArray) K y x pd (put (put YY 8 (.pp B pv ⟨1,0,[],0⟩)) 12 (.blk RN 54 (C.ecells z).toArray))):=hds
         clear hds hst HDl
         generalize wl.setRow RN (C.ecells z).toArray=wt at *
         refine hKc.out _ _ (HDs.out.undo ((put_other _ _ (by decide)).trans (F12.out 12 (by decide)))) (fun hHeld=>?_)
         clear hKc Kc
         refine tk 12 hHeld ?_
         clear hHeld
         refine wpAnyH_done (by kernel_rfl) (NoPanic.normal ?_) _
         go_wp2_with fail
         go_meet
         case rel=>exact⟨RN,rfl,rfl,HDs⟩
       case rest =>
        obtain ⟨RE,rfl,rfl,HDb⟩:=hcut
        clear HD HLD
        have HLD:Hid (∀W,DS w3 W K y x pd (put (put YY 8 (.pp B pv ⟨1,0,[],0⟩)) 12 (.blk RE 54 (C.ecells z).toArray))→Calls prog 18 #[qp K.dp,.agg (ccells s).toArray,.int .i64 e0.b] W fun e' w'=>e'=.returned (.tuple #[.agg (U8 e0.v).toArray,.int .i64 0])∧Below W.heap.size W w'):=fun W hW=>by
         have hl:=p_load HT3.out hW e0.b
         have h1:=HFK.out.ld e0 (List.mem_of_getElem? HE0.out)
         have h2:y.g.sz=x.g.sz:=by unfold Lg.sz;rw[HFK.out.cf]
         rw[HK.out,h2] at hl
         rw[HR.out.cf] at h1
         rw[h1] at hl
         exact hl
        go_upto_region 28 with fail
        go_cut [25,26] from 132 to 142 (fun u u2 W=>∃RN,u=.pointer (some ⟨RN,0,none⟩)∧u2=.int .i64 0∧Hid (DS w3 W K y x pd (put (put (put YY 8 (.pp B pv ⟨1,0,[],0⟩)) 12 (.blk RE 54 (C.ecells z).toArray)) 13 (.blk RN 51 (U8 e0.v).toArray))))
        case first =>
         go_wp2_with fail
         have HDa:Hid (DS w3 wc.drew K y x pd (put (put YY 8 (.pp B pv ⟨1,0,[],0⟩)) 12 (.blk RE 54 (C.ecells z).toArray))):=HDb.out.later (C.below_drawn 1)
         clear HDb
         refine wp_region_noPanic ?_
         refine wp_region_held_drew (S:=fun W=>DS w3 W K y x pd (put (put YY 8 (.pp B pv ⟨1,0,[],0⟩)) 12 (.blk RE 54 (C.ecells z).toArray))) (by kernel_rfl) HDa.out (fun hHeld=>?_)
         generalize wc.drew=wa at *
         refine tk 0 hHeld ?_
         refine tkl 1 hHeld (fun _ s=>(HDK.out _ _ _ _ (s.undo ((put_other _ _ (by decide)).trans (F12.out 12 (by decide))))).dp) ?_
         refine tkm 2 hHeld (fun _ s=>(HC.out _ s.below).load23) ?_
         refine tk 3 hHeld ?_
         refine tk 4 hHeld ?_
         refine tk 5 hHeld ?_
         refine tkl 6 hHeld (fun _ s=>(HHD.out _ _ _ _ (s.undo ((put_other _ _ (by decide)).trans (F12.out 12 (by decide))))).1) ?_
         refine wpAnyH_ready (rs:=[7,11]) (by kernel_rfl) (by simp) ?_
         refine AllReadyH.cons (by simp;rfl) (fun Kc hKc=>?_) (AllReadyH.cons (by simp;rfl) (fun Kc hKc=>?_) AllReadyH.nil)
         ·go_simp
          refine (HLD.out _ hHeld).mono ?_
          rintro e' wl ⟨rfl,bl⟩
          have HDl:Hid (DS w3 wl K y x pd (put (put YY 8 (.pp B pv ⟨1,0,[],0⟩)) 12 (.blk RE 54 (C.ecells z).toArray))):=HDa.out.later bl
          clear bl HDa
          refine hKc.out _ _ (HDl.out) (fun hHeld=>?_)
          clear hKc Kc
          refine tk 8 hHeld ?_
          refine tk 9 hHeld ?_
          refine tk 10 hHeld ?_
          refine tkr 11 fun Kc hKc=>?_
          obtain ⟨RN,hRN⟩:∃B,wl.heap.size=B:=⟨_,rfl⟩
          have hdv:=HDl.out.newblk (k:=13) (by decide) (U8 (zs 32)).toArray 51
          have hal:=allocV wl
          rw[hRN] at hdv hal
          refine C.step_alloc_is (by rfl) 51 rfl hal ?_
          simp only[Act.put,zA,zB,zC]
          have HDv:Hid (DS w3 (wl.alloc (.cells (U8 (zs 32)).toArray 51)) K y x pd (put (put (put YY 8 (.pp B pv ⟨1,0,[],0⟩)) 12 (.blk RE 54 (C.ecells z).toArray)) 13 (.blk RN 51 (U8 (zs 32)).toArray))):=hdv
          clear hdv hal hRN HDl
          generalize wl.alloc (.cells (U8 (zs 32)).toArray 51)=wv at *
          refine hKc.out _ _ (HDv.out.undo ((put_other _ _ (by decide)).trans ((put_other _ _ (by decide)).trans (F12.out 13 (by decide))))) (fun hHeld=>?_)
          clear hKc Kc
          refine tkr 12 fun Kc hKc=>?_
          have hst:=VAt.store (HDv.out.blk (i:=13) (by decide) (by decide) (put_same _ _ _)) (zs_len 32) HEW.out.len
          have hds:=HDv.out.blkput (j:=13) (by decide) (by decide) (put_same _ _ _) (U8 e0.v).toArray
          rw[put_put] at hds
          refine C.step_store_is (by rfl) 51 rfl rfl rfl hst ?_
          simp only[Act.put]
          have HDs:Hid (DS w3 (wv.setRow RN (U8 e0.v).toArray) K y x pd (put (put (put YY 8 (.pp B pv ⟨1,0,[],0⟩)) 12 (.blk RE 54 (C.ecells z).toArray)) 13 (.blk RN 51 (U8 e0.v).toArray))):=hds
          clear hds hst HDv
          generalize wv.setRow RN (U8 e0.v).toArray=wt at *
          refine hKc.out _ _ (HDs.out.undo ((put_other _ _ (by decide)).trans ((put_other _ _ (by decide)).trans (F12.out 13 (by decide))))) (fun hHeld=>?_)
          clear hKc Kc
          refine tk 13 hHeld ?_
          clear hHeld
          refine wpAnyH_done (by kernel_rfl) (NoPanic.normal ?_) _
          go_wp2_with fail
          go_meet
          case rel=>exact⟨RN,rfl,rfl,HDs⟩
         ·obtain ⟨RN,hRN⟩:∃B,wa.heap.size=B:=⟨_,rfl⟩
          have hdv:=HDa.out.newblk (k:=13) (by decide) (U8 (zs 32)).toArray 51
          have hal:=allocV wa
          rw[hRN] at hdv hal
          refine C.step_alloc_is (by rfl) 51 rfl hal ?_
          simp only[Act.put,zA,zB,zC]
          have HDv:Hid (DS w3 (wa.alloc (.cells (U8 (zs 32)).toArray 51)) K y x pd (put (put (put YY 8 (.pp B pv ⟨1,0,[],0⟩)) 12 (.blk RE 54 (C.ecells z).toArray)) 13 (.blk RN 51 (U8 (zs 32)).toArray))):=hdv
          clear hdv hal hRN HDa
          generalize wa.alloc (.cells (U8 (zs 32)).toArray 51)=wv at *
          refine hKc.out _ _ (HDv.out.undo ((put_other _ _ (by decide)).trans ((put_other _ _ (by decide)).trans (F12.out 13 (by decide))))) (fun hHeld=>?_)
          clear hKc Kc
          refine tkr 7 fun Kc hKc=>?_
          go_simp
          refine (HLD.out _ hHeld).mono ?_
          rintro e' wl ⟨rfl,bl⟩
          have HDl:Hid (DS w3 wl K y x pd (put (put (put YY 8 (.pp B pv ⟨1,0,[],0⟩)) 12 (.blk RE 54 (C.ecells z).toArray)) 13 (.blk RN 51 (U8 (zs 32)).toArray))):=HDv.out.later bl
          clear bl HDv
          refine hKc.out _ _ (HDl.out.undo ((put_other _ _ (by decide)).trans ((put_other _ _ (by decide)).trans (F12.out 13 (by decide))))) (fun hHeld=>?_)
          clear hKc Kc
          refine tk 8 hHeld ?_
          refine tk 9 hHeld ?_
          refine tk 10 hHeld ?_
          refine tkr 12 fun Kc hKc=>?_
          have hst:=VAt.store (HDl.out.blk (i:=13) (by decide) (by decide) (put_same _ _ _)) (zs_len 32) HEW.out.len
          have hds:=HDl.out.blkput (j:=13) (by decide) (by decide) (put_same _ _ _) (U8 e0.v).toArray
          rw[put_put] at hds
          refine C.step_store_is (by rfl) 51 rfl rfl rfl hst ?_
          simp only[Act.put]
          have HDs:Hid (DS w3 (wl.setRow RN (U8 e0.v).toArray) K y x pd (put (put (put YY 8 (.pp B pv ⟨1,0,[],0⟩)) 12 (.blk RE 54 (C.ecells z).toArray)) 13 (.blk RN 51 (U8 e0.v).toArray))):=hds
          clear hds hst HDl
          generalize wl.setRow RN (U8 e0.v).toArray=wt at *
          refine hKc.out _ _ (HDs.out.undo ((put_other _ _ (by decide)).trans ((put_other _ _ (by decide)).trans (F12.out 13 (by decide))))) (fun hHeld=>?_)
          clear hKc Kc
          refine tk 13 hHeld ?_
          clear hHeld
          refine wpAnyH_done (by kernel_rfl) (NoPanic.normal ?_) _
          go_wp2_with fail
          go_meet
          case rel=>exact⟨RN,rfl,rfl,HDs⟩
        case rest =>
         obtain ⟨RV,rfl,rfl,HDd⟩:=hcut
         clear HDb HLD
         cases pb with
         | false =>
          go_wp2_with fail
          have HDe:Hid (DS w3 wc.drew K y x pd (put (put (put YY 8 (.pp B pv ⟨1,0,[],0⟩)) 12 (.blk RE 54 (C.ecells z).toArray)) 13 (.blk RV 51 (U8 e0.v).toArray))):=HDd.out.later (C.below_drawn 1)
          clear HDd
          refine wp_region_noPanic ?_
          refine wp_region_held_drew (S:=fun W=>DS w3 W K y x pd (put (put (put YY 8 (.pp B pv ⟨1,0,[],0⟩)) 12 (.blk RE 54 (C.ecells z).toArray)) 13 (.blk RV 51 (U8 e0.v).toArray))) (by kernel_rfl) HDe.out (fun hHeld=>?_)
          generalize wc.drew=wf at *
          have HP:Hid (C.PtAt wf B 1 0 pv [] 0):=HDe.out.pt (i:=8) (by decide) (by decide) ((put_other _ _ (by decide)).trans ((put_other _ _ (by decide)).trans (put_same _ _ _)))
          refine tk 0 hHeld ?_
          refine tkr 1 fun Kc hKc=>?_
          go_simp
          refine (state_at HP.out).mono ?_
          rintro e w' ⟨rfl,hw'⟩
          rw[hw']
          clear hw' w'
          refine hKc.out _ _ hHeld (fun hHeld=>?_)
          clear hKc Kc
          refine tk 2 hHeld ?_
          refine tk 3 hHeld ?_
          refine tk 4 hHeld ?_
          refine tk 5 hHeld ?_
          refine tk 6 hHeld ?_
          refine tk 7 hHeld ?_
          refine tk 8 hHeld ?_
          refine tk 9 hHeld ?_
          refine tk 10 hHeld ?_
          refine tk 11 hHeld ?_
          refine tk 12 hHeld ?_
          refine tkm 13 hHeld (fun _ s=>load_blkV (s.blk (i:=13) (by decide) (by decide) (put_same _ _ _)) HEW.out.len) ?_
          refine tk 14 hHeld ?_
          refine tk 15 hHeld ?_
          refine tk 16 hHeld ?_
          refine tkm 17 hHeld (fun _ s=>(HHD.out _ _ _ _ ((s.undo ((put_other _ _ (by decide)).trans ((put_other _ _ (by decide)).trans (F12.out 13 (by decide))))).undo ((put_other _ _ (by decide)).trans (F12.out 12 (by decide))))).2) ?_
          refine tkq 18 hHeld eqg_val (fun w=>neqV_same w e0.v HEW.out.len) ?_
          refine tk 19 hHeld ?_
          clear hHeld
          refine wpAnyH_done (by kernel_rfl) (NoPanic.normal ?_) _
          have hdf:=(HDe.out.undo ((put_other _ _ (by decide)).trans ((put_other _ _ (by decide)).trans (F12.out 13 (by decide))))).undo ((put_other _ _ (by decide)).trans (F12.out 12 (by decide)))
          have kk:=(HDK.out _ _ _ _ hdf).kp
          have HBZ:Hid (Below w.heap.size w wf):=C.below_then BW.out HDe.out.below
          have eln:(y.L.length:Int)=0:=HLN.out.trans (by simp)
          clear hdf
          go_wp2_with fail
          refine (p_len HDe.out).mono ?_
          rintro e w' ⟨rfl,hw'⟩
          rw[hw',eln]
          clear hw' w' eln
          go_wp2
          go_ret
          exact⟨rfl,HBZ.out⟩
         | true =>
          obtain rfl:=HZE.out rfl
          go_wp2_with fail
          have HDe:Hid (DS w3 wc.drew K y x pd (put (put (put YY 8 (.pp B pv ⟨1,0,[],0⟩)) 12 (.blk RE 54 (C.ecells (⟨e0.b,vv,x.g.fin+1⟩:C.En)).toArray)) 13 (.blk RV 51 (U8 e0.v).toArray))):=HDd.out.later (C.below_drawn 1)
          clear HDd
          refine wp_region_noPanic ?_
          refine wp_region_held_drew (S:=fun W=>DS w3 W K y x pd (put (put (put YY 8 (.pp B pv ⟨1,0,[],0⟩)) 12 (.blk RE 54 (C.ecells (⟨e0.b,vv,x.g.fin+1⟩:C.En)).toArray)) 13 (.blk RV 51 (U8 e0.v).toArray))) (by kernel_rfl) HDe.out (fun hHeld=>?_)
          generalize wc.drew=wf at *
          have HP:Hid (C.PtAt wf B 1 0 pv [] 0):=HDe.out.pt (i:=8) (by decide) (by decide) ((put_other _ _ (by decide)).trans ((put_other _ _ (by decide)).trans (put_same _ _ _)))
          refine tk 0 hHeld ?_
          refine tkr 1 fun Kc hKc=>?_
          go_simp
          refine (state_at HP.out).mono ?_
          rintro e w' ⟨rfl,hw'⟩
          rw[hw']
          clear hw' w'
          refine hKc.out _ _ hHeld (fun hHeld=>?_)
          clear hKc Kc
          refine tk 2 hHeld ?_
          refine tk 3 hHeld ?_
          refine tk 4 hHeld ?_
          refine tk 5 hHeld ?_
          refine tk 6 hHeld ?_
          refine tk 7 hHeld ?_
          refine tk 8 hHeld ?_
          refine tk 9 hHeld ?_
          refine tk 10 hHeld ?_
          refine tk 11 hHeld ?_
          refine tk 12 hHeld ?_
          refine tkm 13 hHeld (fun _ s=>load_blkV (s.blk (i:=13) (by decide) (by decide) (put_same _ _ _)) HEW.out.len) ?_
          refine tk 14 hHeld ?_
          refine tk 15 hHeld ?_
          refine tk 16 hHeld ?_
          refine tkm 17 hHeld (fun _ s=>(HHD.out _ _ _ _ ((s.undo ((put_other _ _ (by decide)).trans ((put_other _ _ (by decide)).trans (F12.out 13 (by decide))))).undo ((put_other _ _ (by decide)).trans (F12.out 12 (by decide))))).2) ?_
          refine tkq 18 hHeld eqg_val (fun w=>neqV_same w e0.v HEW.out.len) ?_
          refine tk 19 hHeld ?_
          clear hHeld
          refine wpAnyH_done (by kernel_rfl) (NoPanic.normal ?_) _
          have hdf:=(HDe.out.undo ((put_other _ _ (by decide)).trans ((put_other _ _ (by decide)).trans (F12.out 13 (by decide))))).undo ((put_other _ _ (by decide)).trans (F12.out 12 (by decide)))
          have kk:=(HDK.out _ _ _ _ hdf).kp
          have HBZ:Hid (Below w.heap.size w wf):=C.below_then BW.out HDe.out.below
          have eln:(y.L.length:Int)=1:=HLN.out.trans (by simp)
          have he:=HDe.out.blk (i:=12) (by decide) (by decide) (B:=RE) (t:=54) ((put_other _ _ (by decide)).trans (put_same _ _ _))
          have L1:Hid (_):=ent_val (z:=(⟨e0.b,vv,x.g.fin+1⟩:C.En)) he HVV.out.1
          have L2:Hid (_):=HVL.out _ _ _ _ hdf
          have cp:wf.cell? ⟨RE,33,none⟩=some (.int .u64 (x.g.fin+1)):=by rw[cell_of_row _ _ _ _ _ _ he,List.getElem?_toArray];exact C.ecells_p (i:=(⟨e0.b,vv,x.g.fin+1⟩:C.En)) HVV.out.1
          have EV:Hid ((binOp .eql 51 (.agg (U8 vv).toArray) (.agg (U8 vv).toArray)).run prog wf=.ok (.bool true) wf):=by
           have:=C.eqlV wf vv vv HVV.out.1 HVV.out.1
           rw[decide_eq_true rfl] at this
           exact this
          have hfb:((x.g.fin+1) == (x.g.fin+1))=true:=by simp
          have hfn:0≤x.g.fin∧x.g.fin≤1500:=by have:=HNX.out;have:=HOX.out.g.t0;have:=HOX.out.g.tm;have:=HOX.out.g.mf;omega
          clear hdf he
          go_wp2_with ((with_reducible refine C.at_ops ?_);(first | (refine ldI 51 L1.out ?_) | (refine ldI 51 L2.out ?_) | ((refine C.wpList_eql_is (by rfl) 51 rfl rfl rfl eqg_val EV.out ?_);simp only[Act.put,zA,zB,zC])))
          refine (p_len HDe.out).mono ?_
          rintro e w' ⟨rfl,hw'⟩
          rw[hw',eln]
          clear hw' w' eln
          go_wp2
          go_ret
          exact⟨rfl,HBZ.out⟩
theorem pointKeeps_any (s:Sup)(ht:Tab w){p:Option Addr}{m c:Nat}{os:List Opv}(hS:ScIn w p m os)(at':Int)(sm:Bool):Calls prog 3 #[.agg (ccells s).toArray,.slice p m c,.int .i64 at',.bool sm] w fun e w'=>e=.returned (.bool true)∧Below w.heap.size w w':=by
 by_cases hc:MayC s
 ·exact pointKeeps_yes s hc ht hS at' sm
 ·exact pointKeeps_no s hc ht p m c at' sm
end
end Go.Proofs.YtcdjepkhdjpjcaaGreatDoor.Q
