import Derived.Test.YtdadpepfpiimgaaGreatDoorK17
set_option maxHeartbeats 20000000
set_option maxRecDepth 100000
namespace Go.Proofs.YtdadpepfpiimgaaGreatDoor
open Go.Proofs.Tryz
open Go.RowKit
theorem refRead_any {w:World}{S:Nat→Prop}{p n:Nat}{d:List Int}{ws:List Wr}(h:Ref w S p n d ws)(hk:ws.length≤100000)(c:Sup) :
  Calls prog 120 #[.pointer (some ⟨p,0,none⟩),.agg (ccells c).toArray] w fun e w'=>∃q cp vs,e=.returned (.tuple #[.agg (gcells (rdL c n (newest ws d)).1.tail (rdL c n (newest ws d)).1.life (rdL c n (newest ws d)).1.fin (.slice q (rdL c n (newest ws d)).1.txs.length cp)).toArray,.int .i64 (rdL c n (newest ws d)).2])∧XOwn 248 w' w.heap.size (.slice q (rdL c n (newest ws d)).1.txs.length cp) (rdL c n (newest ws d)).1.txs vs∧Below w.heap.size w w':=by
 obtain ⟨wa,hwa⟩:∃y,y=w.alloc (.cells (ccells c).toArray 23):=⟨_,rfl⟩
 obtain ⟨w0,hw0⟩:∃y,y=wa.alloc (.cells (gcells 0 0 0 (.slice none 0 0)).toArray 225):=⟨_,rfl⟩
 have ewa:=hwa.symm
 have sa:wa.heap.size=w.heap.size+1:=by rw[hwa];simp
 have A1:Hid (_):=allocR wa
 rw[← hw0,sa] at A1
 have Ba:Below w.heap.size w wa:=by rw[hwa];exact below_alloc w _
 have B0:Hid (Below w.heap.size w w0):=by rw[hw0];exact below_then Ba (below_alloc wa _)
 have C0:Hid (CAt w0 w.heap.size c):=by
  rw[hw0]
  refine LAt.later ?_ (below_alloc wa _)
  rw[hwa];exact LAt.new 23 w _
 have V0:Hid (LAt 225 w0 (w.heap.size+1) (gcells 0 0 0 (.slice none 0 0))):=by rw[hw0,← sa];exact LAt.new 225 wa _
 have HD:Hid (Ref w S p n d ws):=h
 have HK:Hid (ws.length≤100000):=hk
 have HBY:Hid (∀k,Bytes (newest ws d k)):=h.bytes
 have HL0:Hid ((newest ws d 0).length=64):=by
  obtain ⟨g,L,cap,v,vs,hp⟩:=h
  exact newk_length hp.dl hp.fit hp.n1 _
 have L0:Hid (_):=CAt.load23 C0.out
 clear hwa hw0 Ba h hk
 go_enter func120,ntmps120
 go_wp2_with ((with_reducible refine at_ops ?_);(first | (refine wpList_alloc_is (by rfl) 225 rfl A1.out ?_) | (refine wpList_load_is (by rfl) 23 rfl rfl L0.out ?_));simp only[Act.put,zA,zB,zC])
 clear ewa A1
 refine (refConfig_any c _).mono ?_
 rintro e w1 ⟨rfl,b1⟩
 have B1:Hid (Below w.heap.size w w1):=below_then B0.out b1
 have C1:Hid (CAt w1 w.heap.size c):=LAt.later C0.out b1
 have V1:Hid (LAt 225 w1 (w.heap.size+1) (gcells 0 0 0 (.slice none 0 0))):=LAt.later V0.out b1
 clear b1 B0 C0 V0 L0
 by_cases hc:MayC c
 ·rw[cfg_yes c hc]
  have HC:Hid (MayC c):=hc
  obtain ⟨⟨a1,a2⟩,⟨a3,a4⟩,-⟩:=hc
  obtain ⟨bl,hbl⟩:∃x,x=c.bl:=⟨_,rfl⟩
  obtain ⟨lc,hlc⟩:∃x,x=c.lc:=⟨_,rfl⟩
  have k1:IntKind.i64.wrap (1+bl)=1+bl:=by rw[IntKind.wrap_i64];omega
  have k2:IntKind.i64.wrap (1+bl+lc)=1+bl+lc:=by rw[IntKind.wrap_i64];omega
  have HE:Hid ((¬(n:Int)=1+bl+lc→rdL c n (newest ws d)=(log0,40))∧((n:Int)=1+bl+lc→(n:Int)=1+c.bl+c.lc∧∀z,decS (newest ws d 0)=z→(¬z.2=0→rdL c n (newest ws d)=(log0,70))∧(z.2=0→cfgB z.1 c=false→rdL c n (newest ws d)=(log0,3))∧(z.2=0→cfgB z.1 c=true→rdL c n (newest ws d)=(scanS c (newest ws d) z.1,0)))):=by
   rw[hbl,hlc]
   refine⟨fun h=>?_,fun h=>⟨h,fun z hz=>?_⟩⟩
   ·have e:=supOf_len (newest ws d) HC.out h
    rw[rdL_no (by rw[e];decide),e]
   ·subst hz
    refine⟨fun k=>?_,fun k k2=>?_,fun k k2=>?_⟩
    ·have e:=supOf_bad HC.out h k
     rw[rdL_no (by rw[e];exact k),e]
     show (log0,(decS (newest ws d 0)).2)=_
     rw[decS_70 HL0.out k]
    ·have e:=supOf_other HC.out h k fun e=>(by rw[(cfgB_iff _ _).2 e] at k2;cases k2)
     rw[rdL_no (by rw[e];decide),e]
    ·have e:=supOf_ok HC.out h k ((cfgB_iff _ _).1 k2)
     rw[rdL_ok (by rw[e]),e]
  have HC0:Hid (∀w',CAt w' w.heap.size c→w'.cell? ⟨w.heap.size,0,none⟩=some (.int .i64 bl)∧w'.cell? ⟨w.heap.size,1,none⟩=some (.int .i64 lc)):=by rw[hbl,hlc];exact fun w' h=>⟨CAt.c0 h,CAt.c1 h⟩
  have hn4:1+bl+lc≤129:=by omega
  have hn0:0<1+bl+lc:=by omega
  clear hbl hlc a1 a2 a3 a4
  go_wp2_with fail
  refine wp_region_noPanic ?_
  refine wp_region_held_drew (S:=fun w'=>Below w1.heap.size w1 w') (by kernel_rfl) (below_drawn 1) (fun hHeld=>?_)
  have D1:Hid (Below w1.heap.size w1 w1.drew):=hHeld
  generalize w1.drew=wd at *
  refine tk 0 hHeld ?_
  refine tk 2 hHeld ?_
  refine tkl 3 hHeld (fun _ hSw=>(HC0.out _ (LAt.later C1.out hSw)).1) ?_
  refine tk 4 hHeld ?_
  refine tk 5 hHeld ?_
  refine tkl 6 hHeld (fun _ hSw=>(HC0.out _ (LAt.later C1.out hSw)).2) ?_
  refine tk 7 hHeld ?_
  refine wpAnyH_ready (rs:=[1]) (by kernel_rfl) (by simp) ?_
  refine AllReadyH.cons (by simp;rfl) (fun Kc hKc=>?_) AllReadyH.nil
  go_simp
  refine (rlen_any (HD.out.later (below_then B1.out D1.out))).mono ?_
  rintro e wn ⟨rfl,rfl⟩
  refine hKc.out _ _ D1.out (fun hHeld=>?_)
  clear hKc Kc
  refine tk 8 hHeld ?_
  have B2:Hid (Below w.heap.size w wd):=below_then B1.out D1.out
  have C2:Hid (CAt wd w.heap.size c):=LAt.later C1.out D1.out
  have V2:Hid (LAt 225 wd (w.heap.size+1) (gcells 0 0 0 (.slice none 0 0))):=LAt.later V1.out D1.out
  clear hHeld D1 HC0 B1 C1 V1
  refine wpAnyH_done (by kernel_rfl) (NoPanic.normal ?_) _
  obtain ⟨w2,hw2⟩:∃y,y=wd:=⟨_,rfl⟩
  rw[← hw2] at B2 C2 V2 ⊢
  clear hw2
  by_cases he:(n:Int)=1+bl+lc
  ·have hq:((n:Int) != 1+bl+lc)=false:=by rw[he];simp
   have HZ0:Hid (_):=HE.out.2 he
   have hn:0<n:=by omega
   clear he HE
   go_wp2_with fail
   refine (rrd_at (HD.out.later B2.out) HK.out 0 (Int.le_refl 0) (by omega)).mono ?_
   rintro e w3 ⟨q2,c2,rfl,x2,hc2,b2⟩
   have X3:Hid (BIn w3 q2 64 (newest ws d 0)):=x2
   have B3:Hid (Below w.heap.size w w3):=below_then B2.out b2
   have C3:Hid (CAt w3 w.heap.size c):=LAt.later C2.out b2
   have V3:Hid (LAt 225 w3 (w.heap.size+1) (gcells 0 0 0 (.slice none 0 0))):=LAt.later V2.out b2
   clear x2 b2 B2 C2 V2 hq
   go_wp2_with fail
   refine (refDecode_any q2 64 c2 _ w3 X3.out hc2).mono ?_
   rintro e w4 ⟨rfl,b4⟩
   have B4:Hid (Below w.heap.size w w4):=below_then B3.out b4
   have C4:Hid (CAt w4 w.heap.size c):=LAt.later C3.out b4
   have V4:Hid (LAt 225 w4 (w.heap.size+1) (gcells 0 0 0 (.slice none 0 0))):=LAt.later V3.out b4
   have HRW:Hid ((decS (newest ws d 0)).1.Wf):=decS_wf _ (HBY.out 0)
   have HGO:Hid ((decS (newest ws d 0)).2=0→_):=fun h=>(decS_good _ h).1
   clear b4 X3 B3 C3 V3
   obtain ⟨⟨r,k⟩,hz⟩:∃z,decS (newest ws d 0)=z:=⟨_,rfl⟩
   have HZ:Hid (_):=HZ0.out.2 _ hz
   have HNN:Hid (_):=HZ0.out.1
   rw[hz] at HRW HGO ⊢
   clear hz HZ0
   obtain ⟨w5,hw5⟩:∃y,y=w4.alloc (.cells (scells r).toArray 194):=⟨_,rfl⟩
   have A5:Hid (_):=alloc26 w4
   have T45:Hid (_):=store_new26 w4 r
   rw[← hw5] at T45
   have b5:Below w4.heap.size w4 w5:=by rw[hw5];exact below_alloc w4 _
   have B5:Hid (Below w.heap.size w w5):=below_then B4.out b5
   have C5:Hid (CAt w5 w.heap.size c):=LAt.later C4.out b5
   have V5:Hid (LAt 225 w5 (w.heap.size+1) (gcells 0 0 0 (.slice none 0 0))):=LAt.later V4.out b5
   have R5:Hid (SAt 194 w5 w4.heap.size r):=by rw[hw5];exact LAt.new 194 w4 _
   clear hw5 b5 B4 C4 V4
   have U5:Hid (_):=buildR0 w5
   have T5:Hid (_):=LAt.store (ds:=gcells 0 0 0 (.slice none 0 0)) V5.out sizeR rfl (all_oneCell_toArray (gcells_ones rfl 0 0 0))
   have F5:Hid (LAt 225 (w5.setRow (w.heap.size+1) (gcells 0 0 0 (.slice none 0 0)).toArray) (w.heap.size+1) (gcells 0 0 0 (.slice none 0 0))):=LAt.stored V5.out _
   have G5:Hid (Below w.heap.size w (w5.setRow (w.heap.size+1) (gcells 0 0 0 (.slice none 0 0)).toArray)):=below_setRow B5.out (Nat.le_succ _) _
   go_upto_region 7 with ((with_reducible refine at_ops ?_);(first | (refine wpList_alloc_is (by rfl) 194 rfl A5.out ?_) | (refine wpList_store_is (by rfl) 194 rfl rfl rfl T45.out ?_));simp only[Act.put,zA,zB,zC])
   clear A5 T45
   by_cases hk:k=0
   ·subst hk
    have L5:Hid (_):=SAt.load23 R5.out
    have M5:Hid (_):=CAt.load23 C5.out
    have N5:Hid (_):=neq23 w5 r c
    cases hb:cfgB r c with
    | false =>
     rw[hb] at N5
     have HR:Hid (_):=HZ.out.2.1 rfl hb
     clear HZ
     go_wp2_with ((with_reducible refine at_ops ?_);(first | (refine wpList_load_is (by rfl) 23 rfl rfl L5.out ?_) | (refine wpList_load_is (by rfl) 23 rfl rfl M5.out ?_) | (refine wpList_neq_is (by rfl) 23 rfl rfl rfl eqg23 N5.out ?_) | (refine wpList_build_is (vs:=[]) (by rfl) 225 rfl (by rfl) U5.out ?_) | (refine wpList_store_is (by rfl) 225 rfl rfl rfl T5.out ?_));simp only[Act.put,zA,zB,zC])
     refine bodyPost_ret (results_lat results120 _ _ (w.heap.size+1) 225 _ _ (by rfl) F5.out underlying225 rfl sizeR) rfl ?_
     rw[HR.out]
     first | exact⟨none,0,rfl,⟨_,XOwn.nil _ _ _⟩,G5.out⟩ | exact⟨none,0,_,rfl,XOwn.nil _ _ _,G5.out⟩ | exact⟨none,0,rfl,_,XOwn.nil _ _ _,G5.out⟩ | exact⟨none,⟨0,rfl⟩,_,XOwn.nil _ _ _,G5.out⟩ | exact⟨none,0,⟨_,rfl,XOwn.nil _ _ _,G5.out⟩⟩
    | true =>
     rw[hb] at N5
     have HR:Hid (rdL c n (newest ws d)=(scanS c (newest ws d) r,0)):=HZ.out.2.2 rfl hb
     clear HZ U5 T5 F5 G5 hb
     obtain ⟨w6,hw6⟩:∃y,y=w5.alloc (.cells (gcells r.tail r.life r.tail (.slice none 0 0)).toArray 225):=⟨_,rfl⟩
     have A11:Hid (_):=allocR w5
     have U11:Hid (_):=buildR3 w5 r.tail r.life r.tail
     have T11:Hid (_):=store_newR w5 r.tail r.life r.tail (v:=.slice none 0 0) rfl
     rw[← hw6] at T11
     have b6:Below w5.heap.size w5 w6:=by rw[hw6];exact below_alloc w5 _
     have lg6:LAt 225 w6 w5.heap.size (gcells r.tail r.life r.tail (.slice none 0 0)):=by rw[hw6];exact LAt.new 225 w5 _
     have RR0:Hid (RR w w6 c r w4.heap.size w5.heap.size ⟨[],r.tail,[]⟩ (.slice none 0 0) (.slice none 0 0) []) :=
      ⟨LAt.later C5.out b6,LAt.later V5.out b6,LAt.later R5.out b6,lg6,XOwn.nil _ _ _,World.ownsRow_nil _ _ _ _,(fun u hu=>by cases hu),below_then B5.out b6,(by have:=V5.out.lt;omega),B5.out.size⟩
     have q5:=SAt.c5 R5.out
     have q6:=SAt.c6 R5.out
     obtain ⟨Bl,hBl⟩:∃Bl,Bl=w5.heap.size:=⟨_,rfl⟩
     obtain ⟨Bs,hBs⟩:∃Bs,Bs=w4.heap.size:=⟨_,rfl⟩
     have hT0:=HRW.out.tail
     have hT1:=(HGO.out rfl).2.1
     have hl1:=HC.out.2.1
     have hm1:=HC.out.2.2.1
     obtain ⟨LC,hLC⟩:∃LC:Nat,c.lc=LC:=⟨c.lc.toNat,by omega⟩
     have HLC:Hid (c.lc=LC):=hLC
     have hLC2:LC≤64:=by omega
     obtain ⟨FN,hFN⟩:∃FN,FN=scRun (stS c (newest ws d)) c.mr LC r.tail ⟨[],r.tail,[]⟩:=⟨_,rfl⟩
     have HRn:Hid (rdL c n (newest ws d)=(⟨r.tail,r.life,FN.fin,FN.txs⟩,0)):=by
      show _=_
      rw[HR.out,hFN]
      unfold scanS
      rw[hLC,Int.toNat_natCast]
     have HI0:Hid (∃s tv vs,RR w w6 c r w4.heap.size w5.heap.size s tv (.slice none 0 0) vs∧Sc.Ok c.mr r.tail 0 s∧scRun (stS c (newest ws d)) c.mr (LC-0) (r.tail+((0:Nat):Int)) s=FN) :=
      ⟨_,_,_,RR0.out,Sc.Ok.start (by omega) _,by rw[hFN,Nat.sub_zero];simp⟩
     clear HR hFN hw6 b6 lg6 RR0 B5 C5 V5 R5 hLC hm1 hBl hBs Bl Bs
     go_wp2_with ((with_reducible refine at_ops ?_);(first | (refine wpList_load_is (by rfl) 23 rfl rfl L5.out ?_) | (refine wpList_load_is (by rfl) 23 rfl rfl M5.out ?_) | (refine wpList_neq_is (by rfl) 23 rfl rfl rfl eqg23 N5.out ?_) | (refine wpList_build_is (vs:=[(0,.int .u64 r.tail),(1,.int .u64 r.life),(2,.int .u64 r.tail)]) (by rfl) 225 rfl (by rfl) U11.out ?_) | (refine wpList_alloc_is (by rfl) 225 rfl A11.out ?_) | (refine wpList_store_is (by rfl) 225 rfl rfl rfl T11.out ?_));simp only[Act.put,zA,zB,zC])
     clear A11 U11 T11 L5 M5 N5 q5 q6
     have HR:=HRn
     clear HRn
     obtain ⟨Bs,hBs⟩:∃Bs,Bs=w4.heap.size:=⟨_,rfl⟩
     obtain ⟨Bl,hBl⟩:∃Bl,Bl=w5.heap.size:=⟨_,rfl⟩
     rw[← hBs,← hBl] at HI0
     rw[← hBs,← hBl]
     clear hBs hBl
     go_loopw [11,12] (fun v i wr=>∃k:Nat,k≤LC∧i=.int .i64 k∧∃qc mc cc,v=.slice qc mc cc∧Hid (∃s tv vs,RR w wr c r Bs Bl s tv (.slice qc mc cc) vs∧Sc.Ok c.mr r.tail k s∧scRun (stS c (newest ws d)) c.mr (LC-k) (r.tail+(k:Int)) s=FN)) (fun _ i _=>LC-(intOf i).toNat)
     case atStart=>exact⟨0,Nat.zero_le _,rfl,none,0,0,rfl,HI0.out⟩
     case round =>
      obtain ⟨k,hk,rfl,qc,mc,cc,rfl,HI⟩:=hrel
      clear HI0
      obtain ⟨wv,hwv⟩:∃wv,wv=wr:=⟨_,rfl⟩
      subst hwv
      obtain ⟨s,tv,vs,rr,hok,hrun⟩:=HI.out
      have RV:Hid (RR w wv c r Bs Bl s tv (.slice qc mc cc) vs):=rr
      have HOK:Hid (Sc.Ok c.mr r.tail k s):=hok
      have z1:wv.cell? ⟨w.heap.size,1,none⟩=some (.int .i64 (LC:Int)):=by rw[← HLC.out];exact CAt.c1 rr.cf
      clear HI rr hok
      by_cases hlt:k<LC
      ·obtain ⟨P,hP⟩:∃P,r.tail+(k:Int)=P:=⟨_,rfl⟩
       have hP0:0≤P:=by omega
       have hP1:P≤4611686018427388000:=by omega
       have hwk:IntKind.u64.wrap (k:Int)=(k:Int):=by rw[IntKind.wrap_u64];omega
       have hwP:IntKind.u64.wrap (r.tail+(k:Int))=P:=by rw[IntKind.wrap_u64];omega
       have z5:wv.cell? ⟨Bs,5,none⟩=some (.int .u64 r.tail):=SAt.c5 RV.out.sp
       have L17:Hid (_):=CAt.load23 RV.out.cf
       have HRUN:Hid (scRun (stS c (newest ws d)) c.mr (LC-k) P s=FN):=by rw[← hP];exact hrun
       have i1:(k:Int)<(LC:Int):=by omega
       have HPP:Hid (r.tail+(k:Int)=P):=hP
       clear hrun hP
       go_wp2_with ((with_reducible refine at_ops ?_);(refine wpList_load_is (by rfl) 23 rfl rfl L17.out ?_);simp only[Act.put,zA,zB,zC])
       refine (stands_any (HD.out.later RV.out.low) HK.out c HC.out HNN.out P hP0).mono ?_
       rintro e wx ⟨rfl,bx⟩
       clear z1 z5 L17 hwk hwP i1
       obtain ⟨⟨ro,okb⟩,hst⟩:∃z,stS c (newest ws d) P=z:=⟨_,rfl⟩
       have HW7:Hid (ro.Wf):=by have:=stS_wf (c:=c) (p:=P) HBY.out;rw[hst] at this;exact this
       have HST:Hid (stS c (newest ws d) P=(ro,okb)):=hst
       have RX0:Hid (RR w wx c r Bs Bl s tv (.slice qc mc cc) vs):=RV.out.later bx
       rw[hst]
       obtain ⟨wy,hwy⟩:∃y,y=wx.alloc (.cells (R.rcells ro).toArray 245):=⟨_,rfl⟩
       have A7:Hid (_):=R.alloc37 wx
       have T7:Hid (_):=R.store_new R.size37 wx ro HW7.out.len
       rw[← hwy] at T7
       have by7:Below wx.heap.size wx wy:=by rw[hwy];exact below_alloc wx _
       have RY:Hid (RR w wy c r Bs Bl s tv (.slice qc mc cc) vs):=RX0.out.later by7
       have RX:Hid (R.RAt 245 wy wx.heap.size ro):=by rw[hwy];exact R.RAt.new 245 wx ro
       obtain ⟨Bo,hBo⟩:∃Bo,Bo=wx.heap.size:=⟨_,rfl⟩
       rw[← hBo] at RX A7 T7
       clear hwy by7 bx hst RV RX0
       go_upto_region 18 with ((with_reducible refine at_ops ?_);(first | (refine wpList_alloc_is (by rfl) 245 rfl A7.out ?_) | (refine wpList_store_is (by rfl) 245 rfl rfl rfl T7.out ?_));simp only[Act.put,zA,zB,zC])
       clear A7 T7 hBo
       cases okb with
       | false =>
        have HEND:Hid (s=FN):=by
         have:=HRUN.out
         rw[scRun_off (by rw[HST.out])] at this
         exact this
        clear HRUN HST
        obtain ⟨qe,ce,hve,l1,l2,l3,l4,l5⟩:=RY.out.ret
        subst hve
        have LE:Hid (_):=l1
        have TE:Hid (_):=l2
        have FE:Hid (_):=l3
        have XE:Hid (_):=l4
        have GE:Hid (_):=l5
        clear l1 l2 l3 l4 l5
        go_wp2_with ((with_reducible refine at_ops ?_);(first | (refine wpList_load_is (by rfl) 225 rfl rfl LE.out ?_) | (refine wpList_store_is (by rfl) 225 rfl rfl rfl TE.out ?_));simp only[Act.put,zA,zB,zC])
        refine bodyPost_ret (results_lat results120 _ _ (w.heap.size+1) 225 _ _ (by rfl) FE.out underlying225 rfl sizeR) rfl ?_
        rw[HR.out]
        have hE:FN=s:=HEND.out.symm
        subst hE
        first | exact⟨qe,ce,rfl,⟨_,XE.out⟩,GE.out⟩ | exact⟨qe,ce,_,rfl,XE.out,GE.out⟩ | exact⟨qe,ce,rfl,_,XE.out,GE.out⟩ | exact⟨qe,⟨ce,rfl⟩,_,XE.out,GE.out⟩ | exact⟨qe,ce,⟨_,rfl,XE.out,GE.out⟩⟩
       | true =>
        obtain ⟨qx,cx,ex,mx,hx1,-⟩:=IOwn.in RY.out.im HOK.out.cw
        cases ex
        have MC:Hid (MIn wy qc s.come.length s.come):=mx
        have hcl:=HOK.out.cl
        have htl:=HOK.out.tl
        obtain ⟨m,hm⟩:∃m:Nat,s.come.length=m:=⟨_,rfl⟩
        have HM:Hid (s.come.length=m):=hm
        obtain ⟨mr,hmr⟩:∃mr:Int,c.mr=mr:=⟨_,rfl⟩
        have HMR:Hid (c.mr=mr):=hmr
        have hmr2:=HC.out.2.2.1
        rw[hm] at hcl MC RY ⊢
        rw[hmr] at hcl hmr2
        have q0:=R.RAt.c0 RX.out
        have q2':=R.RAt.c2 RX.out
        have q35:=R.RAt.c35 RX.out HW7.out.len
        have HCM:Hid (∀W,CAt W w.heap.size c→W.cell? ⟨w.heap.size,2,none⟩=some (.int .i64 mr)):=fun W h=>by rw[← hmr];exact CAt.c2 h
        clear mx hx1 hm hmr
        by_cases h1:ro.kind=1
        ·have e1:(ro.kind == 1)=true:=by simp[h1]
         go_upto_region 22 with fail
         clear q0 e1
         by_cases hfull:(m:Int)=mr
         ·have hf1:((m:Int) == mr)=true:=by simp[hfull]
          have HEND:Hid (s=FN):=by
           have:=HRUN.out
           rw[scRun_stop (by rw[HST.out];exact scStep_no (fun e=>by have:=e.2.1;rw[HM.out,HMR.out] at this;omega) (fun e=>by have:=e.1;have:ro.kind=2:=this;omega))] at this
           exact this
          clear HRUN HST
          refine wp_region_noPanic ?_
          refine wp_region_held_drew (S:=fun w'=>Below wy.heap.size wy w') (by kernel_rfl) (below_drawn 1) (fun hHeld=>?_)
          have DQ:Hid (Below wy.heap.size wy wy.drew):=hHeld
          generalize wy.drew=wd at *
          refine tk 0 hHeld ?_
          refine tk 1 hHeld ?_
          refine tkl 2 hHeld (fun _ hSw=>HCM.out _ (LAt.later RY.out.cf hSw)) ?_
          refine tk 3 hHeld ?_
          refine tk 4 hHeld ?_
          refine tks 5 hHeld ?_
          refine tks 6 hHeld ?_
          refine tks 7 hHeld ?_
          refine tks 8 hHeld ?_
          refine tks 9 hHeld ?_
          refine tks 10 hHeld ?_
          refine tks 11 hHeld ?_
          refine tks 12 hHeld ?_
          refine tks 13 hHeld ?_
          refine tks 14 hHeld ?_
          refine tks 15 hHeld ?_
          refine tks 16 hHeld ?_
          refine tks 17 hHeld ?_
          refine tk 18 hHeld ?_
          clear hHeld
          refine wpAnyH_done (by kernel_rfl) (NoPanic.normal ?_) _
          have RQ:Hid (_):=RY.out.later DQ.out
          clear DQ RY RX MC hf1 q2' q35
          obtain ⟨qe,ce,hve,l1,l2,l3,l4,l5⟩:=RQ.out.ret
          subst hve
          have LE:Hid (_):=l1
          have TE:Hid (_):=l2
          have FE:Hid (_):=l3
          have XE:Hid (_):=l4
          have GE:Hid (_):=l5
          clear l1 l2 l3 l4 l5
          go_wp2_with ((with_reducible refine at_ops ?_);(first | (refine wpList_load_is (by rfl) 225 rfl rfl LE.out ?_) | (refine wpList_store_is (by rfl) 225 rfl rfl rfl TE.out ?_));simp only[Act.put,zA,zB,zC])
          refine bodyPost_ret (results_lat results120 _ _ (w.heap.size+1) 225 _ _ (by rfl) FE.out underlying225 rfl sizeR) rfl ?_
          rw[HR.out]
          have hE:FN=s:=HEND.out.symm
          subst hE
          first | exact⟨qe,ce,rfl,⟨_,XE.out⟩,GE.out⟩ | exact⟨qe,ce,_,rfl,XE.out,GE.out⟩ | exact⟨qe,ce,rfl,_,XE.out,GE.out⟩ | exact⟨qe,⟨ce,rfl⟩,_,XE.out,GE.out⟩ | exact⟨qe,ce,⟨_,rfl,XE.out,GE.out⟩⟩
         ·have hf1:((m:Int) == mr)=false:=by simp[hfull]
          by_cases hm0:m=0
          ·have hz:¬(0:Int)<(m:Int):=by omega
           have HFO:Hid (Folls s.come ro.block c.mr):=⟨by rw[HM.out,HMR.out];omega,.inl (by rw[HM.out];exact hm0)⟩
           clear hz
           subst hm0
           have hf2:((0:Int) == mr)=false:=by rw[beq_eq_false_iff_ne];omega
           refine wp_region_noPanic ?_
           refine wp_region_held_drew (S:=fun w'=>Below wy.heap.size wy w') (by kernel_rfl) (below_drawn 1) (fun hHeld=>?_)
           have DQ:Hid (Below wy.heap.size wy wy.drew):=hHeld
           generalize wy.drew=wd at *
           refine tk 0 hHeld ?_
           refine tk 1 hHeld ?_
           refine tkl 2 hHeld (fun _ hSw=>HCM.out _ (LAt.later RY.out.cf hSw)) ?_
           refine tk 3 hHeld ?_
           refine tk 4 hHeld ?_
           refine tk 5 hHeld ?_
           refine tk 6 hHeld ?_
           refine tk 7 hHeld ?_
           refine tks 8 hHeld ?_
           refine tks 9 hHeld ?_
           refine tks 10 hHeld ?_
           refine tks 11 hHeld ?_
           refine tks 12 hHeld ?_
           refine tks 13 hHeld ?_
           refine tks 14 hHeld ?_
           refine tks 15 hHeld ?_
           refine tks 16 hHeld ?_
           refine tk 17 hHeld ?_
           refine tk 18 hHeld ?_
           clear hHeld
           refine wpAnyH_done (by kernel_rfl) (NoPanic.normal ?_) _
           have RQ:Hid (_):=RY.out.later DQ.out
           have RZ:Hid (R.RAt 245 wd Bo ro):=R.RAt.later RX.out DQ.out
           have HIW:Hid ((⟨ro.block,ro.val⟩:Im).Wf):=⟨⟨HW7.out.b0,HW7.out.b1⟩,HW7.out.len,HW7.out.byte⟩
           obtain ⟨q9,m9,c9,W9,hr9,rr9⟩:=RQ.out.img HOK.out.cw ⟨ro.block,ro.val⟩ HIW.out (by rw[HM.out];omega)
           have y2:=R.RAt.c2 RZ.out
           have L24:Hid (_):=R.RAt.load24 RZ.out HW7.out.len
           have U24:Hid (_):=buildI wd ro.block ro.val HW7.out.len
           have S24:Hid (_):=build_im wd ⟨ro.block,ro.val⟩ HW7.out.len
           have A24:Hid (_):=hr9
           have F24:Hid (∃s tv vs,RR w W9 c r Bs Bl s tv (.slice q9 m9 c9) vs∧Sc.Ok c.mr r.tail (k+1) s∧scRun (stS c (newest ws d)) c.mr (LC-(k+1)) (r.tail+((k+1:Nat):Int)) s=FN):=by
            have hfo:ro.kind=1∧Folls s.come ro.block c.mr:=⟨h1,HFO.out⟩
            have es:=scStep_img (s:=s) (p:=P) hfo
            refine⟨_,_,_,rr9,HOK.out.step (by rw[HMR.out];omega) (by omega) (by omega) HPP.out.symm HW7.out es,?_⟩
            have:=HRUN.out
            rw[show LC-k=LC-(k+1)+1 by omega,scRun_go (by rw[HST.out]) (by rw[HST.out];exact es)] at this
            rw[show r.tail+((k+1:Nat):Int)=P+1 by have:=HPP.out;omega]
            exact this
           clear DQ RY RX MC hr9 rr9 RQ RZ HRUN HST
           go_wp2_with ((with_reducible refine at_ops ?_);(first | (refine wpList_load_is (by rfl) 39 rfl rfl L24.out ?_) | (refine wpList_build_is (vs:=[(0,.int .i64 ro.block),(1,.agg (U8 ro.val).toArray)]) (by rfl) 155 rfl (by rfl) U24.out ?_) | (refine wpList_slice_is (u:=.agg (icells ⟨ro.block,ro.val⟩).toArray) (by rfl) 92 rfl rfl S24.out ?_) | (refine wpList_append_is (u1:=.slice qc 0 cc) (u2:=.slice (some ⟨wd.heap.size,0,none⟩) 1 1) (by rfl) rfl rfl rfl rfl A24.out ?_));simp only[Act.put,zA,zB,zC])
           clear y2 L24 U24 S24 A24
           go_wp2_with fail
           go_roundw
           case rel=>exact⟨k+1,by omega,by go_num,q9,m9,c9,rfl,F24.out⟩
           case measure=>simp[intOf];omega
          ·obtain ⟨m',rfl⟩:∃m',m=m' + 1:=⟨m-1,by omega⟩
           obtain ⟨il,hlast⟩:∃il,s.come[m']?=some il:=⟨_,List.getElem?_eq_getElem (by rw[HM.out];omega)⟩
           have hlb:lastB s.come=il.b:=by
            unfold lastB
            rw[List.getD,HM.out,Nat.add_sub_cancel,hlast];rfl
           obtain ⟨g5,o5,rfl,-⟩:=MC.out.cells (by omega)
           have hz:(0:Int)<((m' + 1:Nat):Int):=by omega
           have hs1:((m' + 1:Nat):Int)-1=(m':Int):=by omega
           have hs2:(m':Int)+1-1=(m':Int):=by omega
           have hf3:((m':Int)+1 == mr)=false:=by rw[beq_eq_false_iff_ne];omega
           have hws:IntKind.i64.wrap (m':Int)=(m':Int):=by rw[IntKind.wrap_i64];omega
           have hws2:IntKind.i64.wrap ((m':Int)+1-1)=(m':Int):=by rw[IntKind.wrap_i64];omega
           have j1:(m':Int)<(m':Int)+1:=by omega
           have j0:(0:Int)≤(m':Int):=by omega
           by_cases hle:ro.block≤il.b
           ·have hle':decide (ro.block≤il.b)=true:=by simp[hle]
            have HEND:Hid (s=FN):=by
             have:=HRUN.out
             rw[scRun_stop (by rw[HST.out];exact scStep_no (fun e=>by rcases e.2.2 with e | e;(· rw[HM.out] at e;omega);(· rw[hlb] at e;have e':il.b<ro.block:=e;omega)) (fun e=>by have:ro.kind=2:=e.1;omega))] at this
             exact this
            clear HRUN HST
            refine wp_region_noPanic ?_
            refine wp_region_held_drew (S:=fun w'=>Below wy.heap.size wy w') (by kernel_rfl) (below_drawn 1) (fun hHeld=>?_)
            have DQ:Hid (Below wy.heap.size wy wy.drew):=hHeld
            generalize wy.drew=wd at *
            refine tk 0 hHeld ?_
            refine tk 1 hHeld ?_
            refine tkl 2 hHeld (fun _ hSw=>HCM.out _ (LAt.later RY.out.cf hSw)) ?_
            refine tk 3 hHeld ?_
            refine tk 4 hHeld ?_
            refine tk 5 hHeld ?_
            refine tk 6 hHeld ?_
            refine tk 7 hHeld ?_
            refine tk 8 hHeld ?_
            refine tkl 9 hHeld (fun _ hSw=>R.RAt.c2 (R.RAt.later RX.out hSw)) ?_
            refine tk 10 hHeld ?_
            refine tk 11 hHeld ?_
            refine tk 12 hHeld ?_
            refine tk 13 hHeld ?_
            refine tk 14 hHeld ?_
            refine tkl 15 hHeld (fun _ hSw=>(MC.out.later hSw).c0 hlast) ?_
            refine tk 16 hHeld ?_
            refine tk 17 hHeld ?_
            refine tk 18 hHeld ?_
            clear hHeld
            refine wpAnyH_done (by kernel_rfl) (NoPanic.normal ?_) _
            have RQ:Hid (_):=RY.out.later DQ.out
            clear DQ RY RX MC hf1 q2' q35
            obtain ⟨qe,ce,hve,l1,l2,l3,l4,l5⟩:=RQ.out.ret
            subst hve
            have LE:Hid (_):=l1
            have TE:Hid (_):=l2
            have FE:Hid (_):=l3
            have XE:Hid (_):=l4
            have GE:Hid (_):=l5
            clear l1 l2 l3 l4 l5
            go_wp2_with ((with_reducible refine at_ops ?_);(first | (refine wpList_load_is (by rfl) 225 rfl rfl LE.out ?_) | (refine wpList_store_is (by rfl) 225 rfl rfl rfl TE.out ?_));simp only[Act.put,zA,zB,zC])
            refine bodyPost_ret (results_lat results120 _ _ (w.heap.size+1) 225 _ _ (by rfl) FE.out underlying225 rfl sizeR) rfl ?_
            rw[HR.out]
            have hE:FN=s:=HEND.out.symm
            subst hE
            first | exact⟨qe,ce,rfl,⟨_,XE.out⟩,GE.out⟩ | exact⟨qe,ce,_,rfl,XE.out,GE.out⟩ | exact⟨qe,ce,rfl,_,XE.out,GE.out⟩ | exact⟨qe,⟨ce,rfl⟩,_,XE.out,GE.out⟩ | exact⟨qe,ce,⟨_,rfl,XE.out,GE.out⟩⟩
           ·have hle':decide (ro.block≤il.b)=false:=by simp[hle]
            have HFO:Hid (Folls s.come ro.block c.mr):=⟨by rw[HM.out,HMR.out];omega,.inr (by rw[hlb];omega)⟩
            refine wp_region_noPanic ?_
            refine wp_region_held_drew (S:=fun w'=>Below wy.heap.size wy w') (by kernel_rfl) (below_drawn 1) (fun hHeld=>?_)
            have DQ:Hid (Below wy.heap.size wy wy.drew):=hHeld
            generalize wy.drew=wd at *
            refine tk 0 hHeld ?_
            refine tk 1 hHeld ?_
            refine tkl 2 hHeld (fun _ hSw=>HCM.out _ (LAt.later RY.out.cf hSw)) ?_
            refine tk 3 hHeld ?_
            refine tk 4 hHeld ?_
            refine tk 5 hHeld ?_
            refine tk 6 hHeld ?_
            refine tk 7 hHeld ?_
            refine tk 8 hHeld ?_
            refine tkl 9 hHeld (fun _ hSw=>R.RAt.c2 (R.RAt.later RX.out hSw)) ?_
            refine tk 10 hHeld ?_
            refine tk 11 hHeld ?_
            refine tk 12 hHeld ?_
            refine tk 13 hHeld ?_
            refine tk 14 hHeld ?_
            refine tkl 15 hHeld (fun _ hSw=>(MC.out.later hSw).c0 hlast) ?_
            refine tk 16 hHeld ?_
            refine tk 17 hHeld ?_
            refine tk 18 hHeld ?_
            clear hHeld
            refine wpAnyH_done (by kernel_rfl) (NoPanic.normal ?_) _
            have RQ:Hid (_):=RY.out.later DQ.out
            have RZ:Hid (R.RAt 245 wd Bo ro):=R.RAt.later RX.out DQ.out
            have HIW:Hid ((⟨ro.block,ro.val⟩:Im).Wf):=⟨⟨HW7.out.b0,HW7.out.b1⟩,HW7.out.len,HW7.out.byte⟩
            obtain ⟨q9,m9,c9,W9,hr9,rr9⟩:=RQ.out.img HOK.out.cw ⟨ro.block,ro.val⟩ HIW.out (by rw[HM.out];omega)
            have y2:=R.RAt.c2 RZ.out
            have L24:Hid (_):=R.RAt.load24 RZ.out HW7.out.len
            have U24:Hid (_):=buildI wd ro.block ro.val HW7.out.len
            have S24:Hid (_):=build_im wd ⟨ro.block,ro.val⟩ HW7.out.len
            have A24:Hid (_):=hr9
            have F24:Hid (∃s tv vs,RR w W9 c r Bs Bl s tv (.slice q9 m9 c9) vs∧Sc.Ok c.mr r.tail (k+1) s∧scRun (stS c (newest ws d)) c.mr (LC-(k+1)) (r.tail+((k+1:Nat):Int)) s=FN):=by
             have hfo:ro.kind=1∧Folls s.come ro.block c.mr:=⟨h1,HFO.out⟩
             have es:=scStep_img (s:=s) (p:=P) hfo
             refine⟨_,_,_,rr9,HOK.out.step (by rw[HMR.out];omega) (by omega) (by omega) HPP.out.symm HW7.out es,?_⟩
             have:=HRUN.out
             rw[show LC-k=LC-(k+1)+1 by omega,scRun_go (by rw[HST.out]) (by rw[HST.out];exact es)] at this
             rw[show r.tail+((k+1:Nat):Int)=P+1 by have:=HPP.out;omega]
             exact this
            clear DQ RY RX MC hr9 rr9 RQ RZ HRUN HST
            go_wp2_with ((with_reducible refine at_ops ?_);(first | (refine wpList_load_is (by rfl) 39 rfl rfl L24.out ?_) | (refine wpList_build_is (vs:=[(0,.int .i64 ro.block),(1,.agg (U8 ro.val).toArray)]) (by rfl) 155 rfl (by rfl) U24.out ?_) | (refine wpList_slice_is (u:=.agg (icells ⟨ro.block,ro.val⟩).toArray) (by rfl) 92 rfl rfl S24.out ?_) | (refine wpList_append_is (u1:=.slice (some ⟨g5,o5,none⟩) (m' + 1) cc) (u2:=.slice (some ⟨wd.heap.size,0,none⟩) 1 1) (by rfl) rfl rfl rfl rfl A24.out ?_));simp only[Act.put,zA,zB,zC])
            clear y2 L24 U24 S24 A24
            go_wp2_with fail
            go_roundw
            case rel=>exact⟨k+1,by omega,by go_num,q9,m9,c9,rfl,F24.out⟩
            case measure=>simp[intOf];omega
        ·have e1:(ro.kind == 1)=false:=by simp[h1]
         have hkd:ro.kind=2:=by
          have hg:=stS_good (c:=c) (rd:=newest ws d) (p:=P) (by rw[HST.out])
          rw[HST.out] at hg
          rcases ((R.may_iff _).1 hg.1).2 with hi | hi
          ·exact absurd hi.1 h1
          ·exact hi.1
         by_cases him:ro.images=(m:Int)
         ·have e2:(ro.images != (m:Int))=false:=by simp[him]
          have TVS:Hid (∃tq tm tc,tv=.slice tq tm tc):=by obtain ⟨a1,a2,a3,-⟩:=XOwn.in RY.out.tx;exact⟨a1,_,a2,a3⟩
          have HIM:Hid (ro.images=(m:Int)):=him
          have hPu:Go.Proofs.YtdadpepfpiimgaaGreatDoor.u64 P:=⟨hP0,by omega⟩
          obtain ⟨q9,m9,c9,V9,hr9,lga,lgb,vs9,rr9⟩:=RY.out.com HOK.out.cw (by omega) P hPu
          have x3:wy.cell? ⟨Bl,3,none⟩=some tv:=LAt.cell RY.out.lg 3
          have U27:Hid (_):=buildX wy P qc m cc
          have S27:Hid (_):=build_rtx wy P qc m cc
          have A27:Hid (_):=hr9
          have x3a:V9.cell? ⟨Bl,3,none⟩=some tv:=LAt.cell lga 3
          have x3f:=LAt.free lga 3
          have x2a:(V9.setCell ⟨Bl,3,none⟩ (.slice q9 m9 c9)).cell? ⟨Bl,2,none⟩=some (.int .u64 s.fin):=LAt.cell lgb 2
          have x2f:=LAt.free lgb 2
          have hwP1:IntKind.u64.wrap (P+1)=P+1:=by rw[IntKind.wrap_u64];omega
          have F28:Hid (∃s tv vs,RR w ((V9.setCell ⟨Bl,3,none⟩ (.slice q9 m9 c9)).setCell ⟨Bl,2,none⟩ (.int .u64 (P+1))) c r Bs Bl s tv (.slice none 0 0) vs∧Sc.Ok c.mr r.tail (k+1) s∧scRun (stS c (newest ws d)) c.mr (LC-(k+1)) (r.tail+((k+1:Nat):Int)) s=FN):=by
           have es:=scStep_com (mr:=c.mr) (s:=s) (p:=P) (r:=ro) ⟨hkd,by rw[HM.out];exact HIM.out⟩
           refine⟨_,_,_,rr9,HOK.out.step (by rw[HMR.out];omega) (by omega) (by omega) HPP.out.symm HW7.out es,?_⟩
           have:=HRUN.out
           rw[show LC-k=LC-(k+1)+1 by omega,scRun_go (by rw[HST.out]) (by rw[HST.out];exact es)] at this
           rw[show r.tail+((k+1:Nat):Int)=P+1 by have:=HPP.out;omega]
           exact this
          clear RY RX MC hr9 rr9 lga lgb HRUN HST him
          obtain ⟨tq,tm,tc,htv⟩:∃tq tm tc,tv=.slice tq tm tc:=TVS.out
          subst htv
          go_wp2_with ((with_reducible refine at_ops ?_);(first | (refine wpList_build_is (vs:=[(0,.int .u64 P),(1,.slice qc m cc)]) (by rfl) 248 rfl (by rfl) U27.out ?_) | (refine wpList_slice_is (u:=.agg #[.int .u64 P,.slice qc m cc]) (by rfl) 223 rfl rfl S27.out ?_) | (refine wpList_append_is (u1:=.slice tq tm tc) (u2:=.slice (some ⟨wy.heap.size,0,none⟩) 1 1) (by rfl) rfl rfl rfl rfl A27.out ?_));simp only[Act.put,zA,zB,zC])
          clear x3 U27 S27 A27 x3a x3f x2a x2f
          go_wp2_with fail
          go_roundw
          case rel=>exact⟨k+1,by omega,by go_num,none,0,0,rfl,F28.out⟩
          case measure=>simp[intOf];omega
         ·have e2:(ro.images != (m:Int))=true:=by simp[him]
          have HEND:Hid (s=FN):=by
           have:=HRUN.out
           rw[scRun_stop (by rw[HST.out];exact scStep_no (fun e=>h1 e.1) (fun e=>him (by have:=e.2;rw[HM.out] at this;exact this)))] at this
           exact this
          clear HRUN HST
          obtain ⟨qe,ce,hve,l1,l2,l3,l4,l5⟩:=RY.out.ret
          subst hve
          have LE:Hid (_):=l1
          have TE:Hid (_):=l2
          have FE:Hid (_):=l3
          have XE:Hid (_):=l4
          have GE:Hid (_):=l5
          clear l1 l2 l3 l4 l5
          go_wp2_with ((with_reducible refine at_ops ?_);(first | (refine wpList_load_is (by rfl) 225 rfl rfl LE.out ?_) | (refine wpList_store_is (by rfl) 225 rfl rfl rfl TE.out ?_));simp only[Act.put,zA,zB,zC])
          refine bodyPost_ret (results_lat results120 _ _ (w.heap.size+1) 225 _ _ (by rfl) FE.out underlying225 rfl sizeR) rfl ?_
          rw[HR.out]
          have hE:FN=s:=HEND.out.symm
          subst hE
          first | exact⟨qe,ce,rfl,⟨_,XE.out⟩,GE.out⟩ | exact⟨qe,ce,_,rfl,XE.out,GE.out⟩ | exact⟨qe,ce,rfl,_,XE.out,GE.out⟩ | exact⟨qe,⟨ce,rfl⟩,_,XE.out,GE.out⟩ | exact⟨qe,ce,⟨_,rfl,XE.out,GE.out⟩⟩
      ·have hnl:¬(k:Int)<(LC:Int):=by omega
       have HEND:Hid (s=FN):=by
        have e0:LC-k=0:=by omega
        have:=hrun
        rw[e0,scRun_zero] at this
        exact this
       clear hrun
       obtain ⟨qe,ce,hve,l1,l2,l3,l4,l5⟩:=RV.out.ret
       subst hve
       have LE:Hid (_):=l1
       have TE:Hid (_):=l2
       have FE:Hid (_):=l3
       have XE:Hid (_):=l4
       have GE:Hid (_):=l5
       clear l1 l2 l3 l4 l5
       go_wp2_with ((with_reducible refine at_ops ?_);(first | (refine wpList_load_is (by rfl) 225 rfl rfl LE.out ?_) | (refine wpList_store_is (by rfl) 225 rfl rfl rfl TE.out ?_));simp only[Act.put,zA,zB,zC])
       refine bodyPost_ret (results_lat results120 _ _ (w.heap.size+1) 225 _ _ (by rfl) FE.out underlying225 rfl sizeR) rfl ?_
       rw[HR.out]
       have hE:FN=s:=HEND.out.symm
       subst hE
       first | exact⟨qe,ce,rfl,⟨_,XE.out⟩,GE.out⟩ | exact⟨qe,ce,_,rfl,XE.out,GE.out⟩ | exact⟨qe,ce,rfl,_,XE.out,GE.out⟩ | exact⟨qe,⟨ce,rfl⟩,_,XE.out,GE.out⟩ | exact⟨qe,ce,⟨_,rfl,XE.out,GE.out⟩⟩
   ·have HR:Hid (_):=HZ.out.1 hk
    have hq:(k != 0)=true:=by simp[hk]
    clear HZ
    go_wp2_with ((with_reducible refine at_ops ?_);(first | (refine wpList_build_is (vs:=[]) (by rfl) 225 rfl (by rfl) U5.out ?_) | (refine wpList_store_is (by rfl) 225 rfl rfl rfl T5.out ?_));simp only[Act.put,zA,zB,zC])
    refine bodyPost_ret (results_lat results120 _ _ (w.heap.size+1) 225 _ _ (by rfl) F5.out underlying225 rfl sizeR) rfl ?_
    rw[HR.out]
    first | exact⟨none,0,rfl,⟨_,XOwn.nil _ _ _⟩,G5.out⟩ | exact⟨none,0,_,rfl,XOwn.nil _ _ _,G5.out⟩ | exact⟨none,0,rfl,_,XOwn.nil _ _ _,G5.out⟩ | exact⟨none,⟨0,rfl⟩,_,XOwn.nil _ _ _,G5.out⟩ | exact⟨none,0,⟨_,rfl,XOwn.nil _ _ _,G5.out⟩⟩
  ·have hq:((n:Int) != 1+bl+lc)=true:=by simp[he]
   have HR:Hid (_):=HE.out.1 he
   clear HE
   have U2:Hid (_):=buildR0 w2
   have T2:Hid (_):=LAt.store (ds:=gcells 0 0 0 (.slice none 0 0)) V2.out sizeR rfl (all_oneCell_toArray (gcells_ones rfl 0 0 0))
   have F2:Hid (LAt 225 (w2.setRow (w.heap.size+1) (gcells 0 0 0 (.slice none 0 0)).toArray) (w.heap.size+1) (gcells 0 0 0 (.slice none 0 0))):=LAt.stored V2.out _
   have G2:Hid (Below w.heap.size w (w2.setRow (w.heap.size+1) (gcells 0 0 0 (.slice none 0 0)).toArray)):=below_setRow B2.out (Nat.le_succ _) _
   go_wp2_with ((with_reducible refine at_ops ?_);(first | (refine wpList_build_is (vs:=[]) (by rfl) 225 rfl (by rfl) U2.out ?_) | (refine wpList_store_is (by rfl) 225 rfl rfl rfl T2.out ?_));simp only[Act.put,zA,zB,zC])
   refine bodyPost_ret (results_lat results120 _ _ (w.heap.size+1) 225 _ _ (by rfl) F2.out underlying225 rfl sizeR) rfl ?_
   rw[HR.out]
   first | exact⟨none,0,rfl,⟨_,XOwn.nil _ _ _⟩,G2.out⟩ | exact⟨none,0,_,rfl,XOwn.nil _ _ _,G2.out⟩ | exact⟨none,0,rfl,_,XOwn.nil _ _ _,G2.out⟩ | exact⟨none,⟨0,rfl⟩,_,XOwn.nil _ _ _,G2.out⟩ | exact⟨none,0,⟨_,rfl,XOwn.nil _ _ _,G2.out⟩⟩
 ·have hq:¬cfg c=0:=by unfold cfg;rw[if_neg hc];decide
  have HR:Hid (rdL c n (newest ws d)=(log0,3)):=by
   have e:=supOf_no (c:=c) n (newest ws d) hc
   show _=_
   rw[rdL_no (by rw[e];decide),e]
  rw[show cfg c=3 from if_neg hc]
  have U1:Hid (_):=buildR0 w1
  have T1:Hid (_):=LAt.store (ds:=gcells 0 0 0 (.slice none 0 0)) V1.out sizeR rfl (all_oneCell_toArray (gcells_ones rfl 0 0 0))
  have F1:Hid (LAt 225 (w1.setRow (w.heap.size+1) (gcells 0 0 0 (.slice none 0 0)).toArray) (w.heap.size+1) (gcells 0 0 0 (.slice none 0 0))):=LAt.stored V1.out _
  have G1:Hid (Below w.heap.size w (w1.setRow (w.heap.size+1) (gcells 0 0 0 (.slice none 0 0)).toArray)):=below_setRow B1.out (Nat.le_succ _) _
  go_wp2_with ((with_reducible refine at_ops ?_);(first | (refine wpList_build_is (vs:=[]) (by rfl) 225 rfl (by rfl) U1.out ?_) | (refine wpList_store_is (by rfl) 225 rfl rfl rfl T1.out ?_));simp only[Act.put,zA,zB,zC])
  refine bodyPost_ret (results_lat results120 _ _ (w.heap.size+1) 225 _ _ (by rfl) F1.out underlying225 rfl sizeR) rfl ?_
  rw[HR.out]
  first | exact⟨none,0,rfl,⟨_,XOwn.nil _ _ _⟩,G1.out⟩ | exact⟨none,0,_,rfl,XOwn.nil _ _ _,G1.out⟩ | exact⟨none,0,rfl,_,XOwn.nil _ _ _,G1.out⟩ | exact⟨none,⟨0,rfl⟩,_,XOwn.nil _ _ _,G1.out⟩ | exact⟨none,0,⟨_,rfl,XOwn.nil _ _ _,G1.out⟩⟩
end Go.Proofs.YtdadpepfpiimgaaGreatDoor
