import Derived.Test.YtcdjepkhdjpjcaaGreatDoorV36
set_option maxHeartbeats 20000000
set_option maxRecDepth 100000
namespace Go.Proofs.YtcdjepkhdjpjcaaGreatDoor.Q
open Go.RowKit
theorem one_form {b bl mr:Int}(h1:0≤b)(h2:b<bl)(h3:E.B.mayS bl mr=true)(h4:1≤mr):E.B.formS [b] bl mr=([b],0):=by
 unfold E.B.formS
 have hd:E.B.diffS [b]=[b]:=rfl
 have hb:E.B.belS [b] bl=true:=by
  unfold E.B.belS
  exact decide_eq_true (fun z hz=>by rw[List.mem_singleton.1 hz];exact⟨h1,h2⟩)
 rw[if_neg (by rw[h3];decide),if_neg (by simp),if_neg (by rw[hb];decide),hd,if_neg (by show ¬mr<(1:Int);omega)]
def wr1 (x:Sx)(b:Int):Sx:=(x.beg [b]).ent
def wr2 (x:Sx)(b:Int)(v:List Int):Sx:=((wr1 x b).img b v).app x.a.next
def wr3 (x:Sx)(b:Int)(v:List Int):Sx:=(wr2 x b v).com.don x.a.next
def wr4 (x:Sx)(b:Int)(v:List Int):Sx:=(wr3 x b v).fls.put [⟨b,v⟩] (x.g.fin+1)
structure Wd (x:Sx) (b:Int) (v:List Int) (y:Sx) (dn:Bool):Prop where
 rn:Run y []
 ta:y.g.tail=x.g.tail
 ma:y.g.mark=x.g.mark
 cf:y.g.c=x.g.c
 c:y.c≤x.c+7
 nx:y.a.next≤x.a.next+1
 fn:x.g.fin≤y.g.fin
 yes:dn=true→y.L=C.layE x.L ⟨b,v,x.g.fin+1⟩∧y.ws=[]
 no:dn=false→y.L=x.L∧y.ws=x.ws∧y.g.fin=x.g.fin
 nw:∀i:Nat,(i:Int)≤x.g.c.bl→newest y.ws y.d i=newest x.ws x.d i
section
variable {x:Sx} {pd:List Cm} {b:Int} {v:List Int}
theorem Run.less (h:Run x pd):Run x []:=⟨h.I,h.W,h.us,h.im,h.n,h.bl,h.lc,h.mr,h.fn,h.ls,fun _ h=>absurd h List.not_mem_nil,h.L⟩
theorem wr_beg (h:Run x pd)(ok:x.Ok)(hb:0≤b∧b<x.g.c.bl):x.a.begE [b]=0∧x.a.begF [b]=[b]∧x.a.begT [b]=x.a.next:=by
 have hm:=ok.a.may
 have e:E.B.formS [b] x.a.bl x.a.mr=([b],0):=one_form hb.1 (by have:=h.bl;omega) (by unfold E.B.mayS;exact decide_eq_true (by omega)) (by omega)
 have e1:x.a.begE [b]=0:=by unfold E.Ad.begE;rw[e]
 exact⟨e1,by unfold E.Ad.begF;rw[e],by unfold E.Ad.begT;rw[if_pos e1]⟩
theorem Wd.out (h:Run x pd)(ok:x.Ok)(hb:0≤b∧b<x.g.c.bl)(hn:¬((x.beg [b]).a.entE=0∧(x.beg [b]).a.entT=x.a.next)):Wd x b v (wr1 x b) false:=by
 obtain ⟨e1,-,e3⟩:=wr_beg h ok hb
 refine⟨(h.less).stuck e1 (by rw[e3];exact hn),rfl,rfl,rfl,by show x.c+1+1≤_;omega,?_,Int.le_refl _,fun e=>(by cases e),fun _=>⟨rfl,rfl,rfl⟩,fun _ _=>rfl⟩
 show (x.beg [b]).ent.a.next≤_
 rw[ent_next];exact beg_next x [b]
theorem wr_mid (h:Run x pd)(ok:x.Ok)(hf:x.g.fin+18≤1000000)(hb:0≤b∧b<x.g.c.bl)(hy:(x.beg [b]).a.entE=0∧(x.beg [b]).a.entT=x.a.next):Mid (wr1 x b) [] x.a.next [b] [b]:=by
 obtain ⟨e1,e2,e3⟩:=wr_beg h ok hb
 have:=h.less.enter ok hf e1 (by rw[e3];exact hy)
 rw[e2,e3] at this
 exact this
theorem Mid.app0 {t:Int}{f r:List Int}{c:Int}(h:Mid x pd t f (c :: r)):x.a.appE t=0:=by
 unfold E.Ad.appE
 rw[h.I,fi_one]
 show (if ((((c :: r).length:Nat):Int)+1)=1 then (120:Int) else 0)=0
 rw[if_neg (by rw[List.length_cons];omega)]
theorem Mid.don0 {t:Int}{f r:List Int}(h:Mid x pd t f r):x.a.donE t=0:=by
 unfold E.Ad.donE
 rw[h.I,fi_one]
theorem wr_ok (h:Run x pd)(ok:x.Ok)(hf:x.g.fin+18≤1000000)(hb:0≤b∧b<x.g.c.bl)(hy:(x.beg [b]).a.entE=0∧(x.beg [b]).a.entT=x.a.next):imgS (wr1 x b).g b=0∧((wr1 x b).img b v).a.appE x.a.next=0∧moreS (wr2 x b v).g=0∧(wr2 x b v).com.a.donE x.a.next=0∧(wr2 x b v).comP=x.g.fin+1∧(wr3 x b v).fls.putE [⟨b,v⟩] (x.g.fin+1)=0:=by
 have m1:=wr_mid h ok hf hb hy
 have ok1:(wr1 x b).Ok:=(ok.beg [b]).ent
 have i1:=m1.imgs ok1
 have m2:Mid (wr2 x b v) [] x.a.next [b] []:=m1.img ok1 v
 have ok2:(wr2 x b v).Ok:=(ok1.img b v).app _
 have ea:((wr1 x b).img b v).a=(wr1 x b).a:=(img_is _ _ _).1
 have ec:(wr2 x b v).com.a=(wr2 x b v).a:=(com_is _).1
 have mo:=m2.more ok2
 have ef:(wr2 x b v).g.fin=x.g.fin+1:=by
  show ((wr1 x b).img b v).g.fin=_
  unfold Sx.img
  rw[if_pos i1]
  rfl
 have r3:Run (wr3 x b v) [([],(wr2 x b v).g.fin)]:=m2.com ok2 []
 have hp:(wr3 x b v).s=true→(wr3 x b v).p<x.g.fin:=fun e=>by
  have e0:(wr3 x b v).s=x.s∧(wr3 x b v).p=x.p:=by
   unfold wr3 Sx.com
   rw[if_pos mo]
   unfold wr2 Sx.img
   rw[if_pos i1]
   exact⟨rfl,rfl⟩
  rw[e0.2];rw[e0.1] at e
  exact h.ls e
 have g0:=ok.g.t0
 have g1:=ok.g.tm
 have g2:=ok.g.mf
 refine⟨i1,by rw[ea];exact m1.app0,mo,by rw[ec];exact m2.don0,?_,?_⟩
 ·unfold Sx.comP;rw[if_pos mo,ef]
 ·show C.putE (wr3 x b v).n (C.nxR (wr3 x b v).s (wr3 x b v).p) [⟨b,v⟩] (x.g.fin+1)=0
  have en:(wr3 x b v).n=x.g.c.bl:=by
   have e0:(wr3 x b v).n=x.n:=by
    unfold wr3 Sx.com
    rw[if_pos mo]
    unfold wr2 Sx.img
    rw[if_pos i1]
    rfl
   rw[e0,h.n]
  have hnx:C.nxR (wr3 x b v).s (wr3 x b v).p≤x.g.fin:=by
   unfold C.nxR
   split
   ·rename_i e;have:=hp e;omega
   ·omega
  unfold C.putE
  rw[if_neg,if_neg,if_neg]
  ·have:=h.fn;omega
  ·simp[C.upI]
  ·rw[en];simp[C.outI];omega
theorem Wd.in (h:Run x pd)(ok:x.Ok)(hf:x.g.fin+18≤1000000)(hb:0≤b∧b<x.g.c.bl)(hy:(x.beg [b]).a.entE=0∧(x.beg [b]).a.entT=x.a.next)(hk:Dk (wr3 x b v)):Wd x b v (wr4 x b v) true:=by
 have m1:=wr_mid h ok hf hb hy
 have ok1:(wr1 x b).Ok:=(ok.beg [b]).ent
 have i1:=m1.imgs ok1
 have m2:Mid (wr2 x b v) [] x.a.next [b] []:=m1.img ok1 v
 have ok2:(wr2 x b v).Ok:=(ok1.img b v).app _
 have mo:=m2.more ok2
 have e0:=(wr_ok (v:=v) h ok hf hb hy).2.2.2.2.2
 have ef:(wr2 x b v).g.fin=x.g.fin+1:=by
  show ((wr1 x b).img b v).g.fin=_
  unfold Sx.img
  rw[if_pos i1]
  rfl
 have r3:Run (wr3 x b v) [([⟨b,v⟩],x.g.fin+1)]:=by have:=m2.com ok2 [⟨b,v⟩];rw[ef] at this;exact this
 have r4:Run (wr4 x b v) []:=r3.ack
 have e2:wr2 x b v={ x with g:=imgG x.g b,ws:=x.ws++[⟨(secN x.g x.g.fin).toNat,R.encS (imgR x.g b v)⟩],a:=(wr1 x b).a.appS x.a.next,c:=x.c+1+1+1 }:=by
  unfold wr2 Sx.img
  rw[if_pos i1]
  rfl
 have e3:wr3 x b v={ wr2 x b v with g:=comG (wr2 x b v).g,ws:=(wr2 x b v).ws++[⟨(secN (wr2 x b v).g (wr2 x b v).g.fin).toNat,R.encS (comR (wr2 x b v).g)⟩],a:=(wr2 x b v).a.donS x.a.next,c:=(wr2 x b v).c+1 }:=by
  unfold wr3 Sx.com
  rw[if_pos mo]
  rfl
 have l1:=sec_log ok.g x.g.fin
 have l2:=sec_log ok2.g (wr2 x b v).g.fin
 have cf2:(wr2 x b v).g.c=x.g.c:=by rw[e2];rfl
 rw[cf2] at l2
 have nx:(wr3 x b v).a.next≤x.a.next+1:=by
  show ((wr2 x b v).com.don x.a.next).a.next≤_
  rw[don_next,(com_is _).1]
  show (((wr1 x b).img b v).app x.a.next).a.next≤_
  rw[app_next,(img_is _ _ _).1]
  show (x.beg [b]).ent.a.next≤_
  rw[ent_next];exact beg_next x [b]
 refine⟨r4,?_,?_,?_,?_,nx,?_,fun _=>⟨?_,rfl⟩,fun e=>(by cases e),fun i hi=>?_⟩
 ·show (wr3 x b v).g.tail=_;rw[e3];show (wr2 x b v).g.tail=_;rw[e2];rfl
 ·show (wr3 x b v).g.mark=_;rw[e3];show (wr2 x b v).g.mark=_;rw[e2];rfl
 ·show (wr3 x b v).g.c=_;rw[e3];exact cf2
 ·show (wr3 x b v).c≤_;rw[e3];show (wr2 x b v).c+1≤_;rw[e2];show x.c+1+1+1+1≤_;omega
 ·show _≤(wr3 x b v).g.fin;rw[e3];show _≤(wr2 x b v).g.fin+1;rw[ef];omega
 ·show C.putL (wr3 x b v).n (wr3 x b v).L (C.nxR (wr3 x b v).s (wr3 x b v).p) [⟨b,v⟩] (x.g.fin+1)=_
  unfold C.putL
  rw[if_pos (show C.putE (wr3 x b v).n (C.nxR (wr3 x b v).s (wr3 x b v).p) [⟨b,v⟩] (x.g.fin+1)=0 from e0)]
  have eL:(wr3 x b v).L=x.L:=by rw[e3];show (wr2 x b v).L=_;rw[e2]
  rw[eL]
  rfl
 ·show newest [] (settle (fun _=>true) (wr3 x b v).ws (wr3 x b v).d) i=_
  have hsz:(wr3 x b v).g.sz=x.g.sz:=by unfold Lg.sz;rw[e3];show 1+(wr2 x b v).g.c.bl.toNat+(wr2 x b v).g.c.lc.toNat=_;rw[cf2]
  have hs:=ok.g.sz_is
  have hlc:=ok.g.cf.2.1
  rw[newest_settled hk.dl hk.fit (by rw[hsz];omega),e3]
  show newest ((wr2 x b v).ws++[_]) (wr2 x b v).d i=_
  rw[newest_snoc,if_neg (by omega),e2]
  show newest (x.ws++[_]) x.d i=_
  rw[newest_snoc,if_neg (by omega)]
theorem Wd.ph {y:Sx}{dn:Bool}{t tl:Int}{L:List C.En}{j:Nat}{p:Pt}(h:Wd x b v y dn)(hp:Ph t tl L j x p):Ph t tl L j y p:=by
 refine⟨hp.j1,hp.j2,hp.pt,h.ta.trans hp.ta,⟨hp.tt.1,?_⟩,?_,fun e=>h.ma.trans (hp.ma e),fun i e hi he=>?_,fun hj z hz=>?_,fun hj=>?_,hp.up,fun e he=>?_,hp.wf⟩
 ·have:=hp.tt.2;have:=h.fn;omega
 ·have:=h.rn.us;rw[h.ta,hp.ta] at this;exact this
 ·have:=hp.ins e (List.mem_of_getElem? he)
  rw[h.nw _ (by omega)];exact hp.hm i e hi he
 ·cases dn with
  | true=>rw[(h.yes rfl).2] at hz;exact absurd hz List.not_mem_nil
  | false=>rw[(h.no rfl).2.1] at hz;exact hp.lo hj z hz
 ·cases dn with
  | true=>exact (h.yes rfl).2
  | false=>rw[(h.no rfl).2.1];exact hp.no hj
 ·rw[h.cf];exact hp.ins e he
end
open Go.Proofs.Tryz
theorem build_one (w:World)(b:Int):(Instr.buildSlice 59 1 #[(0,.int .i64 b)]).run prog w=.ok (.slice (some ⟨w.heap.size,0,none⟩) 1 1) (w.alloc (.cells #[.int .i64 b] 3)):=by
 obtain ⟨i0,hi,hz0,hz1,hz2⟩:=info_parts info_int
 refine run_buildSlice w 59 3 1 _ _ i0 _ underlying59 hi hz0 (by rw[hz1];decide) (by rw[hz1];decide) ?_
 rw[hz1]
 kernel_rfl
section
variable {w0 w:World} {K:Ks} {x y:Sx} {pd pd':List Cm} {X:Nat→Th}
theorem p_putb (h:DS w0 w K x y pd X){i:Nat}(h8:8≤i)(h40:i<40){R:Nat}{m:C.Im}(e:X i=.blk R 84 (C.icells m).toArray)(hm:m.Wf){q:Int}(hq:0≤q∧q<18446744073709551616):Calls prog 32 #[qp K.kp,.slice (some ⟨R,0,none⟩) 1 1,.int .u64 q] w fun e w'=>e=.returned (.int .i64 (x.putE [m] q))∧DS w0 w' K (x.put [m] q) y pd X:=by
 have hb:=h.blk h8 h40 e
 obtain ⟨v,G,hl,-,-,ap,back⟩:=h.pcac
 have hM:C.MIn w (some ⟨R,0,none⟩) 1 [m]:=⟨rfl,fun z hz=>by rw[List.mem_singleton.1 hz];exact hm,fun _=>⟨R,0,rfl,fun j u hj=>by rw[Nat.zero_add,cell_of_row _ _ _ _ _ _ hb];simpa [C.IC] using hj⟩⟩
 refine (C.put_at hl h.okx.k hM (by omega) (fun a ha _ hb'=>?_) hq).mono ?_
 ·have hr:=ap i h8 h40 R (by rw[e];rfl)
  cases ha
  exact hr hb'
 ·rintro e' w' ⟨rfl,ve',hw⟩
  exact⟨rfl,back w' _ _ _ _ (by rw[nxR_put];exact hw) (h.okx.put (fun z hz=>by rw[List.mem_singleton.1 hz];exact hm) hq)⟩
theorem writes_at (ht:Tab w0)(h:DS w0 w K x y pd X)(hX:∀j,12≤j→X j=.no)(hr:Run x pd')(hf:x.g.fin+18≤1000000)(hc:x.c<3900)(hN:x.a.next≤900)(hw:x.ws.length≤90000){b:Int}(hb:0≤b∧b<x.g.c.bl){v:List Int}(hv:v.length=32)(hvb:Bytes v):Calls prog 15 #[.agg (pdk K).toArray,.int .i64 b,.agg (U8 v).toArray] w fun e w'=>∃dn,e=.returned (.tuple #[.bool dn,.bool true])∧∃x',Wd x b v x' dn∧DS w0 w' K x' y pd X:=by
 have hnx0:0≤x.a.next:=by have:=h.okx.a.got0;have:=h.okx.a.gotN;omega
 have hb64:b<64:=by have:=h.okx.g.cf.1;omega
 obtain ⟨q1,q2,q3⟩:=wr_beg hr h.okx hb
 have HBG:Hid (x.a.begE [b]=0∧x.a.begT [b]=x.a.next):=⟨q1,q3⟩
 have HOK:Hid x.Ok:=h.okx
 have HRN:Hid (Run x pd'):=hr
 have HBB:Hid (0≤b∧b<x.g.c.bl):=hb
 have HNM:Hid (x.c<3900∧x.a.next≤900∧x.ws.length≤90000∧0≤x.a.next∧b<64∧x.g.fin+18≤1000000∧0≤x.g.fin):=⟨hc,hN,hw,hnx0,hb64,hf,by have:=h.okx.g.t0;have:=h.okx.g.tm;have:=h.okx.g.mf;omega⟩
 have HV:Hid (v.length=32∧Bytes v):=⟨hv,hvb⟩
 have HX:Hid (∀j,12≤j→X j=.no):=hX
 obtain ⟨r,hr0⟩:∃B,w.heap.size=B:=⟨_,rfl⟩
 obtain ⟨w1,hw1⟩:∃W,w.alloc (.cells (pdk K).toArray 37)=W:=⟨_,rfl⟩
 obtain ⟨r2,hr2⟩:∃B,w1.heap.size=B:=⟨_,rfl⟩
 obtain ⟨w2,hw2⟩:∃W,w1.alloc (.cells (U8 v).toArray 51)=W:=⟨_,rfl⟩
 have hd2:DS w0 w2 K x y pd (put (put X 20 (.blk r 37 (pdk K).toArray)) 21 (.blk r2 51 (U8 v).toArray)):=by
  rw[← hw2,← hr2]
  refine DS.newblk ?_ (by decide) _ _
  rw[← hw1,← hr0]
  exact h.newblk (by decide) _ _
 have HKK:Hid (∀W x',DS w0 W K x' y pd (put (put X 20 (.blk r 37 (pdk K).toArray)) 21 (.blk r2 51 (U8 v).toArray))→DkIn W r K):=fun W x' hW=>hW.blk (i:=20) (by decide) (by decide) rfl
 have HLV:Hid (∀W x',DS w0 W K x' y pd (put (put X 20 (.blk r 37 (pdk K).toArray)) 21 (.blk r2 51 (U8 v).toArray))→(Instr.loadAt 51 (.pointer (some ⟨r2,0,none⟩))).run prog W=.ok (.agg (U8 v).toArray) W):=fun W x' hW=>load_blkV (hW.blk (i:=21) (by decide) (by decide) rfl) HV.out.1
 have HBK:Hid (∀W x',DS w0 W K x' y pd (put (put X 20 (.blk r 37 (pdk K).toArray)) 21 (.blk r2 51 (U8 v).toArray))→DS w0 W K x' y pd X):=fun W x' hW=>(hW.undo ((put_other _ _ (by decide)).trans (HX.out 21 (by decide)))).undo (HX.out 20 (by decide))
 obtain ⟨SB,hSB⟩:∃B,w2.heap.size=B:=⟨_,rfl⟩
 have HC1:Hid (_):=build_one w2 b
 have hI:E.B.IIn (w2.alloc (.cells #[.int .i64 b] 3)) (some ⟨w2.heap.size,0,none⟩) 1 [b]:=⟨rfl,fun _=>⟨w2.heap.size,0,rfl,fun k hk=>by
  rw[cell_of_row _ _ _ _ _ _ (heap_alloc_new w2 _)]
  obtain rfl:k=0:=by omega
  rfl⟩⟩
 have hd3:=hd2.later (C.below_alloc w2 (.cells #[.int .i64 b] 3))
 rw[hSB] at HC1 hI
 obtain ⟨w3,hw3⟩:∃W,w2.alloc (.cells #[.int .i64 b] 3)=W:=⟨_,rfl⟩
 rw[hw3] at HC1 hI hd3
 have HI:Hid (E.B.IIn w3 (some ⟨SB,0,none⟩) 1 [b]):=hI
 have HD3:Hid (DS w0 w3 K x y pd (put (put X 20 (.blk r 37 (pdk K).toArray)) 21 (.blk r2 51 (U8 v).toArray))):=hd3
 have kp2:=(HKK.out _ _ hd2).ap
 have kp3:=(HKK.out _ _ hd3).ap
 clear h hd2 hd3 hI hw3 hSB hr hb hf hc hN hw hv hvb hX hnx0 hb64 q1 q2 q3
 go_enter func15,ntmps15
 go_wp2_with ((with_reducible refine C.at_ops ?_);((refine wpList_slices_is (vs:=[(0,.int .i64 b)]) (by rfl) 59 1 rfl (by rfl) HC1.out ?_);simp only[Act.put,zA,zB,zC]))
 clear hw1 hw2 hr0 hr2 HC1 kp2
 refine (p_begin HD3.out (by have:=HNM.out;omega) (by have:=HNM.out;omega) HI.out (by decide)).mono ?_
 rintro e w4 ⟨fq,fd,rfl,-,hd⟩
 rw[HBG.out.1,HBG.out.2]
 have HD4:Hid (DS w0 w4 K (x.beg [b]) y pd (put (put X 20 (.blk r 37 (pdk K).toArray)) 21 (.blk r2 51 (U8 v).toArray))):=hd
 have kp4:=(HKK.out _ _ hd).ap
 clear hd HD3 kp3 HI
 generalize (x.a.begF [b]).length=fl at *
 go_wp2_with fail
 refine (p_enter HD4.out (by have:=HNM.out;show x.c+1<4000;omega) (by have:=HNM.out;have:=beg_next x [b];omega)).mono ?_
 rintro e w5 ⟨eq,ed,rfl,hd⟩
 have HD5:Hid (DS w0 w5 K (wr1 x b) y pd (put (put X 20 (.blk r 37 (pdk K).toArray)) 21 (.blk r2 51 (U8 v).toArray))):=hd
 have kp5:=(HKK.out _ _ hd).ap
 have kl5:=(HKK.out _ _ hd).lp
 clear hd HD4 kp4
 generalize (x.beg [b]).a.entF.length=el at *
 by_cases hy:(x.beg [b]).a.entE=0∧(x.beg [b]).a.entT=x.a.next
 rotate_left
 ·have HY:Hid (¬((x.beg [b]).a.entE=0∧(x.beg [b]).a.entT=x.a.next)):=hy
  have HFIN:Hid (Wd x b v (wr1 x b) false∧DS w0 w5 K (wr1 x b) y pd X):=⟨Wd.out HRN.out HOK.out HBB.out hy,HBK.out _ _ HD5.out⟩
  by_cases he:(x.beg [b]).a.entE=0
  ·have ht2:((x.beg [b]).a.entT != x.a.next)=true:=by simpa using fun e=>hy ⟨he,e⟩
   rw[he]
   clear hy he
   generalize (x.beg [b]).a.entT=et at *
   go_wp2
   go_ret2
   exact⟨false,rfl,wr1 x b,HFIN.out⟩
  ·have he2:((x.beg [b]).a.entE != 0)=true:=by simpa using he
   clear hy he
   generalize (x.beg [b]).a.entT=et at *
   generalize (x.beg [b]).a.entE=ee at *
   go_wp2
   go_ret2
   exact⟨false,rfl,wr1 x b,HFIN.out⟩
 ·have HWK:Hid (_):=wr_ok (v:=v) HRN.out HOK.out HNM.out.2.2.2.2.2.1 HBB.out hy
  have HIN:Hid (Dk (wr3 x b v)→Wd x b v (wr4 x b v) true):=Wd.in HRN.out HOK.out HNM.out.2.2.2.2.2.1 HBB.out hy
  rw[hy.1,hy.2]
  have hnn:(x.a.next != x.a.next)=false:=bne_self_eq_false _
  have LV:Hid (_):=HLV.out _ _ HD5.out
  clear hy
  have n1:(wr1 x b).a.next≤x.a.next+1:=by show (x.beg [b]).ent.a.next≤_;rw[ent_next];exact beg_next x [b]
  have n2:(wr2 x b v).a.next≤x.a.next+1:=by show (((wr1 x b).img b v).app x.a.next).a.next≤_;rw[app_next,(img_is _ _ _).1];exact n1
  have HN2:Hid ((wr2 x b v).a.next≤x.a.next+1∧(wr2 x b v).c=x.c+3∧(wr2 x b v).ws.length≤x.ws.length+1):=⟨n2,by show ((wr1 x b).img b v).c+1=_;rw[(img_is _ _ _).2.1];rfl,(img_is _ _ _).2.2⟩
  clear n1 n2
  go_wp2_with ((with_reducible refine C.at_ops ?_);(refine ldI 51 LV.out ?_))
  refine (p_image ht HD5.out (by have:=HNM.out;show x.ws.length≤_;omega) b v HV.out.1 HV.out.2).mono ?_
  rintro e w6 ⟨rfl,hd⟩
  rw[HWK.out.1]
  have HD6:Hid (DS w0 w6 K ((wr1 x b).img b v) y pd (put (put X 20 (.blk r 37 (pdk K).toArray)) 21 (.blk r2 51 (U8 v).toArray))):=hd
  have kp6:=(HKK.out _ _ hd).ap
  clear hd HD5 kp5 kl5 LV
  generalize (wr1 x b).imgP b=ip at *
  go_wp2_with fail
  refine (p_append HD6.out (by have:=HNM.out;rw[(img_is _ _ _).2.1];show x.c+1+1<_;omega) (t:=x.a.next) HNM.out.2.2.2.1 (by have:=HNM.out;omega)).mono ?_
  rintro e w7 ⟨rfl,hd⟩
  rw[HWK.out.2.1]
  have HD7:Hid (DS w0 w7 K (wr2 x b v) y pd (put (put X 20 (.blk r 37 (pdk K).toArray)) 21 (.blk r2 51 (U8 v).toArray))):=hd
  have kl7:=(HKK.out _ _ hd).lp
  clear hd HD6 kp6
  go_wp2_with fail
  refine (p_commit ht HD7.out (by have:=HNM.out;have:=HN2.out;omega)).mono ?_
  rintro e w8 ⟨rfl,hd⟩
  rw[HWK.out.2.2.1,HWK.out.2.2.2.2.1]
  have HD8:Hid (DS w0 w8 K (wr2 x b v).com y pd (put (put X 20 (.blk r 37 (pdk K).toArray)) 21 (.blk r2 51 (U8 v).toArray))):=hd
  have kp8:=(HKK.out _ _ hd).ap
  clear hd HD7 kl7
  go_wp2_with fail
  refine (p_done HD8.out (by have:=HNM.out;have:=HN2.out;rw[(com_is _).2.1];omega) (by have:=HNM.out;have:=HN2.out;rw[(com_is _).1];omega) (t:=x.a.next) HNM.out.2.2.2.1 (by have:=HNM.out;omega)).mono ?_
  rintro e w9 ⟨rfl,hd⟩
  rw[HWK.out.2.2.2.1]
  have HD9:Hid (DS w0 w9 K (wr3 x b v) y pd (put (put X 20 (.blk r 37 (pdk K).toArray)) 21 (.blk r2 51 (U8 v).toArray))):=hd
  have HDK9:Hid (Dk (wr3 x b v)):=hd.dk
  have kl9:=(HKK.out _ _ hd).lp
  clear hd HD8 kp8
  go_wp2_with fail
  refine (p_flush HD9.out (by have h1:=(com_is (wr2 x b v)).2.2;have:=HNM.out;have:=HN2.out;show (wr2 x b v).com.ws.length≤_;omega)).mono ?_
  rintro e w10 ⟨rfl,hd⟩
  have HD10:Hid (DS w0 w10 K (wr3 x b v).fls y pd (put (put X 20 (.blk r 37 (pdk K).toArray)) 21 (.blk r2 51 (U8 v).toArray))):=hd
  have kk10:=(HKK.out _ _ hd).kp
  have LV:Hid (_):=HLV.out _ _ hd
  have HBI:Hid (_):=C.buildI w10 b v HV.out.1
  have HBS:Hid (_):=C.build_im w10 ⟨b,v⟩ HV.out.1
  obtain ⟨RB,hRB⟩:∃B,w10.heap.size=B:=⟨_,rfl⟩
  have hd11:=hd.newblk (k:=22) (by decide) (C.icells ⟨b,v⟩).toArray 84
  rw[hRB] at HBS hd11
  obtain ⟨w11,hw11⟩:∃W,w10.alloc (.cells (C.icells ⟨b,v⟩).toArray 84)=W:=⟨_,rfl⟩
  rw[hw11] at HBS hd11
  have HD11:Hid (DS w0 w11 K (wr3 x b v).fls y pd (put (put (put X 20 (.blk r 37 (pdk K).toArray)) 21 (.blk r2 51 (U8 v).toArray)) 22 (.blk RB 84 (C.icells ⟨b,v⟩).toArray))):=hd11
  clear hd hd11 HD9 kl9 hw11 hRB HD10
  generalize ((wr3 x b v).ws.length:Int)=wl at *
  go_wp2_with ((with_reducible refine C.at_ops ?_);(first | (refine ldI 51 LV.out ?_) | ((refine C.wpList_build_is (vs:=[(0,.int .i64 b),(1,.agg (U8 v).toArray)]) (by rfl) 84 rfl (by rfl) HBI.out ?_);simp only[Act.put,zA,zB,zC]) | ((refine wpList_slices_is (vs:=[(0,.agg (C.icells ⟨b,v⟩).toArray)]) (by rfl) 85 1 rfl (by rfl) HBS.out ?_);simp only[Act.put,zA,zB,zC])))
  clear LV HBI HBS
  refine (p_putb HD11.out (i:=22) (by decide) (by decide) (put_same _ _ _) ⟨(by have:=HBB.out;have:=HNM.out;show -9223372036854775808≤b∧b≤9223372036854775807;omega),HV.out.1,HV.out.2⟩ (q:=x.g.fin+1) (by have:=HNM.out;omega)).mono ?_
  rintro e w12 ⟨rfl,hd⟩
  rw[HWK.out.2.2.2.2.2]
  have HFIN:Hid (Wd x b v (wr4 x b v) true∧DS w0 w12 K (wr4 x b v) y pd X):=⟨HIN.out HDK9.out,HBK.out _ _ (DS.undo hd ((put_other _ _ (by decide)).trans ((put_other _ _ (by decide)).trans (HX.out 22 (by decide)))))⟩
  clear hd HD11 kk10
  go_wp2
  go_ret2
  exact⟨true,rfl,wr4 x b v,HFIN.out⟩
end
end Go.Proofs.YtcdjepkhdjpjcaaGreatDoor.Q
namespace Go.Proofs.YtcdjepkhdjpjcaaGreatDoor.Q
open Go.RowKit
theorem drps_lay {L:List C.En}{e:C.En}(hu:C.UpE (C.drps (C.layE L e) L))(hp:∀z∈L,z.p≠e.p):C.drps (C.layE L e) L=[e]:=by
 have h1:∀z∈C.drps (C.layE L e) L,z=e:=fun z hz=>by
  obtain ⟨h1,h2⟩:=C.drps_mem.1 hz
  rcases C.mem_lay.1 h1 with h | ⟨h,-⟩
  ·exact h
  ·have:=h2 z h
   simp[C.isD] at this
 have h2:e∈C.drps (C.layE L e) L:=C.drps_mem.2 ⟨C.mem_lay.2 (.inl rfl),fun z hz=>by
  have:=hp z hz
  simp only[C.isD,Bool.and_eq_false_iff,decide_eq_false_iff_not]
  exact .inr fun c=>this c.symm⟩
 generalize C.drps (C.layE L e) L=M at *
 match M,h1,h2,hu with
 | [],_,h2,_=>exact absurd h2 List.not_mem_nil
 | [a],h1,_,_=>rw[h1 a List.mem_cons_self]
 | a :: b :: r,h1,_,hu =>
  have e1:=h1 a List.mem_cons_self
  have e2:=h1 b (List.mem_cons_of_mem _ List.mem_cons_self)
  have:=(List.pairwise_cons.1 hu).1 b List.mem_cons_self
  rw[e1,e2] at this
  omega
structure Fk (x:Sx) (e:C.En) (y:Sx) (pb:Bool):Prop where
 L:y.L=if pb=true then [e] else []
 ld:∀z∈x.L,ldS x.g.c (x.g.sz:Nat) y.ws y.d z.b=(z.v,0)
 cf:y.g.c=x.g.c
structure Gk (x:Sx) (e:C.En) (j:Nat) (y:Sx) (p:Pt) (pb:Bool) (kc:Nat):Prop where
 ph:Ph (x.p+1) x.g.tail x.L j y p
 rn:Run y []
 cf:y.g.c=x.g.c
 c:y.c≤x.c+kc
 nx:y.a.next≤x.a.next+kc
 ws:y.ws.length≤x.ws.length+j
 fn:kc=0→y.g.fin=x.g.fin∧pb=false
 L:y.L=if pb=true then C.layE x.L e else x.L
def Kd (x:Sx)(e:C.En)(j:Nat)(y:Sx)(p:Pt)(pb:Bool)(kc:Nat):Prop:=(j=0∧y=x∧p=⟨1,0,[],0⟩∧pb=false∧kc=0)∨Gk x e j y p pb kc∨(j=x.L.length+4∧p=⟨1,0,[],0⟩∧Fk x e y pb)
structure St2 (x:Sx) (e:C.En) (hi:Int) (j:Nat) (y:Sx) (p:Pt) (pb:Bool) (kc:Nat):Prop where
 ok:p.Ok
 er:(stepS hi y p).2.1=0
 row:∃kd b v q c,v.length=32∧(stepS hi y p).1=rowC kd b v q c
 rd:Kd x e (j+1) (stepS hi y p).2.2.1 (stepS hi y p).2.2.2 pb kc
 nm:y.ws.length≤x.ws.length+70∧y.a.next≤x.a.next+kc
section
variable {x:Sx} {e:C.En} {hi:Int} {j:Nat} {y:Sx} {p:Pt} {pb:Bool} {kc:Nat}
theorem Run.like {y':Sx}(h:Run y [])(ea:y'.a=y.a)(eg:y'.g.fin=y.g.fin∧y'.g.tail=y.g.tail∧y'.g.imgs=y.g.imgs∧y'.g.c=y.g.c)(en:y'.n=y.n)(el:y'.L=y.L∧y'.s=y.s∧y'.p=y.p):Run y' []:=by
 obtain ⟨g1,g2,g3,g4⟩:=eg
 obtain ⟨l1,l2,l3⟩:=el
 refine⟨by rw[ea];exact h.I,by rw[ea];exact h.W,by rw[ea,g1,g2];exact h.us,by rw[g3];exact h.im,by rw[en,g4];exact h.n,by rw[ea,g4];exact h.bl,by rw[ea,g4];exact h.lc,by rw[ea,g4];exact h.mr,by rw[g1];exact h.fn,by rw[l2,l3,g1];exact h.ls,fun _ h=>absurd h List.not_mem_nil,by rw[l1,g1];exact h.L⟩
theorem Kd.step {pd:List Cm}(hr:Run x pd)(okx:x.Ok)(hd:dueS x hi=true)(hs:∀z∈x.ws,1≤z.s)(hep:∀z∈x.L,z.p≠e.p)(h:Kd x e j y p pb kc)(hj:j<x.L.length+4)(ok:y.Ok)(hk:Dk y):St2 x e hi j y p pb kc:=by
 have hL:=nx_few okx
 rcases h with ⟨rfl,rfl,rfl,rfl,rfl⟩ | h | ⟨e,-,-⟩
 ·obtain ⟨e1,e2,e3,hp⟩:=Ph.start hr okx hd hs ⟨1,0,[],0⟩ rfl
  refine⟨⟨.inl rfl,fun e=>by cases e⟩,e2,⟨14,-1,zv,y.p+1,y.L.length,C.zs_len 32,e1⟩,.inr (.inl ?_),⟨by omega,by omega⟩⟩
  rw[e3]
  exact⟨hp,hr.less,rfl,Nat.le_refl _,by omega,by omega,fun _=>⟨rfl,rfl⟩,rfl⟩
 ·have hps:=ph_st h.ph
  have hw:=h.ws
  by_cases c2:j≤x.L.length
  ·obtain ⟨z,hz,e1,e2,e3,hp⟩:=h.ph.carry (hi:=hi) ok c2
   have ln:=((h.ph.wf z (List.mem_of_getElem? hz))).len
   refine⟨hps.1,e2,⟨15,z.b,z.v,0,0,ln,e1⟩,.inr (.inl ⟨hp,?_,by rw[e3];exact h.cf,by rw[e3];exact h.c,by rw[e3];exact h.nx,?_,by rw[e3];exact h.fn,by rw[e3];exact h.L⟩),⟨by omega,h.nx⟩⟩
   ·rw[e3];exact h.rn.like rfl ⟨rfl,rfl,rfl,rfl⟩ rfl ⟨rfl,rfl,rfl⟩
   ·rw[e3]
    show (y.ws++[_]).length≤_
    rw[List.length_append,List.length_singleton]
    omega
  ·by_cases c3:j=x.L.length+1
   ·obtain ⟨e1,e2,e3,hp⟩:=h.ph.flush (hi:=hi) ok hk c3
    refine⟨hps.1,e2,⟨12,-1,zv,0,y.ws.length,C.zs_len 32,e1⟩,.inr (.inl ⟨hp,?_,by rw[e3];exact h.cf,by rw[e3];exact h.c,by rw[e3];exact h.nx,by rw[e3];exact Nat.zero_le _,by rw[e3];exact h.fn,by rw[e3];exact h.L⟩),⟨by omega,h.nx⟩⟩
    rw[e3];exact h.rn.like rfl ⟨rfl,rfl,rfl,rfl⟩ rfl ⟨rfl,rfl,rfl⟩
   ·by_cases c4:j=x.L.length+2
    ·obtain ⟨e1,e2,e3,hp⟩:=h.ph.mark (hi:=hi) c4
     refine⟨hps.1,e2,⟨16,-1,zv,_,0,C.zs_len 32,e1⟩,.inr (.inl ⟨hp,?_,by rw[e3];exact h.cf,by rw[e3];exact h.c,by rw[e3];exact h.nx,?_,by rw[e3];exact h.fn,by rw[e3];exact h.L⟩),⟨by omega,h.nx⟩⟩
     ·rw[e3];exact h.rn.like rfl ⟨rfl,rfl,rfl,rfl⟩ rfl ⟨rfl,rfl,rfl⟩
     ·rw[e3]
      show (y.ws++[_]).length≤_
      rw[List.length_append,List.length_singleton]
      omega
    ·have c5:j=x.L.length+3:=by have:=h.ph.j2;omega
     obtain ⟨e1,e2,e3,f1,f2,f3,f4,f5,f6⟩:=h.ph.free (hi:=hi) ok hk c5
     have hsz:y.g.sz=x.g.sz:=by unfold Lg.sz;rw[h.cf]
     refine⟨hps.1,e2,⟨17,-1,zv,_,_,C.zs_len 32,e1⟩,.inr (.inr ⟨by omega,e3,?_,?_,f5.trans h.cf⟩),⟨by omega,h.nx⟩⟩
     ·rw[f4]
      have hu:=(ok.k.drops x.L).up
      rw[h.L] at hu ⊢
      cases pb with
      | true =>
       rw[if_pos rfl] at hu ⊢
       rw[if_pos rfl]
       exact drps_lay hu hep
      | false =>
       rw[if_neg (by decide)] at hu ⊢
       rw[if_neg (by decide)]
       exact drps_self _
     ·rw[h.cf,hsz] at f6;exact f6
 ·omega
theorem Gk.wr {b:Int}{v:List Int}{y':Sx}{dn:Bool}(h:Gk x ⟨b,v,x.g.fin+1⟩ j y p pb 0)(hw:Wd y b v y' dn):Gk x ⟨b,v,x.g.fin+1⟩ j y' p dn 7:=by
 obtain ⟨hf,rfl⟩:=h.fn rfl
 have hL:=h.L
 rw[if_neg (by decide)] at hL
 refine⟨hw.ph h.ph,hw.rn,hw.cf.trans h.cf,?_,?_,?_,fun e=>(by cases e),?_⟩
 ·have:=hw.c;have:=h.c;omega
 ·have:=hw.nx;have:=h.nx;omega
 ·cases dn with
  | true=>rw[(hw.yes rfl).2];exact Nat.zero_le _
  | false=>rw[(hw.no rfl).2.1];exact h.ws
 ·cases dn with
  | true=>rw[(hw.yes rfl).1,if_pos rfl,hL,hf]
  | false=>rw[(hw.no rfl).1,if_neg (by decide),hL]
theorem Fk.get (h:Fk x e y pb):C.getB y.L e.b=pb∧(y.L.length:Int)=(if pb=true then 1 else 0)∧(pb=true→C.getV y.L e.b=e):=by
 have hL:=h.L
 cases pb with
 | true =>
  rw[if_pos rfl] at hL
  rw[hL]
  have e1:C.gtE [e] e.b=some e:=by simp[C.gtE]
  exact⟨by unfold C.getB;rw[e1];rfl,rfl,fun _=>by unfold C.getV;rw[e1];rfl⟩
 | false =>
  rw[if_neg (by decide)] at hL
  rw[hL]
  exact⟨rfl,rfl,fun e=>by cases e⟩
end
theorem at_in (a:Int)(L:Nat):∃n:Nat,1+((a.tmod (3+(L:Int))+3+(L:Int)).tmod (3+(L:Int)))=(n:Int)∧1≤n∧n≤L+3:=by
 have h1:=Int.tmod_lt_of_pos a (show 0<3+(L:Int) by omega)
 have h2:=Int.lt_tmod_of_pos a (show 0<3+(L:Int) by omega)
 have h3:=Int.tmod_lt_of_pos (a.tmod (3+(L:Int))+3+(L:Int)) (show 0<3+(L:Int) by omega)
 have h4:=Int.tmod_nonneg (3+(L:Int)) (show 0≤a.tmod (3+(L:Int))+3+(L:Int) by omega)
 exact⟨(1+((a.tmod (3+(L:Int))+3+(L:Int)).tmod (3+(L:Int)))).toNat,by omega,by omega,by omega⟩
end Go.Proofs.YtcdjepkhdjpjcaaGreatDoor.Q
