import Derived.Test.YtcdjepkhdjpjcaaGreatDoorU39
set_option maxHeartbeats 20000000
set_option maxRecDepth 100000
namespace Go.Proofs.Zq.Q
open Go.Proofs.Tryz
open Go.RowKit
section
variable {w0 w w':World} {K:Ks} {x y:Sx} {pd:List Cm} {X:Nat->Th} {i j A B G m d:Nat} {fl:Bool} {z:Pg} {v u:Value} {p:Pt} {E:Nat->Th}
theorem QT(h:Pl (fun _=>.no) w0 w K x pd G A B p fl m)(hb:Bn x pd m d){o:rO}(Ai:o.kd=9):Calls prog 78 #[Zq.E.qp G,.agg o.cells] w fun e w'=>e=.returned (.bool true)/\Dn w0 w' K G fl (d+1):=by
 obtain ⟨kd,ps,ms,cs,xs,pv,mv,cv,vs,pb,n⟩:=o;obtain rfl:kd=9:=Ai;obtain ⟨r,hr⟩:=zE w.heap.size;obtain ⟨w1,dZ⟩:=zE (w.alloc (.cells #[.int .i64 9,.slice ps ms cs,.slice pv mv cv,.bool pb,.int .i64 n] 81));have b1:Below w.heap.size w w1:=by rw[<-dZ];exact ag w _
 have lK:w1.heap[r]?=some (.cells #[.int .i64 9,.slice ps ms cs,.slice pv mv cv,.bool pb,.int .i64 n] 81 (0,0)):=by rw[<-dZ,<-hr];exact aG w _
 have k0:w1.cell? ⟨r,0,none⟩=some (.int .i64 9):=by rw[aq _ _ _ _ _ _ lK];rfl
 have HO:Hid (∀W,Below w1.heap.size w1 W->W.heap[r]?=some (.cells #[.int .i64 9,.slice ps ms cs,.slice pv mv cv,.bool pb,.int .i64 n] 81 (0,0))):=fun W b=>(b.block r (au.1 lK).1).trans lK;have vL:=zH (h.later b1);have GI:=zH hb;have rZ:=hb.c;have yx:=hb.nx;have mI:=hb.ws;have GD:=hb.pl;have OS:=hb.tl;obtain ⟨X,z,hd,tT,e8,hA,hB,back⟩:=h.open;have uB:=hd.iJ (k:=20) (by decide) #[.int .i64 9,.slice ps ms cs,.slice pv mv cv,.bool pb,.int .i64 n] 81;rw[dZ,hr] at uB;have Nw:Hid (∀j,21<=j->put X 20 (.bC r 81 #[.int .i64 9,.slice ps ms cs,.slice pv mv cv,.bool pb,.int .i64 n]) j=.no):=fun j hj=>(af _ _ (by omega)).trans (tT j (by omega));have HU:Hid (X 20=.no):=tT 20 (by decide);have Km:=zH back;have mJ:Hid (put X 20 (.bC r 81 #[.int .i64 9,.slice ps ms cs,.slice pv mv cv,.bool pb,.int .i64 n]) 8=.bC G 166 (Da K z)/\z.A=A/\z.B=B):=⟨e8,hA,hB⟩
 obtain ⟨X1,zc⟩:=zE (put X 20 (.bC r 81 #[.int .i64 9,.slice ps ms cs,.slice pv mv cv,.bool pb,.int .i64 n]));have HU1:Hid (∀W x y pd,DS w0 W K x y pd X1->DS w0 W K x y pd X):=fun W x y pd hW=>by rw[<-zc] at hW;exact hW.GR HU.out
 have HQ:Hid (X1 20=.bC r 81 #[.int .i64 9,.slice ps ms cs,.slice pv mv cv,.bool pb,.int .i64 n]):=by show _=_;rw[<-zc];exact ax _ _ _
 rw[zc] at uB Nw mJ;have HD:=zH uB;have CM:Hid x.Ok:=hd.lU;have zM:Hid (∀W x y pd,DS w0 W K x y pd X1->Sg w0 W K pd G A B/\kW W K/\W.heap[r]?=some (.cells #[.int .i64 9,.slice ps ms cs,.slice pv mv cv,.bool pb,.int .i64 n] 81 (0,0))):=fun W x y pd hW=>⟨hW.sg mJ.out.1 mJ.out.2.1 mJ.out.2.2,hW.fU,hW.bC (i:=20) (by decide) (by decide) HQ.out⟩
 clear hd uB tT e8 hA hB back zc;clear h b1 lK hb;go_enter func78,ntmps78;clear vL;have fh:Hid (DS w0 w1.drew K x x pd X1):=HD.out.later (av 1);go_wp2_with fail;refine zR (fun W=>W.cell? ⟨G,0,none⟩=some (Zq.E.qp K.P)/\kW W K/\W.heap[r]?=some (.cells #[.int .i64 9,.slice ps ms cs,.slice pv mv cv,.bool pb,.int .i64 n] 81 (0,0))/\W.cell? ⟨K.kr,3,none⟩=some (.int .u64 x.p)) ⟨fh.out.Gz mJ.out.1,fh.out.fU,fh.out.bC (i:=20) (by decide) (by decide) HQ.out,fh.out.Ia⟩ fun aa=>?_;generalize w1.drew=w2 at *;refine gh 0 1 2 aa ?_;refine de 3 aa (fun _ s=>s.1) ?_;refine gh 4 5 6 aa ?_;refine de 7 aa (fun _ s=>s.2.1.kr) ?_;refine fI 8 9 aa ?_;refine de 10 aa (fun _ s=>s.2.2.2) ?_;refine tk 11 aa ?_;refine de 12 aa (fun _ s=>abY (o:=⟨9,ps,ms,cs,xs,pv,mv,cv,vs,pb,n⟩) s.2.2.1) ?_;refine gu 13 14 15 16 aa ?_;refine fI 17 18 aa ?_;clear aa;refine zD ?_;have fu:Hid (DS w0 w2.drew K x x pd X1):=fh.out.later (av 1);clear fh;obtain ⟨q,hq⟩:=zE (IntKind.u64.wrap (x.p+IntKind.u64.wrap ((IntKind.i64.wrap (n.tmod 5+5)).tmod 5)));rw[hq];have EI:0<=q/\q<18446744073709551616:=by rw[<-hq,eD];omega
 clear hq;go_wp2_with fail;refine zR (fun W=>W.cell? ⟨G,0,none⟩=some (Zq.E.qp K.P)/\kW W K/\W.heap[r]?=some (.cells #[.int .i64 9,.slice ps ms cs,.slice pv mv cv,.bool pb,.int .i64 n] 81 (0,0))) ⟨fu.out.Gz mJ.out.1,fu.out.fU,fu.out.bC (i:=20) (by decide) (by decide) HQ.out⟩ fun aa=>?_;generalize w2.drew=w3 at *;refine gh 0 1 2 aa ?_;refine de 3 aa (fun _ s=>s.1) ?_;refine gh 4 5 6 aa ?_;refine de 7 aa (fun _ s=>s.2.1.kp) ?_;refine gu 8 10 11 12 aa ?_;refine de 13 aa (fun _ s=>s.1) ?_;refine gh 14 15 16 aa ?_;refine de 17 aa (fun _ s=>s.2.1.kr) ?_;refine tk 18 aa ?_;refine iA 9 fun Kc aJ=>?_;go_simp;refine (adz fu.out 0 EI).mono ?_;rintro e' w4 ⟨rfl,hd⟩;have gM:=zH hd;clear hd fu;refine aJ.out _ _ ⟨gM.out.Gz mJ.out.1,gM.out.fU,gM.out.bC (i:=20) (by decide) (by decide) HQ.out⟩ (fun aa=>?_);clear aJ Kc;refine iA 19 fun Kc aJ=>?_;go_simp;refine (adp gM.out 0 EI).mono ?_;rintro e' w5 ⟨rfl,h5⟩;have Yf:Hid (_):=Km.out _ _ _ (HU1.out _ _ _ _ h5);clear gM;refine aJ.out _ _ ⟨h5.Gz mJ.out.1,h5.fU,h5.bC (i:=20) (by decide) (by decide) HQ.out⟩ (fun aa=>?_);clear h5;clear aJ Kc;refine fI 20 21 aa ?_;clear aa;refine zD ?_;go_wp2;go_ret;exact⟨by simp,_,_,_,_,_,_,Yf.out,GI.out.turn (by show x.c<=_;omega) (by show x.a.next<=_;omega) (by show x.ws.length<=_;omega)⟩
theorem LU(ht:qX w0)(h:Pl (fun _=>.no) w0 w K x pd G A B p fl m)(hb:Bn x pd m d)(qL:d<80){o:rO}(Ai:o.kd=10):Calls prog 78 #[Zq.E.qp G,.agg o.cells] w fun e w'=>e=.returned (.bool true)/\Dn w0 w' K G fl (d+1):=by
 obtain ⟨kd,ps,ms,cs,xs,pv,mv,cv,vs,pb,n⟩:=o;obtain rfl:kd=10:=Ai;obtain ⟨r,hr⟩:=zE w.heap.size;obtain ⟨w1,dZ⟩:=zE (w.alloc (.cells #[.int .i64 10,.slice ps ms cs,.slice pv mv cv,.bool pb,.int .i64 n] 81));have b1:Below w.heap.size w w1:=by rw[<-dZ];exact ag w _
 have lK:w1.heap[r]?=some (.cells #[.int .i64 10,.slice ps ms cs,.slice pv mv cv,.bool pb,.int .i64 n] 81 (0,0)):=by rw[<-dZ,<-hr];exact aG w _
 have k0:w1.cell? ⟨r,0,none⟩=some (.int .i64 10):=by rw[aq _ _ _ _ _ _ lK];rfl
 have HO:Hid (∀W,Below w1.heap.size w1 W->W.heap[r]?=some (.cells #[.int .i64 10,.slice ps ms cs,.slice pv mv cv,.bool pb,.int .i64 n] 81 (0,0))):=fun W b=>(b.block r (au.1 lK).1).trans lK;have vL:=zH (h.later b1);have GI:=zH hb;have rZ:=hb.c;have yx:=hb.nx;have mI:=hb.ws;have GD:=hb.pl;have OS:=hb.tl;obtain ⟨X,z,hd,tT,e8,hA,hB,back⟩:=h.open;have uB:=hd.iJ (k:=20) (by decide) #[.int .i64 10,.slice ps ms cs,.slice pv mv cv,.bool pb,.int .i64 n] 81;rw[dZ,hr] at uB;have Nw:Hid (∀j,21<=j->put X 20 (.bC r 81 #[.int .i64 10,.slice ps ms cs,.slice pv mv cv,.bool pb,.int .i64 n]) j=.no):=fun j hj=>(af _ _ (by omega)).trans (tT j (by omega));have HU:Hid (X 20=.no):=tT 20 (by decide);have Km:=zH back;have mJ:Hid (put X 20 (.bC r 81 #[.int .i64 10,.slice ps ms cs,.slice pv mv cv,.bool pb,.int .i64 n]) 8=.bC G 166 (Da K z)/\z.A=A/\z.B=B):=⟨e8,hA,hB⟩
 obtain ⟨X1,zc⟩:=zE (put X 20 (.bC r 81 #[.int .i64 10,.slice ps ms cs,.slice pv mv cv,.bool pb,.int .i64 n]));have HU1:Hid (∀W x y pd,DS w0 W K x y pd X1->DS w0 W K x y pd X):=fun W x y pd hW=>by rw[<-zc] at hW;exact hW.GR HU.out
 have HQ:Hid (X1 20=.bC r 81 #[.int .i64 10,.slice ps ms cs,.slice pv mv cv,.bool pb,.int .i64 n]):=by show _=_;rw[<-zc];exact ax _ _ _
 rw[zc] at uB Nw mJ;have HD:=zH uB;have CM:Hid x.Ok:=hd.lU;have zM:Hid (∀W x y pd,DS w0 W K x y pd X1->Sg w0 W K pd G A B/\kW W K/\W.heap[r]?=some (.cells #[.int .i64 10,.slice ps ms cs,.slice pv mv cv,.bool pb,.int .i64 n] 81 (0,0))):=fun W x y pd hW=>⟨hW.sg mJ.out.1 mJ.out.2.1 mJ.out.2.2,hW.fU,hW.bC (i:=20) (by decide) (by decide) HQ.out⟩
 clear hd uB tT e8 hA hB back zc;clear h b1 lK hb;go_enter func78,ntmps78;clear vL;have fh:Hid (DS w0 w1.drew K x x pd X1):=HD.out.later (av 1);go_wp2_with fail;refine zR (fun W=>W.cell? ⟨G,0,none⟩=some (Zq.E.qp K.P)/\kW W K/\W.heap[r]?=some (.cells #[.int .i64 10,.slice ps ms cs,.slice pv mv cv,.bool pb,.int .i64 n] 81 (0,0))/\W.cell? ⟨K.lr,7,none⟩=some (.int .u64 x.g.tail)) ⟨fh.out.Gz mJ.out.1,fh.out.fU,fh.out.bC (i:=20) (by decide) (by decide) HQ.out,fh.out.uv⟩ fun aa=>?_;generalize w1.drew=w2 at *;refine gh 0 1 2 aa ?_;refine de 3 aa (fun _ s=>s.1) ?_;refine gh 4 5 6 aa ?_;refine de 7 aa (fun _ s=>s.2.1.lr) ?_;refine fI 8 9 aa ?_;refine de 10 aa (fun _ s=>s.2.2.2) ?_;refine tk 11 aa ?_;refine de 12 aa (fun _ s=>abY (o:=⟨10,ps,ms,cs,xs,pv,mv,cv,vs,pb,n⟩) s.2.2.1) ?_;refine gu 13 14 15 16 aa ?_;refine fI 17 18 aa ?_;clear aa;refine zD ?_;have fu:Hid (DS w0 w2.drew K x x pd X1):=fh.out.later (av 1);clear fh;obtain ⟨q,hq⟩:=zE (IntKind.u64.wrap (x.g.tail+IntKind.u64.wrap ((IntKind.i64.wrap (n.tmod 7+7)).tmod 7)));rw[hq];have EI:0<=q/\q<18446744073709551616:=by rw[<-hq,eD];omega
 clear hq;go_wp2_with fail;refine zR (fun W=>W.cell? ⟨G,0,none⟩=some (Zq.E.qp K.P)/\kW W K/\W.heap[r]?=some (.cells #[.int .i64 10,.slice ps ms cs,.slice pv mv cv,.bool pb,.int .i64 n] 81 (0,0))) ⟨fu.out.Gz mJ.out.1,fu.out.fU,fu.out.bC (i:=20) (by decide) (by decide) HQ.out⟩ fun aa=>?_;generalize w2.drew=w3 at *;refine gh 0 1 2 aa ?_;refine de 3 aa (fun _ s=>s.1) ?_;refine gh 4 5 6 aa ?_;refine de 7 aa (fun _ s=>s.2.1.lp) ?_;refine gu 8 10 11 12 aa ?_;refine de 13 aa (fun _ s=>s.1) ?_;refine gh 14 15 16 aa ?_;refine de 17 aa (fun _ s=>s.2.1.lr) ?_;refine tk 18 aa ?_;refine iA 9 fun Kc aJ=>?_;go_simp;refine (L_ ht fu.out (by omega) q).mono ?_;rintro e' w4 ⟨rfl,hd⟩;obtain ⟨er,her⟩:∃er:Int,(if Out x.g q then (2:Int) else 0)=er:=⟨_,rfl⟩
 rw[her];have gM:=zH hd;clear hd fu;refine aJ.out _ _ ⟨gM.out.Gz mJ.out.1,gM.out.fU,gM.out.bC (i:=20) (by decide) (by decide) HQ.out⟩ (fun aa=>?_);clear aJ Kc;refine iA 19 fun Kc aJ=>?_;go_simp;refine (LI gM.out (by omega) q).mono ?_;rintro e' w5 ⟨rfl,h5⟩;rw[her];clear her;have Yf:Hid (_):=Km.out _ _ _ (HU1.out _ _ _ _ h5);clear gM;refine aJ.out _ _ ⟨h5.Gz mJ.out.1,h5.fU,h5.bC (i:=20) (by decide) (by decide) HQ.out⟩ (fun aa=>?_);clear h5;clear aJ Kc;refine fI 20 21 aa ?_;clear aa;refine zD ?_;go_wp2;go_ret;have e:(x.z_ q).c=x.c/\(x.z_ q).a=x.a/\(x.z_ q).ws.length<=x.ws.length+1:=by
  unfold Sx.z_;split
  ·exact⟨rfl,rfl,by omega⟩
  ·exact⟨rfl,rfl,by simp⟩
 exact⟨by simp,_,_,_,_,_,_,Yf.out,GI.out.turn (by rw[e.1];omega) (by rw[e.2.1];omega) (by have:=e.2.2;omega)⟩
end
section
variable {w0 w w':World} {K:Ks} {x y:Sx} {pd:List Cm} {X:Nat->Th} {i j A B G m d:Nat} {fl:Bool} {z:Pg} {v u:Value} {p:Pt} {E:Nat->Th}
theorem DS.perm(h:DS w0 w K x y pd X)(σ:Nat->Nat)(h1:∀i,8<=i->i<40->8<=σ i/\σ i<40)(h2:∀i j,8<=i->i<40->8<=j->j<40->σ i=σ j->i=j):DS w0 w K x y pd (fun i=>X (σ i)):=by
 obtain ⟨T,G,h,hX⟩:=h;have hs:∀i,i<40->(if i<8 then i else σ i)<40:=fun i hi=>by
  split
  ·omega
  ·exact (h1 i (by omega) hi).2
 have hj:∀i j,i<40->j<40->i≠j->(if i<8 then i else σ i)≠(if j<8 then j else σ j):=fun i j hi hj kG e=>by
  split at e <;> split at e
  ·exact kG e
  ·have:=(h1 j (by omega) hj).1;omega
  ·have:=(h1 i (by omega) hi).1;omega
  ·exact kG (h2 i j (by omega) hi (by omega) hj e)
 refine⟨fun i=>T (if i<8 then i else σ i),G,⟨⟨fun i hi=>h.jN.at' _ (hs i hi),fun i hi=>h.jN.lo _ (hs i hi),fun i j hi hj' kG=>h.jN.apart _ _ (hs i hi) (hs j hj') (hj i j hi hj' kG),fun i hi=>h.jN.im _ (hs i hi),h.jN.YG⟩,h.below,h.t0,h.t1,h.t2,h.t3,h.t4,h.t5,h.t6,h.lU,h.mP,h.cx,h.cy⟩,fun i h8 eC=>?_⟩;show T (if i<8 then i else σ i)=X (σ i);rw[aD (by omega)];exact hX _ (h1 i h8 eC).1 (h1 i h8 eC).2
def sw (i:Nat):Nat:=if i=9 then 20 else if i=20 then 9 else if i=10 then 21 else if i=21 then 10 else i
theorem agu(i:Nat)(h8:8<=i)(eC:i<40):8<=sw i/\sw i<40:=by
 unfold sw;split
 ·omega
 ·split
  ·omega
  ·split
   ·omega
   ·split <;> omega
theorem abS(i:Nat):sw (sw i)=i:=by
 unfold sw;by_cases h1:i=9
 ·subst h1;rfl
 ·by_cases h2:i=20
  ·subst h2;rfl
  ·by_cases h3:i=10
   ·subst h3;rfl
   ·by_cases h4:i=21
    ·subst h4;rfl
    ·simp[h1,h2,h3,h4]
theorem DS.swap(h:DS w0 w K x y pd X):DS w0 w K x y pd (fun i=>X (sw i)):=h.perm sw agu fun i j _ _ _ _ e=>by rw[<-abS i,e,abS]
theorem Pl.bare(h:Pl E w0 w K x pd G A B p fl m):Pl (fun _=>.no) w0 w K x pd G A B p fl m:=by
 obtain ⟨z,hd,r⟩:=h;refine⟨z,hd.forget fun j h1 h2=>?_,r⟩;by_cases hj:13<=j
 ·right;exact uC hj
 ·left;unfold XP put;by_cases Kw:j=12
  ·simp[Kw]
  ·by_cases MU:j=11
   ·simp[MU]
   ·by_cases YH:j=10
    ·simp[YH]
    ·by_cases e9:j=9
     ·simp[e9]
     ·have e8:j=8:=by omega
      simp[e8]
theorem Pl.copied{R:Nat}{v':Value}{A':Nat}(hp:p.Up)(hl:z.us.length=m/\z.ux.length=m)(hd:DS w0 w K x x pd (put (put (put (XP (fun _=>.no) K G p fl z) 20 (.pp A' z.va p)) 21 (.rp R v' p)) 8 (.bC G 166 #[Zq.E.qp K.P,Zq.E.qp A',Zq.E.qp R,z.vt,z.vw]))):Pl (put (put (fun _=>.no) 20 (.pp z.A z.va p)) 21 (.rp z.B z.vb p)) w0 w K x pd G A' R p fl m:=by
 refine⟨⟨A',R,z.va,v',z.vt,z.vw,z.us,z.ux,z.fs⟩,hd.swap.congr fun j h1 h2=>?_,hp,hl.1,hl.2,rfl,rfl⟩;by_cases e8:j=8
 ·subst e8;rfl
 ·by_cases e9:j=9
  ·subst e9;rfl
  ·by_cases YH:j=10
   ·subst YH;rfl
   ·by_cases MU:j=11
    ·subst MU;rfl
    ·by_cases Kw:j=12
     ·subst Kw;rfl
     ·by_cases e20:j=20
      ·subst e20;rfl
      ·by_cases e21:j=21
       ·subst e21;rfl
       ·rw[uC (by omega),af _ _ e21,af _ _ e20];have hs:sw j=j:=by unfold sw;simp[e9,YH,e20,e21]
        rw[hs,af _ _ e8,af _ _ e21,af _ _ e20,uC (by omega)]
theorem LW(ht:qX w0)(h:Pl (fun _=>.no) w0 w K x pd G A B p fl m)(hb:Bn x pd m d)(qL:d<80){o:rO}(Ai:o.kd=7):Calls prog 78 #[Zq.E.qp G,.agg o.cells] w fun e w'=>e=.returned (.bool true)/\Dn w0 w' K G fl (d+1):=by
 obtain ⟨kd,ps,ms,cs,xs,pv,mv,cv,vs,pb,n⟩:=o;obtain rfl:kd=7:=Ai;obtain ⟨r,hr⟩:=zE w.heap.size;obtain ⟨w1,dZ⟩:=zE (w.alloc (.cells #[.int .i64 7,.slice ps ms cs,.slice pv mv cv,.bool pb,.int .i64 n] 81));have b1:Below w.heap.size w w1:=by rw[<-dZ];exact ag w _
 have lK:w1.heap[r]?=some (.cells #[.int .i64 7,.slice ps ms cs,.slice pv mv cv,.bool pb,.int .i64 n] 81 (0,0)):=by rw[<-dZ,<-hr];exact aG w _
 have k0:w1.cell? ⟨r,0,none⟩=some (.int .i64 7):=by rw[aq _ _ _ _ _ _ lK];rfl
 have HO:Hid (∀W,Below w1.heap.size w1 W->W.heap[r]?=some (.cells #[.int .i64 7,.slice ps ms cs,.slice pv mv cv,.bool pb,.int .i64 n] 81 (0,0))):=fun W b=>(b.block r (au.1 lK).1).trans lK;have vL:=zH (h.later b1);have GI:=zH hb;have rZ:=hb.c;have yx:=hb.nx;have mI:=hb.ws;have GD:=hb.pl;have OS:=hb.tl;clear h b1 lK hb;go_enter func78,ntmps78;obtain ⟨z,hd,Kq,CG,Df,rfl,rfl⟩:=vL.out;have HSG:Hid (Sg w0 w1.drew K pd G z.A z.B):=(vL.out.later (av 1)).sg;have CB:Hid p.Up:=Kq;have YQ:=rf CG Df;have HD:Hid (DS w0 w1.drew K x x pd (XP (fun _=>.no) K G p fl z)):=hd.later (av 1);clear hd Kq CG Df vL;go_wp2_with fail;refine zR (fun W=>Sg w0 W K pd G z.A z.B) HSG.out fun aa=>?_;generalize w1.drew=w2 at *;refine gh 0 1 2 aa ?_;refine de 3 aa (fun _ s=>s.c1) ?_;refine gh 4 5 6 aa ?_;refine de 7 aa (fun _ s=>s.c2) ?_;refine fI 8 9 aa ?_;clear aa;refine zD ?_;go_wp2_with fail;refine (aa1 HD.out (i:=9) (by decide) (by decide) rfl (j:=20) (by decide)).mono ?_;rintro e' w3 ⟨rfl,hd⟩;obtain ⟨A',hA'⟩:∃A',w2.heap.size=A':=⟨_,rfl⟩
 rw[hA'] at hd ⊢;have fu:=zH hd;clear hd HD HSG hA';go_wp2_with fail;refine (Uu fu.out (i:=10) (by decide) (by decide) rfl (j:=21) (by decide) (by decide)).mono ?_;rintro e' w4 ⟨R,v',rfl,hd⟩;have MI:=hd.bC (i:=8) (by decide) (by decide) (B:=G) (t:=166) (cs:=Da K z) rfl;have c1:w4.cell? ⟨G,1,none⟩=some (Zq.E.qp z.A):=by rw[aq _ _ _ _ _ _ MI];rfl
 have f1:=cX (j:=1) MI;have Jn:=hd.Cw (j:=8) (by decide) (by decide) (B:=G) (ty:=166) (cs:=Da K z) rfl 1 (Zq.E.qp A') (es:=#[Zq.E.qp K.P,Zq.E.qp A',Zq.E.qp z.B,z.vt,z.vw]) rfl;obtain ⟨w5,VY⟩:=zE (w4.setCell ⟨G,1,none⟩ (Zq.E.qp A'));rw[VY] at Jn;have hb5:=Jn.bC (i:=8) (by decide) (by decide) (ax _ _ _);have c2:w5.cell? ⟨G,2,none⟩=some (Zq.E.qp z.B):=by rw[aq _ _ _ _ _ _ hb5];rfl
 have f2:=cX (j:=2) hb5;have MF:=Jn.Cw (j:=8) (by decide) (by decide) (ax _ _ _) 2 (Zq.E.qp R) (es:=#[Zq.E.qp K.P,Zq.E.qp A',Zq.E.qp R,z.vt,z.vw]) rfl;obtain ⟨w6,Td⟩:=zE (w5.setCell ⟨G,2,none⟩ (Zq.E.qp R));rw[Td,ee] at MF;have hP6:=Pl.copied CB.out YQ.out MF;obtain ⟨E1,Wy⟩:=zE (put (put (fun _=>Th.no) 20 (.pp z.A z.va p)) 21 (.rp z.B z.vb p));rw[Wy] at hP6;have HQ1:Hid (∀j,13<=j->j<20->E1 j=.no):=fun j h1 h2=>by rw[<-Wy,af _ _ (by omega),af _ _ (by omega)]
 have HQ2:Hid (∀j,33<=j->j<40->E1 j=.no):=fun j h1 h2=>by rw[<-Wy,af _ _ (by omega),af _ _ (by omega)]
 have anc:Hid (E1 20=.pp z.A z.va p):=by show _=_;rw[<-Wy];rfl
 have anb:Hid (E1 21=.rp z.B z.vb p):=by show _=_;rw[<-Wy];rfl
 have g1:=hP6.sg.c1;have HP6:=zH hP6;clear hd Jn MF MI hb5 hP6 Wy fu;go_wp2_with fail;clear c1 f1 c2 f2 VY Td g1;refine (Bm HQ1.out HQ2.out ht HP6.out (by omega) (by omega) (by omega)).mono ?_;rintro e' w7 ⟨rfl,hp7⟩;obtain ⟨s1,s2,s3⟩:=AV K.c.hi x p;obtain ⟨x2,Ag⟩:=zE ((iI K.c.hi x p).2.2.1);obtain ⟨p2,OP⟩:=zE ((iI K.c.hi x p).2.2.2);rw[Ag] at hp7 s1 s2 s3;rw[OP] at hp7;have GH:=zH hp7;clear hp7 Ag OP HP6;have Yg:Hid (∀W,Pl E1 w0 W K x2 pd G A' R p2 fl (m+2)->C.lS W z.A p.st p.t z.va p.L p.k/\js W z.B p.rd p.t z.vb p.L):=fun W hW=>by
  obtain ⟨X,z2,hd,tT,-⟩:=hW.open;exact⟨hd.pt (i:=20) (by decide) (by decide) ((tT 20 (by decide)).trans anc.out),hd.gT (i:=21) (by decide) (by decide) ((tT 21 (by decide)).trans anb.out)⟩
 go_wp2_with fail;refine (H_ (Yg.out _ GH.out).2 CB.out).mono ?_;rintro e' w8 ⟨um,rfl,om,b8⟩;obtain ⟨f,hf⟩:=zE (p.L.drop p.k);have Mw:C.dW f/\f.length<=64:=⟨fun q hq=>(Yg.out _ GH.out).1.wf q (fE (hf ▸ hq)),by have:=CB.out.nR;rw[<-hf,cN];omega⟩
 rw[hf] at om;obtain ⟨pm,cm,rfl,em,-⟩:=C.eU.in om Mw.1;have HEM:=zH em;have YO:=zH (GH.out.later b8);have HF:=zH hf;have Au:=zH Mw;clear om em b8 hf Mw GH;go_wp2_with fail;refine (vX (Yg.out _ YO.out).1).mono ?_;rintro e' w9 ⟨rfl,Tc⟩;subst w9;go_wp2_with fail;refine (qA (Yg.out _ YO.out).2 CB.out.rd0.1 CB.out.rd0.2).mono ?_;rintro e' w9 ⟨rfl,b9⟩;rw[CB.out.rst];have HP9:=zH (YO.out.later b9);have aiZ:=zH (HEM.out.later b9);clear b9 YO HEM;go_wp2_with fail;refine (C.IK (.inr ⟨z.A,p.st,p.t,z.va,p.L,p.k,rfl,(Yg.out _ HP9.out).1,rfl⟩) (by rw[HF.out];exact Au.out.2)).mono ?_;rintro e' wa ⟨ul,rfl,ol,ba⟩;rw[HF.out] at ol;obtain ⟨pl,cl,rfl,el,-⟩:=C.eU.in ol Au.out.1;have YT:=zH el;have HPa:=zH (HP9.out.later ba);have aiY:=zH (aiZ.out.later ba);clear ol el ba HP9 aiZ;go_wp2_with fail;refine (v_ YT.out aiY.out Au.out.2).mono ?_;rintro e' wb ⟨rfl,bb⟩;have HPb:=zH ((HPa.out.later bb).bare);clear bb HPa YT aiY;go_wp2;go_ret;exact⟨rfl,_,_,_,_,_,_,HPb.out,by omega,by omega,by omega,by omega,by omega⟩
end
end Go.Proofs.Zq.Q
namespace Go.Proofs.Zq.Q
open Go.RowKit
namespace V
section
variable {P:Program} (w:World)
theorem Gq(t ty:TypeId)(base:Nat)(e:TypeId)(i:TypeInfo)(z:Value)(size bytes:Nat)(ht:P.underlying t=some (.slice e))(hi:P.info? e=some i)(hz:i.zero=some z)
  (oR:i.size=size) (Ku:i.bytes=bytes) (v:Value) (n:Nat) (xs:List Value) (dR:w.ownsRow base e size v n xs)
  (ad:Addr) (m c:Nat) (news:List Value) (hl:news.length=m*size) (nF:∀j u,news[j]?=some u->w.cell? (ad.add j)=some u) (h1:∀u∈news,u.oneCell'=true)
  (Wz:n+m<=maxLen) (oU:(n+m)*bytes<=140737488355328) (v':Value) (w':World) (dM:(Builtin.append_ #[t,t] ty #[v,.slice (some ad) m c]).run P w=.ok v' w') :
  ∀g,v.ownBlock=some g->(∃cs,w'.heap[g]?=some (.cells cs e (0,0)))/\∀j,j<n*size->w'.cell? ⟨g,j,none⟩=w.cell? ⟨g,j,none⟩:=by
 intro g0 hg0;have aeh:n+m<=9223372036854775807:=by simp only[maxLen] at Wz;omega
 rcases dR.2 with ⟨rfl,rfl⟩ | ⟨g,cap,cur,rfl,hbg,hg,FX,MG,hcs,uA⟩
 ·cases hg0
 ·obtain rfl:g=g0:=by simpa [Value.ownBlock] using hg0
  by_cases oS:n+m<=cap
  ·have rY:n*i.size+news.length<=cur.size:=by rw[hl,hcs,oR,<-Nat.add_mul];exact eV _ oS
   have hr:=run_append_room (P:=P) w t ty e i ht hi g n cap cur hg ad m c news (by rw[oR];exact hl) nF h1 oS rY;rw[hr] at dM;simp only[Result.ok.injEq] at dM;rw[<-dM.2];refine⟨⟨_,cK w g cur _ e _ hg⟩,fun j hj=>?_⟩;rw[aq _ g j _ e (0,0) (cK w g cur _ e _ hg),aq w g j cur e (0,0) hg];simp only[dV,oR];have hns:n*size<=cur.toList.length:=by rw[gq,hcs];exact eV _ FX
   rw[aS,cg (by rw[cr];omega),fG,aE hj];simp
  ·have holds:∀j u,xs[j]?=some u->w.cell? ((⟨g,0,none⟩:Addr).add j)=some u:=dR.cells (g:=g) rfl;have hr:=run_append_grow (P:=P) w t ty e i z ht hi hz ⟨g,0,none⟩ n cap xs (by rw[oR];exact dR.1) holds ad m c news (by rw[oR];exact hl) nF (by omega) (by omega) (growslice_fits (by omega) (by rw[Ku];exact oU));rw[hr] at dM;simp only[Result.ok.injEq] at dM;rw[<-dM.2];have eP:=(au.1 hg).1;have hbk:=mL w.drew (.cells (xs.toArray++news.toArray++Builtin.zeroCells z.cells (grownCap w (n+m) cap e-(n+m))) e) g eP;exact⟨⟨cur,hbk.trans hg⟩,fun j hj=>dN (w:=w) (a:=⟨g,j,none⟩) hbk⟩
theorem Bb(t ty:TypeId)(base:Nat)(e:TypeId)(i:TypeInfo)(z:Value)(size bytes:Nat)(ht:P.underlying t=some (.slice e))(hi:P.info? e=some i)(hz:i.zero=some z)
  (oR:i.size=size) (Ku:i.bytes=bytes) (OJ:z.cells.size=size) (yu:0<size) (v:Value) (n:Nat) (xs:List Value) (dR:w.ownsRow base e size v n xs)
  (ad:Addr) (m c:Nat) (news:List Value) (hl:news.length=m*size) (nF:∀j u,news[j]?=some u->w.cell? (ad.add j)=some u) (h1:∀u∈news,u.oneCell'=true)
  (hm:0<m) (Wz:n+m<=maxLen) (oU:(n+m)*bytes<=140737488355328) (pR:base<=w.heap.size) :
  ∃g cap w',(Builtin.append_ #[t,t] ty #[v,.slice (some ad) m c]).run P w=.ok (.slice (some ⟨g,0,none⟩) (n+m) cap) w'/\w'.ownsRow base e size (.slice (some ⟨g,0,none⟩) (n+m) cap) (n+m) (xs++news)/\w.grownBy w' v.ownBlock/\(v.ownBlock=some g\/g=w.heap.size)/\g<w'.heap.size /\
   (∀g,v.ownBlock=some g->(∃cs,w'.heap[g]?=some (.cells cs e (0,0)))/\∀j,j<n*size->w'.cell? ⟨g,j,none⟩=w.cell? ⟨g,j,none⟩):=by
 obtain ⟨g,cap,w',hr,h2,h3,h4,h5⟩:=run_append_lies (P:=P) w t ty base e i z size bytes ht hi hz oR Ku OJ yu v n xs dR ad m c news hl nF h1 hm Wz oU pR _ rfl;exact⟨g,cap,w',hr,h2,h3,h4,h5,Gq (P:=P) w t ty base e i z size bytes ht hi hz oR Ku v n xs dR ad m c news hl nF h1 Wz oU _ w' hr⟩
end
def m1 (i:Nat):C.En:=⟨-1-(i:Int),zs 32,0⟩
def m2 (i:Nat):C.En:=⟨-10001-(i:Int),zs 32,0⟩
theorem rE(i:Nat):(m1 i).v.length=32:=rfl
theorem yd(i:Nat):(m2 i).v.length=32:=rfl
theorem zX{w:World}{base e size g n c:Nat}{xs:List Value}(h:w.ownsRow base e size (.slice (some ⟨g,0,none⟩) n c) n xs)(o:Nat)(vs:List Value)(hv:o+vs.length<=n*size) :
  (w.setCells g o vs).ownsRow base e size (.slice (some ⟨g,0,none⟩) n c) n (xs.take o++vs++xs.drop (o+vs.length))/\w.grownBy (w.setCells g o vs) (some g):=by
 have hx:=h.1;rcases h.2 with ⟨h',_⟩ | ⟨g',c',cur,h',h1,hg,h2,h3,nV,htk⟩
 ·simp at h'
 ·simp only[cE,aC,d_,gJ,nY] at h';obtain ⟨rfl,rfl⟩:=h';have hL:bE e w g cur.toList:=hg;have hcn:n*size<=cur.size:=by rw[nV];exact eV _ h2
  have hs:=bE.setCells vs o w cur.toList hL (by simp;omega);refine⟨⟨by simp;omega,.inr ⟨g,c,_,rfl,h1,hs,h2,h3,by simp;omega,?_⟩⟩,?_⟩
  ·show ((cur.toList.take o++vs++cur.toList.drop (o+vs.length)).toArray.toList).take (n*size)=_;have e1:xs.take o=cur.toList.take o:=by rw[<-htk,List.take_take,fX (by omega)]
   have e2:xs.drop (o+vs.length)=(cur.toList.drop (o+vs.length)).take (n*size-(o+vs.length)):=by rw[<-htk,List.drop_take]
   rw[e1,e2,List.take_append,aL (by simp;omega)]
   congr 2
   simp;omega
  ·have k:Kept (fun k=>k=g) w (w.setCells g o vs):=Kept.setCells (S:=fun k=>k=g) (fun _=>rfl) vs o w (Kept.refl _ _);exact⟨k.os,k.tape,k.output,k.size,fun j hj hn=>k.block j hj (fun e=>hn (by rw[e]))⟩
abbrev sJ (n:Nat)(x:C.En):List Value:=C.EC (List.replicate n x)
theorem Ur(n:Nat){x:C.En}(hx:x.v.length=32):(sJ n x).length=n*34:=by
 have:=C.pS (m:=34) ((List.replicate n x).map C.aB) (fun l hl=>by
  obtain ⟨i,hi,rfl⟩:=cF.1 hl;rw[n_ hi];exact C.cI hx)
 simpa [sJ,C.EC] using this
theorem Ee(n:Nat)(x:C.En):sJ (n+1) x=sJ n x++C.aB x:=by
 show C.EC (List.replicate (n+1) x)=C.EC (List.replicate n x)++C.aB x;rw[List.replicate_succ',C.PT]
theorem N_(n k j:Nat){x:C.En}(hx:x.v.length=32)(hk:k<n)(hj:j<34):(sJ n x)[k*34+j]?=(C.aB x)[j]?:=by
 have:=pT (m:=34) ((List.replicate n x).map C.aB) (fun l hl=>by
  obtain ⟨i,hi,rfl⟩:=cF.1 hl;rw[n_ hi];exact C.cI hx) k (by simpa using hk) j hj
 rw[sJ,C.EC,Nat.mul_comm k 34,this];simp
structure nJ (w:World) (r:Option Nat) (cur:Nat) (b lo hi:Nat) (x:C.En):Prop where
 block:∃cs,w.heap[b]?=some (.cells cs 54 (0,0))
 cells:∀k,lo<=k->k<hi->w.rangeAt b (k*34) (C.aB x)
 ahead:r=some b->hi<=cur
 len:x.v.length=32
theorem nJ.lt{w:World}{r:Option Nat}{cur b lo hi:Nat}{x:C.En}(h:nJ w r cur b lo hi x):b<w.heap.size:=by
 obtain ⟨cs,hc⟩:=h.block;exact (au.1 hc).1
theorem nJ.same{w w':World}{r r':Option Nat}{cur RW b lo hi:Nat}{x:C.En}(h:nJ w r cur b lo hi x)(hb:w'.heap[b]?=w.heap[b]?)(hr:r'=some b->hi<=RW):nJ w' r' RW b lo hi x :=
 ⟨by rw[hb];exact h.block,fun k h1 h2=>gL (h.cells k h1 h2) hb,hr,h.len⟩
structure lT (w:World) (B L m:Nat) (vp:Nat->Option Addr) (vn vc:Nat->Nat):Prop where
 nR:m<=4000
 list:∀i,i<m->w.cell? ⟨L,i,none⟩=some (.slice (vp i) (vn i) (vc i))
 kind:∃cs,w.heap[L]?=some (.cells cs 47 (0,0))
 rows:∀i,i<m->∃xs,w.ownsRow B 54 34 (.slice (vp i) (vn i) (vc i)) (vn i) xs
 apart:∀i j a b,i<m->j<m->i≠j->vp i=some a->vp j=some b->a.block≠b.block
 size:∀i,i<m->vn i<=64
 base:B<=w.heap.size
structure Fr (m:Nat) (vp:Nat->Option Addr) (w w':World):Prop where
 os:w'.os=w.os
 tape:w'.tape=w.tape
 output:w'.output=w.output
 size:w.heap.size<=w'.heap.size
 block:∀k,k<w.heap.size->(∀i a,i<m->vp i=some a->a.block≠k)->w'.heap[k]?=w.heap[k]?
theorem Fr.refl(m:Nat)(vp:Nat->Option Addr)(w:World):Fr m vp w w:=⟨rfl,rfl,rfl,az _,fun _ _ _=>rfl⟩
theorem pP{w:World}{base e size:Nat}{p:Option Addr}{n c:Nat}{xs:List Value}(h:w.ownsRow base e size (.slice p n c) n xs):(p=none/\n=0)\/∃g cs,p=some ⟨g,0,none⟩/\base<=g/\w.heap[g]?=some (.cells cs e (0,0)):=by
 rcases h.2 with ⟨e1,e2⟩ | ⟨g,cap,cur,e1,hb,hg,_⟩
 ·simp only[cE] at e1;exact .inl ⟨e1.1,e2⟩
 ·simp only[cE] at e1;exact .inr ⟨g,cur,e1.1,hb,hg⟩
structure Mark (w wr:World) (B m:Nat) (vp:Nat->Option Addr) (vn vc:Nat->Nat) (i k:Nat):Prop where
 fr:Fr m vp w wr
 rows:∀j,j<m->∃xs,wr.ownsRow B 54 34 (.slice (vp j) (vn j) (vc j)) (vn j) xs/\(j<i->xs=sJ (vn j) (m1 j))/\(j=i->xs.take (k*34)=sJ k (m1 i))
theorem lT.start{w:World}{B L m:Nat}{vp:Nat->Option Addr}{vn vc:Nat->Nat}(h:lT w B L m vp vn vc):Mark w w B m vp vn vc 0 0:=by
 refine⟨Fr.refl _ _ _,fun j hj=>?_⟩;obtain ⟨xs,hx⟩:=h.rows j hj;exact⟨xs,hx,fun h=>absurd h (fW _),fun _=>by simp[sJ,C.EC]⟩
theorem lT.abk{w wr:World}{B L m:Nat}{vp:Nat->Option Addr}{vn vc:Nat->Nat}(h:lT w B L m vp vn vc)(hf:Fr m vp w wr):wr.heap[L]?=w.heap[L]?:=by
 obtain ⟨cs,hc⟩:=h.kind;refine hf.block L (au.1 hc).1 fun i a hi ha e=>?_;obtain ⟨xs,hx⟩:=h.rows i hi;rcases pP hx with ⟨h1,_⟩ | ⟨g,cs2,h1,_,hg⟩
 ·rw[ha] at h1;cases h1
 ·rw[ha] at h1;simp only[aC] at h1;subst h1;simp only at e;subst e;rw[hc] at hg;simp at hg
theorem lT.Gl{w wr:World}{B L m:Nat}{vp:Nat->Option Addr}{vn vc:Nat->Nat}(h:lT w B L m vp vn vc)(hf:Fr m vp w wr)(i:Nat)(hi:i<m):wr.cell? ⟨L,i,none⟩=some (.slice (vp i) (vn i) (vc i)) :=
 (dN (w:=w) (w':=wr) (a:=⟨L,i,none⟩) (h.abk hf)).trans (h.list i hi)
theorem Mark.store{w wr:World}{B L m:Nat}{vp:Nat->Option Addr}{vn vc:Nat->Nat}{i k:Nat}(hF:lT w B L m vp vn vc)(h:Mark w wr B m vp vn vc i k)(hi:i<m)(hk:k<vn i) :
  ∃g,vp i=some ⟨g,0,none⟩/\wr.there g (k*34) 34/\Mark w (wr.setCells g (k*34) (C.aB (m1 i))) B m vp vn vc i (k+1):=by
 obtain ⟨xs,hx,_,Ag⟩:=h.rows i hi;rcases pP hx with ⟨_,h0⟩ | ⟨g,cs,hg,hB,hh⟩
 ·omega
 ·refine⟨g,hg,?_⟩;rw[hg] at hx;have hl:=hx.1;have hb:=(gU hx).1;have FX:=(gU hx).2.1;refine⟨hb.there _ _ (by have:vn i*34<=vc i*34:=eV _ FX;omega),?_⟩;have hM:(C.aB (m1 i)).length=34:=by rw[C.cI (rE _)]
  have ahe:=Ee k (m1 i);obtain ⟨M,hMM⟩:∃M,M=C.aB (m1 i):=⟨_,rfl⟩
  rw[<-hMM] at hM ahe ⊢;clear hMM;have iU:=zX hx (k*34) M (by omega);refine⟨⟨h.fr.os.symm ▸ iU.2.os,h.fr.tape.symm ▸ iU.2.tape,h.fr.output.symm ▸ iU.2.output,bJ h.fr.size iU.2.size,fun q hq hn=>?_⟩,fun j hj=>?_⟩
  ·rw[iU.2.block q (bN hq h.fr.size) (fun e=>by simp only[aC] at e;exact hn i _ hi hg e.symm)];exact h.fr.block q hq hn
  ·by_cases e:j=i
   ·subst e;refine⟨_,by rw[hg];exact iU.1,fun h=>absurd h (gB _),fun _=>?_⟩;have h1:(xs.take (k*34)).length=k*34:=by simp;omega
    have h2:(xs.take (k*34)++M).length=(k+1)*34:=by rw[aO,h1,hM];omega
    rw[fD (by omega),aL (by omega),Ag rfl,ahe]
   ·obtain ⟨ys,hy,hy1,hy2⟩:=h.rows j hj;refine⟨ys,hy.kept iU.2 ?_,hy1,fun e2=>absurd e2 e⟩;cases hp:vp j with
    | none=>left;rfl
    | some b =>
     right;have:=hF.apart j i b _ hj hi e hp hg;simpa [Value.ownBlock] using this
theorem Mark.next{w wr:World}{B m:Nat}{vp:Nat->Option Addr}{vn vc:Nat->Nat}{i k:Nat}(h:Mark w wr B m vp vn vc i k)(hk:vn i<=k):Mark w wr B m vp vn vc (i+1) 0:=by
 refine⟨h.fr,fun j hj=>?_⟩;obtain ⟨xs,hx,Yv,Ag⟩:=h.rows j hj;refine⟨xs,hx,fun eP=>?_,fun e=>by simp[sJ,C.EC]⟩;by_cases e:j=i
 ·subst e;have hl:=hx.1;have:=Ag rfl;rw[aL (by rw[hl];exact eV _ hk)] at this;have wR:k=vn j:=by have h2:=congrArg List.length this;rw[hl,Ur _ (rE j)] at h2;omega
  rw[this,wR]
 ·exact Yv (by omega)
def Entry (wr:World)(m:Nat)(vp:Nat->Option Addr)(vn:Nat->Nat)(i:Nat)(r:Option Nat)(cur q:Nat)(v:Value):Prop :=
 ∃b len cap,v=.slice (some ⟨b,0,none⟩) len cap/\vn (q / 17)<=len/\len<=1000/\nJ wr r cur b (vn (q / 17)) len (m2 (q / 17))/\∀j a,i<=j->j<m->vp j=some a->a.block≠b
structure Grow (w wr:World) (B m:Nat) (vp:Nat->Option Addr) (vn vc:Nat->Nat) (i:Nat) (r:Option Nat) (cur:Nat) (V:Value) (LL:List Value):Prop where
 fr:Fr m vp w wr
 base:B<=wr.heap.size
 rows:∀j a,j<m->vp j=some a->nJ wr r cur a.block 0 (vn j) (m1 j)
 todo:∀j,i<=j->j<m->∃xs,wr.ownsRow B 54 34 (.slice (vp j) (vn j) (vc j)) (vn j) xs
 long:wr.ownsRow w.heap.size 47 1 V LL.length LL
 entry:∀q (h:q<LL.length),Entry wr m vp vn i r cur q LL[q]
theorem Mark.grow{w wr:World}{B m:Nat}{vp:Nat->Option Addr}{vn vc:Nat->Nat}(h:Mark w wr B m vp vn vc m 0)(hB:B<=w.heap.size):Grow w wr B m vp vn vc 0 none 0 (.slice none 0 0) []:=by
 refine⟨h.fr,bJ hB h.fr.size,fun j a hj ha=>?_,fun j _ hj=>?_,cq _ _ _ _,fun q h=>absurd h (fW _)⟩
 ·obtain ⟨xs,hx,Yv,_⟩:=h.rows j hj;have Yv:=Yv hj;subst Yv;rcases pP hx with ⟨h1,_⟩ | ⟨g,cs,h1,_,hg⟩
  ·rw[ha] at h1;cases h1
  ·rw[ha] at h1;simp only[aC] at h1;subst h1;refine⟨⟨cs,hg⟩,fun k _ hk=>?_,(fun e=>by cases e),rE j⟩;rw[ha] at hx;refine oM hx fun l v hv=>?_;have hl:l<34:=by have:=(aA.1 hv).1;rwa [C.cI (rE _)] at this
   rw[N_ _ _ _ (rE j) hk hl];exact hv
 ·obtain ⟨xs,hx,_⟩:=h.rows j hj;exact⟨xs,hx⟩
theorem Entry.same{wr w':World}{m:Nat}{vp:Nat->Option Addr}{vn:Nat->Nat}{i i':Nat}{r r':Option Nat}{cur RW q:Nat}{v:Value}(h:Entry wr m vp vn i r cur q v)(hi:i<=i')
  (hs:∀b lo hi x,nJ wr r cur b lo hi x->nJ w' r' RW b lo hi x):Entry w' m vp vn i' r' RW q v:=by
 obtain ⟨b,len,cap,e,h1,h2,h3,h4⟩:=h;exact⟨b,len,cap,e,h1,h2,hs _ _ _ _ h3,fun j a hj=>h4 j a (bJ hi hj)⟩
theorem Grow.alloc{w wr:World}{B m:Nat}{vp:Nat->Option Addr}{vn vc:Nat->Nat}{i:Nat}{r:Option Nat}{cur:Nat}{V:Value}{LL:List Value}(h:Grow w wr B m vp vn vc i r cur V LL)(o:Obj):Grow w (wr.alloc o) B m vp vn vc i r cur V LL:=by
 have hw:∀b lo hi x,nJ wr r cur b lo hi x->nJ (wr.alloc o) r cur b lo hi x:=fun b lo hi x hx=>hx.same (mL wr o b hx.lt) hx.ahead;refine⟨⟨h.fr.os,h.fr.tape,h.fr.output,bJ h.fr.size (by simp),fun k hk hn=>?_⟩,bJ h.base (by simp),fun j a hj ha=>hw _ _ _ _ (h.rows j a hj ha),fun j h1 h2=>?_,h.long.alloc o,fun q hq=>(h.entry q hq).same (az _) hw⟩
 ·rw[mL wr o k (bN hk h.fr.size)];exact h.fr.block k hk hn
 ·obtain ⟨xs,hx⟩:=h.todo j h1 h2;exact⟨xs,hx.alloc o⟩
theorem Grow.begin{w wr:World}{B m:Nat}{vp:Nat->Option Addr}{vn vc:Nat->Nat}{i:Nat}{V:Value}{LL:List Value}{L:Nat}(hF:lT w B L m vp vn vc)(h:Grow w wr B m vp vn vc i none 0 V LL)(hi:i<m) :
  Grow w wr B m vp vn vc (i+1) (Value.slice (vp i) (vn i) (vc i)).ownBlock (vn i) V LL/\(∃xs,wr.ownsRow B 54 34 (.slice (vp i) (vn i) (vc i)) (vn i) xs) /\
   (∀j a,i+1<=j->j<m->vp j=some a->(Value.slice (vp i) (vn i) (vc i)).ownBlock≠some a.block):=by
 have hb:∀a,vp i=some a->(Value.slice (vp i) (vn i) (vc i)).ownBlock=some a.block:=fun a ha=>by rw[ha];rfl
 have hbn:∀g,(Value.slice (vp i) (vn i) (vc i)).ownBlock=some g->∃a,vp i=some a/\a.block=g:=by
  intro g hg;cases hp:vp i with
  | none=>rw[hp] at hg;cases hg
  | some a=>rw[hp] at hg;exact⟨a,rfl,by simpa [Value.ownBlock] using hg⟩
 refine⟨⟨h.fr,h.base,fun j a hj ha=>?_,fun j h1 h2=>h.todo j (by omega) h2,h.long,fun q hq=>?_⟩,h.todo i (az _) hi,fun j a h1 h2 ha e=>?_⟩
 ·have hx:=h.rows j a hj ha;refine hx.same rfl fun e=>?_;obtain ⟨b,qj,jb⟩:=hbn _ e;by_cases RE:j=i
  ·subst RE;exact az _
  ·exact absurd jb.symm (hF.apart j i a b hj hi RE ha qj)
 ·obtain ⟨b,len,cap,e,h1,h2,h3,h4⟩:=h.entry q hq;refine⟨b,len,cap,e,h1,h2,h3.same rfl fun e=>?_,fun j a hj=>h4 j a (by omega)⟩;obtain ⟨a,ha,jb⟩:=hbn _ e;exact absurd jb (h4 i a (az _) hi ha)
 ·obtain ⟨b,qj,jb⟩:=hbn _ e;exact hF.apart i j b a hi h2 (by omega) qj ha jb
structure Own (w wr:World) (B m:Nat) (vp:Nat->Option Addr) (i:Nat) (r:Option Nat):Prop where
 mO:∀j a,i<=j->j<m->vp j=some a->r≠some a.block
 kind:∀k,r=some k->(∃cs,wr.heap[k]?=some (.cells cs 54 (0,0)))/\B<=k
 whose:∀k,r=some k->w.heap.size<=k\/∃j a,j<m/\vp j=some a/\a.block=k
theorem Grow.append{w wr w':World}{B L m:Nat}{vp:Nat->Option Addr}{vn vc:Nat->Nat}{i:Nat}{r:Option Nat}{cur:Nat}{V:Value}{LL:List Value}{g cap:Nat}{xs:List Value}
  (hF:lT w B L m vp vn vc) (h:Grow w wr B m vp vn vc i r cur V LL) (ho:Own w wr B m vp i r)
  (dR:w'.ownsRow B 54 34 (.slice (some ⟨g,0,none⟩) (cur+1) cap) (cur+1) xs) (cU:wr.grownBy w' r) (lf:r=some g\/g=wr.heap.size)
  (Ji:∀k,r=some k->(∃cs,w'.heap[k]?=some (.cells cs 54 (0,0)))/\∀j,j<cur*34->w'.cell? ⟨k,j,none⟩=wr.cell? ⟨k,j,none⟩) :
  Grow w w' B m vp vn vc i (some g) (cur+1) V LL/\Own w w' B m vp i (some g):=by
 have hg5:(∃cs,w'.heap[g]?=some (.cells cs 54 (0,0)))/\B<=g:=by
  rcases pP dR with ⟨h1,_⟩ | ⟨g',cs,h1,hb,hg⟩
  ·cases h1
  ·simp only[aC,d_,gJ] at h1;subst h1;exact⟨⟨cs,hg⟩,hb⟩
 have hw:∀b lo hi x,nJ wr r cur b lo hi x->nJ w' (some g) (cur+1) b lo hi x:=by
  intro b lo hi x hx;by_cases e:r=some b
  ·have hle:=hx.ahead e;refine⟨(Ji b e).1,fun k h1 h2=>?_,(fun _=>by omega),hx.len⟩;intro l v hv;have hc:=hx.cells k h1 h2 l v hv;by_cases hl:k*34+l<cur*34
   ·rw[(Ji b e).2 _ hl];exact hc
   ·have:=(aA.1 hv).1;rw[C.cI hx.len] at this;omega
  ·refine hx.same (cU.block b hx.lt (fun e2=>e e2.symm)) fun e2=>?_;simp only[aC] at e2;subst e2;rcases lf with lf | lf
   ·exact absurd lf e
   ·have:=hx.lt;omega
 have alF:∀j a,j<m->vp j=some a->a.block<w.heap.size:=by
  intro j a hj ha;obtain ⟨xs,hx⟩:=hF.rows j hj;rcases pP hx with ⟨h1,_⟩ | ⟨g',cs,h1,_,hg⟩
  ·rw[ha] at h1;cases h1
  ·rw[ha] at h1;simp only[aC] at h1;subst h1;exact (au.1 hg).1
 have nV:=h.fr.size;refine⟨⟨⟨cU.os.trans h.fr.os,cU.tape.trans h.fr.tape,cU.output.trans h.fr.output,bJ h.fr.size cU.size,fun k hk hn=>?_⟩,bJ h.base cU.size,fun j a hj ha=>hw _ _ _ _ (h.rows j a hj ha),fun j h1 h2=>?_,?_,fun q hq=>(h.entry q hq).same (az _) hw⟩,⟨fun j a h1 h2 ha e=>?_,fun k e=>?_,fun k e=>?_⟩⟩
 ·rw[cU.block k (bN hk nV) fun e=>?_]
  ·exact h.fr.block k hk hn
  ·rcases ho.whose k e.symm with dZ | ⟨j,a,h1,h2,h3⟩
   ·omega
   ·exact hn j a h1 h2 h3
 ·obtain ⟨ys,hy⟩:=h.todo j h1 h2;refine⟨ys,hy.kept cU ?_⟩;cases hp:vp j with
  | none=>left;rfl
  | some a=>right;exact fun e=>ho.mO j a h1 h2 hp e.symm
 ·refine h.long.kept cU ?_;cases hv:V.ownBlock with
  | none=>left;rfl
  | some k =>
   right;intro e;obtain ⟨cs,hcs⟩:=(ho.kind k e.symm).1;rcases h.long.2 with ⟨h1,_⟩ | ⟨gV,ae3,amP,h1,_,hgV,_⟩
   ·rw[h1] at hv;cases hv
   ·rw[h1] at hv;simp only[Value.ownBlock,aC] at hv;subst hv;rw[hcs] at hgV;simp at hgV
 ·simp only[aC] at e;rcases lf with lf | lf
  ·rw[e] at lf
   exact ho.mO j a h1 h2 ha lf
  ·have:=alF j a h2 ha;omega
 ·simp only[aC] at e;subst e;exact hg5
 ·simp only[aC] at e;subst e;rcases lf with lf | lf
  ·exact ho.whose g lf
  ·left;omega
theorem Grow.enter{w wr w':World}{B m:Nat}{vp:Nat->Option Addr}{vn vc:Nat->Nat}{i:Nat}{g cap cur:Nat}{V V':Value}{LL xs:List Value}
  (h:Grow w wr B m vp vn vc (i+1) (some g) cur V LL) (ho:Own w wr B m vp (i+1) (some g)) (hx:wr.ownsRow B 54 34 (.slice (some ⟨g,0,none⟩) cur cap) cur (xs++sJ (cur-vn i) (m2 i))) (hxl:xs.length=vn i*34) (al2:vn i<=cur) (r_:cur<=1000)
  (hq:LL.length / 17=i) (dR:w'.ownsRow w.heap.size 47 1 V' (LL.length+1) (LL++[.slice (some ⟨g,0,none⟩) cur cap])) (cU:wr.grownBy w' V.ownBlock) :
  Grow w w' B m vp vn vc (i+1) (some g) cur V' (LL++[.slice (some ⟨g,0,none⟩) cur cap])/\Own w w' B m vp (i+1) (some g)/\w'.ownsRow B 54 34 (.slice (some ⟨g,0,none⟩) cur cap) cur (xs++sJ (cur-vn i) (m2 i)):=by
 have kG:∀b,(∃cs,wr.heap[b]?=some (.cells cs 54 (0,0)))->some b≠V.ownBlock:=by
  rintro b ⟨cs,hcs⟩ e;rcases h.long.2 with ⟨h1,_⟩ | ⟨gV,ae3,amP,h1,_,hgV,_⟩
  ·rw[h1] at e;cases e
  ·rw[h1] at e;simp only[Value.ownBlock,aC] at e;subst e;rw[hcs] at hgV;simp at hgV
 have hw:∀b lo hi x,nJ wr (some g) cur b lo hi x->nJ w' (some g) cur b lo hi x:=fun b lo hi x hx=>hx.same (cU.block b hx.lt (kG b hx.block)) hx.ahead;have nV:=h.fr.size;have YB:=ho.kind g rfl;have Ah:w'.ownsRow B 54 34 (.slice (some ⟨g,0,none⟩) cur cap) cur (xs++sJ (cur-vn i) (m2 i)):=hx.kept cU (.inr (kG g YB.1));refine⟨⟨⟨cU.os.trans h.fr.os,cU.tape.trans h.fr.tape,cU.output.trans h.fr.output,bJ h.fr.size cU.size,fun k hk hn=>?_⟩,bJ h.base cU.size,fun j a hj ha=>hw _ _ _ _ (h.rows j a hj ha),fun j h1 h2=>?_,by simpa using dR,fun q hq2=>?_⟩,⟨ho.mO,fun k e=>?_,ho.whose⟩,Ah⟩
 ·rw[cU.block k (bN hk nV) fun e=>by have:=(h.long.lt k e.symm).1;omega];exact h.fr.block k hk hn
 ·obtain ⟨ys,hy⟩:=h.todo j h1 h2;refine⟨ys,hy.kept cU ?_⟩;rcases pP hy with ⟨h3,_⟩ | ⟨g',cs,h3,_,EK⟩
  ·left;rw[h3];rfl
  ·right;rw[h3];exact kG g' ⟨cs,EK⟩
 ·by_cases eP:q<LL.length
  ·rw[dX eP];exact (h.entry q eP).same (az _) hw
  ·have hql:q=LL.length:=by simp at hq2;omega
   subst hql;rw[List.getElem_append_right (az _)];simp only[Nat.sub_self,List.getElem_cons_zero];refine⟨g,cur,cap,rfl,by rw[hq];exact al2,r_,?_,fun j a h1 h2 ha e=>ho.mO j a h1 h2 ha (by rw[e])⟩;rw[hq];refine⟨(YB.1).elim fun cs hcs=>⟨cs,(cU.block g (au.1 hcs).1 (kG g YB.1)).trans hcs⟩,fun k h1 h2=>?_,fun _=>az _,yd i⟩;refine oM Ah fun l v hv=>?_;have hl:l<34:=by have:=(aA.1 hv).1;rwa [C.cI (yd _)] at this
   rw[aT (by omega),hxl,show k*34+l-vn i*34=(k-vn i)*34+l by omega,N_ _ _ _ (yd i) (by omega) hl];exact hv
 ·simp only[aC] at e;subst e;exact⟨YB.1.elim fun cs hcs=>⟨cs,(cU.block g (au.1 hcs).1 (kG g YB.1)).trans hcs⟩,YB.2⟩
theorem lT.shape{w:World}{B L m:Nat}{vp:Nat->Option Addr}{vn vc:Nat->Nat}(h:lT w B L m vp vn vc)(i:Nat)(hi:i<m)(h0:0<vn i):∃g,vp i=some ⟨g,0,none⟩:=by
 obtain ⟨xs,hx⟩:=h.rows i hi;rcases pP hx with ⟨_,h2⟩ | ⟨g,cs,h1,_,_⟩
 ·omega
 ·exact⟨g,h1⟩
theorem Own.begin{w wr:World}{B m:Nat}{vp:Nat->Option Addr}{vn vc:Nat->Nat}{i:Nat}{xs:List Value}(hi:i<m)(hx:wr.ownsRow B 54 34 (.slice (vp i) (vn i) (vc i)) (vn i) xs)
  (Ws:∀j a,i+1<=j->j<m->vp j=some a->(Value.slice (vp i) (vn i) (vc i)).ownBlock≠some a.block):Own w wr B m vp (i+1) (Value.slice (vp i) (vn i) (vc i)).ownBlock:=by
 rcases pP hx with ⟨h1,_⟩ | ⟨g,cs,h1,hb,hg⟩
 ·refine⟨Ws,fun k e=>?_,fun k e=>?_⟩ <;> rw[h1] at e <;> cases e
 ·refine⟨Ws,fun k e=>?_,fun k e=>?_⟩ <;> rw[h1] at e <;> simp only[Value.ownBlock,aC] at e <;> subst e
  ·exact⟨⟨cs,hg⟩,hb⟩
  ·exact .inr ⟨i,_,hi,h1,rfl⟩
theorem Own.alloc{w wr:World}{B m:Nat}{vp:Nat->Option Addr}{i:Nat}{r:Option Nat}(h:Own w wr B m vp i r)(o:Obj):Own w (wr.alloc o) B m vp i r:=by
 refine⟨h.mO,fun k e=>?_,h.whose⟩;obtain ⟨⟨cs,hcs⟩,hb⟩:=h.kind k e;exact⟨⟨cs,(mL wr o k (au.1 hcs).1).trans hcs⟩,hb⟩
theorem Grow.next{w wr:World}{B m:Nat}{vp:Nat->Option Addr}{vn vc:Nat->Nat}{i:Nat}{r:Option Nat}{cur:Nat}{V:Value}{LL:List Value}(h:Grow w wr B m vp vn vc i r cur V LL):Grow w wr B m vp vn vc i none 0 V LL:=by
 have hw:∀b lo hi x,nJ wr r cur b lo hi x->nJ wr none 0 b lo hi x:=fun b lo hi x hx=>hx.same rfl fun e=>by cases e
 exact⟨h.fr,h.base,fun j a hj ha=>hw _ _ _ _ (h.rows j a hj ha),h.todo,h.long,fun q hq=>(h.entry q hq).same (az _) hw⟩
