import Derived.Test.YtcdjepkhdjpjcaaGreatDoorU29
set_option maxHeartbeats 20000000
set_option maxRecDepth 100000
namespace Go.Proofs.Zq.Q
open Go.Proofs.Tryz
open Go.RowKit
section
variable {w0 w w':World} {K:Ks} {x y:Sx} {pd:List Cm} {X:Nat->Th}
def ia (W:World)(B:Nat)(K:Ks):Prop:=W.heap[B]?=some (.cells (gl K).toArray 37 (0,0))
theorem ia.new(w:World)(K:Ks):ia (w.alloc (.cells (gl K).toArray 37)) w.heap.size K:=aG w _
theorem ia.later{B:Nat}(h:ia w B K)(hb:Below w.heap.size w w'):ia w' B K:=(hb.block B (au.1 h).1).trans h
section
variable {B:Nat}
theorem ia.dp(h:ia w B K):w.cell? ⟨B,5,none⟩=some (E.qp K.dp):=by rw[aq _ _ _ _ _ _ h];rfl
theorem ia.lp(h:ia w B K):w.cell? ⟨B,6,none⟩=some (E.qp K.lp):=by rw[aq _ _ _ _ _ _ h];rfl
theorem ia.ap(h:ia w B K):w.cell? ⟨B,7,none⟩=some (E.qp K.ap):=by rw[aq _ _ _ _ _ _ h];rfl
theorem ia.kp(h:ia w B K):w.cell? ⟨B,8,none⟩=some (E.qp K.kp):=by rw[aq _ _ _ _ _ _ h];rfl
theorem ia.hi(h:ia w B K):w.cell? ⟨B,3,none⟩=some (.int .i64 K.c.hi):=by rw[aq _ _ _ _ _ _ h];rfl
end
theorem nA(w:World)(K:Ks):Calls prog 35 #[.agg (gl K).toArray] w fun e w'=>e=.returned (.bool true)/\Below w.heap.size w w':=by
 have h:=ia.new w K;have a1:=h.dp;have a2:=h.lp;have a3:=h.ap;have a4:=h.kp;have b:=ag w (.cells (gl K).toArray 37);clear h;go_enter func35,ntmps35;go_wp2;go_ret;exact⟨rfl,b⟩
theorem qy(h:DS w0 w K x y pd X):Calls prog 83 #[.agg (gl K).toArray] w fun e w'=>e=.returned (.tuple #[.int .u64 ((x.p+1)),.bool x.s])/\Below w.heap.size w w':=by
 have hD:=ia.new w K;have a4:=hD.kp;have b:=ag w (.cells (gl K).toArray 37);have H:=zH (h.later b);clear hD h;go_enter func83,ntmps83;go_wp2_with fail;have hw:=H.out.lU.p0;refine (adA H.out).mono ?_;rintro e w1 ⟨rfl,rfl⟩;go_wp2;go_ret2;exact⟨rfl,b⟩
theorem TR(h:DS w0 w K x y pd X)(hN:x.a.next<=1000):Calls prog 84 #[.agg (gl K).toArray] w fun e w'=>e=.returned (.bool (x.a.Af && !x.a.fits))/\Below w.heap.size w w':=by
 have hD:=ia.new w K;have a4:=hD.ap;have b:=ag w (.cells (gl K).toArray 37);have H:=zH (h.later b);have HD:=zH hD;clear hD h;go_enter func84,ntmps84;go_wp2_with fail;generalize w.alloc (.cells (gl K).toArray 37)=w1 at *;refine (ZQ H.out hN).mono ?_;rintro e w2 ⟨q,d,rfl,b2⟩;have a5:=(HD.out.later b2).ap;have H2:=zH (H.out.later b2);have B2:Hid (Below w.heap.size w w2):=ah b b2;clear b b2 a4 H HD;cases eW:x.a.Af with
 | false =>
  go_wp2;go_ret;rw[eW];exact⟨rfl,B2.out⟩
 | true =>
  go_wp2_with fail;refine (adB H2.out hN).mono ?_;rintro e w3 ⟨rfl,b3⟩;have B3:Hid (Below w.heap.size w w3):=ah B2.out b3;clear b3;go_wp2;go_ret;rw[eW];exact⟨rfl,B3.out⟩
theorem zQ:(prog.info? 37).map (·.size)=some 9:=by kernel_rfl
theorem ia.load{B:Nat}(h:ia w B K):(Instr.loadAt 37 (.pointer (some ⟨B,0,none⟩))).run prog w=.ok (.agg (gl K).toArray) w:=b_ w B 0 37 (gl K) _ (bE.range (t:=37) h) underlying37 rfl (by rw[zQ];rfl)
def rM (x:Sx)(hi:Int):Bool:=x.s && decide (x.g.tail<x.p+1) && (decide (hi<=x.a.used) || (x.a.Af && !x.a.fits))
theorem aeO(h:DS w0 w K x y pd X)(hN:x.a.next<=1000)(e1:x.s=false):Calls prog 36 #[.agg (gl K).toArray] w fun e w'=>e=.returned (.bool false)/\Below w.heap.size w w':=by
 have hD:=ia.new w K;have b:=ag w (.cells (gl K).toArray 37);have H:=zH (h.later b);have HD:=zH hD;have HN:=zH hN;have HP:=h.lU.p0;clear hD h hN;go_enter func36,ntmps36;go_wp2_with ((with_reducible refine aQ ?_);(refine aK (by rfl) 37 rfl rfl HD.out.load ?_);simp only[Act.put,zA,zB,zC])
 refine (qy H.out).mono ?_;rintro e w2 ⟨rfl,b2⟩;have fh:Hid (ia w2.drew w.heap.size K):=(HD.out.later b2).later (av 1);have H2:Hid (DS w0 w2.drew K x y pd X):=(H.out.later b2).later (av 1);have B2:Hid (Below w.heap.size w w2.drew):=ah (ah b b2) (av 1);clear b b2 H HD;go_wp2_with fail;refine zR (fun W=>ia W w.heap.size K) fh.out fun aa=>?_;generalize w2.drew=w3 at *;have B3:=zH B2.out;have fu:=zH fh.out;clear B2 fh;refine fI 0 1 aa ?_;refine dA 2 aa ?_;refine dA 3 aa ?_;refine dA 4 aa ?_;refine dA 5 aa ?_;refine dA 6 aa ?_;refine fI 7 8 aa ?_;refine dA 9 aa ?_;refine dA 10 aa ?_;refine dA 11 aa ?_;refine dA 12 aa ?_;refine dA 13 aa ?_;refine dA 14 aa ?_;refine dA 15 aa ?_;refine dA 16 aa ?_;refine dA 17 aa ?_;refine dA 18 aa ?_;refine dA 19 aa ?_;refine fI 20 21 aa ?_;clear aa;refine zD ?_;go_wp2;go_ret;exact⟨rfl,B3.out⟩
theorem aaT(h:DS w0 w K x y pd X)(hN:x.a.next<=1000)(e1:x.s=true)(d2:decide (x.g.tail<x.p+1)=false):Calls prog 36 #[.agg (gl K).toArray] w fun e w'=>e=.returned (.bool false)/\Below w.heap.size w w':=by
 have hD:=ia.new w K;have b:=ag w (.cells (gl K).toArray 37);have H:=zH (h.later b);have HD:=zH hD;have HN:=zH hN;have HP:=h.lU.p0;clear hD h hN;go_enter func36,ntmps36;go_wp2_with ((with_reducible refine aQ ?_);(refine aK (by rfl) 37 rfl rfl HD.out.load ?_);simp only[Act.put,zA,zB,zC])
 refine (qy H.out).mono ?_;rintro e w2 ⟨rfl,b2⟩;have fh:Hid (ia w2.drew w.heap.size K):=(HD.out.later b2).later (av 1);have H2:Hid (DS w0 w2.drew K x y pd X):=(H.out.later b2).later (av 1);have B2:Hid (Below w.heap.size w w2.drew):=ah (ah b b2) (av 1);clear b b2 H HD;go_wp2_with fail;refine zR (fun W=>ia W w.heap.size K) fh.out fun aa=>?_;generalize w2.drew=w3 at *;have B3:=zH B2.out;have fu:=zH fh.out;clear B2 fh;refine gu 0 1 2 3 aa ?_;refine de 4 aa (fun _ s=>s.lp) ?_;refine iA 5 fun Kc aJ=>?_;go_simp;refine (xZ H2.out).mono ?_;rintro e w' ⟨rfl,rfl⟩;refine aJ.out _ _ aa (fun aa=>?_);clear aJ Kc;refine gh 6 7 8 aa ?_;refine dA 9 aa ?_;refine dA 10 aa ?_;refine dA 11 aa ?_;refine dA 12 aa ?_;refine dA 13 aa ?_;refine dA 14 aa ?_;refine dA 15 aa ?_;refine dA 16 aa ?_;refine dA 17 aa ?_;refine dA 18 aa ?_;refine dA 19 aa ?_;refine fI 20 21 aa ?_;clear aa;refine zD ?_;go_wp2;go_ret;exact⟨rfl,B3.out⟩
theorem Xb(h:DS w0 w K x y pd X)(hN:x.a.next<=1000)(e1:x.s=true)(d2:decide (x.g.tail<x.p+1)=true)(d3:decide (K.c.hi<=x.a.used)=true):Calls prog 36 #[.agg (gl K).toArray] w fun e w'=>e=.returned (.bool true)/\Below w.heap.size w w':=by
 have hD:=ia.new w K;have b:=ag w (.cells (gl K).toArray 37);have H:=zH (h.later b);have HD:=zH hD;have HN:=zH hN;have HP:=h.lU.p0;clear hD h hN;go_enter func36,ntmps36;go_wp2_with ((with_reducible refine aQ ?_);(refine aK (by rfl) 37 rfl rfl HD.out.load ?_);simp only[Act.put,zA,zB,zC])
 refine (qy H.out).mono ?_;rintro e w2 ⟨rfl,b2⟩;have fh:Hid (ia w2.drew w.heap.size K):=(HD.out.later b2).later (av 1);have H2:Hid (DS w0 w2.drew K x y pd X):=(H.out.later b2).later (av 1);have B2:Hid (Below w.heap.size w w2.drew):=ah (ah b b2) (av 1);clear b b2 H HD;go_wp2_with fail;refine zR (fun W=>ia W w.heap.size K) fh.out fun aa=>?_;generalize w2.drew=w3 at *;have B3:=zH B2.out;have fu:=zH fh.out;clear B2 fh;refine gu 0 1 2 3 aa ?_;refine de 4 aa (fun _ s=>s.lp) ?_;refine iA 5 fun Kc aJ=>?_;go_simp;refine (xZ H2.out).mono ?_;rintro e w' ⟨rfl,rfl⟩;refine aJ.out _ _ aa (fun aa=>?_);clear aJ Kc;refine gu 6 7 8 9 aa ?_;refine de 10 aa (fun _ s=>s.ap) ?_;refine fI 12 13 aa ?_;refine de 14 aa (fun _ s=>s.hi) ?_;refine iA 11 fun Kc aJ=>?_;go_simp;refine (Bq H2.out).mono ?_;rintro e w' ⟨rfl,rfl⟩;refine aJ.out _ _ aa (fun aa=>?_);clear aJ Kc;refine fI 15 16 aa ?_;refine dA 17 aa ?_;refine dA 18 aa ?_;refine gh 19 20 21 aa ?_;clear aa;refine zD ?_;go_wp2;go_ret;exact⟨rfl,B3.out⟩
theorem aaU(h:DS w0 w K x y pd X)(hN:x.a.next<=1000)(e1:x.s=true)(d2:decide (x.g.tail<x.p+1)=true)(d3:decide (K.c.hi<=x.a.used)=false):Calls prog 36 #[.agg (gl K).toArray] w fun e w'=>e=.returned (.bool (x.a.Af && !x.a.fits))/\Below w.heap.size w w':=by
 have hD:=ia.new w K;have b:=ag w (.cells (gl K).toArray 37);have H:=zH (h.later b);have HD:=zH hD;have HN:=zH hN;have HP:=h.lU.p0;clear hD h hN;go_enter func36,ntmps36;go_wp2_with ((with_reducible refine aQ ?_);(refine aK (by rfl) 37 rfl rfl HD.out.load ?_);simp only[Act.put,zA,zB,zC])
 refine (qy H.out).mono ?_;rintro e w2 ⟨rfl,b2⟩;have fh:Hid (ia w2.drew w.heap.size K):=(HD.out.later b2).later (av 1);have H2:Hid (DS w0 w2.drew K x y pd X):=(H.out.later b2).later (av 1);have B2:Hid (Below w.heap.size w w2.drew):=ah (ah b b2) (av 1);clear b b2 H HD;go_wp2_with fail;refine zR (fun W=>ia W w.heap.size K) fh.out fun aa=>?_;generalize w2.drew=w3 at *;have B3:=zH B2.out;have fu:=zH fh.out;clear B2 fh;refine gu 0 1 2 3 aa ?_;refine de 4 aa (fun _ s=>s.lp) ?_;refine iA 5 fun Kc aJ=>?_;go_simp;refine (xZ H2.out).mono ?_;rintro e w' ⟨rfl,rfl⟩;refine aJ.out _ _ aa (fun aa=>?_);clear aJ Kc;refine gu 6 7 8 9 aa ?_;refine de 10 aa (fun _ s=>s.ap) ?_;refine fI 12 13 aa ?_;refine de 14 aa (fun _ s=>s.hi) ?_;refine iA 11 fun Kc aJ=>?_;go_simp;refine (Bq H2.out).mono ?_;rintro e w' ⟨rfl,rfl⟩;refine aJ.out _ _ aa (fun aa=>?_);clear aJ Kc;refine fI 15 16 aa ?_;refine GU 17 aa (fun _ s=>s.load) ?_;refine iA 18 fun Kc aJ=>?_;go_simp;refine (TR H2.out HN.out).mono ?_;rintro e w5 ⟨rfl,b5⟩;have B5:Hid (Below w.heap.size w w5):=ah B3.out b5;have H5:=zH (fu.out.later b5);clear b5;refine aJ.out _ _ H5.out (fun aa=>?_);clear aJ Kc;refine gh 19 20 21 aa ?_;clear aa;refine zD ?_;go_wp2;go_ret;exact⟨rfl,B5.out⟩
theorem aeP(h:DS w0 w K x y pd X)(hN:x.a.next<=1000):Calls prog 36 #[.agg (gl K).toArray] w fun e w'=>e=.returned (.bool (rM x K.c.hi))/\Below w.heap.size w w':=by
 unfold rM;cases e1:x.s with
 | false=>exact aeO h hN e1
 | true =>
  by_cases e2:x.g.tail<x.p+1
  ·by_cases e3:K.c.hi<=x.a.used
   ·rw[aP e2,aP e3];exact Xb h hN e1 (aP e2) (aP e3)
   ·rw[aP e2,aF e3];exact aaU h hN e1 (aP e2) (aF e3)
  ·rw[aF e2];exact aaT h hN e1 (aF e2)
end
end Go.Proofs.Zq.Q
namespace Go.Proofs.Zq.C
open Go.Proofs.Tryz
open Go.RowKit
open Go.Shelf
attribute [local go_sem] Oper.semAt_some
structure lS (w:World) (B:Nat) (st t:Int) (v:Value) (L:List En) (k:Nat):Prop where
 st:w.heap[B]?=some (.cells #[.int .i64 st,.int .u64 t,v,.int .i64 k] 87 (0,0))
 row:eU 54 w 0 v L
 wf:dW L
 nR:L.length<=64
 le:k<=L.length
section
variable {w w':World} {B k:Nat} {st t:Int} {v:Value} {L:List En}
theorem lS.lt(h:lS w B st t v L k):B<w.heap.size:=(au.1 h.st).1
theorem lS.later(h:lS w B st t v L k)(hb:Below w.heap.size w w'):lS w' B st t v L k:=⟨(hb.block B h.lt).trans h.st,eU.later h.row hb,h.wf,h.nR,h.le⟩
theorem lS.c0(h:lS w B st t v L k):w.cell? ⟨B,0,none⟩=some (.int .i64 st):=by rw[aq _ _ _ _ _ _ h.st];rfl
theorem lS.c1(h:lS w B st t v L k):w.cell? ⟨B,1,none⟩=some (.int .u64 t):=by rw[aq _ _ _ _ _ _ h.st];rfl
theorem lS.c2(h:lS w B st t v L k):w.cell? ⟨B,2,none⟩=some v:=by rw[aq _ _ _ _ _ _ h.st];rfl
theorem lS.c3(h:lS w B st t v L k):w.cell? ⟨B,3,none⟩=some (.int .i64 k):=by rw[aq _ _ _ _ _ _ h.st];rfl
theorem lS.GG(h:lS w B st t v L k):∃p c,v=.slice p L.length c/\lC w p L.length L/\L.length<=c:=by
 obtain ⟨p,c,e,hm,hc,_⟩:=eU.in h.row h.wf;exact⟨p,c,e,hm,hc⟩
end
abbrev yU (B:Nat):Value:=.func (.func 125) #[] #[.pointer (some ⟨B,0,none⟩)]
theorem Oz(p:Option Addr)(w:World):Calls prog 64 #[.pointer p] w fun e w'=>e=.returned (yU w.heap.size)/\w'=w.alloc (.cells #[.pointer p] 30):=by
 go_enter func64,ntmps64;go_wp2;go_ret;exact⟨rfl,rfl⟩
theorem FK(F:Fence)(n:Nat)(h7:F.fn 125)(vJ:F.round=none)(l B:Nat)(J:List WE->World->Prop)(W:World)(hB:W.cell? ⟨B,0,none⟩=some (.pointer none))(h0:J [] W) :
  CallsIn F n prog 125 #[.func (.yield l) #[] #[],.pointer (some ⟨B,0,none⟩)] W fun e W'=>(∃v,e=.returned v)/\J [] W':=by
 refine jx func125 rfl h7 ?_ vJ;simp only[ntmps125,aM,bz,dH,Nat.reduceAdd,Nat.reduceSub,dw,dn,dS,dF,bF,ct];gi_wp2;refine cC (kF rfl _ _ _) rfl ?_;exact⟨⟨_,rfl⟩,h0⟩
theorem IL(n:Nat)(_hn:1<=n)(l B Q fJ k:Nat)(st t:Int)(ve:Value)(L:List En)(iN:World)(hz:iN.heap.size=fJ)(hC:lS iN Q st t ve L k)(J Jx:List WE->World->Prop)(W:World)(hJ:OwnFrom W.heap.size J)
  (hY:∀pre x V,J pre V->pre.length<(L.drop k).length->YieldAt Fence.wide (n-1) prog l #[.agg (aB x.1).toArray] V fun e V'=>KeepsFrom W.heap.size V V'/\((e=.returned (.bool true)/\J (pre++[x]) V'/\Below fJ V V')\/(e=.returned (.bool false)/\Jx (pre++[x]) V')))
  (hb:Below fJ iN W) (hB:W.cell? ⟨B,0,none⟩=some (.pointer (some ⟨Q,0,none⟩))) (h0:J [] W) :
  CallsIn Fence.wide n prog 125 #[.func (.yield l) #[] #[],.pointer (some ⟨B,0,none⟩)] W fun e W'=>(∃v,e=.returned v)/\((∃xs,xw xs=L.drop k/\J xs W')\/(∃pre,xw pre <+: L.drop k/\Jx pre W')):=by
 subst hz;obtain ⟨p,c,rfl,hE,hc⟩:=(hC.later hb).GG;have c2:=(hC.later hb).c2;have c3:=(hC.later hb).c3;have hle:=hC.le;have h64:=hC.nR;have HE:Hid (∀V,Below iN.heap.size iN V->lC V p L.length L):=fun V hV=>by
  obtain ⟨p',c',e',hE',-⟩:=(hC.later hV).GG;cases e';exact hE'
 have HB0:=zH hb;have HW:=zH hC.wf;have HJ:=zH hJ;have HY:=zH hY;have H0:=zH h0;have Dh:(L.drop k).length=L.length-k:=cN;clear hC hb hJ hY h0;by_cases vK:k=L.length
 ·subst vK;have HD:Hid (L.drop L.length=[]):=List.drop_length;clear hE Dh HY HE;refine jx func125 rfl trivial ?_ rfl;simp only[ntmps125,aM,bz,dH,Nat.reduceAdd,Nat.reduceSub,dw,dn,dS,dF,bF,ct];by_cases Tj:c=L.length
  ·gi_wp2_with fail
   gi_big_quiet_th (fail)
   gi_wp2
   gi_loopw [17] (fun i wr=>i=.int .i64 0/\Hid (J [] wr)) (fun _ _=>0)
   case atStart=>exact⟨rfl,kL HJ.out H0.out (av nq)⟩
   case round =>
    obtain ⟨rfl,SG⟩:=hrel;gi_wp2
    go_end0
    exact⟨⟨_,rfl⟩,.inl ⟨[],HD.out.symm,SG.out⟩⟩
  ·gi_wp2_with fail
   gi_big_quiet_th (fail)
   gi_wp2
   gi_loopw [17] (fun i wr=>i=.int .i64 0/\Hid (J [] wr)) (fun _ _=>0)
   case atStart=>exact⟨rfl,kL HJ.out H0.out (av nq)⟩
   case round =>
    obtain ⟨rfl,SG⟩:=hrel;gi_wp2
    go_end0
    exact⟨⟨_,rfl⟩,.inl ⟨[],HD.out.symm,SG.out⟩⟩
 ·obtain ⟨b1,o1,rfl,-⟩:=hE.cells (by omega);have Tj:¬c=k:=by omega
  clear hE;refine jx func125 rfl trivial ?_ rfl;simp only[ntmps125,aM,bz,dH,Nat.reduceAdd,Nat.reduceSub,dw,dn,dS,dF,bF,ct];gi_wp2_with fail
  gi_big_quiet_th (fail)
  gi_wp2;obtain ⟨m,hm⟩:=zE (L.length-k);have hkm:k+m=L.length:=by omega
  rw[hm] at Dh ⊢;clear hm
  gi_loopw [17] (fun i wr=>∃j:Nat,j<=m/\i=.int .i64 j/\Hid (∃xs:List WE,xw xs=(L.drop k).take j/\J xs wr)/\Hid (Below iN.heap.size iN wr)) (fun i _=>m-(intOf i).toNat)
  case atStart=>exact⟨0,aI _,rfl,(⟨[],rfl,kL HJ.out H0.out (av nq)⟩:∃xs:List WE,xw xs=(L.drop k).take 0/\J xs (W.drewN nq)),ah HB0.out (av nq)⟩
  case round =>
   obtain ⟨j,hj,rfl,SG,HB⟩:=hrel;by_cases eP:j<m
   ·obtain ⟨xs,Yu,Ak⟩:=SG.out;obtain ⟨x,hx⟩:∃x,L[k+j]?=some x:=⟨_,ay (by omega)⟩
    have hxd:(L.drop k)[j]?=some x:=by rw[iH];exact hx
    have yo:x.Wf:=HW.out x (bt hx);have hEr:=HE.out wr HB.out;have zO:Hid ((Instr.loadAt 54 (.pointer (some ⟨b1,o1+k*34+j*34,none⟩))).run prog wr=.ok (.agg (aB x).toArray) wr):=by
     have:=lC.load jG hEr hx;rw[show o1+(k+j)*34=o1+k*34+j*34 by omega] at this;exact this
    obtain ⟨w3,jM⟩:∃w3,w3=wr.alloc (.cells (aB lN).toArray 54):=⟨_,rfl⟩
    obtain ⟨w4,nU⟩:∃w4,w4=wr.alloc (.cells (aB x).toArray 54):=⟨_,rfl⟩
    have jw:Hid ((Instr.alloc 54 true (.tuple #[])).run prog wr=.ok (.pointer (some ⟨wr.heap.size,0,none⟩)) w3):=by rw[jM];exact nj jG wr
    have jf:Hid ((Instr.storeAt 54 (.pointer (some ⟨wr.heap.size,0,none⟩)) (.agg (aB x).toArray)).run prog w3=.ok () w4):=by rw[jM,nU];exact gX jG wr x yo.len
    have b4:Below wr.heap.size wr w4:=by rw[nU];exact ag wr _
    have YR:Hid ((Instr.loadAt 54 (.pointer (some ⟨wr.heap.size,0,none⟩))).run prog w4=.ok (.agg (aB x).toArray) w4):=by rw[nU];exact bE.yV jG (bE.new _ _ _) yo.len
    have J4:J xs w4:=kL HJ.out Ak b4;have Gw:Hid (Below iN.heap.size iN w4):=ah HB.out b4;have hlen:xs.length=j:=by
     have:=congrArg List.length Yu;rw[dI,cr] at this;omega
    obtain ⟨fn,tmps,assign,body,hy,hR⟩:=HY.out xs ⟨x,yo⟩ w4 J4 (by omega);have HT:Hid (xw (xs++[⟨x,yo⟩])=(L.drop k).take (j+1)):=by
     obtain ⟨kN,ex⟩:=aA.1 hxd;show _=_;rw[wX,Yu,bw kN,ex]
    have i1:(j:Int)<(m:Int):=by omega
    dsimp only at hy;clear jM nU b4 hx hxd hEr SG Ak Yu J4 hlen;gi_wp2_with ((with_reducible refine oP ?_);(first | ((first | (refine rH (by rfl) 54 rfl rfl zO.out ?_) | (refine rH (by rfl) 54 rfl rfl YR.out ?_) | (refine oQ (by rfl) 54 rfl jw.out ?_));simp only[Act.put,zA,zB,zC]) | ((refine nE (by rfl) 54 rfl rfl rfl jf.out ?_);simp only[Act.put])))
    refine hR.mono ?_;rintro e V3 ⟨-,(⟨rfl,Tl,tU⟩ | ⟨rfl,zy⟩)⟩
    ·have HJ3:Hid (∃ys:List WE,xw ys=(L.drop k).take (j+1)/\J ys V3):=⟨_,HT.out,Tl⟩
     have vN:=zH (Gw.out.trans tU);clear Tl tU;gi_wp2;go_roundw
     case rel=>exact⟨j+1,by omega,by simp,HJ3,vN⟩
     case measure=>simp[intOf];omega
    ·have HJx:Hid (∃pre,xw pre <+: L.drop k/\Jx pre V3):=⟨_,by rw[HT.out];exact List.take_prefix _ _,zy⟩
     clear zy;gi_wp2;refine cC (kF rfl _ _ _) rfl ?_;exact⟨⟨_,rfl⟩,.inr HJx.out⟩
   ·have HF:Hid (∃xs:List WE,xw xs=L.drop k/\J xs wr):=by
     obtain ⟨xs,h1,h2⟩:=SG.out;exact⟨xs,by rw[h1,aL (by omega)],h2⟩
    clear SG;gi_wp2
    go_end0
    exact⟨⟨_,rfl⟩,.inl HF.out⟩
def oq (w:World)(p:Option Addr)(M:List En):Prop:=(p=none/\M=[])\/∃Q st t v L k,p=some ⟨Q,0,none⟩/\lS w Q st t v L k/\M=L.drop k
theorem Ez(n:Nat)(hn:1<=n)(B fJ:Nat)(p:Option Addr)(M:List En)(w iN:World)(sY:fJ<=w.heap.size)(BV:Below fJ iN w)(BU:iN.heap.size=fJ)
  (hB:Boxed w B 30 (.pointer p)) (hS:oq iN p M) :
  E.Ke Fence.wide n prog 125 #[.pointer (some ⟨B,0,none⟩)] (fun x:WE=>#[.agg (aB x.1).toArray]) (Below fJ) (fun ys=>xw ys=M) (fun pre=>xw pre <+: M) M.length w:=fun l J Jx W hW hJ _ hY h0=>by
 have MH:=(hW.cell (p:=⟨B,0,none⟩) hB.lt).trans hB.cell;have yD:Below fJ iN W:=BV.trans (hW.mono sY);rcases hS with ⟨rfl,rfl⟩ | ⟨Q,st,t,v,L,k,rfl,hC,rfl⟩
 ·exact (FK Fence.wide n trivial rfl l B J W MH h0).mono fun e W' ⟨he,hj⟩=>⟨he,.inl ⟨_,rfl,hj⟩⟩
 ·exact IL n hn l B Q fJ k st t v L iN BU hC J Jx W hJ hY yD MH h0
end Go.Proofs.Zq.C
namespace Go.Proofs.Zq.C
open Go.Proofs.Tryz
open Go.RowKit
open Go.Shelf
attribute [local go_sem] Oper.semAt_some
theorem yS{fn:Func}{p u:Tmp}{ty tb:TypeId}(h:fn.results=#[.cell p ty,.cell u tb])(tmps:Array Value)(w:World)(g b:Nat)(t:TypeId)(cs:List Value)(v:Value)(d:TypeDesc)
  (hp:tmps.getD p undef=.pointer (some ⟨g,0,none⟩)) (hg:bE t w g cs) (hu:prog.underlying ty=some d) (hd:d.isRow=true) (hi:(prog.info? ty).map (·.size)=some cs.length)
  (hq:tmps.getD u undef=.pointer (some ⟨b,0,none⟩)) (hl:(loadVar tb ⟨b,0,none⟩).run prog w=.ok v w) :
  (results fn tmps).run prog w=.ok (.tuple #[.agg cs.toArray,v]) w:=by
 have:=run_loadVar_mid w g 0 ty _ d (bE.range hg) hu hd hi;rw[Array.getD_eq_getD_getElem?] at hp hq;simp only[results,h];simp[Sem.run_bind,Result.andThen,hp,hq,asAddr,this,hl]
theorem Ev{w:World}{b:Nat}{v:Bool}(h:Boxed w b 4 (.bool v)):(loadVar 4 ⟨b,0,none⟩).run prog w=.ok (.bool v) w:=by
 have:=h.cell;go_simp
theorem Bz{w:World}{p:Option Addr}{M:List En}(hS:oq w p M)(hw:dW M):Calls prog 99 #[.pointer p] w fun e w'=>e=.returned (.tuple #[.agg (aB (M.headD lN)).toArray,.bool (!M.isEmpty)])/\Below w.heap.size w w':=by
 obtain ⟨r,hr⟩:=zE w.heap.size;obtain ⟨w1,dZ⟩:∃w1,w1=w.alloc (.cells (aB lN).toArray 54):=⟨_,rfl⟩
 have jw:Hid ((Instr.alloc 54 true (.tuple #[])).run prog w=.ok (.pointer (some ⟨r,0,none⟩)) w1):=by rw[dZ,<-hr];exact nj jG w
 have B1:Below w.heap.size w w1:=by rw[dZ];exact ag w _
 have s1:w1.heap.size=r+1:=by rw[dZ,<-hr];simp
 have v1:bE 54 w1 r (aB lN):=by rw[dZ,<-hr];exact bE.new _ _ _
 obtain ⟨w2,gz⟩:=zE (w1.alloc (.cells #[.bool false] 4));have B2:Below w1.heap.size w1 w2:=by rw[<-gz];exact ag w1 _
 have s2:w2.heap.size=r+2:=by rw[<-gz];simp[s1]
 have v2:Boxed w2 (r+1) 4 (.bool false):=by rw[<-s1,<-gz];exact Boxed.new w1 _ _
 obtain ⟨w3,jM⟩:=zE (w2.alloc (.cells #[.pointer p] 30));have B3:Below w2.heap.size w2 w3:=by rw[<-jM];exact ag w2 _
 have s3:w3.heap.size=r+3:=by rw[<-jM];simp[s2]
 have Gt:=zH s3;have HBP:Hid (Boxed w3 (r+2) 30 (.pointer p)):=by rw[<-s2,<-jM];exact Boxed.new w2 _ _
 have HLE:Hid (Calls prog 64 #[.pointer p] w2 fun e w'=>e=.returned (yU (r+2))/\w'=w3):=by
  have:=Oz p w2;rw[s2,jM] at this;exact this
 have HV1:=zH (bE.later (bE.later v1 B2) B3);have HV2:Hid (Boxed w3 (r+1) 4 (.bool false)):=(B3.block _ v2.lt).trans v2;have HB:Hid (Below w.heap.size w w3):=ah B1 (ah B2 B3);have HS:=zH hS;have HW:=zH hw;have HR:=zH hr;clear dZ B1 v1 B2 v2 jM B3 hS hw s2 s3 hr;refine (iR (n:=9)).1 ?_;refine callsIn_of_wp_marks func99 rfl trivial ?_ rfl;simp only[ntmps99,aM,bz,dH,Nat.reduceAdd,Nat.reduceSub,dw,dn,dS,dF,bF,ct];gi_wp2_with ((with_reducible refine oP ?_);((refine oQ (by rfl) 54 rfl jw.out ?_);simp only[Act.put,zA,zB,zC]))
 refine⟨trivial,(iR.2 HLE.out).mono ?_⟩;rintro e w4 ⟨rfl,rfl⟩;clear jw HLE gz s1;gi_wp2;refine E.wF (F:=Fence.wide) (n:=9) (P:=prog) rfl (by decide) (gf:=125) (lb:=#[.pointer (some ⟨r+2,0,none⟩)]) rfl trivial (enters_of func125 (by kernel_rfl) rfl)
  (Ez (9-1) (by decide) (r+2) w.heap.size p M w4 w HB.out.size HB.out rfl HBP.out HS.out) belowK_t (fun W l o o' hl h hc=>(aV _ W).grown (grownBy_putObj' W l o') (by have:=Gt.out;have:=HR.out;have:=(au.1 h).1;omega) (fun k e=>by cases e;have:=Gt.out;have:=HR.out;omega)) (aV _ _) (fun _=>rfl)
  (fun pre W=>pre=[]/\bE 54 W r (aB lN)/\Boxed W (r+1) 4 (.bool false)/\Below w.heap.size w W) (fun c pre W=>c=.ret/\∃x:WE,pre=[x]/\bE 54 W r (aB x.1)/\Boxed W (r+1) 4 (.bool true)/\Below w.heap.size w W) ?hI ?hIx ⟨rfl,HV1.out,HV2.out,HB.out⟩
  (fun x a' W=>∃Bx,bE 54 W Bx (aB x.1)/\a'={ tmps:=#[.pointer p,undef,.pointer (some ⟨r,0,none⟩),.pointer (some ⟨r+1,0,none⟩),.pointer (some ⟨Bx,0,none⟩),.pointer p,yU (r+2),.agg (aB x.1).toArray,undef,undef],defers:=[] })
  ?hAx ?assign ?body ?done ?stop
 case hI =>
  rintro pre V V' row ⟨h1,h2,h3,h4⟩ hg hr;exact⟨h1,(grownBy_keeps_cells hg (fun r e=>(hr r e).2) h2 rfl).trans h2,(grownBy_keeps_cells hg (fun r e=>(hr r e).2) h3 rfl).trans h3,(ownFrom_below (az _) HB.out.size) () V V' row h4 hg hr⟩
 case hIx =>
  rintro c pre V V' row ⟨h0,x,h1,h2,h3,h4⟩ hg hr;exact⟨h0,x,h1,(grownBy_keeps_cells hg (fun r e=>(hr r e).2) h2 rfl).trans h2,(grownBy_keeps_cells hg (fun r e=>(hr r e).2) h3 rfl).trans h3,(ownFrom_below (az _) HB.out.size) () V V' row h4 hg hr⟩
 case hAx =>
  rintro x a' _ V V' row ⟨Bx,h1,h2⟩ hg hr;exact⟨Bx,(grownBy_keeps_cells hg (fun r e=>(hr r e).2) h1 rfl).trans h1,h2⟩
 case assign =>
  rintro l1 pre x V K ⟨h1,h2,h3,h6⟩ hK;have A4:=zH (nj jG V);have T4:=zH (gX jG V x.1 x.2.len);have hb:=ag V (.cells (aB x.1).toArray 54);have Y:=hK _ _ (kj hb w4.heap.size) (hb.mono h6.size) ⟨h1,bE.later h2 hb,h3.alloc _,h6.trans (hb.mono h6.size)⟩ ⟨V.heap.size,bE.new 54 V (aB x.1),rfl⟩;have HY:=zH Y;clear hK h1 h2 h3 h6 hb Y;rw[adt];simp only[zA,zB,zC];gi_wp2_with ((with_reducible refine oP ?_);(first | ((refine oQ (by rfl) 54 rfl A4.out ?_);simp only[Act.put,zA,zB,zC]) | ((refine nE (by rfl) 54 rfl rfl rfl T4.out ?_);simp only[Act.put])))
  exact HY.out
 case body =>
  rintro l1 pre x a' V ⟨rfl,h2,h3,h6⟩ ⟨Bx,hx,rfl⟩ eP;have zO:=zH (bE.yV jG hx x.2.len);have jf:Hid ((Instr.storeAt 54 (.pointer (some ⟨r,0,none⟩)) (.agg (aB x.1).toArray)).run prog V=.ok () (V.setRow r (aB x.1).toArray)):=ab2 V _ x.1 x.2.len h2;have v3:bE 54 (V.setRow r (aB x.1).toArray) r (aB x.1):=bE.stored h2 _;have b3:Below w.heap.size w (V.setRow r (aB x.1).toArray):=below_setRow h6 (Nat.le_of_eq HR.out) _;have u3:Boxed (V.setRow r (aB x.1).toArray) (r+1) 4 (.bool false):=(iu V r (r+1) _ (by omega)).trans h3;have k3:KeepsFrom w4.heap.size V (V.setRow r (aB x.1).toArray):=⟨by rw[size_setRow];exact az _,fun k o hk ho _=>(iu V r k _ (by have:=Gt.out;omega)).trans ho⟩
  generalize V.setRow r (aB x.1).toArray=V3 at *;have c4:=u3.cell;have f4:=u3.frozen;have yO:Hid (KeepsFrom w4.heap.size V (V3.setCell ⟨r+1,0,none⟩ (.bool true))/\∃y:WE,[]++[x]=[y]/\bE 54 (V3.setCell ⟨r+1,0,none⟩ (.bool true)) r (aB y.1)/\Boxed (V3.setCell ⟨r+1,0,none⟩ (.bool true)) (r+1) 4 (.bool true)/\Below w.heap.size w (V3.setCell ⟨r+1,0,none⟩ (.bool true))):=by
   have e:=bM V3 (r+1) 0 _ 4 (0,0) (.bool true) u3;refine⟨k3.trans ((KeepsOthers.setCell _ _ _).from _),x,rfl,?_,u3.set _,?_⟩
   ·rw[e];exact (iu V3 (r+1) r _ (by omega)).trans v3
   ·rw[e];exact below_setRow b3 (by have:=HR.out;omega) _
  clear h2 h3 h6 hx v3 b3 u3 k3;gi_wp2_with ((with_reducible refine oP ?_);(first | ((refine rH (by rfl) 54 rfl rfl zO.out ?_);simp only[Act.put,zA,zB,zC]) | ((refine nE (by rfl) 54 rfl rfl rfl jf.out ?_);simp only[Act.put])))
  exact⟨yO.out.1,rfl,yO.out.2⟩
 case done =>
  rintro D ys W hD YF ⟨rfl,h2,h3,h6⟩ hK;have eM:M=[]:=by rw[<-show xw []=M from YF];rfl
  subst eM;have HBV:=zH (abi jG W);have jf:Hid ((Instr.storeAt 54 (.pointer (some ⟨r,0,none⟩)) (.agg (aB lN).toArray)).run prog W=.ok () (W.setRow r (aB lN).toArray)):=ab2 W _ lN (bG 32) h2;have v3:bE 54 (W.setRow r (aB lN).toArray) r (aB lN):=bE.stored h2 _;have b3:Below w.heap.size w (W.setRow r (aB lN).toArray):=below_setRow h6 (Nat.le_of_eq HR.out) _;have u3:Boxed (W.setRow r (aB lN).toArray) (r+1) 4 (.bool false):=(iu W r (r+1) _ (by omega)).trans h3;have k3:(W.setRow r (aB lN).toArray).heap[D]?=some (.deferred (some [])):=(iu W r D _ (by have:=Gt.out;omega)).trans hK;generalize W.setRow r (aB lN).toArray=V3 at *;have c4:=u3.cell;have f4:=u3.frozen;have e:=bM V3 (r+1) 0 _ 4 (0,0) (.bool false) u3;have HV4:Hid (bE 54 (V3.setCell ⟨r+1,0,none⟩ (.bool false)) r (aB lN)):=by rw[e];exact (iu V3 (r+1) r _ (by omega)).trans v3
  have HU4:Hid (Boxed (V3.setCell ⟨r+1,0,none⟩ (.bool false)) (r+1) 4 (.bool false)):=u3.set _;have Gw:Hid (Below w.heap.size w (V3.setCell ⟨r+1,0,none⟩ (.bool false))):=by rw[e];exact below_setRow b3 (by have:=HR.out;omega) _
  have HK4:Hid ((V3.setCell ⟨r+1,0,none⟩ (.bool false)).heap[D]?=some (.deferred (some []))):=by rw[e];exact (iu V3 (r+1) D _ (by have:=Gt.out;omega)).trans k3
  clear h2 h3 h6 v3 b3 u3 k3 hK e YF;gi_wp2_with ((with_reducible refine oP ?_);(first | ((refine agT (vs:=[]) (by rfl) 54 rfl (by rfl) HBV.out ?_);simp only[Act.put,zA,zB,zC]) | ((refine nE (by rfl) 54 rfl rfl rfl jf.out ?_);simp only[Act.put])))
  refine⟨by simp,.inl ⟨_,_,rfl,run_takeDeferred HK4.out,?_⟩⟩;exact⟨_,yS results99 _ _ r (r+1) 54 (aB lN) (.bool false) _ (by rfl) ((World.putObj_heap_other (by have:=Gt.out;omega)).trans HV4.out) jG.un (FL _) (by rw[jG.size,cI (bG 32)]) (by rfl) (Ev ((World.putObj_heap_other (by have:=Gt.out;omega)).trans HU4.out)),rfl,Gw.out.trans (belowK_b (w:=w) (az _) _ D _ _ (by have:=Gt.out;have:=HR.out;omega) HK4.out rfl rfl)⟩
 case stop =>
  rintro D c pre W hD yt ⟨rfl,x,rfl,h2,h3,h6⟩ hK;gi_wp2;refine⟨by simp,.inl ⟨_,_,rfl,run_takeDeferred hK,?_⟩⟩;have eM:M.headD lN=x.1/\M.isEmpty=false:=by
   obtain ⟨t,e⟩:=yt;rw[<-e];exact⟨rfl,rfl⟩
  exact⟨_,yS results99 _ _ r (r+1) 54 (aB x.1) (.bool true) _ (by rfl) ((World.putObj_heap_other (by have:=Gt.out;omega)).trans h2) jG.un (FL _) (by rw[jG.size,cI x.2.len]) (by rfl) (Ev ((World.putObj_heap_other (by have:=Gt.out;omega)).trans h3)),by rw[eM.1,eM.2];rfl,h6.trans (belowK_b (w:=w) (az _) _ D _ _ (by have:=Gt.out;have:=HR.out;omega) hK rfl rfl)⟩
end Go.Proofs.Zq.C
namespace Go.Proofs.Zq.Q
open Go.Proofs.Tryz
open Go.RowKit
def Th.pt (B:Nat)(st t:Int)(v:Value)(L:List C.En)(k:Nat):Th:=⟨fun w G=>C.lS w B st t v L k/\∀g,v.ownBlock=some g->G g,fun b=>b=B,fun _ _ b h hb=>by rw[hb];exact h.1.lt,
 fun _ _ _ _ _ h hk hf hS xu=>⟨⟨(hk.block B h.1.lt (hf B rfl)).trans h.1.st,E.eB h.1.row hk fun g hg=>hS g (h.2 g hg),h.1.wf,h.1.nR,h.1.le⟩,fun g hg=>xu g (h.2 g hg)⟩⟩
section
variable {w0 w w':World} {K:Ks} {x y:Sx} {pd:List Cm} {X:Nat->Th} {i B k:Nat} {st t:Int} {v:Value} {L:List C.En}
theorem DS.pt(h:DS w0 w K x y pd X)(h8:8<=i)(eC:i<40)(e:X i=.pt B st t v L k):C.lS w B st t v L k:=by
 obtain ⟨T,G,h,hX⟩:=h;have:=h.jN.at' i eC;rw[hX i h8 eC,e] at this;exact this.1
theorem DS.NH(h:DS w0 w K x y pd X){i:Nat}(h8:8<=i)(eC:i<40){t:Th}{S N:Nat->Prop}(ht:∀G,(∀j,8<=j->j<40->(X j).at w G)->t.at w' (fun g=>G g\/N g))(hk:E.Kept S w w')(hS:∀b,S b->(X i).iF b)(hf:∀b,t.iF b->(X i).iF b\/w.heap.size<=b)(hN:∀g,N g->w.heap.size<=g/\g<w'.heap.size/\¬t.iF g):DS w0 w' K x y pd (put X i t):=by
 obtain ⟨T,G,h,hX⟩:=h;have ei:=hX i h8 eC;have lo:=h.jN.lo i eC;refine⟨put T i t,_,⟨h.jN.turn (S:=S) eC (ht G fun j a b=>by rw[<-hX j a b];exact h.jN.at' j b) hk (fun b hb=>by rw[ei];exact hS b hb) (fun b hb=>by rw[ei];exact hf b hb) h.below.size (fun _ a=>.inl a) (fun g a=>a.elim .inl fun a=>.inr (hN g a)),hk.uR h.below (fun b h1 h2=>by have:=lo b (by rw[ei];exact hS b h2);omega) (az _),?_,?_,?_,?_,?_,?_,?_,h.lU,h.mP,h.cx,h.cy⟩,fun j a b=>?_⟩
 ·rw[af _ _ (by omega)];exact h.t0
 ·rw[af _ _ (by omega)];exact h.t1
 ·rw[af _ _ (by omega)];exact h.t2
 ·rw[af _ _ (by omega)];exact h.t3
 ·rw[af _ _ (by omega)];exact h.t4
 ·rw[af _ _ (by omega)];exact h.t5
 ·rw[af _ _ (by omega),af _ _ (by omega)];exact h.t6
 ·by_cases e:j=i
  ·subst e;rw[ax,ax]
  ·rw[af _ _ e,af _ _ e];exact hX j a b
theorem lV(w:World)(B:Nat)(cs:Array Value):E.Kept (fun b=>b=B) w (w.setRow B cs):=E.Kept.setRow w B cs
theorem DS.Eh(h:DS w0 w K x y pd X)(h8:8<=i)(eC:i<40)(e:X i=.pt B st t v L k){TU t':Int}{k':Nat}(hk:k'<=L.length){cs:Array Value}(hc:cs=#[.int .i64 TU,.int .u64 t',v,.int .i64 k']):DS w0 (w.setRow B cs) K x y pd (put X i (.pt B TU t' v L k')):=by
 refine h.yQ h8 eC (fun G at'=>?_) (lV w B cs) (fun b hb=>by rw[e];exact hb) (fun b hb=>by rw[e];exact .inl hb);have a:=at' i h8 eC;rw[e] at a;have kk:=lV w B cs;refine⟨⟨by rw[hc];exact cK w B _ _ 87 (0,0) a.1.st,?_,a.1.wf,a.1.nR,hk⟩,a.2⟩;refine E.eB a.1.row kk fun g hg eg=>?_;obtain ⟨cur,hc⟩:=E.rz a.1.row hg;rw[show g=B from eg,a.1.st] at hc;cases hc
theorem adC(h:DS w0 w K x y pd X)(h8:8<=i)(eC:i<40)(e:X i=.pt B st t v L k):Calls prog 106 #[E.qp K.kp,v] w fun e w'=>e=.returned (.int .i64 (C.jH x.L L:Int))/\DS w0 w' K (x.drp L) y pd X:=by
 obtain ⟨vc,G,hl,at',im,-,back⟩:=h.Bp;have a:=at' i h8 eC;rw[e] at a;obtain ⟨p,c,rfl,hE,hc⟩:=a.1.GG;refine (C.RT hl h.lU.k hE (by have:=a.1.nR;omega) (fun a' ha _ hb=>im _ hb (a.2 _ (by rw[ha];rfl)))).mono ?_;rintro e' w' ⟨rfl,xB,hw⟩;exact⟨rfl,back w' _ _ _ _ hw (h.lU.drp L)⟩
theorem DS.pst(h:DS w0 w K x y pd X)(h8:8<=i)(eC:i<40)(e:X i=.pt B st t v L k):C.oq w (some ⟨B,0,none⟩) (L.drop k):=.inr ⟨B,st,t,v,L,k,rfl,h.pt h8 eC e,rfl⟩
theorem cX{w:World}{B j:Nat}{cs:Array Value}{ty:TypeId}(h:w.heap[B]?=some (.cells cs ty (0,0))):w.frozen? ⟨B,j,none⟩=false:=by simp[World.frozen?,h]
theorem Vm(w:World):Calls prog 11 #[] w fun e w'=>e=.returned (E.qp w.heap.size)/\w'=w.alloc (.cells #[.int .i64 1,.int .u64 0,.slice none 0 0,.int .i64 0] 87):=by
 go_enter func11,ntmps11;go_wp2;go_ret;exact⟨rfl,rfl⟩
theorem vX(h:C.lS w B st t v L k):Calls prog 19 #[E.qp B] w fun e w'=>e=.returned (.int .i64 st)/\w'=w:=by
 have c0:=h.c0;go_enter func19,ntmps19;go_wp2;go_ret;exact⟨rfl,rfl⟩
theorem afd(h:C.lS w B st t v L k):Calls prog 28 #[E.qp B] w fun e w'=>e=.returned (.tuple #[.int .u64 t,.bool (st != 1)])/\∃m,w'=w.drewN m:=by
 have c0:=h.c0;have c1:=h.c1;clear h;go_enter func28,ntmps28;go_wp2_with fail;go_quiet (fail);go_wp2;go_ret2;exact⟨rfl,_,rfl⟩
theorem za(h:DS w0 w K x y pd X)(h8:8<=i)(eC:i<40)(e:X i=.pt B st t v L k):Calls prog 101 #[E.qp B] w fun e w'=>(∃u,e=.returned u)/\DS w0 w' K x y pd (put X i (.pt B (if k<L.length then 2 else 3) t v L k)):=by
 have hp:=h.pt h8 eC e;have c0:=hp.c0;have f0:=cX (j:=0) hp.st;have e1:=bM w B 0 _ 87 (0,0) (.int .i64 3) hp.st;have H1:DS w0 (w.setCell ⟨B,0,none⟩ (.int .i64 3)) K x y pd (put X i (.pt B 3 t v L k)):=by rw[e1];exact h.Eh h8 eC e hp.le rfl
 have HW:Hid (C.dW (L.drop k)):=fun a ha=>hp.wf a (fE ha);have hle:=hp.le;clear e1 hp h;go_enter func101,ntmps101;go_wp2_with fail;generalize w.setCell ⟨B,0,none⟩ (.int .i64 3)=w1 at *;have kD:=zH H1;clear H1 c0 f0;refine (C.Bz (kD.out.pst h8 eC (ax _ _ _)) HW.out).mono ?_;rintro e' w2 ⟨rfl,b2⟩;obtain ⟨z,hz,hzl⟩:∃z,(L.drop k).headD C.lN=z/\z.v.length=32:=by
  refine⟨_,rfl,?_⟩;cases hd:L.drop k with
  | nil=>exact bG 32
  | cons a l=>exact (HW.out a (by rw[hd];exact bS ..)).len
 obtain ⟨w3,jM⟩:∃w3,w3=w2.alloc (.cells (C.aB z).toArray 54):=⟨_,rfl⟩
 have jw:=zH (C.nj C.jG w2);have jf:Hid ((Instr.storeAt 54 (.pointer (some ⟨w2.heap.size,0,none⟩)) (.agg (C.aB z).toArray)).run prog (w2.alloc (.cells (C.aB C.lN).toArray 54))=.ok () w3):=by rw[jM];exact C.gX C.jG w2 z hzl
 have b3:Below w2.heap.size w2 w3:=by rw[jM];exact ag w2 _
 have YC:=kD.out.later (ah b2 b3);have fu:=zH YC;have hp:=YC.pt h8 eC (ax _ _ _);have c0:=hp.c0;have f0:=cX (j:=0) hp.st;rw[hz];have em:(L.drop k).isEmpty=!decide (k<L.length):=by
  by_cases hl:k<L.length
  ·rw[aP hl,eS hl];rfl
  ·rw[aF hl,jm (by omega)];rfl
 rw[em];clear hz hzl jM b2 b3 YC kD em;by_cases eP:k<L.length
 ·have e1:=bM w3 B 0 _ 87 (0,0) (.int .i64 2) hp.st;have H4:Hid (DS w0 (w3.setCell ⟨B,0,none⟩ (.int .i64 2)) K x y pd (put X i (.pt B 2 t v L k))):=by
   rw[e1];have:=fu.out.Eh h8 eC (ax _ _ _) (TU:=2) (t':=t) (k':=k) hle rfl;rw[ee] at this;exact this
  clear e1 hp fu;rw[aP eP];go_wp2_with ((with_reducible refine aQ ?_);(first | (refine xk 54 jw.out ?_) | (refine qo 54 jf.out ?_)))
  go_end0
  exact⟨⟨_,rfl⟩,by first | exact H4.out | (rw[aE eP];exact H4.out)⟩
 ·clear hp;rw[aF eP];go_wp2_with ((with_reducible refine aQ ?_);(first | (refine xk 54 jw.out ?_) | (refine qo 54 jf.out ?_)))
  go_end0
  exact⟨⟨_,rfl⟩,by first | exact fu.out | (rw[aD eP];exact fu.out)⟩
