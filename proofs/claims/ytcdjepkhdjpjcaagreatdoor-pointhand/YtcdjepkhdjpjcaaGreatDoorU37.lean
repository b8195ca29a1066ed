import Derived.Test.YtcdjepkhdjpjcaaGreatDoorU36
set_option maxHeartbeats 20000000
set_option maxRecDepth 100000
namespace Go.Proofs.Zq.Q
open Go.Proofs.Tryz
open Go.RowKit
section
variable {P:Program} {ops:Array Oper} {Q:Exit->Act->World->Prop} {md:Region.Mode} {S:World->Prop} {fuel:Nat} {listed:Array Bool} {a:Act} {w:World}
theorem tkc(i:Nat){oi:Oper}{f t:TypeId}{x:Operand}{p v:Value}{a':Act}(hS:S w)(dM:∀w,S w->(convert f t p).run P w=.ok v w)(h:wpAnyH P md ops Q S fuel (listed.setIfInBounds i true) a' w)(hi:ops[i]?=some oi:=by simp;rfl)(ho:oi.op=.convert f t x:=by rfl)(hx:a.eval x=p:=by rfl)(hs:Region.noSelect ops=true:=by kernel_rfl)(hf:Region.free md ops listed i=true:=by kernel_rfl)(hr:(Region.ready md ops listed).contains i=true:=by kernel_rfl)(hg:Region.wanted oi (yielded ops a.tmps)=true:=by rfl)(ha:a.put oi.dst v=a':=by simp only[Act.put,zA,zB,zC];with_reducible rfl)(hQ:∀c a w,Q (.panic c) (a.put oi.dst v) w->Q (.panic c) a w:=by exact fun _ _ _ h=>h):wpAnyH P md ops Q S (fuel+1) listed a w :=
 dz hi hs hf hr hQ (.inl ⟨hg,fun w s=>by unfold execOp;simp only[ho,hx,aU,dM w s,aH,bQ]⟩) hS (ha ▸ h)
end
section
variable {w0 w w':World} {K:Ks} {x y:Sx} {pd:List Cm} {X:Nat->Th} {i j B:Nat} {d t:Int} {v:Value} {L:List C.En}
theorem v_{p q:Option Addr}{c1 c2:Nat}(hp:C.lC w p L.length L)(hq:C.lC w q L.length L)(hL:L.length<=64):Calls prog 80 #[.slice p L.length c1,.slice q L.length c2] w fun e w'=>e=.returned (.bool true)/\Below w.heap.size w w':=by
 have HE:=rf hp hq;clear hp hq;have hee:(((L.length:Nat):Int) != (L.length:Int))=false:=by simp
 go_enter func80,ntmps80;go_wp2_with fail;clear hee
 go_loopw [5] (fun i wr=>∃k:Nat,k<=L.length/\i=.int .i64 k/\Hid (Below w.heap.size w wr)) (fun i _=>L.length-(intOf i).toNat)
 case atStart=>exact⟨0,by omega,rfl,aV _ _⟩
 case round =>
  obtain ⟨k,vK,rfl,HB⟩:=hrel;by_cases eP:k<L.length
  ·obtain ⟨z,hz⟩:∃z,L[k]?=some z:=⟨_,ay eP⟩
   obtain ⟨b,o,rfl,-⟩:=HE.out.1.cells (by omega);obtain ⟨b2,o2,rfl,-⟩:=HE.out.2.cells (by omega);have HZ:=zH hz;have Cz:Hid (z.v.length=32):=(HE.out.1.wf z (bt hz)).len;have HS:Hid (C.lC wr.drew (some ⟨b,o,none⟩) L.length L/\C.lC wr.drew (some ⟨b2,o2,none⟩) L.length L):=⟨HE.out.1.later (ah HB.out (av 1)),HE.out.2.later (ah HB.out (av 1))⟩
   have gj:Hid (Below w.heap.size w wr.drew):=ah HB.out (av 1);have i1:(k:Int)<(L.length:Int):=by omega
   have i0:(0:Int)<=(k:Int):=by omega
   clear hz HB;go_wp2_with fail;refine zR (fun W=>C.lC W (some ⟨b,o,none⟩) L.length L/\C.lC W (some ⟨b2,o2,none⟩) L.length L) HS.out fun aa=>?_;generalize wr.drew=w1 at *;refine gu 0 1 2 3 aa ?_;refine de 4 aa (fun _ s=>s.1.c0 HZ.out) ?_;refine gu 5 6 7 8 aa ?_;refine de 9 aa (fun _ s=>s.2.c0 HZ.out) ?_;refine gu 10 11 12 13 aa ?_;refine fI 14 15 aa ?_;refine GU 16 aa (fun _ s=>s.1.Ox HZ.out) ?_;refine gu 17 18 19 20 aa ?_;refine GU 21 aa (fun _ s=>s.2.Ox HZ.out) ?_;refine tkq 22 aa (by kernel_rfl) (fun w=>Ra w z.v Cz.out) ?_;refine gu 23 24 25 26 aa ?_;refine fI 27 28 aa ?_;refine de 29 aa (fun _ s=>s.1.cp HZ.out) ?_;refine gu 30 31 32 33 aa ?_;refine de 34 aa (fun _ s=>s.2.cp HZ.out) ?_;refine fI 35 36 aa ?_;clear aa;refine zD ?_;go_wp2_with fail;go_roundw
   case rel=>exact⟨k+1,by omega,by go_num,gj⟩
   case measure=>simp[intOf];omega
  ·go_wp2;go_ret;exact⟨rfl,HB.out⟩
theorem Lc{W:World}{g:Nat}{k b:Int}{v:List Int}{q c:Int}(hv:v.length=32)(h:W.heap[g]?=some (.cells (cH k b v q c).toArray 61 (0,0))):W.cell? ⟨g,1,none⟩=some (.int .u64 0)/\W.cell? ⟨g,2,none⟩=some (.int .i64 0)/\W.cell? ⟨g,3,none⟩=some (.int .u64 0)/\W.cell? ⟨g,39,none⟩=some (.int .i64 0)/\W.cell? ⟨g,40,none⟩=some (.slice none 0 0):=by
 have e:∀j,j<4->(cH k b v q c)[37+j]?=[Value.int .u64 q,.int .i64 c,.int .i64 0,.slice none 0 0][j]?:=fun j hj=>by
  unfold cH;rw[aT (by simp;omega),aT (by simp[hv];omega)];simp only[aX,hv,bz,dH];rw[show 37+j-(0+1+1+1+1+1)-32=j by omega]
 refine⟨?_,?_,?_,?_,?_⟩ <;> rw[aq _ _ _ _ _ _ h,dV]
 ·rfl
 ·rfl
 ·rfl
 ·exact e 2 (by decide)
 ·exact e 3 (by decide)
theorem KV(w:World)(k b:Int)(v:List Int)(q c:Int)(hv:v.length=32):Calls prog 191 #[.agg (cH k b v q c).toArray,.agg (cH k b v q c).toArray] w fun e w'=>e=.returned (.bool true)/\Below w.heap.size w w':=by
 obtain ⟨r,hr⟩:=zE w.heap.size;obtain ⟨A,hA⟩:=zE ((cH k b v q c).toArray);have h2:((w.alloc (.cells A 61)).alloc (.cells A 61)).heap[r+1]?=some (.cells A 61 (0,0)):=by
  have:=aG (w.alloc (.cells A 61)) (.cells A 61);rw[a_,hr] at this;exact this
 have h1:((w.alloc (.cells A 61)).alloc (.cells A 61)).heap[r]?=some (.cells A 61 (0,0)):=by
  have:=aG w (.cells A 61);rw[hr] at this;exact (mL _ _ r (by rw[a_,hr];omega)).trans this
 have HB:Hid (Below w.heap.size w ((w.alloc (.cells A 61)).alloc (.cells A 61))):=ah (ag w _) (ag _ _);rw[<-hA] at h1 h2;obtain ⟨a1,a2,a3,a4,a5⟩:=j_ hv h1;obtain ⟨b1,b2,b3,b4,b5⟩:=j_ hv h2;obtain ⟨c1,c2,c3,c4,c5⟩:=Lc hv h1;obtain ⟨d1,d2,d3,d4,d5⟩:=Lc hv h2;have L1:Hid (_):=b_ (P:=prog) _ r 5 51 (U8 v) _ a5 gw rfl (by rw[sB];simp[hv]);have L2:Hid (_):=b_ (P:=prog) _ (r+1) 5 51 (U8 v) _ b5 gw rfl (by rw[sB];simp[hv]);have Q1:Hid (∀W:World,(binOp .eql 51 (.agg (U8 v).toArray) (.agg (U8 v).toArray)).run prog W=.ok (.bool true) W):=fun W=>by
  have:=C.aic W v v hv hv;rw[aP rfl] at this;exact this
 rw[hA] at *;clear a5 b5 h1 h2;go_enter func191,ntmps191;go_wp2_with ((with_reducible refine aQ ?_);(first | (refine lJ 51 L1.out ?_) | (refine lJ 51 L2.out ?_) | ((refine nk (by rfl) 51 rfl rfl rfl (by kernel_rfl) (Q1.out _) ?_);simp only[Act.put,zA,zB,zC])))
 go_ret;exact⟨rfl,by rw[<-hr];exact HB.out⟩
theorem Zf{w:World}{B g:Nat}{ws:List Wr}{vs:List Value}(h:Told w B g ws vs){n:Nat}(hf:Fit n ws)(k:Nat)(hk:k<ws.length) :
  ∃gb cb,w.cell? ⟨g,k*2,none⟩=some (.int .i64 (ws[k].s:Int))/\w.cell? ⟨g,k*2+1,none⟩=some (.slice (some ⟨gb,0,none⟩) 64 cb)/\jK w (some ⟨gb,0,none⟩) 64 ws[k].b:=by
 have EJ:k<vs.length:=by rw[h.len];exact hk
 have hd:=h.each k hk EJ;obtain ⟨pb,cb,e,hb,_⟩:=rA hd (hf.at k hk).2.2;obtain ⟨gb,ob,rfl,_⟩:=hb.cells (by omega);have h00:ob=0:=by
  obtain ⟨_,_,e2,_,h3⟩:=iE hd;rw[e] at e2;simp only[cE] at e2;obtain ⟨g3,h4⟩:=h3 ⟨gb,ob,none⟩ e2.1.symm;simp only[d_] at h4;exact h4.2.1
 subst h00;exact⟨gb,cb,h.Qg k hk,by rw[h.data k EJ,e],hb⟩
theorem Ht{P:Program}{o:Oper}{a:Act}{w:World}{K:Act->World->Prop}{Q:Exit->Act->World->Prop}(f t:TypeId){x:Operand}(ho:o.op=.convert f t x){u v:Value}(hx:a.eval x=u)(dM:(convert f t u).run P w=.ok v w)(h:K (a.put o.dst v) w):o.wp P a w K Q:=by
 have e:(execOp a.eval o).run P w=.ok (.value v) w:=by unfold execOp;simp only[ho,hx,aU,dM,aH,bQ]
 unfold Oper.wp;rw[e];exact h
theorem aaY(h:DS w0 w K x y pd X):Calls prog 136 #[E.qp K.dp] w fun e w'=>∃v,e=.returned v/\w'.ownsRow w.heap.size 5 1 v (64*x.g.sz) (U8 x.d)/\Below w.heap.size w w':=by
 obtain ⟨S,hl,-,-⟩:=h.sK;exact ym hl.zF
theorem cell_later{a:Addr}{u:Value}(hb:Below w.heap.size w w')(h:w.cell? a=some u):w'.cell? a=some u:=(hb.cell (p:=a) (cG w _ h)).trans h
theorem zU(h:DS w0 w K x x pd X)(hk:x.ws.length<=100000)(hN:x.a.next<=1000):Calls prog 77 #[E.qp K.P] w fun e w'=>e=.returned (.bool true)/\Below w.heap.size w w':=by
 have HD:=zH h;have hdp:=h.fU.dp;clear h;go_enter func77,ntmps77;go_wp2_with fail;refine (QZ HD.out hk).mono ?_;rintro e w1 ⟨g1,vs1,rfl,t1,b1⟩;have B1:=zH b1;have kD:=zH (HD.out.later b1);have T1:=zH t1;obtain ⟨S,bo,hl,-,-⟩:=kD.out.uf;obtain ⟨gd,L,cap,v,vs,hR⟩:=hl.zF;have HFT:=zH hR.fit;obtain ⟨pv,cv,hv,-⟩:=iE hR.wr;subst hv;have HDB:=zH hR.db;have HX1:Hid (jK w1 (some ⟨gd,0,none⟩) L x.d):=by
  obtain ⟨p',c',e',h',_⟩:=rA hR.ze hR.db;simp only[cE] at e';rw[<-e'.1] at h';exact h'
 have HQ0:Hid (∀W,Below w1.heap.size w1 W->W.cell? ⟨K.dr,0,none⟩=some (.slice (some ⟨gd,0,none⟩) L cap)):=fun W s=>(hR.later s).cell0;have HQ1:Hid (∀W,Below w1.heap.size w1 W->W.cell? ⟨K.dr,1,none⟩=some (.slice pv x.ws.length cv)):=fun W s=>(hR.later s).nH;have Gu:Hid (∀W,Below w1.heap.size w1 W->RD W (fun k=>S k/\k≠K.lr) K.dr x.g.sz x.d x.ws gd L cap (.slice pv x.ws.length cv) vs):=fun W s=>hR.later s;have Dd0:Hid (Below w1.heap.size w1 w1.drew):=av 1;have hee:(((x.ws.length:Nat):Int) != (x.ws.length:Int))=false:=by simp
 clear t1 b1 hdp HD hl hR;go_wp2_with fail;refine zR (fun W=>Below w1.heap.size w1 W) Dd0.out fun aa=>?_;have Dd:Hid (Below w1.heap.size w1 w1.drew):=Dd0;generalize w1.drew=wd at *;refine gu 0 1 2 3 aa ?_;refine de 4 aa (fun _ s=>(kD.out.later s).fU.dp) ?_;refine gu 7 8 9 10 aa ?_;refine de 11 aa (fun _ s=>(kD.out.later s).fU.dr) ?_;refine fI 12 13 aa ?_;refine de 14 aa (fun _ s=>HQ0.out _ s) ?_;refine tkc 15 aa (fun _ s=>(HX1.out.later s).str cap) ?_;refine iA 5 fun Kc aJ=>?_;go_simp;refine (aaY (kD.out.later Dd.out)).mono ?_;rintro e we ⟨vi,rfl,oi,bi⟩;obtain ⟨pi,ci,rfl,hri,-⟩:=rA oi HDB.out;have De:Hid (Below w1.heap.size w1 we):=ah Dd.out bi;have Xe:=zH hri;clear oi bi hri;refine aJ.out _ _ De.out (fun aa=>?_);clear aJ Kc;refine iA 6 fun Kc aJ=>?_;rw[aE (by rfl)];refine Ht 107 9 rfl rfl (Xe.out.str ci) ?_;refine aJ.out _ _ De.out (fun aa=>?_);clear aJ Kc;refine gu 16 17 18 19 aa ?_;refine gu 20 21 22 23 aa ?_;refine de 24 aa (fun _ s=>(kD.out.later s).fU.dr) ?_;refine fI 25 26 aa ?_;refine de 27 aa (fun _ s=>HQ1.out _ s) ?_;refine gh 28 29 30 aa ?_;clear aa;refine zD ?_;have gD:Hid (Below w.heap.size w we):=ah B1.out De.out;have fh:=zH (kD.out.later De.out);have T2:=zH (T1.out.later De.out);have CL:Hid (∀W,Below we.heap.size we W->RD W (fun k=>S k/\k≠K.lr) K.dr x.g.sz x.d x.ws gd L cap (.slice pv x.ws.length cv) vs):=fun W s=>Gu.out W (ah De.out s);clear aa Xe De Dd Gu T1 kD B1 HQ0 HQ1 HX1 Dd0 HDB;go_wp2_with fail;clear hee
 go_loopw [4] (fun i wr=>∃k:Nat,k<=x.ws.length/\i=.int .i64 k/\Hid (Below we.heap.size we wr)) (fun i _=>x.ws.length-(intOf i).toNat)
 case atStart=>exact⟨0,by omega,rfl,aV _ _⟩
 case round =>
  obtain ⟨k,vK,rfl,HB⟩:=hrel;have HDw:=zH (fh.out.later HB.out);by_cases eP:k<x.ws.length
  ·obtain ⟨gv,cv',gb,cb,hv,u1,u2,u3,_⟩:=(CL.out _ HB.out).at k eP;have uT:=hv;simp only[cE,nY] at uT;obtain ⟨rfl,rfl⟩:=uT;obtain ⟨gc,cc,t1,t2,t3⟩:=Zf (T2.out.later HB.out) HFT.out k eP;have HQ7:Hid (∀W,Below wr.heap.size wr W->W.cell? ⟨K.dr,1,none⟩=some (.slice (some ⟨gv,0,none⟩) x.ws.length cv)):=fun W s=>((CL.out _ HB.out).later s).nH;have Y1:=zH t3;have Y2:=zH u3;have M1:Hid (g1<wr.heap.size):=cG wr _ t1;have M3:Hid (gv<wr.heap.size):=cG wr _ u1;have DR:Hid (Below wr.heap.size wr wr.drew):=av 1;have vN:Hid (Below we.heap.size we wr.drew):=ah HB.out (av 1);generalize x.ws[k]=z at *;clear t3 u3 hv HB;have i1:(k:Int)<(x.ws.length:Int):=by omega
   have i0:(0:Int)<=(k:Int):=by omega
   go_wp2_with fail;refine zR (fun W=>Below wr.heap.size wr W) DR.out fun aa=>?_;generalize wr.drew=w5 at *;refine gu 0 1 2 3 aa ?_;refine de 4 aa (fun _ s=>(s.cell (p:=⟨g1,k*2,none⟩) M1.out).trans t1) ?_;refine gu 5 6 7 8 aa ?_;refine de 9 aa (fun _ s=>(HDw.out.later s).fU.dr) ?_;refine fI 10 11 aa ?_;refine de 12 aa (fun _ s=>HQ7.out _ s) ?_;refine gh 13 14 15 aa ?_;refine de 16 aa (fun _ s=>(s.cell (p:=⟨gv,k*2,none⟩) M3.out).trans u1) ?_;refine gu 17 18 19 20 aa ?_;refine fI 21 22 aa ?_;refine de 23 aa (fun _ s=>(s.cell (p:=⟨g1,k*2+1,none⟩) M1.out).trans t2) ?_;refine tkc 24 aa (fun _ s=>(Y1.out.later s).str cc) ?_;refine gu 25 26 27 28 aa ?_;refine de 29 aa (fun _ s=>(HDw.out.later s).fU.dr) ?_;refine fI 30 31 aa ?_;refine de 32 aa (fun _ s=>HQ7.out _ s) ?_;refine gh 33 34 35 aa ?_;refine de 36 aa (fun _ s=>(s.cell (p:=⟨gv,k*2+1,none⟩) M3.out).trans u2) ?_;refine tkc 37 aa (fun _ s=>(Y2.out.later s).str cb) ?_;refine fI 38 39 aa ?_;clear aa;refine zD ?_;go_wp2_with fail;go_roundw
   case rel=>exact⟨k+1,by omega,by go_num,vN⟩
   case measure=>simp[intOf];omega
  ·have HB5:Hid (Below w.heap.size w wr.drew.drew):=ah gD.out (ah HB.out (ah (av 1) (av 1)));have qZ:Hid (DS w0 wr.drew K x x pd X):=HDw.out.later (av 1);clear HB HDw gD CL T2 fh;go_wp2_with fail;refine zR (fun W=>DS w0 W K x x pd X) qZ.out fun aa=>?_;generalize wr.drew=w6 at *;refine gu 0 1 2 3 aa ?_;refine de 4 aa (fun _ s=>s.fU.lp) ?_;refine gu 6 7 8 9 aa ?_;refine de 10 aa (fun _ s=>s.fU.lr) ?_;refine fI 11 12 aa ?_;refine de 13 aa (fun _ s=>s.uv) ?_;refine iA 5 fun Kc aJ=>?_;go_simp;refine (xZ aa).mono ?_;rintro e w' ⟨rfl,rfl⟩;refine aJ.out _ _ aa (fun aa=>?_);clear aJ Kc;refine gu 14 15 16 17 aa ?_;refine fI 18 19 aa ?_;refine de 20 aa (fun _ s=>s.fU.lp) ?_;refine gu 22 23 24 25 aa ?_;refine de 26 aa (fun _ s=>s.fU.lr) ?_;refine fI 27 28 aa ?_;refine de 29 aa (fun _ s=>s.akL) ?_;refine iA 21 fun Kc aJ=>?_;go_simp;refine (agL aa).mono ?_;rintro e w' ⟨rfl,rfl⟩;refine aJ.out _ _ aa (fun aa=>?_);clear aJ Kc;refine gu 30 31 32 33 aa ?_;refine gh 34 35 36 aa ?_;refine de 37 aa (fun _ s=>s.fU.lp) ?_;refine gu 39 40 41 42 aa ?_;refine de 43 aa (fun _ s=>s.fU.lr) ?_;refine fI 44 45 aa ?_;refine de 46 aa (fun _ s=>s.NY) ?_;refine iA 38 fun Kc aJ=>?_;go_simp;refine (wJ aa).mono ?_;rintro e w' ⟨rfl,rfl⟩;refine aJ.out _ _ aa (fun aa=>?_);clear aJ Kc;refine fI 47 48 aa ?_;clear aa;refine zD ?_;obtain ⟨ql,cl,cL,hEL,-⟩:=qZ.out.agB;have jV:Hid (DS w0 w6.drew K x x pd X):=qZ.out.later (av 1);have HL7:Hid (w6.drew.cell? ⟨K.kr,1,none⟩=some (.slice ql x.L.length cl)/\C.lC w6.drew ql x.L.length x.L):=⟨cL,hEL.later (av 1)⟩
   have HB7:Hid (Below w.heap.size w w6.drew):=HB5;have HWF:=zH qZ.out.lU.k.wf;have amt:=qZ.out.lU.k.nR;clear aa qZ cL hEL HB5;go_wp2_with fail;refine zR (fun W=>DS w0 W K x x pd X/\W.cell? ⟨K.kr,1,none⟩=some (.slice ql x.L.length cl)/\C.lC W ql x.L.length x.L) ⟨jV.out,HL7.out⟩ fun aa=>?_;generalize w6.drew=w7 at *;refine gu 0 1 2 3 aa ?_;refine de 4 aa (fun _ s=>s.1.fU.ap) ?_;refine gu 6 7 8 9 aa ?_;refine de 10 aa (fun _ s=>s.1.fU.ar) ?_;refine fI 11 12 aa ?_;refine de 13 aa (fun _ s=>s.1.Ec) ?_;refine iA 5 fun Kc aJ=>?_;go_simp;refine (Bq aa.1).mono ?_;rintro e w' ⟨rfl,hw'⟩;subst w';refine aJ.out _ _ aa (fun aa=>?_);clear aJ Kc;refine gu 14 15 16 17 aa ?_;refine fI 18 19 aa ?_;refine de 20 aa (fun _ s=>s.1.fU.ap) ?_;refine gu 22 23 24 25 aa ?_;refine de 26 aa (fun _ s=>s.1.fU.ar) ?_;refine iA 21 fun Kc aJ=>?_;go_simp;refine (LZ aa.1).mono ?_;rintro e w' ⟨rfl,hw'⟩;subst w';refine aJ.out _ _ aa (fun aa=>?_);clear aJ Kc;refine iA 27 fun Kc aJ=>?_;go_simp;refine (LH aa.1 hN).mono ?_;rintro e w' ⟨rfl,m,hw'⟩;subst w';have b8:Below w7.heap.size w7 (w7.drewN m):=av m;have PS:Hid (Below w.heap.size w (w7.drewN m)):=ah HB7.out b8;refine aJ.out _ _ ⟨aa.1.later b8,(cell_later b8 aa.2.1),aa.2.2.later b8⟩ (fun aa=>?_);clear b8 HB7;generalize w7.drewN m=w8 at *;clear aJ Kc;refine gu 28 29 30 31 aa ?_;refine gh 32 33 34 aa ?_;refine de 35 aa (fun _ s=>s.1.fU.kp) ?_;refine gu 37 38 39 40 aa ?_;refine de 41 aa (fun _ s=>s.1.fU.kr) ?_;refine fI 42 43 aa ?_;refine de 44 aa (fun _ s=>s.2.1) ?_;refine iA 36 fun Kc aJ=>?_;go_simp;refine (Ei aa.1).mono ?_;rintro e w9 ⟨ve,rfl,oe,be⟩;obtain ⟨pe,ce,rfl,hpe,-⟩:=C.eU.in oe HWF.out;have SM:Hid (Below w.heap.size w w9):=ah PS.out be;have HPE:=zH hpe;clear oe hpe;refine aJ.out _ _ ⟨aa.1.later be,(cell_later be aa.2.1),aa.2.2.later be⟩ (fun aa=>?_);clear be PS;clear aJ Kc;refine iA 45 fun Kc aJ=>?_;go_simp;refine (v_ HPE.out aa.2.2 amt).mono ?_;rintro e wf ⟨rfl,bf⟩;have HBf:Hid (Below w.heap.size w wf):=ah SM.out bf;refine aJ.out _ _ ⟨aa.1.later bf,(cell_later bf aa.2.1),aa.2.2.later bf⟩ (fun aa=>?_);clear bf SM HPE;clear aJ Kc;refine fI 46 47 aa ?_;clear aa;refine zD ?_;go_wp2;go_ret;exact⟨rfl,HBf.out⟩
end
structure Pg where
 A:Nat
 B:Nat
 va:Value
 vb:Value
 vt:Value
 vw:Value
 us:List Value
 ux:List Value
 fs:List (List C.En)
abbrev Da (K:Ks)(z:Pg):Array Value:=#[E.qp K.P,E.qp z.A,E.qp z.B,z.vt,z.vw]
def XP (E:Nat->Th)(K:Ks)(G:Nat)(p:Pt)(fl:Bool)(z:Pg):Nat->Th:=put (put (put (put (put E 8 (.bC G 166 (Da K z))) 9 (.pp z.A z.va p)) 10 (.rp z.B z.vb p)) 11 (.ls fl 47 54 z.vt z.us z.fs)) 12 (.ls true 160 241 z.vw z.ux z.fs)
def Pl (E:Nat->Th)(w0 w:World)(K:Ks)(x:Sx)(pd:List Cm)(G A B:Nat)(p:Pt)(fl:Bool)(m:Nat):Prop:=∃z,DS w0 w K x x pd (XP E K G p fl z)/\p.Up/\z.us.length=m/\z.ux.length=m/\z.A=A/\z.B=B
def XT (X:Nat->Th)(fl:Bool)(z:Pg)(u v:Value)(f:List C.En)(a b ga gb:Nat)(va vb:Value):Nat->Th:=fun i =>
 if i=11 then (if a<2 then .ls fl 47 54 z.vt z.us z.fs else .ls fl 47 54 va (z.us++[u]) (z.fs++[f])) else
 if i=12 then (if b<2 then .ls true 160 241 z.vw z.ux z.fs else .ls true 160 241 vb (z.ux++[v]) (z.fs++[f])) else
 if i=13 then (if a<2 then .row 54 34 u f.length (C.EC f) else .no) else
 if i=14 then (if b<2 then .row 241 34 v f.length (C.EC f) else .no) else
 if i=15 then (if a=1 then .bC ga 47 #[u] else .no) else
 if i=16 then (if b=1 then .bC gb 160 #[v] else .no) else X i
theorem elC:E.Tx 163 47 1 24:=by
 obtain ⟨i0,hi,h0,h1,h2⟩:=cj (show (prog.info? 47).map (fun i=>(i.zero,i.size,i.bytes))=some (some (.slice none 0 0),1,24) by kernel_rfl);exact⟨underlying163,⟨i0,_,hi,h0,h1,h2,rfl⟩,by decide,by decide⟩
theorem MT:E.Tx 164 160 1 24:=by
 obtain ⟨i0,hi,h0,h1,h2⟩:=cj (show (prog.info? 160).map (fun i=>(i.zero,i.size,i.bytes))=some (some (.slice none 0 0),1,24) by kernel_rfl);exact⟨underlying164,⟨i0,_,hi,h0,h1,h2,rfl⟩,by decide,by decide⟩
section
variable {w0 w w':World} {K:Ks} {x y:Sx} {pd:List Cm} {X:Nat->Th} {i j B G:Nat} {fl:Bool} {z:Pg} {u v va vb:Value} {f:List C.En} {a b ga gb:Nat}
theorem agv(E:E.Tx i j 1 24)(w:World)(p:Option Addr)(n c:Nat):(Instr.buildSlice i 1 #[(0,.slice p n c)]).run prog w=.ok (.slice (some ⟨w.heap.size,0,none⟩) 1 1) (w.alloc (.cells #[.slice p n c] j)):=by
 obtain ⟨i0,z0,hi,hz,hs,-,OJ⟩:=E.inf;refine run_buildSlice w i j 1 _ _ i0 _ E.ut hi hz (by rw[hs];decide) (by rw[hs];decide) ?_;rw[hs];have:∀A:Array Value,A.size=1->Instr.fill (fun i=>some (i*1,1)) A [(0,.slice p n c)]=some #[.slice p n c]:=by
  intro A hA;obtain ⟨l⟩:=A
  match l,hA with
  | [q],_=>rfl
 exact this _ (by simp)
theorem DS.Cw(h:DS w0 w K x y pd X)(j8:8<=j)(IV:j<40){ty:TypeId}{cs es:Array Value}(e:X j=.bC B ty cs)(o:Nat)(q:Value)(hs:cs.setIfInBounds o q=es):DS w0 (w.setCell ⟨B,o,none⟩ q) K x y pd (put X j (.bC B ty es)):=by
 rw[bM w B o _ ty (0,0) q (h.bC j8 IV e),hs];exact h.mF j8 IV e _
theorem DS.mka(h:DS w0 w K x y pd (XT X fl z u v f 0 b ga gb va vb)):DS w0 (w.alloc (.cells #[u] 47)) K x y pd (XT X fl z u v f 1 b w.heap.size gb va vb):=by
 refine (h.iJ (k:=15) (by decide) #[u] 47).congr fun m _ _=>?_;unfold XT put;by_cases e:m=15
 ·subst e;rfl
 ·rw[aD e];by_cases e2:m=11
  ·subst e2;rfl
  ·by_cases e3:m=12
   ·subst e3;rfl
   ·by_cases e4:m=13
    ·subst e4;rfl
    ·by_cases e5:m=14
     ·subst e5;rfl
     ·simp[e,e2,e3,e4,e5]
theorem DS.Yt(h:DS w0 w K x y pd (XT X fl z u v f 1 b ga gb va vb))(hw:C.dW f/\f.length<=64)(hn:z.us.length<9000)(hu:∃p n c,u=.slice p n c):∃v' w',(Builtin.append_ #[163,163] 163 #[z.vt,.slice (some ⟨ga,0,none⟩) 1 1]).run prog w=.ok v' w'/\DS w0 w' K x y pd (XT X fl z u v f 2 b ga gb v' vb):=by
 have hl:=h.ls (i:=11) (by decide) (by decide) rfl;have hb:=h.bC (i:=15) (by decide) (by decide) rfl;obtain ⟨p,n,c,hu⟩:=hu;obtain ⟨v',w',hr,ho,hk,hg⟩:=E.tM elC hl.row 163 ⟨ga,0,none⟩ 1 1 [u] rfl (fun m q hq=>by
  rw[fo,aW,bE.cell (t:=47) (cs:=[u]) hb m];exact hq) (fun q hq=>by rw[bg.1 hq,hu];rfl) (by omega) (aI _)
 refine⟨v',w',hr,(h.join (i:=11) (j:=13) (by decide) (by decide) (by decide) (by decide) (by decide) rfl rfl hw ho hk hg).forget fun m _ _=>?_⟩;unfold XT put;by_cases e:m=15
 ·subst e;right;rfl
 ·left;by_cases e2:m=11
  ·subst e2;rfl
  ·by_cases e3:m=12
   ·subst e3;rfl
   ·by_cases e4:m=13
    ·subst e4;rfl
    ·by_cases e5:m=14
     ·subst e5;rfl
     ·simp[e,e2,e3,e4,e5]
theorem DS.mkb(h:DS w0 w K x y pd (XT X fl z u v f a 0 ga gb va vb)):DS w0 (w.alloc (.cells #[v] 160)) K x y pd (XT X fl z u v f a 1 ga w.heap.size va vb):=by
 refine (h.iJ (k:=16) (by decide) #[v] 160).congr fun m _ _=>?_;unfold XT put;by_cases e:m=16
 ·subst e;rfl
 ·rw[aD e];by_cases e2:m=11
  ·subst e2;rfl
  ·by_cases e3:m=12
   ·subst e3;rfl
   ·by_cases e4:m=13
    ·subst e4;rfl
    ·by_cases e5:m=14
     ·subst e5;rfl
     ·simp[e,e2,e3,e4,e5]
theorem DS.Ys(h:DS w0 w K x y pd (XT X fl z u v f a 1 ga gb va vb))(hw:C.dW f/\f.length<=64)(hn:z.ux.length<9000)(hu:∃p n c,v=.slice p n c):∃v' w',(Builtin.append_ #[164,164] 164 #[z.vw,.slice (some ⟨gb,0,none⟩) 1 1]).run prog w=.ok v' w'/\DS w0 w' K x y pd (XT X fl z u v f a 2 ga gb va v'):=by
 have hl:=h.ls (i:=12) (by decide) (by decide) rfl;have hb:=h.bC (i:=16) (by decide) (by decide) rfl;obtain ⟨p,n,c,hu⟩:=hu;obtain ⟨v',w',hr,ho,hk,hg⟩:=E.tM MT hl.row 164 ⟨gb,0,none⟩ 1 1 [v] rfl (fun m q hq=>by
  rw[fo,aW,bE.cell (t:=160) (cs:=[v]) hb m];exact hq) (fun q hq=>by rw[bg.1 hq,hu];rfl) (by omega) (aI _)
 refine⟨v',w',hr,(h.join (i:=12) (j:=14) (by decide) (by decide) (by decide) (by decide) (by decide) rfl rfl hw ho hk hg).forget fun m _ _=>?_⟩;unfold XT put;by_cases e:m=16
 ·subst e;right;rfl
 ·left;by_cases e2:m=11
  ·subst e2;rfl
  ·by_cases e3:m=12
   ·subst e3;rfl
   ·by_cases e4:m=13
    ·subst e4;rfl
    ·by_cases e5:m=14
     ·subst e5;rfl
     ·simp[e,e2,e3,e4,e5]
