import Derived.Test.YtcdjepkhdjpjcaaGreatDoorU37
set_option maxHeartbeats 20000000
set_option maxRecDepth 100000
namespace Go.Proofs.Zq.Q
open Go.Proofs.Tryz
open Go.RowKit
section
variable {P:Program} {ops:Array Oper} {Q:Exit->Act->World->Prop} {md:Region.Mode} {S:World->Prop} {L fuel:Nat} {listed:Array Bool} {a:Act} {w:World}
theorem NJ(i:Nat){oi:Oper}{v:Value}{a':Act}{Z:World->Prop}(hS:S w)(z:∀w,S w->Z w)(h:iC P md ops Q S L fuel (listed.setIfInBounds i true) a' w)(hi:ops[i]?=some oi:=by simp;rfl)(hs:Region.noSelect ops=true:=by kernel_rfl)(hf:Region.free md ops listed i=true:=by kernel_rfl)(hr:(Region.ready md ops listed).contains i=true:=by kernel_rfl)(hd:(match ops[L]? with | some o=>o.after.any (fun e=>Region.binds md e && e.on == i) | none=>true)=true:=by kernel_rfl)(hg:Region.wanted oi (yielded ops a.tmps)=true:=by rfl)(hy:∀w,Z w->(execOp a.eval oi).run P w=.ok (.value v) w:=by intro w z;go_simp;with_reducible rfl)(ha:a.put oi.dst v=a':=by simp only[Act.put,zA,zB,zC];with_reducible rfl)(hQ:∀c a w,Q (.panic c) (a.put oi.dst v) w->Q (.panic c) a w:=by exact fun _ _ _ h=>h):iC P md ops Q S L (fuel+1) listed a w :=
 iV hi hs hf hr hd hQ (.inl ⟨hg,fun w s=>hy w (z w s)⟩) hS (ha ▸ h)
theorem Ba(i:Nat){oi:Oper}(h:∀K':Act->World->Prop,Shut (∀a w,(i≠L->S w)->iC P md ops Q S L fuel (listed.setIfInBounds i true) a w->K' a w)->if Region.wanted oi (yielded ops a.tmps)=true then Oper.wp P oi a w K' Q else K' (a.put oi.dst undef) w)(hi:ops[i]?=some oi:=by simp;rfl)(hr:Region.ready md ops listed=[i]:=by kernel_rfl):iC P md ops Q S L (fuel+1) listed a w :=
 bU hr (by simp) (aR.cons hi h aR.nil)
theorem ry2(i j:Nat){oi oj:Oper}(h:∀K':Act->World->Prop,Shut (∀a w,(i≠L->S w)->iC P md ops Q S L fuel (listed.setIfInBounds i true) a w->K' a w)->if Region.wanted oi (yielded ops a.tmps)=true then Oper.wp P oi a w K' Q else K' (a.put oi.dst undef) w)(h2:∀K':Act->World->Prop,Shut (∀a w,(j≠L->S w)->iC P md ops Q S L fuel (listed.setIfInBounds j true) a w->K' a w)->if Region.wanted oj (yielded ops a.tmps)=true then Oper.wp P oj a w K' Q else K' (a.put oj.dst undef) w)(hi:ops[i]?=some oi:=by simp;rfl)(hj:ops[j]?=some oj:=by simp;rfl)(hr:Region.ready md ops listed=[i,j]:=by kernel_rfl):iC P md ops Q S L (fuel+1) listed a w :=
 bU hr (by simp) (aR.cons hi h (aR.cons hj h2 aR.nil))
theorem ry3(i j k:Nat){oi oj ok:Oper}(h:∀K':Act->World->Prop,Shut (∀a w,(i≠L->S w)->iC P md ops Q S L fuel (listed.setIfInBounds i true) a w->K' a w)->if Region.wanted oi (yielded ops a.tmps)=true then Oper.wp P oi a w K' Q else K' (a.put oi.dst undef) w)(h2:∀K':Act->World->Prop,Shut (∀a w,(j≠L->S w)->iC P md ops Q S L fuel (listed.setIfInBounds j true) a w->K' a w)->if Region.wanted oj (yielded ops a.tmps)=true then Oper.wp P oj a w K' Q else K' (a.put oj.dst undef) w)(h3:∀K':Act->World->Prop,Shut (∀a w,(k≠L->S w)->iC P md ops Q S L fuel (listed.setIfInBounds k true) a w->K' a w)->if Region.wanted ok (yielded ops a.tmps)=true then Oper.wp P ok a w K' Q else K' (a.put ok.dst undef) w)(hi:ops[i]?=some oi:=by simp;rfl)(hj:ops[j]?=some oj:=by simp;rfl)(hk:ops[k]?=some ok:=by simp;rfl)(hr:Region.ready md ops listed=[i,j,k]:=by kernel_rfl):iC P md ops Q S L (fuel+1) listed a w :=
 bU hr (by simp) (aR.cons hi h (aR.cons hj h2 (aR.cons hk h3 aR.nil)))
end
section
variable {w0 w w':World} {K:Ks} {x y:Sx} {pd:List Cm} {X:Nat->Th} {i j B G m:Nat} {fl:Bool} {z:Pg} {u v va vb:Value} {f:List C.En} {a b ga gb:Nat} {p:Pt} {E:Nat->Th}
theorem DS.Gz(h:DS w0 w K x y pd X)(e:X 8=.bC G 166 (Da K z)):w.cell? ⟨G,0,none⟩=some (Zq.E.qp K.P):=by rw[aq _ _ _ _ _ _ (h.bC (by decide) (by decide) e)];rfl
theorem DS.pl1(h:DS w0 w K x y pd X)(e:X 8=.bC G 166 (Da K z)):w.cell? ⟨G,1,none⟩=some (Zq.E.qp z.A):=by rw[aq _ _ _ _ _ _ (h.bC (by decide) (by decide) e)];rfl
theorem DS.pl2(h:DS w0 w K x y pd X)(e:X 8=.bC G 166 (Da K z)):w.cell? ⟨G,2,none⟩=some (Zq.E.qp z.B):=by rw[aq _ _ _ _ _ _ (h.bC (by decide) (by decide) e)];rfl
theorem DS.pl3(h:DS w0 w K x y pd X)(e:X 8=.bC G 166 (Da K z)):w.cell? ⟨G,3,none⟩=some z.vt:=by rw[aq _ _ _ _ _ _ (h.bC (by decide) (by decide) e)];rfl
theorem DS.pl4(h:DS w0 w K x y pd X)(e:X 8=.bC G 166 (Da K z)):w.cell? ⟨G,4,none⟩=some z.vw:=by rw[aq _ _ _ _ _ _ (h.bC (by decide) (by decide) e)];rfl
theorem TY:(prog.info? 43).map (·.size)=some 9:=by kernel_rfl
theorem DS.lrk(h:DS w0 w K x y pd X):(Instr.loadAt 43 (.pointer (some ⟨K.P,14,none⟩))).run prog w=.ok (.agg (qV K).toArray) w:=by
 obtain ⟨v,h,-⟩:=h.aaZ;exact b_ w K.P 14 43 (qV K) _ (jB (xs:=aN K.c++gl K) (bs:=qV K) (cs:=[v]) (by rw[aS];exact h)) underlying43 rfl (by rw[TY];rfl)
structure Tq (w0 w:World) (K:Ks) (x:Sx) (pd:List Cm) (X:Nat->Th) (fl:Bool) (G:Nat) (z:Pg) (u v:Value) (f:List C.En) (a b ga gb:Nat) (va vb:Value):Prop where
 ds:DS w0 w K x x pd (XT X fl z u v f a b ga gb va vb)
 e8:X 8=.bC G 166 (Da K z)
theorem Tq.c3(h:Tq w0 w K x pd X fl G z u v f a b ga gb va vb):w.cell? ⟨G,3,none⟩=some z.vt:=h.ds.pl3 h.e8
theorem Tq.c4(h:Tq w0 w K x pd X fl G z u v f a b ga gb va vb):w.cell? ⟨G,4,none⟩=some z.vw:=h.ds.pl4 h.e8
theorem Tq.mka(h:Tq w0 w K x pd X fl G z u v f 0 b ga gb va vb):Tq w0 (w.alloc (.cells #[u] 47)) K x pd X fl G z u v f 1 b w.heap.size gb va vb:=⟨h.ds.mka,h.e8⟩
theorem Tq.mkb(h:Tq w0 w K x pd X fl G z u v f a 0 ga gb va vb):Tq w0 (w.alloc (.cells #[v] 160)) K x pd X fl G z u v f a 1 ga w.heap.size va vb:=⟨h.ds.mkb,h.e8⟩
theorem Tq.Vp{p:Option Addr}{n c:Nat}(h:Tq w0 w K x pd X fl G z (.slice p n c) v f 0 b ga gb va vb):∃g w',(Instr.buildSlice 163 1 #[(0,.slice p n c)]).run prog w=.ok (.slice (some ⟨g,0,none⟩) 1 1) w'/\Tq w0 w' K x pd X fl G z (.slice p n c) v f 1 b g gb va vb:=⟨_,_,agv elC _ _ _ _,h.mka⟩
theorem Tq.Mg{p:Option Addr}{n c:Nat}(h:Tq w0 w K x pd X fl G z u (.slice p n c) f a 0 ga gb va vb):∃g w',(Instr.buildSlice 164 1 #[(0,.slice p n c)]).run prog w=.ok (.slice (some ⟨g,0,none⟩) 1 1) w'/\Tq w0 w' K x pd X fl G z u (.slice p n c) f a 1 ga g va vb:=⟨_,_,agv MT _ _ _ _,h.mkb⟩
theorem Tq.Yt(h:Tq w0 w K x pd X fl G z u v f 1 b ga gb va vb)(hw:C.dW f/\f.length<=64)(hn:z.us.length<9000)(hu:∃p n c,u=.slice p n c):∃q n c w',(Builtin.append_ #[163,163] 163 #[z.vt,.slice (some ⟨ga,0,none⟩) 1 1]).run prog w=.ok (.slice q n c) w'/\Tq w0 w' K x pd X fl G z u v f 2 b ga gb (.slice q n c) vb:=by
 obtain ⟨v',w',hr,hd⟩:=h.ds.Yt hw hn hu;obtain ⟨q,c,rfl⟩:=Zq.E.cB (hd.ls (i:=11) (by decide) (by decide) rfl).row;exact⟨q,_,c,w',hr,hd,h.e8⟩
theorem Tq.Ys(h:Tq w0 w K x pd X fl G z u v f a 1 ga gb va vb)(hw:C.dW f/\f.length<=64)(hn:z.ux.length<9000)(hu:∃p n c,v=.slice p n c):∃q n c w',(Builtin.append_ #[164,164] 164 #[z.vw,.slice (some ⟨gb,0,none⟩) 1 1]).run prog w=.ok (.slice q n c) w'/\Tq w0 w' K x pd X fl G z u v f a 2 ga gb va (.slice q n c):=by
 obtain ⟨v',w',hr,hd⟩:=h.ds.Ys hw hn hu;obtain ⟨q,c,rfl⟩:=Zq.E.cB (hd.ls (i:=12) (by decide) (by decide) rfl).row;exact⟨q,_,c,w',hr,hd,h.e8⟩
theorem Tq.bl(h:Tq w0 w K x pd X fl G z u v f a b ga gb va vb):w.heap[G]?=some (.cells (Da K z) 166 (0,0)):=h.ds.bC (i:=8) (by decide) (by decide) h.e8
theorem Tq.f3(h:Tq w0 w K x pd X fl G z u v f a b ga gb va vb):w.frozen? ⟨G,3,none⟩=false:=cX h.bl
theorem Tq.b4(h:Tq w0 w K x pd X fl G z u v f a b ga gb va vb):(w.setCell ⟨G,3,none⟩ va).heap[G]?=some (.cells #[Zq.E.qp K.P,Zq.E.qp z.A,Zq.E.qp z.B,va,z.vw] 166 (0,0)):=by
 rw[bM w G 3 _ 166 (0,0) va h.bl];exact cK w G _ _ 166 (0,0) h.bl
theorem Tq.n4(h:Tq w0 w K x pd X fl G z u v f a b ga gb va vb):(w.setCell ⟨G,3,none⟩ va).cell? ⟨G,4,none⟩=some z.vw:=by rw[aq _ _ _ _ _ _ h.b4];rfl
theorem Tq.g4(h:Tq w0 w K x pd X fl G z u v f a b ga gb va vb):(w.setCell ⟨G,3,none⟩ va).frozen? ⟨G,4,none⟩=false:=cX h.b4
theorem Tq.fin(hE:∀j,13<=j->j<17->E j=.no)(h:Tq w0 w K x pd X fl G z u v f 2 2 ga gb va vb)(hX:XP E K G p fl z=X)(hp:p.Up)(hl:z.us.length=m/\z.ux.length=m):Pl E w0 ((w.setCell ⟨G,3,none⟩ va).setCell ⟨G,4,none⟩ vb) K x pd G z.A z.B p fl (m+1):=by
 have h3:=h.ds.Cw (j:=8) (by decide) (by decide) h.e8 3 va (es:=#[Zq.E.qp K.P,Zq.E.qp z.A,Zq.E.qp z.B,va,z.vw]) rfl;have h4:=h3.Cw (j:=8) (by decide) (by decide) (ax _ _ _) 4 vb (es:=#[Zq.E.qp K.P,Zq.E.qp z.A,Zq.E.qp z.B,va,vb]) rfl;refine⟨⟨z.A,z.B,z.va,z.vb,va,vb,z.us++[u],z.ux++[v],z.fs++[f]⟩,h4.congr fun q _ _=>?_,hp,by simp[hl.1],by simp[hl.2],rfl,rfl⟩;rw[ee];by_cases e8:q=8
 ·subst e8;rfl
 ·by_cases MU:q=11
  ·subst MU;rfl
  ·by_cases Kw:q=12
   ·subst Kw;rfl
   ·rw[af _ _ e8];have e:XP E K G p fl ⟨z.A,z.B,z.va,z.vb,va,vb,z.us++[u],z.ux++[v],z.fs++[f]⟩ q=XP E K G p fl z q:=by
     unfold XP put;simp[e8,MU,Kw]
    rw[e,hX];unfold XT;by_cases e13:q=13
    ·subst e13;rw[<-hX];exact hE 13 (by decide) (by decide)
    ·by_cases e14:q=14
     ·subst e14;rw[<-hX];exact hE 14 (by decide) (by decide)
     ·by_cases e15:q=15
      ·subst e15;rw[<-hX];exact hE 15 (by decide) (by decide)
      ·by_cases e16:q=16
       ·subst e16;rw[<-hX];exact hE 16 (by decide) (by decide)
       ·simp[MU,Kw,e13,e14,e15,e16]
theorem Pl.later{A B:Nat}(h:Pl E w0 w K x pd G A B p fl m)(hb:Below w.heap.size w w'):Pl E w0 w' K x pd G A B p fl m:=by
 obtain ⟨z,hd,r⟩:=h;exact⟨z,hd.later hb,r⟩
theorem MS(h:DS w0 w K x y pd X)(hN:x.a.next<=1000)(h8:8<=i)(eC:i<40)(e:X i=.pp B v p):Calls prog 13 #[Zq.E.qp B,.agg (gl K).toArray] w fun e w'=>e=.returned (.bool ((p.st != 1) || rM x K.c.hi))/\Below w.heap.size w w':=by
 obtain ⟨st,t,L,k⟩:=p;by_cases h1:st=1
 ·subst h1;exact mB h hN h8 eC e
 ·have hs:(st != 1)=true:=by simp[h1]
  have:((st != 1) || rM x K.c.hi)=true:=by rw[hs];rfl
  show Calls _ _ _ _ fun e w'=>e=.returned (.bool ((st != 1) || rM x K.c.hi))/\_;rw[this];exact mC h h8 eC e hs
theorem H_(h:js w B p.rd p.t v p.L)(hp:p.Up):Calls prog 144 #[Zq.E.qp B] w fun e w'=>∃u,e=.returned u/\C.eU 241 w' w.heap.size u (p.L.drop p.k)/\Below w.heap.size w w':=by
 have hr:=hp.rst;obtain ⟨h0,h1⟩:=hp.rd0;by_cases h2:p.st=2
 ·have hd:p.rd=(p.k:Int)+1:=by unfold Pt.rd;rw[h2];rfl
  rw[hd] at h hr;exact Li h (hp.ok.lt h2) (by rw[hr,h2])
 ·rw[hp.rest h2];exact Uj h h0 h1 (by rw[hr];exact h2)
theorem AO{A B:Nat}(hE:∀j,13<=j->j<17->E j=.no)(h:Pl E w0 w K x pd G A B p fl m)(hm:m<=8000)(hN:x.a.next<=1000):Calls prog 79 #[Zq.E.qp G] w fun e w'=>e=.returned (.bool true)/\Pl E w0 w' K x pd G A B p fl (m+2):=by
 have HP:=zH h;have HEE:=zH hE;clear h hE;obtain ⟨st,t,L,k⟩:=p;go_enter func79,ntmps79;go_wp2_with fail
 go_loopw [3] (fun i wr=>∃a:Nat,a<=2/\i=.int .i64 a/\Hid (Pl E w0 wr K x pd G A B ⟨st,t,L,k⟩ fl (m+a))) (fun i _=>2-(intOf i).toNat)
 case atStart=>exact⟨0,by omega,rfl,HP⟩
 case round =>
  obtain ⟨a,ha,rfl,YN⟩:=hrel;clear HP;obtain ⟨z,hd,Kq,CG,Df,hA,hB⟩:=YN.out;have HAB:=rf hA hB;clear hA hB;obtain ⟨X,hX⟩:=zE (XP E K G ⟨st,t,L,k⟩ fl z);rw[hX] at hd;have mJ:Hid (X 8=.bC G 166 (Da K z)):=by show _=_;rw[<-hX];rfl
  have HE9:Hid (X 9=.pt z.A st t z.va L k):=by show _=_;rw[<-hX];rfl
  have abE:Hid (X 10=.rp z.B z.vb ⟨st,t,L,k⟩):=by show _=_;rw[<-hX];rfl
  have anz:Hid (X 11=.ls fl 47 54 z.vt z.us z.fs):=by show _=_;rw[<-hX];rfl
  have anx:Hid (X 12=.ls true 160 241 z.vw z.ux z.fs):=by show _=_;rw[<-hX];rfl
  have Ts:Hid (∀j,13<=j->j<17->X j=.no):=fun j h1 h2=>by rw[<-hX,<-HEE.out j h1 h2];unfold XP put;simp[show j≠8 by omega,show j≠9 by omega,show j≠10 by omega,show j≠11 by omega,show j≠12 by omega]
  have CB:=zH Kq;have YQ:=rf CG Df;have pw:=(hd.pt (i:=9) (by decide) (by decide) HE9.out).wf;obtain ⟨f,hf⟩:=zE (L.drop k);have HF:=zH hf;have Au:Hid (C.dW f/\f.length<=64):=⟨fun q hq=>pw q (fE (hf ▸ hq)),by have:=Kq.nR;rw[<-hf,cN];exact bJ (Nat.sub_le _ _) this⟩
  clear hf;have HX:=zH hX;clear Kq CG Df pw hX;by_cases eP:a<2
  ·have HD:Hid (DS w0 wr.drew K x x pd X):=hd.later (av 1);clear hd YN;go_wp2_with fail;refine zR (fun W=>DS w0 W K x x pd X) HD.out fun aa=>?_;generalize wr.drew=w3 at *;refine gh 0 1 2 aa ?_;refine de 3 aa (fun _ s=>s.pl1 mJ.out) ?_;refine gh 5 6 7 aa ?_;refine de 8 aa (fun _ s=>s.pl2 mJ.out) ?_;refine iA 4 fun Kc aJ=>?_;go_simp;refine (C.IK (HD.out.pst (i:=9) (by decide) (by decide) HE9.out) (by rw[HF.out];exact Au.out.2)).mono ?_;rintro e' w4 ⟨u,rfl,ou,b4⟩;rw[HF.out] at ou;have yA:=HD.out.fresh b4 (k:=13) (by decide) (u:=.row 54 34 u f.length (C.EC f)) (fun _=>sL ou) (fun b hb=>(fQ ou b hb).1);have HU:=zH (Zq.E.cB ou);have gM:=zH yA;clear yA ou b4;refine aJ.out _ _ (gM.out.GR (Ts.out 13 (by decide) (by decide))) (fun aa=>?_);clear aJ Kc;refine iA 9 fun Kc aJ=>?_;go_simp;refine (H_ (aa.gT (i:=10) (by decide) (by decide) abE.out) CB.out).mono ?_;rintro e' w5 ⟨v,rfl,ov,b5⟩;replace ov:C.eU 241 w5 w4.heap.size v f:=by rw[<-HF.out];exact ov
   have Jn:=gM.out.fresh b5 (k:=14) (by decide) (u:=.row 241 34 v f.length (C.EC f)) (fun _=>sL ov) (fun b hb=>(fQ ov b hb).1);have HV:=zH (Zq.E.cB ov);have qZ:Hid (DS w0 w5 K x x pd (XT X fl z u v f 0 0 0 0 v v)):=Jn.congr fun q _ _=>by
    unfold XT put;by_cases e1:q=11
    ·subst e1;exact anz.out.symm
    ·by_cases e2:q=12
     ·subst e2;exact anx.out.symm
     ·by_cases e3:q=13
      ·subst e3;rfl
      ·by_cases e4:q=14
       ·subst e4;rfl
       ·by_cases e5:q=15
        ·subst e5;exact (Ts.out 15 (by decide) (by decide)).symm
        ·by_cases e6:q=16
         ·subst e6;exact (Ts.out 16 (by decide) (by decide)).symm
         ·simp[e1,e2,e3,e4,e5,e6]
   have b5':=aa.later b5;clear Jn ov b5 gM;refine aJ.out _ _ b5' (fun aa=>?_);clear b5';clear aJ Kc;refine fI 10 11 aa ?_;clear aa;refine zD ?_;clear aa HD;have p5:=qZ.out.pl1 mJ.out;go_wp2_with fail;refine (afd (qZ.out.pt (i:=9) (by decide) (by decide) HE9.out)).mono ?_;rintro e' w6 ⟨rfl,m6,rfl⟩;have pg:Hid (DS w0 (w5.drewN m6) K x x pd (XT X fl z u v f 0 0 0 0 v v)):=qZ.out.later (av m6);clear qZ p5;generalize w5.drewN m6=w6 at *;have p6:=pg.out.pl2 mJ.out;go_wp2_with fail;refine (ZH (pg.out.gT (i:=10) (by decide) (by decide) abE.out)).mono ?_;rintro e' w7 ⟨rfl,m7,rfl⟩;have kR:Hid (DS w0 (w6.drewN m7).drew K x x pd (XT X fl z u v f 0 0 0 0 v v)):=(pg.out.later (av m7)).later (av 1);clear pg p6;generalize w6.drewN m7=w7 at *;have CJ:=Av CB.out.rd0.1 CB.out.rd0.2 CB.out.rst;have RG:=CB.out.aim;rw[RG];show _;have acn:=CB.out.idle;have BX:(st != 1)=true\/(st != 1)=false/\t=0:=by
    by_cases h1:st=1
    ·exact .inr ⟨by simp[h1],(acn h1).1⟩
    ·exact .inl (by simp[h1])
   rcases BX with BX | ⟨BX,rfl⟩;all_goals
    clear RG acn;rw[BX];go_wp2_with fail;refine zR (fun W=>DS w0 W K x x pd (XT X fl z u v f 0 0 0 0 v v)) kR.out fun aa=>?_;generalize w7.drew=w8 at *;refine gh 0 1 2 aa ?_;refine de 3 aa (fun _ s=>s.pl1 mJ.out) ?_;refine gh 5 6 7 aa ?_;refine de 8 aa (fun _ s=>s.pl2 mJ.out) ?_;refine iA 4 fun Kc aJ=>?_;go_simp;refine (vX (aa.pt (i:=9) (by decide) (by decide) HE9.out)).mono ?_;rintro e' w' ⟨rfl,hw'⟩;subst w';refine aJ.out _ _ aa (fun aa=>?_);clear aJ Kc;refine iA 9 fun Kc aJ=>?_;go_simp;refine (qA (aa.gT (i:=10) (by decide) (by decide) abE.out) CJ.out.1 CJ.out.2.1).mono ?_;rintro e' w9 ⟨rfl,b9⟩;rw[CJ.out.2.2];have qt:=zH (aa.later b9);clear b9 kR;refine aJ.out _ _ qt.out (fun aa=>?_);clear aJ Kc;refine gu 10 11 12 13 aa ?_;refine iA 14 fun Kc aJ=>?_;go_simp;obtain ⟨pu,cu,hpu⟩:=HU.out;obtain ⟨pv,cv,hpv⟩:=HV.out;have eu:C.lC w9 pu f.length f:=by
     obtain ⟨p',c',e',h',-⟩:=C.eU.in (te:=54) (B:=0) (qt.out.abU (i:=13) (by decide) (by decide) rfl) Au.out.1;rw[hpu] at e';cases e';exact h'
    have ev:C.lC w9 pv f.length f:=by
     obtain ⟨p',c',e',h',-⟩:=C.eU.in (te:=241) (B:=0) (qt.out.abU (i:=14) (by decide) (by decide) rfl) Au.out.1;rw[hpv] at e';cases e';exact h'
    rw[hpu,hpv];refine (v_ eu ev Au.out.2).mono ?_;rw[<-hpu,<-hpv];rintro e' wa ⟨rfl,ba⟩;have rP:=zH (qt.out.later ba);clear ba qt eu ev hpu hpv;refine aJ.out _ _ rP.out (fun aa=>?_);clear aJ Kc;refine gu 15 16 17 18 aa ?_;refine gu 19 20 21 22 aa ?_;refine fI 23 24 aa ?_;first | refine tk 25 aa ?_ | refine dA 25 aa ?_
    first | refine tk 26 aa ?_ | refine dA 26 aa ?_
    first | refine tk 27 aa ?_ | refine dA 27 aa ?_
    refine gu 28 29 30 31 aa ?_;refine fI 32 33 aa ?_;first | refine tk 34 aa ?_ | refine dA 34 aa ?_
    first | refine tk 35 aa ?_ | refine dA 35 aa ?_
    refine fI 36 37 aa ?_;clear aa;refine zD ?_;clear aa;obtain ⟨pu,cu,rfl⟩:=HU.out;obtain ⟨pv,cv,rfl⟩:=HV.out;clear HU HV;have HT:Hid (Tq w0 wa.drew K x pd X fl G z (.slice pu f.length cu) (.slice pv f.length cv) f 0 0 0 0 (.slice pv f.length cv) (.slice pv f.length cv)):=⟨rP.out.later (av 1),mJ.out⟩
    have aa:=HT.out.c4;have l1:z.us.length<9000:=by rw[YQ.out.1];omega
    have l2:z.ux.length<9000:=by rw[YQ.out.2];omega
    clear rP;go_wp2_with fail;refine jg ?_;refine jX 21 (fun W=>W.cell? ⟨G,4,none⟩=some z.vw) (by kernel_rfl) ?_;generalize wa.drew=wb at *;refine NJ 0 aa (fun _ s=>s) ?_;refine NJ 1 aa (fun _ s=>s) ?_;refine NJ 2 aa (fun _ s=>s) ?_;refine NJ 3 aa (fun _ s=>s) ?_;refine NJ 4 aa (fun _ s=>s) ?_;refine NJ 6 aa (fun _ s=>s) ?_;refine NJ 9 aa (fun _ s=>s) ?_;refine NJ 10 aa (fun _ s=>s) ?_;refine NJ 11 aa (fun _ s=>s) ?_;refine NJ 12 aa (fun _ s=>s) ?_;refine NJ 13 aa (fun _ s=>s) ?_;clear aa;refine ry3 5 7 14 (fun Kc aJ=>?_) (fun Kc aJ=>?_) (fun Kc aJ=>?_);have z3:=HT.out.c3;go_simp;refine aJ.out _ _ (fun _=>HT.out.c4) ?_;clear aJ Kc z3;refine ry2 7 14 (fun Kc aJ=>?_) (fun Kc aJ=>?_);obtain ⟨ga,w7,je,fB⟩:=HT.out.Vp;refine C.eT (by rfl) 163 rfl rfl je ?_;simp only[Act.put];refine aJ.out _ _ (fun _=>fB.c4) ?_;replace HT:Hid (_):=fB;clear aJ Kc je fB;refine ry2 8 14 (fun Kc aJ=>?_) (fun Kc aJ=>?_);obtain ⟨q8,n8,c8,w8,je,fB⟩:=HT.out.Yt Au.out l1 ⟨_,_,_,rfl⟩;refine C.cM (by rfl) _ _ 163 163 rfl _ _ rfl rfl je ?_;simp only[Act.put];refine aJ.out _ _ (fun _=>fB.c4) ?_;replace HT:Hid (_):=fB;clear aJ Kc je fB;refine Ba 14 (fun Kc aJ=>?_);obtain ⟨gb,w14,je,fB⟩:=HT.out.Mg;refine C.eT (by rfl) 164 rfl rfl je ?_;simp only[Act.put];refine aJ.out _ _ (fun _=>fB.c4) ?_;replace HT:Hid (_):=fB;clear aJ Kc je fB;refine Ba 15 (fun Kc aJ=>?_);obtain ⟨q9,n9,c9,w9,je,fB⟩:=HT.out.Ys Au.out l2 ⟨_,_,_,rfl⟩;refine C.cM (by rfl) _ _ 164 164 rfl _ _ rfl rfl je ?_;simp only[Act.put];refine aJ.out _ _ (fun _=>fB.c4) ?_;replace HT:Hid (_):=fB;clear aJ Kc je fB
    rotate_left
    obtain ⟨gb,w14,je,fB⟩:=HT.out.Mg;refine C.eT (by rfl) 164 rfl rfl je ?_;simp only[Act.put];refine aJ.out _ _ (fun _=>fB.c4) ?_;replace HT:Hid (_):=fB;clear aJ Kc je fB;refine Ba 8 (fun Kc aJ=>?_);obtain ⟨q8,n8,c8,w8,je,fB⟩:=HT.out.Yt Au.out l1 ⟨_,_,_,rfl⟩;refine C.cM (by rfl) _ _ 163 163 rfl _ _ rfl rfl je ?_;simp only[Act.put];refine aJ.out _ _ (fun _=>fB.c4) ?_;replace HT:Hid (_):=fB;clear aJ Kc je fB;refine Ba 15 (fun Kc aJ=>?_);obtain ⟨q9,n9,c9,w9,je,fB⟩:=HT.out.Ys Au.out l2 ⟨_,_,_,rfl⟩;refine C.cM (by rfl) _ _ 164 164 rfl _ _ rfl rfl je ?_;simp only[Act.put];refine aJ.out _ _ (fun _=>fB.c4) ?_;replace HT:Hid (_):=fB;clear aJ Kc je fB
    rotate_left
    obtain ⟨gb,w14,je,fB⟩:=HT.out.Mg;refine C.eT (by rfl) 164 rfl rfl je ?_;simp only[Act.put];refine aJ.out _ _ (fun _=>fB.c4) ?_;replace HT:Hid (_):=fB;clear aJ Kc je fB;refine Ba 7 (fun Kc aJ=>?_);obtain ⟨ga,w7,je,fB⟩:=HT.out.Vp;refine C.eT (by rfl) 163 rfl rfl je ?_;simp only[Act.put];refine aJ.out _ _ (fun _=>fB.c4) ?_;replace HT:Hid (_):=fB;clear aJ Kc je fB;refine Ba 8 (fun Kc aJ=>?_);obtain ⟨q8,n8,c8,w8,je,fB⟩:=HT.out.Yt Au.out l1 ⟨_,_,_,rfl⟩;refine C.cM (by rfl) _ _ 163 163 rfl _ _ rfl rfl je ?_;simp only[Act.put];refine aJ.out _ _ (fun _=>fB.c4) ?_;replace HT:Hid (_):=fB;clear aJ Kc je fB;refine Ba 15 (fun Kc aJ=>?_);obtain ⟨q9,n9,c9,w9,je,fB⟩:=HT.out.Ys Au.out l2 ⟨_,_,_,rfl⟩;refine C.cM (by rfl) _ _ 164 164 rfl _ _ rfl rfl je ?_;simp only[Act.put];refine aJ.out _ _ (fun _=>fB.c4) ?_;replace HT:Hid (_):=fB;clear aJ Kc je fB
    rotate_left
    obtain ⟨ga,w7,je,fB⟩:=HT.out.Vp;refine C.eT (by rfl) 163 rfl rfl je ?_;simp only[Act.put];refine aJ.out _ _ (fun _=>fB.c4) ?_;replace HT:Hid (_):=fB;clear aJ Kc je fB;refine ry2 5 14 (fun Kc aJ=>?_) (fun Kc aJ=>?_);have z3:=HT.out.c3;go_simp;refine aJ.out _ _ (fun _=>HT.out.c4) ?_;clear aJ Kc z3;refine ry2 8 14 (fun Kc aJ=>?_) (fun Kc aJ=>?_);obtain ⟨q8,n8,c8,w8,je,fB⟩:=HT.out.Yt Au.out l1 ⟨_,_,_,rfl⟩;refine C.cM (by rfl) _ _ 163 163 rfl _ _ rfl rfl je ?_;simp only[Act.put];refine aJ.out _ _ (fun _=>fB.c4) ?_;replace HT:Hid (_):=fB;clear aJ Kc je fB;refine Ba 14 (fun Kc aJ=>?_);obtain ⟨gb,w14,je,fB⟩:=HT.out.Mg;refine C.eT (by rfl) 164 rfl rfl je ?_;simp only[Act.put];refine aJ.out _ _ (fun _=>fB.c4) ?_;replace HT:Hid (_):=fB;clear aJ Kc je fB;refine Ba 15 (fun Kc aJ=>?_);obtain ⟨q9,n9,c9,w9,je,fB⟩:=HT.out.Ys Au.out l2 ⟨_,_,_,rfl⟩;refine C.cM (by rfl) _ _ 164 164 rfl _ _ rfl rfl je ?_;simp only[Act.put];refine aJ.out _ _ (fun _=>fB.c4) ?_;replace HT:Hid (_):=fB;clear aJ Kc je fB
    rotate_left
    obtain ⟨gb,w14,je,fB⟩:=HT.out.Mg;refine C.eT (by rfl) 164 rfl rfl je ?_;simp only[Act.put];refine aJ.out _ _ (fun _=>fB.c4) ?_;replace HT:Hid (_):=fB;clear aJ Kc je fB;refine Ba 8 (fun Kc aJ=>?_);obtain ⟨q8,n8,c8,w8,je,fB⟩:=HT.out.Yt Au.out l1 ⟨_,_,_,rfl⟩;refine C.cM (by rfl) _ _ 163 163 rfl _ _ rfl rfl je ?_;simp only[Act.put];refine aJ.out _ _ (fun _=>fB.c4) ?_;replace HT:Hid (_):=fB;clear aJ Kc je fB;refine Ba 15 (fun Kc aJ=>?_);obtain ⟨q9,n9,c9,w9,je,fB⟩:=HT.out.Ys Au.out l2 ⟨_,_,_,rfl⟩;refine C.cM (by rfl) _ _ 164 164 rfl _ _ rfl rfl je ?_;simp only[Act.put];refine aJ.out _ _ (fun _=>fB.c4) ?_;replace HT:Hid (_):=fB;clear aJ Kc je fB
    rotate_left
    obtain ⟨gb,w14,je,fB⟩:=HT.out.Mg;refine C.eT (by rfl) 164 rfl rfl je ?_;simp only[Act.put];refine aJ.out _ _ (fun _=>fB.c4) ?_;replace HT:Hid (_):=fB;clear aJ Kc je fB;refine Ba 5 (fun Kc aJ=>?_);have z3:=HT.out.c3;go_simp;refine aJ.out _ _ (fun _=>HT.out.c4) ?_;clear aJ Kc z3;refine Ba 8 (fun Kc aJ=>?_);obtain ⟨q8,n8,c8,w8,je,fB⟩:=HT.out.Yt Au.out l1 ⟨_,_,_,rfl⟩;refine C.cM (by rfl) _ _ 163 163 rfl _ _ rfl rfl je ?_;simp only[Act.put];refine aJ.out _ _ (fun _=>fB.c4) ?_;replace HT:Hid (_):=fB;clear aJ Kc je fB;refine Ba 15 (fun Kc aJ=>?_);obtain ⟨q9,n9,c9,w9,je,fB⟩:=HT.out.Ys Au.out l2 ⟨_,_,_,rfl⟩;refine C.cM (by rfl) _ _ 164 164 rfl _ _ rfl rfl je ?_;simp only[Act.put];refine aJ.out _ _ (fun _=>fB.c4) ?_;replace HT:Hid (_):=fB;clear aJ Kc je fB
    rotate_left
    obtain ⟨gb,w14,je,fB⟩:=HT.out.Mg;refine C.eT (by rfl) 164 rfl rfl je ?_;simp only[Act.put];refine aJ.out _ _ (fun _=>fB.c4) ?_;replace HT:Hid (_):=fB;clear aJ Kc je fB;refine ry2 5 7 (fun Kc aJ=>?_) (fun Kc aJ=>?_);have z3:=HT.out.c3;go_simp;refine aJ.out _ _ (fun _=>HT.out.c4) ?_;clear aJ Kc z3;refine Ba 7 (fun Kc aJ=>?_);obtain ⟨ga,w7,je,fB⟩:=HT.out.Vp;refine C.eT (by rfl) 163 rfl rfl je ?_;simp only[Act.put];refine aJ.out _ _ (fun _=>fB.c4) ?_;replace HT:Hid (_):=fB;clear aJ Kc je fB;refine Ba 8 (fun Kc aJ=>?_);obtain ⟨q8,n8,c8,w8,je,fB⟩:=HT.out.Yt Au.out l1 ⟨_,_,_,rfl⟩;refine C.cM (by rfl) _ _ 163 163 rfl _ _ rfl rfl je ?_;simp only[Act.put];refine aJ.out _ _ (fun _=>fB.c4) ?_;replace HT:Hid (_):=fB;clear aJ Kc je fB;refine Ba 15 (fun Kc aJ=>?_);obtain ⟨q9,n9,c9,w9,je,fB⟩:=HT.out.Ys Au.out l2 ⟨_,_,_,rfl⟩;refine C.cM (by rfl) _ _ 164 164 rfl _ _ rfl rfl je ?_;simp only[Act.put];refine aJ.out _ _ (fun _=>fB.c4) ?_;replace HT:Hid (_):=fB;clear aJ Kc je fB
    rotate_left
    obtain ⟨ga,w7,je,fB⟩:=HT.out.Vp;refine C.eT (by rfl) 163 rfl rfl je ?_;simp only[Act.put];refine aJ.out _ _ (fun _=>fB.c4) ?_;replace HT:Hid (_):=fB;clear aJ Kc je fB;refine Ba 5 (fun Kc aJ=>?_);have z3:=HT.out.c3;go_simp;refine aJ.out _ _ (fun _=>HT.out.c4) ?_;clear aJ Kc z3;refine Ba 8 (fun Kc aJ=>?_);obtain ⟨q8,n8,c8,w8,je,fB⟩:=HT.out.Yt Au.out l1 ⟨_,_,_,rfl⟩;refine C.cM (by rfl) _ _ 163 163 rfl _ _ rfl rfl je ?_;simp only[Act.put];refine aJ.out _ _ (fun _=>fB.c4) ?_;replace HT:Hid (_):=fB;clear aJ Kc je fB;refine Ba 15 (fun Kc aJ=>?_);obtain ⟨q9,n9,c9,w9,je,fB⟩:=HT.out.Ys Au.out l2 ⟨_,_,_,rfl⟩;refine C.cM (by rfl) _ _ 164 164 rfl _ _ rfl rfl je ?_;simp only[Act.put];refine aJ.out _ _ (fun _=>fB.c4) ?_;replace HT:Hid (_):=fB;clear aJ Kc je fB
    rotate_left
    all_goals
     have aa:=HT.out.c4;refine NJ 16 aa (fun _ s=>s) ?_;refine NJ 17 aa (fun _ s=>s) ?_;clear aa;refine Ba 18 (fun Kc aJ=>?_);have c3:=HT.out.c3;have f3:=HT.out.f3;go_simp;refine aJ.out _ _ (fun _=>HT.out.n4) ?_;clear aJ Kc c3 f3;refine Ba 19 (fun Kc aJ=>?_);go_simp;refine aJ.out _ _ (fun _=>HT.out.n4) ?_;clear aJ Kc;have aa:=HT.out.n4;refine NJ 20 aa (fun _ s=>s) ?_;refine Ba 21 (fun Kc aJ=>?_);have g4:=HT.out.g4;go_simp;refine aJ.out _ _ (fun h=>absurd rfl h) ?_;clear aJ Kc g4 aa;refine jY (by kernel_rfl) (lq ?_) _;have hpn:=HT.out.fin HEE.out HX.out CB.out YQ.out;rw[HAB.out.1,HAB.out.2] at hpn;have HPn:=zH hpn;clear HT hpn;generalize (w9.setCell ⟨G,3,none⟩ (.slice q8 n8 c8)).setCell ⟨G,4,none⟩ (.slice q9 n9 c9)=wz at *;go_wp2_with fail;go_roundw
     case rel=>exact⟨a+1,by omega,by go_num,HPn⟩
     case measure=>simp[intOf];omega
  ·have e2:a=2:=by omega
   have HD:Hid (DS w0 wr.drew K x x pd X):=hd.later (av 1);have HP3:Hid (Pl E w0 wr.drew K x pd G A B ⟨st,t,L,k⟩ fl (m+a)):=YN.out.later (av 1);clear hd YN;go_wp2_with fail;refine zR (fun W=>DS w0 W K x x pd X) HD.out fun aa=>?_;generalize wr.drew=w3 at *;refine gh 0 1 2 aa ?_;refine de 3 aa (fun _ s=>s.pl1 mJ.out) ?_;refine gh 4 5 6 aa ?_;refine de 7 aa (fun _ s=>s.Gz mJ.out) ?_;refine fI 8 9 aa ?_;refine GU 10 aa (fun _ s=>s.ldk) ?_;refine gh 12 13 14 aa ?_;refine de 15 aa (fun _ s=>s.pl2 mJ.out) ?_;refine gh 16 17 18 aa ?_;refine de 19 aa (fun _ s=>s.Gz mJ.out) ?_;refine fI 20 21 aa ?_;refine GU 22 aa (fun _ s=>s.lrk) ?_;refine iA 11 fun Kc aJ=>?_;go_simp;refine (MS (p:=⟨st,t,L,k⟩) aa hN (i:=9) (by decide) (by decide) HE9.out).mono ?_;rintro e' w4 ⟨rfl,b4⟩;have HP4:=zH (HP3.out.later b4);have h4:=aa.later b4;clear b4 HP3;refine aJ.out _ _ h4 (fun aa=>?_);clear h4;clear aJ Kc;refine iA 23 fun Kc aJ=>?_;go_simp;refine (yT aa hN (i:=10) (by decide) (by decide) abE.out CB.out.rd0.1).mono ?_;rintro e' w5 ⟨rfl,b5⟩;rw[CB.out.aim];have Yf:=zH (HP4.out.later b5);have h4:=aa.later b5;clear b5 HP4;refine aJ.out _ _ h4 (fun aa=>?_);clear h4;clear aJ Kc;refine fI 24 25 aa ?_;clear aa;refine zD ?_;go_wp2;go_ret;refine⟨by simp,?_⟩;have:=Yf.out;rw[e2] at this;exact this
end
abbrev Fz (K:Ks):List Value:=aN K.c++[Zq.E.qp K.dp,Zq.E.qp K.lp,Zq.E.qp K.ap,.pointer none]
section
variable {w0 w w':World} {K:Ks} {x y:Sx} {pd:List Cm} {X:Nat->Th} {i j B G m:Nat} {fl:Bool} {z:Pg} {v:Value} {p:Pt} {hi:Int}
theorem GN(w:World)(K:Ks):Calls prog 35 #[.agg (Fz K).toArray] w fun e w'=>e=.returned (.bool false)/\Below w.heap.size w w':=by
 have h:(w.alloc (.cells (Fz K).toArray 37)).heap[w.heap.size]?=some (.cells (Fz K).toArray 37 (0,0)):=aG w _;have a1:(w.alloc (.cells (Fz K).toArray 37)).cell? ⟨w.heap.size,5,none⟩=some (Zq.E.qp K.dp):=by rw[aq _ _ _ _ _ _ h];rfl
 have a2:(w.alloc (.cells (Fz K).toArray 37)).cell? ⟨w.heap.size,6,none⟩=some (Zq.E.qp K.lp):=by rw[aq _ _ _ _ _ _ h];rfl
 have a3:(w.alloc (.cells (Fz K).toArray 37)).cell? ⟨w.heap.size,7,none⟩=some (Zq.E.qp K.ap):=by rw[aq _ _ _ _ _ _ h];rfl
 have a4:(w.alloc (.cells (Fz K).toArray 37)).cell? ⟨w.heap.size,8,none⟩=some (.pointer none):=by rw[aq _ _ _ _ _ _ h];rfl
 have b:=ag w (.cells (Fz K).toArray 37);clear h;go_enter func35,ntmps35;go_wp2;go_ret;exact⟨rfl,b⟩
theorem Ac{w:World}{B:Nat}{ds:List Value}(h:w.heap[B]?=some (.cells ds.toArray 37 (0,0)))(hl:ds.length=9):(Instr.loadAt 37 (.pointer (some ⟨B,0,none⟩))).run prog w=.ok (.agg ds.toArray) w:=b_ w B 0 37 ds _ (bE.range (t:=37) h) underlying37 rfl (by rw[zQ,hl])
theorem MR(w:World)(B:Nat)(K:Ks):Calls prog 13 #[Zq.E.qp B,.agg (Fz K).toArray] w fun e w'=>e=.returned (.bool false)/\Below w.heap.size w w':=by
 obtain ⟨r,hr⟩:=zE w.heap.size;obtain ⟨w1,dZ⟩:=zE (w.alloc (.cells (Fz K).toArray 37));have b1:Below w.heap.size w w1:=by rw[<-dZ];exact ag w _
 have hD:w1.heap[r]?=some (.cells (Fz K).toArray 37 (0,0)):=by rw[<-dZ,<-hr];exact aG w _
 have jk:Hid (_):=Ac hD rfl;have gj:=zH b1;clear b1 hD;go_enter func13,ntmps13;go_wp2_with ((with_reducible refine aQ ?_);(refine lJ 37 jk.out ?_))
 refine (GN w1 K).mono ?_;rintro e' w2 ⟨rfl,b2⟩;have gD:Hid (Below w.heap.size w w2):=ah gj.out b2;clear b2 gj dZ jk;go_wp2;go_ret;exact⟨rfl,gD.out⟩
theorem NN(w:World)(B:Nat)(K:Ks):Calls prog 16 #[Zq.E.qp B,.agg (Fz K).toArray] w fun e w'=>e=.returned (.tuple #[.agg dx.toArray,.int .i64 1])/\Below w.heap.size w w':=by
 obtain ⟨r,hr⟩:=zE w.heap.size;obtain ⟨w1,dZ⟩:=zE (w.alloc (.cells (Fz K).toArray 37));obtain ⟨w2,gz⟩:=zE (w1.alloc (.cells dx.toArray 61));have s1:w1.heap.size=r+1:=by rw[<-dZ,a_,hr]
 have b1:Below w.heap.size w w1:=by rw[<-dZ];exact ag w _
 have b2:Below w1.heap.size w1 w2:=by rw[<-gz];exact ag w1 _
 have l2:bE 61 w2 (r+1) dx:=by rw[<-gz,<-s1];exact bE.new _ _ _
 have jw:Hid ((Instr.alloc 61 true (.tuple #[])).run prog w1=.ok (.pointer (some ⟨r+1,0,none⟩)) w2):=by
  have:=dY w1;rw[s1,gz] at this;exact this
 have hD:w2.heap[r]?=some (.cells (Fz K).toArray 37 (0,0)):=by
  refine (b2.block r (by omega)).trans ?_;rw[<-dZ,<-hr];exact aG w _
 have jk:Hid (_):=Ac hD rfl;have HL2:=zH l2;have gD:Hid (Below w.heap.size w w2):=ah b1 b2;clear b1 b2 l2 gz s1 hD;go_enter func16,ntmps16;go_wp2_with ((with_reducible refine aQ ?_);(first | (refine xk 61 jw.out ?_) | (refine lJ 37 jk.out ?_)))
 refine (GN w2 K).mono ?_;rintro e' w3 ⟨rfl,b3⟩;have HL:=zH (bE.later HL2.out b3);have HB:Hid (Below w.heap.size w w3):=ah gD.out b3;clear b3 HL2 gD jw jk;have pI:=zH (g_ w3);have jf:Hid ((Instr.storeAt 61 (.pointer (some ⟨r+1,0,none⟩)) (.agg dx.toArray)).run prog w3=.ok () (w3.setRow (r+1) dx.toArray)):=dB HL.out (bI (bG 32)) (dQ _ _ _ _ _);have nS:Hid (bE 61 (w3.setRow (r+1) dx.toArray) (r+1) dx):=bE.stored HL.out _;have nu:Hid (Below w.heap.size w (w3.setRow (r+1) dx.toArray)):=below_setRow HB.out (by omega) _;clear HL HB;generalize w3.setRow (r+1) dx.toArray=wz at *;go_wp2_with ((with_reducible refine aQ ?_);(first | ((refine bh (vs:=[]) (by rfl) 61 rfl (by rfl) pI.out ?_);simp only[Act.put,zA,zB,zC]) | (refine qo 61 jf.out ?_)))
 (try simp only[Exit.inBlock,Exit.then]);exact cC (C.dJ results16 _ _ (r+1) 61 _ _ (by rfl) nS.out dP rfl (by rw[eG,bI (bG 32)])) rfl ⟨rfl,nu.out⟩
theorem P_(hp:p.Up)(hw:C.dW p.L)(hi:Int)(x:Sx):∃k b v q c,(iI hi x p).1=cH k b v q c/\v.length=32/\((iI hi x p).2.1≠0->(iI hi x p).1=dx):=by
 have z32:=bG 32;have r0:∀e:Int,∃k b v q c,dx=cH k b v q c/\v.length=32/\(e≠0->dx=dx):=fun e=>⟨_,_,_,_,_,rfl,z32,fun _=>rfl⟩
 unfold iI;split
 ·rename_i h2;unfold yM;split
  ·refine⟨_,_,_,_,_,rfl,?_,fun h=>absurd rfl h⟩;rw[eS (hp.ok.lt h2)];exact (hw _ (eA _)).len
  ·exact r0 _
 ·split
  ·exact⟨_,_,_,_,_,rfl,z32,fun h=>absurd rfl h⟩
  ·split
   ·unfold zu;split
    ·exact r0 _
    ·exact⟨_,_,_,_,_,rfl,z32,fun h=>absurd rfl h⟩
   ·split
    ·unfold ku;split
     ·exact⟨_,_,_,_,_,rfl,z32,fun h=>absurd rfl h⟩
     ·exact r0 _
    ·unfold tu;split
     ·exact⟨_,_,_,_,_,rfl,z32,fun h=>absurd rfl h⟩
     ·exact r0 _
