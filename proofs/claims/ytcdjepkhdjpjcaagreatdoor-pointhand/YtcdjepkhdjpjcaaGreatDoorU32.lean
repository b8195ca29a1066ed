import Derived.Test.YtcdjepkhdjpjcaaGreatDoorU31
set_option maxHeartbeats 20000000
set_option maxRecDepth 100000
namespace Go.Proofs.Zq.Q
open Go.Proofs.Tryz
open Go.RowKit
section
variable {w0 w w':World} {K:Ks} {x y:Sx} {pd:List Cm} {X:Nat->Th} {i B k:Nat} {st t:Int} {v:Value} {L:List C.En}
theorem It(w:World)(b:Nat):C.eU 54 w b (.slice none 0 0) []:=⟨rfl,.inl ⟨rfl,rfl⟩⟩
theorem DS.adu(h:DS w0 w K x y pd X)(h8:8<=i)(eC:i<40)(e:X i=.pt B st t v L k):DS w0 (w.setRow B #[.int .i64 1,.int .u64 0,.slice none 0 0,.int .i64 0]) K x y pd (put X i (.pt B 1 0 (.slice none 0 0) [] 0)):=by
 refine h.yQ h8 eC (fun G at'=>?_) (lV w B _) (fun b hb=>by rw[e];exact hb) (fun b hb=>by rw[e];exact .inl hb);have a:=at' i h8 eC;rw[e] at a;exact⟨⟨cK w B _ _ 87 (0,0) a.1.st,It _ _,C.dW.nil,by decide,az _⟩,fun g hg=>by cases hg⟩
theorem Fi:(prog.info? 87).map (·.size)=some 4:=by kernel_rfl
theorem Xt(w:World):(Instr.build 87 #[(0,.int .i64 1)]).run prog w=.ok (.agg #[.int .i64 1,.int .u64 0,.slice none 0 0,.int .i64 0]) w:=eo w 87 _ _ (by kernel_rfl)
theorem nD{g:Nat}{ds:List Value}{ty:TypeId}(h:bE ty w g ds)(hl:ds.length=41):(Instr.loadAt 61 (.pointer (some ⟨g,0,none⟩))).run prog w=.ok (.agg ds.toArray) w:=b_ w g 0 61 ds _ (bE.range h) dP rfl (by rw[eG,hl])
theorem RK{x':Sx}{n:Int}(HX':Hid ((x.WG.frd n).drp L=x'))(HN:Hid (x.g.mark-x.g.tail=n))(h:DS w0 w K x y pd X)(hk:x.ws.length<=100000)(h8:8<=i)(Kv:i<36)(e:X i=.pt B st t v L k)(yH:X 36=.no)(yG:X 37=.no)(dm:(x.g.mark != t)=false)(d2:decide (x.a.used<t-x.g.tail)=false):Calls prog 47 #[E.qp B,.agg (gl K).toArray] w fun e w'=>e=.returned (.tuple #[.agg (cH 17 (-1) zv t n).toArray,.int .i64 0])/\DS w0 w' K x' y pd (put X i (.pt B 1 0 (.slice none 0 0) [] 0)):=by
 have hu:=sx h.lU;have Yy:x.g.mark=t:=by simpa using dm
 have hg1:=h.lU.g.t0;have Wq:x.g.tail<=t:=Yy ▸ h.lU.g.tm;have hg3:t<=4611686018427387904:=Yy ▸ Int.le_trans h.lU.g.mf h.lU.g.fM;clear Yy;have dZ:IntKind.u64.wrap x.a.used=x.a.used:=ri (by omega) (by omega);have gz:IntKind.u64.wrap (t-x.g.tail)=t-x.g.tail:=ri (by omega) (by omega);obtain ⟨r,hr⟩:=zE w.heap.size;obtain ⟨w2,gz⟩:=zE ((w.alloc (.cells (gl K).toArray 37)).alloc (.cells dx.toArray 61));have fh:Hid (DS w0 w2 K x y pd (X2 X r K)):=by rw[<-gz,<-hr];exact h.two
 have jw:Hid ((Instr.alloc 61 true (.tuple #[])).run prog (w.alloc (.cells (gl K).toArray 37))=.ok (.pointer (some ⟨r+1,0,none⟩)) w2):=by
  have:=dY (w.alloc (.cells (gl K).toArray 37));rw[a_,hr,gz] at this;exact this
 have HE:Hid (∀j,j≠36->j≠37->X2 X r K j=X j):=fun j a b=>(af _ _ b).trans (af _ _ a);clear h gz;go_enter func47,ntmps47;go_wp2_with ((with_reducible refine aQ ?_);(refine xk 61 jw.out ?_))
 have HI:Hid (X2 X r K i=.pt B st t v L k):=(HE.out i (by omega) (by omega)).trans e;have fu:Hid (DS w0 w2.drew K x y pd (X2 X r K)):=fh.out.later (av 1);clear fh jw;refine zR (fun W=>ia W r K/\C.lS W B st t v L k) ⟨fu.out.ni rfl,fu.out.pt h8 (by omega) HI.out⟩ fun aa=>?_;generalize w2.drew=w3 at *;refine tk 0 aa ?_;refine de 1 aa (fun _ s=>s.1.lp) ?_;refine gh 3 4 5 aa ?_;refine de 6 aa (fun _ s=>s.2.c1) ?_;refine iA 2 fun Kc aJ=>?_;go_simp;refine (wJ fu.out).mono ?_;rintro e' w' ⟨rfl,rfl⟩;refine aJ.out _ _ ⟨fu.out.ni rfl,fu.out.pt h8 (by omega) HI.out⟩ (fun aa=>?_);clear aJ Kc;refine gh 7 8 9 aa ?_;refine de 10 aa (fun _ s=>s.1.ap) ?_;refine gh 13 14 15 aa ?_;refine de 16 aa (fun _ s=>s.2.c1) ?_;refine tk 17 aa ?_;refine de 18 aa (fun _ s=>s.1.lp) ?_;refine iA 11 fun Kc aJ=>?_;go_simp;refine (Bq fu.out).mono ?_;rintro e' w' ⟨rfl,hw'⟩;subst w';refine aJ.out _ _ ⟨fu.out.ni rfl,fu.out.pt h8 (by omega) HI.out⟩ (fun aa=>?_);clear aJ Kc;refine tk 12 aa ?_;refine iA 19 fun Kc aJ=>?_;go_simp;refine (xZ fu.out).mono ?_;rintro e' w' ⟨rfl,rfl⟩;refine aJ.out _ _ ⟨fu.out.ni rfl,fu.out.pt h8 (by omega) HI.out⟩ (fun aa=>?_);clear aJ Kc;refine gh 20 21 22 aa ?_;clear aa;refine zD ?_;have p3:=(fu.out.ni rfl).lp;clear aa dZ gz hg1 Wq hg3 hu d2 dm;go_wp2_with fail;refine (Va fu.out hk).mono ?_;rintro e' w4 ⟨rfl,hd⟩;rw[HN.out];have p4:=(hd.ni rfl).ap;have gM:=zH hd;clear hd fu p3 hk;go_wp2_with fail;refine (ZP gM.out n).mono ?_;rintro e' w5 ⟨rfl,hd⟩;have pg:Hid (DS w0 w5.drew K (x.WG.frd n) y pd (X2 X r K)):=hd.later (av 1);clear hd gM p4;go_wp2_with fail;refine zR (fun W=>ia W r K/\C.lS W B st t v L k) ⟨pg.out.ni rfl,pg.out.pt h8 (by omega) HI.out⟩ fun aa=>?_;generalize w5.drew=w6 at *;refine tk 0 aa ?_;refine de 1 aa (fun _ s=>s.1.kp) ?_;refine gh 2 3 4 aa ?_;refine de 5 aa (fun _ s=>s.2.c2) ?_;refine iA 6 fun Kc aJ=>?_;go_simp;refine (adC pg.out h8 (by omega) HI.out).mono ?_;rintro e' w7 ⟨rfl,hd⟩;have jV:Hid (DS w0 w7 K x' y pd (X2 X r K)):=by rw[<-HX'.out];exact hd
 clear hd pg;refine aJ.out _ _ ⟨jV.out.ni rfl,jV.out.pt h8 (by omega) HI.out⟩ (fun aa=>?_);clear aJ Kc;clear aa;refine zD ?_;clear aa;have hp:=jV.out.pt h8 (by omega) HI.out;have c1:=hp.c1;obtain ⟨A,hA⟩:=zE w7.heap.size;have hAB:A≠B:=by have:=hp.lt;omega
 obtain ⟨w8,My⟩:=zE (w7.alloc (.cells (cH 17 (-1) zv t n).toArray 61));have b8:Below w7.heap.size w7 w8:=by rw[<-My];exact ag w7 _
 have l8:bE 61 w8 A (cH 17 (-1) zv t n):=by rw[<-My,<-hA];exact bE.new _ _ _
 have jw:Hid ((Instr.alloc 61 true (.tuple #[])).run prog w7=.ok (.pointer (some ⟨A,0,none⟩)) (w7.alloc (.cells dx.toArray 61))):=by rw[<-hA];exact dY w7
 have anH:=zH (tv w7 17 t n);have am7:Hid ((Instr.storeAt 61 (.pointer (some ⟨A,0,none⟩)) (.agg (cH 17 (-1) zv t n).toArray)).run prog (w7.alloc (.cells dx.toArray 61))=.ok () w8):=by
  have:=dB (ds:=cH 17 (-1) zv t n) (bE.new 61 w7 dx) (bI (bG 32)) (dQ _ _ _ _ _);rw[jA,hA,My] at this;exact this
 have HBP:=zH (Xt w8);have hp8:=hp.later b8;have Tr:Hid ((Instr.storeAt 87 (.pointer (some ⟨B,0,none⟩)) (.agg #[.int .i64 1,.int .u64 0,.slice none 0 0,.int .i64 0])).run prog w8=.ok () (w8.setRow B #[.int .i64 1,.int .u64 0,.slice none 0 0,.int .i64 0])):=bE.store (cs:=[.int .i64 st,.int .u64 t,v,.int .i64 k]) (ds:=[.int .i64 1,.int .u64 0,.slice none 0 0,.int .i64 0]) hp8.st (by rw[Fi];rfl) rfl (by simp[Value.oneCell']);have Di:=(jV.out.later b8).adu h8 (by omega) HI.out;rw[lR Kv] at Di;obtain ⟨w9,Tc⟩:=zE (w8.setRow B #[.int .i64 1,.int .u64 0,.slice none 0 0,.int .i64 0]);have l9:bE 61 w9 A (cH 17 (-1) zv t n):=by rw[<-Tc];exact (iu w8 B A _ hAB).trans l8
 rw[Tc] at Di Tr;have Yh:=zH (nD l9 (bI (bG 32)));have qt:=zH Di;clear Di Tc l8 l9 b8 My hp8 hp jV hA;have pI:=zH (g_ w9);have jf:Hid ((Instr.storeAt 61 (.pointer (some ⟨r+1,0,none⟩)) (.agg (cH 17 (-1) zv t n).toArray)).run prog w9=.ok () (w9.setRow (r+1) (cH 17 (-1) zv t n).toArray)):=dB (qt.out.bC (i:=37) (by decide) (by decide) (ax _ _ _)) (bI (bG 32)) (dQ _ _ _ _ _);obtain ⟨jS,lz⟩:=qt.out.told (by rw[af _ _ (by omega)];exact yH) (by rw[af _ _ (by omega)];exact yG) (cH 17 (-1) zv t n);have nu:=zH jS;have nS:=zH lz;clear jS lz qt;generalize w9.setRow (r+1) (cH 17 (-1) zv t n).toArray=wz at *;go_wp2_with ((with_reducible refine aQ ?_);(first | ((refine bh (vs:=[(0,.int .i64 17),(4,.int .i64 (-1)),(6,.int .u64 t),(7,.int .i64 n)]) (by rfl) 61 rfl (by rfl) anH.out ?_);simp only[Act.put,zA,zB,zC]) | ((refine bh (vs:=[(0,.int .i64 1)]) (by rfl) 87 rfl (by rfl) HBP.out ?_);simp only[Act.put,zA,zB,zC]) | (refine xk 61 jw.out ?_) | (refine lJ 61 Yh.out ?_) | (refine qo 61 am7.out ?_) | (refine qo 87 Tr.out ?_) | (refine qo 61 jf.out ?_)))
 (try simp only[Exit.inBlock,Exit.then]);exact cC (C.dJ results47 _ _ (r+1) 61 _ _ (by rfl) nS.out dP rfl (by rw[eG,bI (bG 32)])) rfl ⟨rfl,nu.out⟩
end
section
variable {w0 w w':World} {K:Ks} {x y:Sx} {pd:List Cm} {X:Nat->Th} {i B k:Nat} {st t:Int} {v:Value} {L:List C.En}
theorem mB(h:DS w0 w K x y pd X)(hN:x.a.next<=1000)(h8:8<=i)(eC:i<40)(e:X i=.pt B 1 t v L k):Calls prog 13 #[E.qp B,.agg (gl K).toArray] w fun e w'=>e=.returned (.bool (rM x K.c.hi))/\Below w.heap.size w w':=by
 obtain ⟨r,hr⟩:=zE w.heap.size;obtain ⟨w1,dZ⟩:=zE (w.alloc (.cells (gl K).toArray 37));have b1:Below w.heap.size w w1:=by rw[<-dZ];exact ag w _
 have hD:ia w1 r K:=by rw[<-dZ,<-hr];exact ia.new w K
 have jk:=zH hD.load;have gj:=zH b1;have kD:=zH (h.later b1);have CE:=zH hD;clear h b1 hD;go_enter func13,ntmps13;go_wp2_with ((with_reducible refine aQ ?_);(refine aK (by rfl) 37 rfl rfl jk.out ?_);simp only[Act.put,zA,zB,zC])
 refine (nA w1 K).mono ?_;rintro e' w2 ⟨rfl,b2⟩;have c0:=((kD.out.later b2).pt h8 (by omega) e).c0;have jk:=zH ((CE.out.later b2).load);have gD:Hid (Below w.heap.size w w2):=ah gj.out b2;have fh:=zH (kD.out.later b2);clear b2 kD gj CE dZ;go_wp2_with ((with_reducible refine aQ ?_);(refine aK (by rfl) 37 rfl rfl jk.out ?_);simp only[Act.put,zA,zB,zC])
 refine (aeP fh.out hN).mono ?_;rintro e' w3 ⟨rfl,b3⟩;have vN:Hid (Below w.heap.size w w3):=ah gD.out b3;clear b3;go_wp2;go_ret;exact⟨rfl,vN.out⟩
theorem mC(h:DS w0 w K x y pd X)(h8:8<=i)(eC:i<40)(e:X i=.pt B st t v L k)(hs:(st != 1)=true):Calls prog 13 #[E.qp B,.agg (gl K).toArray] w fun e w'=>e=.returned (.bool true)/\Below w.heap.size w w':=by
 obtain ⟨r,hr⟩:=zE w.heap.size;obtain ⟨w1,dZ⟩:=zE (w.alloc (.cells (gl K).toArray 37));have b1:Below w.heap.size w w1:=by rw[<-dZ];exact ag w _
 have hD:ia w1 r K:=by rw[<-dZ,<-hr];exact ia.new w K
 have jk:=zH hD.load;have gj:=zH b1;have kD:=zH (h.later b1);have CE:=zH hD;clear h b1 hD;go_enter func13,ntmps13;go_wp2_with ((with_reducible refine aQ ?_);(refine aK (by rfl) 37 rfl rfl jk.out ?_);simp only[Act.put,zA,zB,zC])
 refine (nA w1 K).mono ?_;rintro e' w2 ⟨rfl,b2⟩;have c0:=((kD.out.later b2).pt h8 (by omega) e).c0;have jk:=zH ((CE.out.later b2).load);have gD:Hid (Below w.heap.size w w2):=ah gj.out b2;have fh:=zH (kD.out.later b2);clear b2 kD gj CE dZ;go_wp2;go_ret;exact⟨rfl,gD.out⟩
abbrev X3 (X:Nat->Th)(r:Nat)(K:Ks):Nat->Th:=put (put X 33 (.bC r 37 (gl K).toArray)) 34 (.bC (r+1) 61 dx.toArray)
theorem DS.PW(h:DS w0 w K x y pd X):DS w0 ((w.alloc (.cells (gl K).toArray 37)).alloc (.cells dx.toArray 61)) K x y pd (X3 X w.heap.size K):=by
 have h1:=h.fresh (ag w (.cells (gl K).toArray 37)) (k:=33) (by decide) (u:=.bC w.heap.size 37 (gl K).toArray) (fun _=>aG w _) (fun b hb=>by have:b=w.heap.size:=hb;omega);refine h1.fresh (ag _ (.cells dx.toArray 61)) (k:=34) (by decide) (u:=.bC (w.heap.size+1) 61 dx.toArray) (fun _=>?_) (fun b hb=>?_)
 ·have:=aG (w.alloc (.cells (gl K).toArray 37)) (.cells dx.toArray 61)
  rwa [a_] at this
 ·have:b=w.heap.size+1:=hb;rw[a_];omega
theorem DS.DC{r:Nat}{w1:World}(h:DS w0 w1 K x y pd (X3 X r K))(e33:X 33=.no)(e34:X 34=.no)(ds:List Value):DS w0 (w1.setRow (r+1) ds.toArray) K x y pd X/\bE 61 (w1.setRow (r+1) ds.toArray) (r+1) ds:=by
 have h1:=h.mF (j:=34) (by decide) (by decide) (ax _ _ _) ds.toArray;refine⟨?_,h1.bC (i:=34) (by decide) (by decide) (ax _ _ _)⟩;have:=(h1.drop (k:=34) (by decide)).drop (k:=33) (by decide);rw[ee,ee,put_comm _ _ _ (show 34≠33 by decide),ee,k_ X 33 e33,k_ X 34 e34] at this;exact this
theorem Cy{r:Nat}{u:Th}(h:i<33):put (X3 X r K) i u=X3 (put X i u) r K:=by rw[X3,X3,put_comm _ _ _ (show i≠33 by omega),put_comm _ _ _ (show i≠34 by omega)]
end
section
variable {w0 w w':World} {K:Ks} {x y:Sx} {pd:List Cm} {X:Nat->Th} {i B k:Nat} {st t:Int} {v:Value} {L:List C.En}
theorem AR{P:List Value->Int->Sx->(Nat->Th)->Prop}(h:DS w0 w K x y pd X)(h8:8<=i)(lB:i<33)(e:X i=.pt B 2 t v L k)
  (zx:∀r w1,DS w0 w1 K x y pd (X3 X r K)->Calls prog 44 #[E.qp B,.agg (gl K).toArray] w1 fun e w'=>∃ds er x' X',e=.returned (.tuple #[.agg ds.toArray,.int .i64 er])/\P ds er x' X'/\ds.length=41/\ds.toArray.all (·.oneCell')=true/\DS w0 w' K x' y pd (X3 X' r K)/\X' 33=.no/\X' 34=.no) :
  Calls prog 16 #[E.qp B,.agg (gl K).toArray] w fun e w'=>∃ds er x' X',e=.returned (.tuple #[.agg ds.toArray,.int .i64 er])/\P ds er x' X'/\DS w0 w' K x' y pd X':=by
 obtain ⟨r,hr⟩:=zE w.heap.size;obtain ⟨w2,gz⟩:=zE ((w.alloc (.cells (gl K).toArray 37)).alloc (.cells dx.toArray 61));have fh:Hid (DS w0 w2 K x y pd (X3 X r K)):=by rw[<-gz,<-hr];exact h.PW
 have jw:Hid ((Instr.alloc 61 true (.tuple #[])).run prog (w.alloc (.cells (gl K).toArray 37))=.ok (.pointer (some ⟨r+1,0,none⟩)) w2):=by
  have:=dY (w.alloc (.cells (gl K).toArray 37));rw[a_,hr,gz] at this;exact this
 have HI:Hid (X3 X r K i=.pt B 2 t v L k):=(af _ _ (by omega)).trans ((af _ _ (by omega)).trans e);have HK:Hid (∀W,DS w0 W K x y pd (X3 X r K)->ia W r K):=fun W hW=>hW.bC (i:=33) (by decide) (by decide) ((af _ _ (by decide)).trans (ax _ _ _));have jk:=zH ((HK.out w2 fh.out).load);have PR:=zH (zx r);clear h gz zx;go_enter func16,ntmps16;go_wp2_with ((with_reducible refine aQ ?_);(first | (refine xk 61 jw.out ?_) | (refine lJ 37 jk.out ?_)))
 refine (nA w2 K).mono ?_;rintro e' w3 ⟨rfl,b3⟩;have fu:=zH (fh.out.later b3);have jk:=zH ((HK.out w3 fu.out).load);clear b3 fh jw;go_wp2_with ((with_reducible refine aQ ?_);(refine lJ 37 jk.out ?_))
 refine (mC fu.out h8 (by omega) HI.out (by decide)).mono ?_;rintro e' w4 ⟨rfl,b4⟩;have gM:=zH (fu.out.later b4);have jk:=zH ((HK.out w4 gM.out).load);have c0:=(gM.out.pt h8 (by omega) HI.out).c0;clear b4 fu;go_wp2_with ((with_reducible refine aQ ?_);(refine lJ 37 jk.out ?_))
 refine (PR.out w4 gM.out).mono ?_;rintro e' w5 ⟨ds,er,x',X',rfl,hP,hl,ho,hd,n33,n34⟩;have jf:Hid ((Instr.storeAt 61 (.pointer (some ⟨r+1,0,none⟩)) (.agg ds.toArray)).run prog w5=.ok () (w5.setRow (r+1) ds.toArray)):=dB (hd.bC (i:=34) (by decide) (by decide) (ax _ _ _)) hl ho;obtain ⟨jS,lz⟩:=hd.DC n33 n34 ds;have nu:=zH jS;have nS:=zH lz;have HP:=zH hP;have HL:=zH hl;clear jS lz hd hP ho hl gM PR HK jk HI c0;generalize w5.setRow (r+1) ds.toArray=wz at *;go_wp2_with ((with_reducible refine aQ ?_);(refine qo 61 jf.out ?_))
 (try simp only[Exit.inBlock,Exit.then]);exact cC (C.dJ results16 _ _ (r+1) 61 _ _ (by rfl) nS.out dP rfl (by rw[eG,HL.out])) rfl ⟨ds,er,x',X',rfl,HP.out,nu.out⟩
theorem KR{P:List Value->Int->Sx->(Nat->Th)->Prop}(h:DS w0 w K x y pd X)(h8:8<=i)(lB:i<33)(e:X i=.pt B 3 t v L k)
  (zx:∀r w1,DS w0 w1 K x y pd (X3 X r K)->Calls prog 45 #[E.qp B,.agg (gl K).toArray] w1 fun e w'=>∃ds er x' X',e=.returned (.tuple #[.agg ds.toArray,.int .i64 er])/\P ds er x' X'/\ds.length=41/\ds.toArray.all (·.oneCell')=true/\DS w0 w' K x' y pd (X3 X' r K)/\X' 33=.no/\X' 34=.no) :
  Calls prog 16 #[E.qp B,.agg (gl K).toArray] w fun e w'=>∃ds er x' X',e=.returned (.tuple #[.agg ds.toArray,.int .i64 er])/\P ds er x' X'/\DS w0 w' K x' y pd X':=by
 obtain ⟨r,hr⟩:=zE w.heap.size;obtain ⟨w2,gz⟩:=zE ((w.alloc (.cells (gl K).toArray 37)).alloc (.cells dx.toArray 61));have fh:Hid (DS w0 w2 K x y pd (X3 X r K)):=by rw[<-gz,<-hr];exact h.PW
 have jw:Hid ((Instr.alloc 61 true (.tuple #[])).run prog (w.alloc (.cells (gl K).toArray 37))=.ok (.pointer (some ⟨r+1,0,none⟩)) w2):=by
  have:=dY (w.alloc (.cells (gl K).toArray 37));rw[a_,hr,gz] at this;exact this
 have HI:Hid (X3 X r K i=.pt B 3 t v L k):=(af _ _ (by omega)).trans ((af _ _ (by omega)).trans e);have HK:Hid (∀W,DS w0 W K x y pd (X3 X r K)->ia W r K):=fun W hW=>hW.bC (i:=33) (by decide) (by decide) ((af _ _ (by decide)).trans (ax _ _ _));have jk:=zH ((HK.out w2 fh.out).load);have PR:=zH (zx r);clear h gz zx;go_enter func16,ntmps16;go_wp2_with ((with_reducible refine aQ ?_);(first | (refine xk 61 jw.out ?_) | (refine lJ 37 jk.out ?_)))
 refine (nA w2 K).mono ?_;rintro e' w3 ⟨rfl,b3⟩;have fu:=zH (fh.out.later b3);have jk:=zH ((HK.out w3 fu.out).load);clear b3 fh jw;go_wp2_with ((with_reducible refine aQ ?_);(refine lJ 37 jk.out ?_))
 refine (mC fu.out h8 (by omega) HI.out (by decide)).mono ?_;rintro e' w4 ⟨rfl,b4⟩;have gM:=zH (fu.out.later b4);have jk:=zH ((HK.out w4 gM.out).load);have c0:=(gM.out.pt h8 (by omega) HI.out).c0;clear b4 fu;go_wp2_with ((with_reducible refine aQ ?_);(refine lJ 37 jk.out ?_))
 refine (PR.out w4 gM.out).mono ?_;rintro e' w5 ⟨ds,er,x',X',rfl,hP,hl,ho,hd,n33,n34⟩;have jf:Hid ((Instr.storeAt 61 (.pointer (some ⟨r+1,0,none⟩)) (.agg ds.toArray)).run prog w5=.ok () (w5.setRow (r+1) ds.toArray)):=dB (hd.bC (i:=34) (by decide) (by decide) (ax _ _ _)) hl ho;obtain ⟨jS,lz⟩:=hd.DC n33 n34 ds;have nu:=zH jS;have nS:=zH lz;have HP:=zH hP;have HL:=zH hl;clear jS lz hd hP ho hl gM PR HK jk HI c0;generalize w5.setRow (r+1) ds.toArray=wz at *;go_wp2_with ((with_reducible refine aQ ?_);(refine qo 61 jf.out ?_))
 (try simp only[Exit.inBlock,Exit.then]);exact cC (C.dJ results16 _ _ (r+1) 61 _ _ (by rfl) nS.out dP rfl (by rw[eG,HL.out])) rfl ⟨ds,er,x',X',rfl,HP.out,nu.out⟩
theorem DE{P:List Value->Int->Sx->(Nat->Th)->Prop}(h:DS w0 w K x y pd X)(h8:8<=i)(lB:i<33)(e:X i=.pt B 4 t v L k)
  (zx:∀r w1,DS w0 w1 K x y pd (X3 X r K)->Calls prog 46 #[E.qp B,.agg (gl K).toArray] w1 fun e w'=>∃ds er x' X',e=.returned (.tuple #[.agg ds.toArray,.int .i64 er])/\P ds er x' X'/\ds.length=41/\ds.toArray.all (·.oneCell')=true/\DS w0 w' K x' y pd (X3 X' r K)/\X' 33=.no/\X' 34=.no) :
  Calls prog 16 #[E.qp B,.agg (gl K).toArray] w fun e w'=>∃ds er x' X',e=.returned (.tuple #[.agg ds.toArray,.int .i64 er])/\P ds er x' X'/\DS w0 w' K x' y pd X':=by
 obtain ⟨r,hr⟩:=zE w.heap.size;obtain ⟨w2,gz⟩:=zE ((w.alloc (.cells (gl K).toArray 37)).alloc (.cells dx.toArray 61));have fh:Hid (DS w0 w2 K x y pd (X3 X r K)):=by rw[<-gz,<-hr];exact h.PW
 have jw:Hid ((Instr.alloc 61 true (.tuple #[])).run prog (w.alloc (.cells (gl K).toArray 37))=.ok (.pointer (some ⟨r+1,0,none⟩)) w2):=by
  have:=dY (w.alloc (.cells (gl K).toArray 37));rw[a_,hr,gz] at this;exact this
 have HI:Hid (X3 X r K i=.pt B 4 t v L k):=(af _ _ (by omega)).trans ((af _ _ (by omega)).trans e);have HK:Hid (∀W,DS w0 W K x y pd (X3 X r K)->ia W r K):=fun W hW=>hW.bC (i:=33) (by decide) (by decide) ((af _ _ (by decide)).trans (ax _ _ _));have jk:=zH ((HK.out w2 fh.out).load);have PR:=zH (zx r);clear h gz zx;go_enter func16,ntmps16;go_wp2_with ((with_reducible refine aQ ?_);(first | (refine xk 61 jw.out ?_) | (refine lJ 37 jk.out ?_)))
 refine (nA w2 K).mono ?_;rintro e' w3 ⟨rfl,b3⟩;have fu:=zH (fh.out.later b3);have jk:=zH ((HK.out w3 fu.out).load);clear b3 fh jw;go_wp2_with ((with_reducible refine aQ ?_);(refine lJ 37 jk.out ?_))
 refine (mC fu.out h8 (by omega) HI.out (by decide)).mono ?_;rintro e' w4 ⟨rfl,b4⟩;have gM:=zH (fu.out.later b4);have jk:=zH ((HK.out w4 gM.out).load);have c0:=(gM.out.pt h8 (by omega) HI.out).c0;clear b4 fu;go_wp2_with ((with_reducible refine aQ ?_);(refine lJ 37 jk.out ?_))
 refine (PR.out w4 gM.out).mono ?_;rintro e' w5 ⟨ds,er,x',X',rfl,hP,hl,ho,hd,n33,n34⟩;have jf:Hid ((Instr.storeAt 61 (.pointer (some ⟨r+1,0,none⟩)) (.agg ds.toArray)).run prog w5=.ok () (w5.setRow (r+1) ds.toArray)):=dB (hd.bC (i:=34) (by decide) (by decide) (ax _ _ _)) hl ho;obtain ⟨jS,lz⟩:=hd.DC n33 n34 ds;have nu:=zH jS;have nS:=zH lz;have HP:=zH hP;have HL:=zH hl;clear jS lz hd hP ho hl gM PR HK jk HI c0;generalize w5.setRow (r+1) ds.toArray=wz at *;go_wp2_with ((with_reducible refine aQ ?_);(refine qo 61 jf.out ?_))
 (try simp only[Exit.inBlock,Exit.then]);exact cC (C.dJ results16 _ _ (r+1) 61 _ _ (by rfl) nS.out dP rfl (by rw[eG,HL.out])) rfl ⟨ds,er,x',X',rfl,HP.out,nu.out⟩
theorem xD{P:List Value->Int->Sx->(Nat->Th)->Prop}(h:DS w0 w K x y pd X)(h8:8<=i)(lB:i<33)(e:X i=.pt B 5 t v L k)
  (zx:∀r w1,DS w0 w1 K x y pd (X3 X r K)->Calls prog 47 #[E.qp B,.agg (gl K).toArray] w1 fun e w'=>∃ds er x' X',e=.returned (.tuple #[.agg ds.toArray,.int .i64 er])/\P ds er x' X'/\ds.length=41/\ds.toArray.all (·.oneCell')=true/\DS w0 w' K x' y pd (X3 X' r K)/\X' 33=.no/\X' 34=.no) :
  Calls prog 16 #[E.qp B,.agg (gl K).toArray] w fun e w'=>∃ds er x' X',e=.returned (.tuple #[.agg ds.toArray,.int .i64 er])/\P ds er x' X'/\DS w0 w' K x' y pd X':=by
 obtain ⟨r,hr⟩:=zE w.heap.size;obtain ⟨w2,gz⟩:=zE ((w.alloc (.cells (gl K).toArray 37)).alloc (.cells dx.toArray 61));have fh:Hid (DS w0 w2 K x y pd (X3 X r K)):=by rw[<-gz,<-hr];exact h.PW
 have jw:Hid ((Instr.alloc 61 true (.tuple #[])).run prog (w.alloc (.cells (gl K).toArray 37))=.ok (.pointer (some ⟨r+1,0,none⟩)) w2):=by
  have:=dY (w.alloc (.cells (gl K).toArray 37));rw[a_,hr,gz] at this;exact this
 have HI:Hid (X3 X r K i=.pt B 5 t v L k):=(af _ _ (by omega)).trans ((af _ _ (by omega)).trans e);have HK:Hid (∀W,DS w0 W K x y pd (X3 X r K)->ia W r K):=fun W hW=>hW.bC (i:=33) (by decide) (by decide) ((af _ _ (by decide)).trans (ax _ _ _));have jk:=zH ((HK.out w2 fh.out).load);have PR:=zH (zx r);clear h gz zx;go_enter func16,ntmps16;go_wp2_with ((with_reducible refine aQ ?_);(first | (refine xk 61 jw.out ?_) | (refine lJ 37 jk.out ?_)))
 refine (nA w2 K).mono ?_;rintro e' w3 ⟨rfl,b3⟩;have fu:=zH (fh.out.later b3);have jk:=zH ((HK.out w3 fu.out).load);clear b3 fh jw;go_wp2_with ((with_reducible refine aQ ?_);(refine lJ 37 jk.out ?_))
 refine (mC fu.out h8 (by omega) HI.out (by decide)).mono ?_;rintro e' w4 ⟨rfl,b4⟩;have gM:=zH (fu.out.later b4);have jk:=zH ((HK.out w4 gM.out).load);have c0:=(gM.out.pt h8 (by omega) HI.out).c0;clear b4 fu;go_wp2_with ((with_reducible refine aQ ?_);(refine lJ 37 jk.out ?_))
 refine (PR.out w4 gM.out).mono ?_;rintro e' w5 ⟨ds,er,x',X',rfl,hP,hl,ho,hd,n33,n34⟩;have jf:Hid ((Instr.storeAt 61 (.pointer (some ⟨r+1,0,none⟩)) (.agg ds.toArray)).run prog w5=.ok () (w5.setRow (r+1) ds.toArray)):=dB (hd.bC (i:=34) (by decide) (by decide) (ax _ _ _)) hl ho;obtain ⟨jS,lz⟩:=hd.DC n33 n34 ds;have nu:=zH jS;have nS:=zH lz;have HP:=zH hP;have HL:=zH hl;clear jS lz hd hP ho hl gM PR HK jk HI c0;generalize w5.setRow (r+1) ds.toArray=wz at *;go_wp2_with ((with_reducible refine aQ ?_);(refine qo 61 jf.out ?_))
 (try simp only[Exit.inBlock,Exit.then]);exact cC (C.dJ results16 _ _ (r+1) 61 _ _ (by rfl) nS.out dP rfl (by rw[eG,HL.out])) rfl ⟨ds,er,x',X',rfl,HP.out,nu.out⟩
theorem He{P:List Value->Int->Sx->(Nat->Th)->Prop}(h:DS w0 w K x y pd X)(h8:8<=i)(lB:i<33)(hN:x.a.next<=1000)(RF:rM x K.c.hi=true)(e:X i=.pt B 1 t v L k)
  (zx:∀r w1,DS w0 w1 K x y pd (X3 X r K)->Calls prog 48 #[E.qp B,.agg (gl K).toArray] w1 fun e w'=>∃ds er x' X',e=.returned (.tuple #[.agg ds.toArray,.int .i64 er])/\P ds er x' X'/\ds.length=41/\ds.toArray.all (·.oneCell')=true/\DS w0 w' K x' y pd (X3 X' r K)/\X' 33=.no/\X' 34=.no) :
  Calls prog 16 #[E.qp B,.agg (gl K).toArray] w fun e w'=>∃ds er x' X',e=.returned (.tuple #[.agg ds.toArray,.int .i64 er])/\P ds er x' X'/\DS w0 w' K x' y pd X':=by
 obtain ⟨r,hr⟩:=zE w.heap.size;obtain ⟨w2,gz⟩:=zE ((w.alloc (.cells (gl K).toArray 37)).alloc (.cells dx.toArray 61));have fh:Hid (DS w0 w2 K x y pd (X3 X r K)):=by rw[<-gz,<-hr];exact h.PW
 have jw:Hid ((Instr.alloc 61 true (.tuple #[])).run prog (w.alloc (.cells (gl K).toArray 37))=.ok (.pointer (some ⟨r+1,0,none⟩)) w2):=by
  have:=dY (w.alloc (.cells (gl K).toArray 37));rw[a_,hr,gz] at this;exact this
 have HI:Hid (X3 X r K i=.pt B 1 t v L k):=(af _ _ (by omega)).trans ((af _ _ (by omega)).trans e);have HK:Hid (∀W,DS w0 W K x y pd (X3 X r K)->ia W r K):=fun W hW=>hW.bC (i:=33) (by decide) (by decide) ((af _ _ (by decide)).trans (ax _ _ _));have jk:=zH ((HK.out w2 fh.out).load);have PR:=zH (zx r);clear h gz zx;go_enter func16,ntmps16;go_wp2_with ((with_reducible refine aQ ?_);(first | (refine xk 61 jw.out ?_) | (refine lJ 37 jk.out ?_)))
 refine (nA w2 K).mono ?_;rintro e' w3 ⟨rfl,b3⟩;have fu:=zH (fh.out.later b3);have jk:=zH ((HK.out w3 fu.out).load);clear b3 fh jw;go_wp2_with ((with_reducible refine aQ ?_);(refine lJ 37 jk.out ?_))
 refine (mB fu.out hN h8 (by omega) HI.out).mono ?_;rintro e' w4 ⟨rfl,b4⟩;rw[RF];have gM:=zH (fu.out.later b4);have jk:=zH ((HK.out w4 gM.out).load);have c0:=(gM.out.pt h8 (by omega) HI.out).c0;clear b4 fu;go_wp2_with ((with_reducible refine aQ ?_);(refine lJ 37 jk.out ?_))
 refine (PR.out w4 gM.out).mono ?_;rintro e' w5 ⟨ds,er,x',X',rfl,hP,hl,ho,hd,n33,n34⟩;have jf:Hid ((Instr.storeAt 61 (.pointer (some ⟨r+1,0,none⟩)) (.agg ds.toArray)).run prog w5=.ok () (w5.setRow (r+1) ds.toArray)):=dB (hd.bC (i:=34) (by decide) (by decide) (ax _ _ _)) hl ho;obtain ⟨jS,lz⟩:=hd.DC n33 n34 ds;have nu:=zH jS;have nS:=zH lz;have HP:=zH hP;have HL:=zH hl;clear jS lz hd hP ho hl gM PR HK jk HI c0;generalize w5.setRow (r+1) ds.toArray=wz at *;go_wp2_with ((with_reducible refine aQ ?_);(refine qo 61 jf.out ?_))
 (try simp only[Exit.inBlock,Exit.then]);exact cC (C.dJ results16 _ _ (r+1) 61 _ _ (by rfl) nS.out dP rfl (by rw[eG,HL.out])) rfl ⟨ds,er,x',X',rfl,HP.out,nu.out⟩
theorem PZ(h:DS w0 w K x y pd X)(h8:8<=i)(lB:i<33)(e33:X 33=.no)(e34:X 34=.no)(hN:x.a.next<=1000)(RF:rM x K.c.hi=false)(e:X i=.pt B 1 t v L k) :
  Calls prog 16 #[E.qp B,.agg (gl K).toArray] w fun e w'=>e=.returned (.tuple #[.agg dx.toArray,.int .i64 190])/\DS w0 w' K x y pd X:=by
 obtain ⟨r,hr⟩:=zE w.heap.size;obtain ⟨w2,gz⟩:=zE ((w.alloc (.cells (gl K).toArray 37)).alloc (.cells dx.toArray 61));have fh:Hid (DS w0 w2 K x y pd (X3 X r K)):=by rw[<-gz,<-hr];exact h.PW
 have jw:Hid ((Instr.alloc 61 true (.tuple #[])).run prog (w.alloc (.cells (gl K).toArray 37))=.ok (.pointer (some ⟨r+1,0,none⟩)) w2):=by
  have:=dY (w.alloc (.cells (gl K).toArray 37));rw[a_,hr,gz] at this;exact this
 have HI:Hid (X3 X r K i=.pt B 1 t v L k):=(af _ _ (by omega)).trans ((af _ _ (by omega)).trans e);have HK:Hid (∀W,DS w0 W K x y pd (X3 X r K)->ia W r K):=fun W hW=>hW.bC (i:=33) (by decide) (by decide) ((af _ _ (by decide)).trans (ax _ _ _));have jk:=zH ((HK.out w2 fh.out).load);clear h gz;go_enter func16,ntmps16;go_wp2_with ((with_reducible refine aQ ?_);(first | (refine xk 61 jw.out ?_) | (refine lJ 37 jk.out ?_)))
 refine (nA w2 K).mono ?_;rintro e' w3 ⟨rfl,b3⟩;have fu:=zH (fh.out.later b3);have jk:=zH ((HK.out w3 fu.out).load);clear b3 fh jw;go_wp2_with ((with_reducible refine aQ ?_);(refine lJ 37 jk.out ?_))
 refine (mB fu.out hN h8 (by omega) HI.out).mono ?_;rintro e' w4 ⟨rfl,b4⟩;rw[RF];have gM:=zH (fu.out.later b4);have jk:=zH ((HK.out w4 gM.out).load);have c0:=(gM.out.pt h8 (by omega) HI.out).c0;clear b4 fu;have pI:=zH (g_ w4);have jf:Hid ((Instr.storeAt 61 (.pointer (some ⟨r+1,0,none⟩)) (.agg dx.toArray)).run prog w4=.ok () (w4.setRow (r+1) dx.toArray)):=dB (gM.out.bC (i:=34) (by decide) (by decide) (ax _ _ _)) (bI (bG 32)) (dQ _ _ _ _ _);obtain ⟨jS,lz⟩:=gM.out.DC e33 e34 dx;have nu:=zH jS;have nS:=zH lz;clear jS lz gM HK jk HI c0;generalize w4.setRow (r+1) dx.toArray=wz at *;go_wp2_with ((with_reducible refine aQ ?_);(first | ((refine bh (vs:=[]) (by rfl) 61 rfl (by rfl) pI.out ?_);simp only[Act.put,zA,zB,zC]) | (refine qo 61 jf.out ?_)))
 (try simp only[Exit.inBlock,Exit.then]);exact cC (C.dJ results16 _ _ (r+1) 61 _ _ (by rfl) nS.out dP rfl (by rw[eG,bI (bG 32)])) rfl ⟨rfl,nu.out⟩
end
structure Pt where
 st:Int
 t:Int
 L:List C.En
 k:Nat
structure Pt.Ok (p:Pt):Prop where
 st:p.st=1\/p.st=2\/p.st=3\/p.st=4\/p.st=5
 lt:p.st=2->p.k<p.L.length
def yM (x:Sx)(p:Pt)(z:C.En):List Value × Int × Sx × Pt:=if x.zk z.b=0 then (cH 15 z.b z.v 0 0,0,x.CU z.b z.v,⟨if p.k+1<p.L.length then 2 else 3,p.t,p.L,p.k+1⟩) else (dx,x.zk z.b,x.CU z.b z.v,p)
def ah7 (x:Sx)(p:Pt):List Value × Int × Sx × Pt:=(cH 12 (-1) zv 0 x.ws.length,0,x.Ge,⟨4,p.t,p.L,p.k⟩)
def zu (x:Sx)(p:Pt):List Value × Int × Sx × Pt:=if Out x.g p.t then (dx,2,x.z_ p.t,p) else (cH 16 (-1) zv p.t 0,0,x.z_ p.t,⟨5,p.t,p.L,p.k⟩)
def ku (x:Sx)(p:Pt):List Value × Int × Sx × Pt:=if x.g.mark=p.t/\¬x.a.used<p.t-x.g.tail then (cH 17 (-1) zv p.t (x.g.mark-x.g.tail),0,(x.WG.frd (x.g.mark-x.g.tail)).drp p.L,⟨1,0,[],0⟩) else (dx,2,x,p)
def tu (hi:Int)(x:Sx)(p:Pt):List Value × Int × Sx × Pt:=if rM x hi=true then (cH 14 (-1) zv (x.p+1) x.L.length,0,x,⟨if 0<x.L.length then 2 else 3,x.p+1,x.L,0⟩) else (dx,190,x,p)
def iI (hi:Int)(x:Sx)(p:Pt):List Value × Int × Sx × Pt :=
 if p.st=2 then yM x p ((p.L.drop p.k).headD C.lN) else if p.st=3 then ah7 x p else if p.st=4 then zu x p else if p.st=5 then ku x p else tu hi x p
abbrev Th.pp (B:Nat)(v:Value)(p:Pt):Th:=.pt B p.st p.t v p.L p.k
section
variable {w0 w w':World} {K:Ks} {x y:Sx} {pd:List Cm} {X:Nat->Th} {i B k:Nat} {st t:Int} {v:Value} {L:List C.En} {p:Pt}
theorem oK{u:Th}(e:X i=u):put X i u=X:=by
 funext j;by_cases h:j=i
 ·subst h;rw[ax,e]
 ·rw[af _ _ h]
theorem Kb{r:Nat}{j:Nat}(h1:j≠33)(h2:j≠34):X3 X r K j=X j:=(af _ _ h2).trans (af _ _ h1)
def Left (X:Nat->Th)(i B:Nat)(R:List Value × Int × Sx × Pt)(ds:List Value)(er:Int)(x':Sx)(X':Nat->Th):Prop:=ds=R.1/\er=R.2.1/\x'=R.2.2.1/\∃v,X'=put X i (.pp B v R.2.2.2)
theorem vV{R:List Value × Int × Sx × Pt}(hc:Calls prog 16 #[E.qp B,.agg (gl K).toArray] w fun e w'=>∃ds er x' X',e=.returned (.tuple #[.agg ds.toArray,.int .i64 er])/\Left X i B R ds er x' X'/\DS w0 w' K x' y pd X'):Calls prog 16 #[E.qp B,.agg (gl K).toArray] w fun e w'=>∃v,e=.returned (.tuple #[.agg R.1.toArray,.int .i64 R.2.1])/\DS w0 w' K R.2.2.1 y pd (put X i (.pp B v R.2.2.2)):=by
 refine hc.mono ?_;rintro e w' ⟨ds,er,x',X',rfl,⟨rfl,rfl,rfl,v,rfl⟩,hd⟩;exact⟨v,rfl,hd⟩
theorem zP(ht:qX w0)(h:DS w0 w K x y pd X)(hk:x.ws.length<=100000)(hN:x.a.next<=1000)(h8:8<=i)(lB:i<33)(hp:p.Ok)(e:X i=.pp B v p)(no:∀j,33<=j->j<38->X j=.no):Calls prog 16 #[E.qp B,.agg (gl K).toArray] w fun e w'=>∃v,e=.returned (.tuple #[.agg (iI K.c.hi x p).1.toArray,.int .i64 (iI K.c.hi x p).2.1])/\DS w0 w' K (iI K.c.hi x p).2.2.1 y pd (put X i (.pp B v (iI K.c.hi x p).2.2.2)):=by
 obtain ⟨st,t,L,k⟩:=p;have n33:∀u,put X i u 33=.no:=fun u=>(af _ _ (by omega)).trans (no 33 (by decide) (by decide));have n34:∀u,put X i u 34=.no:=fun u=>(af _ _ (by omega)).trans (no 34 (by decide) (by decide));have o:∀r j,35<=j->j<38->X3 X r K j=.no:=fun r j a b=>(Kb (by omega) (by omega)).trans (no j (by omega) b);have oi:∀r,X3 X r K i=.pt B st t v L k:=fun r=>(Kb (by omega) (by omega)).trans e;rcases hp.st with hs | hs | hs | hs | hs
 ·obtain rfl:st=1:=hs;show Calls _ _ _ _ fun e w'=>∃v,e=.returned (.tuple #[.agg (tu K.c.hi x ⟨1,t,L,k⟩).1.toArray,.int .i64 (tu K.c.hi x ⟨1,t,L,k⟩).2.1])/\DS w0 w' K (tu K.c.hi x ⟨1,t,L,k⟩).2.2.1 y pd (put X i (.pp B v (tu K.c.hi x ⟨1,t,L,k⟩).2.2.2));cases hd:rM x K.c.hi with
  | false =>
   rw[tu,aD (by rw[hd];decide)];refine (PZ h h8 lB (no 33 (by decide) (by decide)) (no 34 (by decide) (by decide)) hN hd e).mono ?_;rintro e' w' ⟨rfl,hd⟩;exact⟨v,rfl,by rw[oK e];exact hd⟩
  | true =>
   rw[tu,aE hd];refine vV (He h h8 lB hN hd e fun r w1 h1=>?_);refine (Sb rfl h1 h8 (by omega) (oi r) (o r 36 (by decide) (by decide)) (o r 37 (by decide) (by decide))).mono ?_;rintro e' w' ⟨v',rfl,hd⟩;rw[Cy lB] at hd;exact⟨_,_,_,_,rfl,⟨rfl,rfl,rfl,v',rfl⟩,bI (bG 32),dQ _ _ _ _ _,hd,n33 _,n34 _⟩
 ·obtain rfl:st=2:=hs;have eP:k<L.length:=hp.lt rfl;have pw:=(h.pt h8 (by omega) e).wf;have HW:Hid (C.dW (L.drop k)):=fun a ha=>pw a (fE ha);obtain ⟨z,hz⟩:=zE ((L.drop k).headD C.lN);have hzw:z.Wf:=by
   rw[<-hz,eS eP];exact pw _ (eA eP)
  have HZ:=Av hz hzw.len hzw.byte;have hR:iI K.c.hi x ⟨2,t,L,k⟩=yM x ⟨2,t,L,k⟩ z:=by rw[<-hz];rfl
  rw[hR];refine vV ?_;by_cases hs:x.zk z.b=0
  ·rw[yM,aE hs];refine AR h h8 lB e fun r w1 h1=>?_;refine (Nc rfl ht h1 hk h8 (by omega) (oi r) (o r 35 (by decide) (by decide)) (o r 36 (by decide) (by decide)) (o r 37 (by decide) (by decide)) HW HZ eP hs).mono ?_;rintro e' w' ⟨rfl,hd⟩;rw[Cy lB] at hd;exact⟨_,_,_,_,rfl,⟨rfl,rfl,rfl,v,rfl⟩,bI hzw.len,dQ _ _ _ _ _,hd,n33 _,n34 _⟩
  ·rw[yM,aD hs];refine AR h h8 lB e fun r w1 h1=>?_;refine (Sd ht h1 hk h8 (by omega) (oi r) (o r 35 (by decide) (by decide)) (o r 36 (by decide) (by decide)) (o r 37 (by decide) (by decide)) HW HZ hs).mono ?_;rintro e' w' ⟨rfl,hd⟩;exact⟨_,_,_,X,rfl,⟨rfl,rfl,rfl,v,(oK e).symm⟩,bI (bG 32),dQ _ _ _ _ _,hd,no 33 (by decide) (by decide),no 34 (by decide) (by decide)⟩
 ·obtain rfl:st=3:=hs;refine vV (R:=ah7 x ⟨3,t,L,k⟩) (KR h h8 lB e fun r w1 h1=>?_);refine (WJ h1 hk h8 (by omega) (oi r) (o r 36 (by decide) (by decide)) (o r 37 (by decide) (by decide))).mono ?_;rintro e' w' ⟨rfl,hd⟩;rw[Cy lB] at hd;exact⟨_,_,_,_,rfl,⟨rfl,rfl,rfl,v,rfl⟩,bI (bG 32),dQ _ _ _ _ _,hd,n33 _,n34 _⟩
 ·obtain rfl:st=4:=hs;refine vV (R:=zu x ⟨4,t,L,k⟩) ?_;by_cases ho:Out x.g t
  ·rw[zu,aE ho];refine DE h h8 lB e fun r w1 h1=>?_;refine (Vs ht h1 hk h8 (by omega) (oi r) (o r 36 (by decide) (by decide)) (o r 37 (by decide) (by decide)) ho).mono ?_;rintro e' w' ⟨rfl,hd⟩;exact⟨_,_,_,X,rfl,⟨rfl,rfl,rfl,v,(oK e).symm⟩,bI (bG 32),dQ _ _ _ _ _,hd,no 33 (by decide) (by decide),no 34 (by decide) (by decide)⟩
  ·rw[zu,aD ho];refine DE h h8 lB e fun r w1 h1=>?_;refine (Rc ht h1 hk h8 (by omega) (oi r) (o r 36 (by decide) (by decide)) (o r 37 (by decide) (by decide)) ho).mono ?_;rintro e' w' ⟨rfl,hd⟩;rw[Cy lB] at hd;exact⟨_,_,_,_,rfl,⟨rfl,rfl,rfl,v,rfl⟩,bI (bG 32),dQ _ _ _ _ _,hd,n33 _,n34 _⟩
 ·obtain rfl:st=5:=hs;refine vV (R:=ku x ⟨5,t,L,k⟩) ?_;by_cases hm:x.g.mark=t
  ·by_cases hu:x.a.used<t-x.g.tail
   ·rw[ku,aD (fun a=>a.2 hu)];refine xD h h8 lB e fun r w1 h1=>?_;refine (RJ h1 h8 (by omega) (oi r) (o r 36 (by decide) (by decide)) (o r 37 (by decide) (by decide)) (by simp[hm]) (aP hu)).mono ?_;rintro e' w' ⟨rfl,hd⟩;exact⟨_,_,_,X,rfl,⟨rfl,rfl,rfl,v,(oK e).symm⟩,bI (bG 32),dQ _ _ _ _ _,hd,no 33 (by decide) (by decide),no 34 (by decide) (by decide)⟩
   ·rw[ku,aE ⟨hm,hu⟩];refine xD h h8 lB e fun r w1 h1=>?_;refine (RK rfl rfl h1 hk h8 (by omega) (oi r) (o r 36 (by decide) (by decide)) (o r 37 (by decide) (by decide)) (by simp[hm]) (aF hu)).mono ?_;rintro e' w' ⟨rfl,hd⟩;rw[Cy lB] at hd;exact⟨_,_,_,_,rfl,⟨rfl,rfl,rfl,.slice none 0 0,rfl⟩,bI (bG 32),dQ _ _ _ _ _,hd,n33 _,n34 _⟩
  ·rw[ku,aD (fun a=>hm a.1)];refine xD h h8 lB e fun r w1 h1=>?_;refine (ML h1 h8 (by omega) (oi r) (o r 36 (by decide) (by decide)) (o r 37 (by decide) (by decide)) (by simp[hm])).mono ?_;rintro e' w' ⟨rfl,hd⟩;exact⟨_,_,_,X,rfl,⟨rfl,rfl,rfl,v,(oK e).symm⟩,bI (bG 32),dQ _ _ _ _ _,hd,no 33 (by decide) (by decide),no 34 (by decide) (by decide)⟩
end
section
variable {w0 w w':World} {K:Ks} {x y:Sx} {pd:List Cm} {X:Nat->Th} {i B k:Nat} {st t:Int} {v:Value} {L:List C.En} {p:Pt}
theorem Pt.Ok.step(h:p.Ok)(hi:Int)(x:Sx):(iI hi x p).2.2.2.Ok:=by
 unfold iI;by_cases h2:p.st=2
 ·rw[aE h2,yM];split
  ·by_cases a:p.k+1<p.L.length
   ·rw[aE a];exact⟨.inr (.inl rfl),fun _=>a⟩
   ·rw[aD a];exact⟨.inr (.inr (.inl rfl)),fun e=>absurd (show (3:Int)=2 from e) (by decide)⟩
  ·exact h
 rw[aD h2];by_cases h3:p.st=3
 ·rw[aE h3];exact⟨.inr (.inr (.inr (.inl rfl))),fun e=>absurd (show (4:Int)=2 from e) (by decide)⟩
 rw[aD h3];by_cases h4:p.st=4
 ·rw[aE h4,zu];split
  ·exact h
  ·exact⟨.inr (.inr (.inr (.inr rfl))),fun e=>absurd (show (5:Int)=2 from e) (by decide)⟩
 rw[aD h4];by_cases h5:p.st=5
 ·rw[aE h5,ku];split
  ·exact⟨.inl rfl,fun e=>absurd (show (1:Int)=2 from e) (by decide)⟩
  ·exact h
 rw[aD h5,tu];split
 ·by_cases a:0<x.L.length
  ·rw[aE a];exact⟨.inr (.inl rfl),fun _=>a⟩
  ·rw[aD a];exact⟨.inr (.inr (.inl rfl)),fun e=>absurd (show (3:Int)=2 from e) (by decide)⟩
 ·exact h
theorem DS.adv(h:DS w0 w K x y pd X)(h8:8<=i)(eC:i<40)(e:X i=.pt B st t v L k){j:Nat}(j8:8<=j):DS w0 (w.alloc (.cells #[.int .i64 st,.int .u64 t,v,.int .i64 k] 87)) K x y pd (put X j (.pt w.heap.size st t v L k)):=by
 obtain ⟨T,G,h,hX⟩:=h;have a:=h.jN.at' i eC;rw[hX i h8 eC,e] at a;have b:=ag w (.cells #[.int .i64 st,.int .u64 t,v,.int .i64 k] 87);have a':=a.1.later b;refine⟨put T j (.pt w.heap.size st t v L k),G,⟨h.jN.fresh h.below.size b j ⟨⟨aG w _,a'.row,a'.wf,a'.nR,a'.le⟩,a.2⟩ (fun b hb=>by have:b=w.heap.size:=hb;omega),ah h.below b,?_,?_,?_,?_,?_,?_,?_,h.lU,h.mP,h.cx,h.cy⟩,fun m a b=>?_⟩
 ·rw[af _ _ (by omega)];exact h.t0
 ·rw[af _ _ (by omega)];exact h.t1
 ·rw[af _ _ (by omega)];exact h.t2
 ·rw[af _ _ (by omega)];exact h.t3
 ·rw[af _ _ (by omega)];exact h.t4
 ·rw[af _ _ (by omega)];exact h.t5
 ·rw[af _ _ (by omega),af _ _ (by omega)];exact h.t6
 ·by_cases e:m=j
  ·subst e;rw[ax,ax]
  ·rw[af _ _ e,af _ _ e];exact hX m a b
theorem XH(w:World):(Instr.alloc 87 true (.tuple #[])).run prog w=.ok (.pointer (some ⟨w.heap.size,0,none⟩)) (w.alloc (.cells #[.int .i64 0,.int .u64 0,.slice none 0 0,.int .i64 0] 87)):=by
 have hz:(prog.info? 87).bind (·.zero)=some (.agg #[.int .i64 0,.int .u64 0,.slice none 0 0,.int .i64 0]):=by kernel_rfl
 simp only[Instr.alloc,aU,C.zv 87 _ hz,aH];simp[newVar,newRow,Value.cells]
theorem aa1(h:DS w0 w K x y pd X)(h8:8<=i)(eC:i<40)(e:X i=.pt B st t v L k){j:Nat}(j8:8<=j):Calls prog 30 #[E.qp B] w fun e w'=>e=.returned (E.qp w.heap.size)/\DS w0 w' K x y pd (put X j (.pt w.heap.size st t v L k)):=by
 have hp:=h.pt h8 eC e;obtain ⟨q,n,rfl⟩:=E.cB hp.row;have HL:Hid ((Instr.loadAt 87 (.pointer (some ⟨B,0,none⟩))).run prog w=.ok (.agg #[.int .i64 st,.int .u64 t,.slice q L.length n,.int .i64 k]) w):=b_ w B 0 87 [.int .i64 st,.int .u64 t,.slice q L.length n,.int .i64 k] _ (bE.range (t:=87) hp.st) underlying87 rfl (by rw[Fi];rfl);have HA:=zH (XH w);have HS:Hid ((Instr.storeAt 87 (.pointer (some ⟨w.heap.size,0,none⟩)) (.agg #[.int .i64 st,.int .u64 t,.slice q L.length n,.int .i64 k])).run prog (w.alloc (.cells #[.int .i64 0,.int .u64 0,.slice none 0 0,.int .i64 0] 87))=.ok () (w.alloc (.cells #[.int .i64 st,.int .u64 t,.slice q L.length n,.int .i64 k] 87))):=by
  have:=bE.store (bE.new 87 w [.int .i64 0,.int .u64 0,.slice none 0 0,.int .i64 0]) (ds:=[.int .i64 st,.int .u64 t,.slice q L.length n,.int .i64 k]) (by rw[Fi];rfl) rfl (by simp[Value.oneCell']);rw[jA] at this;exact this
 have HD:=zH (h.adv h8 eC e j8);clear h hp;go_enter func30,ntmps30;go_wp2_with ((with_reducible refine aQ ?_);(first | (refine lJ 87 HL.out ?_) | (refine xk 87 HA.out ?_) | (refine qo 87 HS.out ?_)))
 go_ret;exact⟨rfl,HD.out⟩
