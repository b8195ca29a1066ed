import Derived.Test.YtcdjepkhdjpjcaaGreatDoorU10
set_option maxHeartbeats 20000000
set_option maxRecDepth 100000
namespace Go.Proofs.Zq
open Go.Proofs.Tryz
open Go.RowKit
theorem AP(g o n c:Nat)(xs:List Int)(w:World)(h:jK w (some ⟨g,o,none⟩) n xs)(h0:0<n)(r_:n<=100000) :
  Calls prog 176 #[.slice (some ⟨g,o,none⟩) n c] w fun e w'=>∃q d,e=.returned (.slice (some ⟨q,0,none⟩) (n+4) d)/\Made w w' (some ⟨q,0,none⟩) (n+4) d (xs++digits 4 ((xx xs:Nat):Int)):=by
 obtain ⟨i0,hi,ij,gm,iL⟩:=cj mq;have HX:=zH h;have X1:Hid (jK (w.alloc (.cells #[] 5)) (some ⟨g,o,none⟩) n xs):=h.later (ag w _);have HY:=zH h.byte;clear h;go_enter func176,ntmps176;go_wp2_with (at_builtin;refine dK _ rfl (.tmp 3) (.tmp 4) 107 rfl w.heap.size 5 i0 (.int .u8 0) 1 1 bK hi ij gm iL rfl (by decide) _ 0 [] rfl (gN w #[] 0 (az _) (aI _) rfl) ⟨g,o,none⟩ n c (U8 xs) rfl (by rw[aX,X1.out.len,mU]) X1.out.news (eO _) (by unfold maxLen;omega) (by omega) (by simp) ?_)
 intro v2 w2 jF ja _;try simp only[aW,bF] at jF
 have B2:Hid (Below w.heap.size w w2):=((aV _ w).alloc (az _) _).grown ja (by simp) (by intro k hk;simp[Value.ownBlock] at hk;omega);have O2:=zH jF;have X2:=zH (HX.out.later B2.out);clear jF ja X1;go_wp2_with fail;refine (Ef _ n c xs w2 X2.out (by omega)).mono ?_;rintro e w3 ⟨rfl,rfl⟩;have Tj:=yI xs HY.out;obtain ⟨C,hC⟩:∃C,C=xx xs:=⟨_,rfl⟩
 have HC:=zH hC;rw[<-hC] at Tj ⊢;clear hC;go_wp2_with fail;refine (BI (C:Int) 4 w2 (by omega) (by omega) (by omega)).mono ?_;rintro e w4 ⟨v4,rfl,ho4,b4⟩;obtain ⟨g4,k4,rfl,-⟩:=cB ho4 (by omega);have N4:Hid (jK w4 (some ⟨g4,0,none⟩) 4 (digits 4 (C:Int))):=kK ho4 (en _ _);have O4:=zH (dD O2.out b4);have B4:Hid (Below w.heap.size w w4):=ah B2.out b4;clear ho4 b4 O2 B2 X2;go_wp2_with (at_builtin;refine dK _ rfl (.tmp 5) (.tmp 9) 107 rfl w.heap.size 5 i0 (.int .u8 0) 1 1 bK hi ij gm iL rfl (by decide) v2 n (U8 xs) rfl O4.out ⟨g4,0,none⟩ 4 k4 (U8 (digits 4 (C:Int))) rfl (by rw[aX,dG]) N4.out.news (eO _) (by unfold maxLen;omega) (by omega) B4.out.size ?_)
 intro v5 w5 mQ lM _;have B5:Hid (Below w.heap.size w w5):=B4.out.grown lM B4.out.size (fun k hk=>(O4.out.lt k hk).1);have O5:Hid (w5.ownsRow w.heap.size 5 1 v5 (n+4) (U8 (xs++digits 4 (C:Int)))):=by
  show w5.ownsRow _ _ _ _ _ _;rw[show U8 (xs++digits 4 (C:Int))=U8 xs++U8 (digits 4 (C:Int)) by simp only[U8,cZ]];exact mQ
 clear mQ lM O4 B4 N4;obtain ⟨g5,k5,rfl,OV⟩:=cB O5.out (by omega);go_wp2_with fail;go_ret;rw[<-HC.out];exact⟨g5,k5,rfl,O5.out,kK O5.out (HY.out.append (en _ _)),OV,(fun e=>by cases e),B5.out⟩
theorem ags{b:Int}(h:inB b):IntKind.u8.wrap b=b:=by rw[gI];have:=h.1;have:=h.2;omega
theorem wC(b:Int)(v:List Int)(hb:inB b)(hv:v.length=32)(zw:Bytes v)(w:World) :
  Calls prog 115 #[.int .i64 b,.agg (U8 v).toArray] w fun e w'=>∃g c,e=.returned (.tuple #[.slice (some ⟨g,0,none⟩) 64 c,.int .i64 0])/\Made w w' (some ⟨g,0,none⟩) 64 c (mz b v):=by
 obtain ⟨i0,hi,ij,gm,iL⟩:=cj mq;obtain ⟨w0,mI⟩:∃x,x=w.alloc (.cells (U8 v).toArray 51):=⟨_,rfl⟩
 have ew0:=mI.symm;have V0:Hid (Dq w0 w.heap.size v):=by rw[mI];exact bE.new 51 w (U8 v)
 have B0:Hid (Below w.heap.size w w0):=by rw[mI];exact ag w _
 have HV:=rf hv zw;have HB:=zH hb;have yD:=hb.1;have qj:=hb.2;have hbw:=ags hb;clear mI hv zw hb;have Zi:w0.heap.size=w.heap.size+1:=by rw[<-ew0];simp
 have cv:=oY w0 HM 4 (w.heap.size+1) Zi;obtain ⟨w1,dZ⟩:∃x,x=w0.alloc (.cells HM 5 (4,5)):=⟨_,rfl⟩
 have sz1:w1.heap.size=w.heap.size+2:=by rw[dZ];simp[Zi]
 have b1:Below w0.heap.size w0 w1:=by rw[dZ];exact ag w0 _
 have N1:jK w1 (some ⟨w.heap.size+1,0,none⟩) 4 hm:=by rw[dZ,<-Zi];exact sR w0 hm 4 (4,5) rfl Jh
 have cv2:(convert 107 107 (.slice (some ⟨w.heap.size+1,0,none⟩) 4 4)).run prog (w0.alloc (.cells HM 5))=.ok (.slice (some ⟨w.heap.size+1,0,none⟩) 4 4) w1:=by rw[dZ];exact cv
 obtain ⟨w2,gz⟩:∃x,x=w1.alloc (.cells (U8 [1,b]).toArray 5):=⟨_,rfl⟩
 have b2:Below w1.heap.size w1 w2:=by rw[gz];exact ag w1 _
 have N2:Hid (jK w2 (some ⟨w.heap.size+2,0,none⟩) 2 [1,b]):=by rw[gz,<-sz1];exact ye w1 _ 2 rfl (by intro x hx;simp at hx;omega)
 have M2:=zH (N1.later b2);have B2:Hid (Below w.heap.size w w2):=ah B0.out (ah b1 b2);have V2:Hid (Dq w2 w.heap.size v):=bE.later V0.out (ah b1 b2);have HO2:Hid (∀j u,(U8 hm)[j]?=some u->w2.cell? ⟨w.heap.size+1,0+j,none⟩=some u):=fun j u hu=>by
  have:=M2.out.news j u hu;rw[bW] at this;exact this
 have e2:w1.alloc (.cells #[.int .u8 1,.int .u8 b] 5)=w2:=gz.symm;clear dZ gz cv N1 b1 b2 B0 V0;go_enter func115,ntmps115;go_wp2_with (at_builtin;refine wpList_append_arg _ rfl (.tmp 14) (.tmp 17) 107 rfl 5 i0 (.int .u8 0) 1 1 bK hi ij gm iL rfl (by decide) (w.heap.size+1) 0 4 4 (U8 hm) rfl rfl HO2.out ⟨w.heap.size+2,0,none⟩ 2 2 (U8 [1,b]) rfl rfl N2.out.news (eO _) (fun h=>by omega) (by unfold maxLen;omega) (by omega) (fun h=>by omega) ?_;clear cv2)
 intro v4 w4 sX mA;clear e2 ew0 sz1 hbw Zi;have O4:Hid (w4.ownsRow w.heap.size 5 1 v4 6 (U8 (hm++[1,b]))):=by
  show w4.ownsRow _ _ _ _ _ _;rw[show U8 (hm++[1,b])=U8 hm++U8 [1,b] by simp only[U8,cZ]];exact eH sX B2.out.size
 have B4:Hid (Below w.heap.size w w4):=B2.out.grown mA B2.out.size (by intro k hk;cases hk);have V4:Hid (Dq w4 w.heap.size v):=(mA.block _ (bE.lt V2.out) (by simp)).trans V2.out;clear sX mA B2 V2 N2 M2 HO2;obtain ⟨g4,k4,rfl,-⟩:=cB O4.out (by omega);go_wp2_with (at_builtin;refine fZ _ rfl (.tmp 19) _ 107 3 rfl w.heap.size 5 i0 (.int .u8 0) 1 .i64 .i64 bK fe hi ij gm iL rfl rfl g4 6 k4 (U8 (hm++[1,b])) rfl O4.out 22 rfl (by omega) (by unfold maxLen;omega) (by omega) B4.out.size ?_)
 intro v5 w5 mQ lM;have B5:Hid (Below w.heap.size w w5):=B4.out.grown lM B4.out.size (fun k hk=>(O4.out.lt k hk).1);have V5:Hid (Dq w5 w.heap.size v):=Cv V4.out O4.out lM (by decide);have O5:Hid (w5.ownsRow w.heap.size 5 1 v5 28 (U8 (hm++[1,b]++zs 22))):=by
  show w5.ownsRow _ _ _ _ _ _;simp only[U8,zs,cZ,lD] at mQ ⊢;exact mQ
 have X5:=zH (V5.out.bin HV.out.1 HV.out.2);clear mQ lM B4 V4 O4 V5;go_wp2_with (at_builtin;refine dK _ rfl (.tmp 21) (.tmp 22) 107 rfl w.heap.size 5 i0 (.int .u8 0) 1 1 bK hi ij gm iL rfl (by decide) v5 28 (U8 (hm++[1,b]++zs 22)) rfl O5.out ⟨w.heap.size,0,none⟩ 32 32 (U8 v) rfl (by rw[aX,HV.out.1]) X5.out.news (eO _) (by unfold maxLen;omega) (by omega) B5.out.size ?_)
 intro v6 w6 Jb yz _;have B6:Hid (Below w.heap.size w w6):=B5.out.grown yz B5.out.size (fun k hk=>(O5.out.lt k hk).1);have O6:Hid (w6.ownsRow w.heap.size 5 1 v6 60 (U8 (kP b v))):=by
  show w6.ownsRow _ _ _ _ _ _;rw[show U8 (kP b v)=U8 (hm++[1,b]++zs 22)++U8 v by simp[U8,kP,hm]];exact Jb
 clear Jb yz B5 X5 O5;obtain ⟨g6,k6,rfl,-⟩:=cB O6.out (by omega);have X6:=zH (kK O6.out (td HB.out HV.out.2));go_wp2_with fail;refine (AP g6 0 60 k6 (kP b v) w6 X6.out (by omega) (by omega)).mono ?_;rintro e w7 ⟨g7,c7,rfl,m7⟩;have M7:=zH m7;clear m7 X6 O6;go_wp2_with fail;go_ret2;exact⟨g7,c7,rfl,eH M7.out.own B6.out.size,M7.out.read,M7.out.le,M7.out.nil,ah B6.out M7.out.below⟩
theorem ZF{w w1:World}{g L cap n:Nat}{d:List Int}(hb:Below w.heap.size w w1)(hd:w1.ownsRow w.heap.size 5 1 (.slice (some ⟨g,0,none⟩) L cap) L (U8 d))(hL:L=64*n)(Wi:1<=n)(MB:n<=4096)(hy:Bytes d) :
  Ref (w1.alloc (.cells #[.slice (some ⟨g,0,none⟩) L cap,.slice none 0 0] 236)) (fun k=>w.heap.size<=k) w1.heap.size n d []/\Below w.heap.size w (w1.alloc (.cells #[.slice (some ⟨g,0,none⟩) L cap,.slice none 0 0] 236)):=by
 have hl:d.length=64*n:=by have:=hd.1;rw[aX] at this;omega
 refine⟨⟨g,L,cap,.slice none 0 0,[],aG _ _,eH (hd.alloc _) (aI _),cq _ _ _ _,rfl,fun i h=>by simp at h,fun i h=>by simp at h,hb.size,(gU hd).2.2.2,fun k hk=>by simp[Value.ownBlock] at hk,fun i h=>by simp at h,hL,Wi,MB,hl,hy,Fit.nil _⟩,hb.alloc hb.size _⟩
theorem Lf(g o m c n:Nat)(xs:List Int)(w:World)(h:jK w (some ⟨g,o,none⟩) m xs)(hm:m=64*n)(Wi:1<=n)(MB:n<=4096) :
  Calls prog 116 #[.slice (some ⟨g,o,none⟩) m c] w fun e w'=>∃p,e=.returned (.tuple #[.pointer (some ⟨p,0,none⟩),.int .i64 0])/\Ref w' (fun k=>w.heap.size<=k) p n xs []/\Below w.heap.size w w':=by
 obtain ⟨i0,hi,ij,gm,iL⟩:=cj mq;have e0:((m:Int) == 0)=false:=by rw[gp];omega
 have e1:((m:Int) % 64 != 0)=false:=by rw[show (m:Int) % 64=0 by omega];rfl
 have e2:¬(262144:Int)<(m:Int):=by omega
 have HH:=zH h;have HM:=zH hm;have HN:Hid (∀j u,(U8 xs)[j]?=some u->(w.alloc (.cells #[] 5)).cell? ((⟨g,o,none⟩:Addr).add j)=some u):=(HH.out.later (ag w _)).news;have Wj:0<m:=by omega
 have hm2:m<=262144:=by omega
 clear h hm;go_enter func116,ntmps116;go_wp2_with (at_builtin;refine wpList_append_lies _ rfl (.tmp 18) (.tmp 19) 107 rfl w.heap.size 5 i0 (.int .u8 0) 1 1 bK hi ij gm iL rfl (by omega) _ 0 [] rfl (gN w #[] 0 (az _) (aI _) rfl) ⟨g,o,none⟩ m c (U8 xs) rfl (by rw[aX,HH.out.len,mU]) HN.out (eO _) Wj (by unfold maxLen;omega) (by omega) (by simp) _ rfl ?_)
 intro g1 c1 w1 dR cU lf eP;try simp only[aW,bF] at dR ⊢
 have hb:Below w.heap.size w w1:=((aV _ w).alloc (az _) _).grown cU (by simp) (by intro k hk;simp[Value.ownBlock] at hk;omega);have HF:=zH (ZF hb dR HM.out Wi MB HH.out.byte);clear dR cU lf eP hb;go_wp2;go_ret2;exact⟨_,rfl,HF.out.1,HF.out.2⟩
theorem Bf(s:fN)(w:World):Calls prog 9 #[.agg (aN s).toArray] w fun e w'=>e=.returned (.bool (decide (iP s)))/\Below w.heap.size w w':=by
 have hA:fC (w.alloc (.cells (aN s).toArray 23)) w.heap.size s:=bE.new 23 w (aN s);have c0:=fC.c0 hA;have c1:=fC.c1 hA;have c2:=fC.c2 hA;have c3:=fC.c3 hA;have c4:=fC.c4 hA;have HB:Hid (Below w.heap.size w (w.alloc (.cells (aN s).toArray 23))):=ag w _;clear hA;by_cases q0:s.bl<1
 ·rw[aF (fun h=>by have:=h.1.1;omega)];go_enter func9,ntmps9;go_wp2;go_ret;first | exact⟨rfl,HB.out⟩ | (refine⟨?_,HB.out⟩;simp;omega)
 have g0:1<=s.bl:=by omega
 clear q0;by_cases q1:64<s.bl
 ·rw[aF (fun h=>by have:=h.1.2;omega)];go_enter func9,ntmps9;go_wp2;go_ret;first | exact⟨rfl,HB.out⟩ | (refine⟨?_,HB.out⟩;simp;omega)
 have g1:s.bl<=64:=by omega
 clear q1;by_cases q2:s.lc<2
 ·rw[aF (fun h=>by have:=h.2.1.1;omega)];go_enter func9,ntmps9;go_wp2;go_ret;first | exact⟨rfl,HB.out⟩ | (refine⟨?_,HB.out⟩;simp;omega)
 have g2:2<=s.lc:=by omega
 clear q2;by_cases q3:64<s.lc
 ·rw[aF (fun h=>by have:=h.2.1.2;omega)];go_enter func9,ntmps9;go_wp2;go_ret;first | exact⟨rfl,HB.out⟩ | (refine⟨?_,HB.out⟩;simp;omega)
 have g3:s.lc<=64:=by omega
 clear q3;by_cases q4:s.mr<1
 ·rw[aF (fun h=>by have:=h.2.2.1.1;omega)];go_enter func9,ntmps9;go_wp2;go_ret;first | exact⟨rfl,HB.out⟩ | (refine⟨?_,HB.out⟩;simp;omega)
 have g4:1<=s.mr:=by omega
 clear q4;by_cases q5:16<s.mr
 ·rw[aF (fun h=>by have:=h.2.2.1.2.1;omega)];go_enter func9,ntmps9;go_wp2;go_ret;first | exact⟨rfl,HB.out⟩ | (refine⟨?_,HB.out⟩;simp;omega)
 have g5:s.mr<=16:=by omega
 clear q5;by_cases q6:s.bl<s.mr
 ·rw[aF (fun h=>by have:=h.2.2.1.2.2.1;omega)];go_enter func9,ntmps9;go_wp2;go_ret;first | exact⟨rfl,HB.out⟩ | (refine⟨?_,HB.out⟩;simp;omega)
 have g6:s.mr<=s.bl:=by omega
 clear q6;by_cases q7:s.lc-1<s.mr
 ·rw[aF (fun h=>by have:=h.2.2.1.2.2.2;omega)];go_enter func9,ntmps9;go_wp2;go_ret;first | exact⟨rfl,HB.out⟩ | (refine⟨?_,HB.out⟩;simp;omega)
 have g7:s.mr<=s.lc-1:=by omega
 clear q7;by_cases q8:s.hi<1
 ·rw[aF (fun h=>by have:=h.2.2.2.1.1;omega)];go_enter func9,ntmps9;go_wp2;go_ret;first | exact⟨rfl,HB.out⟩ | (refine⟨?_,HB.out⟩;simp;omega)
 have g8:1<=s.hi:=by omega
 clear q8;by_cases q9:s.lc<s.hi
 ·rw[aF (fun h=>by have:=h.2.2.2.1.2;omega)];go_enter func9,ntmps9;go_wp2;go_ret;first | exact⟨rfl,HB.out⟩ | (refine⟨?_,HB.out⟩;simp;omega)
 have g9:s.hi<=s.lc:=by omega
 clear q9;by_cases q10:s.cl<1
 ·rw[aF (fun h=>by have:=h.2.2.2.2.1;omega)];go_enter func9,ntmps9;go_wp2;go_ret;first | exact⟨rfl,HB.out⟩ | (refine⟨?_,HB.out⟩;simp;omega)
 have g10:1<=s.cl:=by omega
 clear q10;by_cases q11:8<s.cl
 ·rw[aF (fun h=>by have:=h.2.2.2.2.2;omega)];go_enter func9,ntmps9;go_wp2;go_ret;first | exact⟨rfl,HB.out⟩ | (refine⟨?_,HB.out⟩;simp;omega)
 have g11:s.cl<=8:=by omega
 clear q11;rw[aP ⟨⟨g0,g1⟩,⟨g2,g3⟩,⟨g4,g5,g6,g7⟩,⟨g8,g9⟩,⟨g10,g11⟩⟩];go_enter func9,ntmps9;go_wp2;go_ret;first | exact⟨rfl,HB.out⟩ | (refine⟨?_,HB.out⟩;simp;omega)
theorem WO(s:fN){w:World}{S:Nat->Prop}{p n:Nat}{d:List Int}{ws:List Wr}(h:Ref w S p n d ws) :
  Calls prog 229 #[.pointer (some ⟨p,0,none⟩),.agg (aN s).toArray] w fun e w'=>e=.returned (.int .i64 (xp s n))/\Below w.heap.size w w':=by
 have L1:=zH (fC.gi (bE.new 23 w (aN s)));have HA:=zH (bE.new 23 w (aN s));have HB:Hid (Below w.heap.size w (w.alloc (.cells (aN s).toArray 23))):=ag w _;have HD:=zH h;clear h;go_enter func229,ntmps229;go_wp2_with ((with_reducible refine aQ ?_);(refine aK (by rfl) 23 rfl rfl L1.out ?_);simp only[Act.put,zA,zB,zC])
 refine (Bf s _).mono ?_;rintro e w1 ⟨rfl,b1⟩;have uE:=zH (bE.later HA.out b1);have gj:Hid (Below w.heap.size w w1):=ah HB.out b1;have kD:=zH (HD.out.later gj.out);clear b1 HA HB L1 HD;by_cases hc:iP s
 ·rw[aP hc];have HC:=zH hc;obtain ⟨⟨a1,a2⟩,⟨a3,a4⟩,-⟩:=hc;obtain ⟨bl,Jq⟩:∃x,x=s.bl:=⟨_,rfl⟩
  obtain ⟨lc,Tg⟩:∃x,x=s.lc:=⟨_,rfl⟩
  have k1:IntKind.i64.wrap (1+bl)=1+bl:=by rw[aY];omega
  have k2:IntKind.i64.wrap (1+bl+lc)=1+bl+lc:=by rw[aY];omega
  have HE:Hid (((n:Int)=1+bl+lc->xp s n=0)/\(¬(n:Int)=1+bl+lc->xp s n=40)):=by rw[Jq,Tg];exact⟨fun h=>Uo HC.out h,fun h=>NZ HC.out h⟩
  have Du:Hid (∀w',fC w' w.heap.size s->w'.cell? ⟨w.heap.size,0,none⟩=some (.int .i64 bl)/\w'.cell? ⟨w.heap.size,1,none⟩=some (.int .i64 lc)):=by rw[Jq,Tg];exact fun w' h=>⟨fC.c0 h,fC.c1 h⟩
  clear Jq Tg a1 a2 a3 a4;go_wp2_with fail;refine zS w1 fun aa=>?_;have D1:Hid (Below w1.heap.size w1 w1.drew):=aa;generalize w1.drew=wd at *;refine fI 0 2 aa ?_;refine de 3 aa (fun _ fc=>(Du.out _ (bE.later uE.out fc)).1) ?_;refine fI 4 5 aa ?_;refine de 6 aa (fun _ fc=>(Du.out _ (bE.later uE.out fc)).2) ?_;refine tk 7 aa ?_;refine ck (rs:=[1]) (by kernel_rfl) (by simp) ?_;refine bu (by simp;rfl) (fun Kc aJ=>?_) bO;go_simp;refine (Bg (kD.out.later D1.out)).mono ?_;rintro e wn ⟨rfl,rfl⟩;refine aJ.out _ _ D1.out (fun aa=>?_);clear aJ Kc;refine fI 8 9 aa ?_;have gD:Hid (Below w.heap.size w wd):=ah gj.out D1.out;clear aa D1 kD Du;refine zD ?_;by_cases he:(n:Int)=1+bl+lc
  ·have hq:((n:Int) != 1+bl+lc)=false:=by rw[he];simp
   have HR:=zH (HE.out.1 he);clear he HE;go_wp2_with fail;go_ret;exact⟨by rw[HR.out];rfl,gD.out⟩
  ·have hq:((n:Int) != 1+bl+lc)=true:=by simp[he]
   have HR:=zH (HE.out.2 he);clear he HE;go_wp2_with fail;go_ret;exact⟨by rw[HR.out];rfl,gD.out⟩
 ·rw[aF hc];have HR:Hid (xp s n=3):=Uq _ hc;clear hc;go_wp2_with fail;go_ret;exact⟨by rw[HR.out];rfl,gj.out⟩
theorem Qv(s:fN)(b:Int)(v:List Int)(hv:v.length=32)(zw:Bytes v){w:World}{S:Nat->Prop}{p n:Nat}{d:List Int}{ws:List Wr}(h:Ref w S p n d ws)(hk:ws.length<=100000) :
  Calls prog 213 #[.pointer (some ⟨p,0,none⟩),.agg (aN s).toArray,.int .i64 b,.agg (U8 v).toArray] w fun e w'=>e=.returned (.int .i64 (Eg s n b))/\Ref w' (kX S w) p n d (Zj s n ws b v)/\Kept S w w':=by
 obtain ⟨w0,mI⟩:∃x,x=(w.alloc (.cells (aN s).toArray 23)).alloc (.cells (U8 v).toArray 51):=⟨_,rfl⟩
 have ew:=mI.symm;have B0:Hid (Below w.heap.size w w0):=by rw[mI];exact ah (ag w _) (ag _ _)
 have C0:Hid (fC w0 w.heap.size s):=by rw[mI];exact bE.later (bE.new 23 w (aN s)) (ag _ _)
 have V0:Hid (Dq w0 (w.heap.size+1) v):=by
  have:=bE.new 51 (w.alloc (.cells (aN s).toArray 23)) (U8 v);rw[show (w.alloc (.cells (aN s).toArray 23)).heap.size=w.heap.size+1 by simp] at this;rw[mI];exact this
 have D0:=zH (h.later B0.out);have L1:=zH (fC.gi C0.out);have HV:=rf hv zw;have HK:=zH hk;clear mI h hv zw hk;go_enter func213,ntmps213;go_wp2_with ((with_reducible refine aQ ?_);(refine aK (by rfl) 23 rfl rfl L1.out ?_);simp only[Act.put,zA,zB,zC])
 clear ew;refine (WO s D0.out).mono ?_;rintro e w1 ⟨rfl,b1⟩;have B1:Hid (Below w.heap.size w w1):=ah B0.out b1;have V1:=zH (bE.later V0.out b1);have D1:=zH (D0.out.later b1);have L2:=zH (Dq.load V1.out HV.out.1);have c0:=fC.c0 (bE.later C0.out b1);have F1:Hid (Ref w1 (kX S w) p n d ws/\Kept S w w1):=⟨D1.out.mono (fun k _ hs=>.inl hs),Kept.bP B1.out⟩
 clear b1 B0 L1 C0 V0 D0 V1;by_cases hf:xp s n=0
 ·rw[hf];by_cases hb:0<=b/\b<s.bl
  ·have hr:Eg s n b=0:=Uw hf hb;obtain ⟨hbb,h0,h1⟩:=Uy hr;have HR:=zH (NK ws v hr);have HRZ:=zH hr;have yD:=hb.1;have qj:=hb.2;have jb:=hbb.2;have H1:=zH h1;have HBB:=zH hbb;clear hr h0 h1 hb hbb hf F1;go_wp2_with ((with_reducible refine aQ ?_);(refine aK (by rfl) 51 rfl rfl L2.out ?_);simp only[Act.put,zA,zB,zC])
   refine (wC b v HBB.out HV.out.1 HV.out.2 w1).mono ?_;rintro e w2 ⟨g2,c2,rfl,m2⟩;have B2:Hid (Below w.heap.size w w2):=ah B1.out m2.below;have D2:=zH (D1.out.later m2.below);have X2:=zH m2.read;clear m2 B1 D1 L2 c0;go_wp2_with fail;refine (xS D2.out (1+b) (by omega) H1.out _ c2 _ X2.out HK.out).mono ?_;rintro e w3 ⟨rfl,d3,k3⟩;have F3:Hid (Ref w3 (kX S w) p n d (ws++[⟨(1+b).toNat,mz b v⟩])/\Kept S w w3):=by
    refine⟨d3.mono (fun k _ hs=>?_),(Kept.bP B2.out).trans k3 (fun _ _ t=>t)⟩;rcases hs with hs | hs
    ·exact .inl hs
    ·exact .inr (bJ B2.out.size hs)
   clear d3 k3 D2 X2 B2;go_wp2_with fail;go_ret;exact⟨by rw[HRZ.out];rfl,by rw[HR.out];exact F3.out.1,F3.out.2⟩
  ·have hr:Eg s n b=51:=Ob hf hb;have HR:Hid (Zj s n ws b v=ws):=KO ws v (by rw[hr];decide);have HRZ:=zH hr;have hd:b<0\/(0<=b/\s.bl<=b):=by omega
   clear hr hb hf L2;rcases hd with h1 | ⟨h1,h2⟩
   ·go_wp2_with fail;go_ret;exact⟨by rw[HRZ.out];rfl,by rw[HR.out];exact F1.out.1,F1.out.2⟩
   ·go_wp2_with fail;go_ret;exact⟨by rw[HRZ.out];rfl,by rw[HR.out];exact F1.out.1,F1.out.2⟩
 ·have hr:Eg s n b=xp s n:=Ux b hf;have HR:Hid (Zj s n ws b v=ws):=KO ws v (by rw[hr];exact hf);obtain ⟨q,EI⟩:∃q,q=xp s n:=⟨_,rfl⟩
  rw[<-EI] at hf hr ⊢;have HQ:=zH hr;have hq:(q != 0)=true:=by simp[hf]
  clear L2 EI hr;go_wp2_with fail;go_ret;exact⟨by rw[HQ.out];rfl,by rw[HR.out];exact F1.out.1,F1.out.2⟩
abbrev eight (a b c d e:Int):List Int:=[a,b,c,d,e,0,0,0]
theorem K_(s:fN)(hc:iP s)(w:World) :
  Calls prog 114 #[.agg (aN s).toArray] w fun e w'=>∃g c,e=.returned (.slice (some ⟨g,0,none⟩) 64 c)/\Made w w' (some ⟨g,0,none⟩) 64 c (encS (mX s)):=by
 obtain ⟨i0,hi,ij,gm,iL⟩:=cj mq;obtain ⟨w0,mI⟩:∃x,x=w.alloc (.cells (aN s).toArray 23):=⟨_,rfl⟩
 have Zi:w0.heap.size=w.heap.size+1:=by rw[mI];simp
 have C0:fC w0 w.heap.size s:=by rw[mI];exact bE.new 23 w _
 have B0:Below w.heap.size w w0:=by rw[mI];exact ag w _
 have cv:=oY w0 NM 6 (w.heap.size+1) Zi;obtain ⟨w1,dZ⟩:∃x,x=w0.alloc (.cells NM 5 (6,7)):=⟨_,rfl⟩
 have sz1:w1.heap.size=w.heap.size+2:=by rw[dZ];simp[Zi]
 have b1:Below w0.heap.size w0 w1:=by rw[dZ];exact ag w0 _
 have N1:jK w1 (some ⟨w.heap.size+1,0,none⟩) 6 nm:=by rw[dZ,<-Zi];exact sR w0 nm 6 (6,7) rfl wM
 have cv2:(convert 107 107 (.slice (some ⟨w.heap.size+1,0,none⟩) 6 6)).run prog (w0.alloc (.cells NM 5))=.ok (.slice (some ⟨w.heap.size+1,0,none⟩) 6 6) w1:=by rw[dZ];exact cv
 obtain ⟨w2,gz⟩:∃x,x=w1.alloc (.cells (U8 [1,0]).toArray 5):=⟨_,rfl⟩
 have b2:Below w1.heap.size w1 w2:=by rw[gz];exact ag w1 _
 have N2:Hid (jK w2 (some ⟨w.heap.size+2,0,none⟩) 2 [1,0]):=by rw[gz,<-sz1];exact ye w1 _ 2 rfl (by intro x hx;simp at hx;omega)
 have M2:=zH (N1.later b2);have B2:Hid (Below w.heap.size w w2):=ah B0 (ah b1 b2);have C2:Hid (fC w2 w.heap.size s):=bE.later C0 (ah b1 b2);have HO2:Hid (∀j u,(U8 nm)[j]?=some u->w2.cell? ⟨w.heap.size+1,0+j,none⟩=some u):=fun j u hu=>by
  have:=M2.out.news j u hu;rw[bW] at this;exact this
 have e2:w1.alloc (.cells #[.int .u8 1,.int .u8 0] 5)=w2:=gz.symm;have ew0:=mI.symm;have HX:Hid (Bytes (eight s.bl s.lc s.mr s.hi s.cl)/\body (mX s)=(nm++[1,0]++eight s.bl s.lc s.mr s.hi s.cl)++digits 8 0++digits 8 1++zs 28):=by
  obtain ⟨⟨a1,a2⟩,⟨a3,a4⟩,⟨a5,a6,-,-⟩,⟨a7,a8⟩,⟨a9,a10⟩⟩:=hc;refine⟨?_,?_⟩
  ·intro y hy;simp only[eight,bZ,dL,or_false] at hy;omega
  ·unfold body;show nm++([1,0]++([s.bl % 256,s.lc % 256,s.mr % 256,s.hi % 256,s.cl % 256,0,0,0]++(digits 8 0++(digits 8 1++zs 28))))=_;rw[show s.bl % 256=s.bl by omega,show s.lc % 256=s.lc by omega,show s.mr % 256=s.mr by omega,show s.hi % 256=s.hi by omega,show s.cl % 256=s.cl by omega];simp[eight]
 have q1:IntKind.u8.wrap s.bl=s.bl:=by rw[gI];have:=hc.1;omega
 have q2:IntKind.u8.wrap s.lc=s.lc:=by rw[gI];have:=hc.2.1;omega
 have q3:IntKind.u8.wrap s.mr=s.mr:=by rw[gI];have:=hc.2.2.1;omega
 have q4:IntKind.u8.wrap s.hi=s.hi:=by rw[gI];have:=hc.2.2.2.1;have:=hc.2.1;omega
 have q5:IntKind.u8.wrap s.cl=s.cl:=by rw[gI];have:=hc.2.2.2.2;omega
 clear mI dZ gz cv N1 b1 b2 B0 C0 hc;go_enter func114,ntmps114;go_wp2_with (at_builtin;refine wpList_append_arg _ rfl (.tmp 5) (.tmp 6) 107 rfl 5 i0 (.int .u8 0) 1 1 bK hi ij gm iL rfl (by decide) (w.heap.size+1) 0 6 6 (U8 nm) rfl rfl HO2.out ⟨w.heap.size+2,0,none⟩ 2 2 (U8 [1,0]) rfl rfl N2.out.news (eO _) (fun h=>by omega) (by unfold maxLen;omega) (by omega) (fun h=>by omega) ?_;clear cv2)
 intro v4 w4 sX mA;clear e2 ew0 sz1 Zi;have O4:Hid (w4.ownsRow w.heap.size 5 1 v4 8 (U8 (nm++[1,0]))):=by
  show w4.ownsRow _ _ _ _ _ _;rw[show U8 (nm++[1,0])=U8 nm++U8 [1,0] by simp only[U8,cZ]];exact eH sX B2.out.size
 have B4:Hid (Below w.heap.size w w4):=B2.out.grown mA B2.out.size (by intro k hk;cases hk);have C4:Hid (fC w4 w.heap.size s):=(mA.block _ (bE.lt C2.out) (by simp)).trans C2.out;clear sX mA B2 C2 N2 M2 HO2;have c0:=fC.c0 C4.out;have c1:=fC.c1 C4.out;have c2:=fC.c2 C4.out;have c3:=fC.c3 C4.out;have c4:=fC.c4 C4.out;have N4:Hid (jK (w4.alloc (.cells (U8 (eight s.bl s.lc s.mr s.hi s.cl)).toArray 5)) (some ⟨w4.heap.size,0,none⟩) 8 (eight s.bl s.lc s.mr s.hi s.cl)):=ye w4 _ 8 rfl HX.out.1;have MI:w.heap.size<=w4.heap.size:=B4.out.size;go_wp2_with (at_builtin;refine dK _ rfl (.tmp 8) (.tmp 24) 107 rfl w.heap.size 5 i0 (.int .u8 0) 1 1 bK hi ij gm iL rfl (by decide) v4 8 (U8 (nm++[1,0])) rfl (O4.out.alloc _) ⟨w4.heap.size,0,none⟩ 8 8 (U8 (eight s.bl s.lc s.mr s.hi s.cl)) rfl rfl N4.out.news (eO _) (by unfold maxLen;omega) (by omega) (by simp;omega) ?_)
 intro v5 w5 mQ lM _;have B5:Hid (Below w.heap.size w w5):=(B4.out.alloc B4.out.size _).grown lM (by simp;omega) (fun k hk=>(O4.out.lt k hk).1);have O5:Hid (w5.ownsRow w.heap.size 5 1 v5 16 (U8 (nm++[1,0]++eight s.bl s.lc s.mr s.hi s.cl))):=by
  show w5.ownsRow _ _ _ _ _ _;simp only[U8,cZ] at mQ ⊢;exact mQ
 clear mQ lM B4 C4 O4 N4 c0 c1 c2 c3 c4 q1 q2 q3 q4 q5 MI;obtain ⟨H,hH⟩:∃H,H=nm++[1,0]++eight s.bl s.lc s.mr s.hi s.cl:=⟨_,rfl⟩
 rw[<-hH] at HX O5;clear hH;go_wp2_with fail;refine (BI 0 8 w5 (by omega) (by omega) (by omega)).mono ?_;rintro e w6 ⟨v6,rfl,ho6,b6⟩;obtain ⟨g6,k6,rfl,-⟩:=cB ho6 (by omega);have N6:Hid (jK w6 (some ⟨g6,0,none⟩) 8 (digits 8 0)):=kK ho6 (en _ _);have O6:=zH (dD O5.out b6);have B6:Hid (Below w.heap.size w w6):=ah B5.out b6;clear ho6 b6 O5 B5;go_wp2_with (at_builtin;refine dK _ rfl (.tmp 26) (.tmp 27) 107 rfl w.heap.size 5 i0 (.int .u8 0) 1 1 bK hi ij gm iL rfl (by decide) v5 16 (U8 H) rfl O6.out ⟨g6,0,none⟩ 8 k6 (U8 (digits 8 0)) rfl (by rw[aX,dG]) N6.out.news (eO _) (by unfold maxLen;omega) (by omega) B6.out.size ?_)
 intro v7 w7 acj Wp _;have B7:Hid (Below w.heap.size w w7):=B6.out.grown Wp B6.out.size (fun k hk=>(O6.out.lt k hk).1);have O7:Hid (w7.ownsRow w.heap.size 5 1 v7 24 (U8 (H++digits 8 0))):=by
  show w7.ownsRow _ _ _ _ _ _;rw[show U8 (H++digits 8 0)=U8 H++U8 (digits 8 0) by simp only[U8,cZ]];exact acj
 clear acj Wp O6 B6 N6;go_wp2_with fail;refine (BI 1 8 w7 (by omega) (by omega) (by omega)).mono ?_;rintro e w8 ⟨v8,rfl,ho8,b8⟩;obtain ⟨g8,k8,rfl,-⟩:=cB ho8 (by omega);have N8:Hid (jK w8 (some ⟨g8,0,none⟩) 8 (digits 8 1)):=kK ho8 (en _ _);have O8:=zH (dD O7.out b8);have B8:Hid (Below w.heap.size w w8):=ah B7.out b8;clear ho8 b8 O7 B7;go_wp2_with (at_builtin;refine dK _ rfl (.tmp 28) (.tmp 29) 107 rfl w.heap.size 5 i0 (.int .u8 0) 1 1 bK hi ij gm iL rfl (by decide) v7 24 (U8 (H++digits 8 0)) rfl O8.out ⟨g8,0,none⟩ 8 k8 (U8 (digits 8 1)) rfl (by rw[aX,dG]) N8.out.news (eO _) (by unfold maxLen;omega) (by omega) B8.out.size ?_)
 intro v9 w9 Ja B_ _;have B9:Hid (Below w.heap.size w w9):=B8.out.grown B_ B8.out.size (fun k hk=>(O8.out.lt k hk).1);have O9:Hid (w9.ownsRow w.heap.size 5 1 v9 32 (U8 (H++digits 8 0++digits 8 1))):=by
  show w9.ownsRow _ _ _ _ _ _;simp only[U8,cZ,aS];exact Ja
 clear Ja B_ O8 B8 N8;obtain ⟨g9,k9,rfl,-⟩:=cB O9.out (by omega);go_wp2_with (at_builtin;refine fZ _ rfl (.tmp 31) _ 107 3 rfl w.heap.size 5 i0 (.int .u8 0) 1 .i64 .i64 bK fe hi ij gm iL rfl rfl g9 32 k9 (U8 (H++digits 8 0++digits 8 1)) rfl O9.out 28 rfl (by omega) (by unfold maxLen;omega) (by omega) B9.out.size ?_)
 intro v10 Gy Wd OX;have B10:Hid (Below w.heap.size w Gy):=B9.out.grown OX B9.out.size (fun k hk=>(O9.out.lt k hk).1);have O10:Hid (Gy.ownsRow w.heap.size 5 1 v10 60 (U8 (body (mX s)))):=by
  show Gy.ownsRow _ _ _ _ _ _;rw[HX.out.2];simp only[U8,zs,cZ,aS,lD];exact Wd
 clear Wd OX O9 B9 HX;obtain ⟨g10,k10,rfl,-⟩:=cB O10.out (by omega);have X10:Hid (jK Gy (some ⟨g10,0,none⟩) 60 (body (mX s))):=kK O10.out (jc _);go_wp2_with fail;refine (AP g10 0 60 k10 (body (mX s)) Gy X10.out (by omega) (by omega)).mono ?_;rintro e S_ ⟨g11,CH,rfl,Tb⟩;have M11:=zH Tb;clear Tb X10 O10;go_wp2_with fail;go_ret;exact⟨g11,CH,rfl,eH M11.out.own B10.out.size,M11.out.read,M11.out.le,M11.out.nil,ah B10.out M11.out.below⟩
theorem Qx(s:fN)(hc:¬iP s)(w:World) :
  Calls prog 55 #[.agg (aN s).toArray] w fun e w'=>e=.returned (.tuple #[.pointer none,.int .i64 3])/\Below w.heap.size w w':=by
 have L1:=zH (fC.gi (bE.new 23 w (aN s)));have HB:Hid (Below w.heap.size w (w.alloc (.cells (aN s).toArray 23))):=ag w _;go_enter func55,ntmps55;go_wp2_with ((with_reducible refine aQ ?_);(refine aK (by rfl) 23 rfl rfl L1.out ?_);simp only[Act.put,zA,zB,zC])
 refine (Bf s _).mono ?_;rintro e w1 ⟨rfl,b1⟩;rw[aF hc];have gj:Hid (Below w.heap.size w w1):=ah HB.out b1;clear b1 HB L1 hc;go_wp2_with fail;go_ret2;exact⟨rfl,gj.out⟩
theorem Le(s:fN)(hc:iP s)(w:World) :
  Calls prog 55 #[.agg (aN s).toArray] w fun e w'=>∃p,e=.returned (.tuple #[.pointer (some ⟨p,0,none⟩),.int .i64 0])/\Ref w' (fun k=>w.heap.size<=k) p (nG s) (kM s) []/\Below w.heap.size w w':=by
 obtain ⟨i0,hi,ij,gm,iL⟩:=cj mq;have L1:=zH (fC.gi (bE.new 23 w (aN s)));have HA:=zH (bE.new 23 w (aN s));have HB:Hid (Below w.heap.size w (w.alloc (.cells (aN s).toArray 23))):=ag w _;have HC:=zH hc;obtain ⟨m,hm⟩:∃m,m=s.bl.toNat:=⟨_,rfl⟩
 obtain ⟨l,hl⟩:∃l,l=s.lc.toNat:=⟨_,rfl⟩
 have qj:=hc.1;have lK:=hc.2.1;have OR:s.bl=(m:Int):=by omega
 have hli:s.lc=(l:Int):=by omega
 have Wj:1<=m:=by omega
 have hm2:m<=64:=by omega
 have YA:2<=l:=by omega
 have hl2:l<=64:=by omega
 obtain ⟨K,hK⟩:∃K,K=64*l:=⟨_,rfl⟩
 have HN:Hid (kM s=encS (mX s)++homes m++zs K/\64*(m+1)+K=64*nG s/\nG s<=4096):=by
  refine⟨by unfold kM;rw[hK,hl,hm],?_,?_⟩
  ·unfold nG;omega
  ·have:=(Pr hc).2;omega
 have tU:(64:Int)*(l:Int)=(K:Int):=by omega
 have hk1:0<K:=by omega
 have wR:K<=4096:=by omega
 have HCI:Hid (∀w',fC w' w.heap.size s->w'.cell? ⟨w.heap.size,0,none⟩=some (.int .i64 (m:Int))/\w'.cell? ⟨w.heap.size,1,none⟩=some (.int .i64 (l:Int))):=by
  rw[<-OR,<-hli];exact fun w' h=>⟨fC.c0 h,fC.c1 h⟩
 clear hm hl qj lK OR hli hK;go_enter func55,ntmps55;go_wp2_with ((with_reducible refine aQ ?_);(refine aK (by rfl) 23 rfl rfl L1.out ?_);simp only[Act.put,zA,zB,zC])
 refine (Bf s _).mono ?_;rintro e w0 ⟨rfl,b0⟩;rw[aP hc];have A0:=zH (bE.later HA.out b0);have B0:Hid (Below w.heap.size w w0):=ah HB.out b0;have L2:=zH (fC.gi A0.out);clear b0 HA HB L1 hc;go_wp2_with ((with_reducible refine aQ ?_);(refine aK (by rfl) 23 rfl rfl L2.out ?_);simp only[Act.put,zA,zB,zC])
 refine (K_ s HC.out w0).mono ?_;rintro e w1 ⟨g1,c1,rfl,m1⟩;have A1:=zH (bE.later A0.out m1.below);have B1:Hid (Below w.heap.size w w1):=ah B0.out m1.below;have O1:=zH (eH m1.own B0.out.size);clear m1 A0 B0 L2;go_wp2_with fail
 go_loopw [4,5] (fun v i wr=>∃k:Nat,k<=m/\i=.int .i64 k/\Hid (fC wr w.heap.size s/\wr.ownsRow w.heap.size 5 1 v (64*(k+1)) (U8 (encS (mX s)++homes k))/\Below w.heap.size w wr)) (fun _ i _=>m-(intOf i).toNat)
 case atStart=>exact⟨0,aI _,rfl,A1.out,by simpa [homes] using O1.out,B1.out⟩
 case round =>
  obtain ⟨k,hk,rfl,HI⟩:=hrel;clear A1 B1 O1;have Ar:=zH HI.out.1;have Or:=zH HI.out.2.1;have Br:=zH HI.out.2.2;have c0:=(HCI.out _ Ar.out).1;clear HI;by_cases eP:k<m
  ·have U2:=zH (Xw wr);go_wp2_with ((with_reducible refine aQ ?_);(refine bh (vs:=[]) (by rfl) 51 rfl (by rfl) U2.out ?_);simp only[Act.put,zA,zB,zC])
   clear c0;refine (wC (k:Int) (zs 32) ⟨by omega,by omega⟩ (bG 32) (jW 32) wr).mono ?_;rintro e w2 ⟨g2,c2,rfl,m2⟩;have A2:=zH (bE.later Ar.out m2.below);have B2:Hid (Below w.heap.size w w2):=ah Br.out m2.below;have O2:=zH (dD Or.out m2.below);have X2:=zH m2.read;have HL:Hid ((mz (k:Int) (zs 32)).length=64):=yw _ (bG 32);have HX:Hid (U8 (encS (mX s)++homes (k+1))=U8 (encS (mX s)++homes k)++U8 (mz (k:Int) (zs 32))):=by show _=_;rw[uV];simp only[U8,cZ,aS]
   clear m2 Ar Or Br U2;generalize mz (k:Int) (zs 32)=hs at *;go_wp2_with (at_builtin;refine dK _ rfl (.tmp 27) (.tmp 28) 107 rfl w.heap.size 5 i0 (.int .u8 0) 1 1 bK hi ij gm iL rfl (by decide) u4 (64*(k+1)) (U8 (encS (mX s)++homes k)) rfl O2.out ⟨g2,0,none⟩ 64 c2 (U8 hs) rfl (by rw[aX,HL.out]) X2.out.news (eO _) (by unfold maxLen;omega) (by omega) B2.out.size ?_)
   intro v3 w3 Jc uX _;have F3:Hid (fC w3 w.heap.size s/\w3.ownsRow w.heap.size 5 1 v3 (64*(k+1+1)) (U8 (encS (mX s)++homes (k+1)))/\Below w.heap.size w w3):=by
    refine⟨Cv A2.out O2.out uX (by decide),?_,B2.out.grown uX B2.out.size (fun g hg=>(O2.out.lt g hg).1)⟩;rw[HX.out,show 64*(k+1+1)=64*(k+1)+64 by omega];exact Jc
   clear Jc uX A2 B2 O2 X2;go_wp2_with fail;go_roundw
   case rel=>exact⟨k+1,by omega,by go_num,F3.out⟩
   case measure=>simp[intOf];omega
  ·obtain rfl:m=k:=by omega
   have c1:=(HCI.out _ Ar.out).2;obtain ⟨g4,c4,rfl,-⟩:=cB Or.out (by omega);go_wp2_with (at_builtin;refine fZ _ rfl (.tmp 31) _ 107 3 rfl w.heap.size 5 i0 (.int .u8 0) 1 .i64 .i64 bK fe hi ij gm iL rfl rfl g4 (64*(m+1)) c4 (U8 (encS (mX s)++homes m)) rfl Or.out K rfl hk1 (by unfold maxLen;omega) (by omega) Br.out.size ?_)
   intro v5 w5 mQ lM;have B5:Hid (Below w.heap.size w w5):=Br.out.grown lM Br.out.size (fun k hk=>(Or.out.lt k hk).1);have O5:Hid (w5.ownsRow w.heap.size 5 1 v5 (64*(m+1)+K) (U8 (kM s))):=by
    show w5.ownsRow _ _ _ _ _ _;rw[HN.out.1];simp only[U8,zs,cZ,lD] at mQ ⊢;exact mQ
   clear mQ lM Or Br Ar c1 c0;obtain ⟨g5,c5,rfl,hc5⟩:=cB O5.out (by omega);have X5:=zH (kK O5.out (BE HC.out));clear hc5;go_wp2_with fail;refine (Lf g5 0 (64*(m+1)+K) c5 (nG s) (kM s) w5 X5.out HN.out.2.1 (by unfold nG;omega) HN.out.2.2).mono ?_;rintro e w6 ⟨p,rfl,d6,b6⟩;have F6:Hid (Ref w6 (fun k=>w.heap.size<=k) p (nG s) (kM s) []/\Below w.heap.size w w6):=⟨d6.mono (fun k _ hk=>bJ B5.out.size hk),ah B5.out b6⟩
   clear d6 b6 X5 O5 B5;go_wp2_with fail;go_ret2;exact⟨p,rfl,F6.out.1,F6.out.2⟩
