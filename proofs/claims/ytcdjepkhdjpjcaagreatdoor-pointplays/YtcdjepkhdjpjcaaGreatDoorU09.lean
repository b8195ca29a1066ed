import Derived.Test.YtcdjepkhdjpjcaaGreatDoorU08
import Derived.Lib.AppendZerosOnto
import Derived.RangeFuncNested
import Derived.RangeFuncBound
import Derived.Shelf.RegionOpen
import Derived.OwnWalkIn
import Derived.LoopNIn
import Derived.LoopIn
set_option maxHeartbeats 20000000
set_option maxRecDepth 100000
namespace Go.Proofs.Zq
open Go.Proofs.Tryz
open Go.RowKit
theorem Lt(b o n c:Nat)(xs:List Int)(w:World)(h:jK w (some ⟨b,o,none⟩) n xs)(h0:0<n)(r_:n<=140737488355328) :
  Calls prog 231 #[.slice (some ⟨b,o,none⟩) n c] w fun e w'=>e=.returned (.int .u32 (xx xs:Nat))/\w=w':=by
 obtain ⟨b',o',e,hcs⟩:=h.cells h0;simp only[aC,d_,gJ] at e;obtain ⟨rfl,rfl⟩:=e;have HC:=zH hcs;have HX:=zH h.len;have HK:=zH h.byte;clear hcs h;go_enter func231,ntmps231;go_wp2
 go_loop [3,4] (fun x i=>∃j:Nat,j<=n/\i=.int .i64 j/\x=.int .u32 (st 4294967295 (xs.take j):Nat)) (fun _ i=>n-(intOf i).toNat)
 case atStart=>exact⟨0,aI _,rfl,rfl⟩
 case round =>
  obtain ⟨j,hj,rfl,rfl⟩:=hrel;have Wl:=Hg 4294967295 (xs.take j) (by omega) (HK.out.take j);by_cases Dg:j<n
  ·have hcj:=HC.out j Dg;have Wm:j<xs.length:=by rw[HX.out];exact Dg
   have hb:=HK.out.at j Wm;have HJ:Hid (st 4294967295 (xs.take (j+1))=hn 8 (st 4294967295 (xs.take j) ^^^ xs[j].toNat)):=Fh _ xs j Wm;rw[show xs.getD j 0=xs[j] by simp[List.getD,List.getElem?_eq_getElem Wm]] at hcj;obtain ⟨z,hz⟩:∃z,z=st 4294967295 (xs.take j):=⟨_,rfl⟩
   rw[<-hz] at Wl HJ ⊢;obtain ⟨q,hq⟩:∃q,q=xs[j]:=⟨_,rfl⟩
   rw[<-hq] at hb HJ hcj;obtain ⟨yD,qj⟩:=hb;clear hz hq;obtain ⟨y,hy⟩:∃y,y=z ^^^ q.toNat:=⟨_,rfl⟩
   have hyl:y<4294967296:=by rw[hy];exact Ay _ _ Wl (by omega)
   have h1:bits .xor .u32 (z:Int) q=(y:Int):=by
    rw[hy,<-nL z q.toNat Wl (by omega)]
    congr 1
    omega
   rw[<-hy] at HJ;clear hy;go_wp2
   go_loop [3,5] (fun v i=>∃k:Nat,k<=8/\i=.int .i64 k/\v=.int .u32 (hn k y:Nat)) (fun _ i=>8-(intOf i).toNat)
   case atStart=>exact⟨0,by omega,rfl,rfl⟩
   case round =>
    obtain ⟨k,hk,rfl,rfl⟩:=hrel;by_cases eP:k<8
    ·have hl:=Jf k y hyl;have HN:=zH (OQ k y);obtain ⟨x,hx⟩:∃x,x=hn k y:=⟨_,rfl⟩
     rw[<-hx] at HN hl ⊢;clear hx;by_cases We:x % 2=1
     ·have Ag:=nL (x / 2) 3988292384 (by omega) (by omega);have HV:Hid (hv x=x / 2 ^^^ 3988292384):=by show _=_;unfold hv;rw[aE We]
      have ho':(x:Int) % 2=1:=by omega
      have hx3:bits .xor .u32 ((x:Int) / 2) 3988292384=((x / 2 ^^^ 3988292384:Nat):Int):=Ag;clear Ag;go_wp2;go_round
      case rel=>exact⟨k+1,by omega,by go_num,by rw[HN.out,HV.out]⟩
      case measure=>simp[intOf];omega
     ·have HV:Hid (hv x=x / 2):=by show _=_;unfold hv;rw[aD We,Nat.xor_zero]
      have ho':¬(x:Int) % 2=1:=by omega
      go_wp2;go_round
      case rel=>exact⟨k+1,by omega,by go_num,by rw[HN.out,HV.out];rfl⟩
      case measure=>simp[intOf];omega
    ·obtain rfl:k=8:=by omega
     rw[<-HJ.out];go_wp2;go_round
     case rel=>exact⟨j+1,by omega,by go_num,rfl⟩
     case measure=>simp[intOf];omega
  ·have HA:Hid (xs.take j=xs):=aL (by rw[HX.out];omega);have hxo:=nL _ 4294967295 Wl (by omega);have HO:Hid (bits .xor .u32 ((st 4294967295 (xs.take j):Nat):Int) 4294967295=((xx xs:Nat):Int)):=by
    show _=_;rw[xx,<-HA.out];simpa [HA.out] using hxo
   clear hxo;go_wp2;go_ret;refine⟨?_,rfl⟩;rw[<-HO.out];rfl
theorem uy(s:fN)(w:World) :
  Calls prog 121 #[.agg (aN s).toArray] w fun e w'=>e=.returned (.int .i64 (cfg s))/\Below w.heap.size w w':=by
 have hA:fC (w.alloc (.cells (aN s).toArray 23)) w.heap.size s:=bE.new 23 w (aN s);have c0:=fC.c0 hA;have c1:=fC.c1 hA;have c2:=fC.c2 hA;have c3:=fC.c3 hA;have c4:=fC.c4 hA;have HB:Hid (Below w.heap.size w (w.alloc (.cells (aN s).toArray 23))):=ag w _;have HC1:=zH (tY s);have Du:=zH (yL s);clear hA;go_enter func121,ntmps121;by_cases h1:(1<=s.bl/\s.bl<=64)/\(2<=s.lc/\s.lc<=64)
 ·obtain ⟨⟨a1,a2⟩,a3,a4⟩:=h1;by_cases h2:(1<=s.mr/\s.mr<=16/\s.mr<=s.bl/\s.mr<=s.lc-1)
  ·obtain ⟨a5,a6,a7,a8⟩:=h2;by_cases h3:(1<=s.hi/\s.hi<=s.lc)/\(1<=s.cl/\s.cl<=8)
   ·have HE:Hid (cfg s=0):=HC1.out ⟨⟨a1,a2⟩,⟨a3,a4⟩,⟨a5,a6,a7,a8⟩,h3.1,h3.2⟩;obtain ⟨⟨b1,b2⟩,b3,b4⟩:=h3;go_wp2;go_ret;exact⟨by rw[HE.out];rfl,HB.out⟩
   ·have HE:Hid (cfg s=3):=Du.out fun h=>h3 ⟨h.2.2.2.1,h.2.2.2.2⟩;have h3':s.hi<1\/(1<=s.hi/\s.lc<s.hi)\/((1<=s.hi/\s.hi<=s.lc)/\s.cl<1)\/((1<=s.hi/\s.hi<=s.lc)/\1<=s.cl/\8<s.cl):=by omega
    clear h3;rcases h3' with h | ⟨h,h'⟩ | ⟨⟨h,h'⟩,h''⟩ | ⟨⟨h,h'⟩,h'',ah3⟩ <;> go_wp2 <;> go_ret <;> exact⟨by rw[HE.out];rfl,HB.out⟩
  ·have HE:Hid (cfg s=3):=Du.out fun h=>h2 h.2.2.1;have Cj:s.mr<1\/(1<=s.mr/\16<s.mr)\/((1<=s.mr/\s.mr<=16)/\s.bl<s.mr)\/((1<=s.mr/\s.mr<=16)/\s.mr<=s.bl/\s.lc-1<s.mr):=by omega
   clear h2;rcases Cj with h | ⟨h,h'⟩ | ⟨⟨h,h'⟩,h''⟩ | ⟨⟨h,h'⟩,h'',ah3⟩ <;> go_wp2 <;> go_ret <;> exact⟨by rw[HE.out];rfl,HB.out⟩
 ·have HE:Hid (cfg s=3):=Du.out fun h=>h1 ⟨h.1,h.2.1⟩;have h1':s.bl<1\/(1<=s.bl/\64<s.bl)\/((1<=s.bl/\s.bl<=64)/\s.lc<2)\/((1<=s.bl/\s.bl<=64)/\2<=s.lc/\64<s.lc):=by omega
  clear h1;rcases h1' with h | ⟨h,h'⟩ | ⟨⟨h,h'⟩,h''⟩ | ⟨⟨h,h'⟩,h'',ah3⟩ <;> go_wp2 <;> go_ret <;> exact⟨by rw[HE.out];rfl,HB.out⟩
theorem ry(s:fN)(w:World) :
  Calls prog 216 #[.agg (eL s).toArray] w fun e w'=>e=.returned (.int .i64 (vB s))/\Below w.heap.size w w':=by
 have HA:=zH (bE.new 275 w (eL s));have L1:=zH (qY.gi HA.out);have HB:Hid (Below w.heap.size w (w.alloc (.cells (eL s).toArray 275))):=ag w _;go_enter func216,ntmps216;go_wp2_with ((with_reducible refine aQ ?_);(refine aK (by rfl) 23 rfl rfl L1.out ?_);simp only[Act.put,zA,zB,zC])
 refine (uy s _).mono ?_;rintro e w1 ⟨rfl,b1⟩;have uE:=zH (bE.later HA.out b1);have gj:Hid (Below w.heap.size w w1):=ah HB.out b1;have c5:=qY.c5 uE.out;have c6:=qY.c6 uE.out;clear b1 HA HB L1;by_cases hc:iP s
 ·rw[tY s hc];by_cases ht:Kf s
  ·have h1:=ht.1;have h2:=ht.2.1;have h3:=ht.2.2;have HE:Hid (vB s=0):=oh s ⟨hc,ht⟩;clear hc ht;go_wp2;go_ret;exact⟨by rw[HE.out];rfl,gj.out⟩
  ·have HE:=zH (acD s hc ht);have ht':4611686018427387904<s.tail\/(s.tail<=4611686018427387904/\s.ki<1)\/(s.tail<=4611686018427387904/\1<=s.ki/\4611686018427387904<s.ki):=by simp only[Kf] at ht;omega
   clear hc ht;rcases ht' with h | ⟨h,h'⟩ | ⟨h,h',h''⟩ <;> go_wp2 <;> go_ret <;> exact⟨by rw[HE.out];rfl,gj.out⟩
 ·rw[yL s hc];have HE:=zH (acE s hc);clear hc;go_wp2_with fail;go_ret;exact⟨by rw[HE.out];rfl,gj.out⟩
theorem Dx(z:Value)(k:Nat):Builtin.zeroCells #[z] k=(List.replicate k z).toArray:=by
 have h:=nM z k;have e:Builtin.zeroCells #[z] k=madeCells #[z] k:=by simp[Builtin.zeroCells,madeCells]
 rw[e,<-h]
section
variable {P:Program} (w:World)
theorem sG(base:Nat)(t tn ty e:TypeId)(i:TypeInfo)(z:Value)(bytes:Nat)(kq kn:IntKind)(ht:P.underlying t=some (.slice e))(Yx:P.underlying tn=some (.int kn))(hi:P.info? e=some i)(hz:i.zero=some z)
  (oR:i.size=1) (Ku:i.bytes=bytes) (hzc:z.cells=#[z]) (MA:z.oneCell'=true) (g n cap:Nat) (xs:List Value) (dR:w.ownsRow base e 1 (.slice (some ⟨g,0,none⟩) n cap) n xs) (k:Nat) (hk:0<k)
  (Wz:n+k<=maxLen) (oU:(n+k)*bytes<=140737488355328) (pR:base<=w.heap.size) :
  ∃v' w',(Builtin.append_ #[t,tn] ty #[.slice (some ⟨g,0,none⟩) n cap,.int kq k]).run P w=.ok v' w'/\w'.ownsRow base e 1 v' (n+k) (xs++List.replicate k z)/\w.grownBy w' (some g):=by
 have aeh:n+k<=9223372036854775807:=by simp only[maxLen] at Wz;omega
 have hlen:(xs++List.replicate k z).length=(n+k)*1:=by rw[aO,dR.1,List.length_replicate];omega
 have hkb:k*i.bytes<=140737488355328:=by
  rw[Ku];exact bJ (eV _ (by omega)) oU
 rcases dR.2 with ⟨h,_⟩ | ⟨g',lZ,cur,h,hbg,hg,FX,MG,hcs,uA⟩
 ·simp at h
 ·simp only[cE,aC,d_,gJ,nY] at h;obtain ⟨rfl,rfl⟩:=h;by_cases oS:n+k<=cap
  ·have iU:=qP P g n e (List.replicate k z) 0 cur w hg (by simp;omega) (by intro v hv;rw[n_ hv];exact MA);simp only[Nat.add_zero] at iU;have hw:IntKind.i64.wrap (k:Int)=k:=by rw[aY];omega
   have alA:¬((k:Int)<0):=by omega
   have amE:¬(281474976710656<(k:Int)*(i.bytes:Int)):=by
    rw[<-Int.natCast_mul];omega
   have Ti:k≠0:=by omega
   have hr:(Builtin.append_ #[t,tn] ty #[.slice (some ⟨g,0,none⟩) n cap,.int kq k]).run P w=.ok (.slice (some ⟨g,0,none⟩) (n+k) cap) (w.setRow g (cur.toList.take n++List.replicate k z++cur.toList.drop (n+(List.replicate k z).length)).toArray):=by
    simp[Builtin.append_,run_underlying ht,run_underlying Yx,sizeOf,typeInfo,zeroValue,hi,hz,oR,asInt,asIntOf,hw,alA,amE,oS,Ti,hzc,Dx,Addr.add_lit,iU]
   refine⟨_,_,hr,⟨hlen,.inr ⟨g,cap,_,rfl,hbg,cK w g cur _ e _ hg,oS,MG,?_,?_⟩⟩,⟨rfl,rfl,rfl,by simp,fun k _ hk=>iu w g k _ (fun e=>hk (by simp[e]))⟩⟩
   ·simp only[aM,aO,cr,cN,gq,List.length_replicate];omega
   ·rw[mU] at uA;rw[uA,<-hlen];exact gC
  ·have holds:∀j u,xs[j]?=some u->w.drew.cell? ((⟨g,0,none⟩:Addr).add j)=some u:=dR.cells (g:=g) rfl;have hf:=run_firstCells_some (P:=P) w.drew i.size n ⟨g,0,none⟩ n cap xs (by rw[oR];exact dR.1) holds;have hr:=Lib.run_append_grow_zeros (P:=P) w t tn ty e i z kq kn ht Yx hi hz (some ⟨g,0,none⟩) n cap xs hf k hk (by omega) (by omega) (by omega) (by omega) (growslice_fits (by omega) (by rw[Ku];exact oU));have hge:=grownCap_ge w (n+k) cap e;have al5:grownCap w (n+k) cap e<=maxLen:=grownCap_le_maxLen w (n+k) cap e Wz;refine⟨_,_,hr,⟨hlen,.inr ⟨w.heap.size,_,_,rfl,pR,aG w.drew _,hge,al5,?_,?_⟩⟩,⟨rfl,rfl,rfl,by simp,fun k hk _=>heap_alloc_old w.drew _ hk⟩⟩
   ·have:=dR.1;simp only[Array.size_append,aM,size_zeroCells,hzc];simp;omega
   ·simp only[Array.toList_append,hzc,Dx,aS];rw[<-aS,<-hlen];exact gC
theorem fZ{ops:Array Oper}{rest:List Oper}{o:Oper}{a:Act}{Q:Exit->Act->World->Prop}(jt:o.guard=none)(s x:Operand)(t tn:TypeId)
  (ho:o.op=.call { callee:=.builtin .append,args:=#[s,x],argTypes:=#[t,tn] }) (base:Nat) (e:TypeId) (i:TypeInfo) (z:Value) (bytes:Nat) (kq kn:IntKind) (ht:P.underlying t=some (.slice e)) (Yx:P.underlying tn=some (.int kn)) (hi:P.info? e=some i) (hz:i.zero=some z)
  (oR:i.size=1) (Ku:i.bytes=bytes) (hzc:z.cells=#[z]) (MA:z.oneCell'=true) (g n cap:Nat) (xs:List Value) (hs:a.eval s=.slice (some ⟨g,0,none⟩) n cap) (dR:w.ownsRow base e 1 (.slice (some ⟨g,0,none⟩) n cap) n xs) (k:Nat) (hx:a.eval x=.int kq k) (hk:0<k)
  (Wz:n+k<=maxLen) (oU:(n+k)*bytes<=140737488355328) (pR:base<=w.heap.size)
  (h:∀v' w',w'.ownsRow base e 1 v' (n+k) (xs++List.replicate k z)->w.grownBy w' (some g)->wpList P ops Q rest (a.put o.dst v') w'):wpList P ops Q (o :: rest) a w:=by
 refine iQ jt fun K hK=>?_;obtain ⟨v',w',hr,h1,h2⟩:=sG (P:=P) w base t tn o.type e i z bytes kq kn ht Yx hi hz oR Ku hzc MA g n cap xs dR k hk Wz oU pR;unfold Oper.wp;simp[execOp,ho,resolve,invoke,builtin,hs,hx,hr,Result.andThen];exact hK _ _ (h v' w' h1 h2)
end
theorem JG(n:Int)(j:Nat):n / 256 ^ j / 256=n / 256 ^ (j+1):=by
 rw[Int.pow_succ,Int.ediv_ediv_of_nonneg (Int.le_of_lt (pow_pos j))]
theorem Xh(n:Int)(j:Nat)(h0:0<=n):0<=n / 256 ^ j/\n / 256 ^ j<=n :=
 ⟨Int.ediv_nonneg h0 (Int.le_of_lt (pow_pos j)),Int.ediv_le_self _ h0⟩
theorem FG(n:Int)(k:Nat)(w:World)(h0:0<=n)(h1:n<=18446744073709551615)(hk:k<=8) :
  Calls prog 230 #[.int .u64 n,.int .i64 k] w fun e w'=>∃v,e=.returned v/\w'.ownsRow w.heap.size 5 1 v k (U8 (digits k n))/\Below w.heap.size w w':=by
 obtain ⟨i0,hi,ij,gm,iL⟩:=cj mq;have HL:=zH (dG k n);go_enter func230,ntmps230;go_wp2
 go_loopw [0,5,6] (fun q v i wr=>∃j:Nat,j<=k/\i=.int .i64 j/\q=.int .u64 (n / 256 ^ j)/\wr.ownsRow w.heap.size 5 1 v j (U8 ((digits k n).take j))/\Below w.heap.size w wr) (fun _ _ i _=>k-(intOf i).toNat)
 case atStart=>exact⟨0,aI _,rfl,by simp,cq _ _ _ _,aV _ _⟩
 case round =>
  obtain ⟨j,hj,rfl,rfl,dR,hb⟩:=hrel;have Wv:=Xh n j h0;by_cases eP:j<k
  ·have Dg:j<(digits k n).length:=by rw[HL.out];exact eP
   have hg:=oW k n j Dg;have iU:=JG n j;obtain ⟨q,hq⟩:∃q,q=n / 256 ^ j:=⟨_,rfl⟩
   rw[<-hq] at Wv hg iU ⊢;have HS:=zH iU;have HG:=zH hg;have HO:=zH dR;have HB:=zH hb;clear hq iU hg dR hb;have hq1:q<=18446744073709551615:=by omega
   have EI:=Wv.1;have t1:q.tmod 256=q % 256:=mW EI;have t2:q.tdiv 256=q / 256:=Int.tdiv_eq_ediv_of_nonneg EI;go_wp2_with (at_builtin;refine dK _ rfl (.tmp 12) (.tmp 16) 107 rfl w.heap.size 5 i0 (.int .u8 0) 1 1 bK hi ij gm iL rfl (by decide) u5 j (U8 ((digits k n).take j)) rfl (HO.out.alloc _) ⟨wr.heap.size,0,none⟩ 1 1 [.int .u8 (q % 256)] rfl rfl (cell_one_new _ _ _) (by intro u hu;obtain rfl:=bg.1 hu;rfl) (by unfold maxLen;omega) (by omega) (by have:=HB.out.size;simp;omega) ?_)
   intro v' w1 rV Ca _;have R1:w1.ownsRow w.heap.size 5 1 v' (j+1) (U8 ((digits k n).take (j+1))):=by
    rw[bw Dg,HG.out];simpa [U8] using rV
   have R2:Below w.heap.size w w1:=(HB.out.alloc HB.out.size _).grown Ca (by have:=HB.out.size;simp;omega) (fun g hg=>(HO.out.lt g hg).1);have Gu:=zH R1;have CL:=zH R2;clear rV Ca R1 R2 HO HB;go_wp2;go_roundw
   case rel=>exact⟨j+1,by omega,by go_num,by rw[HS.out],Gu.out,CL.out⟩
   case measure=>simp[intOf];omega
  ·obtain rfl:k=j:=by omega
   rw[aL (by rw[HL.out];exact az _)] at dR;have HO:=zH dR;have HB:=zH hb;clear dR hb;go_wp2;go_ret;exact⟨u5,rfl,HO.out,HB.out⟩
theorem cB{w:World}{base:Nat}{v:Value}{n:Nat}{xs:List Value}(h:w.ownsRow base 5 1 v n xs)(h0:0<n):∃g cap,v=.slice (some ⟨g,0,none⟩) n cap/\n<=cap:=by
 rcases h.2 with ⟨_,h2⟩ | ⟨g,cap,cur,h2,_,_,h3,_⟩
 ·omega
 ·exact⟨g,cap,h2,h3⟩
theorem kK{w:World}{base g cap n:Nat}{xs:List Int}(h:w.ownsRow base 5 1 (.slice (some ⟨g,0,none⟩) n cap) n (U8 xs))(hb:Bytes xs):jK w (some ⟨g,0,none⟩) n xs:=by
 obtain ⟨p,c,e,hr,_⟩:=rA h hb;simp only[cE] at e;rw[e.1];exact hr
abbrev Ko (a b c d e:Int):List Int:=[1,0,a,b,c,d,e,0,0,0]
theorem VE(s:fN)(hw:s.Wf)(w:World) :
  Calls prog 217 #[.agg (eL s).toArray] w fun e w'=>∃g c,e=.returned (.slice (some ⟨g,0,none⟩) 64 c)/\Made w w' (some ⟨g,0,none⟩) 64 c (encS s):=by
 obtain ⟨i0,hi,ij,gm,iL⟩:=cj mq;have HW:=zH hw;obtain ⟨w0,mI⟩:∃x,x=w.alloc (.cells (eL s).toArray 275):=⟨_,rfl⟩
 have OL:w0.heap.size=w.heap.size+1:=by rw[mI];simp
 have S0:qY 275 w0 w.heap.size s:=by rw[mI];exact bE.new 275 w _
 have B0:Below w.heap.size w w0:=by rw[mI];exact ag w _
 have L0:=zH (qY.gi S0);have A1:=zH (PM w0);have T1:=zH (sA w0 s);obtain ⟨w1,dZ⟩:∃x,x=w0.alloc (.cells (aN s).toArray 23):=⟨_,rfl⟩
 have GC:w1.heap.size=w.heap.size+2:=by rw[dZ];simp[OL]
 have S1:qY 275 w1 w.heap.size s:=by rw[dZ];exact bE.later S0 (ag w0 _)
 have C1:fC w1 (w.heap.size+1) s:=by rw[dZ,<-OL];exact bE.new 23 w0 _
 have B1:Below w.heap.size w w1:=by rw[dZ];exact ah B0 (ag w0 _)
 rw[OL,<-dZ] at T1;rw[OL] at A1;have cv:=oY w1 NM 6 (w.heap.size+2) GC;obtain ⟨w2,gz⟩:∃x,x=w1.alloc (.cells NM 5 (6,7)):=⟨_,rfl⟩
 have sV:w2.heap.size=w.heap.size+3:=by rw[gz];simp[GC]
 have b12:Below w1.heap.size w1 w2:=by rw[gz];exact ag w1 _
 have S2:qY 275 w2 w.heap.size s:=bE.later S1 b12;have C2:fC w2 (w.heap.size+1) s:=bE.later C1 b12;have N2:jK w2 (some ⟨w.heap.size+2,0,none⟩) 6 nm:=by rw[gz,<-GC];exact sR w1 nm 6 (6,7) rfl wM
 have B2:Below w.heap.size w w2:=ah B1 b12;have cv2:(convert 107 107 (.slice (some ⟨w.heap.size+2,0,none⟩) 6 6)).run prog (w1.alloc (.cells NM 5))=.ok (.slice (some ⟨w.heap.size+2,0,none⟩) 6 6) w2:=by rw[gz];exact cv
 obtain ⟨x1,Yv⟩:∃x,x=s.bl % 256:=⟨_,rfl⟩
 obtain ⟨x2,Ag⟩:∃x,x=s.lc % 256:=⟨_,rfl⟩
 obtain ⟨x3,hx3⟩:∃x,x=s.mr % 256:=⟨_,rfl⟩
 obtain ⟨x4,hx4⟩:∃x,x=s.hi % 256:=⟨_,rfl⟩
 obtain ⟨x5,hx5⟩:∃x,x=s.cl % 256:=⟨_,rfl⟩
 have q1:IntKind.u8.wrap s.bl=x1:=by rw[gI,Yv]
 have q2:IntKind.u8.wrap s.lc=x2:=by rw[gI,Ag]
 have q3:IntKind.u8.wrap s.mr=x3:=by rw[gI,hx3]
 have q4:IntKind.u8.wrap s.hi=x4:=by rw[gI,hx4]
 have q5:IntKind.u8.wrap s.cl=x5:=by rw[gI,hx5]
 have HTB:Hid (Bytes (Ko x1 x2 x3 x4 x5)):=by
  intro y hy;simp only[Ko,bZ,dL,or_false] at hy;omega
 have HBY:Hid (body s=((nm++Ko x1 x2 x3 x4 x5)++digits 8 s.tail++digits 8 s.ki)++List.replicate 28 0):=by
  show _=_;unfold body;rw[Yv,Ag,hx3,hx4,hx5];simp[zs]
 have N3:Hid (jK (w2.alloc (.cells (U8 (Ko x1 x2 x3 x4 x5)).toArray 5)) (some ⟨w.heap.size+3,0,none⟩) 10 (Ko x1 x2 x3 x4 x5)):=by rw[<-sV];exact ye w2 _ 10 rfl HTB.out
 have N2':Hid (jK (w2.alloc (.cells (U8 (Ko x1 x2 x3 x4 x5)).toArray 5)) (some ⟨w.heap.size+2,0,none⟩) 6 nm):=N2.later (ag w2 _);have B3:Hid (Below w.heap.size w (w2.alloc (.cells (U8 (Ko x1 x2 x3 x4 x5)).toArray 5))):=ah B2 (ag w2 _);have S3:Hid (qY 275 (w2.alloc (.cells (U8 (Ko x1 x2 x3 x4 x5)).toArray 5)) w.heap.size s):=bE.later S2 (ag w2 _);have c0:=fC.c0 C2;have c1:=fC.c1 C2;have c2:=fC.c2 C2;have c3:=fC.c3 C2;have c4:=fC.c4 C2;have HO6:Hid (∀j u,(U8 nm)[j]?=some u->(w2.alloc (.cells (U8 (Ko x1 x2 x3 x4 x5)).toArray 5)).cell? ⟨w.heap.size+2,0+j,none⟩=some u):=fun j u hu=>by
  have:=N2'.out.news j u hu;rw[bW] at this;exact this
 have e0:=mI.symm;clear mI dZ gz OL S0 S1 C1 C2 B0 B1 B2 b12 S2 N2 cv Yv Ag hx3 hx4 hx5 hw;go_enter func217,ntmps217;go_wp2_with (first | ((with_reducible refine aQ ?_);(first | (refine aK (by rfl) 23 rfl rfl L0.out ?_) | (refine iT (by rfl) 23 rfl A1.out ?_) | (refine lu (by rfl) 23 rfl rfl rfl T1.out ?_));simp only[Act.put,zA,zB,zC]) | (at_builtin;refine wpList_append_arg _ rfl (.tmp 8) (.tmp 24) 107 rfl 5 i0 (.int .u8 0) 1 1 bK hi ij gm iL rfl (by decide) (w.heap.size+2) 0 6 6 (U8 nm) rfl rfl HO6.out ⟨w.heap.size+3,0,none⟩ 10 10 (U8 (Ko x1 x2 x3 x4 x5)) rfl rfl N3.out.news (eO _) (fun h=>by omega) (by unfold maxLen;omega) (by omega) (fun h=>by omega) ?_;clear cv2))
 intro v4 w4 sX mA;have HO4:Hid (w4.ownsRow w.heap.size 5 1 v4 16 (U8 (nm++Ko x1 x2 x3 x4 x5))):=by
  show w4.ownsRow _ _ _ _ _ _;rw[show U8 (nm++Ko x1 x2 x3 x4 x5)=U8 nm++U8 (Ko x1 x2 x3 x4 x5) by simp only[U8,cZ]];exact eH sX (by omega)
 have ahd:w.heap.size<=(w2.alloc (.cells (U8 (Ko x1 x2 x3 x4 x5)).toArray 5)).heap.size:=B3.out.size;have B4:Hid (Below w.heap.size w w4):=B3.out.grown mA ahd (by intro k hk;cases hk);have S4:Hid (qY 275 w4 w.heap.size s):=(mA.block _ (bE.lt S3.out) (by simp)).trans S3.out;have HTN:=zH (wM.append HTB.out);have YQ:Hid ((nm++Ko x1 x2 x3 x4 x5).length=16):=rfl;obtain ⟨H,hH⟩:∃H,H=nm++Ko x1 x2 x3 x4 x5:=⟨_,rfl⟩
 rw[<-hH] at HO4 HTN YQ HBY;clear sX mA ahd hH B3 S3 N3 N2' HO6 HTB c0 c1 c2 c3 c4 q1 q2 q3 q4 q5 GC sV L0 A1 T1 e0;have c5:=qY.c5 S4.out;go_wp2_with fail;refine (FG s.tail 8 w4 HW.out.tail.1 HW.out.tail.2 (by omega)).mono ?_;rintro e w5 ⟨v5,rfl,ho5,b5⟩;obtain ⟨g5,k5,rfl,-⟩:=cB ho5 (by omega);have N5:Hid (jK w5 (some ⟨g5,0,none⟩) 8 (digits 8 s.tail)):=kK ho5 (en _ _);have HO5:=zH (dD HO4.out b5);have S5:=zH (bE.later S4.out b5);have B5:Hid (Below w.heap.size w w5):=ah B4.out b5;clear ho5 b5 c5 HO4 S4 B4;go_wp2_with (at_builtin;refine dK _ rfl (.tmp 26) (.tmp 29) 107 rfl w.heap.size 5 i0 (.int .u8 0) 1 1 bK hi ij gm iL rfl (by decide) v4 16 (U8 H) rfl HO5.out ⟨g5,0,none⟩ 8 k5 (U8 (digits 8 s.tail)) rfl (by rw[aX,dG]) N5.out.news (eO _) (by unfold maxLen;omega) (by omega) B5.out.size ?_)
 intro v6 w6 Jb yz _;have HO6:Hid (w6.ownsRow w.heap.size 5 1 v6 24 (U8 (H++digits 8 s.tail))):=by
  show w6.ownsRow _ _ _ _ _ _;rw[show U8 (H++digits 8 s.tail)=U8 H++U8 (digits 8 s.tail) by simp only[U8,cZ]];exact Jb
 have aeA:∀k,v4.ownBlock=some k->w.heap.size<k:=fun k hk=>by
  rcases Nat.lt_or_ge w.heap.size k with h | h
  ·exact h
  ·have h2:=(HO5.out.lt k hk).1;obtain rfl:k=w.heap.size:=by omega
   rcases HO5.out.2 with ⟨h3,_⟩ | ⟨g',_,cs,h3,_,hg,_⟩
   ·rw[h3] at hk;cases hk
   ·rw[h3] at hk;simp only[Value.ownBlock,aC] at hk;subst hk;have:=S5.out;unfold bE at this;rw[this] at hg;simp at hg
 have B6:Hid (Below w.heap.size w w6):=B5.out.grown yz B5.out.size (fun k hk=>by have:=aeA k hk;omega);have S6:Hid (qY 275 w6 w.heap.size s):=(yz.block _ (bE.lt S5.out) (fun e=>by have:=aeA _ e.symm;omega)).trans S5.out;clear Jb yz aeA HO5 S5 B5 N5;have c6:=qY.c6 S6.out;go_wp2_with fail;refine (FG s.ki 8 w6 HW.out.ki.1 HW.out.ki.2 (by omega)).mono ?_;rintro e w7 ⟨v7,rfl,ho7,b7⟩;obtain ⟨g7,k7,rfl,-⟩:=cB ho7 (by omega);have N7:Hid (jK w7 (some ⟨g7,0,none⟩) 8 (digits 8 s.ki)):=kK ho7 (en _ _);have HO7:=zH (dD HO6.out b7);have B7:Hid (Below w.heap.size w w7):=ah B6.out b7;clear ho7 b7 c6 HO6 S6 B6;go_wp2_with (at_builtin;refine dK _ rfl (.tmp 31) (.tmp 34) 107 rfl w.heap.size 5 i0 (.int .u8 0) 1 1 bK hi ij gm iL rfl (by decide) v6 24 (U8 (H++digits 8 s.tail)) rfl HO7.out ⟨g7,0,none⟩ 8 k7 (U8 (digits 8 s.ki)) rfl (by rw[aX,dG]) N7.out.news (eO _) (by unfold maxLen;omega) (by omega) B7.out.size ?_)
 intro v8 w8 aci Wo _;have B8:Hid (Below w.heap.size w w8):=B7.out.grown Wo B7.out.size (fun k hk=>(HO7.out.lt k hk).1);have HO8:Hid (w8.ownsRow w.heap.size 5 1 v8 32 (U8 (H++digits 8 s.tail++digits 8 s.ki))):=by
  show w8.ownsRow _ _ _ _ _ _;simp only[U8,cZ,aS];exact aci
 clear aci Wo HO7 B7 N7;obtain ⟨g8,k8,rfl,-⟩:=cB HO8.out (by omega);go_wp2_with (at_builtin;refine fZ _ rfl (.tmp 36) _ 107 3 rfl w.heap.size 5 i0 (.int .u8 0) 1 .i64 .i64 bK fe hi ij gm iL rfl rfl g8 32 k8 (U8 (H++digits 8 s.tail++digits 8 s.ki)) rfl HO8.out 28 rfl (by omega) (by unfold maxLen;omega) (by omega) B8.out.size ?_)
 intro v9 w9 Ja B_;have B9:Hid (Below w.heap.size w w9):=B8.out.grown B_ B8.out.size (fun k hk=>(HO8.out.lt k hk).1);have HO9:Hid (w9.ownsRow w.heap.size 5 1 v9 60 (U8 (body s))):=by
  show w9.ownsRow _ _ _ _ _ _;rw[HBY.out];simp only[U8,cZ,aS,lD];exact Ja
 clear Ja B_ HO8 B8 HBY HTN YQ;obtain ⟨g9,k9,rfl,-⟩:=cB HO9.out (by omega);have N9:=zH (kK HO9.out (jc s));go_wp2_with fail;refine (Lt g9 0 60 k9 (body s) w9 N9.out (by omega) (by omega)).mono ?_;rintro e w' ⟨rfl,rfl⟩;have Tj:=yI (body s) (jc s);have HE:Hid (encS s=body s++digits 4 ((xx (body s):Nat):Int)):=rfl;generalize xx (body s)=C at *;go_wp2_with fail;refine (FG (C:Int) 4 w9 (by omega) (by omega) (by omega)).mono ?_;rintro e Gy ⟨v10,rfl,aem,Nq⟩;obtain ⟨g10,k10,rfl,-⟩:=cB aem (by omega);have N10:Hid (jK Gy (some ⟨g10,0,none⟩) 4 (digits 4 (C:Int))):=kK aem (en _ _);have afs:=zH (dD HO9.out Nq);have B10:Hid (Below w.heap.size w Gy):=ah B9.out Nq;clear aem Nq HO9 B9 N9;go_wp2_with (at_builtin;refine dK _ rfl (.tmp 38) (.tmp 42) 107 rfl w.heap.size 5 i0 (.int .u8 0) 1 1 bK hi ij gm iL rfl (by decide) _ 60 (U8 (body s)) rfl afs.out ⟨g10,0,none⟩ 4 k10 (U8 (digits 4 (C:Int))) rfl (by rw[aX,dG]) N10.out.news (eO _) (by unfold maxLen;omega) (by omega) B10.out.size ?_)
 intro v11 S_ Wc OW _;have B11:Hid (Below w.heap.size w S_):=B10.out.grown OW B10.out.size (fun k hk=>(afs.out.lt k hk).1);have afr:Hid (S_.ownsRow w.heap.size 5 1 v11 64 (U8 (encS s))):=by
  show S_.ownsRow _ _ _ _ _ _;rw[HE.out,show U8 (body s++digits 4 (C:Int))=U8 (body s)++U8 (digits 4 (C:Int)) by simp only[U8,cZ]];exact Wc
 clear Wc OW afs B10 N10;obtain ⟨g11,k11,rfl,alM⟩:=cB afr.out (by omega);go_wp2_with fail;go_ret;exact⟨g11,k11,rfl,afr.out,kK afr.out (rL s),alM,(fun e=>by cases e),B11.out⟩
theorem KU:(prog.info? 275).map (·.size)=some 7:=by kernel_rfl
theorem qY.Vx{t:TypeId}{w:World}{g:Nat}{s:fN}(h:qY t w g s):(Instr.loadAt 275 (.pointer (some ⟨g,0,none⟩))).run prog w=.ok (.agg (eL s).toArray) w :=
 b_ w g 0 275 (eL s) _ (bE.range h) underlying275 rfl (by rw[KU,oI])
theorem UY:placesOf prog 275=some UZ:=by kernel_rfl
theorem ac2:(prog.info? 275).bind (·.zero)=some (.agg (eL qz).toArray):=by kernel_rfl
theorem abj(w:World)(parts:Array (Nat × Value))(r:fN)(h:Instr.fill (UZ.toArray[·]?) (eL qz).toArray parts.toList=some (eL r).toArray):(Instr.build 275 parts).run prog w=.ok (.agg (eL r).toArray) w :=
 eo w 275 _ _ ((jr 275 _ _ _ UY ac2).trans h)
theorem CY(s:fN)(hw:s.Wf)(w:World) :
  Calls prog 193 #[.agg (eL s).toArray] w fun e w'=>∃p n c,e=.returned (.tuple #[.slice p n c,.int .i64 (vB s)])/\n=(aaR s).length/\Made w w' p n c (aaR s):=by
 have R0:Hid (qY 275 (w.alloc (.cells (eL s).toArray 275)) w.heap.size s):=bE.new 275 w _;have B0:Hid (Below w.heap.size w (w.alloc (.cells (eL s).toArray 275))):=ag w _;have L1:=zH (qY.Vx R0.out);have HW:=zH hw;clear hw;go_enter func193,ntmps193;go_wp2_with ((with_reducible refine aQ ?_);(refine aK (by rfl) 275 rfl rfl L1.out ?_);simp only[Act.put,zA,zB,zC])
 refine (ry s _).mono ?_;rintro e w1 ⟨rfl,b1⟩;have R1:=zH (bE.later R0.out b1);have B1:Hid (Below w.heap.size w w1):=ah B0.out b1;have L2:=zH (qY.Vx R1.out);clear b1 R0 B0 L1;by_cases hm:PO s
 ·rw[oh s hm];have HE:=zH (JD s hm);have HC:=zH (oh s hm);clear hm;go_wp2_with ((with_reducible refine aQ ?_);(refine aK (by rfl) 275 rfl rfl L2.out ?_);simp only[Act.put,zA,zB,zC])
  refine (VE s HW.out w1).mono ?_;rintro e w2 ⟨g,c,rfl,m⟩;have HM:=zH m;clear m;go_wp2_with fail;go_ret2;rw[HE.out,HC.out];exact⟨_,64,c,rfl,(tj s).symm,eH HM.out.own B1.out.size,HM.out.read,HM.out.le,HM.out.nil,ah B1.out HM.out.below⟩
 ·have hc:vB s≠0:=fun h=>hm ((Xn s).1 h);have HE:=zH (aaQ s hm);obtain ⟨q,hq⟩:∃q,q=vB s:=⟨_,rfl⟩
  have HQ:=zH hq;rw[<-hq] at hc ⊢;clear hq hm;go_wp2_with fail;go_ret2;rw[<-HQ.out,HE.out];exact⟨none,0,0,rfl,rfl,cq _ _ _ _,jK.empty,az _,fun _=>rfl,B1.out⟩
theorem Ui{w:World}{L p:Nat}{g:Lg}{b:Int}(h:fY w L (some ⟨p,0,none⟩) g b)(t:Int)(ho:Out g t):Calls prog 141 #[.pointer (some ⟨L,0,none⟩),.int .u64 t] w fun e w'=>e=.returned (.int .i64 2)/\w=w':=by
 have c0:=fY.c0 h;have c7:=fY.c7 h;have c8:=fY.c8 h;clear h;go_enter func141,ntmps141;by_cases h1:t<g.tail
 ·clear ho;go_wp2_with fail;go_ret;exact⟨rfl,rfl⟩
 ·have h2:g.fin<t:=by rcases ho with h | h <;> omega
  clear ho;go_wp2_with fail;go_ret;exact⟨rfl,rfl⟩
theorem Uh{w:World}{S:Nat->Prop}{L p:Nat}{d:List Int}{ws:List Wr}{g:Lg}{b:Int}(h:RL w S L p d ws g b)(hk:ws.length<=100000)(t:Int)(ho:¬Out g t) :
  Calls prog 141 #[.pointer (some ⟨L,0,none⟩),.int .u64 t] w fun e w'=>e=.returned (.int .i64 0)/\RL w' (kX S w) L p d (ws++[⟨0,encS (vU g t)⟩]) (mkG g t) b/\Kept S w w':=by
 have HG:=zH h;have HO:=zH ho;have c0:=fY.c0 h.log;have c7:=fY.c7 h.log;have c8:=fY.c8 h.log;have h1:¬t<g.tail:=fun h=>ho (.inl h);have h2:¬g.fin<t:=fun h=>ho (.inr h);clear h ho;go_enter func141,ntmps141;have BB:Hid (∀w,(Instr.build 275 #[(0,.agg (aN g.c).toArray),(1,.int .u64 t),(2,.int .u64 g.ki)]).run prog w=.ok (.agg (eL (vU g t)).toArray) w):=fun w=>abj w _ (vU g t) (Cn (vU g t));go_wp2_with fail;clear c0 c7 c8;refine zS w fun aa=>?_;have D1:Hid (Below w.heap.size w w.drew):=aa;generalize w.drew=wd at *;refine gh 0 1 2 aa ?_;refine dz (i:=3) (v:=_) (by simp;rfl) (by kernel_rfl) (by kernel_rfl) (by kernel_rfl) (fun _ _ _ h=>h) (mT (by rfl) 23 (.tmp 29) rfl L 1 rfl (aN g.c) _ (fun _ h=>fY.LG (bE.later HG.out.log h)) underlying23 rfl (by rw[sF,kz])) aa ?_;simp only[Act.put,zA,zB,zC];refine gu 4 5 6 7 aa ?_;refine de 8 aa (fun _ fc=>fY.c6 (bE.later HG.out.log fc)) ?_;refine dz (i:=9) (v:=_) (by simp;rfl) (by kernel_rfl) (by kernel_rfl) (by kernel_rfl) (fun _ _ _ h=>h) (R.jE (by rfl) 275 rfl (by rfl) BB.out) aa ?_;simp only[Act.put,zA,zB,zC];refine ck (rs:=[10]) (by kernel_rfl) (by simp) ?_;refine bu (by simp;rfl) (fun Kc aJ=>?_) bO;go_simp;refine (CY (vU g t) (NL HG.out.ok HO.out) _).mono ?_;rintro e w2 ⟨q2,n2,c2,rfl,MB,m2⟩;rw[JD _ (GY HG.out.ok HO.out)] at MB m2;obtain rfl:n2=64:=by rw[MB,tj]
 have B2:Hid (Below w.heap.size w w2):=ah D1.out m2.below;have X2:=zH m2.read;refine aJ.out _ _ B2.out (fun aa=>?_);clear aJ Kc m2 MB;refine gu 11 12 13 14 aa ?_;refine tk 15 aa ?_;clear aa;refine zD ?_;have jU:=zH (HG.out.later B2.out);have c0:=fY.c0 jU.out.log;have hz:(0:Int)<(g.sz:Nat):=by have:=HG.out.ok.GX;have:=HG.out.ok.cf.1;have:=HG.out.ok.cf.2.1;omega
 go_wp2_with fail;refine (xS jU.out.zF 0 (iy 0) hz _ _ _ X2.out hk).mono ?_;rintro e w3 ⟨rfl,d3,k3⟩;have Y3:=zH (jU.out.wrote d3 k3);have c9:=fY.c9 Y3.out.1.log;have cf9:=fY.free Y3.out.1.log 9;clear d3 k3 X2;go_wp2_with fail;go_ret;have hs:=B2.out.size;refine⟨rfl,?_,?_⟩
 ·refine (Y3.out.1.set 9 _ (g':=mkG g t) (fY.adh Y3.out.1.log t) rfl (Vq HG.out.ok HO.out) Y3.out.1.bk).mono ?_;rintro k _ (h | h)
  ·exact .inl h
  ·exact .inr (by omega)
 ·exact ((Kept.bP (S:=S) B2.out).trans (T:=S) Y3.out.2 (fun _ _ t=>t)).setCell (p:=⟨L,9,none⟩) (fun _=>HG.out.sl) _
theorem UQ:placesOf prog 214=some plL:=by kernel_rfl
theorem aeL(dp:Option Addr)(s:fN)(t l:Int):Instr.fill (plL.toArray[·]?) (fH none lg0).toArray [(0,.pointer dp),(1,.agg (aN s).toArray),(2,.int .u64 l),(3,.int .u64 t),(4,.int .u64 t),(5,.int .u64 t)]=some (fH dp (wb (qH s t l) 0)).toArray:=by
 rw[dU 0 1 0 rfl _ [.pointer dp] _ rfl rfl (by simp[fH]),dU 1 5 1 rfl _ (aN s) _ rfl rfl (by simp[fH]),dU 6 1 2 rfl _ [.int .u64 l] _ rfl rfl (by simp[fH,aN]),dU 7 1 3 rfl _ [.int .u64 t] _ rfl rfl (by simp[fH,aN]),dU 8 1 4 rfl _ [.int .u64 t] _ rfl rfl (by simp[fH,aN]),dU 9 1 5 rfl _ [.int .u64 t] _ rfl rfl (by simp[fH,aN])];rfl
theorem abh(w:World)(dp:Option Addr)(s:fN)(t l:Int):(Instr.build 214 #[(0,.pointer dp),(1,.agg (aN s).toArray),(2,.int .u64 l),(3,.int .u64 t),(4,.int .u64 t),(5,.int .u64 t)]).run prog w=.ok (.agg (fH dp (wb (qH s t l) 0)).toArray) w :=
 eo w 214 _ _ ((jr 214 _ _ _ UQ acW).trans (aeL dp s t l))
theorem Uf(s:fN)(t l:Int)(ht0:0<=t)(YA:0<=l){w:World}{S:Nat->Prop}{p n:Nat}{d:List Int}{ws:List Wr}(h:Ref w S p n d ws)(hr:qG s n t l=0) :
  Calls prog 60 #[.pointer (some ⟨p,0,none⟩),.agg (aN s).toArray,.int .u64 t,.int .u64 l] w fun e w'=>∃L,e=.returned (.tuple #[.pointer (some ⟨L,0,none⟩),.int .i64 0])/\w.heap.size<=L/\RL w' (kX S w) L p d ws (qH s t l) 0/\Below w.heap.size w w':=by
 have HB:Hid (Below w.heap.size w (w.alloc (.cells (aN s).toArray 23))):=ag w _;have C0:=zH (bE.new 23 w (aN s));have L1:=zH (fC.gi C0.out);have HD:=zH h;clear h;go_enter func60,ntmps60;go_wp2_with ((with_reducible refine aQ ?_);(refine aK (by rfl) 23 rfl rfl L1.out ?_);simp only[Act.put,zA,zB,zC])
 refine (uy s _).mono ?_;rintro e w1 ⟨rfl,b1⟩;have B1:Hid (Below w.heap.size w w1):=ah HB.out b1;have C1:=zH (bE.later C0.out b1);have D1:=zH (HD.out.later B1.out);clear b1 HB C0 L1;obtain ⟨hc,hlen,dZ,gz,hl⟩:=x_ hr;have hcf:cfg s=0:=aE hc;have hb:=hc.1;have Tg:=hc.2.1;rw[hcf];have k1:IntKind.i64.wrap (1+s.bl)=1+s.bl:=by rw[aY];omega
 have k2:IntKind.i64.wrap (1+s.bl+s.lc)=1+s.bl+s.lc:=by rw[aY];omega
 have hq:((n:Int) != 1+s.bl+s.lc)=false:=by simp[hlen]
 have VZ:¬4611686018427387904<t:=by omega
 have aqU:¬4611686018427387904<l:=by omega
 have qi:(l == 0)=false:=by simp[hl]
 have CM:Hid ((qH s t l).Ok/\(qH s t l).sz=n):=⟨wL hr ht0 YA,by have:=(wL hr ht0 YA).GX;have e1:(qH s t l).c=s:=rfl;rw[e1] at this;omega⟩
 clear hr hlen hc dZ gz;go_wp2_with fail;refine zS w1 fun aa=>?_;have DX:Hid (Below w1.heap.size w1 w1.drew):=aa;generalize w1.drew=wd at *;have BD:Hid (Below w.heap.size w wd):=ah B1.out DX.out;refine fI 0 2 aa ?_;refine de 3 aa (fun _ fc=>fC.c0 (bE.later C1.out fc)) ?_;refine fI 4 5 aa ?_;refine de 6 aa (fun _ fc=>fC.c1 (bE.later C1.out fc)) ?_;refine tk 7 aa ?_;refine ck (rs:=[1]) (by kernel_rfl) (by simp) ?_;refine bu (by simp;rfl) (fun Kc aJ=>?_) bO;go_simp;refine (Bg (D1.out.later DX.out)).mono ?_;rintro e wn ⟨rfl,rfl⟩;refine aJ.out _ _ DX.out (fun aa=>?_);clear aJ Kc;refine fI 8 9 aa ?_;clear aa;refine zD ?_;have LC:=zH (fC.gi (bE.later C1.out DX.out));have U1:Hid (_):=abh wd (some ⟨p,0,none⟩) s t l;have DD:=zH (D1.out.later DX.out);go_wp2_with ((with_reducible refine aQ ?_);(first | (refine aK (by rfl) 23 rfl rfl LC.out ?_) | (refine bh (vs:=[(0,.pointer (some ⟨p,0,none⟩)),(1,.agg (aN s).toArray),(2,.int .u64 l),(3,.int .u64 t),(4,.int .u64 t),(5,.int .u64 t)]) (by rfl) 214 rfl (by rfl) U1.out ?_));simp only[Act.put,zA,zB,zC])
 go_ret2;refine⟨wd.heap.size,rfl,BD.out.size,?_,BD.out.alloc BD.out.size _⟩;have hn:=bE.new 214 wd (fH (some ⟨p,0,none⟩) (wb (qH s t l) 0));refine⟨hn,?_,.inr BD.out.size,CM.out.1,fun h=>absurd h (Int.lt_irrefl 0)⟩;rw[CM.out.2];have hS:=HD.out.mono (T:=fun k=>S k/\k<w.heap.size) fun k hk s=>⟨s,hk⟩
 refine (hS.later (BD.out.alloc BD.out.size _)).mono fun k _ s=>⟨.inl s.1,?_⟩
 have:=BD.out.size;omega
