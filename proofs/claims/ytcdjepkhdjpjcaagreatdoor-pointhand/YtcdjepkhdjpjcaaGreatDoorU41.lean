import Derived.Test.YtcdjepkhdjpjcaaGreatDoorU40
set_option maxHeartbeats 20000000
set_option maxRecDepth 100000
namespace Go.Proofs.Zq.Q
open Go.Proofs.Tryz
open Go.RowKit
namespace V
open Go.Proofs.Tryz
theorem agS:(prog.info? 47).map (fun i=>(i.zero,i.size,i.bytes))=some (some (.slice none 0 0),1,24):=by kernel_rfl
theorem Ep(p:Option Addr)(n c:Nat):∀u∈[Value.slice p n c],u.oneCell'=true:=by
 intro u hu;obtain rfl:=bg.1 hu;rfl
theorem Rg(w:World)(x:C.En):∀j u,(C.aB x)[j]?=some u->(w.alloc (.cells (C.aB x).toArray 54)).cell? ((⟨w.heap.size,0,none⟩:Addr).add j)=some u:=fun j u hu=>by
 rw[fo,aW,bE.cell (bE.new 54 w (C.aB x)) j];exact hu
theorem Es(w:World)(x:C.En)(hx:x.v.length=32):(binOp .neq 54 (.agg (C.aB x).toArray) (.agg (C.aB x).toArray)).run prog w=.ok (.bool false) w:=by
 rw[run_neq_struct,C.aeM C.jG w 9997 x x hx hx,(C.aaS x x).2 rfl];rfl
theorem cell_one_new(w:World)(v:Value)(t:TypeId):∀j u,[v][j]?=some u->(w.alloc (.cells #[v] t)).cell? ((⟨w.heap.size,0,none⟩:Addr).add j)=some u:=fun j u hu=>by
 rw[fo,aW,bE.cell (bE.new t w [v]) j];exact hu
theorem Sv(w:World)(B L m cL:Nat)(vp:Nat->Option Addr)(vn vc:Nat->Nat)(hF:lT w B L m vp vn vc)(OS:0<m) :
  Calls prog 81 #[.slice (some ⟨L,0,none⟩) m cL] w fun e w'=>e=.returned (.bool true)/\Fr m vp w w':=by
 have aex:=hF.nR;have HF:=zH hF;clear hF;go_enter func81,ntmps81;go_wp2_with fail
 go_loopw [3] (fun i wr=>∃a:Nat,a<=m/\i=.int .i64 a/\Mark w wr B m vp vn vc a 0) (fun i _=>m-(intOf i).toNat)
 case atStart=>exact⟨0,aI _,rfl,HF.out.start⟩
 case round =>
  obtain ⟨i,hi,rfl,hM⟩:=hrel;by_cases eP:i<m
  ·have hc:=HF.out.Gl hM.fr i eP;have hn:=HF.out.size i eP;have HM:=zH hM;clear hM;go_wp2_with fail
   go_loopw [4] (fun k wr=>∃b:Nat,b<=vn i/\k=.int .i64 b/\Mark w wr B m vp vn vc i b) (fun k _=>vn i-(intOf k).toNat)
   case atStart=>exact⟨0,aI _,rfl,HM.out⟩
   case round =>
    obtain ⟨k,hk,rfl,hM2⟩:=hrel;have hc2:=HF.out.Gl hM2.fr i eP;clear hc HM;by_cases OT:k<vn i
    ·obtain ⟨g,hg,hth,hM3⟩:=hM2.store HF.out eP OT;rw[hg] at hc2;have h8:IntKind.i64.wrap (-1-(i:Int))=-1-(i:Int):=by rw[aY];omega
     have pI:Hid ((Instr.build 54 #[(0,.int .i64 (-1-(i:Int)))]).run prog wr=.ok (.agg (C.aB (m1 i)).toArray) wr):=C.Ao C.jG wr _;have HM3:=zH hM3;have T3:Hid ((Instr.storeAt 54 (.pointer (some ⟨g,k*34,none⟩)) (.agg (C.aB (m1 i)).toArray)).run prog wr=.ok () (wr.setCells g (k*34) (C.aB (m1 i)))):=run_storeAt_mid (P:=prog) wr g (k*34) 54 (C.aB (m1 i)).toArray (by simpa [C.cI (rE i)] using hth) (by rw[C.jG.size];simp[C.cI (rE i)]) (C.vq (m1 i));clear hM2 hM3 hg hth;go_wp2_with ((with_reducible refine aQ ?_);(refine lu (by rfl) 54 rfl rfl rfl T3.out ?_);simp only[Act.put])
     go_roundw
     case rel=>exact⟨k+1,by omega,by go_num,HM3.out⟩
     case measure=>simp[intOf];omega
    ·have HM3:Hid (Mark w wr B m vp vn vc (i+1) 0):=hM2.next (by omega);clear hM2;go_wp2_with fail;go_roundw
     case rel=>exact⟨i+1,by omega,by go_num,HM3.out⟩
     case measure=>simp[intOf];omega
  ·obtain rfl:m=i:=by omega
   have HG:=zH (hM.grow HF.out.base);clear hM;obtain ⟨i5,hi5,ad9,ad8,ad7⟩:=cj C.jG.inf;obtain ⟨i23,ahz,ab6,ab5,ab4⟩:=cj agS;go_wp2_with fail
   go_loopw [5,6] (fun v i wr=>∃(a:Nat) (LL:List Value),a<=m/\i=.int .i64 a/\LL.length=17*a/\Grow w wr B m vp vn vc a none 0 v LL) (fun _ i _=>m-(intOf i).toNat)
   case atStart=>exact⟨0,[],aI _,rfl,rfl,HG.out⟩
   case round =>
    obtain ⟨i,LL,hi,rfl,hL,hG⟩:=hrel;clear HG;have HLL:=zH hL;clear hL;by_cases uW:i<m
    ·have hc:=HF.out.Gl hG.fr i uW;have hn:=HF.out.size i uW;obtain ⟨hG2,⟨xs,hx⟩,Ws⟩:=hG.begin HF.out uW;have hO:=Own.begin (w:=w) uW hx Ws;have jU:=zH hG2;have HX:=zH hx;have HO:=zH hO;clear hG hG2 hx Ws hO;go_wp2_with fail
     go_loopw [5,7,8] (fun v x k wr=>∃(b:Nat) (LL ys:List Value),b<=40/\k=.int .i64 b/\Hid (LL.length=17*i+min b 16)/\Grow w wr B m vp vn vc (i+1) x.ownBlock (vn i+b) v LL /\
       Own w wr B m vp (i+1) x.ownBlock/\Hid (ys.length=vn i*34)/\wr.ownsRow B 54 34 x (vn i+b) (ys++sJ b (m2 i))) (fun _ _ k _=>40-(intOf k).toNat)
     case atStart=>exact⟨0,LL,xs,by omega,rfl,by show _=_;rw[HLL.out];omega,jU.out,HO.out,HX.out.1,by simpa [sJ,C.EC] using HX.out⟩
     case round =>
      obtain ⟨b,Nu,ys,hb,rfl,HL2,hG3,hO3,HY,hX3⟩:=hrel;clear jU HX HO hc HLL;have KA:=zH hG3;have HO3:=zH hO3;have YK:=zH hX3;have HBs:=zH hG3.base;clear hG3 hO3 hX3;by_cases arR:b<40
      ·have h8:IntKind.i64.wrap (-10001-(i:Int))=-10001-(i:Int):=by rw[aY];omega
       have pI:Hid ((Instr.build 54 #[(0,.int .i64 (-10001-(i:Int)))]).run prog wr=.ok (.agg (C.aB (m2 i)).toArray) wr):=C.Ao C.jG wr _;have HN4:=zH (Rg wr (m2 i));obtain ⟨g,cap,w1,nN,dR,cU,lf,hgl,Ji⟩:=Bb (P:=prog) (wr.alloc (.cells (C.aB (m2 i)).toArray 54)) 47 47 B 54 i5 _ 34 48 C.jG.ut hi5 ad9 ad8 ad7 rfl (by decide) u7 (vn i+b) (ys++sJ b (m2 i)) (YK.out.alloc _) ⟨wr.heap.size,0,none⟩ 1 1 (C.aB (m2 i)) rfl HN4.out (C.jv _) (by omega) (by unfold maxLen;omega) (by omega) (by have:=HBs.out;simp;omega);have rQ:=zH nN;have CO:=zH (C.mE C.jG wr (m2 i) (yd i));go_wp2_with ((with_reducible refine aQ ?_);(first | (refine C.gW (u:=.agg (C.aB (m2 i)).toArray) (by rfl) 47 rfl rfl CO.out ?_) | (refine C.ez (u1:=u7) (u2:=.slice (some ⟨wr.heap.size,0,none⟩) 1 1) (by rfl) rfl rfl rfl rfl rQ.out (Hid.out ?_)));simp only[Act.put,zA,zB,zC])
       unfold Hid;clear pI rQ CO nN;have R:=(KA.out.alloc (.cells (C.aB (m2 i)).toArray 54)).append HF.out (HO3.out.alloc _) dR cU (by simpa using lf) Ji;have HXn:Hid (w1.ownsRow B 54 34 (.slice (some ⟨g,0,none⟩) (vn i+(b+1)) cap) (vn i+(b+1)) (ys++sJ (b+1) (m2 i))):=by
        show World.ownsRow _ _ _ _ _ _ _;rw[Ee,<-aS];exact dR
       have Gu:Hid (Grow w w1 B m vp vn vc (i+1) (some g) (vn i+(b+1)) u5 Nu):=R.1;have CL:Hid (Own w w1 B m vp (i+1) (some g)):=R.2;clear dR cU lf hgl Ji R KA HO3 YK HBs h8 HN4;by_cases arS:b<16
       ·have Wk:Nu.length=17*i+b:=by rw[HL2.out];omega
        have hlb:Nu.length<=100000:=by omega
        have Yi:Hid (Nu.length=17*i+b):=Wk;clear Wk;have HS:=zH Gu.out.fr.size;obtain ⟨g2,qN,w2,nN,jF,ja,-,-,-⟩:=Bb (P:=prog) (w1.alloc (.cells #[.slice (some ⟨g,0,none⟩) (vn i+b+1) cap] 47)) 163 163 w.heap.size 47 i23 (.slice none 0 0) 1 24 underlying163 ahz ab6 ab5 ab4 rfl (by decide) u5 Nu.length Nu (Gu.out.long.alloc _) ⟨w1.heap.size,0,none⟩ 1 1 [.slice (some ⟨g,0,none⟩) (vn i+b+1) cap] rfl (cell_one_new _ _ _) (Ep _ _ _) (by omega) (by unfold maxLen;omega) (by omega) (by have:=HS.out;simp;omega);have rQ:=zH nN;go_wp2_with ((with_reducible refine aQ ?_);(refine C.ez (u1:=u5) (u2:=.slice (some ⟨w1.heap.size,0,none⟩) 1 1) (by rfl) rfl rfl rfl rfl rQ.out ?_);simp only[Act.put,zA,zB,zC])
        clear rQ nN;have e9:vn i+(b+1)-vn i=b+1:=by omega
        have R2:=(Gu.out.alloc (.cells #[.slice (some ⟨g,0,none⟩) (vn i+b+1) cap] 47)).enter (CL.out.alloc _) (xs:=ys) (by rw[e9];exact HXn.out.alloc _) HY.out (by omega) (by omega) (by rw[Yi.out];omega) jF ja;rw[e9] at R2;have HQ1:=zH R2.1;have HQ2:=zH R2.2.1;have HQ3:=zH R2.2.2;clear jF ja R2 Gu CL HXn HS e9;go_wp2_with fail;go_roundw
        case rel =>
         have hlen:Hid ((Nu++[Value.slice (some ⟨g,0,none⟩) (vn i+b+1) cap]).length=17*i+min (b+1) 16):=by show _=_;rw[aO,Yi.out];simp only[fO];omega
         exact⟨b+1,Nu++[Value.slice (some ⟨g,0,none⟩) (vn i+b+1) cap],ys,by omega,by go_num,hlen,HQ1.out,HQ2.out,HY,HQ3.out⟩
        case measure=>simp[intOf];omega
       ·go_wp2;go_roundw
        case rel=>exact⟨b+1,Nu,ys,by omega,by go_num,by show _=_;rw[HL2.out];omega,Gu.out,CL.out,HY,HXn.out⟩
        case measure=>simp[intOf];omega
      ·obtain rfl:40=b:=by omega
       obtain ⟨g,cap,hu7,_,_⟩:=World.ownsRow.form YK.out (by omega);subst hu7;have Wk:Nu.length=17*i+16:=by rw[HL2.out];omega
       have hlb:Nu.length<=100000:=by omega
       have Yi:Hid (Nu.length=17*i+16):=Wk;clear Wk;have HS:=zH KA.out.fr.size;obtain ⟨g2,qN,w2,nN,jF,ja,-,-,-⟩:=Bb (P:=prog) (wr.alloc (.cells #[.slice (some ⟨g,0,none⟩) (vn i+40) cap] 47)) 163 163 w.heap.size 47 i23 (.slice none 0 0) 1 24 underlying163 ahz ab6 ab5 ab4 rfl (by decide) u5 Nu.length Nu (KA.out.long.alloc _) ⟨wr.heap.size,0,none⟩ 1 1 [.slice (some ⟨g,0,none⟩) (vn i+40) cap] rfl (cell_one_new _ _ _) (Ep _ _ _) (by omega) (by unfold maxLen;omega) (by omega) (by have:=HS.out;simp;omega);have rQ:=zH nN;go_wp2_with ((with_reducible refine aQ ?_);(refine C.ez (u1:=u5) (u2:=.slice (some ⟨wr.heap.size,0,none⟩) 1 1) (by rfl) rfl rfl rfl rfl rQ.out ?_);simp only[Act.put,zA,zB,zC])
       clear rQ nN;have e9:vn i+40-vn i=40:=by omega
       have R2:=(KA.out.alloc (.cells #[.slice (some ⟨g,0,none⟩) (vn i+40) cap] 47)).enter (HO3.out.alloc _) (xs:=ys) (by rw[e9];exact YK.out.alloc _) HY.out (by omega) (by omega) (by rw[Yi.out];omega) jF ja;have HQ1:=zH R2.1.next;clear jF ja R2 KA HO3 YK HS e9 HBs;go_wp2_with fail;go_roundw
       case rel=>exact⟨i+1,Nu++[.slice (some ⟨g,0,none⟩) (vn i+40) cap],by omega,by go_num,by rw[aO,Yi.out];simp only[fO];omega,HQ1.out⟩
       case measure=>simp[intOf];omega
    ·obtain rfl:m=i:=by omega
     obtain ⟨gV,ae3,hV,_,_⟩:=World.ownsRow.form hG.long (by rw[HLL.out];omega);rw[HLL.out] at hV;subst hV;have aiQ:Hid (wr.ownsRow w.heap.size 47 1 (.slice (some ⟨gV,0,none⟩) (17*m) ae3) (17*m) LL):=by have:=hG.long;rw[HLL.out] at this;exact this
     have HE:=zH hG.entry;have HR:=zH hG.rows;have HFr:=zH hG.fr;clear hG;go_wp2_with fail
     go_loop [9] (fun i=>∃a:Nat,a<=m/\i=.int .i64 a) (fun i=>m-(intOf i).toNat)
     case atStart=>exact⟨0,aI _,rfl⟩
     case round =>
      obtain ⟨i,hi3,rfl⟩:=hrel;by_cases aat:i<m
      ·have hc:=HF.out.Gl HFr.out i aat;have hn:=HF.out.size i aat;go_wp2_with fail
       go_loop [10] (fun k=>∃b:Nat,b<=vn i/\k=.int .i64 b) (fun k=>vn i-(intOf k).toNat)
       case atStart=>exact⟨0,aI _,rfl⟩
       case round =>
        obtain ⟨k,hk,rfl⟩:=hrel;by_cases OT:k<vn i
        ·obtain ⟨g,hg⟩:=HF.out.shape i aat (by omega);have hcell:=(HR.out i _ aat hg).cells k (aI _) OT;rw[hg] at hc;have h8:IntKind.i64.wrap (-1-(i:Int))=-1-(i:Int):=by rw[aY];omega
         have pI:Hid ((Instr.build 54 #[(0,.int .i64 (-1-(i:Int)))]).run prog wr=.ok (.agg (C.aB (m1 i)).toArray) wr):=C.Ao C.jG wr _;simp only at hcell;have L5:Hid (_):=b_ (P:=prog) wr g (k*34) 54 (C.aB (m1 i)) _ hcell C.jG.un rfl (by rw[C.jG.size,C.cI (rE i)]);have Q5:=zH (Es wr (m1 i) (rE i));clear hg hcell;go_wp2_with ((with_reducible refine aQ ?_);(first | (refine aK (by rfl) 54 rfl rfl L5.out ?_) | (refine C.uk (by rfl) 54 rfl rfl rfl C.jG.eqg Q5.out ?_));simp only[Act.put,zA,zB,zC])
         go_round
         case rel=>exact⟨k+1,by omega,by go_num⟩
         case measure=>simp[intOf];omega
        ·go_wp2
         go_loop [11] (fun k=>∃b:Nat,b<=17/\k=.int .i64 b) (fun k=>17-(intOf k).toNat)
         case atStart=>exact⟨0,aI _,rfl⟩
         case round =>
          obtain ⟨g,hg,rfl⟩:=hrel;by_cases hlg:g<17
          ·have hq:17*i+g<LL.length:=by rw[HLL.out];omega
           have Tj:=aiQ.out.cellAt (17*i+g) (by omega);rw[ay hq] at Tj;obtain ⟨b,len,cap,e,h1,h2,h3,_⟩:=HE.out (17*i+g) hq;have hqi:(17*i+g) / 17=i:=by omega
           rw[hqi] at h1 h3;rw[e] at Tj;have HW:=zH h3;clear e h3 hqi hq;go_wp2_with fail
           go_loop [13] (fun k=>∃b:Nat,vn i<=b/\b<=len/\k=.int .i64 b) (fun k=>len-(intOf k).toNat)
           case atStart=>exact⟨vn i,az _,h1,rfl⟩
           case round =>
            obtain ⟨y,hy1,hy2,rfl⟩:=hrel;by_cases hly:y<len
            ·have hcell:=HW.out.cells y hy1 hly;have h8:IntKind.i64.wrap (-10001-(i:Int))=-10001-(i:Int):=by rw[aY];omega
             have pI:Hid ((Instr.build 54 #[(0,.int .i64 (-10001-(i:Int)))]).run prog wr=.ok (.agg (C.aB (m2 i)).toArray) wr):=C.Ao C.jG wr _;have L5:Hid (_):=b_ (P:=prog) wr b (y*34) 54 (C.aB (m2 i)) _ hcell C.jG.un rfl (by rw[C.jG.size,C.cI (yd i)]);have Q5:=zH (Es wr (m2 i) (yd i));clear hcell;go_wp2_with ((with_reducible refine aQ ?_);(first | (refine aK (by rfl) 54 rfl rfl L5.out ?_) | (refine C.uk (by rfl) 54 rfl rfl rfl C.jG.eqg Q5.out ?_));simp only[Act.put,zA,zB,zC])
             go_round
             case rel=>exact⟨y+1,by omega,by omega,by go_num⟩
             case measure=>simp[intOf];omega
            ·go_wp2;go_round
             case rel=>exact⟨g+1,by omega,by go_num⟩
             case measure=>simp[intOf];omega
          ·go_wp2;go_round
           case rel=>exact⟨i+1,by omega,by go_num⟩
           case measure=>simp[intOf];omega
      ·go_wp2;go_ret;exact⟨rfl,HFr.out⟩
end V
section
variable {w0 w w':World} {K:Ks} {x y:Sx} {pd:List Cm} {X:Nat->Th} {i j A B G m d:Nat} {fl:Bool} {z:Pg} {v u:Value} {p:Pt} {E:Nat->Th} {us:List Value} {fs:List (List C.En)}
theorem QU(ht:qX w0)(h:Pl (fun _=>.no) w0 w K x pd G A B p fl m)(hb:Bn x pd m d)(qL:d<80){o:rO}(hor:∀X,OpR w0 K X o):Calls prog 78 #[Zq.E.qp G,.agg o.cells] w fun e w'=>e=.returned (.bool true)/\Dn w0 w' K G fl (d+1):=by
 by_cases h1:o.kd=1
 ·exact UP ht h hb qL h1 hor
 by_cases h2:o.kd=2
 ·exact Ip h hb qL h2 hor
 by_cases h3:o.kd=3
 ·exact Io h hb qL h3
 by_cases h4:o.kd=4
 ·exact LR ht h hb qL h4
 by_cases h5:o.kd=5
 ·exact Il h hb qL h5
 by_cases h6:o.kd=6
 ·exact QV h hb qL h6
 by_cases h7:o.kd=7
 ·exact LW ht h hb qL h7
 by_cases h8:o.kd=8
 ·exact Ik ht h hb qL h8
 by_cases h9:o.kd=9
 ·exact QT h hb h9
 by_cases h10:o.kd=10
 ·exact LU ht h hb qL h10
 by_cases h11:o.kd=11
 ·exact LV h hb qL h11
 exact LS h hb fun c a b=>by omega
def sP:Value->Option Addr
 | .slice p _ _=>p
 | _=>none
def sN:Value->Nat
 | .slice _ n _=>n
 | _=>0
def sC:Value->Nat
 | .slice _ _ c=>c
 | _=>0
theorem Ls.amI(h:Ls w true 47 54 v us fs)(hm:0<us.length)(h4:us.length<=4000):∃L c,v=.slice (some ⟨L,0,none⟩) us.length c/\V.lT w 0 L us.length (fun i=>sP (us.getD i undef)) (fun i=>sN (us.getD i undef)) (fun i=>sC (us.getD i undef)):=by
 obtain ⟨L,c,rfl,-,hc,-⟩:=C.O.qE h.row hm;obtain ⟨cs,hcs⟩:=Zq.E.rz h.row (b:=L) rfl;have g:∀i (hi:i<us.length),us.getD i undef=us[i]:=fun i hi=>by rw[List.getD_eq_getElem?_getD,ay hi];rfl
 have sl:∀i (hi:i<us.length),us[i]=.slice (sP us[i]) (sN us[i]) (sC us[i])/\sN us[i]<=64:=fun i hi=>by
  obtain ⟨p,n,c,e,hn⟩:=h.sh us[i] (eA hi);rw[e];exact⟨rfl,hn⟩
 have ob:∀i (hi:i<us.length) a,sP us[i]=some a->us[i].ownBlock=some a.block:=fun i hi a ha=>by
  rw[(sl i hi).1,ha];rfl
 refine⟨L,c,rfl,h4,fun i hi=>?_,⟨cs,hcs⟩,fun i hi=>?_,fun i k a b hi hk kG ha xq e=>?_,fun i hi=>?_,aI _⟩
 ·show _=some (Value.slice (sP (us.getD i undef)) (sN (us.getD i undef)) (sC (us.getD i undef)));rw[g i hi,<-(sl i hi).1];exact hc i _ (ay hi)
 ·show ∃xs,World.ownsRow _ _ _ _ (Value.slice (sP (us.getD i undef)) (sN (us.getD i undef)) (sC (us.getD i undef))) (sN (us.getD i undef)) xs;rw[g i hi,<-(sl i hi).1];obtain ⟨f,hf⟩:∃f,fs[i]?=some f:=⟨_,ay (by rw[h.len];exact hi)⟩
  have he:=h.each rfl i us[i] f (ay hi) hf;obtain ⟨p,c,e⟩:=Zq.E.cB he;have:sN us[i]=f.length:=by rw[e];rfl
  rw[this];exact⟨_,he⟩
 ·have ha:sP us[i]=some a:=by rw[<-g i hi];exact ha
  have xq:sP us[k]=some b:=by rw[<-g k hk];exact xq
  have o1:=ob i hi a ha;have o2:=ob k hk b xq;rcases Nat.lt_or_gt_of_ne kG with eP | eP
  ·exact (eR.1 h.sep i k hi hk eP) _ o1 (by rw[o2,e])
  ·exact (eR.1 h.sep k i hk hi eP) _ o2 (by rw[o1,e])
 ·show sN (us.getD i undef)<=64;rw[g i hi];exact (sl i hi).2
theorem XG(h:Pl E w0 w K x pd G A B p true m)(hm:0<m)(h4:m<=4000):∃q c,w.cell? ⟨G,3,none⟩=some (.slice q m c)/\Calls prog 81 #[.slice q m c] w fun e w'=>e=.returned (.bool true)/\Pl E w0 w' K x pd G A B p false m:=by
 obtain ⟨z,hd,Kq,CG,Df,hA,hB⟩:=h;have hl:=hd.ls (i:=11) (by decide) (by decide) (fl:=true) (t:=47) (e:=54) (v:=z.vt) (us:=z.us) (fs:=z.fs) rfl;have c3:=hd.pl3 (z:=z) rfl;obtain ⟨L,c,hv,hF⟩:=hl.amI (by omega) (by omega);rw[CG] at hv hF;refine⟨_,c,by rw[c3,hv],?_⟩;refine (V.Sv w 0 L m c _ _ _ hF hm).mono ?_;rintro e w' ⟨rfl,hr⟩;refine⟨rfl,?_⟩;have hk:Zq.E.Kept (fun b=>∃u∈z.us,u.ownBlock=some b) w w':=⟨hr.os,hr.tape,hr.output,hr.size,fun b hb hn=>hr.block b hb fun i a hi ha e=>hn ⟨z.us[i]'(by omega),eA _,by
  have g:z.us.getD i undef=z.us[i]'(by omega):=by rw[List.getD_eq_getElem?_getD,ay (by omega)];rfl
  have ha:sP (z.us.getD i undef)=some a:=ha;rw[g] at ha;obtain ⟨p',n',c',e',-⟩:=hl.sh _ (eA (show i<z.us.length by omega));rw[e'] at ha ⊢;have ha:p'=some a:=ha;rw[ha,<-e];rfl⟩⟩
 have hd':=hd.yQ (i:=11) (by decide) (by decide) (t:=.ls false 47 54 z.vt z.us z.fs) (S:=fun b=>∃u∈z.us,u.ownBlock=some b) (w':=w') (fun G' _=>⟨Zq.E.eB hl.row hk fun g hg hs=>by
  obtain ⟨u,hu,hb⟩:=hs;exact hl.off u hu g hb hg,hl.len,fun u hu b hb=>bN (hl.ltu u hu b hb) hk.size,hl.sh,fun hf=>absurd hf (by decide),hl.wf,hl.sep,hl.off⟩) hk (fun b hb=>.inr hb) (fun b hb=>.inl hb)
 refine⟨z,hd'.congr fun j h1 h2=>?_,Kq,CG,Df,hA,hB⟩;unfold XP put;by_cases Kw:j=12
 ·simp[Kw]
 ·by_cases MU:j=11
  ·simp[MU]
  ·simp[Kw,MU]
end
section
variable {w0 w w':World} {K:Ks} {x y:Sx} {pd:List Cm} {X:Nat->Th} {i j A B G m d:Nat} {fl:Bool} {z:Pg} {v u:Value} {E:Nat->Th}
abbrev pt0:Pt:=⟨1,0,[],0⟩
theorem Pl.start(h:DS w0 w K x x pd (fun _=>.no)):Pl (fun _=>.no) w0 (((w.alloc (.cells #[.int .i64 1,.int .u64 0,.slice none 0 0,.int .i64 0] 87)).alloc (.cells #[.int .i64 0,.int .u64 0,.slice none 0 0] 162)).alloc (.cells #[Zq.E.qp K.P,Zq.E.qp w.heap.size,Zq.E.qp (w.heap.size+1),.slice none 0 0,.slice none 0 0] 166)) K x pd (w.heap.size+2) w.heap.size (w.heap.size+1) pt0 true 0:=by
 have h1:=h.ab0 (k:=9) (by decide);have h2:=h1.NH (i:=10) (by decide) (by decide) (S:=fun _=>False) (N:=fun _=>False) (t:=.gT (w.heap.size+1) 0 0 (.slice none 0 0) []) (w':=(w.alloc (.cells #[.int .i64 1,.int .u64 0,.slice none 0 0,.int .i64 0] 87)).alloc (.cells #[.int .i64 0,.int .u64 0,.slice none 0 0] 162)) (fun G' _=>⟨⟨by
  have:=aG (w.alloc (.cells #[.int .i64 1,.int .u64 0,.slice none 0 0,.int .i64 0] 87)) (.cells #[.int .i64 0,.int .u64 0,.slice none 0 0] 162);rw[a_] at this;exact this,⟨rfl,.inl ⟨rfl,rfl⟩⟩,C.dW.nil,by decide⟩,fun g hg=>by cases hg⟩) (Zq.E.Kept.bP _ (ag _ _)) (fun b hb=>hb.elim) (fun b hb=>.inr (by
  have:b=w.heap.size+1:=hb;rw[a_];omega)) (fun g hg=>hg.elim)
 have h3:=h2.iJ (k:=8) (by decide) #[Zq.E.qp K.P,Zq.E.qp w.heap.size,Zq.E.qp (w.heap.size+1),.slice none 0 0,.slice none 0 0] 166;rw[a_,a_] at h3;have no:∀b,¬LFt (.slice none 0 0) [] b:=fun b hb=>by
  rcases hb with hb | ⟨u,hu,-⟩
  ·cases hb
  ·cases hu
 have h4:=h3.fresh (aV _ _) (k:=11) (by decide) (u:=.ls true 47 54 (.slice none 0 0) [] []) (fun _=>Ls.nil _ _ _ _) (fun b hb=>absurd hb (no b));have h5:=h4.fresh (aV _ _) (k:=12) (by decide) (u:=.ls true 160 241 (.slice none 0 0) [] []) (fun _=>Ls.nil _ _ _ _) (fun b hb=>absurd hb (no b));refine⟨⟨w.heap.size,w.heap.size+1,.slice none 0 0,.slice none 0 0,.slice none 0 0,.slice none 0 0,[],[],[]⟩,h5.congr fun q _ _=>?_,Pt.Up.new,rfl,rfl,rfl,rfl⟩;unfold XP;by_cases e8:q=8
 ·subst e8;rfl
 ·by_cases e9:q=9
  ·subst e9;rfl
  ·by_cases YH:q=10
   ·subst YH;rfl
   ·by_cases MU:q=11
    ·subst MU;rfl
    ·by_cases Kw:q=12
     ·subst Kw;rfl
     ·simp[put,e8,e9,YH,MU,Kw]
theorem Bn.start(s:fN):Bn (x0 s) [] 0 0:=⟨az _,by show (1:Int)<=_;omega,az _,az _,az _⟩
theorem adP:iP sm:=by unfold iP sm;decide
theorem Oh(s:fN)(ht:qX w){p:Option Addr}{m c:Nat}{os:List rO}(hS:vH w p m os):Calls prog 33 #[.agg (aN s).toArray,.slice p m c] w fun e w'=>e=.returned (.bool true)/\Below w.heap.size w w':=by
 obtain ⟨r,hr⟩:=zE w.heap.size;obtain ⟨w1,dZ⟩:=zE (w.alloc (.cells (aN s).toArray 23));have B1:Hid (Below w.heap.size w w1):=by rw[<-dZ];exact ag w _
 have HC:Hid (∀W,Below w1.heap.size w1 W->(Instr.loadAt 23 (.pointer (some ⟨r,0,none⟩))).run prog W=.ok (.agg (aN s).toArray) W):=fun W b=>by
  have:bE 23 w1 r (aN s):=by rw[<-dZ,<-hr];exact bE.new 23 w (aN s)
  exact fC.gi (bE.later this b)
 have HT:=zH (ht.later B1.out);have HS:=zH (hS.later B1.out);have HL:=zH hS.len;clear ht hS;go_enter func33,ntmps33;go_wp2_with fail;refine (XA HT.out).mono ?_;rintro e w2 ⟨rfl,b2⟩;have L2:Hid (_):=HC.out _ b2;have gD:=zH b2;clear b2 HC dZ;go_wp2_with ((with_reducible refine aQ ?_);(refine lJ 23 L2.out ?_))
 clear L2;by_cases hM:iP s;refine (Mm s hM (HT.out.later gD.out)).mono ?_;rintro e w3 ⟨K,rfl,hK,hd⟩;have HD:Hid (∃s',DS w1 w3 K (x0 s') (x0 s') [] (fun _=>.no)):=⟨s,hd.base gD.out⟩
 clear hd hK hM gD;go_wp2_with fail
 rotate_left
 refine (aaf s hM w2).mono ?_;rintro e w3 ⟨rfl,b3⟩;have vN:Hid (Below w1.heap.size w1 w3):=ah gD.out b3;clear b3 gD;go_wp2_with fail;refine (Hj w3).mono ?_;rintro e w4 ⟨rfl,b4⟩;have Gw:Hid (Below w1.heap.size w1 w4):=ah vN.out b4;clear b4 vN;go_wp2_with fail;refine (Mm sm adP (HT.out.later Gw.out)).mono ?_;rintro e w3 ⟨K,rfl,hK,hd⟩;have HD:Hid (∃s',DS w1 w3 K (x0 s') (x0 s') [] (fun _=>.no)):=⟨sm,hd.base Gw.out⟩
 clear hd hK Gw hM;go_wp2_with fail;all_goals
  obtain ⟨s',hd⟩:=HD.out;refine (Vm w3).mono ?_;rintro e w5 ⟨rfl,rfl⟩;have hp:=Pl.start hd;obtain ⟨w6,Td⟩:=zE (((w3.alloc (.cells #[.int .i64 1,.int .u64 0,.slice none 0 0,.int .i64 0] 87)).alloc (.cells #[.int .i64 0,.int .u64 0,.slice none 0 0] 162)).alloc (.cells #[Zq.E.qp K.P,Zq.E.qp w3.heap.size,Zq.E.qp (w3.heap.size+1),.slice none 0 0,.slice none 0 0] 166));rw[Td] at hp;obtain ⟨G,hG⟩:=zE (w3.heap.size+1+1);have hp:Pl (fun _=>.no) w1 w6 K (x0 s') [] G w3.heap.size (w3.heap.size+1) pt0 true 0:=by rw[<-hG];exact hp
  have g0:=hp.sg.c0;have g1:=hp.sg.c1;have HP:=zH hp;clear hd hp HD;go_wp2_with fail;clear hG Td g0 g1;obtain ⟨X,z,hd,-⟩:=HP.out.open;have HDX:=zH hd;clear hd;refine (zU HDX.out (by show 0<=100000;decide) (by show (1:Int)<=1000;decide)).mono ?_;rintro e w7 ⟨rfl,b7⟩;have HDN:Hid (Dn w1 w7 K G true 0):=⟨_,_,_,_,_,_,HP.out.later b7,Bn.start s'⟩
  clear b7 HP HDX;go_wp2_with fail
  go_loopw [8] (fun v W=>∃k:Nat,v=.int .i64 k/\k<=80/\Hid (Dn w1 W K G true k)) (fun v _=>80-(intOf v).toNat)
  case atStart=>exact⟨0,rfl,by omega,HDN⟩
  case round =>
   obtain ⟨k,rfl,hk,HR⟩:=hrel;clear HDN;obtain ⟨x,pd,A,B,p',mm,hp,hb⟩:=HR.out;have HPk:=zH hp;have HBk:=zH hb;have Jq:Below w1.heap.size w1 wr:=by obtain ⟨z,hd,-⟩:=hp;exact hd.below
   clear hp hb HR;by_cases eP:k<m/\k<80
   ·obtain ⟨h1,h2⟩:=eP;obtain ⟨q,hq⟩:∃q,os[k]?=some q:=⟨_,ay (by rw[HL.out];exact h1)⟩
    obtain ⟨b,o,rfl,-⟩:=HS.out.cells (by omega);have LO:=zH ((HS.out.later Jq).load hq);have HO:Hid (∀X,OpR w1 K X q):=fun X=>HS.out.opr (bt hq);have i1:(k:Int)<(m:Int):=by omega
    have i2:(k:Int)<80:=by omega
    have i0:(0:Int)<=(k:Int):=by omega
    clear hq Jq;go_wp2_with ((with_reducible refine aQ ?_);(refine lJ 81 LO.out ?_))
    refine (QU HT.out HPk.out HBk.out h2 HO.out).mono ?_;rintro e w8 ⟨rfl,fB⟩;obtain ⟨x2,pd2,A2,B2,p2,m2,OP,jb⟩:=fB;have Dt:=zH OP;have gD:=zH jb;have g0:=OP.sg.c0;clear OP jb LO HO HPk HBk;go_wp2_with fail;obtain ⟨X,z,hd,-⟩:=Dt.out.open;have HDX:=zH hd;clear hd;refine (zU HDX.out (by have:=gD.out.ws;omega) (by have:=gD.out.nx;omega)).mono ?_;rintro e w9 ⟨rfl,b9⟩;have HDN:Hid (Dn w1 w9 K G true (k+1)):=⟨_,_,_,_,_,_,Dt.out.later b9,gD.out⟩
    clear b9 Dt gD HDX g0;go_wp2_with fail;go_roundw
    case rel=>exact⟨k+1,by go_num,by omega,HDN⟩
    case measure=>simp[intOf];omega
   ·have hn:¬((k:Int)<(m:Int))\/((k:Int)<(m:Int))/\¬((k:Int)<80):=by omega
    clear eP Jq;rcases hn with hn | ⟨MB,hn⟩;all_goals
     go_wp2_with fail;refine (AO (fun _ _ _=>rfl) HPk.out (by have:=HBk.out.tl;omega) (by have:=HBk.out.nx;omega)).mono ?_;rintro e wa ⟨rfl,hpa⟩;obtain ⟨M,hM⟩:=zE (mm+2);rw[hM] at hpa;have hMb:0<M/\M<=2000:=by have:=HBk.out.tl;omega
     have HPa:=zH hpa;obtain ⟨z,hd,-,CG,Df,-,-⟩:=hpa;have hl:=hd.ls (i:=11) (by decide) (by decide) (fl:=true) (t:=47) (e:=54) (v:=z.vt) (us:=z.us) (fs:=z.fs) rfl;have hl2:=hd.ls (i:=12) (by decide) (by decide) (fl:=true) (t:=160) (e:=241) (v:=z.vw) (us:=z.ux) (fs:=z.fs) rfl;have c3:=hd.pl3 (z:=z) rfl;have c4:=hd.pl4 (z:=z) rfl;obtain ⟨L3,k3,e3,-,hc3,-⟩:=C.O.qE hl.row (by omega);obtain ⟨L4,k4,e4,-,hc4,-⟩:=C.O.qE hl2.row (by omega);rw[e3,CG] at c3;rw[e4,Df] at c4;have KA:Hid (∀W,Below wa.heap.size wa W->W.cell? ⟨G,3,none⟩=some (.slice (some ⟨L3,0,none⟩) M k3)):=fun W s=>cell_later s c3;have HG4:Hid (∀W,Below wa.heap.size wa W->W.cell? ⟨G,4,none⟩=some (.slice (some ⟨L4,0,none⟩) M k4)):=fun W s=>cell_later s c4;have HLS:=zH6 hl hl2 CG Df hc3 hc4;clear hd hl hl2 c3 c4 e3 e4 hc3 hc4 CG Df hM HPk;go_wp2_with fail
     go_loopw [9] (fun v W=>∃i:Nat,v=.int .i64 i/\i<=M/\Hid (Below wa.heap.size wa W)) (fun v _=>M-(intOf v).toNat)
     case atStart=>exact⟨0,rfl,by omega,aV _ _⟩
     case round =>
      obtain ⟨i,rfl,hi,HB⟩:=hrel;have g3:=KA.out _ HB.out;by_cases eP:i<M
      ·obtain ⟨hl,hl2,CG,Df,hc3,hc4⟩:=HLS.out;obtain ⟨f,hf⟩:∃f,z.fs[i]?=some f:=⟨_,ay (by rw[hl.len];omega)⟩
       obtain ⟨u,hu⟩:∃u,z.us[i]?=some u:=⟨_,ay (by omega)⟩
       obtain ⟨v,hv⟩:∃v,z.ux[i]?=some v:=⟨_,ay (by omega)⟩
       have HFF:Hid (C.dW f/\f.length<=64):=hl.wf f (bt hf);obtain ⟨pu,cu,rfl,eu,-⟩:=C.eU.in (hl.each rfl i u f hu hf) HFF.out.1;obtain ⟨pv,cv,rfl,ev,-⟩:=C.eU.in (hl2.each rfl i v f hv hf) HFF.out.1;have HU3:Hid (∀W,Below wa.heap.size wa W->W.cell? ⟨L3,i,none⟩=some (.slice pu f.length cu)):=fun W s=>cell_later s (hc3 i _ hu);have HU4:Hid (∀W,Below wa.heap.size wa W->W.cell? ⟨L4,i,none⟩=some (.slice pv f.length cv)):=fun W s=>cell_later s (hc4 i _ hv);have HBc:Hid (Below wa.heap.size wa wr.drew):=ah HB.out (av 1);have HEU:Hid (C.lC wr.drew pu f.length f):=eu.later HBc.out;have Tu:Hid (C.lC wr.drew pv f.length f):=ev.later HBc.out;have i1:(i:Int)<(M:Int):=by omega
       have i0:(0:Int)<=(i:Int):=by omega
       clear hl hl2 CG Df hc3 hc4 hf hu hv eu ev HB;go_wp2_with fail;refine zR (fun W=>Below wa.heap.size wa W) HBc.out fun aa=>?_;generalize wr.drew=wc at *;refine gh 0 1 2 aa ?_;refine de 3 aa (fun _ s=>KA.out _ s) ?_;refine fI 4 5 aa ?_;refine de 6 aa (fun _ s=>HU3.out _ s) ?_;refine gh 7 8 9 aa ?_;refine de 10 aa (fun _ s=>HG4.out _ s) ?_;refine fI 11 12 aa ?_;refine de 13 aa (fun _ s=>HU4.out _ s) ?_;refine iA 14 fun Kc aJ=>?_;go_simp;refine (v_ HEU.out Tu.out HFF.out.2).mono ?_;rintro e wd ⟨rfl,bd⟩;have HBd:Hid (Below wa.heap.size wa wd):=ah HBc.out bd;clear bd;refine aJ.out _ _ HBd.out (fun aa=>?_);clear aJ Kc;refine tk 15 aa ?_;clear aa;refine zD ?_;clear g3;go_wp2_with fail;go_roundw
       case rel=>exact⟨i+1,by go_num,by omega,HBd⟩
       case measure=>simp[intOf];omega
      ·have hpr:=HPa.out.later HB.out;have YN:=zH hpr;obtain ⟨qa,ca,ca3,nN⟩:=XG hpr (by omega) (by omega);rw[g3] at ca3;cases ca3;have rQ:=zH nN;clear hpr nN HPa HLS;go_wp2_with fail;refine Calls.mono rQ.out ?_;rintro e wb ⟨rfl,hpb⟩;have HPb:=zH hpb;clear hpb rQ YN g3;go_wp2_with fail;refine (AO (fun _ _ _=>rfl) HPb.out (by omega) (by have:=HBk.out.nx;omega)).mono ?_;rintro e wc ⟨rfl,hpc⟩;have HPc:=zH hpc;have g0:=hpc.sg.c0;clear hpc HPb;go_wp2_with fail;obtain ⟨X,zz,hd,-⟩:=HPc.out.open;have HDX:=zH hd;have HBz:=zH hd.below;clear hd;refine (zU HDX.out (by have:=HBk.out.ws;omega) (by have:=HBk.out.nx;omega)).mono ?_;rintro e wd ⟨rfl,bd⟩;have HBw:Hid (Below w.heap.size w wd):=ah B1.out (ah HBz.out bd);clear bd HDX HPc g0;go_wp2;go_ret;exact⟨rfl,HBw.out⟩
end
section
variable {w:World}
theorem C'(s:fN)(ht:qX w){p:Option Addr}{m c:Nat}{os:List rO}(hS:vH w p m os):Calls prog 7 #[.agg (aN s).toArray,.slice p m c] w fun e w'=>e=.returned (.bool true)/\Below w.heap.size w w':=by
 obtain ⟨r,hr⟩:=zE w.heap.size;obtain ⟨w1,dZ⟩:=zE (w.alloc (.cells (aN s).toArray 23));have B1:Hid (Below w.heap.size w w1):=by rw[<-dZ];exact ag w _
 have L1:Hid ((Instr.loadAt 23 (.pointer (some ⟨r,0,none⟩))).run prog w1=.ok (.agg (aN s).toArray) w1):=by rw[<-dZ,<-hr];exact fC.gi (bE.new 23 w (aN s))
 have HT:=zH (ht.later B1.out);have HS:=zH (hS.later B1.out);clear ht hS;go_enter func7,ntmps7;go_wp2_with ((with_reducible refine aQ ?_);(refine lJ 23 L1.out ?_))
 refine (Oh s HT.out HS.out).mono ?_;rintro e w2 ⟨rfl,b2⟩;have HB:Hid (Below w.heap.size w w2):=ah B1.out b2;clear b2 L1 dZ;go_wp2;go_ret;exact⟨rfl,HB.out⟩
end
def OC (os:List rO):List Value:=(os.map fun o=>o.cells.toList).flatten
theorem abw(os:List rO)(o:rO):OC (os++[o])=OC os++o.cells.toList:=by simp[OC]
theorem ait{os:List rO}{k:Nat}{o:rO}(hk:os[k]?=some o)(j:Nat)(hj:j<5):(OC os)[5*k+j]?=o.cells.toList[j]?:=by
 obtain ⟨kN,e⟩:=aA.1 hk;have:=pT (m:=5) (os.map fun o=>o.cells.toList) (fun l hl=>by
  obtain ⟨o,_,rfl⟩:=cF.1 hl;rfl) k (by simpa using kN) j hj
 rw[OC,this];simp[e]
theorem vH.of{w w':World}{p:Option Addr}{m b:Nat}{os ks:List rO}{v:Value}(h:vH w p m os)(hb:Below w.heap.size w w')(hk:∀q∈ks,q∈os)(ho:w'.ownsRow b 81 5 v ks.length (OC ks)):∃q c,v=.slice q ks.length c/\vH w' q ks.length ks:=by
 obtain ⟨q,c,e,-,hq⟩:=Zq.E.iW ho;refine⟨q,c,e,rfl,fun h0=>?_,fun o ho=>⟨(h.set o (hk o ho)).1.later hb,(h.set o (hk o ho)).2⟩,fun o ho=>⟨(h.val o (hk o ho)).1.later hb,(h.val o (hk o ho)).2⟩⟩;obtain ⟨g,rfl⟩:=hq h0;refine⟨g,0,rfl,fun k o hko j u hu=>?_⟩;have hj:j<5:=by have:=(aA.1 hu).1;simpa using this
 subst e;have:=ho.cells (g:=g) rfl (5*k+j) u (by rw[ait hko j hj];exact hu);rw[fo,aW] at this;rw[show 0+k*5+j=5*k+j by omega];exact this
theorem OG:(prog.info? 81).map (fun i=>(i.zero,i.size,i.bytes))=some (some (.agg #[.int .i64 0,.slice none 0 0,.slice none 0 0,.bool false,.int .i64 0]),5,72):=by kernel_rfl
theorem Nl(w:World)(q:rO):(Instr.buildSlice 24 1 #[(0,.agg q.cells)]).run prog w=.ok (.slice (some ⟨w.heap.size,0,none⟩) 1 1) (w.alloc (.cells q.cells 81)):=by
 obtain ⟨i0,hi,ij,gm,iL⟩:=cj OG;refine run_buildSlice w 24 81 1 _ _ i0 _ underlying24 hi ij (by rw[gm];decide) (by rw[gm];decide) ?_;rw[gm];have:∀A:Array Value,A.size=5->Instr.fill (fun i=>some (i*5,5)) A [(0,.agg q.cells)]=some q.cells:=by
  intro A hA;obtain ⟨l⟩:=A
  match l,hA with
  | [a,b,c,d,e],_=>rfl
 exact this _ (by simp)
section
variable {w:World}
theorem Bo(s:fN)(ht:qX w){p:Option Addr}{m c:Nat}{os:List rO}(hS:vH w p m os)(hm:m*72<=140737488351232):Calls prog 6 #[.agg (aN s).toArray,.slice p m c] w fun e w'=>e=.returned (.bool true)/\Below w.heap.size w w':=by
 obtain ⟨r,hr⟩:=zE w.heap.size;obtain ⟨w1,dZ⟩:=zE (w.alloc (.cells (aN s).toArray 23));have B1:Hid (Below w.heap.size w w1):=by rw[<-dZ];exact ag w _
 have HC:Hid (∀W,Below w1.heap.size w1 W->(Instr.loadAt 23 (.pointer (some ⟨r,0,none⟩))).run prog W=.ok (.agg (aN s).toArray) W):=fun W b=>by
  have:bE 23 w1 r (aN s):=by rw[<-dZ,<-hr];exact bE.new 23 w (aN s)
  exact fC.gi (bE.later this b)
 have HT:=zH (ht.later B1.out);have HS:=zH (hS.later B1.out);have HL:=zH hS.len;obtain ⟨i0,BZ,ij,gm,iL⟩:=cj OG;have HI:=zH4 BZ ij gm iL;clear ht hS BZ ij gm iL;go_enter func6,ntmps6;go_wp2_with fail;clear dZ
 go_loopw [5,6] (fun vl v W=>∃(i:Nat) (ks:List rO),v=.int .i64 i/\i<=m/\ks.length<=i/\Hid (Below w1.heap.size w1 W/\(∀q∈ks,q∈os)/\W.ownsRow w1.heap.size 81 5 vl ks.length (OC ks))) (fun _ v _=>m-(intOf v).toNat)
 case atStart=>exact⟨0,[],rfl,by omega,by simp,aV _ _,fun _ h=>absurd h dL,cq _ _ _ _⟩
 case round =>
  obtain ⟨i,ks,rfl,hi,hks,HR⟩:=hrel;by_cases eP:i<m
  ·obtain ⟨q,hq⟩:∃q,os[i]?=some q:=⟨_,ay (by rw[HL.out];exact eP)⟩
   obtain ⟨b,o,rfl,hc⟩:=HS.out.cells (by omega);have LO:=zH ((HS.out.later HR.out.1).load hq);have k0:wr.cell? ⟨b,o+i*5,none⟩=some (.int .i64 q.kd):=cell_later HR.out.1 (hc i q hq 0 _ rfl);have HQ:Hid (q∈os):=bt hq;have i1:(i:Int)<(m:Int):=by omega
   have ii0:(0:Int)<=(i:Int):=by omega
   clear hq hc;by_cases h9:q.kd<9
   ·obtain ⟨v',w',nN,dR,cU,-,-⟩:=run_append_own_at (P:=prog) (wr.alloc (.cells q.cells 81)) w1.heap.size 24 24 81 i0 _ 5 72 underlying24 HI.out.1 HI.out.2.1 HI.out.2.2.1 HI.out.2.2.2 rfl (by decide) u5 ks.length (OC ks) (HR.out.2.2.alloc _) ⟨wr.heap.size,0,none⟩ 1 1 q.cells.toList rfl (fun j u hu=>by
     rw[fo,aW,bE.cell (t:=81) (cs:=q.cells.toList) (aG wr _) j];exact hu) (fun u hu=>by
     simp only[bZ,dL,or_false] at hu;rcases hu with rfl | rfl | rfl | rfl | rfl <;> rfl) (by unfold maxLen;omega) (by omega) (by have:=HR.out.1.size;simp;omega)
    have rQ:=zH nN;have CO:=zH (Nl wr q);have HN:Hid (Below w1.heap.size w1 w'/\(∀y∈ks++[q],y∈os)/\w'.ownsRow w1.heap.size 81 5 v' (ks++[q]).length (OC (ks++[q]))):=⟨Below.grown (ah HR.out.1 (ag wr _)) cU (by have:=HR.out.1.size;simp;omega) (fun k e=>(HR.out.2.2.lt k e).1),fun y hy=>(bH.1 hy).elim (HR.out.2.1 y) (fun h=>by rw[bg.1 h];exact HQ.out),by rw[aO,abw];exact dR⟩
    clear nN dR cU HR;go_wp2_with ((with_reducible refine aQ ?_);(first | (refine lJ 81 LO.out ?_) | ((refine C.gW (u:=.agg q.cells) (by rfl) 24 rfl rfl CO.out ?_);simp only[Act.put,zA,zB,zC]) | ((refine C.ez (u1:=u5) (u2:=.slice (some ⟨wr.heap.size,0,none⟩) 1 1) (by rfl) rfl rfl rfl rfl rQ.out ?_);simp only[Act.put,zA,zB,zC])))
    go_roundw
    case rel=>exact⟨i+1,ks++[q],by go_num,by omega,by simp;omega,HN⟩
    case measure=>simp[intOf];omega
   ·clear LO;go_wp2;go_roundw
    case rel=>exact⟨i+1,ks,by go_num,by omega,by omega,HR⟩
    case measure=>simp[intOf];omega
  ·obtain ⟨qv,cv,hv,hsc⟩:=vH.of HS.out HR.out.1 HR.out.2.1 HR.out.2.2;subst hv;have L2:Hid (_):=HC.out _ HR.out.1;have HSC:=zH hsc;have gD:=zH HR.out.1;clear hsc HR;go_wp2_with ((with_reducible refine aQ ?_);(refine lJ 23 L2.out ?_))
   refine (Oh s (HT.out.later gD.out) HSC.out).mono ?_;rintro e w2 ⟨rfl,b2⟩;have HB:Hid (Below w.heap.size w w2):=ah B1.out (ah gD.out b2);clear b2 L2;go_wp2;go_ret;exact⟨rfl,HB.out⟩
