import Derived.Test.YtcdjepkhdjpjcaaGreatDoorU18
set_option maxHeartbeats 20000000
set_option maxRecDepth 100000
namespace Go.Proofs.Zq.E
open Go.Proofs.Tryz
open Go.RowKit
theorem adR(w:World)(bl lc mr hi cl:Int):Calls prog 123 #[Xp bl lc mr hi cl] w fun e w'=>e=.returned (.bool (decide (kf bl lc mr hi cl)))/\Below w.heap.size w w':=by
 by_cases h0:1<=bl
 rotate_left
 ·have hd:decide (kf bl lc mr hi cl)=false:=aF fun h=>h0 (by unfold kf at h;omega);rw[hd];clear hd;go_enter func123,qR;go_wp2;go_ret;exact⟨rfl,ag w _⟩
 by_cases h1:bl<=64
 rotate_left
 ·have hd:decide (kf bl lc mr hi cl)=false:=aF fun h=>h1 (by unfold kf at h;omega);rw[hd];clear hd;go_enter func123,qR;go_wp2;go_ret;exact⟨rfl,ag w _⟩
 by_cases h2:2<=lc
 rotate_left
 ·have hd:decide (kf bl lc mr hi cl)=false:=aF fun h=>h2 (by unfold kf at h;omega);rw[hd];clear hd;go_enter func123,qR;go_wp2;go_ret;exact⟨rfl,ag w _⟩
 by_cases h3:lc<=64
 rotate_left
 ·have hd:decide (kf bl lc mr hi cl)=false:=aF fun h=>h3 (by unfold kf at h;omega);rw[hd];clear hd;go_enter func123,qR;go_wp2;go_ret;exact⟨rfl,ag w _⟩
 by_cases h4:1<=mr
 rotate_left
 ·have hd:decide (kf bl lc mr hi cl)=false:=aF fun h=>h4 (by unfold kf at h;omega);rw[hd];clear hd;go_enter func123,qR;go_wp2;go_ret;exact⟨rfl,ag w _⟩
 by_cases h5:mr<=16
 rotate_left
 ·have hd:decide (kf bl lc mr hi cl)=false:=aF fun h=>h5 (by unfold kf at h;omega);rw[hd];clear hd;go_enter func123,qR;go_wp2;go_ret;exact⟨rfl,ag w _⟩
 by_cases h6:mr<=bl
 rotate_left
 ·have hd:decide (kf bl lc mr hi cl)=false:=aF fun h=>h6 (by unfold kf at h;omega);rw[hd];clear hd;go_enter func123,qR;go_wp2;go_ret;exact⟨rfl,ag w _⟩
 by_cases h7:mr<=lc-1
 rotate_left
 ·have hd:decide (kf bl lc mr hi cl)=false:=aF fun h=>h7 (by unfold kf at h;omega);rw[hd];clear hd;go_enter func123,qR;go_wp2;go_ret;exact⟨rfl,ag w _⟩
 by_cases h8:1<=hi
 rotate_left
 ·have hd:decide (kf bl lc mr hi cl)=false:=aF fun h=>h8 (by unfold kf at h;omega);rw[hd];clear hd;go_enter func123,qR;go_wp2;go_ret;exact⟨rfl,ag w _⟩
 by_cases h9:hi<=lc
 rotate_left
 ·have hd:decide (kf bl lc mr hi cl)=false:=aF fun h=>h9 (by unfold kf at h;omega);rw[hd];clear hd;go_enter func123,qR;go_wp2;go_ret;exact⟨rfl,ag w _⟩
 by_cases h10:1<=cl
 rotate_left
 ·have hd:decide (kf bl lc mr hi cl)=false:=aF fun h=>h10 (by unfold kf at h;omega);rw[hd];clear hd;go_enter func123,qR;go_wp2;go_ret;exact⟨rfl,ag w _⟩
 by_cases h11:cl<=8
 rotate_left
 ·have hd:decide (kf bl lc mr hi cl)=false:=aF fun h=>h11 (by unfold kf at h;omega);rw[hd];clear hd;go_enter func123,qR;go_wp2;go_ret;exact⟨rfl,ag w _⟩
 have hd:decide (kf bl lc mr hi cl)=true:=aP ⟨h0,h1,h2,h3,h4,h5,h6,h7,h8,h9,h10,h11⟩;rw[hd];clear hd;go_enter func123,qR;go_wp2;go_ret;exact⟨rfl,ag w _⟩
theorem Zx(w:World){bl lc mr hi cl:Int}(h:kf bl lc mr hi cl):Calls prog 61 #[Xp bl lc mr hi cl] w fun e w'=>∃R,e=.returned (.tuple #[qp R,.int .i64 0])/\RL w' (fun _=>False) R gR gR (zq bl lc mr hi cl) [] []/\w.heap.size<=R/\Below w.heap.size w w':=by
 have hm:=fun w1=>adR w1 bl lc mr hi cl;rw[aP h] at hm;have HM:=zH hm;clear hm h;go_enter func61,ntmps61;go_wp2_with fail;refine (HM.out _).mono ?_;rintro e w2 ⟨rfl,hb⟩;have HB:Hid (Below w.heap.size w w2):=ah (ag w _) hb;have hx:w2.heap[w.heap.size]?=some (.cells #[.int .i64 bl,.int .i64 lc,.int .i64 mr,.int .i64 hi,.int .i64 cl] 23 (0,0)):=(hb.block _ (by simp)).trans (aG w _);have x0:w2.cell? ⟨w.heap.size,0,none⟩=some (.int .i64 bl):=aq _ _ 0 _ 23 (0,0) hx;have x1:w2.cell? ⟨w.heap.size,1,none⟩=some (.int .i64 lc):=aq _ _ 1 _ 23 (0,0) hx;have x2:w2.cell? ⟨w.heap.size,2,none⟩=some (.int .i64 mr):=aq _ _ 2 _ 23 (0,0) hx;have x3:w2.cell? ⟨w.heap.size,3,none⟩=some (.int .i64 hi):=aq _ _ 3 _ 23 (0,0) hx;have x4:w2.cell? ⟨w.heap.size,4,none⟩=some (.int .i64 cl):=aq _ _ 4 _ 23 (0,0) hx;clear hb hx;go_wp2;go_ret2;refine⟨w2.heap.size,rfl,⟨aG w2 _,⟨cq _ _ _ _,trivial,fun g hg=>by cases hg⟩,⟨cq _ _ _ _,trivial,fun g hg=>by cases hg⟩⟩,HB.out.size,ah HB.out (ag w2 _)⟩
section
variable {w w':World} {G:Nat->Prop} {R:Nat} {vW vI:Value} {a:Ad} {ws is:List qW}
theorem QC(h:RL w G R vW vI a ws is)(hR:¬G R)(ok:a.Ok)(n:Int):Calls prog 214 #[qp R,.int .i64 n] w fun e w'=>e=.returned (.int .i64 (a.Ck n))/\Ds w w' G R (a.ku n):=by
 have H:=zH h;have x8:w.cell? ⟨R,8,none⟩=some (.int .i64 a.used):=h.c 8;have f8:=h.free 8;obtain ⟨n1,n2,n3,n4,n5,n6⟩:=ok.zo;have HR:=zH hR;clear h ok hR;by_cases h0:n<0
 ·have e1:Hid (a.Ck n=2/\a.ku n=a):=⟨aD (by omega),aD (by omega)⟩
  go_enter func214,ntmps214;go_wp2;go_ret;rw[e1.out.1,e1.out.2];exact⟨rfl,Ds.same H.out (aV _ _)⟩
 ·by_cases h1:a.used<n
  ·have e1:Hid (a.Ck n=2/\a.ku n=a):=⟨aD (by omega),aD (by omega)⟩
   go_enter func214,ntmps214;go_wp2;go_ret;rw[e1.out.1,e1.out.2];exact⟨rfl,Ds.same H.out (aV _ _)⟩
  ·have e1:Hid (a.Ck n=0/\a.ku n={ a with used:=a.used-n }):=⟨aE (by omega),aE (by omega)⟩
   go_enter func214,ntmps214;go_wp2;go_ret;rw[e1.out.1,e1.out.2];have hk:=Kept.setCell (w:=w) R 8 (.int .i64 (a.used-n));refine⟨rfl,⟨vW,vI,ws,is,?_,H.out.W.turn HR.out hk,H.out.I.turn HR.out hk⟩,hk⟩;rw[L.jL 8 _ H.out.st];rfl
end
namespace B
open Go.Proofs.Tryz
def jo (xs:List Int)(k:Nat):List Int:=((List.range k).map Int.ofNat).filter fun x=>Ch xs x
theorem uM(xs:List Int)(k:Nat):jo xs (k+1)=jo xs k++(if Ch xs k=true then [(k:Int)] else []):=by
 unfold jo;rw[List.range_succ,cZ,List.filter_append]
 congr 1
 by_cases h:Ch xs k=true
 ·rw[aE h];simp[h]
 ·rw[aD h];simp[h]
theorem Et(xs:List Int)(k:Nat)(x:Int):x∈jo xs k↔0<=x/\x<k/\x∈xs:=by
 unfold jo;rw[iw,Cg,cF];constructor
 ·rintro ⟨⟨j,hj,rfl⟩,h⟩;have:=p_.1 hj;exact⟨Int.natCast_nonneg j,Int.ofNat_lt.2 this,h⟩
 ·rintro ⟨h1,h2,h3⟩;exact⟨⟨x.toNat,p_.2 (by omega),Int.toNat_of_nonneg h1⟩,h3⟩
theorem GQ(xs:List Int):∀k,Up (jo xs k)
 | 0=>by simp[jo]
 | k+1=>by
  rw[uM];refine jT.2 ⟨GQ xs k,?_,fun x hx y hy=>?_⟩
  ·split <;> simp
  ·have:=(Et xs k x).1 hx;split at hy
   ·obtain rfl:=bg.1 hy;omega
   ·cases hy
theorem wI(xs:List Int):∀k,(jo xs k).length<=k
 | 0=>by simp[jo]
 | k+1=>by
  have:=wI xs k;rw[uM,aO];split <;> simp <;> omega
theorem Np{xs:List Int}{b:Int}(h:¬∀x∈xs,0<=x/\x<b):xh xs b=false:=aF h
theorem Sr{xs:List Int}{b:Int}(h:∀x∈xs,0<=x/\x<b):xh xs b=true:=aP h
theorem LY{xs:List Int}{k:Nat}(h:xh xs k=true):jo xs k=iq xs:=by
 have h':=fy h;exact JH (GQ xs k) fun x=>by
  rw[Et];exact⟨fun a=>a.2.2,fun a=>⟨(h' x a).1,(h' x a).2,a⟩⟩
theorem QD(p:Option Addr)(n c:Nat)(xs:List Int)(K M:Nat)(F:List Int)(E:Int)(hF:gA xs K M=(F,E))(w:World)(i_:n+80<=17592186044416)(hI:pZ w p n xs)(aas:sQ K M=true) :
  Calls prog 126 #[.slice p n c,.int .i64 K,.int .i64 M] w fun e' w'=>∃q d,e'=.returned (.tuple #[.slice q F.length d,.int .i64 E])/\Made w w' q F.length d F:=by
 obtain ⟨i0,hi,ij,gm,iL⟩:=cj OH;have hlen:=hI.len;have h:=fy aas;have a1:1<=K:=by omega
 have a2:K<=64:=by omega
 have a3:1<=M:=by omega
 have a4:M<=16:=by omega
 have a5:M<=K:=by omega
 unfold gA at hF;rw[aD (by rw[aas];decide)] at hF;clear aas h;have HI:=zH hI;clear hI;go_enter func126,ntmps126;by_cases h0:n=0
 ·subst h0;obtain rfl:xs=[]:=aZ hlen;rw[aE rfl] at hF;simp only[gS] at hF;obtain ⟨rfl,rfl⟩:=hF;go_wp2;go_ret2;exact⟨none,0,rfl,ld w (aV _ _)⟩
 ·have kG:xs≠[]:=fun e=>h0 (by rw[<-hlen,e];rfl);have hz:((n:Int) == 0)=false:=by simpa using h0
  rw[aD kG] at hF;have HF:=zH hF;have HL:=zH hlen;clear hF kG hlen;go_wp2_with fail
  go_loop [8] (fun i=>∃k:Nat,k<=n/\i=.int .i64 k/\Hid (∀j,j<k->0<=xs.getD j 0/\xs.getD j 0<K)) (fun i=>n-(intOf i).toNat)
  case atStart=>exact⟨0,aI _,rfl,fun j hj=>absurd hj (fW _)⟩
  case round =>
   obtain ⟨k,hk,rfl,HT⟩:=hrel;by_cases eP:k<n
   ·obtain ⟨b',o,rfl,hcs⟩:=HI.out.cells (by omega);have hc:=hcs k eP;have HN:Hid ((0<=xs.getD k 0/\xs.getD k 0<(K:Int))->∀j,j<k+1->0<=xs.getD j 0/\xs.getD j 0<K):=fun e=>JV HT.out e;have HY:Hid (¬(0<=xs.getD k 0/\xs.getD k 0<(K:Int))->F=[]/\E=51):=fun e=>by
     have:=HF.out;rw[aE (Np (PB (by rw[HL.out];exact eP) e))] at this;simp only[gS] at this;exact⟨this.1.symm,this.2.symm⟩
    clear hcs HT;generalize xs.getD k 0=x at *;by_cases h1:x<0
    ·obtain ⟨rfl,rfl⟩:=HY.out (by omega);clear HN HY;go_wp2;go_ret2;exact⟨none,0,rfl,ld w (aV _ _)⟩
    ·by_cases h2:x<(K:Int)
     ·have E:Hid (∀j,j<k+1->0<=xs.getD j 0/\xs.getD j 0<K):=HN.out (by omega);clear HN HY;go_wp2;go_round
      case rel=>exact⟨k+1,by omega,by go_num,E⟩
      case measure=>simp[intOf];omega
     ·obtain ⟨rfl,rfl⟩:=HY.out (by omega);clear HN HY;go_wp2;go_ret2;exact⟨none,0,rfl,ld w (aV _ _)⟩
   ·obtain rfl:k=n:=by omega
    have Jr:xh xs K=true:=Sr (PC fun j hj=>HT.out j (by rw[<-HL.out];exact hj));have HP:=zH (LY Jr);have HG:Hid ((if (M:Int)<((jo xs K).length:Int) then (([]:List Int),(52:Int)) else (jo xs K,0))=(F,E)):=by
     have:=HF.out;rw[aD (by rw[Jr];decide)] at this;show _=_;rw[HP.out];exact this
    clear HT HF Jr HP;go_wp2_with fail
    go_loopw [9,10] (fun v i wr=>∃j:Nat,j<=K/\i=.int .i64 j/\wr.ownsRow w.heap.size 3 1 v (jo xs j).length (o_ (jo xs j))/\Below w.heap.size w wr) (fun _ i _=>K-(intOf i).toNat)
    case atStart=>exact⟨0,aI _,rfl,cq _ _ _ _,aV _ _⟩
    case round =>
     obtain ⟨j,hj,rfl,hO,hB⟩:=hrel;obtain ⟨q,d,rfl,_⟩:=wO hO;have HO:=zH hO;have HB:=zH hB;clear hO hB;obtain ⟨wo,hwo⟩:∃wo,wo=wr:=⟨_,rfl⟩
     subst hwo;by_cases RC:j<K
     ·have i1:(j:Int)<(K:Int):=by omega
      have hpl:=wI xs j;have HS:=zH (uM xs j);have SH:=zH (HI.out.later HB.out);go_wp2_with fail
      go_loopw [9,11] (fun v i wr=>∃x:Nat,x<=k/\v=.slice q (jo xs j).length d/\i=.int .i64 x/\wr=wo/\Hid (∀y,y<x->xs.getD y 0≠(j:Int))) (fun _ i _=>k-(intOf i).toNat)
      case atStart=>exact⟨0,aI _,rfl,rfl,rfl,fun y hy=>absurd hy (fW _)⟩
      case round =>
       obtain ⟨x,hx,rfl,rfl,rfl,HX⟩:=hrel;by_cases hxk:x<k
       ·obtain ⟨b',o,rfl,hcs⟩:=SH.out.cells (by omega);have hc:=hcs x hxk;have i2:(x:Int)<(k:Int):=by omega
        have HN:Hid (¬xs.getD x 0=(j:Int)->∀y,y<x+1->xs.getD y 0≠(j:Int)):=fun e=>Vj HX.out rfl e;have HY:Hid (xs.getD x 0=(j:Int)->Ch xs j=true):=fun e=>aeD (by rw[HL.out];exact hxk) e;clear hcs HX;generalize xs.getD x 0=z at *;cases hzz:(z == (j:Int))
        ·have hzn:¬z=(j:Int):=by simpa using hzz
         have E:=zH (HN.out hzn);clear HN HY;go_wp2_with fail;go_roundw
         case rel=>exact⟨x+1,by omega,by trivial,by go_num,by trivial,E⟩
         case measure=>simp[intOf];omega
        ·have hh:Ch xs j=true:=HY.out (by simpa using hzz);rw[hh] at HS;clear HN HY hh;go_wp2_with (at_builtin;refine dK _ rfl (.tmp 51) (.tmp 53) 59 rfl w.heap.size 3 i0 (.int .i64 0) 1 8 mG hi ij gm iL rfl (by decide) _ (jo xs j).length (o_ (jo xs j)) rfl (HO.out.alloc _) ⟨_,0,none⟩ 1 1 [.int .i64 (j:Int)] rfl rfl (cell_one_new _ _ _) (ZU _) (by unfold maxLen;omega) (by omega) (by have:=HB.out.size;simp;omega) ?_)
         intro v' w3 dR cU _;have HO3:Hid (w3.ownsRow w.heap.size 3 1 v' (jo xs (j+1)).length (o_ (jo xs (j+1)))):=by
          have e:o_ (jo xs (j+1))=o_ (jo xs j)++[Value.int .i64 (j:Int)]:=by rw[HS.out];simp[o_]
          show w3.ownsRow _ _ _ _ _ _;rw[e,HS.out];simpa using dR
         have Tp:Hid (Below w.heap.size w w3):=(HB.out.alloc HB.out.size _).grown cU (by have:=HB.out.size;simp;omega) (fun k hk=>(HO.out.lt k hk).1);clear dR cU HO HB;go_wp2_with fail;go_roundw
         case rel=>exact⟨j+1,by omega,by go_num,HO3.out,Tp.out⟩
         case measure=>simp[intOf];omega
       ·obtain rfl:x=k:=by omega
        have hh:Ch xs j=false:=Wx fun y hy=>HX.out y (by rw[<-HL.out];exact hy);rw[hh] at HS;have HO3:Hid (wr.ownsRow w.heap.size 3 1 (.slice q (jo xs j).length d) (jo xs (j+1)).length (o_ (jo xs (j+1)))):=by
         have e:jo xs (j+1)=jo xs j:=by rw[HS.out];simp
         rw[e];exact HO.out
        go_wp2_with fail;go_roundw
        case rel=>exact⟨j+1,by omega,by go_num,HO3.out,HB.out⟩
        case measure=>simp[intOf];omega
     ·obtain rfl:j=K:=by omega
      by_cases h3:(M:Int)<((jo xs j).length:Int)
      ·have:=HG.out;rw[aE h3] at this;simp only[gS] at this;obtain ⟨rfl,rfl⟩:=this;go_wp2;go_ret2;exact⟨none,0,rfl,ld w HB.out⟩
      ·have:=HG.out;rw[aD h3] at this;simp only[gS] at this;obtain ⟨rfl,rfl⟩:=this;go_wp2;go_ret2;exact⟨q,d,rfl,HO.out,HB.out⟩
theorem Ib(p:Option Addr)(n c:Nat)(xs:List Int)(b m:Int)(w:World)(i_:n+80<=17592186044416)(hI:pZ w p n xs)(h:sQ b m=true) :
  Calls prog 126 #[.slice p n c,.int .i64 b,.int .i64 m] w fun e' w'=>∃q d,e'=.returned (.tuple #[.slice q (gA xs b m).1.length d,.int .i64 (gA xs b m).2])/\Made w w' q (gA xs b m).1.length d (gA xs b m).1:=by
 have a:=fy h;obtain ⟨K,rfl⟩:=Int.eq_ofNat_of_zero_le (show 0<=b by omega);obtain ⟨M,rfl⟩:=Int.eq_ofNat_of_zero_le (show 0<=m by omega);exact QD p n c xs K M _ _ rfl w i_ hI h
theorem ZD(p:Option Addr)(n c:Nat)(xs f:List Int)(E b m:Int)(hf:gA xs b m=(f,E))(w:World)(i_:n+80<=17592186044416)(hI:pZ w p n xs)(h:sQ b m=true) :
  Calls prog 126 #[.slice p n c,.int .i64 b,.int .i64 m] w fun e' w'=>∃q d,e'=.returned (.tuple #[.slice q f.length d,.int .i64 E])/\Made w w' q f.length d f:=by
 have:=Ib p n c xs b m w i_ hI h;rw[hf] at this;exact this
end B
section
variable {w w':World} {G:Nat->Prop} {R:Nat} {vW vI:Value} {a:Ad} {ws is:List qW}
theorem EM{a:Ad}(ok:a.Ok):B.sQ a.bl a.mr=true:=(ID.1 ok.may).1
theorem FR.later{we:World}{base:Nat}{e:TypeId}{size:Nat}{v:Value}{n:Nat}{xs:List Value}(h:FR we w base e size v n xs)(hb:Below w.heap.size w w'):FR we w' base e size v n xs:=⟨dD h.own hb,ah h.below hb,h.new⟩
theorem LA(h:RL w G R vW vI a ws is)(ok:a.Ok){p:Option Addr}{m c:Nat}{xs:List Int}(hI:B.pZ w p m xs)(hm:m+80<=17592186044416)(hE:a.oo xs≠0) :
  Calls prog 65 #[qp R,.slice p m c] w fun e w'=>e=.returned (.tuple #[.int .u64 0,gR,.int .i64 (a.oo xs)])/\Below w.heap.size w w':=by
 have HI:Hid (B.pZ w.drew p m xs):=⟨hI.len,hI.cells⟩
 have c0:w.drew.cell? ⟨R,0,none⟩=some (.int .i64 a.bl):=h.c 0;have c2:w.drew.cell? ⟨R,2,none⟩=some (.int .i64 a.mr):=h.c 2;have HS:=zH (EM ok);have hE':((B.gA xs a.bl a.mr).2 != 0)=true:=by rw[bne_iff_ne];exact hE
 have HE:Hid (a.oo xs=(B.gA xs a.bl a.mr).2):=rfl;clear hI h ok hE;go_enter func65,ntmps65;go_wp2_with fail
 go_region_with (go_at_call 126;refine (B.Ib p m c xs a.bl a.mr w.drew hm HI.out HS.out).mono ?_;rintro e w2 ⟨q,d,rfl,sZ⟩;have HB:Hid (Below w.heap.size w w2):=ah (h_ w) sZ.below;clear sZ)
 all_goals (
  generalize (B.gA xs a.bl a.mr).1.length=fl at *;generalize (B.gA xs a.bl a.mr).2=E at *;go_wp2;go_ret3;exact⟨by rw[HE.out];rfl,HB.out⟩)
theorem QL(h:RL w G R vW vI a ws is)(hR:¬G R)(ok:a.Ok)(hN:a.next<=1000){p:Option Addr}{m c:Nat}{xs f:List Int}(hI:B.pZ w p m xs)(hm:m+80<=17592186044416)(hf:B.gA xs a.bl a.mr=(f,0)) :
  Calls prog 65 #[qp R,.slice p m c] w fun e w'=>∃q d,e=.returned (.tuple #[.int .u64 a.next,.slice q f.length d,.int .i64 0])/\ow w' (.slice q f.length d) f/\(∀g,bC (.slice q f.length d)=some g->w.heap.size<=g)/\Ds w w' G R { a with next:=a.next+1,W:=a.W++[(a.next,f)] }:=by
 have HI:Hid (B.pZ w.drew p m xs):=⟨hI.len,hI.cells⟩
 have c0:w.drew.cell? ⟨R,0,none⟩=some (.int .i64 a.bl):=h.c 0;have c2:w.drew.cell? ⟨R,2,none⟩=some (.int .i64 a.mr):=h.c 2;have HS:=zH (EM ok);have HF:=zH hf;have H:=zH h;have HR:=zH hR;have hx0:1<=a.next:=ok.zo.2.2.2.2.2;have hwl:ws.length<=1000:=by have:=h.xA;have:=ok.xA;omega
 have hw:IntKind.u64.wrap (a.next+1)=a.next+1:=by rw[eD];omega
 have hmx:¬(4611686018427387904:Int)<a.next:=by omega
 clear hI h ok hR hf;go_enter func65,ntmps65;go_wp2_with fail
 go_region_with (go_at_call 126;refine (B.ZD p m c xs f 0 a.bl a.mr HF.out w.drew hm HI.out HS.out).mono ?_;rintro e w2 ⟨q,d,rfl,sZ⟩;have HB:Hid (B.Made w.drew w2 q f.length d f):=sZ;clear sZ)
 all_goals (
  clear c0 c2 HI HS HF;have jb:Hid (Below w.heap.size w w2):=ah (h_ w) HB.out.below;have h2:=zH (H.out.later jb.out);have uY:Hid (ow w2 (.slice q f.length d) f/\∀g,bC (.slice q f.length d)=some g->w.heap.size<=g):=⟨ow.Ou HB.out,fun g hg=>gU HB.out.own hg⟩
  have c5:w2.cell? ⟨R,5,none⟩=some (.int .u64 a.next):=h2.out.c 5;have f5:w2.frozen? ⟨R,5,none⟩=false:=h2.out.free 5;have uU:Hid ((w2.setCell ⟨R,5,none⟩ (.int .u64 (a.next+1))).heap[R]?=some (.cells (cz { a with next:=a.next+1 } vW vI) 217 (0,0))):=by
   show _=_;rw[L.jL 5 _ h2.out.st];rfl
  have k3:Hid (Kept (·=R) w (w2.setCell ⟨R,5,none⟩ (.int .u64 (a.next+1)))):=(Kept.bP _ jb.out).trans (Kept.setCell R 5 _) (fun _ _ e=>e);have hr3:=zH ((H.out.W.turn HR.out k3.out).row);have hf3:Hid (ow (w2.setCell ⟨R,5,none⟩ (.int .u64 (a.next+1))) (.slice q f.length d) f):=uY.out.1.keeps fun g hg=>(Kept.setCell (w:=w2) R 5 _).block g (uY.out.1.lt hg) (fun e=>by have:=uY.out.2 g hg;have:=H.out.lt;omega);obtain ⟨w3,jM⟩:∃w3,w3=w2.setCell ⟨R,5,none⟩ (.int .u64 (a.next+1)):=⟨_,rfl⟩
  have Tp:=zH jM;rw[<-jM] at uU k3 hr3 hf3;clear jM;have d6:w3.cell? ⟨R,6,none⟩=some vW:=aq _ R 6 _ 217 (0,0) uU.out;have hR3:Hid (R<w3.heap.size):=(au.1 uU.out).1;have F0:Hid (FR w3 (w3.alloc (.cells #[] 224)) 0 224 4 (.slice (some ⟨w3.heap.size,0,none⟩) 0 0) 0 []):=FR.empty 224 4 (aV _ _) (aI _);have e6:(w3.alloc (.cells #[] 224)).cell? ⟨R,6,none⟩=some vW:=((ag w3 _).cell (p:=⟨R,6,none⟩) hR3.out).trans d6;go_upto_region 8 with fail
  rw[<-Tp.out];clear c5 f5;go_wp2_with (at_builtin;(first
   | (refine oC rfl (.tmp 45) (.tmp 49) MT rfl rfl F0.out.own rfl (dD hr3.out F0.out.below) (nP ws) (by omega) (aI _) ?_;intro v1 w5 ho hk hv;have F1:Hid (FR w3 w5 0 224 4 v1 ws.length (cV ws)):=(by have h:=F0.out.app ho hk hv;rw[aW,bF] at h;exact h);clear ho hk hv;obtain ⟨p1,c1,rfl⟩:=cB F1.out.own)
   | (refine oC (n:=ws.length) (m:=1) (base:=0) (lW:=0) rfl (.tmp 50) (.tmp 54) MT rfl rfl (F1.out.later (ag w5 _)).own rfl (zY (base:=0) (cs:=[.int .u64 a.next,.slice q f.length d,.int .i64 0,.bool false]) w5 rfl (aI _)) (nP [⟨a.next,q,f.length,d,0,false⟩]) (by omega) (aI _) ?_;intro v2 w6 ho hk hv;have F2:Hid (FR w3 w6 0 224 4 v2 (ws.length+1) (cV ws++[.int .u64 a.next,.slice q f.length d,.int .i64 0,.bool false])):=(F1.out.later (ag w5 _)).app ho hk hv;clear ho hk hv;obtain ⟨p2,c2,rfl⟩:=cB F2.out.own;have g6:w6.cell? ⟨R,6,none⟩=some vW:=(F2.out.below.cell (p:=⟨R,6,none⟩) hR3.out).trans d6;have HS6:=zH ((F2.out.below.block R hR3.out).trans uU.out);have f6:w6.frozen? ⟨R,6,none⟩=false:=by simp[World.frozen?,HS6.out])))
  go_ret3;have hk7:=Kept.setCell (w:=w6) R 6 (.slice p2 (ws.length+1) c2);have k7:Kept (·=R) w (w6.setCell ⟨R,6,none⟩ (.slice p2 (ws.length+1) c2)):=(k3.out.trans (Kept.bP (fun _=>False) F2.out.below) (fun _ _ e=>e.elim)).trans hk7 (fun _ _ e=>e);have aeu:ow (w6.setCell ⟨R,6,none⟩ (.slice p2 (ws.length+1) c2)) (.slice q f.length d) f:=(hf3.out.later F2.out.below).keeps fun g hg=>hk7.block g ((hf3.out.later F2.out.below).lt hg) (fun e=>by have:=uY.out.2 g hg;have:=H.out.lt;omega);refine⟨q,d,rfl,aeu,uY.out.2,⟨.slice p2 (ws.length+1) c2,vI,ws++[⟨a.next,q,f.length,d,0,false⟩],is,?_,RR.fresh ?_ ?_ ?_,H.out.I.turn HR.out k7⟩,k7⟩
  ·rw[L.jL 6 _ HS6.out];rfl
  ·have:=eB F2.out.own hk7 fun g hg e=>by have:=F2.out.new g hg;have:=hR3.out;omega
   rw[uZ,Cf,aO];exact this
  ·have e1:wl (a.W++[(a.next,f)])=wl a.W++[(a.next,f,0)]:=by simp[wl]
   show se _ _ (wl (a.W++[(a.next,f)])) _;rw[e1];exact (H.out.W.mi.turn HR.out k7).app ⟨rfl,aeu,fun g hg=>.inr ⟨uY.out.2 g hg,aeu.lt hg⟩,rfl,by simp⟩
  ·intro g hg;have:=F2.out.new g hg;have:=k3.out.size;omega)
theorem QM(h:RL w G R vW vI a ws is)(hR:¬G R)(ok:a.Ok)(hN:a.next<=1000){p:Option Addr}{m c:Nat}{xs:List Int}(hI:B.pZ w p m xs)(hm:m+80<=17592186044416) :
  Calls prog 65 #[qp R,.slice p m c] w fun e w'=>∃q d,e=.returned (.tuple #[.int .u64 (a.gP xs),.slice q (a.f_ xs).length d,.int .i64 (a.oo xs)])/\ow w' (.slice q (a.f_ xs).length d) (a.f_ xs)/\(∀g,bC (.slice q (a.f_ xs).length d)=some g->w.heap.size<=g)/\Ds w w' G R (a.vC xs):=by
 by_cases e:a.oo xs=0
 ·have e1:a.vC xs={ a with next:=a.next+1,W:=a.W++[(a.next,a.f_ xs)] }:=by simp only[Ad.vC,aE e]
  have e2:a.gP xs=a.next:=by simp only[Ad.gP,aE e]
  rw[e1,e2,e];exact QL h hR ok hN hI hm (Prod.ext rfl e)
 ·have e1:a.vC xs=a:=by simp only[Ad.vC,aD e]
  have e2:a.gP xs=0:=by simp only[Ad.gP,aD e]
  have e3:a.f_ xs=[]:=(B.Cl xs a.bl a.mr).2 e;rw[e1,e2,e3];refine (LA h ok hI hm e).mono ?_;rintro e' w' ⟨rfl,hb⟩;exact⟨none,0,rfl,ow.nil _,fun g hg=>(by cases hg),Ds.same h hb⟩
