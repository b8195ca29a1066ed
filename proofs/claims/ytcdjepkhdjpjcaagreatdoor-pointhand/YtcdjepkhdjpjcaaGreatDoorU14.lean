import Derived.Test.YtcdjepkhdjpjcaaGreatDoorU13
import Derived.Sort.OwnSortedInts
import Derived.Lib.OwnBridge
set_option maxHeartbeats 20000000
set_option maxRecDepth 100000
namespace Go.Proofs.Zq.E.B
open Go.Proofs.Tryz
open Go.RowKit Go.Shelf
attribute [local go_sem] Oper.semAt_some
theorem AL(zs:List Int):upto zs zs.length=zs:=by
 apply List.ext_getElem
 ·simp[upto]
 ·intro i h1 h2;simp[upto,List.getD,h2]
theorem KL(F:Fence)(n:Nat)(h7:F.fn 220)(vJ:F.round=none)(hn:1<=n)(l Bs fJ b off len cap:Nat)(zs:List Int)(i_:len<=17592186044416)(hb:b<fJ)(J Jx:List Int->World->Prop)
  (hY:∀pre x W,J pre W->pre.length<len->YieldAt F (n-1) prog l #[.int .i64 x] W fun e W' =>
   (e=.returned (.bool true)/\J (pre++[x]) W'/\Below fJ W W')\/(e=.returned (.bool false)/\Jx (pre++[x]) W'))
  (W:World) (hBs:W.cell? ⟨Bs,0,none⟩=some (.slice (some ⟨b,off,none⟩) len cap)) (hc:∀j,j<len->W.cell? ⟨b,off+j,none⟩=some (.int .i64 (zs.getD j 0))) (h0:J [] W) :
  CallsIn F n prog 220 #[.func (.yield l) #[] #[],.pointer (some ⟨Bs,0,none⟩)] W fun e W'=>(∃v,e=.returned v) /\
   ((∃ys,ys=upto zs len/\J ys W')\/(∃pre,True/\Jx pre W')):=by
 refine jx func220 rfl h7 ?_ vJ;simp only[ntmps220,aM,bz,dH,Nat.reduceAdd,Nat.reduceSub,dw,dn,dS,dF,bF,ct];gi_wp2
 gi_loopw [7] (fun i wr=>∃k:Nat,k<=len/\i=.int .i64 k/\J (upto zs k) wr/\Below fJ W wr)
  (fun i _=>len-(intOf i).toNat)
 case atStart=>exact⟨0,aI _,rfl,h0,aV _ _⟩
 case round =>
  obtain ⟨k,hk,rfl,Ak,hnx⟩:=hrel;have hcx:k<len->wr.cell? ⟨b,off+k,none⟩=some (.int .i64 (zs.getD k 0)):=fun h=>(hnx.cell (p:=⟨b,off+k,none⟩) hb).trans (hc k h);by_cases eP:k<len
  ·obtain ⟨fn,tmps,assign,body,hy,hR⟩:=hY _ (zs.getD k 0) wr Ak (by rw[yP];exact eP);have al1:=hcx eP;have HS:=zH (DB zs k);clear hcx hc;generalize zs.getD k 0=x at *;gi_wp2;refine hR.mono ?_;rintro e W3 (⟨rfl,Tl,tU⟩ | ⟨rfl,zy⟩)
   ·gi_wp2;go_roundw
    case rel=>exact⟨k+1,by omega,by simp,by rw[HS.out];exact Tl,hnx.trans tU⟩
    case measure=>simp[intOf];omega
   ·gi_wp2;refine cC (kF rfl _ _ _) rfl ?_;exact⟨⟨_,rfl⟩,.inr ⟨_,trivial,zy⟩⟩
  ·obtain rfl:k=len:=by omega
   gi_wp2
   go_end0
   exact⟨⟨_,rfl⟩,.inl ⟨_,rfl,Ak⟩⟩
theorem zi(F:Fence)(n:Nat)(h7:F.fn 220)(vJ:F.round=none)(l Bs:Nat)(p:Option Addr)(cap:Nat)(J:List Int->World->Prop)(W:World)(hBs:W.cell? ⟨Bs,0,none⟩=some (.slice p 0 cap))(h0:J [] W) :
  CallsIn F n prog 220 #[.func (.yield l) #[] #[],.pointer (some ⟨Bs,0,none⟩)] W fun e W'=>(∃v,e=.returned v)/\J [] W':=by
 refine jx func220 rfl h7 ?_ vJ;simp only[ntmps220,aM,bz,dH,Nat.reduceAdd,Nat.reduceSub,dw,dn,dS,dF,bF,ct];gi_wp2
 gi_loopw [7] (fun i wr=>i=.int .i64 0/\J [] wr) (fun _ _=>0)
 case atStart=>exact⟨rfl,h0⟩
 case round =>
  obtain ⟨rfl,Ak⟩:=hrel;gi_wp2
  go_end0
  exact⟨⟨_,rfl⟩,Ak⟩
abbrev uH (Bs:Nat):Value:=.func (.func 220) #[] #[.pointer (some ⟨Bs,0,none⟩)]
theorem PV(p:Option Addr)(n c:Nat)(w:World) :
  Calls prog 197 #[.slice p n c] w fun e w'=>e=.returned (uH w.heap.size)/\w'=w.alloc (.cells #[.slice p n c] 59):=by
 go_enter func197,ntmps197;go_wp2;go_ret;exact⟨rfl,rfl⟩
theorem Fb(F:Fence)(n:Nat)(h7:F.fn 220)(vJ:F.round=none)(hn:1<=n)(Bs fJ:Nat)(p:Option Addr)(m c:Nat)(zs:List Int)(i_:m<=17592186044416)(w:World)(hBs:Bs<w.heap.size)(sY:fJ<=w.heap.size)
  (hc:w.cell? ⟨Bs,0,none⟩=some (.slice p m c)) (hI:pZ w p m zs) (tT:∀a,p=some a->0<m->a.block<fJ) :
  SeqStopsK F n prog 220 #[.pointer (some ⟨Bs,0,none⟩)] (fun x:Int=>#[Value.int .i64 x]) (Below fJ) (fun ys=>ys=zs) (fun _=>True) m w:=fun l J Jx W hW _ _ hY h0=>by
 have MH:=(hW.cell (p:=⟨Bs,0,none⟩) hBs).trans hc;have hl:=hI.len;by_cases hp:0<m
 ·obtain ⟨b,off,rfl,hcs⟩:=hI.cells hp;have hb:=tT _ rfl hp;refine (KL F n h7 vJ hn l Bs fJ b off m c zs i_ hb J Jx hY W MH (fun j hj=>(hW.cell (p:=⟨b,off+j,none⟩) (bN hb sY)).trans (hcs j hj)) h0).mono ?_;rintro e W' ⟨he,⟨ys,rfl,hj⟩ | ⟨pre,_,hj⟩⟩
  ·exact⟨he,.inl ⟨_,by rw[<-hl];exact AL zs,hj⟩⟩
  ·exact⟨he,.inr ⟨_,trivial,hj⟩⟩
 ·obtain rfl:m=0:=by omega
  obtain rfl:zs=[]:=aZ hl;exact (zi F n h7 vJ l Bs p c J W MH h0).mono fun e W' ⟨he,hj⟩=>⟨he,.inl ⟨_,rfl,hj⟩⟩
theorem Gr(Bs:Nat)(p:Option Addr)(m c:Nat)(zs:List Int)(w:World)(i_:m+80<=17592186044416)(hBs:Bs<w.heap.size)(hc:w.cell? ⟨Bs,0,none⟩=some (.slice p m c))(hI:pZ w p m zs) :
  Calls prog 232 #[.slice none 0 0,uH Bs] w fun e' w'=>∃v,e'=.returned v/\w'.ownsRow w.heap.size 3 1 v zs.length (o_ zs)/\Below w.heap.size w w':=by
 obtain ⟨i0,hi,ij,gm,iL⟩:=cj OH;have tT:∀a,p=some a->0<m->a.block<w.heap.size:=fun a e h0=>by subst e;exact hI.lt h0
 refine (iR (n:=9)).1 ?_;refine callsIn_of_wp_marks func232 rfl trivial ?_ rfl;simp only[ntmps232,aM,bz,dH,Nat.reduceAdd,Nat.reduceSub,dw,dn,dS,dF,bF,ct];gi_wp2;have bL:=Boxed.new w 59 (.slice none 0 0);have Tn:Below w.heap.size w (w.alloc (.cells #[.slice none 0 0] 59)):=ag w _;have nV:(w.alloc (.cells #[.slice none 0 0] 59)).heap.size=w.heap.size+1:=by simp
 have rZ:=(Tn.cell (p:=⟨Bs,0,none⟩) hBs).trans hc;have hI0:=hI.later Tn;obtain ⟨W0,RH⟩:=zE ((w.alloc (.cells #[.slice none 0 0] 59)));rw[RH] at bL Tn nV rZ hI0 ⊢;clear RH;refine wpIn_rangeFunc_ownG (F:=Fence.wide) (n:=9) (P:=prog) rfl (by decide) (gf:=220) (lb:=#[.pointer (some ⟨Bs,0,none⟩)]) rfl trivial (enters_of func220 (by kernel_rfl) rfl)
  (Fb Fence.wide (9-1) trivial rfl (by decide) Bs w.heap.size p m c zs (by omega) W0 (by omega) (by omega) rZ hI0 tT) belowK_t (belowK_b (by omega)) (aV _ _) (fun _=>rfl)
  (fun pre W=>(∃v,Boxed W w.heap.size 59 v/\W.ownsRow w.heap.size 3 1 v pre.length (o_ pre)/\True)/\Below w.heap.size w W)
  (fun _ _ _=>False)
  (OwnFrom.and (Own.from (holdsRow_own w.heap.size w.heap.size 59 3 1 (fun pre=>pre.length) (fun pre=>o_ pre) (fun _ _=>True)) _) (ownFrom_below (az _) (by omega)))
  (fun _ _ _ _ _ hs _ _=>hs)
  ⟨⟨_,bL,cq _ _ _ _,trivial⟩,Tn⟩
  (fun x=>{ tmps:=#[.slice none 0 0,uH Bs,.pointer (some ⟨w.heap.size,0,none⟩),undef,.slice none 0 0,.int .i64 x,uH Bs,.int .i64 x,undef,undef,undef,undef,undef],defers:=[] }) ?assign ?body ?done ?stop
 case assign =>
  intro l x W K hK;gi_wp2;exact hK
 case body =>
  rintro l pre x W ⟨⟨v,hv,rX,_⟩,hB⟩ eP;have hc:=hv.cell;have hle:=hB.size;have hml:140737488355328<=maxLen:=by decide
  gi_wp2_with (gi_at_builtin;refine wpListIn_append_own _ rfl _ _ 59 rfl w.heap.size 3 i0 (.int .i64 0) 1 8 mG hi ij gm iL rfl (by decide) _ _ _ rfl (rX.alloc _) ⟨W.heap.size,0,none⟩ 1 1 [.int .i64 x] rfl rfl (cell_one_new _ _ _) (by simp[Value.oneCell']) (by omega) (by omega) (by simp;omega) ?_;intro v' w1 wQ cU _;obtain ⟨g',lZ,rfl⟩:=ownsRow_succ wQ;obtain ⟨OK,uT,OM,wR,jb⟩:=hv.appended (by decide) rX hle (az _) wQ cU;have Kt:=OK.cell;have hf1:=OK.frozen;have hc2:=uT.cell)
  rw[show o_ pre++[Value.int .i64 x]=o_ (pre++[x]) by simp[o_],show pre.length+1=(pre++[x]).length by simp] at OM;exact⟨wR.from _,jb,⟨_,uT,by simpa using OM,trivial⟩,hB.trans jb⟩
 case done =>
  rintro D ys W hD hS ⟨⟨v,hv,rX,_⟩,hB⟩ hK;have hc:=hv.cell;have HS:=zH hS;clear hS;gi_wp2;refine⟨by simp,.inl ⟨_,_,rfl,run_takeDeferred hK,?_⟩⟩;exact⟨_,results_tmp rfl _ _ _,v,rfl,by have:=ownsRow_putObj rX (.deferred none) hK rfl;rw[HS.out] at this;exact this,hB.trans (belowK_b (w:=w) (az _) W D _ _ (by omega) hK rfl rfl)⟩
 case stop =>
  rintro D c pre W hD yt hF;exact absurd hF (fun h=>h)
end Go.Proofs.Zq.E.B
namespace Go.Proofs.Zq.E.B
open Go.Proofs.Tryz
open Go.RowKit Go.Shelf
theorem Cr(zs:List Int)(hs:zs.Pairwise (·<=·)):∀m,m<=zs.length->Up (Lib.compactUpTo zs.toArray m)/\∀x,x∈Lib.compactUpTo zs.toArray m↔∃j,j<m/\zs.getD j 0=x
 | 0,_=>by simp[Lib.compactUpTo]
 | m+1,hm=>by
  obtain ⟨h1,h2⟩:=Cr zs hs m (by omega);have hd:∀j,j<zs.length->zs.toArray[j]! = zs.getD j 0:=fun j hj=>by
   rw[getElem!_pos zs.toArray j (by simpa using hj)];simp[List.getD,List.getElem?_eq_getElem hj]
  have hle:∀i j,i<=j->j<zs.length->zs.getD i 0<=zs.getD j 0:=fun i j Jk hj=>by
   rcases Nat.eq_or_lt_of_le Jk with rfl | eP
   ·exact iy _
   ·have:=(eR.1 hs) i j (by omega) hj eP;simpa [List.getD,List.getElem?_eq_getElem hj,List.getElem?_eq_getElem (show i<zs.length by omega)] using this
  rw[Lib.compactUpTo_succ];by_cases hk:Lib.keeps zs.toArray m=true
  ·rw[aE hk,hd m (by omega)];have kN:m=0\/zs.getD m 0≠zs.getD (m-1) 0:=by
    have:=fy hk
    rwa [hd m (by omega),hd (m-1) (by omega)] at this
   refine⟨jT.2 ⟨h1,by simp,fun x hx y hy=>?_⟩,fun x=>?_⟩
   ·obtain rfl:=bg.1 hy;obtain ⟨j,hj,rfl⟩:=(h2 x).1 hx;have a1:=hle j (m-1) (by omega) (by omega);have a2:=hle (m-1) m (by omega) (by omega);rcases kN with e | e
    ·omega
    ·omega
   ·rw[bH,h2 x,bg];constructor
    ·rintro (⟨j,hj,e⟩ | e)
     ·exact⟨j,by omega,e⟩
     ·exact⟨m,by omega,e.symm⟩
    ·rintro ⟨j,hj,e⟩;by_cases ej:j=m
     ·subst ej;exact .inr e.symm
     ·exact .inl ⟨j,by omega,e⟩
  ·rw[aD hk,jQ];have kN:¬(m=0\/zs.getD m 0≠zs.getD (m-1) 0):=by
    intro h;apply hk;rw[Lib.keeps,hd m (by omega),hd (m-1) (by omega)];exact aP h
   refine⟨h1,fun x=>?_⟩;rw[h2 x];constructor
   ·rintro ⟨j,hj,e⟩;exact⟨j,by omega,e⟩
   ·rintro ⟨j,hj,e⟩;by_cases ej:j=m
    ·subst ej;refine⟨j-1,by omega,?_⟩;rw[<-e];exact (Classical.not_not.1 fun c=>kN (.inr c)).symm
    ·exact⟨j,by omega,e⟩
theorem Vr{zs:List Int}{x:Int}:(∃j,j<zs.length/\zs.getD j 0=x)↔x∈zs:=by
 constructor
 ·rintro ⟨j,hj,rfl⟩;rw[List.getD,ay hj];exact eA hj
 ·intro h;obtain ⟨j,hj,rfl⟩:=fL h;exact⟨j,hj,by simp[List.getD,List.getElem?_eq_getElem hj]⟩
abbrev Qb (zs:List Int):List Int:=zs.mergeSort fun x y=>decide (x<=y)
theorem Hh(zs:List Int):(Qb zs).Perm zs:=List.mergeSort_perm _ _
theorem mY(zs:List Int):(Qb zs).length=zs.length:=(Hh zs).length_eq
theorem KS(zs:List Int):(Qb zs).Pairwise (·<=·):=by
 have:=List.pairwise_mergeSort (le:=fun x y:Int=>decide (x<=y)) (fun a b c h1 h2=>by simp at *;omega) (fun a b=>by simp;omega) zs;refine eR.2 fun i j hi hj Jk=>?_;have h:=(eR.1 this) i j hi hj Jk;simpa using h
theorem JO(zs:List Int):Lib.compact (Qb zs)=iq zs:=by
 obtain ⟨h1,h2⟩:=Cr (Qb zs) (KS zs) _ (az _);refine JH h1 fun x=>?_;have:=h2 x;rw[Vr] at this;exact this.trans (Hh zs).mem_iff
theorem MX(Bs:Nat)(p:Option Addr)(m c:Nat)(zs:List Int)(w:World)(i_:m+80<=17592186044416)(hBs:Bs<w.heap.size)(hc:w.cell? ⟨Bs,0,none⟩=some (.slice p m c))(hI:pZ w p m zs) :
  Calls prog 218 #[uH Bs] w fun e' w'=>∃v,e'=.returned v/\w'.ownsRow w.heap.size 3 1 v zs.length (o_ zs)/\Below w.heap.size w w':=by
 go_enter func218,ntmps218;go_wp2_with fail;refine (Gr Bs p m c zs w i_ hBs hc hI).mono ?_;rintro e w' ⟨v,rfl,ho,hb⟩;have HO:=rf ho hb;clear ho hb hc hI;go_wp2;go_ret;exact⟨v,rfl,HO.out.1,HO.out.2⟩
theorem Qd(Bs:Nat)(p:Option Addr)(m c:Nat)(zs:List Int)(w:World)(i_:m+80<=17592186044416)(hBs:Bs<w.heap.size)(hc:w.cell? ⟨Bs,0,none⟩=some (.slice p m c))(hI:pZ w p m zs) :
  Calls prog 196 #[uH Bs] w fun e' w'=>∃v,e'=.returned v/\w'.ownsRow w.heap.size 3 1 v zs.length (o_ (Qb zs))/\Below w.heap.size w w':=by
 have hl:=hI.len;go_enter func196,ntmps196;go_wp2_with fail;refine (MX Bs p m c zs w i_ hBs hc hI).mono ?_;rintro e w1 ⟨v,rfl,ho,hb⟩;clear hc hI;rcases ho.2 with ⟨rfl,h0⟩ | ⟨g,cap,cur,rfl,pR,hg,r1,r2,r3,r4⟩
 ·obtain rfl:zs=[]:=aZ h0;have HO:=rf ho hb;clear ho hb h0;go_wp2_with fail;refine (slices_Sort_int_none none 0 w1).mono ?_;rintro e w2 ⟨rfl,rfl⟩;go_wp2;go_ret;exact⟨_,rfl,by simpa using HO.out.1,HO.out.2⟩
 ·have hH:Sort.Holds (Value.int .i64) w1 g 0 zs.toArray:=holds_of_blockI hg (by simpa [o_] using r4);have hgl:g<w1.heap.size:=(au.1 hg).1;have HR:Hid (∀n os,(Sort.grow (Sort.putRow (Value.int .i64) (Sort.ahead w1 n) g 0 (Qb zs).toArray) os).ownsRow w.heap.size 3 1 (.slice (some ⟨g,0,none⟩) zs.length cap) zs.length (o_ (Qb zs))/\Below w.heap.size w (Sort.grow (Sort.putRow (Value.int .i64) (Sort.ahead w1 n) g 0 (Qb zs).toArray) os)):=fun n os =>
   ⟨ownsRow_sortedI (mY zs) pR hg r1 r2 r3,hb.grown (grownBy_sortedI _) hb.size (fun j hj=>by cases hj;exact pR)⟩
  have HS:=slices_Sort_int g 0 cap zs w1 hH hgl (by omega);clear ho hb hH hgl hg r1 r2 r3 r4 pR hl i_;go_wp2_with fail;refine HS.mono ?_;rintro e w2 ⟨rfl,n,os,gz⟩;have CL:=HR.out n os;rw[<-gz] at CL;have HR3:=zH CL;clear HR CL gz HS;go_wp2;go_ret;exact⟨_,rfl,HR3.out.1,HR3.out.2⟩
theorem Gj(p:Option Addr)(m c:Nat)(zs:List Int)(w:World)(i_:m+80<=17592186044416)(hI:pZ w p m zs) :
  Calls prog 152 #[.slice p m c] w fun e' w'=>∃q d,e'=.returned (.slice q (iq zs).length d)/\Made w w' q (iq zs).length d (iq zs):=by
 have hlz:=hI.len;go_enter func152,ntmps152;go_wp2_with fail;refine (PV p m c w).mono ?_;rintro e w1 ⟨rfl,dZ⟩;have qj:Below w.heap.size w w1:=by rw[dZ];exact ag w _
 have GC:w.heap.size<w1.heap.size:=by rw[dZ];simp
 have Kt:w1.cell? ⟨w.heap.size,0,none⟩=some (.slice p m c):=by rw[dZ,aq _ w.heap.size 0 _ 59 (0,0) (aG w _)];rfl
 clear dZ;go_wp2_with fail;refine (Qd w.heap.size p m c zs w1 i_ GC Kt (hI.later qj)).mono ?_;rintro e w2 ⟨v,rfl,ho,hb⟩;have jb:Below w.heap.size w w2:=ah qj hb;have ho2:=eH ho (Nat.le_of_lt GC);clear qj GC Kt ho hb hI;have hlen:(Lib.compact (Qb zs)).length<=zs.length:=by have:=Lib.compact_length_le (Qb zs);rwa [mY] at this
 rcases ho2.2 with ⟨rfl,h0⟩ | ⟨g,cap,cur,rfl,pR,hg,r1,r2,r3,r4⟩
 ·obtain rfl:zs=[]:=aZ h0;have HB:=zH jb;clear ho2 jb h0 hlen hlz;go_wp2_with fail;refine (slices_Compact_int_empty none 0 w2).mono ?_;rintro e w3 ⟨rfl,rfl⟩;go_wp2;go_ret;exact⟨none,0,rfl,ld w HB.out⟩
 ·have hH:Sort.Holds (Value.int .i64) w2 g 0 (Qb zs).toArray:=holds_of_blockI hg (by simpa [o_,mY] using r4);have HS:=slices_Compact_int g 0 cap (Qb zs) w2 hH (by rw[mY];omega) (by rw[mY];exact r1);rw[mY,JO] at HS;have HR:Hid (∀q,Made w (Sort.putRow (Value.int .i64) (Sort.ahead w2 q) g 0 (iq zs++List.replicate (zs.length-(iq zs).length) 0).toArray) (some ⟨g,0,none⟩) (iq zs).length cap (iq zs)):=fun q=>by
   have hld:=xd zs;have h1:=Lib.ownsRow_putRow (q:=q) (k:=(iq zs).length) (ys:=iq zs++List.replicate (zs.length-(iq zs).length) 0) ho2 (by simp;omega) hld;rw[gC] at h1;exact⟨h1,Lib.below_putRow jb pR⟩
  clear ho2 jb hH hg r1 r2 r3 r4 pR hlen hlz i_;go_wp2_with fail;refine HS.mono ?_;rintro e w3 ⟨rfl,q,jM⟩;have CL:=HR.out q;rw[<-jM] at CL;have HR3:=zH CL;clear HR CL jM HS;go_wp2;go_ret;exact⟨_,_,rfl,HR3.out⟩
end Go.Proofs.Zq.E.B
namespace Go.Proofs.Zq.E.B
open Go.Proofs.Tryz
open Go.RowKit
def Ch (xs:List Int)(b:Int):Bool:=decide (b∈xs)
theorem Cg{xs:List Int}{b:Int}:Ch xs b=true↔b∈xs:=by unfold Ch;rw[gx]
theorem aeD{xs:List Int}{b:Int}{k:Nat}(hk:k<xs.length)(h:xs.getD k 0=b):Ch xs b=true:=by
 rw[Cg,<-h,List.getD,ay hk];exact eA hk
theorem Wx{xs:List Int}{b:Int}(h:∀j,j<xs.length->xs.getD j 0≠b):Ch xs b=false:=by
 cases e:Ch xs b with
 | false=>rfl
 | true =>
  rw[Cg] at e;obtain ⟨i,hi,he⟩:=fL e;exact absurd (by simp[List.getD,List.getElem?_eq_getElem hi,he]) (h i hi)
theorem Vj{xs:List Int}{b x:Int}{k:Nat}(h:∀j,j<k->xs.getD j 0≠b)(hx:xs.getD k 0=x)(kG:¬x=b):∀j,j<k+1->xs.getD j 0≠b:=by
 intro j hj;by_cases e:j=k
 ·subst e;rw[hx];exact kG
 ·exact h j (by omega)
theorem JV{xs:List Int}{b:Int}{k:Nat}(h:∀j,j<k->0<=xs.getD j 0/\xs.getD j 0<b)(hx:0<=xs.getD k 0/\xs.getD k 0<b):∀j,j<k+1->0<=xs.getD j 0/\xs.getD j 0<b:=by
 intro j hj;by_cases e:j=k
 ·subst e;exact hx
 ·exact h j (by omega)
theorem PC{xs:List Int}{b:Int}(h:∀j,j<xs.length->0<=xs.getD j 0/\xs.getD j 0<b):∀x∈xs,0<=x/\x<b:=by
 intro x hx;obtain ⟨i,hi,rfl⟩:=fL hx;have:=h i hi;simpa [List.getD,List.getElem?_eq_getElem hi] using this
theorem PB{xs:List Int}{b:Int}{k:Nat}(hk:k<xs.length)(h:¬(0<=xs.getD k 0/\xs.getD k 0<b)):¬∀x∈xs,0<=x/\x<b:=by
 intro a;refine h (a _ ?_);rw[List.getD,ay hk];exact eA hk
theorem Xy(p:Option Addr)(n c:Nat)(xs:List Int)(b:Int)(w:World)(h:pZ w p n xs)(hn:n<=140737488355328) :
  Calls prog 151 #[.slice p n c,.int .i64 b] w fun e w'=>e=.returned (.bool (xh xs b))/\w=w':=by
 have HH:=zH h;clear h;go_enter func151,ntmps151;go_wp2
 go_loop [9] (fun i=>∃k:Nat,k<=n/\i=.int .i64 k/\Hid (∀j,j<k->0<=xs.getD j 0/\xs.getD j 0<b)) (fun i=>n-(intOf i).toNat)
 case atStart=>exact⟨0,aI _,rfl,fun j hj=>absurd hj (fW _)⟩
 case round =>
  obtain ⟨k,hk,rfl,HT⟩:=hrel;by_cases eP:k<n
  ·have hlen:=HH.out.len;obtain ⟨b',o,rfl,hcs⟩:=HH.out.cells (by omega);have hc:=hcs k eP;have HN:Hid ((0<=xs.getD k 0/\xs.getD k 0<b)->∀j,j<k+1->0<=xs.getD j 0/\xs.getD j 0<b):=fun e=>JV HT.out e;have HY:Hid (¬(0<=xs.getD k 0/\xs.getD k 0<b)->xh xs b=false):=fun e=>aF (PB (by omega) e);clear hcs hlen HH HT;generalize xs.getD k 0=x at *;by_cases h1:x<0
   ·have E:Hid (xh xs b=false):=HY.out (by omega);clear HN HY;go_wp2;go_ret;exact⟨by rw[E.out];rfl,rfl⟩
   ·by_cases h2:x<b
    ·have E:Hid (∀j,j<k+1->0<=xs.getD j 0/\xs.getD j 0<b):=HN.out (by omega);clear HN HY;go_wp2;go_round
     case rel=>exact⟨k+1,by omega,by go_num,E⟩
     case measure=>simp[intOf];omega
    ·have E:Hid (xh xs b=false):=HY.out (by omega);clear HN HY;go_wp2;go_ret;exact⟨by rw[E.out];rfl,rfl⟩
  ·obtain rfl:k=n:=by omega
   have E:Hid (xh xs b=true):=aP (PC fun j hj=>HT.out j (by have:=HH.out.len;omega));go_wp2;go_ret;exact⟨by rw[E.out];rfl,rfl⟩
theorem adQ(b m:Int)(w:World) :
  Calls prog 150 #[.int .i64 b,.int .i64 m] w fun e w'=>e=.returned (.bool (sQ b m))/\w=w':=by
 go_enter func150,ntmps150;go_wp2;all_goals go_ret
 all_goals refine⟨?_,rfl⟩
 all_goals (show Ending.returned (.bool _)=Ending.returned (.bool _);congr 2;unfold sQ)
 all_goals first | exact (decide_eq_decide.2 (by omega)) | exact (aF (by omega)).symm | exact (aP (by omega)).symm
theorem Gd(p:Option Addr)(n c:Nat)(xs:List Int)(b m:Int)(F:List Int)(E:Int)(hF:gA xs b m=(F,E))(w:World)(i_:n+80<=17592186044416)(hI:pZ w p n xs) :
  Calls prog 85 #[.slice p n c,.int .i64 b,.int .i64 m] w fun e' w'=>∃q d,e'=.returned (.tuple #[.slice q F.length d,.int .i64 E])/\Made w w' q F.length d F:=by
 have hlen:=hI.len;go_enter func85,ntmps85;go_wp2_with fail;refine (adQ b m w).mono ?_;rintro e w1 ⟨rfl,rfl⟩;cases h1:sQ b m with
 | false =>
  unfold gA at hF;rw[aE h1] at hF;simp only[gS] at hF;obtain ⟨rfl,rfl⟩:=hF;clear hI;go_wp2;go_ret2;exact⟨none,0,rfl,ld w (aV _ _)⟩
 | true =>
  by_cases h0:n=0
  ·subst h0;obtain rfl:xs=[]:=aZ hlen;unfold gA at hF;rw[aD (by rw[h1];decide),aE rfl] at hF;simp only[gS] at hF;obtain ⟨rfl,rfl⟩:=hF;clear hI;go_wp2;go_ret2;exact⟨none,0,rfl,ld w (aV _ _)⟩
  ·have kG:xs≠[]:=fun e=>h0 (by rw[<-hlen,e];rfl);have hz:((n:Int) == 0)=false:=by simpa using h0
   go_wp2_with fail;refine (Xy p n c xs b w hI (by omega)).mono ?_;rintro e w1 ⟨rfl,rfl⟩;clear hz;cases h2:xh xs b with
   | false =>
    unfold gA at hF;rw[aD (by rw[h1];decide),aD kG,aE h2] at hF;simp only[gS] at hF;obtain ⟨rfl,rfl⟩:=hF;clear hI;go_wp2;go_ret2;exact⟨none,0,rfl,ld w (aV _ _)⟩
   | true =>
    go_wp2_with fail;refine (Gj p n c xs w i_ hI).mono ?_;rintro e w1 ⟨q,d,rfl,hM⟩;have HM:=zH hM;unfold gA at hF;rw[aD (by rw[h1];decide),aD kG,aD (by rw[h2];decide)] at hF;have aas:1<=m:=by have:=fy h1;omega
    clear hM hI kG h1 h2;by_cases h3:m<((iq xs).length:Int)
    ·rw[aE h3] at hF;simp only[gS] at hF;obtain ⟨rfl,rfl⟩:=hF;go_wp2;go_ret2;exact⟨none,0,rfl,ld w HM.out.below⟩
    ·rw[aD h3] at hF;simp only[gS] at hF;obtain ⟨rfl,rfl⟩:=hF;go_wp2;go_ret2;exact⟨q,d,rfl,HM.out⟩
end Go.Proofs.Zq.E.B
namespace Go.Proofs.Zq.E
structure Ad where
 bl:Int
 lc:Int
 mr:Int
 hi:Int
 cl:Int
 next:Int
 got:Int
 W:List (Int × List Int)
 I:List (Int × List Int × Int)
 used:Int
abbrev kf (bl lc mr hi cl:Int):Prop:=1<=bl/\bl<=64/\2<=lc/\lc<=64/\1<=mr/\mr<=16/\mr<=bl/\mr<=lc-1/\1<=hi/\hi<=lc/\1<=cl/\cl<=8
def zq (bl lc mr hi cl:Int):Ad:=⟨bl,lc,mr,hi,cl,1,0,[],[],0⟩
def dg (I:List (Int × List Int × Int)):List (Int × Int):=I.map fun x=>(x.1,x.2.2)
def wt (W:List (Int × List Int)):List Int:=W.map Prod.fst
def it (I:List (Int × List Int × Int)):List Int:=I.map Prod.fst
def Ad.Fp (a:Ad):Int:=L.total (dg a.I)
def Ad.lg (a:Ad):L.Lg:=⟨a.lc,a.hi,a.used,dg a.I⟩
def fi (t:Int):List (Int × List Int × Int)->Option (List Int × Int)
 | []=>none
 | x :: xs=>if x.1=t then some x.2 else fi t xs
def mD (t:Int):List (Int × List Int × Int)->List (Int × List Int × Int)
 | []=>[]
 | x :: xs=>if x.1=t then xs else x :: mD t xs
def oX (t:Int):List (Int × List Int × Int)->List (Int × List Int × Int)
 | []=>[]
 | x :: xs=>if x.1=t then (x.1,x.2.1,x.2.2-1) :: xs else x :: oX t xs
theorem gZ(t:Int):∀I,L.look t (dg I)=(fi t I).map Prod.snd
 | []=>rfl
 | x :: xs=>by
  by_cases e:x.1=t
  ·simp[dg,L.look,fi,e]
  ·have:=gZ t xs;simp only[dg] at this;simp[dg,L.look,fi,e,this]
theorem yh(t:Int):∀I,dg (mD t I)=L.cut t (dg I)
 | []=>rfl
 | x :: xs=>by
  by_cases e:x.1=t
  ·simp[dg,L.cut,mD,e]
  ·have:=yh t xs;simp only[dg] at this;simp[dg,L.cut,mD,e,this]
theorem yg{t:Int}:∀{I:List (Int × List Int × Int)} {f:List Int} {n:Int},fi t I=some (f,n)->dg (oX t I)=L.set t (n-1) (dg I)
 | [],_,_,h=>by simp[fi] at h
 | x :: xs,f,n,h=>by
  by_cases e:x.1=t
  ·simp only[fi,aE e,aC] at h;simp[dg,L.set,oX,e,h]
  ·simp only[fi,aD e] at h;have:=yg h;simp only[dg] at this;simp[dg,L.set,oX,e,this]
theorem Ew(I:List (Int × List Int × Int))(t:Int)(f:List Int)(n:Int):dg (I++[(t,f,n)])=dg I++[(t,n)]:=by simp[dg]
theorem Rh(I:List (Int × List Int × Int)):(dg I).map Prod.fst=it I:=by simp[dg,it]
theorem VK(t:Int):∀I,it (mD t I)=(it I).erase t
 | []=>rfl
 | x :: xs=>by
  by_cases e:x.1=t
  ·simp[it,mD,e]
  ·have:=VK t xs;simp only[it] at this;have e':¬(x.1 == t)=true:=by simp[e]
   simp[it,mD,e,this]
theorem Mq(t:Int):∀I,it (oX t I)=it I
 | []=>rfl
 | x :: xs=>by
  by_cases e:x.1=t
  ·simp[it,oX,e]
  ·have:=Mq t xs;simp only[it] at this;simp[it,oX,e,this]
theorem VL(I:List (Int × List Int × Int))(x:Int × List Int × Int):it (I++[x])=it I++[x.1]:=by simp[it]
theorem tr(t:Int):∀I,(mD t I).Sublist I
 | []=>List.Sublist.refl _
 | x :: xs=>by
  by_cases e:x.1=t
  ·simp only[mD,aE e];exact List.sublist_cons_self x xs
  ·simp only[mD,aD e];exact (tr t xs).cons_cons x
theorem Cq{t:Int}:∀{I:List (Int × List Int × Int)} {y},y∈oX t I->y∈I\/∃f n,(t,f,n)∈I/\fi t I=some (f,n)/\y=(t,f,n-1)
 | [],y,h=>by simp[oX] at h
 | x :: xs,y,h=>by
  by_cases e:x.1=t
  ·simp only[oX,aE e,bZ] at h;rcases h with rfl | h
   ·exact .inr ⟨x.2.1,x.2.2,by rw[<-e];exact bS ..,by simp[fi,e],by rw[e]⟩
   ·exact .inl (cO _ h)
  ·simp only[oX,aD e,bZ] at h;rcases h with rfl | h
   ·exact .inl (bS ..)
   ·rcases Cq h with h | ⟨f,n,h1,h2,h3⟩
    ·exact .inl (cO _ h)
    ·exact .inr ⟨f,n,cO _ h1,by simpa [fi,e] using h2,h3⟩
theorem vh{t:Int}{f:List Int}{n:Int}:∀{I:List (Int × List Int × Int)},fi t I=some (f,n)->(t,f,n)∈I
 | [],h=>by simp[fi] at h
 | x :: xs,h=>by
  by_cases e:x.1=t
  ·simp only[fi,aE e,aC] at h;have:x=(t,f,n):=by rw[<-e,<-h]
   rw[this];exact bS ..
  ·simp only[fi,aD e] at h;exact cO _ (vh h)
theorem Ph{t:Int}:∀{I:List (Int × List Int × Int)},fi t I=none↔t ∉ it I
 | []=>by simp[fi,it]
 | x :: xs=>by
  by_cases e:x.1=t
  ·simp[fi,it,e]
  ·have:=Ph (t:=t) (I:=xs);simp only[it] at this;simp[fi,it,e,this];exact fun _ h=>e h.symm
structure Ad.Ok (a:Ad):Prop where
 may:kf a.bl a.lc a.mr a.hi a.cl
 vg:0<=a.got
 Dk:a.got<a.next
 Dy:(wt a.W).Pairwise (· < ·)
 Ny:∀x∈a.W,a.got<x.1/\x.1<a.next
 vQ:∀x∈a.W,1<=x.2.length/\(x.2.length:Int)<=a.mr
 yZ:(it a.I).Pairwise (· < ·)
 VW:∀x∈a.I,1<=x.1/\x.1<=a.got
 sU:∀x∈a.I,1<=x.2.1.length/\(x.2.1.length:Int)<=a.mr/\1<=x.2.2/\x.2.2<=(x.2.1.length:Int)+1
 sy:0<=a.used
 room:a.used+a.Fp<=a.lc
theorem Ad.Ok.new{bl lc mr hi cl:Int}(h:kf bl lc mr hi cl):(zq bl lc mr hi cl).Ok :=
 ⟨h,iy _,by simp[zq],List.Pairwise.nil,fun _ h=>absurd h dL,fun _ h=>absurd h dL,List.Pairwise.nil,fun _ h=>absurd h dL,fun _ h=>absurd h dL,iy _,by have:=h.2.2.1;show (0:Int)+0<=lc;omega⟩
theorem sH:∀{xs:List Int} {lo hi:Int},xs.Pairwise (· < ·)->(∀x∈xs,lo<x/\x<hi)->lo<=hi->(xs.length:Int)<=hi-lo
 | [],lo,hi,_,_,h=>by simp;omega
 | x :: xs,lo,hi,hp,hm,h=>by
  have h1:=hm x (bS ..);have h2:=cQ.1 hp;have:=sH (lo:=x) (hi:=hi) h2.2 (fun y hy=>⟨h2.1 y hy,(hm y (cO _ hy)).2⟩) (by omega);simp only[bz];omega
theorem Ad.Ok.xA{a:Ad}(h:a.Ok):(a.W.length:Int)<=a.next:=by
 have:=sH h.Dy (lo:=a.got) (hi:=a.next) (fun x hx=>by obtain ⟨y,hy,rfl⟩:=cF.1 hx;exact h.Ny y hy) (by have:=h.Dk;omega);have h0:=h.vg;simp only[wt,dI] at this;omega
theorem Ad.Ok.sS{a:Ad}(h:a.Ok):(a.I.length:Int)<=a.next:=by
 have:=sH h.yZ (lo:=0) (hi:=a.got+1) (fun x hx=>by obtain ⟨y,hy,rfl⟩:=cF.1 hx;have:=h.VW y hy;exact⟨by omega,by omega⟩) (by have:=h.vg;omega);have h0:=h.Dk;simp only[it,dI] at this;omega
theorem Ad.Ok.fine{a:Ad}(h:a.Ok):L.si (dg a.I):=by
 refine⟨fun x hx=>?_,?_⟩
 ·obtain ⟨y,hy,rfl⟩:=cF.1 hx;have:=h.sU y hy;show 0<=y.2.2;omega
 ·rw[Rh];exact Vo h.yZ
theorem Ad.Ok.lok{a:Ad}(h:a.Ok):L.Ok a.lg:=⟨h.may.2.2.1,h.may.2.2.2.1,h.sy,h.room,h.fine⟩
theorem Ad.Ok.agA{a:Ad}(h:a.Ok):0<=a.Fp:=L.kI h.fine
def Ad.fT (a:Ad):Int:=match a.W with | []=>0 | x :: _=>x.1
def Ad.fF (a:Ad):List Int:=match a.W with | []=>[] | x :: _=>x.2
def Ad.Af (a:Ad):Bool:=match a.W with | []=>false | _ :: _=>true
def Ad.fits (a:Ad):Bool:=match a.W with | []=>false | x :: _=>decide (a.used+a.Fp+x.2.length+1<=a.lc)
def Ad.oo (a:Ad)(xs:List Int):Int:=(B.gA xs a.bl a.mr).2
def Ad.f_ (a:Ad)(xs:List Int):List Int:=(B.gA xs a.bl a.mr).1
def Ad.gP (a:Ad)(xs:List Int):Int:=if a.oo xs=0 then a.next else 0
def Ad.vC (a:Ad)(xs:List Int):Ad:=if a.oo xs=0 then { a with next:=a.next+1,W:=a.W++[(a.next,a.f_ xs)] } else a
def Ad.lY (a:Ad):Int:=match a.W with | []=>110 | _ :: _=>if a.fits then 0 else 120
def Ad.nh (a:Ad):Int:=if a.lY=0 then a.fT else 0
def Ad.pH (a:Ad):List Int:=if a.lY=0 then a.fF else []
def Ad.rK (a:Ad):Ad:=if a.lY=0 then { a with W:=a.W.tail,I:=a.I++[(a.fT,a.fF,(a.fF.length:Int)+1)],got:=a.fT } else a
def Ad.jO (a:Ad)(t:Int):Int:=match fi t a.I with | none=>110 | some x=>if x.2=1 then 120 else 0
def Ad.jI (a:Ad)(t:Int):Ad:=if a.jO t=0 then { a with used:=a.used+1,I:=oX t a.I } else a
def Ad.tq (a:Ad)(t:Int):Int:=match fi t a.I with | none=>110 | some _=>0
def Ad.vu (a:Ad)(t:Int):Ad:=if a.tq t=0 then { a with used:=a.used+1,I:=mD t a.I } else a
def Ad.Ck (a:Ad)(n:Int):Int:=if 0<=n/\n<=a.used then 0 else 2
def Ad.ku (a:Ad)(n:Int):Ad:=if 0<=n/\n<=a.used then { a with used:=a.used-n } else a
def Ad.BM (a:Ad)(t:Int):Int:=((fi t a.I).map Prod.snd).getD 0
def Ad.yW (a:Ad)(t:Int):Bool:=(fi t a.I).isSome
theorem Ad.Ok.kY{a:Ad}(h:a.Ok)(xs:List Int):(a.vC xs).Ok:=by
 unfold Ad.vC;split
 ·rename_i e;have hf:=B.Jw (xs:=xs) (b:=a.bl) (m:=a.mr) e;have hg:=h.Dk;refine⟨h.may,h.vg,by show a.got<a.next+1;omega,?_,fun x hx=>?_,fun x hx=>?_,h.yZ,h.VW,h.sU,h.sy,h.room⟩
  ·show (wt (a.W++[_])).Pairwise _;simp only[wt,cZ,l_,List.map_nil];refine jT.2 ⟨h.Dy,List.pairwise_singleton _ _,fun x hx y hy=>?_⟩;obtain ⟨z,hz,rfl⟩:=cF.1 hx;rw[bg.1 hy];exact (h.Ny z hz).2
  ·show a.got<x.1/\x.1<a.next+1;rcases bH.1 hx with hx | hx
   ·have:=h.Ny x hx;omega
   ·rw[bg.1 hx];exact⟨hg,by show a.next<a.next+1;omega⟩
  ·rcases bH.1 hx with hx | hx
   ·exact h.vQ x hx
   ·rw[bg.1 hx];show 1<=(a.f_ xs).length/\((a.f_ xs).length:Int)<=a.mr;have e1:a.f_ xs=B.iq xs:=hf.1;rw[e1];refine⟨?_,hf.2.2.2.2⟩;rcases Nat.eq_zero_or_pos (B.iq xs).length with h0 | h0
    ·exact absurd (B.RU (aZ h0)) hf.2.2.1
    ·exact h0
 ·exact h
theorem Ad.aaP{a:Ad}(e:a.lY=0):∃x r,a.W=x :: r/\a.fits=true:=by
 unfold Ad.lY at e;cases hW:a.W with
 | nil=>rw[hW] at e;cases e
 | cons x r =>
  rw[hW] at e;refine⟨x,r,rfl,?_⟩;cases hf:a.fits with
  | true=>rfl
  | false=>rw[hf] at e;cases e
theorem Ad.Ok.sj{a:Ad}(h:a.Ok):a.rK.Ok:=by
 unfold Ad.rK;split
 ·rename_i e;obtain ⟨x,r,hW,hf⟩:=Ad.aaP e;have e1:a.fT=x.1:=by simp[Ad.fT,hW]
  have e2:a.fF=x.2:=by simp[Ad.fF,hW]
  have hr:=h.room;have hu:=h.sy;have hx:x∈a.W:=by rw[hW];exact bS ..
  have Yv:=h.Ny x hx;have Ag:=h.vQ x hx;have hp:(wt a.W).Pairwise (· < ·):=h.Dy;rw[hW] at hp;have OP:=cQ.1 hp;have rY:a.used+a.Fp+x.2.length+1<=a.lc:=by simpa [Ad.fits,hW] using hf
  refine⟨h.may,?_,?_,?_,fun y hy=>?_,fun y hy=>?_,?_,fun y hy=>?_,fun y hy=>?_,h.sy,?_⟩
  ·show 0<=a.fT;have:=h.vg;omega
  ·show a.fT<a.next;omega
  ·show (wt a.W.tail).Pairwise _;rw[hW];exact OP.2
  ·have EH:y∈r:=by simpa [hW] using hy
   have h1:=OP.1 y.1 (cF.2 ⟨y,EH,rfl⟩);have h2:=h.Ny y (by rw[hW];exact cO _ EH);show a.fT<y.1/\y.1<a.next;omega
  ·have EH:y∈r:=by simpa [hW] using hy
   exact h.vQ y (by rw[hW];exact cO _ EH)
  ·show (it (a.I++[_])).Pairwise _;rw[VL];refine jT.2 ⟨h.yZ,List.pairwise_singleton _ _,fun y hy z hz=>?_⟩;obtain ⟨v,hv,rfl⟩:=cF.1 hy;rw[bg.1 hz];have:=h.VW v hv;show v.1<a.fT;omega
  ·show 1<=y.1/\y.1<=a.fT;have:=h.vg;rcases bH.1 hy with hy | hy
   ·have:=h.VW y hy;omega
   ·rw[bg.1 hy];exact⟨by show 1<=a.fT;omega,iy _⟩
  ·rcases bH.1 hy with hy | hy
   ·exact h.sU y hy
   ·rw[bg.1 hy];show 1<=a.fF.length/\(a.fF.length:Int)<=a.mr/\1<=(a.fF.length:Int)+1/\(a.fF.length:Int)+1<=(a.fF.length:Int)+1;rw[e2];omega
  ·show a.used+L.total (dg (a.I++[(a.fT,a.fF,(a.fF.length:Int)+1)]))<=a.lc;rw[Ew,L.tG,e2];have:L.total (dg a.I)=a.Fp:=rfl;omega
 ·exact h
theorem Ad.aia{a:Ad}{t:Int}{E:Int}(h:(match fi t a.I with | none=>(110:Int) | some _=>E)=0):∃f n,fi t a.I=some (f,n):=by
 cases e:fi t a.I with
 | none=>rw[e] at h;cases h
 | some x=>exact⟨x.1,x.2,rfl⟩
theorem Ad.abn{a:Ad}{t:Int}(h:a.jO t=0):∃f n,fi t a.I=some (f,n)/\n≠1:=by
 unfold Ad.jO at h;cases e:fi t a.I with
 | none=>rw[e] at h;cases h
 | some x =>
  rw[e] at h;refine⟨x.1,x.2,rfl,fun e1=>?_⟩;simp[e1] at h
theorem Ad.Ok.aeV{a:Ad}(h:a.Ok)(t:Int)(u:Int)(hu:0<=u)(hr:u+L.total (dg (mD t a.I))<=a.lc):({ a with used:=u,I:=mD t a.I }:Ad).Ok :=
 ⟨h.may,h.vg,h.Dk,h.Dy,h.Ny,h.vQ,by show (it (mD t a.I)).Pairwise _;exact h.yZ.sublist ((tr t a.I).map _),fun x hx=>h.VW x ((tr t a.I).subset hx),fun x hx=>h.sU x ((tr t a.I).subset hx),hu,hr⟩
theorem Ad.Ok.app{a:Ad}(h:a.Ok)(t:Int):(a.jI t).Ok:=by
 unfold Ad.jI;split
 ·rename_i e;obtain ⟨f,n,hf,hn⟩:=Ad.abn e;have hr:=h.room;refine⟨h.may,h.vg,h.Dk,h.Dy,h.Ny,h.vQ,?_,fun x hx=>?_,fun x hx=>?_,by have:=h.sy;show 0<=a.used+1;omega,?_⟩
  ·show (it (oX t a.I)).Pairwise _;rw[Mq];exact h.yZ
  ·rcases Cq hx with hx | ⟨f',n',h1,_,rfl⟩
   ·exact h.VW x hx
   ·exact h.VW (t,f',n') h1
  ·rcases Cq hx with hx | ⟨f',n',h1,h2,rfl⟩
   ·exact h.sU x hx
   ·have h3:=h.sU _ h1;rw[hf] at h2;cases h2;show 1<=f.length/\(f.length:Int)<=a.mr/\1<=n-1/\n-1<=(f.length:Int)+1;simp only at h3;omega
  ·show a.used+1+L.total (dg (oX t a.I))<=a.lc;rw[yg hf,L.tF (n:=n) (by rw[gZ,hf];rfl)];have:L.total (dg a.I)=a.Fp:=rfl;omega
 ·exact h
theorem Ad.Ok.Dp{a:Ad}(h:a.Ok)(t:Int):(a.vu t).Ok:=by
 unfold Ad.vu;split
 ·rename_i e;obtain ⟨f,n,hf⟩:=Ad.aia e;refine h.aeV t _ (by have:=h.sy;omega) ?_;have h3:=h.sU _ (vh hf);have hr:=h.room;have:L.total (dg a.I)=a.Fp:=rfl;rw[yh,L.xC (n:=n) (by rw[gZ,hf];rfl)];simp only at h3;omega
 ·exact h
theorem Ad.Ok.WG{a:Ad}(h:a.Ok)(n:Int):(a.ku n).Ok:=by
 unfold Ad.ku;split
 ·rename_i e;exact⟨h.may,h.vg,h.Dk,h.Dy,h.Ny,h.vQ,h.yZ,h.VW,h.sU,by show 0<=a.used-n;omega,by have:=h.room;show a.used-n+a.Fp<=a.lc;omega⟩
 ·exact h
end Go.Proofs.Zq.E
namespace Go.Proofs.Zq.E
open Go.Proofs.Tryz
open Go.RowKit
open B (pZ)
theorem Ud(p q:Option Addr)(n c m d:Nat)(xs ys:List Int)(w:World)(hx:pZ w p n xs)(hy:pZ w q m ys)(hn:n<=140737488355328) :
  Calls prog 66 #[.slice p n c,.slice q m d] w fun e w'=>e=.returned (.bool (decide (xs=ys)))/\∃m,w'=w.drewN m:=by
 by_cases hnm:n=m
 ·subst hnm;have hb:(((n:Nat):Int) != ((n:Nat):Int))=false:=by simp
  have HX:=zH hx;have HY:=zH hy;clear hx hy;go_enter func66,ntmps66;go_wp2
  go_loopw [5] (fun i wr=>∃k:Nat,k<=n/\i=.int .i64 k/\Hid (xs.take k=ys.take k)/\∃nq,wr=w.drewN nq) (fun i _=>n-(intOf i).toNat)
  case atStart=>exact⟨0,aI _,rfl,rfl,0,rfl⟩
  case round =>
   obtain ⟨k,hk,rfl,HT,nq,hwr⟩:=hrel;subst hwr;by_cases eP:k<n
   ·have hkx:k<xs.length:=by rw[HX.out.len];exact eP
    have hky:k<ys.length:=by rw[HY.out.len];exact eP
    obtain ⟨b',o,rfl,hcx⟩:=HX.out.cells (by omega);obtain ⟨b2,o2,rfl,hcy⟩:=HY.out.cells (by omega);have h1:=hcx k eP;have h2:=hcy k eP;have i1:(k:Int)<(n:Int):=by omega
    have HT2:Hid (xs.getD k 0=ys.getD k 0->xs.take (k+1)=ys.take (k+1)):=by
     intro e;simp only[List.getD,ay hkx,ay hky,kT] at e;rw[bw hkx,bw hky,e,HT.out]
    have HT3:Hid (¬xs.getD k 0=ys.getD k 0->¬xs=ys):=by
     intro e e2;subst e2;exact e rfl
    clear hcx hcy hkx hky HX HY HT;generalize xs.getD k 0=x at *;generalize ys.getD k 0=y at *;cases hz:(x != y)
    ·go_wp2;go_quiet (fail);go_wp2;go_roundw
     case rel=>exact⟨k+1,by omega,by go_num,HT2.out (by simpa using hz),_,rfl⟩
     case measure=>simp[intOf];omega
    ·go_wp2;go_quiet (fail);go_wp2;go_ret;exact⟨by rw[aF (HT3.out (by simpa using hz))];rfl,_,World.drewN_drewN _ _ _⟩
   ·have HE:Hid (xs=ys):=by
     have:=HT.out;rw[aL (by rw[HX.out.len];omega),aL (by rw[HY.out.len];omega)] at this;exact this
    go_wp2;go_ret;exact⟨by rw[aP HE.out];rfl,_,rfl⟩
 ·have hb:(((n:Nat):Int) != ((m:Nat):Int))=true:=by rw[bne_iff_ne];omega
  have HE:Hid (decide (xs=ys)=false):=aF fun e=>hnm (by rw[<-hx.len,<-hy.len,e]);clear hx hy;go_enter func66,ntmps66;go_wp2;go_ret;exact⟨by rw[HE.out];rfl,0,rfl⟩
end Go.Proofs.Zq.E
namespace Go.Proofs.Zq.E
open Go.Proofs.Tryz
open Go.RowKit
open Go.Maps (Keyed)
def abQ (v:Value):Option (DataW Value × List MemPlace):=some (.held v,[])
abbrev gR:Value:=.slice none 0 0
theorem agn(w:World):(zeroValue 59).run prog w=.ok gR w:=by kernel_rfl
def tZ (w:World)(b n:Nat)(m:Int->Option Value):Prop:=∃D:DataW Value,w.ownsMap prog 52 abQ b n D/\∀t,L.vG t->Maps.has D (.int .u64 t)=(m t).isSome/\D.atKey (.int .u64 t) (.held gR)=.held ((m t).getD gR)
theorem tZ.Kn{w:World}{b n:Nat}{m:Int->Option Value}(h:tZ w b n m):∃es clock,w.heap[b]?=some (.map es clock):=by
 obtain ⟨D,⟨es,clock,hb,_⟩,_⟩:=h;exact⟨es,clock,hb⟩
theorem tZ.lt{w:World}{b n:Nat}{m:Int->Option Value}(h:tZ w b n m):b<w.heap.size:=by
 obtain ⟨es,clock,hb⟩:=h.Kn;exact (au.1 hb).1
theorem tZ.kept{w w':World}{b n:Nat}{m:Int->Option Value}(h:tZ w b n m)(hk:w'.heap[b]?=w.heap[b]?):tZ w' b n m:=by
 obtain ⟨D,⟨es,clock,hb,r⟩,hD⟩:=h;exact⟨D,⟨es,clock,hk.trans hb,r⟩,hD⟩
theorem tZ.mono{w:World}{b n k:Nat}{m:Int->Option Value}(h:tZ w b n m)(hm:n<=k):tZ w b k m:=by
 obtain ⟨D,ho,hD⟩:=h;exact⟨D,ho.mono hm,hD⟩
theorem tZ.made(w:World):tZ (w.alloc (.map #[] 0)) w.heap.size 0 (fun _=>none):=⟨_,World.ownsMap_made w _ _ _,fun _ _=>⟨rfl,rfl⟩⟩
theorem tZ.nB{w:World}{b n:Nat}{m:Int->Option Value}(h:tZ w b n m){t:Int}(ht:L.vG t) :
  (Instr.lookup 112 (.map (some b)) (.int .u64 t) false).run prog w=.ok ((m t).getD gR) w:=by
 obtain ⟨D,ho,hD⟩:=h;obtain ⟨v,ps,dM,hv⟩:=ho.lookup L.uz underlying112 (agn w) (zd:=.held gR) (zp:=[]) rfl ht.key;rw[(hD t ht).2] at hv;simp only[abQ,aC,gS,DataW.held.injEq] at hv;rw[dM,hv.1]
theorem tZ.zV{w:World}{b n:Nat}{m:Int->Option Value}(h:tZ w b n m)(hn:n<10000){t:Int}(ht:L.vG t)(v:Value) :
  ∃w',(Instr.mapUpdate 112 (.map (some b)) (.int .u64 t) v).run prog w=.ok () w'/\tZ w' b (n+1) (fun u=>if u=t then some v else m u)/\Kept (·=b) w w':=by
 obtain ⟨D,ho,hD⟩:=h;have hml:10000<=maxLen:=by decide
 obtain ⟨w',dM,h1,h2⟩:=ho.store (val:=v) (d:=.held v) (ps:=[]) L.uz underlying112 (by omega) ht.key rfl;refine⟨w',dM,⟨_,h1,fun u hu=>?_⟩,L.Kept.sM h2.grown⟩;dsimp only;by_cases e:u=t
 ·subst e;rw[aE rfl,Maps.has_put_same ho.isMap (L.uz.key ht.key),Maps.atKey_put_same ho.isMap (L.uz.key ht.key)];exact⟨rfl,rfl⟩
 ·have kG:(Lit.int .u64 u)≠Lit.int .u64 t:=fun e2=>e (by injection e2);rw[aD e,Maps.has_put_other kG,Maps.atKey_put_other kG];exact hD u hu
theorem tZ.Fo{w:World}{b n:Nat}{m:Int->Option Value}(h:tZ w b n m){t:Int}(ht:L.vG t)(ty:TypeId) :
  ∃w',(Builtin.delete_ #[112,52] ty #[.map (some b),.int .u64 t]).run prog w=.ok (.tuple #[]) w'/\tZ w' b n (fun u=>if u=t then none else m u)/\Kept (·=b) w w':=by
 obtain ⟨D,ho,hD⟩:=h;obtain ⟨w',dM,h1,h2⟩:=ho.drop L.uz underlying112 ht.key ty;refine⟨w',dM,⟨_,h1,fun u hu=>?_⟩,L.Kept.sM h2.grown⟩;dsimp only;by_cases e:u=t
 ·subst e;rw[aE rfl,Maps.has_del_same,Maps.atKey_del_same];exact⟨rfl,rfl⟩
 ·have kG:(Lit.int .u64 u)≠Lit.int .u64 t:=fun e2=>e (by injection e2);rw[aD e,Maps.has_del_other kG,Maps.atKey_del_other kG];exact hD u hu
theorem zh{w:World}{b n:Nat}{ops:Array Oper}{rest:List Oper}{o:Oper}{a:Act}{R:Exit->Act->World->Prop}(hg:o.guard=none)(m x:Operand)(hop:o.op=Op.call { callee:=Callee.builtin Builtin.delete,args:=#[m,x],argTypes:=#[112,52] })
  (M:Int->Option Value) (hm:a.eval m=.map (some b)) (h:tZ w b n M) (t:Int) (ht:L.vG t) (hx:a.eval x=.int .u64 t)
  (hK:∀w',tZ w' b n (fun u=>if u=t then none else M u)->Kept (·=b) w w'->wpList prog ops R rest (a.put o.dst (.tuple #[])) w') :
  wpList prog ops R (o :: rest) a w:=by
 refine iQ hg fun K hK'=>?_;obtain ⟨w',hr,h2,h3⟩:=h.Fo ht o.type;unfold Oper.wp;simp[execOp,hop,resolve,invoke,builtin,hm,hx,hr,Result.andThen];exact hK' _ _ (hK w' h2 h3)
def kd (w:World)(b:Nat):Nat:=match w.heap[b]? with | some (.cells _ ty _)=>ty | some (.map _ _)=>100000 | _=>100001
theorem jR{w:World}{a b x y:Nat}(h1:kd w a=x)(h2:kd w b=y)(hxy:x≠y):a≠b:=fun e=>hxy (by rw[<-h1,<-h2,e])
theorem oO{w:World}{b:Nat}{cs:Array Value}{ty:TypeId}{z:Nat × Nat}(h:w.heap[b]?=some (.cells cs ty z)):kd w b=ty:=by simp only[kd,h]
theorem VH{w:World}{b:Nat}(h:∃es clock,w.heap[b]?=some (.map es clock)):kd w b=100000:=by
 obtain ⟨es,clock,h⟩:=h;simp only[kd,h]
def ow (w:World)(v:Value)(f:List Int):Prop:=w.ownsRow 0 3 1 v f.length (o_ f)
theorem ow.later{w w':World}{v:Value}{f:List Int}(h:ow w v f)(hb:Below w.heap.size w w'):ow w' v f:=B.dD h hb
theorem ow.Ou{w w':World}{p:Option Addr}{c:Nat}{f:List Int}(h:B.Made w w' p f.length c f):ow w' (.slice p f.length c) f:=eH h.own (aI _)
theorem ow.mO{w w':World}{v:Value}{f:List Int}{S:Nat->Prop}(h:ow w v f)(hk:Kept S w w')(hS:∀g,bC v=some g->kd w g=3->¬S g):ow w' v f:=by
 refine⟨h.1,?_⟩;rcases h.2 with h2 | ⟨g,cap,cur,e,h1,hg,r⟩
 ·exact .inl h2
 ·exact .inr ⟨g,cap,cur,e,h1,(hk.block g (au.1 hg).1 (hS g (by rw[e];rfl) (oO hg))).trans hg,r⟩
theorem ow.read{w:World}{v:Value}{f:List Int}(h:ow w v f):∃p c,v=.slice p f.length c/\B.pZ w p f.length f/\f.length<=c/\(p=none->c=0):=by
 obtain ⟨p,c,e,h1,h2,h3,_⟩:=B.wO h;exact⟨p,c,e,h1,h2,h3⟩
theorem ow.nil(w:World):ow w gR []:=cq _ _ _ _
def FM (w:World)(G:Nat->Prop)(b n:Nat)(l:List (Int × List Int)):Prop:=∃m,tZ w b n m/\(∀t v,m t=some v->∃p n c,v=.slice p n c)/\∀x∈l,∃v,m x.1=some v/\ow w v x.2/\∀g,bC v=some g->G g
theorem FM.Kn{w:World}{G:Nat->Prop}{b n:Nat}{l:List (Int × List Int)}(h:FM w G b n l):∃es clock,w.heap[b]?=some (.map es clock):=by
 obtain ⟨m,h,_⟩:=h;exact h.Kn
theorem FM.lt{w:World}{G:Nat->Prop}{b n:Nat}{l:List (Int × List Int)}(h:FM w G b n l):b<w.heap.size:=by
 obtain ⟨m,h,_⟩:=h;exact h.lt
theorem FM.mO{w w':World}{G:Nat->Prop}{b n:Nat}{l:List (Int × List Int)}{S:Nat->Prop}(h:FM w G b n l)(hk:Kept S w w')(hb:¬S b)(hS:∀g,G g->kd w g=3->¬S g):FM w' G b n l:=by
 obtain ⟨m,h1,hs,h2⟩:=h;refine⟨m,h1.kept (hk.block b h1.lt hb),hs,fun x hx=>?_⟩;obtain ⟨v,hv,hf,hG⟩:=h2 x hx;exact⟨v,hv,hf.mO hk (fun g hg=>hS g (hG g hg)),hG⟩
theorem FM.mono{w:World}{G:Nat->Prop}{b n k:Nat}{l:List (Int × List Int)}(h:FM w G b n l)(hk:n<=k):FM w G b k l:=by
 obtain ⟨m,h1,hs,h2⟩:=h;exact⟨m,h1.mono hk,hs,h2⟩
theorem FM.sub{w:World}{G:Nat->Prop}{b n:Nat}{l l':List (Int × List Int)}(h:FM w G b n l)(hs:∀x∈l',x∈l):FM w G b n l':=by
 obtain ⟨m,h1,h0,h2⟩:=h;exact⟨m,h1,h0,fun x hx=>h2 x (hs x hx)⟩
structure Ft where
 Q:Nat
 q1:Nat
 q2:Nat
 mb:Nat
 lb:Nat
 lm:Nat
 v1:Value
 v2:Value
 G:Nat->Prop
def Ft.has (F:Ft)(b:Nat):Prop:=b=F.Q\/b=F.q1\/b=F.q2\/bC F.v1=some b\/bC F.v2=some b\/b=F.mb\/b=F.lb\/b=F.lm
def Ad.fl (a:Ad):List (Int × List Int):=a.W++a.I.map fun x=>(x.1,x.2.1)
abbrev fH (F:Ft)(a:Ad):Array Value:=#[.int .i64 a.bl,.int .i64 a.lc,.int .i64 a.mr,.int .i64 a.hi,.int .i64 a.cl,.int .u64 a.next,qp F.q1,qp F.q2,.map (some F.mb),qp F.lb]
structure PL (w:World) (F:Ft) (n:Nat) (a:Ad):Prop where
 st:w.heap[F.Q]?=some (.cells (fH F a) 115 (0,0))
 l1:mS 211 w F.q1 F.v1 (wt a.W) (a.next-1)
 l2:mS 211 w F.q2 F.v2 (it a.I) a.got
 fm:FM w F.G F.mb n a.fl
 rm:L.bE w F.lb F.lm n a.lg
 ok:a.Ok
 Of:F.q1≠F.q2
 v12:∀g,bC F.v1=some g->¬bC F.v2=some g
 mm:F.mb≠F.lm
section
variable {w w':World} {F:Ft} {n:Nat} {a:Ad}
theorem Row.kd{v:Value}{xs:List Int}(h:Row w v xs){g:Nat}(hg:bC v=some g):kd w g=52:=by
 obtain ⟨cur,hc⟩:=h.Kn hg;exact oO hc
theorem PL.kQ(h:PL w F n a):kd w F.Q=115:=oO h.st
theorem PL.k1(h:PL w F n a):kd w F.q1=211:=oO h.l1.st
theorem PL.k2(h:PL w F n a):kd w F.q2=211:=oO h.l2.st
theorem PL.kv1(h:PL w F n a){g:Nat}(hg:bC F.v1=some g):kd w g=52:=h.l1.row.kd hg
theorem PL.kv2(h:PL w F n a){g:Nat}(hg:bC F.v2=some g):kd w g=52:=h.l2.row.kd hg
theorem PL.km(h:PL w F n a):kd w F.mb=100000:=VH h.fm.Kn
theorem PL.kl(h:PL w F n a):kd w F.lb=197:=oO h.rm.st
theorem PL.kn(h:PL w F n a):kd w F.lm=100000:=VH h.rm.mp.Kn
theorem PL.sO(h:PL w F n a){b:Nat}(hb:kd w b=3):¬F.has b:=by
 rintro (rfl | rfl | rfl | e | e | rfl | rfl | rfl)
 ·rw[h.kQ] at hb;cases hb
 ·rw[h.k1] at hb;cases hb
 ·rw[h.k2] at hb;cases hb
 ·rw[h.kv1 e] at hb;cases hb
 ·rw[h.kv2 e] at hb;cases hb
 ·rw[h.km] at hb;cases hb
 ·rw[h.kl] at hb;cases hb
 ·rw[h.kn] at hb;cases hb
theorem PL.lt(h:PL w F n a){b:Nat}(hb:F.has b):b<w.heap.size:=by
 rcases hb with rfl | rfl | rfl | e | e | rfl | rfl | rfl
 ·exact (au.1 h.st).1
 ·exact h.l1.lt
 ·exact h.l2.lt
 ·exact h.l1.row.lt e
 ·exact h.l2.row.lt e
 ·exact h.fm.lt
 ·exact h.rm.lt
 ·exact h.rm.mp.lt
theorem PL.mO{S:Nat->Prop}(h:PL w F n a)(hk:Kept S w w')(hF:∀b,F.has b->¬S b)(hS:∀g,F.G g->kd w g=3->¬S g):PL w' F n a :=
 ⟨(hk.block _ (h.lt (.inl rfl)) (hF _ (.inl rfl))).trans h.st,h.l1.mO hk (hF _ (.inr (.inl rfl))) (fun g hg=>hF g (.inr (.inr (.inr (.inl hg))))),h.l2.mO hk (hF _ (.inr (.inr (.inl rfl)))) (fun g hg=>hF g (.inr (.inr (.inr (.inr (.inl hg)))))),
  h.fm.mO hk (hF _ (.inr (.inr (.inr (.inr (.inr (.inl rfl))))))) hS,h.rm.kept (hk.block _ h.rm.lt (hF _ (.inr (.inr (.inr (.inr (.inr (.inr (.inl rfl))))))))) (hk.block _ h.rm.mp.lt (hF _ (.inr (.inr (.inr (.inr (.inr (.inr (.inr rfl))))))))),h.ok,h.Of,h.v12,h.mm⟩
theorem PL.later(h:PL w F n a)(hb:Below w.heap.size w w'):PL w' F n a:=h.mO (Kept.bP (fun _=>False) hb) (fun _ _=>id) (fun _ _ _=>id)
theorem PL.mono{k:Nat}(h:PL w F n a)(hk:n<=k):PL w F k a:=⟨h.st,h.l1,h.l2,h.fm.mono hk,h.rm.mono hk,h.ok,h.Of,h.v12,h.mm⟩
theorem PL.c(h:PL w F n a)(o:Nat):w.cell? ⟨F.Q,o,none⟩=(fH F a)[o]?:=aq _ F.Q o _ 115 (0,0) h.st
theorem PL.free(h:PL w F n a)(o:Nat):w.frozen? ⟨F.Q,o,none⟩=false:=by simp[World.frozen?,h.st]
