import Derived.Test.YtcdjepkhdjpjcaaGreatDoorU02
import Derived.Lib.SlBytesConst
set_option maxHeartbeats 20000000
set_option maxRecDepth 100000
namespace Go.Proofs.Zq
open Go.Proofs.Tryz
open Go.RowKit
theorem Is(p:Option Addr)(n c:Nat)(xs:List Int)(k:Nat)(w:World)(hk:k<=64)(hs:n<=k)(h:jK w p n xs) :
  Calls prog 171 #[.slice p n c,.int .i64 k] w fun e w'=>e=.returned (.tuple #[.slice (some ⟨w.heap.size,0,none⟩) k k,.int .i64 0])/\bE 5 w' w.heap.size (U8 (xs++List.replicate (k-n) 0))/\Below w.heap.size w w':=by
 obtain ⟨i0,hi,ij,gm,iL⟩:=cj mq;go_enter func171,ntmps171;go_wp2_with (at_make;refine wpList_make_full _ rfl _ _ 107 rfl w.heap.size 5 i0 (.int .u8 0) 1 bK hi ij gm .i64 .i64 _ _ k rfl rfl rfl rfl ?b2 ?b3 ?b4 ?_)
 case b2=>rw[iL];omega
 case b3=>unfold maxLen;omega
 case b4=>simp
 intro w1 dR cU;rw[nM] at dR;have hb:=(aV w.heap.size w).grown cU (az _) (by intro k hk;cases hk);have hg:=yR dR;have h1:=h.later hb;have HG:=zH hg;have HB:=zH hb;have HH:=zH h1;clear cU dR hg hb h1;have HN:Hid ((U8 xs).length=Nat.min n k):=by show _=min n k;rw[fX hs];simp[U8,HH.out.len]
 have HF:Hid (0+(U8 xs).length<=(List.replicate k (Value.int .u8 0)).length):=by show _<=_;simp[U8,HH.out.len];omega
 have HP:Hid (0<(U8 xs).length->some (⟨w.heap.size,0,none⟩:Addr)=some ⟨w.heap.size,0,none⟩/\∃ad,p=some ad/\∀j v,(U8 xs)[j]?=some v->w1.cell? (ad.add j)=some v):=by
  intro h0;have h0':0<n:=by simpa [U8,HH.out.len] using h0
  obtain ⟨b,o,e,hc⟩:=HH.out.cells h0';refine⟨rfl,⟨b,o,none⟩,e,?_⟩;have h2:=HH.out;rw[e] at h2;exact h2.news
 go_wp2_with (refine wpList_copy_splice rfl (.tmp 19) (.tmp 20) 107 107 rfl 5 bK Ho (some ⟨w.heap.size,0,none⟩) p k k n c rfl rfl w.heap.size 0 (List.replicate k (.int .u8 0)) 5 HG.out (U8 xs) HN.out HP.out HF.out (eO xs) w.heap.size w HB.out (az _) ?_)
 intro w2 Wq jb;go_wp2;go_ret2;refine⟨rfl,?_,jb⟩;have:=Wq.out;rw[AW xs k (by rw[HH.out.len];exact hs),HH.out.len] at this;exact this
theorem EE(b o n c:Nat)(vs:List Value)(ls:List (List Int))(w:World)(h:PIn w (some ⟨b,o,none⟩) n vs ls)(h0:0<n)(r_:ls.flatten.length<=140737488355328)(hn:n<=140737488355328) :
  Calls prog 172 #[.slice (some ⟨b,o,none⟩) n c] w fun e w'=>e=.returned (.slice (some ⟨w.heap.size,0,none⟩) ls.flatten.length ls.flatten.length)/\w'.ownsRow w.heap.size 5 1 (.slice (some ⟨w.heap.size,0,none⟩) ls.flatten.length ls.flatten.length) ls.flatten.length (U8 ls.flatten)/\Below w.heap.size w w':=by
 obtain ⟨i0,hi,ij,gm,iL⟩:=cj mq;have HV:=zH h.len;have HL:=zH h.Ml;go_enter func172,ntmps172;go_wp2
 go_loop [3,11] (fun t i=>∃k:Nat,k<=n/\i=.int .i64 k/\t=.int .i64 (jq ls k)) (fun _ i=>n-(intOf i).toNat)
 case atStart=>exact⟨0,aI _,rfl,rfl⟩
 case round =>
  obtain ⟨k,hk,rfl,rfl⟩:=hrel;have MD:=od ls k;by_cases eP:k<n
  ·have EJ:k<vs.length:=by rw[HV.out];exact eP
   have vK:k<ls.length:=by rw[HL.out];exact eP
   obtain ⟨b',o',e,rZ⟩:=h.cells h0;simp only[aC,d_,gJ] at e;obtain ⟨rfl,rfl⟩:=e;have hc:=rZ k EJ;obtain ⟨p1,n1,c1,e1,h1,h2,h3⟩:=h.parts k EJ vK;rw[e1] at hc;have Cb:=od ls (k+1);have I_:jq ls (k+1)=jq ls k+n1:=by rw[qM ls k vK,h1.len]
   have sV:jq ls k+n1<=ls.flatten.length:=by omega
   have HS:=zH I_;clear rZ I_ Cb e1 h1 h2 h3;go_wp2;go_round
   case rel=>exact⟨k+1,by omega,by go_num,by rw[HS.out];go_num⟩
   case measure=>simp[intOf];omega
  ·have Ci:jq ls k=ls.flatten.length:=by exact wT ls k (by rw[HL.out];omega)
   have HA:=zH Ci;clear Ci MD;rw[HA.out];clear HA;generalize hT:ls.flatten.length=T at *;have HT:=zH hT;clear hT;go_wp2_with (at_make;refine wpList_make_own _ rfl _ _ 107 rfl w.heap.size 5 i0 (.int .u8 0) 1 bK hi ij gm .i64 .i64 _ T rfl rfl rfl (by rw[iL];omega) (by unfold maxLen;omega) (az _) ?_)
   intro w1 dR cU;have hb:=(aV w.heap.size w).grown cU (az _) (by intro k hk;cases hk);clear cU;go_wp2
   go_loopw [6,24] (fun v i wr=>∃k:Nat,k<=n/\i=.int .i64 k/\v=.slice (some ⟨w.heap.size,0,none⟩) (jq ls k) T /\
     wr.ownsRow w.heap.size 5 1 (.slice (some ⟨w.heap.size,0,none⟩) (jq ls k) T) (jq ls k) (U8 (ls.take k).flatten)/\Below w.heap.size w wr) (fun _ i _=>n-(intOf i).toNat)
   case atStart=>exact⟨0,aI _,rfl,rfl,dR,hb⟩
   case round =>
    obtain ⟨j,hj,rfl,rfl,sW,Wt⟩:=hrel;have MD:=od ls j;rw[HT.out] at MD;by_cases eP:j<n
    ·have EJ:j<vs.length:=by rw[HV.out];exact eP
     have vK:j<ls.length:=by rw[HL.out];exact eP
     have h':=h.later Wt;obtain ⟨b',o',e,rZ⟩:=h'.cells h0;simp only[aC,d_,gJ] at e;obtain ⟨rfl,rfl⟩:=e;have hc:=rZ j EJ;obtain ⟨p1,n1,c1,e1,h1,h2,h3⟩:=h'.parts j EJ vK;rw[e1] at hc;have Cb:=od ls (j+1);rw[HT.out] at Cb;have iU:=tW ls j vK;have I_:jq ls (j+1)=jq ls j+n1:=by rw[qM ls j vK,h1.len]
     have sV:jq ls j+n1<=T:=by omega
     have HS:=zH I_;have jf:=zH iU;have HB:=zH Wt;have HO:=zH sW;have H1:=zH h1;have HN:Hid ((U8 ls[j]).length=n1*1):=by show _=_;simp[U8,h1.len]
     have HZ:Hid (p1=none->n1=0/\c1=0):=fun e=>⟨by have:=h3 e;omega,h3 e⟩
     have HC:Hid (∀ad,p1=some ad->∀j' u,(U8 ls[j])[j']?=some u->wr.cell? (ad.add j')=some u):=fun ad e=>by subst e;exact h1.news
     clear rZ iU I_ Cb e1 h1 h2 h3 h' sW Wt hb dR;go_wp2_with (at_builtin;refine wpList_append_fits_any _ rfl (.tmp 28) (.tmp 29) 107 rfl w.heap.size 5 i0 1 bK hi gm w.heap.size _ T _ rfl HO.out p1 n1 c1 (U8 ls[j]) rfl HN.out HZ.out HC.out (eO _) sV ?_)
     intro w2 jF ja;have R:w2.ownsRow w.heap.size 5 1 (.slice (some ⟨w.heap.size,0,none⟩) (jq ls (j+1)) T) (jq ls (j+1)) (U8 (ls.take (j+1)).flatten):=by
      rw[HS.out,jf.out];simpa [U8] using jF
     have RB:=HB.out.grown ja (HB.out.size) (by intro q hq;simp at hq;omega);have HR:=zH R;have HRB:=zH RB;clear R RB jF ja;go_wp2;go_roundw
     case rel=>exact⟨j+1,by omega,by go_num,by rw[HS.out],HR.out,HRB.out⟩
     case measure=>simp[intOf];omega
    ·have e:(ls.take j).flatten=ls.flatten:=wU ls j (by rw[HL.out];omega);have e2:jq ls j=T:=(wT ls j (by rw[HL.out];omega)).trans HT.out;rw[e,e2] at sW;rw[e2];have HB:=zH Wt;have HO:=zH sW;clear sW Wt hb dR e e2;go_wp2;go_ret;rw[HT.out];exact⟨rfl,HO.out,HB.out⟩
def xl (w:World):List Value->List (List Int)->Prop
 | [],[]=>True
 | v :: vs,l :: ls=>zK w v l/\xl w vs ls
 | _,_=>False
theorem xl.at{w:World}:∀{vs:List Value} {ls:List (List Int)},xl w vs ls->∀i (h:i<vs.length) (h2:i<ls.length),zK w vs[i] ls[i]
 | [],_,_,_,h,_=>absurd h (fW _)
 | _ :: _,[],_,_,_,h=>absurd h (fW _)
 | _ :: _,_ :: _,h,0,_,_=>h.1
 | _ :: _,_ :: _,h,i+1,h1,h2=>xl.at h.2 i (by simpa using h1) (by simpa using h2)
theorem xl.len{w:World}:∀{vs:List Value} {ls:List (List Int)},xl w vs ls->ls.length=vs.length
 | [],[],_=>rfl
 | [],_ :: _,h=>h.elim
 | _ :: _,[],h=>h.elim
 | _ :: _,_ :: _,h=>by rw[bz,bz,xl.len h.2]
theorem zW{w:World}{vs:List Value}{ls:List (List Int)}(h:xl w vs ls)(n:Nat)(hn:vs.length=n):PIn (w.alloc (.cells vs.toArray 107)) (some ⟨w.heap.size,0,none⟩) n vs ls:=by
 refine⟨hn,h.len.trans hn,fun _=>⟨_,0,rfl,fun i hi=>?_⟩,fun i h1 h2=>(h.at i h1 h2).later (ag w _)⟩;rw[aW,aq _ w.heap.size i vs.toArray 107 (0,0) (aG w _)];simp[List.getElem?_eq_getElem hi]
theorem Made.sin{w w':World}{p:Option Addr}{n c:Nat}{xs:List Int}(h:Made w w' p n c xs):zK w' (.slice p n c) xs:=⟨p,n,c,rfl,h.read,h.le,h.nil⟩
theorem Ma{w:World}(p:Option Addr)(n c:Nat)(xs:List Int)(h:zK w (.slice p n c) xs)(hb:xs.length<=100000)(ht:zL w) :
  Calls prog 174 #[.slice (some ⟨w.heap.size,0,none⟩) 1 1] (w.alloc (.cells #[.slice p n c] 107)) fun e w'=>e=.returned (.int .u32 (xx xs:Nat))/\Below w.heap.size w w':=by
 have hs:xl w [.slice p n c] [xs]:=⟨h,trivial⟩
 have e:[xs].flatten=xs:=by simp
 have:=Vi (some ⟨w.heap.size,0,none⟩) 1 1 [.slice p n c] [xs] (w.alloc (.cells [.slice p n c].toArray 107)) (zW hs 1 rfl) (by rw[e];omega) (by omega) (ht.later (ag w _));rw[e] at this;refine this.mono ?_;rintro e w' ⟨rfl,rfl⟩;exact⟨rfl,ag w _⟩
theorem BP{w:World}(u v:Value)(xs ys:List Int)(hu:zK w u xs)(hv:zK w v ys)(n:Nat)(hn:(xs++ys).length=n)(hb:n<=100000) :
  Calls prog 172 #[.slice (some ⟨w.heap.size,0,none⟩) 2 2] (w.alloc (.cells [u,v].toArray 107)) fun e w'=>e=.returned (.slice (some ⟨w.heap.size+1,0,none⟩) n n)/\Made w w' (some ⟨w.heap.size+1,0,none⟩) n n (xs++ys):=by
 have hs:xl w [u,v] [xs,ys]:=⟨hu,hv,trivial⟩
 have e:[xs,ys].flatten=xs++ys:=by simp
 have hB:Bytes (xs++ys):=by
  obtain ⟨_,_,_,_,h1,_⟩:=hu;obtain ⟨_,_,_,_,h2,_⟩:=hv;exact h1.byte.append h2.byte
 have:=EE w.heap.size 0 2 2 [u,v] [xs,ys] (w.alloc (.cells [u,v].toArray 107)) (zW hs 2 rfl) (by omega) (by rw[e,hn];omega) (by omega);rw[e,hn] at this;refine this.mono ?_;have e2:(w.alloc (.cells [u,v].toArray 107)).heap.size=w.heap.size+1:=by simp
 rintro e w' ⟨rfl,ho,jb⟩;rw[e2] at ho jb ⊢;have Dj:Below w.heap.size w w':=(ag w _).trans (jb.mono (by omega));obtain ⟨p,c,e3,hr,hc,hp,_⟩:=rA ho hB;simp only[cE,nY] at e3;obtain ⟨rfl,rfl⟩:=e3;exact⟨rfl,eH ho (by omega),hr,hc,hp,Dj⟩
theorem AY:(prog.info? 52).map (·.size)=some 1:=by kernel_rfl
theorem sizeOf24(w:World):(sizeOf 52).run prog w=.ok 1 w:=by
 cases hi:prog.info? 52 with
 | none=>have:=AY;simp[hi] at this
 | some i =>
  have h:=AY;simp only[hi,iZ,aC] at h;simp[sizeOf,typeInfo,hi,h]
theorem Rb(s:fN)(j:Nat)(hj:j<8):(nQ s)[j]?=some (.int .u64 ((ns s).getD j 0)):=by
 have hl:j<(ns s).length:=hj;simp[nQ,List.getD,List.getElem?_eq_getElem hl]
theorem aai(w:World)(s:fN)(j:Nat)(hj:j<8):(Instr.index 259 (.agg (nQ s).toArray) (.int .i64 (j:Int))).run prog w=.ok (.int .u64 ((ns s).getD j 0)) w:=by
 have h1:(0:Int)<=j/\(j:Int)<((8:Nat):Int):=by omega
 unfold Instr.index;simp only[aU,asIntOf,bQ,aH,run_underlying underlying259];rw[aE h1];simp only[aU,sizeOf24,aH,Int.toNat_natCast,mU];exact adx w (nQ s) j _ (Rb s j hj)
theorem zg{P:Program}{ops:Array Oper}{rest:List Oper}{o:Oper}{a:Act}{w:World}{Q:Exit->Act->World->Prop}(jt:Region.wanted o (yielded ops a.tmps)=true)(ty:TypeId){x y:Operand}(ho:o.op=.index ty x y){p q v:Value}(hx:a.eval x=p)(hy:a.eval y=q)(dM:(Instr.index ty p q).run P w=.ok v w)
  (h:wpList P ops Q rest (a.put o.dst v) w):wpList P ops Q (o :: rest) a w :=
 jz jt (by unfold execOp;simp only[ho,hx,hy,aU,dM,aH,bQ]) h
theorem wV{x:Int}(h0:0<=x)(h1:x<=64):x / 256 ^ 1=0:=lG h0 (by rw[show (256:Int) ^ 1=256 by decide];omega)
theorem EO{x:Int}(h:u64 x):x / 256 ^ 8=0:=lG h.1 (by rw[show (256:Int) ^ 8=18446744073709551616 by decide];have:=h.2;omega)
theorem Xi(n:Int)(h0:0<=n)(h1:n<4294967296):n / 256 ^ 4=0:=lG h0 (by rw[show (256:Int) ^ 4=4294967296 by decide];omega)
theorem adJ(s:fN)(hw:s.Wf)(hm:PO s)(k:Nat)(h:k<8):0<=(ns s).getD k 0/\(ns s).getD k 0 / 256 ^ (fw.getD k 0)=0:=by
 obtain ⟨⟨⟨a1,a2⟩,⟨a3,a4⟩,⟨a5,a6,-,-⟩,⟨a7,a8⟩,⟨a9,a10⟩⟩,-⟩:=hm;have:k=0\/k=1\/k=2\/k=3\/k=4\/k=5\/k=6\/k=7:=by omega
 rcases this with rfl | rfl | rfl | rfl | rfl | rfl | rfl | rfl
 ·exact⟨show (0:Int)<=1 by omega,show (1:Int) / 256 ^ 1=0 by decide⟩
 ·exact⟨show 0<=s.bl by omega,wV (x:=s.bl) (by omega) (by omega)⟩
 ·exact⟨show 0<=s.lc by omega,wV (x:=s.lc) (by omega) (by omega)⟩
 ·exact⟨show 0<=s.mr by omega,wV (x:=s.mr) (by omega) (by omega)⟩
 ·exact⟨show 0<=s.hi by omega,wV (x:=s.hi) (by omega) (by omega)⟩
 ·exact⟨show 0<=s.cl by omega,wV (x:=s.cl) (by omega) (by omega)⟩
 ·exact⟨hw.tail.1,EO hw.tail⟩
 ·exact⟨hw.ki.1,EO hw.ki⟩
theorem Hi(xs:List Int)(a:Nat)(ds:List Int):splice (U8 xs) a (U8 ds)=U8 (over xs a ds):=by
 simp[splice,over,U8,List.map_take,List.map_drop]
theorem oY(w:World)(C:Array Value)(n:Nat)(s:Nat)(hs:w.heap.size=s) :
  (convert 107 107 (.slice (some ⟨s,0,none⟩) n n)).run prog (w.alloc (.cells C 5))=.ok (.slice (some ⟨s,0,none⟩) n n) (w.alloc (.cells C 5 (C.size,C.size+1))):=by
 subst hs;exact Lib.run_convert_bytes_const w 107 5 C n n bK underlying5
theorem sR(w:World)(xs:List Int)(n:Nat)(fr:Nat × Nat)(hl:xs.length=n)(hb:Bytes xs):jK (w.alloc (.cells (U8 xs).toArray 5 fr)) (some ⟨w.heap.size,0,none⟩) n xs:=by
 refine⟨hl,hb,fun h0=>⟨_,0,rfl,fun i hi=>?_⟩⟩;rw[aW,aq _ w.heap.size i (U8 xs).toArray 5 fr (aG w _)];simp[U8,List.getD,List.getElem?_eq_getElem (show i<xs.length by omega)]
abbrev NM:Array Value:=#[.int .u8 87,.int .u8 73,.int .u8 67,.int .u8 75,.int .u8 69,.int .u8 84]
theorem wM:Bytes nm:=by intro x hx;simp[nm] at hx;omega
def aaR (s:fN):List Int:=if PO s then encS s else []
theorem JD(s:fN)(h:PO s):aaR s=encS s:=aE h
theorem aaQ(s:fN)(h:¬PO s):aaR s=[]:=aD h
theorem pU(s:fN)(hw:s.Wf)(hm:PO s)(w:World)(ht:qX w) :
  Calls prog 117 #[.agg (eL s).toArray] w fun e w'=>∃g,e=.returned (.tuple #[.slice (some ⟨g,0,none⟩) 64 64,.int .i64 0])/\Made w w' (some ⟨g,0,none⟩) 64 64 (encS s):=by
 have HW:=zH hw;have HM:=zH hm;have L1:Hid (_):=qY.Vw (bE.new 204 w (eL s):qY 204 _ _ s);have HS0:=zH (bE.new 204 w (eL s));have hc:=oh s hm;have HT:=zH ht;go_enter func117,ntmps117;go_wp2_with ((with_reducible refine aQ ?_);(refine aK (by rfl) 204 rfl rfl L1.out ?_);simp only[Act.put,zA,zB,zC])
 refine (yK s _).mono ?_;rintro e w1 ⟨rfl,b1⟩;rw[hc];have gj:=zH (kC b1);have Nv:=zH (bE.later HS0.out b1);clear b1 L1 hm hc hw ht HS0;have cv:=oY w1 NM 6 w1.heap.size rfl;have gD:Hid (Below w1.heap.size w1 (w1.alloc (.cells NM 5 (6,7)))):=ag w1 _;have HN2:Hid (jK (w1.alloc (.cells NM 5 (6,7))) (some ⟨w1.heap.size,0,none⟩) 6 nm):=sR w1 nm 6 (6,7) rfl wM;go_wp2_with fail;refine (Is (some ⟨w1.heap.size,0,none⟩) 6 6 nm 60 _ (by omega) (by omega) HN2.out).mono ?_;rintro e w3 ⟨rfl,g3,b3⟩;have vN:Hid (Below w1.heap.size w1 w3):=ah gD.out b3;have EY:=zH (bE.later Nv.out vN.out);have L3:=zH (qY.Vw EY.out);obtain ⟨g,hg⟩:∃g,g=(w1.alloc (.cells NM 5 (6,7))).heap.size:=⟨_,rfl⟩
 have HG:Hid (w.heap.size<=g):=by have:=gj.out.size;rw[hg];show _<=_;simp;omega
 rw[<-hg] at g3;have KA:=zH g3;rw[<-hg];clear b3 g3 gD HN2 hg cv;go_wp2_with ((with_reducible refine aQ ?_);(refine aK (by rfl) 204 rfl rfl L3.out ?_);simp only[Act.put,zA,zB,zC])
 refine (Iy s HM.out w3).mono ?_;rintro e w4 ⟨rfl,b4⟩;have HG4:Hid (bE 5 w4 g (U8 (pW s 0))/\Below w.heap.size w w4):=⟨KA.out.later b4,ah gj.out (ah vN.out b4)⟩
 clear b4 KA EY L3 vN Nv gj;go_wp2_with fail
 go_loopw [22] (fun i wr=>∃j:Nat,j<=8/\i=.int .i64 j/\Hid (bE 5 wr g (U8 (pW s j))/\Below w.heap.size w wr)) (fun i _=>8-(intOf i).toNat)
 case atStart=>exact⟨0,aI _,rfl,HG4.out⟩
 case round =>
  obtain ⟨j,hj,rfl,HR⟩:=hrel;clear HG4;by_cases eP:j<8
  ·obtain ⟨N,hN⟩:∃N,N=(ns s).getD j 0:=⟨_,rfl⟩
   obtain ⟨a0,ha0⟩:∃a0,a0=fa.getD j 0:=⟨_,rfl⟩
   obtain ⟨k0,Ti⟩:∃k0,k0=fw.getD j 0:=⟨_,rfl⟩
   have HI:Hid (∀w,(Instr.index 259 (.agg (nQ s).toArray) (.int .i64 (j:Int))).run prog w=.ok (.int .u64 N) w):=fun w=>by rw[hN];exact aai w s j eP
   have HF:Hid (0<=N/\N / 256 ^ k0=0):=by rw[hN,Ti];exact adJ s HW.out HM.out j eP
   have HK:=WL j eP;rw[<-ha0,<-Ti] at HK;obtain ⟨k1,k2,k3⟩:=HK;have HX:Hid (pW s (j+1)=over (pW s j) a0 (digits k0 N)):=by show _=_;rw[pW,<-hN,<-ha0,<-Ti]
   have HQ:Hid (∀w,SQ w->w.cell? ⟨0,j*2,none⟩=some (.int .i64 (a0:Int))/\w.cell? ⟨0,j*2+1,none⟩=some (.int .i64 (k0:Int))):=fun w h=>by
    have:=h j eP;rw[<-ha0,<-Ti,Nat.mul_comm 2 j] at this;exact this
   have YQ:Hid ((U8 (pW s j)).length=60):=by show _=_;rw[aX,EW s j (by omega)]
   have HTB:=zH ((HT.out.later HR.out.2).aeK);clear hN ha0 Ti;have hI:(a0:Int)<=60:=by omega
   have kG:¬60=a0:=by omega
   go_wp2_with ((with_reducible refine aQ ?_);(refine zg (by rfl) 259 rfl rfl rfl (HI.out _) ?_);simp only[Act.put,zA,zB,zC])
   refine zR (fun w'=>SQ w') HTB.out fun aa=>?_;refine gu 0 1 2 3 aa ?_;refine de 4 aa (fun w fc=>(HQ.out w fc).1) ?_;refine gu 5 6 7 8 aa ?_;refine tk 9 aa ?_;refine de 10 aa (fun w fc=>(HQ.out w fc).2) ?_;refine ck (rs:=[11]) (by kernel_rfl) (by simp) ?_;refine bu (by simp;rfl) (fun Kc aJ=>?_) bO;go_simp;refine (mo N k0 wr.drew HF.out.1 ⟨k1,k2⟩ HF.out.2).mono ?_;rintro e w5 ⟨p5,c5,rfl,m5⟩;have B5:=zH (xg m5.below);have G5:=zH (HR.out.1.later B5.out);have X5:=zH m5.read;have T5:=zH (HTB.out.later B5.out);clear m5;refine aJ.out _ _ T5.out (fun aa=>?_);clear aJ Kc;refine ck (rs:=[12]) (by kernel_rfl) (by simp) ?_;refine bu (by simp;rfl) (fun Kc aJ=>?_) bO;have hn:(U8 (digits k0 N)).length=Nat.min k0 (60-a0):=by rw[aX,dG];exact (fX (by omega)).symm
   have yu:0<(U8 (digits k0 N)).length->some (⟨g,a0,none⟩:Addr)=some ⟨g,a0,none⟩/\∃ad,p5=some ad/\∀j v,(U8 (digits k0 N))[j]?=some v->w5.cell? (ad.add j)=some v:=by
    intro _;obtain ⟨b,o,e,hc⟩:=X5.out.cells (by omega);refine⟨rfl,⟨b,o,none⟩,e,?_⟩;have h2:=X5.out;rw[e] at h2;exact h2.news
   have rY:a0+(U8 (digits k0 N)).length<=(U8 (pW s j)).length:=by rw[YQ.out,aX,dG];omega
   refine step_copy_splice rfl (.tmp 31) (.tmp 37) 107 107 rfl 5 bK Ho (some ⟨g,a0,none⟩) p5 (60-a0) (60-a0) k0 c5 rfl rfl g a0 (U8 (pW s j)) 5 G5.out (U8 (digits k0 N)) hn yu rY (eO _) w.heap.size w (ah HR.out.2 B5.out) HG.out ?_;intro w6 hg6 YE;have H6:Hid (bE 5 w6 g (U8 (pW s (j+1)))/\Below w.heap.size w w6):=by
    refine⟨?_,YE⟩;rw[HX.out,<-Hi];exact hg6.out
   have T6:=zH ((HT.out.later YE).aeK);clear hg6 YE hn yu rY;refine aJ.out _ _ T6.out (fun aa=>?_);clear aJ Kc;refine zD ?_;clear aa T6 G5 X5 T5 B5 HTB HR HI;go_wp2_with fail;go_roundw
   case rel=>exact⟨j+1,by omega,by go_num,H6.out⟩
   case measure=>simp[intOf];omega
  ·obtain rfl:j=8:=by omega
   have HG8:Hid (bE 5 wr g (U8 (body s))):=by have:=HR.out.1;rw[Sn] at this;exact this
   have PS:=zH HR.out.2;have HS8:Hid (zK wr (.slice (some ⟨g,0,none⟩) 60 60) (body s)):=by
    refine⟨_,60,60,rfl,⟨nI s,jc s,fun _=>⟨g,0,rfl,fun i hi=>?_⟩⟩,az _,fun e=>by cases e⟩;have hl:i<(body s).length:=by rw[nI];exact hi
    rw[aW,HG8.out.cell i];simp[U8,List.getD,List.getElem?_eq_getElem hl]
   have HL8:=zH (nI s);clear HR;go_wp2_with fail;refine (Ma (some ⟨g,0,none⟩) 60 60 (body s) HS8.out (by rw[HL8.out];omega) (HT.out.later PS.out).half).mono ?_;rintro e Gy ⟨rfl,Nq⟩;have Ye:=zH (HS8.out.later Nq);have Yn:Hid (Below w.heap.size w Gy):=ah PS.out Nq;have Tj:=yI (body s) (jc s);have HE:Hid (encS s=body s++digits 4 ((xx (body s):Nat):Int)):=rfl;have YT:=zH (tj s);clear Nq HS8 PS HG8;generalize xx (body s)=S at *;go_wp2_with fail;refine (mo (S:Int) 4 Gy (by omega) (by omega) (Xi _ (by omega) (by omega))).mono ?_;rintro e S_ ⟨p11,CH,rfl,Tb⟩;have HU:=zH (Ye.out.later Tb.below);have HV:=zH Tb.sin;have Ym:Hid (Below w.heap.size w S_):=ah Yn.out Tb.below;clear Tb Ye Yn;go_wp2_with fail;refine (BP _ _ _ _ HU.out HV.out 64 (by rw[<-HE.out];exact YT.out) (by omega)).mono ?_;rintro e w12 ⟨rfl,m12⟩;rw[<-HE.out] at m12;have CD:=zH m12;clear m12 HU HV;go_wp2_with fail;go_ret2;exact⟨S_.heap.size+1,rfl,eH CD.out.own Ym.out.size,CD.out.read,CD.out.le,CD.out.nil,ah Ym.out CD.out.below⟩
end Go.Proofs.Zq
namespace Go.Proofs.Zq
open Go.RowKit
theorem Fw{a b c d:Prop}(h:a\/b)(f:a->c)(g:b->d):c\/d:=by
 rcases h with h | h
 ·exact .inl (f h)
 ·exact .inr (g h)
structure Kept (S:Nat->Prop) (w w':World):Prop where
 os:w'.os=w.os
 tape:w'.tape=w.tape
 output:w'.output=w.output
 size:w.heap.size<=w'.heap.size
 block:∀k,k<w.heap.size->¬S k->w'.heap[k]?=w.heap[k]?
abbrev kX (S:Nat->Prop)(w:World):Nat->Prop:=fun k=>S k\/w.heap.size<=k
theorem Kept.refl(S:Nat->Prop)(w:World):Kept S w w:=⟨rfl,rfl,rfl,az _,fun _ _ _=>rfl⟩
theorem Kept.bP{S:Nat->Prop}{w w':World}(h:Below w.heap.size w w'):Kept S w w':=⟨h.os,h.tape,h.output,h.size,fun k hk _=>h.block k hk⟩
theorem Kept.trans{S T:Nat->Prop}{a b c:World}(h:Kept S a b)(k:Kept T b c)(hs:∀i,i<a.heap.size->T i->S i):Kept S a c :=
 ⟨k.os.trans h.os,k.tape.trans h.tape,k.output.trans h.output,bJ h.size k.size,fun i hi hn=>(k.block i (bN hi h.size) (fun t=>hn (hs i hi t))).trans (h.block i hi hn)⟩
theorem Kept.mono{S T:Nat->Prop}{a b:World}(h:Kept S a b)(hs:∀i,i<a.heap.size->S i->T i):Kept T a b :=
 ⟨h.os,h.tape,h.output,h.size,fun i hi hn=>h.block i hi (fun t=>hn (hs i hi t))⟩
theorem Kept.alloc{S:Nat->Prop}{a w:World}(h:Kept S a w)(o:Obj):Kept S a (w.alloc o) :=
 h.trans (T:=fun _=>False) (Kept.bP (ag w o)) (fun _ _ f=>f.elim)
theorem Kept.drew{S:Nat->Prop}{a w:World}(h:Kept S a w):Kept S a w.drew:=⟨h.os,h.tape,h.output,h.size,h.block⟩
theorem Kept.setCell{S:Nat->Prop}{a w:World}(h:Kept S a w){p:Addr}(hp:p.block<a.heap.size->S p.block)(u:Value):Kept S a (w.setCell p u) :=
 h.trans (T:=fun k=>k=p.block) ⟨rfl,rfl,rfl,by simp[World.setCell],fun k _ hk=>Below.heap_setCell _ _ _ _ hk⟩ (fun i hi e=>by subst e;exact hp hi)
theorem Kept.setCells{S:Nat->Prop}{a:World}{g:Nat}(hg:g<a.heap.size->S g):∀(vs:List Value) (o:Nat) (w:World),Kept S a w->Kept S a (w.setCells g o vs)
 | [],_,_,h=>h
 | v :: r,o,_,h=>Kept.setCells hg r (o+1) _ (h.setCell (p:=⟨g,o,none⟩) hg v)
theorem Kept.grown{S:Nat->Prop}{a w w':World}{row:Option Nat}(h:Kept S a w)(hg:w.grownBy w' row)(hr:∀k,row=some k->k<a.heap.size->S k):Kept S a w' :=
 h.trans (T:=fun k=>some k=row) ⟨hg.os,hg.tape,hg.output,hg.size,fun k hk hn=>hg.block k hk hn⟩ (fun i hi e=>hr i e.symm hi)
def pJ (w:World)(g:Nat)(t:TypeId)(sz:Nat):Prop:=∃cur,w.heap[g]?=some (.cells cur t (0,0))/\cur.size=sz
theorem pJ.lt{w:World}{g t sz:Nat}(h:pJ w g t sz):g<w.heap.size:=by
 obtain ⟨cur,h,_⟩:=h;exact (au.1 h).1
theorem pJ.same{w w':World}{g t sz:Nat}(h:pJ w g t sz)(e:w'.heap[g]?=w.heap[g]?):pJ w' g t sz:=by
 obtain ⟨cur,h,hs⟩:=h;exact⟨cur,e.trans h,hs⟩
theorem pJ.there{w:World}{g t sz:Nat}(h:pJ w g t sz)(o n:Nat)(hn:o+n<=sz):w.there g o n:=fun j hj=>by
 obtain ⟨cur,h,hs⟩:=h;refine⟨?_,mK w g (o+j) _ t h⟩;rw[aq w g (o+j) cur t (0,0) h,Array.getElem?_eq_getElem (by omega)];rfl
theorem pJ.setCell{w:World}{g g' o t sz:Nat}(h:pJ w g t sz)(v:Value):pJ (w.setCell ⟨g',o,none⟩ v) g t sz:=by
 by_cases e:g=g'
 ·subst e;obtain ⟨cur,h,hs⟩:=h;exact⟨_,heap_setCell_same w g o cur t v h,by simpa using hs⟩
 ·exact h.same (cJ w ⟨g',o,none⟩ g v e)
theorem pJ.setCells{g g' t sz:Nat}:∀(vs:List Value) (o:Nat) (w:World),pJ w g t sz->pJ (w.setCells g' o vs) g t sz
 | [],_,_,h=>h
 | v :: r,o,_,h=>pJ.setCells r (o+1) _ (h.setCell v)
theorem jZ{g k:Nat}(hk:k≠g):∀(vs:List Value) (o:Nat) (w:World),(w.setCells g o vs).heap[k]?=w.heap[k]?
 | [],_,_=>rfl
 | v :: r,o,w=>(jZ hk r (o+1) (w.setCell ⟨g,o,none⟩ v)).trans (cJ w ⟨g,o,none⟩ k v hk)
theorem jJ(g:Nat):∀(vs:List Value) (o:Nat) (w:World),w.drew.setCells g o vs=(w.setCells g o vs).drew
 | [],_,_=>rfl
 | v :: r,o,w=>jJ g r (o+1) (w.setCell ⟨g,o,none⟩ v)
theorem pJ.ne{w:World}{g g' t t' sz sz':Nat}(h:pJ w g t sz)(h':pJ w g' t' sz')(ht:t≠t'):g≠g':=by
 rintro rfl;obtain ⟨cur,h,_⟩:=h;obtain ⟨RW,h',_⟩:=h';rw[h] at h';simp only[aC,Obj.cells.injEq] at h';exact ht h'.2.1
theorem gL{w w':World}{g o:Nat}{cs:List Value}(h:w.rangeAt g o cs)(e:w'.heap[g]?=w.heap[g]?):w'.rangeAt g o cs:=fun j v hv=>by
 rw[dN (w:=w) (a:=⟨g,o+j,none⟩) e];exact h j v hv
structure Pl (w:World) (q n cap:Nat) (D N:Nat->List Int):Prop where
 bC:pJ w q 192 (cap*128)
 BF:n<=cap
 cm:cap<=maxLen
 dl:∀i,i<n->(D i).length=64
 nl:∀i,i<n->(N i).length=64
 ze:∀i,i<n->w.rangeAt q (i*128) (U8 (D i))
 new:∀i,i<n->w.rangeAt q (i*128+64) (U8 (N i))
theorem Pl.same{w w':World}{q n cap:Nat}{D N:Nat->List Int}(h:Pl w q n cap D N)(e:w'.heap[q]?=w.heap[q]?):Pl w' q n cap D N :=
 ⟨h.bC.same e,h.BF,h.cm,h.dl,h.nl,fun i hi=>gL (h.ze i hi) e,fun i hi=>gL (h.new i hi) e⟩
theorem Pl.congr{w:World}{q n cap:Nat}{D N D' N':Nat->List Int}(h:Pl w q n cap D N)(hd:∀i,i<n->D i=D' i)(hn:∀i,i<n->N i=N' i):Pl w q n cap D' N' :=
 ⟨h.bC,h.BF,h.cm,fun i hi=>by rw[<-hd i hi];exact h.dl i hi,fun i hi=>by rw[<-hn i hi];exact h.nl i hi,fun i hi=>by rw[<-hd i hi];exact h.ze i hi,fun i hi=>by rw[<-hn i hi];exact h.new i hi⟩
theorem Pl.agw{w:World}{q n cap s:Nat}{D N:Nat->List Int}(h:Pl w q n cap D N)(b:List Int)(hb:b.length=64)(hs:s<n):Pl (w.setCells q (s*128) (U8 b)) q n cap (fun i=>if i=s then b else D i) N:=by
 refine⟨pJ.setCells _ _ _ h.bC,h.BF,h.cm,fun i hi=>?_,h.nl,fun i hi=>?_,fun i hi=>?_⟩
 ·show (if i=s then b else D i).length=64;split
  ·exact hb
  ·exact h.dl i hi
 ·show (w.setCells q (s*128) (U8 b)).rangeAt q (i*128) (U8 (if i=s then b else D i));split
  ·rename_i e;subst e;exact World.rangeAt_setCells_same _ _ _ _ (h.bC.there _ _ (by rw[aX];have:=h.BF;omega))
  ·exact eZ (h.ze i hi) _ _ _ (by rw[aX,aX,hb,h.dl i hi];omega)
 ·exact eZ (h.new i hi) _ _ _ (by rw[aX,aX,hb,h.nl i hi];omega)
theorem Pl.adg{w:World}{q n cap s:Nat}{D N:Nat->List Int}(h:Pl w q n cap D N)(b:List Int)(hb:b.length=64)(hs:s<n):Pl (w.setCells q (s*128+64) (U8 b)) q n cap D (fun i=>if i=s then b else N i):=by
 refine⟨pJ.setCells _ _ _ h.bC,h.BF,h.cm,h.dl,fun i hi=>?_,fun i hi=>?_,fun i hi=>?_⟩
 ·show (if i=s then b else N i).length=64;split
  ·exact hb
  ·exact h.nl i hi
 ·exact eZ (h.ze i hi) _ _ _ (by rw[aX,aX,hb,h.dl i hi];omega)
 ·show (w.setCells q (s*128+64) (U8 b)).rangeAt q (i*128+64) (U8 (if i=s then b else N i));split
  ·rename_i e;subst e;exact World.rangeAt_setCells_same _ _ _ _ (h.bC.there _ _ (by rw[aX];have:=h.BF;omega))
  ·exact eZ (h.new i hi) _ _ _ (by rw[aX,aX,hb,h.nl i hi];omega)
def dy (x:Wr):List Value:=.int .i64 (x.s:Int) :: U8 x.b
def WC (ws:List Wr):List Value:=(ws.map dy).flatten
theorem Fa{n:Nat}{ws:List Wr}(h:Fit n ws):∀l∈ws.map dy,l.length=65:=fun l hl=>by
 obtain ⟨x,hx,rfl⟩:=cF.1 hl;simp[dy,(h x hx).2.1]
theorem abt(ws:List Wr)(x:Wr):WC (ws++[x])=WC ws++dy x:=by simp[WC]
theorem uF(x:Wr):∀u∈dy x,u.oneCell'=true:=fun u hu=>by
 rcases bZ.1 hu with rfl | hu
 ·rfl
 ·exact eO _ u hu
theorem Ej{w:World}{base e size:Nat}{g n cap:Nat}{xs:List Value}(h:w.ownsRow base e size (.slice (some ⟨g,0,none⟩) n cap) n xs):w.rangeAt g 0 xs:=fun j v hv=>by
 have:=h.cells (g:=g) rfl j v hv
 rwa [fo] at this
theorem oM{w:World}{base e size:Nat}{g n cap:Nat}{xs ys:List Value}{o:Nat}(h:w.ownsRow base e size (.slice (some ⟨g,0,none⟩) n cap) n xs)(hp:∀j v,ys[j]?=some v->xs[o+j]?=some v):w.rangeAt g o ys:=fun j v hv=>by
 have:=Ej h (o+j) v (hp j v hv)
 rwa [aW] at this
theorem gU{w:World}{base e size:Nat}{g n cap:Nat}{xs:List Value}(h:w.ownsRow base e size (.slice (some ⟨g,0,none⟩) n cap) n xs):pJ w g e (cap*size)/\n<=cap/\cap<=maxLen/\base<=g:=by
 rcases h.2 with ⟨h',_⟩ | ⟨g',lZ,cur,h',h1,hg,h2,h3,nV,_⟩
 ·simp at h'
 ·simp only[cE,aC,d_,gJ,nY] at h';obtain ⟨rfl,rfl⟩:=h';exact⟨⟨cur,hg,nV⟩,h2,h3,h1⟩
theorem iE{w:World}{base e size:Nat}{v:Value}{n:Nat}{xs:List Value}(h:w.ownsRow base e size v n xs):∃p cap,v=.slice p n cap/\(p=none->n=0/\cap=0)/\(∀a,p=some a->∃g,a=⟨g,0,none⟩):=by
 rcases h.2 with ⟨rfl,rfl⟩ | ⟨g,cap,cur,rfl,_⟩
 ·exact⟨none,0,rfl,fun _=>⟨rfl,rfl⟩,fun a e=>(by cases e)⟩
 ·exact⟨_,cap,rfl,fun e=>(by cases e),fun a e=>(by cases e;exact⟨g,rfl⟩)⟩
theorem gO{w w':World}{base e size:Nat}{v:Value}{n:Nat}{xs:List Value}(h:w.ownsRow base e size v n xs)(hb:∀k,v.ownBlock=some k->w'.heap[k]?=w.heap[k]?):w'.ownsRow base e size v n xs:=by
 refine⟨h.1,?_⟩;rcases h.2 with hn | ⟨g,cap,cur,rfl,h1,hg,rest⟩
 ·exact .inl hn
 ·exact .inr ⟨g,cap,cur,rfl,h1,(hb g rfl).trans hg,rest⟩
theorem gY{w:World}{base e size:Nat}{v:Value}{n:Nat}{xs:List Value}(h:w.ownsRow base e size v n xs){k:Nat}(hk:v.ownBlock=some k):∃sz,pJ w k e sz:=by
 rcases h.2 with ⟨rfl,_⟩ | ⟨g,cap,cur,rfl,h1,hg,_,_,nV,_⟩
 ·simp[Value.ownBlock] at hk
 ·simp only[Value.ownBlock,aC] at hk;subst hk;exact⟨_,cur,hg,nV⟩
structure PD (w:World) (S:Nat->Prop) (p n:Nat) (d:List Int) (ws:List Wr) (q cap:Nat) (v:Value):Prop where
 str:w.heap[p]?=some (.cells #[.slice (some ⟨q,0,none⟩) n cap,v] 121 (0,0))
 pl:Pl w q n cap (sec d) (newest ws d)
 wt:w.ownsRow 0 125 65 v ws.length (WC ws)
 sp:S p
 sq:S q
 sv:∀k,v.ownBlock=some k->S k
 n1:1<=n
 n2:n<=4096
 dl:d.length=64*n
 db:Bytes d
 fit:Fit n ws
def pz (w:World)(S:Nat->Prop)(p n:Nat)(d:List Int)(ws:List Wr):Prop:=∃q cap v,PD w S p n d ws q cap v
theorem PD.bC{w:World}{S:Nat->Prop}{p n:Nat}{d:List Int}{ws:List Wr}{q cap:Nat}{v:Value}(h:PD w S p n d ws q cap v):pJ w p 121 2:=⟨_,h.str,rfl⟩
theorem PD.pq{w:World}{S:Nat->Prop}{p n:Nat}{d:List Int}{ws:List Wr}{q cap:Nat}{v:Value}(h:PD w S p n d ws q cap v):p≠q:=h.bC.ne h.pl.bC (by decide)
theorem PD.pv{w:World}{S:Nat->Prop}{p n:Nat}{d:List Int}{ws:List Wr}{q cap:Nat}{v:Value}(h:PD w S p n d ws q cap v):∀k,v.ownBlock=some k->k≠p/\k≠q:=fun k hk=>by
 obtain ⟨sz,hb⟩:=gY h.wt hk;exact⟨hb.ne h.bC (by decide),hb.ne h.pl.bC (by decide)⟩
theorem PD.cell0{w:World}{S:Nat->Prop}{p n:Nat}{d:List Int}{ws:List Wr}{q cap:Nat}{v:Value}(h:PD w S p n d ws q cap v):w.cell? ⟨p,0,none⟩=some (.slice (some ⟨q,0,none⟩) n cap):=by
 rw[aq w p 0 _ 121 (0,0) h.str];rfl
theorem PD.nH{w:World}{S:Nat->Prop}{p n:Nat}{d:List Int}{ws:List Wr}{q cap:Nat}{v:Value}(h:PD w S p n d ws q cap v):w.cell? ⟨p,1,none⟩=some v:=by
 rw[aq w p 1 _ 121 (0,0) h.str];rfl
theorem PD.free{w:World}{S:Nat->Prop}{p n:Nat}{d:List Int}{ws:List Wr}{q cap:Nat}{v:Value}(h:PD w S p n d ws q cap v)(j:Nat):w.frozen? ⟨p,j,none⟩=false:=mK w p j _ 121 h.str
theorem PD.same{w w':World}{S T:Nat->Prop}{p n:Nat}{d:List Int}{ws:List Wr}{q cap:Nat}{v:Value}(h:PD w S p n d ws q cap v)(hs:∀k,k<w.heap.size->S k->T k)(e:∀k,k<w.heap.size->S k->w'.heap[k]?=w.heap[k]?):PD w' T p n d ws q cap v :=
 have hp:=h.bC.lt;have hq:=h.pl.bC.lt;have hv:∀k,v.ownBlock=some k->k<w.heap.size:=fun _ hk=>(gY h.wt hk).elim fun _ hb=>hb.lt
 ⟨(e p hp h.sp).trans h.str,h.pl.same (e q hq h.sq),gO h.wt (fun k hk=>e k (hv k hk) (h.sv k hk)),hs p hp h.sp,hs q hq h.sq,fun k hk=>hs k (hv k hk) (h.sv k hk),h.n1,h.n2,h.dl,h.db,h.fit⟩
theorem PD.later{w w':World}{S:Nat->Prop}{p n:Nat}{d:List Int}{ws:List Wr}{q cap:Nat}{v:Value}(h:PD w S p n d ws q cap v)(hb:Below w.heap.size w w'):PD w' S p n d ws q cap v :=
 h.same (fun _ _=>id) (fun k' kN _=>hb.block k' kN)
theorem PD.kept{w w':World}{S T:Nat->Prop}{p n:Nat}{d:List Int}{ws:List Wr}{q cap:Nat}{v:Value}(h:PD w S p n d ws q cap v)(hk:Kept T w w')(hd:∀k,S k->T k->False):PD w' S p n d ws q cap v :=
 h.same (fun _ _=>id) (fun k kN hs=>hk.block k kN (fun t=>hd k hs t))
theorem pz.later{w w':World}{S:Nat->Prop}{p n:Nat}{d:List Int}{ws:List Wr}(h:pz w S p n d ws)(hb:Below w.heap.size w w'):pz w' S p n d ws:=by
 obtain ⟨q,cap,v,h⟩:=h;exact⟨q,cap,v,h.later hb⟩
theorem pz.kept{w w':World}{S T:Nat->Prop}{p n:Nat}{d:List Int}{ws:List Wr}(h:pz w S p n d ws)(hk:Kept T w w')(hd:∀k,S k->T k->False):pz w' S p n d ws:=by
 obtain ⟨q,cap,v,h⟩:=h;exact⟨q,cap,v,h.kept hk hd⟩
theorem pz.mono{w:World}{S T:Nat->Prop}{p n:Nat}{d:List Int}{ws:List Wr}(h:pz w S p n d ws)(hs:∀k,k<w.heap.size->S k->T k):pz w T p n d ws:=by
 obtain ⟨q,cap,v,h⟩:=h;exact⟨q,cap,v,h.same hs (fun _ _ _=>rfl)⟩
open Go.Proofs.Tryz
theorem ad4:(prog.info? 192).map (fun i=>(i.zero,i.size,i.bytes))=some (some (.agg (List.replicate 128 (Value.int .u8 0)).toArray),128,128):=by kernel_rfl
theorem VP:(prog.info? 125).map (fun i=>(i.zero,i.size,i.bytes))=some (some (.agg (.int .i64 0 :: List.replicate 64 (Value.int .u8 0)).toArray),65,72):=by kernel_rfl
theorem sD:(prog.info? 123).map (·.size)=some 64:=by kernel_rfl
theorem AX:(prog.info? 125).map (·.size)=some 65:=by kernel_rfl
def QI (n:Nat)(i:Int):Int:=if 0<=i/\i<n then 0 else 40
theorem Ig(i:Int)(w:World)(p n:Nat)(q cap:Nat)(h0:w.cell? ⟨p,0,none⟩=some (.slice (some ⟨q,0,none⟩) n cap)) :
  Calls prog 112 #[.pointer (some ⟨p,0,none⟩),.int .i64 i] w fun e w'=>e=.returned (.int .i64 (QI n i))/\w=w':=by
 obtain ⟨r,hr⟩:∃r,Hid (QI n i=r):=⟨_,rfl⟩
 rw[hr.out];by_cases c1:i<0
 ·have e:r=40:=by rw[<-hr.out,QI,aD (by omega)]
  subst e;go_enter func112,ntmps112;go_wp2;go_ret;exact⟨rfl,rfl⟩
 ·by_cases c2:(n:Int)<=i
  ·have e:r=40:=by rw[<-hr.out,QI,aD (by omega)]
   subst e;go_enter func112,ntmps112;go_wp2;go_ret;exact⟨rfl,rfl⟩
  ·have e:r=0:=by rw[<-hr.out,QI,aE (by omega)]
   subst e;go_enter func112,ntmps112;go_wp2;go_ret;exact⟨rfl,rfl⟩
theorem Ae{w:World}{S:Nat->Prop}{p n:Nat}{d:List Int}{ws:List Wr}(h:pz w S p n d ws):Calls prog 170 #[.pointer (some ⟨p,0,none⟩)] w fun e w'=>e=.returned (.int .i64 n)/\w=w':=by
 obtain ⟨q,cap,v,h⟩:=h;have h0:=h.cell0;clear h;go_enter func170,ntmps170;go_wp2;go_ret;exact⟨rfl,rfl⟩
theorem JT(g o n c:Nat)(xs:List Int)(w:World)(hx:xs.length=n)(r_:n<=140737488355328)(hr:w.rangeAt g o (U8 xs)) :
  Calls prog 54 #[.slice (some ⟨g,o,none⟩) n c] w fun e w'=>∃v',e=.returned v'/\w'.ownsRow w.heap.size 5 1 v' n (U8 xs)/\Below w.heap.size w w' :=
 Xm _ n c xs w hx r_ (fun i hi=>by
  rw[fo];refine hr i _ ?_;simp[U8,List.getD,List.getElem?_eq_getElem (show i<xs.length by omega)])
theorem Vt(m:Nat)(v:Value)(hm:0<m)(n:Nat):madeCells (List.replicate m v).toArray n=(List.replicate n v).toArray:=by
 apply Array.ext
 ·simp[size_madeCells]
 ·intro i h1 h2;have h3:i % m<m:=Nat.mod_lt _ hm;simp[madeCells,h3]
theorem GK(n:Nat):madeCells (List.replicate 128 (Value.int .u8 0)).toArray n=(List.replicate n (Value.int .u8 0)).toArray:=Vt 128 _ (by omega) n
theorem ox(n i:Nat)(hi:i<n):sec (List.replicate (64*n) 0) i=List.replicate 64 0:=by
 simp only[sec,List.drop_replicate,List.take_replicate]
 congr 1;omega
theorem adK(w:World)(n:Nat)(hn:n<=4096):Pl (w.alloc (.cells (List.replicate (n*128) (Value.int .u8 0)).toArray 192)) w.heap.size n n (sec (List.replicate (64*n) 0)) (newest [] (List.replicate (64*n) 0)):=by
 have hb:=aG w (.cells (List.replicate (n*128) (Value.int .u8 0)).toArray 192);have hr:∀o,o+64<=n*128->(w.alloc (.cells (List.replicate (n*128) (Value.int .u8 0)).toArray 192)).rangeAt w.heap.size o (U8 (List.replicate 64 0)):=fun o ho j v hv=>by
  rw[U8,lD,List.getElem?_replicate] at hv;rw[aq _ _ _ _ 192 (0,0) hb,dV,List.getElem?_replicate];split at hv
  ·rw[aE (by omega)];exact hv
  ·cases hv
 refine⟨⟨_,hb,by simp⟩,az _,by unfold maxLen;omega,fun i hi=>?_,fun i hi=>?_,fun i hi=>?_,fun i hi=>?_⟩
 ·rw[ox n i hi];simp
 ·rw[rB,ox n i hi];simp
 ·rw[ox n i hi];exact hr _ (by omega)
 ·rw[rB,ox n i hi];exact hr _ (by omega)
theorem Vn(n:Nat)(w:World)(h1:1<=n)(h2:n<=4096):Calls prog 180 #[.int .i64 n] w fun e w'=>∃p,e=.returned (.tuple #[.pointer (some ⟨p,0,none⟩),.int .i64 0])/\pz w' (fun k=>w.heap.size<=k) p n (List.replicate (64*n) 0) []/\Below w.heap.size w w':=by
 obtain ⟨i0,hi,ij,gm,iL⟩:=cj ad4;have Jg:=run_make (P:=prog) w 118 192 i0 _ underlying118 hi ij .i64 .i64 (n:Int) (n:Int) (by omega) (iy _) (by rw[iL];omega) (by omega);rw[gm] at Jg;simp only[Int.toNat_natCast,Value.cells] at Jg;rw[GK] at Jg;have c1:¬(n:Int)<1:=by omega
 have c2:¬(4096:Int)<(n:Int):=by omega
 have HP:=zH (adK w n h2);obtain ⟨o,ho⟩:=zE (Obj.cells (List.replicate (n*128) (Value.int .u8 0)).toArray 192);rw[ho] at HP Jg;clear ho;go_enter func180,ntmps180;go_wp2;go_ret2;have jb:=ag (w.alloc o) (Obj.cells #[Value.slice (some ⟨w.heap.size,0,none⟩) n n,Value.slice none 0 0] 121);refine⟨w.heap.size+1,rfl,⟨w.heap.size,n,.slice none 0 0,?_⟩,kC jb⟩;refine⟨heap_alloc2_new w o _,HP.out.same (jb.block _ (by simp)),cq _ _ _ _,di _,az _,fun k hk=>(by simp[Value.ownBlock] at hk),h1,h2,by simp,Bytes.rep _ _ (by omega),Fit.nil _⟩
