import Derived.Test.YtcdjepkhdjpjcaaGreatDoorU01
import Derived.Deep.AppendLies
import Derived.Laws.AppendOwnNone
import Derived.Great.BuildSlice
set_option maxHeartbeats 20000000
set_option maxRecDepth 100000
namespace Go.Proofs.Zq
open Go.Proofs.Tryz
open Go.RowKit
theorem jK.str{w:World}{p:Option Addr}{n:Nat}{xs:List Int}(h:jK w p n xs)(c:Nat) :
  (convert 107 9 (.slice p n c)).run prog w=.ok (.string (strOfNums xs)) w:=by
 by_cases h0:0<n
 ·obtain ⟨b,o,rfl,hc⟩:=h.cells h0;exact run_convert_bytes_arg w 107 5 bK underlying5 b o n c xs h.len hc 9 underlying9
 ·obtain rfl:n=0:=by omega
  obtain rfl:xs=[]:=aZ h.len;rw[run_convert_bytes_string w 107 9 5 _ 0 c bK underlying5 underlying9];cases p <;> simp[Conv.bytesToString,loadCells];all_goals rfl
theorem rA{w:World}{base:Nat}{v:Value}{n:Nat}{xs:List Int}(h:w.ownsRow base 5 1 v n (U8 xs))(hb:Bytes xs):∃p c,v=.slice p n c/\jK w p n xs/\n<=c/\(p=none->c=0)/\c<=maxLen:=by
 have hl:xs.length=n:=by have:=h.1;simpa [U8] using this
 rcases h.2 with ⟨rfl,rfl⟩ | ⟨g,cap,cur,rfl,h1,hg,FX,MG,nV,uA⟩
 ·exact⟨none,0,rfl,⟨hl,hb,fun h0=>absurd h0 (gB 0)⟩,az _,fun _=>rfl,aI _⟩
 ·refine⟨_,cap,rfl,⟨hl,hb,fun h0=>⟨g,0,rfl,fun i hi=>?_⟩⟩,FX,(fun e=>by cases e),MG⟩;have:=h.cellAt i (by omega);rw[aW,this];simp[U8,List.getD,List.getElem?_eq_getElem (show i<xs.length by omega)]
theorem ye(w:World)(xs:List Int)(n:Nat)(hl:xs.length=n)(hb:Bytes xs):jK (w.alloc (.cells (U8 xs).toArray 5)) (some ⟨w.heap.size,0,none⟩) n xs:=by
 refine⟨hl,hb,fun h0=>⟨_,0,rfl,fun i hi=>?_⟩⟩;rw[aW,aq _ w.heap.size i (U8 xs).toArray 5 (0,0) (aG w _)];simp[U8,List.getD,List.getElem?_eq_getElem (show i<xs.length by omega)]
theorem ag(w:World)(o:Obj):Below w.heap.size w (w.alloc o):=(aV _ _).alloc (az _) o
theorem kC{w w':World}{o:Obj}(h:Below (w.alloc o).heap.size (w.alloc o) w'):Below w.heap.size w w':=(ag w o).trans (h.mono (by simp))
theorem ah{a b c:World}(h:Below a.heap.size a b)(k:Below b.heap.size b c):Below a.heap.size a c:=h.trans (k.mono h.size)
theorem av{B:Nat}{w:World}(nq:Nat):Below B w (w.drewN nq):=⟨rfl,rfl,rfl,az _,fun _ _=>rfl⟩
def zL (w:World):Prop:=∀i:Nat,i<16->w.cell? ⟨1,i,none⟩=some (.int .u32 ((table.getD i 0:Nat):Int))
theorem zL.at{w:World}(h:zL w)(y:Nat):w.cell? ⟨1,y % 16,none⟩=some (.int .u32 ((table.getD (y % 16) 0:Nat):Int)):=h _ (Nat.mod_lt _ (by omega))
theorem TP(y:Nat):table.getD (y % 16) 0<4294967296:=by
 rw[GV _ (Nat.mod_lt _ (by omega))];exact Jf _ _ (by omega)
theorem EL(w:World)(ht:zL w)(y:Nat)(hy:y<4294967296):∃t:Nat,w.cell? ⟨1,y % 16,none⟩=some (.int .u32 (t:Int)) /\
  bits .xor .u32 ((y:Int) / 16) (t:Int)=((hn 4 y:Nat):Int)/\bits .and .u32 (y:Int) 15=((y % 16:Nat):Int):=by
 refine⟨_,ht.at y,?_,?_⟩
 ·rw[<-aar,<-nL (y / 16) _ (by omega) (TP y)];rfl
 ·have:=u32_and_nat y 15 hy (by omega);rw[nat_mask4] at this;exact this
theorem UH(x:Nat)(c:Int)(hx:x<4294967296)(rZ:0<=c)(Kt:c<256)(w:World)(ht:zL w) :
  Calls prog 208 #[.int .u32 x,.int .u8 c] w fun e w'=>e=.returned (.int .u32 (hn 8 (x ^^^ c.toNat):Nat))/\w=w':=by
 obtain ⟨y,hy⟩:∃y,y=x ^^^ c.toNat:=⟨_,rfl⟩
 have hyl:y<4294967296:=by rw[hy];exact Ay _ _ hx (by omega)
 have h1:bits .xor .u32 (x:Int) c=(y:Int):=by
  rw[hy,<-nL x c.toNat hx (by omega)]
  congr 1
  omega
 obtain ⟨t,Yy,ht2,ht3⟩:=EL w ht y hyl;obtain ⟨z,hz⟩:∃z,z=hn 4 y:=⟨_,rfl⟩
 have hzl:z<4294967296:=by rw[hz];exact Jf _ _ hyl
 obtain ⟨s,GC,sV,hs3⟩:=EL w ht z hzl;rw[<-hz] at ht2;obtain ⟨r,hr⟩:∃r,r=hn 4 z:=⟨_,rfl⟩
 rw[<-hr] at sV;have HY:Hid (r=hn 8 (x ^^^ c.toNat)):=by
  show r=_;rw[hr,hz,hy,<-Wh]
 clear hy hz hr ht;go_enter func208,ntmps208;go_wp2;go_ret;refine⟨?_,rfl⟩;simp[HY.out]
theorem OQ(k y:Nat):hn (k+1) y=hv (hn k y):=by rw[Wh k 1];rfl
theorem Fh(x:Nat)(xs:List Int)(k:Nat)(hk:k<xs.length):st x (xs.take (k+1))=hn 8 (st x (xs.take k) ^^^ xs[k].toNat):=by
 rw[bw hk,DG];rfl
theorem TT(x:Nat)(ls:List (List Int))(k:Nat)(hk:k<ls.length):st x (ls.take (k+1)).flatten=st (st x (ls.take k).flatten) ls[k]:=by
 rw[tW ls k hk,DG]
theorem TO(x:Nat)(hx:x<4294967296):bits .xor .u32 IntKind.u32.max (x:Int)=((x ^^^ 4294967295:Nat):Int):=by
 rw[Nat.xor_comm,<-nL 4294967295 x (by omega) hx];rfl
theorem adI(b o n c:Nat)(vs:List Value)(ls:List (List Int))(w:World)(h:PIn w (some ⟨b,o,none⟩) n vs ls)(h0:0<n)(r_:ls.flatten.length<=140737488355328)(hnb:n<=140737488355328)(ht:zL w) :
  Calls prog 174 #[.slice (some ⟨b,o,none⟩) n c] w fun e w'=>e=.returned (.int .u32 (xx ls.flatten:Nat))/\w=w':=by
 have HV:=zH h.len;have HL:=zH h.Ml;have HT:=zH ht;have HB:Hid (∀l∈ls,Bytes l):=by
  intro l hl;obtain ⟨i,hi,rfl⟩:=fL hl;obtain ⟨p1,n1,c1,_,h1,_⟩:=h.parts i (by rw[h.len,<-h.Ml];exact hi) hi;exact h1.byte
 have HF:Hid (∀k,Bytes (ls.take k).flatten):=fun k=>Bytes.flatten (fun l hl=>HB.out l (eY hl));have HBl:=zH r_;clear ht r_;go_enter func174,ntmps174;go_wp2
 go_loop [3,10] (fun x i=>∃k:Nat,k<=n/\i=.int .i64 k/\x=.int .u32 (st 4294967295 (ls.take k).flatten:Nat)) (fun _ i=>n-(intOf i).toNat)
 case atStart=>exact⟨0,aI _,rfl,rfl⟩
 case round =>
  obtain ⟨k,hk,rfl,rfl⟩:=hrel;have aep:=Hg 4294967295 (ls.take k).flatten (by omega) (HF.out k);by_cases eP:k<n
  ·have EJ:k<vs.length:=by rw[HV.out];exact eP
   have vK:k<ls.length:=by rw[HL.out];exact eP
   obtain ⟨b',o',e,rZ⟩:=h.cells h0;simp only[aC,d_,gJ] at e;obtain ⟨rfl,rfl⟩:=e;have hc:=rZ k EJ;obtain ⟨p1,n1,c1,e1,h1,h2,h3⟩:=h.parts k EJ vK;rw[e1] at hc;have Cb:=od ls (k+1);have I_:jq ls (k+1)=jq ls k+n1:=by rw[qM ls k vK,h1.len]
   have Wi:n1<=140737488355328:=by have:=HBl.out;omega
   have HS:Hid (st 4294967295 (ls.take (k+1)).flatten=st (st 4294967295 (ls.take k).flatten) ls[k]):=TT _ ls k vK;have HP:=zH h1;have HK:=zH h1.byte;obtain ⟨y,hy⟩:∃y,y=st 4294967295 (ls.take k).flatten:=⟨_,rfl⟩
   obtain ⟨xs,Yu⟩:∃xs,xs=ls[k]:=⟨_,rfl⟩
   rw[<-Yu] at HP HK HS;rw[<-hy] at aep HS ⊢;clear rZ I_ Cb e1 h1 h2 h3 hy Yu;by_cases h1p:0<n1
   ·obtain ⟨b1,o1,rfl,hcs⟩:=HP.out.cells h1p;have HC:=zH hcs;have HX:=zH HP.out.len;clear hcs;go_wp2
    go_loop [3,16] (fun x i=>∃j:Nat,j<=n1/\i=.int .i64 j/\x=.int .u32 (st y (xs.take j):Nat)) (fun _ i=>n1-(intOf i).toNat)
    case atStart=>exact⟨0,aI _,rfl,rfl⟩
    case round =>
     obtain ⟨j,hj,rfl,rfl⟩:=hrel;have Wl:=Hg y (xs.take j) aep (HK.out.take j);by_cases Dg:j<n1
     ·have hcj:=HC.out j Dg;have Wm:j<xs.length:=by rw[HX.out];exact Dg
      have hb:=HK.out.at j Wm;have HJ:=zH (Fh y xs j Wm);rw[show xs.getD j 0=xs[j] by simp[List.getD,List.getElem?_eq_getElem Wm]] at hcj;obtain ⟨z,hz⟩:∃z,z=st y (xs.take j):=⟨_,rfl⟩
      rw[<-hz] at Wl HJ ⊢;obtain ⟨q,hq⟩:∃q,q=xs[j]:=⟨_,rfl⟩
      rw[<-hq] at hb HJ hcj;obtain ⟨yD,qj⟩:=hb;clear hz hq;go_wp2_with (go_at_call 208;refine (UH z q Wl yD qj _ HT.out).mono ?_;rintro e w' ⟨rfl,rfl⟩)
      go_round
      case rel=>exact⟨j+1,by omega,by go_num,by rw[HJ.out]⟩
      case measure=>simp[intOf];omega
     ·have HA:Hid (xs.take j=xs):=aL (by rw[HX.out];omega);go_wp2;go_round
      case rel=>exact⟨k+1,by omega,by go_num,by rw[HS.out,HA.out]⟩
      case measure=>simp[intOf];omega
   ·have gm:n1=0:=by omega
    subst gm;have HX:=zH (aZ HP.out.len);go_wp2;refine wp_loop_rounds 1 ?_;rw[rounds_succ];go_wp2;go_round
    case rel=>exact⟨k+1,by omega,by go_num,by rw[HS.out,HX.out];rfl⟩
    case measure=>simp[intOf];omega
  ·have HA:Hid ((ls.take k).flatten=ls.flatten):=wU ls k (by rw[HL.out];omega);go_wp2;go_ret;refine⟨?_,rfl⟩;have e:=TO _ aep;rw[HA.out] at e;simp only[HA.out];rw[xx,<-e];rfl
theorem ZW(p:Option Addr)(c:Nat)(w:World) :
  Calls prog 174 #[.slice p 0 c] w fun e w'=>e=.returned (.int .u32 0)/\w=w':=by
 go_enter func174,ntmps174;go_wp2;refine wp_loop_rounds 1 ?_;rw[rounds_succ];go_wp2;go_ret;exact⟨rfl,rfl⟩
theorem Vi(p:Option Addr)(n c:Nat)(vs:List Value)(ls:List (List Int))(w:World)(h:PIn w p n vs ls)(r_:ls.flatten.length<=140737488355328)(hnb:n<=140737488355328)(ht:zL w) :
  Calls prog 174 #[.slice p n c] w fun e w'=>e=.returned (.int .u32 (xx ls.flatten:Nat))/\w=w':=by
 by_cases h0:0<n
 ·obtain ⟨b,o,rfl,hc⟩:=h.cells h0;exact adI b o n c vs ls w h h0 r_ hnb ht
 ·obtain rfl:n=0:=by omega
  obtain rfl:ls=[]:=aZ h.Ml;refine (ZW p c w).mono ?_;rintro e w' ⟨rfl,hw⟩;exact⟨by rw[show xx ([]:List (List Int)).flatten=0 from rfl];rfl,hw⟩
theorem ade:(prog.info? 204).map (·.size)=some 7:=by kernel_rfl
theorem sF:(prog.info? 23).map (·.size)=some 5:=by kernel_rfl
theorem aX(xs:List Int):(U8 xs).length=xs.length:=by simp
def aN (s:fN):List Value:=[.int .i64 s.bl,.int .i64 s.lc,.int .i64 s.mr,.int .i64 s.hi,.int .i64 s.cl]
def eL (s:fN):List Value:=[.int .i64 s.bl,.int .i64 s.lc,.int .i64 s.mr,.int .i64 s.hi,.int .i64 s.cl,.int .u64 s.tail,.int .u64 s.ki]
theorem oI(s:fN):(eL s).length=7:=rfl
theorem kz(s:fN):(aN s).length=5:=rfl
theorem JU(s:fN):∀v∈aN s,v.oneCell'=true:=by
 intro v hv;simp only[aN,bZ,dL,or_false] at hv;rcases hv with rfl | rfl | rfl | rfl | rfl <;> rfl
theorem Nb(s:fN):(aN s).toArray.all (·.oneCell')=true:=gy (JU s)
def bE (t:TypeId)(w:World)(g:Nat)(cs:List Value):Prop:=w.heap[g]?=some (.cells cs.toArray t (0,0))
theorem bE.lt{t:TypeId}{w:World}{g:Nat}{cs:List Value}(h:bE t w g cs):g<w.heap.size:=(au.1 h).1
theorem bE.later{t:TypeId}{w w':World}{g:Nat}{cs:List Value}(h:bE t w g cs)(hb:Below w.heap.size w w'):bE t w' g cs:=(hb.block g h.lt).trans h
theorem bE.new(t:TypeId)(w:World)(cs:List Value):bE t (w.alloc (.cells cs.toArray t)) w.heap.size cs:=aG w _
theorem bE.cell{t:TypeId}{w:World}{g:Nat}{cs:List Value}(h:bE t w g cs)(j:Nat):w.cell? ⟨g,j,none⟩=cs[j]?:=by
 rw[aq w g j cs.toArray t (0,0) h];simp
theorem bE.range{t:TypeId}{w:World}{g:Nat}{cs:List Value}(h:bE t w g cs):w.rangeAt g 0 cs:=fun j v hv=>by
 rw[aW,h.cell j];exact hv
theorem bE.store{t:TypeId}{w:World}{g:Nat}{cs ds:List Value}(h:bE t w g cs)(ht:(prog.info? t).map (·.size)=some ds.length)(hl:ds.length=cs.length)(hd:ds.toArray.all (·.oneCell')=true) :
  (Instr.storeAt t (.pointer (some ⟨g,0,none⟩)) (.agg ds.toArray)).run prog w=.ok () (w.setRow g ds.toArray):=by
 simp only[Instr.storeAt,Instr.sureAddr,aU,bQ,aH,run_storeVar_row w g t t cs.toArray ds.toArray h (by rw[ht,aM]) (by rw[aM,aM,hl]) hd]
theorem bE.stored{t:TypeId}{w:World}{g:Nat}{cs:List Value}(h:bE t w g cs)(ds:List Value):bE t (w.setRow g ds.toArray) g ds:=cK w g _ _ t (0,0) h
theorem bE.set{t:TypeId}{w:World}{g:Nat}{cs:List Value}(h:bE t w g cs)(j:Nat)(v:Value):bE t (w.setCell ⟨g,j,none⟩ v) g (cs.set j v):=by
 have:=heap_setCell_same w g j _ t v h;simpa [bE] using this
abbrev qY (t:TypeId)(w:World)(g:Nat)(s:fN):Prop:=bE t w g (eL s)
abbrev fC (w:World)(g:Nat)(s:fN):Prop:=bE 23 w g (aN s)
theorem qY.c5{t:TypeId}{w:World}{g:Nat}{s:fN}(h:qY t w g s):w.cell? ⟨g,5,none⟩=some (.int .u64 s.tail):=bE.cell h 5
theorem qY.c6{t:TypeId}{w:World}{g:Nat}{s:fN}(h:qY t w g s):w.cell? ⟨g,6,none⟩=some (.int .u64 s.ki):=bE.cell h 6
theorem fC.c0{w:World}{g:Nat}{s:fN}(h:fC w g s):w.cell? ⟨g,0,none⟩=some (.int .i64 s.bl):=bE.cell h 0
theorem fC.c1{w:World}{g:Nat}{s:fN}(h:fC w g s):w.cell? ⟨g,1,none⟩=some (.int .i64 s.lc):=bE.cell h 1
theorem fC.c2{w:World}{g:Nat}{s:fN}(h:fC w g s):w.cell? ⟨g,2,none⟩=some (.int .i64 s.mr):=bE.cell h 2
theorem fC.c3{w:World}{g:Nat}{s:fN}(h:fC w g s):w.cell? ⟨g,3,none⟩=some (.int .i64 s.hi):=bE.cell h 3
theorem fC.c4{w:World}{g:Nat}{s:fN}(h:fC w g s):w.cell? ⟨g,4,none⟩=some (.int .i64 s.cl):=bE.cell h 4
theorem qY.Vw{t:TypeId}{w:World}{g:Nat}{s:fN}(h:qY t w g s):(Instr.loadAt 204 (.pointer (some ⟨g,0,none⟩))).run prog w=.ok (.agg (eL s).toArray) w :=
 b_ w g 0 204 (eL s) _ (bE.range h) underlying204 rfl (by rw[ade,oI])
theorem qY.ado{t:TypeId}{w:World}{g:Nat}{s:fN}(h:qY t w g s):w.rangeAt g 0 (aN s):=fun j v hv=>by
 have hj:j<5:=(aA.1 hv).1;rw[aW,bE.cell h j,<-hv];have:j=0\/j=1\/j=2\/j=3\/j=4:=by omega
 rcases this with rfl | rfl | rfl | rfl | rfl <;> rfl
theorem qY.gi{t:TypeId}{w:World}{g:Nat}{s:fN}(h:qY t w g s):(Instr.loadAt 23 (.pointer (some ⟨g,0,none⟩))).run prog w=.ok (.agg (aN s).toArray) w :=
 b_ w g 0 23 (aN s) _ (qY.ado h) underlying23 rfl (by rw[sF,kz])
theorem fC.gi{w:World}{g:Nat}{s:fN}(h:fC w g s):(Instr.loadAt 23 (.pointer (some ⟨g,0,none⟩))).run prog w=.ok (.agg (aN s).toArray) w :=
 b_ w g 0 23 (aN s) _ (bE.range h) underlying23 rfl (by rw[sF,kz])
theorem qC(off:Nat)(vs:List Value)(cs:List Value)(h:off+vs.length<=cs.length) :
  vs.toArray.zipIdx.foldl (fun cs (x:Value × Nat)=>cs.setIfInBounds (off+x.2) x.1) cs.toArray=(cs.take off++vs++cs.drop (off+vs.length)).toArray:=by
 rw[<-Array.foldl_toList,Array.toList_zipIdx];obtain ⟨h1,h2⟩:=Great.foldl_set off vs 0 cs.toArray;apply Array.ext_getElem?;intro k;have e:=h2 k;simp only[Nat.add_zero,aM] at e;refine Eq.trans e ?_;rw[dV,dV];by_cases c1:k<off
 ·rw[aD (by omega),aS,cg (by simp;omega),fG,aE c1]
 ·by_cases c2:k<off+vs.length
  ·rw[aE ⟨by omega,c2,by omega⟩,aS,aT (by simp;omega),cg (by simp;omega)]
   congr 1;simp;omega
  ·rw[aD (by omega),aT (by simp;omega),iH]
   congr 1;simp;omega
def placesOf (P:Program)(t:TypeId):Option (List (Nat × Nat)):=(P.underlying t).bind fun d=>match d with
 | .struct fs=>fs.toList.mapM (fun f=>(P.info? f.type).map fun i=>(f.offset,i.size))
 | _=>none
def UZ:List (Nat × Nat):=[(0,5),(5,1),(6,1)]
theorem UX:placesOf prog 204=some UZ:=by kernel_rfl
theorem ac1:(prog.info? 204).bind (·.zero)=some (.agg (eL qz).toArray):=by kernel_rfl
theorem ac3:(prog.info? 23).bind (·.zero)=some (.agg (aN qz).toArray):=by kernel_rfl
theorem jr(t:TypeId)(ps:List (Nat × Nat))(z:Value)(parts:List (Nat × Value))(hp:placesOf prog t=some ps)(hz:(prog.info? t).bind (·.zero)=some z):prog.built t parts=Instr.fill (ps.toArray[·]?) z.cells parts:=by
 unfold Program.built;unfold placesOf at hp;cases hu:prog.underlying t with
 | none=>simp[hu] at hp
 | some d =>
  cases hi:prog.info? t with
  | none=>simp[hi] at hz
  | some it =>
   simp only[hi,q_] at hz;simp only[hu,q_] at hp;cases d <;> first | (cases hp;done) | (simp only[hz,hp])
theorem dU{pl:List (Nat × Nat)}(off n:Nat)(i:Nat)(hp:pl.toArray[i]?=some (off,n))(v:Value)(vs cs:List Value)(hv:v.cells=vs.toArray)(hn:vs.length=n)(hl:off+n<=cs.length)(rest:List (Nat × Value)) :
  Instr.fill (pl.toArray[·]?) cs.toArray ((i,v) :: rest)=Instr.fill (pl.toArray[·]?) (cs.take off++vs++cs.drop (off+vs.length)).toArray rest:=by
 have a0:=qC off vs cs (by omega);have a1:vs.toArray.zipIdx.foldl (fun cs x=>match x with | (c,j)=>cs.setIfInBounds (off+j) c) cs.toArray=(cs.take off++vs++cs.drop (off+vs.length)).toArray:=a0;simp only[Instr.fill];rw[hp];dsimp only;rw[hv];simp only[aM];rw[aD (by simp[hn];omega),a1]
theorem WS(r s:fN)(rest:List (Nat × Value)):Instr.fill (UZ.toArray[·]?) (eL r).toArray ((0,.agg (aN s).toArray) :: rest)=Instr.fill (UZ.toArray[·]?) (eL ⟨s.bl,s.lc,s.mr,s.hi,s.cl,r.tail,r.ki⟩).toArray rest :=
 dU 0 5 0 rfl _ (aN s) _ rfl rfl (by rw[oI];omega) rest
theorem RO(r:fN)(x:Int)(rest:List (Nat × Value)):Instr.fill (UZ.toArray[·]?) (eL r).toArray ((1,.int .u64 x) :: rest)=Instr.fill (UZ.toArray[·]?) (eL ⟨r.bl,r.lc,r.mr,r.hi,r.cl,x,r.ki⟩).toArray rest :=
 dU 5 1 1 rfl _ [.int .u64 x] _ rfl rfl (by rw[oI];omega) rest
theorem RP(r:fN)(x:Int)(rest:List (Nat × Value)):Instr.fill (UZ.toArray[·]?) (eL r).toArray ((2,.int .u64 x) :: rest)=Instr.fill (UZ.toArray[·]?) (eL ⟨r.bl,r.lc,r.mr,r.hi,r.cl,r.tail,x⟩).toArray rest :=
 dU 6 1 2 rfl _ [.int .u64 x] _ rfl rfl (by rw[oI];omega) rest
theorem Cn(s:fN):Instr.fill (UZ.toArray[·]?) (eL qz).toArray [(0,.agg (aN s).toArray),(1,.int .u64 s.tail),(2,.int .u64 s.ki)]=some (eL s).toArray:=by
 rw[WS,RO,RP];rfl
theorem Pz(w:World)(parts:Array (Nat × Value))(r:fN)(h:Instr.fill (UZ.toArray[·]?) (eL qz).toArray parts.toList=some (eL r).toArray):(Instr.build 204 parts).run prog w=.ok (.agg (eL r).toArray) w :=
 eo w 204 _ _ ((jr 204 _ _ _ UX ac1).trans h)
section
variable {P:Program} {ops:Array Oper} {rest:List Oper} {o:Oper} {a:Act} {w w':World} {Q:Exit->Act->World->Prop}
theorem jz(jt:Region.wanted o (yielded ops a.tmps)=true){v:Value}(dM:(execOp a.eval o).run P w=.ok (.value v) w')(h:wpList P ops Q rest (a.put o.dst v) w'):wpList P ops Q (o :: rest) a w :=
 wpList_step fun K hK=>by
  rw[aE jt];unfold Oper.wp;rw[dM];exact hK _ _ h
theorem KG(jt:Region.wanted o (yielded ops a.tmps)=true)(dM:(execOp a.eval o).run P w=.ok .skip w')(h:wpList P ops Q rest (a.put o.dst undef) w'):wpList P ops Q (o :: rest) a w :=
 wpList_step fun K hK=>by
  rw[aE jt];unfold Oper.wp;rw[dM];exact hK _ _ h
theorem aK(jt:Region.wanted o (yielded ops a.tmps)=true)(ty:TypeId){x:Operand}(ho:o.op=.load ty x){p v:Value}(hx:a.eval x=p)(dM:(Instr.loadAt ty p).run P w=.ok v w)
  (h:wpList P ops Q rest (a.put o.dst v) w):wpList P ops Q (o :: rest) a w :=
 jz jt (by unfold execOp;simp only[ho,hx,aU,dM,aH,bQ]) h
theorem bh(jt:Region.wanted o (yielded ops a.tmps)=true)(ty:TypeId){ps:Array (Nat × Operand)}(ho:o.op=.build ty ps){vs:List (Nat × Value)}{v:Value}(hx:ps.toList.map (fun (i,x)=>(i,a.eval x))=vs)(dM:(Instr.build ty vs.toArray).run P w=.ok v w)
  (h:wpList P ops Q rest (a.put o.dst v) w):wpList P ops Q (o :: rest) a w :=
 jz jt (by unfold execOp;simp only[ho];rw[show ps.map (fun (i,x)=>(i,a.eval x))=vs.toArray by rw[<-hx,<-ny]];simp only[aU,dM,aH,bQ]) h
theorem nk(jt:Region.wanted o (yielded ops a.tmps)=true)(ty:TypeId){x y:Operand}{t2:TypeId}(ho:o.op=.binOp .eql ty x y t2){xs ys:Array Value}{v:Value}(hx:a.eval x=.agg xs)(hy:a.eval y=.agg ys)(hg:P.eqGuardType P.depth ty=false)(dM:(binOp .eql ty (.agg xs) (.agg ys)).run P w=.ok v w)
  (h:wpList P ops Q rest (a.put o.dst v) w):wpList P ops Q (o :: rest) a w :=
 jz jt (by unfold execOp;simp only[ho,hx,hy,aU,run_eqGuard_agg w .eql ty x y xs ys hg,dM,aH,bQ]) h
theorem iT(jt:Region.wanted o (yielded ops a.tmps)=true)(ty:TypeId)(ho:o.op=.alloc ty){v:Value}(dM:(Instr.alloc ty true (.tuple #[])).run P w=.ok v w')
  (h:wpList P ops Q rest (a.put o.dst v) w'):wpList P ops Q (o :: rest) a w :=
 jz jt (by unfold execOp;simp only[ho,aU,dM,aH,bQ]) h
theorem lu(jt:Region.wanted o (yielded ops a.tmps)=true)(ty:TypeId){x y:Operand}(ho:o.op=.store ty x y){p v:Value}(hx:a.eval x=p)(hy:a.eval y=v)(dM:(Instr.storeAt ty p v).run P w=.ok () w')
  (h:wpList P ops Q rest (a.put o.dst undef) w'):wpList P ops Q (o :: rest) a w :=
 KG jt (by unfold execOp;simp only[ho,hx,hy,aU,dM,aH,bQ]) h
end
theorem zv(t:TypeId)(z:Value)(hz:(prog.info? t).bind (·.zero)=some z)(w:World):(zeroValue t).run prog w=.ok z w:=by
 cases hi:prog.info? t with
 | none=>simp[hi] at hz
 | some it =>
  simp only[hi,q_] at hz;simp[zeroValue,typeInfo,hi,hz]
theorem PM(w:World):(Instr.alloc 23 true (.tuple #[])).run prog w=.ok (.pointer (some ⟨w.heap.size,0,none⟩)) (w.alloc (.cells (aN qz).toArray 23)):=by
 simp only[Instr.alloc,aU,zv 23 _ ac3,aH];simp[newVar,newRow,Value.cells]
theorem below_setRow{B g:Nat}{w w':World}(h:Below B w w')(hg:B<=g)(cs:Array Value):Below B w (w'.setRow g cs) :=
 ⟨h.os,h.tape,h.output,by rw[size_setRow];exact h.size,fun k hk=>(iu w' g k cs (by omega)).trans (h.block k hk)⟩
theorem PU:∀(u v:World),u.heap=v.heap->u.tape=v.tape->u.drawn=v.drawn->u.os=v.os->u.output=v.output->u=v
 | ⟨_,_,_,_,_⟩,⟨_,_,_,_,_⟩,h1,h2,h3,h4,h5=>by
  simp only at h1 h2 h3 h4 h5;subst h1 h2 h3 h4 h5;rfl
theorem jA(w:World)(a b:Array Value)(t:TypeId):(w.alloc (.cells a t)).setRow w.heap.size b=w.alloc (.cells b t):=by
 refine PU _ _ ?_ rfl rfl rfl rfl;apply Array.ext_getElem?;intro k;by_cases c:k=w.heap.size
 ·subst c;rw[cK _ _ a b t (0,0) (aG w _),aG]
 ·rw[iu _ _ _ _ c];show (w.heap.push _)[k]?=(w.heap.push _)[k]?;rw[Array.getElem?_push,Array.getElem?_push,aD c,aD c]
theorem sA(w:World)(s:fN):(Instr.storeAt 23 (.pointer (some ⟨w.heap.size,0,none⟩)) (.agg (aN s).toArray)).run prog (w.alloc (.cells (aN qz).toArray 23))=.ok () (w.alloc (.cells (aN s).toArray 23)):=by
 rw[(bE.new 23 w (aN qz)).store (ds:=aN s) sF rfl (Nb s),jA]
theorem adx(w:World)(cs:List Value)(o:Nat)(v:Int)(h:cs[o]?=some (.int .u64 v)):(part 52 cs.toArray o).run prog w=.ok (.int .u64 v) w:=by
 simp[part,isAgg,run_underlying underlying52,h]
theorem CV{fn:Func}{p:Tmp}{ty:TypeId}(h:fn.results=#[.cell p ty])(tmps:Array Value)(w:World)(g:Nat)(t:TypeId)(cs:List Value)(d:TypeDesc)
  (hp:tmps.getD p undef=.pointer (some ⟨g,0,none⟩)) (hg:bE t w g cs) (hu:prog.underlying ty=some d) (hd:d.isRow=true) (hi:(prog.info? ty).map (·.size)=some cs.length) :
  (results fn tmps).run prog w=.ok (.agg cs.toArray) w:=by
 have hp':tmps[p]?.getD undef=.pointer (some ⟨g,0,none⟩):=by simpa using hp
 simp[results,h,hp',asAddr,run_loadVar_mid w g 0 ty _ d (bE.range hg) hu hd hi]
def SQ (w:World):Prop:=∀i:Nat,i<8->w.cell? ⟨0,2*i,none⟩=some (.int .i64 ((fa.getD i 0:Nat):Int))/\w.cell? ⟨0,2*i+1,none⟩=some (.int .i64 ((fw.getD i 0:Nat):Int))
structure qX (w:World):Prop where
 half:zL w
 aeK:SQ w
theorem zL.later{w w':World}(h:zL w)(hb:Below w.heap.size w w'):zL w':=fun i hi=>by
 have hc:=h i hi;rw[hb.cell (p:=⟨1,i,none⟩) (cG w _ hc)];exact hc
theorem SQ.later{w w':World}(h:SQ w)(hb:Below w.heap.size w w'):SQ w':=fun i hi=>by
 have hc:=h i hi;rw[hb.cell (p:=⟨0,2*i,none⟩) (cG w _ hc.1),hb.cell (p:=⟨0,2*i+1,none⟩) (cG w _ hc.2)];exact hc
theorem qX.later{w w':World}(h:qX w)(hb:Below w.heap.size w w'):qX w':=⟨h.half.later hb,h.aeK.later hb⟩
theorem oD(n a b:Int)(w:World) :
  Calls prog 206 #[.int .i64 n,.int .i64 a,.int .i64 b] w fun e w'=>e=.returned (.bool (decide (a<=n/\n<=b)))/\w=w':=by
 go_enter func206,ntmps206;go_wp2;all_goals go_ret
 all_goals (refine⟨?_,rfl⟩;simp;try omega)
theorem aQ{P:Program}{ops:Array Oper}{rest:List Oper}{o:Oper}{a:Act}{w:World}{Q:Exit->Act->World->Prop}(h:wpList P ops Q (o :: rest) a w):wpList P ops Q (o :: rest) a w:=h
theorem GM{P:Program}{ops:Array Oper}{rest:List Oper}{o:Oper}{a:Act}{w:World}{Q:Exit->Act->World->Prop}(jt:o.guard=none)(x y z:Operand)(t:TypeId)
  (ho:o.op=.call { callee:=.builtin .min,args:=#[x,y,z],argTypes:=#[t,t,t] }) (p q r m:Int) (hx:a.eval x=.int .i64 p) (hy:a.eval y=.int .i64 q) (hz:a.eval z=.int .i64 r)
  (hm:(if r<(if q<p then q else p) then r else (if q<p then q else p))=m) (h:wpList P ops Q rest (a.put o.dst (.int .i64 m)) w):wpList P ops Q (o :: rest) a w:=by
 refine iQ jt fun K hK=>?_;subst hm;unfold Oper.wp;simp[execOp,ho,resolve,invoke,builtin,hx,hy,hz,run_min_int3,Result.andThen];exact hK _ _ h
theorem tY(s:fN)(h:iP s):cfg s=0:=aE h
theorem yL(s:fN)(h:¬iP s):cfg s=3:=aD h
theorem NI(s:fN):(s.mr<=IA s.bl s.lc)↔s.mr<=16/\s.mr<=s.bl/\s.mr<=s.lc-1:=by
 unfold IA;split <;> split <;> omega
theorem vz(s:fN)(w:World) :
  Calls prog 169 #[.agg (aN s).toArray] w fun e w'=>e=.returned (.int .i64 (cfg s))/\Below w.heap.size w w':=by
 have hA:fC (w.alloc (.cells (aN s).toArray 23)) w.heap.size s:=bE.new 23 w (aN s);have c0:=fC.c0 hA;have c1:=fC.c1 hA;have c2:=fC.c2 hA;have c3:=fC.c3 hA;have c4:=fC.c4 hA;have HB:Hid (Below w.heap.size w (w.alloc (.cells (aN s).toArray 23))):=ag w _;clear hA;go_enter func169,ntmps169;have HC1:=zH (tY s);have Du:=zH (yL s);go_wp2_with fail;refine (oD s.bl 1 64 _).mono ?_;rintro e w1 ⟨rfl,rfl⟩;by_cases h1:1<=s.bl/\s.bl<=64
 ·rw[aP h1];go_wp2_with fail;refine (oD s.lc 2 64 _).mono ?_;rintro e w1 ⟨rfl,rfl⟩;by_cases h2:2<=s.lc/\s.lc<=64
  ·rw[aP h2];have h2a:=h2.1;have h2b:=h2.2;go_wp2_with ((with_reducible refine aQ ?_);refine GM rfl _ _ _ _ rfl 16 s.bl (s.lc-1) (IA s.bl s.lc) rfl rfl rfl rfl ?_;simp only[Act.put,zA,zB,zC])
   refine (oD s.mr 1 (IA s.bl s.lc) _).mono ?_;rintro e w1 ⟨rfl,rfl⟩;by_cases h3:1<=s.mr/\s.mr<=IA s.bl s.lc
   ·rw[aP h3];go_wp2_with fail;refine (oD s.hi 1 s.lc _).mono ?_;rintro e w1 ⟨rfl,rfl⟩;by_cases h4:1<=s.hi/\s.hi<=s.lc
    ·rw[aP h4];go_wp2_with fail;refine (oD s.cl 1 8 _).mono ?_;rintro e w1 ⟨rfl,rfl⟩;by_cases h5:1<=s.cl/\s.cl<=8
     ·rw[aP h5];have HE:=HC1.out ⟨h1,h2,⟨h3.1,(NI s).1 h3.2⟩,h4,h5⟩;go_wp2_with fail;go_ret;exact⟨by rw[HE];rfl,HB.out⟩
     ·rw[aF h5];have HE:=Du.out (fun h=>h5 h.2.2.2.2);go_wp2_with fail;go_ret;exact⟨by rw[HE];rfl,HB.out⟩
    ·rw[aF h4];have HE:=Du.out (fun h=>h4 h.2.2.2.1);go_wp2_with fail;go_ret;exact⟨by rw[HE];rfl,HB.out⟩
   ·rw[aF h3];have HE:=Du.out (fun h=>h3 ⟨h.2.2.1.1,(NI s).2 h.2.2.1.2⟩);go_wp2_with fail;go_ret;exact⟨by rw[HE];rfl,HB.out⟩
  ·rw[aF h2];have HE:=Du.out (fun h=>h2 h.2.1);go_wp2_with fail;go_ret;exact⟨by rw[HE];rfl,HB.out⟩
 ·rw[aF h1];have HE:=Du.out (fun h=>h1 h.1);go_wp2_with fail;go_ret;exact⟨by rw[HE];rfl,HB.out⟩
theorem acE(s:fN)(h:¬iP s):vB s=3:=by unfold vB;rw[aD h]
theorem acD(s:fN)(h1:iP s)(h:¬Kf s):vB s=70:=by unfold vB;rw[aE h1,aD h]
theorem yK(s:fN)(w:World) :
  Calls prog 177 #[.agg (eL s).toArray] w fun e w'=>e=.returned (.int .i64 (vB s))/\Below w.heap.size w w':=by
 have HA:=zH (bE.new 204 w (eL s));have L1:=zH (qY.gi HA.out);have HB:Hid (Below w.heap.size w (w.alloc (.cells (eL s).toArray 204))):=ag w _;go_enter func177,ntmps177;go_wp2_with (refine aK (by rfl) 23 rfl rfl L1.out ?_)
 refine (vz s _).mono ?_;rintro e w1 ⟨rfl,b1⟩;have uE:=zH (bE.later HA.out b1);have gj:Hid (Below w.heap.size w w1):=ah HB.out b1;have c5:=qY.c5 uE.out;have c6:=qY.c6 uE.out;clear b1 HA HB L1;by_cases hc:iP s
 ·rw[tY s hc];by_cases ht:Kf s
  ·have h1:=ht.1;have h2:=ht.2.1;have h3:=ht.2.2;have HE:Hid (vB s=0):=oh s ⟨hc,ht⟩;clear hc ht;go_wp2;go_ret;exact⟨by rw[HE.out];rfl,gj.out⟩
  ·have HE:=zH (acD s hc ht);have ht':4611686018427387904<s.tail\/s.ki<1\/4611686018427387904<s.ki:=by simp only[Kf] at ht;omega
   clear hc ht;rcases ht' with h | h | h
   ·go_wp2;go_ret;exact⟨by rw[HE.out];rfl,gj.out⟩
   ·go_wp2;all_goals go_ret
    all_goals exact⟨by rw[HE.out];rfl,gj.out⟩
   ·go_wp2;all_goals go_ret
    all_goals exact⟨by rw[HE.out];rfl,gj.out⟩
 ·rw[yL s hc];have HE:=zH (acE s hc);clear hc;go_wp2_with fail;go_ret;exact⟨by rw[HE.out];rfl,gj.out⟩
structure Made (w w':World) (p:Option Addr) (n c:Nat) (xs:List Int):Prop where
 own:w'.ownsRow w.heap.size 5 1 (.slice p n c) n (U8 xs)
 read:jK w' p n xs
 le:n<=c
 nil:p=none->c=0
 below:Below w.heap.size w w'
theorem pQ{w w':World}{v:Value}{n:Nat}{xs:List Int}(ho:w'.ownsRow w.heap.size 5 1 v n (U8 xs))(hx:Bytes xs)(hb:Below w.heap.size w w'):∃p c,v=.slice p n c/\Made w w' p n c xs:=by
 obtain ⟨p,c,rfl,h,hc,hp,_⟩:=rA ho hx;exact⟨p,c,rfl,⟨ho,h,hc,hp,hb⟩⟩
theorem mo(n:Int)(k:Nat)(w:World)(yx:0<=n)(hk:1<=k/\k<=8)(hn:n / 256 ^ k=0) :
  Calls prog 179 #[.int .u64 n,.int .i64 k] w fun e w'=>∃p c,e=.returned (.slice p k c)/\Made w w' p k c (digits k n):=by
 go_enter func179,ntmps179;go_wp2_with fail;refine (LJ n k w yx hk hn).mono ?_;rintro e w1 ⟨v,rfl,ho,hb⟩;obtain ⟨p,c,rfl,hm⟩:=pQ ho (en k n) hb;clear ho hb hn;go_wp2_with fail;go_ret;exact⟨p,c,rfl,hm⟩
def nQ (s:fN):List Value:=(ns s).map (Value.int .u64)
theorem TZ:(prog.info? 259).map (·.size)=some 8:=by kernel_rfl
theorem acY:(prog.info? 259).bind (·.zero)=some (.agg (List.replicate 8 (Value.int .u64 0)).toArray):=by kernel_rfl
theorem abo(w:World):(Instr.alloc 259 true (.tuple #[])).run prog w=.ok (.pointer (some ⟨w.heap.size,0,none⟩)) (w.alloc (.cells (List.replicate 8 (Value.int .u64 0)).toArray 259)):=by
 simp only[Instr.alloc,aU,zv 259 _ acY,aH];simp[newVar,newRow,Value.cells]
theorem Me(s:fN):(nQ s).toArray.all (·.oneCell')=true:=by
 apply gy;intro v hv;simp only[nQ,ns,l_,List.map_nil,bZ,dL,or_false] at hv;rcases hv with rfl | rfl | rfl | rfl | rfl | rfl | rfl | rfl <;> rfl
theorem TC{x:Int}(h0:0<=x)(h1:x<=64):IntKind.u64.wrap x=x:=by rw[eD];omega
theorem Iy(s:fN)(hm:PO s)(w:World) :
  Calls prog 178 #[.agg (eL s).toArray] w fun e w'=>e=.returned (.agg (nQ s).toArray)/\Below w.heap.size w w':=by
 obtain ⟨⟨⟨a1,a2⟩,⟨a3,a4⟩,⟨a5,a6,-,-⟩,⟨a7,a8⟩,⟨a9,a10⟩⟩,-⟩:=hm;have q1:=TC (x:=s.bl) (by omega) (by omega);have q2:=TC (x:=s.lc) (by omega) (by omega);have q3:=TC (x:=s.mr) (by omega) (by omega);have q4:=TC (x:=s.hi) (by omega) (by omega);have q5:=TC (x:=s.cl) (by omega) (by omega);clear a1 a2 a3 a4 a5 a6 a7 a8 a9 a10;obtain ⟨w0,mI⟩:∃x,x=w.alloc (.cells (eL s).toArray 204):=⟨_,rfl⟩
 have OL:w0.heap.size=w.heap.size+1:=by rw[mI];simp
 have S0:qY 204 w0 w.heap.size s:=by rw[mI];exact bE.new 204 w (eL s)
 have B0:Below w.heap.size w w0:=by rw[mI];exact ag w _
 have A0:=zH (abo w0);obtain ⟨w1,dZ⟩:∃x,x=w0.alloc (.cells (List.replicate 8 (Value.int .u64 0)).toArray 259):=⟨_,rfl⟩
 have GC:w1.heap.size=w.heap.size+2:=by rw[dZ];simp[OL]
 have S1:qY 204 w1 w.heap.size s:=by rw[dZ];exact bE.later S0 (ag w0 _)
 have N1:bE 259 w1 (w.heap.size+1) (List.replicate 8 (Value.int .u64 0)):=by rw[dZ,<-OL];exact bE.new 259 w0 _
 have B1:Below w.heap.size w w1:=by rw[dZ];exact ah B0 (ag w0 _)
 rw[OL,<-dZ] at A0;have L1:=zH (qY.gi S1);have A1:=zH (PM w1);have T1:=zH (sA w1 s);obtain ⟨w2,gz⟩:∃x,x=w1.alloc (.cells (aN s).toArray 23):=⟨_,rfl⟩
 have S2:qY 204 w2 w.heap.size s:=by rw[gz];exact bE.later S1 (ag w1 _)
 have N2:bE 259 w2 (w.heap.size+1) (List.replicate 8 (Value.int .u64 0)):=by rw[gz];exact N1.later (ag w1 _)
 have C2:fC w2 (w.heap.size+2) s:=by rw[gz,<-GC];exact bE.new 23 w1 _
 have B2:Below w.heap.size w w2:=by rw[gz];exact ah B1 (ag w1 _)
 rw[GC,<-gz] at T1;rw[GC] at A1;have c0:=fC.c0 C2;have c1:=fC.c1 C2;have c2:=fC.c2 C2;have c3:=fC.c3 C2;have c4:=fC.c4 C2;have c5:=qY.c5 S2;have c6:=qY.c6 S2;have ST:Hid (_):=N2.store (ds:=nQ s) TZ rfl (Me s);have HF:Hid (bE 259 (w2.setRow (w.heap.size+1) (nQ s).toArray) (w.heap.size+1) (nQ s)/\Below w.heap.size w (w2.setRow (w.heap.size+1) (nQ s).toArray)):=⟨N2.stored _,below_setRow B2 (by omega) _⟩
 have e0:=mI.symm;clear mI dZ gz OL GC S0 S1 S2 N1 N2 C2 B0 B1 B2;go_enter func178,ntmps178;go_wp2_with ((with_reducible refine aQ ?_);(first | (refine iT (by rfl) 259 rfl A0.out ?_) | (refine aK (by rfl) 23 rfl rfl L1.out ?_) | (refine iT (by rfl) 23 rfl A1.out ?_) | (refine lu (by rfl) 23 rfl rfl rfl T1.out ?_) | (refine lu (by rfl) 259 rfl rfl rfl ST.out ?_));simp only[Act.put,zA,zB,zC])
 exact cC (CV results178 _ _ (w.heap.size+1) 259 _ _ (by rfl) HF.out.1 underlying259 rfl TZ) rfl ⟨rfl,HF.out.2⟩
