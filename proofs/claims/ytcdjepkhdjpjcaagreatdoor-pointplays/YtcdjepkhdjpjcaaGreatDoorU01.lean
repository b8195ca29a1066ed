import Derived.Test.YtcdjepkhdjpjcaaGreatDoorU00
import Derived.Laws.CopyOwn
set_option maxHeartbeats 20000000
set_option maxRecDepth 100000
namespace Go.Proofs.Zq
def Bytes (xs:List Int):Prop:=∀x∈xs,0<=x/\x<256
def digits:Nat->Int->List Int
 | 0,_=>[]
 | k+1,n=>(n % 256) :: digits k (n / 256)
theorem Bytes.nil:Bytes []:=fun x h=>by cases h
theorem Bytes.cons{x:Int}{r:List Int}(h:0<=x/\x<256)(hr:Bytes r):Bytes (x :: r):=fun y hy=>by
 rcases bZ.1 hy with rfl | hy
 ·exact h
 ·exact hr y hy
theorem Bytes.take{xs:List Int}(h:Bytes xs)(k:Nat):Bytes (xs.take k):=fun y hy=>h y (eY hy)
theorem Bytes.drop{xs:List Int}(h:Bytes xs)(k:Nat):Bytes (xs.drop k):=fun y hy=>h y (fE hy)
theorem Bytes.append{xs ys:List Int}(h:Bytes xs)(k:Bytes ys):Bytes (xs++ys):=fun y hy=>by
 rcases bH.1 hy with hy | hy
 ·exact h y hy
 ·exact k y hy
theorem Bytes.at{xs:List Int}(h:Bytes xs)(i:Nat)(hi:i<xs.length):0<=xs[i]/\xs[i]<256:=h _ (eA hi)
theorem pow_pos(k:Nat):(0:Int)<256 ^ k:=Int.pow_pos (by omega)
theorem dG:∀(k:Nat) (n:Int),(digits k n).length=k
 | 0,_=>rfl
 | k+1,n=>by simp[digits,dG k]
theorem en:∀(k:Nat) (n:Int),Bytes (digits k n)
 | 0,_=>Bytes.nil
 | k+1,n=>Bytes.cons (by omega) (en k _)
theorem oW:∀(k:Nat) (n:Int)(i:Nat)(hi:i<(digits k n).length),(digits k n)[i]=n / 256 ^ i % 256
 | 0,_,i,hi=>by simp[digits] at hi
 | k+1,n,0,_=>by simp[digits]
 | k+1,n,i+1,hi=>by
  have Aj:i<(digits k (n / 256)).length:=by simpa [digits] using hi
  have ih:=oW k (n / 256) i Aj;simp only[digits,lF];rw[ih,Int.pow_succ,Int.mul_comm,<-Int.ediv_ediv_of_nonneg (by omega)]
theorem UI(k:Nat):(256:Int) ^ k=2 ^ (8*k):=by rw[Int.pow_mul];rfl
theorem Zb(n:Int)(k:Nat)(h:n / 256 ^ k=0):(n / 2 ^ (8*k) != 0)=false:=by rw[<-UI,h];rfl
def filled (D:List Int)(j:Nat):List Int:=D.take j++List.replicate (D.length-j) 0
theorem Dl(D:List Int)(j:Nat)(h:j<=D.length):(filled D j).length=D.length:=by simp[filled];omega
theorem Jz(D:List Int):filled D 0=List.replicate D.length 0:=by simp[filled]
theorem MO(D:List Int)(j:Nat)(h:D.length<=j):filled D j=D:=by
 unfold filled;rw[aL h,Nat.sub_eq_zero_of_le h];simp
theorem JA(D:List Int)(j:Nat)(h:j<D.length):(filled D j).set j D[j]=filled D (j+1):=by
 unfold filled;have e:D.length-j=(D.length-(j+1))+1:=by omega
 rw[e,List.replicate_succ,qT _ _ (by simp;omega),bw h];have e2:j-(D.take j).length=0:=by simp;omega
 rw[e2,zB,aS];rfl
theorem abe(n:Int)(k j:Nat)(h:j<(digits k n).length):n / 2 ^ (8*j) % 256=(digits k n)[j]:=by
 rw[oW,UI]
theorem tW{α:Type}(ls:List (List α))(k:Nat)(hk:k<ls.length):(ls.take (k+1)).flatten=(ls.take k).flatten++ls[k]:=by
 rw[bw hk,List.flatten_append,List.flatten_cons,List.flatten_nil,jQ]
theorem WM{α:Type}(ls:List (List α))(k:Nat):(ls.take k).flatten.length<=ls.flatten.length:=by
 conv=>rhs;rw[<-eE k ls]
 rw[List.flatten_append,aO];omega
theorem wU{α:Type}(ls:List (List α))(k:Nat)(hk:ls.length<=k):(ls.take k).flatten=ls.flatten:=by rw[aL hk]
def jq {α:Type}(ls:List (List α))(k:Nat):Nat:=(ls.take k).flatten.length
theorem od{α:Type}(ls:List (List α))(k:Nat):jq ls k<=ls.flatten.length:=WM ls k
theorem qM{α:Type}(ls:List (List α))(k:Nat)(hk:k<ls.length):jq ls (k+1)=jq ls k+ls[k].length:=by
 unfold jq;rw[tW ls k hk,aO]
theorem wT{α:Type}(ls:List (List α))(k:Nat)(hk:ls.length<=k):jq ls k=ls.flatten.length:=by unfold jq;rw[wU ls k hk]
theorem Bytes.flatten{ls:List (List Int)}(h:∀l∈ls,Bytes l):Bytes ls.flatten:=fun x hx=>by
 obtain ⟨l,hl,hx⟩:=List.mem_flatten.1 hx;exact h l hl x hx
def hv (x:Nat):Nat:=x / 2 ^^^ (if x % 2=1 then 3988292384 else 0)
def hn:Nat->Nat->Nat
 | 0,x=>x
 | n+1,x=>hn n (hv x)
theorem aeb(a b:Nat):hv (a ^^^ b)=hv a ^^^ hv b:=by
 unfold hv;rw[Nat.xor_div_two];have hs:=Nat.testBit_xor (x:=a) (y:=b) (i:=0);simp only[Nat.testBit_zero] at hs;by_cases ha:a % 2=1 <;> by_cases hb:b % 2=1 <;> simp only[ha,hb,decide_true,decide_false,Bool.xor_self,Bool.xor_false,Bool.false_xor,gx,decide_eq_false_iff_not] at hs <;> simp only[ha,hb,hs,if_true,if_false,Nat.xor_zero]
 ·rw[Nat.xor_assoc,Nat.xor_comm 3988292384,Nat.xor_assoc,Nat.xor_self,Nat.xor_zero]
 ·rw[Nat.xor_assoc,Nat.xor_assoc,Nat.xor_comm 3988292384]
 ·rw[Nat.xor_assoc]
theorem ag7(x:Nat)(h:x<4294967296):hv x<4294967296:=by
 unfold hv;refine Nat.xor_lt_two_pow (n:=32) (by omega) ?_;split <;> omega
theorem aal(y:Nat):hv (2*y)=y:=by
 unfold hv;have:2*y % 2=0:=by omega
 simp[this]
theorem aen(n a b:Nat):hn n (a ^^^ b)=hn n a ^^^ hn n b:=by
 induction n generalizing a b with
 | zero=>rfl
 | succ n ih=>simp only[hn,aeb,ih]
theorem Wh(m n x:Nat):hn (m+n) x=hn n (hn m x):=by
 induction m generalizing x with
 | zero=>simp[hn]
 | succ m ih=>rw[Nat.succ_add];simp only[hn,ih]
theorem Jf(n x:Nat)(h:x<4294967296):hn n x<4294967296:=by
 induction n generalizing x with
 | zero=>exact h
 | succ n ih=>exact ih _ (ag7 x h)
theorem aeo(n y:Nat):hn n (2 ^ n*y)=y:=by
 induction n generalizing y with
 | zero=>simp[hn]
 | succ n ih =>
  rw[hn,Nat.pow_succ,Nat.mul_comm (2 ^ n) 2,Nat.mul_assoc,aal,ih]
theorem Ay(a b:Nat)(ha:a<4294967296)(hb:b<4294967296):a ^^^ b<4294967296:=Nat.xor_lt_two_pow (n:=32) ha hb
theorem Qc(k x:Nat):(2 ^ k*(x / 2 ^ k)) ^^^ (x % 2 ^ k)=x:=by
 apply Nat.eq_of_testBit_eq;intro i;rw[Nat.testBit_xor,Nat.testBit_mod_two_pow,Nat.testBit_two_pow_mul,Nat.testBit_div_two_pow];by_cases h:k<=i
 ·have h2:¬i<k:=by omega
  simp[h,h2,Nat.sub_add_cancel h]
 ·have h2:i<k:=by omega
  simp[h,h2]
theorem Wg(k x:Nat):hn k x=x / 2 ^ k ^^^ hn k (x % 2 ^ k):=by
 conv=>lhs;rw[<-Qc k x]
 rw[aen,aeo]
def table:List Nat:=[0x00000000,0x1db71064,0x3b6e20c8,0x26d930ac,0x76dc4190,0x6b6b51f4,0x4db26158,0x5005713c,0xedb88320,0xf00f9344,0xd6d6a3e8,0xcb61b38c,0x9b64c2b0,0x86d3d2d4,0xa00ae278,0xbdbdf21c]
theorem GV:∀r,r<16->table.getD r 0=hn 4 r:=by decide
theorem aar(x:Nat):x / 16 ^^^ table.getD (x % 16) 0=hn 4 x:=by
 rw[Wg 4 x,GV _ (Nat.mod_lt _ (by omega))]
def st (x:Nat):List Int->Nat
 | []=>x
 | c :: r=>st (hn 8 (x ^^^ c.toNat)) r
theorem DG(x:Nat)(a b:List Int):st x (a++b)=st (st x a) b:=by
 induction a generalizing x with
 | nil=>rfl
 | cons c r ih=>exact ih _
theorem Hg(x:Nat)(a:List Int)(hx:x<4294967296)(ha:∀c∈a,0<=c/\c<256):st x a<4294967296:=by
 induction a generalizing x with
 | nil=>exact hx
 | cons c r ih =>
  refine ih _ (Jf _ _ (Ay _ _ hx ?_)) (fun y hy=>ha y (cO _ hy));have:=ha c bS;omega
def xx (a:List Int):Nat:=st 4294967295 a ^^^ 4294967295
theorem yI(a:List Int)(ha:∀c∈a,0<=c/\c<256):xx a<4294967296:=Ay _ _ (Hg _ a (by omega) ha) (by omega)
structure fN where
 bl:Int
 lc:Int
 mr:Int
 hi:Int
 cl:Int
 tail:Int
 ki:Int
def zs (n:Nat):List Int:=List.replicate n 0
theorem bG(n:Nat):(zs n).length=n:=by simp[zs]
theorem jW(n:Nat):Bytes (zs n):=fun x hx=>by
 rw[n_ hx];omega
def qz:fN:=⟨0,0,0,0,0,0,0⟩
abbrev i64 (x:Int):Prop:=-9223372036854775808<=x/\x<=9223372036854775807
abbrev u64 (x:Int):Prop:=0<=x/\x<=18446744073709551615
structure fN.Wf (s:fN):Prop where
 bl:i64 s.bl
 lc:i64 s.lc
 mr:i64 s.mr
 hi:i64 s.hi
 cl:i64 s.cl
 tail:u64 s.tail
 ki:u64 s.ki
abbrev iP (s:fN):Prop:=(1<=s.bl/\s.bl<=64)/\(2<=s.lc/\s.lc<=64)/\(1<=s.mr/\s.mr<=16/\s.mr<=s.bl/\s.mr<=s.lc-1)/\(1<=s.hi/\s.hi<=s.lc)/\(1<=s.cl/\s.cl<=8)
abbrev Kf (s:fN):Prop:=s.tail<=4611686018427387904/\1<=s.ki/\s.ki<=4611686018427387904
abbrev PO (s:fN):Prop:=iP s/\Kf s
def cfg (s:fN):Int:=if iP s then 0 else 3
def vB (s:fN):Int:=if iP s then (if Kf s then 0 else 70) else 3
theorem oh(s:fN)(h:PO s):vB s=0:=by unfold vB;rw[aE h.1,aE h.2]
theorem aeZ(s:fN)(h:¬PO s):vB s=3\/vB s=70:=by
 unfold vB;by_cases h1:iP s
 ·rw[aE h1,aD fun h2=>h ⟨h1,h2⟩];exact .inr rfl
 ·rw[aD h1];exact .inl rfl
theorem Xn(s:fN):vB s=0↔PO s:=by
 constructor
 ·intro h;by_cases hm:PO s
  ·exact hm
  ·rcases aeZ s hm with h2 | h2 <;> rw[h2] at h <;> cases h
 ·exact oh s
def nm:List Int:=[87,73,67,75,69,84]
def body (s:fN):List Int:=nm++([1,0]++([s.bl % 256,s.lc % 256,s.mr % 256,s.hi % 256,s.cl % 256,0,0,0]++(digits 8 s.tail++(digits 8 s.ki++zs 28))))
def encS (s:fN):List Int:=body s++digits 4 (xx (body s):Nat)
theorem nI(s:fN):(body s).length=60:=by simp[body,nm,dG,bG]
theorem tj(s:fN):(encS s).length=64:=by simp[encS,nI,dG]
theorem jc(s:fN):Bytes (body s):=by
 unfold body;refine Bytes.append ?_ (Bytes.append ?_ (Bytes.append ?_ ((en _ _).append ((en _ _).append (jW _)))))
 ·intro x hx;simp[nm] at hx;omega
 ·intro x hx;simp at hx;omega
 ·intro x hx;simp at hx;omega
theorem rL(s:fN):Bytes (encS s):=(jc s).append (en _ _)
def fa:List Nat:=[6,8,9,10,11,12,16,24]
def fw:List Nat:=[1,1,1,1,1,1,8,8]
def ns (s:fN):List Int:=[1,s.bl,s.lc,s.mr,s.hi,s.cl,s.tail,s.ki]
def over (xs:List Int)(a:Nat)(ds:List Int):List Int:=xs.take a++ds++xs.drop (a+ds.length)
theorem Ve(xs:List Int)(a:Nat)(ds:List Int)(h:a+ds.length<=xs.length):(over xs a ds).length=xs.length:=by
 simp[over];omega
def pW (s:fN):Nat->List Int
 | 0=>nm++zs 54
 | k+1=>over (pW s k) (fa.getD k 0) (digits (fw.getD k 0) ((ns s).getD k 0))
theorem WL(k:Nat)(h:k<8):1<=fw.getD k 0/\fw.getD k 0<=8/\fa.getD k 0+fw.getD k 0<=32:=by
 have:k=0\/k=1\/k=2\/k=3\/k=4\/k=5\/k=6\/k=7:=by omega
 rcases this with rfl | rfl | rfl | rfl | rfl | rfl | rfl | rfl <;> decide
theorem EW(s:fN):∀k,k<=8->(pW s k).length=60
 | 0,_=>by simp[pW,nm,bG]
 | k+1,h=>by
  have ih:=EW s k (by omega);have:=WL k (by omega);rw[pW,Ve _ _ _ (by rw[dG,ih];omega),ih]
theorem Sn(s:fN):pW s 8=body s:=by kernel_rfl
def IA (b l:Int):Int:=if l-1<(if b<16 then b else 16) then l-1 else (if b<16 then b else 16)
structure Wr where
 s:Nat
 b:List Int
def sec (d:List Int)(i:Nat):List Int:=(d.drop (64*i)).take 64
def put (d:List Int)(s:Nat)(b:List Int):List Int:=d.take (64*s)++b++d.drop (64*s+64)
theorem oG{d:List Int}{n i:Nat}(hd:d.length=64*n)(hi:i<n):(sec d i).length=64:=by
 simp[sec,hd];omega
theorem ke{d b:List Int}{n s:Nat}(hd:d.length=64*n)(hs:s<n)(hb:b.length=64):(put d s b).length=64*n:=by
 simp[put,hd,hb];omega
theorem tH(d:List Int)(i j:Nat)(hj:j<64):(sec d i)[j]?=d[64*i+j]?:=by
 simp[sec,hj]
theorem Og{d b:List Int}{n s:Nat}(hd:d.length=64*n)(hs:s<n)(hb:b.length=64)(k:Nat):(put d s b)[k]?=if 64*s<=k/\k<64*s+64 then b[k-64*s]? else d[k]?:=by
 have h1:(d.take (64*s)).length=64*s:=by simp[hd];omega
 unfold put;by_cases c1:k<64*s
 ·rw[aS,cg (by omega),fG,aE c1,aD (by omega)]
 ·by_cases c2:k<64*s+64
  ·rw[aS,aT (by omega),h1,cg (by omega),aE (by omega)]
  ·rw[aT (by simp[hd,hb];omega),aD (by omega),iH]
   congr 1
   simp[hd,hb];omega
theorem Fk{d b:List Int}{n s:Nat}(hd:d.length=64*n)(hs:s<n)(hb:b.length=64):sec (put d s b) s=b:=by
 apply mH;intro j;by_cases hj:j<64
 ·rw[tH _ _ _ hj,Og hd hs hb,aE (by omega)]
  congr 1;omega
 ·rw[cS (by rw[oG (ke hd hs hb) hs];omega),cS (by omega)]
theorem ur{d b:List Int}{n s i:Nat}(hd:d.length=64*n)(hs:s<n)(hb:b.length=64)(hi:i<n)(kG:i≠s):sec (put d s b) i=sec d i:=by
 apply mH;intro j;by_cases hj:j<64
 ·rw[tH _ _ _ hj,tH _ _ _ hj,Og hd hs hb,aD (by omega)]
 ·rw[cS (by rw[oG (ke hd hs hb) hi];omega),cS (by rw[oG hd hi];omega)]
theorem Fl{d b:List Int}{n s i:Nat}(hd:d.length=64*n)(hs:s<n)(hb:b.length=64)(hi:i<n):sec (put d s b) i=if i=s then b else sec d i:=by
 by_cases h:i=s
 ·subst h;rw[aE rfl,Fk hd hs hb]
 ·rw[aD h,ur hd hs hb hi h]
theorem Uc(d:List Int)(i:Nat):d.take (64*(i+1))=d.take (64*i)++sec d i:=by
 rw[show 64*(i+1)=64*i+64 by omega,List.take_add];rfl
theorem aaL{d e:List Int}{n:Nat}(hd:d.length=64*n)(he:e.length=64*n)(h:∀i,i<n->sec d i=sec e i):d=e:=by
 apply mH;intro k;by_cases hk:k<64*n
 ·have h1:=tH d (k / 64) (k % 64) (by omega);have h2:=tH e (k / 64) (k % 64) (by omega);rw[h (k / 64) (by omega),h2] at h1;rw[show 64*(k / 64)+k % 64=k by omega] at h1;exact h1.symm
 ·rw[cS (by omega),cS (by omega)]
theorem Bytes.getD{xs:List Int}(h:Bytes xs)(i:Nat):0<=xs.getD i 0/\xs.getD i 0<256:=by
 by_cases hi:i<xs.length
 ·simp only[List.getD,ay hi,kT];exact h.at i hi
 ·simp[List.getD,List.getElem?_eq_none (show xs.length<=i by omega)]
theorem Bytes.rep(n:Nat)(x:Int)(h:0<=x/\x<256):Bytes (List.replicate n x):=fun y hy=>by
 rw[List.mem_replicate] at hy;rw[hy.2];exact h
theorem Bytes.sec{d:List Int}(h:Bytes d)(i:Nat):Bytes (sec d i):=(h.drop _).take _
theorem Bytes.put{d b:List Int}(h:Bytes d)(hb:Bytes b)(s:Nat):Bytes (put d s b):=((h.take _).append hb).append (h.drop _)
theorem pT{α:Type}{m:Nat}:∀(L:List (List α)) (_:∀l∈L,l.length=m) (i:Nat) (h:i<L.length) (j:Nat) (_:j<m),L.flatten[m*i+j]?=L[i][j]?
 | [],_,i,h,_,_=>by simp at h
 | a :: r,hl,0,_,j,hj=>by
  have ha:=hl a bS;simp only[List.flatten_cons,Nat.mul_zero,aW,List.getElem_cons_zero];rw[cg (by omega)]
 | a :: r,hl,i+1,h,j,hj=>by
  have ha:=hl a bS;simp only[List.flatten_cons,lF];rw[aT (by rw[ha,Nat.mul_add];omega),<-pT r (fun l qi=>hl l (cO _ qi)) i (by simpa using h) j hj]
  congr 1
  rw[ha,Nat.mul_add];omega
def m_ (K:Nat->Bool)(ws:List Wr)(d:List Int):Nat->List Int
 | 0=>d
 | k+1=>match ws[k]? with
  | some x=>if K k then put (m_ K ws d k) x.s x.b else m_ K ws d k
  | none=>m_ K ws d k
def Db (ws:List Wr)(d:List Int)(i:Nat):Nat->List Int
 | 0=>sec d i
 | k+1=>match ws[k]? with
  | some x=>if x.s=i then x.b else Db ws d i k
  | none=>Db ws d i k
def newest (ws:List Wr)(d:List Int)(i:Nat):List Int:=Db ws d i ws.length
def settle (K:Nat->Bool)(ws:List Wr)(d:List Int):List Int:=m_ K ws d ws.length
def Fit (n:Nat)(ws:List Wr):Prop:=∀x∈ws,x.s<n/\x.b.length=64/\Bytes x.b
theorem Fit.nil(n:Nat):Fit n []:=fun x h=>by cases h
theorem Fit.at{n:Nat}{ws:List Wr}(h:Fit n ws)(i:Nat)(hi:i<ws.length):ws[i].s<n/\ws[i].b.length=64/\Bytes ws[i].b:=h _ (eA hi)
theorem Fit.snoc{n:Nat}{ws:List Wr}(h:Fit n ws){s:Nat}{b:List Int}(hs:s<n)(hb:b.length=64)(hy:Bytes b):Fit n (ws++[⟨s,b⟩]):=fun x hx=>by
 rcases bH.1 hx with hx | hx
 ·exact h x hx
 ·rcases bg.1 hx with rfl;exact⟨hs,hb,hy⟩
theorem mZ(K:Nat->Bool)(ws:List Wr)(d:List Int)(k:Nat)(hk:k<ws.length):m_ K ws d (k+1)=if K k then put (m_ K ws d k) ws[k].s ws[k].b else m_ K ws d k:=by
 simp[m_,List.getElem?_eq_getElem hk]
theorem tO(ws:List Wr)(d:List Int)(i k:Nat)(hk:k<ws.length):Db ws d i (k+1)=if ws[k].s=i then ws[k].b else Db ws d i k:=by
 simp[Db,List.getElem?_eq_getElem hk]
theorem iD{K:Nat->Bool}{ws:List Wr}{d:List Int}{n:Nat}(hd:d.length=64*n)(hw:Fit n ws):∀k,(m_ K ws d k).length=64*n
 | 0=>hd
 | k+1=>by
  by_cases hk:k<ws.length
  ·rw[mZ K ws d k hk];split
   ·exact ke (iD hd hw k) (hw.at k hk).1 (hw.at k hk).2.1
   ·exact iD hd hw k
  ·simp[m_,List.getElem?_eq_none (show ws.length<=k by omega)];exact iD hd hw k
theorem oF{K:Nat->Bool}{ws:List Wr}{d:List Int}{n:Nat}(hd:Bytes d)(hw:Fit n ws):∀k,Bytes (m_ K ws d k)
 | 0=>hd
 | k+1=>by
  by_cases hk:k<ws.length
  ·rw[mZ K ws d k hk];split
   ·exact (oF hd hw k).put (hw.at k hk).2.2 _
   ·exact oF hd hw k
  ·simp[m_,List.getElem?_eq_none (show ws.length<=k by omega)];exact oF hd hw k
theorem Er(ws:List Wr)(d:List Int)(i:Nat)(x:Wr):∀k,k<=ws.length->Db (ws++[x]) d i k=Db ws d i k
 | 0,_=>rfl
 | k+1,h=>by
  rw[tO _ d i k (by simp;omega),tO ws d i k (by omega),Er ws d i x k (by omega),dX (by omega)]
theorem Iz(ws:List Wr)(d:List Int)(i s:Nat)(b:List Int):newest (ws++[⟨s,b⟩]) d i=if i=s then b else newest ws d i:=by
 unfold newest;rw[aO,fO,tO _ d i _ (by simp),Er _ _ _ _ _ (az _)];simp only[mV,eq_comm]
theorem rB(d:List Int)(i:Nat):newest [] d i=sec d i:=rfl
theorem AZ{K:Nat->Bool}{ws:List Wr}{d:List Int}{n i:Nat}(hd:d.length=64*n)(hw:Fit n ws)(hi:i<n):∀k,(∀j (hj:j<ws.length),j<k->ws[j].s≠i)->sec (m_ K ws d k) i=sec d i
 | 0,_=>rfl
 | k+1,h=>by
  have ih:=AZ (K:=K) hd hw hi k (fun j hj RC=>h j hj (by omega));by_cases hk:k<ws.length
  ·rw[mZ K ws d k hk];split
   ·rw[ur (iD hd hw k) (hw.at k hk).1 (hw.at k hk).2.1 hi (fun e=>h k hk (by omega) e.symm),ih]
   ·exact ih
  ·simp only[m_,cS (show ws.length<=k by omega)];exact ih
theorem BA{ws:List Wr}{d:List Int}{i:Nat}:∀k,(∀j (hj:j<ws.length),j<k->ws[j].s≠i)->Db ws d i k=sec d i
 | 0,_=>rfl
 | k+1,h=>by
  have ih:=BA (d:=d) k (fun j hj RC=>h j hj (by omega));by_cases hk:k<ws.length
  ·rw[tO ws d i k hk,aD (h k hk (by omega)),ih]
  ·simp only[Db,cS (show ws.length<=k by omega)];exact ih
def again (e:List Int)(ws:List Wr)(d:List Int)(i:Nat):Nat->List Int
 | 0=>newest ws d i
 | k+1=>match ws[k]? with
  | some x=>if x.s=i then sec e i else again e ws d i k
  | none=>again e ws d i k
theorem vE(e:List Int)(ws:List Wr)(d:List Int)(i k:Nat)(hk:k<ws.length):again e ws d i (k+1)=if ws[k].s=i then sec e i else again e ws d i k:=by
 simp[again,List.getElem?_eq_getElem hk]
theorem J_(e:List Int)(ws:List Wr)(d:List Int)(i:Nat):∀k,again e ws d i k=sec e i\/(again e ws d i k=newest ws d i/\∀j (hj:j<ws.length),j<k->ws[j].s≠i)
 | 0=>.inr ⟨rfl,fun _ _ h=>by omega⟩
 | k+1=>by
  rcases J_ e ws d i k with h | ⟨h,hq⟩
  ·left;by_cases hk:k<ws.length
   ·rw[vE e ws d i k hk];split <;> simp[h]
   ·simp only[again,cS (show ws.length<=k by omega)];exact h
  ·by_cases hk:k<ws.length
   ·rw[vE e ws d i k hk];by_cases c:ws[k].s=i
    ·left;rw[aE c]
    ·right;rw[aD c];exact⟨h,fun j hj RC=>by
      by_cases e2:j=k
      ·subst e2;exact c
      ·exact hq j hj (by omega)⟩
   ·right;simp only[again,cS (show ws.length<=k by omega)];exact⟨h,fun j hj RC=>hq j hj (by omega)⟩
theorem Sy{K:Nat->Bool}{ws:List Wr}{d:List Int}{n i:Nat}(hd:d.length=64*n)(hw:Fit n ws)(hi:i<n):again (settle K ws d) ws d i ws.length=sec (settle K ws d) i:=by
 rcases J_ (settle K ws d) ws d i ws.length with h | ⟨h,hq⟩
 ·exact h
 ·rw[h];unfold settle newest;rw[AZ hd hw hi _ (fun j hj _=>hq j hj hj),BA _ (fun j hj _=>hq j hj hj)]
end Go.Proofs.Zq
namespace Go.Proofs.Zq.R
structure Rec where
 kind:Int
 pos:Int
 block:Int
 val:List Int
 eN:Int
def iO:Rec:=⟨0,0,0,zs 32,0⟩
structure Rec.Wf (r:Rec):Prop where
 k0:-9223372036854775808<=r.kind
 k1:r.kind<=9223372036854775807
 p0:0<=r.pos
 p1:r.pos<=18446744073709551615
 b0:-9223372036854775808<=r.block
 b1:r.block<=9223372036854775807
 i0:-9223372036854775808<=r.eN
 i1:r.eN<=9223372036854775807
 len:r.val.length=32
 byte:Bytes r.val
def FN (r:Rec):Prop:=r.kind=1/\0<=r.block/\r.block<64/\r.eN=0
def BQ (r:Rec):Prop:=r.kind=2/\0<=r.eN/\r.eN<=16/\r.block=0/\r.val=zs 32
def qh (r:Rec):Bool:=r.kind == 1 && (decide (0<=r.block) && (decide (r.block<64) && r.eN == 0))
def nt (r:Rec):Bool:=r.kind == 2 && (decide (0<=r.eN) && (decide (r.eN<=16) && (r.block == 0 && decide (r.val=zs 32))))
theorem Mu(r:Rec):qh r=true↔FN r:=by simp[qh,FN]
theorem JP(r:Rec):nt r=true↔BQ r:=by simp[nt,BQ]
def may (r:Rec):Bool:=decide (r.pos<=4611686018427387904) && (qh r || nt r)
theorem wN(r:Rec):may r=true↔r.pos<=4611686018427387904/\(FN r\/BQ r):=by
 simp[may,<-Mu,<-JP]
def vB (r:Rec):Int:=if may r then 0 else 60
def qg (r:Rec):Int:=if r.kind=1 then r.block else r.eN
theorem Fy(r:Rec)(h:may r=true):0<=qg r/\qg r<64:=by
 rw[wN] at h;unfold qg;rcases h.2 with h2 | h2
 ·rw[aE h2.1];exact⟨h2.2.1,h2.2.2.1⟩
 ·have:=h2.1;rw[aD (by omega)];have:=h2.2.1;have:=h2.2.2.1;omega
def head (r:Rec):List Int:=[87]++[r.kind]++[0,0]++digits 8 r.pos++digits 4 (qg r)++r.val
def body (r:Rec):List Int:=head r++zs 12
def encS (r:Rec):List Int:=body r++digits 4 (xx (body r):Nat)
theorem Jl(r:Rec)(h:r.val.length=32):(head r).length=48:=by simp[head,dG,h]
theorem nI(r:Rec)(h:r.val.length=32):(body r).length=60:=by simp[body,Jl r h,bG]
theorem tj(r:Rec)(h:r.val.length=32):(encS r).length=64:=by simp[encS,nI r h,dG]
theorem BG{r:Rec}(h:may r=true):r.kind=1\/r.kind=2:=by
 rw[wN] at h;rcases h.2 with h2 | h2
 ·exact .inl h2.1
 ·exact .inr h2.1
theorem Cc(r:Rec)(hw:r.Wf)(h:may r=true):Bytes (head r):=by
 have hk:=BG h;unfold head;refine Bytes.append (Bytes.append (Bytes.append (Bytes.append (Bytes.append ?_ ?_) ?_) (en _ _)) (en _ _)) hw.byte
 ·intro x hx;simp at hx;omega
 ·intro x hx;simp at hx;omega
 ·intro x hx;simp at hx;omega
theorem jc(r:Rec)(hw:r.Wf)(h:may r=true):Bytes (body r):=(Cc r hw h).append (jW 12)
theorem rL(r:Rec)(hw:r.Wf)(h:may r=true):Bytes (encS r):=(jc r hw h).append (en _ _)
end Go.Proofs.Zq.R
namespace Go.Proofs.Zq.G
abbrev Cap (n:Int):Prop:=2<=n/\n<=64
def vY (p n:Int):Int × Int:=if Cap n then (if p>4611686018427387968 then (0,31) else (p % n,0)) else (0,2)
end Go.Proofs.Zq.G
namespace Go.Proofs.Zq
structure Lg where
 c:fN
 ki:Int
 tail:Int
 fin:Int
 mark:Int
 fV:Int
 last:Int
structure Lg.Ok (g:Lg):Prop where
 cf:iP g.c
 l0:1<=g.ki
 l1:g.ki<=4611686018427387904
 t0:0<=g.tail
 tm:g.tail<=g.mark
 mf:g.mark<=g.fin
 fM:g.fin<=4611686018427387904
 us:g.fin-g.tail<=g.c.lc
 i0:0<=g.fV
 i1:g.fV<=g.c.mr
 b0:-1<=g.last
 b1:g.last<g.c.bl
 il:(g.fV=0/\g.last=-1)\/(1<=g.fV/\0<=g.last)
def Lg.sz (g:Lg):Nat:=1+g.c.bl.toNat+g.c.lc.toNat
theorem Lg.Ok.GX{g:Lg}(h:g.Ok):((g.sz:Nat):Int)=1+g.c.bl+g.c.lc:=by
 have:=h.cf.1;have:=h.cf.2.1;unfold Lg.sz;omega
def fK (g:Lg):Int:=if g.fin=4611686018427387904 then 31 else if g.fin-g.tail=g.c.lc then 90 else 0
theorem yb{g:Lg}(h:g.fin=4611686018427387904):fK g=31:=aE h
theorem uO{g:Lg}(h:¬g.fin=4611686018427387904)(h2:g.fin-g.tail=g.c.lc):fK g=90:=by unfold fK;rw[aD h,aE h2]
theorem IB{g:Lg}(h:¬g.fin=4611686018427387904)(h2:¬g.fin-g.tail=g.c.lc):fK g=0:=by unfold fK;rw[aD h,aD h2]
theorem lI{g:Lg}(h:fK g=0):¬g.fin=4611686018427387904/\¬g.fin-g.tail=g.c.lc:=by
 by_cases h1:g.fin=4611686018427387904
 ·rw[yb h1] at h;cases h
 ·by_cases h2:g.fin-g.tail=g.c.lc
  ·rw[uO h1 h2] at h;cases h
  ·exact⟨h1,h2⟩
def oH (g:Lg)(p:Int):Int:=1+g.c.bl+p % g.c.lc
theorem zT{g:Lg}(h:g.Ok)(p:Int):0<=oH g p/\oH g p<(g.sz:Nat):=by
 have h1:=h.cf.1;have h2:=h.cf.2.1;have h3:=h.GX;have h4:=Int.emod_nonneg p (show g.c.lc≠0 by omega);have h5:=Int.emod_lt_of_pos p (show 0<g.c.lc by omega);unfold oH;omega
abbrev Bad (g:Lg)(b:Int):Prop:=b<=g.last\/g.c.bl<=b\/g.c.mr<=g.fV
def mN (g:Lg)(b:Int):Int:=if fK g=0 then (if Bad g b then 60 else 0) else fK g
theorem yl{g:Lg}(b:Int)(h:¬fK g=0):mN g b=fK g:=aD h
theorem BS{g:Lg}{b:Int}(h:fK g=0)(hb:Bad g b):mN g b=60:=by unfold mN;rw[aE h,aE hb]
theorem OI{g:Lg}{b:Int}(h:fK g=0)(hb:¬Bad g b):mN g b=0:=by unfold mN;rw[aE h,aD hb]
theorem qJ{g:Lg}{b:Int}(h:mN g b=0):fK g=0/\¬Bad g b:=by
 by_cases h1:fK g=0
 ·by_cases h2:Bad g b
  ·rw[BS h1 h2] at h;cases h
  ·exact⟨h1,h2⟩
 ·rw[yl b h1] at h;exact absurd h h1
def Rp (g:Lg)(b:Int)(v:List Int):R.Rec:=⟨1,g.fin,b,v,0⟩
def R_ (g:Lg):R.Rec:=⟨2,g.fin,0,zs 32,g.fV⟩
def Ka (g:Lg):Lg:={ g with fin:=g.fin+1 }
def VR (g:Lg)(b:Int):Lg:={ g with fin:=g.fin+1,fV:=g.fV+1,last:=b }
def Xk (g:Lg):Lg:={ g with fin:=g.fin+1,fV:=0,last:=-1 }
def vU (g:Lg)(t:Int):fN:=⟨g.c.bl,g.c.lc,g.c.mr,g.c.hi,g.c.cl,t,g.ki⟩
def mkG (g:Lg)(t:Int):Lg:={ g with mark:=t }
def frG (g:Lg):Lg:={ g with tail:=g.mark }
abbrev Out (g:Lg)(t:Int):Prop:=t<g.tail\/g.fin<t
theorem BT{g:Lg}(h:g.Ok){b:Int}{v:List Int}(hb:¬Bad g b):R.may (Rp g b v)=true:=by
 have h1:=h.cf.1;have:=h.b0;have:=h.fM;exact (R.wN _).2 ⟨h.fM,.inl ⟨rfl,by show (0:Int)<=b;omega,by show b<64;omega,rfl⟩⟩
theorem FQ{g:Lg}(h:g.Ok){b:Int}{v:List Int}(hb:¬Bad g b)(hl:v.length=32)(hv:Bytes v):(Rp g b v).Wf:=by
 have h1:=h.cf.1;have:=h.b0;have:=h.fM;have:=h.t0;have:=h.tm;have:=h.mf;refine⟨?_,?_,?_,?_,?_,?_,?_,?_,hl,hv⟩ <;> simp only[Rp] <;> omega
theorem JQ{g:Lg}(h:g.Ok):R.may (R_ g)=true:=by
 have h1:=h.cf.2.2.1;have:=h.i0;have:=h.i1;have:=h.fM;exact (R.wN _).2 ⟨h.fM,.inr ⟨rfl,h.i0,by show g.fV<=16;omega,rfl,rfl⟩⟩
theorem Pp{g:Lg}(h:g.Ok):(R_ g).Wf:=by
 have h1:=h.cf.2.2.1;have:=h.i0;have:=h.i1;have:=h.fM;have:=h.t0;have:=h.tm;have:=h.mf;refine⟨?_,?_,?_,?_,?_,?_,?_,?_,bG 32,jW 32⟩ <;> simp only[R_] <;> omega
theorem wP{g:Lg}(h:g.Ok){b:Int}(h0:mN g b=0):(VR g b).Ok:=by
 obtain ⟨hm,hb⟩:=qJ h0;obtain ⟨m1,m2⟩:=lI hm;have:=h.b0;have:=h.fM;have:=h.us;have:=h.mf;have:=h.i0;have:=h.i1;refine⟨h.cf,h.l0,h.l1,h.t0,h.tm,?_,?_,?_,?_,?_,?_,?_,?_⟩ <;> simp only[VR] <;> omega
theorem Pq{g:Lg}(h:g.Ok)(hm:fK g=0):(Xk g).Ok:=by
 obtain ⟨m1,m2⟩:=lI hm;have:=h.cf.1;have:=h.cf.2.2.1;have:=h.fM;have:=h.us;have:=h.mf;refine⟨h.cf,h.l0,h.l1,h.t0,h.tm,?_,?_,?_,?_,?_,?_,?_,.inl ⟨rfl,rfl⟩⟩ <;> simp only[Xk] <;> omega
theorem Vq{g:Lg}(h:g.Ok){t:Int}(ht:¬Out g t):(mkG g t).Ok:=by
 refine⟨h.cf,h.l0,h.l1,h.t0,?_,?_,h.fM,h.us,h.i0,h.i1,h.b0,h.b1,h.il⟩ <;> simp only[mkG] <;> omega
theorem WH{g:Lg}(h:g.Ok):(frG g).Ok:=by
 have:=h.t0;have:=h.tm;have:=h.mf;have:=h.us;refine⟨h.cf,h.l0,h.l1,?_,?_,h.mf,h.fM,?_,h.i0,h.i1,h.b0,h.b1,h.il⟩ <;> simp only[frG] <;> omega
theorem GY{g:Lg}(h:g.Ok){t:Int}(ht:¬Out g t):PO (vU g t):=by
 have:=h.fM;have:=h.l0;have:=h.l1;exact⟨h.cf,by show t<=_;omega,h.l0,h.l1⟩
theorem NL{g:Lg}(h:g.Ok){t:Int}(ht:¬Out g t):(vU g t).Wf:=by
 have h1:=h.cf;have:=h.fM;have:=h.l0;have:=h.l1;have:=h.t0;refine⟨?_,?_,?_,?_,?_,?_,?_⟩ <;> simp only[vU] <;> constructor <;> omega
def qH (s:fN)(t l:Int):Lg:=⟨s,l,t,t,t,0,-1⟩
def qG (s:fN)(n:Int)(t l:Int):Int:=if iP s then (if n=1+s.bl+s.lc then (if t>4611686018427387904\/l>4611686018427387904 then 31 else if l=0 then 2 else 0) else 40) else 3
theorem Oq{s:fN}(n t l:Int)(h:¬iP s):qG s n t l=3:=aD h
theorem Iv{s:fN}{n:Int}(t l:Int)(h:iP s)(hn:¬n=1+s.bl+s.lc):qG s n t l=40:=by unfold qG;rw[aE h,aD hn]
theorem El{s:fN}{n t l:Int}(h:iP s)(hn:n=1+s.bl+s.lc)(ht:t>4611686018427387904\/l>4611686018427387904):qG s n t l=31:=by unfold qG;rw[aE h,aE hn,aE ht]
theorem Em{s:fN}{n t l:Int}(h:iP s)(hn:n=1+s.bl+s.lc)(ht:¬(t>4611686018427387904\/l>4611686018427387904))(hl:l=0):qG s n t l=2:=by unfold qG;rw[aE h,aE hn,aD ht,aE hl]
theorem Oo{s:fN}{n t l:Int}(h:iP s)(hn:n=1+s.bl+s.lc)(ht:¬(t>4611686018427387904\/l>4611686018427387904))(hl:¬l=0):qG s n t l=0:=by unfold qG;rw[aE h,aE hn,aD ht,aD hl]
theorem x_{s:fN}{n t l:Int}(h:qG s n t l=0):iP s/\n=1+s.bl+s.lc/\t<=4611686018427387904/\l<=4611686018427387904/\l≠0:=by
 by_cases h1:iP s
 ·by_cases h2:n=1+s.bl+s.lc
  ·by_cases h3:t>4611686018427387904\/l>4611686018427387904
   ·rw[El h1 h2 h3] at h;cases h
   ·by_cases h4:l=0
    ·rw[Em h1 h2 h3 h4] at h;cases h
    ·exact⟨h1,h2,by omega,by omega,h4⟩
  ·rw[Iv t l h1 h2] at h;cases h
 ·rw[Oq n t l h1] at h;cases h
theorem wL{s:fN}{n t l:Int}(h:qG s n t l=0)(ht:0<=t)(hl:0<=l):(qH s t l).Ok:=by
 obtain ⟨h1,h2,h3,h4,h5⟩:=x_ h;refine⟨h1,?_,?_,?_,?_,?_,?_,?_,?_,?_,?_,?_,.inl ⟨rfl,rfl⟩⟩ <;> simp only[qH] <;> omega
open Go.Proofs.Tryz Go.RowKit
theorem mq:(prog.info? 5).map (fun i=>(i.zero,i.size,i.bytes))=some (some (.int .u8 0),1,1):=by kernel_rfl
theorem OH:(prog.info? 3).map (fun i=>(i.zero,i.size,i.bytes))=some (some (.int .i64 0),1,8):=by kernel_rfl
structure jK (w:World) (p:Option Addr) (n:Nat) (xs:List Int):Prop where
 len:xs.length=n
 byte:Bytes xs
 cells:0<n->∃b o,p=some ⟨b,o,none⟩/\∀i,i<n->w.cell? ⟨b,o+i,none⟩=some (.int .u8 (xs.getD i 0))
abbrev U8 (xs:List Int):List Value:=xs.map (Value.int .u8)
theorem Mr(s:Int)(w:World) :
  Calls prog 226 #[.int .i64 s] w fun e w'=>e=.returned (.bool (decide (1<=s/\s<=8)))/\w=w':=by
 go_enter func226,ntmps226;go_wp2;all_goals go_ret
 all_goals (refine⟨?_,rfl⟩;simp;omega)
theorem Xm(a:Addr)(n c:Nat)(xs:List Int)(w:World)(hx:xs.length=n)(r_:n<=140737488355328)(hc:∀i,i<n->w.cell? (a.add i)=some (.int .u8 (xs.getD i 0))) :
  Calls prog 54 #[.slice (some a) n c] w fun e w'=>∃v',e=.returned v'/\w'.ownsRow w.heap.size 5 1 v' n (U8 xs)/\Below w.heap.size w w':=by
 obtain ⟨i0,hi,ij,gm,iL⟩:=cj mq;have q22:∀(w:World) (a:Option Addr) (n c n' c':Nat),(binOp .eql 107 (.slice a n c) (.slice none n' c')).run prog w=.ok (.bool a.isNone) w:=fun w a n c n' c'=>Lib.run_eql_slice_nil w _ _ a n c n' c' bK;have A:=zH hc;clear hc;go_enter func54,ntmps54;go_wp2_with (at_builtin;refine dK _ rfl _ _ 107 rfl w.heap.size 5 i0 (.int .u8 0) 1 1 bK hi ij gm iL rfl (by decide) _ _ _ rfl (gN w #[] 0 (az _) (aI _) rfl) a n c (xs.map (Value.int .u8)) rfl ?qc1 ?qc2 ?qc3 ?qc4 ?qc5 ?qc6 ?_)
 case qc1=>simp;omega
 case qc2 =>
  intro j u hj;have hjn:j<n:=by
   have:=(aA.1 hj).1;simp at this;omega
  refine Lib.cell?_alloc_some _ ?_;rw[A.out j hjn];have e:(xs.map (Value.int .u8))[j]?=some (Value.int .u8 (xs.getD j 0)):=by simp[List.getD,List.getElem?_eq_getElem (show j<xs.length by omega)]
  rw[e] at hj;exact hj
 case qc3=>intro u hu;obtain ⟨x,_,rfl⟩:=cF.1 hu;rfl
 case qc4=>unfold maxLen;omega
 case qc5=>omega
 case qc6=>simp
 intro v' w1 dR cU arf;go_wp2;go_ret;refine⟨v',rfl,by simpa using dR,?_⟩;exact ((aV _ w).alloc (az _) _).grown cU (by simp) (by intro k hk;simp[Value.ownBlock] at hk;omega)
theorem jK.at{w:World}{a:Addr}{n:Nat}{xs:List Int}(h:jK w (some a) n xs):∀i,i<n->w.cell? (a.add i)=some (.int .u8 (xs.getD i 0)):=by
 intro i hi;obtain ⟨b,o,e,hc⟩:=h.cells (by omega);simp only[aC] at e;subst e;rw[bW];exact hc i hi
theorem jK.take{w:World}{p:Option Addr}{n:Nat}{xs:List Int}(h:jK w p n xs)(k:Nat)(hk:k<=n):jK w p k (xs.take k):=by
 refine⟨by rw[cr,h.len];omega,h.byte.take k,fun hp=>?_⟩;obtain ⟨b,o,e,hc⟩:=h.cells (by omega);refine⟨b,o,e,fun i hi=>?_⟩;rw[hc i (by omega)];simp[List.getD,hi]
theorem jK.drew{w:World}{p:Option Addr}{n:Nat}{xs:List Int}(h:jK w p n xs):jK w.drew p n xs:=⟨h.len,h.byte,h.cells⟩
theorem jK.empty{w:World}{p:Option Addr}:jK w p 0 []:=⟨rfl,Bytes.nil,fun h=>by omega⟩
theorem xg{B:Nat}{w w':World}(h:Below B w.drew w'):Below B w w':=⟨h.os,h.tape,h.output,h.size,h.block⟩
theorem IE(n:Int)(k:Nat):(madeCells #[Value.int .u8 0] k).toList=U8 (filled (digits k n) 0):=by
 rw[Jz,dG,nM];simp[U8]
theorem LJ(n:Int)(k:Nat)(w:World)(_hn0:0<=n)(hs:1<=k/\k<=8)(hw:n / 256 ^ k=0) :
  Calls prog 207 #[.int .u64 n,.int .i64 k] w fun e w'=>∃v',e=.returned (.tuple #[v',.int .i64 0])/\w'.ownsRow w.heap.size 5 1 v' k (U8 (digits k n))/\Below w.heap.size w w':=by
 obtain ⟨i0,hi,ij,gm,iL⟩:=cj mq;have hd:decide (1<=(k:Int)/\(k:Int)<=8)=true:=aP (by omega);have hq:=Zb n k hw;clear hw;go_enter func207,ntmps207;go_wp2_with (first | (go_at_call 226;refine (Mr _ _).mono ?_;rintro e w' ⟨rfl,rfl⟩) | (at_make;refine wpList_make_full _ rfl _ _ 107 rfl w.heap.size 5 i0 (.int .u8 0) 1 bK hi ij gm .i64 .i64 _ _ k rfl rfl rfl rfl ?b2 ?b3 ?b4 ?_))
 case b2=>rw[iL];omega
 case b3=>unfold maxLen;omega
 case b4=>simp
 intro w1 dR cU;rw[IE n k] at dR;have hb:=(aV w.heap.size w).grown cU (az _) (by intro k hk;cases hk);clear cU hq;have HL:=zH (dG k n);go_wp2
 go_loopw [20] (fun i wr=>∃j:Nat,j<=k/\i=.int .i64 j/\wr.ownsRow w.heap.size 5 1 (.slice (some ⟨w.heap.size,0,none⟩) k k) k (U8 (filled (digits k n) j))/\Below w.heap.size w wr) (fun i _=>k-(intOf i).toNat)
 case atStart=>exact⟨0,aI _,rfl,dR,hb⟩
 case round =>
  obtain ⟨j,hj,rfl,rV,qj⟩:=hrel;by_cases eP:j<k
  ·have Dh:j<(digits k n).length:=by rw[HL.out];exact eP
   have iU:=rV.stored j (.int .u8 ((digits k n)[j]));have hcell:=rV.cellAt j (by omega);have hlen:(U8 (filled (digits k n) j)).length=k:=by simp[U8,Dl _ _ (Nat.le_of_lt Dh),HL.out]
   obtain ⟨u,hu⟩:∃u,wr.cell? ⟨w.heap.size,j,none⟩=some u:=⟨_,by rw[hcell];exact ay (by omega)⟩
   have hfz:=rV.frozenAt j;have HV:=zH (abe n k j Dh);have HF:Hid ((U8 (filled (digits k n) j)).set j (.int .u8 ((digits k n)[j]))=U8 (filled (digits k n) (j+1))):=by
    show _=_;rw[<-JA _ _ Dh];simp[U8,List.map_set]
   have H1:=iU.1;have H2:=iU.2;rw[HF.out] at H1;have HO:=zH H1;have HG:=zH H2;have HB:=zH qj;clear iU H1 H2 hcell hlen rV qj dR hb HF;go_wp2;go_roundw
   case rel =>
    rw[HV.out];exact⟨j+1,by omega,by go_num,HO.out,HB.out.grown HG.out (by have:=HB.out.size;omega) (by intro q hq;simp at hq;omega)⟩
   case measure=>simp[intOf];omega
  ·have RC:j=k:=by omega
   have HR:=rV;rw[MO _ _ (by rw[HL.out];omega)] at HR;have HO:=zH HR;have HB:=zH qj;clear HR rV qj dR hb RC;go_wp2;go_ret2;exact⟨_,rfl,HO.out,HB.out⟩
theorem Ho:(prog.info? 5).map (·.size)=some 1:=by kernel_rfl
theorem yR{w:World}{base g n:Nat}{e:TypeId}{xs:List Value}(h:w.ownsRow base e 1 (.slice (some ⟨g,0,none⟩) n n) n xs):w.heap[g]?=some (.cells xs.toArray e (0,0)):=by
 rcases h.2 with ⟨h',_⟩ | ⟨g',lZ,cur,h',_,hg,_,_,nV,uA⟩
 ·simp at h'
 ·simp only[cE,aC,d_,gJ,nY] at h';obtain ⟨rfl,rfl⟩:=h';rw[aL (by simpa using Nat.le_of_eq nV)] at uA;rw[hg,<-uA]
theorem Jv{w:World}{base g n:Nat}{e:TypeId}{xs:List Value}(hb:base<=g)(hn:xs.length=n)(hm:n<=maxLen)(h:w.heap[g]?=some (.cells xs.toArray e (0,0))):w.ownsRow base e 1 (.slice (some ⟨g,0,none⟩) n n) n xs :=
 ⟨by omega,.inr ⟨g,n,xs.toArray,rfl,hb,h,az _,hm,by simpa using hn,by rw[mU,List.toList_toArray];exact aL (by omega)⟩⟩
theorem AW(xs:List Int)(k:Nat)(_h:xs.length<=k):splice (List.replicate k (Value.int .u8 0)) 0 (U8 xs)=U8 (xs++List.replicate (k-xs.length) 0):=by
 simp[splice,U8]
theorem eO(xs:List Int):∀v∈U8 xs,v.oneCell'=true:=by
 intro u hu;obtain ⟨x,_,rfl⟩:=cF.1 hu;rfl
theorem jK.news{w:World}{a:Addr}{n:Nat}{xs:List Int}(h:jK w (some a) n xs):∀j u,(U8 xs)[j]?=some u->w.cell? (a.add j)=some u:=by
 intro j u hj;have hjn:j<xs.length:=by
  have:=(aA.1 hj).1;simpa using this
 rw[h.at j (by have:=h.len;omega),<-hj];simp[List.getD,List.getElem?_eq_getElem hjn]
theorem jK.below{B:Nat}{w w':World}{p:Option Addr}{n:Nat}{xs:List Int}(h:jK w p n xs)(hb:Below B w w')(hp:∀a,p=some a->0<n->a.block<B):jK w' p n xs:=by
 refine⟨h.len,h.byte,fun h0=>?_⟩;obtain ⟨b,o,rfl,hc⟩:=h.cells h0;refine⟨b,o,rfl,fun i hi=>?_⟩;rw[hb.cell (p:=⟨b,o+i,none⟩) (hp ⟨b,o,none⟩ rfl h0)];exact hc i hi
theorem jK.lt{w:World}{a:Addr}{n:Nat}{xs:List Int}(h:jK w (some a) n xs)(h0:0<n):a.block<w.heap.size:=by
 obtain ⟨b,o,e,hc⟩:=h.cells h0;simp only[aC] at e;subst e;exact cG w _ (hc 0 h0)
theorem jK.later{w w':World}{p:Option Addr}{n:Nat}{xs:List Int}(h:jK w p n xs)(hb:Below w.heap.size w w'):jK w' p n xs :=
 h.below hb (fun a e h0=>by subst e;exact h.lt h0)
theorem ady(p:Option Addr)(n c:Nat)(xs:List Int)(k:Nat)(w:World)(hk:k<=64)(hs:n<=k)(h:jK w p n xs) :
  Calls prog 171 #[.slice p n c,.int .i64 k] w fun e w'=>∃v',e=.returned (.tuple #[v',.int .i64 0])/\w'.ownsRow w.heap.size 5 1 v' k (U8 (xs++List.replicate (k-n) 0))/\Below w.heap.size w w':=by
 obtain ⟨i0,hi,ij,gm,iL⟩:=cj mq;go_enter func171,ntmps171;go_wp2_with (at_make;refine wpList_make_full _ rfl _ _ 107 rfl w.heap.size 5 i0 (.int .u8 0) 1 bK hi ij gm .i64 .i64 _ _ k rfl rfl rfl rfl ?b2 ?b3 ?b4 ?_)
 case b2=>rw[iL];omega
 case b3=>unfold maxLen;omega
 case b4=>simp
 intro w1 dR cU;rw[nM] at dR;have hb:=(aV w.heap.size w).grown cU (az _) (by intro k hk;cases hk);have hg:=yR dR;have h1:=h.later hb;have HG:=zH hg;have HB:=zH hb;have HH:=zH h1;clear cU dR hg hb h1;have HN:Hid ((U8 xs).length=Nat.min n k):=by show _=min n k;rw[fX hs];simp[U8,HH.out.len]
 have HF:Hid (0+(U8 xs).length<=(List.replicate k (Value.int .u8 0)).length):=by show _<=_;simp[U8,HH.out.len];omega
 have HP:Hid (0<(U8 xs).length->some (⟨w.heap.size,0,none⟩:Addr)=some ⟨w.heap.size,0,none⟩/\∃ad,p=some ad/\∀j v,(U8 xs)[j]?=some v->w1.cell? (ad.add j)=some v):=by
  intro h0;have h0':0<n:=by simpa [U8,HH.out.len] using h0
  obtain ⟨b,o,e,hc⟩:=HH.out.cells h0';refine⟨rfl,⟨b,o,none⟩,e,?_⟩;have h2:=HH.out;rw[e] at h2;exact h2.news
 go_wp2_with (refine wpList_copy_splice rfl (.tmp 19) (.tmp 20) 107 107 rfl 5 bK Ho (some ⟨w.heap.size,0,none⟩) p k k n c rfl rfl w.heap.size 0 (List.replicate k (.int .u8 0)) 5 HG.out (U8 xs) HN.out HP.out HF.out (eO xs) w.heap.size w HB.out (az _) ?_)
 intro w2 Wq jb;go_wp2;go_ret2;refine⟨_,rfl,Jv (az _) ?_ ?_ ?_,jb⟩
 ·simp[U8,HH.out.len];omega
 ·unfold maxLen;omega
 ·have:=Wq.out;rw[AW xs k (by rw[HH.out.len];exact hs),HH.out.len] at this;exact this
def zK (w:World)(v:Value)(xs:List Int):Prop:=∃p n c,v=.slice p n c/\jK w p n xs/\n<=c/\(p=none->c=0)
structure PIn (w:World) (p:Option Addr) (n:Nat) (vs:List Value) (ls:List (List Int)):Prop where
 len:vs.length=n
 Ml:ls.length=n
 cells:0<n->∃b o,p=some ⟨b,o,none⟩/\∀i (h:i<vs.length),w.cell? ⟨b,o+i,none⟩=some vs[i]
 parts:∀i (h:i<vs.length) (h2:i<ls.length),zK w vs[i] ls[i]
theorem zK.later{w w':World}{v:Value}{xs:List Int}(h:zK w v xs)(hb:Below w.heap.size w w'):zK w' v xs:=by
 obtain ⟨p,n,c,rfl,h1,h2,h3⟩:=h;exact⟨p,n,c,rfl,h1.later hb,h2,h3⟩
theorem PIn.later{w w':World}{p:Option Addr}{n:Nat}{vs:List Value}{ls:List (List Int)}(h:PIn w p n vs ls)(hb:Below w.heap.size w w'):PIn w' p n vs ls:=by
 refine⟨h.len,h.Ml,fun h0=>?_,fun i h1 h2=>(h.parts i h1 h2).later hb⟩;obtain ⟨b,o,rfl,hc⟩:=h.cells h0;refine⟨b,o,rfl,fun i hi=>?_⟩;rw[hb.cell (p:=⟨b,o+i,none⟩) (cG w ⟨b,o+i,none⟩ (hc i hi))];exact hc i hi
theorem VI(b o n c:Nat)(vs:List Value)(ls:List (List Int))(w:World)(h:PIn w (some ⟨b,o,none⟩) n vs ls)(h0:0<n)(r_:ls.flatten.length<=140737488355328)(hn:n<=140737488355328) :
  Calls prog 172 #[.slice (some ⟨b,o,none⟩) n c] w fun e w'=>∃v',e=.returned v'/\w'.ownsRow w.heap.size 5 1 v' ls.flatten.length (U8 ls.flatten)/\Below w.heap.size w w':=by
 obtain ⟨i0,hi,ij,gm,iL⟩:=cj mq;have HV:=zH h.len;have HL:=zH h.Ml;go_enter func172,ntmps172;go_wp2
 go_loop [3,11] (fun t i=>∃k:Nat,k<=n/\i=.int .i64 k/\t=.int .i64 (jq ls k)) (fun _ i=>n-(intOf i).toNat)
 case atStart=>exact⟨0,aI _,rfl,rfl⟩
 case round =>
  obtain ⟨k,hk,rfl,rfl⟩:=hrel;have MD:=od ls k;by_cases eP:k<n
  ·have EJ:k<vs.length:=by rw[HV.out];exact eP
   have vK:k<ls.length:=by rw[HL.out];exact eP
   obtain ⟨b',o',e,rZ⟩:=h.cells h0;simp only[aC,d_,gJ] at e;obtain ⟨rfl,rfl⟩:=e;have hc:=rZ k EJ;obtain ⟨p1,n1,c1,e1,h1,h2,h3⟩:=h.parts k EJ vK;rw[e1] at hc;have Cb:=od ls (k+1);have I_:jq ls (k+1)=jq ls k+n1:=by rw[qM ls k vK,h1.len]
   have sV:jq ls k+n1<=ls.flatten.length:=by omega
   have HS:=zH I_;clear rZ I_ Cb e1 h1 h2 h3;go_wp2;go_round
   case rel=>exact⟨k+1,by omega,by go_num,by rw[HS.out];go_num⟩
   case measure=>simp[intOf];omega
  ·have Ci:jq ls k=ls.flatten.length:=by exact wT ls k (by rw[HL.out];omega)
   have HA:=zH Ci;clear Ci MD;rw[HA.out];clear HA;generalize hT:ls.flatten.length=T at *;have HT:=zH hT;clear hT;go_wp2_with (at_make;refine wpList_make_own _ rfl _ _ 107 rfl w.heap.size 5 i0 (.int .u8 0) 1 bK hi ij gm .i64 .i64 _ T rfl rfl rfl (by rw[iL];omega) (by unfold maxLen;omega) (az _) ?_)
   intro w1 dR cU;have hb:=(aV w.heap.size w).grown cU (az _) (by intro k hk;cases hk);clear cU;go_wp2
   go_loopw [6,24] (fun v i wr=>∃k:Nat,k<=n/\i=.int .i64 k/\v=.slice (some ⟨w.heap.size,0,none⟩) (jq ls k) T /\
     wr.ownsRow w.heap.size 5 1 (.slice (some ⟨w.heap.size,0,none⟩) (jq ls k) T) (jq ls k) (U8 (ls.take k).flatten)/\Below w.heap.size w wr) (fun _ i _=>n-(intOf i).toNat)
   case atStart=>exact⟨0,aI _,rfl,rfl,dR,hb⟩
   case round =>
    obtain ⟨j,hj,rfl,rfl,sW,Wt⟩:=hrel;have MD:=od ls j;rw[HT.out] at MD;by_cases eP:j<n
    ·have EJ:j<vs.length:=by rw[HV.out];exact eP
     have vK:j<ls.length:=by rw[HL.out];exact eP
     have h':=h.later Wt;obtain ⟨b',o',e,rZ⟩:=h'.cells h0;simp only[aC,d_,gJ] at e;obtain ⟨rfl,rfl⟩:=e;have hc:=rZ j EJ;obtain ⟨p1,n1,c1,e1,h1,h2,h3⟩:=h'.parts j EJ vK;rw[e1] at hc;have Cb:=od ls (j+1);rw[HT.out] at Cb;have iU:=tW ls j vK;have I_:jq ls (j+1)=jq ls j+n1:=by rw[qM ls j vK,h1.len]
     have sV:jq ls j+n1<=T:=by omega
     have HS:=zH I_;have jf:=zH iU;have HB:=zH Wt;have HO:=zH sW;have H1:=zH h1;have HN:Hid ((U8 ls[j]).length=n1*1):=by show _=_;simp[U8,h1.len]
     have HZ:Hid (p1=none->n1=0/\c1=0):=fun e=>⟨by have:=h3 e;omega,h3 e⟩
     have HC:Hid (∀ad,p1=some ad->∀j' u,(U8 ls[j])[j']?=some u->wr.cell? (ad.add j')=some u):=fun ad e=>by subst e;exact h1.news
     clear rZ iU I_ Cb e1 h1 h2 h3 h' sW Wt hb dR;go_wp2_with (at_builtin;refine wpList_append_fits_any _ rfl (.tmp 28) (.tmp 29) 107 rfl w.heap.size 5 i0 1 bK hi gm w.heap.size _ T _ rfl HO.out p1 n1 c1 (U8 ls[j]) rfl HN.out HZ.out HC.out (eO _) sV ?_)
     intro w2 jF ja;have R:w2.ownsRow w.heap.size 5 1 (.slice (some ⟨w.heap.size,0,none⟩) (jq ls (j+1)) T) (jq ls (j+1)) (U8 (ls.take (j+1)).flatten):=by
      rw[HS.out,jf.out];simpa [U8] using jF
     have RB:=HB.out.grown ja (HB.out.size) (by intro q hq;simp at hq;omega);have HR:=zH R;have HRB:=zH RB;clear R RB jF ja;go_wp2;go_roundw
     case rel=>exact⟨j+1,by omega,by go_num,by rw[HS.out],HR.out,HRB.out⟩
     case measure=>simp[intOf];omega
    ·have e:(ls.take j).flatten=ls.flatten:=wU ls j (by rw[HL.out];omega);have e2:jq ls j=T:=(wT ls j (by rw[HL.out];omega)).trans HT.out;rw[e,e2] at sW;rw[e2];have HB:=zH Wt;have HO:=zH sW;clear sW Wt hb dR e e2;go_wp2;go_ret;refine⟨_,rfl,?_,HB.out⟩;rw[HT.out];exact HO.out
theorem Rl(p:Option Addr)(c:Nat)(w:World) :
  Calls prog 172 #[.slice p 0 c] w fun e w'=>∃v',e=.returned v'/\w'.ownsRow w.heap.size 5 1 v' 0 []/\Below w.heap.size w w':=by
 obtain ⟨i0,hi,ij,gm,iL⟩:=cj mq;go_enter func172,ntmps172;go_wp2;refine wp_loop_rounds 1 ?_;rw[rounds_succ];go_wp2_with (at_make;refine wpList_make_own _ rfl _ _ 107 rfl w.heap.size 5 i0 (.int .u8 0) 1 bK hi ij gm .i64 .i64 _ 0 rfl rfl rfl (by rw[iL];omega) (aI _) (az _) ?_)
 intro w1 dR cU;have hb:=(aV w.heap.size w).grown cU (az _) (by intro k hk;cases hk);go_wp2;refine wp_loop_rounds 1 ?_;rw[rounds_succ];go_wp2;go_ret;exact⟨_,rfl,dR,hb⟩
theorem VJ(p:Option Addr)(n c:Nat)(vs:List Value)(ls:List (List Int))(w:World)(h:PIn w p n vs ls)(r_:ls.flatten.length<=140737488355328)(hn:n<=140737488355328) :
  Calls prog 172 #[.slice p n c] w fun e w'=>∃v',e=.returned v'/\w'.ownsRow w.heap.size 5 1 v' ls.flatten.length (U8 ls.flatten)/\Below w.heap.size w w':=by
 by_cases h0:0<n
 ·obtain ⟨b,o,rfl,hc⟩:=h.cells h0;exact VI b o n c vs ls w h h0 r_ hn
 ·obtain rfl:n=0:=by omega
  obtain rfl:ls=[]:=aZ h.Ml;exact Rl p c w
end Go.Proofs.Zq
namespace Go.Proofs.Zq
open Go.RowKit
theorem dD{w w':World}{base:Nat}{e:TypeId}{size:Nat}{v:Value}{n:Nat}{xs:List Value}(h:w.ownsRow base e size v n xs)(hb:Below w.heap.size w w'):w'.ownsRow base e size v n xs:=by
 refine⟨h.1,?_⟩;rcases h.2 with hn | ⟨g,cap,cur,rfl,h1,hg,rest⟩
 ·exact .inl hn
 ·exact .inr ⟨g,cap,cur,rfl,h1,(hb.block g (au.1 hg).1).trans hg,rest⟩
theorem eH{w:World}{base lW:Nat}{e:TypeId}{size:Nat}{v:Value}{n:Nat}{xs:List Value}(h:w.ownsRow base e size v n xs)(hb:lW<=base):w.ownsRow lW e size v n xs:=by
 refine⟨h.1,?_⟩;rcases h.2 with hn | ⟨g,cap,cur,rfl,h1,rest⟩
 ·exact .inl hn
 ·exact .inr ⟨g,cap,cur,rfl,bJ hb h1,rest⟩
