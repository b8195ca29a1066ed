import Derived.Test.YtcdjepkhdjpjcaaGreatDoorU06
set_option maxHeartbeats 20000000
set_option maxRecDepth 100000
namespace Go.Proofs.Zq
open Go.Proofs.Tryz
open Go.RowKit
abbrev wb (g:Lg)(b:Int):Lg:={ g with last:=b }
abbrev fY (w:World)(L:Nat)(dp:Option Addr)(g:Lg)(b:Int):Prop:=bE 214 w L (fH dp (wb g b))
section
variable {w:World} {L:Nat} {dp:Option Addr} {g:Lg} {b:Int}
theorem fY.c0(h:fY w L dp g b):w.cell? ⟨L,0,none⟩=some (.pointer dp):=bE.cell h 0
theorem fY.c1(h:fY w L dp g b):w.cell? ⟨L,1,none⟩=some (.int .i64 g.c.bl):=bE.cell h 1
theorem fY.c2(h:fY w L dp g b):w.cell? ⟨L,2,none⟩=some (.int .i64 g.c.lc):=bE.cell h 2
theorem fY.c3(h:fY w L dp g b):w.cell? ⟨L,3,none⟩=some (.int .i64 g.c.mr):=bE.cell h 3
theorem fY.c6(h:fY w L dp g b):w.cell? ⟨L,6,none⟩=some (.int .u64 g.ki):=bE.cell h 6
theorem fY.c7(h:fY w L dp g b):w.cell? ⟨L,7,none⟩=some (.int .u64 g.tail):=bE.cell h 7
theorem fY.c8(h:fY w L dp g b):w.cell? ⟨L,8,none⟩=some (.int .u64 g.fin):=bE.cell h 8
theorem fY.c9(h:fY w L dp g b):w.cell? ⟨L,9,none⟩=some (.int .u64 g.mark):=bE.cell h 9
theorem fY.uh(h:fY w L dp g b):w.cell? ⟨L,10,none⟩=some (.int .i64 g.fV):=bE.cell h 10
theorem fY.CH(h:fY w L dp g b):w.cell? ⟨L,11,none⟩=some (.int .i64 b):=bE.cell h 11
theorem fY.free(h:fY w L dp g b)(j:Nat):w.frozen? ⟨L,j,none⟩=false:=mK w L j _ 214 h
theorem fY.LG(h:fY w L dp g b):w.rangeAt L 1 (aN g.c):=fun j v hv=>by
 have hj:j<5:=by
  have:=(aA.1 hv).1;simpa [aN] using this
 rw[bE.cell h (1+j)];rw[<-hv]
 match j with
 | 0=>rfl
 | 1=>rfl
 | 2=>rfl
 | 3=>rfl
 | 4=>rfl
 | j+5=>omega
theorem fY.adi(h:fY w L dp g b)(x:Int):fY (w.setCell ⟨L,8,none⟩ (.int .u64 x)) L dp { g with fin:=x } b:=bE.set h 8 _
theorem fY.adf(h:fY w L dp g b)(x:Int):fY (w.setCell ⟨L,7,none⟩ (.int .u64 x)) L dp { g with tail:=x } b:=bE.set h 7 _
theorem fY.adh(h:fY w L dp g b)(x:Int):fY (w.setCell ⟨L,9,none⟩ (.int .u64 x)) L dp { g with mark:=x } b:=bE.set h 9 _
theorem fY.Qe(h:fY w L dp g b)(x:Int):fY (w.setCell ⟨L,10,none⟩ (.int .i64 x)) L dp { g with fV:=x } b:=bE.set h 10 _
theorem fY.Ub(h:fY w L dp g b)(x:Int):fY (w.setCell ⟨L,11,none⟩ (.int .i64 x)) L dp g x:=bE.set h 11 _
end
structure RL (w:World) (S:Nat->Prop) (L p:Nat) (d:List Int) (ws:List Wr) (g:Lg) (b:Int):Prop where
 log:fY w L (some ⟨p,0,none⟩) g b
 zF:Ref w (fun k=>S k/\k≠L) p g.sz d ws
 sl:S L
 ok:g.Ok
 bk:0<g.fV->b=g.last
section
variable {w w':World} {S T:Nat->Prop} {L p:Nat} {d:List Int} {ws:List Wr} {g:Lg} {b:Int}
theorem RL.later(h:RL w S L p d ws g b)(hb:Below w.heap.size w w'):RL w' S L p d ws g b:=⟨bE.later h.log hb,h.zF.later hb,h.sl,h.ok,h.bk⟩
theorem RL.kept(h:RL w S L p d ws g b)(hk:Kept T w w')(hd:∀k,S k->T k->False):RL w' S L p d ws g b :=
 ⟨(hk.block L (bE.lt h.log) (fun t=>hd L h.sl t)).trans h.log,h.zF.kept hk (fun k s t=>hd k s.1 t),h.sl,h.ok,h.bk⟩
theorem RL.mono(h:RL w S L p d ws g b)(hs:∀k,k<w.heap.size->S k->T k):RL w T L p d ws g b :=
 ⟨h.log,h.zF.mono fun k hk s=>⟨hs k hk s.1,s.2⟩,hs L (bE.lt h.log) h.sl,h.ok,h.bk⟩
theorem RL.wrote(h:RL w S L p d ws g b){d':List Int}{CQ:List Wr}(hd:Ref w' (kX (fun k=>S k/\k≠L) w) p g.sz d' CQ)(hk:Kept (fun k=>S k/\k≠L) w w'):RL w' (kX S w) L p d' CQ g b/\Kept S w w':=by
 have hL:=bE.lt h.log;refine⟨⟨(hk.block L hL (fun t=>t.2 rfl)).trans h.log,hd.mono fun k _ s=>?_,.inl h.sl,h.ok,h.bk⟩,⟨hk.os,hk.tape,hk.output,hk.size,fun k h1 h2=>hk.block k h1 fun t=>h2 t.1⟩⟩;rcases s with s | s
 ·exact⟨.inl s.1,s.2⟩
 ·exact⟨.inr s,by omega⟩
theorem RL.tV(h:RL w S L p d ws g b){d':List Int}{CQ:List Wr}(hd:Ref w' (fun k=>S k/\k≠L) p g.sz d' CQ)(hk:Kept (fun k=>S k/\k≠L) w w'):RL w' S L p d' CQ g b/\Kept S w w':=by
 have hL:=bE.lt h.log;exact⟨⟨(hk.block L hL (fun t=>t.2 rfl)).trans h.log,hd,h.sl,h.ok,h.bk⟩,⟨hk.os,hk.tape,hk.output,hk.size,fun k h1 h2=>hk.block k h1 fun t=>h2 t.1⟩⟩
theorem RL.set(h:RL w S L p d ws g b)(j:Nat)(v:Value){g':Lg}{b':Int}(hg:fY (w.setCell ⟨L,j,none⟩ v) L (some ⟨p,0,none⟩) g' b')(hc:g'.c=g.c)(ok:g'.Ok)(bk:0<g'.fV->b'=g'.last):RL (w.setCell ⟨L,j,none⟩ v) S L p d ws g' b':=by
 have hz:g'.sz=g.sz:=by unfold Lg.sz;rw[hc]
 refine⟨hg,?_,h.sl,ok,bk⟩;rw[hz];exact h.zF.kept (T:=fun k=>k=L) ⟨rfl,rfl,rfl,by simp[World.setCell],fun k _ hk=>cJ w ⟨L,j,none⟩ k v hk⟩ (fun k s t=>s.2 t)
end
theorem Hq{w:World}{L:Nat}{dp:Option Addr}{g:Lg}{b:Int}(h:fY w L dp g b)(ok:g.Ok):Calls prog 182 #[.pointer (some ⟨L,0,none⟩)] w fun e w'=>e=.returned (.int .i64 (g.fin-g.tail))/\Below w.heap.size w w':=by
 have HG:=zH h;have hn:0<=g.fin-g.tail/\g.fin-g.tail<=64:=by have:=ok.tm;have:=ok.mf;have:=ok.us;have:=ok.cf.2.1;omega
 have k1:IntKind.u64.wrap (g.fin-g.tail)=g.fin-g.tail:=G.sr hn.1 (by omega);have k2:IntKind.i64.wrap (g.fin-g.tail)=g.fin-g.tail:=by rw[aY];omega
 clear h ok;go_enter func182,ntmps182;go_wp2_with fail;refine zS w fun aa=>?_;have D:Hid (Below w.heap.size w w.drew):=aa;generalize w.drew=wd at *;refine gh 0 1 2 aa ?_;refine de 3 aa (fun _ fc=>fY.c8 (bE.later HG.out fc)) ?_;refine gh 4 5 6 aa ?_;refine de 7 aa (fun _ fc=>fY.c7 (bE.later HG.out fc)) ?_;refine gh 8 9 10 aa ?_;clear aa;refine zD ?_;go_wp2;go_ret;exact⟨rfl,D.out⟩
theorem Lb{w:World}{L:Nat}{dp:Option Addr}{g:Lg}{b:Int}(h:fY w L dp g b)(ok:g.Ok)(p:Int)(h0:0<=p):Calls prog 185 #[.pointer (some ⟨L,0,none⟩),.int .u64 p] w fun e w'=>e=.returned (.int .i64 (oH g p))/\Below w.heap.size w w':=by
 have HG:=zH h;have HN:Hid (oH g p=1+g.c.bl+p % g.c.lc):=rfl;have hb:=ok.cf.1;have hl:=ok.cf.2.1;have OS:=Int.emod_nonneg p (show g.c.lc≠0 by omega);have Wj:=Int.emod_lt_of_pos p (show 0<g.c.lc by omega);have k0:IntKind.u64.wrap g.c.lc=g.c.lc:=G.sr (by omega) (by omega);have k1:IntKind.i64.wrap (1+g.c.bl)=1+g.c.bl:=by rw[aY];omega
 have k2:IntKind.i64.wrap (1+g.c.bl+p % g.c.lc)=1+g.c.bl+p % g.c.lc:=by rw[aY];omega
 have k3:IntKind.i64.wrap (p % g.c.lc)=p % g.c.lc:=by rw[aY];omega
 have k4:p.tmod g.c.lc=p % g.c.lc:=mW h0;have k5:IntKind.u64.wrap (p % g.c.lc)=p % g.c.lc:=G.sr (by omega) (by omega);have k6:¬g.c.lc=0:=by omega
 clear h ok;go_enter func185,ntmps185;go_wp2_with fail;refine zS w fun aa=>?_;have D:Hid (Below w.heap.size w w.drew):=aa;generalize w.drew=wd at *;refine gu 0 1 2 3 aa ?_;refine de 4 aa (fun _ fc=>fY.c1 (bE.later HG.out fc)) ?_;refine gu 5 6 7 8 aa ?_;refine fI 9 10 aa ?_;refine de 11 aa (fun _ fc=>fY.c2 (bE.later HG.out fc)) ?_;refine gu 12 13 14 15 aa ?_;refine tk 16 aa ?_;clear aa;refine zD ?_;go_wp2;go_ret;exact⟨by rw[HN.out];rfl,D.out⟩
theorem Aa{w:World}{L p:Nat}{g:Lg}(h:gQ w L (some ⟨p,0,none⟩) g)(ok:g.Ok):Calls prog 92 #[.pointer (some ⟨L,0,none⟩)] w fun e w'=>e=.returned (.int .i64 (fK g))/\Below w.heap.size w w':=by
 have HG:=zH h;have HO:Hid g.Ok:=ok;have HR:Hid (Below w.heap.size w w):=aV _ _;have c8:=gQ.c8 h;have c2:=gQ.c2 h;have hf:0<=g.fin/\g.fin<=4611686018427387904:=by have:=ok.t0;have:=ok.tm;have:=ok.mf;have:=ok.fM;omega
 clear h ok;go_enter func92,ntmps92;go_wp2_with fail;refine (rF HG.out).mono ?_;rintro e w1 ⟨rfl,rfl⟩;by_cases h1:g.fin=4611686018427387904
 ·have HE:=zH (yb h1);go_wp2_with fail;go_ret;exact⟨by rw[HE.out];rfl,HR.out⟩
 ·by_cases h2:g.fin-g.tail=g.c.lc
  ·have HE:=zH (uO h1 h2);go_wp2_with fail;refine zS w fun aa=>?_;have D:Hid (Below w.heap.size w w.drew):=aa;generalize w.drew=wd at *;have Yl:Hid (∀w',Below w.heap.size w w'->w'.cell? ⟨L,2,none⟩=some (.int .i64 g.c.lc)):=fun w' hb=>gQ.c2 (bE.later HG.out hb);refine gu 0 2 3 4 aa ?_;refine tk 5 aa ?_;refine de 6 aa (fun _ fc=>(Yl.out _ fc)) ?_;refine ck (rs:=[1]) (by kernel_rfl) (by simp) ?_;refine bu (by simp;rfl) (fun Kc aJ=>?_) bO;go_simp;refine (IF (bE.later HG.out D.out) HO.out).mono ?_;rintro e wn ⟨rfl,rfl⟩;refine aJ.out _ _ D.out (fun aa=>?_);clear aJ Kc;refine tk 7 aa ?_;clear aa;refine zD ?_;have hq:(g.fin-g.tail == g.c.lc)=true:=by simp[h2]
   go_wp2_with fail;go_ret;exact⟨by rw[HE.out];rfl,D.out⟩
  ·have HE:=zH (IB h1 h2);go_wp2_with fail;refine zS w fun aa=>?_;have D:Hid (Below w.heap.size w w.drew):=aa;generalize w.drew=wd at *;have Yl:Hid (∀w',Below w.heap.size w w'->w'.cell? ⟨L,2,none⟩=some (.int .i64 g.c.lc)):=fun w' hb=>gQ.c2 (bE.later HG.out hb);refine gu 0 2 3 4 aa ?_;refine tk 5 aa ?_;refine de 6 aa (fun _ fc=>(Yl.out _ fc)) ?_;refine ck (rs:=[1]) (by kernel_rfl) (by simp) ?_;refine bu (by simp;rfl) (fun Kc aJ=>?_) bO;go_simp;refine (IF (bE.later HG.out D.out) HO.out).mono ?_;rintro e wn ⟨rfl,rfl⟩;refine aJ.out _ _ D.out (fun aa=>?_);clear aJ Kc;refine tk 7 aa ?_;clear aa;refine zD ?_;have hq:(g.fin-g.tail == g.c.lc)=false:=by simp[h2]
   go_wp2_with fail;go_ret;exact⟨by rw[HE.out];rfl,D.out⟩
theorem Y_(s:fN)(t l:Int)(ht0:0<=t)(YA:0<=l){w:World}{S:Nat->Prop}{p n:Nat}{d:List Int}{ws:List Wr}(h:pz w S p n d ws) :
  Calls prog 119 #[.pointer (some ⟨p,0,none⟩),.agg (aN s).toArray,.int .u64 t,.int .u64 l] w fun e w'=>e=.returned (.int .i64 (qG s n t l))/\Below w.heap.size w w':=by
 have L1:=zH (fC.gi (bE.new 23 w (aN s)));have HA:=zH (bE.new 23 w (aN s));have HB:Hid (Below w.heap.size w (w.alloc (.cells (aN s).toArray 23))):=ag w _;have HD:=zH h;clear h;go_enter func119,ntmps119;go_wp2_with ((with_reducible refine aQ ?_);(refine aK (by rfl) 23 rfl rfl L1.out ?_);simp only[Act.put,zA,zB,zC])
 refine (vz s _).mono ?_;rintro e w1 ⟨rfl,b1⟩;have uE:=zH (bE.later HA.out b1);have gj:Hid (Below w.heap.size w w1):=ah HB.out b1;have kD:=zH (HD.out.later gj.out);clear b1 HA HB L1 HD;by_cases hc:iP s
 ·rw[tY s hc];have HC:=zH hc;obtain ⟨⟨a1,a2⟩,⟨a3,a4⟩,-⟩:=hc;obtain ⟨bl,Jq⟩:∃x,x=s.bl:=⟨_,rfl⟩
  obtain ⟨lc,Tg⟩:∃x,x=s.lc:=⟨_,rfl⟩
  have k1:IntKind.i64.wrap (1+bl)=1+bl:=by rw[aY];omega
  have k2:IntKind.i64.wrap (1+bl+lc)=1+bl+lc:=by rw[aY];omega
  have HE:Hid ((¬(n:Int)=1+bl+lc->qG s n t l=40)/\((n:Int)=1+bl+lc->(t>4611686018427387904\/l>4611686018427387904)->qG s n t l=31)/\((n:Int)=1+bl+lc->¬(t>4611686018427387904\/l>4611686018427387904)->l=0->qG s n t l=2)/\((n:Int)=1+bl+lc->¬(t>4611686018427387904\/l>4611686018427387904)->¬l=0->qG s n t l=0)):=by
   rw[Jq,Tg];exact⟨fun h=>Iv t l HC.out h,fun h h2=>El HC.out h h2,fun h h2 h3=>Em HC.out h h2 h3,fun h h2 h3=>Oo HC.out h h2 h3⟩
  have Du:Hid (∀w',fC w' w.heap.size s->w'.cell? ⟨w.heap.size,0,none⟩=some (.int .i64 bl)/\w'.cell? ⟨w.heap.size,1,none⟩=some (.int .i64 lc)):=by rw[Jq,Tg];exact fun w' h=>⟨fC.c0 h,fC.c1 h⟩
  clear Jq Tg a1 a2 a3 a4;go_wp2_with fail;refine zS w1 fun aa=>?_;have D1:Hid (Below w1.heap.size w1 w1.drew):=aa;generalize w1.drew=wd at *;refine fI 0 2 aa ?_;refine de 3 aa (fun _ fc=>(Du.out _ (bE.later uE.out fc)).1) ?_;refine fI 4 5 aa ?_;refine de 6 aa (fun _ fc=>(Du.out _ (bE.later uE.out fc)).2) ?_;refine tk 7 aa ?_;refine ck (rs:=[1]) (by kernel_rfl) (by simp) ?_;refine bu (by simp;rfl) (fun Kc aJ=>?_) bO;go_simp;refine (Ae (kD.out.later D1.out)).mono ?_;rintro e wn ⟨rfl,rfl⟩;refine aJ.out _ _ D1.out (fun aa=>?_);clear aJ Kc;refine tk 8 aa ?_;have gD:Hid (Below w.heap.size w wd):=ah gj.out D1.out;clear aa D1 kD Du;refine zD ?_;by_cases he:(n:Int)=1+bl+lc
  ·have hq:((n:Int) != 1+bl+lc)=false:=by rw[he];simp
   by_cases hM:t>4611686018427387904\/l>4611686018427387904
   ·have HR:=zH (HE.out.2.1 he hM);clear he HE;by_cases hM1:4611686018427387904<t
    ·clear hM;go_wp2_with fail;go_ret;exact⟨by rw[HR.out];rfl,gD.out⟩
    ·have hM2:4611686018427387904<l:=by omega
     clear hM;go_wp2_with fail;go_ret;exact⟨by rw[HR.out];rfl,gD.out⟩
   ·have hM1:¬4611686018427387904<t:=by omega
    have hM2:¬4611686018427387904<l:=by omega
    by_cases h0:l=0
    ·have HR:=zH (HE.out.2.2.1 he hM h0);clear he HE hM;subst h0;go_wp2_with fail;go_ret;exact⟨by rw[HR.out];rfl,gD.out⟩
    ·have HR:=zH (HE.out.2.2.2 he hM h0);clear he HE hM;go_wp2_with fail;go_ret;exact⟨by rw[HR.out];rfl,gD.out⟩
  ·have hq:((n:Int) != 1+bl+lc)=true:=by simp[he]
   have HR:=zH (HE.out.1 he);clear he HE;go_wp2_with fail;go_ret;exact⟨by rw[HR.out];rfl,gD.out⟩
 ·rw[yL s hc];have HR:Hid (qG s n t l=3):=Oq _ _ _ hc;clear hc;go_wp2_with fail;go_ret;exact⟨by rw[HR.out];rfl,gj.out⟩
theorem Kept.drewN{S:Nat->Prop}{a w:World}(h:Kept S a w)(n:Nat):Kept S a (w.drewN n):=⟨h.os,h.tape,h.output,h.size,h.block⟩
def plL:List (Nat × Nat):=[(0,1),(1,5),(6,1),(7,1),(8,1),(9,1),(10,1),(11,1)]
theorem ZK:placesOf prog 92=some plL:=by kernel_rfl
def lg0:Lg:=⟨qz,0,0,0,0,0,0⟩
theorem agm:(prog.info? 92).bind (·.zero)=some (.agg (fH none lg0).toArray):=by kernel_rfl
theorem ah9(dp:Option Addr)(s:fN)(t l:Int):Instr.fill (plL.toArray[·]?) (fH none lg0).toArray [(0,.pointer dp),(1,.agg (aN s).toArray),(2,.int .u64 l),(3,.int .u64 t),(4,.int .u64 t),(5,.int .u64 t),(7,.int .i64 (-1))]=some (fH dp (qH s t l)).toArray:=by
 rw[dU 0 1 0 rfl _ [.pointer dp] _ rfl rfl (by simp[fH]),dU 1 5 1 rfl _ (aN s) _ rfl rfl (by simp[fH]),dU 6 1 2 rfl _ [.int .u64 l] _ rfl rfl (by simp[fH,aN]),dU 7 1 3 rfl _ [.int .u64 t] _ rfl rfl (by simp[fH,aN]),dU 8 1 4 rfl _ [.int .u64 t] _ rfl rfl (by simp[fH,aN]),dU 9 1 5 rfl _ [.int .u64 t] _ rfl rfl (by simp[fH,aN]),dU 11 1 7 rfl _ [.int .i64 (-1)] _ rfl rfl (by simp[fH,aN])];rfl
theorem ae6(w:World)(dp:Option Addr)(s:fN)(t l:Int):(Instr.build 92 #[(0,.pointer dp),(1,.agg (aN s).toArray),(2,.int .u64 l),(3,.int .u64 t),(4,.int .u64 t),(5,.int .u64 t),(7,.int .i64 (-1))]).run prog w=.ok (.agg (fH dp (qH s t l)).toArray) w :=
 eo w 92 _ _ ((jr 92 _ _ _ ZK agm).trans (ah9 dp s t l))
theorem ZT(s:fN)(t l:Int)(ht0:0<=t)(YA:0<=l){w:World}{S:Nat->Prop}{p n:Nat}{d:List Int}{ws:List Wr}(h:pz w S p n d ws)(hr:qG s n t l=0) :
  Calls prog 57 #[.pointer (some ⟨p,0,none⟩),.agg (aN s).toArray,.int .u64 t,.int .u64 l] w fun e w'=>∃L,e=.returned (.tuple #[.pointer (some ⟨L,0,none⟩),.int .i64 0])/\w.heap.size<=L/\LD w' (kX S w) L p d ws (qH s t l)/\Below w.heap.size w w':=by
 have HB:Hid (Below w.heap.size w (w.alloc (.cells (aN s).toArray 23))):=ag w _;have L1:=zH (fC.gi (bE.new 23 w (aN s)));have HA:=zH (bE.new 23 w (aN s));have HD:=zH h;have HR:=zH hr;clear h hr;go_enter func57,ntmps57;go_wp2_with ((with_reducible refine aQ ?_);(refine aK (by rfl) 23 rfl rfl L1.out ?_);simp only[Act.put,zA,zB,zC])
 refine (Y_ s t l ht0 YA (HD.out.later HB.out)).mono ?_;rintro e w1 ⟨rfl,b1⟩;have gj:Hid (Below w.heap.size w w1):=ah HB.out b1;have uE:=zH (bE.later HA.out b1);have L2:=zH (fC.gi uE.out);have B2:Hid (_):=ae6 w1 (some ⟨p,0,none⟩) s t l;rw[HR.out];clear b1 HB L1 HA;go_wp2_with ((with_reducible refine aQ ?_);(first | (refine aK (by rfl) 23 rfl rfl L2.out ?_) | (refine bh (vs:=[(0,.pointer (some ⟨p,0,none⟩)),(1,.agg (aN s).toArray),(2,.int .u64 l),(3,.int .u64 t),(4,.int .u64 t),(5,.int .u64 t),(7,.int .i64 (-1))]) (by rfl) 92 rfl (by rfl) B2.out ?_));simp only[Act.put,zA,zB,zC])
 go_ret2;have jb:=ag w1 (.cells (fH (some ⟨p,0,none⟩) (qH s t l)).toArray 92);have hn:n=(qH s t l).sz:=by
  have h1:=(x_ HR.out).2.1;have h2:=(wL HR.out ht0 YA).GX;have h3:(qH s t l).c=s:=rfl;rw[h3] at h2;omega
 have Dj:=ah gj.out jb;have hs:=gj.out.size;refine⟨w1.heap.size,rfl,hs,⟨bE.new 92 w1 _,?_,.inr hs,wL HR.out ht0 YA⟩,Dj⟩;rw[<-hn];have hd:=HD.out;obtain ⟨q,cap,v,hd⟩:=hd;refine⟨q,cap,v,hd.same (fun k hk hs'=>⟨.inl hs',by omega⟩) (fun k hk _=>Dj.block k hk)⟩
theorem Dz{w:World}{S:Nat->Prop}{L p:Nat}{d:List Int}{ws:List Wr}{g:Lg}(h:LD w S L p d ws g)(hk:ws.length<=100000):Calls prog 43 #[.pointer (some ⟨L,0,none⟩)] w fun e w'=>e=.returned (.tuple #[.int .i64 ws.length,.int .i64 0])/\LD w' S L p (settle (fun _=>true) ws d) [] g/\Kept S w w':=by
 have HG:=zH h;have c0:=gQ.c0 h.log;clear h;go_enter func43,ntmps43;go_wp2_with fail;refine (rF HG.out.log).mono ?_;rintro e w1 ⟨rfl,rfl⟩;go_wp2_with fail;refine (EN HG.out.zF hk).mono ?_;rintro e w1 ⟨rfl,hd,OU⟩;have HX:=zH (HG.out.tV hd OU);clear hd OU c0;go_wp2_with fail;go_ret2;exact⟨rfl,HX.out.1,HX.out.2⟩
theorem Gc{w:World}{S:Nat->Prop}{L p:Nat}{d:List Int}{ws:List Wr}{g:Lg}(h:LD w S L p d ws g)(hk:ws.length<=100000):Calls prog 104 #[.pointer (some ⟨L,0,none⟩)] w fun e w'=>e=.returned (.tuple #[.int .i64 (g.mark-g.tail),.int .i64 0])/\LD w' S L p (settle (fun _=>true) ws d) [] (frG g)/\Kept S w w':=by
 have hn:0<=g.mark-g.tail/\g.mark-g.tail<=64:=by have:=h.ok.tm;have:=h.ok.mf;have:=h.ok.us;have:=h.ok.cf.2.1;omega
 go_enter func104,ntmps104;go_wp2_with fail;refine (Dz h hk).mono ?_;rintro e w1 ⟨rfl,h1,OU⟩;have HG:=zH h1;have c7:=gQ.c7 h1.log;have c9:=gQ.c9 h1.log;have cf:=gQ.free h1.log 7;have HK:=zH OU;have HL:Hid (L<w.heap.size->S L):=fun _=>h.sl;have k1:IntKind.u64.wrap (g.mark-g.tail)=g.mark-g.tail:=G.sr hn.1 (by omega);have k2:RowKit.wrap64 (g.mark-g.tail)=g.mark-g.tail:=by have:=aY (g.mark-g.tail);unfold RowKit.wrap64;omega
 clear h h1 OU;go_wp2_with fail;go_quiet (fail);go_wp2_with fail;go_ret2;refine⟨rfl,?_,?_⟩
 ·have hd:=HG.out.later (av nq);exact hd.set 7 _ (g':=frG g) (gQ.adf hd.log g.mark) rfl (WH hd.ok)
 ·exact (Kept.drewN HK.out nq).setCell (p:=⟨L,7,none⟩) HL.out _
theorem Kept.wider{S T:Nat->Prop}{a b:World}(h:Kept S a b)(hs:∀k,k<a.heap.size->S k->T k):Kept T a b :=
 ⟨h.os,h.tape,h.output,h.size,fun k hk ht=>h.block k hk fun hs'=>ht (hs k hk hs')⟩
theorem iK(w:World)(L j:Nat)(v:Value):Kept (fun k=>k=L) w (w.setCell ⟨L,j,none⟩ v):=⟨rfl,rfl,rfl,by simp[World.setCell],fun k _ hk=>cJ w ⟨L,j,none⟩ k v hk⟩
theorem AA{w:World}{S:Nat->Prop}{p n:Nat}{d:List Int}{ws:List Wr}(h:pz w S p n d ws)(i:Int)(h0:0<=i)(h1:i<n)(a:Option Addr)(c:Nat)(b:List Int)(hb:jK w a 64 b)(hk:ws.length<=100000):Calls prog 159 #[.pointer (some ⟨p,0,none⟩),.int .i64 i,.slice a 64 c] w fun e w'=>e=.returned (.int .i64 0)/\pz w' (kX S w) p n d (ws++[⟨i.toNat,b⟩])/\Kept S w w':=by
 have e0:((i.toNat:Nat):Int)=i:=by omega
 have:=KF h i.toNat (by omega) a c b hb hk;rw[e0] at this;exact this
theorem abp{w:World}{S:Nat->Prop}{L p:Nat}{d:List Int}{ws:List Wr}{g:Lg}(h:LD w S L p d ws g)(hS:∀k,S k->k<w.heap.size)(hk:ws.length<=100000)(ht:qX w)(r:R.Rec)(hv:r.val.length=32)(hw:R.Rec.Wf ⟨r.kind,g.fin,r.block,r.val,r.eN⟩)(hm:R.may ⟨r.kind,g.fin,r.block,r.val,r.eN⟩=true)(hf:g.fin<4611686018427387904) :
  Calls prog 93 #[.pointer (some ⟨L,0,none⟩),.agg (R.cz r).toArray] w fun e w'=>e=.returned (.tuple #[.int .u64 g.fin,.int .i64 0])/\pz w' (kX (fun k=>S k/\k≠L) w) p g.sz d (ws++[⟨(oH g g.fin).toNat,R.encS ⟨r.kind,g.fin,r.block,r.val,r.eN⟩⟩])/\gQ w' L (some ⟨p,0,none⟩) (Ka g)/\Kept S w w':=by
 obtain ⟨r',ON⟩:∃x:R.Rec,x=⟨r.kind,g.fin,r.block,r.val,r.eN⟩:=⟨_,rfl⟩
 rw[<-ON] at hw hm ⊢;have hlr:r'.val.length=32:=by rw[ON];exact hv
 have yu:r'.pos=g.fin:=by rw[ON]
 have FV:(R.cz r).set 1 (.int .u64 g.fin)=R.cz r':=by rw[ON];rfl
 have aes:(R.cz r)[1]?=some (.int .u64 r.pos):=rfl;obtain ⟨w1,dZ⟩:∃x,x=w.alloc (.cells (R.cz r').toArray 180):=⟨_,rfl⟩
 have ew:=dZ.symm;have HG:=zH h;have HS:=zH hS;have HW:=rf hw hm;have HT:=zH ht;have B1:Hid (Below w.heap.size w w1):=by rw[dZ];exact ag w _
 have A1:Hid (R.gG 180 w1 w.heap.size r'):=by rw[dZ];exact R.gG.new 180 w r'
 have L1:=zH (R.gG.FH A1.out hlr);have hf0:0<=g.fin:=by have:=h.ok.t0;have:=h.ok.tm;have:=h.ok.mf;omega
 have ams:=bE.lt h.log;have c8:=gQ.c8 h.log;clear h hS dZ ON ht hw hm;go_enter func93,ntmps93;go_wp2_with ((with_reducible refine aQ ?_);(refine aK (by rfl) 180 rfl rfl L1.out ?_);simp only[Act.put,zA,zB,zC])
 refine (R.pU r' HW.out.1 HW.out.2 w1 (HT.out.later B1.out).half).mono ?_;rintro e w2 ⟨q2,c2',rfl,m2⟩;have B2:Hid (Below w.heap.size w w2):=ah B1.out m2.below;have jU:=zH (HG.out.later B2.out);have A2:=zH (R.gG.later A1.out m2.below);have X2:=zH m2.read;clear m2 A1 L1 ew aes FV c8;go_wp2_with fail;refine jg ?_;refine wp_region_held_drew (S:=fun w'=>w'.cell? ⟨L,0,none⟩=some (.pointer (some ⟨p,0,none⟩))/\w'.cell? ⟨w.heap.size,1,none⟩=some (.int .u64 g.fin)) (by kernel_rfl) (by
  refine⟨gQ.c0 jU.out.log,?_⟩;rw[<-yu];exact A2.out.c1) (fun aa=>?_)
 have D2:Hid (Below w2.heap.size w2 w2.drew):=av 1;generalize w2.drew=wd at *;refine gh 0 1 2 aa ?_;refine de 3 aa (fun _ fc=>fc.1) ?_;refine fI 4 5 aa ?_;refine de 6 aa (fun _ fc=>fc.2) ?_;refine tk 8 aa ?_;refine ck (rs:=[7]) (by kernel_rfl) (by simp) ?_;refine bu (by simp;rfl) (fun Kc aJ=>?_) bO;go_simp;refine (Qf (bE.later jU.out.log D2.out) HG.out.ok g.fin hf0 (by omega)).mono ?_;rintro e wn ⟨rfl,rfl⟩;refine aJ.out _ _ aa (fun aa=>?_);clear aJ Kc;refine ck (rs:=[9]) (by kernel_rfl) (by simp) ?_;refine bu (by simp;rfl) (fun Kc aJ=>?_) bO;go_simp;refine (AA (jU.out.later D2.out).zF (oH g g.fin) (zT HG.out.ok _).1 (zT HG.out.ok _).2 q2 c2' _ (X2.out.later D2.out) hk).mono ?_;rintro e w3 ⟨rfl,d3,k3⟩;have Y3:Hid (pz w3 (kX (fun k=>S k/\k≠L) wd) p g.sz d (ws++[⟨(oH g g.fin).toNat,R.encS r'⟩])/\gQ w3 L (some ⟨p,0,none⟩) g/\Kept (fun k=>S k/\k≠L) wd w3/\w3.cell? ⟨w.heap.size,1,none⟩=some (.int .u64 g.fin)):=by
  have hz:=B2.out.size;have iL:=D2.out.size;have hA:=A2.out.lt;refine⟨d3,(k3.block L (by omega) (fun t=>t.2 rfl)).trans (bE.later jU.out.log D2.out),k3,?_⟩;rw[dN (k3.block w.heap.size (by omega) (fun t=>by have:=HS.out _ t.1;omega))];exact aa.2
 clear d3 k3;refine aJ.out _ _ ⟨gQ.c0 Y3.out.2.1,Y3.out.2.2.2⟩ (fun aa=>?_);clear aJ Kc;refine tk 10 aa ?_;refine zD ?_;have c8:=gQ.c8 Y3.out.2.1;have cf:=gQ.free Y3.out.2.1 8;have c1:=Y3.out.2.2.2;have kG:¬L=w.heap.size:=by omega
 have alB:¬w.heap.size=L:=by omega
 have k1:IntKind.u64.wrap (g.fin+1)=g.fin+1:=G.sr (by omega) (by omega);clear aa X2 A2;go_wp2_with fail;go_ret2;have sV:=B2.out.size;have hs3:=Y3.out.2.2.1.size;refine⟨rfl,?_,gQ.adi Y3.out.2.1 _,?_⟩
 ·refine (Y3.out.1.kept (iK w3 L 8 (.int .u64 (g.fin+1))) ?_).mono ?_
  ·rintro k (hs | hs) rfl
   ·exact hs.2 rfl
   ·have:=D2.out.size;omega
  ·rintro k _ (hs | hs)
   ·exact .inl hs
   ·exact .inr (by have:=D2.out.size;omega)
 ·exact ((Kept.bP (S:=S) (ah B2.out D2.out)).trans (T:=fun k=>S k/\k≠L) Y3.out.2.2.1 (fun _ _ t=>t.1)).setCell (p:=⟨L,8,none⟩) (fun _=>HG.out.sl) _
theorem J'{w:World}{S:Nat->Prop}{L p:Nat}{d:List Int}{ws:List Wr}{g:Lg}(h:LD w S L p d ws g)(hk:ws.length<=100000)(ht:qX w)(r:R.Rec)(hv:r.val.length=32)(hw:R.Rec.Wf ⟨r.kind,g.fin,r.block,r.val,r.eN⟩)(hm:R.may ⟨r.kind,g.fin,r.block,r.val,r.eN⟩=true)(hf:g.fin<4611686018427387904) :
  Calls prog 93 #[.pointer (some ⟨L,0,none⟩),.agg (R.cz r).toArray] w fun e w'=>e=.returned (.tuple #[.int .u64 g.fin,.int .i64 0])/\pz w' (kX (fun k=>S k/\k≠L) w) p g.sz d (ws++[⟨(oH g g.fin).toNat,R.encS ⟨r.kind,g.fin,r.block,r.val,r.eN⟩⟩])/\gQ w' L (some ⟨p,0,none⟩) (Ka g)/\Kept S w w':=by
 refine (abp (h.mono (T:=fun k=>S k/\k<w.heap.size) fun k hk s=>⟨s,hk⟩) (fun _ s=>s.2) hk ht r hv hw hm hf).mono ?_;rintro e w' ⟨rfl,h1,h2,h3⟩;refine⟨rfl,h1.mono ?_,h2,h3.wider fun _ _ s=>s.1⟩;rintro k _ (hs | hs)
 ·exact .inl ⟨hs.1.1,hs.2⟩
 ·exact .inr hs
end Go.Proofs.Zq
namespace Go.Proofs.Zq.R
open Go.Proofs.Tryz
open Go.RowKit
theorem XF{P:Program}{ops:Array Oper}{rest:List Oper}{o:Oper}{a:Act}{w:World}{Q:Exit->Act->World->Prop}(h:wpList P ops Q (o :: rest) a w):wpList P ops Q (o :: rest) a w:=h
def An (r:Rec):Bool:=r.kind == 2 && (r.block == 0 && (decide (r.val=zs 32) && (decide (0<=r.eN) && decide (r.eN<=16))))
theorem MW(r:Rec):An r=nt r:=by
 unfold An nt;cases (r.kind == 2) <;> cases (r.block == 0) <;> cases (decide (r.val=zs 32)) <;> cases (decide (0<=r.eN)) <;> cases (decide (r.eN<=16)) <;> rfl
theorem ry(r:Rec)(hv:r.val.length=32)(w:World) :
  Calls prog 210 #[.agg (cz r).toArray] w fun e w'=>e=.returned (.int .i64 (vB r))/\Below w.heap.size w w':=by
 have hA:=gG.new 226 w r;have c0:=hA.c0;have c1:=hA.c1;have c2:=hA.c2;have c4:=hA.c35 hv;have L3:=zH (hA.Vy hv);have B3:Hid (_):=PA (w.alloc (.cells (cz r).toArray 226));have Q3:Hid (_):=acA (w.alloc (.cells (cz r).toArray 226)) r.val (zs 32) hv (bG 32);have HB:Hid (Below w.heap.size w (w.alloc (.cells (cz r).toArray 226))):=ag w _;have HK:Hid (vB r=if (decide (r.pos<=4611686018427387904) && (qh r || An r))=true then 0 else 60):=by show _=_;rw[MW];rfl
 clear hA hv;go_enter func210,ntmps210;go_wp2_with ((with_reducible refine XF ?_);(first | (refine aK (by rfl) 51 rfl rfl L3.out ?_) | (refine bh (vs:=[]) (by rfl) 51 rfl (by rfl) B3.out ?_) | (refine nk (by rfl) 51 rfl rfl rfl acB Q3.out ?_));simp only[Act.put,zA,zB,zC])
 all_goals go_ret
 all_goals (refine⟨?_,HB.out⟩)
 all_goals (rw[HK.out];clear c0 c1 c2 c4 L3 B3 Q3 HB HK;unfold qh An;simp_all <;> (intros;omega))
def lay (P D:List Int)(m j:Nat):List Int:=(P++D.take j)++zs (m-j)
theorem IP(P D:List Int)(m:Nat):lay P D m 0=P++zs m:=by simp[lay]
theorem lay_all(P D:List Int)(m j:Nat)(h:D.length=j):lay P D m j=(P++D)++zs (m-j):=by
 unfold lay;rw[aL (by omega)]
theorem OB(P D:List Int)(m j:Nat)(hj:j<=D.length)(hm:D.length<=m):(lay P D m j).length=P.length+m:=by
 simp[lay,zs];omega
theorem IQ(P D:List Int)(m j Gn:Nat)(hp:P.length=Gn)(hj:j<D.length)(hm:D.length<=m):(lay P D m j).set (Gn+j) D[j]=lay P D m (j+1):=by
 unfold lay;rw[bw hj,qT _ _ (by simp;omega)];have e:m-j=(m-(j+1))+1:=by omega
 rw[e];unfold zs;rw[List.replicate_succ];have e2:Gn+j-(P++D.take j).length=0:=by simp;omega
 rw[e2,zB];simp only[aS,ct,bF]
theorem aeT(k:Nat)(n:Int)(j:Nat)(h:j<(digits k n).length):(n / 256 ^ j) % 256=(digits k n)[j]:=(oW k n j h).symm
theorem uJ(B g cap Gn size m:Nat)(P:List Int)(n:Int)(w0 w:World)(ho:w.ownsRow B 5 1 (.slice (some ⟨g,0,none⟩) 64 cap) 64 (U8 (P++zs m)))(hb:Below B w0 w)(hp:P.length=Gn)(hm:Gn+m=64)(hs:size<=m)(hs8:size<=8)(h0:0<=n)(h1:n<=18446744073709551615) :
  Calls prog 211 #[.slice (some ⟨g,0,none⟩) 64 cap,.int .i64 Gn,.int .u64 n,.int .i64 size] w fun e w'=>e=.returned (.tuple #[])/\w'.ownsRow B 5 1 (.slice (some ⟨g,0,none⟩) 64 cap) 64 (U8 ((P++digits size n)++zs (m-size)))/\Below B w0 w':=by
 have HD:=zH (dG size n);have HP:=zH hp;have HO:Hid (w.ownsRow B 5 1 (.slice (some ⟨g,0,none⟩) 64 cap) 64 (U8 (lay P (digits size n) m 0))):=by rw[IP];exact ho
 have HB:=zH hb;clear ho hb hp;go_enter func211,ntmps211;go_wp2
 go_loopw [2,8] (fun v i wr=>∃j:Nat,j<=size/\i=.int .i64 j/\v=.int .u64 (n / 256 ^ j)/\Hid (wr.ownsRow B 5 1 (.slice (some ⟨g,0,none⟩) 64 cap) 64 (U8 (lay P (digits size n) m j))/\Below B w0 wr)) (fun _ i _=>size-(intOf i).toNat)
 case atStart=>exact⟨0,aI _,rfl,by simp,HO.out,HB.out⟩
 case round =>
  obtain ⟨j,hj,rfl,rfl,HR⟩:=hrel;clear HO HB;have ahp:0<=n / 256 ^ j:=Int.ediv_nonneg h0 (Int.le_of_lt (pow_pos j));have ard:n / 256 ^ j<=n:=Int.ediv_le_self _ h0;by_cases eP:j<size
  ·have Dh:j<(digits size n).length:=by rw[HD.out];exact eP
   have HV:=zH (aeT size n j Dh);have iU:=HR.out.1.stored (Gn+j) (.int .u8 ((digits size n)[j]));have FV:(U8 (lay P (digits size n) m j)).set (Gn+j) (.int .u8 ((digits size n)[j]))=U8 (lay P (digits size n) m (j+1)):=by
    rw[<-IQ P _ m j Gn HP.out Dh (by rw[HD.out];exact hs)];simp[U8,List.map_set]
   rw[FV] at iU;have hcell:=HR.out.1.cellAt (Gn+j) (by omega);have hlen:(U8 (lay P (digits size n) m j)).length=64:=by rw[dI,OB _ _ _ _ (by have:=HD.out;omega) (by have:=HD.out;omega),HP.out];omega
   obtain ⟨u,hu⟩:∃u,w.cell? ⟨g,Gn+j,none⟩=w.cell? ⟨g,Gn+j,none⟩/\wr.cell? ⟨g,Gn+j,none⟩=some u:=⟨_,rfl,by rw[hcell];exact ay (by omega)⟩
   have hu2:=hu.2;have hfz:=HR.out.1.frozenAt (Gn+j);have HN:Hid (n / 256 ^ (j+1)=n / 256 ^ j / 256):=by
    show _=_;rw[Int.pow_succ,Int.ediv_ediv_of_nonneg (Int.le_of_lt (pow_pos j))]
   have HQ:Hid ((wr.setCell ⟨g,Gn+j,none⟩ (.int .u8 ((digits size n)[j]))).ownsRow B 5 1 (.slice (some ⟨g,0,none⟩) 64 cap) 64 (U8 (lay P (digits size n) m (j+1)))/\Below B w0 (wr.setCell ⟨g,Gn+j,none⟩ (.int .u8 ((digits size n)[j])))) :=
    ⟨iU.1,HR.out.2.setCell (HR.out.1.lt g rfl).1 _⟩
   clear iU FV hcell hlen HR hu;rw[<-HV.out] at HQ;generalize n / 256 ^ j=N at *;have i1:(Gn:Int)+(j:Int)<64:=by omega
   have i0:(0:Int)<=(Gn:Int)+(j:Int):=by omega
   have t1:N.tmod 256=N % 256:=mW ahp;have t2:N.tdiv 256=N / 256:=Int.tdiv_eq_ediv_of_nonneg ahp;go_wp2;go_roundw
   case rel=>exact⟨j+1,by omega,by go_num,by rw[HN.out],HQ.out⟩
   case measure=>simp[intOf];omega
  ·obtain rfl:j=size:=by omega
   have HE:Hid (wr.ownsRow B 5 1 (.slice (some ⟨g,0,none⟩) 64 cap) 64 (U8 ((P++digits j n)++zs (m-j)))/\Below B w0 wr):=⟨by have:=HR.out.1;rw[lay_all _ _ _ _ HD.out] at this;exact this,HR.out.2⟩
   clear HR;go_wp2
   go_end0
   exact⟨rfl,HE.out⟩
end Go.Proofs.Zq.R
namespace Go.Proofs.Zq
open Go.Proofs.Tryz
open Go.RowKit
theorem Ih(x:Nat)(c:Int)(hx:x<4294967296)(rZ:0<=c)(Kt:c<256)(w:World) :
  Calls prog 227 #[.int .u32 x,.int .u8 c] w fun e w'=>e=.returned (.int .u32 (hn 8 (x ^^^ c.toNat):Nat))/\w=w':=by
 obtain ⟨y,hy⟩:∃y,y=x ^^^ c.toNat:=⟨_,rfl⟩
 have hyl:y<4294967296:=by rw[hy];exact Ay _ _ hx (by omega)
 have h1:bits .xor .u32 (x:Int) c=(y:Int):=by
  rw[hy,<-nL x c.toNat hx (by omega)]
  congr 1
  omega
 rw[<-hy];clear hy;go_enter func227,ntmps227;go_wp2
 go_loop [0,5] (fun v i=>∃k:Nat,k<=8/\i=.int .i64 k/\v=.int .u32 (hn k y:Nat)) (fun _ i=>8-(intOf i).toNat)
 case atStart=>exact⟨0,by omega,rfl,rfl⟩
 case round =>
  obtain ⟨k,hk,rfl,rfl⟩:=hrel;by_cases eP:k<8
  ·have hl:=Jf k y hyl;have HN:=zH (OQ k y);obtain ⟨z,hz⟩:∃z,z=hn k y:=⟨_,rfl⟩
   rw[<-hz] at HN hl ⊢;clear hz;by_cases We:z % 2=1
   ·have Ag:=nL (z / 2) 3988292384 (by omega) (by omega);have HV:Hid (hv z=z / 2 ^^^ 3988292384):=by show _=_;unfold hv;rw[aE We]
    have ho':(z:Int) % 2=1:=by omega
    have hx3:bits .xor .u32 ((z:Int) / 2) 3988292384=((z / 2 ^^^ 3988292384:Nat):Int):=Ag;clear Ag;go_wp2;go_round
    case rel=>exact⟨k+1,by omega,by go_num,by rw[HN.out,HV.out]⟩
    case measure=>simp[intOf];omega
   ·have HV:Hid (hv z=z / 2):=by show _=_;unfold hv;rw[aD We,Nat.xor_zero]
    have ho':¬(z:Int) % 2=1:=by omega
    go_wp2;go_round
    case rel=>exact⟨k+1,by omega,by go_num,by rw[HN.out,HV.out];rfl⟩
    case measure=>simp[intOf];omega
  ·obtain rfl:k=8:=by omega
   go_wp2;go_ret;exact⟨rfl,rfl⟩
theorem QJ(b o n c:Nat)(xs:List Int)(w:World)(h:jK w (some ⟨b,o,none⟩) n xs)(h0:0<n)(r_:n<=140737488355328) :
  Calls prog 209 #[.slice (some ⟨b,o,none⟩) n c] w fun e w'=>e=.returned (.int .u32 (xx xs:Nat))/\w=w':=by
 obtain ⟨b',o',e,hcs⟩:=h.cells h0;simp only[aC,d_,gJ] at e;obtain ⟨rfl,rfl⟩:=e;have HC:=zH hcs;have HX:=zH h.len;have HK:=zH h.byte;clear hcs h;go_enter func209,ntmps209;go_wp2
 go_loop [3,4] (fun x i=>∃j:Nat,j<=n/\i=.int .i64 j/\x=.int .u32 (st 4294967295 (xs.take j):Nat)) (fun _ i=>n-(intOf i).toNat)
 case atStart=>exact⟨0,aI _,rfl,rfl⟩
 case round =>
  obtain ⟨j,hj,rfl,rfl⟩:=hrel;have Wl:=Hg 4294967295 (xs.take j) (by omega) (HK.out.take j);by_cases Dg:j<n
  ·have hcj:=HC.out j Dg;have Wm:j<xs.length:=by rw[HX.out];exact Dg
   have hb:=HK.out.at j Wm;have HJ:Hid (st 4294967295 (xs.take (j+1))=hn 8 (st 4294967295 (xs.take j) ^^^ xs[j].toNat)):=Fh _ xs j Wm;rw[show xs.getD j 0=xs[j] by simp[List.getD,List.getElem?_eq_getElem Wm]] at hcj;obtain ⟨z,hz⟩:∃z,z=st 4294967295 (xs.take j):=⟨_,rfl⟩
   rw[<-hz] at Wl HJ ⊢;obtain ⟨q,hq⟩:∃q,q=xs[j]:=⟨_,rfl⟩
   rw[<-hq] at hb HJ hcj;obtain ⟨yD,qj⟩:=hb;clear hz hq;go_wp2_with (go_at_call 227;refine (Ih z q Wl yD qj _).mono ?_;rintro e w' ⟨rfl,rfl⟩)
   go_round
   case rel=>exact⟨j+1,by omega,by go_num,by rw[HJ.out]⟩
   case measure=>simp[intOf];omega
  ·have HA:Hid (xs.take j=xs):=aL (by rw[HX.out];omega);have hxo:=nL _ 4294967295 Wl (by omega);have HO:Hid (bits .xor .u32 ((st 4294967295 (xs.take j):Nat):Int) 4294967295=((xx xs:Nat):Int)):=by
    show _=_;rw[xx,<-HA.out];simpa [HA.out] using hxo
   clear hxo;go_wp2;go_ret;refine⟨?_,rfl⟩;rw[<-HO.out];rfl
theorem Lu(p:Option Addr)(c:Nat)(w:World) :
  Calls prog 209 #[.slice p 0 c] w fun e w'=>e=.returned (.int .u32 0)/\w=w':=by
 go_enter func209,ntmps209;go_wp2;refine wp_loop_rounds 1 ?_;rw[rounds_succ];go_wp2;go_ret;exact⟨rfl,rfl⟩
theorem Ef(p:Option Addr)(n c:Nat)(xs:List Int)(w:World)(h:jK w p n xs)(r_:n<=140737488355328) :
  Calls prog 209 #[.slice p n c] w fun e w'=>e=.returned (.int .u32 (xx xs:Nat))/\w=w':=by
 by_cases h0:0<n
 ·obtain ⟨b,o,rfl,hc⟩:=h.cells h0;exact QJ b o n c xs w h h0 r_
 ·obtain rfl:n=0:=by omega
  obtain rfl:xs=[]:=aZ h.len;refine (Lu p c w).mono ?_;rintro e w' ⟨rfl,hw⟩;exact⟨rfl,hw⟩
end Go.Proofs.Zq
namespace Go.Proofs.Zq.R
open Go.Proofs.Tryz
open Go.RowKit
theorem Mh(k:Nat):(madeCells #[Value.int .u8 0] k).toList=U8 (zs k):=by
 rw[nM];simp[U8,zs]
theorem ZY(r:Rec)(h:may r=true):r.block+r.eN=qg r:=by
 rw[wN] at h;unfold qg;rcases h.2 with h2 | h2
 ·obtain ⟨a,b,c,d⟩:=h2;rw[aE a];omega
 ·obtain ⟨a,b,c,d,e⟩:=h2;rw[aD (by omega)];omega
theorem ME(r:Rec):[87,r.kind,0,0]++digits 8 r.pos++digits 4 (qg r)++r.val=head r:=by simp[head]
theorem Ty(a b:Nat):zs (a+b)=zs a++zs b:=by unfold zs;rw[List.replicate_append_replicate]
theorem Zn(k:Int):((zs 64).set 0 87).set 1 k=[87,k,0,0]++zs 60:=rfl
theorem Bj(r:Rec)(hw:r.Wf)(hm:may r=true)(w:World) :
  Calls prog 183 #[.agg (cz r).toArray] w fun e w'=>∃p c,e=.returned (.tuple #[.slice p 64 c,.int .i64 0])/\Made w w' p 64 c (encS r):=by
 obtain ⟨i0,hi,ij,gm,iL⟩:=cj mq;have L1:=zH ((gG.new 226 w r).Vv hw.len);have HW:=zH hw;have HM:=zH hm;have hc:=oh r hm;have HS:=zH (ZY r hm);have HN:=zH (Fy r hm);have HK:Hid (0<=r.kind/\r.kind<256):=by have:=BG hm;exact⟨by omega,by omega⟩
 go_enter func183,ntmps183;go_wp2_with ((with_reducible refine XF ?_);(refine aK (by rfl) 226 rfl rfl L1.out ?_);simp only[Act.put,zA,zB,zC])
 refine (ry r hw.len _).mono ?_;rintro e w1 ⟨rfl,b1⟩;rw[hc];have B1:=zH (kC b1);have R1:=zH ((gG.new 226 w r).later b1);clear b1 L1 hm hc hw;go_wp2_with (at_make;refine wpList_make_full _ rfl _ _ 107 rfl w1.heap.size 5 i0 (.int .u8 0) 1 bK hi ij gm .i64 .i64 _ _ 64 rfl rfl rfl rfl (by rw[iL];omega) (by unfold maxLen;omega) (az _) ?_)
 intro w2 dR cU;rw[Mh 64] at dR;have b2:Below w1.heap.size w1 w2:=(aV w1.heap.size w1).grown cU (az _) (by intro k hk;cases hk);have R2:gG 226 w2 w.heap.size r:=R1.out.later b2;have gne:w.heap.size<w1.heap.size:=R1.out.lt;have GNE:=zH gne
 -- the first two bytes
 have s0:=dR.stored 0 (.int .u8 87);have f0:=dR.frozenAt 0;have c0:=dR.cellAt 0 (by omega);obtain ⟨u0,hu0⟩:∃u,w2.cell? ⟨w1.heap.size,0,none⟩=some u:=⟨_,by rw[c0];exact ay (by simp[zs])⟩
 obtain ⟨w3,jM⟩:∃w3,w3=w2.setCell ⟨w1.heap.size,0,none⟩ (.int .u8 87):=⟨_,rfl⟩
 have o3:w3.ownsRow w1.heap.size 5 1 (.slice (some ⟨w1.heap.size,0,none⟩) 64 64) 64 ((U8 (zs 64)).set 0 (.int .u8 87)):=by rw[jM];exact s0.1
 have R3:gG 226 w3 w.heap.size r:=by rw[jM];exact (cJ w2 ⟨w1.heap.size,0,none⟩ w.heap.size _ (by simp;omega)).trans R2
 have b3:Below w1.heap.size w1 w3:=by rw[jM];exact b2.setCell (az _) _
 have s1:=o3.stored 1 (.int .u8 r.kind);have f1:=o3.frozenAt 1;have c1:=o3.cellAt 1 (by omega);obtain ⟨u1,hu1⟩:∃u,w3.cell? ⟨w1.heap.size,1,none⟩=some u:=⟨_,by rw[c1];exact ay (by simp[zs])⟩
 obtain ⟨w4,nU⟩:∃w4,w4=w3.setCell ⟨w1.heap.size,1,none⟩ (.int .u8 r.kind):=⟨_,rfl⟩
 have o4:w4.ownsRow w1.heap.size 5 1 (.slice (some ⟨w1.heap.size,0,none⟩) 64 64) 64 (U8 ([87,r.kind,0,0]++zs 60)):=by
  rw[nU];have:=s1.1;rw[show ((U8 (zs 64)).set 0 (.int .u8 87)).set 1 (.int .u8 r.kind)=U8 ([87,r.kind,0,0]++zs 60) by rw[<-Zn];simp[U8,List.map_set]] at this;exact this
 have R4:gG 226 w4 w.heap.size r:=by rw[nU];exact (cJ w3 ⟨w1.heap.size,1,none⟩ w.heap.size _ (by simp;omega)).trans R3
 have b4:Below w1.heap.size w1 w4:=by rw[nU];exact b3.setCell (az _) _
 have k3:=R3.c0;have k4:=R4.c1;have O4:=zH o4;have B4:=zH b4;have RR:=zH R4;have kk0:=HK.out.1;have kk1:=HK.out.2;have e3:=jM.symm;have e4:=nU.symm;clear dR cU b2 R2 s0 c0 o3 R3 b3 s1 c1 o4 R4 b4 jM nU;go_wp2_with fail;refine (uJ w1.heap.size w1.heap.size 64 4 8 60 [87,r.kind,0,0] r.pos w1 w4 O4.out B4.out rfl (by omega) (by omega) (by omega) HW.out.p0 HW.out.p1).mono ?_;rintro e w5 ⟨rfl,o5,b5⟩;clear e3 e4 f0 f1 hu0 hu1 k3 k4 kk0 kk1 O4 B4;have O5:=zH o5;have B5:=zH b5;have R5:gG 226 w5 w.heap.size r:=R1.out.below b5 GNE.out;have d2:=R5.c2;have d4:=R5.c35 HW.out.len;have aan:=HS.out;have yx:=HN.out.1;have Wi:=HN.out.2;clear o5 b5 R5;have aiN:Hid (([87,r.kind,0,0]++digits 8 r.pos).length=12):=by show _=_;simp[dG]
 obtain ⟨nn,hnn⟩:∃nn,nn=qg r:=⟨_,rfl⟩
 rw[<-hnn] at aan yx Wi;have HNN:=zH hnn;clear hnn;go_wp2_with fail;refine (uJ w1.heap.size w1.heap.size 64 12 4 52 ([87,r.kind,0,0]++digits 8 r.pos) nn w1 w5 O5.out B5.out aiN.out (by omega) (by omega) (by omega) yx (by omega)).mono ?_;rintro e w6 ⟨rfl,o6,b6⟩;rw[HNN.out] at o6;have O6:Hid (w6.ownsRow w1.heap.size 5 1 (.slice (some ⟨w1.heap.size,0,none⟩) 64 64) 64 (U8 (lay ([87,r.kind,0,0]++digits 8 r.pos++digits 4 (qg r)) r.val 48 0))):=by rw[IP];exact o6
 have B6:=zH b6;clear o6 b6 d2 d4 aan yx Wi HNN O5 B5 aiN HS HN;have Kz:Hid (([87,r.kind,0,0]++digits 8 r.pos++digits 4 (qg r)).length=16):=by show _=_;simp[dG]
 have HHS:=zH (ME r);generalize [87,r.kind,0,0]++digits 8 r.pos++digits 4 (qg r)=P at *;go_wp2_with fail
 go_loopw [6] (fun k wr=>∃j:Nat,j<=32/\k=.int .i64 j/\Hid (wr.ownsRow w1.heap.size 5 1 (.slice (some ⟨w1.heap.size,0,none⟩) 64 64) 64 (U8 (lay P r.val 48 j))/\Below w1.heap.size w1 wr)) (fun k _=>32-(intOf k).toNat)
 case atStart=>exact⟨0,by omega,rfl,O6.out,B6.out⟩
 case round =>
  obtain ⟨j,hj,rfl,HR⟩:=hrel;clear O6 B6;by_cases eP:j<32
  ·have hjv:j<r.val.length:=by rw[HW.out.len];exact eP
   have Rr:=R1.out.below HR.out.2 GNE.out;have cv:wr.cell? ⟨w.heap.size,3+j,none⟩=some (.int .u8 r.val[j]):=(Rr.cell (3+j)).trans (uL r j hjv);have iU:=HR.out.1.stored (16+j) (.int .u8 r.val[j]);have FV:(U8 (lay P r.val 48 j)).set (16+j) (.int .u8 r.val[j])=U8 (lay P r.val 48 (j+1)):=by
    rw[<-IQ P _ 48 j 16 Kz.out hjv (by rw[HW.out.len];omega)];simp[U8,List.map_set]
   rw[FV] at iU;have hcell:=HR.out.1.cellAt (16+j) (by omega);have hlen:(U8 (lay P r.val 48 j)).length=64:=by rw[dI,OB _ _ _ _ (by omega) (by rw[HW.out.len];omega),Kz.out]
   obtain ⟨u,hu⟩:∃u,wr.cell? ⟨w1.heap.size,16+j,none⟩=some u:=⟨_,by rw[hcell];exact ay (by omega)⟩
   have hfz:=HR.out.1.frozenAt (16+j);have HQ:Hid ((wr.setCell ⟨w1.heap.size,16+j,none⟩ (.int .u8 r.val[j])).ownsRow w1.heap.size 5 1 (.slice (some ⟨w1.heap.size,0,none⟩) 64 64) 64 (U8 (lay P r.val 48 (j+1)))/\Below w1.heap.size w1 (wr.setCell ⟨w1.heap.size,16+j,none⟩ (.int .u8 r.val[j]))):=⟨iU.1,HR.out.2.setCell (az _) _⟩
   clear iU FV hcell hlen HR Rr;generalize r.val[j]=x at *;clear hjv;have i1:(16:Int)+(j:Int)<64:=by omega
   have i0:(0:Int)<=(16:Int)+(j:Int):=by omega
   go_wp2_with fail;go_roundw
   case rel=>exact⟨j+1,by omega,by go_num,HQ.out⟩
   case measure=>simp[intOf];omega
  ·obtain ⟨w7,Yw⟩:∃w7,w7=wr:=⟨_,rfl⟩
   subst Yw;have O7:Hid (w7.ownsRow w1.heap.size 5 1 (.slice (some ⟨w1.heap.size,0,none⟩) 64 64) 64 (U8 (body r++zs 4))):=by
    have:=HR.out.1;obtain rfl:j=32:=by omega
    rw[lay_all P r.val 48 32 HW.out.len,HHS.out,show (48-32:Nat)=12+4 by omega,Ty,<-aS] at this;exact this
   have B7:=zH HR.out.2;have HBL:=zH (nI r HW.out.len);have HBB:=zH (jc r HW.out HM.out);have X7:Hid (jK w7 (some ⟨w1.heap.size,0,none⟩) 60 (body r)):=by
    obtain ⟨p',c',e',hx,-⟩:=rA O7.out (HBB.out.append (jW 4));simp only[cE] at e';have:=hx.take 60 (by omega);rw[<-e'.1,fD (by rw[HBL.out];omega),aL (by rw[HBL.out];omega)] at this;exact this
   clear HR;go_wp2_with fail;refine (Ef _ 60 64 (body r) w7 X7.out (by omega)).mono ?_;rintro e w8 ⟨rfl,rfl⟩;have Tj:=yI (body r) HBB.out;have HE:Hid (encS r=body r++digits 4 ((xx (body r):Nat):Int)++zs (4-4)):=by show _=_;simp[encS,zs]
   generalize xx (body r)=S at *;go_wp2_with fail;refine (uJ w1.heap.size w1.heap.size 64 60 4 4 (body r) (S:Int) w1 w7 O7.out B7.out HBL.out (by omega) (by omega) (by omega) (by omega) (by omega)).mono ?_;rintro e w9 ⟨rfl,o9,b9⟩;rw[<-HE.out] at o9;obtain ⟨p9,c9,e9,m9⟩:=pQ (eH o9 B1.out.size) (rL r HW.out HM.out) (ah B1.out b9);simp only[cE,nY] at e9;obtain ⟨rfl,rfl⟩:=e9;have M9:=zH m9;clear o9 b9 m9;go_wp2_with fail;go_ret2;exact⟨_,_,rfl,M9.out⟩
