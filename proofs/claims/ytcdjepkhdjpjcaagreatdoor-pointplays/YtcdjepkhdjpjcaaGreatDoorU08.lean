import Derived.Test.YtcdjepkhdjpjcaaGreatDoorU07
set_option maxHeartbeats 20000000
set_option maxRecDepth 100000
namespace Go.Proofs.Zq
open Go.Proofs.Tryz
open Go.RowKit
theorem tN{w:World}{L p:Nat}{g:Lg}{b:Int}(h:fY w L (some ⟨p,0,none⟩) g b)(ok:g.Ok):Calls prog 128 #[.pointer (some ⟨L,0,none⟩)] w fun e w'=>e=.returned (.int .i64 (fK g))/\Below w.heap.size w w':=by
 have HG:=zH h;have HO:Hid g.Ok:=ok;have HR:Hid (Below w.heap.size w w):=aV _ _;have c0:=fY.c0 h;have c8:=fY.c8 h;have hf:0<=g.fin/\g.fin<=4611686018427387904:=by have:=ok.t0;have:=ok.tm;have:=ok.mf;have:=ok.fM;omega
 clear h ok;go_enter func128,ntmps128;by_cases h1:g.fin=4611686018427387904
 ·have HE:=zH (yb h1);go_wp2_with fail;go_ret;exact⟨by rw[HE.out];rfl,HR.out⟩
 ·by_cases h2:g.fin-g.tail=g.c.lc
  ·have HE:=zH (uO h1 h2);go_wp2_with fail;refine zS w fun aa=>?_;have D:Hid (Below w.heap.size w w.drew):=aa;generalize w.drew=wd at *;have Yl:Hid (∀w',Below w.heap.size w w'->w'.cell? ⟨L,2,none⟩=some (.int .i64 g.c.lc)):=fun w' hb=>fY.c2 (bE.later HG.out hb);refine gu 0 2 3 4 aa ?_;refine tk 5 aa ?_;refine de 6 aa (fun _ fc=>(Yl.out _ fc)) ?_;refine ck (rs:=[1]) (by kernel_rfl) (by simp) ?_;refine bu (by simp;rfl) (fun Kc aJ=>?_) bO;go_simp;refine (Hq (bE.later HG.out D.out) HO.out).mono ?_;rintro e wn ⟨rfl,bn⟩;have hB:Hid (Below w.heap.size w wn):=ah D.out bn;refine aJ.out _ _ hB.out (fun aa=>?_);clear aJ Kc bn;refine fI 7 8 aa ?_;clear aa;refine zD ?_;have hq:(g.fin-g.tail == g.c.lc)=true:=by simp[h2]
   go_wp2_with fail;go_ret;exact⟨by rw[HE.out];rfl,hB.out⟩
  ·have HE:=zH (IB h1 h2);go_wp2_with fail;refine zS w fun aa=>?_;have D:Hid (Below w.heap.size w w.drew):=aa;generalize w.drew=wd at *;have Yl:Hid (∀w',Below w.heap.size w w'->w'.cell? ⟨L,2,none⟩=some (.int .i64 g.c.lc)):=fun w' hb=>fY.c2 (bE.later HG.out hb);refine gu 0 2 3 4 aa ?_;refine tk 5 aa ?_;refine de 6 aa (fun _ fc=>(Yl.out _ fc)) ?_;refine ck (rs:=[1]) (by kernel_rfl) (by simp) ?_;refine bu (by simp;rfl) (fun Kc aJ=>?_) bO;go_simp;refine (Hq (bE.later HG.out D.out) HO.out).mono ?_;rintro e wn ⟨rfl,bn⟩;have hB:Hid (Below w.heap.size w wn):=ah D.out bn;refine aJ.out _ _ hB.out (fun aa=>?_);clear aJ Kc bn;refine fI 7 8 aa ?_;clear aa;refine zD ?_;have hq:(g.fin-g.tail == g.c.lc)=false:=by simp[h2]
   go_wp2_with fail;go_ret;exact⟨by rw[HE.out];rfl,hB.out⟩
theorem xS{w:World}{S:Nat->Prop}{p n:Nat}{d:List Int}{ws:List Wr}(h:Ref w S p n d ws)(i:Int)(h0:0<=i)(h1:i<n)(a:Option Addr)(c:Nat)(b:List Int)(hb:jK w a 64 b)(hk:ws.length<=100000):Calls prog 184 #[.pointer (some ⟨p,0,none⟩),.int .i64 i,.slice a 64 c] w fun e w'=>e=.returned (.int .i64 0)/\Ref w' (kX S w) p n d (ws++[⟨i.toNat,b⟩])/\Kept S w w':=by
 have e0:((i.toNat:Nat):Int)=i:=by omega
 have:=Hp h i.toNat (by omega) a c b hb hk;rw[e0] at this;exact this
theorem Uk{w:World}{S:Nat->Prop}{L p:Nat}{d:List Int}{ws:List Wr}{g:Lg}{b:Int}(h:RL w S L p d ws g b)(hS:∀k,S k->k<w.heap.size)(hk:ws.length<=100000)(r:R.Rec)(hv:r.val.length=32)(hw:R.Rec.Wf ⟨r.kind,g.fin,r.block,r.val,r.eN⟩)(hm:R.may ⟨r.kind,g.fin,r.block,r.val,r.eN⟩=true)(hf:g.fin<4611686018427387904) :
  Calls prog 129 #[.pointer (some ⟨L,0,none⟩),.agg (R.cz r).toArray] w fun e w'=>e=.returned (.int .u64 g.fin)/\Ref w' (kX (fun k=>S k/\k≠L) w) p g.sz d (ws++[⟨(oH g g.fin).toNat,R.encS ⟨r.kind,g.fin,r.block,r.val,r.eN⟩⟩])/\fY w' L (some ⟨p,0,none⟩) (Ka g) b/\Kept S w w':=by
 obtain ⟨r',ON⟩:∃x:R.Rec,x=⟨r.kind,g.fin,r.block,r.val,r.eN⟩:=⟨_,rfl⟩
 rw[<-ON] at hw hm ⊢;have hlr:r'.val.length=32:=by rw[ON];exact hv
 have yu:r'.pos=g.fin:=by rw[ON]
 have FV:(R.cz r).set 1 (.int .u64 g.fin)=R.cz r':=by rw[ON];rfl
 have aes:(R.cz r)[1]?=some (.int .u64 r.pos):=rfl;obtain ⟨w1,dZ⟩:∃x,x=w.alloc (.cells (R.cz r').toArray 226):=⟨_,rfl⟩
 have ew:=dZ.symm;have HG:=zH h;have HS:=zH hS;have HW:=rf hw hm;have B1:Hid (Below w.heap.size w w1):=by rw[dZ];exact ag w _
 have A1:Hid (R.gG 226 w1 w.heap.size r'):=by rw[dZ];exact R.gG.new 226 w r'
 have L1:=zH (R.gG.Vv A1.out hlr);have hf0:0<=g.fin:=by have:=h.ok.t0;have:=h.ok.tm;have:=h.ok.mf;omega
 have ams:=bE.lt h.log;have c8:=fY.c8 h.log;clear h hS dZ ON hw hm;go_enter func129,ntmps129;go_wp2_with ((with_reducible refine aQ ?_);(refine aK (by rfl) 226 rfl rfl L1.out ?_);simp only[Act.put,zA,zB,zC])
 refine (R.Bj r' HW.out.1 HW.out.2 w1).mono ?_;rintro e w2 ⟨q2,c2',rfl,m2⟩;have B2:Hid (Below w.heap.size w w2):=ah B1.out m2.below;have jU:=zH (HG.out.later B2.out);have A2:=zH (R.gG.later A1.out m2.below);have X2:=zH m2.read;clear m2 A1 L1 ew aes FV c8;go_wp2_with fail;refine zR (fun w'=>w'.cell? ⟨L,0,none⟩=some (.pointer (some ⟨p,0,none⟩))/\w'.cell? ⟨L,8,none⟩=some (.int .u64 g.fin)) ⟨fY.c0 jU.out.log,fY.c8 jU.out.log⟩ fun aa=>?_;have D2:Hid (Below w2.heap.size w2 w2.drew):=av 1;generalize w2.drew=wd at *;refine gh 0 1 2 aa ?_;refine de 3 aa (fun _ fc=>fc.1) ?_;refine gu 4 5 6 7 aa ?_;refine de 8 aa (fun _ fc=>fc.2) ?_;refine tk 10 aa ?_;refine ck (rs:=[9]) (by kernel_rfl) (by simp) ?_;refine bu (by simp;rfl) (fun Kc aJ=>?_) bO;go_simp;refine (Lb (bE.later jU.out.log D2.out) HG.out.ok g.fin hf0).mono ?_;rintro e wn ⟨rfl,bn⟩;have DN:=zH bn;have HGn:=zH ((jU.out.later D2.out).later bn);refine aJ.out _ _ ⟨fY.c0 HGn.out.log,fY.c8 HGn.out.log⟩ (fun aa=>?_);clear aJ Kc bn;refine ck (rs:=[11]) (by kernel_rfl) (by simp) ?_;refine bu (by simp;rfl) (fun Kc aJ=>?_) bO;go_simp;refine (xS HGn.out.zF (oH g g.fin) (zT HG.out.ok _).1 (zT HG.out.ok _).2 q2 c2' _ ((X2.out.later D2.out).later DN.out) hk).mono ?_;rintro e w3 ⟨rfl,d3,k3⟩;have Y3:Hid (Ref w3 (kX (fun k=>S k/\k≠L) wn) p g.sz d (ws++[⟨(oH g g.fin).toNat,R.encS r'⟩])/\fY w3 L (some ⟨p,0,none⟩) g b/\Kept (fun k=>S k/\k≠L) wn w3/\w3.cell? ⟨w.heap.size,1,none⟩=some (.int .u64 g.fin)):=by
  have hz:=B2.out.size;have iL:=D2.out.size;have hz3:=DN.out.size;have hA:=A2.out.lt;refine⟨d3,(k3.block L (by omega) (fun t=>t.2 rfl)).trans HGn.out.log,k3,?_⟩;rw[dN (k3.block w.heap.size (by omega) (fun t=>by have:=HS.out _ t.1;omega)),<-yu];exact (R.gG.later (R.gG.later A2.out D2.out) DN.out).c1
 clear d3 k3;refine aJ.out _ _ ⟨fY.c0 Y3.out.2.1,fY.c8 Y3.out.2.1⟩ (fun aa=>?_);clear aJ Kc;refine zD ?_;have c8:=fY.c8 Y3.out.2.1;have cf:=fY.free Y3.out.2.1 8;have c1:=Y3.out.2.2.2;have kG:¬L=w.heap.size:=by omega
 have alB:¬w.heap.size=L:=by omega
 have k1:IntKind.u64.wrap (g.fin+1)=g.fin+1:=G.sr (by omega) (by omega);clear aa X2 A2;go_wp2_with fail;go_ret;have sV:=B2.out.size;have hs3:=Y3.out.2.2.1.size;refine⟨rfl,?_,fY.adi Y3.out.2.1 _,?_⟩
 ·refine (Y3.out.1.kept (iK w3 L 8 (.int .u64 (g.fin+1))) ?_).mono ?_
  ·rintro k (hs | hs) rfl
   ·exact hs.2 rfl
   ·have:=D2.out.size;have:=DN.out.size;omega
  ·rintro k _ (hs | hs)
   ·exact .inl hs
   ·exact .inr (by have:=D2.out.size;have:=DN.out.size;omega)
 ·exact ((Kept.bP (S:=S) (ah (ah B2.out D2.out) DN.out)).trans (T:=fun k=>S k/\k≠L) Y3.out.2.2.1 (fun _ _ t=>t.1)).setCell (p:=⟨L,8,none⟩) (fun _=>HG.out.sl) _
theorem xW{w:World}{S:Nat->Prop}{L p:Nat}{d:List Int}{ws:List Wr}{g:Lg}{b:Int}(h:RL w S L p d ws g b)(hk:ws.length<=100000)(r:R.Rec)(hv:r.val.length=32)(hw:R.Rec.Wf ⟨r.kind,g.fin,r.block,r.val,r.eN⟩)(hm:R.may ⟨r.kind,g.fin,r.block,r.val,r.eN⟩=true)(hf:g.fin<4611686018427387904) :
  Calls prog 129 #[.pointer (some ⟨L,0,none⟩),.agg (R.cz r).toArray] w fun e w'=>e=.returned (.int .u64 g.fin)/\Ref w' (kX (fun k=>S k/\k≠L) w) p g.sz d (ws++[⟨(oH g g.fin).toNat,R.encS ⟨r.kind,g.fin,r.block,r.val,r.eN⟩⟩])/\fY w' L (some ⟨p,0,none⟩) (Ka g) b/\Kept S w w':=by
 refine (Uk (h.mono (T:=fun k=>S k/\k<w.heap.size) fun k hk s=>⟨s,hk⟩) (fun _ s=>s.2) hk r hv hw hm hf).mono ?_;rintro e w' ⟨rfl,h1,h2,h3⟩;refine⟨rfl,h1.mono ?_,h2,h3.wider fun _ _ s=>s.1⟩;rintro k _ (hs | hs)
 ·exact .inl ⟨hs.1.1,hs.2⟩
 ·exact .inr hs
theorem Vu{w:World}{k:Nat}{v:List Int}(h:bE 51 w k (U8 v))(hv:v.length=32):(Instr.loadAt 51 (.pointer (some ⟨k,0,none⟩))).run prog w=.ok (.agg (U8 v).toArray) w :=
 b_ w k 0 51 (U8 v) _ (bE.range h) gw rfl (by rw[R.AY,aX,hv])
theorem Sl(w:World)(b:Int)(v:List Int)(hv:v.length=32):(Instr.build 180 #[(0,.int .i64 1),(2,.int .i64 b),(3,.agg (U8 v).toArray)]).run prog w=.ok (.agg (R.cz ⟨1,0,b,v,0⟩).toArray) w :=
 R.Py w _ _ (by
  show Instr.fill _ _ [(0,.int .i64 1),(2,.int .i64 b),(3,.agg (U8 v).toArray)]=_;rw[R.Gg R.iO R.kZ,R.WT ⟨1,R.iO.pos,R.iO.block,R.iO.val,R.iO.eN⟩ R.kZ,R.WQ ⟨1,R.iO.pos,b,R.iO.val,R.iO.eN⟩ R.kZ v hv,R.wW];rfl)
theorem Sm(w:World)(i:Int):(Instr.build 180 #[(0,.int .i64 2),(4,.int .i64 i)]).run prog w=.ok (.agg (R.cz ⟨2,0,0,zs 32,i⟩).toArray) w :=
 R.Py w _ _ (by
  show Instr.fill _ _ [(0,.int .i64 2),(4,.int .i64 i)]=_;rw[R.Gg R.iO R.kZ,R.WR ⟨2,R.iO.pos,R.iO.block,R.iO.val,R.iO.eN⟩ R.kZ,R.wW];rfl)
theorem VT{w:World}{L p:Nat}{g:Lg}(h:gQ w L (some ⟨p,0,none⟩) g)(ok:g.Ok)(b:Int)(v:List Int)(hi:¬mN g b=0):Calls prog 39 #[.pointer (some ⟨L,0,none⟩),.int .i64 b,.agg (U8 v).toArray] w fun e w'=>e=.returned (.tuple #[.int .u64 0,.int .i64 (mN g b)])/\Below w.heap.size w w':=by
 have HB:Hid (Below w.heap.size w (w.alloc (.cells (U8 v).toArray 51))):=ag w _;have HG:=zH h;have HO:Hid g.Ok:=ok;clear h ok;go_enter func39,ntmps39;go_wp2_with fail;refine (Aa (bE.later HG.out HB.out) HO.out).mono ?_;rintro e w1 ⟨rfl,b1⟩;have gj:Hid (Below w.heap.size w w1):=ah HB.out b1;clear b1 HB;by_cases hm:fK g=0
 ·have hb:Bad g b:=Decidable.byContradiction fun hb=>hi (OI hm hb);have HE:=zH (BS hm hb);have CN:=zH (bE.later HG.out gj.out);have HC:Hid (∀w',Below w1.heap.size w1 w'->w'.cell? ⟨L,11,none⟩=some (.int .i64 g.last)/\w'.cell? ⟨L,1,none⟩=some (.int .i64 g.c.bl)/\w'.cell? ⟨L,10,none⟩=some (.int .i64 g.fV)/\w'.cell? ⟨L,3,none⟩=some (.int .i64 g.c.mr)):=fun w' hb=>⟨gQ.CH (bE.later CN.out hb),gQ.c1 (bE.later CN.out hb),gQ.uh (bE.later CN.out hb),gQ.c3 (bE.later CN.out hb)⟩
  rw[hm];by_cases h1:b<=g.last
  ·clear hi hb hm;go_wp2_with fail;refine zS w1 fun aa=>?_;have D1:Hid (Below w1.heap.size w1 w1.drew):=aa;generalize w1.drew=wd at *;refine gu 0 1 2 3 aa ?_;refine de 4 aa (fun _ fc=>(HC.out _ fc).1) ?_;refine fI 5 6 aa ?_;refine dA 7 aa ?_;refine dA 8 aa ?_;refine dA 9 aa ?_;refine dA 10 aa ?_;refine dA 11 aa ?_;refine dA 12 aa ?_;refine dA 13 aa ?_;refine fI 14 15 aa ?_;refine dA 16 aa ?_;refine dA 17 aa ?_;refine dA 18 aa ?_;refine dA 19 aa ?_;refine dA 20 aa ?_;refine dA 21 aa ?_;refine dA 22 aa ?_;refine dA 23 aa ?_;refine dA 24 aa ?_;refine dA 25 aa ?_;refine tk 26 aa ?_;clear aa;refine zD ?_;go_wp2_with fail;go_ret2;exact⟨by rw[HE.out];rfl,ah gj.out D1.out⟩
  ·have uB:decide (b<=g.last)=false:=by simp;omega
   by_cases h2:g.c.bl<=b
   ·clear hi hb hm;go_wp2_with fail;refine zS w1 fun aa=>?_;have D1:Hid (Below w1.heap.size w1 w1.drew):=aa;generalize w1.drew=wd at *;refine gu 0 1 2 3 aa ?_;refine de 4 aa (fun _ fc=>(HC.out _ fc).1) ?_;refine gu 5 6 7 8 aa ?_;refine gh 9 10 11 aa ?_;refine de 12 aa (fun _ fc=>(HC.out _ fc).2.1) ?_;refine gh 13 14 15 aa ?_;refine dA 16 aa ?_;refine dA 17 aa ?_;refine dA 18 aa ?_;refine dA 19 aa ?_;refine dA 20 aa ?_;refine dA 21 aa ?_;refine dA 22 aa ?_;refine dA 23 aa ?_;refine dA 24 aa ?_;refine dA 25 aa ?_;refine tk 26 aa ?_;clear aa;refine zD ?_;go_wp2_with fail;go_ret2;exact⟨by rw[HE.out];rfl,ah gj.out D1.out⟩
   ·have h3:g.c.mr<=g.fV:=by rcases hb with h | h | h <;> omega
    have YD:decide (g.c.bl<=b)=false:=by simp;omega
    clear hi hb hm;go_wp2_with fail;refine zS w1 fun aa=>?_;have D1:Hid (Below w1.heap.size w1 w1.drew):=aa;generalize w1.drew=wd at *;refine gu 0 1 2 3 aa ?_;refine de 4 aa (fun _ fc=>(HC.out _ fc).1) ?_;refine gu 5 6 7 8 aa ?_;refine gh 9 10 11 aa ?_;refine de 12 aa (fun _ fc=>(HC.out _ fc).2.1) ?_;refine gu 13 14 15 16 aa ?_;refine fI 17 18 aa ?_;refine de 19 aa (fun _ fc=>(HC.out _ fc).2.2.1) ?_;refine gu 20 21 22 23 aa ?_;refine de 24 aa (fun _ fc=>(HC.out _ fc).2.2.2) ?_;refine fI 25 26 aa ?_;clear aa;refine zD ?_;go_wp2_with fail;go_ret2;exact⟨by rw[HE.out];rfl,ah gj.out D1.out⟩
 ·have HE:=zH (yl b hm);generalize fK g=q at *;have hq:(q != 0)=true:=by simp[hm]
  go_wp2_with fail;go_ret2;exact⟨by rw[HE.out];rfl,gj.out⟩
theorem VS{w:World}{S:Nat->Prop}{L p:Nat}{d:List Int}{ws:List Wr}{g:Lg}(h:LD w S L p d ws g)(hk:ws.length<=100000)(ht:qX w)(b:Int)(v:List Int)(hv:v.length=32)(zw:Bytes v)(hi:mN g b=0) :
  Calls prog 39 #[.pointer (some ⟨L,0,none⟩),.int .i64 b,.agg (U8 v).toArray] w fun e w'=>e=.returned (.tuple #[.int .u64 g.fin,.int .i64 0])/\LD w' (kX S w) L p d (ws++[⟨(oH g g.fin).toNat,R.encS (Rp g b v)⟩]) (VR g b)/\Kept S w w':=by
 obtain ⟨wa,Mx⟩:∃x,x=w.alloc (.cells (U8 v).toArray 51):=⟨_,rfl⟩
 have ewa:=Mx.symm;have HB:Hid (Below w.heap.size w wa):=by rw[Mx];exact ag w _
 have V0:Hid (bE 51 wa w.heap.size (U8 v)):=by rw[Mx];exact bE.new 51 w (U8 v)
 have HG:=zH h;have HT:=zH ht;have HI:=zH hi;have HV:=rf hv zw;have hm:=(qJ hi).1;have hb:=(qJ hi).2;have YP:=rf hm hb;have BZ:=h.ok.i0;have hi1:=h.ok.i1;have hmr:=h.ok.cf.2.2.1;clear h hi ht Mx hv zw;go_enter func39,ntmps39;go_wp2_with fail;refine (Aa (HG.out.later HB.out).log HG.out.ok).mono ?_;rintro e w1 ⟨rfl,b1⟩;have gj:Hid (Below w.heap.size w w1):=ah HB.out b1;have CN:=zH (HG.out.later gj.out);have V1:=zH (bE.later V0.out b1);have HC:Hid (∀w',Below w1.heap.size w1 w'->w'.cell? ⟨L,11,none⟩=some (.int .i64 g.last)/\w'.cell? ⟨L,1,none⟩=some (.int .i64 g.c.bl)/\w'.cell? ⟨L,10,none⟩=some (.int .i64 g.fV)/\w'.cell? ⟨L,3,none⟩=some (.int .i64 g.c.mr)):=fun w' hb=>⟨gQ.CH (bE.later CN.out.log hb),gQ.c1 (bE.later CN.out.log hb),gQ.uh (bE.later CN.out.log hb),gQ.c3 (bE.later CN.out.log hb)⟩
 rw[hm];have h1:¬b<=g.last:=fun h=>hb (.inl h);have h2:¬g.c.bl<=b:=fun h=>hb (.inr (.inl h));have h3:¬g.c.mr<=g.fV:=fun h=>hb (.inr (.inr h));have uB:decide (b<=g.last)=false:=by simp;omega
 have YD:decide (g.c.bl<=b)=false:=by simp;omega
 have YC:decide (g.c.mr<=g.fV)=false:=by simp;omega
 clear b1 HB hm hb V0 ewa;go_wp2_with fail;refine zS w1 fun aa=>?_;have D1:Hid (Below w1.heap.size w1 w1.drew):=aa;generalize w1.drew=wd at *;refine gu 0 1 2 3 aa ?_;refine de 4 aa (fun _ fc=>(HC.out _ fc).1) ?_;refine gu 5 6 7 8 aa ?_;refine gh 9 10 11 aa ?_;refine de 12 aa (fun _ fc=>(HC.out _ fc).2.1) ?_;refine gu 13 14 15 16 aa ?_;refine fI 17 18 aa ?_;refine de 19 aa (fun _ fc=>(HC.out _ fc).2.2.1) ?_;refine gu 20 21 22 23 aa ?_;refine de 24 aa (fun _ fc=>(HC.out _ fc).2.2.2) ?_;refine fI 25 26 aa ?_;clear aa;refine zD ?_;have L2:=zH (Vu (bE.later V1.out D1.out) HV.out.1);have jU:=zH (CN.out.later D1.out);have gD:Hid (Below w.heap.size w wd):=ah gj.out D1.out;have U2:=zH (Sl wd b v HV.out.1);generalize wd=w2 at *;clear CN gj V1 HC;go_wp2_with ((with_reducible refine aQ ?_);(first | (refine aK (by rfl) 51 rfl rfl L2.out ?_) | (refine bh (vs:=[(0,.int .i64 1),(2,.int .i64 b),(3,.agg (U8 v).toArray)]) (by rfl) 180 rfl (by rfl) U2.out ?_));simp only[Act.put,zA,zB,zC])
 refine (J' jU.out hk (HT.out.later gD.out) ⟨1,0,b,v,0⟩ HV.out.1 (FQ HG.out.ok YP.out.2 HV.out.1 HV.out.2) (BT HG.out.ok YP.out.2) (by have:=(lI YP.out.1).1;have:=HG.out.ok.fM;omega)).mono ?_;rintro e w3 ⟨rfl,d3,g3,k3⟩;have uh:=gQ.uh g3;have aa6:=gQ.free g3 10;have ae1:=gQ.free g3 11;have Y3:=Av d3 g3 k3;have CH:=gQ.CH g3;have k1:IntKind.i64.wrap ((Ka g).fV+1)=(Ka g).fV+1:=by rw[aY];show _=g.fV+1;have:(Ka g).fV=g.fV:=rfl;omega
 clear d3 g3 k3 L2 U2;go_wp2_with fail;go_ret2;have hs:=gD.out.size;have hL:=bE.lt HG.out.log;refine⟨rfl,?_,?_⟩
 ·have a1:=gQ.Qe Y3.out.2.1 ((Ka g).fV+1);have a2:=gQ.Ub a1 b;refine⟨a2,?_,.inl HG.out.sl,wP HG.out.ok HI.out⟩;show pz _ _ p g.sz d _;refine ((Y3.out.1.kept (iK w3 L 10 _) ?_).kept (iK _ L 11 _) ?_).mono ?_
  ·rintro k (h | h) rfl
   ·exact h.2 rfl
   ·omega
  ·rintro k (h | h) rfl
   ·exact h.2 rfl
   ·omega
  ·rintro k _ (h | h)
   ·exact⟨.inl h.1,h.2⟩
   ·exact⟨.inr (by omega),by omega⟩
 ·exact (((Kept.bP (S:=S) gD.out).trans (T:=S) Y3.out.2.2 (fun _ _ t=>t)).setCell (p:=⟨L,10,none⟩) (fun _=>HG.out.sl) _).setCell (p:=⟨L,11,none⟩) (fun _=>HG.out.sl) _
theorem RY{w:World}{L p:Nat}{g:Lg}(h:gQ w L (some ⟨p,0,none⟩) g)(ok:g.Ok)(hm:¬fK g=0):Calls prog 41 #[.pointer (some ⟨L,0,none⟩)] w fun e w'=>e=.returned (.tuple #[.int .u64 0,.int .i64 (fK g)])/\Below w.heap.size w w':=by
 go_enter func41,ntmps41;go_wp2_with fail;refine (Aa h ok).mono ?_;rintro e w1 ⟨rfl,b1⟩;have gj:=zH b1;obtain ⟨q,EI⟩:∃q,q=fK g:=⟨_,rfl⟩
 have HQ:=zH EI;rw[<-EI] at hm ⊢;have hq:(q != 0)=true:=by simp[hm]
 clear EI b1 h ok;go_wp2_with fail;go_ret2;exact⟨by rw[<-HQ.out];rfl,gj.out⟩
theorem RX{w:World}{S:Nat->Prop}{L p:Nat}{d:List Int}{ws:List Wr}{g:Lg}(h:LD w S L p d ws g)(hk:ws.length<=100000)(ht:qX w)(hm:fK g=0) :
  Calls prog 41 #[.pointer (some ⟨L,0,none⟩)] w fun e w'=>e=.returned (.tuple #[.int .u64 g.fin,.int .i64 0])/\LD w' (kX S w) L p d (ws++[⟨(oH g g.fin).toNat,R.encS (R_ g)⟩]) (Xk g)/\Kept S w w':=by
 have HG:=zH h;have HT:=zH ht;have HM:=zH hm;clear h ht;go_enter func41,ntmps41;go_wp2_with fail;refine (Aa HG.out.log HG.out.ok).mono ?_;rintro e w2 ⟨rfl,b1⟩;have gD:=zH b1;have jU:=zH (HG.out.later gD.out);have uh:=gQ.uh jU.out.log;have U2:=zH (Sm w2 g.fV);rw[hm];clear b1 hm;go_wp2_with ((with_reducible refine aQ ?_);(refine bh (vs:=[(0,.int .i64 2),(4,.int .i64 g.fV)]) (by rfl) 180 rfl (by rfl) U2.out ?_);simp only[Act.put,zA,zB,zC])
 refine (J' jU.out hk (HT.out.later gD.out) ⟨2,0,0,zs 32,g.fV⟩ (bG 32) (Pp HG.out.ok) (JQ HG.out.ok) (by have:=(lI HM.out).1;have:=HG.out.ok.fM;omega)).mono ?_;rintro e w3 ⟨rfl,d3,g3,k3⟩;have amT:=gQ.uh g3;have aa6:=gQ.free g3 10;have ae1:=gQ.free g3 11;have Y3:=Av d3 g3 k3;have CH:=gQ.CH g3;clear d3 g3 k3 U2 uh;go_wp2_with fail;go_ret2;have hs:=gD.out.size;have hL:=bE.lt HG.out.log;refine⟨rfl,?_,?_⟩
 ·have a1:=gQ.Qe Y3.out.2.1 0;have a2:=gQ.Ub a1 (-1);refine⟨a2,?_,.inl HG.out.sl,Pq HG.out.ok HM.out⟩;show pz _ _ p g.sz d _;refine ((Y3.out.1.kept (iK w3 L 10 _) ?_).kept (iK _ L 11 _) ?_).mono ?_
  ·rintro k (h | h) rfl
   ·exact h.2 rfl
   ·omega
  ·rintro k (h | h) rfl
   ·exact h.2 rfl
   ·omega
  ·rintro k _ (h | h)
   ·exact⟨.inl h.1,h.2⟩
   ·exact⟨.inr (by omega),by omega⟩
 ·exact (((Kept.bP (S:=S) gD.out).trans (T:=S) Y3.out.2.2 (fun _ _ t=>t)).setCell (p:=⟨L,10,none⟩) (fun _=>HG.out.sl) _).setCell (p:=⟨L,11,none⟩) (fun _=>HG.out.sl) _
theorem aab{w:World}{L p:Nat}{g:Lg}(h:gQ w L (some ⟨p,0,none⟩) g)(t:Int)(ho:Out g t):Calls prog 102 #[.pointer (some ⟨L,0,none⟩),.int .u64 t] w fun e w'=>e=.returned (.int .i64 2)/\w=w':=by
 have c7:=gQ.c7 h;have c8:=gQ.c8 h;go_enter func102,ntmps102;go_wp2_with fail;refine (rF h).mono ?_;rintro e w1 ⟨rfl,rfl⟩;clear h;by_cases h1:t<g.tail
 ·clear ho;go_wp2_with fail;go_ret;exact⟨rfl,rfl⟩
 ·have h2:g.fin<t:=by rcases ho with h | h <;> omega
  clear ho;go_wp2_with fail;go_ret;exact⟨rfl,rfl⟩
theorem aaa{w:World}{S:Nat->Prop}{L p:Nat}{d:List Int}{ws:List Wr}{g:Lg}(h:LD w S L p d ws g)(hk:ws.length<=100000)(ht:qX w)(t:Int)(ho:¬Out g t) :
  Calls prog 102 #[.pointer (some ⟨L,0,none⟩),.int .u64 t] w fun e w'=>e=.returned (.int .i64 0)/\LD w' (kX S w) L p d (ws++[⟨0,encS (vU g t)⟩]) (mkG g t)/\Kept S w w':=by
 have HG:=zH h;have HT:=zH ht;have HO:=zH ho;have c7:=gQ.c7 h.log;have c8:=gQ.c8 h.log;have h1:¬t<g.tail:=fun h=>ho (.inl h);have h2:¬g.fin<t:=fun h=>ho (.inr h);clear ht;go_enter func102,ntmps102;go_wp2_with fail;refine (rF h.log).mono ?_;rintro e w1 ⟨rfl,rfl⟩;clear h ho;have BB:Hid (∀w,(Instr.build 204 #[(0,.agg (aN g.c).toArray),(1,.int .u64 t),(2,.int .u64 g.ki)]).run prog w=.ok (.agg (eL (vU g t)).toArray) w):=fun w=>Pz w _ (vU g t) (Cn (vU g t));go_wp2_with fail;clear c7 c8;refine zS w fun aa=>?_;have D1:Hid (Below w.heap.size w w.drew):=aa;generalize w.drew=wd at *;refine gh 0 1 2 aa ?_;refine dz (i:=3) (v:=_) (by simp;rfl) (by kernel_rfl) (by kernel_rfl) (by kernel_rfl) (fun _ _ _ h=>h) (mT (by rfl) 23 (.tmp 27) rfl L 1 rfl (aN g.c) _ (fun _ h=>gQ.LG (bE.later HG.out.log h)) underlying23 rfl (by rw[sF,kz])) aa ?_;simp only[Act.put,zA,zB,zC];refine gu 4 5 6 7 aa ?_;refine de 8 aa (fun _ fc=>gQ.c6 (bE.later HG.out.log fc)) ?_;refine dz (i:=9) (v:=_) (by simp;rfl) (by kernel_rfl) (by kernel_rfl) (by kernel_rfl) (fun _ _ _ h=>h) (R.jE (by rfl) 204 rfl (by rfl) BB.out) aa ?_;simp only[Act.put,zA,zB,zC];refine ck (rs:=[10]) (by kernel_rfl) (by simp) ?_;refine bu (by simp;rfl) (fun Kc aJ=>?_) bO;go_simp;refine (pU (vU g t) (NL HG.out.ok HO.out) (GY HG.out.ok HO.out) _ (HT.out.later D1.out)).mono ?_;rintro e w2 ⟨q2,rfl,m2⟩;have B2:Hid (Below w.heap.size w w2):=ah D1.out m2.below;have X2:=zH m2.read;refine aJ.out _ _ B2.out (fun aa=>?_);clear aJ Kc m2;refine gu 11 12 13 14 aa ?_;refine tk 15 aa ?_;clear aa;refine zD ?_;have jU:=zH (HG.out.later B2.out);have c0:=gQ.c0 jU.out.log;have hz:(0:Int)<(g.sz:Nat):=by have:=HG.out.ok.GX;have:=HG.out.ok.cf.1;have:=HG.out.ok.cf.2.1;omega
 go_wp2_with fail;refine (AA jU.out.zF 0 (iy 0) hz _ 64 _ X2.out hk).mono ?_;rintro e w3 ⟨rfl,d3,k3⟩;have Y3:=zH (jU.out.wrote d3 k3);have c9:=gQ.c9 Y3.out.1.log;have cf9:=gQ.free Y3.out.1.log 9;clear d3 k3 X2;go_wp2_with fail;go_ret;have hs:=B2.out.size;refine⟨rfl,?_,?_⟩
 ·refine (Y3.out.1.set 9 _ (g':=mkG g t) (gQ.adh Y3.out.1.log t) rfl (Vq HG.out.ok HO.out)).mono ?_;rintro k _ (h | h)
  ·exact .inl h
  ·exact .inr (by omega)
 ·exact ((Kept.bP (S:=S) B2.out).trans (T:=S) Y3.out.2 (fun _ _ t=>t)).setCell (p:=⟨L,9,none⟩) (fun _=>HG.out.sl) _
theorem uK{w:World}{S:Nat->Prop}{p n:Nat}{d:List Int}{ws:List Wr}(h:Ref w S p n d ws)(hk:ws.length<=100000) :
  Calls prog 140 #[.pointer (some ⟨p,0,none⟩)] w fun e w'=>e=.returned (.int .i64 ws.length)/\Ref w' S p n (settle (fun _=>true) ws d) []/\Kept S w w':=by
 refine (Lj (h.mono (T:=fun k=>S k/\k<w.heap.size) fun k hk s=>⟨s,hk⟩) hk (fun _ s=>s.2)).mono ?_;rintro e w' ⟨rfl,h1,h2⟩;exact⟨rfl,h1.mono fun _ _ s=>s.1,h2.wider fun _ _ s=>s.1⟩
theorem Lh{w:World}{S:Nat->Prop}{L p:Nat}{d:List Int}{ws:List Wr}{g:Lg}{b:Int}(h:RL w S L p d ws g b)(hk:ws.length<=100000):Calls prog 132 #[.pointer (some ⟨L,0,none⟩)] w fun e w'=>e=.returned (.tuple #[.int .i64 ws.length,.int .i64 0])/\RL w' S L p (settle (fun _=>true) ws d) [] g b/\Kept S w w':=by
 have c0:=fY.c0 h.log;have HG:=zH h;clear h;go_enter func132,ntmps132;go_wp2_with fail;refine (uK HG.out.zF hk).mono ?_;rintro e w1 ⟨rfl,d1,k1⟩;have HF:=zH (HG.out.tV d1 k1);clear d1 k1;go_wp2_with fail;go_ret2;exact⟨rfl,HF.out⟩
theorem Qy{w:World}{S:Nat->Prop}{L p:Nat}{d:List Int}{ws:List Wr}{g:Lg}{b:Int}(h:RL w S L p d ws g b)(hk:ws.length<=100000):Calls prog 142 #[.pointer (some ⟨L,0,none⟩)] w fun e w'=>e=.returned (.tuple #[.int .i64 (g.mark-g.tail),.int .i64 0])/\RL w' S L p (settle (fun _=>true) ws d) [] (frG g) b/\Kept S w w':=by
 have hn:0<=g.mark-g.tail/\g.mark-g.tail<=64:=by have:=h.ok.tm;have:=h.ok.mf;have:=h.ok.us;have:=h.ok.cf.2.1;omega
 have c0:=fY.c0 h.log;have HH:=zH h;clear h;go_enter func142,ntmps142;go_wp2_with fail;refine (uK HH.out.zF hk).mono ?_;rintro e w1 ⟨rfl,d1,kk⟩;obtain ⟨h1,OU⟩:=HH.out.tV d1 kk;have HG:=zH h1.log;have HR:=zH h1;have HK:=zH OU;have k1:IntKind.u64.wrap (g.mark-g.tail)=g.mark-g.tail:=G.sr hn.1 (by omega);have k2:IntKind.i64.wrap (g.mark-g.tail)=g.mark-g.tail:=by rw[aY];omega
 clear h1 OU d1 kk c0;go_wp2_with fail;refine zS w1 fun aa=>?_;have D:Hid (Below w1.heap.size w1 w1.drew):=aa;generalize w1.drew=wd at *;refine gh 0 1 2 aa ?_;refine de 3 aa (fun _ fc=>fY.c9 (bE.later HG.out fc)) ?_;refine gh 4 5 6 aa ?_;refine de 7 aa (fun _ fc=>fY.c7 (bE.later HG.out fc)) ?_;refine gh 8 9 10 aa ?_;clear aa;refine zD ?_;have c9:=fY.c9 (bE.later HG.out D.out);have c7:=fY.c7 (bE.later HG.out D.out);have cf:=fY.free (bE.later HG.out D.out) 7;go_wp2_with fail;go_ret2;refine⟨rfl,?_,?_⟩
 ·have hd:=HR.out.later D.out;exact hd.set 7 _ (g':=frG g) (fY.adf hd.log g.mark) rfl (WH hd.ok) hd.bk
 ·exact (HK.out.trans (T:=S) (Kept.bP D.out) (fun _ _ t=>t)).setCell (p:=⟨L,7,none⟩) (fun _=>HH.out.sl) _
theorem acW:(prog.info? 214).bind (·.zero)=some (.agg (fH none lg0).toArray):=by kernel_rfl
theorem Lz(w:World)(i:Int):(Instr.build 226 #[(0,.int .i64 2),(4,.int .i64 i)]).run prog w=.ok (.agg (R.cz ⟨2,0,0,zs 32,i⟩).toArray) w :=
 R.Px w _ _ (by
  show Instr.fill _ _ [(0,.int .i64 2),(4,.int .i64 i)]=_;rw[R.Gg R.iO R.kZ,R.WR ⟨2,R.iO.pos,R.iO.block,R.iO.val,R.iO.eN⟩ R.kZ,R.wW];rfl)
theorem Lx{w:World}{L p:Nat}{g:Lg}{b:Int}(h:fY w L (some ⟨p,0,none⟩) g b)(ok:g.Ok)(hm:¬fK g=0):Calls prog 70 #[.pointer (some ⟨L,0,none⟩)] w fun e w'=>e=.returned (.tuple #[.int .u64 0,.int .i64 (fK g)])/\Below w.heap.size w w':=by
 go_enter func70,ntmps70;go_wp2_with fail;refine (tN h ok).mono ?_;rintro e w1 ⟨rfl,b1⟩;have gj:=zH b1;obtain ⟨m,hq⟩:∃m,m=fK g:=⟨_,rfl⟩
 have HQ:=zH hq;rw[<-hq] at hm ⊢;clear h ok b1 hq;go_wp2_with fail;go_ret2;exact⟨by rw[<-HQ.out];rfl,gj.out⟩
theorem Lw{w:World}{S:Nat->Prop}{L p:Nat}{d:List Int}{ws:List Wr}{g:Lg}{b:Int}(h:RL w S L p d ws g b)(hk:ws.length<=100000)(hm:fK g=0) :
  Calls prog 70 #[.pointer (some ⟨L,0,none⟩)] w fun e w'=>e=.returned (.tuple #[.int .u64 g.fin,.int .i64 0])/\RL w' (kX S w) L p d (ws++[⟨(oH g g.fin).toNat,R.encS (R_ g)⟩]) (Xk g) b/\Kept S w w':=by
 have HG:=zH h;have HM:=zH hm;clear h;go_enter func70,ntmps70;go_wp2_with fail;refine (tN HG.out.log HG.out.ok).mono ?_;rintro e w2 ⟨rfl,b1⟩;have gD:=zH b1;have jU:=zH (HG.out.later gD.out);have uh:=fY.uh jU.out.log;have U2:=zH (Lz w2 g.fV);rw[hm];clear b1 hm;go_wp2_with ((with_reducible refine aQ ?_);(refine bh (vs:=[(0,.int .i64 2),(4,.int .i64 g.fV)]) (by rfl) 226 rfl (by rfl) U2.out ?_);simp only[Act.put,zA,zB,zC])
 refine (xW jU.out hk ⟨2,0,0,zs 32,g.fV⟩ (bG 32) (Pp HG.out.ok) (JQ HG.out.ok) (by have:=(lI HM.out).1;have:=HG.out.ok.fM;omega)).mono ?_;rintro e w3 ⟨rfl,d3,g3,k3⟩;have amT:=fY.uh g3;have aa6:=fY.free g3 10;have Y3:=Av d3 g3 k3;clear d3 g3 k3 U2 uh;go_wp2_with fail;go_ret2;have hs:=gD.out.size;have hL:=bE.lt HG.out.log;refine⟨rfl,?_,?_⟩
 ·have a1:=fY.Qe Y3.out.2.1 0;refine⟨a1,?_,.inl HG.out.sl,Pq HG.out.ok HM.out,fun h=>absurd h (Int.lt_irrefl 0)⟩;show Ref _ _ p g.sz d _;refine (Y3.out.1.kept (iK w3 L 10 _) ?_).mono ?_
  ·rintro k (h | h) rfl
   ·exact h.2 rfl
   ·omega
  ·rintro k _ (h | h)
   ·exact⟨.inl h.1,h.2⟩
   ·exact⟨.inr (by omega),by omega⟩
 ·exact ((Kept.bP (S:=S) gD.out).trans (T:=S) Y3.out.2.2 (fun _ _ t=>t)).setCell (p:=⟨L,10,none⟩) (fun _=>HG.out.sl) _
theorem Bk(w:World)(b:Int)(v:List Int)(hv:v.length=32):(Instr.build 226 #[(0,.int .i64 1),(2,.int .i64 b),(3,.agg (U8 v).toArray)]).run prog w=.ok (.agg (R.cz ⟨1,0,b,v,0⟩).toArray) w :=
 R.Px w _ _ (by
  show Instr.fill _ _ [(0,.int .i64 1),(2,.int .i64 b),(3,.agg (U8 v).toArray)]=_;rw[R.Gg R.iO R.kZ,R.WT ⟨1,R.iO.pos,R.iO.block,R.iO.val,R.iO.eN⟩ R.kZ,R.WQ ⟨1,R.iO.pos,b,R.iO.val,R.iO.eN⟩ R.kZ v hv,R.wW];rfl)
theorem QB{w:World}{L p:Nat}{g:Lg}{bo:Int}(h:fY w L (some ⟨p,0,none⟩) g bo)(ok:g.Ok)(bk:0<g.fV->bo=g.last)(b:Int)(v:List Int)(hi:¬mN g b=0):Calls prog 68 #[.pointer (some ⟨L,0,none⟩),.int .i64 b,.agg (U8 v).toArray] w fun e w'=>e=.returned (.tuple #[.int .u64 0,.int .i64 (mN g b)])/\Below w.heap.size w w':=by
 have HB:Hid (Below w.heap.size w (w.alloc (.cells (U8 v).toArray 51))):=ag w _;have HG:=zH h;have HO:Hid g.Ok:=ok;have Km:=zH bk;clear h ok bk;go_enter func68,ntmps68;go_wp2_with fail;refine (tN (bE.later HG.out HB.out) HO.out).mono ?_;rintro e w1 ⟨rfl,b1⟩;have gj:Hid (Below w.heap.size w w1):=ah HB.out b1;have CN:=zH (bE.later HG.out gj.out);have HC:Hid (∀w',Below w1.heap.size w1 w'->fY w' L (some ⟨p,0,none⟩) g bo):=fun w' hb=>bE.later CN.out hb;clear b1 HB;by_cases hm:fK g=0
 ·have hb:Bad g b:=Decidable.byContradiction fun hb=>hi (OI hm hb);have HE:=zH (BS hm hb);rw[hm];by_cases h1:b<0
  ·clear hi hb hm;go_wp2_with fail;refine zS w1 fun aa=>?_;have D1:Hid (Below w1.heap.size w1 w1.drew):=aa;generalize w1.drew=wd at *;refine gu 0 1 2 3 aa ?_;refine fI 4 5 aa ?_;refine dA 6 aa ?_;refine dA 7 aa ?_;refine dA 8 aa ?_;refine dA 9 aa ?_;refine dA 10 aa ?_;refine dA 11 aa ?_;refine dA 12 aa ?_;refine fI 13 14 aa ?_;refine dA 15 aa ?_;refine dA 16 aa ?_;refine dA 17 aa ?_;refine dA 18 aa ?_;refine dA 19 aa ?_;refine dA 20 aa ?_;refine dA 21 aa ?_;refine dA 22 aa ?_;refine dA 23 aa ?_;refine dA 24 aa ?_;refine fI 25 26 aa ?_;refine dA 27 aa ?_;refine dA 28 aa ?_;refine dA 29 aa ?_;refine dA 30 aa ?_;refine dA 31 aa ?_;refine dA 32 aa ?_;refine dA 33 aa ?_;refine dA 34 aa ?_;refine dA 35 aa ?_;refine dA 36 aa ?_;refine dA 37 aa ?_;refine dA 38 aa ?_;refine dA 39 aa ?_;refine fI 40 41 aa ?_;clear aa;refine zD ?_;go_wp2_with fail;go_ret2;exact⟨by rw[HE.out];rfl,ah gj.out D1.out⟩
  ·have uB:decide (b<0)=false:=by simp;omega
   by_cases h2:g.c.bl<=b
   ·clear hi hb hm;go_wp2_with fail;refine zS w1 fun aa=>?_;have D1:Hid (Below w1.heap.size w1 w1.drew):=aa;generalize w1.drew=wd at *;refine gu 0 1 2 3 aa ?_;refine gu 4 5 6 7 aa ?_;refine gh 8 9 10 aa ?_;refine de 11 aa (fun _ fc=>fY.c1 (HC.out _ fc)) ?_;refine gh 12 13 14 aa ?_;refine dA 15 aa ?_;refine dA 16 aa ?_;refine dA 17 aa ?_;refine dA 18 aa ?_;refine dA 19 aa ?_;refine dA 20 aa ?_;refine dA 21 aa ?_;refine dA 22 aa ?_;refine dA 23 aa ?_;refine dA 24 aa ?_;refine fI 25 26 aa ?_;refine dA 27 aa ?_;refine dA 28 aa ?_;refine dA 29 aa ?_;refine dA 30 aa ?_;refine dA 31 aa ?_;refine dA 32 aa ?_;refine dA 33 aa ?_;refine dA 34 aa ?_;refine dA 35 aa ?_;refine dA 36 aa ?_;refine dA 37 aa ?_;refine dA 38 aa ?_;refine dA 39 aa ?_;refine fI 40 41 aa ?_;clear aa;refine zD ?_;go_wp2_with fail;go_ret2;exact⟨by rw[HE.out];rfl,ah gj.out D1.out⟩
   ·have YD:decide (g.c.bl<=b)=false:=by simp;omega
    by_cases h3:g.c.mr<=g.fV
    ·clear hi hb hm;go_wp2_with fail;refine zS w1 fun aa=>?_;have D1:Hid (Below w1.heap.size w1 w1.drew):=aa;generalize w1.drew=wd at *;refine gu 0 1 2 3 aa ?_;refine gu 4 5 6 7 aa ?_;refine gh 8 9 10 aa ?_;refine de 11 aa (fun _ fc=>fY.c1 (HC.out _ fc)) ?_;refine gu 12 13 14 15 aa ?_;refine fI 16 17 aa ?_;refine de 18 aa (fun _ fc=>fY.uh (HC.out _ fc)) ?_;refine gu 19 20 21 22 aa ?_;refine de 23 aa (fun _ fc=>fY.c3 (HC.out _ fc)) ?_;refine gh 24 25 26 aa ?_;refine dA 27 aa ?_;refine dA 28 aa ?_;refine dA 29 aa ?_;refine dA 30 aa ?_;refine dA 31 aa ?_;refine dA 32 aa ?_;refine dA 33 aa ?_;refine dA 34 aa ?_;refine dA 35 aa ?_;refine dA 36 aa ?_;refine dA 37 aa ?_;refine dA 38 aa ?_;refine dA 39 aa ?_;refine fI 40 41 aa ?_;clear aa;refine zD ?_;go_wp2_with fail;go_ret2;exact⟨by rw[HE.out];rfl,ah gj.out D1.out⟩
    ·have YC:decide (g.c.mr<=g.fV)=false:=by simp;omega
     have h4:b<=g.last:=by rcases hb with h | h | h <;> omega
     have h5:0<g.fV:=by
      rcases HO.out.il with h | h
      ·omega
      ·omega
     have h6:b<=bo:=by rw[Km.out h5];exact h4
     clear hi hb hm;go_wp2_with fail;refine zS w1 fun aa=>?_;have D1:Hid (Below w1.heap.size w1 w1.drew):=aa;generalize w1.drew=wd at *;refine gu 0 1 2 3 aa ?_;refine gu 4 5 6 7 aa ?_;refine gh 8 9 10 aa ?_;refine de 11 aa (fun _ fc=>fY.c1 (HC.out _ fc)) ?_;refine gu 12 13 14 15 aa ?_;refine fI 16 17 aa ?_;refine de 18 aa (fun _ fc=>fY.uh (HC.out _ fc)) ?_;refine gu 19 20 21 22 aa ?_;refine de 23 aa (fun _ fc=>fY.c3 (HC.out _ fc)) ?_;refine gu 24 25 26 27 aa ?_;refine fI 28 29 aa ?_;refine de 30 aa (fun _ fc=>fY.uh (HC.out _ fc)) ?_;refine gu 31 32 33 34 aa ?_;refine fI 35 36 aa ?_;refine de 37 aa (fun _ fc=>fY.CH (HC.out _ fc)) ?_;refine gu 38 39 40 41 aa ?_;clear aa;refine zD ?_;go_wp2_with fail;go_ret2;exact⟨by rw[HE.out];rfl,ah gj.out D1.out⟩
 ·have HE:=zH (yl b hm);generalize fK g=q at *;have hq:(q == 0)=false:=by simp[hm]
  have hq2:(q != 0)=true:=by simp[hm]
  go_wp2_with fail;refine zS w1 fun aa=>?_;have D1:Hid (Below w1.heap.size w1 w1.drew):=aa;generalize w1.drew=wd at *;refine gh 0 1 2 aa ?_;refine dA 3 aa ?_;refine dA 4 aa ?_;refine dA 5 aa ?_;refine dA 6 aa ?_;refine dA 7 aa ?_;refine dA 8 aa ?_;refine dA 9 aa ?_;refine dA 10 aa ?_;refine dA 11 aa ?_;refine dA 12 aa ?_;refine dA 13 aa ?_;refine dA 14 aa ?_;refine dA 15 aa ?_;refine dA 16 aa ?_;refine dA 17 aa ?_;refine dA 18 aa ?_;refine dA 19 aa ?_;refine dA 20 aa ?_;refine dA 21 aa ?_;refine dA 22 aa ?_;refine dA 23 aa ?_;refine dA 24 aa ?_;refine dA 25 aa ?_;refine dA 26 aa ?_;refine dA 27 aa ?_;refine dA 28 aa ?_;refine dA 29 aa ?_;refine dA 30 aa ?_;refine dA 31 aa ?_;refine dA 32 aa ?_;refine dA 33 aa ?_;refine dA 34 aa ?_;refine dA 35 aa ?_;refine dA 36 aa ?_;refine dA 37 aa ?_;refine dA 38 aa ?_;refine dA 39 aa ?_;refine dA 40 aa ?_;refine tk 41 aa ?_;clear aa;refine zD ?_;go_wp2_with fail;go_ret2;exact⟨by rw[HE.out];rfl,ah gj.out D1.out⟩
abbrev adN (g:Lg)(b:Int):Lg:={ g with fV:=g.fV+1,last:=b }
theorem Ov{g:Lg}(h:g.Ok){b:Int}(h0:mN g b=0):(adN g b).Ok:=by
 have k:=wP h h0;exact⟨h.cf,h.l0,h.l1,h.t0,h.tm,h.mf,h.fM,h.us,k.i0,k.i1,k.b0,k.b1,k.il⟩
theorem QA{w:World}{S:Nat->Prop}{L p:Nat}{d:List Int}{ws:List Wr}{g:Lg}{bo:Int}(h:RL w S L p d ws g bo)(hk:ws.length<=100000)(b:Int)(v:List Int)(hv:v.length=32)(zw:Bytes v)(hi:mN g b=0) :
  Calls prog 68 #[.pointer (some ⟨L,0,none⟩),.int .i64 b,.agg (U8 v).toArray] w fun e w'=>e=.returned (.tuple #[.int .u64 g.fin,.int .i64 0])/\RL w' (kX S w) L p d (ws++[⟨(oH g g.fin).toNat,R.encS (Rp g b v)⟩]) (VR g b) b/\Kept S w w':=by
 obtain ⟨wa,Mx⟩:∃x,x=w.alloc (.cells (U8 v).toArray 51):=⟨_,rfl⟩
 have ewa:=Mx.symm;have HB:Hid (Below w.heap.size w wa):=by rw[Mx];exact ag w _
 have V0:Hid (bE 51 wa w.heap.size (U8 v)):=by rw[Mx];exact bE.new 51 w (U8 v)
 have HG:=zH h;have HI:=zH hi;have HV:=rf hv zw;have hm:=(qJ hi).1;have hb:=(qJ hi).2;have YP:=rf hm hb;have BZ:=h.ok.i0;have hi1:=h.ok.i1;have hmr:=h.ok.cf.2.2.1;have YA:=h.ok.b0;have HIL:Hid (0<g.fV->¬b<=bo):=fun h5 h6=>hb (.inl (by rw[h.bk h5] at h6;exact h6));clear h hi Mx hv zw;go_enter func68,ntmps68;go_wp2_with fail;refine (tN (HG.out.later HB.out).log HG.out.ok).mono ?_;rintro e w1 ⟨rfl,b1⟩;have gj:Hid (Below w.heap.size w w1):=ah HB.out b1;have CN:=zH (HG.out.later gj.out);have V1:=zH (bE.later V0.out b1);have HC:Hid (∀w',Below w1.heap.size w1 w'->fY w' L (some ⟨p,0,none⟩) g bo):=fun w' hb=>bE.later CN.out.log hb;rw[hm];have h1:¬b<0:=fun h=>hb (.inl (by omega));have h2:¬g.c.bl<=b:=fun h=>hb (.inr (.inl h));have h3:¬g.c.mr<=g.fV:=fun h=>hb (.inr (.inr h));have uB:decide (b<0)=false:=by simp;omega
 have YD:decide (g.c.bl<=b)=false:=by simp;omega
 have YC:decide (g.c.mr<=g.fV)=false:=by simp;omega
 clear b1 HB hm hb V0 ewa;by_cases h5:0<g.fV
 ·have h6:=HIL.out h5;have yA:decide (b<=bo)=false:=by simp;omega
  go_wp2_with fail;refine zS w1 fun aa=>?_;have D1:Hid (Below w1.heap.size w1 w1.drew):=aa;generalize w1.drew=wd at *;refine gu 0 1 2 3 aa ?_;refine gu 4 5 6 7 aa ?_;refine gh 8 9 10 aa ?_;refine de 11 aa (fun _ fc=>fY.c1 (HC.out _ fc)) ?_;refine gu 12 13 14 15 aa ?_;refine fI 16 17 aa ?_;refine de 18 aa (fun _ fc=>fY.uh (HC.out _ fc)) ?_;refine gu 19 20 21 22 aa ?_;refine de 23 aa (fun _ fc=>fY.c3 (HC.out _ fc)) ?_;refine gu 24 25 26 27 aa ?_;refine fI 28 29 aa ?_;refine de 30 aa (fun _ fc=>fY.uh (HC.out _ fc)) ?_;refine gu 31 32 33 34 aa ?_;refine fI 35 36 aa ?_;refine de 37 aa (fun _ fc=>fY.CH (HC.out _ fc)) ?_;refine gu 38 39 40 41 aa ?_;clear aa;refine zD ?_;have jU:=zH (CN.out.later D1.out);have gD:Hid (Below w.heap.size w wd):=ah gj.out D1.out;have V2:=zH (bE.later V1.out D1.out);have uh:=fY.uh jU.out.log;have aa6:=fY.free jU.out.log 10;have CH:=fY.CH jU.out.log;have ae1:=fY.free jU.out.log 11;have k1:IntKind.i64.wrap (g.fV+1)=g.fV+1:=by rw[aY];omega
  have HN:=zH (Ov HG.out.ok HI.out);have hLv:L≠w.heap.size:=by have:=bE.lt HG.out.log;omega
  have KA:Hid (RL ((wd.setCell ⟨L,10,none⟩ (.int .i64 (g.fV+1))).setCell ⟨L,11,none⟩ (.int .i64 b)) S L p d ws (adN g b) b):=by
   have a1:=fY.Qe jU.out.log (g.fV+1);have a2:=fY.Ub a1 b;refine⟨a2,?_,HG.out.sl,HN.out,fun _=>rfl⟩;show Ref _ _ p g.sz d _;refine (jU.out.zF.kept (iK wd L 10 _) ?_).kept (iK _ L 11 _) ?_
   ·rintro k h rfl;exact h.2 rfl
   ·rintro k h rfl;exact h.2 rfl
  have K3:Hid (Kept S w ((wd.setCell ⟨L,10,none⟩ (.int .i64 (g.fV+1))).setCell ⟨L,11,none⟩ (.int .i64 b))):=((Kept.bP (S:=S) gD.out).setCell (p:=⟨L,10,none⟩) (fun _=>HG.out.sl) _).setCell (p:=⟨L,11,none⟩) (fun _=>HG.out.sl) _;have V3:Hid (bE 51 ((wd.setCell ⟨L,10,none⟩ (.int .i64 (g.fV+1))).setCell ⟨L,11,none⟩ (.int .i64 b)) w.heap.size (U8 v)):=by
   have eP:=bE.lt V2.out;exact (((iK (wd.setCell ⟨L,10,none⟩ (.int .i64 (g.fV+1))) L 11 (.int .i64 b)).block w.heap.size (by simp[World.setCell];exact eP) (fun e=>hLv e.symm)).trans ((iK wd L 10 (.int .i64 (g.fV+1))).block w.heap.size eP (fun e=>hLv e.symm))).trans V2.out
  have L2:=zH (Vu V3.out HV.out.1);have U2:Hid (_):=Bk ((wd.setCell ⟨L,10,none⟩ (.int .i64 (g.fV+1))).setCell ⟨L,11,none⟩ (.int .i64 b)) b v HV.out.1;clear CN gj V1 HC V2;go_wp2_with ((with_reducible refine aQ ?_);(first | (refine aK (by rfl) 51 rfl rfl L2.out ?_) | (refine bh (vs:=[(0,.int .i64 1),(2,.int .i64 b),(3,.agg (U8 v).toArray)]) (by rfl) 226 rfl (by rfl) U2.out ?_));simp only[Act.put,zA,zB,zC])
  refine (xW KA.out hk ⟨1,0,b,v,0⟩ HV.out.1 (FQ HG.out.ok YP.out.2 HV.out.1 HV.out.2) (BT HG.out.ok YP.out.2) (by have:=(lI YP.out.1).1;have:=HG.out.ok.fM;show g.fin<_;omega)).mono ?_;rintro e w3 ⟨rfl,d3,g3,k3⟩;have Y3:=Av d3 g3 k3;clear d3 g3 k3 L2 U2;go_wp2_with fail;go_ret2;have hs:=gD.out.size;have hL:=bE.lt HG.out.log;refine⟨rfl,⟨Y3.out.2.1,?_,.inl HG.out.sl,wP HG.out.ok HI.out,fun _=>rfl⟩,K3.out.trans (T:=S) Y3.out.2.2 (fun _ _ t=>t)⟩;show Ref _ _ p g.sz d _;refine Y3.out.1.mono ?_;rintro k _ (h | h)
  ·exact⟨.inl h.1,h.2⟩
  ·have h':wd.heap.size<=k:=by simpa [World.setCell] using h
   exact⟨.inr (by omega),by omega⟩
 ·have Jn:decide (0<g.fV)=false:=by simp;omega
  go_wp2_with fail;refine zS w1 fun aa=>?_;have D1:Hid (Below w1.heap.size w1 w1.drew):=aa;generalize w1.drew=wd at *;refine gu 0 1 2 3 aa ?_;refine gu 4 5 6 7 aa ?_;refine gh 8 9 10 aa ?_;refine de 11 aa (fun _ fc=>fY.c1 (HC.out _ fc)) ?_;refine gu 12 13 14 15 aa ?_;refine fI 16 17 aa ?_;refine de 18 aa (fun _ fc=>fY.uh (HC.out _ fc)) ?_;refine gu 19 20 21 22 aa ?_;refine de 23 aa (fun _ fc=>fY.c3 (HC.out _ fc)) ?_;refine gu 24 25 26 27 aa ?_;refine fI 28 29 aa ?_;refine de 30 aa (fun _ fc=>fY.uh (HC.out _ fc)) ?_;refine fI 31 32 aa ?_;refine dA 33 aa ?_;refine dA 34 aa ?_;refine dA 35 aa ?_;refine dA 36 aa ?_;refine dA 37 aa ?_;refine dA 38 aa ?_;refine gh 39 40 41 aa ?_;clear aa;refine zD ?_;have jU:=zH (CN.out.later D1.out);have gD:Hid (Below w.heap.size w wd):=ah gj.out D1.out;have V2:=zH (bE.later V1.out D1.out);have uh:=fY.uh jU.out.log;have aa6:=fY.free jU.out.log 10;have CH:=fY.CH jU.out.log;have ae1:=fY.free jU.out.log 11;have k1:IntKind.i64.wrap (g.fV+1)=g.fV+1:=by rw[aY];omega
  have HN:=zH (Ov HG.out.ok HI.out);have hLv:L≠w.heap.size:=by have:=bE.lt HG.out.log;omega
  have KA:Hid (RL ((wd.setCell ⟨L,10,none⟩ (.int .i64 (g.fV+1))).setCell ⟨L,11,none⟩ (.int .i64 b)) S L p d ws (adN g b) b):=by
   have a1:=fY.Qe jU.out.log (g.fV+1);have a2:=fY.Ub a1 b;refine⟨a2,?_,HG.out.sl,HN.out,fun _=>rfl⟩;show Ref _ _ p g.sz d _;refine (jU.out.zF.kept (iK wd L 10 _) ?_).kept (iK _ L 11 _) ?_
   ·rintro k h rfl;exact h.2 rfl
   ·rintro k h rfl;exact h.2 rfl
  have K3:Hid (Kept S w ((wd.setCell ⟨L,10,none⟩ (.int .i64 (g.fV+1))).setCell ⟨L,11,none⟩ (.int .i64 b))):=((Kept.bP (S:=S) gD.out).setCell (p:=⟨L,10,none⟩) (fun _=>HG.out.sl) _).setCell (p:=⟨L,11,none⟩) (fun _=>HG.out.sl) _;have V3:Hid (bE 51 ((wd.setCell ⟨L,10,none⟩ (.int .i64 (g.fV+1))).setCell ⟨L,11,none⟩ (.int .i64 b)) w.heap.size (U8 v)):=by
   have eP:=bE.lt V2.out;exact (((iK (wd.setCell ⟨L,10,none⟩ (.int .i64 (g.fV+1))) L 11 (.int .i64 b)).block w.heap.size (by simp[World.setCell];exact eP) (fun e=>hLv e.symm)).trans ((iK wd L 10 (.int .i64 (g.fV+1))).block w.heap.size eP (fun e=>hLv e.symm))).trans V2.out
  have L2:=zH (Vu V3.out HV.out.1);have U2:Hid (_):=Bk ((wd.setCell ⟨L,10,none⟩ (.int .i64 (g.fV+1))).setCell ⟨L,11,none⟩ (.int .i64 b)) b v HV.out.1;clear CN gj V1 HC V2;go_wp2_with ((with_reducible refine aQ ?_);(first | (refine aK (by rfl) 51 rfl rfl L2.out ?_) | (refine bh (vs:=[(0,.int .i64 1),(2,.int .i64 b),(3,.agg (U8 v).toArray)]) (by rfl) 226 rfl (by rfl) U2.out ?_));simp only[Act.put,zA,zB,zC])
  refine (xW KA.out hk ⟨1,0,b,v,0⟩ HV.out.1 (FQ HG.out.ok YP.out.2 HV.out.1 HV.out.2) (BT HG.out.ok YP.out.2) (by have:=(lI YP.out.1).1;have:=HG.out.ok.fM;show g.fin<_;omega)).mono ?_;rintro e w3 ⟨rfl,d3,g3,k3⟩;have Y3:=Av d3 g3 k3;clear d3 g3 k3 L2 U2;go_wp2_with fail;go_ret2;have hs:=gD.out.size;have hL:=bE.lt HG.out.log;refine⟨rfl,⟨Y3.out.2.1,?_,.inl HG.out.sl,wP HG.out.ok HI.out,fun _=>rfl⟩,K3.out.trans (T:=S) Y3.out.2.2 (fun _ _ t=>t)⟩;show Ref _ _ p g.sz d _;refine Y3.out.1.mono ?_;rintro k _ (h | h)
  ·exact⟨.inl h.1,h.2⟩
  ·have h':wd.heap.size<=k:=by simpa [World.setCell] using h
   exact⟨.inr (by omega),by omega⟩
