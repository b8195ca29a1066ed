import Derived.Test.YtcdjepkhdjpjcaaGreatDoorX08
import Derived.Lib.AppendZerosOnto
import Derived.RangeFuncNested
import Derived.RangeFuncBound
import Derived.Shelf.RegionOpen
import Derived.OwnWalkIn
import Derived.LoopNIn
import Derived.LoopIn
set_option maxHeartbeats 20000000
set_option maxRecDepth 100000
namespace Go.Proofs.YtcdjepkhdjpjcaaGreatDoor
open Go.Proofs.Tryz
open Go.RowKit
abbrev midG (g:Lg)(b:Int):Lg:={ g with imgs:=g.imgs+1,last:=b }
theorem midG_ok {g:Lg}(h:g.Ok){b:Int}(h0:imgS g b=0):(midG g b).Ok:=by
 have k:=imgG_ok h h0
 exact⟨h.cf,h.l0,h.l1,h.t0,h.tm,h.mf,h.fM,h.us,k.i0,k.i1,k.b0,k.b1,k.il⟩
theorem rimage_ok {w:World}{S:Nat→Prop}{L p:Nat}{d:List Int}{ws:List Wr}{g:Lg}{bo:Int}(h:RL w S L p d ws g bo)(hk:ws.length≤100000)(b:Int)(v:List Int)(hv:v.length=32)(hvb:Bytes v)(hi:imgS g b=0) :
  Calls prog 68 #[.pointer (some ⟨L,0,none⟩),.int .i64 b,.agg (U8 v).toArray] w fun e w'=>e=.returned (.tuple #[.int .u64 g.fin,.int .i64 0])∧RL w' (More S w) L p d (ws++[⟨(secN g g.fin).toNat,R.encS (imgR g b v)⟩]) (imgG g b) b∧Kept S w w':=by
 obtain ⟨wa,hwa⟩:∃x,x=w.alloc (.cells (U8 v).toArray 51):=⟨_,rfl⟩
 have ewa:=hwa.symm
 have HB:Hid (Below w.heap.size w wa):=by rw[hwa];exact below_alloc w _
 have V0:Hid (LAt 51 wa w.heap.size (U8 v)):=by rw[hwa];exact LAt.new 51 w (U8 v)
 have HG:Hid (RL w S L p d ws g bo):=h
 have HI:Hid (imgS g b=0):=hi
 have HV:Hid (v.length=32∧Bytes v):=⟨hv,hvb⟩
 have hm:=(imgS_zero hi).1
 have hb:=(imgS_zero hi).2
 have HMB:Hid (moreS g=0∧¬Bad g b):=⟨hm,hb⟩
 have hi0:=h.ok.i0
 have hi1:=h.ok.i1
 have hmr:=h.ok.cf.2.2.1
 have hl0:=h.ok.b0
 have HIL:Hid (0<g.imgs→¬b≤bo):=fun h5 h6=>hb (.inl (by rw[h.bk h5] at h6;exact h6))
 clear h hi hwa hv hvb
 go_enter func68,ntmps68
 go_wp2_with fail
 refine (rmay_at (HG.out.later HB.out).log HG.out.ok).mono ?_
 rintro e w1 ⟨rfl,b1⟩
 have HB1:Hid (Below w.heap.size w w1):=below_then HB.out b1
 have HG1:Hid (RL w1 S L p d ws g bo):=HG.out.later HB1.out
 have V1:Hid (LAt 51 w1 w.heap.size (U8 v)):=LAt.later V0.out b1
 have HC:Hid (∀w',Below w1.heap.size w1 w'→HAt w' L (some ⟨p,0,none⟩) g bo):=fun w' hb=>LAt.later HG1.out.log hb
 rw[hm]
 have h1:¬b<0:=fun h=>hb (.inl (by omega))
 have h2:¬g.c.bl≤b:=fun h=>hb (.inr (.inl h))
 have h3:¬g.c.mr≤g.imgs:=fun h=>hb (.inr (.inr h))
 have hd1:decide (b<0)=false:=by simp;omega
 have hd2:decide (g.c.bl≤b)=false:=by simp;omega
 have hd3:decide (g.c.mr≤g.imgs)=false:=by simp;omega
 clear b1 HB hm hb V0 ewa
 by_cases h5:0<g.imgs
 ·have h6:=HIL.out h5
  have hd4:decide (b≤bo)=false:=by simp;omega
  go_wp2_with fail
  refine wp_region_noPanic ?_
  refine wp_region_held_drew (S:=fun w'=>Below w1.heap.size w1 w') (by kernel_rfl) (below_drawn 1) (fun hHeld=>?_)
  have D1:Hid (Below w1.heap.size w1 w1.drew):=hHeld
  generalize w1.drew=wd at *
  refine tk 0 hHeld ?_
  refine tk 1 hHeld ?_
  refine tk 2 hHeld ?_
  refine tk 3 hHeld ?_
  refine tk 4 hHeld ?_
  refine tk 5 hHeld ?_
  refine tk 6 hHeld ?_
  refine tk 7 hHeld ?_
  refine tk 8 hHeld ?_
  refine tk 9 hHeld ?_
  refine tk 10 hHeld ?_
  refine tkl 11 hHeld (fun _ hSw=>HAt.c1 (HC.out _ hSw)) ?_
  refine tk 12 hHeld ?_
  refine tk 13 hHeld ?_
  refine tk 14 hHeld ?_
  refine tk 15 hHeld ?_
  refine tk 16 hHeld ?_
  refine tk 17 hHeld ?_
  refine tkl 18 hHeld (fun _ hSw=>HAt.c10 (HC.out _ hSw)) ?_
  refine tk 19 hHeld ?_
  refine tk 20 hHeld ?_
  refine tk 21 hHeld ?_
  refine tk 22 hHeld ?_
  refine tkl 23 hHeld (fun _ hSw=>HAt.c3 (HC.out _ hSw)) ?_
  refine tk 24 hHeld ?_
  refine tk 25 hHeld ?_
  refine tk 26 hHeld ?_
  refine tk 27 hHeld ?_
  refine tk 28 hHeld ?_
  refine tk 29 hHeld ?_
  refine tkl 30 hHeld (fun _ hSw=>HAt.c10 (HC.out _ hSw)) ?_
  refine tk 31 hHeld ?_
  refine tk 32 hHeld ?_
  refine tk 33 hHeld ?_
  refine tk 34 hHeld ?_
  refine tk 35 hHeld ?_
  refine tk 36 hHeld ?_
  refine tkl 37 hHeld (fun _ hSw=>HAt.c11 (HC.out _ hSw)) ?_
  refine tk 38 hHeld ?_
  refine tk 39 hHeld ?_
  refine tk 40 hHeld ?_
  refine tk 41 hHeld ?_
  clear hHeld
  refine wpAnyH_done (by kernel_rfl) (NoPanic.normal ?_) _
  have HG2:Hid (RL wd S L p d ws g bo):=HG1.out.later D1.out
  have HB2:Hid (Below w.heap.size w wd):=below_then HB1.out D1.out
  have V2:Hid (LAt 51 wd w.heap.size (U8 v)):=LAt.later V1.out D1.out
  have c10:=HAt.c10 HG2.out.log
  have cf10:=HAt.free HG2.out.log 10
  have c11:=HAt.c11 HG2.out.log
  have cf11:=HAt.free HG2.out.log 11
  have k1:IntKind.i64.wrap (g.imgs+1)=g.imgs+1:=by rw[IntKind.wrap_i64];omega
  have HN:Hid ((midG g b).Ok):=midG_ok HG.out.ok HI.out
  have hLv:L≠w.heap.size:=by have:=LAt.lt HG.out.log;omega
  have HG3:Hid (RL ((wd.setCell ⟨L,10,none⟩ (.int .i64 (g.imgs+1))).setCell ⟨L,11,none⟩ (.int .i64 b)) S L p d ws (midG g b) b):=by
   have a1:=HAt.setI HG2.out.log (g.imgs+1)
   have a2:=HAt.setB a1 b
   refine⟨a2,?_,HG.out.sl,HN.out,fun _=>rfl⟩
   show Ref _ _ p g.sz d _
   refine (HG2.out.dsk.kept (kept_set wd L 10 _) ?_).kept (kept_set _ L 11 _) ?_
   ·rintro k h rfl
    exact h.2 rfl
   ·rintro k h rfl
    exact h.2 rfl
  have K3:Hid (Kept S w ((wd.setCell ⟨L,10,none⟩ (.int .i64 (g.imgs+1))).setCell ⟨L,11,none⟩ (.int .i64 b))):=((Kept.of_below (S:=S) HB2.out).setCell (p:=⟨L,10,none⟩) (fun _=>HG.out.sl) _).setCell (p:=⟨L,11,none⟩) (fun _=>HG.out.sl) _
  have V3:Hid (LAt 51 ((wd.setCell ⟨L,10,none⟩ (.int .i64 (g.imgs+1))).setCell ⟨L,11,none⟩ (.int .i64 b)) w.heap.size (U8 v)):=by
   have hlt:=LAt.lt V2.out
   exact (((kept_set (wd.setCell ⟨L,10,none⟩ (.int .i64 (g.imgs+1))) L 11 (.int .i64 b)).block w.heap.size (by simp[World.setCell];exact hlt) (fun e=>hLv e.symm)).trans ((kept_set wd L 10 (.int .i64 (g.imgs+1))).block w.heap.size hlt (fun e=>hLv e.symm))).trans V2.out
  have L2:Hid (_):=loadV V3.out HV.out.1
  have U2:Hid (_):=rbuild_img ((wd.setCell ⟨L,10,none⟩ (.int .i64 (g.imgs+1))).setCell ⟨L,11,none⟩ (.int .i64 b)) b v HV.out.1
  clear HG1 HB1 V1 HC V2
  go_wp2_with ((with_reducible refine at_ops ?_);(first | (refine wpList_load_is (by rfl) 51 rfl rfl L2.out ?_) | (refine wpList_build_is (vs:=[(0,.int .i64 1),(2,.int .i64 b),(3,.agg (U8 v).toArray)]) (by rfl) 226 rfl (by rfl) U2.out ?_));simp only[Act.put,zA,zB,zC])
  refine (rlay_good HG3.out hk ⟨1,0,b,v,0⟩ HV.out.1 (imgR_wf HG.out.ok HMB.out.2 HV.out.1 HV.out.2) (imgR_may HG.out.ok HMB.out.2) (by have:=(moreS_zero HMB.out.1).1;have:=HG.out.ok.fM;show g.fin<_;omega)).mono ?_
  rintro e w3 ⟨rfl,d3,g3,k3⟩
  have Y3:Hid (Ref w3 (More (fun k=>S k∧k≠L) ((wd.setCell ⟨L,10,none⟩ (.int .i64 (g.imgs+1))).setCell ⟨L,11,none⟩ (.int .i64 b))) p g.sz d (ws++[⟨(secN g g.fin).toNat,R.encS (imgR g b v)⟩])∧HAt w3 L (some ⟨p,0,none⟩) (imgG g b) b∧Kept S ((wd.setCell ⟨L,10,none⟩ (.int .i64 (g.imgs+1))).setCell ⟨L,11,none⟩ (.int .i64 b)) w3):=⟨d3,g3,k3⟩
  clear d3 g3 k3 L2 U2
  go_wp2_with fail
  go_ret2
  have hs:=HB2.out.size
  have hL:=LAt.lt HG.out.log
  refine⟨rfl,⟨Y3.out.2.1,?_,.inl HG.out.sl,imgG_ok HG.out.ok HI.out,fun _=>rfl⟩,K3.out.trans (T:=S) Y3.out.2.2 (fun _ _ t=>t)⟩
  show Ref _ _ p g.sz d _
  refine Y3.out.1.mono ?_
  rintro k _ (h | h)
  ·exact⟨.inl h.1,h.2⟩
  ·have h':wd.heap.size≤k:=by simpa [World.setCell] using h
   exact⟨.inr (by omega),by omega⟩
 ·have hd5:decide (0<g.imgs)=false:=by simp;omega
  go_wp2_with fail
  refine wp_region_noPanic ?_
  refine wp_region_held_drew (S:=fun w'=>Below w1.heap.size w1 w') (by kernel_rfl) (below_drawn 1) (fun hHeld=>?_)
  have D1:Hid (Below w1.heap.size w1 w1.drew):=hHeld
  generalize w1.drew=wd at *
  refine tk 0 hHeld ?_
  refine tk 1 hHeld ?_
  refine tk 2 hHeld ?_
  refine tk 3 hHeld ?_
  refine tk 4 hHeld ?_
  refine tk 5 hHeld ?_
  refine tk 6 hHeld ?_
  refine tk 7 hHeld ?_
  refine tk 8 hHeld ?_
  refine tk 9 hHeld ?_
  refine tk 10 hHeld ?_
  refine tkl 11 hHeld (fun _ hSw=>HAt.c1 (HC.out _ hSw)) ?_
  refine tk 12 hHeld ?_
  refine tk 13 hHeld ?_
  refine tk 14 hHeld ?_
  refine tk 15 hHeld ?_
  refine tk 16 hHeld ?_
  refine tk 17 hHeld ?_
  refine tkl 18 hHeld (fun _ hSw=>HAt.c10 (HC.out _ hSw)) ?_
  refine tk 19 hHeld ?_
  refine tk 20 hHeld ?_
  refine tk 21 hHeld ?_
  refine tk 22 hHeld ?_
  refine tkl 23 hHeld (fun _ hSw=>HAt.c3 (HC.out _ hSw)) ?_
  refine tk 24 hHeld ?_
  refine tk 25 hHeld ?_
  refine tk 26 hHeld ?_
  refine tk 27 hHeld ?_
  refine tk 28 hHeld ?_
  refine tk 29 hHeld ?_
  refine tkl 30 hHeld (fun _ hSw=>HAt.c10 (HC.out _ hSw)) ?_
  refine tk 31 hHeld ?_
  refine tk 32 hHeld ?_
  refine tks 33 hHeld ?_
  refine tks 34 hHeld ?_
  refine tks 35 hHeld ?_
  refine tks 36 hHeld ?_
  refine tks 37 hHeld ?_
  refine tks 38 hHeld ?_
  refine tk 39 hHeld ?_
  refine tk 40 hHeld ?_
  refine tk 41 hHeld ?_
  clear hHeld
  refine wpAnyH_done (by kernel_rfl) (NoPanic.normal ?_) _
  have HG2:Hid (RL wd S L p d ws g bo):=HG1.out.later D1.out
  have HB2:Hid (Below w.heap.size w wd):=below_then HB1.out D1.out
  have V2:Hid (LAt 51 wd w.heap.size (U8 v)):=LAt.later V1.out D1.out
  have c10:=HAt.c10 HG2.out.log
  have cf10:=HAt.free HG2.out.log 10
  have c11:=HAt.c11 HG2.out.log
  have cf11:=HAt.free HG2.out.log 11
  have k1:IntKind.i64.wrap (g.imgs+1)=g.imgs+1:=by rw[IntKind.wrap_i64];omega
  have HN:Hid ((midG g b).Ok):=midG_ok HG.out.ok HI.out
  have hLv:L≠w.heap.size:=by have:=LAt.lt HG.out.log;omega
  have HG3:Hid (RL ((wd.setCell ⟨L,10,none⟩ (.int .i64 (g.imgs+1))).setCell ⟨L,11,none⟩ (.int .i64 b)) S L p d ws (midG g b) b):=by
   have a1:=HAt.setI HG2.out.log (g.imgs+1)
   have a2:=HAt.setB a1 b
   refine⟨a2,?_,HG.out.sl,HN.out,fun _=>rfl⟩
   show Ref _ _ p g.sz d _
   refine (HG2.out.dsk.kept (kept_set wd L 10 _) ?_).kept (kept_set _ L 11 _) ?_
   ·rintro k h rfl
    exact h.2 rfl
   ·rintro k h rfl
    exact h.2 rfl
  have K3:Hid (Kept S w ((wd.setCell ⟨L,10,none⟩ (.int .i64 (g.imgs+1))).setCell ⟨L,11,none⟩ (.int .i64 b))):=((Kept.of_below (S:=S) HB2.out).setCell (p:=⟨L,10,none⟩) (fun _=>HG.out.sl) _).setCell (p:=⟨L,11,none⟩) (fun _=>HG.out.sl) _
  have V3:Hid (LAt 51 ((wd.setCell ⟨L,10,none⟩ (.int .i64 (g.imgs+1))).setCell ⟨L,11,none⟩ (.int .i64 b)) w.heap.size (U8 v)):=by
   have hlt:=LAt.lt V2.out
   exact (((kept_set (wd.setCell ⟨L,10,none⟩ (.int .i64 (g.imgs+1))) L 11 (.int .i64 b)).block w.heap.size (by simp[World.setCell];exact hlt) (fun e=>hLv e.symm)).trans ((kept_set wd L 10 (.int .i64 (g.imgs+1))).block w.heap.size hlt (fun e=>hLv e.symm))).trans V2.out
  have L2:Hid (_):=loadV V3.out HV.out.1
  have U2:Hid (_):=rbuild_img ((wd.setCell ⟨L,10,none⟩ (.int .i64 (g.imgs+1))).setCell ⟨L,11,none⟩ (.int .i64 b)) b v HV.out.1
  clear HG1 HB1 V1 HC V2
  go_wp2_with ((with_reducible refine at_ops ?_);(first | (refine wpList_load_is (by rfl) 51 rfl rfl L2.out ?_) | (refine wpList_build_is (vs:=[(0,.int .i64 1),(2,.int .i64 b),(3,.agg (U8 v).toArray)]) (by rfl) 226 rfl (by rfl) U2.out ?_));simp only[Act.put,zA,zB,zC])
  refine (rlay_good HG3.out hk ⟨1,0,b,v,0⟩ HV.out.1 (imgR_wf HG.out.ok HMB.out.2 HV.out.1 HV.out.2) (imgR_may HG.out.ok HMB.out.2) (by have:=(moreS_zero HMB.out.1).1;have:=HG.out.ok.fM;show g.fin<_;omega)).mono ?_
  rintro e w3 ⟨rfl,d3,g3,k3⟩
  have Y3:Hid (Ref w3 (More (fun k=>S k∧k≠L) ((wd.setCell ⟨L,10,none⟩ (.int .i64 (g.imgs+1))).setCell ⟨L,11,none⟩ (.int .i64 b))) p g.sz d (ws++[⟨(secN g g.fin).toNat,R.encS (imgR g b v)⟩])∧HAt w3 L (some ⟨p,0,none⟩) (imgG g b) b∧Kept S ((wd.setCell ⟨L,10,none⟩ (.int .i64 (g.imgs+1))).setCell ⟨L,11,none⟩ (.int .i64 b)) w3):=⟨d3,g3,k3⟩
  clear d3 g3 k3 L2 U2
  go_wp2_with fail
  go_ret2
  have hs:=HB2.out.size
  have hL:=LAt.lt HG.out.log
  refine⟨rfl,⟨Y3.out.2.1,?_,.inl HG.out.sl,imgG_ok HG.out.ok HI.out,fun _=>rfl⟩,K3.out.trans (T:=S) Y3.out.2.2 (fun _ _ t=>t)⟩
  show Ref _ _ p g.sz d _
  refine Y3.out.1.mono ?_
  rintro k _ (h | h)
  ·exact⟨.inl h.1,h.2⟩
  ·have h':wd.heap.size≤k:=by simpa [World.setCell] using h
   exact⟨.inr (by omega),by omega⟩
theorem refConfig_any (s:Sup)(w:World) :
  Calls prog 121 #[.agg (ccells s).toArray] w fun e w'=>e=.returned (.int .i64 (cfg s))∧Below w.heap.size w w':=by
 have hA:CAt (w.alloc (.cells (ccells s).toArray 23)) w.heap.size s:=LAt.new 23 w (ccells s)
 have c0:=CAt.c0 hA
 have c1:=CAt.c1 hA
 have c2:=CAt.c2 hA
 have c3:=CAt.c3 hA
 have c4:=CAt.c4 hA
 have HB:Hid (Below w.heap.size w (w.alloc (.cells (ccells s).toArray 23))):=below_alloc w _
 have HC1:Hid (MayC s→cfg s=0):=cfg_yes s
 have HC0:Hid (¬MayC s→cfg s=3):=cfg_no s
 clear hA
 go_enter func121,ntmps121
 by_cases h1:(1≤s.bl∧s.bl≤64)∧(2≤s.lc∧s.lc≤64)
 ·obtain ⟨⟨a1,a2⟩,a3,a4⟩:=h1
  by_cases h2:(1≤s.mr∧s.mr≤16∧s.mr≤s.bl∧s.mr≤s.lc-1)
  ·obtain ⟨a5,a6,a7,a8⟩:=h2
   by_cases h3:(1≤s.hi∧s.hi≤s.lc)∧(1≤s.cl∧s.cl≤8)
   ·have HE:Hid (cfg s=0):=HC1.out ⟨⟨a1,a2⟩,⟨a3,a4⟩,⟨a5,a6,a7,a8⟩,h3.1,h3.2⟩
    obtain ⟨⟨b1,b2⟩,b3,b4⟩:=h3
    go_wp2
    go_ret
    exact⟨by rw[HE.out];rfl,HB.out⟩
   ·have HE:Hid (cfg s=3):=HC0.out fun h=>h3 ⟨h.2.2.2.1,h.2.2.2.2⟩
    have h3':s.hi<1∨(1≤s.hi∧s.lc<s.hi)∨((1≤s.hi∧s.hi≤s.lc)∧s.cl<1)∨((1≤s.hi∧s.hi≤s.lc)∧1≤s.cl∧8<s.cl):=by omega
    clear h3
    rcases h3' with h | ⟨h,h'⟩ | ⟨⟨h,h'⟩,h''⟩ | ⟨⟨h,h'⟩,h'',h'''⟩ <;> go_wp2 <;> go_ret <;> exact⟨by rw[HE.out];rfl,HB.out⟩
  ·have HE:Hid (cfg s=3):=HC0.out fun h=>h2 h.2.2.1
   have h2':s.mr<1∨(1≤s.mr∧16<s.mr)∨((1≤s.mr∧s.mr≤16)∧s.bl<s.mr)∨((1≤s.mr∧s.mr≤16)∧s.mr≤s.bl∧s.lc-1<s.mr):=by omega
   clear h2
   rcases h2' with h | ⟨h,h'⟩ | ⟨⟨h,h'⟩,h''⟩ | ⟨⟨h,h'⟩,h'',h'''⟩ <;> go_wp2 <;> go_ret <;> exact⟨by rw[HE.out];rfl,HB.out⟩
 ·have HE:Hid (cfg s=3):=HC0.out fun h=>h1 ⟨h.1,h.2.1⟩
  have h1':s.bl<1∨(1≤s.bl∧64<s.bl)∨((1≤s.bl∧s.bl≤64)∧s.lc<2)∨((1≤s.bl∧s.bl≤64)∧2≤s.lc∧64<s.lc):=by omega
  clear h1
  rcases h1' with h | ⟨h,h'⟩ | ⟨⟨h,h'⟩,h''⟩ | ⟨⟨h,h'⟩,h'',h'''⟩ <;> go_wp2 <;> go_ret <;> exact⟨by rw[HE.out];rfl,HB.out⟩
end Go.Proofs.YtcdjepkhdjpjcaaGreatDoor
namespace Go.Proofs.YtcdjepkhdjpjcaaGreatDoor
open Go.RowKit
theorem zeros_one (z:Value)(k:Nat):Builtin.zeroCells #[z] k=(List.replicate k z).toArray:=by
 have h:=toList_madeCells_one z k
 have e:Builtin.zeroCells #[z] k=madeCells #[z] k:=by simp[Builtin.zeroCells,madeCells]
 rw[e,← h]
section
variable {P:Program} (w:World)
theorem run_append_zeros_own (base:Nat)(t tn ty e:TypeId)(i:TypeInfo)(z:Value)(bytes:Nat)(kq kn:IntKind)(ht:P.underlying t=some (.slice e))(htn:P.underlying tn=some (.int kn))(hi:P.info? e=some i)(hz:i.zero=some z)
  (hsize:i.size=1) (hby:i.bytes=bytes) (hzc:z.cells=#[z]) (hone:z.oneCell'=true) (g n cap:Nat) (xs:List Value) (hown:w.ownsRow base e 1 (.slice (some ⟨g,0,none⟩) n cap) n xs) (k:Nat) (hk:0<k)
  (h63:n+k≤maxLen) (hbytes:(n+k)*bytes≤140737488355328) (hbase:base≤w.heap.size) :
  ∃v' w',(Builtin.append_ #[t,tn] ty #[.slice (some ⟨g,0,none⟩) n cap,.int kq k]).run P w=.ok v' w'∧w'.ownsRow base e 1 v' (n+k) (xs++List.replicate k z)∧w.grownBy w' (some g):=by
 have hsmall:n+k≤9223372036854775807:=by simp only[maxLen] at h63;omega
 have hlen:(xs++List.replicate k z).length=(n+k)*1:=by rw[List.length_append,hown.1,List.length_replicate];omega
 have hkb:k*i.bytes≤140737488355328:=by
  rw[hby]
  exact Nat.le_trans (Nat.mul_le_mul_right _ (by omega)) hbytes
 rcases hown.2 with ⟨h,_⟩ | ⟨g',cap',cur,h,hbg,hg,hnc,hcm,hcs,htake⟩
 ·simp at h
 ·simp only[Value.slice.injEq,Option.some.injEq,Addr.mk.injEq,and_true,true_and] at h
  obtain ⟨rfl,rfl⟩:=h
  by_cases hroom:n+k≤cap
  ·have hst:=run_storeCells_at P g n e (List.replicate k z) 0 cur w hg (by simp;omega) (by intro v hv;rw[List.eq_of_mem_replicate hv];exact hone)
   simp only[Nat.add_zero] at hst
   have hw:IntKind.i64.wrap (k:Int)=k:=by rw[IntKind.wrap_i64];omega
   have hneg:¬((k:Int)<0):=by omega
   have h48i:¬(281474976710656<(k:Int)*(i.bytes:Int)):=by
    rw[← Int.natCast_mul]
    omega
   have hk0:k≠0:=by omega
   have hr:(Builtin.append_ #[t,tn] ty #[.slice (some ⟨g,0,none⟩) n cap,.int kq k]).run P w=.ok (.slice (some ⟨g,0,none⟩) (n+k) cap) (w.setRow g (cur.toList.take n++List.replicate k z++cur.toList.drop (n+(List.replicate k z).length)).toArray):=by
    simp[Builtin.append_,run_underlying ht,run_underlying htn,sizeOf,typeInfo,zeroValue,hi,hz,hsize,asInt,asIntOf,hw,hneg,h48i,hroom,hk0,hzc,zeros_one,Addr.add_lit,hst]
   refine⟨_,_,hr,⟨hlen,.inr ⟨g,cap,_,rfl,hbg,setRow_heap w g cur _ e _ hg,hroom,hcm,?_,?_⟩⟩,⟨rfl,rfl,rfl,by simp,fun k _ hk=>setRow_other w g k _ (fun e=>hk (by simp[e]))⟩⟩
   ·simp only[List.size_toArray,List.length_append,List.length_take,List.length_drop,Array.length_toList,List.length_replicate]
    omega
   ·rw[Nat.mul_one] at htake
    rw[htake,← hlen]
    exact List.take_left
  ·have holds:∀j u,xs[j]?=some u→w.drew.cell? ((⟨g,0,none⟩:Addr).add j)=some u:=hown.cells (g:=g) rfl
   have hf:=run_firstCells_some (P:=P) w.drew i.size n ⟨g,0,none⟩ n cap xs (by rw[hsize];exact hown.1) holds
   have hr:=Lib.run_append_grow_zeros (P:=P) w t tn ty e i z kq kn ht htn hi hz (some ⟨g,0,none⟩) n cap xs hf k hk (by omega) (by omega) (by omega) (by omega) (growslice_fits (by omega) (by rw[hby];exact hbytes))
   have hge:=grownCap_ge w (n+k) cap e
   have hcm2:grownCap w (n+k) cap e≤maxLen:=grownCap_le_maxLen w (n+k) cap e h63
   refine⟨_,_,hr,⟨hlen,.inr ⟨w.heap.size,_,_,rfl,hbase,heap_alloc_new w.drew _,hge,hcm2,?_,?_⟩⟩,⟨rfl,rfl,rfl,by simp,fun k hk _=>heap_alloc_old w.drew _ hk⟩⟩
   ·have:=hown.1
    simp only[Array.size_append,List.size_toArray,size_zeroCells,hzc]
    simp
    omega
   ·simp only[Array.toList_append,hzc,zeros_one,List.append_assoc]
    rw[← List.append_assoc,← hlen]
    exact List.take_left
theorem wpList_append_zeros_own {ops:Array Oper}{rest:List Oper}{o:Oper}{a:Act}{Q:Exit→Act→World→Prop}(hgd:o.guard=none)(s x:Operand)(t tn:TypeId)
  (ho:o.op=.call { callee:=.builtin .append,args:=#[s,x],argTypes:=#[t,tn] }) (base:Nat) (e:TypeId) (i:TypeInfo) (z:Value) (bytes:Nat) (kq kn:IntKind) (ht:P.underlying t=some (.slice e)) (htn:P.underlying tn=some (.int kn)) (hi:P.info? e=some i) (hz:i.zero=some z)
  (hsize:i.size=1) (hby:i.bytes=bytes) (hzc:z.cells=#[z]) (hone:z.oneCell'=true) (g n cap:Nat) (xs:List Value) (hs:a.eval s=.slice (some ⟨g,0,none⟩) n cap) (hown:w.ownsRow base e 1 (.slice (some ⟨g,0,none⟩) n cap) n xs) (k:Nat) (hx:a.eval x=.int kq k) (hk:0<k)
  (h63:n+k≤maxLen) (hbytes:(n+k)*bytes≤140737488355328) (hbase:base≤w.heap.size)
  (h:∀v' w',w'.ownsRow base e 1 v' (n+k) (xs++List.replicate k z)→w.grownBy w' (some g)→wpList P ops Q rest (a.put o.dst v') w'):wpList P ops Q (o :: rest) a w:=by
 refine wpList_plain hgd fun K hK=>?_
 obtain ⟨v',w',hr,h1,h2⟩:=run_append_zeros_own (P:=P) w base t tn o.type e i z bytes kq kn ht htn hi hz hsize hby hzc hone g n cap xs hown k hk h63 hbytes hbase
 unfold Oper.wp
 simp[execOp,ho,resolve,invoke,builtin,hs,hx,hr,Result.andThen]
 exact hK _ _ (h v' w' h1 h2)
end
theorem div_step (n:Int)(j:Nat):n / 256 ^ j / 256=n / 256 ^ (j+1):=by
 rw[Int.pow_succ,Int.ediv_ediv_of_nonneg (Int.le_of_lt (pow_pos j))]
theorem div_bd (n:Int)(j:Nat)(h0:0≤n):0≤n / 256 ^ j∧n / 256 ^ j≤n :=
 ⟨Int.ediv_nonneg h0 (Int.le_of_lt (pow_pos j)),Int.ediv_le_self _ h0⟩
theorem own_shape {w:World}{base:Nat}{v:Value}{n:Nat}{xs:List Value}(h:w.ownsRow base 5 1 v n xs)(h0:0<n):∃g cap,v=.slice (some ⟨g,0,none⟩) n cap∧n≤cap:=by
 rcases h.2 with ⟨_,h2⟩ | ⟨g,cap,cur,h2,_,_,h3,_⟩
 ·omega
 ·exact⟨g,cap,h2,h3⟩
theorem own_bin {w:World}{base g cap n:Nat}{xs:List Int}(h:w.ownsRow base 5 1 (.slice (some ⟨g,0,none⟩) n cap) n (U8 xs))(hb:Bytes xs):BIn w (some ⟨g,0,none⟩) n xs:=by
 obtain ⟨p,c,e,hr,_⟩:=own_in h hb
 simp only[Value.slice.injEq] at e
 rw[e.1]
 exact hr
open Go.Proofs.Tryz
theorem placesRL:placesOf prog 214=some plL:=by kernel_rfl
theorem fillRL (dp:Option Addr)(s:Sup)(t l:Int):Instr.fill (plL.toArray[·]?) (lcells none lg0).toArray [(0,.pointer dp),(1,.agg (ccells s).toArray),(2,.int .u64 l),(3,.int .u64 t),(4,.int .u64 t),(5,.int .u64 t)]=some (lcells dp (wb (opnG s t l) 0)).toArray:=by
 rw[fill_step 0 1 0 rfl _ [.pointer dp] _ rfl rfl (by simp[lcells]),fill_step 1 5 1 rfl _ (ccells s) _ rfl rfl (by simp[lcells]),fill_step 6 1 2 rfl _ [.int .u64 l] _ rfl rfl (by simp[lcells,ccells]),fill_step 7 1 3 rfl _ [.int .u64 t] _ rfl rfl (by simp[lcells,ccells]),fill_step 8 1 4 rfl _ [.int .u64 t] _ rfl rfl (by simp[lcells,ccells]),fill_step 9 1 5 rfl _ [.int .u64 t] _ rfl rfl (by simp[lcells,ccells])]
 rfl
theorem buildRL (w:World)(dp:Option Addr)(s:Sup)(t l:Int):(Instr.build 214 #[(0,.pointer dp),(1,.agg (ccells s).toArray),(2,.int .u64 l),(3,.int .u64 t),(4,.int .u64 t),(5,.int .u64 t)]).run prog w=.ok (.agg (lcells dp (wb (opnG s t l) 0)).toArray) w :=
 run_build w 214 _ _ ((built_of 214 _ _ _ placesRL zeroRL).trans (fillRL dp s t l))
theorem ropen_ok (s:Sup)(t l:Int)(ht0:0≤t)(hl0:0≤l){w:World}{S:Nat→Prop}{p n:Nat}{d:List Int}{ws:List Wr}(h:Ref w S p n d ws)(hr:opnS s n t l=0) :
  Calls prog 60 #[.pointer (some ⟨p,0,none⟩),.agg (ccells s).toArray,.int .u64 t,.int .u64 l] w fun e w'=>∃L,e=.returned (.tuple #[.pointer (some ⟨L,0,none⟩),.int .i64 0])∧w.heap.size≤L∧RL w' (More S w) L p d ws (opnG s t l) 0∧Below w.heap.size w w':=by
 have HB:Hid (Below w.heap.size w (w.alloc (.cells (ccells s).toArray 23))):=below_alloc w _
 have C0:Hid (CAt (w.alloc (.cells (ccells s).toArray 23)) w.heap.size s):=LAt.new 23 w (ccells s)
 have L1:Hid (_):=CAt.load23 C0.out
 have HD:Hid (Ref w S p n d ws):=h
 clear h
 go_enter func60,ntmps60
 go_wp2_with ((with_reducible refine at_ops ?_);(refine wpList_load_is (by rfl) 23 rfl rfl L1.out ?_);simp only[Act.put,zA,zB,zC])
 refine (refConfig_any s _).mono ?_
 rintro e w1 ⟨rfl,b1⟩
 have B1:Hid (Below w.heap.size w w1):=below_then HB.out b1
 have C1:Hid (CAt w1 w.heap.size s):=LAt.later C0.out b1
 have D1:Hid (Ref w1 S p n d ws):=HD.out.later B1.out
 clear b1 HB C0 L1
 obtain ⟨hc,hlen,hw1,hw2,hl⟩:=opnS_zero hr
 have hcf:cfg s=0:=if_pos hc
 have hb:=hc.1
 have hlc:=hc.2.1
 rw[hcf]
 have k1:IntKind.i64.wrap (1+s.bl)=1+s.bl:=by rw[IntKind.wrap_i64];omega
 have k2:IntKind.i64.wrap (1+s.bl+s.lc)=1+s.bl+s.lc:=by rw[IntKind.wrap_i64];omega
 have hq:((n:Int) != 1+s.bl+s.lc)=false:=by simp[hlen]
 have hw1':¬4611686018427387904<t:=by omega
 have hw2':¬4611686018427387904<l:=by omega
 have hl':(l == 0)=false:=by simp[hl]
 have HOK:Hid ((opnG s t l).Ok∧(opnG s t l).sz=n):=⟨opnG_ok hr ht0 hl0,by have:=(opnG_ok hr ht0 hl0).sz_is;have e1:(opnG s t l).c=s:=rfl;rw[e1] at this;omega⟩
 clear hr hlen hc hw1 hw2
 go_wp2_with fail
 refine wp_region_noPanic ?_
 refine wp_region_held_drew (S:=fun w'=>Below w1.heap.size w1 w') (by kernel_rfl) (below_drawn 1) (fun hHeld=>?_)
 have DX:Hid (Below w1.heap.size w1 w1.drew):=hHeld
 generalize w1.drew=wd at *
 have BD:Hid (Below w.heap.size w wd):=below_then B1.out DX.out
 refine tk 0 hHeld ?_
 refine tk 2 hHeld ?_
 refine tkl 3 hHeld (fun _ hSw=>CAt.c0 (LAt.later C1.out hSw)) ?_
 refine tk 4 hHeld ?_
 refine tk 5 hHeld ?_
 refine tkl 6 hHeld (fun _ hSw=>CAt.c1 (LAt.later C1.out hSw)) ?_
 refine tk 7 hHeld ?_
 refine wpAnyH_ready (rs:=[1]) (by kernel_rfl) (by simp) ?_
 refine AllReadyH.cons (by simp;rfl) (fun Kc hKc=>?_) AllReadyH.nil
 go_simp
 refine (rlen_any (D1.out.later DX.out)).mono ?_
 rintro e wn ⟨rfl,rfl⟩
 refine hKc.out _ _ DX.out (fun hHeld=>?_)
 clear hKc Kc
 refine tk 8 hHeld ?_
 refine tk 9 hHeld ?_
 clear hHeld
 refine wpAnyH_done (by kernel_rfl) (NoPanic.normal ?_) _
 have LC:Hid (_):=CAt.load23 (LAt.later C1.out DX.out)
 have U1:Hid (_):=buildRL wd (some ⟨p,0,none⟩) s t l
 have DD:Hid (Ref wd S p n d ws):=D1.out.later DX.out
 go_wp2_with ((with_reducible refine at_ops ?_);(first | (refine wpList_load_is (by rfl) 23 rfl rfl LC.out ?_) | (refine wpList_build_is (vs:=[(0,.pointer (some ⟨p,0,none⟩)),(1,.agg (ccells s).toArray),(2,.int .u64 l),(3,.int .u64 t),(4,.int .u64 t),(5,.int .u64 t)]) (by rfl) 214 rfl (by rfl) U1.out ?_));simp only[Act.put,zA,zB,zC])
 go_ret2
 refine⟨wd.heap.size,rfl,BD.out.size,?_,BD.out.alloc BD.out.size _⟩
 have hn:=LAt.new 214 wd (lcells (some ⟨p,0,none⟩) (wb (opnG s t l) 0))
 refine⟨hn,?_,.inr BD.out.size,HOK.out.1,fun h=>absurd h (Int.lt_irrefl 0)⟩
 rw[HOK.out.2]
 have hS:=HD.out.mono (T:=fun k=>S k∧k<w.heap.size) fun k hk s=>⟨s,hk⟩
 refine (hS.later (BD.out.alloc BD.out.size _)).mono fun k _ s=>⟨.inl s.1,?_⟩
 have:=BD.out.size
 omega
end Go.Proofs.YtcdjepkhdjpjcaaGreatDoor
