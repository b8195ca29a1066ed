import Derived.Test.YtcdjepkhdjpjcaaGreatDoorY07
set_option maxHeartbeats 20000000
set_option maxRecDepth 100000
namespace Go.Proofs.YtcdjepkhdjpjcaaGreatDoor
open Go.Proofs.Tryz
open Go.RowKit
theorem loadV {w:World}{k:Nat}{v:List Int}(h:LAt 51 w k (U8 v))(hv:v.length=32):(Instr.loadAt 51 (.pointer (some ⟨k,0,none⟩))).run prog w=.ok (.agg (U8 v).toArray) w :=
 run_loadAt_mid w k 0 51 (U8 v) _ (LAt.range h) underlying51 rfl (by rw[R.size24,U8_length,hv])
theorem build_img (w:World)(b:Int)(v:List Int)(hv:v.length=32):(Instr.build 180 #[(0,.int .i64 1),(2,.int .i64 b),(3,.agg (U8 v).toArray)]).run prog w=.ok (.agg (R.rcells ⟨1,0,b,v,0⟩).toArray) w :=
 R.build31 w _ _ (by
  show Instr.fill _ _ [(0,.int .i64 1),(2,.int .i64 b),(3,.agg (U8 v).toArray)]=_
  rw[R.fill_k R.rec0 R.rec0_len,R.fill_b ⟨1,R.rec0.pos,R.rec0.block,R.rec0.val,R.rec0.images⟩ R.rec0_len,R.fill_v ⟨1,R.rec0.pos,b,R.rec0.val,R.rec0.images⟩ R.rec0_len v hv,R.fill_end];rfl)
theorem build_com (w:World)(i:Int):(Instr.build 180 #[(0,.int .i64 2),(4,.int .i64 i)]).run prog w=.ok (.agg (R.rcells ⟨2,0,0,R.zs 32,i⟩).toArray) w :=
 R.build31 w _ _ (by
  show Instr.fill _ _ [(0,.int .i64 2),(4,.int .i64 i)]=_
  rw[R.fill_k R.rec0 R.rec0_len,R.fill_i ⟨2,R.rec0.pos,R.rec0.block,R.rec0.val,R.rec0.images⟩ R.rec0_len,R.fill_end];rfl)
theorem image_no {w:World}{L p:Nat}{g:Lg}(h:GAt w L (some ⟨p,0,none⟩) g)(ok:g.Ok)(b:Int)(v:List Int)(hi:¬imgS g b=0):Calls prog 39 #[.pointer (some ⟨L,0,none⟩),.int .i64 b,.agg (U8 v).toArray] w fun e w'=>e=.returned (.tuple #[.int .u64 0,.int .i64 (imgS g b)])∧Below w.heap.size w w':=by
 have HB:Hid (Below w.heap.size w (w.alloc (.cells (U8 v).toArray 51))):=below_alloc w _
 have HG:Hid (GAt w L (some ⟨p,0,none⟩) g):=h
 have HO:Hid g.Ok:=ok
 clear h ok
 go_enter func39,ntmps39
 go_wp2_with fail
 refine (more_at (LAt.later HG.out HB.out) HO.out).mono ?_
 rintro e w1 ⟨rfl,b1⟩
 have HB1:Hid (Below w.heap.size w w1):=below_then HB.out b1
 clear b1 HB
 by_cases hm:moreS g=0
 ·have hb:Bad g b:=Decidable.byContradiction fun hb=>hi (imgS_ok hm hb)
  have HE:Hid (imgS g b=60):=imgS_bad hm hb
  have HG1:Hid (GAt w1 L (some ⟨p,0,none⟩) g):=LAt.later HG.out HB1.out
  have HC:Hid (∀w',Below w1.heap.size w1 w'→w'.cell? ⟨L,11,none⟩=some (.int .i64 g.last)∧w'.cell? ⟨L,1,none⟩=some (.int .i64 g.c.bl)∧w'.cell? ⟨L,10,none⟩=some (.int .i64 g.imgs)∧w'.cell? ⟨L,3,none⟩=some (.int .i64 g.c.mr)):=fun w' hb=>⟨GAt.c11 (LAt.later HG1.out hb),GAt.c1 (LAt.later HG1.out hb),GAt.c10 (LAt.later HG1.out hb),GAt.c3 (LAt.later HG1.out hb)⟩
  rw[hm]
  by_cases h1:b≤g.last
  ·clear hi hb hm
   go_wp2_with fail
   refine wp_region_noPanic ?_
   refine wp_region_held_drew (S:=fun w'=>Below w1.heap.size w1 w') (by kernel_rfl) (below_drawn 1) (fun hHeld=>?_)
   have D1:Hid (Below w1.heap.size w1 w1.drew):=hHeld
   generalize w1.drew=wd at *
   refine tk 0 hHeld ?_
   refine tk 1 hHeld ?_
   refine tk 2 hHeld ?_
   refine tk 3 hHeld ?_
   refine tkl 4 hHeld (fun _ hSw=>(HC.out _ hSw).1) ?_
   refine tk 5 hHeld ?_
   refine tk 6 hHeld ?_
   refine tks 7 hHeld ?_
   refine tks 8 hHeld ?_
   refine tks 9 hHeld ?_
   refine tks 10 hHeld ?_
   refine tks 11 hHeld ?_
   refine tks 12 hHeld ?_
   refine tks 13 hHeld ?_
   refine tk 14 hHeld ?_
   refine tk 15 hHeld ?_
   refine tks 16 hHeld ?_
   refine tks 17 hHeld ?_
   refine tks 18 hHeld ?_
   refine tks 19 hHeld ?_
   refine tks 20 hHeld ?_
   refine tks 21 hHeld ?_
   refine tks 22 hHeld ?_
   refine tks 23 hHeld ?_
   refine tks 24 hHeld ?_
   refine tks 25 hHeld ?_
   refine tk 26 hHeld ?_
   clear hHeld
   refine wpAnyH_done (by kernel_rfl) (NoPanic.normal ?_) _
   go_wp2_with fail
   go_ret2
   exact⟨by rw[HE.out];rfl,below_then HB1.out D1.out⟩
  ·have hd1:decide (b≤g.last)=false:=by simp;omega
   by_cases h2:g.c.bl≤b
   ·clear hi hb hm
    go_wp2_with fail
    refine wp_region_noPanic ?_
    refine wp_region_held_drew (S:=fun w'=>Below w1.heap.size w1 w') (by kernel_rfl) (below_drawn 1) (fun hHeld=>?_)
    have D1:Hid (Below w1.heap.size w1 w1.drew):=hHeld
    generalize w1.drew=wd at *
    refine tk 0 hHeld ?_
    refine tk 1 hHeld ?_
    refine tk 2 hHeld ?_
    refine tk 3 hHeld ?_
    refine tkl 4 hHeld (fun _ hSw=>(HC.out _ hSw).1) ?_
    refine tk 5 hHeld ?_
    refine tk 6 hHeld ?_
    refine tk 7 hHeld ?_
    refine tk 8 hHeld ?_
    refine tk 9 hHeld ?_
    refine tk 10 hHeld ?_
    refine tk 11 hHeld ?_
    refine tkl 12 hHeld (fun _ hSw=>(HC.out _ hSw).2.1) ?_
    refine tk 13 hHeld ?_
    refine tk 14 hHeld ?_
    refine tk 15 hHeld ?_
    refine tks 16 hHeld ?_
    refine tks 17 hHeld ?_
    refine tks 18 hHeld ?_
    refine tks 19 hHeld ?_
    refine tks 20 hHeld ?_
    refine tks 21 hHeld ?_
    refine tks 22 hHeld ?_
    refine tks 23 hHeld ?_
    refine tks 24 hHeld ?_
    refine tks 25 hHeld ?_
    refine tk 26 hHeld ?_
    clear hHeld
    refine wpAnyH_done (by kernel_rfl) (NoPanic.normal ?_) _
    go_wp2_with fail
    go_ret2
    exact⟨by rw[HE.out];rfl,below_then HB1.out D1.out⟩
   ·have h3:g.c.mr≤g.imgs:=by rcases hb with h | h | h <;> omega
    have hd2:decide (g.c.bl≤b)=false:=by simp;omega
    clear hi hb hm
    go_wp2_with fail
    refine wp_region_noPanic ?_
    refine wp_region_held_drew (S:=fun w'=>Below w1.heap.size w1 w') (by kernel_rfl) (below_drawn 1) (fun hHeld=>?_)
    have D1:Hid (Below w1.heap.size w1 w1.drew):=hHeld
    generalize w1.drew=wd at *
    refine tk 0 hHeld ?_
    refine tk 1 hHeld ?_
    refine tk 2 hHeld ?_
    refine tk 3 hHeld ?_
    refine tkl 4 hHeld (fun _ hSw=>(HC.out _ hSw).1) ?_
    refine tk 5 hHeld ?_
    refine tk 6 hHeld ?_
    refine tk 7 hHeld ?_
    refine tk 8 hHeld ?_
    refine tk 9 hHeld ?_
    refine tk 10 hHeld ?_
    refine tk 11 hHeld ?_
    refine tkl 12 hHeld (fun _ hSw=>(HC.out _ hSw).2.1) ?_
    refine tk 13 hHeld ?_
    refine tk 14 hHeld ?_
    refine tk 15 hHeld ?_
    refine tk 16 hHeld ?_
    refine tk 17 hHeld ?_
    refine tk 18 hHeld ?_
    refine tkl 19 hHeld (fun _ hSw=>(HC.out _ hSw).2.2.1) ?_
    refine tk 20 hHeld ?_
    refine tk 21 hHeld ?_
    refine tk 22 hHeld ?_
    refine tk 23 hHeld ?_
    refine tkl 24 hHeld (fun _ hSw=>(HC.out _ hSw).2.2.2) ?_
    refine tk 25 hHeld ?_
    refine tk 26 hHeld ?_
    clear hHeld
    refine wpAnyH_done (by kernel_rfl) (NoPanic.normal ?_) _
    go_wp2_with fail
    go_ret2
    exact⟨by rw[HE.out];rfl,below_then HB1.out D1.out⟩
 ·have HE:Hid (imgS g b=moreS g):=imgS_more b hm
  generalize moreS g=q at *
  have hq:(q != 0)=true:=by simp[hm]
  go_wp2_with fail
  go_ret2
  exact⟨by rw[HE.out];rfl,HB1.out⟩
theorem image_ok {w:World}{S:Nat→Prop}{L p:Nat}{d:List Int}{ws:List Wr}{g:Lg}(h:LD w S L p d ws g)(hk:ws.length≤100000)(ht:Tab w)(b:Int)(v:List Int)(hv:v.length=32)(hvb:Bytes v)(hi:imgS g b=0) :
  Calls prog 39 #[.pointer (some ⟨L,0,none⟩),.int .i64 b,.agg (U8 v).toArray] w fun e w'=>e=.returned (.tuple #[.int .u64 g.fin,.int .i64 0])∧LD w' (More S w) L p d (ws++[⟨(secN g g.fin).toNat,R.encS (imgR g b v)⟩]) (imgG g b)∧Kept S w w':=by
 obtain ⟨wa,hwa⟩:∃x,x=w.alloc (.cells (U8 v).toArray 51):=⟨_,rfl⟩
 have ewa:=hwa.symm
 have HB:Hid (Below w.heap.size w wa):=by rw[hwa];exact below_alloc w _
 have V0:Hid (LAt 51 wa w.heap.size (U8 v)):=by rw[hwa];exact LAt.new 51 w (U8 v)
 have HG:Hid (LD w S L p d ws g):=h
 have HT:Hid (Tab w):=ht
 have HI:Hid (imgS g b=0):=hi
 have HV:Hid (v.length=32∧Bytes v):=⟨hv,hvb⟩
 have hm:=(imgS_zero hi).1
 have hb:=(imgS_zero hi).2
 have HMB:Hid (moreS g=0∧¬Bad g b):=⟨hm,hb⟩
 have hi0:=h.ok.i0
 have hi1:=h.ok.i1
 have hmr:=h.ok.cf.2.2.1
 clear h hi ht hwa hv hvb
 go_enter func39,ntmps39
 go_wp2_with fail
 refine (more_at (HG.out.later HB.out).log HG.out.ok).mono ?_
 rintro e w1 ⟨rfl,b1⟩
 have HB1:Hid (Below w.heap.size w w1):=below_then HB.out b1
 have HG1:Hid (LD w1 S L p d ws g):=HG.out.later HB1.out
 have V1:Hid (LAt 51 w1 w.heap.size (U8 v)):=LAt.later V0.out b1
 have HC:Hid (∀w',Below w1.heap.size w1 w'→w'.cell? ⟨L,11,none⟩=some (.int .i64 g.last)∧w'.cell? ⟨L,1,none⟩=some (.int .i64 g.c.bl)∧w'.cell? ⟨L,10,none⟩=some (.int .i64 g.imgs)∧w'.cell? ⟨L,3,none⟩=some (.int .i64 g.c.mr)):=fun w' hb=>⟨GAt.c11 (LAt.later HG1.out.log hb),GAt.c1 (LAt.later HG1.out.log hb),GAt.c10 (LAt.later HG1.out.log hb),GAt.c3 (LAt.later HG1.out.log hb)⟩
 rw[hm]
 have h1:¬b≤g.last:=fun h=>hb (.inl h)
 have h2:¬g.c.bl≤b:=fun h=>hb (.inr (.inl h))
 have h3:¬g.c.mr≤g.imgs:=fun h=>hb (.inr (.inr h))
 have hd1:decide (b≤g.last)=false:=by simp;omega
 have hd2:decide (g.c.bl≤b)=false:=by simp;omega
 have hd3:decide (g.c.mr≤g.imgs)=false:=by simp;omega
 clear b1 HB hm hb V0 ewa
 go_wp2_with fail
 refine wp_region_noPanic ?_
 refine wp_region_held_drew (S:=fun w'=>Below w1.heap.size w1 w') (by kernel_rfl) (below_drawn 1) (fun hHeld=>?_)
 have D1:Hid (Below w1.heap.size w1 w1.drew):=hHeld
 generalize w1.drew=wd at *
 refine tk 0 hHeld ?_
 refine tk 1 hHeld ?_
 refine tk 2 hHeld ?_
 refine tk 3 hHeld ?_
 refine tkl 4 hHeld (fun _ hSw=>(HC.out _ hSw).1) ?_
 refine tk 5 hHeld ?_
 refine tk 6 hHeld ?_
 refine tk 7 hHeld ?_
 refine tk 8 hHeld ?_
 refine tk 9 hHeld ?_
 refine tk 10 hHeld ?_
 refine tk 11 hHeld ?_
 refine tkl 12 hHeld (fun _ hSw=>(HC.out _ hSw).2.1) ?_
 refine tk 13 hHeld ?_
 refine tk 14 hHeld ?_
 refine tk 15 hHeld ?_
 refine tk 16 hHeld ?_
 refine tk 17 hHeld ?_
 refine tk 18 hHeld ?_
 refine tkl 19 hHeld (fun _ hSw=>(HC.out _ hSw).2.2.1) ?_
 refine tk 20 hHeld ?_
 refine tk 21 hHeld ?_
 refine tk 22 hHeld ?_
 refine tk 23 hHeld ?_
 refine tkl 24 hHeld (fun _ hSw=>(HC.out _ hSw).2.2.2) ?_
 refine tk 25 hHeld ?_
 refine tk 26 hHeld ?_
 clear hHeld
 refine wpAnyH_done (by kernel_rfl) (NoPanic.normal ?_) _
 have L2:Hid (_):=loadV (LAt.later V1.out D1.out) HV.out.1
 have HG2:Hid (LD wd S L p d ws g):=HG1.out.later D1.out
 have HB2:Hid (Below w.heap.size w wd):=below_then HB1.out D1.out
 have U2:Hid (_):=build_img wd b v HV.out.1
 generalize wd=w2 at *
 clear HG1 HB1 V1 HC
 go_wp2_with ((with_reducible refine at_ops ?_);(first | (refine wpList_load_is (by rfl) 51 rfl rfl L2.out ?_) | (refine wpList_build_is (vs:=[(0,.int .i64 1),(2,.int .i64 b),(3,.agg (U8 v).toArray)]) (by rfl) 180 rfl (by rfl) U2.out ?_));simp only[Act.put,zA,zB,zC])
 refine (add_good HG2.out hk (HT.out.later HB2.out) ⟨1,0,b,v,0⟩ HV.out.1 (imgR_wf HG.out.ok HMB.out.2 HV.out.1 HV.out.2) (imgR_may HG.out.ok HMB.out.2) (by have:=(moreS_zero HMB.out.1).1;have:=HG.out.ok.fM;omega)).mono ?_
 rintro e w3 ⟨rfl,d3,g3,k3⟩
 have c10:=GAt.c10 g3
 have cf10:=GAt.free g3 10
 have cf11:=GAt.free g3 11
 have Y3:Hid (Dsk w3 (More (fun k=>S k∧k≠L) w2) p g.sz d (ws++[⟨(secN g g.fin).toNat,R.encS (imgR g b v)⟩])∧GAt w3 L (some ⟨p,0,none⟩) (addG g)∧Kept S w2 w3):=⟨d3,g3,k3⟩
 have c11:=GAt.c11 g3
 have k1:IntKind.i64.wrap ((addG g).imgs+1)=(addG g).imgs+1:=by rw[IntKind.wrap_i64];show _=g.imgs+1;have:(addG g).imgs=g.imgs:=rfl;omega
 clear d3 g3 k3 L2 U2
 go_wp2_with fail
 go_ret2
 have hs:=HB2.out.size
 have hL:=LAt.lt HG.out.log
 refine⟨rfl,?_,?_⟩
 ·have a1:=GAt.setI Y3.out.2.1 ((addG g).imgs+1)
  have a2:=GAt.setB a1 b
  refine⟨a2,?_,.inl HG.out.sl,imgG_ok HG.out.ok HI.out⟩
  show Dsk _ _ p g.sz d _
  refine ((Y3.out.1.kept (kept_set w3 L 10 _) ?_).kept (kept_set _ L 11 _) ?_).mono ?_
  ·rintro k (h | h) rfl
   ·exact h.2 rfl
   ·omega
  ·rintro k (h | h) rfl
   ·exact h.2 rfl
   ·omega
  ·rintro k _ (h | h)
   ·exact⟨.inl h.1,h.2⟩
   ·exact⟨.inr (by omega),by omega⟩
 ·exact (((Kept.of_below (S:=S) HB2.out).trans (T:=S) Y3.out.2.2 (fun _ _ t=>t)).setCell (p:=⟨L,10,none⟩) (fun _=>HG.out.sl) _).setCell (p:=⟨L,11,none⟩) (fun _=>HG.out.sl) _
theorem commit_no {w:World}{L p:Nat}{g:Lg}(h:GAt w L (some ⟨p,0,none⟩) g)(ok:g.Ok)(hm:¬moreS g=0):Calls prog 41 #[.pointer (some ⟨L,0,none⟩)] w fun e w'=>e=.returned (.tuple #[.int .u64 0,.int .i64 (moreS g)])∧Below w.heap.size w w':=by
 go_enter func41,ntmps41
 go_wp2_with fail
 refine (more_at h ok).mono ?_
 rintro e w1 ⟨rfl,b1⟩
 have HB1:Hid (Below w.heap.size w w1):=b1
 obtain ⟨q,hq0⟩:∃q,q=moreS g:=⟨_,rfl⟩
 have HQ:Hid (q=moreS g):=hq0
 rw[← hq0] at hm ⊢
 have hq:(q != 0)=true:=by simp[hm]
 clear hq0 b1 h ok
 go_wp2_with fail
 go_ret2
 exact⟨by rw[← HQ.out];rfl,HB1.out⟩
theorem commit_ok {w:World}{S:Nat→Prop}{L p:Nat}{d:List Int}{ws:List Wr}{g:Lg}(h:LD w S L p d ws g)(hk:ws.length≤100000)(ht:Tab w)(hm:moreS g=0) :
  Calls prog 41 #[.pointer (some ⟨L,0,none⟩)] w fun e w'=>e=.returned (.tuple #[.int .u64 g.fin,.int .i64 0])∧LD w' (More S w) L p d (ws++[⟨(secN g g.fin).toNat,R.encS (comR g)⟩]) (comG g)∧Kept S w w':=by
 have HG:Hid (LD w S L p d ws g):=h
 have HT:Hid (Tab w):=ht
 have HM:Hid (moreS g=0):=hm
 clear h ht
 go_enter func41,ntmps41
 go_wp2_with fail
 refine (more_at HG.out.log HG.out.ok).mono ?_
 rintro e w2 ⟨rfl,b1⟩
 have HB2:Hid (Below w.heap.size w w2):=b1
 have HG2:Hid (LD w2 S L p d ws g):=HG.out.later HB2.out
 have c10:=GAt.c10 HG2.out.log
 have U2:Hid (_):=build_com w2 g.imgs
 rw[hm]
 clear b1 hm
 go_wp2_with ((with_reducible refine at_ops ?_);(refine wpList_build_is (vs:=[(0,.int .i64 2),(4,.int .i64 g.imgs)]) (by rfl) 180 rfl (by rfl) U2.out ?_);simp only[Act.put,zA,zB,zC])
 refine (add_good HG2.out hk (HT.out.later HB2.out) ⟨2,0,0,R.zs 32,g.imgs⟩ (R.zs_len 32) (comR_wf HG.out.ok) (comR_may HG.out.ok) (by have:=(moreS_zero HM.out).1;have:=HG.out.ok.fM;omega)).mono ?_
 rintro e w3 ⟨rfl,d3,g3,k3⟩
 have c10':=GAt.c10 g3
 have cf10:=GAt.free g3 10
 have cf11:=GAt.free g3 11
 have Y3:Hid (Dsk w3 (More (fun k=>S k∧k≠L) w2) p g.sz d (ws++[⟨(secN g g.fin).toNat,R.encS (comR g)⟩])∧GAt w3 L (some ⟨p,0,none⟩) (addG g)∧Kept S w2 w3):=⟨d3,g3,k3⟩
 have c11:=GAt.c11 g3
 clear d3 g3 k3 U2 c10
 go_wp2_with fail
 go_ret2
 have hs:=HB2.out.size
 have hL:=LAt.lt HG.out.log
 refine⟨rfl,?_,?_⟩
 ·have a1:=GAt.setI Y3.out.2.1 0
  have a2:=GAt.setB a1 (-1)
  refine⟨a2,?_,.inl HG.out.sl,comG_ok HG.out.ok HM.out⟩
  show Dsk _ _ p g.sz d _
  refine ((Y3.out.1.kept (kept_set w3 L 10 _) ?_).kept (kept_set _ L 11 _) ?_).mono ?_
  ·rintro k (h | h) rfl
   ·exact h.2 rfl
   ·omega
  ·rintro k (h | h) rfl
   ·exact h.2 rfl
   ·omega
  ·rintro k _ (h | h)
   ·exact⟨.inl h.1,h.2⟩
   ·exact⟨.inr (by omega),by omega⟩
 ·exact (((Kept.of_below (S:=S) HB2.out).trans (T:=S) Y3.out.2.2 (fun _ _ t=>t)).setCell (p:=⟨L,10,none⟩) (fun _=>HG.out.sl) _).setCell (p:=⟨L,11,none⟩) (fun _=>HG.out.sl) _
theorem mark_no {w:World}{L p:Nat}{g:Lg}(h:GAt w L (some ⟨p,0,none⟩) g)(t:Int)(ho:Out g t):Calls prog 102 #[.pointer (some ⟨L,0,none⟩),.int .u64 t] w fun e w'=>e=.returned (.int .i64 2)∧w=w':=by
 have c7:=GAt.c7 h
 have c8:=GAt.c8 h
 go_enter func102,ntmps102
 go_wp2_with fail
 refine (lacks_some h).mono ?_
 rintro e w1 ⟨rfl,rfl⟩
 clear h
 by_cases h1:t<g.tail
 ·clear ho
  go_wp2_with fail
  go_ret
  exact⟨rfl,rfl⟩
 ·have h2:g.fin<t:=by rcases ho with h | h <;> omega
  clear ho
  go_wp2_with fail
  go_ret
  exact⟨rfl,rfl⟩
theorem mark_ok {w:World}{S:Nat→Prop}{L p:Nat}{d:List Int}{ws:List Wr}{g:Lg}(h:LD w S L p d ws g)(hk:ws.length≤100000)(ht:Tab w)(t:Int)(ho:¬Out g t) :
  Calls prog 102 #[.pointer (some ⟨L,0,none⟩),.int .u64 t] w fun e w'=>e=.returned (.int .i64 0)∧LD w' (More S w) L p d (ws++[⟨0,encS (supL g t)⟩]) (mkG g t)∧Kept S w w':=by
 have HG:Hid (LD w S L p d ws g):=h
 have HT:Hid (Tab w):=ht
 have HO:Hid (¬Out g t):=ho
 have c7:=GAt.c7 h.log
 have c8:=GAt.c8 h.log
 have h1:¬t<g.tail:=fun h=>ho (.inl h)
 have h2:¬g.fin<t:=fun h=>ho (.inr h)
 clear ht
 go_enter func102,ntmps102
 go_wp2_with fail
 refine (lacks_some h.log).mono ?_
 rintro e w1 ⟨rfl,rfl⟩
 clear h ho
 have BB:Hid (∀w,(Instr.build 204 #[(0,.agg (ccells g.c).toArray),(1,.int .u64 t),(2,.int .u64 g.life)]).run prog w=.ok (.agg (scells (supL g t)).toArray) w):=fun w=>build29 w _ (supL g t) (fill_all (supL g t))
 go_wp2_with fail
 clear c7 c8
 refine wp_region_noPanic ?_
 refine wp_region_held_drew (S:=fun w'=>Below w.heap.size w w') (by kernel_rfl) (below_drawn 1) (fun hHeld=>?_)
 have D1:Hid (Below w.heap.size w w.drew):=hHeld
 generalize w.drew=wd at *
 refine tk 0 hHeld ?_
 refine tk 1 hHeld ?_
 refine tk 2 hHeld ?_
 refine wpAnyH_take (i:=3) (v:=_) (by simp;rfl) (by kernel_rfl) (by kernel_rfl) (by kernel_rfl) (fun _ _ _ h=>h) (yieldsIf_load_mid (by rfl) 23 (.tmp 27) rfl L 1 rfl (ccells g.c) _ (fun _ h=>GAt.rangeC (LAt.later HG.out.log h)) underlying23 rfl (by rw[size23,ccells_len])) hHeld ?_
 simp only[Act.put,zA,zB,zC]
 refine tk 4 hHeld ?_
 refine tk 5 hHeld ?_
 refine tk 6 hHeld ?_
 refine tk 7 hHeld ?_
 refine tkl 8 hHeld (fun _ hSw=>GAt.c6 (LAt.later HG.out.log hSw)) ?_
 refine wpAnyH_take (i:=9) (v:=_) (by simp;rfl) (by kernel_rfl) (by kernel_rfl) (by kernel_rfl) (fun _ _ _ h=>h) (R.yields_build_is (by rfl) 204 rfl (by rfl) BB.out) hHeld ?_
 simp only[Act.put,zA,zB,zC]
 refine wpAnyH_ready (rs:=[10]) (by kernel_rfl) (by simp) ?_
 refine AllReadyH.cons (by simp;rfl) (fun Kc hKc=>?_) AllReadyH.nil
 go_simp
 refine (encode_good (supL g t) (supL_wf HG.out.ok HO.out) (supL_may HG.out.ok HO.out) _ (HT.out.later D1.out)).mono ?_
 rintro e w2 ⟨q2,rfl,m2⟩
 have B2:Hid (Below w.heap.size w w2):=below_then D1.out m2.below
 have X2:Hid (BIn w2 (some ⟨q2,0,none⟩) 64 (encS (supL g t))):=m2.read
 refine hKc.out _ _ B2.out (fun hHeld=>?_)
 clear hKc Kc m2
 refine tk 11 hHeld ?_
 refine tk 12 hHeld ?_
 refine tk 13 hHeld ?_
 refine tk 14 hHeld ?_
 refine tk 15 hHeld ?_
 clear hHeld
 refine wpAnyH_done (by kernel_rfl) (NoPanic.normal ?_) _
 have HG2:Hid (LD w2 S L p d ws g):=HG.out.later B2.out
 have c0:=GAt.c0 HG2.out.log
 have hz:(0:Int)<(g.sz:Nat):=by have:=HG.out.ok.sz_is;have:=HG.out.ok.cf.1;have:=HG.out.ok.cf.2.1;omega
 go_wp2_with fail
 refine (write_at HG2.out.dsk 0 (Int.le_refl 0) hz _ 64 _ X2.out hk).mono ?_
 rintro e w3 ⟨rfl,d3,k3⟩
 have Y3:Hid (LD w3 (More S w2) L p d (ws++[⟨0,encS (supL g t)⟩]) g∧Kept S w2 w3):=HG2.out.wrote d3 k3
 have c9:=GAt.c9 Y3.out.1.log
 have cf9:=GAt.free Y3.out.1.log 9
 clear d3 k3 X2
 go_wp2_with fail
 go_ret
 have hs:=B2.out.size
 refine⟨rfl,?_,?_⟩
 ·refine (Y3.out.1.set 9 _ (g':=mkG g t) (GAt.setM Y3.out.1.log t) rfl (mkG_ok HG.out.ok HO.out)).mono ?_
  rintro k _ (h | h)
  ·exact .inl h
  ·exact .inr (by omega)
 ·exact ((Kept.of_below (S:=S) B2.out).trans (T:=S) Y3.out.2 (fun _ _ t=>t)).setCell (p:=⟨L,9,none⟩) (fun _=>HG.out.sl) _
theorem rdflush_at {w:World}{S:Nat→Prop}{p n:Nat}{d:List Int}{ws:List Wr}(h:Ref w S p n d ws)(hk:ws.length≤100000) :
  Calls prog 140 #[.pointer (some ⟨p,0,none⟩)] w fun e w'=>e=.returned (.int .i64 ws.length)∧Ref w' S p n (settle (fun _=>true) ws d) []∧Kept S w w':=by
 refine (rflush_any (h.mono (T:=fun k=>S k∧k<w.heap.size) fun k hk s=>⟨s,hk⟩) hk (fun _ s=>s.2)).mono ?_
 rintro e w' ⟨rfl,h1,h2⟩
 exact⟨rfl,h1.mono fun _ _ s=>s.1,h2.wider fun _ _ s=>s.1⟩
theorem rlflush_at {w:World}{S:Nat→Prop}{L p:Nat}{d:List Int}{ws:List Wr}{g:Lg}{b:Int}(h:RL w S L p d ws g b)(hk:ws.length≤100000):Calls prog 132 #[.pointer (some ⟨L,0,none⟩)] w fun e w'=>e=.returned (.tuple #[.int .i64 ws.length,.int .i64 0])∧RL w' S L p (settle (fun _=>true) ws d) [] g b∧Kept S w w':=by
 have c0:=HAt.c0 h.log
 have HG:Hid (RL w S L p d ws g b):=h
 clear h
 go_enter func132,ntmps132
 go_wp2_with fail
 refine (rdflush_at HG.out.dsk hk).mono ?_
 rintro e w1 ⟨rfl,d1,k1⟩
 have HF:Hid (_):=HG.out.flushed d1 k1
 clear d1 k1
 go_wp2_with fail
 go_ret2
 exact⟨rfl,HF.out⟩
theorem zeroRL:(prog.info? 214).bind (·.zero)=some (.agg (lcells none lg0).toArray):=by kernel_rfl
theorem rbuild_com (w:World)(i:Int):(Instr.build 226 #[(0,.int .i64 2),(4,.int .i64 i)]).run prog w=.ok (.agg (R.rcells ⟨2,0,0,R.zs 32,i⟩).toArray) w :=
 R.build37 w _ _ (by
  show Instr.fill _ _ [(0,.int .i64 2),(4,.int .i64 i)]=_
  rw[R.fill_k R.rec0 R.rec0_len,R.fill_i ⟨2,R.rec0.pos,R.rec0.block,R.rec0.val,R.rec0.images⟩ R.rec0_len,R.fill_end];rfl)
theorem rcommit_no {w:World}{L p:Nat}{g:Lg}{b:Int}(h:HAt w L (some ⟨p,0,none⟩) g b)(ok:g.Ok)(hm:¬moreS g=0):Calls prog 70 #[.pointer (some ⟨L,0,none⟩)] w fun e w'=>e=.returned (.tuple #[.int .u64 0,.int .i64 (moreS g)])∧Below w.heap.size w w':=by
 go_enter func70,ntmps70
 go_wp2_with fail
 refine (rmay_at h ok).mono ?_
 rintro e w1 ⟨rfl,b1⟩
 have HB1:Hid (Below w.heap.size w w1):=b1
 obtain ⟨m,hq⟩:∃m,m=moreS g:=⟨_,rfl⟩
 have HQ:Hid (m=moreS g):=hq
 rw[← hq] at hm ⊢
 clear h ok b1 hq
 go_wp2_with fail
 go_ret2
 exact⟨by rw[← HQ.out];rfl,HB1.out⟩
theorem rcommit_ok {w:World}{S:Nat→Prop}{L p:Nat}{d:List Int}{ws:List Wr}{g:Lg}{b:Int}(h:RL w S L p d ws g b)(hk:ws.length≤100000)(hm:moreS g=0) :
  Calls prog 70 #[.pointer (some ⟨L,0,none⟩)] w fun e w'=>e=.returned (.tuple #[.int .u64 g.fin,.int .i64 0])∧RL w' (More S w) L p d (ws++[⟨(secN g g.fin).toNat,R.encS (comR g)⟩]) (comG g) b∧Kept S w w':=by
 have HG:Hid (RL w S L p d ws g b):=h
 have HM:Hid (moreS g=0):=hm
 clear h
 go_enter func70,ntmps70
 go_wp2_with fail
 refine (rmay_at HG.out.log HG.out.ok).mono ?_
 rintro e w2 ⟨rfl,b1⟩
 have HB2:Hid (Below w.heap.size w w2):=b1
 have HG2:Hid (RL w2 S L p d ws g b):=HG.out.later HB2.out
 have c10:=HAt.c10 HG2.out.log
 have U2:Hid (_):=rbuild_com w2 g.imgs
 rw[hm]
 clear b1 hm
 go_wp2_with ((with_reducible refine at_ops ?_);(refine wpList_build_is (vs:=[(0,.int .i64 2),(4,.int .i64 g.imgs)]) (by rfl) 226 rfl (by rfl) U2.out ?_);simp only[Act.put,zA,zB,zC])
 refine (rlay_good HG2.out hk ⟨2,0,0,R.zs 32,g.imgs⟩ (R.zs_len 32) (comR_wf HG.out.ok) (comR_may HG.out.ok) (by have:=(moreS_zero HM.out).1;have:=HG.out.ok.fM;omega)).mono ?_
 rintro e w3 ⟨rfl,d3,g3,k3⟩
 have c10':=HAt.c10 g3
 have cf10:=HAt.free g3 10
 have Y3:Hid (Ref w3 (More (fun k=>S k∧k≠L) w2) p g.sz d (ws++[⟨(secN g g.fin).toNat,R.encS (comR g)⟩])∧HAt w3 L (some ⟨p,0,none⟩) (addG g) b∧Kept S w2 w3):=⟨d3,g3,k3⟩
 clear d3 g3 k3 U2 c10
 go_wp2_with fail
 go_ret2
 have hs:=HB2.out.size
 have hL:=LAt.lt HG.out.log
 refine⟨rfl,?_,?_⟩
 ·have a1:=HAt.setI Y3.out.2.1 0
  refine⟨a1,?_,.inl HG.out.sl,comG_ok HG.out.ok HM.out,fun h=>absurd h (Int.lt_irrefl 0)⟩
  show Ref _ _ p g.sz d _
  refine (Y3.out.1.kept (kept_set w3 L 10 _) ?_).mono ?_
  ·rintro k (h | h) rfl
   ·exact h.2 rfl
   ·omega
  ·rintro k _ (h | h)
   ·exact⟨.inl h.1,h.2⟩
   ·exact⟨.inr (by omega),by omega⟩
 ·exact ((Kept.of_below (S:=S) HB2.out).trans (T:=S) Y3.out.2.2 (fun _ _ t=>t)).setCell (p:=⟨L,10,none⟩) (fun _=>HG.out.sl) _
theorem rbuild_img (w:World)(b:Int)(v:List Int)(hv:v.length=32):(Instr.build 226 #[(0,.int .i64 1),(2,.int .i64 b),(3,.agg (U8 v).toArray)]).run prog w=.ok (.agg (R.rcells ⟨1,0,b,v,0⟩).toArray) w :=
 R.build37 w _ _ (by
  show Instr.fill _ _ [(0,.int .i64 1),(2,.int .i64 b),(3,.agg (U8 v).toArray)]=_
  rw[R.fill_k R.rec0 R.rec0_len,R.fill_b ⟨1,R.rec0.pos,R.rec0.block,R.rec0.val,R.rec0.images⟩ R.rec0_len,R.fill_v ⟨1,R.rec0.pos,b,R.rec0.val,R.rec0.images⟩ R.rec0_len v hv,R.fill_end];rfl)
theorem rimage_no {w:World}{L p:Nat}{g:Lg}{bo:Int}(h:HAt w L (some ⟨p,0,none⟩) g bo)(ok:g.Ok)(bk:0<g.imgs→bo=g.last)(b:Int)(v:List Int)(hi:¬imgS g b=0):Calls prog 68 #[.pointer (some ⟨L,0,none⟩),.int .i64 b,.agg (U8 v).toArray] w fun e w'=>e=.returned (.tuple #[.int .u64 0,.int .i64 (imgS g b)])∧Below w.heap.size w w':=by
 have HB:Hid (Below w.heap.size w (w.alloc (.cells (U8 v).toArray 51))):=below_alloc w _
 have HG:Hid (HAt w L (some ⟨p,0,none⟩) g bo):=h
 have HO:Hid g.Ok:=ok
 have HBK:Hid (0<g.imgs→bo=g.last):=bk
 clear h ok bk
 go_enter func68,ntmps68
 go_wp2_with fail
 refine (rmay_at (LAt.later HG.out HB.out) HO.out).mono ?_
 rintro e w1 ⟨rfl,b1⟩
 have HB1:Hid (Below w.heap.size w w1):=below_then HB.out b1
 have HG1:Hid (HAt w1 L (some ⟨p,0,none⟩) g bo):=LAt.later HG.out HB1.out
 have HC:Hid (∀w',Below w1.heap.size w1 w'→HAt w' L (some ⟨p,0,none⟩) g bo):=fun w' hb=>LAt.later HG1.out hb
 clear b1 HB
 by_cases hm:moreS g=0
 ·have hb:Bad g b:=Decidable.byContradiction fun hb=>hi (imgS_ok hm hb)
  have HE:Hid (imgS g b=60):=imgS_bad hm hb
  rw[hm]
  by_cases h1:b<0
  ·clear hi hb hm
   go_wp2_with fail
   refine wp_region_noPanic ?_
   refine wp_region_held_drew (S:=fun w'=>Below w1.heap.size w1 w') (by kernel_rfl) (below_drawn 1) (fun hHeld=>?_)
   have D1:Hid (Below w1.heap.size w1 w1.drew):=hHeld
   generalize w1.drew=wd at *
   refine tk 0 hHeld ?_
   refine tk 1 hHeld ?_
   refine tk 2 hHeld ?_
   refine tk 3 hHeld ?_
   refine tk 4 hHeld ?_
   refine tk 5 hHeld ?_
   refine tks 6 hHeld ?_
   refine tks 7 hHeld ?_
   refine tks 8 hHeld ?_
   refine tks 9 hHeld ?_
   refine tks 10 hHeld ?_
   refine tks 11 hHeld ?_
   refine tks 12 hHeld ?_
   refine tk 13 hHeld ?_
   refine tk 14 hHeld ?_
   refine tks 15 hHeld ?_
   refine tks 16 hHeld ?_
   refine tks 17 hHeld ?_
   refine tks 18 hHeld ?_
   refine tks 19 hHeld ?_
   refine tks 20 hHeld ?_
   refine tks 21 hHeld ?_
   refine tks 22 hHeld ?_
   refine tks 23 hHeld ?_
   refine tks 24 hHeld ?_
   refine tk 25 hHeld ?_
   refine tk 26 hHeld ?_
   refine tks 27 hHeld ?_
   refine tks 28 hHeld ?_
   refine tks 29 hHeld ?_
   refine tks 30 hHeld ?_
   refine tks 31 hHeld ?_
   refine tks 32 hHeld ?_
   refine tks 33 hHeld ?_
   refine tks 34 hHeld ?_
   refine tks 35 hHeld ?_
   refine tks 36 hHeld ?_
   refine tks 37 hHeld ?_
   refine tks 38 hHeld ?_
   refine tks 39 hHeld ?_
   refine tk 40 hHeld ?_
   refine tk 41 hHeld ?_
   clear hHeld
   refine wpAnyH_done (by kernel_rfl) (NoPanic.normal ?_) _
   go_wp2_with fail
   go_ret2
   exact⟨by rw[HE.out];rfl,below_then HB1.out D1.out⟩
  ·have hd1:decide (b<0)=false:=by simp;omega
   by_cases h2:g.c.bl≤b
   ·clear hi hb hm
    go_wp2_with fail
    refine wp_region_noPanic ?_
    refine wp_region_held_drew (S:=fun w'=>Below w1.heap.size w1 w') (by kernel_rfl) (below_drawn 1) (fun hHeld=>?_)
    have D1:Hid (Below w1.heap.size w1 w1.drew):=hHeld
    generalize w1.drew=wd at *
    refine tk 0 hHeld ?_
    refine tk 1 hHeld ?_
    refine tk 2 hHeld ?_
    refine tk 3 hHeld ?_
    refine tk 4 hHeld ?_
    refine tk 5 hHeld ?_
    refine tk 6 hHeld ?_
    refine tk 7 hHeld ?_
    refine tk 8 hHeld ?_
    refine tk 9 hHeld ?_
    refine tk 10 hHeld ?_
    refine tkl 11 hHeld (fun _ hSw=>HAt.c1 (HC.out _ hSw)) ?_
    refine tk 12 hHeld ?_
    refine tk 13 hHeld ?_
    refine tk 14 hHeld ?_
    refine tks 15 hHeld ?_
    refine tks 16 hHeld ?_
    refine tks 17 hHeld ?_
    refine tks 18 hHeld ?_
    refine tks 19 hHeld ?_
    refine tks 20 hHeld ?_
    refine tks 21 hHeld ?_
    refine tks 22 hHeld ?_
    refine tks 23 hHeld ?_
    refine tks 24 hHeld ?_
    refine tk 25 hHeld ?_
    refine tk 26 hHeld ?_
    refine tks 27 hHeld ?_
    refine tks 28 hHeld ?_
    refine tks 29 hHeld ?_
    refine tks 30 hHeld ?_
    refine tks 31 hHeld ?_
    refine tks 32 hHeld ?_
    refine tks 33 hHeld ?_
    refine tks 34 hHeld ?_
    refine tks 35 hHeld ?_
    refine tks 36 hHeld ?_
    refine tks 37 hHeld ?_
    refine tks 38 hHeld ?_
    refine tks 39 hHeld ?_
    refine tk 40 hHeld ?_
    refine tk 41 hHeld ?_
    clear hHeld
    refine wpAnyH_done (by kernel_rfl) (NoPanic.normal ?_) _
    go_wp2_with fail
    go_ret2
    exact⟨by rw[HE.out];rfl,below_then HB1.out D1.out⟩
   ·have hd2:decide (g.c.bl≤b)=false:=by simp;omega
    by_cases h3:g.c.mr≤g.imgs
    ·clear hi hb hm
     go_wp2_with fail
     refine wp_region_noPanic ?_
     refine wp_region_held_drew (S:=fun w'=>Below w1.heap.size w1 w') (by kernel_rfl) (below_drawn 1) (fun hHeld=>?_)
     have D1:Hid (Below w1.heap.size w1 w1.drew):=hHeld
     generalize w1.drew=wd at *
     refine tk 0 hHeld ?_
     refine tk 1 hHeld ?_
     refine tk 2 hHeld ?_
     refine tk 3 hHeld ?_
     refine tk 4 hHeld ?_
     refine tk 5 hHeld ?_
     refine tk 6 hHeld ?_
     refine tk 7 hHeld ?_
     refine tk 8 hHeld ?_
     refine tk 9 hHeld ?_
     refine tk 10 hHeld ?_
     refine tkl 11 hHeld (fun _ hSw=>HAt.c1 (HC.out _ hSw)) ?_
     refine tk 12 hHeld ?_
     refine tk 13 hHeld ?_
     refine tk 14 hHeld ?_
     refine tk 15 hHeld ?_
     refine tk 16 hHeld ?_
     refine tk 17 hHeld ?_
     refine tkl 18 hHeld (fun _ hSw=>HAt.c10 (HC.out _ hSw)) ?_
     refine tk 19 hHeld ?_
     refine tk 20 hHeld ?_
     refine tk 21 hHeld ?_
     refine tk 22 hHeld ?_
     refine tkl 23 hHeld (fun _ hSw=>HAt.c3 (HC.out _ hSw)) ?_
     refine tk 24 hHeld ?_
     refine tk 25 hHeld ?_
     refine tk 26 hHeld ?_
     refine tks 27 hHeld ?_
     refine tks 28 hHeld ?_
     refine tks 29 hHeld ?_
     refine tks 30 hHeld ?_
     refine tks 31 hHeld ?_
     refine tks 32 hHeld ?_
     refine tks 33 hHeld ?_
     refine tks 34 hHeld ?_
     refine tks 35 hHeld ?_
     refine tks 36 hHeld ?_
     refine tks 37 hHeld ?_
     refine tks 38 hHeld ?_
     refine tks 39 hHeld ?_
     refine tk 40 hHeld ?_
     refine tk 41 hHeld ?_
     clear hHeld
     refine wpAnyH_done (by kernel_rfl) (NoPanic.normal ?_) _
     go_wp2_with fail
     go_ret2
     exact⟨by rw[HE.out];rfl,below_then HB1.out D1.out⟩
    ·have hd3:decide (g.c.mr≤g.imgs)=false:=by simp;omega
     have h4:b≤g.last:=by rcases hb with h | h | h <;> omega
     have h5:0<g.imgs:=by
      rcases HO.out.il with h | h
      ·omega
      ·omega
     have h6:b≤bo:=by rw[HBK.out h5];exact h4
     clear hi hb hm
     go_wp2_with fail
     refine wp_region_noPanic ?_
     refine wp_region_held_drew (S:=fun w'=>Below w1.heap.size w1 w') (by kernel_rfl) (below_drawn 1) (fun hHeld=>?_)
     have D1:Hid (Below w1.heap.size w1 w1.drew):=hHeld
     generalize w1.drew=wd at *
     refine tk 0 hHeld ?_
     refine tk 1 hHeld ?_
     refine tk 2 hHeld ?_
     refine tk 3 hHeld ?_
     refine tk 4 hHeld ?_
     refine tk 5 hHeld ?_
     refine tk 6 hHeld ?_
     refine tk 7 hHeld ?_
     refine tk 8 hHeld ?_
     refine tk 9 hHeld ?_
     refine tk 10 hHeld ?_
     refine tkl 11 hHeld (fun _ hSw=>HAt.c1 (HC.out _ hSw)) ?_
     refine tk 12 hHeld ?_
     refine tk 13 hHeld ?_
     refine tk 14 hHeld ?_
     refine tk 15 hHeld ?_
     refine tk 16 hHeld ?_
     refine tk 17 hHeld ?_
     refine tkl 18 hHeld (fun _ hSw=>HAt.c10 (HC.out _ hSw)) ?_
     refine tk 19 hHeld ?_
     refine tk 20 hHeld ?_
     refine tk 21 hHeld ?_
     refine tk 22 hHeld ?_
     refine tkl 23 hHeld (fun _ hSw=>HAt.c3 (HC.out _ hSw)) ?_
     refine tk 24 hHeld ?_
     refine tk 25 hHeld ?_
     refine tk 26 hHeld ?_
     refine tk 27 hHeld ?_
     refine tk 28 hHeld ?_
     refine tk 29 hHeld ?_
     refine tkl 30 hHeld (fun _ hSw=>HAt.c10 (HC.out _ hSw)) ?_
     refine tk 31 hHeld ?_
     refine tk 32 hHeld ?_
     refine tk 33 hHeld ?_
     refine tk 34 hHeld ?_
     refine tk 35 hHeld ?_
     refine tk 36 hHeld ?_
     refine tkl 37 hHeld (fun _ hSw=>HAt.c11 (HC.out _ hSw)) ?_
     refine tk 38 hHeld ?_
     refine tk 39 hHeld ?_
     refine tk 40 hHeld ?_
     refine tk 41 hHeld ?_
     clear hHeld
     refine wpAnyH_done (by kernel_rfl) (NoPanic.normal ?_) _
     go_wp2_with fail
     go_ret2
     exact⟨by rw[HE.out];rfl,below_then HB1.out D1.out⟩
 ·have HE:Hid (imgS g b=moreS g):=imgS_more b hm
  generalize moreS g=q at *
  have hq:(q == 0)=false:=by simp[hm]
  have hq2:(q != 0)=true:=by simp[hm]
  go_wp2_with fail
  refine wp_region_noPanic ?_
  refine wp_region_held_drew (S:=fun w'=>Below w1.heap.size w1 w') (by kernel_rfl) (below_drawn 1) (fun hHeld=>?_)
  have D1:Hid (Below w1.heap.size w1 w1.drew):=hHeld
  generalize w1.drew=wd at *
  refine tk 0 hHeld ?_
  refine tk 1 hHeld ?_
  refine tk 2 hHeld ?_
  refine tks 3 hHeld ?_
  refine tks 4 hHeld ?_
  refine tks 5 hHeld ?_
  refine tks 6 hHeld ?_
  refine tks 7 hHeld ?_
  refine tks 8 hHeld ?_
  refine tks 9 hHeld ?_
  refine tks 10 hHeld ?_
  refine tks 11 hHeld ?_
  refine tks 12 hHeld ?_
  refine tks 13 hHeld ?_
  refine tks 14 hHeld ?_
  refine tks 15 hHeld ?_
  refine tks 16 hHeld ?_
  refine tks 17 hHeld ?_
  refine tks 18 hHeld ?_
  refine tks 19 hHeld ?_
  refine tks 20 hHeld ?_
  refine tks 21 hHeld ?_
  refine tks 22 hHeld ?_
  refine tks 23 hHeld ?_
  refine tks 24 hHeld ?_
  refine tks 25 hHeld ?_
  refine tks 26 hHeld ?_
  refine tks 27 hHeld ?_
  refine tks 28 hHeld ?_
  refine tks 29 hHeld ?_
  refine tks 30 hHeld ?_
  refine tks 31 hHeld ?_
  refine tks 32 hHeld ?_
  refine tks 33 hHeld ?_
  refine tks 34 hHeld ?_
  refine tks 35 hHeld ?_
  refine tks 36 hHeld ?_
  refine tks 37 hHeld ?_
  refine tks 38 hHeld ?_
  refine tks 39 hHeld ?_
  refine tks 40 hHeld ?_
  refine tk 41 hHeld ?_
  clear hHeld
  refine wpAnyH_done (by kernel_rfl) (NoPanic.normal ?_) _
  go_wp2_with fail
  go_ret2
  exact⟨by rw[HE.out];rfl,below_then HB1.out D1.out⟩
abbrev midG (g:Lg)(b:Int):Lg:={ g with imgs:=g.imgs+1,last:=b }
theorem midG_ok {g:Lg}(h:g.Ok){b:Int}(h0:imgS g b=0):(midG g b).Ok:=by
 have k:=imgG_ok h h0
 exact⟨h.cf,h.l0,h.l1,h.t0,h.tm,h.mf,h.fM,h.us,k.i0,k.i1,k.b0,k.b1,k.il⟩
theorem rimage_ok {w:World}{S:Nat→Prop}{L p:Nat}{d:List Int}{ws:List Wr}{g:Lg}{bo:Int}(h:RL w S L p d ws g bo)(hk:ws.length≤100000)(b:Int)(v:List Int)(hv:v.length=32)(hvb:Bytes v)(hi:imgS g b=0) :
  Calls prog 68 #[.pointer (some ⟨L,0,none⟩),.int .i64 b,.agg (U8 v).toArray] w fun e w'=>e=.returned (.tuple #[.int .u64 g.fin,.int .i64 0])∧RL w' (More S w) L p d (ws++[⟨(secN g g.fin).toNat,R.encS (imgR g b v)⟩]) (imgG g b) b∧Kept S w w':=by
 obtain ⟨wa,hwa⟩:∃x,x=w.alloc (.cells (U8 v).toArray 51):=⟨_,rfl⟩
 have ewa:=hwa.symm
 have HB:Hid (Below w.heap.size w wa):=by rw[hwa];exact below_alloc w _
 have V0:Hid (LAt 51 wa w.heap.size (U8 v)):=by rw[hwa];exact LAt.new 51 w (U8 v)
 have HG:Hid (RL w S L p d ws g bo):=h
 have HI:Hid (imgS g b=0):=hi
 have HV:Hid (v.length=32∧Bytes v):=⟨hv,hvb⟩
 have hm:=(imgS_zero hi).1
 have hb:=(imgS_zero hi).2
 have HMB:Hid (moreS g=0∧¬Bad g b):=⟨hm,hb⟩
 have hi0:=h.ok.i0
 have hi1:=h.ok.i1
 have hmr:=h.ok.cf.2.2.1
 have hl0:=h.ok.b0
 have HIL:Hid (0<g.imgs→¬b≤bo):=fun h5 h6=>hb (.inl (by rw[h.bk h5] at h6;exact h6))
 clear h hi hwa hv hvb
 go_enter func68,ntmps68
 go_wp2_with fail
 refine (rmay_at (HG.out.later HB.out).log HG.out.ok).mono ?_
 rintro e w1 ⟨rfl,b1⟩
 have HB1:Hid (Below w.heap.size w w1):=below_then HB.out b1
 have HG1:Hid (RL w1 S L p d ws g bo):=HG.out.later HB1.out
 have V1:Hid (LAt 51 w1 w.heap.size (U8 v)):=LAt.later V0.out b1
 have HC:Hid (∀w',Below w1.heap.size w1 w'→HAt w' L (some ⟨p,0,none⟩) g bo):=fun w' hb=>LAt.later HG1.out.log hb
 rw[hm]
 have h1:¬b<0:=fun h=>hb (.inl (by omega))
 have h2:¬g.c.bl≤b:=fun h=>hb (.inr (.inl h))
 have h3:¬g.c.mr≤g.imgs:=fun h=>hb (.inr (.inr h))
 have hd1:decide (b<0)=false:=by simp;omega
 have hd2:decide (g.c.bl≤b)=false:=by simp;omega
 have hd3:decide (g.c.mr≤g.imgs)=false:=by simp;omega
 clear b1 HB hm hb V0 ewa
 by_cases h5:0<g.imgs
 ·have h6:=HIL.out h5
  have hd4:decide (b≤bo)=false:=by simp;omega
  go_wp2_with fail
  refine wp_region_noPanic ?_
  refine wp_region_held_drew (S:=fun w'=>Below w1.heap.size w1 w') (by kernel_rfl) (below_drawn 1) (fun hHeld=>?_)
  have D1:Hid (Below w1.heap.size w1 w1.drew):=hHeld
  generalize w1.drew=wd at *
  refine tk 0 hHeld ?_
  refine tk 1 hHeld ?_
  refine tk 2 hHeld ?_
  refine tk 3 hHeld ?_
  refine tk 4 hHeld ?_
  refine tk 5 hHeld ?_
  refine tk 6 hHeld ?_
  refine tk 7 hHeld ?_
  refine tk 8 hHeld ?_
  refine tk 9 hHeld ?_
  refine tk 10 hHeld ?_
  refine tkl 11 hHeld (fun _ hSw=>HAt.c1 (HC.out _ hSw)) ?_
  refine tk 12 hHeld ?_
  refine tk 13 hHeld ?_
  refine tk 14 hHeld ?_
  refine tk 15 hHeld ?_
  refine tk 16 hHeld ?_
  refine tk 17 hHeld ?_
  refine tkl 18 hHeld (fun _ hSw=>HAt.c10 (HC.out _ hSw)) ?_
  refine tk 19 hHeld ?_
  refine tk 20 hHeld ?_
  refine tk 21 hHeld ?_
  refine tk 22 hHeld ?_
  refine tkl 23 hHeld (fun _ hSw=>HAt.c3 (HC.out _ hSw)) ?_
  refine tk 24 hHeld ?_
  refine tk 25 hHeld ?_
  refine tk 26 hHeld ?_
  refine tk 27 hHeld ?_
  refine tk 28 hHeld ?_
  refine tk 29 hHeld ?_
  refine tkl 30 hHeld (fun _ hSw=>HAt.c10 (HC.out _ hSw)) ?_
  refine tk 31 hHeld ?_
  refine tk 32 hHeld ?_
  refine tk 33 hHeld ?_
  refine tk 34 hHeld ?_
  refine tk 35 hHeld ?_
  refine tk 36 hHeld ?_
  refine tkl 37 hHeld (fun _ hSw=>HAt.c11 (HC.out _ hSw)) ?_
  refine tk 38 hHeld ?_
  refine tk 39 hHeld ?_
  refine tk 40 hHeld ?_
  refine tk 41 hHeld ?_
  clear hHeld
  refine wpAnyH_done (by kernel_rfl) (NoPanic.normal ?_) _
  have HG2:Hid (RL wd S L p d ws g bo):=HG1.out.later D1.out
  have HB2:Hid (Below w.heap.size w wd):=below_then HB1.out D1.out
  have V2:Hid (LAt 51 wd w.heap.size (U8 v)):=LAt.later V1.out D1.out
  have c10:=HAt.c10 HG2.out.log
  have cf10:=HAt.free HG2.out.log 10
  have c11:=HAt.c11 HG2.out.log
  have cf11:=HAt.free HG2.out.log 11
  have k1:IntKind.i64.wrap (g.imgs+1)=g.imgs+1:=by rw[IntKind.wrap_i64];omega
  have HN:Hid ((midG g b).Ok):=midG_ok HG.out.ok HI.out
  have hLv:L≠w.heap.size:=by have:=LAt.lt HG.out.log;omega
  have HG3:Hid (RL ((wd.setCell ⟨L,10,none⟩ (.int .i64 (g.imgs+1))).setCell ⟨L,11,none⟩ (.int .i64 b)) S L p d ws (midG g b) b):=by
   have a1:=HAt.setI HG2.out.log (g.imgs+1)
   have a2:=HAt.setB a1 b
   refine⟨a2,?_,HG.out.sl,HN.out,fun _=>rfl⟩
   show Ref _ _ p g.sz d _
   refine (HG2.out.dsk.kept (kept_set wd L 10 _) ?_).kept (kept_set _ L 11 _) ?_
   ·rintro k h rfl
    exact h.2 rfl
   ·rintro k h rfl
    exact h.2 rfl
  have K3:Hid (Kept S w ((wd.setCell ⟨L,10,none⟩ (.int .i64 (g.imgs+1))).setCell ⟨L,11,none⟩ (.int .i64 b))):=((Kept.of_below (S:=S) HB2.out).setCell (p:=⟨L,10,none⟩) (fun _=>HG.out.sl) _).setCell (p:=⟨L,11,none⟩) (fun _=>HG.out.sl) _
  have V3:Hid (LAt 51 ((wd.setCell ⟨L,10,none⟩ (.int .i64 (g.imgs+1))).setCell ⟨L,11,none⟩ (.int .i64 b)) w.heap.size (U8 v)):=by
   have hlt:=LAt.lt V2.out
   exact (((kept_set (wd.setCell ⟨L,10,none⟩ (.int .i64 (g.imgs+1))) L 11 (.int .i64 b)).block w.heap.size (by simp[World.setCell];exact hlt) (fun e=>hLv e.symm)).trans ((kept_set wd L 10 (.int .i64 (g.imgs+1))).block w.heap.size hlt (fun e=>hLv e.symm))).trans V2.out
  have L2:Hid (_):=loadV V3.out HV.out.1
  have U2:Hid (_):=rbuild_img ((wd.setCell ⟨L,10,none⟩ (.int .i64 (g.imgs+1))).setCell ⟨L,11,none⟩ (.int .i64 b)) b v HV.out.1
  clear HG1 HB1 V1 HC V2
  go_wp2_with ((with_reducible refine at_ops ?_);(first | (refine wpList_load_is (by rfl) 51 rfl rfl L2.out ?_) | (refine wpList_build_is (vs:=[(0,.int .i64 1),(2,.int .i64 b),(3,.agg (U8 v).toArray)]) (by rfl) 226 rfl (by rfl) U2.out ?_));simp only[Act.put,zA,zB,zC])
  refine (rlay_good HG3.out hk ⟨1,0,b,v,0⟩ HV.out.1 (imgR_wf HG.out.ok HMB.out.2 HV.out.1 HV.out.2) (imgR_may HG.out.ok HMB.out.2) (by have:=(moreS_zero HMB.out.1).1;have:=HG.out.ok.fM;show g.fin<_;omega)).mono ?_
  rintro e w3 ⟨rfl,d3,g3,k3⟩
  have Y3:Hid (Ref w3 (More (fun k=>S k∧k≠L) ((wd.setCell ⟨L,10,none⟩ (.int .i64 (g.imgs+1))).setCell ⟨L,11,none⟩ (.int .i64 b))) p g.sz d (ws++[⟨(secN g g.fin).toNat,R.encS (imgR g b v)⟩])∧HAt w3 L (some ⟨p,0,none⟩) (imgG g b) b∧Kept S ((wd.setCell ⟨L,10,none⟩ (.int .i64 (g.imgs+1))).setCell ⟨L,11,none⟩ (.int .i64 b)) w3):=⟨d3,g3,k3⟩
  clear d3 g3 k3 L2 U2
  go_wp2_with fail
  go_ret2
  have hs:=HB2.out.size
  have hL:=LAt.lt HG.out.log
  refine⟨rfl,⟨Y3.out.2.1,?_,.inl HG.out.sl,imgG_ok HG.out.ok HI.out,fun _=>rfl⟩,K3.out.trans (T:=S) Y3.out.2.2 (fun _ _ t=>t)⟩
  show Ref _ _ p g.sz d _
  refine Y3.out.1.mono ?_
  rintro k _ (h | h)
  ·exact⟨.inl h.1,h.2⟩
  ·have h':wd.heap.size≤k:=by simpa [World.setCell] using h
   exact⟨.inr (by omega),by omega⟩
 ·have hd5:decide (0<g.imgs)=false:=by simp;omega
  go_wp2_with fail
  refine wp_region_noPanic ?_
  refine wp_region_held_drew (S:=fun w'=>Below w1.heap.size w1 w') (by kernel_rfl) (below_drawn 1) (fun hHeld=>?_)
  have D1:Hid (Below w1.heap.size w1 w1.drew):=hHeld
  generalize w1.drew=wd at *
  refine tk 0 hHeld ?_
  refine tk 1 hHeld ?_
  refine tk 2 hHeld ?_
  refine tk 3 hHeld ?_
  refine tk 4 hHeld ?_
  refine tk 5 hHeld ?_
  refine tk 6 hHeld ?_
  refine tk 7 hHeld ?_
  refine tk 8 hHeld ?_
  refine tk 9 hHeld ?_
  refine tk 10 hHeld ?_
  refine tkl 11 hHeld (fun _ hSw=>HAt.c1 (HC.out _ hSw)) ?_
  refine tk 12 hHeld ?_
  refine tk 13 hHeld ?_
  refine tk 14 hHeld ?_
  refine tk 15 hHeld ?_
  refine tk 16 hHeld ?_
  refine tk 17 hHeld ?_
  refine tkl 18 hHeld (fun _ hSw=>HAt.c10 (HC.out _ hSw)) ?_
  refine tk 19 hHeld ?_
  refine tk 20 hHeld ?_
  refine tk 21 hHeld ?_
  refine tk 22 hHeld ?_
  refine tkl 23 hHeld (fun _ hSw=>HAt.c3 (HC.out _ hSw)) ?_
  refine tk 24 hHeld ?_
  refine tk 25 hHeld ?_
  refine tk 26 hHeld ?_
  refine tk 27 hHeld ?_
  refine tk 28 hHeld ?_
  refine tk 29 hHeld ?_
  refine tkl 30 hHeld (fun _ hSw=>HAt.c10 (HC.out _ hSw)) ?_
  refine tk 31 hHeld ?_
  refine tk 32 hHeld ?_
  refine tks 33 hHeld ?_
  refine tks 34 hHeld ?_
  refine tks 35 hHeld ?_
  refine tks 36 hHeld ?_
  refine tks 37 hHeld ?_
  refine tks 38 hHeld ?_
  refine tk 39 hHeld ?_
  refine tk 40 hHeld ?_
  refine tk 41 hHeld ?_
  clear hHeld
  refine wpAnyH_done (by kernel_rfl) (NoPanic.normal ?_) _
  have HG2:Hid (RL wd S L p d ws g bo):=HG1.out.later D1.out
  have HB2:Hid (Below w.heap.size w wd):=below_then HB1.out D1.out
  have V2:Hid (LAt 51 wd w.heap.size (U8 v)):=LAt.later V1.out D1.out
  have c10:=HAt.c10 HG2.out.log
  have cf10:=HAt.free HG2.out.log 10
  have c11:=HAt.c11 HG2.out.log
  have cf11:=HAt.free HG2.out.log 11
  have k1:IntKind.i64.wrap (g.imgs+1)=g.imgs+1:=by rw[IntKind.wrap_i64];omega
  have HN:Hid ((midG g b).Ok):=midG_ok HG.out.ok HI.out
  have hLv:L≠w.heap.size:=by have:=LAt.lt HG.out.log;omega
  have HG3:Hid (RL ((wd.setCell ⟨L,10,none⟩ (.int .i64 (g.imgs+1))).setCell ⟨L,11,none⟩ (.int .i64 b)) S L p d ws (midG g b) b):=by
   have a1:=HAt.setI HG2.out.log (g.imgs+1)
   have a2:=HAt.setB a1 b
   refine⟨a2,?_,HG.out.sl,HN.out,fun _=>rfl⟩
   show Ref _ _ p g.sz d _
   refine (HG2.out.dsk.kept (kept_set wd L 10 _) ?_).kept (kept_set _ L 11 _) ?_
   ·rintro k h rfl
    exact h.2 rfl
   ·rintro k h rfl
    exact h.2 rfl
  have K3:Hid (Kept S w ((wd.setCell ⟨L,10,none⟩ (.int .i64 (g.imgs+1))).setCell ⟨L,11,none⟩ (.int .i64 b))):=((Kept.of_below (S:=S) HB2.out).setCell (p:=⟨L,10,none⟩) (fun _=>HG.out.sl) _).setCell (p:=⟨L,11,none⟩) (fun _=>HG.out.sl) _
  have V3:Hid (LAt 51 ((wd.setCell ⟨L,10,none⟩ (.int .i64 (g.imgs+1))).setCell ⟨L,11,none⟩ (.int .i64 b)) w.heap.size (U8 v)):=by
   have hlt:=LAt.lt V2.out
   exact (((kept_set (wd.setCell ⟨L,10,none⟩ (.int .i64 (g.imgs+1))) L 11 (.int .i64 b)).block w.heap.size (by simp[World.setCell];exact hlt) (fun e=>hLv e.symm)).trans ((kept_set wd L 10 (.int .i64 (g.imgs+1))).block w.heap.size hlt (fun e=>hLv e.symm))).trans V2.out
  have L2:Hid (_):=loadV V3.out HV.out.1
  have U2:Hid (_):=rbuild_img ((wd.setCell ⟨L,10,none⟩ (.int .i64 (g.imgs+1))).setCell ⟨L,11,none⟩ (.int .i64 b)) b v HV.out.1
  clear HG1 HB1 V1 HC V2
  go_wp2_with ((with_reducible refine at_ops ?_);(first | (refine wpList_load_is (by rfl) 51 rfl rfl L2.out ?_) | (refine wpList_build_is (vs:=[(0,.int .i64 1),(2,.int .i64 b),(3,.agg (U8 v).toArray)]) (by rfl) 226 rfl (by rfl) U2.out ?_));simp only[Act.put,zA,zB,zC])
  refine (rlay_good HG3.out hk ⟨1,0,b,v,0⟩ HV.out.1 (imgR_wf HG.out.ok HMB.out.2 HV.out.1 HV.out.2) (imgR_may HG.out.ok HMB.out.2) (by have:=(moreS_zero HMB.out.1).1;have:=HG.out.ok.fM;show g.fin<_;omega)).mono ?_
  rintro e w3 ⟨rfl,d3,g3,k3⟩
  have Y3:Hid (Ref w3 (More (fun k=>S k∧k≠L) ((wd.setCell ⟨L,10,none⟩ (.int .i64 (g.imgs+1))).setCell ⟨L,11,none⟩ (.int .i64 b))) p g.sz d (ws++[⟨(secN g g.fin).toNat,R.encS (imgR g b v)⟩])∧HAt w3 L (some ⟨p,0,none⟩) (imgG g b) b∧Kept S ((wd.setCell ⟨L,10,none⟩ (.int .i64 (g.imgs+1))).setCell ⟨L,11,none⟩ (.int .i64 b)) w3):=⟨d3,g3,k3⟩
  clear d3 g3 k3 L2 U2
  go_wp2_with fail
  go_ret2
  have hs:=HB2.out.size
  have hL:=LAt.lt HG.out.log
  refine⟨rfl,⟨Y3.out.2.1,?_,.inl HG.out.sl,imgG_ok HG.out.ok HI.out,fun _=>rfl⟩,K3.out.trans (T:=S) Y3.out.2.2 (fun _ _ t=>t)⟩
  show Ref _ _ p g.sz d _
  refine Y3.out.1.mono ?_
  rintro k _ (h | h)
  ·exact⟨.inl h.1,h.2⟩
  ·have h':wd.heap.size≤k:=by simpa [World.setCell] using h
   exact⟨.inr (by omega),by omega⟩
theorem refConfig_any (s:Sup)(w:World) :
  Calls prog 121 #[.agg (ccells s).toArray] w fun e w'=>e=.returned (.int .i64 (cfg s))∧Below w.heap.size w w':=by
 have hA:CAt (w.alloc (.cells (ccells s).toArray 23)) w.heap.size s:=LAt.new 23 w (ccells s)
 have c0:=CAt.c0 hA
 have c1:=CAt.c1 hA
 have c2:=CAt.c2 hA
 have c3:=CAt.c3 hA
 have c4:=CAt.c4 hA
 have HB:Hid (Below w.heap.size w (w.alloc (.cells (ccells s).toArray 23))):=below_alloc w _
 have HC1:Hid (MayC s→cfg s=0):=cfg_yes s
 have HC0:Hid (¬MayC s→cfg s=3):=cfg_no s
 clear hA
 go_enter func121,ntmps121
 by_cases h1:(1≤s.bl∧s.bl≤64)∧(2≤s.lc∧s.lc≤64)
 ·obtain ⟨⟨a1,a2⟩,a3,a4⟩:=h1
  by_cases h2:(1≤s.mr∧s.mr≤16∧s.mr≤s.bl∧s.mr≤s.lc-1)
  ·obtain ⟨a5,a6,a7,a8⟩:=h2
   by_cases h3:(1≤s.hi∧s.hi≤s.lc)∧(1≤s.cl∧s.cl≤8)
   ·have HE:Hid (cfg s=0):=HC1.out ⟨⟨a1,a2⟩,⟨a3,a4⟩,⟨a5,a6,a7,a8⟩,h3.1,h3.2⟩
    obtain ⟨⟨b1,b2⟩,b3,b4⟩:=h3
    go_wp2
    go_ret
    exact⟨by rw[HE.out];rfl,HB.out⟩
   ·have HE:Hid (cfg s=3):=HC0.out fun h=>h3 ⟨h.2.2.2.1,h.2.2.2.2⟩
    have h3':s.hi<1∨(1≤s.hi∧s.lc<s.hi)∨((1≤s.hi∧s.hi≤s.lc)∧s.cl<1)∨((1≤s.hi∧s.hi≤s.lc)∧1≤s.cl∧8<s.cl):=by omega
    clear h3
    rcases h3' with h | ⟨h,h'⟩ | ⟨⟨h,h'⟩,h''⟩ | ⟨⟨h,h'⟩,h'',h'''⟩ <;> go_wp2 <;> go_ret <;> exact⟨by rw[HE.out];rfl,HB.out⟩
  ·have HE:Hid (cfg s=3):=HC0.out fun h=>h2 h.2.2.1
   have h2':s.mr<1∨(1≤s.mr∧16<s.mr)∨((1≤s.mr∧s.mr≤16)∧s.bl<s.mr)∨((1≤s.mr∧s.mr≤16)∧s.mr≤s.bl∧s.lc-1<s.mr):=by omega
   clear h2
   rcases h2' with h | ⟨h,h'⟩ | ⟨⟨h,h'⟩,h''⟩ | ⟨⟨h,h'⟩,h'',h'''⟩ <;> go_wp2 <;> go_ret <;> exact⟨by rw[HE.out];rfl,HB.out⟩
 ·have HE:Hid (cfg s=3):=HC0.out fun h=>h1 ⟨h.1,h.2.1⟩
  have h1':s.bl<1∨(1≤s.bl∧64<s.bl)∨((1≤s.bl∧s.bl≤64)∧s.lc<2)∨((1≤s.bl∧s.bl≤64)∧2≤s.lc∧64<s.lc):=by omega
  clear h1
  rcases h1' with h | ⟨h,h'⟩ | ⟨⟨h,h'⟩,h''⟩ | ⟨⟨h,h'⟩,h'',h'''⟩ <;> go_wp2 <;> go_ret <;> exact⟨by rw[HE.out];rfl,HB.out⟩
end Go.Proofs.YtcdjepkhdjpjcaaGreatDoor
