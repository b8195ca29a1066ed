import Derived.Test.YtdadpepfpiimgaaGreatDoorK16
set_option maxHeartbeats 20000000
set_option maxRecDepth 100000
namespace Go.Proofs.YtdadpepfpiimgaaGreatDoor
open Go.Proofs.Tryz
open Go.RowKit
theorem refDecode_len (p:Option Addr)(n c:Nat)(w:World)(hn:n≠64) :
  Calls prog 139 #[.slice p n c] w fun e w'=>e=.returned (.tuple #[.agg (scells sup0).toArray,.int .i64 2])∧Below w.heap.size w w':=by
 have A1:Hid (_):=alloc26 w
 have R1:Hid (SAt 194 (w.alloc (.cells (scells sup0).toArray 194)) w.heap.size sup0):=LAt.new 194 w _
 have S1:Hid (_):=store_new26 w sup0
 have hn':(((n:Nat):Int) != 64)=true:=by simp;omega
 go_enter func139,ntmps139
 go_wp2_with ((with_reducible refine at_ops ?_);(first | (refine wpList_alloc_is (by rfl) 194 rfl A1.out ?_) | (refine wpList_build_is (vs:=[]) (by rfl) 194 rfl (by rfl) (build26 _ #[] sup0 fill_none) ?_) | (refine wpList_store_is (by rfl) 194 rfl rfl rfl S1.out ?_));simp only[Act.put,zA,zB,zC])
 exact bodyPost_ret (results_sup results139 _ _ w.heap.size 194 _ _ (by rfl) R1.out underlying194 rfl size26) rfl ⟨rfl,below_alloc w _⟩
theorem refDecode_64 (b o c:Nat)(xs:List Int)(w:World)(hx:BIn w (some ⟨b,o,none⟩) 64 xs)(hc:64≤c) :
  Calls prog 139 #[.slice (some ⟨b,o,none⟩) 64 c] w fun e w'=>e=.returned (.tuple #[.agg (scells (decS xs).1).toArray,.int .i64 (decS xs).2])∧Below w.heap.size w w':=by
 have A1:Hid (_):=alloc26 w
 obtain ⟨w1,hw1⟩:∃x,x=w.alloc (.cells (scells sup0).toArray 194):=⟨_,rfl⟩
 have R1:Hid (SAt 194 w1 w.heap.size sup0):=by rw[hw1];exact LAt.new 194 w _
 have B1:Hid (Below w.heap.size w w1):=by rw[hw1];exact below_alloc w _
 have X1:Hid (BIn w1 (some ⟨b,o,none⟩) 64 xs):=hx.later B1.out
 have HW:Hid ((readS xs).Wf):=readS_wf xs hx.byte
 have HL:Hid (xs.length=64):=hx.len
 have HY:Hid (Bytes xs):=hx.byte
 rw[← hw1] at A1
 have r1:=rd_one xs hx.byte 1 (by omega)
 have r2:=rd_one xs hx.byte 2 (by omega)
 have r3:=rd_one xs hx.byte 3 (by omega)
 have r4:=rd_one xs hx.byte 4 (by omega)
 have r5:=rd_one xs hx.byte 5 (by omega)
 obtain ⟨r,hr⟩:∃r,r=readS xs:=⟨_,rfl⟩
 have HRR:Hid (r=readS xs):=hr
 have HE1:Hid (xs.getD 8 0=r.bl):=by rw[hr];exact (rd_get xs 8 (by rw[hx.len];omega)).symm
 have HE2:Hid (xs.getD 9 0=r.lc):=by rw[hr];exact (rd_get xs 9 (by rw[hx.len];omega)).symm
 have HE3:Hid (xs.getD 10 0=r.mr):=by rw[hr];exact (rd_get xs 10 (by rw[hx.len];omega)).symm
 have HE4:Hid (xs.getD 11 0=r.hi):=by rw[hr];exact (rd_get xs 11 (by rw[hx.len];omega)).symm
 have HE5:Hid (xs.getD 12 0=r.cl):=by rw[hr];exact (rd_get xs 12 (by rw[hx.len];omega)).symm
 have HE6:Hid (worth ((xs.drop 16).take 8)=r.tail):=by rw[hr];rfl
 have HE7:Hid (worth ((xs.drop 24).take 8)=r.life):=by rw[hr];rfl
 rw[show rd xs 1=r.bl by rw[hr];rfl] at r1
 rw[show rd xs 2=r.lc by rw[hr];rfl] at r2
 rw[show rd xs 3=r.mr by rw[hr];rfl] at r3
 rw[show rd xs 4=r.hi by rw[hr];rfl] at r4
 rw[show rd xs 5=r.cl by rw[hr];rfl] at r5
 rw[← hr] at HW
 have q1:IntKind.i64.wrap r.bl=r.bl:=by rw[IntKind.wrap_i64];omega
 have q2:IntKind.i64.wrap r.lc=r.lc:=by rw[IntKind.wrap_i64];omega
 have q3:IntKind.i64.wrap r.mr=r.mr:=by rw[IntKind.wrap_i64];omega
 have q4:IntKind.i64.wrap r.hi=r.hi:=by rw[IntKind.wrap_i64];omega
 have q5:IntKind.i64.wrap r.cl=r.cl:=by rw[IntKind.wrap_i64];omega
 have EI1:Hid (∀w',BIn w' (some ⟨b,o,none⟩) 64 xs→Calls prog 151 #[.slice (some ⟨b,o+16,none⟩) 8 (c-16)] w' fun e w''=>e=.returned (.int .u64 r.tail)∧w'=w''):=fun w' h=>by
  rw[← HE6.out];exact eight_any b (o+16) (c-16) _ w' ((h.drop 16 (by omega)).take 8 (by omega))
 have EI2:Hid (∀w',BIn w' (some ⟨b,o,none⟩) 64 xs→Calls prog 151 #[.slice (some ⟨b,o+24,none⟩) 8 (c-24)] w' fun e w''=>e=.returned (.int .u64 r.life)∧w'=w''):=fun w' h=>by
  rw[← HE7.out];exact eight_any b (o+24) (c-24) _ w' ((h.drop 24 (by omega)).take 8 (by omega))
 have n1:¬c=16:=by omega
 have n2:¬c=24:=by omega
 have n3:(24:Int)≤c:=by omega
 have n4:(32:Int)≤c:=by omega
 clear hw1 hx hr r1 r2 r3 r4 r5
 go_enter func139,ntmps139
 go_wp2_with ((with_reducible refine at_ops ?_);(refine wpList_alloc_is (by rfl) 194 rfl A1.out ?_);simp only[Act.put,zA,zB,zC])
 clear A1
 refine Code.wp_mono (Q:=fun e a W=>∃(g4:Nat),e=.normal∧Hid (SAt 194 W g4 r∧Below w1.heap.size w1 W)∧a={ tmps:=#[.slice (some ⟨b,o,none⟩) 64 c,undef,.pointer (some ⟨w.heap.size,0,none⟩),.int .i64 0,.pointer (some ⟨g4,0,none⟩),undef,undef,.slice (some ⟨b,o,none⟩) 64 c,.int .i64 64,.bool false,undef,.slice (some ⟨b,o,none⟩) 64 c,.pointer (some ⟨b,o+8,none⟩),.int .u8 r.bl,.int .i64 r.bl,.slice (some ⟨b,o,none⟩) 64 c,.pointer (some ⟨b,o+9,none⟩),.int .u8 r.lc,.int .i64 r.lc,.slice (some ⟨b,o,none⟩) 64 c,.pointer (some ⟨b,o+10,none⟩),.int .u8 r.mr,.int .i64 r.mr,.slice (some ⟨b,o,none⟩) 64 c,.pointer (some ⟨b,o+11,none⟩),.int .u8 r.hi,.int .i64 r.hi,.slice (some ⟨b,o,none⟩) 64 c,.pointer (some ⟨b,o+12,none⟩),.int .u8 r.cl,.int .i64 r.cl,.agg (ccells r).toArray,.slice (some ⟨b,o,none⟩) 64 c,.slice (some ⟨b,o+16,none⟩) 8 (c-16),.int .u64 r.tail,.slice (some ⟨b,o,none⟩) 64 c,.slice (some ⟨b,o+24,none⟩) 8 (c-24),.int .u64 r.life,.agg (scells r).toArray,undef,undef,undef,undef,undef,undef,undef,undef,undef,undef,undef,undef,undef,undef,undef,undef],defers:=[] }) ?rest ?reg
 case reg =>
  refine wp_region_noPanic ?_
  refine wp_region_held_drew (S:=fun w'=>BIn w' (some ⟨b,o,none⟩) 64 xs) (by kernel_rfl) X1.out.drew (fun hHeld=>?_)
  refine tk 0 hHeld ?_
  refine tk 1 hHeld ?_
  refine wpAnyH_take (i:=2) (v:=?v2) (by simp;rfl) (by kernel_rfl) (by kernel_rfl) (by kernel_rfl) (fun _ _ _ h=>h) (Or.inl ⟨by rfl,?y2⟩) hHeld ?r2
  case y2=>intro w hSw;have z:=hSw.cell 8 (by omega);rw[HE1.out] at z;clear hSw;go_simp;with_reducible rfl
  simp only[Act.put,zA,zB,zC]
  refine tk 3 hHeld ?_
  refine tk 4 hHeld ?_
  refine tk 5 hHeld ?_
  refine wpAnyH_take (i:=6) (v:=?v6) (by simp;rfl) (by kernel_rfl) (by kernel_rfl) (by kernel_rfl) (fun _ _ _ h=>h) (Or.inl ⟨by rfl,?y6⟩) hHeld ?r6
  case y6=>intro w hSw;have z:=hSw.cell 9 (by omega);rw[HE2.out] at z;clear hSw;go_simp;with_reducible rfl
  simp only[Act.put,zA,zB,zC]
  refine tk 7 hHeld ?_
  refine tk 8 hHeld ?_
  refine tk 9 hHeld ?_
  refine wpAnyH_take (i:=10) (v:=?v10) (by simp;rfl) (by kernel_rfl) (by kernel_rfl) (by kernel_rfl) (fun _ _ _ h=>h) (Or.inl ⟨by rfl,?y10⟩) hHeld ?r10
  case y10=>intro w hSw;have z:=hSw.cell 10 (by omega);rw[HE3.out] at z;clear hSw;go_simp;with_reducible rfl
  simp only[Act.put,zA,zB,zC]
  refine tk 11 hHeld ?_
  refine tk 12 hHeld ?_
  refine tk 13 hHeld ?_
  refine wpAnyH_take (i:=14) (v:=?v14) (by simp;rfl) (by kernel_rfl) (by kernel_rfl) (by kernel_rfl) (fun _ _ _ h=>h) (Or.inl ⟨by rfl,?y14⟩) hHeld ?r14
  case y14=>intro w hSw;have z:=hSw.cell 11 (by omega);rw[HE4.out] at z;clear hSw;go_simp;with_reducible rfl
  simp only[Act.put,zA,zB,zC]
  refine tk 15 hHeld ?_
  refine tk 16 hHeld ?_
  refine tk 17 hHeld ?_
  refine wpAnyH_take (i:=18) (v:=?v18) (by simp;rfl) (by kernel_rfl) (by kernel_rfl) (by kernel_rfl) (fun _ _ _ h=>h) (Or.inl ⟨by rfl,?y18⟩) hHeld ?r18
  case y18=>intro w hSw;have z:=hSw.cell 12 (by omega);rw[HE5.out] at z;clear hSw;go_simp;with_reducible rfl
  simp only[Act.put,zA,zB,zC]
  refine tk 19 hHeld ?_
  refine wpAnyH_take (i:=20) (v:=_) (by simp;rfl) (by kernel_rfl) (by kernel_rfl) (by kernel_rfl) (fun _ _ _ h=>h) (yields_build_is (vs:=[(0,.int .i64 r.bl),(1,.int .i64 r.lc),(2,.int .i64 r.mr),(3,.int .i64 r.hi),(4,.int .i64 r.cl)]) (by rfl) 23 rfl (by rfl) (fun w=>build23 w _ r (fill_cfgs r))) hHeld ?_
  simp only[Act.put,zA,zB,zC]
  refine tk 21 hHeld ?_
  refine tk 22 hHeld ?_
  refine tk 24 hHeld ?_
  refine tk 25 hHeld ?_
  have B1d:Hid (Below w1.heap.size w1 w1.drew):=⟨rfl,rfl,rfl,Nat.le_refl _,fun _ _=>rfl⟩
  have S1d:Hid (BIn w1.drew (some ⟨b,o,none⟩) 64 xs):=hHeld
  generalize w1.drew=wd at *
  have SAL:Hid (BIn (wd.alloc (.cells (scells sup0).toArray 194)) (some ⟨b,o,none⟩) 64 xs):=S1d.out.later (below_alloc wd _)
  have SST:Hid (BIn (wd.alloc (.cells (scells r).toArray 194)) (some ⟨b,o,none⟩) 64 xs):=S1d.out.later (below_alloc wd _)
  refine wpAnyH_ready (rs:=[23,28]) (by kernel_rfl) (by simp) ?_
  refine AllReadyH.cons (by simp;rfl) (fun Kc hKc=>?_) (AllReadyH.cons (by simp;rfl) (fun Kc hKc=>?_) AllReadyH.nil)
  ·go_simp
   refine (EI1.out _ S1d.out).mono ?_
   rintro e w' ⟨rfl,rfl⟩
   refine hKc.out _ _ S1d.out (fun hHeld=>?_)
   clear hKc Kc
   refine wpAnyH_ready (rs:=[26,28]) (by kernel_rfl) (by simp) ?_
   refine AllReadyH.cons (by simp;rfl) (fun Kc hKc=>?_) (AllReadyH.cons (by simp;rfl) (fun Kc hKc=>?_) AllReadyH.nil)
   ·go_simp
    refine (EI2.out _ S1d.out).mono ?_
    rintro e w' ⟨rfl,rfl⟩
    refine hKc.out _ _ S1d.out (fun hHeld=>?_)
    clear hKc Kc
    refine wpAnyH_take (i:=27) (v:=_) (by simp;rfl) (by kernel_rfl) (by kernel_rfl) (by kernel_rfl) (fun _ _ _ h=>h) (yields_build_is (vs:=[(0,.agg (ccells r).toArray),(1,.int .u64 r.tail),(2,.int .u64 r.life)]) (by rfl) 194 rfl (by rfl) (fun w=>build26 w _ r (fill_all r))) hHeld ?_
    simp only[Act.put,zA,zB,zC]
    refine wpAnyH_ready (rs:=[28]) (by kernel_rfl) (by simp) ?_
    refine AllReadyH.cons (by simp;rfl) (fun Kc hKc=>?_) AllReadyH.nil
    rw[if_pos (by rfl)]
    refine wp_alloc_is 194 rfl (alloc26 wd) ?_
    simp only[Act.put,zA,zB,zC]
    refine hKc.out _ _ SAL.out (fun hHeld=>?_)
    clear hKc Kc
    refine wpAnyH_ready (rs:=[29]) (by kernel_rfl) (by simp) ?_
    refine AllReadyH.cons (by simp;rfl) (fun Kc hKc=>?_) AllReadyH.nil
    rw[if_pos (by rfl)]
    refine wp_store_is 194 rfl rfl rfl (store_new26 wd r) ?_
    simp only[Act.put]
    refine hKc.out _ _ SST.out (fun hHeld=>?_)
    clear hKc Kc
    refine wpAnyH_done (by kernel_rfl) (NoPanic.normal ?_) _
    exact⟨wd.heap.size,rfl,⟨LAt.new 194 wd _,below_then B1d.out (below_alloc wd _)⟩,rfl⟩
   ·rw[if_pos (by rfl)]
    refine wp_alloc_is 194 rfl (alloc26 wd) ?_
    simp only[Act.put,zA,zB,zC]
    refine hKc.out _ _ SAL.out (fun hHeld=>?_)
    clear hKc Kc
    refine wpAnyH_ready (rs:=[26]) (by kernel_rfl) (by simp) ?_
    refine AllReadyH.cons (by simp;rfl) (fun Kc hKc=>?_) AllReadyH.nil
    go_simp
    refine (EI2.out _ SAL.out).mono ?_
    rintro e w' ⟨rfl,rfl⟩
    refine hKc.out _ _ SAL.out (fun hHeld=>?_)
    clear hKc Kc
    refine wpAnyH_take (i:=27) (v:=_) (by simp;rfl) (by kernel_rfl) (by kernel_rfl) (by kernel_rfl) (fun _ _ _ h=>h) (yields_build_is (vs:=[(0,.agg (ccells r).toArray),(1,.int .u64 r.tail),(2,.int .u64 r.life)]) (by rfl) 194 rfl (by rfl) (fun w=>build26 w _ r (fill_all r))) hHeld ?_
    simp only[Act.put,zA,zB,zC]
    refine wpAnyH_ready (rs:=[29]) (by kernel_rfl) (by simp) ?_
    refine AllReadyH.cons (by simp;rfl) (fun Kc hKc=>?_) AllReadyH.nil
    rw[if_pos (by rfl)]
    refine wp_store_is 194 rfl rfl rfl (store_new26 wd r) ?_
    simp only[Act.put]
    refine hKc.out _ _ SST.out (fun hHeld=>?_)
    clear hKc Kc
    refine wpAnyH_done (by kernel_rfl) (NoPanic.normal ?_) _
    exact⟨wd.heap.size,rfl,⟨LAt.new 194 wd _,below_then B1d.out (below_alloc wd _)⟩,rfl⟩
  ·rw[if_pos (by rfl)]
   refine wp_alloc_is 194 rfl (alloc26 wd) ?_
   simp only[Act.put,zA,zB,zC]
   refine hKc.out _ _ SAL.out (fun hHeld=>?_)
   clear hKc Kc
   refine wpAnyH_ready (rs:=[23]) (by kernel_rfl) (by simp) ?_
   refine AllReadyH.cons (by simp;rfl) (fun Kc hKc=>?_) AllReadyH.nil
   go_simp
   refine (EI1.out _ SAL.out).mono ?_
   rintro e w' ⟨rfl,rfl⟩
   refine hKc.out _ _ SAL.out (fun hHeld=>?_)
   clear hKc Kc
   refine wpAnyH_ready (rs:=[26]) (by kernel_rfl) (by simp) ?_
   refine AllReadyH.cons (by simp;rfl) (fun Kc hKc=>?_) AllReadyH.nil
   go_simp
   refine (EI2.out _ SAL.out).mono ?_
   rintro e w' ⟨rfl,rfl⟩
   refine hKc.out _ _ SAL.out (fun hHeld=>?_)
   clear hKc Kc
   refine wpAnyH_take (i:=27) (v:=_) (by simp;rfl) (by kernel_rfl) (by kernel_rfl) (by kernel_rfl) (fun _ _ _ h=>h) (yields_build_is (vs:=[(0,.agg (ccells r).toArray),(1,.int .u64 r.tail),(2,.int .u64 r.life)]) (by rfl) 194 rfl (by rfl) (fun w=>build26 w _ r (fill_all r))) hHeld ?_
   simp only[Act.put,zA,zB,zC]
   refine wpAnyH_ready (rs:=[29]) (by kernel_rfl) (by simp) ?_
   refine AllReadyH.cons (by simp;rfl) (fun Kc hKc=>?_) AllReadyH.nil
   rw[if_pos (by rfl)]
   refine wp_store_is 194 rfl rfl rfl (store_new26 wd r) ?_
   simp only[Act.put]
   refine hKc.out _ _ SST.out (fun hHeld=>?_)
   clear hKc Kc
   refine wpAnyH_done (by kernel_rfl) (NoPanic.normal ?_) _
   exact⟨wd.heap.size,rfl,⟨LAt.new 194 wd _,below_then B1d.out (below_alloc wd _)⟩,rfl⟩
 case rest =>
  rintro e a w2 ⟨g4,rfl,HF,rfl⟩
  have R2:Hid (SAt 194 w2 g4 r):=HF.out.1
  have B2:Hid (Below w.heap.size w w2):=below_then B1.out HF.out.2
  have Z2:Hid (SAt 194 w2 w.heap.size sup0):=LAt.later R1.out HF.out.2
  have X2:Hid (BIn w2 (some ⟨b,o,none⟩) 64 xs):=X1.out.later HF.out.2
  have L2:Hid (_):=SAt.load26 R2.out
  clear HF EI1 EI2 HE1 HE2 HE3 HE4 HE5 HE6 HE7 q1 q2 q3 q4 q5 n1 n2 n3 n4 X1 R1 B1
  go_wp2_with ((with_reducible refine at_ops ?_);(refine wpList_load_is (by rfl) 194 rfl rfl L2.out ?_);simp only[Act.put,zA,zB,zC])
  refine (refEncode_any r HW.out w2).mono ?_
  rintro e w3 ⟨p3,n3,c3,rfl,hn3,m3⟩
  have R3:Hid (SAt 194 w3 g4 r):=LAt.later R2.out m3.below
  have Z3:Hid (SAt 194 w3 w.heap.size sup0):=LAt.later Z2.out m3.below
  have B3:Hid (Below w.heap.size w w3):=below_then B2.out m3.below
  have X3:Hid (BIn w3 (some ⟨b,o,none⟩) 64 xs):=X2.out.later m3.below
  have E3:Hid (BIn w3 p3 n3 (encT r)):=m3.read
  have L3:Hid (_):=SAt.load26 R3.out
  have ST:Hid (_):=LAt.store (ds:=scells r) Z3.out size26 rfl (scells_all r)
  have SZ:Hid (_):=LAt.store (ds:=scells sup0) Z3.out size26 rfl (scells_all sup0)
  have F1:Hid (SAt 194 (w3.setRow w.heap.size (scells r).toArray) w.heap.size r∧Below w.heap.size w (w3.setRow w.heap.size (scells r).toArray)):=⟨LAt.stored Z3.out _,below_setRow B3.out (Nat.le_refl _) _⟩
  have F0:Hid (SAt 194 (w3.setRow w.heap.size (scells sup0).toArray) w.heap.size sup0∧Below w.heap.size w (w3.setRow w.heap.size (scells sup0).toArray)):=⟨LAt.stored Z3.out _,below_setRow B3.out (Nat.le_refl _) _⟩
  have HSE:Hid (_):=str_eq (encT r) xs E3.out.byte X3.out.byte
  have z1:=E3.out.str c3
  have z2:=X3.out.str c
  clear m3 hn3 R2 B2 Z2 X2 L2
  by_cases hm:May r
  ·rw[chk_yes r hm]
   by_cases he:encS r=xs
   ·have hq:((strOfNums (encT r)).toList == (strOfNums xs).toList)=true:=by rw[HSE.out,encT_yes r hm,he];simp
    have HD:Hid (decS xs=(r,0)):=by
     show _=_
     rw[decS_ok xs HL.out (by unfold Good;rw[← HRR.out];exact⟨hm,he⟩),HRR.out]
    have hq2:((strOfNums (encT r)).toList != (strOfNums xs).toList)=false:=by rw[bne,hq];rfl
    clear he hm
    go_wp2_with ((with_reducible refine at_ops ?_);(first | (refine wpList_store_is (by rfl) 194 rfl rfl rfl ST.out ?_) | (refine wpList_load_is (by rfl) 194 rfl rfl L3.out ?_));simp only[Act.put,zA,zB,zC])
    rw[HD.out]
    exact bodyPost_ret (results_sup results139 _ _ w.heap.size 194 _ _ (by rfl) F1.out.1 underlying194 rfl size26) rfl ⟨rfl,F1.out.2⟩
   ·have hq:((strOfNums (encT r)).toList == (strOfNums xs).toList)=false:=by rw[HSE.out,encT_yes r hm];simp[he]
    have HD:Hid (decS xs=(sup0,70)):=decS_bad xs HL.out (by unfold Good;rw[← HRR.out];exact fun h=>he h.2)
    have hq2:((strOfNums (encT r)).toList != (strOfNums xs).toList)=true:=by rw[bne,hq];rfl
    clear he hm
    go_wp2_with ((with_reducible refine at_ops ?_);(first | (refine wpList_store_is (by rfl) 194 rfl rfl rfl SZ.out ?_) | (refine wpList_build_is (vs:=[]) (by rfl) 194 rfl (by rfl) (build26 _ #[] sup0 fill_none) ?_));simp only[Act.put,zA,zB,zC])
    rw[HD.out]
    exact bodyPost_ret (results_sup results139 _ _ w.heap.size 194 _ _ (by rfl) F0.out.1 underlying194 rfl size26) rfl ⟨rfl,F0.out.2⟩
  ·have hc0:chk r≠0:=fun h=>hm ((chk_zero r).1 h)
   generalize chk r=q at *
   have HD:Hid (decS xs=(sup0,70)):=decS_bad xs HL.out (by unfold Good;rw[← HRR.out];exact fun h=>hm h.1)
   clear hm
   go_wp2_with ((with_reducible refine at_ops ?_);(first | (refine wpList_store_is (by rfl) 194 rfl rfl rfl SZ.out ?_) | (refine wpList_build_is (vs:=[]) (by rfl) 194 rfl (by rfl) (build26 _ #[] sup0 fill_none) ?_));simp only[Act.put,zA,zB,zC])
   rw[HD.out]
   exact bodyPost_ret (results_sup results139 _ _ w.heap.size 194 _ _ (by rfl) F0.out.1 underlying194 rfl size26) rfl ⟨rfl,F0.out.2⟩
theorem refDecode_any (p:Option Addr)(n c:Nat)(xs:List Int)(w:World)(hx:BIn w p n xs)(hc:n≤c) :
  Calls prog 139 #[.slice p n c] w fun e w'=>e=.returned (.tuple #[.agg (scells (decS xs).1).toArray,.int .i64 (decS xs).2])∧Below w.heap.size w w':=by
 by_cases h:n=64
 ·subst h
  obtain ⟨b,o,rfl,-⟩:=hx.cells (by omega)
  exact refDecode_64 b o c xs w hx hc
 ·rw[decS_len xs (by rw[hx.len];exact h)]
  exact refDecode_len p n c w h
theorem buildR0 (w:World):(Instr.build 225 #[]).run prog w=.ok (.agg (gcells 0 0 0 (.slice none 0 0)).toArray) w :=
 run_build w 225 _ _ ((built_of 225 _ _ _ placesR zeroR).trans rfl)
theorem decS_70 {bs:List Int}(hl:bs.length=64)(h:¬(decS bs).2=0):(decS bs).2=70:=by
 unfold decS at h ⊢
 rw[if_neg (by omega)] at h ⊢
 split
 ·rename_i hh
  rw[if_pos hh] at h
  exact absurd rfl h
 ·rfl
structure RR (w W:World) (c r:Sup) (Bs Bl:Nat) (s:Sc) (v cv:Value) (vs:List Value):Prop where
 cf:CAt W w.heap.size c
 rs:LAt 225 W (w.heap.size+1) (gcells 0 0 0 (.slice none 0 0))
 sp:SAt 194 W Bs r
 lg:LAt 225 W Bl (gcells r.tail r.life s.fin v)
 tx:XOwn 248 W w.heap.size v s.txs vs
 im:IOwn W w.heap.size cv s.come
 ne:∀u∈vs,∀g,cv.ownBlock=some g→u.ownBlock≠some g
 low:Below w.heap.size w W
 nl:Bl≠w.heap.size+1
 l0:w.heap.size≤Bl
theorem RR.later {w W W':World}{c r:Sup}{Bs Bl:Nat}{s:Sc}{v cv:Value}{vs:List Value}(h:RR w W c r Bs Bl s v cv vs)(hb:Below W.heap.size W W'):RR w W' c r Bs Bl s v cv vs :=
 ⟨LAt.later h.cf hb,LAt.later h.rs hb,LAt.later h.sp hb,LAt.later h.lg hb,h.tx.later hb,h.im.later hb,h.ne,below_then h.low hb,h.nl,h.l0⟩
theorem vs_lt {e:TypeId}{w:World}{B:Nat}{v:Value}{l:List TX}{vs:List Value}(h:XOwn e w B v l vs){u:Value}(hu:u∈vs){g:Nat}(hg:u.ownBlock=some g):g<w.heap.size:=by
 obtain ⟨j,hj,rfl⟩:=List.getElem_of_mem hu
 have hj':j<l.length:=by rw[← h.len];exact hj
 exact ((h.each j l[j] vs[j] (List.getElem?_eq_getElem hj') (List.getElem?_eq_getElem hj)).lt g hg).2
theorem RR.img {w W:World}{c r:Sup}{Bs Bl:Nat}{s:Sc}{v cv:Value}{vs:List Value}(h:RR w W c r Bs Bl s v cv vs)(hcw:ImsWf s.come)(i:Im)(hi:i.Wf)(hl:s.come.length≤64) :
  ∃q m cp W',(Builtin.append_ #[92,92] 92 #[cv,.slice (some ⟨W.heap.size,0,none⟩) 1 1]).run prog (W.alloc (.cells (icells i).toArray 155))=.ok (.slice q m cp) W'∧RR w W' c r Bs Bl ⟨s.txs,s.fin,s.come++[i]⟩ v (.slice q m cp) vs:=by
 have ba:=below_alloc W (.cells (icells i).toArray 155)
 have mi:MIn (W.alloc (.cells (icells i).toArray 155)) (some ⟨W.heap.size,0,none⟩) 1 [i]:=⟨rfl,fun y hy=>by rw[List.mem_singleton.1 hy];exact hi,fun _=>⟨W.heap.size,0,rfl,by rw[show IC [i]=icells i by simp[IC]];exact LAt.range (LAt.new 155 W (icells i))⟩⟩
 have im1:=h.im.later ba
 obtain ⟨q,m,cp,W',hr,ho,hg,hat⟩:=app_imsL (c:=1) im1 hcw mi (by omega) (Nat.le_trans h.low.size ba.size)
 refine⟨q,m,cp,W',hr,⟨lat_grown h.cf (by decide) h.im hg,lat_grown h.rs (by decide) h.im hg,lat_grown h.sp (by decide) h.im hg,lat_grown h.lg (by decide) h.im hg,?_,ho,fun u hu g e=>?_,?_,h.nl,h.l0⟩⟩
 ·refine (h.tx.later ba).kept hg (own_ne h.tx.row h.im (by decide)) fun u hu=>?_
  cases hcv:cv.ownBlock with
  | none=>cases hub:u.ownBlock <;> simp
  | some g=>exact .inr (h.ne u hu g hcv)
 ·rcases hat with hat | hat
  ·rw[hat] at e;exact h.ne u hu g e
  ·rw[hat] at e
   cases e
   intro e'
   have:=vs_lt h.tx hu e'
   simp at this
   omega
 ·exact (below_then h.low ba).grown hg (below_then h.low ba).size fun j ej=>(im1.lt j ej).1
theorem own_set {W:World}{C:Nat}{ty t:TypeId}{sz n Bl:Nat}{u:Value}{xs cs:List Value}(h:W.ownsRow C ty sz u n xs)(hl:LAt t W Bl cs)(hne:ty≠t)(off:Nat)(val:Value):(W.setCell ⟨Bl,off,none⟩ val).ownsRow C ty sz u n xs:=by
 refine⟨h.1,?_⟩
 rcases h.2 with hr | ⟨g,cap,cur,e1,e2,e3,e4⟩
 ·exact .inl hr
 ·have n1:g≠Bl:=fun e=>by subst e;have:=e3.symm.trans hl;simp only[Option.some.injEq,Obj.cells.injEq] at this;exact hne this.2.1
  exact .inr ⟨g,cap,cur,e1,e2,(heap_setCell_other _ ⟨Bl,off,none⟩ g _ n1).trans e3,e4⟩
theorem lat_ne {W:World}{t1 t2:TypeId}{a b:Nat}{cs ds:List Value}(h:LAt t1 W a cs)(k:LAt t2 W b ds)(hne:t1≠t2):a≠b:=fun e=>by
 subst e
 have:=(show W.heap[a]?=_ from h).symm.trans k
 simp only[Option.some.injEq,Obj.cells.injEq] at this
 exact hne this.2.1
theorem RR.com {w W:World}{c r:Sup}{Bs Bl:Nat}{s:Sc}{v:Value}{vs:List Value}{q:Option Addr}{k m:Nat}(h:RR w W c r Bs Bl s v (.slice q k m) vs)(hcw:ImsWf s.come)(hl:s.txs.length≤64)(p:Int)(hp:u64 p) :
  ∃q' m' c' V4,(Builtin.append_ #[223,223] 223 #[v,.slice (some ⟨W.heap.size,0,none⟩) 1 1]).run prog (W.alloc (.cells #[.int .u64 p,.slice q k m] 248))=.ok (.slice q' m' c') V4∧LAt 225 V4 Bl (gcells r.tail r.life s.fin v)∧LAt 225 (V4.setCell ⟨Bl,3,none⟩ (.slice q' m' c')) Bl (gcells r.tail r.life s.fin (.slice q' m' c')) ∧
   ∃vs',RR w ((V4.setCell ⟨Bl,3,none⟩ (.slice q' m' c')).setCell ⟨Bl,2,none⟩ (.int .u64 (p+1))) c r Bs Bl ⟨s.txs++[⟨p,s.come⟩],p+1,[]⟩ (.slice q' m' c') (.slice none 0 0) vs':=by
 obtain ⟨q',c',V4,hr,lg4,oth4,xo4,bl4,-⟩:=XOwn.app h.tx h.lg h.low.size (by omega) hp hcw h.im
 have lg5:LAt 225 (V4.setCell ⟨Bl,3,none⟩ (.slice q' (s.txs.length+1) c')) Bl (gcells r.tail r.life s.fin (.slice q' (s.txs.length+1) c')):=LAt.set lg4 3 _
 have cf4:=oth4 (by decide) h.cf
 have sp4:=oth4 (by decide) h.sp
 have rs4:=oth4 (by decide) h.rs
 refine⟨q',_,c',V4,hr,lg4,lg5,_,⟨LAt.setO (LAt.setO cf4 3 _ (lat_ne cf4 lg4 (by decide))) 2 _ (lat_ne cf4 lg4 (by decide)),LAt.setO (LAt.setO rs4 3 _ h.nl.symm) 2 _ h.nl.symm,LAt.setO (LAt.setO sp4 3 _ (lat_ne sp4 lg4 (by decide))) 2 _ (lat_ne sp4 lg4 (by decide)),LAt.set lg5 2 _,⟨xo4.len,own_set xo4.row lg5 (by decide) 2 _,fun j t u a b=>own_set (xo4.each j t u a b) lg5 (by decide) 2 _,xo4.wf⟩,World.ownsRow_nil _ _ _ _,(fun u hu g e=>by cases e),?_,h.nl,h.l0⟩⟩
 exact ((h.low.trans bl4).setCell (p:=⟨Bl,3,none⟩) h.l0 _).setCell (p:=⟨Bl,2,none⟩) h.l0 _
theorem RR.ret {w W:World}{c r:Sup}{Bs Bl:Nat}{s:Sc}{v cv:Value}{vs:List Value}(h:RR w W c r Bs Bl s v cv vs):∃q cp,v=.slice q s.txs.length cp∧(Instr.loadAt 225 (.pointer (some ⟨Bl,0,none⟩))).run prog W=.ok (.agg (gcells r.tail r.life s.fin v).toArray) W∧(Instr.storeAt 225 (.pointer (some ⟨w.heap.size+1,0,none⟩)) (.agg (gcells r.tail r.life s.fin v).toArray)).run prog W=.ok () (W.setRow (w.heap.size+1) (gcells r.tail r.life s.fin v).toArray) ∧
  LAt 225 (W.setRow (w.heap.size+1) (gcells r.tail r.life s.fin v).toArray) (w.heap.size+1) (gcells r.tail r.life s.fin v)∧XOwn 248 (W.setRow (w.heap.size+1) (gcells r.tail r.life s.fin v).toArray) w.heap.size v s.txs vs∧Below w.heap.size w (W.setRow (w.heap.size+1) (gcells r.tail r.life s.fin v).toArray):=by
 have x5:XOwn 248 (W.setRow (w.heap.size+1) (gcells r.tail r.life s.fin v).toArray) w.heap.size v s.txs vs:=by
  refine h.tx.kept (grownBy_setRow W _ _) (.inr (lat_not_row h.rs (by decide) h.tx.row)) fun u hu=>?_
  obtain ⟨j,hj,rfl⟩:=List.getElem_of_mem hu
  have hj':j<s.txs.length:=by rw[← h.tx.len];exact hj
  exact .inr (lat_not_row h.rs (by decide) (h.tx.each j s.txs[j] vs[j] (List.getElem?_eq_getElem hj') (List.getElem?_eq_getElem hj)))
 obtain ⟨q,cp,e,-⟩:=XOwn.in x5
 have ho:v.oneCell'=true:=by rw[e];rfl
 exact⟨q,cp,e,LAt.loadR h.lg,LAt.store (ds:=gcells r.tail r.life s.fin v) h.rs sizeR rfl (all_oneCell_toArray (gcells_ones ho _ _ _)),LAt.stored h.rs _,x5,below_setRow h.low (Nat.le_succ _) _⟩
end Go.Proofs.YtdadpepfpiimgaaGreatDoor
