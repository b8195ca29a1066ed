import Derived.Test.YtcdjepkhdjpjcaaGreatDoorY36
set_option maxHeartbeats 20000000
set_option maxRecDepth 100000
namespace Go.Proofs.YtcdjepkhdjpjcaaGreatDoor.Q
open Go.Proofs.Tryz
open Go.RowKit
theorem build_vc (w:World):(Instr.build 51 #[(0,.int .u8 3)]).run prog w=.ok (.agg (U8 vc).toArray) w:=run_build w 51 _ _ (by kernel_rfl)
theorem build_bare (w:World):(Instr.build 37 #[(0,.agg (ccells sm).toArray)]).run prog w=.ok (.agg (bare sm).toArray) w:=run_build w 37 _ _ (by kernel_rfl)
section
variable {w:World}
theorem pointNames_any (ht:Tab w):Calls prog 5 #[] w fun e w'=>e=.returned (.bool true)∧Below w.heap.size w w':=by
 have HT:Hid (Tab w):=ht
 clear ht
 go_enter func5,ntmps5
 go_wp2_with fail
 refine (awake_is HT.out).mono ?_
 rintro e w1 ⟨rfl,b1⟩
 have B1:Hid (Below w.heap.size w w1):=b1
 clear b1
 go_wp2_with fail
 refine (small_is w1).mono ?_
 rintro e w2 ⟨rfl,b2⟩
 have B2:Hid (Below w.heap.size w w2):=C.below_then B1.out b2
 have HT2:Hid (Tab w2):=HT.out.later B2.out
 clear b2 B1 HT
 go_wp2_with fail
 refine (lay_ok sm (by decide) HT2.out).mono ?_
 rintro e w3 ⟨K,rfl,hK,hd⟩
 have HK:Hid (K.c=sm):=hK
 have HD3:Hid (DS w2 w3 K (x0 sm) (x0 sm) [] (fun _=>.no)):=hd
 clear hd hK
 have LK:Hid (_):=HD3.out.ldk
 go_wp2_with ((with_reducible refine C.at_ops ?_);(refine ldI 37 LK.out ?_))
 refine (step_nil w3 (pdk K)).mono ?_
 rintro e w4 ⟨rfl,b4⟩
 have HD4:Hid (DS w2 w4 K (x0 sm) (x0 sm) [] (fun _=>.no)):=HD3.out.later b4
 clear b4 HD3 LK
 have HA:Hid (_):=alloc_row w4
 have HST:Hid (_):=store_row (LAt.new 61 w4 row0) (ds:=row0) (rowC_len (C.zs_len 32)) (rowC_one _ _ _ _ _)
 have hdr:=(HD4.out.newrow (k:=20) (by decide) (by decide) (row0)).undo (rfl)
 obtain ⟨w5,hw⟩:∃W,(w4.alloc (.cells row0.toArray 61)).setRow w4.heap.size (row0).toArray=W:=⟨_,rfl⟩
 rw[hw] at HST hdr
 have HD5:Hid (DS w2 w5 K (x0 sm) (x0 sm) [] (fun _=>.no)):=hdr
 clear hdr hw HD4
 go_wp2_with ((with_reducible refine C.at_ops ?_);(first | (refine alI 61 HA.out ?_) | (refine stI 61 HST.out ?_)))
 clear HA HST
 refine (aim_nil w5).mono ?_
 rintro e w' ⟨rfl,hw'⟩
 rw[hw']
 clear hw' w'
 go_wp2_with fail
 refine (state_nil w5).mono ?_
 rintro e w' ⟨rfl,hw'⟩
 rw[hw']
 clear hw' w'
 have LK:Hid (_):=HD5.out.ldk
 go_wp2_with ((with_reducible refine C.at_ops ?_);(refine ldI 37 LK.out ?_))
 refine (enabled_nil w5 (pdk K)).mono ?_
 rintro e w6 ⟨rfl,b6⟩
 have HD6:Hid (DS w2 w6 K (x0 sm) (x0 sm) [] (fun _=>.no)):=HD5.out.later b6
 clear b6 HD5 LK
 go_wp2_with fail
 refine (C.left_any (p:=none) (M:=[]) (.inl ⟨rfl,rfl⟩) (Nat.zero_le _)).mono ?_
 rintro e w7 ⟨v7,rfl,ho,b7⟩
 obtain ⟨q7,c7,rfl⟩:=C.O.own_shape ho
 have HD7:Hid (DS w2 w7 K (x0 sm) (x0 sm) [] (fun _=>.no)):=HD6.out.later b7
 clear b7 HD6 ho
 go_wp2_with fail
 refine (copy_nil w7).mono ?_
 rintro e w' ⟨rfl,hw'⟩
 rw[hw']
 clear hw' w'
 go_wp2_with fail
 refine (new_pt w7).mono ?_
 rintro e w8 ⟨rfl,hw8⟩
 obtain ⟨B,hB⟩:∃B,w7.heap.size=B:=⟨_,rfl⟩
 have HD8:Hid (DS w2 w8 K (x0 sm) (x0 sm) [] (put (fun _=>.no) 8 (.pp B (.slice none 0 0) ⟨1,0,[],0⟩))):=by rw[hw8,← hB];exact HD7.out.newpt (by decide)
 rw[hB]
 clear hw8 hB HD7
 have LK:Hid (_):=HD8.out.ldk
 go_wp2_with ((with_reducible refine C.at_ops ?_);(refine ldI 37 LK.out ?_))
 refine (step_idle HD8.out (i:=8) (by decide) (by decide) rfl rfl (by show (1:Int)≤1000;omega) (by rw[HK.out];decide) rfl).mono ?_
 rintro e w9 ⟨rfl,hd⟩
 have HD9:Hid (DS w2 w9 K (x0 sm) (x0 sm) [] (put (fun _=>.no) 8 (.pp B (.slice none 0 0) ⟨1,0,[],0⟩))):=hd
 clear hd HD8 LK
 have HA:Hid (_):=alloc_row w9
 have HST:Hid (_):=store_row (LAt.new 61 w9 row0) (ds:=row0) (rowC_len (C.zs_len 32)) (rowC_one _ _ _ _ _)
 have hdr:=(HD9.out.newrow (k:=20) (by decide) (by decide) (row0)).undo (rfl)
 obtain ⟨w10,hw⟩:∃W,(w9.alloc (.cells row0.toArray 61)).setRow w9.heap.size (row0).toArray=W:=⟨_,rfl⟩
 rw[hw] at HST hdr
 have HD10:Hid (DS w2 w10 K (x0 sm) (x0 sm) [] (put (fun _=>.no) 8 (.pp B (.slice none 0 0) ⟨1,0,[],0⟩))):=hdr
 clear hdr hw HD9
 go_wp2_with ((with_reducible refine C.at_ops ?_);(first | (refine alI 61 HA.out ?_) | (refine stI 61 HST.out ?_)))
 clear HA HST
 refine (small_is w10).mono ?_
 rintro e w11 ⟨rfl,b11⟩
 have HD11:Hid (DS w2 w11 K (x0 sm) (x0 sm) [] (put (fun _=>.no) 8 (.pp B (.slice none 0 0) ⟨1,0,[],0⟩))):=HD10.out.later b11
 have HBB:Hid (_):=build_bare w11
 clear b11 HD10
 go_wp2_with ((with_reducible refine C.at_ops ?_);((refine C.wpList_build_is (vs:=[(0,.agg (ccells sm).toArray)]) (by rfl) 37 rfl (by rfl) HBB.out ?_);simp only[Act.put,zA,zB,zC]))
 refine (step_bare w11 B sm).mono ?_
 rintro e w12 ⟨rfl,b12⟩
 have HD12:Hid (DS w2 w12 K (x0 sm) (x0 sm) [] (put (fun _=>.no) 8 (.pp B (.slice none 0 0) ⟨1,0,[],0⟩))):=HD11.out.later b12
 clear b12 HD11 HBB
 have HA:Hid (_):=alloc_row w12
 have HST:Hid (_):=store_row (LAt.new 61 w12 row0) (ds:=row0) (rowC_len (C.zs_len 32)) (rowC_one _ _ _ _ _)
 have hdr:=(HD12.out.newrow (k:=20) (by decide) (by decide) (row0)).undo (rfl)
 obtain ⟨w13,hw⟩:∃W,(w12.alloc (.cells row0.toArray 61)).setRow w12.heap.size (row0).toArray=W:=⟨_,rfl⟩
 rw[hw] at HST hdr
 have HD13:Hid (DS w2 w13 K (x0 sm) (x0 sm) [] (put (fun _=>.no) 8 (.pp B (.slice none 0 0) ⟨1,0,[],0⟩))):=hdr
 clear hdr hw HD12
 obtain ⟨VA,hVA⟩:∃B,w13.heap.size=B:=⟨_,rfl⟩
 obtain ⟨wa,hwa⟩:∃W,w13.alloc (.cells (U8 zv).toArray 51)=W:=⟨_,rfl⟩
 obtain ⟨VB,hVB⟩:∃B,wa.heap.size=B:=⟨_,rfl⟩
 obtain ⟨wb,hwb⟩:∃W,wa.alloc (.cells (U8 zv).toArray 51)=W:=⟨_,rfl⟩
 obtain ⟨VC,hVC⟩:∃B,wb.heap.size=B:=⟨_,rfl⟩
 obtain ⟨wc,hwc⟩:∃W,wb.alloc (.cells (U8 zv).toArray 51)=W:=⟨_,rfl⟩
 have hd1:DS w2 wc K (x0 sm) (x0 sm) [] (put (put (put (put (fun _=>.no) 8 (.pp B (.slice none 0 0) ⟨1,0,[],0⟩)) 9 (.blk VA 51 (U8 zv).toArray)) 10 (.blk VB 51 (U8 zv).toArray)) 11 (.blk VC 51 (U8 zv).toArray)):=by
  rw[← hwc,← hVC]
  refine DS.newblk ?_ (by decide) _ _
  rw[← hwb,← hVB]
  refine DS.newblk ?_ (by decide) _ _
  rw[← hwa,← hVA]
  exact HD13.out.newblk (by decide) _ _
 have hd2:=hd1.blkput (j:=9) (by decide) (by decide) (R:=VA) (ty:=51) rfl (U8 va).toArray
 have hd3:=hd2.blkput (j:=10) (by decide) (by decide) (R:=VB) (ty:=51) rfl (U8 vb).toArray
 have hd4:=hd3.blkput (j:=11) (by decide) (by decide) (R:=VC) (ty:=51) rfl (U8 vc).toArray
 have HS1:Hid ((Instr.storeAt 51 (.pointer (some ⟨VA,0,none⟩)) (.agg (U8 va).toArray)).run prog wc=.ok () (wc.setRow VA (U8 va).toArray)):=VAt.store (hd1.blk (i:=9) (by decide) (by decide) rfl) (C.zs_len 32) va_len
 have HS2:Hid ((Instr.storeAt 51 (.pointer (some ⟨VB,0,none⟩)) (.agg (U8 vb).toArray)).run prog (wc.setRow VA (U8 va).toArray)=.ok () ((wc.setRow VA (U8 va).toArray).setRow VB (U8 vb).toArray)):=VAt.store (hd2.blk (i:=10) (by decide) (by decide) rfl) (C.zs_len 32) vb_len
 have HS3:Hid ((Instr.storeAt 51 (.pointer (some ⟨VC,0,none⟩)) (.agg (U8 vc).toArray)).run prog ((wc.setRow VA (U8 va).toArray).setRow VB (U8 vb).toArray)=.ok () (((wc.setRow VA (U8 va).toArray).setRow VB (U8 vb).toArray).setRow VC (U8 vc).toArray)):=VAt.store (hd3.blk (i:=11) (by decide) (by decide) rfl) (C.zs_len 32) vc_len
 have HA1:Hid ((Instr.alloc 51 true (.tuple #[])).run prog w13=.ok (.pointer (some ⟨VA,0,none⟩)) wa):=by rw[← hVA,← hwa];exact allocV w13
 have HA2:Hid ((Instr.alloc 51 true (.tuple #[])).run prog wa=.ok (.pointer (some ⟨VB,0,none⟩)) wb):=by rw[← hVB,← hwb];exact allocV wa
 have HA3:Hid ((Instr.alloc 51 true (.tuple #[])).run prog wb=.ok (.pointer (some ⟨VC,0,none⟩)) wc):=by rw[← hVC,← hwc];exact allocV wb
 have HB1:Hid (_):=build_va w13
 have HB2:Hid (_):=build_vb w13
 have HB3:Hid (_):=build_vc w13
 have HDv:Hid (DS w2 (((wc.setRow VA (U8 va).toArray).setRow VB (U8 vb).toArray).setRow VC (U8 vc).toArray) K (x0 sm) (x0 sm) [] (put (put (put (put (fun _=>.no) 8 (.pp B (.slice none 0 0) ⟨1,0,[],0⟩)) 9 (.blk VA 51 (U8 va).toArray)) 10 (.blk VB 51 (U8 vb).toArray)) 11 (.blk VC 51 (U8 vc).toArray))):=by
  refine hd4.congr fun i h8 h40=>?_
  by_cases c11:i=11
  ·subst c11;rfl
  ·by_cases c10:i=10
   ·subst c10;rfl
   ·by_cases c9:i=9
    ·subst c9;rfl
    ·rw[put_other _ _ c11,put_other _ _ c10,put_other _ _ c9,put_other _ _ c11,put_other _ _ c10,put_other _ _ c9,put_other _ _ c11,put_other _ _ c10,put_other _ _ c9]
 obtain ⟨wd,hwd⟩:∃W,wc.setRow VA (U8 va).toArray=W:=⟨_,rfl⟩
 rw[hwd] at HS1 HS2 HS3 HDv
 obtain ⟨we,hwe⟩:∃W,wd.setRow VB (U8 vb).toArray=W:=⟨_,rfl⟩
 rw[hwe] at HS2 HS3 HDv
 obtain ⟨wf,hwf⟩:∃W,we.setRow VC (U8 vc).toArray=W:=⟨_,rfl⟩
 rw[hwf] at HS3 HDv
 clear hd1 hd2 hd3 hd4 hwa hwb hwc hwd hwe hwf hVA hVB hVC HD13
 obtain ⟨SA,hSA⟩:∃B,wf.heap.size=B:=⟨_,rfl⟩
 obtain ⟨wg,hwg⟩:∃W,wf.alloc (.cells #[.int .i64 2,.int .i64 0] 3)=W:=⟨_,rfl⟩
 have HDs:Hid (DS w2 wg K (x0 sm) (x0 sm) [] (put (put (put (put (put (fun _=>.no) 8 (.pp B (.slice none 0 0) ⟨1,0,[],0⟩)) 9 (.blk VA 51 (U8 va).toArray)) 10 (.blk VB 51 (U8 vb).toArray)) 11 (.blk VC 51 (U8 vc).toArray)) 12 (.blk SA 3 #[.int .i64 2,.int .i64 0]))):=by rw[← hwg,← hSA];exact HDv.out.newblk (by decide) _ _
 have HC1:Hid (_):=build_set wf
 rw[hwg,hSA] at HC1
 have L1:Hid (_):=load_blkV (HDs.out.blk (i:=9) (by decide) (by decide) (B:=VA) (t:=51) rfl) va_len
 have L2:Hid (_):=load_blkV (HDs.out.blk (i:=10) (by decide) (by decide) (B:=VB) (t:=51) rfl) vb_len
 obtain ⟨SV,hSV⟩:∃B,wg.heap.size=B:=⟨_,rfl⟩
 obtain ⟨wh,hwh⟩:∃W,wg.alloc (.cells (U8 va++U8 vb).toArray 51)=W:=⟨_,rfl⟩
 have HDh:Hid (DS w2 wh K (x0 sm) (x0 sm) [] (put (put (put (put (put (put (fun _=>.no) 8 (.pp B (.slice none 0 0) ⟨1,0,[],0⟩)) 9 (.blk VA 51 (U8 va).toArray)) 10 (.blk VB 51 (U8 vb).toArray)) 11 (.blk VC 51 (U8 vc).toArray)) 12 (.blk SA 3 #[.int .i64 2,.int .i64 0])) 13 (.blk SV 51 (U8 va++U8 vb).toArray))):=by rw[← hwh,← hSV];exact HDs.out.newblk (by decide) _ _
 have HC2:Hid (_):=build_vals wg
 rw[hwh,hSV] at HC2
 have HC3:Hid (_):=build_op wh (.slice (some ⟨SA,0,none⟩) 2 2) (.slice (some ⟨SV,0,none⟩) 2 2) rfl rfl _ _ _ _ _ _ rfl rfl
 clear HDv HDs hwg hwh hSA hSV
 go_wp2_with ((with_reducible refine C.at_ops ?_);(first | (refine alI 61 HA.out ?_) | (refine stI 61 HST.out ?_) | ((refine C.wpList_build_is (vs:=[(0,.int .u8 1)]) (by rfl) 51 rfl (by rfl) HB1.out ?_);simp only[Act.put,zA,zB,zC]) | ((refine C.wpList_build_is (vs:=[(0,.int .u8 2)]) (by rfl) 51 rfl (by rfl) HB2.out ?_);simp only[Act.put,zA,zB,zC]) | ((refine C.wpList_build_is (vs:=[(0,.int .u8 3)]) (by rfl) 51 rfl (by rfl) HB3.out ?_);simp only[Act.put,zA,zB,zC]) | (refine alI 51 HA1.out ?_) | (refine alI 51 HA2.out ?_) | (refine alI 51 HA3.out ?_) | (refine stI 51 HS1.out ?_) | (refine stI 51 HS2.out ?_) | (refine stI 51 HS3.out ?_) | ((refine wpList_slices_is (vs:=[(0,.int .i64 2),(1,.int .i64 0)]) (by rfl) 59 2 rfl (by rfl) HC1.out ?_);simp only[Act.put,zA,zB,zC]) | (refine ldI 51 L1.out ?_) | (refine ldI 51 L2.out ?_) | ((refine wpList_slices_is (vs:=[(0,.agg (U8 va).toArray),(1,.agg (U8 vb).toArray)]) (by rfl) 79 2 rfl (by rfl) HC2.out ?_);simp only[Act.put,zA,zB,zC]) | ((refine C.wpList_build_is (vs:=[(1,.slice (some ⟨SA,0,none⟩) 2 2),(2,.slice (some ⟨SV,0,none⟩) 2 2),(3,.bool true)]) (by rfl) 81 rfl (by rfl) HC3.out ?_);simp only[Act.put,zA,zB,zC])))
 clear HA HST HB1 HB2 HB3 HA1 HA2 HA3 HS1 HS2 HS3 HC1 HC2 HC3 L1 L2
 refine (tx_at HT2.out HDh.out (fun i h30 h40=>by rw[put_other _ _ (by omega),put_other _ _ (by omega),put_other _ _ (by omega),put_other _ _ (by omega),put_other _ _ (by omega),put_other _ _ (by omega)]) (o:=oA SA SV) (oA_in (i:=12) (j:=13) (by decide) (by decide) (by decide) (by decide) rfl rfl) (by decide) (by decide) (by decide) (by decide)).mono ?_
 rintro e w14 ⟨rfl,hd⟩
 have hd':DS w2 w14 K xa xa (txS (x0 sm) [] [2,0] [va,vb] true).2 (put (put (put (put (put (put (fun _=>.no) 8 (.pp B (.slice none 0 0) ⟨1,0,[],0⟩)) 9 (.blk VA 51 (U8 va).toArray)) 10 (.blk VB 51 (U8 vb).toArray)) 11 (.blk VC 51 (U8 vc).toArray)) 12 (.blk SA 3 #[.int .i64 2,.int .i64 0])) 13 (.blk SV 51 (U8 va++U8 vb).toArray)):=hd
 generalize (txS (x0 sm) [] [2,0] [va,vb] true).2=pd at hd'
 obtain ⟨XX,hXX⟩:∃XX:Nat→Th,(put (put (put (put (put (fun _=>.no) 9 (.blk VA 51 (U8 va).toArray)) 10 (.blk VB 51 (U8 vb).toArray)) 11 (.blk VC 51 (U8 vc).toArray)) 12 (.blk SA 3 #[.int .i64 2,.int .i64 0])) 13 (.blk SV 51 (U8 va++U8 vb).toArray))=XX:=⟨_,rfl⟩
 have HDt:Hid (DS w2 w14 K xa xa pd (put XX 8 (.pp B (.slice none 0 0) ⟨1,0,[],0⟩))):=by
  refine hd'.congr fun i h8 h40=>?_
  rw[← hXX]
  by_cases c8:i=8
  ·subst c8;rfl
  ·rw[put_other _ _ c8]
   by_cases c13:i=13
   ·subst c13;rfl
   ·by_cases c12:i=12
    ·subst c12;rfl
    ·by_cases c11:i=11
     ·subst c11;rfl
     ·by_cases c10:i=10
      ·subst c10;rfl
      ·by_cases c9:i=9
       ·subst c9;rfl
       ·rw[put_other _ _ c13,put_other _ _ c12,put_other _ _ c11,put_other _ _ c10,put_other _ _ c9,put_other _ _ c13,put_other _ _ c12,put_other _ _ c11,put_other _ _ c10,put_other _ _ c9,put_other _ _ c8]
 have F10:Hid (XX 10=(.blk VB 51 (U8 vb).toArray)):=by rw[← hXX];exact rfl
 have F11:Hid (XX 11=(.blk VC 51 (U8 vc).toArray)):=by rw[← hXX];exact rfl
 have F14:Hid (∀j,14≤j→XX j=.no):=fun j hj=>by rw[← hXX,put_other _ _ (by omega),put_other _ _ (by omega),put_other _ _ (by omega),put_other _ _ (by omega),put_other _ _ (by omega)]
 clear hd hd' hXX HDh
 have LK:Hid (_):=HDt.out.ldk
 go_wp2_with ((with_reducible refine C.at_ops ?_);(refine ldI 37 LK.out ?_))
 refine (step_at HT2.out HDt.out (by decide) (by decide) (i:=8) (by decide) (by decide) ⟨.inl rfl,fun e=>absurd (show (1:Int)=2 from e) (by decide)⟩ (put_same _ _ _) (fun j h1 h2=>by rw[put_other _ _ (by omega)];exact F14.out j (by omega))).mono ?_
 rw[show K.c.hi=3 by rw[HK.out];rfl,st1]
 rintro e w15 ⟨pv,rfl,hd⟩
 rw[put_put] at hd
 have HDu:Hid (DS w2 w15 K xa xa pd (put XX 8 (.pp B pv ⟨2,3,xa.L,0⟩))):=hd
 clear hd HDt LK
 have HA:Hid (_):=alloc_row w15
 have HST:Hid (_):=store_row (LAt.new 61 w15 row0) (ds:=rowC 14 (-1) zv 3 2) (rowC_len (C.zs_len 32)) (rowC_one _ _ _ _ _)
 have hdr:=(HDu.out.newrow (k:=20) (by decide) (by decide) (rowC 14 (-1) zv 3 2)).undo ((put_other _ _ (by decide)).trans (F14.out 20 (by decide)))
 obtain ⟨w16,hw⟩:∃W,(w15.alloc (.cells row0.toArray 61)).setRow w15.heap.size (rowC 14 (-1) zv 3 2).toArray=W:=⟨_,rfl⟩
 rw[hw] at HST hdr
 have HDw:Hid (DS w2 w16 K xa xa pd (put XX 8 (.pp B pv ⟨2,3,xa.L,0⟩))):=hdr
 clear hdr hw HDu
 go_wp2_with ((with_reducible refine C.at_ops ?_);(first | (refine alI 61 HA.out ?_) | (refine stI 61 HST.out ?_)))
 clear HA HST
 have HDx:Hid (DS w2 w16.drew K xa xa pd (put XX 8 (.pp B pv ⟨2,3,xa.L,0⟩))):=HDw.out.later (C.below_drawn 1)
 clear HDw
 refine wp_region_noPanic ?_
 refine wp_region_held_drew (S:=fun W=>∃x',DS w2 W K x' xa pd (put XX 8 (.pp B pv ⟨2,3,xa.L,0⟩))) (by kernel_rfl) ⟨xa,HDx.out⟩ (fun hHeld=>?_)
 generalize w16.drew=w17 at *
 refine tk 0 hHeld ?_
 refine tk 1 hHeld ?_
 refine tk 2 hHeld ?_
 refine tk 3 hHeld ?_
 refine tkl 4 hHeld (fun _ s=>s.elim fun _ s=>s.sees.kp) ?_
 refine tkm 5 hHeld (fun _ s=>s.elim fun _ s=>load_blkV (s.blk (i:=11) (by decide) (by decide) ((put_other _ _ (by decide)).trans F11.out)) vc_len) ?_
 refine tkb 6 [(0,.int .i64 2),(1,.agg (U8 vc).toArray)] hHeld (fun w=>C.buildI w 2 vc vc_len) ?_
 refine tkr 7 fun Kc hKc=>?_
 obtain ⟨RI,hRI⟩:∃B,w17.heap.size=B:=⟨_,rfl⟩
 have hdi:=HDx.out.newblk (k:=14) (by decide) (C.icells ⟨2,vc⟩).toArray 84
 have hbi:=C.build_im w17 ⟨2,vc⟩ vc_len
 rw[hRI] at hdi hbi
 refine C.step_slice_is (by rfl) 85 1 rfl (vs:=[(0,.agg (C.icells ⟨2,vc⟩).toArray)]) rfl hbi ?_
 simp only[Act.put,zA,zB,zC]
 have HDi:Hid (DS w2 (w17.alloc (.cells (C.icells ⟨2,vc⟩).toArray 84)) K xa xa pd (put (put XX 8 (.pp B pv ⟨2,3,xa.L,0⟩)) 14 (.blk RI 84 (C.icells ⟨2,vc⟩).toArray))):=hdi
 clear hdi hbi hRI HDx
 generalize w17.alloc (.cells (C.icells ⟨2,vc⟩).toArray 84)=w18 at *
 refine hKc.out _ _ ⟨xa,HDi.out.undo ((put_other _ _ (by decide)).trans (F14.out 14 (by decide)))⟩ (fun hHeld=>?_)
 clear hKc Kc
 refine tkr 8 fun Kc hKc=>?_
 go_simp
 refine (p_putb HDi.out (i:=14) (by decide) (by decide) (put_same _ _ _) ⟨(by show -9223372036854775808≤(2:Int)∧(2:Int)≤9223372036854775807;omega),vc_len,vc_bytes⟩ (q:=5) (by omega)).mono ?_
 rintro e w19 ⟨rfl,hd⟩
 rw[xb_put]
 have HDp:Hid (DS w2 w19 K xb xa pd (put XX 8 (.pp B pv ⟨2,3,xa.L,0⟩))):=DS.undo hd ((put_other _ _ (by decide)).trans (F14.out 14 (by decide)))
 clear hd HDi
 refine hKc.out _ _ ⟨xb,HDp.out⟩ (fun hHeld=>?_)
 clear hKc Kc
 refine tk 9 hHeld ?_
 clear hHeld
 refine wpAnyH_done (by kernel_rfl) (NoPanic.normal ?_) _
 have hps:=HDp.out.pst (i:=8) (by decide) (by decide) (put_same _ _ _)
 go_wp2_with fail
 refine (C.left_any hps (by rw[xa_L.1];decide)).mono ?_
 rintro e w20 ⟨v20,rfl,ho,b20⟩
 rw[List.drop_zero,xa_L.1] at ho
 have hwf:C.EnsWf [⟨0,va,2⟩,⟨2,vb,2⟩]:=by
  have:=HDp.out.oky.k.wf
  rw[xa_L.1] at this
  exact this
 obtain ⟨q20,c20,rfl,hE,-⟩:=C.EOwn.in ho hwf
 obtain ⟨g,og,rfl,-⟩:=hE.cells (by decide)
 have HDq:Hid (DS w2 w20.drew K xb xa pd (put XX 8 (.pp B pv ⟨2,3,xa.L,0⟩))):=(HDp.out.later b20).later (C.below_drawn 1)
 have HE:Hid (C.EIn w20.drew (some ⟨g,og,none⟩) 2 [⟨0,va,2⟩,⟨2,vb,2⟩]):=hE.later (C.below_drawn 1)
 have L1:Hid ((Instr.loadAt 51 (.pointer (some ⟨g,og+1*34+1,none⟩))).run prog w20.drew=.ok (.agg (U8 vb).toArray) w20.drew):=HE.out.loadv (k:=1) (i:=⟨2,vb,2⟩) rfl
 have L2:Hid (_):=load_blkV (HDq.out.blk (i:=10) (by decide) (by decide) (B:=VB) (t:=51) ((put_other _ _ (by decide)).trans F10.out)) vb_len
 clear hps ho hwf hE b20 HDp HE
 go_wp2_with fail
 refine wp_region_noPanic ?_
 refine wp_region_held_drew (S:=fun W=>(Instr.loadAt 51 (.pointer (some ⟨g,og+1*34+1,none⟩))).run prog W=.ok (.agg (U8 vb).toArray) W∧(Instr.loadAt 51 (.pointer (some ⟨VB,0,none⟩))).run prog W=.ok (.agg (U8 vb).toArray) W) (by kernel_rfl) ⟨L1.out,L2.out⟩ (fun hHeld=>?_)
 generalize w20.drew=w21 at *
 refine tk 0 hHeld ?_
 refine tk 1 hHeld ?_
 refine tk 2 hHeld ?_
 refine tk 3 hHeld ?_
 refine tk 4 hHeld ?_
 refine tk 5 hHeld ?_
 refine tk 6 hHeld ?_
 refine tk 7 hHeld ?_
 refine tk 8 hHeld ?_
 refine tk 9 hHeld ?_
 refine tk 10 hHeld ?_
 refine tk 11 hHeld ?_
 refine tk 12 hHeld ?_
 refine tk 13 hHeld ?_
 refine tk 14 hHeld ?_
 refine tkm 15 hHeld (fun _ s=>s.1) ?_
 refine tkm 16 hHeld (fun _ s=>s.2) ?_
 refine tkq 17 hHeld eqg_val (fun w=>neqV_same w vb vb_len) ?_
 refine tk 18 hHeld ?_
 clear hHeld
 refine wpAnyH_done (by kernel_rfl) (NoPanic.normal ?_) _
 clear L1 L2
 go_wp2_with fail
 go_loopw [20] (fun v W=>∃(i:Nat) (y:Sx) (p:Pt) (pv:Value),v=.int .i64 (i:Int)∧i≤5∧Hid ((i<5→Gn 3 0 xa.L xb.L sm (i+1) y p)∧(i=5→Gf 3 xa.L xb.L sm y p))∧Hid (DS w2 W K y xa pd (put XX 8 (.pp B pv p)))) (fun v _=>10-(intOf v).toNat)
 case atStart=>exact⟨0,xb,⟨2,3,xa.L,0⟩,pv,rfl,by omega,⟨fun _=>xb_go HDq.out.oky,fun e=>by omega⟩,HDq⟩
 case round =>
  obtain ⟨i,y,p,pv',rfl,hi,HG,HD⟩:=hrel
  clear HDq
  by_cases hlt:i<5
  ·have S:=(HG.out.1 hlt).step (hi:=3) HD.out.okx HD.out.dk
   have hL2:xa.L.length=2:=by rw[xa_L.1];rfl
   have hst:=step_at HT2.out HD.out (by have:=(HG.out.1 hlt).ws;omega) (by have:=(HG.out.1 hlt).nx;omega) (i:=8) (by decide) (by decide) S.1 (put_same _ _ _) (fun j h1 h2=>by rw[put_other _ _ (by omega)];exact F14.out j (by omega))
   rw[show K.c.hi=3 by rw[HK.out];rfl,S.2.1] at hst
   have HSTEP:Hid (_):=hst
   have HG2:Hid ((i+1<5→Gn 3 0 xa.L xb.L sm (i+1+1) (stepS 3 y p).2.2.1 (stepS 3 y p).2.2.2)∧(i+1=5→Gf 3 xa.L xb.L sm (stepS 3 y p).2.2.1 (stepS 3 y p).2.2.2)):=⟨fun h=>S.2.2.1 (by omega),fun h=>S.2.2.2 (by omega)⟩
   have LK:Hid (_):=HD.out.ldk
   have i1:(i:Int)<5:=by omega
   clear S hst hL2 HG HD
   generalize (stepS 3 y p).2.2.1=y' at *
   generalize (stepS 3 y p).2.2.2=p' at *
   generalize (stepS 3 y p).1=rw' at *
   go_wp2_with ((with_reducible refine C.at_ops ?_);(refine ldI 37 LK.out ?_))
   refine Calls.mono HSTEP.out ?_
   rintro e w22 ⟨pv2,rfl,hd⟩
   rw[put_put] at hd
   have HD2:Hid (DS w2 w22 K y' xa pd (put XX 8 (.pp B pv2 p'))):=hd
   clear hd HSTEP LK
   go_wp2_with fail
   go_roundw
   case rel=>exact⟨i+1,y',p',pv2,by congr 1,by omega,HG2,HD2⟩
   case measure=>simp[intOf];omega
  ·have i1:¬(i:Int)<5:=by omega
   have HF:Hid (Gf 3 xa.L xb.L sm y p):=HG.out.2 (by omega)
   obtain rfl:=HF.out.pi
   clear hlt hi HG
   have HLD:Hid (∀W,DS w2 W K y xa pd (put XX 8 (.pp B pv' ⟨1,0,[],0⟩))→Calls prog 18 #[qp K.dp,.agg (ccells sm).toArray,.int .i64 2] W fun e' w'=>e'=.returned (.tuple #[.agg (U8 vb).toArray,.int .i64 0])∧Below W.heap.size W w'):=fun W hW=>by
    have hl:=p_load HT2.out hW 2
    have h1:=HF.out.ld ⟨2,vb,2⟩ (by rw[xa_L.1];exact List.mem_cons_of_mem _ List.mem_cons_self)
    rw[HK.out,h1] at hl
    exact hl
   have HSM:Hid (∀W,DS w2 W K y xa pd (put XX 8 (.pp B pv' ⟨1,0,[],0⟩))→Calls prog 27 #[] W fun e' w'=>e'=.returned (.agg (ccells sm).toArray)∧Below W.heap.size W w'):=fun W _=>small_is W
   go_upto_region 30 with fail
   go_cut [21,22] from 165 to 174 (fun u u2 W=>∃RN,u=.pointer (some ⟨RN,0,none⟩)∧u2=.int .i64 0∧Hid (DS w2 W K y xa pd (put (put XX 8 (.pp B pv' ⟨1,0,[],0⟩)) 15 (.blk RN 51 (U8 vb).toArray))))
   case first =>
    go_wp2_with fail
    have HDa:Hid (DS w2 wr.drew K y xa pd (put XX 8 (.pp B pv' ⟨1,0,[],0⟩))):=HD.out.later (C.below_drawn 1)
    clear HD
    refine wp_region_noPanic ?_
    refine wp_region_held_drew (S:=fun W=>DS w2 W K y xa pd (put XX 8 (.pp B pv' ⟨1,0,[],0⟩))) (by kernel_rfl) HDa.out (fun hHeld=>?_)
    generalize wr.drew=wa at *
    refine tk 0 hHeld ?_
    refine tk 1 hHeld ?_
    refine tk 2 hHeld ?_
    refine tk 3 hHeld ?_
    refine tkl 4 hHeld (fun _ s=>s.sees.dp) ?_
    refine wpAnyH_ready (rs:=[5,10]) (by kernel_rfl) (by simp) ?_
    refine AllReadyH.cons (by simp;rfl) (fun Kc hKc=>?_) (AllReadyH.cons (by simp;rfl) (fun Kc hKc=>?_) AllReadyH.nil)
    ·go_simp
     refine (HSM.out _ hHeld).mono ?_
     rintro e' wl27 ⟨rfl,bl⟩
     have HDl27:Hid (DS w2 wl27 K y xa pd (put XX 8 (.pp B pv' ⟨1,0,[],0⟩))):=HDa.out.later bl
     clear bl HDa
     refine hKc.out _ _ (HDl27.out) (fun hHeld=>?_)
     clear hKc Kc
     refine wpAnyH_ready (rs:=[6,10]) (by kernel_rfl) (by simp) ?_
     refine AllReadyH.cons (by simp;rfl) (fun Kc hKc=>?_) (AllReadyH.cons (by simp;rfl) (fun Kc hKc=>?_) AllReadyH.nil)
     ·go_simp
      refine (HLD.out _ hHeld).mono ?_
      rintro e' wl18 ⟨rfl,bl⟩
      have HDl18:Hid (DS w2 wl18 K y xa pd (put XX 8 (.pp B pv' ⟨1,0,[],0⟩))):=HDl27.out.later bl
      clear bl HDl27
      refine hKc.out _ _ (HDl18.out) (fun hHeld=>?_)
      clear hKc Kc
      refine tk 7 hHeld ?_
      refine tk 8 hHeld ?_
      refine tk 9 hHeld ?_
      refine tkr 10 fun Kc hKc=>?_
      obtain ⟨RN,hRN⟩:∃B,wl18.heap.size=B:=⟨_,rfl⟩
      have hdv:=HDl18.out.newblk (k:=15) (by decide) (U8 (zs 32)).toArray 51
      have hal:=allocV wl18
      rw[hRN] at hdv hal
      refine C.step_alloc_is (by rfl) 51 rfl hal ?_
      simp only[Act.put,zA,zB,zC]
      have HDv:Hid (DS w2 (wl18.alloc (.cells (U8 (zs 32)).toArray 51)) K y xa pd (put (put XX 8 (.pp B pv' ⟨1,0,[],0⟩)) 15 (.blk RN 51 (U8 (zs 32)).toArray))):=hdv
      clear hdv hal hRN HDl18
      generalize wl18.alloc (.cells (U8 (zs 32)).toArray 51)=wv at *
      refine hKc.out _ _ (HDv.out.undo ((put_other _ _ (by decide)).trans (F14.out 15 (by decide)))) (fun hHeld=>?_)
      clear hKc Kc
      refine tkr 11 fun Kc hKc=>?_
      have hst:=VAt.store (HDv.out.blk (i:=15) (by decide) (by decide) (put_same _ _ _)) (zs_len 32) vb_len
      have hds:=HDv.out.blkput (j:=15) (by decide) (by decide) (put_same _ _ _) (U8 vb).toArray
      rw[put_put] at hds
      refine C.step_store_is (by rfl) 51 rfl rfl rfl hst ?_
      simp only[Act.put]
      have HDs:Hid (DS w2 (wv.setRow RN (U8 vb).toArray) K y xa pd (put (put XX 8 (.pp B pv' ⟨1,0,[],0⟩)) 15 (.blk RN 51 (U8 vb).toArray))):=hds
      clear hds hst HDv
      generalize wv.setRow RN (U8 vb).toArray=wt at *
      refine hKc.out _ _ (HDs.out.undo ((put_other _ _ (by decide)).trans (F14.out 15 (by decide)))) (fun hHeld=>?_)
      clear hKc Kc
      refine tk 12 hHeld ?_
      clear hHeld
      refine wpAnyH_done (by kernel_rfl) (NoPanic.normal ?_) _
      go_wp2_with fail
      go_meet
      case rel=>exact⟨RN,rfl,rfl,HDs⟩
     ·obtain ⟨RN,hRN⟩:∃B,wl27.heap.size=B:=⟨_,rfl⟩
      have hdv:=HDl27.out.newblk (k:=15) (by decide) (U8 (zs 32)).toArray 51
      have hal:=allocV wl27
      rw[hRN] at hdv hal
      refine C.step_alloc_is (by rfl) 51 rfl hal ?_
      simp only[Act.put,zA,zB,zC]
      have HDv:Hid (DS w2 (wl27.alloc (.cells (U8 (zs 32)).toArray 51)) K y xa pd (put (put XX 8 (.pp B pv' ⟨1,0,[],0⟩)) 15 (.blk RN 51 (U8 (zs 32)).toArray))):=hdv
      clear hdv hal hRN HDl27
      generalize wl27.alloc (.cells (U8 (zs 32)).toArray 51)=wv at *
      refine hKc.out _ _ (HDv.out.undo ((put_other _ _ (by decide)).trans (F14.out 15 (by decide)))) (fun hHeld=>?_)
      clear hKc Kc
      refine tkr 6 fun Kc hKc=>?_
      go_simp
      refine (HLD.out _ hHeld).mono ?_
      rintro e' wl18 ⟨rfl,bl⟩
      have HDl18:Hid (DS w2 wl18 K y xa pd (put (put XX 8 (.pp B pv' ⟨1,0,[],0⟩)) 15 (.blk RN 51 (U8 (zs 32)).toArray))):=HDv.out.later bl
      clear bl HDv
      refine hKc.out _ _ (HDl18.out.undo ((put_other _ _ (by decide)).trans (F14.out 15 (by decide)))) (fun hHeld=>?_)
      clear hKc Kc
      refine tk 7 hHeld ?_
      refine tk 8 hHeld ?_
      refine tk 9 hHeld ?_
      refine tkr 11 fun Kc hKc=>?_
      have hst:=VAt.store (HDl18.out.blk (i:=15) (by decide) (by decide) (put_same _ _ _)) (zs_len 32) vb_len
      have hds:=HDl18.out.blkput (j:=15) (by decide) (by decide) (put_same _ _ _) (U8 vb).toArray
      rw[put_put] at hds
      refine C.step_store_is (by rfl) 51 rfl rfl rfl hst ?_
      simp only[Act.put]
      have HDs:Hid (DS w2 (wl18.setRow RN (U8 vb).toArray) K y xa pd (put (put XX 8 (.pp B pv' ⟨1,0,[],0⟩)) 15 (.blk RN 51 (U8 vb).toArray))):=hds
      clear hds hst HDl18
      generalize wl18.setRow RN (U8 vb).toArray=wt at *
      refine hKc.out _ _ (HDs.out.undo ((put_other _ _ (by decide)).trans (F14.out 15 (by decide)))) (fun hHeld=>?_)
      clear hKc Kc
      refine tk 12 hHeld ?_
      clear hHeld
      refine wpAnyH_done (by kernel_rfl) (NoPanic.normal ?_) _
      go_wp2_with fail
      go_meet
      case rel=>exact⟨RN,rfl,rfl,HDs⟩
    ·obtain ⟨RN,hRN⟩:∃B,wa.heap.size=B:=⟨_,rfl⟩
     have hdv:=HDa.out.newblk (k:=15) (by decide) (U8 (zs 32)).toArray 51
     have hal:=allocV wa
     rw[hRN] at hdv hal
     refine C.step_alloc_is (by rfl) 51 rfl hal ?_
     simp only[Act.put,zA,zB,zC]
     have HDv:Hid (DS w2 (wa.alloc (.cells (U8 (zs 32)).toArray 51)) K y xa pd (put (put XX 8 (.pp B pv' ⟨1,0,[],0⟩)) 15 (.blk RN 51 (U8 (zs 32)).toArray))):=hdv
     clear hdv hal hRN HDa
     generalize wa.alloc (.cells (U8 (zs 32)).toArray 51)=wv at *
     refine hKc.out _ _ (HDv.out.undo ((put_other _ _ (by decide)).trans (F14.out 15 (by decide)))) (fun hHeld=>?_)
     clear hKc Kc
     refine tkr 5 fun Kc hKc=>?_
     go_simp
     refine (HSM.out _ hHeld).mono ?_
     rintro e' wl27 ⟨rfl,bl⟩
     have HDl27:Hid (DS w2 wl27 K y xa pd (put (put XX 8 (.pp B pv' ⟨1,0,[],0⟩)) 15 (.blk RN 51 (U8 (zs 32)).toArray))):=HDv.out.later bl
     clear bl HDv
     refine hKc.out _ _ (HDl27.out.undo ((put_other _ _ (by decide)).trans (F14.out 15 (by decide)))) (fun hHeld=>?_)
     clear hKc Kc
     refine tkr 6 fun Kc hKc=>?_
     go_simp
     refine (HLD.out _ hHeld).mono ?_
     rintro e' wl18 ⟨rfl,bl⟩
     have HDl18:Hid (DS w2 wl18 K y xa pd (put (put XX 8 (.pp B pv' ⟨1,0,[],0⟩)) 15 (.blk RN 51 (U8 (zs 32)).toArray))):=HDl27.out.later bl
     clear bl HDl27
     refine hKc.out _ _ (HDl18.out.undo ((put_other _ _ (by decide)).trans (F14.out 15 (by decide)))) (fun hHeld=>?_)
     clear hKc Kc
     refine tk 7 hHeld ?_
     refine tk 8 hHeld ?_
     refine tk 9 hHeld ?_
     refine tkr 11 fun Kc hKc=>?_
     have hst:=VAt.store (HDl18.out.blk (i:=15) (by decide) (by decide) (put_same _ _ _)) (zs_len 32) vb_len
     have hds:=HDl18.out.blkput (j:=15) (by decide) (by decide) (put_same _ _ _) (U8 vb).toArray
     rw[put_put] at hds
     refine C.step_store_is (by rfl) 51 rfl rfl rfl hst ?_
     simp only[Act.put]
     have HDs:Hid (DS w2 (wl18.setRow RN (U8 vb).toArray) K y xa pd (put (put XX 8 (.pp B pv' ⟨1,0,[],0⟩)) 15 (.blk RN 51 (U8 vb).toArray))):=hds
     clear hds hst HDl18
     generalize wl18.setRow RN (U8 vb).toArray=wt at *
     refine hKc.out _ _ (HDs.out.undo ((put_other _ _ (by decide)).trans (F14.out 15 (by decide)))) (fun hHeld=>?_)
     clear hKc Kc
     refine tk 12 hHeld ?_
     clear hHeld
     refine wpAnyH_done (by kernel_rfl) (NoPanic.normal ?_) _
     go_wp2_with fail
     go_meet
     case rel=>exact⟨RN,rfl,rfl,HDs⟩
   case rest =>
    obtain ⟨RV,rfl,rfl,HDb⟩:=hcut
    clear HD HLD HSM
    have HGT:Hid (Calls prog 17 #[qp K.kp,.int .i64 2] wc fun e w'=>e=.returned (.tuple #[.agg (C.ecells ⟨2,vc,5⟩).toArray,.bool true])∧Below wc.heap.size wc w'):=by
     have:=p_get HDb.out 2
     rw[HF.out.ls,xb_drop] at this
     exact this
    have kk:=HDb.out.sees.kp
    go_wp2_with fail
    refine Calls.mono HGT.out ?_
    rintro e w25 ⟨rfl,b25⟩
    have HDc:Hid (DS w2 w25 K y xa pd (put (put XX 8 (.pp B pv' ⟨1,0,[],0⟩)) 15 (.blk RV 51 (U8 vb).toArray))):=HDb.out.later b25
    clear b25 HDb HGT kk
    obtain ⟨RE,hRE⟩:∃B,w25.heap.size=B:=⟨_,rfl⟩
    have HA:Hid (_):=C.allocE C.etC w25
    have HST:Hid (_):=C.store_newE C.etC w25 ⟨2,vc,5⟩ vc_len
    have hde:=HDc.out.newblk (k:=16) (by decide) (C.ecells ⟨2,vc,5⟩).toArray 54
    rw[hRE] at HA HST hde
    obtain ⟨w26,hw26⟩:∃W,w25.alloc (.cells (C.ecells ⟨2,vc,5⟩).toArray 54)=W:=⟨_,rfl⟩
    rw[hw26] at HST hde
    have HP:Hid (C.PtAt w26 B 1 0 pv' [] 0):=hde.pt (i:=8) (by decide) (by decide) ((put_other _ _ (by decide)).trans ((put_other _ _ (by decide)).trans (put_same _ _ _)))
    have he:=hde.blk (i:=16) (by decide) (by decide) (B:=RE) (t:=54) (put_same _ _ _)
    have L1:Hid (_):=ent_val (z:=⟨2,vc,5⟩) he vc_len
    have cp:w26.cell? ⟨RE,33,none⟩=some (.int .u64 5):=by rw[cell_of_row _ _ _ _ _ _ he,List.getElem?_toArray];exact C.ecells_p (i:=⟨2,vc,5⟩) vc_len
    have L2:Hid (_):=load_blkV (hde.blk (i:=15) (by decide) (by decide) (B:=RV) (t:=51) ((put_other _ _ (by decide)).trans (put_same _ _ _))) vb_len
    have L3:Hid (_):=load_blkV (hde.blk (i:=10) (by decide) (by decide) (B:=VB) (t:=51) ((put_other _ _ (by decide)).trans ((put_other _ _ (by decide)).trans ((put_other _ _ (by decide)).trans F10.out)))) vb_len
    have L4:Hid (_):=load_blkV (hde.blk (i:=11) (by decide) (by decide) (B:=VC) (t:=51) ((put_other _ _ (by decide)).trans ((put_other _ _ (by decide)).trans ((put_other _ _ (by decide)).trans F11.out)))) vc_len
    have EB:Hid ((binOp .eql 51 (.agg (U8 vb).toArray) (.agg (U8 vb).toArray)).run prog w26=.ok (.bool true) w26):=by
     have:=C.eqlV w26 vb vb vb_len vb_len
     rw[decide_eq_true rfl] at this
     exact this
    have EC:Hid ((binOp .eql 51 (.agg (U8 vc).toArray) (.agg (U8 vc).toArray)).run prog w26=.ok (.bool true) w26):=by
     have:=C.eqlV w26 vc vc vc_len vc_len
     rw[decide_eq_true rfl] at this
     exact this
    have kk:=hde.sees.kp
    have kl:=hde.sees.lp
    have HDe:Hid (DS w2 w26 K y xa pd (put (put (put XX 8 (.pp B pv' ⟨1,0,[],0⟩)) 15 (.blk RV 51 (U8 vb).toArray)) 16 (.blk RE 54 (C.ecells ⟨2,vc,5⟩).toArray))):=hde
    have HBZ:Hid (Below w.heap.size w w26):=C.below_then B2.out hde.below
    clear hde he hw26 hRE HDc
    go_wp2_with ((with_reducible refine C.at_ops ?_);(first | (refine alI 54 HA.out ?_) | (refine stI 54 HST.out ?_)))
    refine (state_at HP.out).mono ?_
    rintro e w' ⟨rfl,hw'⟩
    rw[hw']
    clear hw' w' HA HST
    go_wp2_with ((with_reducible refine C.at_ops ?_);(first | (refine ldI 51 L1.out ?_) | (refine ldI 51 L2.out ?_) | (refine ldI 51 L3.out ?_) | (refine ldI 51 L4.out ?_) | ((refine C.wpList_eql_is (by rfl) 51 rfl rfl rfl eqg_val EB.out ?_);simp only[Act.put,zA,zB,zC]) | ((refine C.wpList_eql_is (by rfl) 51 rfl rfl rfl eqg_val EC.out ?_);simp only[Act.put,zA,zB,zC])))
    refine (p_len HDe.out).mono ?_
    rintro e w' ⟨rfl,hw'⟩
    rw[hw',show (y.L.length:Int)=1 by rw[HF.out.ls,xb_drop];rfl]
    clear hw' w'
    go_wp2_with fail
    refine (p_tail HDe.out).mono ?_
    rintro e w' ⟨rfl,rfl⟩
    rw[HF.out.ta]
    go_wp2
    go_ret
    exact⟨rfl,HBZ.out⟩
end
end Go.Proofs.YtcdjepkhdjpjcaaGreatDoor.Q
