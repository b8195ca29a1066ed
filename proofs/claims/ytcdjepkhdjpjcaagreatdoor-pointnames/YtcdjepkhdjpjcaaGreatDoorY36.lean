import Derived.Test.YtcdjepkhdjpjcaaGreatDoorY35
import Derived.ProofKit
import Derived.OpenShut
import Derived.Stop.Joined
import Derived.Stop.LaidErr
import Derived.Lib.LaidTab
import Derived.ShutString
set_option maxHeartbeats 20000000
set_option maxRecDepth 100000
namespace Go.Proofs.YtcdjepkhdjpjcaaGreatDoor.Q
open Go.Proofs.Tryz
open Go.RowKit
section
variable {P:Program} {ops:Array Oper} {rest:List Oper} {o:Oper} {a:Act} {w w':World} {Q:Exit→Act→World→Prop}
theorem wpList_slices_is (hgd:Region.wanted o (yielded ops a.tmps)=true)(ty n:Nat){ps:Array (Nat × Operand)}(ho:o.op=.buildSlice ty n ps){vs:List (Nat × Value)}{v:Value}(hx:ps.toList.map (fun (i,x)=>(i,a.eval x))=vs)(hrun:(Instr.buildSlice ty n vs.toArray).run P w=.ok v w')(h:wpList P ops Q rest (a.put o.dst v) w'):wpList P ops Q (o :: rest) a w :=
 wpList_val hgd (by unfold execOp;simp only[ho];rw[show ps.map (fun (i,x)=>(i,a.eval x))=vs.toArray by rw[← hx,← Array.toList_map]];simp only[Sem.run_bind,hrun,Result.andThen_ok,Sem.run_pure]) h
end
theorem eqg_val:prog.eqGuardType prog.depth 51=false:=by kernel_rfl
theorem va_len:va.length=32:=by rfl
theorem vb_len:vb.length=32:=by rfl
theorem va_bytes:Bytes va:=by unfold Bytes;decide
theorem vb_bytes:Bytes vb:=by unfold Bytes;decide
theorem build_va (w:World):(Instr.build 51 #[(0,.int .u8 1)]).run prog w=.ok (.agg (U8 va).toArray) w:=run_build w 51 _ _ (by kernel_rfl)
theorem build_vb (w:World):(Instr.build 51 #[(0,.int .u8 2)]).run prog w=.ok (.agg (U8 vb).toArray) w:=run_build w 51 _ _ (by kernel_rfl)
theorem info_val:(prog.info? 51).map (fun i=>(i.zero,i.size,i.bytes))=some (some (.agg (U8 zv).toArray),32,32):=by kernel_rfl
theorem build_vals (w:World):(Instr.buildSlice 79 2 #[(0,.agg (U8 va).toArray),(1,.agg (U8 vb).toArray)]).run prog w=.ok (.slice (some ⟨w.heap.size,0,none⟩) 2 2) (w.alloc (.cells (U8 va++U8 vb).toArray 51)):=by
 obtain ⟨i0,hi,hz0,hz1,hz2⟩:=info_parts info_val
 refine run_buildSlice w 79 51 2 _ _ i0 _ underlying79 hi hz0 (by rw[hz1];decide) (by rw[hz1];decide) ?_
 rw[hz1]
 kernel_rfl
theorem info_int:(prog.info? 3).map (fun i=>(i.zero,i.size,i.bytes))=some (some (.int .i64 0),1,8):=by kernel_rfl
theorem build_set (w:World):(Instr.buildSlice 59 2 #[(0,.int .i64 2),(1,.int .i64 0)]).run prog w=.ok (.slice (some ⟨w.heap.size,0,none⟩) 2 2) (w.alloc (.cells #[.int .i64 2,.int .i64 0] 3)):=by
 obtain ⟨i0,hi,hz0,hz1,hz2⟩:=info_parts info_int
 refine run_buildSlice w 59 3 2 _ _ i0 _ underlying59 hi hz0 (by rw[hz1];decide) (by rw[hz1];decide) ?_
 rw[hz1]
 kernel_rfl
theorem build_op (w:World)(s v:Value)(hs:s.oneCell'=true)(hv:v.oneCell'=true)(u:Option Addr)(m c:Nat)(u':Option Addr)(m' c':Nat)(es:s=.slice u m c)(ev:v=.slice u' m' c'):(Instr.build 81 #[(1,s),(2,v),(3,.bool true)]).run prog w=.ok (.agg #[.int .i64 0,s,v,.bool true,.int .i64 0]) w:=by
 subst es ev
 exact run_build w 81 _ _ (by kernel_rfl)
section
variable {w0 w:World} {K:Ks} {x y:Sx} {pd:List Cm} {X:Nat→Th}
abbrev oA (A B:Nat):Opv:=⟨0,some ⟨A,0,none⟩,2,2,[2,0],some ⟨B,0,none⟩,2,2,[va,vb],true,0⟩
theorem oA_in {A B i j:Nat}(hi:8≤i)(hi2:i<30)(hj:8≤j)(hj2:j<30)(e1:X i=.blk A 3 #[.int .i64 2,.int .i64 0])(e2:X j=.blk B 51 (U8 va++U8 vb).toArray):OpR w0 K X (oA A B):=by
 refine⟨fun W x y pd X' hD hX=>⟨⟨rfl,fun _=>⟨A,0,rfl,fun k hk=>?_⟩⟩,⟨rfl,fun v hv=>?_,fun _=>⟨B,0,rfl,fun k v hv=>?_⟩⟩⟩,(by show 2+80≤17592186044416;decide),(by show 2*32≤140737488355328;decide)⟩
 ·have h:=hD.blk hi (by omega) ((hX i hi hi2).trans e1)
  rw[cell_of_row _ _ _ _ _ _ h]
  have hk2:k<2:=hk
  have:k=0∨k=1:=by omega
  rcases this with rfl | rfl <;> rfl
 ·rcases List.mem_cons.1 hv with rfl | hv
  ·exact⟨va_len,va_bytes⟩
  ·rw[List.mem_singleton.1 hv];exact⟨vb_len,vb_bytes⟩
 ·have h:=hD.blk hj (by omega) ((hX j hj hj2).trans e2)
  have hk:=(List.getElem?_eq_some_iff.1 hv).1
  have:k=0∨k=1:=by simp at hk;omega
  rcases this with rfl | rfl
  ·cases hv;exact range_part (xs:=[]) (bs:=U8 va) (cs:=U8 vb) h
  ·cases hv;exact range_part (xs:=U8 va) (bs:=U8 vb) (cs:=[]) (by rw[List.append_nil];exact h)
theorem st1:stepS 3 xa ⟨1,0,[],0⟩=(rowC 14 (-1) zv 3 2,0,xa,⟨2,3,xa.L,0⟩):=by
 show choS 3 xa ⟨1,0,[],0⟩=_
 unfold choS
 rw[if_pos xa_due,xa_L.2.1,xa_L.1]
 rfl
theorem st2:stepS 3 xa ⟨2,3,xa.L,0⟩=(rowC 15 0 va 0 0,0,xa.sav 0 va,⟨2,3,xa.L,1⟩):=by
 show carS xa ⟨2,3,xa.L,0⟩ ((xa.L.drop 0).headD C.en0)=_
 have hz:(xa.L.drop 0).headD C.en0=⟨0,va,2⟩:=by rw[xa_L.1];rfl
 rw[hz]
 unfold carS
 rw[if_pos (by decide),if_pos (by rw[xa_L.1];decide)]
theorem row_c {W:World}{g:Nat}{k b:Int}{v:List Int}{q c:Int}(hv:v.length=32)(h:W.heap[g]?=some (.cells (rowC k b v q c).toArray 61 (0,0))):W.cell? ⟨g,0,none⟩=some (.int .i64 k)∧W.cell? ⟨g,4,none⟩=some (.int .i64 b)∧W.cell? ⟨g,37,none⟩=some (.int .u64 q)∧W.cell? ⟨g,38,none⟩=some (.int .i64 c)∧W.rangeAt g 5 (U8 v):=by
 have e:∀j,j<4→(rowC k b v q c)[37+j]?=[Value.int .u64 q,.int .i64 c,.int .i64 0,.slice none 0 0][j]?:=fun j hj=>by
  unfold rowC
  rw[List.getElem?_append_right (by simp;omega),List.getElem?_append_right (by simp[hv];omega)]
  congr 1
  simp[hv];omega
 refine⟨?_,?_,?_,?_,?_⟩
 ·rw[cell_of_row _ _ _ _ _ _ h];rfl
 ·rw[cell_of_row _ _ _ _ _ _ h];rfl
 ·rw[cell_of_row _ _ _ _ _ _ h];simpa using e 0 (by omega)
 ·rw[cell_of_row _ _ _ _ _ _ h];simpa using e 1 (by omega)
 ·exact range_part (xs:=[.int .i64 k,.int .u64 0,.int .i64 0,.int .u64 0,.int .i64 b]) (bs:=U8 v) (cs:=[.int .u64 q,.int .i64 c,.int .i64 0,.slice none 0 0]) h
theorem DS.newrow (h:DS w0 w K x y pd X){k:Nat}(h8:8≤k)(h40:k<40)(ds:List Value):DS w0 ((w.alloc (.cells row0.toArray 61)).setRow w.heap.size ds.toArray) K x y pd (put X k (.blk w.heap.size 61 ds.toArray)):=by
 have:=(h.newblk h8 row0.toArray 61).blkput h8 h40 (put_same _ _ _) ds.toArray
 rw[put_put] at this
 exact this
theorem load_val5 {W:World}{g:Nat}{v:List Int}(h:W.rangeAt g 5 (U8 v))(hv:v.length=32):(Instr.loadAt 51 (.pointer (some ⟨g,5,none⟩))).run prog W=.ok (.agg (U8 v).toArray) W:=run_loadAt_mid W g 5 51 (U8 v) _ h underlying51 rfl (by rw[C.sizeV,C.U8_length,hv])
theorem load_blkV {W:World}{g:Nat}{v:List Int}(h:W.heap[g]?=some (.cells (U8 v).toArray 51 (0,0)))(hv:v.length=32):(Instr.loadAt 51 (.pointer (some ⟨g,0,none⟩))).run prog W=.ok (.agg (U8 v).toArray) W:=VAt.load h hv
end
section
variable {w:World}
theorem awake_is (ht:Tab w):Calls prog 8 #[] w fun e w'=>e=.returned (.bool true)∧Below w.heap.size w w':=by
 have HT:Hid (Tab w):=ht
 clear ht
 go_enter func8,ntmps8
 go_wp2_with fail
 refine (small_is w).mono ?_
 rintro e w1 ⟨rfl,b1⟩
 have B1:Hid (Below w.heap.size w w1):=b1
 have HT1:Hid (Tab w1):=HT.out.later b1
 clear b1 HT
 go_wp2_with fail
 refine (lay_ok sm (by decide) HT1.out).mono ?_
 rintro e w2 ⟨K,rfl,hK,hd⟩
 have HK:Hid (K.c=sm):=hK
 have HD2:Hid (DS w1 w2 K (x0 sm) (x0 sm) [] (fun _=>.no)):=hd
 clear hd hK
 go_wp2_with fail
 refine (new_pt w2).mono ?_
 rintro e w3 ⟨rfl,hw3⟩
 obtain ⟨B,hB⟩:∃B,w2.heap.size=B:=⟨_,rfl⟩
 have HD3:Hid (DS w1 w3 K (x0 sm) (x0 sm) [] (put (fun _=>.no) 8 (.pp B (.slice none 0 0) ⟨1,0,[],0⟩))):=by rw[hw3,← hB];exact HD2.out.newpt (by decide)
 rw[hB]
 clear hw3 hB HD2
 have LK:Hid (_):=HD3.out.ldk
 go_wp2_with ((with_reducible refine C.at_ops ?_);(refine ldI 37 LK.out ?_))
 refine (state_at (HD3.out.pt (i:=8) (by decide) (by decide) rfl)).mono ?_
 rintro e w' ⟨rfl,hw'⟩
 subst hw'
 go_wp2_with ((with_reducible refine C.at_ops ?_);(refine ldI 37 LK.out ?_))
 refine (enabled_idle HD3.out (by show (1:Int)≤1000;omega) (i:=8) (by decide) (by decide) rfl).mono ?_
 rintro e w4 ⟨rfl,b4⟩
 have e0:dueS (x0 sm) K.c.hi=false:=by rw[HK.out];decide
 rw[e0]
 have HD4:Hid (DS w1 w4 K (x0 sm) (x0 sm) [] (put (fun _=>.no) 8 (.pp B (.slice none 0 0) ⟨1,0,[],0⟩))):=HD3.out.later b4
 clear b4 HD3 LK e0
 obtain ⟨VA,hVA⟩:∃B,w4.heap.size=B:=⟨_,rfl⟩
 obtain ⟨w5,hw5⟩:∃W,w4.alloc (.cells (U8 zv).toArray 51)=W:=⟨_,rfl⟩
 obtain ⟨VB,hVB⟩:∃B,w5.heap.size=B:=⟨_,rfl⟩
 obtain ⟨w6,hw6⟩:∃W,w5.alloc (.cells (U8 zv).toArray 51)=W:=⟨_,rfl⟩
 have hd6:DS w1 w6 K (x0 sm) (x0 sm) [] (put (put (put (fun _=>.no) 8 (.pp B (.slice none 0 0) ⟨1,0,[],0⟩)) 9 (.blk VA 51 (U8 zv).toArray)) 10 (.blk VB 51 (U8 zv).toArray)):=by
  rw[← hw6,← hVB]
  refine DS.newblk ?_ (by decide) _ _
  rw[← hw5,← hVA]
  exact HD4.out.newblk (by decide) _ _
 have hd7:=hd6.blkput (j:=9) (by decide) (by decide) (R:=VA) (ty:=51) rfl (U8 va).toArray
 have hd8:=hd7.blkput (j:=10) (by decide) (by decide) (R:=VB) (ty:=51) rfl (U8 vb).toArray
 have HS1:Hid ((Instr.storeAt 51 (.pointer (some ⟨VA,0,none⟩)) (.agg (U8 va).toArray)).run prog w6=.ok () (w6.setRow VA (U8 va).toArray)):=VAt.store (hd6.blk (i:=9) (by decide) (by decide) rfl) (C.zs_len 32) va_len
 have HS2:Hid ((Instr.storeAt 51 (.pointer (some ⟨VB,0,none⟩)) (.agg (U8 vb).toArray)).run prog (w6.setRow VA (U8 va).toArray)=.ok () ((w6.setRow VA (U8 va).toArray).setRow VB (U8 vb).toArray)):=VAt.store (hd7.blk (i:=10) (by decide) (by decide) rfl) (C.zs_len 32) vb_len
 have HA1:Hid ((Instr.alloc 51 true (.tuple #[])).run prog w4=.ok (.pointer (some ⟨VA,0,none⟩)) w5):=by rw[← hVA,← hw5];exact allocV w4
 have HA2:Hid ((Instr.alloc 51 true (.tuple #[])).run prog w5=.ok (.pointer (some ⟨VB,0,none⟩)) w6):=by rw[← hVB,← hw6];exact allocV w5
 have HB1:Hid (_):=build_va w4
 have HB2:Hid (_):=build_vb w4
 have HD8:Hid (DS w1 ((w6.setRow VA (U8 va).toArray).setRow VB (U8 vb).toArray) K (x0 sm) (x0 sm) [] (put (put (put (fun _=>.no) 8 (.pp B (.slice none 0 0) ⟨1,0,[],0⟩)) 9 (.blk VA 51 (U8 va).toArray)) 10 (.blk VB 51 (U8 vb).toArray))):=by
  refine hd8.congr fun i h8 h40=>?_
  by_cases c10:i=10
  ·subst c10;rfl
  ·by_cases c9:i=9
   ·subst c9;rfl
   ·rw[put_other _ _ c10,put_other _ _ c9,put_other _ _ c10,put_other _ _ c9,put_other _ _ c10,put_other _ _ c9]
 obtain ⟨w7,hw7⟩:∃W,w6.setRow VA (U8 va).toArray=W:=⟨_,rfl⟩
 rw[hw7] at HS1 HS2 HD8
 obtain ⟨w8,hw8⟩:∃W,w7.setRow VB (U8 vb).toArray=W:=⟨_,rfl⟩
 rw[hw8] at HS2 HD8
 clear hd6 hd7 hd8 hw5 hw6 hVA hVB HD4 hw7 hw8
 obtain ⟨SA,hSA⟩:∃B,w8.heap.size=B:=⟨_,rfl⟩
 obtain ⟨w9,hw9⟩:∃W,w8.alloc (.cells #[.int .i64 2,.int .i64 0] 3)=W:=⟨_,rfl⟩
 have HD9:Hid (DS w1 w9 K (x0 sm) (x0 sm) [] (put (put (put (put (fun _=>.no) 8 (.pp B (.slice none 0 0) ⟨1,0,[],0⟩)) 9 (.blk VA 51 (U8 va).toArray)) 10 (.blk VB 51 (U8 vb).toArray)) 11 (.blk SA 3 #[.int .i64 2,.int .i64 0]))):=by rw[← hw9,← hSA];exact HD8.out.newblk (by decide) _ _
 have HC1:Hid (_):=build_set w8
 rw[hw9,hSA] at HC1
 have L1:Hid (_):=load_blkV (HD9.out.blk (i:=9) (by decide) (by decide) (B:=VA) (t:=51) rfl) va_len
 have L2:Hid (_):=load_blkV (HD9.out.blk (i:=10) (by decide) (by decide) (B:=VB) (t:=51) rfl) vb_len
 obtain ⟨SV,hSV⟩:∃B,w9.heap.size=B:=⟨_,rfl⟩
 obtain ⟨w10,hw10⟩:∃W,w9.alloc (.cells (U8 va++U8 vb).toArray 51)=W:=⟨_,rfl⟩
 have HD10:Hid (DS w1 w10 K (x0 sm) (x0 sm) [] (put (put (put (put (put (fun _=>.no) 8 (.pp B (.slice none 0 0) ⟨1,0,[],0⟩)) 9 (.blk VA 51 (U8 va).toArray)) 10 (.blk VB 51 (U8 vb).toArray)) 11 (.blk SA 3 #[.int .i64 2,.int .i64 0])) 12 (.blk SV 51 (U8 va++U8 vb).toArray))):=by rw[← hw10,← hSV];exact HD9.out.newblk (by decide) _ _
 have HC2:Hid (_):=build_vals w9
 rw[hw10,hSV] at HC2
 have HC3:Hid (_):=build_op w10 (.slice (some ⟨SA,0,none⟩) 2 2) (.slice (some ⟨SV,0,none⟩) 2 2) rfl rfl _ _ _ _ _ _ rfl rfl
 clear HD8 HD9 hw9 hw10 hSA hSV
 go_wp2_with ((with_reducible refine C.at_ops ?_);(first | ((refine C.wpList_build_is (vs:=[(0,.int .u8 1)]) (by rfl) 51 rfl (by rfl) HB1.out ?_);simp only[Act.put,zA,zB,zC]) | ((refine C.wpList_build_is (vs:=[(0,.int .u8 2)]) (by rfl) 51 rfl (by rfl) HB2.out ?_);simp only[Act.put,zA,zB,zC]) | (refine alI 51 HA1.out ?_) | (refine alI 51 HA2.out ?_) | (refine stI 51 HS1.out ?_) | (refine stI 51 HS2.out ?_) | ((refine wpList_slices_is (vs:=[(0,.int .i64 2),(1,.int .i64 0)]) (by rfl) 59 2 rfl (by rfl) HC1.out ?_);simp only[Act.put,zA,zB,zC]) | (refine ldI 51 L1.out ?_) | (refine ldI 51 L2.out ?_) | ((refine wpList_slices_is (vs:=[(0,.agg (U8 va).toArray),(1,.agg (U8 vb).toArray)]) (by rfl) 79 2 rfl (by rfl) HC2.out ?_);simp only[Act.put,zA,zB,zC]) | ((refine C.wpList_build_is (vs:=[(1,.slice (some ⟨SA,0,none⟩) 2 2),(2,.slice (some ⟨SV,0,none⟩) 2 2),(3,.bool true)]) (by rfl) 81 rfl (by rfl) HC3.out ?_);simp only[Act.put,zA,zB,zC])))
 clear HB1 HB2 HA1 HA2 HS1 HS2 HC1 HC2 HC3 L1 L2
 refine (tx_at HT1.out HD10.out (fun i h30 h40=>by rw[put_other _ _ (by omega),put_other _ _ (by omega),put_other _ _ (by omega),put_other _ _ (by omega),put_other _ _ (by omega)]) (o:=oA SA SV) (oA_in (i:=11) (j:=12) (by decide) (by decide) (by decide) (by decide) rfl rfl) (by decide) (by decide) (by decide) (by decide)).mono ?_
 rintro e w11 ⟨rfl,hd⟩
 have HD11:Hid (DS w1 w11 K xa xa (txS (x0 sm) [] [2,0] [va,vb] true).2 (put (put (put (put (put (fun _=>.no) 8 (.pp B (.slice none 0 0) ⟨1,0,[],0⟩)) 9 (.blk VA 51 (U8 va).toArray)) 10 (.blk VB 51 (U8 vb).toArray)) 11 (.blk SA 3 #[.int .i64 2,.int .i64 0])) 12 (.blk SV 51 (U8 va++U8 vb).toArray))):=hd
 clear hd HD10
 generalize (txS (x0 sm) [] [2,0] [va,vb] true).2=pd at *
 have LK:Hid (_):=HD11.out.ldk
 go_wp2_with ((with_reducible refine C.at_ops ?_);(refine ldI 37 LK.out ?_))
 refine (enabled_idle HD11.out (by decide) (i:=8) (by decide) (by decide) rfl).mono ?_
 rintro e w12 ⟨rfl,b12⟩
 have e1:dueS xa K.c.hi=true:=by rw[HK.out];exact xa_due
 rw[e1]
 have HD12:Hid (DS w1 w12 K xa xa pd (put (put (put (put (put (fun _=>.no) 8 (.pp B (.slice none 0 0) ⟨1,0,[],0⟩)) 9 (.blk VA 51 (U8 va).toArray)) 10 (.blk VB 51 (U8 vb).toArray)) 11 (.blk SA 3 #[.int .i64 2,.int .i64 0])) 12 (.blk SV 51 (U8 va++U8 vb).toArray))):=HD11.out.later b12
 clear b12 HD11 LK e1
 have LK:Hid (_):=HD12.out.ldk
 go_wp2_with ((with_reducible refine C.at_ops ?_);(refine ldI 37 LK.out ?_))
 refine (step_at HT1.out HD12.out (by decide) (by decide) (i:=8) (by decide) (by decide) ⟨.inl rfl,fun e=>absurd (show (1:Int)=2 from e) (by decide)⟩ rfl (fun j h1 h2=>by rw[put_other _ _ (by omega),put_other _ _ (by omega),put_other _ _ (by omega),put_other _ _ (by omega),put_other _ _ (by omega)])).mono ?_
 rw[show K.c.hi=3 by rw[HK.out];rfl,st1]
 rintro e w13 ⟨pv,rfl,hd⟩
 have HD13:Hid (DS w1 w13 K xa xa pd (put (put (put (put (put (fun _=>.no) 8 (.pp B pv ⟨2,3,xa.L,0⟩)) 9 (.blk VA 51 (U8 va).toArray)) 10 (.blk VB 51 (U8 vb).toArray)) 11 (.blk SA 3 #[.int .i64 2,.int .i64 0])) 12 (.blk SV 51 (U8 va++U8 vb).toArray))):=by
  refine hd.congr fun i h8 h40=>?_
  by_cases c8:i=8
  ·subst c8;rfl
  ·rw[put_other _ _ c8]
   by_cases c12:i=12
   ·subst c12;rfl
   ·by_cases c11:i=11
    ·subst c11;rfl
    ·by_cases c10:i=10
     ·subst c10;rfl
     ·by_cases c9:i=9
      ·subst c9;rfl
      ·rw[put_other _ _ c12,put_other _ _ c11,put_other _ _ c10,put_other _ _ c9,put_other _ _ c8,put_other _ _ c12,put_other _ _ c11,put_other _ _ c10,put_other _ _ c9,put_other _ _ c8]
 clear hd HD12 LK
 obtain ⟨R1,hR1⟩:∃B,w13.heap.size=B:=⟨_,rfl⟩
 have hdr:=HD13.out.newrow (k:=13) (by decide) (by decide) (rowC 14 (-1) zv 3 2)
 have HA3:Hid (_):=alloc_row w13
 have HS3:Hid (_):=store_row (LAt.new 61 w13 row0) (ds:=rowC 14 (-1) zv 3 2) (rowC_len (C.zs_len 32)) (rowC_one _ _ _ _ _)
 rw[hR1] at hdr HA3 HS3
 have HD14:Hid (DS w1 ((w13.alloc (.cells row0.toArray 61)).setRow R1 (rowC 14 (-1) zv 3 2).toArray) K xa xa pd (put (put (put (put (put (put (fun _=>.no) 8 (.pp B pv ⟨2,3,xa.L,0⟩)) 9 (.blk VA 51 (U8 va).toArray)) 10 (.blk VB 51 (U8 vb).toArray)) 11 (.blk SA 3 #[.int .i64 2,.int .i64 0])) 12 (.blk SV 51 (U8 va++U8 vb).toArray)) 13 (.blk R1 61 (rowC 14 (-1) zv 3 2).toArray))):=hdr
 clear hdr hR1 HD13
 obtain ⟨w14,hw14⟩:∃W,(w13.alloc (.cells row0.toArray 61)).setRow R1 (rowC 14 (-1) zv 3 2).toArray=W:=⟨_,rfl⟩
 rw[hw14] at HD14 HS3
 clear hw14
 have LK:Hid (_):=HD14.out.ldk
 go_wp2_with ((with_reducible refine C.at_ops ?_);(first | (refine alI 61 HA3.out ?_) | (refine stI 61 HS3.out ?_) | (refine ldI 37 LK.out ?_)))
 clear HA3 HS3
 refine (step_at HT1.out HD14.out (by decide) (by decide) (i:=8) (by decide) (by decide) ⟨.inr (.inl rfl),fun _=>by rw[xa_L.1];decide⟩ rfl (fun j h1 h2=>by rw[put_other _ _ (by omega),put_other _ _ (by omega),put_other _ _ (by omega),put_other _ _ (by omega),put_other _ _ (by omega),put_other _ _ (by omega)])).mono ?_
 rw[show K.c.hi=3 by rw[HK.out];rfl,st2]
 rintro e w15 ⟨pv2,rfl,hd⟩
 have q1:=row_c (C.zs_len 32) (hd.blk (i:=13) (by decide) (by decide) (B:=R1) (t:=61) rfl)
 have q2:=load_blkV (hd.blk (i:=9) (by decide) (by decide) (B:=VA) (t:=51) rfl) va_len
 have HD15:Hid (DS w1 w15 K (xa.sav 0 va) xa pd (put (put (put (put (put (put (put (fun _=>.no) 8 (.pp B pv ⟨2,3,xa.L,0⟩)) 9 (.blk VA 51 (U8 va).toArray)) 10 (.blk VB 51 (U8 vb).toArray)) 11 (.blk SA 3 #[.int .i64 2,.int .i64 0])) 12 (.blk SV 51 (U8 va++U8 vb).toArray)) 13 (.blk R1 61 (rowC 14 (-1) zv 3 2).toArray)) 8 (.pp B pv2 ⟨2,3,xa.L,1⟩))):=hd
 clear hd HD14 LK q1 q2
 obtain ⟨R2,hR2⟩:∃B,w15.heap.size=B:=⟨_,rfl⟩
 have hdr:=HD15.out.newrow (k:=14) (by decide) (by decide) (rowC 15 0 va 0 0)
 have HA3:Hid (_):=alloc_row w15
 have HS3:Hid (_):=store_row (LAt.new 61 w15 row0) (ds:=rowC 15 0 va 0 0) (rowC_len va_len) (rowC_one _ _ _ _ _)
 rw[hR2] at hdr HA3 HS3
 obtain ⟨w16,hw16⟩:∃W,(w15.alloc (.cells row0.toArray 61)).setRow R2 (rowC 15 0 va 0 0).toArray=W:=⟨_,rfl⟩
 rw[hw16] at hdr HS3
 clear hw16 hR2 HD15
 have q1:=row_c (C.zs_len 32) (hdr.blk (i:=13) (by decide) (by decide) (B:=R1) (t:=61) rfl)
 have q2:=row_c va_len (hdr.blk (i:=14) (by decide) (by decide) (B:=R2) (t:=61) rfl)
 have L3:Hid (_):=load_blkV (hdr.blk (i:=9) (by decide) (by decide) (B:=VA) (t:=51) rfl) va_len
 have L4:Hid (_):=load_val5 q2.2.2.2.2 va_len
 have EV:Hid ((binOp .eql 51 (.agg (U8 va).toArray) (.agg (U8 va).toArray)).run prog w16=.ok (.bool true) w16):=by
  have:=C.eqlV w16 va va va_len va_len
  rw[decide_eq_true rfl] at this
  exact this
 have HP:Hid (_):=hdr.pt (i:=8) (by decide) (by decide) (B:=B) rfl
 have HBW:Hid (Below w.heap.size w w16):=C.below_then B1.out hdr.below
 obtain ⟨a1,-,a3,a4,-⟩:=q1
 obtain ⟨c1,c2,-,-,-⟩:=q2
 clear hdr
 go_wp2_with ((with_reducible refine C.at_ops ?_);(first | (refine alI 61 HA3.out ?_) | (refine stI 61 HS3.out ?_) | (refine ldI 51 L3.out ?_) | (refine ldI 51 L4.out ?_) | ((refine C.wpList_eql_is (by rfl) 51 rfl rfl rfl eqg_val EV.out ?_);simp only[Act.put,zA,zB,zC])))
 refine (state_at HP.out).mono ?_
 rintro e w' ⟨rfl,hw'⟩
 subst hw'
 go_wp2
 go_ret
 exact⟨rfl,HBW.out⟩
end
end Go.Proofs.YtcdjepkhdjpjcaaGreatDoor.Q
namespace Go.Proofs.YtcdjepkhdjpjcaaGreatDoor.Q
open Go.RowKit
open Go.ChangeShapes Go.WideShapes Go.ChangeAt Go.Deep
theorem ownK:ownKnob Tryz.prog.godebug=none:=by kernel_rfl
theorem gHalves : Tryz.prog.globalNamed "wicket/sum.halves" = some 1 := by kernel_rfl
theorem tHalves:(Tryz.prog.globals[1]?).map (·.type)=some 304:=by kernel_rfl
theorem gFields : Tryz.prog.globalNamed "wicket/super.fields" = some 0 := by kernel_rfl
theorem tFields:(Tryz.prog.globals[0]?).map (·.type)=some 263:=by kernel_rfl
theorem cells38:Tryz.prog.cellsOf 256=1:=by kernel_rfl
theorem cells78:Tryz.prog.cellsOf 304=16:=by kernel_rfl
theorem cells62:Tryz.prog.cellsOf 262=2:=by kernel_rfl
theorem cells3:Tryz.prog.cellsOf 3=1:=by kernel_rfl
def zs16:List Int:=[0,498536548,997073096,651767980,1994146192,1802195444,1303535960,1342533948,3988292384,4027552580,3604390888,3412177804,2607071920,2262029012,2685067896,3183342108]
theorem zs16_table:∀i,i<16→zs16[i]?=some ((table.getD i 0:Nat):Int):=by decide
abbrev laidS : List (String × DataW Unit) := [("wicket/sum.halves", Rows.laid_wicket_sum_halves), ("wicket/super.fields", Rows.laid_wicket_super_fields)]
theorem door_met (os:Os)(args:Array Value):laidMetH Tryz.prog laidS ((World.doorLaid Tryz.prog 400 os).forCall (fun _ _=>0) ⟨#[],args,[]⟩).memory :=
 laidMetH_of_parts3 (fuel:=8) (laidMet_of_run' 8 (by kernel_rfl) (by kernel_rfl)) (by kernel_rfl) (by kernel_rfl)
def pairD {H:Type}(a k:Nat):DataW H:=.agg [.lit (.int .i64 (a:Int)),.lit (.int .i64 (k:Int))]
theorem drop_one {α:Type}(l:List α)(i:Nat)(v:α)(h:(l.drop i).take 1=[v]):l[i]?=some v:=by
 have e:((l.drop i).take 1)[0]?=some v:=by rw[h];rfl
 rw[List.getElem?_take,if_pos (by omega),List.getElem?_drop] at e
 exact e
theorem pair_of {H:Type}{enc:TypeId × Value→H}{W:World}{b:Nat}{sp:Nat→Bool}{held:Bool}{m:Nat}{cs:List Value}{p:List MemPlace}{a k:Nat}(h:DataW.trod enc Tryz.prog W b sp held m 262 cs=some (pairD a k,p)) :
  cs[0]?=some (.int .i64 (a:Int))∧cs[1]?=some (.int .i64 (k:Int)):=by
 obtain ⟨xs,n,_,e,_,hxl,hg⟩:=DataW.trod_struct Tryz.underlying262 h
 have hxl2:xs.length=2:=hxl
 have g0:DataW.trod enc Tryz.prog W b sp held n 3 ((cs.drop 0).take (Tryz.prog.cellsOf 3))=xs[0]?:=hg 0 _ rfl
 have g1:DataW.trod enc Tryz.prog W b sp held n 3 ((cs.drop 1).take (Tryz.prog.cellsOf 3))=xs[1]?:=hg 1 _ rfl
 rw[cells3,List.getElem?_eq_getElem (by omega)] at g0 g1
 obtain ⟨a0,e0,d0,_⟩:=DataW.trod_int Tryz.underlying3 g0
 obtain ⟨a1,e1,d1,_⟩:=DataW.trod_int Tryz.underlying3 g1
 have f0:=drop_one _ _ _ e0
 have f1:=drop_one _ _ _ e1
 have ed:=congrArg Prod.fst e
 match xs,hxl2 with
 | [y0,y1],_ =>
  simp only[List.getElem_cons_zero,List.getElem_cons_succ] at d0 d1
  rw[d0,d1] at ed
  simp[pairD] at ed
  rw[f0,f1,ed.1,ed.2]
  exact⟨rfl,rfl⟩
def fdata {H:Type}:List (DataW H):=[pairD 6 1,pairD 8 1,pairD 9 1,pairD 10 1,pairD 11 1,pairD 12 1,pairD 16 8,pairD 24 8]
theorem fdata_at {H:Type}(i:Nat)(h:i<8):(fdata (H:=H))[i]?=some (pairD (fa.getD i 0) (fw.getD i 0)):=by
 have:i=0∨i=1∨i=2∨i=3∨i=4∨i=5∨i=6∨i=7:=by omega
 rcases this with rfl | rfl | rfl | rfl | rfl | rfl | rfl | rfl <;> rfl
theorem flds_of {H:Type}{enc:TypeId × Value→H}{W:World}{b:Nat}{sp:Nat→Bool}{held:Bool}{m:Nat}{cs:List Value}{p:List MemPlace}(h:DataW.trod enc Tryz.prog W b sp held m 263 cs=some (.agg fdata,p))(i:Nat)(hi:i<8) :
  cs[2*i]?=some (.int .i64 ((fa.getD i 0:Nat):Int))∧cs[2*i+1]?=some (.int .i64 ((fw.getD i 0:Nat):Int)):=by
 obtain ⟨xs,m',_,e,_,hxl,hf⟩:=DataW.trod_array Tryz.underlying263 h
 have e1:fdata=xs.map (·.1):=by
  have:=congrArg Prod.fst e
  injection this
 have g:=hf i hi
 rw[cells62] at g
 have hx:(xs.map (·.1))[i]?=some (pairD (fa.getD i 0) (fw.getD i 0)):=by rw[← e1];exact fdata_at i hi
 rw[List.getElem?_map] at hx
 obtain ⟨y,hy,hy1⟩:=Option.map_eq_some_iff.1 hx
 rw[hy] at g
 obtain ⟨d,pp⟩:=y
 simp only at hy1
 subst hy1
 have hp:=pair_of g
 rw[List.getElem?_take,if_pos (by omega),List.getElem?_drop,List.getElem?_take,if_pos (by omega),List.getElem?_drop] at hp
 rw[show i*2+0=2*i by omega,show i*2+1=2*i+1 by omega] at hp
 exact hp
theorem tab_of {W:World}(h:laidMetH Tryz.prog laidS W):Tab W:=by
 rw[MakeChecks.laidMetH_plain _ _ _ (by kernel_rfl)] at h
 have h' : laidMet Tryz.prog [("wicket/sum.halves", Lib.tabData .u32 zs16), ("wicket/super.fields", .agg fdata)] W := h
 refine⟨?_,?_⟩
 ·have hT:=Lib.tabIs_of_head gHalves tHalves Tryz.underlying304 Tryz.underlying256 cells38 cells78 h'
  intro i hi
  rw[World.var?_cell gHalves hT i]
  have:=zs16_table i hi
  simp[this]
 ·obtain ⟨ps,⟨g',t',cs,fuel,p,q,hg',ht',hvar,hd,_,_⟩,_⟩:=h'.tail
  obtain rfl:=Option.some.inj (gFields.symm.trans hg')
  obtain rfl:=Option.some.inj (tFields.symm.trans ht')
  intro i hi
  have hf:=flds_of hd i hi
  rw[World.var?_cell gFields hvar (2*i),World.var?_cell gFields hvar (2*i+1)]
  simpa using hf
end Go.Proofs.YtcdjepkhdjpjcaaGreatDoor.Q
namespace Go.Proofs.YtcdjepkhdjpjcaaGreatDoor.Q
open Go.RowKit
section
variable {x:Sx} {hi:Int} {j:Nat} {y:Sx} {p:Pt}
theorem ph_st {t tl:Int}{L:List C.En}(h:Ph t tl L j y p):p.Ok∧p.st≠1∧(p.st=2↔j≤L.length)∧(p.st=3↔j=L.length+1)∧(p.st=4↔j=L.length+2)∧(p.st=5↔j=L.length+3):=by
 have e:=h.pt
 have j1:=h.j1
 have j2:=h.j2
 by_cases c1:j≤L.length
 ·rw[if_pos c1,if_pos c1] at e
  subst e
  exact⟨⟨.inr (.inl rfl),fun _=>by show j-1<L.length;omega⟩,fun e=>(by cases e),⟨fun _=>c1,fun _=>rfl⟩,⟨fun e=>(by cases e),fun e=>by omega⟩,⟨fun e=>(by cases e),fun e=>by omega⟩,⟨fun e=>(by cases e),fun e=>by omega⟩⟩
 ·rw[if_neg c1,if_neg c1] at e
  by_cases c2:j=L.length+1
  ·rw[if_pos c2] at e
   subst e
   exact⟨⟨.inr (.inr (.inl rfl)),fun e=>by cases e⟩,fun e=>(by cases e),⟨fun e=>(by cases e),fun e=>by omega⟩,⟨fun _=>c2,fun _=>rfl⟩,⟨fun e=>(by cases e),fun e=>by omega⟩,⟨fun e=>(by cases e),fun e=>by omega⟩⟩
  ·rw[if_neg c2] at e
   by_cases c3:j=L.length+2
   ·rw[if_pos c3] at e
    subst e
    exact⟨⟨.inr (.inr (.inr (.inl rfl))),fun e=>by cases e⟩,fun e=>(by cases e),⟨fun e=>(by cases e),fun e=>by omega⟩,⟨fun e=>(by cases e),fun e=>by omega⟩,⟨fun _=>c3,fun _=>rfl⟩,⟨fun e=>(by cases e),fun e=>by omega⟩⟩
   ·rw[if_neg c3] at e
    subst e
    exact⟨⟨.inr (.inr (.inr (.inr rfl))),fun e=>by cases e⟩,fun e=>(by cases e),⟨fun e=>(by cases e),fun e=>by omega⟩,⟨fun e=>(by cases e),fun e=>by omega⟩,⟨fun e=>(by cases e),fun e=>by omega⟩,⟨fun _=>by omega,fun _=>rfl⟩⟩
end
open Go.Proofs.Tryz
section
variable {w0 w:World} {K:Ks} {x y:Sx} {pd:List Cm} {X:Nat→Th}
theorem DS.undo {k:Nat}{u:Th}(h:DS w0 w K x y pd (put X k u))(e:X k=.no):DS w0 w K x y pd X:=h.forget fun i _ _=>by
 by_cases e2:i=k
 ·subst e2;exact .inr e
 ·exact .inl (put_other _ _ e2).symm
end
theorem neqV (w:World)(xs ys:List Int)(hx:xs.length=32)(hy:ys.length=32):(binOp .neq 51 (.agg (U8 xs).toArray) (.agg (U8 ys).toArray)).run prog w=.ok (.bool (!decide (xs=ys))) w:=by
 rw[run_neq_struct,C.equalV w 9998 xs ys hx hy]
 rfl
theorem neqV_same (w:World)(xs:List Int)(hx:xs.length=32):(binOp .neq 51 (.agg (U8 xs).toArray) (.agg (U8 xs).toArray)).run prog w=.ok (.bool false) w:=by
 rw[neqV w xs xs hx hx,decide_eq_true rfl];rfl
section
variable {P:Program} {ops:Array Oper} {Q:Exit→Act→World→Prop} {md:Region.Mode} {S:World→Prop} {fuel:Nat} {listed:Array Bool} {a:Act} {w:World}
theorem tkq (i:Nat){oi:Oper}{ty t2:TypeId}{x y:Operand}{xs ys:Array Value}{v:Value}{a':Act}(hS:S w)(hgt:P.eqGuardType P.depth ty=false)(hrun:∀w,(binOp .neq ty (.agg xs) (.agg ys)).run P w=.ok v w)(h:wpAnyH P md ops Q S fuel (listed.setIfInBounds i true) a' w)(hi:ops[i]?=some oi:=by simp;rfl)(ho:oi.op=.binOp .neq ty x y t2:=by rfl)(hx:a.eval x=.agg xs:=by rfl)(hy:a.eval y=.agg ys:=by rfl)(hs:Region.noSelect ops=true:=by kernel_rfl)(hf:Region.free md ops listed i=true:=by kernel_rfl)(hr:(Region.ready md ops listed).contains i=true:=by kernel_rfl)(hg:Region.wanted oi (yielded ops a.tmps)=true:=by rfl)(ha:a.put oi.dst v=a':=by simp only[Act.put,zA,zB,zC];with_reducible rfl)(hQ:∀c a w,Q (.panic c) (a.put oi.dst v) w→Q (.panic c) a w:=by exact fun _ _ _ h=>h):wpAnyH P md ops Q S (fuel+1) listed a w :=
 wpAnyH_take hi hs hf hr hQ (C.yields_neq_is hg ty ho hx hy hgt hrun) hS (ha ▸ h)
end
section
variable {w0 w:World} {K:Ks} {x y:Sx} {pd pd':List Cm} {X:Nat→Th}
theorem p_putb (h:DS w0 w K x y pd X){i:Nat}(h8:8≤i)(h40:i<40){R:Nat}{m:C.Im}(e:X i=.blk R 84 (C.icells m).toArray)(hm:m.Wf){q:Int}(hq:0≤q∧q<18446744073709551616):Calls prog 32 #[qp K.kp,.slice (some ⟨R,0,none⟩) 1 1,.int .u64 q] w fun e w'=>e=.returned (.int .i64 (x.putE [m] q))∧DS w0 w' K (x.put [m] q) y pd X:=by
 have hb:=h.blk h8 h40 e
 obtain ⟨v,G,hl,-,-,ap,back⟩:=h.pcac
 have hM:C.MIn w (some ⟨R,0,none⟩) 1 [m]:=⟨rfl,fun z hz=>by rw[List.mem_singleton.1 hz];exact hm,fun _=>⟨R,0,rfl,fun j u hj=>by rw[Nat.zero_add,cell_of_row _ _ _ _ _ _ hb];simpa [C.IC] using hj⟩⟩
 refine (C.put_at hl h.okx.k hM (by omega) (fun a ha _ hb'=>?_) hq).mono ?_
 ·have hr:=ap i h8 h40 R (by rw[e];rfl)
  cases ha
  exact hr hb'
 ·rintro e' w' ⟨rfl,ve',hw⟩
  exact⟨rfl,back w' _ _ _ _ (by rw[nxR_put];exact hw) (h.okx.put (fun z hz=>by rw[List.mem_singleton.1 hz];exact hm) hq)⟩
end
end Go.Proofs.YtcdjepkhdjpjcaaGreatDoor.Q
namespace Go.Proofs.YtcdjepkhdjpjcaaGreatDoor.Q
open Go.RowKit
structure Gn (t tl:Int) (L M:List C.En) (c:Sup) (j:Nat) (y:Sx) (p:Pt):Prop where
 ph:Ph t tl L j y p
 L:y.L=M
 cf:y.g.c=c
 ws:y.ws.length≤100+j
 nx:y.a.next≤500
structure Gf (t:Int) (L M:List C.En) (c:Sup) (y:Sx) (p:Pt):Prop where
 pi:p=⟨1,0,[],0⟩
 ls:y.L=C.drps M L
 ta:y.g.tail=t
 cf:y.g.c=c
 ld:∀z∈L,ldS c (y.g.sz:Nat) y.ws y.d z.b=(z.v,0)
section
variable {t tl hi:Int} {L M:List C.En} {c:Sup} {j:Nat} {y:Sx} {p:Pt}
theorem Gn.step (h:Gn t tl L M c j y p)(ok:y.Ok)(hk:Dk y):p.Ok∧(stepS hi y p).2.1=0∧(j<L.length+3→Gn t tl L M c (j+1) (stepS hi y p).2.2.1 (stepS hi y p).2.2.2)∧(j=L.length+3→Gf t L M c (stepS hi y p).2.2.1 (stepS hi y p).2.2.2):=by
 have hps:=ph_st h.ph
 have hw:=h.ws
 by_cases c2:j≤L.length
 ·obtain ⟨z,hz,e1,e2,e3,hp⟩:=h.ph.carry (hi:=hi) ok c2
  refine⟨hps.1,e2,fun _=>⟨hp,by rw[e3];exact h.L,by rw[e3];exact h.cf,?_,by rw[e3];exact h.nx⟩,fun e=>by omega⟩
  rw[e3]
  show (y.ws++[_]).length≤_
  rw[List.length_append,List.length_singleton]
  omega
 ·by_cases c3:j=L.length+1
  ·obtain ⟨e1,e2,e3,hp⟩:=h.ph.flush (hi:=hi) ok hk c3
   exact⟨hps.1,e2,fun _=>⟨hp,by rw[e3];exact h.L,by rw[e3];exact h.cf,by rw[e3];exact Nat.zero_le _,by rw[e3];exact h.nx⟩,fun e=>by omega⟩
  ·by_cases c4:j=L.length+2
   ·obtain ⟨e1,e2,e3,hp⟩:=h.ph.mark (hi:=hi) c4
    refine⟨hps.1,e2,fun _=>⟨hp,by rw[e3];exact h.L,by rw[e3];exact h.cf,?_,by rw[e3];exact h.nx⟩,fun e=>by omega⟩
    rw[e3]
    show (y.ws++[_]).length≤_
    rw[List.length_append,List.length_singleton]
    omega
   ·have c5:j=L.length+3:=by have:=h.ph.j2;omega
    obtain ⟨e1,e2,e3,f1,f2,f3,f4,f5,f6⟩:=h.ph.free (hi:=hi) ok hk c5
    refine⟨hps.1,e2,fun e=>by omega,fun _=>⟨e3,by rw[f4,h.L],f2,f5.trans h.cf,?_⟩⟩
    have hsz:(stepS hi y p).2.2.1.g.sz=y.g.sz:=by unfold Lg.sz;rw[f5]
    rw[hsz,← h.cf]
    exact f6
end
def vc:List Int:=3 :: C.zs 31
theorem vc_len:vc.length=32:=by rfl
theorem vc_bytes:Bytes vc:=by unfold Bytes;decide
def xb:Sx:=xa.put [⟨2,vc⟩] 5
theorem xb_put:xa.putE [⟨2,vc⟩] 5=0:=by decide
theorem xb_L:xb.L=[⟨0,va,2⟩,⟨2,vc,5⟩]:=by rfl
theorem xa_run:Run xa []:=⟨by rfl,.inl (by rfl),by decide,by decide,by decide,by decide,by decide,by decide,by decide,fun _=>by decide,fun _ h=>absurd h List.not_mem_nil,by rw[xa_L.1];decide⟩
theorem xa_ws:xa.ws=[]:=by rfl
theorem xb_go (ok:xa.Ok):Gn 3 0 xa.L xb.L sm 1 xb ⟨2,3,xa.L,0⟩:=by
 obtain ⟨-,-,-,hp⟩:=Ph.start (hi:=3) xa_run ok xa_due (by rw[xa_ws];exact fun _ h=>absurd h List.not_mem_nil) ⟨1,0,[],0⟩ rfl
 rw[st1,xa_L.2.1] at hp
 have ht:xa.g.tail=0:=by decide
 rw[ht] at hp
 exact⟨⟨hp.j1,hp.j2,hp.pt,hp.ta,hp.tt,hp.us,hp.ma,hp.hm,hp.lo,hp.no,hp.up,hp.ins,hp.wf⟩,rfl,by rfl,by decide,by decide⟩
theorem xb_drop:C.drps xb.L xa.L=[⟨2,vc,5⟩]:=by rw[xb_L,xa_L.1];rfl
end Go.Proofs.YtcdjepkhdjpjcaaGreatDoor.Q
