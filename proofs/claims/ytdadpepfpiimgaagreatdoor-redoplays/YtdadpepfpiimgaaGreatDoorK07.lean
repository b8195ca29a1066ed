import Derived.Test.YtdadpepfpiimgaaGreatDoorK06
import Derived.Lib.AppendZerosOnto
set_option maxHeartbeats 20000000
set_option maxRecDepth 100000
namespace Go.Proofs.YtdadpepfpiimgaaGreatDoor.R
open Go.Proofs.Tryz
open Go.RowKit
theorem equal_any (p q:Option Addr)(n c m d:Nat)(xs ys:List Int)(w:World)(hx:BIn w p n xs)(hy:BIn w q m ys) :
  Calls prog 94 #[.slice p n c,.slice q m d] w fun e w'=>e=.returned (.bool (decide (xs=ys)))∧w=w':=by
 have q1:=hx.str c
 have q2:=hy.str d
 have HE:Hid (_):=str_eq xs ys hx.byte hy.byte
 clear hx hy
 go_enter func94,ntmps94
 go_wp2
 go_ret
 refine⟨?_,rfl⟩
 rw[← HE.out]
 rfl
section
variable {P:Program} {o:Oper} {a:Act} {w w':World} {K:Act→World→Prop} {Q:Exit→Act→World→Prop}
theorem wp_alloc_is (ty:TypeId)(ho:o.op=.alloc ty){v:Value}(hrun:(Instr.alloc ty true (.tuple #[])).run P w=.ok v w')(h:K (a.put o.dst v) w'):o.wp P a w K Q:=by
 have e:(execOp a.eval o).run P w=.ok (.value v) w':=by unfold execOp;simp only[ho,Sem.run_bind,hrun,Result.andThen_ok,Sem.run_pure]
 unfold Oper.wp;rw[e];exact h
theorem wp_store_is (ty:TypeId){x y:Operand}(ho:o.op=.store ty x y){p v:Value}(hx:a.eval x=p)(hy:a.eval y=v)(hrun:(Instr.storeAt ty p v).run P w=.ok () w')(h:K (a.put o.dst undef) w'):o.wp P a w K Q:=by
 have e:(execOp a.eval o).run P w=.ok .skip w':=by unfold execOp;simp only[ho,hx,hy,Sem.run_bind,hrun,Result.andThen_ok,Sem.run_pure]
 unfold Oper.wp;rw[e];exact h
theorem yields_build_is {ops:Array Oper}{S:World→Prop}(hw:Region.wanted o (yielded ops a.tmps)=true)(ty:TypeId){ps:Array (Nat × Operand)}(ho:o.op=.build ty ps){vs:List (Nat × Value)}{v:Value}(hx:ps.toList.map (fun (i,x)=>(i,a.eval x))=vs)(hrun:∀w,(Instr.build ty vs.toArray).run P w=.ok v w):YieldsIf P ops S o v a :=
 .inl ⟨hw,fun w _=>by unfold execOp;simp only[ho];rw[show ps.map (fun (i,x)=>(i,a.eval x))=vs.toArray by rw[← hx,← Array.toList_map]];simp only[Sem.run_bind,hrun w,Result.andThen_ok,Sem.run_pure]⟩
end
theorem RAt.setb {t:TypeId}{w:World}{g:Nat}{r:Rec}(h:RAt t w g r)(k:Int):RAt t (w.setCell ⟨g,2,none⟩ (.int .i64 k)) g ⟨r.kind,r.pos,k,r.val,r.images⟩:=by
 have:=heap_setCell_same w g 2 _ t (.int .i64 k) h
 unfold RAt
 rw[this]
 simp[rcells]
theorem RAt.seti {t:TypeId}{w:World}{g:Nat}{r:Rec}(h:RAt t w g r)(hv:r.val.length=32)(k:Int):RAt t (w.setCell ⟨g,35,none⟩ (.int .i64 k)) g ⟨r.kind,r.pos,r.block,r.val,k⟩:=by
 have:=heap_setCell_same w g 35 _ t (.int .i64 k) h
 unfold RAt
 rw[this]
 have e:(rcells r).set 35 (.int .i64 k)=rcells ⟨r.kind,r.pos,r.block,r.val,k⟩:=by
  simp only[rcells,zC]
  rw[List.set_append_right _ _ (by rw[U8_length,hv];omega),U8_length,hv]
  rfl
 rw[zA,e]
theorem splice_rec (r:Rec)(hv:r.val.length=32)(v:List Int)(h:v.length=32):splice (rcells r) 3 (U8 v)=rcells ⟨r.kind,r.pos,r.block,v,r.images⟩:=by
 unfold splice
 rw[U8_length,h]
 simp only[rcells,List.take_succ_cons,List.take_zero,List.cons_append,List.nil_append,List.drop_succ_cons]
 rw[List.drop_append,U8_length,hv,List.drop_of_length_le (by rw[U8_length,hv];omega)]
 rfl
theorem nums5 (xs:List Int):nums xs [1,1,2,8,4]=[worth (xs.take 1),worth ((xs.drop 1).take 1),worth ((xs.drop 2).take 2),worth ((xs.drop 4).take 8),worth ((xs.drop 12).take 4)]:=by
 simp[nums,List.drop_drop]
theorem worth_one (xs:List Int)(h:1<xs.length):worth ((xs.drop 1).take 1)=xs.getD 1 0:=by
 match xs,h with
 | [_],h=>simp at h
 | a :: b :: r,_=>simp[worth]
theorem parts_bd (xs:List Int)(hb:Bytes xs)(hl:xs.length=64):(0≤xs.getD 1 0∧xs.getD 1 0<256)∧(0≤worth ((xs.drop 4).take 8)∧worth ((xs.drop 4).take 8)≤18446744073709551615)∧(0≤worth ((xs.drop 12).take 4)∧worth ((xs.drop 12).take 4)<4294967296):=by
 have h1:0≤xs.getD 1 0∧xs.getD 1 0<256:=by
  rw[show xs.getD 1 0=xs[1]'(by omega) by simp[List.getD,List.getElem?_eq_getElem (show 1<xs.length by omega)]]
  exact hb.at 1 (by omega)
 have h2:=worth_bd ((xs.drop 4).take 8) ((hb.drop 4).take 8)
 have h3:=worth_bd ((xs.drop 12).take 4) ((hb.drop 12).take 4)
 rw[show ((xs.drop 4).take 8).length=8 by simp;omega,show (256:Int) ^ 8=18446744073709551616 by decide] at h2
 rw[show ((xs.drop 12).take 4).length=4 by simp;omega,show (256:Int) ^ 4=4294967296 by decide] at h3
 exact⟨h1,⟨h2.1,by omega⟩,h3⟩
theorem read_any (p:Option Addr)(c:Nat)(xs:List Int)(w:World)(hx:BIn w p 64 xs)(hc:64≤c) :
  Calls prog 92 #[.slice p 64 c] w fun e w'=>e=.returned (.agg (rcells (readS xs)).toArray)∧Below w.heap.size w w':=by
 obtain ⟨b,o,rfl,-⟩:=hx.cells (by omega)
 have HX:Hid (BIn w (some ⟨b,o,none⟩) 64 xs):=hx
 have A1:Hid (_):=alloc31 w
 have R1:Hid (RAt 139 (w.alloc (.cells (rcells rec0).toArray 139)) w.heap.size rec0):=RAt.new 139 w rec0
 have B1:Hid (Below w.heap.size w (w.alloc (.cells (rcells rec0).toArray 139))):=below_alloc w _
 clear hx
 go_enter func92,ntmps92
 go_wp2_with (refine wpList_alloc_is (by rfl) 139 rfl A1.out ?_)
 have HSZ:Hid ((w.alloc (.cells (rcells rec0).toArray 139)).heap.size=w.heap.size+1):=by show _=_;simp
 generalize w.alloc (.cells (rcells rec0).toArray 139)=W1 at *
 clear A1
 rw[← HSZ.out]
 have HZ:Hid (ZIn (W1.alloc (.cells #[.int .i64 1,.int .i64 1,.int .i64 2,.int .i64 8,.int .i64 4] 3)) W1.heap.size 0 5 [1,1,2,8,4]):=by
  refine⟨rfl,fun i h=>?_,fun i h=>?_⟩
  ·match i,h with
   | 0,_=>exact⟨by simp,by simp⟩
   | 1,_=>exact⟨by simp,by simp⟩
   | 2,_=>exact⟨by simp,by simp⟩
   | 3,_=>exact⟨by simp,by simp⟩
   | 4,_=>exact⟨by simp,by simp⟩
  ·rw[Nat.zero_add,cell_of_row _ W1.heap.size i _ 3 (0,0) (heap_alloc_new W1 _)]
   match i,h with
   | 0,_=>simp
   | 1,_=>simp
   | 2,_=>simp
   | 3,_=>simp
   | 4,_=>simp
 have HX2:Hid (BIn (W1.alloc (.cells #[.int .i64 1,.int .i64 1,.int .i64 2,.int .i64 8,.int .i64 4] 3)) (some ⟨b,o,none⟩) 64 xs):=(HX.out.later B1.out).later (below_alloc W1 _)
 go_wp2_with fail
 refine (fields_pos b o 64 c W1.heap.size 0 5 5 xs [1,1,2,8,4] _ HX2.out HZ.out hc (by omega) (by omega) (by decide) (by omega)).mono ?_
 rintro e w2 ⟨v1,v2,rfl,ho1,ho2,hb2⟩
 have HB2:Hid (Below W1.heap.size W1 w2):=below_of_alloc hb2
 obtain ⟨p1,c1,rfl,hi1,-⟩:=own_in64 ho1
 obtain ⟨p2,c2,rfl,hi2,-,-,-⟩:=own_in (n:=48) (xs:=xs.drop 16) ho2 (HX.out.byte.drop 16)
 rw[nums5,worth_one xs (by rw[HX.out.len];omega)] at hi1
 obtain ⟨g1,o1,rfl,hcs⟩:=hi1.cells (by omega)
 have n1:=hcs 1 (by simp)
 have n3:=hcs 3 (by simp)
 have n4:=hcs 4 (by simp)
 simp only[List.getElem_cons_succ,List.getElem_cons_zero] at n1 n3 n4
 have HR2:Hid (RAt 139 w2 w.heap.size rec0):=R1.out.later HB2.out
 have HI2:Hid (BIn w2 p2 32 ((xs.drop 16).take 32)):=hi2.take 32 (by omega)
 have HRS:Hid (readS xs=⟨xs.getD 1 0,worth ((xs.drop 4).take 8),if xs.getD 1 0=1 then worth ((xs.drop 12).take 4) else 0,(xs.drop 16).take 32,if xs.getD 1 0=1 then 0 else worth ((xs.drop 12).take 4)⟩):=rfl
 have HBD:=parts_bd xs HX.out.byte HX.out.len
 have HVL:Hid (((xs.drop 16).take 32).length=32):=by show _=_;simp[HX.out.len]
 have HB0:Hid (Below w.heap.size w w2):=below_then B1.out HB2.out
 have hlt:g1<w2.heap.size:=World.block_lt_of_cell? w2 _ n1
 clear ho1 ho2 hb2 hi1 hi2 hcs HZ HX2 HB2 R1 B1
 obtain ⟨V,hV⟩:∃V,V=(xs.drop 16).take 32:=⟨_,rfl⟩
 rw[← hV] at HVL HI2 HRS
 clear hV
 generalize xs.getD 1 0=k at *
 generalize worth ((xs.drop 4).take 8)=u at *
 generalize worth ((xs.drop 12).take 4)=m at *
 obtain ⟨⟨k0,k1⟩,⟨u0,u1⟩,m0,m1⟩:=HBD
 have BK:Hid (_):=fun w=>build31 w #[(0,.int .i64 k),(1,.int .u64 u)] ⟨k,u,0,zs 32,0⟩ ((fill_k rec0 rec0_len k _).trans (fill_p ⟨k,0,0,zs 32,0⟩ (zs_len 32) u []))
 go_wp2_with fail
 have kw:IntKind.i64.wrap k=k:=by rw[IntKind.wrap_i64];omega
 refine wp_region_noPanic ?_
 refine wp_region_held_drew (S:=fun w'=>w'.cell? ⟨g1,o1+1,none⟩=some (.int .u64 k)∧w'.cell? ⟨g1,o1+3,none⟩=some (.int .u64 u)) (by kernel_rfl) ⟨n1,n3⟩ (fun hHeld=>?_)
 refine wpAnyH_take (i:=0) (v:=?v0) (by simp;rfl) (by kernel_rfl) (by kernel_rfl) (by kernel_rfl) (fun _ _ _ h=>h) (Or.inl ⟨by rfl,?y0⟩) hHeld ?r0
 case y0=>intro w hSw;obtain ⟨z1,z3⟩:=hSw;go_simp;with_reducible rfl
 simp only[Act.put,zA,zB,zC]
 refine wpAnyH_take (i:=1) (v:=?v1) (by simp;rfl) (by kernel_rfl) (by kernel_rfl) (by kernel_rfl) (fun _ _ _ h=>h) (Or.inl ⟨by rfl,?y1⟩) hHeld ?r1
 case y1=>intro w hSw;obtain ⟨z1,z3⟩:=hSw;go_simp;with_reducible rfl
 simp only[Act.put,zA,zB,zC]
 refine wpAnyH_take (i:=2) (v:=?v2) (by simp;rfl) (by kernel_rfl) (by kernel_rfl) (by kernel_rfl) (fun _ _ _ h=>h) (Or.inl ⟨by rfl,?y2⟩) hHeld ?r2
 case y2=>intro w hSw;obtain ⟨z1,z3⟩:=hSw;go_simp;with_reducible rfl
 simp only[Act.put,zA,zB,zC]
 refine wpAnyH_take (i:=3) (v:=?v3) (by simp;rfl) (by kernel_rfl) (by kernel_rfl) (by kernel_rfl) (fun _ _ _ h=>h) (Or.inl ⟨by rfl,?y3⟩) hHeld ?r3
 case y3=>intro w hSw;obtain ⟨z1,z3⟩:=hSw;go_simp;with_reducible rfl
 simp only[Act.put,zA,zB,zC]
 refine wpAnyH_take (i:=4) (v:=?v4) (by simp;rfl) (by kernel_rfl) (by kernel_rfl) (by kernel_rfl) (fun _ _ _ h=>h) (Or.inl ⟨by rfl,?y4⟩) hHeld ?r4
 case y4=>intro w hSw;obtain ⟨z1,z3⟩:=hSw;go_simp;with_reducible rfl
 simp only[Act.put,zA,zB,zC]
 refine wpAnyH_take (i:=5) (v:=?v5) (by simp;rfl) (by kernel_rfl) (by kernel_rfl) (by kernel_rfl) (fun _ _ _ h=>h) (Or.inl ⟨by rfl,?y5⟩) hHeld ?r5
 case y5=>intro w hSw;obtain ⟨z1,z3⟩:=hSw;go_simp;with_reducible rfl
 simp only[Act.put,zA,zB,zC]
 refine wpAnyH_take (i:=6) (v:=?v6) (by simp;rfl) (by kernel_rfl) (by kernel_rfl) (by kernel_rfl) (fun _ _ _ h=>h) (Or.inl ⟨by rfl,?y6⟩) hHeld ?r6
 case y6=>intro w hSw;obtain ⟨z1,z3⟩:=hSw;go_simp;with_reducible rfl
 simp only[Act.put,zA,zB,zC]
 refine wpAnyH_take (i:=7) (v:=_) (by simp;rfl) (by kernel_rfl) (by kernel_rfl) (by kernel_rfl) (fun _ _ _ h=>h) (yields_build_is (vs:=[(0,.int .i64 k),(1,.int .u64 u)]) (by rfl) 139 rfl (by rfl) BK.out) hHeld ?_
 simp only[Act.put,zA,zB,zC]
 refine wpAnyH_ready (rs:=[8]) (by kernel_rfl) (by simp) ?_
 refine AllReadyH.cons (by simp;rfl) (fun Kc hKc=>?_) AllReadyH.nil
 rw[if_pos (by rfl)]
 refine wp_alloc_is 139 rfl (alloc31 w2.drew) ?_
 have ba:Below w2.heap.size w2 (w2.drew.alloc (.cells (rcells rec0).toArray 139)):=below_undrew (below_alloc w2.drew _)
 refine hKc.out _ _ ⟨(ba.cell (p:=⟨g1,o1+1,none⟩) hlt).trans n1,(ba.cell (p:=⟨g1,o1+3,none⟩) hlt).trans n3⟩ (fun hHeld=>?_)
 clear hKc Kc ba
 simp only[Act.put,zA,zB,zC]
 refine wpAnyH_ready (rs:=[9]) (by kernel_rfl) (by simp) ?_
 refine AllReadyH.cons (by simp;rfl) (fun Kc hKc=>?_) AllReadyH.nil
 rw[if_pos (by rfl)]
 refine wp_store_is 139 rfl rfl rfl (store_new size31 w2.drew ⟨k,u,0,zs 32,0⟩ (zs_len 32)) ?_
 have ba:Below w2.heap.size w2 (w2.drew.alloc (.cells (rcells ⟨k,u,0,zs 32,0⟩).toArray 139)):=below_undrew (below_alloc w2.drew _)
 refine hKc.out _ _ ⟨(ba.cell (p:=⟨g1,o1+1,none⟩) hlt).trans n1,(ba.cell (p:=⟨g1,o1+3,none⟩) hlt).trans n3⟩ (fun hHeld=>?_)
 clear hKc Kc hHeld
 refine wpAnyH_done (by kernel_rfl) (NoPanic.normal ?_) _
 simp only[Act.put]
 have HR3:Hid (RAt 139 (w2.drew.alloc (.cells (rcells ⟨k,u,0,zs 32,0⟩).toArray 139)) w2.heap.size ⟨k,u,0,zs 32,0⟩):=RAt.new 139 w2.drew _
 have HB3:Hid (Below w2.heap.size w2 (w2.drew.alloc (.cells (rcells ⟨k,u,0,zs 32,0⟩).toArray 139))):=ba
 have hs2:(w2.drew).heap.size=w2.heap.size:=rfl
 simp only[hs2]
 clear ba hs2
 generalize w2.drew.alloc (.cells (rcells ⟨k,u,0,zs 32,0⟩).toArray 139)=w3 at *
 have HN:Hid ((U8 V).length=Nat.min 48 32):=by show _=_;rw[U8_length,HVL.out];rfl
 have HP:Hid (0<(U8 V).length→some (⟨w2.heap.size,3,none⟩:Addr)=some ⟨w2.heap.size,3,none⟩∧∃ad,p2=some ad∧∀j v,(U8 V)[j]?=some v→w3.cell? (ad.add j)=some v):=by
  intro _
  have h48:=HI2.out.later HB3.out
  obtain ⟨b',o',e,-⟩:=h48.cells (by omega)
  refine⟨rfl,⟨b',o',none⟩,e,?_⟩
  rw[e] at h48
  exact h48.news
 have HF:Hid (3+(U8 V).length≤(rcells ⟨k,u,0,zs 32,0⟩).length):=by show _≤_;rw[U8_length,HVL.out,rcells_len _ (zs_len 32)];omega
 have HSP:Hid (splice (rcells ⟨k,u,0,zs 32,0⟩) 3 (U8 V)=rcells ⟨k,u,0,V,0⟩):=splice_rec _ (zs_len 32) _ HVL.out
 go_wp2_with (refine wpList_copy_splice rfl (.tmp 23) (.tmp 24) 27 27 rfl 5 underlying27 size5 (some ⟨w2.heap.size,3,none⟩) p2 32 32 48 c2 rfl rfl w2.heap.size 3 (rcells ⟨k,u,0,zs 32,0⟩) 139 HR3.out (U8 V) HN.out HP.out HF.out (ones_u8 _) w2.heap.size w2 HB3.out (Nat.le_refl _) ?_)
 intro w4 hg4 hb4
 have HR4:Hid (RAt 139 w4 w2.heap.size ⟨k,u,0,V,0⟩):=by
  have:=hg4.out
  rw[HSP.out] at this
  exact this
 have HB4:Hid (Below w2.heap.size w2 w4):=hb4
 have n4':=(hb4.cell (p:=⟨g1,o1+4,none⟩) hlt).trans n4
 have c0:=HR4.out.c0
 have c2':=HR4.out.c2
 have c35:=HR4.out.c35 HVL.out
 have f2:=frozen_of_row w4 w2.heap.size 2 _ 139 HR4.out
 have f35:=frozen_of_row w4 w2.heap.size 35 _ 139 HR4.out
 have HRB:Hid (RAt 139 w4 w.heap.size rec0):=HR2.out.later hb4
 have HNE:Hid (w.heap.size≠w2.heap.size):=by have:=HR2.out.lt;show _≠_;omega
 clear hg4 hb4 HN HP HF HSP HR3 HB3 n1 n3 n4 HI2 HX BK kw HR2
 have mw:IntKind.i64.wrap m=m:=by rw[IntKind.wrap_i64];omega
 by_cases hk:k=1
 ·subst hk
  have HR5:Hid (RAt 139 (w4.setCell ⟨w2.heap.size,2,none⟩ (.int .i64 m)) w2.heap.size ⟨1,u,m,V,0⟩):=HR4.out.setb m
  have HRB5:Hid (RAt 139 (w4.setCell ⟨w2.heap.size,2,none⟩ (.int .i64 m)) w.heap.size rec0):=(heap_setCell_other w4 ⟨w2.heap.size,2,none⟩ w.heap.size _ HNE.out).trans HRB.out
  have HB5:Hid (Below w.heap.size w (w4.setCell ⟨w2.heap.size,2,none⟩ (.int .i64 m))):=(below_then HB0.out HB4.out).setCell (by have:=HB0.out.size;exact this) _
  have HE:Hid (readS xs=⟨1,u,m,V,0⟩):=by show _=_;rw[HRS.out,if_pos rfl,if_pos rfl]
  have L6:Hid (_):=HR5.out.load31 HVL.out
  have ST:Hid (_):=HRB5.out.store (s:=⟨1,u,m,V,0⟩) size31 rec0_len HVL.out
  have HF:Hid (RAt 139 ((w4.setCell ⟨w2.heap.size,2,none⟩ (.int .i64 m)).setRow w.heap.size (rcells ⟨1,u,m,V,0⟩).toArray) w.heap.size ⟨1,u,m,V,0⟩∧Below w.heap.size w ((w4.setCell ⟨w2.heap.size,2,none⟩ (.int .i64 m)).setRow w.heap.size (rcells ⟨1,u,m,V,0⟩).toArray)):=⟨HRB5.out.stored _,below_setRow HB5.out (Nat.le_refl _) _⟩
  go_wp2_with (first | (refine wpList_load_is (by rfl) 139 rfl rfl L6.out ?_) | (refine wpList_store_is (by rfl) 139 rfl rfl rfl ST.out ?_))
  rw[HE.out]
  exact bodyPost_ret (results_cell1 results92 _ _ w.heap.size 139 _ _ (by rfl) HF.out.1 HVL.out underlying139 rfl size31) rfl ⟨rfl,HF.out.2⟩
 ·have HR5:Hid (RAt 139 (w4.setCell ⟨w2.heap.size,35,none⟩ (.int .i64 m)) w2.heap.size ⟨k,u,0,V,m⟩):=HR4.out.seti HVL.out m
  have HRB5:Hid (RAt 139 (w4.setCell ⟨w2.heap.size,35,none⟩ (.int .i64 m)) w.heap.size rec0):=(heap_setCell_other w4 ⟨w2.heap.size,35,none⟩ w.heap.size _ HNE.out).trans HRB.out
  have HB5:Hid (Below w.heap.size w (w4.setCell ⟨w2.heap.size,35,none⟩ (.int .i64 m))):=(below_then HB0.out HB4.out).setCell (by have:=HB0.out.size;exact this) _
  have HE:Hid (readS xs=⟨k,u,0,V,m⟩):=by show _=_;rw[HRS.out,if_neg hk,if_neg hk]
  have L6:Hid (_):=HR5.out.load31 HVL.out
  have ST:Hid (_):=HRB5.out.store (s:=⟨k,u,0,V,m⟩) size31 rec0_len HVL.out
  have HF:Hid (RAt 139 ((w4.setCell ⟨w2.heap.size,35,none⟩ (.int .i64 m)).setRow w.heap.size (rcells ⟨k,u,0,V,m⟩).toArray) w.heap.size ⟨k,u,0,V,m⟩∧Below w.heap.size w ((w4.setCell ⟨w2.heap.size,35,none⟩ (.int .i64 m)).setRow w.heap.size (rcells ⟨k,u,0,V,m⟩).toArray)):=⟨HRB5.out.stored _,below_setRow HB5.out (Nat.le_refl _) _⟩
  go_wp2_with (first | (refine wpList_load_is (by rfl) 139 rfl rfl L6.out ?_) | (refine wpList_store_is (by rfl) 139 rfl rfl rfl ST.out ?_))
  rw[HE.out]
  exact bodyPost_ret (results_cell1 results92 _ _ w.heap.size 139 _ _ (by rfl) HF.out.1 HVL.out underlying139 rfl size31) rfl ⟨rfl,HF.out.2⟩
theorem fill_none:Instr.fill (pl.toArray[·]?) (rcells rec0).toArray (#[]:Array (Nat × Value)).toList=some (rcells rec0).toArray:=rfl
theorem decode_len (p:Option Addr)(n c:Nat)(w:World)(hn:n≠64) :
  Calls prog 54 #[.slice p n c] w fun e w'=>e=.returned (.tuple #[.agg (rcells rec0).toArray,.int .i64 2])∧Below w.heap.size w w':=by
 have A1:Hid (_):=alloc31 w
 have R1:Hid (RAt 139 (w.alloc (.cells (rcells rec0).toArray 139)) w.heap.size rec0):=RAt.new 139 w rec0
 have B1:Hid (_):=build31 (w.alloc (.cells (rcells rec0).toArray 139)) #[] rec0 fill_none
 have S1:Hid (_):=store_new size31 w rec0 rec0_len
 have hn':(((n:Nat):Int) != 64)=true:=by simp;omega
 go_enter func54,ntmps54
 go_wp2_with (first | (refine wpList_alloc_is (by rfl) 139 rfl A1.out ?_) | (refine wpList_build_is (vs:=[]) (by rfl) 139 rfl (by rfl) B1.out ?_) | (refine wpList_store_is (by rfl) 139 rfl rfl rfl S1.out ?_))
 exact bodyPost_ret (results_rec results54 _ _ w.heap.size 139 _ _ (by rfl) R1.out rec0_len underlying139 rfl size31) rfl ⟨rfl,below_alloc w _⟩
theorem decode_64 (p:Option Addr)(c:Nat)(xs:List Int)(w:World)(hx:BIn w p 64 xs)(hc:64≤c)(ht:Half w) :
  Calls prog 54 #[.slice p 64 c] w fun e w'=>e=.returned (.tuple #[.agg (rcells (decS xs).1).toArray,.int .i64 (decS xs).2])∧Below w.heap.size w w':=by
 have A1:Hid (_):=alloc31 w
 have R1:Hid (RAt 139 (w.alloc (.cells (rcells rec0).toArray 139)) w.heap.size rec0):=RAt.new 139 w rec0
 have HX:Hid (BIn (w.alloc (.cells (rcells rec0).toArray 139)) p 64 xs):=hx.later (below_alloc w _)
 have HT:Hid (Half w):=ht
 have HW:Hid ((readS xs).Wf):=readS_wf xs hx.byte hx.len
 have HL:Hid (xs.length=64):=hx.len
 clear hx ht
 go_enter func54,ntmps54
 go_wp2_with (refine wpList_alloc_is (by rfl) 139 rfl A1.out ?_)
 refine (read_any p c xs _ HX.out hc).mono ?_
 rintro e w1 ⟨rfl,b1⟩
 have R2:Hid (RAt 139 w1 w.heap.size rec0):=R1.out.later b1
 have B2:Hid (Below w.heap.size w w1):=below_of_alloc b1
 have X2:Hid (BIn w1 p 64 xs):=HX.out.later b1
 clear b1 R1 HX A1
 obtain ⟨r,hr⟩:∃r,r=readS xs:=⟨_,rfl⟩
 have HRR:Hid (r=readS xs):=hr
 rw[← hr] at HW ⊢
 clear hr
 have A2:Hid (_):=alloc31 w1
 have S2:Hid (_):=store_new size31 w1 r HW.out.len
 have R3:Hid (RAt 139 (w1.alloc (.cells (rcells r).toArray 139)) w1.heap.size r):=RAt.new 139 w1 r
 have L3:Hid (_):=R3.out.load31 HW.out.len
 go_wp2_with (first | (refine wpList_alloc_is (by rfl) 139 rfl A2.out ?_) | (refine wpList_store_is (by rfl) 139 rfl rfl rfl S2.out ?_) | (refine wpList_load_is (by rfl) 139 rfl rfl L3.out ?_))
 have B3:Below w1.heap.size w1 (w1.alloc (.cells (rcells r).toArray 139)):=below_alloc w1 _
 refine (encode_any r HW.out _ (HT.out.later (below_then B2.out B3))).mono ?_
 rintro e w2 ⟨p2,n2,c2,rfl,hn2,-,m2⟩
 have B4:=below_then B3 m2.below
 have R4:Hid (RAt 139 w2 w1.heap.size r):=R3.out.later m2.below
 have R5:Hid (RAt 139 w2 w.heap.size rec0):=R2.out.later B4
 have HB:Hid (Below w.heap.size w w2):=below_then B2.out B4
 have X4:Hid (BIn w2 p 64 xs):=X2.out.later B4
 have E4:Hid (BIn w2 p2 n2 (encT r)):=m2.read
 have HNE:Hid (w.heap.size≠w1.heap.size):=by have:=R2.out.lt;show _≠_;omega
 clear m2 B3 B4 R3 L3 S2 A2 R2 B2 X2 hn2
 have L4:Hid (_):=R4.out.load31 HW.out.len
 have ST:Hid (_):=R5.out.store (s:=r) size31 rec0_len HW.out.len
 have SZ:Hid (_):=R5.out.store (s:=rec0) size31 rec0_len rec0_len
 have BZ:Hid (_):=build31 w2 #[] rec0 fill_none
 have F1:Hid (RAt 139 (w2.setRow w.heap.size (rcells r).toArray) w.heap.size r∧Below w.heap.size w (w2.setRow w.heap.size (rcells r).toArray)):=⟨R5.out.stored _,below_setRow HB.out (Nat.le_refl _) _⟩
 have F0:Hid (RAt 139 (w2.setRow w.heap.size (rcells rec0).toArray) w.heap.size rec0∧Below w.heap.size w (w2.setRow w.heap.size (rcells rec0).toArray)):=⟨R5.out.stored _,below_setRow HB.out (Nat.le_refl _) _⟩
 by_cases hm:may r=true
 ·rw[chk_yes r hm]
  by_cases he:encS r=xs
  ·have hq:decide (encT r=xs)=true:=by rw[encT_yes r hm,he];simp
   have HD:Hid (decS xs=(r,0)):=by
    show _=_
    rw[decS_ok xs HL.out (by unfold goodB;rw[← HRR.out,hm,he];simp),HRR.out]
   clear he hm
   go_wp2_with fail
   refine (equal_any p2 p n2 c2 64 c (encT r) xs w2 E4.out X4.out).mono ?_
   rintro e w3 ⟨rfl,rfl⟩
   go_wp2_with (first | (refine wpList_store_is (by rfl) 139 rfl rfl rfl ST.out ?_) | (refine wpList_load_is (by rfl) 139 rfl rfl L4.out ?_))
   rw[HD.out]
   exact bodyPost_ret (results_rec results54 _ _ w.heap.size 139 _ _ (by rfl) F1.out.1 HW.out.len underlying139 rfl size31) rfl ⟨rfl,F1.out.2⟩
  ·have hq:decide (encT r=xs)=false:=by rw[encT_yes r hm];simp[he]
   have HD:Hid (decS xs=(rec0,60)):=decS_bad xs HL.out (by unfold goodB;rw[← HRR.out,hm];simp[he])
   clear he hm
   go_wp2_with fail
   refine (equal_any p2 p n2 c2 64 c (encT r) xs w2 E4.out X4.out).mono ?_
   rintro e w3 ⟨rfl,rfl⟩
   go_wp2_with (first | (refine wpList_store_is (by rfl) 139 rfl rfl rfl SZ.out ?_) | (refine wpList_build_is (vs:=[]) (by rfl) 139 rfl (by rfl) BZ.out ?_))
   rw[HD.out]
   exact bodyPost_ret (results_rec results54 _ _ w.heap.size 139 _ _ (by rfl) F0.out.1 rec0_len underlying139 rfl size31) rfl ⟨rfl,F0.out.2⟩
 ·rw[chk_no r hm]
  have HD:Hid (decS xs=(rec0,60)):=decS_bad xs HL.out (by unfold goodB;rw[← HRR.out];simp[hm])
  clear hm
  go_wp2_with (first | (refine wpList_store_is (by rfl) 139 rfl rfl rfl SZ.out ?_) | (refine wpList_build_is (vs:=[]) (by rfl) 139 rfl (by rfl) BZ.out ?_))
  rw[HD.out]
  exact bodyPost_ret (results_rec results54 _ _ w.heap.size 139 _ _ (by rfl) F0.out.1 rec0_len underlying139 rfl size31) rfl ⟨rfl,F0.out.2⟩
theorem decode_any (p:Option Addr)(n c:Nat)(xs:List Int)(w:World)(hx:BIn w p n xs)(hc:n≤c)(ht:Half w) :
  Calls prog 54 #[.slice p n c] w fun e w'=>e=.returned (.tuple #[.agg (rcells (decS xs).1).toArray,.int .i64 (decS xs).2])∧Below w.heap.size w w':=by
 by_cases h:n=64
 ·subst h
  exact decode_64 p c xs w hx hc ht
 ·rw[decS_len xs (by rw[hx.len];exact h)]
  exact decode_len p n c w h
end Go.Proofs.YtdadpepfpiimgaaGreatDoor.R
namespace Go.Proofs.YtdadpepfpiimgaaGreatDoor
open Go.Proofs.Tryz
open Go.RowKit
theorem write_at {w:World}{S:Nat→Prop}{p n:Nat}{d:List Int}{ws:List Wr}(h:Dsk w S p n d ws)(i:Int)(h0:0≤i)(h1:i<n)(a:Option Addr)(c:Nat)(b:List Int)(hb:BIn w a 64 b)(hk:ws.length≤100000):Calls prog 64 #[.pointer (some ⟨p,0,none⟩),.int .i64 i,.slice a 64 c] w fun e w'=>e=.returned (.int .i64 0)∧Dsk w' (More S w) p n d (ws++[⟨i.toNat,b⟩])∧Kept S w w':=by
 have e0:((i.toNat:Nat):Int)=i:=by omega
 have:=write_good h i.toNat (by omega) a c b hb hk
 rw[e0] at this
 exact this
theorem refSum_pos (b o n c:Nat)(xs:List Int)(w:World)(h:BIn w (some ⟨b,o,none⟩) n xs)(h0:0<n)(hbig:n≤140737488355328) :
  Calls prog 143 #[.slice (some ⟨b,o,none⟩) n c] w fun e w'=>e=.returned (.int .u32 (crc xs:Nat))∧w=w':=by
 obtain ⟨b',o',e,hcs⟩:=h.cells h0
 simp only[Option.some.injEq,Addr.mk.injEq,and_true] at e
 obtain ⟨rfl,rfl⟩:=e
 have HC:Hid (∀i,i<n→w.cell? ⟨b,o+i,none⟩=some (.int .u8 (xs.getD i 0))):=hcs
 have HX:Hid (xs.length=n):=h.len
 have HK:Hid (Bytes xs):=h.byte
 clear hcs h
 go_enter func143,ntmps143
 go_wp2
 go_loop [3,4] (fun x i=>∃j:Nat,j≤n∧i=.int .i64 j∧x=.int .u32 (st 4294967295 (xs.take j):Nat)) (fun _ i=>n-(intOf i).toNat)
 case atStart=>exact⟨0,Nat.zero_le _,rfl,rfl⟩
 case round =>
  obtain ⟨j,hj,rfl,rfl⟩:=hrel
  have hlj:=st_lt 4294967295 (xs.take j) (by omega) (HK.out.take j)
  by_cases hjl:j<n
  ·have hcj:=HC.out j hjl
   have hjx:j<xs.length:=by rw[HX.out];exact hjl
   have hb:=HK.out.at j hjx
   have HJ:Hid (st 4294967295 (xs.take (j+1))=hn 8 (st 4294967295 (xs.take j) ^^^ xs[j].toNat)):=st_step _ xs j hjx
   rw[show xs.getD j 0=xs[j] by simp[List.getD,List.getElem?_eq_getElem hjx]] at hcj
   obtain ⟨z,hz⟩:∃z,z=st 4294967295 (xs.take j):=⟨_,rfl⟩
   rw[← hz] at hlj HJ ⊢
   obtain ⟨q,hq⟩:∃q,q=xs[j]:=⟨_,rfl⟩
   rw[← hq] at hb HJ hcj
   obtain ⟨hb0,hb1⟩:=hb
   clear hz hq
   obtain ⟨y,hy⟩:∃y,y=z ^^^ q.toNat:=⟨_,rfl⟩
   have hyl:y<4294967296:=by rw[hy];exact xor_lt _ _ hlj (by omega)
   have h1:bits .xor .u32 (z:Int) q=(y:Int):=by
    rw[hy,← u32_xor_nat z q.toNat hlj (by omega)]
    congr 1
    omega
   rw[← hy] at HJ
   clear hy
   go_wp2
   go_loop [3,5] (fun v i=>∃k:Nat,k≤8∧i=.int .i64 k∧v=.int .u32 (hn k y:Nat)) (fun _ i=>8-(intOf i).toNat)
   case atStart=>exact⟨0,by omega,rfl,rfl⟩
   case round =>
    obtain ⟨k,hk,rfl,rfl⟩:=hrel
    by_cases hlt:k<8
    ·have hl:=hn_lt k y hyl
     have HN:Hid (hn (k+1) y=hv (hn k y)):=hn_next k y
     obtain ⟨x,hx⟩:∃x,x=hn k y:=⟨_,rfl⟩
     rw[← hx] at HN hl ⊢
     clear hx
     by_cases hodd:x % 2=1
     ·have hx2:=u32_xor_nat (x / 2) 3988292384 (by omega) (by omega)
      have HV:Hid (hv x=x / 2 ^^^ 3988292384):=by show _=_;unfold hv;rw[if_pos hodd]
      have ho':(x:Int) % 2=1:=by omega
      have hx3:bits .xor .u32 ((x:Int) / 2) 3988292384=((x / 2 ^^^ 3988292384:Nat):Int):=hx2
      clear hx2
      go_wp2
      go_round
      case rel=>exact⟨k+1,by omega,by go_num,by rw[HN.out,HV.out]⟩
      case measure=>simp[intOf];omega
     ·have HV:Hid (hv x=x / 2):=by show _=_;unfold hv;rw[if_neg hodd,Nat.xor_zero]
      have ho':¬(x:Int) % 2=1:=by omega
      go_wp2
      go_round
      case rel=>exact⟨k+1,by omega,by go_num,by rw[HN.out,HV.out];rfl⟩
      case measure=>simp[intOf];omega
    ·obtain rfl:k=8:=by omega
     rw[← HJ.out]
     go_wp2
     go_round
     case rel=>exact⟨j+1,by omega,by go_num,rfl⟩
     case measure=>simp[intOf];omega
  ·have HA:Hid (xs.take j=xs):=List.take_of_length_le (by rw[HX.out];omega)
   have hxo:=u32_xor_nat _ 4294967295 hlj (by omega)
   have HO:Hid (bits .xor .u32 ((st 4294967295 (xs.take j):Nat):Int) 4294967295=((crc xs:Nat):Int)):=by
    show _=_
    rw[crc,← HA.out]
    simpa [HA.out] using hxo
   clear hxo
   go_wp2
   go_ret
   refine⟨?_,rfl⟩
   rw[← HO.out]
   rfl
theorem refConfig_any (s:Sup)(w:World) :
  Calls prog 55 #[.agg (ccells s).toArray] w fun e w'=>e=.returned (.int .i64 (cfg s))∧Below w.heap.size w w':=by
 have hA:CAt (w.alloc (.cells (ccells s).toArray 23)) w.heap.size s:=LAt.new 23 w (ccells s)
 have c0:=CAt.c0 hA
 have c1:=CAt.c1 hA
 have c2:=CAt.c2 hA
 have c3:=CAt.c3 hA
 have c4:=CAt.c4 hA
 have HB:Hid (Below w.heap.size w (w.alloc (.cells (ccells s).toArray 23))):=below_alloc w _
 have HC1:Hid (MayC s→cfg s=0):=cfg_yes s
 have HC0:Hid (¬MayC s→cfg s=3):=cfg_no s
 clear hA
 go_enter func55,ntmps55
 by_cases h1:(1≤s.bl∧s.bl≤64)∧(2≤s.lc∧s.lc≤64)
 ·obtain ⟨⟨a1,a2⟩,a3,a4⟩:=h1
  by_cases h2:(1≤s.mr∧s.mr≤16∧s.mr≤s.bl∧s.mr≤s.lc-1)
  ·obtain ⟨a5,a6,a7,a8⟩:=h2
   by_cases h3:(1≤s.hi∧s.hi≤s.lc)∧(1≤s.cl∧s.cl≤8)
   ·have HE:Hid (cfg s=0):=HC1.out ⟨⟨a1,a2⟩,⟨a3,a4⟩,⟨a5,a6,a7,a8⟩,h3.1,h3.2⟩
    obtain ⟨⟨b1,b2⟩,b3,b4⟩:=h3
    go_wp2
    go_ret
    exact⟨by rw[HE.out];rfl,HB.out⟩
   ·have HE:Hid (cfg s=3):=HC0.out fun h=>h3 ⟨h.2.2.2.1,h.2.2.2.2⟩
    have h3':s.hi<1∨(1≤s.hi∧s.lc<s.hi)∨((1≤s.hi∧s.hi≤s.lc)∧s.cl<1)∨((1≤s.hi∧s.hi≤s.lc)∧1≤s.cl∧8<s.cl):=by omega
    clear h3
    rcases h3' with h | ⟨h,h'⟩ | ⟨⟨h,h'⟩,h''⟩ | ⟨⟨h,h'⟩,h'',h'''⟩ <;> go_wp2 <;> go_ret <;> exact⟨by rw[HE.out];rfl,HB.out⟩
  ·have HE:Hid (cfg s=3):=HC0.out fun h=>h2 h.2.2.1
   have h2':s.mr<1∨(1≤s.mr∧16<s.mr)∨((1≤s.mr∧s.mr≤16)∧s.bl<s.mr)∨((1≤s.mr∧s.mr≤16)∧s.mr≤s.bl∧s.lc-1<s.mr):=by omega
   clear h2
   rcases h2' with h | ⟨h,h'⟩ | ⟨⟨h,h'⟩,h''⟩ | ⟨⟨h,h'⟩,h'',h'''⟩ <;> go_wp2 <;> go_ret <;> exact⟨by rw[HE.out];rfl,HB.out⟩
 ·have HE:Hid (cfg s=3):=HC0.out fun h=>h1 ⟨h.1,h.2.1⟩
  have h1':s.bl<1∨(1≤s.bl∧64<s.bl)∨((1≤s.bl∧s.bl≤64)∧s.lc<2)∨((1≤s.bl∧s.bl≤64)∧2≤s.lc∧64<s.lc):=by omega
  clear h1
  rcases h1' with h | ⟨h,h'⟩ | ⟨⟨h,h'⟩,h''⟩ | ⟨⟨h,h'⟩,h'',h'''⟩ <;> go_wp2 <;> go_ret <;> exact⟨by rw[HE.out];rfl,HB.out⟩
theorem refCheck_any (s:Sup)(w:World) :
  Calls prog 123 #[.agg (scells s).toArray] w fun e w'=>e=.returned (.int .i64 (chk s))∧Below w.heap.size w w':=by
 have HA:Hid (SAt 194 (w.alloc (.cells (scells s).toArray 194)) w.heap.size s):=LAt.new 194 w (scells s)
 have L1:Hid (_):=SAt.load23 HA.out
 have HB:Hid (Below w.heap.size w (w.alloc (.cells (scells s).toArray 194))):=below_alloc w _
 go_enter func123,ntmps123
 go_wp2_with ((with_reducible refine at_ops ?_);(refine wpList_load_is (by rfl) 23 rfl rfl L1.out ?_);simp only[Act.put,zA,zB,zC])
 refine (refConfig_any s _).mono ?_
 rintro e w1 ⟨rfl,b1⟩
 have HA1:Hid (SAt 194 w1 w.heap.size s):=LAt.later HA.out b1
 have HB1:Hid (Below w.heap.size w w1):=below_then HB.out b1
 have c5:=SAt.c5 HA1.out
 have c6:=SAt.c6 HA1.out
 clear b1 HA HB L1
 by_cases hc:MayC s
 ·rw[cfg_yes s hc]
  by_cases ht:MayT s
  ·have h1:=ht.1
   have h2:=ht.2.1
   have h3:=ht.2.2
   have HE:Hid (chk s=0):=chk_yes s ⟨hc,ht⟩
   clear hc ht
   go_wp2
   go_ret
   exact⟨by rw[HE.out];rfl,HB1.out⟩
  ·have HE:Hid (chk s=70):=chk_t s hc ht
   have ht':4611686018427387904<s.tail∨(s.tail≤4611686018427387904∧s.life<1)∨(s.tail≤4611686018427387904∧1≤s.life∧4611686018427387904<s.life):=by simp only[MayT] at ht;omega
   clear hc ht
   rcases ht' with h | ⟨h,h'⟩ | ⟨h,h',h''⟩ <;> go_wp2 <;> go_ret <;> exact⟨by rw[HE.out];rfl,HB1.out⟩
 ·rw[cfg_no s hc]
  have HE:Hid (chk s=3):=chk_c s hc
  clear hc
  go_wp2_with fail
  go_ret
  exact⟨by rw[HE.out];rfl,HB1.out⟩
theorem zeros_one (z:Value)(k:Nat):Builtin.zeroCells #[z] k=(List.replicate k z).toArray:=by
 have h:=toList_madeCells_one z k
 have e:Builtin.zeroCells #[z] k=madeCells #[z] k:=by simp[Builtin.zeroCells,madeCells]
 rw[e,← h]
section
variable {P:Program} (w:World)
theorem run_append_zeros_own (base:Nat)(t tn ty e:TypeId)(i:TypeInfo)(z:Value)(bytes:Nat)(kq kn:IntKind)(ht:P.underlying t=some (.slice e))(htn:P.underlying tn=some (.int kn))(hi:P.info? e=some i)(hz:i.zero=some z)
  (hsize:i.size=1) (hby:i.bytes=bytes) (hzc:z.cells=#[z]) (hone:z.oneCell'=true) (g n cap:Nat) (xs:List Value) (hown:w.ownsRow base e 1 (.slice (some ⟨g,0,none⟩) n cap) n xs) (k:Nat) (hk:0<k)
  (h63:n+k≤maxLen) (hbytes:(n+k)*bytes≤140737488355328) (hbase:base≤w.heap.size) :
  ∃v' w',(Builtin.append_ #[t,tn] ty #[.slice (some ⟨g,0,none⟩) n cap,.int kq k]).run P w=.ok v' w'∧w'.ownsRow base e 1 v' (n+k) (xs++List.replicate k z)∧w.grownBy w' (some g):=by
 have hsmall:n+k≤9223372036854775807:=by simp only[maxLen] at h63;omega
 have hlen:(xs++List.replicate k z).length=(n+k)*1:=by rw[List.length_append,hown.1,List.length_replicate];omega
 have hkb:k*i.bytes≤140737488355328:=by
  rw[hby]
  exact Nat.le_trans (Nat.mul_le_mul_right _ (by omega)) hbytes
 rcases hown.2 with ⟨h,_⟩ | ⟨g',cap',cur,h,hbg,hg,hnc,hcm,hcs,htake⟩
 ·simp at h
 ·simp only[Value.slice.injEq,Option.some.injEq,Addr.mk.injEq,and_true,true_and] at h
  obtain ⟨rfl,rfl⟩:=h
  by_cases hroom:n+k≤cap
  ·have hst:=run_storeCells_at P g n e (List.replicate k z) 0 cur w hg (by simp;omega) (by intro v hv;rw[List.eq_of_mem_replicate hv];exact hone)
   simp only[Nat.add_zero] at hst
   have hw:IntKind.i64.wrap (k:Int)=k:=by rw[IntKind.wrap_i64];omega
   have hneg:¬((k:Int)<0):=by omega
   have h48i:¬(281474976710656<(k:Int)*(i.bytes:Int)):=by
    rw[← Int.natCast_mul]
    omega
   have hk0:k≠0:=by omega
   have hr:(Builtin.append_ #[t,tn] ty #[.slice (some ⟨g,0,none⟩) n cap,.int kq k]).run P w=.ok (.slice (some ⟨g,0,none⟩) (n+k) cap) (w.setRow g (cur.toList.take n++List.replicate k z++cur.toList.drop (n+(List.replicate k z).length)).toArray):=by
    simp[Builtin.append_,run_underlying ht,run_underlying htn,sizeOf,typeInfo,zeroValue,hi,hz,hsize,asInt,asIntOf,hw,hneg,h48i,hroom,hk0,hzc,zeros_one,Addr.add_lit,hst]
   refine⟨_,_,hr,⟨hlen,.inr ⟨g,cap,_,rfl,hbg,setRow_heap w g cur _ e _ hg,hroom,hcm,?_,?_⟩⟩,⟨rfl,rfl,rfl,by simp,fun k _ hk=>setRow_other w g k _ (fun e=>hk (by simp[e]))⟩⟩
   ·simp only[List.size_toArray,List.length_append,List.length_take,List.length_drop,Array.length_toList,List.length_replicate]
    omega
   ·rw[Nat.mul_one] at htake
    rw[htake,← hlen]
    exact List.take_left
  ·have holds:∀j u,xs[j]?=some u→w.drew.cell? ((⟨g,0,none⟩:Addr).add j)=some u:=hown.cells (g:=g) rfl
   have hf:=run_firstCells_some (P:=P) w.drew i.size n ⟨g,0,none⟩ n cap xs (by rw[hsize];exact hown.1) holds
   have hr:=Lib.run_append_grow_zeros (P:=P) w t tn ty e i z kq kn ht htn hi hz (some ⟨g,0,none⟩) n cap xs hf k hk (by omega) (by omega) (by omega) (by omega) (growslice_fits (by omega) (by rw[hby];exact hbytes))
   have hge:=grownCap_ge w (n+k) cap e
   have hcm2:grownCap w (n+k) cap e≤maxLen:=grownCap_le_maxLen w (n+k) cap e h63
   refine⟨_,_,hr,⟨hlen,.inr ⟨w.heap.size,_,_,rfl,hbase,heap_alloc_new w.drew _,hge,hcm2,?_,?_⟩⟩,⟨rfl,rfl,rfl,by simp,fun k hk _=>heap_alloc_old w.drew _ hk⟩⟩
   ·have:=hown.1
    simp only[Array.size_append,List.size_toArray,size_zeroCells,hzc]
    simp
    omega
   ·simp only[Array.toList_append,hzc,zeros_one,List.append_assoc]
    rw[← List.append_assoc,← hlen]
    exact List.take_left
theorem wpList_append_zeros_own {ops:Array Oper}{rest:List Oper}{o:Oper}{a:Act}{Q:Exit→Act→World→Prop}(hgd:o.guard=none)(s x:Operand)(t tn:TypeId)
  (ho:o.op=.call { callee:=.builtin .append,args:=#[s,x],argTypes:=#[t,tn] }) (base:Nat) (e:TypeId) (i:TypeInfo) (z:Value) (bytes:Nat) (kq kn:IntKind) (ht:P.underlying t=some (.slice e)) (htn:P.underlying tn=some (.int kn)) (hi:P.info? e=some i) (hz:i.zero=some z)
  (hsize:i.size=1) (hby:i.bytes=bytes) (hzc:z.cells=#[z]) (hone:z.oneCell'=true) (g n cap:Nat) (xs:List Value) (hs:a.eval s=.slice (some ⟨g,0,none⟩) n cap) (hown:w.ownsRow base e 1 (.slice (some ⟨g,0,none⟩) n cap) n xs) (k:Nat) (hx:a.eval x=.int kq k) (hk:0<k)
  (h63:n+k≤maxLen) (hbytes:(n+k)*bytes≤140737488355328) (hbase:base≤w.heap.size)
  (h:∀v' w',w'.ownsRow base e 1 v' (n+k) (xs++List.replicate k z)→w.grownBy w' (some g)→wpList P ops Q rest (a.put o.dst v') w'):wpList P ops Q (o :: rest) a w:=by
 refine wpList_plain hgd fun K hK=>?_
 obtain ⟨v',w',hr,h1,h2⟩:=run_append_zeros_own (P:=P) w base t tn o.type e i z bytes kq kn ht htn hi hz hsize hby hzc hone g n cap xs hown k hk h63 hbytes hbase
 unfold Oper.wp
 simp[execOp,ho,resolve,invoke,builtin,hs,hx,hr,Result.andThen]
 exact hK _ _ (h v' w' h1 h2)
end
theorem div_step (n:Int)(j:Nat):n / 256 ^ j / 256=n / 256 ^ (j+1):=by
 rw[Int.pow_succ,Int.ediv_ediv_of_nonneg (Int.le_of_lt (pow_pos j))]
theorem div_bd (n:Int)(j:Nat)(h0:0≤n):0≤n / 256 ^ j∧n / 256 ^ j≤n :=
 ⟨Int.ediv_nonneg h0 (Int.le_of_lt (pow_pos j)),Int.ediv_le_self _ h0⟩
theorem low_any (n:Int)(k:Nat)(w:World)(h0:0≤n)(h1:n≤18446744073709551615)(hk:k≤8) :
  Calls prog 142 #[.int .u64 n,.int .i64 k] w fun e w'=>∃v,e=.returned v∧w'.ownsRow w.heap.size 5 1 v k (U8 (digits k n))∧Below w.heap.size w w':=by
 obtain ⟨i0,hi,hz0,hz1,hz2⟩:=info_parts info5
 have HL:Hid ((digits k n).length=k):=digits_length k n
 go_enter func142,ntmps142
 go_wp2
 go_loopw [0,5,6] (fun q v i wr=>∃j:Nat,j≤k∧i=.int .i64 j∧q=.int .u64 (n / 256 ^ j)∧wr.ownsRow w.heap.size 5 1 v j (U8 ((digits k n).take j))∧Below w.heap.size w wr) (fun _ _ i _=>k-(intOf i).toNat)
 case atStart=>exact⟨0,Nat.zero_le _,rfl,by simp,World.ownsRow_nil _ _ _ _,Below.refl _ _⟩
 case round =>
  obtain ⟨j,hj,rfl,rfl,hown,hb⟩:=hrel
  have hbd:=div_bd n j h0
  by_cases hlt:j<k
  ·have hjl:j<(digits k n).length:=by rw[HL.out];exact hlt
   have hg:=digits_get k n j hjl
   have hst:=div_step n j
   obtain ⟨q,hq⟩:∃q,q=n / 256 ^ j:=⟨_,rfl⟩
   rw[← hq] at hbd hg hst ⊢
   have HS:Hid (q / 256=n / 256 ^ (j+1)):=hst
   have HG:Hid ((digits k n)[j]=q % 256):=hg
   have HO:Hid (wr.ownsRow w.heap.size 5 1 u5 j (U8 ((digits k n).take j))):=hown
   have HB:Hid (Below w.heap.size w wr):=hb
   clear hq hst hg hown hb
   have hq1:q≤18446744073709551615:=by omega
   have hq0:=hbd.1
   have t1:q.tmod 256=q % 256:=Int.tmod_eq_emod_of_nonneg hq0
   have t2:q.tdiv 256=q / 256:=Int.tdiv_eq_ediv_of_nonneg hq0
   go_wp2_with (at_builtin;refine wpList_append_own _ rfl (.tmp 12) (.tmp 16) 27 rfl w.heap.size 5 i0 (.int .u8 0) 1 1 underlying27 hi hz0 hz1 hz2 rfl (by decide) u5 j (U8 ((digits k n).take j)) rfl (HO.out.alloc _) ⟨wr.heap.size,0,none⟩ 1 1 [.int .u8 (q % 256)] rfl rfl (cell_one_new _ _ _) (by intro u hu;obtain rfl:=List.mem_singleton.1 hu;rfl) (by unfold maxLen;omega) (by omega) (by have:=HB.out.size;simp;omega) ?_)
   intro v' w1 hown1 hgrow1 _
   have R1:w1.ownsRow w.heap.size 5 1 v' (j+1) (U8 ((digits k n).take (j+1))):=by
    rw[List.take_succ_eq_append_getElem hjl,HG.out]
    simpa [U8] using hown1
   have R2:Below w.heap.size w w1:=(HB.out.alloc HB.out.size _).grown hgrow1 (by have:=HB.out.size;simp;omega) (fun g hg=>(HO.out.lt g hg).1)
   have HR1:Hid (w1.ownsRow w.heap.size 5 1 v' (j+1) (U8 ((digits k n).take (j+1)))):=R1
   have HR2:Hid (Below w.heap.size w w1):=R2
   clear hown1 hgrow1 R1 R2 HO HB
   go_wp2
   go_roundw
   case rel=>exact⟨j+1,by omega,by go_num,by rw[HS.out],HR1.out,HR2.out⟩
   case measure=>simp[intOf];omega
  ·obtain rfl:k=j:=by omega
   rw[List.take_of_length_le (by rw[HL.out];exact Nat.le_refl _)] at hown
   have HO:Hid (wr.ownsRow w.heap.size 5 1 u5 k (U8 (digits k n))):=hown
   have HB:Hid (Below w.heap.size w wr):=hb
   clear hown hb
   go_wp2
   go_ret
   exact⟨u5,rfl,HO.out,HB.out⟩
theorem own_shape {w:World}{base:Nat}{v:Value}{n:Nat}{xs:List Value}(h:w.ownsRow base 5 1 v n xs)(h0:0<n):∃g cap,v=.slice (some ⟨g,0,none⟩) n cap∧n≤cap:=by
 rcases h.2 with ⟨_,h2⟩ | ⟨g,cap,cur,h2,_,_,h3,_⟩
 ·omega
 ·exact⟨g,cap,h2,h3⟩
theorem own_bin {w:World}{base g cap n:Nat}{xs:List Int}(h:w.ownsRow base 5 1 (.slice (some ⟨g,0,none⟩) n cap) n (U8 xs))(hb:Bytes xs):BIn w (some ⟨g,0,none⟩) n xs:=by
 obtain ⟨p,c,e,hr,_⟩:=own_in h hb
 simp only[Value.slice.injEq] at e
 rw[e.1]
 exact hr
abbrev ten (a b c d e:Int):List Int:=[1,0,a,b,c,d,e,0,0,0]
theorem laid_any (s:Sup)(hw:s.Wf)(w:World) :
  Calls prog 124 #[.agg (scells s).toArray] w fun e w'=>∃g c,e=.returned (.slice (some ⟨g,0,none⟩) 64 c)∧Made w w' (some ⟨g,0,none⟩) 64 c (encS s):=by
 obtain ⟨i0,hi,hz0,hz1,hz2⟩:=info_parts info5
 have HW:Hid (s.Wf):=hw
 obtain ⟨w0,hw0⟩:∃x,x=w.alloc (.cells (scells s).toArray 194):=⟨_,rfl⟩
 have hs0:w0.heap.size=w.heap.size+1:=by rw[hw0];simp
 have S0:SAt 194 w0 w.heap.size s:=by rw[hw0];exact LAt.new 194 w _
 have B0:Below w.heap.size w w0:=by rw[hw0];exact below_alloc w _
 have L0:Hid (_):=SAt.load23 S0
 have A1:Hid (_):=alloc23 w0
 have T1:Hid (_):=store_new23 w0 s
 obtain ⟨w1,hw1⟩:∃x,x=w0.alloc (.cells (ccells s).toArray 23):=⟨_,rfl⟩
 have hs1:w1.heap.size=w.heap.size+2:=by rw[hw1];simp[hs0]
 have S1:SAt 194 w1 w.heap.size s:=by rw[hw1];exact LAt.later S0 (below_alloc w0 _)
 have C1:CAt w1 (w.heap.size+1) s:=by rw[hw1,← hs0];exact LAt.new 23 w0 _
 have B1:Below w.heap.size w w1:=by rw[hw1];exact below_then B0 (below_alloc w0 _)
 rw[hs0,← hw1] at T1
 rw[hs0] at A1
 have cv:=conv_const w1 NM 6 (w.heap.size+2) hs1
 obtain ⟨w2,hw2⟩:∃x,x=w1.alloc (.cells NM 5 (6,7)):=⟨_,rfl⟩
 have hs2:w2.heap.size=w.heap.size+3:=by rw[hw2];simp[hs1]
 have b12:Below w1.heap.size w1 w2:=by rw[hw2];exact below_alloc w1 _
 have S2:SAt 194 w2 w.heap.size s:=LAt.later S1 b12
 have C2:CAt w2 (w.heap.size+1) s:=LAt.later C1 b12
 have N2:BIn w2 (some ⟨w.heap.size+2,0,none⟩) 6 nm:=by rw[hw2,← hs1];exact lit_mark w1 nm 6 (6,7) rfl nm_bytes
 have B2:Below w.heap.size w w2:=below_then B1 b12
 have cv2:(convert 27 27 (.slice (some ⟨w.heap.size+2,0,none⟩) 6 6)).run prog (w1.alloc (.cells NM 5))=.ok (.slice (some ⟨w.heap.size+2,0,none⟩) 6 6) w2:=by rw[hw2];exact cv
 obtain ⟨x1,hx1⟩:∃x,x=s.bl % 256:=⟨_,rfl⟩
 obtain ⟨x2,hx2⟩:∃x,x=s.lc % 256:=⟨_,rfl⟩
 obtain ⟨x3,hx3⟩:∃x,x=s.mr % 256:=⟨_,rfl⟩
 obtain ⟨x4,hx4⟩:∃x,x=s.hi % 256:=⟨_,rfl⟩
 obtain ⟨x5,hx5⟩:∃x,x=s.cl % 256:=⟨_,rfl⟩
 have q1:IntKind.u8.wrap s.bl=x1:=by rw[IntKind.wrap_u8,hx1]
 have q2:IntKind.u8.wrap s.lc=x2:=by rw[IntKind.wrap_u8,hx2]
 have q3:IntKind.u8.wrap s.mr=x3:=by rw[IntKind.wrap_u8,hx3]
 have q4:IntKind.u8.wrap s.hi=x4:=by rw[IntKind.wrap_u8,hx4]
 have q5:IntKind.u8.wrap s.cl=x5:=by rw[IntKind.wrap_u8,hx5]
 have HTB:Hid (Bytes (ten x1 x2 x3 x4 x5)):=by
  intro y hy
  simp only[ten,List.mem_cons,List.not_mem_nil,or_false] at hy
  omega
 have HBY:Hid (body s=((nm++ten x1 x2 x3 x4 x5)++digits 8 s.tail++digits 8 s.life)++List.replicate 28 0):=by
  show _=_
  unfold body
  rw[hx1,hx2,hx3,hx4,hx5]
  simp[zs]
 have N3:Hid (BIn (w2.alloc (.cells (U8 (ten x1 x2 x3 x4 x5)).toArray 5)) (some ⟨w.heap.size+3,0,none⟩) 10 (ten x1 x2 x3 x4 x5)):=by rw[← hs2];exact lit_in w2 _ 10 rfl HTB.out
 have N2':Hid (BIn (w2.alloc (.cells (U8 (ten x1 x2 x3 x4 x5)).toArray 5)) (some ⟨w.heap.size+2,0,none⟩) 6 nm):=N2.later (below_alloc w2 _)
 have B3:Hid (Below w.heap.size w (w2.alloc (.cells (U8 (ten x1 x2 x3 x4 x5)).toArray 5))):=below_then B2 (below_alloc w2 _)
 have S3:Hid (SAt 194 (w2.alloc (.cells (U8 (ten x1 x2 x3 x4 x5)).toArray 5)) w.heap.size s):=LAt.later S2 (below_alloc w2 _)
 have c0:=CAt.c0 C2
 have c1:=CAt.c1 C2
 have c2:=CAt.c2 C2
 have c3:=CAt.c3 C2
 have c4:=CAt.c4 C2
 have HO6:Hid (∀j u,(U8 nm)[j]?=some u→(w2.alloc (.cells (U8 (ten x1 x2 x3 x4 x5)).toArray 5)).cell? ⟨w.heap.size+2,0+j,none⟩=some u):=fun j u hu=>by
  have:=N2'.out.news j u hu
  rw[Go.WideShapes.add_plain] at this
  exact this
 have e0:=hw0.symm
 clear hw0 hw1 hw2 hs0 S0 S1 C1 C2 B0 B1 B2 b12 S2 N2 cv hx1 hx2 hx3 hx4 hx5 hw
 go_enter func124,ntmps124
 go_wp2_with (first | ((with_reducible refine at_ops ?_);(first | (refine wpList_load_is (by rfl) 23 rfl rfl L0.out ?_) | (refine wpList_alloc_is (by rfl) 23 rfl A1.out ?_) | (refine wpList_store_is (by rfl) 23 rfl rfl rfl T1.out ?_));simp only[Act.put,zA,zB,zC]) | (at_builtin;refine wpList_append_arg _ rfl (.tmp 8) (.tmp 24) 27 rfl 5 i0 (.int .u8 0) 1 1 underlying27 hi hz0 hz1 hz2 rfl (by decide) (w.heap.size+2) 0 6 6 (U8 nm) rfl rfl HO6.out ⟨w.heap.size+3,0,none⟩ 10 10 (U8 (ten x1 x2 x3 x4 x5)) rfl rfl N3.out.news (ones_u8 _) (fun h=>by omega) (by unfold maxLen;omega) (by omega) (fun h=>by omega) ?_;clear cv2))
 intro v4 w4 hown4 hgrow4
 have HO4:Hid (w4.ownsRow w.heap.size 5 1 v4 16 (U8 (nm++ten x1 x2 x3 x4 x5))):=by
  show w4.ownsRow _ _ _ _ _ _
  rw[show U8 (nm++ten x1 x2 x3 x4 x5)=U8 nm++U8 (ten x1 x2 x3 x4 x5) by simp only[U8,List.map_append]]
  exact own_mono hown4 (by omega)
 have hsz3:w.heap.size≤(w2.alloc (.cells (U8 (ten x1 x2 x3 x4 x5)).toArray 5)).heap.size:=B3.out.size
 have B4:Hid (Below w.heap.size w w4):=B3.out.grown hgrow4 hsz3 (by intro k hk;cases hk)
 have S4:Hid (SAt 194 w4 w.heap.size s):=(hgrow4.block _ (LAt.lt S3.out) (by simp)).trans S3.out
 have HTN:Hid (Bytes (nm++ten x1 x2 x3 x4 x5)):=nm_bytes.append HTB.out
 have HLN:Hid ((nm++ten x1 x2 x3 x4 x5).length=16):=rfl
 obtain ⟨H,hH⟩:∃H,H=nm++ten x1 x2 x3 x4 x5:=⟨_,rfl⟩
 rw[← hH] at HO4 HTN HLN HBY
 clear hown4 hgrow4 hsz3 hH B3 S3 N3 N2' HO6 HTB c0 c1 c2 c3 c4 q1 q2 q3 q4 q5 hs1 hs2 L0 A1 T1 e0
 have c5:=SAt.c5 S4.out
 go_wp2_with fail
 refine (low_any s.tail 8 w4 HW.out.tail.1 HW.out.tail.2 (by omega)).mono ?_
 rintro e w5 ⟨v5,rfl,ho5,b5⟩
 obtain ⟨g5,k5,rfl,-⟩:=own_shape ho5 (by omega)
 have N5:Hid (BIn w5 (some ⟨g5,0,none⟩) 8 (digits 8 s.tail)):=own_bin ho5 (digits_bytes _ _)
 have HO5:Hid (w5.ownsRow w.heap.size 5 1 v4 16 (U8 H)):=own_later HO4.out b5
 have S5:Hid (SAt 194 w5 w.heap.size s):=LAt.later S4.out b5
 have B5:Hid (Below w.heap.size w w5):=below_then B4.out b5
 clear ho5 b5 c5 HO4 S4 B4
 go_wp2_with (at_builtin;refine wpList_append_own _ rfl (.tmp 26) (.tmp 29) 27 rfl w.heap.size 5 i0 (.int .u8 0) 1 1 underlying27 hi hz0 hz1 hz2 rfl (by decide) v4 16 (U8 H) rfl HO5.out ⟨g5,0,none⟩ 8 k5 (U8 (digits 8 s.tail)) rfl (by rw[U8_length,digits_length]) N5.out.news (ones_u8 _) (by unfold maxLen;omega) (by omega) B5.out.size ?_)
 intro v6 w6 hown6 hgrow6 _
 have HO6:Hid (w6.ownsRow w.heap.size 5 1 v6 24 (U8 (H++digits 8 s.tail))):=by
  show w6.ownsRow _ _ _ _ _ _
  rw[show U8 (H++digits 8 s.tail)=U8 H++U8 (digits 8 s.tail) by simp only[U8,List.map_append]]
  exact hown6
 have hbl6:∀k,v4.ownBlock=some k→w.heap.size<k:=fun k hk=>by
  rcases Nat.lt_or_ge w.heap.size k with h | h
  ·exact h
  ·have h2:=(HO5.out.lt k hk).1
   obtain rfl:k=w.heap.size:=by omega
   rcases HO5.out.2 with ⟨h3,_⟩ | ⟨g',_,cs,h3,_,hg,_⟩
   ·rw[h3] at hk;cases hk
   ·rw[h3] at hk
    simp only[Value.ownBlock,Option.some.injEq] at hk
    subst hk
    have:=S5.out
    unfold LAt at this
    rw[this] at hg
    simp at hg
 have B6:Hid (Below w.heap.size w w6):=B5.out.grown hgrow6 B5.out.size (fun k hk=>by have:=hbl6 k hk;omega)
 have S6:Hid (SAt 194 w6 w.heap.size s):=(hgrow6.block _ (LAt.lt S5.out) (fun e=>by have:=hbl6 _ e.symm;omega)).trans S5.out
 clear hown6 hgrow6 hbl6 HO5 S5 B5 N5
 have c6:=SAt.c6 S6.out
 go_wp2_with fail
 refine (low_any s.life 8 w6 HW.out.life.1 HW.out.life.2 (by omega)).mono ?_
 rintro e w7 ⟨v7,rfl,ho7,b7⟩
 obtain ⟨g7,k7,rfl,-⟩:=own_shape ho7 (by omega)
 have N7:Hid (BIn w7 (some ⟨g7,0,none⟩) 8 (digits 8 s.life)):=own_bin ho7 (digits_bytes _ _)
 have HO7:Hid (w7.ownsRow w.heap.size 5 1 v6 24 (U8 (H++digits 8 s.tail))):=own_later HO6.out b7
 have B7:Hid (Below w.heap.size w w7):=below_then B6.out b7
 clear ho7 b7 c6 HO6 S6 B6
 go_wp2_with (at_builtin;refine wpList_append_own _ rfl (.tmp 31) (.tmp 34) 27 rfl w.heap.size 5 i0 (.int .u8 0) 1 1 underlying27 hi hz0 hz1 hz2 rfl (by decide) v6 24 (U8 (H++digits 8 s.tail)) rfl HO7.out ⟨g7,0,none⟩ 8 k7 (U8 (digits 8 s.life)) rfl (by rw[U8_length,digits_length]) N7.out.news (ones_u8 _) (by unfold maxLen;omega) (by omega) B7.out.size ?_)
 intro v8 w8 hown8 hgrow8 _
 have B8:Hid (Below w.heap.size w w8):=B7.out.grown hgrow8 B7.out.size (fun k hk=>(HO7.out.lt k hk).1)
 have HO8:Hid (w8.ownsRow w.heap.size 5 1 v8 32 (U8 (H++digits 8 s.tail++digits 8 s.life))):=by
  show w8.ownsRow _ _ _ _ _ _
  simp only[U8,List.map_append,List.append_assoc]
  exact hown8
 clear hown8 hgrow8 HO7 B7 N7
 obtain ⟨g8,k8,rfl,-⟩:=own_shape HO8.out (by omega)
 go_wp2_with (at_builtin;refine wpList_append_zeros_own _ rfl (.tmp 36) _ 27 3 rfl w.heap.size 5 i0 (.int .u8 0) 1 .i64 .i64 underlying27 underlying3 hi hz0 hz1 hz2 rfl rfl g8 32 k8 (U8 (H++digits 8 s.tail++digits 8 s.life)) rfl HO8.out 28 rfl (by omega) (by unfold maxLen;omega) (by omega) B8.out.size ?_)
 intro v9 w9 hown9 hgrow9
 have B9:Hid (Below w.heap.size w w9):=B8.out.grown hgrow9 B8.out.size (fun k hk=>(HO8.out.lt k hk).1)
 have HO9:Hid (w9.ownsRow w.heap.size 5 1 v9 60 (U8 (body s))):=by
  show w9.ownsRow _ _ _ _ _ _
  rw[HBY.out]
  simp only[U8,List.map_append,List.append_assoc,List.map_replicate]
  exact hown9
 clear hown9 hgrow9 HO8 B8 HBY HTN HLN
 obtain ⟨g9,k9,rfl,-⟩:=own_shape HO9.out (by omega)
 have N9:Hid (BIn w9 (some ⟨g9,0,none⟩) 60 (body s)):=own_bin HO9.out (body_bytes s)
 go_wp2_with fail
 refine (refSum_pos g9 0 60 k9 (body s) w9 N9.out (by omega) (by omega)).mono ?_
 rintro e w' ⟨rfl,rfl⟩
 have hcl:=crc_lt (body s) (body_bytes s)
 have HE:Hid (encS s=body s++digits 4 ((crc (body s):Nat):Int)):=rfl
 generalize crc (body s)=C at *
 go_wp2_with fail
 refine (low_any (C:Int) 4 w9 (by omega) (by omega) (by omega)).mono ?_
 rintro e w10 ⟨v10,rfl,ho10,b10⟩
 obtain ⟨g10,k10,rfl,-⟩:=own_shape ho10 (by omega)
 have N10:Hid (BIn w10 (some ⟨g10,0,none⟩) 4 (digits 4 (C:Int))):=own_bin ho10 (digits_bytes _ _)
 have HO10:Hid (w10.ownsRow w.heap.size 5 1 (.slice (some ⟨g9,0,none⟩) 60 k9) 60 (U8 (body s))):=own_later HO9.out b10
 have B10:Hid (Below w.heap.size w w10):=below_then B9.out b10
 clear ho10 b10 HO9 B9 N9
 go_wp2_with (at_builtin;refine wpList_append_own _ rfl (.tmp 38) (.tmp 42) 27 rfl w.heap.size 5 i0 (.int .u8 0) 1 1 underlying27 hi hz0 hz1 hz2 rfl (by decide) _ 60 (U8 (body s)) rfl HO10.out ⟨g10,0,none⟩ 4 k10 (U8 (digits 4 (C:Int))) rfl (by rw[U8_length,digits_length]) N10.out.news (ones_u8 _) (by unfold maxLen;omega) (by omega) B10.out.size ?_)
 intro v11 w11 hown11 hgrow11 _
 have B11:Hid (Below w.heap.size w w11):=B10.out.grown hgrow11 B10.out.size (fun k hk=>(HO10.out.lt k hk).1)
 have HO11:Hid (w11.ownsRow w.heap.size 5 1 v11 64 (U8 (encS s))):=by
  show w11.ownsRow _ _ _ _ _ _
  rw[HE.out,show U8 (body s++digits 4 (C:Int))=U8 (body s)++U8 (digits 4 (C:Int)) by simp only[U8,List.map_append]]
  exact hown11
 clear hown11 hgrow11 HO10 B10 N10
 obtain ⟨g11,k11,rfl,hk11⟩:=own_shape HO11.out (by omega)
 go_wp2_with fail
 go_ret
 exact⟨g11,k11,rfl,HO11.out,own_bin HO11.out (encS_bytes s),hk11,(fun e=>by cases e),B11.out⟩
end Go.Proofs.YtdadpepfpiimgaaGreatDoor
namespace Go.Proofs.YtdadpepfpiimgaaGreatDoor
open Go.RowKit
theorem BIn.cell {w:World}{b o n:Nat}{xs:List Int}(h:BIn w (some ⟨b,o,none⟩) n xs)(i:Nat)(hi:i<n):w.cell? ⟨b,o+i,none⟩=some (.int .u8 (xs.getD i 0)):=by
 have:=h.at i hi
 rwa [Go.WideShapes.add_plain] at this
open Go.Proofs.Tryz
theorem size26:(prog.info? 194).map (·.size)=some 7:=by kernel_rfl
theorem SAt.load26 {t:TypeId}{w:World}{g:Nat}{s:Sup}(h:SAt t w g s):(Instr.loadAt 194 (.pointer (some ⟨g,0,none⟩))).run prog w=.ok (.agg (scells s).toArray) w :=
 run_loadAt_mid w g 0 194 (scells s) _ (LAt.range h) underlying194 rfl (by rw[size26,scells_len])
section
variable {P:Program} {o:Oper} {a:Act} {w w':World} {K:Act→World→Prop} {Q:Exit→Act→World→Prop}
theorem wp_alloc_is (ty:TypeId)(ho:o.op=.alloc ty){v:Value}(hrun:(Instr.alloc ty true (.tuple #[])).run P w=.ok v w')(h:K (a.put o.dst v) w'):o.wp P a w K Q:=by
 have e:(execOp a.eval o).run P w=.ok (.value v) w':=by unfold execOp;simp only[ho,Sem.run_bind,hrun,Result.andThen_ok,Sem.run_pure]
 unfold Oper.wp;rw[e];exact h
theorem wp_store_is (ty:TypeId){x y:Operand}(ho:o.op=.store ty x y){p v:Value}(hx:a.eval x=p)(hy:a.eval y=v)(hrun:(Instr.storeAt ty p v).run P w=.ok () w')(h:K (a.put o.dst undef) w'):o.wp P a w K Q:=by
 have e:(execOp a.eval o).run P w=.ok .skip w':=by unfold execOp;simp only[ho,hx,hy,Sem.run_bind,hrun,Result.andThen_ok,Sem.run_pure]
 unfold Oper.wp;rw[e];exact h
theorem yields_build_is {ops:Array Oper}{S:World→Prop}(hw:Region.wanted o (yielded ops a.tmps)=true)(ty:TypeId){ps:Array (Nat × Operand)}(ho:o.op=.build ty ps){vs:List (Nat × Value)}{v:Value}(hx:ps.toList.map (fun (i,x)=>(i,a.eval x))=vs)(hrun:∀w,(Instr.build ty vs.toArray).run P w=.ok v w):YieldsIf P ops S o v a :=
 .inl ⟨hw,fun w _=>by unfold execOp;simp only[ho];rw[show ps.map (fun (i,x)=>(i,a.eval x))=vs.toArray by rw[← hx,← Array.toList_map]];simp only[Sem.run_bind,hrun w,Result.andThen_ok,Sem.run_pure]⟩
end
theorem refEncode_any (s:Sup)(hw:s.Wf)(w:World) :
  Calls prog 97 #[.agg (scells s).toArray] w fun e w'=>∃p n c,e=.returned (.tuple #[.slice p n c,.int .i64 (chk s)])∧n=(encT s).length∧Made w w' p n c (encT s):=by
 have R0:Hid (SAt 194 (w.alloc (.cells (scells s).toArray 194)) w.heap.size s):=LAt.new 194 w _
 have B0:Hid (Below w.heap.size w (w.alloc (.cells (scells s).toArray 194))):=below_alloc w _
 have L1:Hid (_):=SAt.load26 R0.out
 have HW:Hid (s.Wf):=hw
 clear hw
 go_enter func97,ntmps97
 go_wp2_with ((with_reducible refine at_ops ?_);(refine wpList_load_is (by rfl) 194 rfl rfl L1.out ?_);simp only[Act.put,zA,zB,zC])
 refine (refCheck_any s _).mono ?_
 rintro e w1 ⟨rfl,b1⟩
 have R1:Hid (SAt 194 w1 w.heap.size s):=LAt.later R0.out b1
 have B1:Hid (Below w.heap.size w w1):=below_then B0.out b1
 have L2:Hid (_):=SAt.load26 R1.out
 clear b1 R0 B0 L1
 by_cases hm:May s
 ·rw[chk_yes s hm]
  have HE:Hid (encT s=encS s):=encT_yes s hm
  have HC:Hid (chk s=0):=chk_yes s hm
  clear hm
  go_wp2_with ((with_reducible refine at_ops ?_);(refine wpList_load_is (by rfl) 194 rfl rfl L2.out ?_);simp only[Act.put,zA,zB,zC])
  refine (laid_any s HW.out w1).mono ?_
  rintro e w2 ⟨g,c,rfl,m⟩
  have HM:Hid (Made w1 w2 (some ⟨g,0,none⟩) 64 c (encS s)):=m
  clear m
  go_wp2_with fail
  go_ret2
  rw[HE.out,HC.out]
  exact⟨_,64,c,rfl,(encS_len s).symm,own_mono HM.out.own B1.out.size,HM.out.read,HM.out.le,HM.out.nil,below_then B1.out HM.out.below⟩
 ·have hc:chk s≠0:=fun h=>hm ((chk_zero s).1 h)
  have HE:Hid (encT s=[]):=encT_no s hm
  obtain ⟨q,hq⟩:∃q,q=chk s:=⟨_,rfl⟩
  have HQ:Hid (q=chk s):=hq
  rw[← hq] at hc ⊢
  clear hq hm
  go_wp2_with fail
  go_ret2
  rw[← HQ.out,HE.out]
  exact⟨none,0,0,rfl,rfl,World.ownsRow_nil _ _ _ _,BIn.empty,Nat.le_refl _,fun _=>rfl,B1.out⟩
end Go.Proofs.YtdadpepfpiimgaaGreatDoor
