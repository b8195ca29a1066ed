import Derived.Test.YtdadpepfpiimgaaGreatDoorK08
set_option maxHeartbeats 20000000
set_option maxRecDepth 100000
namespace Go.Proofs.YtdadpepfpiimgaaGreatDoor
open Go.Proofs.Tryz
open Go.RowKit
theorem summed_any (g o n c:Nat)(xs:List Int)(w:World)(h:BIn w (some ⟨g,o,none⟩) n xs)(h0:0<n)(hbig:n≤100000) :
  Calls prog 102 #[.slice (some ⟨g,o,none⟩) n c] w fun e w'=>∃q d,e=.returned (.slice (some ⟨q,0,none⟩) (n+4) d)∧Made w w' (some ⟨q,0,none⟩) (n+4) d (xs++digits 4 ((crc xs:Nat):Int)):=by
 obtain ⟨i0,hi,hz0,hz1,hz2⟩:=info_parts info5
 have HX:Hid (BIn w (some ⟨g,o,none⟩) n xs):=h
 have X1:Hid (BIn (w.alloc (.cells #[] 5)) (some ⟨g,o,none⟩) n xs):=h.later (below_alloc w _)
 have HY:Hid (Bytes xs):=h.byte
 clear h
 go_enter func102,ntmps102
 go_wp2_with (at_builtin;refine wpList_append_own _ rfl (.tmp 3) (.tmp 4) 27 rfl w.heap.size 5 i0 (.int .u8 0) 1 1 underlying27 hi hz0 hz1 hz2 rfl (by decide) _ 0 [] rfl (World.ownsRow_made w #[] 0 (Nat.le_refl _) (Nat.zero_le _) rfl) ⟨g,o,none⟩ n c (U8 xs) rfl (by rw[U8_length,X1.out.len,Nat.mul_one]) X1.out.news (ones_u8 _) (by unfold maxLen;omega) (by omega) (by simp) ?_)
 intro v2 w2 hown2 hgrow2 _
 try simp only[Nat.zero_add,List.nil_append] at hown2
 have B2:Hid (Below w.heap.size w w2):=((Below.refl _ w).alloc (Nat.le_refl _) _).grown hgrow2 (by simp) (by intro k hk;simp[Value.ownBlock] at hk;omega)
 have O2:Hid (w2.ownsRow w.heap.size 5 1 v2 n (U8 xs)):=hown2
 have X2:Hid (BIn w2 (some ⟨g,o,none⟩) n xs):=HX.out.later B2.out
 clear hown2 hgrow2 X1
 go_wp2_with fail
 refine (refOf_any _ n c xs w2 X2.out (by omega)).mono ?_
 rintro e w3 ⟨rfl,rfl⟩
 have hcl:=crc_lt xs HY.out
 obtain ⟨C,hC⟩:∃C,C=crc xs:=⟨_,rfl⟩
 have HC:Hid (C=crc xs):=hC
 rw[← hC] at hcl ⊢
 clear hC
 go_wp2_with fail
 refine (low8_any (C:Int) 4 w2 (by omega) (by omega) (by omega)).mono ?_
 rintro e w4 ⟨v4,rfl,ho4,b4⟩
 obtain ⟨g4,k4,rfl,-⟩:=own_shape ho4 (by omega)
 have N4:Hid (BIn w4 (some ⟨g4,0,none⟩) 4 (digits 4 (C:Int))):=own_bin ho4 (digits_bytes _ _)
 have O4:Hid (w4.ownsRow w.heap.size 5 1 v2 n (U8 xs)):=own_later O2.out b4
 have B4:Hid (Below w.heap.size w w4):=below_then B2.out b4
 clear ho4 b4 O2 B2 X2
 go_wp2_with (at_builtin;refine wpList_append_own _ rfl (.tmp 5) (.tmp 9) 27 rfl w.heap.size 5 i0 (.int .u8 0) 1 1 underlying27 hi hz0 hz1 hz2 rfl (by decide) v2 n (U8 xs) rfl O4.out ⟨g4,0,none⟩ 4 k4 (U8 (digits 4 (C:Int))) rfl (by rw[U8_length,digits_length]) N4.out.news (ones_u8 _) (by unfold maxLen;omega) (by omega) B4.out.size ?_)
 intro v5 w5 hown5 hgrow5 _
 have B5:Hid (Below w.heap.size w w5):=B4.out.grown hgrow5 B4.out.size (fun k hk=>(O4.out.lt k hk).1)
 have O5:Hid (w5.ownsRow w.heap.size 5 1 v5 (n+4) (U8 (xs++digits 4 (C:Int)))):=by
  show w5.ownsRow _ _ _ _ _ _
  rw[show U8 (xs++digits 4 (C:Int))=U8 xs++U8 (digits 4 (C:Int)) by simp only[U8,List.map_append]]
  exact hown5
 clear hown5 hgrow5 O4 B4 N4
 obtain ⟨g5,k5,rfl,hk5⟩:=own_shape O5.out (by omega)
 go_wp2_with fail
 go_ret
 rw[← HC.out]
 exact⟨g5,k5,rfl,O5.out,own_bin O5.out (HY.out.append (digits_bytes _ _)),hk5,(fun e=>by cases e),B5.out⟩
theorem u8_id {b:Int}(h:inB b):IntKind.u8.wrap b=b:=by rw[IntKind.wrap_u8];have:=h.1;have:=h.2;omega
theorem rencode_good (b:Int)(v:List Int)(hb:inB b)(hv:v.length=32)(hvb:Bytes v)(w:World) :
  Calls prog 71 #[.int .i64 b,.agg (U8 v).toArray] w fun e w'=>∃g c,e=.returned (.tuple #[.slice (some ⟨g,0,none⟩) 64 c,.int .i64 0])∧Made w w' (some ⟨g,0,none⟩) 64 c (homeS b v):=by
 obtain ⟨i0,hi,hz0,hz1,hz2⟩:=info_parts info5
 obtain ⟨w0,hw0⟩:∃x,x=w.alloc (.cells (U8 v).toArray 39):=⟨_,rfl⟩
 have ew0:=hw0.symm
 have V0:Hid (VAt w0 w.heap.size v):=by rw[hw0];exact LAt.new 39 w (U8 v)
 have B0:Hid (Below w.heap.size w w0):=by rw[hw0];exact below_alloc w _
 have HV:Hid (v.length=32∧Bytes v):=⟨hv,hvb⟩
 have HB:Hid (inB b):=hb
 have hb0:=hb.1
 have hb1:=hb.2
 have hbw:=u8_id hb
 clear hw0 hv hvb hb
 have sz0:w0.heap.size=w.heap.size+1:=by rw[← ew0];simp
 have cv:=conv_const w0 HM 4 (w.heap.size+1) sz0
 obtain ⟨w1,hw1⟩:∃x,x=w0.alloc (.cells HM 5 (4,5)):=⟨_,rfl⟩
 have sz1:w1.heap.size=w.heap.size+2:=by rw[hw1];simp[sz0]
 have b1:Below w0.heap.size w0 w1:=by rw[hw1];exact below_alloc w0 _
 have N1:BIn w1 (some ⟨w.heap.size+1,0,none⟩) 4 hm:=by rw[hw1,← sz0];exact lit_mark w0 hm 4 (4,5) rfl hm_bytes
 have cv2:(convert 27 27 (.slice (some ⟨w.heap.size+1,0,none⟩) 4 4)).run prog (w0.alloc (.cells HM 5))=.ok (.slice (some ⟨w.heap.size+1,0,none⟩) 4 4) w1:=by rw[hw1];exact cv
 obtain ⟨w2,hw2⟩:∃x,x=w1.alloc (.cells (U8 [1,b]).toArray 5):=⟨_,rfl⟩
 have b2:Below w1.heap.size w1 w2:=by rw[hw2];exact below_alloc w1 _
 have N2:Hid (BIn w2 (some ⟨w.heap.size+2,0,none⟩) 2 [1,b]):=by rw[hw2,← sz1];exact lit_in w1 _ 2 rfl (by intro x hx;simp at hx;omega)
 have M2:Hid (BIn w2 (some ⟨w.heap.size+1,0,none⟩) 4 hm):=N1.later b2
 have B2:Hid (Below w.heap.size w w2):=below_then B0.out (below_then b1 b2)
 have V2:Hid (VAt w2 w.heap.size v):=LAt.later V0.out (below_then b1 b2)
 have HO2:Hid (∀j u,(U8 hm)[j]?=some u→w2.cell? ⟨w.heap.size+1,0+j,none⟩=some u):=fun j u hu=>by
  have:=M2.out.news j u hu
  rw[Go.WideShapes.add_plain] at this
  exact this
 have e2:w1.alloc (.cells #[.int .u8 1,.int .u8 b] 5)=w2:=hw2.symm
 clear hw1 hw2 cv N1 b1 b2 B0 V0
 go_enter func71,ntmps71
 go_wp2_with (at_builtin;refine wpList_append_arg _ rfl (.tmp 14) (.tmp 17) 27 rfl 5 i0 (.int .u8 0) 1 1 underlying27 hi hz0 hz1 hz2 rfl (by decide) (w.heap.size+1) 0 4 4 (U8 hm) rfl rfl HO2.out ⟨w.heap.size+2,0,none⟩ 2 2 (U8 [1,b]) rfl rfl N2.out.news (ones_u8 _) (fun h=>by omega) (by unfold maxLen;omega) (by omega) (fun h=>by omega) ?_;clear cv2)
 intro v4 w4 hown4 hgrow4
 clear e2 ew0 sz1 hbw sz0
 have O4:Hid (w4.ownsRow w.heap.size 5 1 v4 6 (U8 (hm++[1,b]))):=by
  show w4.ownsRow _ _ _ _ _ _
  rw[show U8 (hm++[1,b])=U8 hm++U8 [1,b] by simp only[U8,List.map_append]]
  exact own_mono hown4 B2.out.size
 have B4:Hid (Below w.heap.size w w4):=B2.out.grown hgrow4 B2.out.size (by intro k hk;cases hk)
 have V4:Hid (VAt w4 w.heap.size v):=(hgrow4.block _ (LAt.lt V2.out) (by simp)).trans V2.out
 clear hown4 hgrow4 B2 V2 N2 M2 HO2
 obtain ⟨g4,k4,rfl,-⟩:=own_shape O4.out (by omega)
 go_wp2_with (at_builtin;refine wpList_append_zeros_own _ rfl (.tmp 19) _ 27 3 rfl w.heap.size 5 i0 (.int .u8 0) 1 .i64 .i64 underlying27 underlying3 hi hz0 hz1 hz2 rfl rfl g4 6 k4 (U8 (hm++[1,b])) rfl O4.out 22 rfl (by omega) (by unfold maxLen;omega) (by omega) B4.out.size ?_)
 intro v5 w5 hown5 hgrow5
 have B5:Hid (Below w.heap.size w w5):=B4.out.grown hgrow5 B4.out.size (fun k hk=>(O4.out.lt k hk).1)
 have V5:Hid (VAt w5 w.heap.size v):=box_kept V4.out O4.out hgrow5 (by decide)
 have O5:Hid (w5.ownsRow w.heap.size 5 1 v5 28 (U8 (hm++[1,b]++zs 22))):=by
  show w5.ownsRow _ _ _ _ _ _
  simp only[U8,zs,List.map_append,List.map_replicate] at hown5 ⊢
  exact hown5
 have X5:Hid (BIn w5 (some ⟨w.heap.size,0,none⟩) 32 v):=V5.out.bin HV.out.1 HV.out.2
 clear hown5 hgrow5 B4 V4 O4 V5
 go_wp2_with (at_builtin;refine wpList_append_own _ rfl (.tmp 21) (.tmp 22) 27 rfl w.heap.size 5 i0 (.int .u8 0) 1 1 underlying27 hi hz0 hz1 hz2 rfl (by decide) v5 28 (U8 (hm++[1,b]++zs 22)) rfl O5.out ⟨w.heap.size,0,none⟩ 32 32 (U8 v) rfl (by rw[U8_length,HV.out.1]) X5.out.news (ones_u8 _) (by unfold maxLen;omega) (by omega) B5.out.size ?_)
 intro v6 w6 hown6 hgrow6 _
 have B6:Hid (Below w.heap.size w w6):=B5.out.grown hgrow6 B5.out.size (fun k hk=>(O5.out.lt k hk).1)
 have O6:Hid (w6.ownsRow w.heap.size 5 1 v6 60 (U8 (hbody b v))):=by
  show w6.ownsRow _ _ _ _ _ _
  rw[show U8 (hbody b v)=U8 (hm++[1,b]++zs 22)++U8 v by simp[U8,hbody,hm]]
  exact hown6
 clear hown6 hgrow6 B5 X5 O5
 obtain ⟨g6,k6,rfl,-⟩:=own_shape O6.out (by omega)
 have X6:Hid (BIn w6 (some ⟨g6,0,none⟩) 60 (hbody b v)):=own_bin O6.out (hbody_bytes HB.out HV.out.2)
 go_wp2_with fail
 refine (summed_any g6 0 60 k6 (hbody b v) w6 X6.out (by omega) (by omega)).mono ?_
 rintro e w7 ⟨g7,c7,rfl,m7⟩
 have M7:Hid (Made w6 w7 (some ⟨g7,0,none⟩) 64 c7 (homeS b v)):=m7
 clear m7 X6 O6
 go_wp2_with fail
 go_ret2
 exact⟨g7,c7,rfl,own_mono M7.out.own B6.out.size,M7.out.read,M7.out.le,M7.out.nil,below_then B6.out M7.out.below⟩
theorem rload_good (g o m c n:Nat)(xs:List Int)(w:World)(h:BIn w (some ⟨g,o,none⟩) m xs)(hm:m=64*n)(hn1:1≤n)(hn2:n≤4096) :
  Calls prog 23 #[.slice (some ⟨g,o,none⟩) m c] w fun e w'=>∃p,e=.returned (.tuple #[.pointer (some ⟨p,0,none⟩),.int .i64 0])∧Ref w' (fun k=>w.heap.size≤k) p n xs []∧Below w.heap.size w w':=by
 obtain ⟨i0,hi,hz0,hz1,hz2⟩:=info_parts info5
 have e0:((m:Int) == 0)=false:=by rw[beq_eq_false_iff_ne];omega
 have e1:((m:Int) % 64 != 0)=false:=by rw[show (m:Int) % 64=0 by omega];rfl
 have e2:¬(262144:Int)<(m:Int):=by omega
 have HH:Hid (BIn w (some ⟨g,o,none⟩) m xs):=h
 have HM:Hid (m=64*n):=hm
 have HN:Hid (∀j u,(U8 xs)[j]?=some u→(w.alloc (.cells #[] 5)).cell? ((⟨g,o,none⟩:Addr).add j)=some u):=(HH.out.later (below_alloc w _)).news
 have hm1:0<m:=by omega
 have hm2:m≤262144:=by omega
 clear h hm
 go_enter func23,ntmps23
 go_wp2_with (at_builtin;refine wpList_append_lies _ rfl (.tmp 18) (.tmp 19) 27 rfl w.heap.size 5 i0 (.int .u8 0) 1 1 underlying27 hi hz0 hz1 hz2 rfl (by omega) _ 0 [] rfl (World.ownsRow_made w #[] 0 (Nat.le_refl _) (Nat.zero_le _) rfl) ⟨g,o,none⟩ m c (U8 xs) rfl (by rw[U8_length,HH.out.len,Nat.mul_one]) HN.out (ones_u8 _) hm1 (by unfold maxLen;omega) (by omega) (by simp) _ rfl ?_)
 intro g1 c1 w1 hown hgrow hat hlt
 try simp only[Nat.zero_add,List.nil_append] at hown ⊢
 have hb:Below w.heap.size w w1:=((Below.refl _ w).alloc (Nat.le_refl _) _).grown hgrow (by simp) (by intro k hk;simp[Value.ownBlock] at hk;omega)
 have HF:Hid (Ref (w1.alloc (.cells #[.slice (some ⟨g1,0,none⟩) m c1,.slice none 0 0] 100)) (fun k=>w.heap.size≤k) w1.heap.size n xs []∧Below w.heap.size w (w1.alloc (.cells #[.slice (some ⟨g1,0,none⟩) m c1,.slice none 0 0] 100))):=ref_fin hb hown HM.out hn1 hn2 HH.out.byte
 clear hown hgrow hat hlt hb
 go_wp2
 go_ret2
 exact⟨_,rfl,HF.out.1,HF.out.2⟩
theorem rmay_any (s:Sup)(w:World):Calls prog 69 #[.agg (ccells s).toArray] w fun e w'=>e=.returned (.bool (decide (MayC s)))∧Below w.heap.size w w':=by
 have hA:CAt (w.alloc (.cells (ccells s).toArray 23)) w.heap.size s:=LAt.new 23 w (ccells s)
 have c0:=CAt.c0 hA
 have c1:=CAt.c1 hA
 have c2:=CAt.c2 hA
 have c3:=CAt.c3 hA
 have c4:=CAt.c4 hA
 have HB:Hid (Below w.heap.size w (w.alloc (.cells (ccells s).toArray 23))):=below_alloc w _
 clear hA
 by_cases q0:s.bl<1
 ·rw[decide_eq_false (fun h=>by have:=h.1.1;omega)]
  go_enter func69,ntmps69
  go_wp2
  go_ret
  first | exact⟨rfl,HB.out⟩ | (refine⟨?_,HB.out⟩;simp;omega)
 have g0:1≤s.bl:=by omega
 clear q0
 by_cases q1:64<s.bl
 ·rw[decide_eq_false (fun h=>by have:=h.1.2;omega)]
  go_enter func69,ntmps69
  go_wp2
  go_ret
  first | exact⟨rfl,HB.out⟩ | (refine⟨?_,HB.out⟩;simp;omega)
 have g1:s.bl≤64:=by omega
 clear q1
 by_cases q2:s.lc<2
 ·rw[decide_eq_false (fun h=>by have:=h.2.1.1;omega)]
  go_enter func69,ntmps69
  go_wp2
  go_ret
  first | exact⟨rfl,HB.out⟩ | (refine⟨?_,HB.out⟩;simp;omega)
 have g2:2≤s.lc:=by omega
 clear q2
 by_cases q3:64<s.lc
 ·rw[decide_eq_false (fun h=>by have:=h.2.1.2;omega)]
  go_enter func69,ntmps69
  go_wp2
  go_ret
  first | exact⟨rfl,HB.out⟩ | (refine⟨?_,HB.out⟩;simp;omega)
 have g3:s.lc≤64:=by omega
 clear q3
 by_cases q4:s.mr<1
 ·rw[decide_eq_false (fun h=>by have:=h.2.2.1.1;omega)]
  go_enter func69,ntmps69
  go_wp2
  go_ret
  first | exact⟨rfl,HB.out⟩ | (refine⟨?_,HB.out⟩;simp;omega)
 have g4:1≤s.mr:=by omega
 clear q4
 by_cases q5:16<s.mr
 ·rw[decide_eq_false (fun h=>by have:=h.2.2.1.2.1;omega)]
  go_enter func69,ntmps69
  go_wp2
  go_ret
  first | exact⟨rfl,HB.out⟩ | (refine⟨?_,HB.out⟩;simp;omega)
 have g5:s.mr≤16:=by omega
 clear q5
 by_cases q6:s.bl<s.mr
 ·rw[decide_eq_false (fun h=>by have:=h.2.2.1.2.2.1;omega)]
  go_enter func69,ntmps69
  go_wp2
  go_ret
  first | exact⟨rfl,HB.out⟩ | (refine⟨?_,HB.out⟩;simp;omega)
 have g6:s.mr≤s.bl:=by omega
 clear q6
 by_cases q7:s.lc-1<s.mr
 ·rw[decide_eq_false (fun h=>by have:=h.2.2.1.2.2.2;omega)]
  go_enter func69,ntmps69
  go_wp2
  go_ret
  first | exact⟨rfl,HB.out⟩ | (refine⟨?_,HB.out⟩;simp;omega)
 have g7:s.mr≤s.lc-1:=by omega
 clear q7
 by_cases q8:s.hi<1
 ·rw[decide_eq_false (fun h=>by have:=h.2.2.2.1.1;omega)]
  go_enter func69,ntmps69
  go_wp2
  go_ret
  first | exact⟨rfl,HB.out⟩ | (refine⟨?_,HB.out⟩;simp;omega)
 have g8:1≤s.hi:=by omega
 clear q8
 by_cases q9:s.lc<s.hi
 ·rw[decide_eq_false (fun h=>by have:=h.2.2.2.1.2;omega)]
  go_enter func69,ntmps69
  go_wp2
  go_ret
  first | exact⟨rfl,HB.out⟩ | (refine⟨?_,HB.out⟩;simp;omega)
 have g9:s.hi≤s.lc:=by omega
 clear q9
 by_cases q10:s.cl<1
 ·rw[decide_eq_false (fun h=>by have:=h.2.2.2.2.1;omega)]
  go_enter func69,ntmps69
  go_wp2
  go_ret
  first | exact⟨rfl,HB.out⟩ | (refine⟨?_,HB.out⟩;simp;omega)
 have g10:1≤s.cl:=by omega
 clear q10
 by_cases q11:8<s.cl
 ·rw[decide_eq_false (fun h=>by have:=h.2.2.2.2.2;omega)]
  go_enter func69,ntmps69
  go_wp2
  go_ret
  first | exact⟨rfl,HB.out⟩ | (refine⟨?_,HB.out⟩;simp;omega)
 have g11:s.cl≤8:=by omega
 clear q11
 rw[decide_eq_true ⟨⟨g0,g1⟩,⟨g2,g3⟩,⟨g4,g5,g6,g7⟩,⟨g8,g9⟩,⟨g10,g11⟩⟩]
 go_enter func69,ntmps69
 go_wp2
 go_ret
 first | exact⟨rfl,HB.out⟩ | (refine⟨?_,HB.out⟩;simp;omega)
theorem fits_any (s:Sup){w:World}{S:Nat→Prop}{p n:Nat}{d:List Int}{ws:List Wr}(h:Ref w S p n d ws) :
  Calls prog 122 #[.pointer (some ⟨p,0,none⟩),.agg (ccells s).toArray] w fun e w'=>e=.returned (.int .i64 (rfS s n))∧Below w.heap.size w w':=by
 have L1:Hid (_):=CAt.load23 (LAt.new 23 w (ccells s))
 have HA:Hid (CAt (w.alloc (.cells (ccells s).toArray 23)) w.heap.size s):=LAt.new 23 w (ccells s)
 have HB:Hid (Below w.heap.size w (w.alloc (.cells (ccells s).toArray 23))):=below_alloc w _
 have HD:Hid (Ref w S p n d ws):=h
 clear h
 go_enter func122,ntmps122
 go_wp2_with ((with_reducible refine at_ops ?_);(refine wpList_load_is (by rfl) 23 rfl rfl L1.out ?_);simp only[Act.put,zA,zB,zC])
 refine (rmay_any s _).mono ?_
 rintro e w1 ⟨rfl,b1⟩
 have HA1:Hid (CAt w1 w.heap.size s):=LAt.later HA.out b1
 have HB1:Hid (Below w.heap.size w w1):=below_then HB.out b1
 have HD1:Hid (Ref w1 S p n d ws):=HD.out.later HB1.out
 clear b1 HA HB L1 HD
 by_cases hc:MayC s
 ·rw[decide_eq_true hc]
  have HC:Hid (MayC s):=hc
  obtain ⟨⟨a1,a2⟩,⟨a3,a4⟩,-⟩:=hc
  obtain ⟨bl,hbl⟩:∃x,x=s.bl:=⟨_,rfl⟩
  obtain ⟨lc,hlc⟩:∃x,x=s.lc:=⟨_,rfl⟩
  have k1:IntKind.i64.wrap (1+bl)=1+bl:=by rw[IntKind.wrap_i64];omega
  have k2:IntKind.i64.wrap (1+bl+lc)=1+bl+lc:=by rw[IntKind.wrap_i64];omega
  have HE:Hid (((n:Int)=1+bl+lc→rfS s n=0)∧(¬(n:Int)=1+bl+lc→rfS s n=40)):=by rw[hbl,hlc];exact⟨fun h=>rfS_ok HC.out h,fun h=>rfS_len HC.out h⟩
  have HC0:Hid (∀w',CAt w' w.heap.size s→w'.cell? ⟨w.heap.size,0,none⟩=some (.int .i64 bl)∧w'.cell? ⟨w.heap.size,1,none⟩=some (.int .i64 lc)):=by rw[hbl,hlc];exact fun w' h=>⟨CAt.c0 h,CAt.c1 h⟩
  clear hbl hlc a1 a2 a3 a4
  go_wp2_with fail
  refine wp_region_noPanic ?_
  refine wp_region_held_drew (S:=fun w'=>Below w1.heap.size w1 w') (by kernel_rfl) (below_drawn 1) (fun hHeld=>?_)
  have D1:Hid (Below w1.heap.size w1 w1.drew):=hHeld
  generalize w1.drew=wd at *
  refine tk 0 hHeld ?_
  refine tk 2 hHeld ?_
  refine tkl 3 hHeld (fun _ hSw=>(HC0.out _ (LAt.later HA1.out hSw)).1) ?_
  refine tk 4 hHeld ?_
  refine tk 5 hHeld ?_
  refine tkl 6 hHeld (fun _ hSw=>(HC0.out _ (LAt.later HA1.out hSw)).2) ?_
  refine tk 7 hHeld ?_
  refine wpAnyH_ready (rs:=[1]) (by kernel_rfl) (by simp) ?_
  refine AllReadyH.cons (by simp;rfl) (fun Kc hKc=>?_) AllReadyH.nil
  go_simp
  refine (rlen_any (HD1.out.later D1.out)).mono ?_
  rintro e wn ⟨rfl,rfl⟩
  refine hKc.out _ _ D1.out (fun hHeld=>?_)
  clear hKc Kc
  refine tk 8 hHeld ?_
  refine tk 9 hHeld ?_
  have HB2:Hid (Below w.heap.size w wd):=below_then HB1.out D1.out
  clear hHeld D1 HD1 HC0
  refine wpAnyH_done (by kernel_rfl) (NoPanic.normal ?_) _
  by_cases he:(n:Int)=1+bl+lc
  ·have hq:((n:Int) != 1+bl+lc)=false:=by rw[he];simp
   have HR:Hid (_):=HE.out.1 he
   clear he HE
   go_wp2_with fail
   go_ret
   exact⟨by rw[HR.out];rfl,HB2.out⟩
  ·have hq:((n:Int) != 1+bl+lc)=true:=by simp[he]
   have HR:Hid (_):=HE.out.2 he
   clear he HE
   go_wp2_with fail
   go_ret
   exact⟨by rw[HR.out];rfl,HB2.out⟩
 ·rw[decide_eq_false hc]
  have HR:Hid (rfS s n=3):=rfS_no _ hc
  clear hc
  go_wp2_with fail
  go_ret
  exact⟨by rw[HR.out];rfl,HB1.out⟩
theorem rwrite_at {w:World}{S:Nat→Prop}{p n:Nat}{d:List Int}{ws:List Wr}(h:Ref w S p n d ws)(i:Int)(h0:0≤i)(h1:i<n)(a:Option Addr)(c:Nat)(b:List Int)(hb:BIn w a 64 b)(hk:ws.length≤100000):Calls prog 32 #[.pointer (some ⟨p,0,none⟩),.int .i64 i,.slice a 64 c] w fun e w'=>e=.returned (.int .i64 0)∧Ref w' (More S w) p n d (ws++[⟨i.toNat,b⟩])∧Kept S w w':=by
 have e0:((i.toNat:Nat):Int)=i:=by omega
 have:=rwrite_good h i.toNat (by omega) a c b hb hk
 rw[e0] at this
 exact this
theorem rsave_any (s:Sup)(b:Int)(v:List Int)(hv:v.length=32)(hvb:Bytes v){w:World}{S:Nat→Prop}{p n:Nat}{d:List Int}{ws:List Wr}(h:Ref w S p n d ws)(hk:ws.length≤100000) :
  Calls prog 96 #[.pointer (some ⟨p,0,none⟩),.agg (ccells s).toArray,.int .i64 b,.agg (U8 v).toArray] w fun e w'=>e=.returned (.int .i64 (rbS s n b))∧Ref w' (More S w) p n d (svW s n ws b v)∧Kept S w w':=by
 obtain ⟨w0,hw0⟩:∃x,x=(w.alloc (.cells (ccells s).toArray 23)).alloc (.cells (U8 v).toArray 39):=⟨_,rfl⟩
 have ew:=hw0.symm
 have B0:Hid (Below w.heap.size w w0):=by rw[hw0];exact below_then (below_alloc w _) (below_alloc _ _)
 have C0:Hid (CAt w0 w.heap.size s):=by rw[hw0];exact LAt.later (LAt.new 23 w (ccells s)) (below_alloc _ _)
 have V0:Hid (VAt w0 (w.heap.size+1) v):=by
  have:=LAt.new 39 (w.alloc (.cells (ccells s).toArray 23)) (U8 v)
  rw[show (w.alloc (.cells (ccells s).toArray 23)).heap.size=w.heap.size+1 by simp] at this
  rw[hw0]
  exact this
 have D0:Hid (Ref w0 S p n d ws):=h.later B0.out
 have L1:Hid (_):=CAt.load23 C0.out
 have HV:Hid (v.length=32∧Bytes v):=⟨hv,hvb⟩
 have HK:Hid (ws.length≤100000):=hk
 clear hw0 h hv hvb hk
 go_enter func96,ntmps96
 go_wp2_with ((with_reducible refine at_ops ?_);(refine wpList_load_is (by rfl) 23 rfl rfl L1.out ?_);simp only[Act.put,zA,zB,zC])
 clear ew
 refine (fits_any s D0.out).mono ?_
 rintro e w1 ⟨rfl,b1⟩
 have B1:Hid (Below w.heap.size w w1):=below_then B0.out b1
 have V1:Hid (VAt w1 (w.heap.size+1) v):=LAt.later V0.out b1
 have D1:Hid (Ref w1 S p n d ws):=D0.out.later b1
 have L2:Hid (_):=VAt.load V1.out HV.out.1
 have c0:=CAt.c0 (LAt.later C0.out b1)
 have F1:Hid (Ref w1 (More S w) p n d ws∧Kept S w w1):=⟨D1.out.mono (fun k _ hs=>.inl hs),Kept.of_below B1.out⟩
 clear b1 B0 L1 C0 V0 D0 V1
 by_cases hf:rfS s n=0
 ·rw[hf]
  by_cases hb:0≤b∧b<s.bl
  ·have hr:rbS s n b=0:=rbS_ok hf hb
   obtain ⟨hbb,h0,h1⟩:=rbS_in hr
   have HR:Hid (svW s n ws b v=ws++[⟨(1+b).toNat,homeS b v⟩]):=svW_yes ws v hr
   have HRZ:Hid (rbS s n b=0):=hr
   have hb0:=hb.1
   have hb1:=hb.2
   have hb2:=hbb.2
   have H1:Hid (1+b<(n:Int)):=h1
   have HBB:Hid (inB b):=hbb
   clear hr h0 h1 hb hbb hf F1
   go_wp2_with ((with_reducible refine at_ops ?_);(refine wpList_load_is (by rfl) 39 rfl rfl L2.out ?_);simp only[Act.put,zA,zB,zC])
   refine (rencode_good b v HBB.out HV.out.1 HV.out.2 w1).mono ?_
   rintro e w2 ⟨g2,c2,rfl,m2⟩
   have B2:Hid (Below w.heap.size w w2):=below_then B1.out m2.below
   have D2:Hid (Ref w2 S p n d ws):=D1.out.later m2.below
   have X2:Hid (BIn w2 (some ⟨g2,0,none⟩) 64 (homeS b v)):=m2.read
   clear m2 B1 D1 L2 c0
   go_wp2_with fail
   refine (rwrite_at D2.out (1+b) (by omega) H1.out _ c2 _ X2.out HK.out).mono ?_
   rintro e w3 ⟨rfl,d3,k3⟩
   have F3:Hid (Ref w3 (More S w) p n d (ws++[⟨(1+b).toNat,homeS b v⟩])∧Kept S w w3):=by
    refine⟨d3.mono (fun k _ hs=>?_),(Kept.of_below B2.out).trans k3 (fun _ _ t=>t)⟩
    rcases hs with hs | hs
    ·exact .inl hs
    ·exact .inr (Nat.le_trans B2.out.size hs)
   clear d3 k3 D2 X2 B2
   go_wp2_with fail
   go_ret
   exact⟨by rw[HRZ.out];rfl,by rw[HR.out];exact F3.out.1,F3.out.2⟩
  ·have hr:rbS s n b=51:=rbS_out hf hb
   have HR:Hid (svW s n ws b v=ws):=svW_no ws v (by rw[hr];decide)
   have HRZ:Hid (rbS s n b=51):=hr
   have hd:b<0∨(0≤b∧s.bl≤b):=by omega
   clear hr hb hf L2
   rcases hd with h1 | ⟨h1,h2⟩
   ·go_wp2_with fail
    go_ret
    exact⟨by rw[HRZ.out];rfl,by rw[HR.out];exact F1.out.1,F1.out.2⟩
   ·go_wp2_with fail
    go_ret
    exact⟨by rw[HRZ.out];rfl,by rw[HR.out];exact F1.out.1,F1.out.2⟩
 ·have hr:rbS s n b=rfS s n:=rbS_no b hf
  have HR:Hid (svW s n ws b v=ws):=svW_no ws v (by rw[hr];exact hf)
  obtain ⟨q,hq0⟩:∃q,q=rfS s n:=⟨_,rfl⟩
  rw[← hq0] at hf hr ⊢
  have HQ:Hid (rbS s n b=q):=hr
  have hq:(q != 0)=true:=by simp[hf]
  clear L2 hq0 hr
  go_wp2_with fail
  go_ret
  exact⟨by rw[HQ.out];rfl,by rw[HR.out];exact F1.out.1,F1.out.2⟩
abbrev eight (a b c d e:Int):List Int:=[a,b,c,d,e,0,0,0]
theorem rsuper_any (s:Sup)(hc:MayC s)(w:World) :
  Calls prog 70 #[.agg (ccells s).toArray] w fun e w'=>∃g c,e=.returned (.slice (some ⟨g,0,none⟩) 64 c)∧Made w w' (some ⟨g,0,none⟩) 64 c (encS (sup1 s)):=by
 obtain ⟨i0,hi,hz0,hz1,hz2⟩:=info_parts info5
 obtain ⟨w0,hw0⟩:∃x,x=w.alloc (.cells (ccells s).toArray 23):=⟨_,rfl⟩
 have sz0:w0.heap.size=w.heap.size+1:=by rw[hw0];simp
 have C0:CAt w0 w.heap.size s:=by rw[hw0];exact LAt.new 23 w _
 have B0:Below w.heap.size w w0:=by rw[hw0];exact below_alloc w _
 have cv:=conv_const w0 NM 6 (w.heap.size+1) sz0
 obtain ⟨w1,hw1⟩:∃x,x=w0.alloc (.cells NM 5 (6,7)):=⟨_,rfl⟩
 have sz1:w1.heap.size=w.heap.size+2:=by rw[hw1];simp[sz0]
 have b1:Below w0.heap.size w0 w1:=by rw[hw1];exact below_alloc w0 _
 have N1:BIn w1 (some ⟨w.heap.size+1,0,none⟩) 6 nm:=by rw[hw1,← sz0];exact lit_mark w0 nm 6 (6,7) rfl nm_bytes
 have cv2:(convert 27 27 (.slice (some ⟨w.heap.size+1,0,none⟩) 6 6)).run prog (w0.alloc (.cells NM 5))=.ok (.slice (some ⟨w.heap.size+1,0,none⟩) 6 6) w1:=by rw[hw1];exact cv
 obtain ⟨w2,hw2⟩:∃x,x=w1.alloc (.cells (U8 [1,0]).toArray 5):=⟨_,rfl⟩
 have b2:Below w1.heap.size w1 w2:=by rw[hw2];exact below_alloc w1 _
 have N2:Hid (BIn w2 (some ⟨w.heap.size+2,0,none⟩) 2 [1,0]):=by rw[hw2,← sz1];exact lit_in w1 _ 2 rfl (by intro x hx;simp at hx;omega)
 have M2:Hid (BIn w2 (some ⟨w.heap.size+1,0,none⟩) 6 nm):=N1.later b2
 have B2:Hid (Below w.heap.size w w2):=below_then B0 (below_then b1 b2)
 have C2:Hid (CAt w2 w.heap.size s):=LAt.later C0 (below_then b1 b2)
 have HO2:Hid (∀j u,(U8 nm)[j]?=some u→w2.cell? ⟨w.heap.size+1,0+j,none⟩=some u):=fun j u hu=>by
  have:=M2.out.news j u hu
  rw[Go.WideShapes.add_plain] at this
  exact this
 have e2:w1.alloc (.cells #[.int .u8 1,.int .u8 0] 5)=w2:=hw2.symm
 have ew0:=hw0.symm
 have HX:Hid (Bytes (eight s.bl s.lc s.mr s.hi s.cl)∧body (sup1 s)=(nm++[1,0]++eight s.bl s.lc s.mr s.hi s.cl)++digits 8 0++digits 8 1++zs 28):=by
  obtain ⟨⟨a1,a2⟩,⟨a3,a4⟩,⟨a5,a6,-,-⟩,⟨a7,a8⟩,⟨a9,a10⟩⟩:=hc
  refine⟨?_,?_⟩
  ·intro y hy
   simp only[eight,List.mem_cons,List.not_mem_nil,or_false] at hy
   omega
  ·unfold body
   show nm++([1,0]++([s.bl % 256,s.lc % 256,s.mr % 256,s.hi % 256,s.cl % 256,0,0,0]++(digits 8 0++(digits 8 1++zs 28))))=_
   rw[show s.bl % 256=s.bl by omega,show s.lc % 256=s.lc by omega,show s.mr % 256=s.mr by omega,show s.hi % 256=s.hi by omega,show s.cl % 256=s.cl by omega]
   simp[eight]
 have q1:IntKind.u8.wrap s.bl=s.bl:=by rw[IntKind.wrap_u8];have:=hc.1;omega
 have q2:IntKind.u8.wrap s.lc=s.lc:=by rw[IntKind.wrap_u8];have:=hc.2.1;omega
 have q3:IntKind.u8.wrap s.mr=s.mr:=by rw[IntKind.wrap_u8];have:=hc.2.2.1;omega
 have q4:IntKind.u8.wrap s.hi=s.hi:=by rw[IntKind.wrap_u8];have:=hc.2.2.2.1;have:=hc.2.1;omega
 have q5:IntKind.u8.wrap s.cl=s.cl:=by rw[IntKind.wrap_u8];have:=hc.2.2.2.2;omega
 clear hw0 hw1 hw2 cv N1 b1 b2 B0 C0 hc
 go_enter func70,ntmps70
 go_wp2_with (at_builtin;refine wpList_append_arg _ rfl (.tmp 5) (.tmp 6) 27 rfl 5 i0 (.int .u8 0) 1 1 underlying27 hi hz0 hz1 hz2 rfl (by decide) (w.heap.size+1) 0 6 6 (U8 nm) rfl rfl HO2.out ⟨w.heap.size+2,0,none⟩ 2 2 (U8 [1,0]) rfl rfl N2.out.news (ones_u8 _) (fun h=>by omega) (by unfold maxLen;omega) (by omega) (fun h=>by omega) ?_;clear cv2)
 intro v4 w4 hown4 hgrow4
 clear e2 ew0 sz1 sz0
 have O4:Hid (w4.ownsRow w.heap.size 5 1 v4 8 (U8 (nm++[1,0]))):=by
  show w4.ownsRow _ _ _ _ _ _
  rw[show U8 (nm++[1,0])=U8 nm++U8 [1,0] by simp only[U8,List.map_append]]
  exact own_mono hown4 B2.out.size
 have B4:Hid (Below w.heap.size w w4):=B2.out.grown hgrow4 B2.out.size (by intro k hk;cases hk)
 have C4:Hid (CAt w4 w.heap.size s):=(hgrow4.block _ (LAt.lt C2.out) (by simp)).trans C2.out
 clear hown4 hgrow4 B2 C2 N2 M2 HO2
 have c0:=CAt.c0 C4.out
 have c1:=CAt.c1 C4.out
 have c2:=CAt.c2 C4.out
 have c3:=CAt.c3 C4.out
 have c4:=CAt.c4 C4.out
 have N4:Hid (BIn (w4.alloc (.cells (U8 (eight s.bl s.lc s.mr s.hi s.cl)).toArray 5)) (some ⟨w4.heap.size,0,none⟩) 8 (eight s.bl s.lc s.mr s.hi s.cl)):=lit_in w4 _ 8 rfl HX.out.1
 have hb4:w.heap.size≤w4.heap.size:=B4.out.size
 go_wp2_with (at_builtin;refine wpList_append_own _ rfl (.tmp 8) (.tmp 24) 27 rfl w.heap.size 5 i0 (.int .u8 0) 1 1 underlying27 hi hz0 hz1 hz2 rfl (by decide) v4 8 (U8 (nm++[1,0])) rfl (O4.out.alloc _) ⟨w4.heap.size,0,none⟩ 8 8 (U8 (eight s.bl s.lc s.mr s.hi s.cl)) rfl rfl N4.out.news (ones_u8 _) (by unfold maxLen;omega) (by omega) (by simp;omega) ?_)
 intro v5 w5 hown5 hgrow5 _
 have B5:Hid (Below w.heap.size w w5):=(B4.out.alloc B4.out.size _).grown hgrow5 (by simp;omega) (fun k hk=>(O4.out.lt k hk).1)
 have O5:Hid (w5.ownsRow w.heap.size 5 1 v5 16 (U8 (nm++[1,0]++eight s.bl s.lc s.mr s.hi s.cl))):=by
  show w5.ownsRow _ _ _ _ _ _
  simp only[U8,List.map_append] at hown5 ⊢
  exact hown5
 clear hown5 hgrow5 B4 C4 O4 N4 c0 c1 c2 c3 c4 q1 q2 q3 q4 q5 hb4
 obtain ⟨H,hH⟩:∃H,H=nm++[1,0]++eight s.bl s.lc s.mr s.hi s.cl:=⟨_,rfl⟩
 rw[← hH] at HX O5
 clear hH
 go_wp2_with fail
 refine (low8_any 0 8 w5 (by omega) (by omega) (by omega)).mono ?_
 rintro e w6 ⟨v6,rfl,ho6,b6⟩
 obtain ⟨g6,k6,rfl,-⟩:=own_shape ho6 (by omega)
 have N6:Hid (BIn w6 (some ⟨g6,0,none⟩) 8 (digits 8 0)):=own_bin ho6 (digits_bytes _ _)
 have O6:Hid (w6.ownsRow w.heap.size 5 1 v5 16 (U8 H)):=own_later O5.out b6
 have B6:Hid (Below w.heap.size w w6):=below_then B5.out b6
 clear ho6 b6 O5 B5
 go_wp2_with (at_builtin;refine wpList_append_own _ rfl (.tmp 26) (.tmp 27) 27 rfl w.heap.size 5 i0 (.int .u8 0) 1 1 underlying27 hi hz0 hz1 hz2 rfl (by decide) v5 16 (U8 H) rfl O6.out ⟨g6,0,none⟩ 8 k6 (U8 (digits 8 0)) rfl (by rw[U8_length,digits_length]) N6.out.news (ones_u8 _) (by unfold maxLen;omega) (by omega) B6.out.size ?_)
 intro v7 w7 hown7 hgrow7 _
 have B7:Hid (Below w.heap.size w w7):=B6.out.grown hgrow7 B6.out.size (fun k hk=>(O6.out.lt k hk).1)
 have O7:Hid (w7.ownsRow w.heap.size 5 1 v7 24 (U8 (H++digits 8 0))):=by
  show w7.ownsRow _ _ _ _ _ _
  rw[show U8 (H++digits 8 0)=U8 H++U8 (digits 8 0) by simp only[U8,List.map_append]]
  exact hown7
 clear hown7 hgrow7 O6 B6 N6
 go_wp2_with fail
 refine (low8_any 1 8 w7 (by omega) (by omega) (by omega)).mono ?_
 rintro e w8 ⟨v8,rfl,ho8,b8⟩
 obtain ⟨g8,k8,rfl,-⟩:=own_shape ho8 (by omega)
 have N8:Hid (BIn w8 (some ⟨g8,0,none⟩) 8 (digits 8 1)):=own_bin ho8 (digits_bytes _ _)
 have O8:Hid (w8.ownsRow w.heap.size 5 1 v7 24 (U8 (H++digits 8 0))):=own_later O7.out b8
 have B8:Hid (Below w.heap.size w w8):=below_then B7.out b8
 clear ho8 b8 O7 B7
 go_wp2_with (at_builtin;refine wpList_append_own _ rfl (.tmp 28) (.tmp 29) 27 rfl w.heap.size 5 i0 (.int .u8 0) 1 1 underlying27 hi hz0 hz1 hz2 rfl (by decide) v7 24 (U8 (H++digits 8 0)) rfl O8.out ⟨g8,0,none⟩ 8 k8 (U8 (digits 8 1)) rfl (by rw[U8_length,digits_length]) N8.out.news (ones_u8 _) (by unfold maxLen;omega) (by omega) B8.out.size ?_)
 intro v9 w9 hown9 hgrow9 _
 have B9:Hid (Below w.heap.size w w9):=B8.out.grown hgrow9 B8.out.size (fun k hk=>(O8.out.lt k hk).1)
 have O9:Hid (w9.ownsRow w.heap.size 5 1 v9 32 (U8 (H++digits 8 0++digits 8 1))):=by
  show w9.ownsRow _ _ _ _ _ _
  simp only[U8,List.map_append,List.append_assoc]
  exact hown9
 clear hown9 hgrow9 O8 B8 N8
 obtain ⟨g9,k9,rfl,-⟩:=own_shape O9.out (by omega)
 go_wp2_with (at_builtin;refine wpList_append_zeros_own _ rfl (.tmp 31) _ 27 3 rfl w.heap.size 5 i0 (.int .u8 0) 1 .i64 .i64 underlying27 underlying3 hi hz0 hz1 hz2 rfl rfl g9 32 k9 (U8 (H++digits 8 0++digits 8 1)) rfl O9.out 28 rfl (by omega) (by unfold maxLen;omega) (by omega) B9.out.size ?_)
 intro v10 w10 hown10 hgrow10
 have B10:Hid (Below w.heap.size w w10):=B9.out.grown hgrow10 B9.out.size (fun k hk=>(O9.out.lt k hk).1)
 have O10:Hid (w10.ownsRow w.heap.size 5 1 v10 60 (U8 (body (sup1 s)))):=by
  show w10.ownsRow _ _ _ _ _ _
  rw[HX.out.2]
  simp only[U8,zs,List.map_append,List.append_assoc,List.map_replicate]
  exact hown10
 clear hown10 hgrow10 O9 B9 HX
 obtain ⟨g10,k10,rfl,-⟩:=own_shape O10.out (by omega)
 have X10:Hid (BIn w10 (some ⟨g10,0,none⟩) 60 (body (sup1 s))):=own_bin O10.out (body_bytes _)
 go_wp2_with fail
 refine (summed_any g10 0 60 k10 (body (sup1 s)) w10 X10.out (by omega) (by omega)).mono ?_
 rintro e w11 ⟨g11,c11,rfl,m11⟩
 have M11:Hid (Made w10 w11 (some ⟨g11,0,none⟩) 64 c11 (encS (sup1 s))):=m11
 clear m11 X10 O10
 go_wp2_with fail
 go_ret
 exact⟨g11,c11,rfl,own_mono M11.out.own B10.out.size,M11.out.read,M11.out.le,M11.out.nil,below_then B10.out M11.out.below⟩
theorem rnew8_bad (s:Sup)(hc:¬MayC s)(w:World) :
  Calls prog 31 #[.agg (ccells s).toArray] w fun e w'=>e=.returned (.tuple #[.pointer none,.int .i64 3])∧Below w.heap.size w w':=by
 have L1:Hid (_):=CAt.load23 (LAt.new 23 w (ccells s))
 have HB:Hid (Below w.heap.size w (w.alloc (.cells (ccells s).toArray 23))):=below_alloc w _
 go_enter func31,ntmps31
 go_wp2_with ((with_reducible refine at_ops ?_);(refine wpList_load_is (by rfl) 23 rfl rfl L1.out ?_);simp only[Act.put,zA,zB,zC])
 refine (rmay_any s _).mono ?_
 rintro e w1 ⟨rfl,b1⟩
 rw[decide_eq_false hc]
 have HB1:Hid (Below w.heap.size w w1):=below_then HB.out b1
 clear b1 HB L1 hc
 go_wp2_with fail
 go_ret2
 exact⟨rfl,HB1.out⟩
theorem rnew8_good (s:Sup)(hc:MayC s)(w:World) :
  Calls prog 31 #[.agg (ccells s).toArray] w fun e w'=>∃p,e=.returned (.tuple #[.pointer (some ⟨p,0,none⟩),.int .i64 0])∧Ref w' (fun k=>w.heap.size≤k) p (cntS s) (newS s) []∧Below w.heap.size w w':=by
 obtain ⟨i0,hi,hz0,hz1,hz2⟩:=info_parts info5
 have L1:Hid (_):=CAt.load23 (LAt.new 23 w (ccells s))
 have HA:Hid (CAt (w.alloc (.cells (ccells s).toArray 23)) w.heap.size s):=LAt.new 23 w (ccells s)
 have HB:Hid (Below w.heap.size w (w.alloc (.cells (ccells s).toArray 23))):=below_alloc w _
 have HC:Hid (MayC s):=hc
 obtain ⟨m,hm⟩:∃m,m=s.bl.toNat:=⟨_,rfl⟩
 obtain ⟨l,hl⟩:∃l,l=s.lc.toNat:=⟨_,rfl⟩
 have hb1:=hc.1
 have hl1:=hc.2.1
 have hmi:s.bl=(m:Int):=by omega
 have hli:s.lc=(l:Int):=by omega
 have hm1:1≤m:=by omega
 have hm2:m≤64:=by omega
 have hl0:2≤l:=by omega
 have hl2:l≤64:=by omega
 obtain ⟨K,hK⟩:∃K,K=64*l:=⟨_,rfl⟩
 have HN:Hid (newS s=encS (sup1 s)++homes m++zs K∧64*(m+1)+K=64*cntS s∧cntS s≤4096):=by
  refine⟨by unfold newS;rw[hK,hl,hm],?_,?_⟩
  ·unfold cntS;omega
  ·have:=(cntS_bd hc).2;omega
 have hk3:(64:Int)*(l:Int)=(K:Int):=by omega
 have hk1:0<K:=by omega
 have hk2:K≤4096:=by omega
 have HCI:Hid (∀w',CAt w' w.heap.size s→w'.cell? ⟨w.heap.size,0,none⟩=some (.int .i64 (m:Int))∧w'.cell? ⟨w.heap.size,1,none⟩=some (.int .i64 (l:Int))):=by
  rw[← hmi,← hli];exact fun w' h=>⟨CAt.c0 h,CAt.c1 h⟩
 clear hm hl hb1 hl1 hmi hli hK
 go_enter func31,ntmps31
 go_wp2_with ((with_reducible refine at_ops ?_);(refine wpList_load_is (by rfl) 23 rfl rfl L1.out ?_);simp only[Act.put,zA,zB,zC])
 refine (rmay_any s _).mono ?_
 rintro e w0 ⟨rfl,b0⟩
 rw[decide_eq_true hc]
 have A0:Hid (CAt w0 w.heap.size s):=LAt.later HA.out b0
 have B0:Hid (Below w.heap.size w w0):=below_then HB.out b0
 have L2:Hid (_):=CAt.load23 A0.out
 clear b0 HA HB L1 hc
 go_wp2_with ((with_reducible refine at_ops ?_);(refine wpList_load_is (by rfl) 23 rfl rfl L2.out ?_);simp only[Act.put,zA,zB,zC])
 refine (rsuper_any s HC.out w0).mono ?_
 rintro e w1 ⟨g1,c1,rfl,m1⟩
 have A1:Hid (CAt w1 w.heap.size s):=LAt.later A0.out m1.below
 have B1:Hid (Below w.heap.size w w1):=below_then B0.out m1.below
 have O1:Hid (w1.ownsRow w.heap.size 5 1 (.slice (some ⟨g1,0,none⟩) 64 c1) 64 (U8 (encS (sup1 s)))):=own_mono m1.own B0.out.size
 clear m1 A0 B0 L2
 go_wp2_with fail
 go_loopw [4,5] (fun v i wr=>∃k:Nat,k≤m∧i=.int .i64 k∧Hid (CAt wr w.heap.size s∧wr.ownsRow w.heap.size 5 1 v (64*(k+1)) (U8 (encS (sup1 s)++homes k))∧Below w.heap.size w wr)) (fun _ i _=>m-(intOf i).toNat)
 case atStart=>exact⟨0,Nat.zero_le _,rfl,A1.out,by simpa [homes] using O1.out,B1.out⟩
 case round =>
  obtain ⟨k,hk,rfl,HI⟩:=hrel
  clear A1 B1 O1
  have Ar:Hid (CAt wr w.heap.size s):=HI.out.1
  have Or:Hid (wr.ownsRow w.heap.size 5 1 u4 (64*(k+1)) (U8 (encS (sup1 s)++homes k))):=HI.out.2.1
  have Br:Hid (Below w.heap.size w wr):=HI.out.2.2
  have c0:=(HCI.out _ Ar.out).1
  clear HI
  by_cases hlt:k<m
  ·have U2:Hid (_):=buildV wr
   go_wp2_with ((with_reducible refine at_ops ?_);(refine wpList_build_is (vs:=[]) (by rfl) 39 rfl (by rfl) U2.out ?_);simp only[Act.put,zA,zB,zC])
   clear c0
   refine (rencode_good (k:Int) (zs 32) ⟨by omega,by omega⟩ (zs_len 32) (zs_bytes 32) wr).mono ?_
   rintro e w2 ⟨g2,c2,rfl,m2⟩
   have A2:Hid (CAt w2 w.heap.size s):=LAt.later Ar.out m2.below
   have B2:Hid (Below w.heap.size w w2):=below_then Br.out m2.below
   have O2:Hid (w2.ownsRow w.heap.size 5 1 u4 (64*(k+1)) (U8 (encS (sup1 s)++homes k))):=own_later Or.out m2.below
   have X2:Hid (BIn w2 (some ⟨g2,0,none⟩) 64 (homeS (k:Int) (zs 32))):=m2.read
   have HL:Hid ((homeS (k:Int) (zs 32)).length=64):=homeS_len _ (zs_len 32)
   have HX:Hid (U8 (encS (sup1 s)++homes (k+1))=U8 (encS (sup1 s)++homes k)++U8 (homeS (k:Int) (zs 32))):=by show _=_;rw[homes_succ];simp only[U8,List.map_append,List.append_assoc]
   clear m2 Ar Or Br U2
   generalize homeS (k:Int) (zs 32)=hs at *
   go_wp2_with (at_builtin;refine wpList_append_own _ rfl (.tmp 27) (.tmp 28) 27 rfl w.heap.size 5 i0 (.int .u8 0) 1 1 underlying27 hi hz0 hz1 hz2 rfl (by decide) u4 (64*(k+1)) (U8 (encS (sup1 s)++homes k)) rfl O2.out ⟨g2,0,none⟩ 64 c2 (U8 hs) rfl (by rw[U8_length,HL.out]) X2.out.news (ones_u8 _) (by unfold maxLen;omega) (by omega) B2.out.size ?_)
   intro v3 w3 hown3 hgrow3 _
   have F3:Hid (CAt w3 w.heap.size s∧w3.ownsRow w.heap.size 5 1 v3 (64*(k+1+1)) (U8 (encS (sup1 s)++homes (k+1)))∧Below w.heap.size w w3):=by
    refine⟨box_kept A2.out O2.out hgrow3 (by decide),?_,B2.out.grown hgrow3 B2.out.size (fun g hg=>(O2.out.lt g hg).1)⟩
    rw[HX.out,show 64*(k+1+1)=64*(k+1)+64 by omega]
    exact hown3
   clear hown3 hgrow3 A2 B2 O2 X2
   go_wp2_with fail
   go_roundw
   case rel=>exact⟨k+1,by omega,by go_num,F3.out⟩
   case measure=>simp[intOf];omega
  ·obtain rfl:m=k:=by omega
   have c1:=(HCI.out _ Ar.out).2
   obtain ⟨g4,c4,rfl,-⟩:=own_shape Or.out (by omega)
   go_wp2_with (at_builtin;refine wpList_append_zeros_own _ rfl (.tmp 31) _ 27 3 rfl w.heap.size 5 i0 (.int .u8 0) 1 .i64 .i64 underlying27 underlying3 hi hz0 hz1 hz2 rfl rfl g4 (64*(m+1)) c4 (U8 (encS (sup1 s)++homes m)) rfl Or.out K rfl hk1 (by unfold maxLen;omega) (by omega) Br.out.size ?_)
   intro v5 w5 hown5 hgrow5
   have B5:Hid (Below w.heap.size w w5):=Br.out.grown hgrow5 Br.out.size (fun k hk=>(Or.out.lt k hk).1)
   have O5:Hid (w5.ownsRow w.heap.size 5 1 v5 (64*(m+1)+K) (U8 (newS s))):=by
    show w5.ownsRow _ _ _ _ _ _
    rw[HN.out.1]
    simp only[U8,zs,List.map_append,List.map_replicate] at hown5 ⊢
    exact hown5
   clear hown5 hgrow5 Or Br Ar c1 c0
   obtain ⟨g5,c5,rfl,hc5⟩:=own_shape O5.out (by omega)
   have X5:Hid (BIn w5 (some ⟨g5,0,none⟩) (64*(m+1)+K) (newS s)):=own_bin O5.out (newS_bytes HC.out)
   clear hc5
   go_wp2_with fail
   refine (rload_good g5 0 (64*(m+1)+K) c5 (cntS s) (newS s) w5 X5.out HN.out.2.1 (by unfold cntS;omega) HN.out.2.2).mono ?_
   rintro e w6 ⟨p,rfl,d6,b6⟩
   have F6:Hid (Ref w6 (fun k=>w.heap.size≤k) p (cntS s) (newS s) []∧Below w.heap.size w w6):=⟨d6.mono (fun k _ hk=>Nat.le_trans B5.out.size hk),below_then B5.out b6⟩
   clear d6 b6 X5 O5 B5
   go_wp2_with fail
   go_ret2
   exact⟨p,rfl,F6.out.1,F6.out.2⟩
end Go.Proofs.YtdadpepfpiimgaaGreatDoor
namespace Go.Proofs.YtdadpepfpiimgaaGreatDoor
open Go.RowKit
theorem Told.at {w:World}{B g:Nat}{ws:List Wr}{vs:List Value}(h:Told w B g ws vs){n:Nat}(hf:Fit n ws)(k:Nat)(hk:k<ws.length) :
  ∃gb cb,w.cell? ⟨g,k*2,none⟩=some (.int .i64 (ws[k].s:Int))∧w.cell? ⟨g,k*2+1,none⟩=some (.slice (some ⟨gb,0,none⟩) 64 cb)∧BIn w (some ⟨gb,0,none⟩) 64 ws[k].b:=by
 have hkv:k<vs.length:=by rw[h.len];exact hk
 have hd:=h.each k hk hkv
 obtain ⟨pb,cb,e,hb,_⟩:=own_in hd (hf.at k hk).2.2
 obtain ⟨gb,ob,rfl,_⟩:=hb.cells (by omega)
 have h00:ob=0:=by
  obtain ⟨_,_,e2,_,h3⟩:=own_slice hd
  rw[e] at e2
  simp only[Value.slice.injEq] at e2
  obtain ⟨g3,h4⟩:=h3 ⟨gb,ob,none⟩ e2.1.symm
  simp only[Addr.mk.injEq] at h4
  exact h4.2.1
 subst h00
 exact⟨gb,cb,h.sect k hk,by rw[h.data k hkv,e],hb⟩
end Go.Proofs.YtdadpepfpiimgaaGreatDoor
