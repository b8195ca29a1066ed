import Derived.Test.YtcdjepkhdjpjcaaGreatDoorY11
set_option maxHeartbeats 20000000
set_option maxRecDepth 100000
namespace Go.Proofs.YtcdjepkhdjpjcaaGreatDoor
open Go.Proofs.Tryz
open Go.RowKit
abbrev eight (a b c d e:Int):List Int:=[a,b,c,d,e,0,0,0]
theorem rsuper_any (s:Sup)(hc:MayC s)(w:World) :
  Calls prog 114 #[.agg (ccells s).toArray] w fun e w'=>∃g c,e=.returned (.slice (some ⟨g,0,none⟩) 64 c)∧Made w w' (some ⟨g,0,none⟩) 64 c (encS (sup1 s)):=by
 obtain ⟨i0,hi,hz0,hz1,hz2⟩:=info_parts info5
 obtain ⟨w0,hw0⟩:∃x,x=w.alloc (.cells (ccells s).toArray 23):=⟨_,rfl⟩
 have sz0:w0.heap.size=w.heap.size+1:=by rw[hw0];simp
 have C0:CAt w0 w.heap.size s:=by rw[hw0];exact LAt.new 23 w _
 have B0:Below w.heap.size w w0:=by rw[hw0];exact below_alloc w _
 have cv:=conv_const w0 NM 6 (w.heap.size+1) sz0
 obtain ⟨w1,hw1⟩:∃x,x=w0.alloc (.cells NM 5 (6,7)):=⟨_,rfl⟩
 have sz1:w1.heap.size=w.heap.size+2:=by rw[hw1];simp[sz0]
 have b1:Below w0.heap.size w0 w1:=by rw[hw1];exact below_alloc w0 _
 have N1:BIn w1 (some ⟨w.heap.size+1,0,none⟩) 6 nm:=by rw[hw1,← sz0];exact lit_mark w0 nm 6 (6,7) rfl nm_bytes
 have cv2:(convert 107 107 (.slice (some ⟨w.heap.size+1,0,none⟩) 6 6)).run prog (w0.alloc (.cells NM 5))=.ok (.slice (some ⟨w.heap.size+1,0,none⟩) 6 6) w1:=by rw[hw1];exact cv
 obtain ⟨w2,hw2⟩:∃x,x=w1.alloc (.cells (U8 [1,0]).toArray 5):=⟨_,rfl⟩
 have b2:Below w1.heap.size w1 w2:=by rw[hw2];exact below_alloc w1 _
 have N2:Hid (BIn w2 (some ⟨w.heap.size+2,0,none⟩) 2 [1,0]):=by rw[hw2,← sz1];exact lit_in w1 _ 2 rfl (by intro x hx;simp at hx;omega)
 have M2:Hid (BIn w2 (some ⟨w.heap.size+1,0,none⟩) 6 nm):=N1.later b2
 have B2:Hid (Below w.heap.size w w2):=below_then B0 (below_then b1 b2)
 have C2:Hid (CAt w2 w.heap.size s):=LAt.later C0 (below_then b1 b2)
 have HO2:Hid (∀j u,(U8 nm)[j]?=some u→w2.cell? ⟨w.heap.size+1,0+j,none⟩=some u):=fun j u hu=>by
  have:=M2.out.news j u hu
  rw[Go.WideShapes.add_plain] at this
  exact this
 have e2:w1.alloc (.cells #[.int .u8 1,.int .u8 0] 5)=w2:=hw2.symm
 have ew0:=hw0.symm
 have HX:Hid (Bytes (eight s.bl s.lc s.mr s.hi s.cl)∧body (sup1 s)=(nm++[1,0]++eight s.bl s.lc s.mr s.hi s.cl)++digits 8 0++digits 8 1++zs 28):=by
  obtain ⟨⟨a1,a2⟩,⟨a3,a4⟩,⟨a5,a6,-,-⟩,⟨a7,a8⟩,⟨a9,a10⟩⟩:=hc
  refine⟨?_,?_⟩
  ·intro y hy
   simp only[eight,List.mem_cons,List.not_mem_nil,or_false] at hy
   omega
  ·unfold body
   show nm++([1,0]++([s.bl % 256,s.lc % 256,s.mr % 256,s.hi % 256,s.cl % 256,0,0,0]++(digits 8 0++(digits 8 1++zs 28))))=_
   rw[show s.bl % 256=s.bl by omega,show s.lc % 256=s.lc by omega,show s.mr % 256=s.mr by omega,show s.hi % 256=s.hi by omega,show s.cl % 256=s.cl by omega]
   simp[eight]
 have q1:IntKind.u8.wrap s.bl=s.bl:=by rw[IntKind.wrap_u8];have:=hc.1;omega
 have q2:IntKind.u8.wrap s.lc=s.lc:=by rw[IntKind.wrap_u8];have:=hc.2.1;omega
 have q3:IntKind.u8.wrap s.mr=s.mr:=by rw[IntKind.wrap_u8];have:=hc.2.2.1;omega
 have q4:IntKind.u8.wrap s.hi=s.hi:=by rw[IntKind.wrap_u8];have:=hc.2.2.2.1;have:=hc.2.1;omega
 have q5:IntKind.u8.wrap s.cl=s.cl:=by rw[IntKind.wrap_u8];have:=hc.2.2.2.2;omega
 clear hw0 hw1 hw2 cv N1 b1 b2 B0 C0 hc
 go_enter func114,ntmps114
 go_wp2_with (at_builtin;refine wpList_append_arg _ rfl (.tmp 5) (.tmp 6) 107 rfl 5 i0 (.int .u8 0) 1 1 underlying107 hi hz0 hz1 hz2 rfl (by decide) (w.heap.size+1) 0 6 6 (U8 nm) rfl rfl HO2.out ⟨w.heap.size+2,0,none⟩ 2 2 (U8 [1,0]) rfl rfl N2.out.news (ones_u8 _) (fun h=>by omega) (by unfold maxLen;omega) (by omega) (fun h=>by omega) ?_;clear cv2)
 intro v4 w4 hown4 hgrow4
 clear e2 ew0 sz1 sz0
 have O4:Hid (w4.ownsRow w.heap.size 5 1 v4 8 (U8 (nm++[1,0]))):=by
  show w4.ownsRow _ _ _ _ _ _
  rw[show U8 (nm++[1,0])=U8 nm++U8 [1,0] by simp only[U8,List.map_append]]
  exact own_mono hown4 B2.out.size
 have B4:Hid (Below w.heap.size w w4):=B2.out.grown hgrow4 B2.out.size (by intro k hk;cases hk)
 have C4:Hid (CAt w4 w.heap.size s):=(hgrow4.block _ (LAt.lt C2.out) (by simp)).trans C2.out
 clear hown4 hgrow4 B2 C2 N2 M2 HO2
 have c0:=CAt.c0 C4.out
 have c1:=CAt.c1 C4.out
 have c2:=CAt.c2 C4.out
 have c3:=CAt.c3 C4.out
 have c4:=CAt.c4 C4.out
 have N4:Hid (BIn (w4.alloc (.cells (U8 (eight s.bl s.lc s.mr s.hi s.cl)).toArray 5)) (some ⟨w4.heap.size,0,none⟩) 8 (eight s.bl s.lc s.mr s.hi s.cl)):=lit_in w4 _ 8 rfl HX.out.1
 have hb4:w.heap.size≤w4.heap.size:=B4.out.size
 go_wp2_with (at_builtin;refine wpList_append_own _ rfl (.tmp 8) (.tmp 24) 107 rfl w.heap.size 5 i0 (.int .u8 0) 1 1 underlying107 hi hz0 hz1 hz2 rfl (by decide) v4 8 (U8 (nm++[1,0])) rfl (O4.out.alloc _) ⟨w4.heap.size,0,none⟩ 8 8 (U8 (eight s.bl s.lc s.mr s.hi s.cl)) rfl rfl N4.out.news (ones_u8 _) (by unfold maxLen;omega) (by omega) (by simp;omega) ?_)
 intro v5 w5 hown5 hgrow5 _
 have B5:Hid (Below w.heap.size w w5):=(B4.out.alloc B4.out.size _).grown hgrow5 (by simp;omega) (fun k hk=>(O4.out.lt k hk).1)
 have O5:Hid (w5.ownsRow w.heap.size 5 1 v5 16 (U8 (nm++[1,0]++eight s.bl s.lc s.mr s.hi s.cl))):=by
  show w5.ownsRow _ _ _ _ _ _
  simp only[U8,List.map_append] at hown5 ⊢
  exact hown5
 clear hown5 hgrow5 B4 C4 O4 N4 c0 c1 c2 c3 c4 q1 q2 q3 q4 q5 hb4
 obtain ⟨H,hH⟩:∃H,H=nm++[1,0]++eight s.bl s.lc s.mr s.hi s.cl:=⟨_,rfl⟩
 rw[← hH] at HX O5
 clear hH
 go_wp2_with fail
 refine (low8_any 0 8 w5 (by omega) (by omega) (by omega)).mono ?_
 rintro e w6 ⟨v6,rfl,ho6,b6⟩
 obtain ⟨g6,k6,rfl,-⟩:=own_shape ho6 (by omega)
 have N6:Hid (BIn w6 (some ⟨g6,0,none⟩) 8 (digits 8 0)):=own_bin ho6 (digits_bytes _ _)
 have O6:Hid (w6.ownsRow w.heap.size 5 1 v5 16 (U8 H)):=own_later O5.out b6
 have B6:Hid (Below w.heap.size w w6):=below_then B5.out b6
 clear ho6 b6 O5 B5
 go_wp2_with (at_builtin;refine wpList_append_own _ rfl (.tmp 26) (.tmp 27) 107 rfl w.heap.size 5 i0 (.int .u8 0) 1 1 underlying107 hi hz0 hz1 hz2 rfl (by decide) v5 16 (U8 H) rfl O6.out ⟨g6,0,none⟩ 8 k6 (U8 (digits 8 0)) rfl (by rw[U8_length,digits_length]) N6.out.news (ones_u8 _) (by unfold maxLen;omega) (by omega) B6.out.size ?_)
 intro v7 w7 hown7 hgrow7 _
 have B7:Hid (Below w.heap.size w w7):=B6.out.grown hgrow7 B6.out.size (fun k hk=>(O6.out.lt k hk).1)
 have O7:Hid (w7.ownsRow w.heap.size 5 1 v7 24 (U8 (H++digits 8 0))):=by
  show w7.ownsRow _ _ _ _ _ _
  rw[show U8 (H++digits 8 0)=U8 H++U8 (digits 8 0) by simp only[U8,List.map_append]]
  exact hown7
 clear hown7 hgrow7 O6 B6 N6
 go_wp2_with fail
 refine (low8_any 1 8 w7 (by omega) (by omega) (by omega)).mono ?_
 rintro e w8 ⟨v8,rfl,ho8,b8⟩
 obtain ⟨g8,k8,rfl,-⟩:=own_shape ho8 (by omega)
 have N8:Hid (BIn w8 (some ⟨g8,0,none⟩) 8 (digits 8 1)):=own_bin ho8 (digits_bytes _ _)
 have O8:Hid (w8.ownsRow w.heap.size 5 1 v7 24 (U8 (H++digits 8 0))):=own_later O7.out b8
 have B8:Hid (Below w.heap.size w w8):=below_then B7.out b8
 clear ho8 b8 O7 B7
 go_wp2_with (at_builtin;refine wpList_append_own _ rfl (.tmp 28) (.tmp 29) 107 rfl w.heap.size 5 i0 (.int .u8 0) 1 1 underlying107 hi hz0 hz1 hz2 rfl (by decide) v7 24 (U8 (H++digits 8 0)) rfl O8.out ⟨g8,0,none⟩ 8 k8 (U8 (digits 8 1)) rfl (by rw[U8_length,digits_length]) N8.out.news (ones_u8 _) (by unfold maxLen;omega) (by omega) B8.out.size ?_)
 intro v9 w9 hown9 hgrow9 _
 have B9:Hid (Below w.heap.size w w9):=B8.out.grown hgrow9 B8.out.size (fun k hk=>(O8.out.lt k hk).1)
 have O9:Hid (w9.ownsRow w.heap.size 5 1 v9 32 (U8 (H++digits 8 0++digits 8 1))):=by
  show w9.ownsRow _ _ _ _ _ _
  simp only[U8,List.map_append,List.append_assoc]
  exact hown9
 clear hown9 hgrow9 O8 B8 N8
 obtain ⟨g9,k9,rfl,-⟩:=own_shape O9.out (by omega)
 go_wp2_with (at_builtin;refine wpList_append_zeros_own _ rfl (.tmp 31) _ 107 3 rfl w.heap.size 5 i0 (.int .u8 0) 1 .i64 .i64 underlying107 underlying3 hi hz0 hz1 hz2 rfl rfl g9 32 k9 (U8 (H++digits 8 0++digits 8 1)) rfl O9.out 28 rfl (by omega) (by unfold maxLen;omega) (by omega) B9.out.size ?_)
 intro v10 w10 hown10 hgrow10
 have B10:Hid (Below w.heap.size w w10):=B9.out.grown hgrow10 B9.out.size (fun k hk=>(O9.out.lt k hk).1)
 have O10:Hid (w10.ownsRow w.heap.size 5 1 v10 60 (U8 (body (sup1 s)))):=by
  show w10.ownsRow _ _ _ _ _ _
  rw[HX.out.2]
  simp only[U8,zs,List.map_append,List.append_assoc,List.map_replicate]
  exact hown10
 clear hown10 hgrow10 O9 B9 HX
 obtain ⟨g10,k10,rfl,-⟩:=own_shape O10.out (by omega)
 have X10:Hid (BIn w10 (some ⟨g10,0,none⟩) 60 (body (sup1 s))):=own_bin O10.out (body_bytes _)
 go_wp2_with fail
 refine (summed_any g10 0 60 k10 (body (sup1 s)) w10 X10.out (by omega) (by omega)).mono ?_
 rintro e w11 ⟨g11,c11,rfl,m11⟩
 have M11:Hid (Made w10 w11 (some ⟨g11,0,none⟩) 64 c11 (encS (sup1 s))):=m11
 clear m11 X10 O10
 go_wp2_with fail
 go_ret
 exact⟨g11,c11,rfl,own_mono M11.out.own B10.out.size,M11.out.read,M11.out.le,M11.out.nil,below_then B10.out M11.out.below⟩
theorem rnew8_good (s:Sup)(hc:MayC s)(w:World) :
  Calls prog 55 #[.agg (ccells s).toArray] w fun e w'=>∃p,e=.returned (.tuple #[.pointer (some ⟨p,0,none⟩),.int .i64 0])∧Ref w' (fun k=>w.heap.size≤k) p (cntS s) (newS s) []∧Below w.heap.size w w':=by
 obtain ⟨i0,hi,hz0,hz1,hz2⟩:=info_parts info5
 have L1:Hid (_):=CAt.load23 (LAt.new 23 w (ccells s))
 have HA:Hid (CAt (w.alloc (.cells (ccells s).toArray 23)) w.heap.size s):=LAt.new 23 w (ccells s)
 have HB:Hid (Below w.heap.size w (w.alloc (.cells (ccells s).toArray 23))):=below_alloc w _
 have HC:Hid (MayC s):=hc
 obtain ⟨m,hm⟩:∃m,m=s.bl.toNat:=⟨_,rfl⟩
 obtain ⟨l,hl⟩:∃l,l=s.lc.toNat:=⟨_,rfl⟩
 have hb1:=hc.1
 have hl1:=hc.2.1
 have hmi:s.bl=(m:Int):=by omega
 have hli:s.lc=(l:Int):=by omega
 have hm1:1≤m:=by omega
 have hm2:m≤64:=by omega
 have hl0:2≤l:=by omega
 have hl2:l≤64:=by omega
 obtain ⟨K,hK⟩:∃K,K=64*l:=⟨_,rfl⟩
 have HN:Hid (newS s=encS (sup1 s)++homes m++zs K∧64*(m+1)+K=64*cntS s∧cntS s≤4096):=by
  refine⟨by unfold newS;rw[hK,hl,hm],?_,?_⟩
  ·unfold cntS;omega
  ·have:=(cntS_bd hc).2;omega
 have hk3:(64:Int)*(l:Int)=(K:Int):=by omega
 have hk1:0<K:=by omega
 have hk2:K≤4096:=by omega
 have HCI:Hid (∀w',CAt w' w.heap.size s→w'.cell? ⟨w.heap.size,0,none⟩=some (.int .i64 (m:Int))∧w'.cell? ⟨w.heap.size,1,none⟩=some (.int .i64 (l:Int))):=by
  rw[← hmi,← hli];exact fun w' h=>⟨CAt.c0 h,CAt.c1 h⟩
 clear hm hl hb1 hl1 hmi hli hK
 go_enter func55,ntmps55
 go_wp2_with ((with_reducible refine at_ops ?_);(refine wpList_load_is (by rfl) 23 rfl rfl L1.out ?_);simp only[Act.put,zA,zB,zC])
 refine (rmay_any s _).mono ?_
 rintro e w0 ⟨rfl,b0⟩
 rw[decide_eq_true hc]
 have A0:Hid (CAt w0 w.heap.size s):=LAt.later HA.out b0
 have B0:Hid (Below w.heap.size w w0):=below_then HB.out b0
 have L2:Hid (_):=CAt.load23 A0.out
 clear b0 HA HB L1 hc
 go_wp2_with ((with_reducible refine at_ops ?_);(refine wpList_load_is (by rfl) 23 rfl rfl L2.out ?_);simp only[Act.put,zA,zB,zC])
 refine (rsuper_any s HC.out w0).mono ?_
 rintro e w1 ⟨g1,c1,rfl,m1⟩
 have A1:Hid (CAt w1 w.heap.size s):=LAt.later A0.out m1.below
 have B1:Hid (Below w.heap.size w w1):=below_then B0.out m1.below
 have O1:Hid (w1.ownsRow w.heap.size 5 1 (.slice (some ⟨g1,0,none⟩) 64 c1) 64 (U8 (encS (sup1 s)))):=own_mono m1.own B0.out.size
 clear m1 A0 B0 L2
 go_wp2_with fail
 go_loopw [4,5] (fun v i wr=>∃k:Nat,k≤m∧i=.int .i64 k∧Hid (CAt wr w.heap.size s∧wr.ownsRow w.heap.size 5 1 v (64*(k+1)) (U8 (encS (sup1 s)++homes k))∧Below w.heap.size w wr)) (fun _ i _=>m-(intOf i).toNat)
 case atStart=>exact⟨0,Nat.zero_le _,rfl,A1.out,by simpa [homes] using O1.out,B1.out⟩
 case round =>
  obtain ⟨k,hk,rfl,HI⟩:=hrel
  clear A1 B1 O1
  have Ar:Hid (CAt wr w.heap.size s):=HI.out.1
  have Or:Hid (wr.ownsRow w.heap.size 5 1 u4 (64*(k+1)) (U8 (encS (sup1 s)++homes k))):=HI.out.2.1
  have Br:Hid (Below w.heap.size w wr):=HI.out.2.2
  have c0:=(HCI.out _ Ar.out).1
  clear HI
  by_cases hlt:k<m
  ·have U2:Hid (_):=buildV wr
   go_wp2_with ((with_reducible refine at_ops ?_);(refine wpList_build_is (vs:=[]) (by rfl) 51 rfl (by rfl) U2.out ?_);simp only[Act.put,zA,zB,zC])
   clear c0
   refine (rencode_good (k:Int) (zs 32) ⟨by omega,by omega⟩ (zs_len 32) (zs_bytes 32) wr).mono ?_
   rintro e w2 ⟨g2,c2,rfl,m2⟩
   have A2:Hid (CAt w2 w.heap.size s):=LAt.later Ar.out m2.below
   have B2:Hid (Below w.heap.size w w2):=below_then Br.out m2.below
   have O2:Hid (w2.ownsRow w.heap.size 5 1 u4 (64*(k+1)) (U8 (encS (sup1 s)++homes k))):=own_later Or.out m2.below
   have X2:Hid (BIn w2 (some ⟨g2,0,none⟩) 64 (homeS (k:Int) (zs 32))):=m2.read
   have HL:Hid ((homeS (k:Int) (zs 32)).length=64):=homeS_len _ (zs_len 32)
   have HX:Hid (U8 (encS (sup1 s)++homes (k+1))=U8 (encS (sup1 s)++homes k)++U8 (homeS (k:Int) (zs 32))):=by show _=_;rw[homes_succ];simp only[U8,List.map_append,List.append_assoc]
   clear m2 Ar Or Br U2
   generalize homeS (k:Int) (zs 32)=hs at *
   go_wp2_with (at_builtin;refine wpList_append_own _ rfl (.tmp 27) (.tmp 28) 107 rfl w.heap.size 5 i0 (.int .u8 0) 1 1 underlying107 hi hz0 hz1 hz2 rfl (by decide) u4 (64*(k+1)) (U8 (encS (sup1 s)++homes k)) rfl O2.out ⟨g2,0,none⟩ 64 c2 (U8 hs) rfl (by rw[U8_length,HL.out]) X2.out.news (ones_u8 _) (by unfold maxLen;omega) (by omega) B2.out.size ?_)
   intro v3 w3 hown3 hgrow3 _
   have F3:Hid (CAt w3 w.heap.size s∧w3.ownsRow w.heap.size 5 1 v3 (64*(k+1+1)) (U8 (encS (sup1 s)++homes (k+1)))∧Below w.heap.size w w3):=by
    refine⟨box_kept A2.out O2.out hgrow3 (by decide),?_,B2.out.grown hgrow3 B2.out.size (fun g hg=>(O2.out.lt g hg).1)⟩
    rw[HX.out,show 64*(k+1+1)=64*(k+1)+64 by omega]
    exact hown3
   clear hown3 hgrow3 A2 B2 O2 X2
   go_wp2_with fail
   go_roundw
   case rel=>exact⟨k+1,by omega,by go_num,F3.out⟩
   case measure=>simp[intOf];omega
  ·obtain rfl:m=k:=by omega
   have c1:=(HCI.out _ Ar.out).2
   obtain ⟨g4,c4,rfl,-⟩:=own_shape Or.out (by omega)
   go_wp2_with (at_builtin;refine wpList_append_zeros_own _ rfl (.tmp 31) _ 107 3 rfl w.heap.size 5 i0 (.int .u8 0) 1 .i64 .i64 underlying107 underlying3 hi hz0 hz1 hz2 rfl rfl g4 (64*(m+1)) c4 (U8 (encS (sup1 s)++homes m)) rfl Or.out K rfl hk1 (by unfold maxLen;omega) (by omega) Br.out.size ?_)
   intro v5 w5 hown5 hgrow5
   have B5:Hid (Below w.heap.size w w5):=Br.out.grown hgrow5 Br.out.size (fun k hk=>(Or.out.lt k hk).1)
   have O5:Hid (w5.ownsRow w.heap.size 5 1 v5 (64*(m+1)+K) (U8 (newS s))):=by
    show w5.ownsRow _ _ _ _ _ _
    rw[HN.out.1]
    simp only[U8,zs,List.map_append,List.map_replicate] at hown5 ⊢
    exact hown5
   clear hown5 hgrow5 Or Br Ar c1 c0
   obtain ⟨g5,c5,rfl,hc5⟩:=own_shape O5.out (by omega)
   have X5:Hid (BIn w5 (some ⟨g5,0,none⟩) (64*(m+1)+K) (newS s)):=own_bin O5.out (newS_bytes HC.out)
   clear hc5
   go_wp2_with fail
   refine (rload_good g5 0 (64*(m+1)+K) c5 (cntS s) (newS s) w5 X5.out HN.out.2.1 (by unfold cntS;omega) HN.out.2.2).mono ?_
   rintro e w6 ⟨p,rfl,d6,b6⟩
   have F6:Hid (Ref w6 (fun k=>w.heap.size≤k) p (cntS s) (newS s) []∧Below w.heap.size w w6):=⟨d6.mono (fun k _ hk=>Nat.le_trans B5.out.size hk),below_then B5.out b6⟩
   clear d6 b6 X5 O5 B5
   go_wp2_with fail
   go_ret2
   exact⟨p,rfl,F6.out.1,F6.out.2⟩
end Go.Proofs.YtcdjepkhdjpjcaaGreatDoor
