import Derived.Test.YtdadpepfpiimgaaGreatDoorK15
set_option maxHeartbeats 20000000
set_option maxRecDepth 100000
namespace Go.Proofs.YtdadpepfpiimgaaGreatDoor.R
open Go.Proofs.Tryz
open Go.RowKit
theorem made_zeros (k:Nat):(madeCells #[Value.int .u8 0] k).toList=U8 (zs k):=by
 rw[toList_madeCells_one]
 simp[U8,zs]
theorem num_sum (r:Rec)(h:may r=true):r.block+r.images=numS r:=by
 rw[may_iff] at h
 unfold numS
 rcases h.2 with h2 | h2
 ·obtain ⟨a,b,c,d⟩:=h2
  rw[if_pos a];omega
 ·obtain ⟨a,b,c,d,e⟩:=h2
  rw[if_neg (by omega)];omega
theorem head_split (r:Rec):[87,r.kind,0,0]++digits 8 r.pos++digits 4 (numS r)++r.val=head r:=by simp[head]
theorem zs_split (a b:Nat):zs (a+b)=zs a++zs b:=by unfold zs;rw[List.replicate_append_replicate]
theorem set_two (k:Int):((zs 64).set 0 87).set 1 k=[87,k,0,0]++zs 60:=rfl
theorem refEncode_bad (r:Rec)(hv:r.val.length=32)(hm:¬may r=true)(w:World) :
  Calls prog 166 #[.agg (rcells r).toArray] w fun e w'=>e=.returned (.tuple #[.slice none 0 0,.int .i64 60])∧Below w.heap.size w w':=by
 have L1:Hid (_):=(RAt.new 245 w r).load37 hv
 have hc:=chk_no r hm
 go_enter func166,ntmps166
 go_wp2_with ((with_reducible refine at_seq ?_);(refine wpList_load_is (by rfl) 245 rfl rfl L1.out ?_);simp only[Act.put,zA,zB,zC])
 refine (refCheck_any r hv _).mono ?_
 rintro e w1 ⟨rfl,b1⟩
 rw[hc]
 have HB:Hid (Below w.heap.size w w1):=below_of_alloc b1
 clear b1 L1 hm hc
 go_wp2_with fail
 go_ret2
 exact⟨rfl,HB.out⟩
theorem refEncode_good (r:Rec)(hw:r.Wf)(hm:may r=true)(w:World) :
  Calls prog 166 #[.agg (rcells r).toArray] w fun e w'=>∃p c,e=.returned (.tuple #[.slice p 64 c,.int .i64 0])∧Made w w' p 64 c (encS r):=by
 obtain ⟨i0,hi,hz0,hz1,hz2⟩:=info_parts info5
 have L1:Hid (_):=(RAt.new 245 w r).load37 hw.len
 have HW:Hid (r.Wf):=hw
 have HM:Hid (may r=true):=hm
 have hc:=chk_yes r hm
 have HS:Hid (r.block+r.images=numS r):=num_sum r hm
 have HN:Hid (0≤numS r∧numS r<64):=numS_bd r hm
 have HK:Hid (0≤r.kind∧r.kind<256):=by have:=may_kind hm;exact⟨by omega,by omega⟩
 go_enter func166,ntmps166
 go_wp2_with ((with_reducible refine at_seq ?_);(refine wpList_load_is (by rfl) 245 rfl rfl L1.out ?_);simp only[Act.put,zA,zB,zC])
 refine (refCheck_any r hw.len _).mono ?_
 rintro e w1 ⟨rfl,b1⟩
 rw[hc]
 have B1:Hid (Below w.heap.size w w1):=below_of_alloc b1
 have R1:Hid (RAt 245 w1 w.heap.size r):=(RAt.new 245 w r).later b1
 clear b1 L1 hm hc hw
 go_wp2_with (at_make;refine wpList_make_full _ rfl _ _ 27 rfl w1.heap.size 5 i0 (.int .u8 0) 1 underlying27 hi hz0 hz1 .i64 .i64 _ _ 64 rfl rfl rfl rfl (by rw[hz2];omega) (by unfold maxLen;omega) (Nat.le_refl _) ?_)
 intro w2 hown hgrow
 rw[made_zeros 64] at hown
 have b2:Below w1.heap.size w1 w2:=(Below.refl w1.heap.size w1).grown hgrow (Nat.le_refl _) (by intro k hk;cases hk)
 have R2:RAt 245 w2 w.heap.size r:=R1.out.later b2
 have gne:w.heap.size<w1.heap.size:=R1.out.lt
 have GNE:Hid (w.heap.size<w1.heap.size):=gne
 -- the first two bytes
 have s0:=hown.stored 0 (.int .u8 87)
 have f0:=hown.frozenAt 0
 have c0:=hown.cellAt 0 (by omega)
 obtain ⟨u0,hu0⟩:∃u,w2.cell? ⟨w1.heap.size,0,none⟩=some u:=⟨_,by rw[c0];exact List.getElem?_eq_getElem (by simp[zs])⟩
 obtain ⟨w3,hw3⟩:∃w3,w3=w2.setCell ⟨w1.heap.size,0,none⟩ (.int .u8 87):=⟨_,rfl⟩
 have o3:w3.ownsRow w1.heap.size 5 1 (.slice (some ⟨w1.heap.size,0,none⟩) 64 64) 64 ((U8 (zs 64)).set 0 (.int .u8 87)):=by rw[hw3];exact s0.1
 have R3:RAt 245 w3 w.heap.size r:=by rw[hw3];exact (heap_setCell_other w2 ⟨w1.heap.size,0,none⟩ w.heap.size _ (by simp;omega)).trans R2
 have b3:Below w1.heap.size w1 w3:=by rw[hw3];exact b2.setCell (Nat.le_refl _) _
 have s1:=o3.stored 1 (.int .u8 r.kind)
 have f1:=o3.frozenAt 1
 have c1:=o3.cellAt 1 (by omega)
 obtain ⟨u1,hu1⟩:∃u,w3.cell? ⟨w1.heap.size,1,none⟩=some u:=⟨_,by rw[c1];exact List.getElem?_eq_getElem (by simp[zs])⟩
 obtain ⟨w4,hw4⟩:∃w4,w4=w3.setCell ⟨w1.heap.size,1,none⟩ (.int .u8 r.kind):=⟨_,rfl⟩
 have o4:w4.ownsRow w1.heap.size 5 1 (.slice (some ⟨w1.heap.size,0,none⟩) 64 64) 64 (U8 ([87,r.kind,0,0]++zs 60)):=by
  rw[hw4]
  have:=s1.1
  rw[show ((U8 (zs 64)).set 0 (.int .u8 87)).set 1 (.int .u8 r.kind)=U8 ([87,r.kind,0,0]++zs 60) by rw[← set_two];simp[U8,List.map_set]] at this
  exact this
 have R4:RAt 245 w4 w.heap.size r:=by rw[hw4];exact (heap_setCell_other w3 ⟨w1.heap.size,1,none⟩ w.heap.size _ (by simp;omega)).trans R3
 have b4:Below w1.heap.size w1 w4:=by rw[hw4];exact b3.setCell (Nat.le_refl _) _
 have k3:=R3.c0
 have k4:=R4.c1
 have O4:Hid (_):=o4
 have B4:Hid (_):=b4
 have RR:Hid (RAt 245 w4 w.heap.size r):=R4
 have kk0:=HK.out.1
 have kk1:=HK.out.2
 have e3:=hw3.symm
 have e4:=hw4.symm
 clear hown hgrow b2 R2 s0 c0 o3 R3 b3 s1 c1 o4 R4 b4 hw3 hw4
 go_wp2_with fail
 refine (refPut_any w1.heap.size w1.heap.size 64 4 8 60 [87,r.kind,0,0] r.pos w1 w4 O4.out B4.out rfl (by omega) (by omega) (by omega) HW.out.p0 HW.out.p1).mono ?_
 rintro e w5 ⟨rfl,o5,b5⟩
 clear e3 e4 f0 f1 hu0 hu1 k3 k4 kk0 kk1 O4 B4
 have O5:Hid (_):=o5
 have B5:Hid (Below w1.heap.size w1 w5):=b5
 have R5:RAt 245 w5 w.heap.size r:=R1.out.below b5 GNE.out
 have d2:=R5.c2
 have d4:=R5.c35 HW.out.len
 have hsum:=HS.out
 have hn0:=HN.out.1
 have hn1:=HN.out.2
 clear o5 b5 R5
 have HP16:Hid (([87,r.kind,0,0]++digits 8 r.pos).length=12):=by show _=_;simp[digits_length]
 obtain ⟨nn,hnn⟩:∃nn,nn=numS r:=⟨_,rfl⟩
 rw[← hnn] at hsum hn0 hn1
 have HNN:Hid (nn=numS r):=hnn
 clear hnn
 go_wp2_with fail
 refine (refPut_any w1.heap.size w1.heap.size 64 12 4 52 ([87,r.kind,0,0]++digits 8 r.pos) nn w1 w5 O5.out B5.out HP16.out (by omega) (by omega) (by omega) hn0 (by omega)).mono ?_
 rintro e w6 ⟨rfl,o6,b6⟩
 rw[HNN.out] at o6
 have O6:Hid (w6.ownsRow w1.heap.size 5 1 (.slice (some ⟨w1.heap.size,0,none⟩) 64 64) 64 (U8 (lay ([87,r.kind,0,0]++digits 8 r.pos++digits 4 (numS r)) r.val 48 0))):=by rw[lay_zero];exact o6
 have B6:Hid (Below w1.heap.size w1 w6):=b6
 clear o6 b6 d2 d4 hsum hn0 hn1 HNN O5 B5 HP16 HS HN
 have HPL:Hid (([87,r.kind,0,0]++digits 8 r.pos++digits 4 (numS r)).length=16):=by show _=_;simp[digits_length]
 have HHS:Hid (([87,r.kind,0,0]++digits 8 r.pos++digits 4 (numS r))++r.val=head r):=head_split r
 generalize [87,r.kind,0,0]++digits 8 r.pos++digits 4 (numS r)=P at *
 go_wp2_with fail
 go_loopw [6] (fun k wr=>∃j:Nat,j≤32∧k=.int .i64 j∧Hid (wr.ownsRow w1.heap.size 5 1 (.slice (some ⟨w1.heap.size,0,none⟩) 64 64) 64 (U8 (lay P r.val 48 j))∧Below w1.heap.size w1 wr)) (fun k _=>32-(intOf k).toNat)
 case atStart=>exact⟨0,by omega,rfl,O6.out,B6.out⟩
 case round =>
  obtain ⟨j,hj,rfl,HR⟩:=hrel
  clear O6 B6
  by_cases hlt:j<32
  ·have hjv:j<r.val.length:=by rw[HW.out.len];exact hlt
   have Rr:=R1.out.below HR.out.2 GNE.out
   have cv:wr.cell? ⟨w.heap.size,3+j,none⟩=some (.int .u8 r.val[j]):=(Rr.cell (3+j)).trans (rcells_val r j hjv)
   have hst:=HR.out.1.stored (16+j) (.int .u8 r.val[j])
   have hset:(U8 (lay P r.val 48 j)).set (16+j) (.int .u8 r.val[j])=U8 (lay P r.val 48 (j+1)):=by
    rw[← lay_step P _ 48 j 16 HPL.out hjv (by rw[HW.out.len];omega)]
    simp[U8,List.map_set]
   rw[hset] at hst
   have hcell:=HR.out.1.cellAt (16+j) (by omega)
   have hlen:(U8 (lay P r.val 48 j)).length=64:=by rw[List.length_map,lay_len _ _ _ _ (by omega) (by rw[HW.out.len];omega),HPL.out]
   obtain ⟨u,hu⟩:∃u,wr.cell? ⟨w1.heap.size,16+j,none⟩=some u:=⟨_,by rw[hcell];exact List.getElem?_eq_getElem (by omega)⟩
   have hfz:=HR.out.1.frozenAt (16+j)
   have HQ:Hid ((wr.setCell ⟨w1.heap.size,16+j,none⟩ (.int .u8 r.val[j])).ownsRow w1.heap.size 5 1 (.slice (some ⟨w1.heap.size,0,none⟩) 64 64) 64 (U8 (lay P r.val 48 (j+1)))∧Below w1.heap.size w1 (wr.setCell ⟨w1.heap.size,16+j,none⟩ (.int .u8 r.val[j]))):=⟨hst.1,HR.out.2.setCell (Nat.le_refl _) _⟩
   clear hst hset hcell hlen HR Rr
   generalize r.val[j]=x at *
   clear hjv
   have i1:(16:Int)+(j:Int)<64:=by omega
   have i0:(0:Int)≤(16:Int)+(j:Int):=by omega
   go_wp2_with fail
   go_roundw
   case rel=>exact⟨j+1,by omega,by go_num,HQ.out⟩
   case measure=>simp[intOf];omega
  ·obtain ⟨w7,hw7⟩:∃w7,w7=wr:=⟨_,rfl⟩
   subst hw7
   have O7:Hid (w7.ownsRow w1.heap.size 5 1 (.slice (some ⟨w1.heap.size,0,none⟩) 64 64) 64 (U8 (body r++zs 4))):=by
    have:=HR.out.1
    obtain rfl:j=32:=by omega
    rw[lay_all P r.val 48 32 HW.out.len,HHS.out,show (48-32:Nat)=12+4 by omega,zs_split,← List.append_assoc] at this
    exact this
   have B7:Hid (Below w1.heap.size w1 w7):=HR.out.2
   have HBL:Hid ((body r).length=60):=body_len r HW.out.len
   have HBB:Hid (Bytes (body r)):=body_bytes r HW.out HM.out
   have X7:Hid (BIn w7 (some ⟨w1.heap.size,0,none⟩) 60 (body r)):=by
    obtain ⟨p',c',e',hx,-⟩:=own_in O7.out (HBB.out.append (zs_bytes 4))
    simp only[Value.slice.injEq] at e'
    have:=hx.take 60 (by omega)
    rw[← e'.1,List.take_append_of_le_length (by rw[HBL.out];omega),List.take_of_length_le (by rw[HBL.out];omega)] at this
    exact this
   clear HR
   go_wp2_with fail
   refine (refOf_any _ 60 64 (body r) w7 X7.out (by omega)).mono ?_
   rintro e w8 ⟨rfl,rfl⟩
   have hcl:=crc_lt (body r) HBB.out
   have HE:Hid (encS r=body r++digits 4 ((crc (body r):Nat):Int)++zs (4-4)):=by show _=_;simp[encS,zs]
   generalize crc (body r)=S at *
   go_wp2_with fail
   refine (refPut_any w1.heap.size w1.heap.size 64 60 4 4 (body r) (S:Int) w1 w7 O7.out B7.out HBL.out (by omega) (by omega) (by omega) (by omega) (by omega)).mono ?_
   rintro e w9 ⟨rfl,o9,b9⟩
   rw[← HE.out] at o9
   obtain ⟨p9,c9,e9,m9⟩:=made_of (own_mono o9 B1.out.size) (encS_bytes r HW.out HM.out) (below_then B1.out b9)
   simp only[Value.slice.injEq,true_and] at e9
   obtain ⟨rfl,rfl⟩:=e9
   have M9:Hid (_):=m9
   clear o9 b9 m9
   go_wp2_with fail
   go_ret2
   exact⟨_,_,rfl,M9.out⟩
theorem refEncode_any (r:Rec)(hw:r.Wf)(w:World) :
  Calls prog 166 #[.agg (rcells r).toArray] w fun e w'=>∃p n c,e=.returned (.tuple #[.slice p n c,.int .i64 (chk r)])∧n=(encT r).length∧Made w w' p n c (encT r):=by
 by_cases hm:may r=true
 ·rw[encT_yes r hm,chk_yes r hm]
  refine (refEncode_good r hw hm w).mono ?_
  rintro e w' ⟨p,c,rfl,m⟩
  exact⟨p,64,c,rfl,(encS_len r hw.len).symm,m⟩
 ·rw[encT_no r hm,chk_no r hm]
  refine (refEncode_bad r hw.len hm w).mono ?_
  rintro e w' ⟨rfl,b⟩
  exact⟨none,0,0,rfl,rfl,World.ownsRow_nil _ _ _ _,BIn.empty,Nat.le_refl _,fun _=>rfl,b⟩
theorem refDecode_len (p:Option Addr)(n c:Nat)(w:World)(hn:n≠64) :
  Calls prog 152 #[.slice p n c] w fun e w'=>e=.returned (.tuple #[.agg (rcells rec0).toArray,.int .i64 2])∧Below w.heap.size w w':=by
 have A1:Hid (_):=alloc37 w
 have R1:Hid (RAt 245 (w.alloc (.cells (rcells rec0).toArray 245)) w.heap.size rec0):=RAt.new 245 w rec0
 have B1:Hid (_):=build37 (w.alloc (.cells (rcells rec0).toArray 245)) #[] rec0 fill_none
 have S1:Hid (_):=store_new size37 w rec0 rec0_len
 have hn':(((n:Nat):Int) != 64)=true:=by simp;omega
 go_enter func152,ntmps152
 go_wp2_with ((with_reducible refine at_seq ?_);(first | (refine wpList_alloc_is (by rfl) 245 rfl A1.out ?_) | (refine wpList_build_is (vs:=[]) (by rfl) 245 rfl (by rfl) B1.out ?_) | (refine wpList_store_is (by rfl) 245 rfl rfl rfl S1.out ?_));simp only[Act.put,zA,zB,zC])
 exact bodyPost_ret (results_rec results152 _ _ w.heap.size 245 _ _ (by rfl) R1.out rec0_len underlying245 rfl size37) rfl ⟨rfl,below_alloc w _⟩
theorem RAt.setv {t:TypeId}{w:World}{g:Nat}{r:Rec}(h:RAt t w g r)(j:Nat)(x:Int)(hj:j<r.val.length):RAt t (w.setCell ⟨g,3+j,none⟩ (.int .u8 x)) g ⟨r.kind,r.pos,r.block,r.val.set j x,r.images⟩:=by
 have:=heap_setCell_same w g (3+j) _ t (.int .u8 x) h
 unfold RAt
 rw[this,zA]
 congr 3
 simp only[rcells]
 rw[show 3+j=j+1+1+1 by omega,zC,zC,zC,List.set_append_left _ _ (by rw[U8_length];exact hj)]
 simp[U8,List.map_set]
theorem build_ku (w:World)(k u:Int):(Instr.build 245 #[(0,.int .i64 k),(1,.int .u64 u)]).run prog w=.ok (.agg (rcells ⟨k,u,0,zs 32,0⟩).toArray) w :=
 build37 w _ _ ((fill_k rec0 rec0_len k _).trans (fill_p ⟨k,0,0,zs 32,0⟩ (zs_len 32) u []))
theorem refDecode_64 (p:Option Addr)(c:Nat)(xs:List Int)(w:World)(hx:BIn w p 64 xs) :
  Calls prog 152 #[.slice p 64 c] w fun e w'=>e=.returned (.tuple #[.agg (rcells (decS xs).1).toArray,.int .i64 (decS xs).2])∧Below w.heap.size w w':=by
 obtain ⟨b,o,rfl,-⟩:=hx.cells (by omega)
 have A1:Hid (_):=alloc37 w
 obtain ⟨w1,hw1⟩:∃w1,w1=w.alloc (.cells (rcells rec0).toArray 245):=⟨_,rfl⟩
 have b1:Below w.heap.size w w1:=by rw[hw1];exact below_alloc w _
 have R1:Hid (RAt 245 w1 w.heap.size rec0):=by rw[hw1];exact RAt.new 245 w rec0
 have X1:Hid (BIn w1 (some ⟨b,o,none⟩) 64 xs):=hx.later b1
 have B1:Hid (Below w.heap.size w w1):=b1
 have HW:Hid ((readS xs).Wf):=readS_wf xs hx.byte hx.len
 have HL:Hid (xs.length=64):=hx.len
 have HBD:=parts_bd xs hx.byte hx.len
 have HRS:Hid (readS xs=⟨xs.getD 1 0,worth ((xs.drop 4).take 8),if xs.getD 1 0=1 then worth ((xs.drop 12).take 4) else 0,(xs.drop 16).take 32,if xs.getD 1 0=1 then 0 else worth ((xs.drop 12).take 4)⟩):=rfl
 have x1:=X1.out.cell 1 (by omega)
 have HVL:Hid (((xs.drop 16).take 32).length=32):=by show _=_;simp[hx.len]
 rw[← hw1] at A1
 clear hx hw1 b1
 go_enter func152,ntmps152
 go_wp2_with ((with_reducible refine at_seq ?_);(refine wpList_alloc_is (by rfl) 245 rfl A1.out ?_);simp only[Act.put,zA,zB,zC])
 clear A1
 have HB:Hid (Bytes xs):=X1.out.byte
 have HXG:Hid (∀j,j<32→xs.getD (16+j) 0=((xs.drop 16).take 32).getD j 0):=by
  intro j hj
  simp only[List.getD,List.getElem?_take,hj,if_true,List.getElem?_drop]
 have HU:Hid (worth ((xs.drop 4).take 8)=worth ((xs.drop 4).take 8)):=rfl
 have NUM8:Hid (∀w',BIn w' (some ⟨b,o,none⟩) 64 xs→Calls prog 165 #[.slice (some ⟨b,o,none⟩) 64 c,.int .i64 4,.int .i64 8] w' fun e w''=>e=.returned (.int .u64 (worth ((xs.drop 4).take 8)))∧w'=w''):=fun w' h=>refNumber_any _ c 4 8 xs w' h (by omega) (by omega)
 have NUM4:Hid (∀w',BIn w' (some ⟨b,o,none⟩) 64 xs→Calls prog 165 #[.slice (some ⟨b,o,none⟩) 64 c,.int .i64 12,.int .i64 4] w' fun e w''=>e=.returned (.int .u64 (worth ((xs.drop 12).take 4)))∧w'=w''):=fun w' h=>refNumber_any _ c 12 4 xs w' h (by omega) (by omega)
 obtain ⟨V,hV⟩:∃V,V=(xs.drop 16).take 32:=⟨_,rfl⟩
 rw[← hV] at HVL HRS HXG
 clear hV HU
 generalize xs.getD 1 0=k at *
 generalize worth ((xs.drop 4).take 8)=u at *
 generalize worth ((xs.drop 12).take 4)=m at *
 obtain ⟨⟨k0,k1⟩,⟨u0,u1⟩,m0,m1⟩:=HBD
 have BK:Hid (_):=fun w=>build_ku w k u
 have kw:IntKind.i64.wrap k=k:=by rw[IntKind.wrap_i64];omega
 refine Code.wp_mono (Q:=fun e a W=>∃(g4:Nat),e=.normal∧Hid (RAt 245 W g4 ⟨k,u,0,zs 32,0⟩∧w1.heap.size≤g4∧Below w1.heap.size w1 W)∧a={ tmps:=#[.slice (some ⟨b,o,none⟩) 64 c,undef,.pointer (some ⟨w.heap.size,0,none⟩),.int .i64 0,.pointer (some ⟨g4,0,none⟩),undef,undef,undef,undef,.slice (some ⟨b,o,none⟩) 64 c,.int .i64 64,.bool false,undef,.slice (some ⟨b,o,none⟩) 64 c,.pointer (some ⟨b,o+1,none⟩),.int .u8 k,.int .i64 k,.slice (some ⟨b,o,none⟩) 64 c,.int .u64 u,.agg (rcells ⟨k,u,0,zs 32,0⟩).toArray,undef,undef,undef,undef,undef,undef,undef,undef,undef,undef,undef,undef,undef,undef,undef,undef,undef,undef,undef,undef,undef,undef,undef,undef,undef,undef,undef,undef,undef,undef,undef,undef,undef,undef,undef,undef,undef,undef],defers:=[] }) ?rest ?reg
 case reg =>
  refine wp_region_noPanic ?_
  refine wp_region_held_drew (S:=fun w'=>w'.cell? ⟨b,o+1,none⟩=some (.int .u8 k)∧BIn w' (some ⟨b,o,none⟩) 64 xs) (by kernel_rfl) ⟨x1,X1.out.drew⟩ (fun hHeld=>?_)
  refine wpAnyH_take (i:=0) (v:=?v0) (by simp;rfl) (by kernel_rfl) (by kernel_rfl) (by kernel_rfl) (fun _ _ _ h=>h) (Or.inl ⟨by rfl,?y0⟩) hHeld ?r0
  case y0=>intro w hSw;obtain ⟨z1,-⟩:=hSw;go_simp;with_reducible rfl
  simp only[Act.put,zA,zB,zC]
  refine wpAnyH_take (i:=1) (v:=?v1) (by simp;rfl) (by kernel_rfl) (by kernel_rfl) (by kernel_rfl) (fun _ _ _ h=>h) (Or.inl ⟨by rfl,?y1⟩) hHeld ?r1
  case y1=>intro w hSw;obtain ⟨z1,-⟩:=hSw;go_simp;with_reducible rfl
  simp only[Act.put,zA,zB,zC]
  refine wpAnyH_take (i:=2) (v:=?v2) (by simp;rfl) (by kernel_rfl) (by kernel_rfl) (by kernel_rfl) (fun _ _ _ h=>h) (Or.inl ⟨by rfl,?y2⟩) hHeld ?r2
  case y2=>intro w hSw;obtain ⟨z1,-⟩:=hSw;go_simp;with_reducible rfl
  simp only[Act.put,zA,zB,zC]
  refine wpAnyH_take (i:=3) (v:=?v3) (by simp;rfl) (by kernel_rfl) (by kernel_rfl) (by kernel_rfl) (fun _ _ _ h=>h) (Or.inl ⟨by rfl,?y3⟩) hHeld ?r3
  case y3=>intro w hSw;obtain ⟨z1,-⟩:=hSw;go_simp;with_reducible rfl
  simp only[Act.put,zA,zB,zC]
  refine wpAnyH_take (i:=4) (v:=?v4) (by simp;rfl) (by kernel_rfl) (by kernel_rfl) (by kernel_rfl) (fun _ _ _ h=>h) (Or.inl ⟨by rfl,?y4⟩) hHeld ?r4
  case y4=>intro w hSw;obtain ⟨z1,-⟩:=hSw;go_simp;with_reducible rfl
  simp only[Act.put,zA,zB,zC]
  have B1d:Hid (Below w1.heap.size w1 w1.drew):=⟨rfl,rfl,rfl,Nat.le_refl _,fun _ _=>rfl⟩
  have szd:w1.heap.size≤w1.drew.heap.size:=Nat.le_refl _
  have S1d:Hid (w1.drew.cell? ⟨b,o+1,none⟩=some (.int .u8 k)∧BIn w1.drew (some ⟨b,o,none⟩) 64 xs):=hHeld
  generalize w1.drew=wd at *
  have SAL:Hid ((wd.alloc (.cells (rcells rec0).toArray 245)).cell? ⟨b,o+1,none⟩=some (.int .u8 k)∧BIn (wd.alloc (.cells (rcells rec0).toArray 245)) (some ⟨b,o,none⟩) 64 xs):=⟨((below_alloc wd _).cell (p:=⟨b,o+1,none⟩) (World.block_lt_of_cell? wd _ S1d.out.1)).trans S1d.out.1,S1d.out.2.later (below_alloc wd _)⟩
  have SST:Hid ((wd.alloc (.cells (rcells ⟨k,u,0,zs 32,0⟩).toArray 245)).cell? ⟨b,o+1,none⟩=some (.int .u8 k)∧BIn (wd.alloc (.cells (rcells ⟨k,u,0,zs 32,0⟩).toArray 245)) (some ⟨b,o,none⟩) 64 xs):=⟨((below_alloc wd _).cell (p:=⟨b,o+1,none⟩) (World.block_lt_of_cell? wd _ S1d.out.1)).trans S1d.out.1,S1d.out.2.later (below_alloc wd _)⟩
  refine wpAnyH_ready (rs:=[5,7]) (by kernel_rfl) (by simp) ?_
  refine AllReadyH.cons (by simp;rfl) (fun Kc hKc=>?_) (AllReadyH.cons (by simp;rfl) (fun Kc hKc=>?_) AllReadyH.nil)
  ·go_simp
   refine (NUM8.out wd S1d.out.2).mono ?_
   rintro e w' ⟨rfl,rfl⟩
   refine hKc.out _ _ S1d.out (fun hHeld=>?_)
   clear hKc Kc
   refine wpAnyH_take (i:=6) (v:=_) (by simp;rfl) (by kernel_rfl) (by kernel_rfl) (by kernel_rfl) (fun _ _ _ h=>h) (yields_build_is (vs:=[(0,.int .i64 k),(1,.int .u64 u)]) (by rfl) 245 rfl (by rfl) BK.out) hHeld ?_
   simp only[Act.put,zA,zB,zC]
   refine wpAnyH_ready (rs:=[7]) (by kernel_rfl) (by simp) ?_
   refine AllReadyH.cons (by simp;rfl) (fun Kc hKc=>?_) AllReadyH.nil
   rw[if_pos (by rfl)]
   refine wp_alloc_is 245 rfl (alloc37 wd) ?_
   simp only[Act.put,zA,zB,zC]
   refine hKc.out _ _ SAL.out (fun hHeld=>?_)
   clear hKc Kc
   refine wpAnyH_ready (rs:=[8]) (by kernel_rfl) (by simp) ?_
   refine AllReadyH.cons (by simp;rfl) (fun Kc hKc=>?_) AllReadyH.nil
   rw[if_pos (by rfl)]
   refine wp_store_is 245 rfl rfl rfl (store_new size37 wd ⟨k,u,0,zs 32,0⟩ (zs_len 32)) ?_
   simp only[Act.put]
   refine hKc.out _ _ SST.out (fun hHeld=>?_)
   clear hKc Kc
   refine wpAnyH_done (by kernel_rfl) (NoPanic.normal ?_) _
   exact⟨wd.heap.size,rfl,⟨RAt.new 245 wd _,szd,below_then B1d.out (below_alloc wd _)⟩,rfl⟩
  ·rw[if_pos (by rfl)]
   refine wp_alloc_is 245 rfl (alloc37 wd) ?_
   simp only[Act.put,zA,zB,zC]
   refine hKc.out _ _ SAL.out (fun hHeld=>?_)
   clear hKc Kc
   refine wpAnyH_ready (rs:=[5]) (by kernel_rfl) (by simp) ?_
   refine AllReadyH.cons (by simp;rfl) (fun Kc hKc=>?_) AllReadyH.nil
   go_simp
   refine (NUM8.out _ SAL.out.2).mono ?_
   rintro e w' ⟨rfl,rfl⟩
   refine hKc.out _ _ SAL.out (fun hHeld=>?_)
   clear hKc Kc
   refine wpAnyH_take (i:=6) (v:=_) (by simp;rfl) (by kernel_rfl) (by kernel_rfl) (by kernel_rfl) (fun _ _ _ h=>h) (yields_build_is (vs:=[(0,.int .i64 k),(1,.int .u64 u)]) (by rfl) 245 rfl (by rfl) BK.out) hHeld ?_
   simp only[Act.put,zA,zB,zC]
   refine wpAnyH_ready (rs:=[8]) (by kernel_rfl) (by simp) ?_
   refine AllReadyH.cons (by simp;rfl) (fun Kc hKc=>?_) AllReadyH.nil
   rw[if_pos (by rfl)]
   refine wp_store_is 245 rfl rfl rfl (store_new size37 wd ⟨k,u,0,zs 32,0⟩ (zs_len 32)) ?_
   simp only[Act.put]
   refine hKc.out _ _ SST.out (fun hHeld=>?_)
   clear hKc Kc
   refine wpAnyH_done (by kernel_rfl) (NoPanic.normal ?_) _
   exact⟨wd.heap.size,rfl,⟨RAt.new 245 wd _,szd,below_then B1d.out (below_alloc wd _)⟩,rfl⟩
 case rest =>
  rintro e a w2 ⟨g4,rfl,HF,rfl⟩
  have R2:Hid (RAt 245 w2 g4 ⟨k,u,0,zs 32,0⟩):=HF.out.1
  have G2:Hid (w1.heap.size≤g4∧w.heap.size<w1.heap.size):=⟨HF.out.2.1,R1.out.lt⟩
  have B2:Hid (Below w1.heap.size w1 w2):=HF.out.2.2
  have X2:Hid (BIn w2 (some ⟨b,o,none⟩) 64 xs):=X1.out.later HF.out.2.2
  clear HF x1 BK NUM8
  go_wp2_with fail
  refine (NUM4.out w2 X2.out).mono ?_
  rintro e w3 ⟨rfl,rfl⟩
  have mw:IntKind.i64.wrap m=m:=by rw[IntKind.wrap_i64];omega
  have c0:=R2.out.c0
  have c2:=R2.out.c2
  have c35:=R2.out.c35 (zs_len 32)
  have f2:=frozen_of_row w2 g4 2 _ 245 R2.out
  have f35:=frozen_of_row w2 g4 35 _ 245 R2.out
  by_cases hk:k=1
  ·subst hk
   have R3:Hid (RAt 245 (w2.setCell ⟨g4,2,none⟩ (.int .i64 m)) g4 ⟨1,u,m,zs 32,0⟩):=R2.out.setb m
   have B3:Hid (Below w1.heap.size w1 (w2.setCell ⟨g4,2,none⟩ (.int .i64 m))):=B2.out.setCell G2.out.1 _
   have HE:Hid (readS xs=⟨1,u,m,V,0⟩):=by show _=_;rw[HRS.out,if_pos rfl,if_pos rfl]
   go_wp2_with fail
   clear mw c0 c2 c35 f2 f35 NUM4 kw R2 B2
   generalize w2.setCell ⟨g4,2,none⟩ (.int .i64 m)=w3 at *
   go_loopw [6] (fun i wr=>∃j:Nat,j≤32∧i=.int .i64 j∧Hid (RAt 245 wr g4 ⟨1,u,m,filled V j,0⟩∧Below w1.heap.size w1 wr)) (fun i _=>32-(intOf i).toNat)
   case atStart=>exact⟨0,by omega,rfl,by have:=R3.out;rw[filled_zero,HVL.out];exact this,B3.out⟩
   case round =>
    obtain ⟨j,hj,rfl,HR⟩:=hrel
    clear R3 B3
    by_cases hlt:j<32
    ·have hjv:j<V.length:=by rw[HVL.out];exact hlt
     have hfl:(filled V j).length=32:=(filled_length V j (by omega)).trans HVL.out
     have xc:=(X1.out.later HR.out.2).cell (16+j) (by omega)
     rw[HXG.out j hlt,show V.getD j 0=V[j] by simp[List.getD,List.getElem?_eq_getElem hjv]] at xc
     have hcell:wr.cell? ⟨g4,3+j,none⟩=some (.int .u8 (filled V j)[j]):=(HR.out.1.cell (3+j)).trans (rcells_val ⟨1,u,m,filled V j,0⟩ j (by show j<(filled V j).length;omega))
     have hfz:=frozen_of_row wr g4 (3+j) _ 245 HR.out.1
     have HQ:Hid (RAt 245 (wr.setCell ⟨g4,3+j,none⟩ (.int .u8 V[j])) g4 ⟨1,u,m,filled V (j+1),0⟩∧Below w1.heap.size w1 (wr.setCell ⟨g4,3+j,none⟩ (.int .u8 V[j]))):=by
      refine⟨?_,HR.out.2.setCell G2.out.1 _⟩
      have:=HR.out.1.setv j V[j] (by show j<(filled V j).length;omega)
      rw[filled_step V j hjv] at this
      exact this
     clear HR
     generalize V[j]=x at *
     generalize (filled V j)[j]=x0 at *
     clear hjv hfl
     have i1:(16:Int)+(j:Int)<64:=by omega
     have i0:(0:Int)≤(16:Int)+(j:Int):=by omega
     go_wp2_with fail
     go_roundw
     case rel=>exact⟨j+1,by omega,by go_num,HQ.out⟩
     case measure=>simp[intOf];omega
    ·obtain ⟨w4,hw4⟩:∃w4,w4=wr:=⟨_,rfl⟩
     subst hw4
     have R4:Hid (RAt 245 w4 g4 (readS xs)):=by
      have:=HR.out.1
      rw[filled_all V j (by rw[HVL.out];omega)] at this
      rw[HE.out]
      exact this
     have B4:Hid (Below w1.heap.size w1 w4):=HR.out.2
     have Z4:Hid (RAt 245 w4 w.heap.size rec0):=R1.out.later B4.out
     have X4:Hid (BIn w4 (some ⟨b,o,none⟩) 64 xs):=X1.out.later B4.out
     clear HR HE
     have L4:Hid (_):=R4.out.load37 HW.out.len
     obtain ⟨r,hr⟩:∃r,r=readS xs:=⟨_,rfl⟩
     have HRR:Hid (r=readS xs):=hr
     rw[← hr] at HW R4 L4
     clear hr HRS
     go_wp2_with ((with_reducible refine at_seq ?_);(refine wpList_load_is (by rfl) 245 rfl rfl L4.out ?_);simp only[Act.put,zA,zB,zC])
     refine (refEncode_any r HW.out w4).mono ?_
     rintro e w5 ⟨p5,n5,c5,rfl,-,m5⟩
     have R5:Hid (RAt 245 w5 g4 r):=R4.out.later m5.below
     have Z5:Hid (RAt 245 w5 w.heap.size rec0):=Z4.out.later m5.below
     have B5:Hid (Below w.heap.size w w5):=below_then B1.out (below_then B4.out m5.below)
     have q2:=(X4.out.later m5.below).str c
     have q1:=m5.read.str c5
     have HB5:Hid (Bytes (encT r)):=m5.read.byte
     have L5:Hid (_):=R5.out.load37 HW.out.len
     have ST:Hid (_):=Z5.out.store (s:=r) size37 rec0_len HW.out.len
     have SZ:Hid (_):=Z5.out.store (s:=rec0) size37 rec0_len rec0_len
     have BZ:Hid (_):=build37 w5 #[] rec0 fill_none
     have F1:Hid (RAt 245 (w5.setRow w.heap.size (rcells r).toArray) w.heap.size r∧Below w.heap.size w (w5.setRow w.heap.size (rcells r).toArray)):=⟨Z5.out.stored _,below_setRow B5.out (Nat.le_refl _) _⟩
     have F0:Hid (RAt 245 (w5.setRow w.heap.size (rcells rec0).toArray) w.heap.size rec0∧Below w.heap.size w (w5.setRow w.heap.size (rcells rec0).toArray)):=⟨Z5.out.stored _,below_setRow B5.out (Nat.le_refl _) _⟩
     have HSE:Hid (_):=str_eq (encT r) xs HB5.out HB.out
     clear m5 R4 Z4 X4 B4 L4
     by_cases hm:may r=true
     ·rw[chk_yes r hm]
      by_cases he:encS r=xs
      ·have hq:((strOfNums (encT r)).toList == (strOfNums xs).toList)=true:=by rw[HSE.out,encT_yes r hm,he];simp
       have hq2:((strOfNums (encT r)).toList != (strOfNums xs).toList)=false:=by rw[bne,hq];rfl
       have HD:Hid (decS xs=(r,0)):=by
        show _=_
        rw[decS_ok xs HL.out (by unfold goodB;rw[← HRR.out,hm,he];simp),HRR.out]
       clear he hm
       go_wp2_with ((with_reducible refine at_seq ?_);(first | (refine wpList_store_is (by rfl) 245 rfl rfl rfl ST.out ?_) | (refine wpList_load_is (by rfl) 245 rfl rfl L5.out ?_));simp only[Act.put,zA,zB,zC])
       rw[HD.out]
       exact bodyPost_ret (results_rec results152 _ _ w.heap.size 245 _ _ (by rfl) F1.out.1 HW.out.len underlying245 rfl size37) rfl ⟨rfl,F1.out.2⟩
      ·have hq:((strOfNums (encT r)).toList == (strOfNums xs).toList)=false:=by rw[HSE.out,encT_yes r hm];simp[he]
       have hq2:((strOfNums (encT r)).toList != (strOfNums xs).toList)=true:=by rw[bne,hq];rfl
       have HD:Hid (decS xs=(rec0,60)):=decS_bad xs HL.out (by unfold goodB;rw[← HRR.out,hm];simp[he])
       clear he hm
       go_wp2_with ((with_reducible refine at_seq ?_);(first | (refine wpList_store_is (by rfl) 245 rfl rfl rfl SZ.out ?_) | (refine wpList_build_is (vs:=[]) (by rfl) 245 rfl (by rfl) BZ.out ?_));simp only[Act.put,zA,zB,zC])
       rw[HD.out]
       exact bodyPost_ret (results_rec results152 _ _ w.heap.size 245 _ _ (by rfl) F0.out.1 rec0_len underlying245 rfl size37) rfl ⟨rfl,F0.out.2⟩
     ·rw[chk_no r hm]
      have HD:Hid (decS xs=(rec0,60)):=decS_bad xs HL.out (by unfold goodB;rw[← HRR.out];simp[hm])
      clear hm
      go_wp2_with ((with_reducible refine at_seq ?_);(first | (refine wpList_store_is (by rfl) 245 rfl rfl rfl SZ.out ?_) | (refine wpList_build_is (vs:=[]) (by rfl) 245 rfl (by rfl) BZ.out ?_));simp only[Act.put,zA,zB,zC])
      rw[HD.out]
      exact bodyPost_ret (results_rec results152 _ _ w.heap.size 245 _ _ (by rfl) F0.out.1 rec0_len underlying245 rfl size37) rfl ⟨rfl,F0.out.2⟩
  ·have R3:Hid (RAt 245 (w2.setCell ⟨g4,35,none⟩ (.int .i64 m)) g4 ⟨k,u,0,zs 32,m⟩):=R2.out.seti (zs_len 32) m
   have B3:Hid (Below w1.heap.size w1 (w2.setCell ⟨g4,35,none⟩ (.int .i64 m))):=B2.out.setCell G2.out.1 _
   have HE:Hid (readS xs=⟨k,u,0,V,m⟩):=by show _=_;rw[HRS.out,if_neg hk,if_neg hk]
   go_wp2_with fail
   clear mw c0 c2 c35 f2 f35 NUM4 kw R2 B2
   generalize w2.setCell ⟨g4,35,none⟩ (.int .i64 m)=w3 at *
   go_loopw [6] (fun i wr=>∃j:Nat,j≤32∧i=.int .i64 j∧Hid (RAt 245 wr g4 ⟨k,u,0,filled V j,m⟩∧Below w1.heap.size w1 wr)) (fun i _=>32-(intOf i).toNat)
   case atStart=>exact⟨0,by omega,rfl,by have:=R3.out;rw[filled_zero,HVL.out];exact this,B3.out⟩
   case round =>
    obtain ⟨j,hj,rfl,HR⟩:=hrel
    clear R3 B3
    by_cases hlt:j<32
    ·have hjv:j<V.length:=by rw[HVL.out];exact hlt
     have hfl:(filled V j).length=32:=(filled_length V j (by omega)).trans HVL.out
     have xc:=(X1.out.later HR.out.2).cell (16+j) (by omega)
     rw[HXG.out j hlt,show V.getD j 0=V[j] by simp[List.getD,List.getElem?_eq_getElem hjv]] at xc
     have hcell:wr.cell? ⟨g4,3+j,none⟩=some (.int .u8 (filled V j)[j]):=(HR.out.1.cell (3+j)).trans (rcells_val ⟨k,u,0,filled V j,m⟩ j (by show j<(filled V j).length;omega))
     have hfz:=frozen_of_row wr g4 (3+j) _ 245 HR.out.1
     have HQ:Hid (RAt 245 (wr.setCell ⟨g4,3+j,none⟩ (.int .u8 V[j])) g4 ⟨k,u,0,filled V (j+1),m⟩∧Below w1.heap.size w1 (wr.setCell ⟨g4,3+j,none⟩ (.int .u8 V[j]))):=by
      refine⟨?_,HR.out.2.setCell G2.out.1 _⟩
      have:=HR.out.1.setv j V[j] (by show j<(filled V j).length;omega)
      rw[filled_step V j hjv] at this
      exact this
     clear HR
     generalize V[j]=x at *
     generalize (filled V j)[j]=x0 at *
     clear hjv hfl
     have i1:(16:Int)+(j:Int)<64:=by omega
     have i0:(0:Int)≤(16:Int)+(j:Int):=by omega
     go_wp2_with fail
     go_roundw
     case rel=>exact⟨j+1,by omega,by go_num,HQ.out⟩
     case measure=>simp[intOf];omega
    ·obtain ⟨w4,hw4⟩:∃w4,w4=wr:=⟨_,rfl⟩
     subst hw4
     have R4:Hid (RAt 245 w4 g4 (readS xs)):=by
      have:=HR.out.1
      rw[filled_all V j (by rw[HVL.out];omega)] at this
      rw[HE.out]
      exact this
     have B4:Hid (Below w1.heap.size w1 w4):=HR.out.2
     have Z4:Hid (RAt 245 w4 w.heap.size rec0):=R1.out.later B4.out
     have X4:Hid (BIn w4 (some ⟨b,o,none⟩) 64 xs):=X1.out.later B4.out
     clear HR HE
     have L4:Hid (_):=R4.out.load37 HW.out.len
     obtain ⟨r,hr⟩:∃r,r=readS xs:=⟨_,rfl⟩
     have HRR:Hid (r=readS xs):=hr
     rw[← hr] at HW R4 L4
     clear hr HRS
     go_wp2_with ((with_reducible refine at_seq ?_);(refine wpList_load_is (by rfl) 245 rfl rfl L4.out ?_);simp only[Act.put,zA,zB,zC])
     refine (refEncode_any r HW.out w4).mono ?_
     rintro e w5 ⟨p5,n5,c5,rfl,-,m5⟩
     have R5:Hid (RAt 245 w5 g4 r):=R4.out.later m5.below
     have Z5:Hid (RAt 245 w5 w.heap.size rec0):=Z4.out.later m5.below
     have B5:Hid (Below w.heap.size w w5):=below_then B1.out (below_then B4.out m5.below)
     have q2:=(X4.out.later m5.below).str c
     have q1:=m5.read.str c5
     have HB5:Hid (Bytes (encT r)):=m5.read.byte
     have L5:Hid (_):=R5.out.load37 HW.out.len
     have ST:Hid (_):=Z5.out.store (s:=r) size37 rec0_len HW.out.len
     have SZ:Hid (_):=Z5.out.store (s:=rec0) size37 rec0_len rec0_len
     have BZ:Hid (_):=build37 w5 #[] rec0 fill_none
     have F1:Hid (RAt 245 (w5.setRow w.heap.size (rcells r).toArray) w.heap.size r∧Below w.heap.size w (w5.setRow w.heap.size (rcells r).toArray)):=⟨Z5.out.stored _,below_setRow B5.out (Nat.le_refl _) _⟩
     have F0:Hid (RAt 245 (w5.setRow w.heap.size (rcells rec0).toArray) w.heap.size rec0∧Below w.heap.size w (w5.setRow w.heap.size (rcells rec0).toArray)):=⟨Z5.out.stored _,below_setRow B5.out (Nat.le_refl _) _⟩
     have HSE:Hid (_):=str_eq (encT r) xs HB5.out HB.out
     clear m5 R4 Z4 X4 B4 L4
     by_cases hm:may r=true
     ·rw[chk_yes r hm]
      by_cases he:encS r=xs
      ·have hq:((strOfNums (encT r)).toList == (strOfNums xs).toList)=true:=by rw[HSE.out,encT_yes r hm,he];simp
       have hq2:((strOfNums (encT r)).toList != (strOfNums xs).toList)=false:=by rw[bne,hq];rfl
       have HD:Hid (decS xs=(r,0)):=by
        show _=_
        rw[decS_ok xs HL.out (by unfold goodB;rw[← HRR.out,hm,he];simp),HRR.out]
       clear he hm
       go_wp2_with ((with_reducible refine at_seq ?_);(first | (refine wpList_store_is (by rfl) 245 rfl rfl rfl ST.out ?_) | (refine wpList_load_is (by rfl) 245 rfl rfl L5.out ?_));simp only[Act.put,zA,zB,zC])
       rw[HD.out]
       exact bodyPost_ret (results_rec results152 _ _ w.heap.size 245 _ _ (by rfl) F1.out.1 HW.out.len underlying245 rfl size37) rfl ⟨rfl,F1.out.2⟩
      ·have hq:((strOfNums (encT r)).toList == (strOfNums xs).toList)=false:=by rw[HSE.out,encT_yes r hm];simp[he]
       have hq2:((strOfNums (encT r)).toList != (strOfNums xs).toList)=true:=by rw[bne,hq];rfl
       have HD:Hid (decS xs=(rec0,60)):=decS_bad xs HL.out (by unfold goodB;rw[← HRR.out,hm];simp[he])
       clear he hm
       go_wp2_with ((with_reducible refine at_seq ?_);(first | (refine wpList_store_is (by rfl) 245 rfl rfl rfl SZ.out ?_) | (refine wpList_build_is (vs:=[]) (by rfl) 245 rfl (by rfl) BZ.out ?_));simp only[Act.put,zA,zB,zC])
       rw[HD.out]
       exact bodyPost_ret (results_rec results152 _ _ w.heap.size 245 _ _ (by rfl) F0.out.1 rec0_len underlying245 rfl size37) rfl ⟨rfl,F0.out.2⟩
     ·rw[chk_no r hm]
      have HD:Hid (decS xs=(rec0,60)):=decS_bad xs HL.out (by unfold goodB;rw[← HRR.out];simp[hm])
      clear hm
      go_wp2_with ((with_reducible refine at_seq ?_);(first | (refine wpList_store_is (by rfl) 245 rfl rfl rfl SZ.out ?_) | (refine wpList_build_is (vs:=[]) (by rfl) 245 rfl (by rfl) BZ.out ?_));simp only[Act.put,zA,zB,zC])
      rw[HD.out]
      exact bodyPost_ret (results_rec results152 _ _ w.heap.size 245 _ _ (by rfl) F0.out.1 rec0_len underlying245 rfl size37) rfl ⟨rfl,F0.out.2⟩
theorem refDecode_any (p:Option Addr)(n c:Nat)(xs:List Int)(w:World)(hx:BIn w p n xs) :
  Calls prog 152 #[.slice p n c] w fun e w'=>e=.returned (.tuple #[.agg (rcells (decS xs).1).toArray,.int .i64 (decS xs).2])∧Below w.heap.size w w':=by
 by_cases h:n=64
 ·subst h
  exact refDecode_64 p c xs w hx
 ·rw[decS_len xs (by rw[hx.len];exact h)]
  exact refDecode_len p n c w h
end Go.Proofs.YtdadpepfpiimgaaGreatDoor.R
namespace Go.Proofs.YtdadpepfpiimgaaGreatDoor
open Go.Proofs.Tryz
open Go.RowKit
theorem Ref.bytes {w:World}{S:Nat→Prop}{p n:Nat}{d:List Int}{ws:List Wr}(h:Ref w S p n d ws)(k:Nat):Bytes (newest ws d k):=by
 obtain ⟨g,L,cap,v,vs,hp⟩:=h
 exact newk_bytes hp.db hp.fit _
theorem rrd_at {w:World}{S:Nat→Prop}{p n:Nat}{d:List Int}{ws:List Wr}(h:Ref w S p n d ws)(hk:ws.length≤100000)(i:Int)(h0:0≤i)(h1:i<n):Calls prog 138 #[.pointer (some ⟨p,0,none⟩),.int .i64 i] w fun e w'=>∃q c,e=.returned (.tuple #[.slice q 64 c,.int .i64 0])∧BIn w' q 64 (newest ws d i.toNat)∧64≤c∧Below w.heap.size w w':=by
 obtain ⟨k,rfl⟩:∃k:Nat,i=k:=⟨i.toNat,by omega⟩
 refine (rread_good h k (by omega) hk).mono ?_
 rintro e w' ⟨v,rfl,ho,hw⟩
 obtain ⟨q,c,rfl,hr,hc⟩:=own_in ho (h.bytes k)
 exact⟨q,c,rfl,by rw[Int.toNat_natCast];exact hr,hc.1,hw⟩
theorem stands_any {w:World}{S:Nat→Prop}{p n:Nat}{d:List Int}{ws:List Wr}(h:Ref w S p n d ws)(hk:ws.length≤100000)(c:Sup)(hc:MayC c)(hn:(n:Int)=1+c.bl+c.lc)(x:Int)(h0:0≤x) :
  Calls prog 140 #[.pointer (some ⟨p,0,none⟩),.agg (ccells c).toArray,.int .u64 x] w fun e w'=>e=.returned (.tuple #[.agg (R.rcells (stS c (newest ws d) x).1).toArray,.bool (stS c (newest ws d) x).2])∧Below w.heap.size w w':=by
 obtain ⟨wa,hwa⟩:∃y,y=w.alloc (.cells (ccells c).toArray 23):=⟨_,rfl⟩
 obtain ⟨w0,hw0⟩:∃y,y=wa.alloc (.cells (R.rcells R.rec0).toArray 245):=⟨_,rfl⟩
 have ewa:=hwa.symm
 have sa:wa.heap.size=w.heap.size+1:=by rw[hwa];simp
 have A1:Hid (_):=R.alloc37 wa
 rw[← hw0,sa] at A1
 have Ba:Below w.heap.size w wa:=by rw[hwa];exact below_alloc w _
 have B0:Hid (Below w.heap.size w w0):=by rw[hw0];exact below_then Ba (below_alloc wa _)
 have C0:Hid (CAt w0 w.heap.size c):=by
  rw[hw0]
  refine LAt.later ?_ (below_alloc wa _)
  rw[hwa];exact LAt.new 23 w _
 have V0:Hid (R.RAt 245 w0 (w.heap.size+1) R.rec0):=by rw[hw0,← sa];exact R.RAt.new 245 wa _
 have HD:Hid (Ref w S p n d ws):=h
 have HK:Hid (ws.length≤100000):=hk
 have hb1:=hc.1
 have hl1:=hc.2.1
 obtain ⟨y,hy⟩:∃y,x % c.lc=y:=⟨_,rfl⟩
 have hy0:0≤y:=by rw[← hy];exact Int.emod_nonneg x (by omega)
 have hy1:y<c.lc:=by rw[← hy];exact Int.emod_lt_of_pos x (by omega)
 have hyt:x.tmod c.lc=y:=by rw[Int.tmod_eq_emod_of_nonneg h0];exact hy
 have HST:Hid (∀z,R.decS (newest ws d (1+c.bl+y).toNat)=z→(¬z.2=0→stS c (newest ws d) x=(R.rec0,false))∧(¬z.1.pos=x→stS c (newest ws d) x=(R.rec0,false))∧(c.bl≤z.1.block→stS c (newest ws d) x=(R.rec0,false))∧(z.2=0→z.1.pos=x→(z.1.kind=1→z.1.block<c.bl)→stS c (newest ws d) x=(z.1,true))):=by
  rintro z rfl
  rw[← hy]
  refine⟨fun a=>stS_no fun k=>a k.1,fun a=>stS_no fun k=>a k.2.1,fun a=>stS_no fun k=>by have:=k.2.2;omega,fun a b e=>stS_yes ⟨a,b,?_⟩⟩
  rcases ((R.may_iff _).1 (R.decS_good _ a).1).2 with hi | hi
  ·exact e hi.1
  ·have:=hi.2.2.2.1;omega
 have hw1:IntKind.u64.wrap c.lc=c.lc:=by rw[IntKind.wrap_u64];omega
 have hwy:IntKind.i64.wrap y=y:=by rw[IntKind.wrap_i64];omega
 have hw3:IntKind.i64.wrap (1+c.bl)=1+c.bl:=by rw[IntKind.wrap_i64];omega
 have hw10:IntKind.i64.wrap (1+c.bl+y)=1+c.bl+y:=by rw[IntKind.wrap_i64];omega
 have hl0:¬c.lc=0:=by omega
 clear hwa hw0 h hk hc Ba
 go_enter func140,ntmps140
 go_wp2_with ((with_reducible refine at_ops ?_);(refine wpList_alloc_is (by rfl) 245 rfl A1.out ?_);simp only[Act.put,zA,zB,zC])
 clear A1 ewa
 refine wp_region_noPanic ?_
 refine wp_region_held_drew (S:=fun w'=>Below w0.heap.size w0 w') (by kernel_rfl) (below_drawn 1) (fun hHeld=>?_)
 have DD:Hid (Below w0.heap.size w0 w0.drew):=hHeld
 generalize w0.drew=wd at *
 refine tk 0 hHeld ?_
 refine tk 1 hHeld ?_
 refine tkl 2 hHeld (fun _ hSw=>CAt.c0 (LAt.later C0.out hSw)) ?_
 refine tk 3 hHeld ?_
 refine tk 4 hHeld ?_
 refine tk 5 hHeld ?_
 refine tkl 6 hHeld (fun _ hSw=>CAt.c1 (LAt.later C0.out hSw)) ?_
 refine tk 7 hHeld ?_
 refine tk 8 hHeld ?_
 refine tk 9 hHeld ?_
 refine tk 10 hHeld ?_
 refine wpAnyH_ready (rs:=[11]) (by kernel_rfl) (by simp) ?_
 refine AllReadyH.cons (by simp;rfl) (fun Kc hKc=>?_) AllReadyH.nil
 go_simp
 refine (rrd_at (HD.out.later (below_then B0.out DD.out)) HK.out (1+c.bl+y) (by omega) (by omega)).mono ?_
 rintro e w2 ⟨q2,c2,rfl,x2,hc2,b2⟩
 have D2:Hid (Below w0.heap.size w0 w2):=below_then DD.out b2
 have X2:Hid (BIn w2 q2 64 (newest ws d (1+c.bl+y).toNat)):=x2
 refine hKc.out _ _ D2.out (fun hHeld=>?_)
 clear hKc Kc x2 b2
 refine tk 12 hHeld ?_
 refine tk 13 hHeld ?_
 refine tk 14 hHeld ?_
 refine tk 15 hHeld ?_
 refine tk 16 hHeld ?_
 clear hHeld
 refine wpAnyH_done (by kernel_rfl) (NoPanic.normal ?_) _
 have B2:Hid (Below w.heap.size w w2):=below_then B0.out D2.out
 have C2:Hid (CAt w2 w.heap.size c):=LAt.later C0.out D2.out
 have V2:Hid (R.RAt 245 w2 (w.heap.size+1) R.rec0):=R.RAt.later V0.out D2.out
 clear D2 DD C0 V0 B0 hy hyt hw1 hwy hw3 hw10 hl0
 go_wp2_with fail
 refine (R.refDecode_any q2 64 c2 _ w2 X2.out).mono ?_
 rintro e w3 ⟨rfl,b3⟩
 have B3:Hid (Below w.heap.size w w3):=below_then B2.out b3
 have V3:Hid (R.RAt 245 w3 (w.heap.size+1) R.rec0):=R.RAt.later V2.out b3
 have C3:Hid (CAt w3 w.heap.size c):=LAt.later C2.out b3
 have HW:Hid ((R.decS (newest ws d (1+c.bl+y).toNat)).1.Wf):=R.decS_wf _ X2.out.byte
 clear b3 X2 B2 V2 C2 HD
 obtain ⟨⟨r,k⟩,hz⟩:∃z,R.decS (newest ws d (1+c.bl+y).toNat)=z:=⟨_,rfl⟩
 have HZ:Hid (_):=HST.out _ hz
 rw[hz] at HW ⊢
 clear hz HST
 obtain ⟨w4,hw4⟩:∃y,y=w3.alloc (.cells (R.rcells r).toArray 245):=⟨_,rfl⟩
 have A4:Hid (_):=R.alloc37 w3
 have T4:Hid (_):=R.store_new R.size37 w3 r HW.out.len
 rw[← hw4] at T4
 have B34:Hid (Below w3.heap.size w3 w4):=by rw[hw4];exact below_alloc w3 _
 have B4:Hid (Below w.heap.size w w4):=below_then B3.out B34.out
 have V4:Hid (R.RAt 245 w4 (w.heap.size+1) R.rec0):=R.RAt.later V3.out B34.out
 have C4:Hid (CAt w4 w.heap.size c):=LAt.later C3.out B34.out
 have R4:Hid (R.RAt 245 w4 w3.heap.size r):=by rw[hw4];exact R.RAt.new 245 w3 r
 have hne:w.heap.size+1<w3.heap.size:=R.RAt.lt V3.out
 clear hw4 B34 V3 B3 C3
 have U4:Hid (_):=R.build37 w4 #[] R.rec0 R.fill_none
 have T5:Hid (_):=R.RAt.store R.size37 (s:=R.rec0) V4.out R.rec0_len R.rec0_len
 have F5:Hid (R.RAt 245 (w4.setRow (w.heap.size+1) (R.rcells R.rec0).toArray) (w.heap.size+1) R.rec0):=R.RAt.stored V4.out _
 have G5:Hid (Below w.heap.size w (w4.setRow (w.heap.size+1) (R.rcells R.rec0).toArray)):=below_setRow B4.out (Nat.le_succ _) _
 have c0:=CAt.c0 C4.out
 have c00:=R.RAt.c0 R4.out
 have c1:=R.RAt.c1 R4.out
 have c2':=R.RAt.c2 R4.out
 have L6:Hid (_):=R.RAt.load37 R4.out HW.out.len
 have T6:Hid (_):=R.RAt.store R.size37 (s:=r) V4.out R.rec0_len HW.out.len
 have F6:Hid (R.RAt 245 (w4.setRow (w.heap.size+1) (R.rcells r).toArray) (w.heap.size+1) r):=R.RAt.stored V4.out _
 have G6:Hid (Below w.heap.size w (w4.setRow (w.heap.size+1) (R.rcells r).toArray)):=below_setRow B4.out (Nat.le_succ _) _
 by_cases hk:k=0
 ·subst hk
  by_cases hp:r.pos=x
  ·have hq:(r.pos != x)=false:=by simp[hp]
   by_cases h1:r.kind=1
   ·have hq1:(r.kind == 1)=true:=by simp[h1]
    by_cases hbk:c.bl≤r.block
    ·have HR:Hid (_):=HZ.out.2.2.1 hbk
     clear HZ L6 T6 F6 G6
     have hbk':r.block ≥ c.bl:=hbk
     (go_upto_region 3 with ((with_reducible refine at_ops ?_);(first | (refine wpList_alloc_is (by rfl) 245 rfl A4.out ?_) | (refine wpList_store_is (by rfl) 245 rfl rfl rfl T4.out ?_));simp only[Act.put,zA,zB,zC]));clear A4 T4;(go_upto_region 4 with fail);(go_wp2_with ((with_reducible refine at_ops ?_);(first | (refine wpList_build_is (vs:=[]) (by rfl) 245 rfl (by rfl) U4.out ?_) | (refine wpList_store_is (by rfl) 245 rfl rfl rfl T5.out ?_));simp only[Act.put,zA,zB,zC]))
     rw[HR.out]
     exact bodyPost_ret (R.results_rec results140 _ _ (w.heap.size+1) 245 R.rec0 _ (by rfl) F5.out R.rec0_len underlying245 rfl R.size37) rfl ⟨rfl,G5.out⟩
    ·have HR:Hid (_):=HZ.out.2.2.2 rfl hp (fun _=>by show r.block<c.bl;omega)
     clear HZ T5 F5 G5 U4
     (go_upto_region 3 with ((with_reducible refine at_ops ?_);(first | (refine wpList_alloc_is (by rfl) 245 rfl A4.out ?_) | (refine wpList_store_is (by rfl) 245 rfl rfl rfl T4.out ?_));simp only[Act.put,zA,zB,zC]));clear A4 T4;(go_upto_region 5 with fail);(go_wp2_with ((with_reducible refine at_ops ?_);(first | (refine wpList_load_is (by rfl) 245 rfl rfl L6.out ?_) | (refine wpList_store_is (by rfl) 245 rfl rfl rfl T6.out ?_));simp only[Act.put,zA,zB,zC]))
     rw[HR.out]
     exact bodyPost_ret (R.results_rec results140 _ _ (w.heap.size+1) 245 r _ (by rfl) F6.out HW.out.len underlying245 rfl R.size37) rfl ⟨rfl,G6.out⟩
   ·have hq1:(r.kind == 1)=false:=by simp[h1]
    have HR:Hid (_):=HZ.out.2.2.2 rfl hp (fun e=>absurd e h1)
    clear HZ T5 F5 G5 U4
    (go_upto_region 3 with ((with_reducible refine at_ops ?_);(first | (refine wpList_alloc_is (by rfl) 245 rfl A4.out ?_) | (refine wpList_store_is (by rfl) 245 rfl rfl rfl T4.out ?_));simp only[Act.put,zA,zB,zC]));clear A4 T4;(go_upto_region 5 with fail);(go_wp2_with ((with_reducible refine at_ops ?_);(first | (refine wpList_load_is (by rfl) 245 rfl rfl L6.out ?_) | (refine wpList_store_is (by rfl) 245 rfl rfl rfl T6.out ?_));simp only[Act.put,zA,zB,zC]))
    rw[HR.out]
    exact bodyPost_ret (R.results_rec results140 _ _ (w.heap.size+1) 245 r _ (by rfl) F6.out HW.out.len underlying245 rfl R.size37) rfl ⟨rfl,G6.out⟩
  ·have HR:Hid (_):=HZ.out.2.1 hp
   have hq:(r.pos != x)=true:=by simp[hp]
   clear HZ L6 T6 F6 G6
   (go_upto_region 3 with ((with_reducible refine at_ops ?_);(first | (refine wpList_alloc_is (by rfl) 245 rfl A4.out ?_) | (refine wpList_store_is (by rfl) 245 rfl rfl rfl T4.out ?_));simp only[Act.put,zA,zB,zC]));clear A4 T4;(go_upto_region 4 with fail);(go_wp2_with ((with_reducible refine at_ops ?_);(first | (refine wpList_build_is (vs:=[]) (by rfl) 245 rfl (by rfl) U4.out ?_) | (refine wpList_store_is (by rfl) 245 rfl rfl rfl T5.out ?_));simp only[Act.put,zA,zB,zC]))
   rw[HR.out]
   exact bodyPost_ret (R.results_rec results140 _ _ (w.heap.size+1) 245 R.rec0 _ (by rfl) F5.out R.rec0_len underlying245 rfl R.size37) rfl ⟨rfl,G5.out⟩
 ·have HR:Hid (_):=HZ.out.1 hk
  have hq:(k != 0)=true:=by simp[hk]
  clear HZ L6 T6 F6 G6
  (go_upto_region 3 with ((with_reducible refine at_ops ?_);(first | (refine wpList_alloc_is (by rfl) 245 rfl A4.out ?_) | (refine wpList_store_is (by rfl) 245 rfl rfl rfl T4.out ?_));simp only[Act.put,zA,zB,zC]));clear A4 T4;(go_upto_region 4 with fail);(go_wp2_with ((with_reducible refine at_ops ?_);(first | (refine wpList_build_is (vs:=[]) (by rfl) 245 rfl (by rfl) U4.out ?_) | (refine wpList_store_is (by rfl) 245 rfl rfl rfl T5.out ?_));simp only[Act.put,zA,zB,zC]))
  rw[HR.out]
  exact bodyPost_ret (R.results_rec results140 _ _ (w.heap.size+1) 245 R.rec0 _ (by rfl) F5.out R.rec0_len underlying245 rfl R.size37) rfl ⟨rfl,G5.out⟩
theorem worth_drop (D:List Int)(k:Nat)(h:k<D.length):worth (D.drop k)=D[k]+256*worth (D.drop (k+1)):=by
 rw[List.drop_eq_getElem_cons h];rfl
theorem eight_any (b o c:Nat)(D:List Int)(w:World)(h:BIn w (some ⟨b,o,none⟩) 8 D) :
  Calls prog 151 #[.slice (some ⟨b,o,none⟩) 8 c] w fun e w'=>e=.returned (.int .u64 (worth D))∧w=w':=by
 obtain ⟨b',o',e,hcs⟩:=h.cells (by omega)
 simp only[Option.some.injEq,Addr.mk.injEq,and_true] at e
 obtain ⟨rfl,rfl⟩:=e
 have HC:Hid (∀i,i<8→w.cell? ⟨b,o+i,none⟩=some (.int .u8 (D.getD i 0))):=hcs
 have HL:Hid (D.length=8):=h.len
 have HK:Hid (Bytes D):=h.byte
 clear hcs h
 go_enter func151,ntmps151
 go_wp2
 go_loop [3,4] (fun v i=>∃j:Nat,j≤8∧i=.int .i64 ((j:Int)-1)∧v=.int .u64 (worth (D.drop j))) (fun _ i=>((intOf i)+1).toNat)
 case atStart=>exact⟨8,Nat.le_refl _,rfl,by rw[List.drop_of_length_le (by rw[HL.out];omega)];rfl⟩
 case round =>
  obtain ⟨j,hj,rfl,rfl⟩:=hrel
  cases j with
  | zero =>
   go_wp2
   go_ret
   exact⟨rfl,rfl⟩
  | succ k =>
   have hk:k<D.length:=by rw[HL.out];omega
   have hc:=HC.out k (by omega)
   rw[show D.getD k 0=D[k] by simp[List.getD,List.getElem?_eq_getElem hk]] at hc
   have hb:=HK.out.at k hk
   have HW:Hid (worth (D.drop k)=D[k]+256*worth (D.drop (k+1))):=worth_drop D k hk
   have hw:=worth_bd (D.drop (k+1)) (HK.out.drop _)
   have hp:(256:Int) ^ (D.drop (k+1)).length≤256 ^ 7:=pow_le (by rw[List.length_drop,HL.out];omega)
   rw[show (256:Int) ^ 7=72057594037927936 by decide] at hp
   have hw1:worth (D.drop (k+1))<72057594037927936:=by omega
   have hw0:=hw.1
   obtain ⟨hb0,hb1⟩:=hb
   generalize D[k]=x at *
   generalize worth (D.drop (k+1))=M at *
   clear hw hp
   have e1:((k+1:Nat):Int)-1=(k:Int):=by omega
   rw[e1]
   clear e1
   go_wp2
   go_round
   case rel=>exact⟨k,by omega,by go_num,by rw[HW.out];congr 1;omega⟩
   case measure=>simp[intOf]
theorem places26:placesOf prog 194=some plS:=by kernel_rfl
theorem zero26:(prog.info? 194).bind (·.zero)=some (.agg (scells sup0).toArray):=by kernel_rfl
theorem build26 (w:World)(parts:Array (Nat × Value))(r:Sup)(h:Instr.fill (plS.toArray[·]?) (scells sup0).toArray parts.toList=some (scells r).toArray):(Instr.build 194 parts).run prog w=.ok (.agg (scells r).toArray) w :=
 run_build w 194 _ _ ((built_of 194 _ _ _ places26 zero26).trans h)
theorem alloc26 (w:World):(Instr.alloc 194 true (.tuple #[])).run prog w=.ok (.pointer (some ⟨w.heap.size,0,none⟩)) (w.alloc (.cells (scells sup0).toArray 194)):=by
 simp only[Instr.alloc,Sem.run_bind,zv 194 _ zero26,Result.andThen_ok]
 simp[newVar,newRow,Value.cells]
theorem store_new26 (w:World)(s:Sup):(Instr.storeAt 194 (.pointer (some ⟨w.heap.size,0,none⟩)) (.agg (scells s).toArray)).run prog (w.alloc (.cells (scells sup0).toArray 194))=.ok () (w.alloc (.cells (scells s).toArray 194)):=by
 rw[(LAt.new 194 w (scells sup0)).store (ds:=scells s) size26 rfl (scells_all s),setRow_alloc]
end Go.Proofs.YtdadpepfpiimgaaGreatDoor
