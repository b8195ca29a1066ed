import Derived.Test.YtcdjepkhdjpjcaaGreatDoorU04
set_option maxHeartbeats 20000000
set_option maxRecDepth 100000
namespace Go.Proofs.Zq.R
open Go.Proofs.Tryz
open Go.RowKit
theorem T_:(prog.info? 180).map (·.size)=some 36:=by kernel_rfl
theorem adb:(prog.info? 226).map (·.size)=some 36:=by kernel_rfl
theorem AY:(prog.info? 51).map (·.size)=some 32:=by kernel_rfl
def cz (r:Rec):List Value:=.int .i64 r.kind :: .int .u64 r.pos :: .int .i64 r.block :: (U8 r.val++[.int .i64 r.eN])
theorem lH(r:Rec)(h:r.val.length=32):(cz r).length=36:=by simp[cz,h]
theorem uL(r:Rec)(j:Nat)(hj:j<r.val.length):(cz r)[3+j]?=some (.int .u8 r.val[j]):=by
 rw[cz,show 3+j=j+1+1+1 by omega,fk,fk,fk,cg (by simpa using hj)];simp[List.getElem?_eq_getElem hj]
theorem QK(r:Rec)(h:r.val.length=32):(cz r)[35]?=some (.int .i64 r.eN):=by
 rw[cz,fk,fk,fk,aT (by simp[h])];simp[h]
def gG (t:TypeId)(w:World)(g:Nat)(r:Rec):Prop:=w.heap[g]?=some (.cells (cz r).toArray t (0,0))
theorem gG.lt{t:TypeId}{w:World}{g:Nat}{r:Rec}(h:gG t w g r):g<w.heap.size:=(au.1 h).1
theorem gG.later{t:TypeId}{w w':World}{g:Nat}{r:Rec}(h:gG t w g r)(hb:Below w.heap.size w w'):gG t w' g r:=(hb.block g h.lt).trans h
theorem gG.below{t:TypeId}{B:Nat}{w w':World}{g:Nat}{r:Rec}(h:gG t w g r)(hb:Below B w w')(hg:g<B):gG t w' g r:=(hb.block g hg).trans h
theorem gG.new(t:TypeId)(w:World)(r:Rec):gG t (w.alloc (.cells (cz r).toArray t)) w.heap.size r:=aG w _
theorem gG.drew{t:TypeId}{w:World}{g:Nat}{r:Rec}(h:gG t w g r):gG t w.drew g r:=h
theorem gG.cell{t:TypeId}{w:World}{g:Nat}{r:Rec}(h:gG t w g r)(j:Nat):w.cell? ⟨g,j,none⟩=(cz r)[j]?:=by
 rw[aq w g j (cz r).toArray t (0,0) h];simp
theorem gG.c0{t:TypeId}{w:World}{g:Nat}{r:Rec}(h:gG t w g r):w.cell? ⟨g,0,none⟩=some (.int .i64 r.kind):=h.cell 0
theorem gG.c1{t:TypeId}{w:World}{g:Nat}{r:Rec}(h:gG t w g r):w.cell? ⟨g,1,none⟩=some (.int .u64 r.pos):=h.cell 1
theorem gG.c2{t:TypeId}{w:World}{g:Nat}{r:Rec}(h:gG t w g r):w.cell? ⟨g,2,none⟩=some (.int .i64 r.block):=h.cell 2
theorem gG.c35{t:TypeId}{w:World}{g:Nat}{r:Rec}(h:gG t w g r)(hv:r.val.length=32):w.cell? ⟨g,35,none⟩=some (.int .i64 r.eN):=(h.cell 35).trans (QK r hv)
theorem gG.range{t:TypeId}{w:World}{g:Nat}{r:Rec}(h:gG t w g r):w.rangeAt g 0 (cz r):=fun j v hv=>by
 rw[aW,h.cell j];exact hv
theorem gG.ac7{t:TypeId}{w:World}{g:Nat}{r:Rec}(h:gG t w g r):w.rangeAt g 3 (U8 r.val):=fun j v hv=>by
 have hj:j<r.val.length:=by simpa using (aA.1 hv).1
 rw[h.cell (3+j),uL r j hj,<-hv];simp[List.getElem?_eq_getElem hj]
theorem gG.FH{t:TypeId}{w:World}{g:Nat}{r:Rec}(h:gG t w g r)(hv:r.val.length=32):(Instr.loadAt 180 (.pointer (some ⟨g,0,none⟩))).run prog w=.ok (.agg (cz r).toArray) w :=
 b_ w g 0 180 (cz r) _ h.range underlying180 rfl (by rw[T_,lH r hv])
theorem gG.Vv{t:TypeId}{w:World}{g:Nat}{r:Rec}(h:gG t w g r)(hv:r.val.length=32):(Instr.loadAt 226 (.pointer (some ⟨g,0,none⟩))).run prog w=.ok (.agg (cz r).toArray) w :=
 b_ w g 0 226 (cz r) _ h.range underlying226 rfl (by rw[adb,lH r hv])
theorem gG.Vy{t:TypeId}{w:World}{g:Nat}{r:Rec}(h:gG t w g r)(hv:r.val.length=32):(Instr.loadAt 51 (.pointer (some ⟨g,3,none⟩))).run prog w=.ok (.agg (U8 r.val).toArray) w :=
 b_ w g 3 51 (U8 r.val) _ h.ac7 gw rfl (by rw[AY,aX,hv])
def pl:List (Nat × Nat):=[(0,1),(1,1),(2,1),(3,32),(35,1)]
theorem UW:placesOf prog 180=some pl:=by kernel_rfl
theorem UU:placesOf prog 226=some pl:=by kernel_rfl
theorem ac0:(prog.info? 180).bind (·.zero)=some (.agg (cz iO).toArray):=by kernel_rfl
theorem acZ:(prog.info? 226).bind (·.zero)=some (.agg (cz iO).toArray):=by kernel_rfl
theorem dU(off n:Nat)(i:Nat)(hp:pl.toArray[i]?=some (off,n))(v:Value)(vs cs:List Value)(hv:v.cells=vs.toArray)(hn:vs.length=n)(hl:off+n<=cs.length)(rest:List (Nat × Value)) :
  Instr.fill (pl.toArray[·]?) cs.toArray ((i,v) :: rest)=Instr.fill (pl.toArray[·]?) (cs.take off++vs++cs.drop (off+vs.length)).toArray rest:=by
 have a0:=qC off vs cs (by omega);have a1:vs.toArray.zipIdx.foldl (fun cs x=>match x with | (c,j)=>cs.setIfInBounds (off+j) c) cs.toArray=(cs.take off++vs++cs.drop (off+vs.length)).toArray:=a0;simp only[Instr.fill];rw[hp];dsimp only;rw[hv];simp only[aM];rw[aD (by simp[hn];omega),a1]
theorem Gg(r:Rec)(h:r.val.length=32)(k:Int)(rest:List (Nat × Value)):Instr.fill (pl.toArray[·]?) (cz r).toArray ((0,.int .i64 k) :: rest)=Instr.fill (pl.toArray[·]?) (cz ⟨k,r.pos,r.block,r.val,r.eN⟩).toArray rest :=
 dU 0 1 0 rfl _ [.int .i64 k] _ rfl rfl (by rw[lH r h];omega) rest
theorem WT(r:Rec)(h:r.val.length=32)(k:Int)(rest:List (Nat × Value)):Instr.fill (pl.toArray[·]?) (cz r).toArray ((2,.int .i64 k) :: rest)=Instr.fill (pl.toArray[·]?) (cz ⟨r.kind,r.pos,k,r.val,r.eN⟩).toArray rest :=
 dU 2 1 2 rfl _ [.int .i64 k] _ rfl rfl (by rw[lH r h];omega) rest
theorem WQ(r:Rec)(h:r.val.length=32)(v:List Int)(hv:v.length=32)(rest:List (Nat × Value)):Instr.fill (pl.toArray[·]?) (cz r).toArray ((3,.agg (U8 v).toArray) :: rest)=Instr.fill (pl.toArray[·]?) (cz ⟨r.kind,r.pos,r.block,v,r.eN⟩).toArray rest:=by
 rw[dU 3 32 3 rfl _ (U8 v) _ rfl (by rw[aX,hv]) (by rw[lH r h];omega) rest]
 congr 2
 rw[aX,hv];simp only[cz,ig,jy,ct,bF,jh];rw[List.drop_append,aX,h,jl (by rw[aX,h];omega)];rfl
theorem WR(r:Rec)(h:r.val.length=32)(k:Int)(rest:List (Nat × Value)):Instr.fill (pl.toArray[·]?) (cz r).toArray ((4,.int .i64 k) :: rest)=Instr.fill (pl.toArray[·]?) (cz ⟨r.kind,r.pos,r.block,r.val,k⟩).toArray rest:=by
 rw[dU 35 1 4 rfl _ [.int .i64 k] _ rfl rfl (by rw[lH r h];omega) rest]
 congr 2
 simp only[cz,ig,ct,jh,fO];rw[List.take_append,aX,h,aL (by rw[aX,h];omega),jl (by simp[h])];simp
theorem wW(r:Rec):Instr.fill (pl.toArray[·]?) (cz r).toArray []=some (cz r).toArray:=rfl
theorem Py(w:World)(parts:Array (Nat × Value))(r:Rec)(h:Instr.fill (pl.toArray[·]?) (cz iO).toArray parts.toList=some (cz r).toArray):(Instr.build 180 parts).run prog w=.ok (.agg (cz r).toArray) w :=
 eo w 180 _ _ ((jr 180 _ _ _ UW ac0).trans h)
theorem Px(w:World)(parts:Array (Nat × Value))(r:Rec)(h:Instr.fill (pl.toArray[·]?) (cz iO).toArray parts.toList=some (cz r).toArray):(Instr.build 226 parts).run prog w=.ok (.agg (cz r).toArray) w :=
 eo w 226 _ _ ((jr 226 _ _ _ UU acZ).trans h)
theorem kZ:iO.val.length=32:=bG 32
theorem sizeOf5(w:World):(sizeOf 5).run prog w=.ok 1 w:=by
 cases hi:prog.info? 5 with
 | none=>have:=Ho;simp[hi] at this
 | some i =>
  have h:=Ho;simp only[hi,iZ,aC] at h;simp[sizeOf,typeInfo,hi,h]
theorem rN:∀(xs ys:List Int),xs.length=ys.length->((List.range xs.length).all fun i=>xs.getD i 0 == ys.getD i 0)=decide (xs=ys)
 | [],[],_=>rfl
 | x :: xs,y :: ys,h=>by
  have ih:=rN xs ys (by simpa using h);rw[bz,List.range_succ_eq_map,List.all_cons,List.all_map];simp only[List.getD_cons_zero,Function.comp_def,List.getD_cons_succ,ih];rw[Bool.eq_iff_iff];simp
 | [],_ :: _,h=>by simp at h
 | _ :: _,[],h=>by simp at h
theorem aaM(w:World)(d:Nat)(xs ys:List Int)(hx:xs.length=32)(hy:ys.length=32) :
  (Op.equalIn (d+2) 51 (.agg (U8 xs).toArray) (.agg (U8 ys).toArray)).run prog w=.ok (decide (xs=ys)) w:=by
 rw[<-rN xs ys (hx.trans hy.symm),hx,List.range_eq_range',Op.equalIn];simp only[aU,run_underlying gw,aH,sizeOf5,Std.Legacy.Range.forIn_eq_forIn_range',Std.Legacy.Range.size,Nat.sub_zero,Nat.add_sub_cancel,Nat.div_one];have hl:∀i∈List.range' 0 32 1,i<32:=fun i hi=>by simpa using (List.mem_range'_1.1 hi).2
 generalize List.range' 0 32 1=l at hl ⊢
 induction l with
 | nil=>simp
 | cons i l ih =>
  have hi:i<32:=hl i (by simp);have px:(part 5 (U8 xs).toArray (i*1)).run prog w=.ok (.int .u8 (xs.getD i 0)) w:=by
   simp[part,isAgg,run_underlying underlying5,List.getD,List.getElem?_eq_getElem (show i<xs.length by omega)]
  have py:(part 5 (U8 ys).toArray (i*1)).run prog w=.ok (.int .u8 (ys.getD i 0)) w:=by
   simp[part,isAgg,run_underlying underlying5,List.getD,List.getElem?_eq_getElem (show i<ys.length by omega)]
  have pe:(Op.equalIn (d+1) 5 (.int .u8 (xs.getD i 0)) (.int .u8 (ys.getD i 0))).run prog w=.ok (xs.getD i 0 == ys.getD i 0) w:=run_equalIn_int w d 5 .u8 .u8 _ _ underlying5;simp only[List.forIn_cons,aU,px,py,pe,aH,List.all_cons];cases hb:(xs.getD i 0 == ys.getD i 0)
  ·simp
  ·simp only[Bool.not_true,Bool.false_eq_true,if_false,bQ,aH,Bool.true_and];exact ih fun j hj=>hl j (by simp[hj])
theorem acA(w:World)(xs ys:List Int)(hx:xs.length=32)(hy:ys.length=32) :
  (binOp .eql 51 (.agg (U8 xs).toArray) (.agg (U8 ys).toArray)).run prog w=.ok (.bool (decide (xs=ys))) w:=by
 rw[run_eql_struct,aaM w 9998 xs ys hx hy];rfl
theorem acB:prog.eqGuardType prog.depth 51=false:=by kernel_rfl
theorem PA(w:World):(Instr.build 51 #[]).run prog w=.ok (.agg (U8 (zs 32)).toArray) w:=eo w 51 _ _ (by kernel_rfl)
theorem ym(r:Rec)(hv:r.val.length=32)(w:World) :
  Calls prog 222 #[.agg (cz r).toArray] w fun e w'=>e=.returned (.bool (qh r))/\Below w.heap.size w w':=by
 have hA:=gG.new 180 w r;have c0:=hA.c0;have c2:=hA.c2;have c4:=hA.c35 hv;have HB:Hid (Below w.heap.size w (w.alloc (.cells (cz r).toArray 180))):=ag w _;clear hA hv;go_enter func222,ntmps222;go_wp2;all_goals go_ret
 all_goals (refine⟨?_,HB.out⟩)
 all_goals (clear c0 c2 c4;unfold qh;simp_all <;> (intros;omega))
theorem MV(r:Rec)(hv:r.val.length=32)(w:World) :
  Calls prog 223 #[.agg (cz r).toArray] w fun e w'=>e=.returned (.bool (nt r))/\Below w.heap.size w w':=by
 have hA:=gG.new 180 w r;have c0:=hA.c0;have c2:=hA.c2;have c4:=hA.c35 hv;have L3:=zH (hA.Vy hv);have B3:Hid (_):=PA (w.alloc (.cells (cz r).toArray 180));have Q3:Hid (_):=acA (w.alloc (.cells (cz r).toArray 180)) r.val (zs 32) hv (bG 32);have HB:Hid (Below w.heap.size w (w.alloc (.cells (cz r).toArray 180))):=ag w _;clear hA hv;go_enter func223,ntmps223;go_wp2_with (first | (refine aK (by rfl) 51 rfl rfl L3.out ?_) | (refine bh (by rfl) 51 rfl rfl B3.out ?_) | (refine nk (by rfl) 51 rfl rfl rfl acB Q3.out ?_))
 all_goals go_ret
 all_goals (refine⟨?_,HB.out⟩)
 all_goals (clear c0 c2 c4 L3 B3 Q3;unfold nt;simp_all <;> (intros;omega))
theorem Sc(r:Rec)(hp:r.pos<=4611686018427387904)(h:qh r=true):vB r=0:=by
 unfold vB may;rw[h,aP hp];rfl
theorem M_(r:Rec)(hp:r.pos<=4611686018427387904)(h:nt r=true):vB r=0:=by
 unfold vB may;rw[h,aP hp];simp
theorem Xo(r:Rec)(h:qh r=false)(h2:nt r=false):vB r=60:=by
 unfold vB may;rw[h,h2];simp
theorem aa5(r:Rec)(hp:¬r.pos<=4611686018427387904):vB r=60:=by
 unfold vB may;rw[aF hp];rfl
theorem yK(r:Rec)(hv:r.val.length=32)(w:World) :
  Calls prog 201 #[.agg (cz r).toArray] w fun e w'=>e=.returned (.int .i64 (vB r))/\Below w.heap.size w w':=by
 have hA:=gG.new 180 w r;have c1:=hA.c1;have L1:=zH (hA.FH hv);have HA:=zH hA;have HB:Hid (Below w.heap.size w (w.alloc (.cells (cz r).toArray 180))):=ag w _;have HV:=zH hv;clear hA hv;go_enter func201,ntmps201;by_cases hp:r.pos<=4611686018427387904
 ·have hp':¬4611686018427387904<r.pos:=by omega
  go_wp2_with (refine aK (by rfl) 180 rfl rfl L1.out ?_)
  refine (ym r HV.out _).mono ?_;rintro e w1 ⟨rfl,b1⟩;have uE:=zH (HA.out.later b1);have gj:Hid (Below w.heap.size w w1):=ah HB.out b1;have L2:=zH (uE.out.FH HV.out);clear c1 L1 b1 HA HB;cases hi:qh r with
  | true =>
   have HC:=zH (Sc r hp hi);go_wp2_with fail;go_ret;exact⟨by rw[HC.out];rfl,gj.out⟩
  | false =>
   go_wp2_with (refine aK (by rfl) 180 rfl rfl L2.out ?_)
   refine (MV r HV.out _).mono ?_;rintro e w2 ⟨rfl,b2⟩;have gD:Hid (Below w.heap.size w w2):=ah gj.out b2;clear b2 L2;cases hc:nt r with
   | true =>
    have HC:=zH (M_ r hp hc);go_wp2_with fail;go_ret;exact⟨by rw[HC.out];rfl,gD.out⟩
   | false =>
    have HC:=zH (Xo r hi hc);go_wp2_with fail;go_ret;exact⟨by rw[HC.out];rfl,gD.out⟩
 ·have HC:=zH (aa5 r hp);have hp':4611686018427387904<r.pos:=by omega
  go_wp2_with fail;go_ret;exact⟨by rw[HC.out];rfl,HB.out⟩
theorem Mb(r:Rec)(hv:r.val.length=32)(hm:may r=true)(w:World) :
  Calls prog 203 #[.agg (cz r).toArray] w fun e w'=>e=.returned (.int .u64 (qg r))/\Below w.heap.size w w':=by
 have hA:=gG.new 180 w r;have c0:=hA.c0;have c2:=hA.c2;have c4:=hA.c35 hv;have HB:Hid (Below w.heap.size w (w.alloc (.cells (cz r).toArray 180))):=ag w _;have hn:=Fy r hm;clear hA hv;by_cases hk:r.kind=1
 ·have e:qg r=r.block:=by unfold qg;rw[aE hk]
  rw[e] at hn ⊢;obtain ⟨h0,h1⟩:=hn;clear hm e;go_enter func203,ntmps203;go_wp2;go_ret;exact⟨rfl,HB.out⟩
 ·have e:qg r=r.eN:=by unfold qg;rw[aD hk]
  rw[e] at hn ⊢;obtain ⟨h0,h1⟩:=hn;clear hm e;go_enter func203,ntmps203;go_wp2;go_ret;exact⟨rfl,HB.out⟩
theorem mo(n:Int)(k:Nat)(w:World)(yx:0<=n)(hk:1<=k/\k<=8)(hn:n / 256 ^ k=0) :
  Calls prog 202 #[.int .u64 n,.int .i64 k] w fun e w'=>∃p c,e=.returned (.slice p k c)/\Made w w' p k c (digits k n):=by
 go_enter func202,ntmps202;go_wp2_with fail;refine (LJ n k w yx hk hn).mono ?_;rintro e w1 ⟨v,rfl,ho,hb⟩;obtain ⟨p,c,rfl,hm⟩:=pQ ho (en k n) hb;clear ho hb hn;go_wp2_with fail;go_ret;exact⟨p,c,rfl,hm⟩
theorem gG.vin{t:TypeId}{w:World}{g:Nat}{r:Rec}(h:gG t w g r)(hw:r.Wf):jK w (some ⟨g,3,none⟩) 32 r.val:=by
 refine⟨hw.len,hw.byte,fun _=>⟨g,3,rfl,fun i hi=>?_⟩⟩;have Aj:i<r.val.length:=by rw[hw.len];exact hi
 rw[h.cell (3+i),uL r i Aj];simp[List.getD,List.getElem?_eq_getElem Aj]
theorem IU{w:World}{vs:List Value}{ls:List (List Int)}(h:xl w vs ls)(n:Nat)(hn:vs.length=n)(hb:ls.flatten.length<=100000)(MB:n<=100) :
  Calls prog 172 #[.slice (some ⟨w.heap.size,0,none⟩) n n] (w.alloc (.cells vs.toArray 107)) fun e w'=>∃p c,e=.returned (.slice p ls.flatten.length c)/\Made w w' p ls.flatten.length c ls.flatten:=by
 have hB:∀l∈ls,Bytes l:=by
  intro l hl;obtain ⟨i,hi,rfl⟩:=fL hl;obtain ⟨_,_,_,_,h1,_⟩:=h.at i (by rw[<-h.len];exact hi) hi;exact h1.byte
 refine (VJ _ n n vs ls _ (zW h n hn) (by omega) (by omega)).mono ?_;rintro e w' ⟨v,rfl,ho,jb⟩;exact (pQ (eH ho (by simp)) (Bytes.flatten hB) (kC jb)).elim fun p ⟨c,e,m⟩=>⟨p,c,by rw[e],m⟩
theorem aeU(k:Int)(h0:0<=k)(h1:k<256):digits 1 k=[k]:=by
 simp only[digits];rw[Int.emod_eq_of_lt h0 h1]
theorem div_zero(n m:Int)(h0:0<=n)(h1:n<m):n / m=0:=lG h0 h1
theorem aeS(n:Int)(h0:0<=n)(h1:n<256):n / 256 ^ 1=0:=div_zero _ _ h0 (by rw[show (256:Int) ^ 1=256 by decide];omega)
theorem amN(n:Int)(h0:0<=n)(h1:n<=18446744073709551615):n / 256 ^ 8=0:=div_zero _ _ h0 (by rw[show (256:Int) ^ 8=18446744073709551616 by decide];omega)
theorem Xi(n:Int)(h0:0<=n)(h1:n<4294967296):n / 256 ^ 4=0:=div_zero _ _ h0 (by rw[show (256:Int) ^ 4=4294967296 by decide];omega)
theorem oh(r:Rec)(h:may r=true):vB r=0:=by unfold vB;rw[aE h]
theorem pU(r:Rec)(hw:r.Wf)(hm:may r=true)(w:World)(ht:zL w) :
  Calls prog 158 #[.agg (cz r).toArray] w fun e w'=>∃p c,e=.returned (.tuple #[.slice p 64 c,.int .i64 0])/\Made w w' p 64 c (encS r):=by
 have HW:=zH hw;have HM:=zH hm;have L1:Hid (_):=(gG.new 180 w r).FH hw.len;have hc:=oh r hm;have HT:=zH ht;have HN:Hid (0<=qg r/\qg r<64):=Fy r hm;have HK:Hid (0<=r.kind/\r.kind<256):=by have:=BG hm;exact⟨by omega,by omega⟩
 have HP:=rf hw.p0 hw.p1;go_enter func158,ntmps158;go_wp2_with (refine aK (by rfl) 180 rfl rfl L1.out ?_)
 refine (yK r hw.len _).mono ?_;rintro e w1 ⟨rfl,b1⟩;rw[hc];have gj:Hid (Below w.heap.size w w1):=kC b1;have uE:Hid (gG 180 w1 w.heap.size r):=(gG.new 180 w r).later b1;clear b1 L1 hm hc hw ht;go_wp2_with fail;have k0:=HK.out.1;have k1:=HK.out.2;have ks:IntKind.u64.wrap r.kind=r.kind:=by rw[eD];omega
 refine zR (fun w'=>gG 180 w' w.heap.size r) uE.out.drew fun aa=>?_;refine tk 1 aa ?_;refine de 2 aa (fun _ fc=>gG.c0 fc) ?_;refine fI 3 6 aa ?_;refine de 7 aa (fun _ fc=>gG.c1 fc) ?_;refine dz (i:=9) (v:=_) (by simp;rfl) (by kernel_rfl) (by kernel_rfl) (by kernel_rfl) (fun _ _ _ h=>h) (mT (by rfl) 180 (.tmp 1) rfl w.heap.size 0 rfl (cz r) _ (fun _ h=>gG.range h) underlying180 rfl (by rw[T_,lH r HW.out.len])) aa ?_;simp only[Act.put,zA,zB,zC];refine fI 12 13 aa ?_;refine ck (rs:=[0]) (by kernel_rfl) (by simp) ?_;refine bu (by simp;rfl) (fun Kc aJ=>?_) bO;go_simp;refine (mo 87 1 w1.drew (by omega) (by omega) (by decide)).mono ?_;rintro e w2 ⟨p2,c2,rfl,m2⟩;have gD:Hid (Below w1.heap.size w1 w2):=xg m2.below;have zM:=zH m2.sin;have YV:Hid (gG 180 w2 w.heap.size r):=uE.out.later gD.out;clear m2;refine aJ.out _ _ YV.out (fun aa=>?_);clear aJ Kc;refine ck (rs:=[4]) (by kernel_rfl) (by simp) ?_;refine bu (by simp;rfl) (fun Kc aJ=>?_) bO;go_simp;refine (mo r.kind 1 w2 k0 (by omega) (aeS _ k0 k1)).mono ?_;rintro e w3 ⟨p3,c3,rfl,m3⟩;have vN:=zH m3.below;have EY:Hid (zK w3 (.slice p3 1 c3) [r.kind]):=by have:=m3.sin;rw[aeU r.kind k0 k1] at this;exact this
 have SP:Hid (gG 180 w3 w.heap.size r):=YV.out.later vN.out;clear m3;refine aJ.out _ _ SP.out (fun aa=>?_);clear aJ Kc;refine ck (rs:=[5]) (by kernel_rfl) (by simp) ?_;refine bu (by simp;rfl) (fun Kc aJ=>?_) bO;go_simp;refine (mo 0 2 w3 (by omega) (by omega) (by decide)).mono ?_;rintro e w4 ⟨p4,c4,rfl,m4⟩;have Gw:=zH m4.below;have Ki:=zH m4.sin;have GJ:Hid (gG 180 w4 w.heap.size r):=SP.out.later Gw.out;clear m4;refine aJ.out _ _ GJ.out (fun aa=>?_);clear aJ Kc;refine ck (rs:=[8]) (by kernel_rfl) (by simp) ?_;refine bu (by simp;rfl) (fun Kc aJ=>?_) bO;go_simp;refine (mo r.pos 8 w4 HP.out.1 (by omega) (amN _ HP.out.1 HP.out.2)).mono ?_;rintro e w5 ⟨p5,c5,rfl,m5⟩;have HB5:=zH m5.below;have HS5:=zH m5.sin;have HA5:Hid (gG 180 w5 w.heap.size r):=GJ.out.later HB5.out;clear m5;refine aJ.out _ _ HA5.out (fun aa=>?_);clear aJ Kc;refine ck (rs:=[10]) (by kernel_rfl) (by simp) ?_;refine bu (by simp;rfl) (fun Kc aJ=>?_) bO;go_simp;refine (Mb r HW.out.len HM.out w5).mono ?_;rintro e w6 ⟨rfl,b6⟩;have HB6:=zH b6;have HA6:Hid (gG 180 w6 w.heap.size r):=HA5.out.later HB6.out;clear b6;refine aJ.out _ _ HA6.out (fun aa=>?_);clear aJ Kc;refine ck (rs:=[11]) (by kernel_rfl) (by simp) ?_;refine bu (by simp;rfl) (fun Kc aJ=>?_) bO;go_simp;refine (mo (qg r) 4 w6 HN.out.1 (by omega) (Xi _ HN.out.1 (by have:=HN.out.2;omega))).mono ?_;rintro e w7 ⟨p7,c7,rfl,m7⟩;have HB7:=zH m7.below;have Kh:=zH m7.sin;have HA7:Hid (gG 180 w7 w.heap.size r):=HA6.out.later HB7.out;clear m7;refine aJ.out _ _ HA7.out (fun aa=>?_);clear aJ Kc;have B67:=HB7.out;have B57:=ah HB6.out B67;have B47:=ah HB5.out B57;have B37:=ah Gw.out B47;have B27:=ah vN.out B37;have B17:=ah gD.out B27;have HSS:Hid (xl w7 [.slice p2 1 c2,.slice p3 1 c3,.slice p4 2 c4,.slice p5 8 c5,.slice p7 4 c7,.slice (some ⟨w.heap.size,3,none⟩) 32 32] [[87],[r.kind],[0,0],digits 8 r.pos,digits 4 (qg r),r.val]) :=
  ⟨zM.out.later B27,EY.out.later B37,Ki.out.later B47,HS5.out.later B57,Kh.out,⟨_,_,_,rfl,HA7.out.vin HW.out,az _,fun e=>by cases e⟩,trivial⟩
 have HF:Hid ([[87],[r.kind],[0,0],digits 8 r.pos,digits 4 (qg r),r.val].flatten=head r):=by show _=_;simp[head]
 have HFL:Hid ((head r).length=48):=Jl r HW.out.len;have YU:Hid (Below w.heap.size w w7):=ah gj.out B17;clear B67 B57 B47 B37 B27 B17 gD vN Gw HB5 HB6 HB7 zM EY Ki HS5 Kh YV SP GJ HA5 HA6 gj uE;refine ck (rs:=[14]) (by kernel_rfl) (by simp) ?_;refine bu (by simp;rfl) (fun Kc aJ=>?_) bO;go_simp;refine aJ.out _ _ (HA7.out.later (ag w7 _)) (fun aa=>?_);clear aJ Kc;refine ck (rs:=[15]) (by kernel_rfl) (by simp) ?_;refine bu (by simp;rfl) (fun Kc aJ=>?_) bO;go_simp;refine (IU HSS.out 6 rfl (by rw[HF.out,HFL.out];omega) (by omega)).mono ?_;rintro e w8 ⟨p8,c8,rfl,m8⟩;rw[HF.out,HFL.out] at m8;rw[HF.out,HFL.out];have HA8:Hid (gG 180 w8 w.heap.size r):=HA7.out.later m8.below;have PS:Hid (Below w.heap.size w w8):=ah YU.out m8.below;have HR8:=zH m8.read;clear m8 HSS HF HFL YU HA7;refine aJ.out _ _ HA8.out (fun aa=>?_);clear aJ Kc;refine tk 16 aa ?_;refine zD ?_;clear aa;go_wp2_with fail;refine (ady p8 48 c8 (head r) 60 w8 (by omega) (by omega) HR8.out).mono ?_;rintro e w9 ⟨v9,rfl,ho9,hb9⟩;obtain ⟨p9,c9,rfl,m9⟩:=pQ ho9 ((Cc r HW.out HM.out).append (jW 12)) hb9;have HS9:=zH m9.sin;have SM:Hid (Below w.heap.size w w9):=ah PS.out hb9;have HL9:Hid ((body r).length=60):=nI r HW.out.len;clear ho9 hb9 m9 HR8 PS HA8;go_wp2_with fail;refine (Ma p9 60 c9 (body r) HS9.out (by rw[HL9.out];omega) (HT.out.later SM.out)).mono ?_;rintro e Gy ⟨rfl,Nq⟩;have Ye:Hid (zK Gy (.slice p9 60 c9) (body r)):=HS9.out.later Nq;have Yn:Hid (Below w.heap.size w Gy):=ah SM.out Nq;have Tj:=yI (body r) (jc r HW.out HM.out);have HE:Hid (encS r=[body r,digits 4 ((xx (body r):Nat):Int)].flatten):=by show _=_;simp[encS]
 have YT:Hid ((encS r).length=64):=tj r HW.out.len;clear Nq HS9 SM;generalize xx (body r)=S at *;go_wp2_with fail;refine (mo (S:Int) 4 Gy (by omega) (by omega) (Xi _ (by omega) (by omega))).mono ?_;rintro e S_ ⟨p11,CH,rfl,Tb⟩;have HSS:Hid (xl S_ [.slice p9 60 c9,.slice p11 4 CH] [body r,digits 4 (S:Int)]):=⟨Ye.out.later Tb.below,Tb.sin,trivial⟩
 have Ym:Hid (Below w.heap.size w S_):=ah Yn.out Tb.below;clear Tb Ye Yn;go_wp2_with fail;refine (IU HSS.out 2 rfl (by rw[<-HE.out,YT.out];omega) (by omega)).mono ?_;rintro e w12 ⟨p12,c12,rfl,m12⟩;rw[<-HE.out,YT.out] at m12;rw[<-HE.out,YT.out];have CD:=zH m12;clear m12 HSS;go_wp2_with fail;go_ret2;exact⟨p12,c12,rfl,eH CD.out.own Ym.out.size,CD.out.read,CD.out.le,CD.out.nil,ah Ym.out CD.out.below⟩
end Go.Proofs.Zq.R
namespace Go.Proofs.Zq.R
open Go.RowKit
section
variable {P:Program} {o:Oper} {a:Act} {w w':World} {K:Act->World->Prop} {Q:Exit->Act->World->Prop}
theorem jE{ops:Array Oper}{S:World->Prop}(hw:Region.wanted o (yielded ops a.tmps)=true)(ty:TypeId){ps:Array (Nat × Operand)}(ho:o.op=.build ty ps){vs:List (Nat × Value)}{v:Value}(hx:ps.toList.map (fun (i,x)=>(i,a.eval x))=vs)(dM:∀w,(Instr.build ty vs.toArray).run P w=.ok v w):YieldsIf P ops S o v a :=
 .inl ⟨hw,fun w _=>by unfold execOp;simp only[ho];rw[show ps.map (fun (i,x)=>(i,a.eval x))=vs.toArray by rw[<-hx,<-ny]];simp only[aU,dM w,aH,bQ]⟩
end
end Go.Proofs.Zq.R
namespace Go.Proofs.Zq.G
open Go.Proofs.Tryz
open Go.RowKit
theorem Gm(n:Int)(w:World) :
  Calls prog 224 #[.int .i64 n] w fun e w'=>e=.returned (.bool (decide (Cap n)))/\w=w':=by
 go_enter func224,ntmps224;go_wp2;all_goals go_ret
 all_goals (refine⟨?_,rfl⟩;simp[Cap];omega)
theorem TE{n:Int}(h:Cap n):IntKind.u64.wrap n=n:=by
 have:=h.1;have:=h.2;rw[eD];omega
theorem Z_(p:Int){n:Int}(h:Cap n):0<=p % n/\p % n<64:=by
 have h1:=h.1;have h2:=h.2;have h3:=Int.emod_nonneg p (show n≠0 by omega);have h4:=Int.emod_lt_of_pos p (show 0<n by omega);omega
theorem TD(p:Int){n:Int}(h:Cap n):wrap64 (p % n)=p % n:=by
 have:=Z_ p h;unfold wrap64;omega
theorem KT(p n:Int)(hp:0<=p)(hn:Cap n)(w:World) :
  Calls prog 225 #[.int .u64 p,.int .i64 n] w fun e w'=>e=.returned (.int .i64 (p % n))/\w=w':=by
 have h1:=hn.1;have h2:=hn.2;have hw:=TE hn;have hm:=TD p hn;go_enter func225,ntmps225;go_wp2;all_goals go_ret
 all_goals (refine⟨?_,rfl⟩)
 all_goals simp[hm]
abbrev agJ (x:Int × Int):Value:=.tuple #[.int .i64 x.1,.int .i64 x.2]
theorem TW(p n:Int)(h0:0<=p)(w:World) :
  Calls prog 204 #[.int .u64 p,.int .i64 n] w fun e w'=>e=.returned (agJ (vY p n))/\w=w':=by
 by_cases hn:Cap n
 ·have hd:=aP hn;by_cases hp:p>4611686018427387968
  ·have hs:Hid (vY p n=(0,31)):=by show _=_;simp[vY,hn,hp]
   have hp':4611686018427387968<p:=by omega
   clear hp;go_enter func204,ntmps204;go_wp2_with (go_at_call 224;refine (Gm _ _).mono ?_;rintro e w' ⟨rfl,rfl⟩)
   go_ret2;exact⟨by rw[hs.out];rfl,rfl⟩
  ·have hs:Hid (vY p n=(p % n,0)):=by show _=_;simp[vY,hn,hp]
   have hp':¬4611686018427387968<p:=by omega
   clear hp;go_enter func204,ntmps204;go_wp2_with (first | (go_at_call 224;refine (Gm _ _).mono ?_;rintro e w' ⟨rfl,rfl⟩) | (go_at_call 225;refine (KT _ _ h0 hn _).mono ?_;rintro e w' ⟨rfl,rfl⟩))
   go_ret2;exact⟨by rw[hs.out];rfl,rfl⟩
 ·have hd:=aF hn;have hs:Hid (vY p n=(0,2)):=by show _=_;simp[vY,hn]
  go_enter func204,ntmps204;go_wp2_with (go_at_call 224;refine (Gm _ _).mono ?_;rintro e w' ⟨rfl,rfl⟩)
  go_ret2;exact⟨by rw[hs.out];rfl,rfl⟩
theorem sr{x:Int}(h0:0<=x)(h1:x<18446744073709551616):IntKind.u64.wrap x=x:=by
 rw[eD];omega
end Go.Proofs.Zq.G
namespace Go.Proofs.Zq
open Go.Proofs.Tryz
open Go.RowKit
def fH (dp:Option Addr)(g:Lg):List Value:=[.pointer dp,.int .i64 g.c.bl,.int .i64 g.c.lc,.int .i64 g.c.mr,.int .i64 g.c.hi,.int .i64 g.c.cl,.int .u64 g.ki,.int .u64 g.tail,.int .u64 g.fin,.int .u64 g.mark,.int .i64 g.fV,.int .i64 g.last]
abbrev gQ (w:World)(L:Nat)(dp:Option Addr)(g:Lg):Prop:=bE 92 w L (fH dp g)
section
variable {w:World} {L:Nat} {dp:Option Addr} {g:Lg}
theorem gQ.c0(h:gQ w L dp g):w.cell? ⟨L,0,none⟩=some (.pointer dp):=bE.cell h 0
theorem gQ.c1(h:gQ w L dp g):w.cell? ⟨L,1,none⟩=some (.int .i64 g.c.bl):=bE.cell h 1
theorem gQ.c2(h:gQ w L dp g):w.cell? ⟨L,2,none⟩=some (.int .i64 g.c.lc):=bE.cell h 2
theorem gQ.c3(h:gQ w L dp g):w.cell? ⟨L,3,none⟩=some (.int .i64 g.c.mr):=bE.cell h 3
theorem gQ.c6(h:gQ w L dp g):w.cell? ⟨L,6,none⟩=some (.int .u64 g.ki):=bE.cell h 6
theorem gQ.c7(h:gQ w L dp g):w.cell? ⟨L,7,none⟩=some (.int .u64 g.tail):=bE.cell h 7
theorem gQ.c8(h:gQ w L dp g):w.cell? ⟨L,8,none⟩=some (.int .u64 g.fin):=bE.cell h 8
theorem gQ.c9(h:gQ w L dp g):w.cell? ⟨L,9,none⟩=some (.int .u64 g.mark):=bE.cell h 9
theorem gQ.uh(h:gQ w L dp g):w.cell? ⟨L,10,none⟩=some (.int .i64 g.fV):=bE.cell h 10
theorem gQ.CH(h:gQ w L dp g):w.cell? ⟨L,11,none⟩=some (.int .i64 g.last):=bE.cell h 11
theorem gQ.free(h:gQ w L dp g)(j:Nat):w.frozen? ⟨L,j,none⟩=false:=mK w L j _ 92 h
theorem gQ.LG(h:gQ w L dp g):w.rangeAt L 1 (aN g.c):=fun j v hv=>by
 have hj:j<5:=by
  have:=(aA.1 hv).1;simpa [aN] using this
 rw[bE.cell h (1+j)];rw[<-hv]
 match j with
 | 0=>rfl
 | 1=>rfl
 | 2=>rfl
 | 3=>rfl
 | 4=>rfl
 | j+5=>omega
theorem gQ.adi(h:gQ w L dp g)(x:Int):gQ (w.setCell ⟨L,8,none⟩ (.int .u64 x)) L dp { g with fin:=x }:=bE.set h 8 _
theorem gQ.adf(h:gQ w L dp g)(x:Int):gQ (w.setCell ⟨L,7,none⟩ (.int .u64 x)) L dp { g with tail:=x }:=bE.set h 7 _
theorem gQ.adh(h:gQ w L dp g)(x:Int):gQ (w.setCell ⟨L,9,none⟩ (.int .u64 x)) L dp { g with mark:=x }:=bE.set h 9 _
theorem gQ.Qe(h:gQ w L dp g)(x:Int):gQ (w.setCell ⟨L,10,none⟩ (.int .i64 x)) L dp { g with fV:=x }:=bE.set h 10 _
theorem gQ.Ub(h:gQ w L dp g)(x:Int):gQ (w.setCell ⟨L,11,none⟩ (.int .i64 x)) L dp { g with last:=x }:=bE.set h 11 _
end
structure LD (w:World) (S:Nat->Prop) (L p:Nat) (d:List Int) (ws:List Wr) (g:Lg):Prop where
 log:gQ w L (some ⟨p,0,none⟩) g
 zF:pz w (fun k=>S k/\k≠L) p g.sz d ws
 sl:S L
 ok:g.Ok
section
variable {w w':World} {S T:Nat->Prop} {L p:Nat} {d:List Int} {ws:List Wr} {g:Lg}
theorem LD.later(h:LD w S L p d ws g)(hb:Below w.heap.size w w'):LD w' S L p d ws g:=⟨bE.later h.log hb,h.zF.later hb,h.sl,h.ok⟩
theorem LD.kept(h:LD w S L p d ws g)(hk:Kept T w w')(hd:∀k,S k->T k->False):LD w' S L p d ws g :=
 ⟨(hk.block L (bE.lt h.log) (fun t=>hd L h.sl t)).trans h.log,h.zF.kept hk (fun k s t=>hd k s.1 t),h.sl,h.ok⟩
theorem LD.mono(h:LD w S L p d ws g)(hs:∀k,k<w.heap.size->S k->T k):LD w T L p d ws g :=
 ⟨h.log,h.zF.mono fun k hk s=>⟨hs k hk s.1,s.2⟩,hs L (bE.lt h.log) h.sl,h.ok⟩
theorem LD.wrote(h:LD w S L p d ws g){d':List Int}{CQ:List Wr}(hd:pz w' (kX (fun k=>S k/\k≠L) w) p g.sz d' CQ)(hk:Kept (fun k=>S k/\k≠L) w w'):LD w' (kX S w) L p d' CQ g/\Kept S w w':=by
 have hL:=bE.lt h.log;refine⟨⟨(hk.block L hL (fun t=>t.2 rfl)).trans h.log,hd.mono fun k _ s=>?_,.inl h.sl,h.ok⟩,⟨hk.os,hk.tape,hk.output,hk.size,fun k h1 h2=>hk.block k h1 fun t=>h2 t.1⟩⟩;rcases s with s | s
 ·exact⟨.inl s.1,s.2⟩
 ·exact⟨.inr s,by omega⟩
theorem LD.tV(h:LD w S L p d ws g){d':List Int}{CQ:List Wr}(hd:pz w' (fun k=>S k/\k≠L) p g.sz d' CQ)(hk:Kept (fun k=>S k/\k≠L) w w'):LD w' S L p d' CQ g/\Kept S w w':=by
 have hL:=bE.lt h.log;exact⟨⟨(hk.block L hL (fun t=>t.2 rfl)).trans h.log,hd,h.sl,h.ok⟩,⟨hk.os,hk.tape,hk.output,hk.size,fun k h1 h2=>hk.block k h1 fun t=>h2 t.1⟩⟩
theorem LD.set(h:LD w S L p d ws g)(j:Nat)(v:Value){g':Lg}(hg:gQ (w.setCell ⟨L,j,none⟩ v) L (some ⟨p,0,none⟩) g')(hc:g'.c=g.c)(ok:g'.Ok):LD (w.setCell ⟨L,j,none⟩ v) S L p d ws g':=by
 have hz:g'.sz=g.sz:=by unfold Lg.sz;rw[hc]
 refine⟨hg,?_,h.sl,ok⟩;rw[hz];exact h.zF.kept (T:=fun k=>k=L) ⟨rfl,rfl,rfl,by simp[World.setCell],fun k _ hk=>cJ w ⟨L,j,none⟩ k v hk⟩ (fun k s t=>s.2 t)
end
theorem rF{w:World}{L p:Nat}{g:Lg}(h:gQ w L (some ⟨p,0,none⟩) g):Calls prog 97 #[.pointer (some ⟨L,0,none⟩)] w fun e w'=>e=.returned (.bool false)/\w=w':=by
 have c0:=gQ.c0 h;clear h;go_enter func97,ntmps97;go_wp2;go_ret;exact⟨rfl,rfl⟩
theorem IG{w:World}{L:Nat}{dp:Option Addr}{g:Lg}(h:gQ w L dp g):Calls prog 22 #[.pointer (some ⟨L,0,none⟩)] w fun e w'=>e=.returned (.int .u64 g.tail)/\w=w':=by
 have c7:=gQ.c7 h;clear h;go_enter func22,ntmps22;go_wp2;go_ret;exact⟨rfl,rfl⟩
theorem Oy{w:World}{L:Nat}{dp:Option Addr}{g:Lg}(h:gQ w L dp g):Calls prog 14 #[.pointer (some ⟨L,0,none⟩)] w fun e w'=>e=.returned (.int .u64 g.fin)/\w=w':=by
 have c8:=gQ.c8 h;clear h;go_enter func14,ntmps14;go_wp2;go_ret;exact⟨rfl,rfl⟩
theorem Mj{w:World}{L:Nat}{dp:Option Addr}{g:Lg}(h:gQ w L dp g):Calls prog 103 #[.pointer (some ⟨L,0,none⟩)] w fun e w'=>e=.returned (.int .u64 g.mark)/\w=w':=by
 have c9:=gQ.c9 h;clear h;go_enter func103,ntmps103;go_wp2;go_ret;exact⟨rfl,rfl⟩
theorem IF{w:World}{L:Nat}{dp:Option Addr}{g:Lg}(h:gQ w L dp g)(ok:g.Ok):Calls prog 157 #[.pointer (some ⟨L,0,none⟩)] w fun e w'=>e=.returned (.int .i64 (g.fin-g.tail))/\w=w':=by
 have HG:=zH h;have hn:0<=g.fin-g.tail/\g.fin-g.tail<=64:=by have:=ok.tm;have:=ok.mf;have:=ok.us;have:=ok.cf.2.1;omega
 clear h ok;go_enter func157,ntmps157;go_wp2_with fail;refine (Oy HG.out).mono ?_;rintro e w1 ⟨rfl,rfl⟩;go_wp2_with fail;refine (IG HG.out).mono ?_;rintro e w1 ⟨rfl,rfl⟩;have k1:IntKind.u64.wrap (g.fin-g.tail)=g.fin-g.tail:=G.sr hn.1 (by omega);have k2:RowKit.wrap64 (g.fin-g.tail)=g.fin-g.tail:=by have:=aY (g.fin-g.tail);unfold RowKit.wrap64;omega
 go_wp2;go_ret;exact⟨rfl,rfl⟩
theorem Zl{g:Lg}(ok:g.Ok){p:Int}(h1:p<=4611686018427387904):G.vY p g.c.lc=(p % g.c.lc,0):=by
 have:=ok.cf.2.1;unfold G.vY;rw[aE ⟨by omega,by omega⟩,aD (by omega)]
theorem Qf{w:World}{L:Nat}{dp:Option Addr}{g:Lg}(h:gQ w L dp g)(ok:g.Ok)(p:Int)(h0:0<=p)(h1:p<=4611686018427387904):Calls prog 160 #[.pointer (some ⟨L,0,none⟩),.int .u64 p] w fun e w'=>e=.returned (.int .i64 (oH g p))/\w=w':=by
 have c1:=gQ.c1 h;have c2:=gQ.c2 h;have HS:=zH (Zl ok h1);have HN:Hid (oH g p=1+g.c.bl+p % g.c.lc):=rfl;have hb:=ok.cf.1;have hl:=ok.cf.2.1;have OS:=Int.emod_nonneg p (show g.c.lc≠0 by omega);have Wj:=Int.emod_lt_of_pos p (show 0<g.c.lc by omega);clear h ok;go_enter func160,ntmps160;go_wp2_with fail;refine (G.TW p g.c.lc h0 w).mono ?_;rintro e w1 ⟨rfl,rfl⟩;rw[HS.out];have k1:IntKind.i64.wrap (1+g.c.bl)=1+g.c.bl:=by rw[aY];omega
 have k2:IntKind.i64.wrap (1+g.c.bl+p % g.c.lc)=1+g.c.bl+p % g.c.lc:=by rw[aY];omega
 go_wp2;go_ret;exact⟨by rw[HN.out];rfl,rfl⟩
structure Told (w:World) (B g:Nat) (ws:List Wr) (vs:List Value):Prop where
 len:vs.length=ws.length
 bC:pJ w g 117 (ws.length*2)
 hg:B<=g
 Qg:∀i (h:i<ws.length),w.cell? ⟨g,i*2,none⟩=some (.int .i64 (ws[i].s:Int))
 data:∀i (h:i<vs.length),w.cell? ⟨g,i*2+1,none⟩=some vs[i]
 each:∀i (h:i<ws.length) (h2:i<vs.length),w.ownsRow B 5 1 vs[i] 64 (U8 ws[i].b)
 apart:∀i j (hi:i<vs.length) (hj:j<vs.length),i<j->∀a b,vs[i].ownBlock=some a->vs[j].ownBlock=some b->a<b
theorem Told.later{w w':World}{B g:Nat}{ws:List Wr}{vs:List Value}(h:Told w B g ws vs)(hb:Below w.heap.size w w'):Told w' B g ws vs :=
 ⟨h.len,h.bC.same (hb.block g h.bC.lt),h.hg,fun i hi=>(hb.cell (p:=⟨g,i*2,none⟩) h.bC.lt).trans (h.Qg i hi),fun i hi=>(hb.cell (p:=⟨g,i*2+1,none⟩) h.bC.lt).trans (h.data i hi),fun i h1 h2=>dD (h.each i h1 h2) hb,h.apart⟩
structure Tel (w wr:World) (ws:List Wr) (k:Nat) (vs:List Value):Prop where
 len:vs.length=k
 hk:k<=ws.length
 bC:pJ wr w.heap.size 117 (ws.length*2)
 Qg:∀i (h:i<ws.length),i<k->wr.cell? ⟨w.heap.size,i*2,none⟩=some (.int .i64 (ws[i].s:Int))
 data:∀i (h:i<vs.length),wr.cell? ⟨w.heap.size,i*2+1,none⟩=some vs[i]
 each:∀i (h:i<ws.length) (h2:i<vs.length),wr.ownsRow (w.heap.size+1) 5 1 vs[i] 64 (U8 ws[i].b)
 apart:∀i j (hi:i<vs.length) (hj:j<vs.length),i<j->∀a b,vs[i].ownBlock=some a->vs[j].ownBlock=some b->a<b
 below:Below w.heap.size w wr
theorem Tel.later{w wr w':World}{ws:List Wr}{k:Nat}{vs:List Value}(h:Tel w wr ws k vs)(hb:Below wr.heap.size wr w'):Tel w w' ws k vs :=
 ⟨h.len,h.hk,h.bC.same (hb.block _ h.bC.lt),fun i hi Jj=>(hb.cell (p:=⟨w.heap.size,i*2,none⟩) h.bC.lt).trans (h.Qg i hi Jj),fun i hi=>(hb.cell (p:=⟨w.heap.size,i*2+1,none⟩) h.bC.lt).trans (h.data i hi),fun i h1 h2=>dD (h.each i h1 h2) hb,h.apart,h.below.trans (hb.mono h.below.size)⟩
theorem pJ.some{w:World}{g t sz:Nat}(h:pJ w g t sz)(o:Nat)(ho:o<sz):∃u,w.cell? ⟨g,o,none⟩=some u:=by
 obtain ⟨cur,h,hs⟩:=h;exact⟨cur[o],by rw[aq w g o cur t (0,0) h,Array.getElem?_eq_getElem (by omega)]⟩
theorem pJ.free{w:World}{g t sz:Nat}(h:pJ w g t sz)(o:Nat):w.frozen? ⟨g,o,none⟩=false:=by
 obtain ⟨cur,h,hs⟩:=h;exact mK w g o _ t h
theorem Tel.step{w wr w1:World}{ws:List Wr}{k:Nat}{vs:List Value}{v:Value}(h:Tel w wr ws k vs)(hb:Below wr.heap.size wr w1)(hk:k<ws.length)(hv:w1.ownsRow wr.heap.size 5 1 v 64 (U8 ws[k].b)) :
  Tel w ((w1.setCell ⟨w.heap.size,k*2,none⟩ (.int .i64 (ws[k].s:Int))).setCell ⟨w.heap.size,k*2+1,none⟩ v) ws (k+1) (vs++[v]):=by
 have h1:=h.later hb;have eP:=h.bC.lt;obtain ⟨u0,c0⟩:=h1.bC.some (k*2) (by omega);obtain ⟨u1,c1⟩:=(h1.bC.setCell (g':=w.heap.size) (o:=k*2) (.int .i64 (ws[k].s:Int))).some (k*2+1) (by omega);have hold:∀{vv:Value} {xs:List Value} {nn:Nat},w1.ownsRow (w.heap.size+1) 5 1 vv nn xs->((w1.setCell ⟨w.heap.size,k*2,none⟩ (.int .i64 (ws[k].s:Int))).setCell ⟨w.heap.size,k*2+1,none⟩ v).ownsRow (w.heap.size+1) 5 1 vv nn xs:=fun {vv xs nn} ho =>
  gO ho (fun b xq=>(cJ _ _ _ _ (by have:=(ho.lt b xq).1;show b≠w.heap.size;omega)).trans (cJ _ _ _ _ (by have:=(ho.lt b xq).1;show b≠w.heap.size;omega)))
 refine⟨by simp[h.len],by omega,(h1.bC.setCell _).setCell _,fun i hi Jj=>?_,fun i hi=>?_,fun i hi h2=>?_,fun i j hi hj Jk a b ha xq=>?_,(h1.below.setCell (az _) _).setCell (az _) _⟩
 ·rw[nZ _ _ _ _ (by intro e;simp only[d_] at e;omega)];by_cases c:i=k
  ·subst c;exact World.cell?_setCell_same _ _ _ c0
  ·rw[nZ _ _ _ _ (by intro e;simp only[d_] at e;omega)];exact h1.Qg i hi (by omega)
 ·by_cases c:i<vs.length
  ·have hl:=h.len;rw[nZ _ _ _ _ (by intro e;simp only[d_] at e;omega),nZ _ _ _ _ (by intro e;simp only[d_] at e;omega),dX c];exact h1.data i c
  ·have e:i=k:=by simp at hi;have:=h.len;omega
   subst e;rw[World.cell?_setCell_same _ _ _ c1];simp[<-h.len]
 ·by_cases c:i<vs.length
  ·rw[dX c];exact hold (h1.each i hi c)
  ·have e:i=k:=by simp at h2;have:=h.len;omega
   subst e;have e2:(vs++[v])[i]=v:=by simp[<-h.len]
   rw[e2];exact hold (eH hv (by have:=h.bC.lt;omega))
 ·by_cases c:j<vs.length
  ·rw[dX c] at xq;rw[dX (by omega)] at ha;exact h.apart i j (by omega) c Jk a b ha xq
  ·have e:j=k:=by simp at hj;have:=h.len;omega
   subst e;have e2:(vs++[v])[j]=v:=by simp[<-h.len]
   rw[e2] at xq;have Aj:i<vs.length:=by have:=h.len;omega
   rw[dX Aj] at ha;have f1:=(hv.lt b xq).1;have f2:=((h.each i (by omega) Aj).lt a ha).2;omega
theorem ad3:(prog.info? 117).map (fun i=>(i.zero,i.size,i.bytes))=some (some (.agg #[.int .i64 0,.slice none 0 0]),2,32):=by kernel_rfl
theorem GO{w:World}{S:Nat->Prop}{p n:Nat}{d:List Int}{ws:List Wr}(h:pz w S p n d ws)(hk:ws.length<=100000) :
  Calls prog 25 #[.pointer (some ⟨p,0,none⟩)] w fun e w'=>∃g vs,e=.returned (.slice (some ⟨g,0,none⟩) ws.length ws.length)/\Told w' w.heap.size g ws vs/\Below w.heap.size w w':=by
 obtain ⟨i0,hi,ij,gm,iL⟩:=cj ad3;obtain ⟨q,cap,v,h⟩:=h;have h1:=h.nH;have HH:=zH h;obtain ⟨pv,cv,rfl,_⟩:=iE h.wt;clear h;have Jg:=run_make (P:=prog) w 73 117 i0 _ underlying73 hi ij .i64 .i64 (ws.length:Int) (ws.length:Int) (by omega) (iy _) (by rw[iL];omega) (by omega);rw[gm] at Jg;simp only[Int.toNat_natCast,Value.cells] at Jg;have HT:Hid (Tel w (w.alloc (.cells (madeCells #[.int .i64 0,.slice none 0 0] (ws.length*2)) 117)) ws 0 []) :=
  ⟨rfl,aI _,⟨_,aG w _,size_madeCells _ _⟩,fun i _ h=>by omega,fun i h=>by simp at h,fun i _ h=>by simp at h,fun i j h=>by simp at h,ag w _⟩
 obtain ⟨ob,hob⟩:=zE (Obj.cells (madeCells #[.int .i64 0,.slice none 0 0] (ws.length*2)) 117);rw[hob] at Jg HT;clear hob;have h1':(w.alloc ob).cell? ⟨p,1,none⟩=some (.slice pv ws.length cv):=(HH.out.later (ag w ob)).nH;go_enter func25,ntmps25;go_wp2;clear Jg h1';generalize w.alloc ob=W0 at *
 go_loopw [19] (fun i wr=>∃(k:Nat) (vs:List Value),i=.int .i64 k/\Hid (Tel w wr ws k vs)) (fun i _=>ws.length-(intOf i).toNat)
 case atStart=>exact⟨0,[],rfl,HT.out⟩
 case round =>
  obtain ⟨k,vs,rfl,HR⟩:=hrel;clear HT;have vK:=HR.out.hk;by_cases eP:k<ws.length
  ·have Te:=HH.out.later HR.out.below;obtain ⟨g,c',e,hr⟩:=Az Te.wt HH.out.fit eP;simp only[cE,nY] at e;obtain ⟨rfl,rfl⟩:=e;have HX:=HH.out.fit.at k eP;have HS:Hid (∀(w1:World) (v:Value),Below (wr.alloc (.cells (dy ws[k]).toArray 125)).heap.size (wr.alloc (.cells (dy ws[k]).toArray 125)) w1->w1.ownsRow (wr.alloc (.cells (dy ws[k]).toArray 125)).heap.size 5 1 v 64 (U8 ws[k].b)->Tel w ((w1.setCell ⟨w.heap.size,k*2,none⟩ (.int .i64 (ws[k].s:Int))).setCell ⟨w.heap.size,k*2+1,none⟩ v) ws (k+1) (vs++[v])) :=
    fun w1 v hb ho=>(HR.out.later (ag wr _)).step hb eP ho
   have HB0:Hid (pJ (wr.alloc (.cells (dy ws[k]).toArray 125)) w.heap.size 117 (ws.length*2)):=(HR.out.later (ag wr _)).bC;generalize ws[k]=X at *;have t1:(wr.alloc (.cells (dy X).toArray 125)).cell? ⟨wr.heap.size,0,none⟩=some (.int .i64 (X.s:Int)):=by
    rw[aq _ _ _ _ 125 (0,0) (aG wr _)];rfl
   have t2:(wr.alloc (.cells (dy X).toArray 125)).rangeAt wr.heap.size 1 (U8 X.b):=rC wr _ _ 1 125 (uG X);have nV:(wr.alloc (.cells (dy X).toArray 125)).heap.size=wr.heap.size+1:=by simp
   have aqS:w.heap.size<wr.heap.size:=HR.out.bC.lt;have Ap:=zH HX.2.1;clear HR Te h1;go_wp2_with (first | (refine pE (by rfl) 125 (.tmp 22) (by rfl) g (k*65) (by rfl) (dy X) _ hr underlying125 rfl (by rw[AX];simp[dy,HX.2.1]) ?_) | (refine mj (by rfl) (by rfl) ?_) | (refine mh (by rfl) (.tmp 5) (.tmp 23) (by rfl) X (by rfl) (by rfl) HX.2.1 ?_) | fail)
   simp only[Act.put];obtain ⟨W,hW⟩:=zE (wr.alloc (.cells (dy X).toArray 125));rw[hW] at t1 t2 HS HB0 nV ⊢;clear hW hr HX;have i1:(k:Int)<(ws.length:Int):=by omega
   have i0':(0:Int)<=(k:Int):=by omega
   have kG:¬wr.heap.size=w.heap.size:=by omega
   go_region_held3 (fun w'=>w'.cell? ⟨wr.heap.size,0,none⟩=some (.int .i64 (X.s:Int))/\w'.rangeAt wr.heap.size 1 (U8 X.b)) (first | exact⟨t1,t2⟩ | exact⟨a1,a2⟩ | exact⟨b1,b2⟩) (first | (go_at_call 54;refine (JT wr.heap.size 1 64 64 X.b _ Ap.out (by omega) ?_).mono ?_;exact (‹_/\World.rangeAt _ _ _ _›).2;rintro e wa ⟨v1,rfl,dR,hba⟩;have aay:Below W.heap.size W wa:=⟨hba.os,hba.tape,hba.output,hba.size,hba.block⟩;obtain ⟨pv1,cv1,rfl,_⟩:=iE dR;have a1:wa.cell? ⟨wr.heap.size,0,none⟩=some (.int .i64 (X.s:Int)):=(aay.cell (p:=⟨wr.heap.size,0,none⟩) (by show wr.heap.size<W.heap.size;omega)).trans t1;have a2:=gL t2 (aay.block wr.heap.size (by omega));have gj:=HB0.out.same (aay.block w.heap.size HB0.out.lt);obtain ⟨u0,s0⟩:=gj.some (k*2) (by omega);obtain ⟨u1,s1⟩:=gj.some (k*2+1) (by omega);have f0:=gj.free (k*2);have f1:=gj.free (k*2+1);have HN:=HS.out wa _ aay dR;have b1:((wa.setCell ⟨w.heap.size,k*2,none⟩ (.int .i64 (X.s:Int))).setCell ⟨w.heap.size,k*2+1,none⟩ (.slice pv1 64 cv1)).cell? ⟨wr.heap.size,0,none⟩=some (.int .i64 (X.s:Int)):=by { rw[World.cell?_setCell_far _ _ _ _ (by show w.heap.size≠wr.heap.size;omega),World.cell?_setCell_far _ _ _ _ (by show w.heap.size≠wr.heap.size;omega)];exact a1 };have b2:((wa.setCell ⟨w.heap.size,k*2,none⟩ (.int .i64 (X.s:Int))).setCell ⟨w.heap.size,k*2+1,none⟩ (.slice pv1 64 cv1)).rangeAt wr.heap.size 1 (U8 X.b):=gL a2 ((cJ _ _ _ _ (by show wr.heap.size≠w.heap.size;omega)).trans (cJ _ _ _ _ (by show wr.heap.size≠w.heap.size;omega)))))
   clear b1 b2 a1 a2 s0 s1 f0 f1 gj HS t1 t2;have HN2:=zH HN;clear HN;go_wp2;go_roundw
   case rel=>exact⟨k+1,_,by go_num,HN2.out⟩
   case measure=>simp[intOf];omega
  ·obtain rfl:k=ws.length:=by omega
   have HF:Hid (Told wr w.heap.size w.heap.size ws vs/\Below w.heap.size w wr) :=
    ⟨⟨HR.out.len,HR.out.bC,az _,fun i hi=>HR.out.Qg i hi hi,HR.out.data,fun i h1 h2=>eH (HR.out.each i h1 h2) (di _),HR.out.apart⟩,HR.out.below⟩
   clear HR;go_wp2;go_ret;exact⟨_,vs,rfl,HF.out.1,HF.out.2⟩
