import Derived.Test.YtcdjepkhdjpjcaaGreatDoorV04
set_option maxHeartbeats 20000000
set_option maxRecDepth 100000
namespace Go.Proofs.YtcdjepkhdjpjcaaGreatDoor.R
open Go.Proofs.Tryz
open Go.RowKit
theorem size31:(prog.info? 180).map (·.size)=some 36:=by kernel_rfl
theorem size37:(prog.info? 226).map (·.size)=some 36:=by kernel_rfl
theorem size24:(prog.info? 51).map (·.size)=some 32:=by kernel_rfl
def rcells (r:Rec):List Value:=.int .i64 r.kind :: .int .u64 r.pos :: .int .i64 r.block :: (U8 r.val++[.int .i64 r.images])
theorem rcells_len (r:Rec)(h:r.val.length=32):(rcells r).length=36:=by simp[rcells,h]
theorem rcells_val (r:Rec)(j:Nat)(hj:j<r.val.length):(rcells r)[3+j]?=some (.int .u8 r.val[j]):=by
 rw[rcells,show 3+j=j+1+1+1 by omega,List.getElem?_cons_succ,List.getElem?_cons_succ,List.getElem?_cons_succ,List.getElem?_append_left (by simpa using hj)]
 simp[List.getElem?_eq_getElem hj]
theorem rcells_35 (r:Rec)(h:r.val.length=32):(rcells r)[35]?=some (.int .i64 r.images):=by
 rw[rcells,List.getElem?_cons_succ,List.getElem?_cons_succ,List.getElem?_cons_succ,List.getElem?_append_right (by simp[h])]
 simp[h]
def RAt (t:TypeId)(w:World)(g:Nat)(r:Rec):Prop:=w.heap[g]?=some (.cells (rcells r).toArray t (0,0))
theorem RAt.lt {t:TypeId}{w:World}{g:Nat}{r:Rec}(h:RAt t w g r):g<w.heap.size:=(Array.getElem?_eq_some_iff.1 h).1
theorem RAt.later {t:TypeId}{w w':World}{g:Nat}{r:Rec}(h:RAt t w g r)(hb:Below w.heap.size w w'):RAt t w' g r:=(hb.block g h.lt).trans h
theorem RAt.below {t:TypeId}{B:Nat}{w w':World}{g:Nat}{r:Rec}(h:RAt t w g r)(hb:Below B w w')(hg:g<B):RAt t w' g r:=(hb.block g hg).trans h
theorem RAt.new (t:TypeId)(w:World)(r:Rec):RAt t (w.alloc (.cells (rcells r).toArray t)) w.heap.size r:=heap_alloc_new w _
theorem RAt.drew {t:TypeId}{w:World}{g:Nat}{r:Rec}(h:RAt t w g r):RAt t w.drew g r:=h
theorem RAt.cell {t:TypeId}{w:World}{g:Nat}{r:Rec}(h:RAt t w g r)(j:Nat):w.cell? ⟨g,j,none⟩=(rcells r)[j]?:=by
 rw[cell_of_row w g j (rcells r).toArray t (0,0) h];simp
theorem RAt.c0 {t:TypeId}{w:World}{g:Nat}{r:Rec}(h:RAt t w g r):w.cell? ⟨g,0,none⟩=some (.int .i64 r.kind):=h.cell 0
theorem RAt.c1 {t:TypeId}{w:World}{g:Nat}{r:Rec}(h:RAt t w g r):w.cell? ⟨g,1,none⟩=some (.int .u64 r.pos):=h.cell 1
theorem RAt.c2 {t:TypeId}{w:World}{g:Nat}{r:Rec}(h:RAt t w g r):w.cell? ⟨g,2,none⟩=some (.int .i64 r.block):=h.cell 2
theorem RAt.c35 {t:TypeId}{w:World}{g:Nat}{r:Rec}(h:RAt t w g r)(hv:r.val.length=32):w.cell? ⟨g,35,none⟩=some (.int .i64 r.images):=(h.cell 35).trans (rcells_35 r hv)
theorem RAt.range {t:TypeId}{w:World}{g:Nat}{r:Rec}(h:RAt t w g r):w.rangeAt g 0 (rcells r):=fun j v hv=>by
 rw[Nat.zero_add,h.cell j];exact hv
theorem RAt.vrange {t:TypeId}{w:World}{g:Nat}{r:Rec}(h:RAt t w g r):w.rangeAt g 3 (U8 r.val):=fun j v hv=>by
 have hj:j<r.val.length:=by simpa using (List.getElem?_eq_some_iff.1 hv).1
 rw[h.cell (3+j),rcells_val r j hj,← hv]
 simp[List.getElem?_eq_getElem hj]
theorem RAt.load31 {t:TypeId}{w:World}{g:Nat}{r:Rec}(h:RAt t w g r)(hv:r.val.length=32):(Instr.loadAt 180 (.pointer (some ⟨g,0,none⟩))).run prog w=.ok (.agg (rcells r).toArray) w :=
 run_loadAt_mid w g 0 180 (rcells r) _ h.range underlying180 rfl (by rw[size31,rcells_len r hv])
theorem RAt.load37 {t:TypeId}{w:World}{g:Nat}{r:Rec}(h:RAt t w g r)(hv:r.val.length=32):(Instr.loadAt 226 (.pointer (some ⟨g,0,none⟩))).run prog w=.ok (.agg (rcells r).toArray) w :=
 run_loadAt_mid w g 0 226 (rcells r) _ h.range underlying226 rfl (by rw[size37,rcells_len r hv])
theorem RAt.load24 {t:TypeId}{w:World}{g:Nat}{r:Rec}(h:RAt t w g r)(hv:r.val.length=32):(Instr.loadAt 51 (.pointer (some ⟨g,3,none⟩))).run prog w=.ok (.agg (U8 r.val).toArray) w :=
 run_loadAt_mid w g 3 51 (U8 r.val) _ h.vrange underlying51 rfl (by rw[size24,U8_length,hv])
def pl:List (Nat × Nat):=[(0,1),(1,1),(2,1),(3,32),(35,1)]
theorem places31:placesOf prog 180=some pl:=by kernel_rfl
theorem places37:placesOf prog 226=some pl:=by kernel_rfl
theorem zero31:(prog.info? 180).bind (·.zero)=some (.agg (rcells rec0).toArray):=by kernel_rfl
theorem zero37:(prog.info? 226).bind (·.zero)=some (.agg (rcells rec0).toArray):=by kernel_rfl
theorem fill_step (off n:Nat)(i:Nat)(hp:pl.toArray[i]?=some (off,n))(v:Value)(vs cs:List Value)(hv:v.cells=vs.toArray)(hn:vs.length=n)(hl:off+n≤cs.length)(rest:List (Nat × Value)) :
  Instr.fill (pl.toArray[·]?) cs.toArray ((i,v) :: rest)=Instr.fill (pl.toArray[·]?) (cs.take off++vs++cs.drop (off+vs.length)).toArray rest:=by
 have a0:=part_fill off vs cs (by omega)
 have a1:vs.toArray.zipIdx.foldl (fun cs x=>match x with | (c,j)=>cs.setIfInBounds (off+j) c) cs.toArray=(cs.take off++vs++cs.drop (off+vs.length)).toArray:=a0
 simp only[Instr.fill]
 rw[hp]
 dsimp only
 rw[hv]
 simp only[List.size_toArray]
 rw[if_neg (by simp[hn];omega),a1]
theorem fill_k (r:Rec)(h:r.val.length=32)(k:Int)(rest:List (Nat × Value)):Instr.fill (pl.toArray[·]?) (rcells r).toArray ((0,.int .i64 k) :: rest)=Instr.fill (pl.toArray[·]?) (rcells ⟨k,r.pos,r.block,r.val,r.images⟩).toArray rest :=
 fill_step 0 1 0 rfl _ [.int .i64 k] _ rfl rfl (by rw[rcells_len r h];omega) rest
theorem fill_b (r:Rec)(h:r.val.length=32)(k:Int)(rest:List (Nat × Value)):Instr.fill (pl.toArray[·]?) (rcells r).toArray ((2,.int .i64 k) :: rest)=Instr.fill (pl.toArray[·]?) (rcells ⟨r.kind,r.pos,k,r.val,r.images⟩).toArray rest :=
 fill_step 2 1 2 rfl _ [.int .i64 k] _ rfl rfl (by rw[rcells_len r h];omega) rest
theorem fill_v (r:Rec)(h:r.val.length=32)(v:List Int)(hv:v.length=32)(rest:List (Nat × Value)):Instr.fill (pl.toArray[·]?) (rcells r).toArray ((3,.agg (U8 v).toArray) :: rest)=Instr.fill (pl.toArray[·]?) (rcells ⟨r.kind,r.pos,r.block,v,r.images⟩).toArray rest:=by
 rw[fill_step 3 32 3 rfl _ (U8 v) _ rfl (by rw[U8_length,hv]) (by rw[rcells_len r h];omega) rest]
 congr 2
 rw[U8_length,hv]
 simp only[rcells,List.take_succ_cons,List.take_zero,List.cons_append,List.nil_append,List.drop_succ_cons]
 rw[List.drop_append,U8_length,h,List.drop_of_length_le (by rw[U8_length,h];omega)]
 rfl
theorem fill_i (r:Rec)(h:r.val.length=32)(k:Int)(rest:List (Nat × Value)):Instr.fill (pl.toArray[·]?) (rcells r).toArray ((4,.int .i64 k) :: rest)=Instr.fill (pl.toArray[·]?) (rcells ⟨r.kind,r.pos,r.block,r.val,k⟩).toArray rest:=by
 rw[fill_step 35 1 4 rfl _ [.int .i64 k] _ rfl rfl (by rw[rcells_len r h];omega) rest]
 congr 2
 simp only[rcells,List.take_succ_cons,List.cons_append,List.drop_succ_cons,List.length_singleton]
 rw[List.take_append,U8_length,h,List.take_of_length_le (by rw[U8_length,h];omega),List.drop_of_length_le (by simp[h])]
 simp
theorem fill_end (r:Rec):Instr.fill (pl.toArray[·]?) (rcells r).toArray []=some (rcells r).toArray:=rfl
theorem build31 (w:World)(parts:Array (Nat × Value))(r:Rec)(h:Instr.fill (pl.toArray[·]?) (rcells rec0).toArray parts.toList=some (rcells r).toArray):(Instr.build 180 parts).run prog w=.ok (.agg (rcells r).toArray) w :=
 run_build w 180 _ _ ((built_of 180 _ _ _ places31 zero31).trans h)
theorem build37 (w:World)(parts:Array (Nat × Value))(r:Rec)(h:Instr.fill (pl.toArray[·]?) (rcells rec0).toArray parts.toList=some (rcells r).toArray):(Instr.build 226 parts).run prog w=.ok (.agg (rcells r).toArray) w :=
 run_build w 226 _ _ ((built_of 226 _ _ _ places37 zero37).trans h)
theorem rec0_len:rec0.val.length=32:=zs_len 32
theorem sizeOf5 (w:World):(sizeOf 5).run prog w=.ok 1 w:=by
 cases hi:prog.info? 5 with
 | none=>have:=size5;simp[hi] at this
 | some i =>
  have h:=size5
  simp only[hi,Option.map_some,Option.some.injEq] at h
  simp[sizeOf,typeInfo,hi,h]
theorem all_range_eq:∀(xs ys:List Int),xs.length=ys.length→((List.range xs.length).all fun i=>xs.getD i 0 == ys.getD i 0)=decide (xs=ys)
 | [],[],_=>rfl
 | x :: xs,y :: ys,h=>by
  have ih:=all_range_eq xs ys (by simpa using h)
  rw[List.length_cons,List.range_succ_eq_map,List.all_cons,List.all_map]
  simp only[List.getD_cons_zero,Function.comp_def,List.getD_cons_succ,ih]
  rw[Bool.eq_iff_iff]
  simp
 | [],_ :: _,h=>by simp at h
 | _ :: _,[],h=>by simp at h
theorem equal24 (w:World)(d:Nat)(xs ys:List Int)(hx:xs.length=32)(hy:ys.length=32) :
  (Op.equalIn (d+2) 51 (.agg (U8 xs).toArray) (.agg (U8 ys).toArray)).run prog w=.ok (decide (xs=ys)) w:=by
 rw[← all_range_eq xs ys (hx.trans hy.symm),hx,List.range_eq_range',Op.equalIn]
 simp only[Sem.run_bind,run_underlying underlying51,Result.andThen_ok,sizeOf5,Std.Legacy.Range.forIn_eq_forIn_range',Std.Legacy.Range.size,Nat.sub_zero,Nat.add_sub_cancel,Nat.div_one]
 have hl:∀i∈List.range' 0 32 1,i<32:=fun i hi=>by simpa using (List.mem_range'_1.1 hi).2
 generalize List.range' 0 32 1=l at hl ⊢
 induction l with
 | nil=>simp
 | cons i l ih =>
  have hi:i<32:=hl i (by simp)
  have px:(part 5 (U8 xs).toArray (i*1)).run prog w=.ok (.int .u8 (xs.getD i 0)) w:=by
   simp[part,isAgg,run_underlying underlying5,List.getD,List.getElem?_eq_getElem (show i<xs.length by omega)]
  have py:(part 5 (U8 ys).toArray (i*1)).run prog w=.ok (.int .u8 (ys.getD i 0)) w:=by
   simp[part,isAgg,run_underlying underlying5,List.getD,List.getElem?_eq_getElem (show i<ys.length by omega)]
  have pe:(Op.equalIn (d+1) 5 (.int .u8 (xs.getD i 0)) (.int .u8 (ys.getD i 0))).run prog w=.ok (xs.getD i 0 == ys.getD i 0) w:=run_equalIn_int w d 5 .u8 .u8 _ _ underlying5
  simp only[List.forIn_cons,Sem.run_bind,px,py,pe,Result.andThen_ok,List.all_cons]
  cases hb:(xs.getD i 0 == ys.getD i 0)
  ·simp
  ·simp only[Bool.not_true,Bool.false_eq_true,if_false,Sem.run_pure,Result.andThen_ok,Bool.true_and]
   exact ih fun j hj=>hl j (by simp[hj])
theorem eql24 (w:World)(xs ys:List Int)(hx:xs.length=32)(hy:ys.length=32) :
  (binOp .eql 51 (.agg (U8 xs).toArray) (.agg (U8 ys).toArray)).run prog w=.ok (.bool (decide (xs=ys))) w:=by
 rw[run_eql_struct,equal24 w 9998 xs ys hx hy]
 rfl
theorem eqg24:prog.eqGuardType prog.depth 51=false:=by kernel_rfl
theorem build24 (w:World):(Instr.build 51 #[]).run prog w=.ok (.agg (U8 (zs 32)).toArray) w:=run_build w 51 _ _ (by kernel_rfl)
theorem image_any (r:Rec)(hv:r.val.length=32)(w:World) :
  Calls prog 222 #[.agg (rcells r).toArray] w fun e w'=>e=.returned (.bool (imageB r))∧Below w.heap.size w w':=by
 have hA:=RAt.new 180 w r
 have c0:=hA.c0
 have c2:=hA.c2
 have c4:=hA.c35 hv
 have HB:Hid (Below w.heap.size w (w.alloc (.cells (rcells r).toArray 180))):=below_alloc w _
 clear hA hv
 go_enter func222,ntmps222
 go_wp2
 all_goals go_ret
 all_goals (refine⟨?_,HB.out⟩)
 all_goals (clear c0 c2 c4;unfold imageB;simp_all <;> (intros;omega))
theorem commit_any (r:Rec)(hv:r.val.length=32)(w:World) :
  Calls prog 223 #[.agg (rcells r).toArray] w fun e w'=>e=.returned (.bool (commitB r))∧Below w.heap.size w w':=by
 have hA:=RAt.new 180 w r
 have c0:=hA.c0
 have c2:=hA.c2
 have c4:=hA.c35 hv
 have L3:Hid (_):=hA.load24 hv
 have B3:Hid (_):=build24 (w.alloc (.cells (rcells r).toArray 180))
 have Q3:Hid (_):=eql24 (w.alloc (.cells (rcells r).toArray 180)) r.val (zs 32) hv (zs_len 32)
 have HB:Hid (Below w.heap.size w (w.alloc (.cells (rcells r).toArray 180))):=below_alloc w _
 clear hA hv
 go_enter func223,ntmps223
 go_wp2_with (first | (refine wpList_load_is (by rfl) 51 rfl rfl L3.out ?_) | (refine wpList_build_is (by rfl) 51 rfl rfl B3.out ?_) | (refine wpList_eql_is (by rfl) 51 rfl rfl rfl eqg24 Q3.out ?_))
 all_goals go_ret
 all_goals (refine⟨?_,HB.out⟩)
 all_goals (clear c0 c2 c4 L3 B3 Q3;unfold commitB;simp_all <;> (intros;omega))
theorem chk_image (r:Rec)(hp:r.pos≤4611686018427387904)(h:imageB r=true):chk r=0:=by
 unfold chk may;rw[h,decide_eq_true hp];rfl
theorem chk_commit (r:Rec)(hp:r.pos≤4611686018427387904)(h:commitB r=true):chk r=0:=by
 unfold chk may;rw[h,decide_eq_true hp];simp
theorem chk_none (r:Rec)(h:imageB r=false)(h2:commitB r=false):chk r=60:=by
 unfold chk may;rw[h,h2];simp
theorem chk_pos (r:Rec)(hp:¬r.pos≤4611686018427387904):chk r=60:=by
 unfold chk may;rw[decide_eq_false hp];rfl
theorem check_any (r:Rec)(hv:r.val.length=32)(w:World) :
  Calls prog 201 #[.agg (rcells r).toArray] w fun e w'=>e=.returned (.int .i64 (chk r))∧Below w.heap.size w w':=by
 have hA:=RAt.new 180 w r
 have c1:=hA.c1
 have L1:Hid (_):=hA.load31 hv
 have HA:Hid (RAt 180 (w.alloc (.cells (rcells r).toArray 180)) w.heap.size r):=hA
 have HB:Hid (Below w.heap.size w (w.alloc (.cells (rcells r).toArray 180))):=below_alloc w _
 have HV:Hid (r.val.length=32):=hv
 clear hA hv
 go_enter func201,ntmps201
 by_cases hp:r.pos≤4611686018427387904
 ·have hp':¬4611686018427387904<r.pos:=by omega
  go_wp2_with (refine wpList_load_is (by rfl) 180 rfl rfl L1.out ?_)
  refine (image_any r HV.out _).mono ?_
  rintro e w1 ⟨rfl,b1⟩
  have HA1:Hid (RAt 180 w1 w.heap.size r):=HA.out.later b1
  have HB1:Hid (Below w.heap.size w w1):=below_then HB.out b1
  have L2:Hid (_):=HA1.out.load31 HV.out
  clear c1 L1 b1 HA HB
  cases hi:imageB r with
  | true =>
   have HC:Hid (chk r=0):=chk_image r hp hi
   go_wp2_with fail
   go_ret
   exact⟨by rw[HC.out];rfl,HB1.out⟩
  | false =>
   go_wp2_with (refine wpList_load_is (by rfl) 180 rfl rfl L2.out ?_)
   refine (commit_any r HV.out _).mono ?_
   rintro e w2 ⟨rfl,b2⟩
   have HB2:Hid (Below w.heap.size w w2):=below_then HB1.out b2
   clear b2 L2
   cases hc:commitB r with
   | true =>
    have HC:Hid (chk r=0):=chk_commit r hp hc
    go_wp2_with fail
    go_ret
    exact⟨by rw[HC.out];rfl,HB2.out⟩
   | false =>
    have HC:Hid (chk r=60):=chk_none r hi hc
    go_wp2_with fail
    go_ret
    exact⟨by rw[HC.out];rfl,HB2.out⟩
 ·have HC:Hid (chk r=60):=chk_pos r hp
  have hp':4611686018427387904<r.pos:=by omega
  go_wp2_with fail
  go_ret
  exact⟨by rw[HC.out];rfl,HB.out⟩
theorem number_rec (r:Rec)(hv:r.val.length=32)(hm:may r=true)(w:World) :
  Calls prog 203 #[.agg (rcells r).toArray] w fun e w'=>e=.returned (.int .u64 (numS r))∧Below w.heap.size w w':=by
 have hA:=RAt.new 180 w r
 have c0:=hA.c0
 have c2:=hA.c2
 have c4:=hA.c35 hv
 have HB:Hid (Below w.heap.size w (w.alloc (.cells (rcells r).toArray 180))):=below_alloc w _
 have hn:=numS_bd r hm
 clear hA hv
 by_cases hk:r.kind=1
 ·have e:numS r=r.block:=by unfold numS;rw[if_pos hk]
  rw[e] at hn ⊢
  obtain ⟨h0,h1⟩:=hn
  clear hm e
  go_enter func203,ntmps203
  go_wp2
  go_ret
  exact⟨rfl,HB.out⟩
 ·have e:numS r=r.images:=by unfold numS;rw[if_neg hk]
  rw[e] at hn ⊢
  obtain ⟨h0,h1⟩:=hn
  clear hm e
  go_enter func203,ntmps203
  go_wp2
  go_ret
  exact⟨rfl,HB.out⟩
theorem rput_any (n:Int)(k:Nat)(w:World)(hn0:0≤n)(hk:1≤k∧k≤8)(hn:n / 256 ^ k=0) :
  Calls prog 202 #[.int .u64 n,.int .i64 k] w fun e w'=>∃p c,e=.returned (.slice p k c)∧Made w w' p k c (digits k n):=by
 go_enter func202,ntmps202
 go_wp2_with fail
 refine (put_ok n k w hn0 hk hn).mono ?_
 rintro e w1 ⟨v,rfl,ho,hb⟩
 obtain ⟨p,c,rfl,hm⟩:=made_of ho (digits_bytes k n) hb
 clear ho hb hn
 go_wp2_with fail
 go_ret
 exact⟨p,c,rfl,hm⟩
theorem RAt.vin {t:TypeId}{w:World}{g:Nat}{r:Rec}(h:RAt t w g r)(hw:r.Wf):BIn w (some ⟨g,3,none⟩) 32 r.val:=by
 refine⟨hw.len,hw.byte,fun _=>⟨g,3,rfl,fun i hi=>?_⟩⟩
 have hi':i<r.val.length:=by rw[hw.len];exact hi
 rw[h.cell (3+i),rcells_val r i hi']
 simp[List.getD,List.getElem?_eq_getElem hi']
theorem join_new {w:World}{vs:List Value}{ls:List (List Int)}(h:SIns w vs ls)(n:Nat)(hn:vs.length=n)(hb:ls.flatten.length≤100000)(hn2:n≤100) :
  Calls prog 172 #[.slice (some ⟨w.heap.size,0,none⟩) n n] (w.alloc (.cells vs.toArray 107)) fun e w'=>∃p c,e=.returned (.slice p ls.flatten.length c)∧Made w w' p ls.flatten.length c ls.flatten:=by
 have hB:∀l∈ls,Bytes l:=by
  intro l hl
  obtain ⟨i,hi,rfl⟩:=List.getElem_of_mem hl
  obtain ⟨_,_,_,_,h1,_⟩:=h.at i (by rw[← h.len];exact hi) hi
  exact h1.byte
 refine (join_any _ n n vs ls _ (pin_new h n hn) (by omega) (by omega)).mono ?_
 rintro e w' ⟨v,rfl,ho,hb2⟩
 exact (made_of (own_mono ho (by simp)) (Bytes.flatten hB) (below_of_alloc hb2)).elim fun p ⟨c,e,m⟩=>⟨p,c,by rw[e],m⟩
theorem dig1 (k:Int)(h0:0≤k)(h1:k<256):digits 1 k=[k]:=by
 simp only[digits];rw[Int.emod_eq_of_lt h0 h1]
theorem div_zero (n m:Int)(h0:0≤n)(h1:n<m):n / m=0:=Int.ediv_eq_zero_of_lt h0 h1
theorem div1 (n:Int)(h0:0≤n)(h1:n<256):n / 256 ^ 1=0:=div_zero _ _ h0 (by rw[show (256:Int) ^ 1=256 by decide];omega)
theorem div8 (n:Int)(h0:0≤n)(h1:n≤18446744073709551615):n / 256 ^ 8=0:=div_zero _ _ h0 (by rw[show (256:Int) ^ 8=18446744073709551616 by decide];omega)
theorem div4 (n:Int)(h0:0≤n)(h1:n<4294967296):n / 256 ^ 4=0:=div_zero _ _ h0 (by rw[show (256:Int) ^ 4=4294967296 by decide];omega)
theorem chk_yes (r:Rec)(h:may r=true):chk r=0:=by unfold chk;rw[if_pos h]
theorem encode_good (r:Rec)(hw:r.Wf)(hm:may r=true)(w:World)(ht:Half w) :
  Calls prog 158 #[.agg (rcells r).toArray] w fun e w'=>∃p c,e=.returned (.tuple #[.slice p 64 c,.int .i64 0])∧Made w w' p 64 c (encS r):=by
 have HW:Hid (r.Wf):=hw
 have HM:Hid (may r=true):=hm
 have L1:Hid (_):=(RAt.new 180 w r).load31 hw.len
 have hc:=chk_yes r hm
 have HT:Hid (Half w):=ht
 have HN:Hid (0≤numS r∧numS r<64):=numS_bd r hm
 have HK:Hid (0≤r.kind∧r.kind<256):=by have:=may_kind hm;exact⟨by omega,by omega⟩
 have HP:Hid (0≤r.pos∧r.pos≤18446744073709551615):=⟨hw.p0,hw.p1⟩
 go_enter func158,ntmps158
 go_wp2_with (refine wpList_load_is (by rfl) 180 rfl rfl L1.out ?_)
 refine (check_any r hw.len _).mono ?_
 rintro e w1 ⟨rfl,b1⟩
 rw[hc]
 have HB1:Hid (Below w.heap.size w w1):=below_of_alloc b1
 have HA1:Hid (RAt 180 w1 w.heap.size r):=(RAt.new 180 w r).later b1
 clear b1 L1 hm hc hw ht
 go_wp2_with fail
 have k0:=HK.out.1
 have k1:=HK.out.2
 have ks:IntKind.u64.wrap r.kind=r.kind:=by rw[IntKind.wrap_u64];omega
 refine wp_region_noPanic ?_
 refine wp_region_held_drew (S:=fun w'=>RAt 180 w' w.heap.size r) (by kernel_rfl) HA1.out.drew (fun hHeld=>?_)
 refine tk 1 hHeld ?_
 refine tkl 2 hHeld (fun _ hSw=>RAt.c0 hSw) ?_
 refine tk 3 hHeld ?_
 refine tk 6 hHeld ?_
 refine tkl 7 hHeld (fun _ hSw=>RAt.c1 hSw) ?_
 refine wpAnyH_take (i:=9) (v:=_) (by simp;rfl) (by kernel_rfl) (by kernel_rfl) (by kernel_rfl) (fun _ _ _ h=>h) (yieldsIf_load_mid (by rfl) 180 (.tmp 1) rfl w.heap.size 0 rfl (rcells r) _ (fun _ h=>RAt.range h) underlying180 rfl (by rw[size31,rcells_len r HW.out.len])) hHeld ?_
 simp only[Act.put,zA,zB,zC]
 refine tk 12 hHeld ?_
 refine tk 13 hHeld ?_
 refine wpAnyH_ready (rs:=[0]) (by kernel_rfl) (by simp) ?_
 refine AllReadyH.cons (by simp;rfl) (fun Kc hKc=>?_) AllReadyH.nil
 go_simp
 refine (rput_any 87 1 w1.drew (by omega) (by omega) (by decide)).mono ?_
 rintro e w2 ⟨p2,c2,rfl,m2⟩
 have HB2:Hid (Below w1.heap.size w1 w2):=below_undrew m2.below
 have HS2:Hid (SIn w2 (.slice p2 1 c2) [87]):=m2.sin
 have HA2:Hid (RAt 180 w2 w.heap.size r):=HA1.out.later HB2.out
 clear m2
 refine hKc.out _ _ HA2.out (fun hHeld=>?_)
 clear hKc Kc
 refine wpAnyH_ready (rs:=[4]) (by kernel_rfl) (by simp) ?_
 refine AllReadyH.cons (by simp;rfl) (fun Kc hKc=>?_) AllReadyH.nil
 go_simp
 refine (rput_any r.kind 1 w2 k0 (by omega) (div1 _ k0 k1)).mono ?_
 rintro e w3 ⟨p3,c3,rfl,m3⟩
 have HB3:Hid (Below w2.heap.size w2 w3):=m3.below
 have HS3:Hid (SIn w3 (.slice p3 1 c3) [r.kind]):=by have:=m3.sin;rw[dig1 r.kind k0 k1] at this;exact this
 have HA3:Hid (RAt 180 w3 w.heap.size r):=HA2.out.later HB3.out
 clear m3
 refine hKc.out _ _ HA3.out (fun hHeld=>?_)
 clear hKc Kc
 refine wpAnyH_ready (rs:=[5]) (by kernel_rfl) (by simp) ?_
 refine AllReadyH.cons (by simp;rfl) (fun Kc hKc=>?_) AllReadyH.nil
 go_simp
 refine (rput_any 0 2 w3 (by omega) (by omega) (by decide)).mono ?_
 rintro e w4 ⟨p4,c4,rfl,m4⟩
 have HB4:Hid (Below w3.heap.size w3 w4):=m4.below
 have HS4:Hid (SIn w4 (.slice p4 2 c4) [0,0]):=m4.sin
 have HA4:Hid (RAt 180 w4 w.heap.size r):=HA3.out.later HB4.out
 clear m4
 refine hKc.out _ _ HA4.out (fun hHeld=>?_)
 clear hKc Kc
 refine wpAnyH_ready (rs:=[8]) (by kernel_rfl) (by simp) ?_
 refine AllReadyH.cons (by simp;rfl) (fun Kc hKc=>?_) AllReadyH.nil
 go_simp
 refine (rput_any r.pos 8 w4 HP.out.1 (by omega) (div8 _ HP.out.1 HP.out.2)).mono ?_
 rintro e w5 ⟨p5,c5,rfl,m5⟩
 have HB5:Hid (Below w4.heap.size w4 w5):=m5.below
 have HS5:Hid (SIn w5 (.slice p5 8 c5) (digits 8 r.pos)):=m5.sin
 have HA5:Hid (RAt 180 w5 w.heap.size r):=HA4.out.later HB5.out
 clear m5
 refine hKc.out _ _ HA5.out (fun hHeld=>?_)
 clear hKc Kc
 refine wpAnyH_ready (rs:=[10]) (by kernel_rfl) (by simp) ?_
 refine AllReadyH.cons (by simp;rfl) (fun Kc hKc=>?_) AllReadyH.nil
 go_simp
 refine (number_rec r HW.out.len HM.out w5).mono ?_
 rintro e w6 ⟨rfl,b6⟩
 have HB6:Hid (Below w5.heap.size w5 w6):=b6
 have HA6:Hid (RAt 180 w6 w.heap.size r):=HA5.out.later HB6.out
 clear b6
 refine hKc.out _ _ HA6.out (fun hHeld=>?_)
 clear hKc Kc
 refine wpAnyH_ready (rs:=[11]) (by kernel_rfl) (by simp) ?_
 refine AllReadyH.cons (by simp;rfl) (fun Kc hKc=>?_) AllReadyH.nil
 go_simp
 refine (rput_any (numS r) 4 w6 HN.out.1 (by omega) (div4 _ HN.out.1 (by have:=HN.out.2;omega))).mono ?_
 rintro e w7 ⟨p7,c7,rfl,m7⟩
 have HB7:Hid (Below w6.heap.size w6 w7):=m7.below
 have HS7:Hid (SIn w7 (.slice p7 4 c7) (digits 4 (numS r))):=m7.sin
 have HA7:Hid (RAt 180 w7 w.heap.size r):=HA6.out.later HB7.out
 clear m7
 refine hKc.out _ _ HA7.out (fun hHeld=>?_)
 clear hKc Kc
 have B67:=HB7.out
 have B57:=below_then HB6.out B67
 have B47:=below_then HB5.out B57
 have B37:=below_then HB4.out B47
 have B27:=below_then HB3.out B37
 have B17:=below_then HB2.out B27
 have HSS:Hid (SIns w7 [.slice p2 1 c2,.slice p3 1 c3,.slice p4 2 c4,.slice p5 8 c5,.slice p7 4 c7,.slice (some ⟨w.heap.size,3,none⟩) 32 32] [[87],[r.kind],[0,0],digits 8 r.pos,digits 4 (numS r),r.val]) :=
  ⟨HS2.out.later B27,HS3.out.later B37,HS4.out.later B47,HS5.out.later B57,HS7.out,⟨_,_,_,rfl,HA7.out.vin HW.out,Nat.le_refl _,fun e=>by cases e⟩,trivial⟩
 have HF:Hid ([[87],[r.kind],[0,0],digits 8 r.pos,digits 4 (numS r),r.val].flatten=head r):=by show _=_;simp[head]
 have HFL:Hid ((head r).length=48):=head_len r HW.out.len
 have HBW:Hid (Below w.heap.size w w7):=below_then HB1.out B17
 clear B67 B57 B47 B37 B27 B17 HB2 HB3 HB4 HB5 HB6 HB7 HS2 HS3 HS4 HS5 HS7 HA2 HA3 HA4 HA5 HA6 HB1 HA1
 refine wpAnyH_ready (rs:=[14]) (by kernel_rfl) (by simp) ?_
 refine AllReadyH.cons (by simp;rfl) (fun Kc hKc=>?_) AllReadyH.nil
 go_simp
 refine hKc.out _ _ (HA7.out.later (below_alloc w7 _)) (fun hHeld=>?_)
 clear hKc Kc
 refine wpAnyH_ready (rs:=[15]) (by kernel_rfl) (by simp) ?_
 refine AllReadyH.cons (by simp;rfl) (fun Kc hKc=>?_) AllReadyH.nil
 go_simp
 refine (join_new HSS.out 6 rfl (by rw[HF.out,HFL.out];omega) (by omega)).mono ?_
 rintro e w8 ⟨p8,c8,rfl,m8⟩
 rw[HF.out,HFL.out] at m8
 rw[HF.out,HFL.out]
 have HA8:Hid (RAt 180 w8 w.heap.size r):=HA7.out.later m8.below
 have HB8:Hid (Below w.heap.size w w8):=below_then HBW.out m8.below
 have HR8:Hid (BIn w8 p8 48 (head r)):=m8.read
 clear m8 HSS HF HFL HBW HA7
 refine hKc.out _ _ HA8.out (fun hHeld=>?_)
 clear hKc Kc
 refine tk 16 hHeld ?_
 refine wpAnyH_done (by kernel_rfl) (NoPanic.normal ?_) _
 clear hHeld
 go_wp2_with fail
 refine (pad_ok p8 48 c8 (head r) 60 w8 (by omega) (by omega) HR8.out).mono ?_
 rintro e w9 ⟨v9,rfl,ho9,hb9⟩
 obtain ⟨p9,c9,rfl,m9⟩:=made_of ho9 ((head_bytes r HW.out HM.out).append (zs_bytes 12)) hb9
 have HS9:Hid (SIn w9 (.slice p9 60 c9) (body r)):=m9.sin
 have HB9:Hid (Below w.heap.size w w9):=below_then HB8.out hb9
 have HL9:Hid ((body r).length=60):=body_len r HW.out.len
 clear ho9 hb9 m9 HR8 HB8 HA8
 go_wp2_with fail
 refine (of_new p9 60 c9 (body r) HS9.out (by rw[HL9.out];omega) (HT.out.later HB9.out)).mono ?_
 rintro e w10 ⟨rfl,b10⟩
 have HS10:Hid (SIn w10 (.slice p9 60 c9) (body r)):=HS9.out.later b10
 have HB10:Hid (Below w.heap.size w w10):=below_then HB9.out b10
 have hcl:=crc_lt (body r) (body_bytes r HW.out HM.out)
 have HE:Hid (encS r=[body r,digits 4 ((crc (body r):Nat):Int)].flatten):=by show _=_;simp[encS]
 have HEL:Hid ((encS r).length=64):=encS_len r HW.out.len
 clear b10 HS9 HB9
 generalize crc (body r)=S at *
 go_wp2_with fail
 refine (rput_any (S:Int) 4 w10 (by omega) (by omega) (div4 _ (by omega) (by omega))).mono ?_
 rintro e w11 ⟨p11,c11,rfl,m11⟩
 have HSS:Hid (SIns w11 [.slice p9 60 c9,.slice p11 4 c11] [body r,digits 4 (S:Int)]):=⟨HS10.out.later m11.below,m11.sin,trivial⟩
 have HB11:Hid (Below w.heap.size w w11):=below_then HB10.out m11.below
 clear m11 HS10 HB10
 go_wp2_with fail
 refine (join_new HSS.out 2 rfl (by rw[← HE.out,HEL.out];omega) (by omega)).mono ?_
 rintro e w12 ⟨p12,c12,rfl,m12⟩
 rw[← HE.out,HEL.out] at m12
 rw[← HE.out,HEL.out]
 have HM12:Hid (Made w11 w12 p12 64 c12 (encS r)):=m12
 clear m12 HSS
 go_wp2_with fail
 go_ret2
 exact⟨p12,c12,rfl,own_mono HM12.out.own HB11.out.size,HM12.out.read,HM12.out.le,HM12.out.nil,below_then HB11.out HM12.out.below⟩
end Go.Proofs.YtcdjepkhdjpjcaaGreatDoor.R
namespace Go.Proofs.YtcdjepkhdjpjcaaGreatDoor.R
open Go.RowKit
section
variable {P:Program} {o:Oper} {a:Act} {w w':World} {K:Act→World→Prop} {Q:Exit→Act→World→Prop}
theorem yields_build_is {ops:Array Oper}{S:World→Prop}(hw:Region.wanted o (yielded ops a.tmps)=true)(ty:TypeId){ps:Array (Nat × Operand)}(ho:o.op=.build ty ps){vs:List (Nat × Value)}{v:Value}(hx:ps.toList.map (fun (i,x)=>(i,a.eval x))=vs)(hrun:∀w,(Instr.build ty vs.toArray).run P w=.ok v w):YieldsIf P ops S o v a :=
 .inl ⟨hw,fun w _=>by unfold execOp;simp only[ho];rw[show ps.map (fun (i,x)=>(i,a.eval x))=vs.toArray by rw[← hx,← Array.toList_map]];simp only[Sem.run_bind,hrun w,Result.andThen_ok,Sem.run_pure]⟩
end
end Go.Proofs.YtcdjepkhdjpjcaaGreatDoor.R
namespace Go.Proofs.YtcdjepkhdjpjcaaGreatDoor.G
open Go.Proofs.Tryz
open Go.RowKit
theorem cap_any (n:Int)(w:World) :
  Calls prog 224 #[.int .i64 n] w fun e w'=>e=.returned (.bool (decide (Cap n)))∧w=w':=by
 go_enter func224,ntmps224
 go_wp2
 all_goals go_ret
 all_goals (refine⟨?_,rfl⟩;simp[Cap];omega)
theorem wrap_cap {n:Int}(h:Cap n):IntKind.u64.wrap n=n:=by
 have:=h.1;have:=h.2
 rw[IntKind.wrap_u64]
 omega
theorem mod_cap (p:Int){n:Int}(h:Cap n):0≤p % n∧p % n<64:=by
 have h1:=h.1
 have h2:=h.2
 have h3:=Int.emod_nonneg p (show n≠0 by omega)
 have h4:=Int.emod_lt_of_pos p (show 0<n by omega)
 omega
theorem wrap_mod (p:Int){n:Int}(h:Cap n):wrap64 (p % n)=p % n:=by
 have:=mod_cap p h
 unfold wrap64
 omega
theorem slotOf_any (p n:Int)(hp:0≤p)(hn:Cap n)(w:World) :
  Calls prog 225 #[.int .u64 p,.int .i64 n] w fun e w'=>e=.returned (.int .i64 (p % n))∧w=w':=by
 have h1:=hn.1
 have h2:=hn.2
 have hw:=wrap_cap hn
 have hm:=wrap_mod p hn
 go_enter func225,ntmps225
 go_wp2
 all_goals go_ret
 all_goals (refine⟨?_,rfl⟩)
 all_goals simp[hm]
abbrev pairI (x:Int × Int):Value:=.tuple #[.int .i64 x.1,.int .i64 x.2]
theorem slot_any (p n:Int)(h0:0≤p)(w:World) :
  Calls prog 204 #[.int .u64 p,.int .i64 n] w fun e w'=>e=.returned (pairI (slotS p n))∧w=w':=by
 by_cases hn:Cap n
 ·have hd:=decide_eq_true hn
  by_cases hp:p>4611686018427387968
  ·have hs:Hid (slotS p n=(0,31)):=by show _=_;simp[slotS,hn,hp]
   have hp':4611686018427387968<p:=by omega
   clear hp
   go_enter func204,ntmps204
   go_wp2_with (go_at_call 224;refine (cap_any _ _).mono ?_;rintro e w' ⟨rfl,rfl⟩)
   go_ret2
   exact⟨by rw[hs.out];rfl,rfl⟩
  ·have hs:Hid (slotS p n=(p % n,0)):=by show _=_;simp[slotS,hn,hp]
   have hp':¬4611686018427387968<p:=by omega
   clear hp
   go_enter func204,ntmps204
   go_wp2_with (first | (go_at_call 224;refine (cap_any _ _).mono ?_;rintro e w' ⟨rfl,rfl⟩) | (go_at_call 225;refine (slotOf_any _ _ h0 hn _).mono ?_;rintro e w' ⟨rfl,rfl⟩))
   go_ret2
   exact⟨by rw[hs.out];rfl,rfl⟩
 ·have hd:=decide_eq_false hn
  have hs:Hid (slotS p n=(0,2)):=by show _=_;simp[slotS,hn]
  go_enter func204,ntmps204
  go_wp2_with (go_at_call 224;refine (cap_any _ _).mono ?_;rintro e w' ⟨rfl,rfl⟩)
  go_ret2
  exact⟨by rw[hs.out];rfl,rfl⟩
theorem wrap_u {x:Int}(h0:0≤x)(h1:x<18446744073709551616):IntKind.u64.wrap x=x:=by
 rw[IntKind.wrap_u64];omega
end Go.Proofs.YtcdjepkhdjpjcaaGreatDoor.G
namespace Go.Proofs.YtcdjepkhdjpjcaaGreatDoor
open Go.Proofs.Tryz
open Go.RowKit
def lcells (dp:Option Addr)(g:Lg):List Value:=[.pointer dp,.int .i64 g.c.bl,.int .i64 g.c.lc,.int .i64 g.c.mr,.int .i64 g.c.hi,.int .i64 g.c.cl,.int .u64 g.life,.int .u64 g.tail,.int .u64 g.fin,.int .u64 g.mark,.int .i64 g.imgs,.int .i64 g.last]
abbrev GAt (w:World)(L:Nat)(dp:Option Addr)(g:Lg):Prop:=LAt 92 w L (lcells dp g)
section
variable {w:World} {L:Nat} {dp:Option Addr} {g:Lg}
theorem GAt.c0 (h:GAt w L dp g):w.cell? ⟨L,0,none⟩=some (.pointer dp):=LAt.cell h 0
theorem GAt.c1 (h:GAt w L dp g):w.cell? ⟨L,1,none⟩=some (.int .i64 g.c.bl):=LAt.cell h 1
theorem GAt.c2 (h:GAt w L dp g):w.cell? ⟨L,2,none⟩=some (.int .i64 g.c.lc):=LAt.cell h 2
theorem GAt.c3 (h:GAt w L dp g):w.cell? ⟨L,3,none⟩=some (.int .i64 g.c.mr):=LAt.cell h 3
theorem GAt.c6 (h:GAt w L dp g):w.cell? ⟨L,6,none⟩=some (.int .u64 g.life):=LAt.cell h 6
theorem GAt.c7 (h:GAt w L dp g):w.cell? ⟨L,7,none⟩=some (.int .u64 g.tail):=LAt.cell h 7
theorem GAt.c8 (h:GAt w L dp g):w.cell? ⟨L,8,none⟩=some (.int .u64 g.fin):=LAt.cell h 8
theorem GAt.c9 (h:GAt w L dp g):w.cell? ⟨L,9,none⟩=some (.int .u64 g.mark):=LAt.cell h 9
theorem GAt.c10 (h:GAt w L dp g):w.cell? ⟨L,10,none⟩=some (.int .i64 g.imgs):=LAt.cell h 10
theorem GAt.c11 (h:GAt w L dp g):w.cell? ⟨L,11,none⟩=some (.int .i64 g.last):=LAt.cell h 11
theorem GAt.free (h:GAt w L dp g)(j:Nat):w.frozen? ⟨L,j,none⟩=false:=frozen_of_row w L j _ 92 h
theorem GAt.rangeC (h:GAt w L dp g):w.rangeAt L 1 (ccells g.c):=fun j v hv=>by
 have hj:j<5:=by
  have:=(List.getElem?_eq_some_iff.1 hv).1
  simpa [ccells] using this
 rw[LAt.cell h (1+j)]
 rw[← hv]
 match j with
 | 0=>rfl
 | 1=>rfl
 | 2=>rfl
 | 3=>rfl
 | 4=>rfl
 | j+5=>omega
theorem GAt.setF (h:GAt w L dp g)(x:Int):GAt (w.setCell ⟨L,8,none⟩ (.int .u64 x)) L dp { g with fin:=x }:=LAt.set h 8 _
theorem GAt.setT (h:GAt w L dp g)(x:Int):GAt (w.setCell ⟨L,7,none⟩ (.int .u64 x)) L dp { g with tail:=x }:=LAt.set h 7 _
theorem GAt.setM (h:GAt w L dp g)(x:Int):GAt (w.setCell ⟨L,9,none⟩ (.int .u64 x)) L dp { g with mark:=x }:=LAt.set h 9 _
theorem GAt.setI (h:GAt w L dp g)(x:Int):GAt (w.setCell ⟨L,10,none⟩ (.int .i64 x)) L dp { g with imgs:=x }:=LAt.set h 10 _
theorem GAt.setB (h:GAt w L dp g)(x:Int):GAt (w.setCell ⟨L,11,none⟩ (.int .i64 x)) L dp { g with last:=x }:=LAt.set h 11 _
end
structure LD (w:World) (S:Nat→Prop) (L p:Nat) (d:List Int) (ws:List Wr) (g:Lg):Prop where
 log:GAt w L (some ⟨p,0,none⟩) g
 dsk:Dsk w (fun k=>S k∧k≠L) p g.sz d ws
 sl:S L
 ok:g.Ok
section
variable {w w':World} {S T:Nat→Prop} {L p:Nat} {d:List Int} {ws:List Wr} {g:Lg}
theorem LD.later (h:LD w S L p d ws g)(hb:Below w.heap.size w w'):LD w' S L p d ws g:=⟨LAt.later h.log hb,h.dsk.later hb,h.sl,h.ok⟩
theorem LD.kept (h:LD w S L p d ws g)(hk:Kept T w w')(hd:∀k,S k→T k→False):LD w' S L p d ws g :=
 ⟨(hk.block L (LAt.lt h.log) (fun t=>hd L h.sl t)).trans h.log,h.dsk.kept hk (fun k s t=>hd k s.1 t),h.sl,h.ok⟩
theorem LD.mono (h:LD w S L p d ws g)(hs:∀k,k<w.heap.size→S k→T k):LD w T L p d ws g :=
 ⟨h.log,h.dsk.mono fun k hk s=>⟨hs k hk s.1,s.2⟩,hs L (LAt.lt h.log) h.sl,h.ok⟩
theorem LD.wrote (h:LD w S L p d ws g){d':List Int}{ws':List Wr}(hd:Dsk w' (More (fun k=>S k∧k≠L) w) p g.sz d' ws')(hk:Kept (fun k=>S k∧k≠L) w w'):LD w' (More S w) L p d' ws' g∧Kept S w w':=by
 have hL:=LAt.lt h.log
 refine⟨⟨(hk.block L hL (fun t=>t.2 rfl)).trans h.log,hd.mono fun k _ s=>?_,.inl h.sl,h.ok⟩,⟨hk.os,hk.tape,hk.output,hk.size,fun k h1 h2=>hk.block k h1 fun t=>h2 t.1⟩⟩
 rcases s with s | s
 ·exact⟨.inl s.1,s.2⟩
 ·exact⟨.inr s,by omega⟩
theorem LD.flushed (h:LD w S L p d ws g){d':List Int}{ws':List Wr}(hd:Dsk w' (fun k=>S k∧k≠L) p g.sz d' ws')(hk:Kept (fun k=>S k∧k≠L) w w'):LD w' S L p d' ws' g∧Kept S w w':=by
 have hL:=LAt.lt h.log
 exact⟨⟨(hk.block L hL (fun t=>t.2 rfl)).trans h.log,hd,h.sl,h.ok⟩,⟨hk.os,hk.tape,hk.output,hk.size,fun k h1 h2=>hk.block k h1 fun t=>h2 t.1⟩⟩
theorem LD.set (h:LD w S L p d ws g)(j:Nat)(v:Value){g':Lg}(hg:GAt (w.setCell ⟨L,j,none⟩ v) L (some ⟨p,0,none⟩) g')(hc:g'.c=g.c)(ok:g'.Ok):LD (w.setCell ⟨L,j,none⟩ v) S L p d ws g':=by
 have hz:g'.sz=g.sz:=by unfold Lg.sz;rw[hc]
 refine⟨hg,?_,h.sl,ok⟩
 rw[hz]
 exact h.dsk.kept (T:=fun k=>k=L) ⟨rfl,rfl,rfl,by simp[World.setCell],fun k _ hk=>heap_setCell_other w ⟨L,j,none⟩ k v hk⟩ (fun k s t=>s.2 t)
end
theorem lacks_some {w:World}{L p:Nat}{g:Lg}(h:GAt w L (some ⟨p,0,none⟩) g):Calls prog 97 #[.pointer (some ⟨L,0,none⟩)] w fun e w'=>e=.returned (.bool false)∧w=w':=by
 have c0:=GAt.c0 h
 clear h
 go_enter func97,ntmps97
 go_wp2
 go_ret
 exact⟨rfl,rfl⟩
theorem ltail_at {w:World}{L:Nat}{dp:Option Addr}{g:Lg}(h:GAt w L dp g):Calls prog 22 #[.pointer (some ⟨L,0,none⟩)] w fun e w'=>e=.returned (.int .u64 g.tail)∧w=w':=by
 have c7:=GAt.c7 h
 clear h
 go_enter func22,ntmps22
 go_wp2
 go_ret
 exact⟨rfl,rfl⟩
theorem lend_at {w:World}{L:Nat}{dp:Option Addr}{g:Lg}(h:GAt w L dp g):Calls prog 14 #[.pointer (some ⟨L,0,none⟩)] w fun e w'=>e=.returned (.int .u64 g.fin)∧w=w':=by
 have c8:=GAt.c8 h
 clear h
 go_enter func14,ntmps14
 go_wp2
 go_ret
 exact⟨rfl,rfl⟩
theorem lmarked_at {w:World}{L:Nat}{dp:Option Addr}{g:Lg}(h:GAt w L dp g):Calls prog 103 #[.pointer (some ⟨L,0,none⟩)] w fun e w'=>e=.returned (.int .u64 g.mark)∧w=w':=by
 have c9:=GAt.c9 h
 clear h
 go_enter func103,ntmps103
 go_wp2
 go_ret
 exact⟨rfl,rfl⟩
theorem lused_at {w:World}{L:Nat}{dp:Option Addr}{g:Lg}(h:GAt w L dp g)(ok:g.Ok):Calls prog 157 #[.pointer (some ⟨L,0,none⟩)] w fun e w'=>e=.returned (.int .i64 (g.fin-g.tail))∧w=w':=by
 have HG:Hid (GAt w L dp g):=h
 have hn:0≤g.fin-g.tail∧g.fin-g.tail≤64:=by have:=ok.tm;have:=ok.mf;have:=ok.us;have:=ok.cf.2.1;omega
 clear h ok
 go_enter func157,ntmps157
 go_wp2_with fail
 refine (lend_at HG.out).mono ?_
 rintro e w1 ⟨rfl,rfl⟩
 go_wp2_with fail
 refine (ltail_at HG.out).mono ?_
 rintro e w1 ⟨rfl,rfl⟩
 have k1:IntKind.u64.wrap (g.fin-g.tail)=g.fin-g.tail:=G.wrap_u hn.1 (by omega)
 have k2:RowKit.wrap64 (g.fin-g.tail)=g.fin-g.tail:=by have:=IntKind.wrap_i64 (g.fin-g.tail);unfold RowKit.wrap64;omega
 go_wp2
 go_ret
 exact⟨rfl,rfl⟩
theorem slot_of {g:Lg}(ok:g.Ok){p:Int}(h1:p≤4611686018427387904):G.slotS p g.c.lc=(p % g.c.lc,0):=by
 have:=ok.cf.2.1
 unfold G.slotS
 rw[if_pos ⟨by omega,by omega⟩,if_neg (by omega)]
theorem sector_at {w:World}{L:Nat}{dp:Option Addr}{g:Lg}(h:GAt w L dp g)(ok:g.Ok)(p:Int)(h0:0≤p)(h1:p≤4611686018427387904):Calls prog 160 #[.pointer (some ⟨L,0,none⟩),.int .u64 p] w fun e w'=>e=.returned (.int .i64 (secN g p))∧w=w':=by
 have c1:=GAt.c1 h
 have c2:=GAt.c2 h
 have HS:Hid (_):=slot_of ok h1
 have HN:Hid (secN g p=1+g.c.bl+p % g.c.lc):=rfl
 have hb:=ok.cf.1
 have hl:=ok.cf.2.1
 have hm0:=Int.emod_nonneg p (show g.c.lc≠0 by omega)
 have hm1:=Int.emod_lt_of_pos p (show 0<g.c.lc by omega)
 clear h ok
 go_enter func160,ntmps160
 go_wp2_with fail
 refine (G.slot_any p g.c.lc h0 w).mono ?_
 rintro e w1 ⟨rfl,rfl⟩
 rw[HS.out]
 have k1:IntKind.i64.wrap (1+g.c.bl)=1+g.c.bl:=by rw[IntKind.wrap_i64];omega
 have k2:IntKind.i64.wrap (1+g.c.bl+p % g.c.lc)=1+g.c.bl+p % g.c.lc:=by rw[IntKind.wrap_i64];omega
 go_wp2
 go_ret
 exact⟨by rw[HN.out];rfl,rfl⟩
end Go.Proofs.YtcdjepkhdjpjcaaGreatDoor
namespace Go.Proofs.YtcdjepkhdjpjcaaGreatDoor
open Go.RowKit
theorem Blk.some {w:World}{g t sz:Nat}(h:Blk w g t sz)(o:Nat)(ho:o<sz):∃u,w.cell? ⟨g,o,none⟩=some u:=by
 obtain ⟨cur,h,hs⟩:=h
 exact⟨cur[o],by rw[cell_of_row w g o cur t (0,0) h,Array.getElem?_eq_getElem (by omega)]⟩
theorem Blk.free {w:World}{g t sz:Nat}(h:Blk w g t sz)(o:Nat):w.frozen? ⟨g,o,none⟩=false:=by
 obtain ⟨cur,h,hs⟩:=h
 exact frozen_of_row w g o _ t h
open Go.Proofs.Tryz
def ZC (ws:List Wr)(vs:List Value):List Value:=(List.zipWith (fun (x:Wr) u=>[Value.int .i64 (x.s:Int),u]) ws vs).flatten
structure RD (w:World) (S:Nat→Prop) (p n:Nat) (d:List Int) (ws:List Wr) (g L cap:Nat) (v:Value) (vs:List Value):Prop where
 str:w.heap[p]?=some (.cells #[.slice (some ⟨g,0,none⟩) L cap,v] 236 (0,0))
 dur:w.ownsRow 0 5 1 (.slice (some ⟨g,0,none⟩) L cap) L (U8 d)
 wr:w.ownsRow 0 237 2 v ws.length (ZC ws vs)
 len:vs.length=ws.length
 dat:∀i (h:i<ws.length) (h2:i<vs.length),w.ownsRow 0 5 1 vs[i] 64 (U8 ws[i].b)
 ne:∀i (h2:i<vs.length),vs[i].ownBlock≠some g
 sp:S p
 sg:S g
 sv:∀k,v.ownBlock=some k→S k
 sd:∀i (h2:i<vs.length) k,vs[i].ownBlock=some k→S k
 hL:L=64*n
 n1:1≤n
 n2:n≤4096
 dl:d.length=64*n
 db:Bytes d
 fit:Fit n ws
def Ref (w:World)(S:Nat→Prop)(p n:Nat)(d:List Int)(ws:List Wr):Prop:=∃g L cap v vs,RD w S p n d ws g L cap v vs
theorem RD.blk {w:World}{S:Nat→Prop}{p n:Nat}{d:List Int}{ws:List Wr}{g L cap:Nat}{v:Value}{vs:List Value}(h:RD w S p n d ws g L cap v vs):Blk w p 236 2:=⟨_,h.str,rfl⟩
theorem RD.cell0 {w:World}{S:Nat→Prop}{p n:Nat}{d:List Int}{ws:List Wr}{g L cap:Nat}{v:Value}{vs:List Value}(h:RD w S p n d ws g L cap v vs):w.cell? ⟨p,0,none⟩=some (.slice (some ⟨g,0,none⟩) L cap):=by
 rw[cell_of_row w p 0 _ 236 (0,0) h.str];rfl
theorem RD.cell1 {w:World}{S:Nat→Prop}{p n:Nat}{d:List Int}{ws:List Wr}{g L cap:Nat}{v:Value}{vs:List Value}(h:RD w S p n d ws g L cap v vs):w.cell? ⟨p,1,none⟩=some v:=by
 rw[cell_of_row w p 1 _ 236 (0,0) h.str];rfl
theorem RD.same {w w':World}{S T:Nat→Prop}{p n:Nat}{d:List Int}{ws:List Wr}{g L cap:Nat}{v:Value}{vs:List Value}(h:RD w S p n d ws g L cap v vs)(hs:∀k,k<w.heap.size→S k→T k)(e:∀k,k<w.heap.size→S k→w'.heap[k]?=w.heap[k]?):RD w' T p n d ws g L cap v vs :=
 have hp:=h.blk.lt
 have hg:=(own_blk h.dur).1.lt
 have hv:∀k,v.ownBlock=some k→k<w.heap.size:=fun _ hk=>(own_ownBlk h.wr hk).elim fun _ hb=>hb.lt
 have hd:∀i (h2:i<vs.length) k,vs[i].ownBlock=some k→k<w.heap.size:=fun i h2 _ hk=>(own_ownBlk (h.dat i (by have:=h.len;omega) h2) hk).elim fun _ hb=>hb.lt
 ⟨(e p hp h.sp).trans h.str,own_same h.dur (fun k hk=>by simp only[Value.ownBlock,Option.some.injEq] at hk;subst hk;exact e _ hg h.sg),own_same h.wr (fun k hk=>e k (hv k hk) (h.sv k hk)),h.len,fun i h1 h2=>own_same (h.dat i h1 h2) (fun k hk=>e k (hd i h2 k hk) (h.sd i h2 k hk)),h.ne,hs p hp h.sp,hs g hg h.sg,fun k hk=>hs k (hv k hk) (h.sv k hk),fun i h2 k hk=>hs k (hd i h2 k hk) (h.sd i h2 k hk),h.hL,h.n1,h.n2,h.dl,h.db,h.fit⟩
theorem RD.later {w w':World}{S:Nat→Prop}{p n:Nat}{d:List Int}{ws:List Wr}{g L cap:Nat}{v:Value}{vs:List Value}(h:RD w S p n d ws g L cap v vs)(hb:Below w.heap.size w w'):RD w' S p n d ws g L cap v vs :=
 h.same (fun _ _=>id) (fun k' hk' _=>hb.block k' hk')
theorem Ref.later {w w':World}{S:Nat→Prop}{p n:Nat}{d:List Int}{ws:List Wr}(h:Ref w S p n d ws)(hb:Below w.heap.size w w'):Ref w' S p n d ws:=by
 obtain ⟨g,L,cap,v,vs,h⟩:=h;exact⟨g,L,cap,v,vs,h.later hb⟩
theorem Ref.kept {w w':World}{S T:Nat→Prop}{p n:Nat}{d:List Int}{ws:List Wr}(h:Ref w S p n d ws)(hk:Kept T w w')(hd:∀k,S k→T k→False):Ref w' S p n d ws:=by
 obtain ⟨g,L,cap,v,vs,h⟩:=h;exact⟨g,L,cap,v,vs,h.same (fun _ _=>id) (fun k hk' hs=>hk.block k hk' (fun t=>hd k hs t))⟩
theorem Ref.mono {w:World}{S T:Nat→Prop}{p n:Nat}{d:List Int}{ws:List Wr}(h:Ref w S p n d ws)(hs:∀k,k<w.heap.size→S k→T k):Ref w T p n d ws:=by
 obtain ⟨g,L,cap,v,vs,h⟩:=h;exact⟨g,L,cap,v,vs,h.same hs (fun _ _ _=>rfl)⟩
theorem rlen_any {w:World}{S:Nat→Prop}{p n:Nat}{d:List Int}{ws:List Wr}(h:Ref w S p n d ws):Calls prog 122 #[.pointer (some ⟨p,0,none⟩)] w fun e w'=>e=.returned (.int .i64 n)∧w=w':=by
 obtain ⟨g,L,cap,v,vs,h⟩:=h
 have h0:=h.cell0
 have e1:(L:Int) / 64=(n:Int):=by have:=h.hL;omega
 have hn2:=h.n2
 have hw:Go.RowKit.wrap64 (n:Int)=(n:Int):=by have:=IntKind.wrap_i64 (n:Int);unfold Go.RowKit.wrap64;omega
 clear h
 go_enter func122,ntmps122
 go_wp2
 go_ret
 exact⟨rfl,rfl⟩
end Go.Proofs.YtcdjepkhdjpjcaaGreatDoor
namespace Go.Proofs.YtcdjepkhdjpjcaaGreatDoor
open Go.RowKit
section
variable {P:Program} {ops:Array Oper} {Q:Exit→Act→World→Prop} {md:Region.Mode} {S:World→Prop} {L:Nat}
def wpAnyL (P:Program)(md:Region.Mode)(ops:Array Oper)(Q:Exit→Act→World→Prop)(S:World→Prop)(L:Nat):Nat→Array Bool→Act→World→Prop
 | 0,listed,a,w=>Region.ready md ops listed=[]∧Q .normal a w
 | fuel+1,listed,a,w =>
  (Region.ready md ops listed=[]→Q .normal a w) ∧
  ∀i∈Region.ready md ops listed,wpOp P ops Q i (fun a' w'=>(i≠L→S w')∧wpAnyL P md ops Q S L fuel (listed.setIfInBounds i true) a' w') a w
theorem wpAny_of_L:∀(fuel:Nat) (listed:Array Bool)(a:Act)(w:World),wpAnyL P md ops Q S L fuel listed a w→wpAny P md ops Q fuel listed a w
 | 0,_,_,_,h=>h
 | fuel+1,_,_,_,h=>⟨h.1,fun i hi=>wpOp_mono (fun a' w' h'=>wpAny_of_L fuel _ a' w' h'.2) (h.2 i hi)⟩
theorem wpAnyL_first {i:Nat}{oi:Oper}{v:Value}(hi:ops[i]?=some oi)(hsel:∀(j:Nat) (o:Oper) cs b,ops[j]?=some o→o.op≠.select cs b)
  (hQ:∀c a w,Q (.panic c) (a.put oi.dst v) w→Q (.panic c) a w) (hdep:∀o,ops[L]?=some o→∃e∈o.after,Region.binds md e=true∧e.on=i) :
  ∀(fuel:Nat) (listed:Array Bool) (a:Act) (w:World),
   (∀j oj,ops[j]?=some oj→j≠i→listed.getD j true=false→(∀e∈oj.after,Region.binds md e=true→e.on≠i)→oi.apart ops oj=true) →
   i∈Region.ready md ops listed→YieldsIf P ops S oi v a→S w →
   wpAnyL P md ops Q S L fuel (listed.setIfInBounds i true) (a.put oi.dst v) w→wpAnyL P md ops Q S L (fuel+1) listed a w:=by
 intro fuel
 induction fuel with
 | zero =>
  intro listed a w _ hr hy hS H
  refine⟨fun h=>(by rw[h] at hr;cases hr),fun j hj=>?_⟩
  by_cases hji:j=i
  ·subst hji;exact hy.wpOp hi hS ⟨fun _=>hS,H⟩
  ·have:=ready_mono hj hji
   rw[H.1] at this
   cases this
 | succ fuel ih =>
  intro listed a w hfree hr hy hS H
  refine⟨fun h=>(by rw[h] at hr;cases hr),fun j hj=>?_⟩
  by_cases hji:j=i
  ·subst hji;exact hy.wpOp hi hS ⟨fun _=>hS,H⟩
  ·have h1:=H.2 j (ready_mono hj hji)
   obtain ⟨hjun,oj,hoj,hall⟩:=mem_ready.1 hj
   have hnot:∀e∈oj.after,Region.binds md e=true→e.on≠i:=fun e he hb heq=>by
    have h1:=hall e he hb
    have h0:=(mem_ready.1 hr).1
    rw[heq] at h1
    rcases Nat.lt_or_ge i listed.size with h' | h'
    ·simp[h'] at h0 h1;rw[h0] at h1;cases h1
    ·simp[Array.getElem?_eq_none h'] at h1
   have hjL:j≠L:=fun e=>by
    subst e
    obtain ⟨e,he,hb,ho⟩:=hdep oj hoj
    exact hnot e he hb ho
   have h2:=wpOp_putIf hoj (hfree j oj hoj hji hjun hnot) (fun cs b=>hsel i oi cs b hi) (fun cs b=>hsel j oj cs b hoj) hQ hy h1
   have hfree':∀k ok,ops[k]?=some ok→k≠i→(listed.setIfInBounds j true).getD k true=false →
     (∀e∈ok.after,Region.binds md e=true→e.on≠i)→oi.apart ops ok=true:=fun k ok hk hki hun hno=>by
    refine hfree k ok hk hki ?_ hno
    by_cases hjk:j=k
    ·subst hjk;exact hjun
    ·rw[getD_set_ne true hjk] at hun;exact hun
   refine wpOp_mono (fun a' w' h3=>⟨fun _=>h3.2.1 hjL,ih (listed.setIfInBounds j true) a' w' hfree' (ready_mono hr (Ne.symm hji)) h3.1 (h3.2.1 hjL) ?_⟩) h2
   rw[Array.setIfInBounds_comm _ _ hji]
   exact h3.2.2
theorem wpAnyL_take {i:Nat}{oi:Oper}{v:Value}{fuel:Nat}{listed:Array Bool}{a:Act}{w:World}(hi:ops[i]?=some oi)
  (hs:Region.noSelect ops=true) (hf:Region.free md ops listed i=true) (hr:(Region.ready md ops listed).contains i=true)
  (hd:(match ops[L]? with | some o=>o.after.any (fun e=>Region.binds md e && e.on == i) | none=>true)=true)
  (hQ:∀c a w,Q (.panic c) (a.put oi.dst v) w→Q (.panic c) a w) (hy:YieldsIf P ops S oi v a) (hS:S w)
  (h:wpAnyL P md ops Q S L fuel (listed.setIfInBounds i true) (a.put oi.dst v) w):wpAnyL P md ops Q S L (fuel+1) listed a w :=
 wpAnyL_first hi (Region.noSelect_spec hs) hQ (fun o ho=>by
  rw[ho] at hd
  obtain ⟨e,he,hb⟩:=Array.any_eq_true'.1 hd
  simp only[Bool.and_eq_true,beq_iff_eq] at hb
  exact⟨e,he,hb.1,hb.2⟩) fuel listed a w (Region.free_spec hi hf) (by simpa using hr) hy hS h
theorem tkL (i:Nat){oi:Oper}{v:Value}{fuel:Nat}{listed:Array Bool}{a a':Act}{w:World}(hS:S w)(h:wpAnyL P md ops Q S L fuel (listed.setIfInBounds i true) a' w)(hi:ops[i]?=some oi:=by simp;rfl)(hs:Region.noSelect ops=true:=by kernel_rfl)(hf:Region.free md ops listed i=true:=by kernel_rfl)(hr:(Region.ready md ops listed).contains i=true:=by kernel_rfl)(hd:(match ops[L]? with | some o=>o.after.any (fun e=>Region.binds md e && e.on == i) | none=>true)=true:=by kernel_rfl)(hg:Region.wanted oi (yielded ops a.tmps)=true:=by rfl)(hy:∀w,(execOp a.eval oi).run P w=.ok (.value v) w:=by intro w;go_simp;with_reducible rfl)(ha:a.put oi.dst v=a':=by simp only[Act.put,zA,zB,zC];with_reducible rfl)(hQ:∀c a w,Q (.panic c) (a.put oi.dst v) w→Q (.panic c) a w:=by exact fun _ _ _ h=>h):wpAnyL P md ops Q S L (fuel+1) listed a w :=
 wpAnyL_take hi hs hf hr hd hQ (.inl ⟨hg,fun w _=>hy w⟩) hS (ha ▸ h)
def AllReadyL (P:Program)(md:Region.Mode)(ops:Array Oper)(Q:Exit→Act→World→Prop)(S:World→Prop)(L fuel:Nat)(listed:Array Bool)(a:Act)(w:World)(rs:List Nat):Prop :=
 ∀i∈rs,wpOp P ops Q i (fun a' w'=>(i≠L→S w')∧wpAnyL P md ops Q S L fuel (listed.setIfInBounds i true) a' w') a w
theorem AllReadyL.nil {fuel:Nat}{listed:Array Bool}{a:Act}{w:World}:AllReadyL P md ops Q S L fuel listed a w []:=fun _ h=>by cases h
theorem AllReadyL.cons {fuel:Nat}{listed:Array Bool}{a:Act}{w:World}{i:Nat}{o:Oper}{rs:List Nat}(ho:ops[i]?=some o)
  (h:∀K':Act→World→Prop,Shut (∀a w,(i≠L→S w)→wpAnyL P md ops Q S L fuel (listed.setIfInBounds i true) a w→K' a w)→if Region.wanted o (yielded ops a.tmps)=true then Oper.wp P o a w K' Q else K' (a.put o.dst undef) w)
  (hs:AllReadyL P md ops Q S L fuel listed a w rs):AllReadyL P md ops Q S L fuel listed a w (i :: rs):=fun j hj=>by
 rcases List.mem_cons.1 hj with rfl | hj
 ·exact wpOp_step ho (fun K' hK=>h K' (fun a w hS hW=>hK a w ⟨hS,hW⟩))
 ·exact hs j hj
theorem wpAnyL_ready {rs:List Nat}{fuel:Nat}{listed:Array Bool}{a:Act}{w:World}(hr:Region.ready md ops listed=rs)(hne:rs≠[])
  (h:AllReadyL P md ops Q S L fuel listed a w rs):wpAnyL P md ops Q S L (fuel+1) listed a w :=
 ⟨fun h0=>absurd (hr ▸ h0) hne,hr ▸ h⟩
theorem wpAnyL_done {listed:Array Bool}{a:Act}{w:World}(hr:Region.ready md ops listed=[])(h:Q .normal a w) :
  ∀fuel,wpAnyL P md ops Q S L fuel listed a w
 | 0=>⟨hr,h⟩
 | _+1=>⟨fun _=>h,by rw[hr];simp⟩
theorem wp_region_last {id:Nat}{a:Act}{w:World}(L:Nat)(S:World→Prop)(hm:P.follows .mixedOrders=true)
  (h:wpAnyL P .any ops Q S L ops.size (Array.replicate ops.size false) a w.drew):(Code.region id ops true).wp P Q a w :=
 wp_region_any hm (wpAny_of_L _ _ _ _ h)
end
end Go.Proofs.YtcdjepkhdjpjcaaGreatDoor
