import Derived.Test.YtcdjepkhdjpjcaaGreatDoorX04
set_option maxHeartbeats 20000000
set_option maxRecDepth 100000
namespace Go.Proofs.YtcdjepkhdjpjcaaGreatDoor.R
open Go.Proofs.Tryz
open Go.RowKit
theorem size31:(prog.info? 180).map (·.size)=some 36:=by kernel_rfl
theorem size37:(prog.info? 226).map (·.size)=some 36:=by kernel_rfl
theorem size24:(prog.info? 51).map (·.size)=some 32:=by kernel_rfl
def rcells (r:Rec):List Value:=.int .i64 r.kind :: .int .u64 r.pos :: .int .i64 r.block :: (U8 r.val++[.int .i64 r.images])
theorem rcells_len (r:Rec)(h:r.val.length=32):(rcells r).length=36:=by simp[rcells,h]
theorem rcells_val (r:Rec)(j:Nat)(hj:j<r.val.length):(rcells r)[3+j]?=some (.int .u8 r.val[j]):=by
 rw[rcells,show 3+j=j+1+1+1 by omega,List.getElem?_cons_succ,List.getElem?_cons_succ,List.getElem?_cons_succ,List.getElem?_append_left (by simpa using hj)]
 simp[List.getElem?_eq_getElem hj]
theorem rcells_35 (r:Rec)(h:r.val.length=32):(rcells r)[35]?=some (.int .i64 r.images):=by
 rw[rcells,List.getElem?_cons_succ,List.getElem?_cons_succ,List.getElem?_cons_succ,List.getElem?_append_right (by simp[h])]
 simp[h]
def RAt (t:TypeId)(w:World)(g:Nat)(r:Rec):Prop:=w.heap[g]?=some (.cells (rcells r).toArray t (0,0))
theorem RAt.lt {t:TypeId}{w:World}{g:Nat}{r:Rec}(h:RAt t w g r):g<w.heap.size:=(Array.getElem?_eq_some_iff.1 h).1
theorem RAt.later {t:TypeId}{w w':World}{g:Nat}{r:Rec}(h:RAt t w g r)(hb:Below w.heap.size w w'):RAt t w' g r:=(hb.block g h.lt).trans h
theorem RAt.below {t:TypeId}{B:Nat}{w w':World}{g:Nat}{r:Rec}(h:RAt t w g r)(hb:Below B w w')(hg:g<B):RAt t w' g r:=(hb.block g hg).trans h
theorem RAt.new (t:TypeId)(w:World)(r:Rec):RAt t (w.alloc (.cells (rcells r).toArray t)) w.heap.size r:=heap_alloc_new w _
theorem RAt.drew {t:TypeId}{w:World}{g:Nat}{r:Rec}(h:RAt t w g r):RAt t w.drew g r:=h
theorem RAt.cell {t:TypeId}{w:World}{g:Nat}{r:Rec}(h:RAt t w g r)(j:Nat):w.cell? ⟨g,j,none⟩=(rcells r)[j]?:=by
 rw[cell_of_row w g j (rcells r).toArray t (0,0) h];simp
theorem RAt.c0 {t:TypeId}{w:World}{g:Nat}{r:Rec}(h:RAt t w g r):w.cell? ⟨g,0,none⟩=some (.int .i64 r.kind):=h.cell 0
theorem RAt.c1 {t:TypeId}{w:World}{g:Nat}{r:Rec}(h:RAt t w g r):w.cell? ⟨g,1,none⟩=some (.int .u64 r.pos):=h.cell 1
theorem RAt.c2 {t:TypeId}{w:World}{g:Nat}{r:Rec}(h:RAt t w g r):w.cell? ⟨g,2,none⟩=some (.int .i64 r.block):=h.cell 2
theorem RAt.c35 {t:TypeId}{w:World}{g:Nat}{r:Rec}(h:RAt t w g r)(hv:r.val.length=32):w.cell? ⟨g,35,none⟩=some (.int .i64 r.images):=(h.cell 35).trans (rcells_35 r hv)
theorem RAt.range {t:TypeId}{w:World}{g:Nat}{r:Rec}(h:RAt t w g r):w.rangeAt g 0 (rcells r):=fun j v hv=>by
 rw[Nat.zero_add,h.cell j];exact hv
theorem RAt.vrange {t:TypeId}{w:World}{g:Nat}{r:Rec}(h:RAt t w g r):w.rangeAt g 3 (U8 r.val):=fun j v hv=>by
 have hj:j<r.val.length:=by simpa using (List.getElem?_eq_some_iff.1 hv).1
 rw[h.cell (3+j),rcells_val r j hj,← hv]
 simp[List.getElem?_eq_getElem hj]
theorem RAt.load31 {t:TypeId}{w:World}{g:Nat}{r:Rec}(h:RAt t w g r)(hv:r.val.length=32):(Instr.loadAt 180 (.pointer (some ⟨g,0,none⟩))).run prog w=.ok (.agg (rcells r).toArray) w :=
 run_loadAt_mid w g 0 180 (rcells r) _ h.range underlying180 rfl (by rw[size31,rcells_len r hv])
theorem RAt.load37 {t:TypeId}{w:World}{g:Nat}{r:Rec}(h:RAt t w g r)(hv:r.val.length=32):(Instr.loadAt 226 (.pointer (some ⟨g,0,none⟩))).run prog w=.ok (.agg (rcells r).toArray) w :=
 run_loadAt_mid w g 0 226 (rcells r) _ h.range underlying226 rfl (by rw[size37,rcells_len r hv])
theorem RAt.load24 {t:TypeId}{w:World}{g:Nat}{r:Rec}(h:RAt t w g r)(hv:r.val.length=32):(Instr.loadAt 51 (.pointer (some ⟨g,3,none⟩))).run prog w=.ok (.agg (U8 r.val).toArray) w :=
 run_loadAt_mid w g 3 51 (U8 r.val) _ h.vrange underlying51 rfl (by rw[size24,U8_length,hv])
def pl:List (Nat × Nat):=[(0,1),(1,1),(2,1),(3,32),(35,1)]
theorem places31:placesOf prog 180=some pl:=by kernel_rfl
theorem places37:placesOf prog 226=some pl:=by kernel_rfl
theorem zero31:(prog.info? 180).bind (·.zero)=some (.agg (rcells rec0).toArray):=by kernel_rfl
theorem zero37:(prog.info? 226).bind (·.zero)=some (.agg (rcells rec0).toArray):=by kernel_rfl
theorem fill_step (off n:Nat)(i:Nat)(hp:pl.toArray[i]?=some (off,n))(v:Value)(vs cs:List Value)(hv:v.cells=vs.toArray)(hn:vs.length=n)(hl:off+n≤cs.length)(rest:List (Nat × Value)) :
  Instr.fill (pl.toArray[·]?) cs.toArray ((i,v) :: rest)=Instr.fill (pl.toArray[·]?) (cs.take off++vs++cs.drop (off+vs.length)).toArray rest:=by
 have a0:=part_fill off vs cs (by omega)
 have a1:vs.toArray.zipIdx.foldl (fun cs x=>match x with | (c,j)=>cs.setIfInBounds (off+j) c) cs.toArray=(cs.take off++vs++cs.drop (off+vs.length)).toArray:=a0
 simp only[Instr.fill]
 rw[hp]
 dsimp only
 rw[hv]
 simp only[List.size_toArray]
 rw[if_neg (by simp[hn];omega),a1]
theorem fill_k (r:Rec)(h:r.val.length=32)(k:Int)(rest:List (Nat × Value)):Instr.fill (pl.toArray[·]?) (rcells r).toArray ((0,.int .i64 k) :: rest)=Instr.fill (pl.toArray[·]?) (rcells ⟨k,r.pos,r.block,r.val,r.images⟩).toArray rest :=
 fill_step 0 1 0 rfl _ [.int .i64 k] _ rfl rfl (by rw[rcells_len r h];omega) rest
theorem fill_b (r:Rec)(h:r.val.length=32)(k:Int)(rest:List (Nat × Value)):Instr.fill (pl.toArray[·]?) (rcells r).toArray ((2,.int .i64 k) :: rest)=Instr.fill (pl.toArray[·]?) (rcells ⟨r.kind,r.pos,k,r.val,r.images⟩).toArray rest :=
 fill_step 2 1 2 rfl _ [.int .i64 k] _ rfl rfl (by rw[rcells_len r h];omega) rest
theorem fill_v (r:Rec)(h:r.val.length=32)(v:List Int)(hv:v.length=32)(rest:List (Nat × Value)):Instr.fill (pl.toArray[·]?) (rcells r).toArray ((3,.agg (U8 v).toArray) :: rest)=Instr.fill (pl.toArray[·]?) (rcells ⟨r.kind,r.pos,r.block,v,r.images⟩).toArray rest:=by
 rw[fill_step 3 32 3 rfl _ (U8 v) _ rfl (by rw[U8_length,hv]) (by rw[rcells_len r h];omega) rest]
 congr 2
 rw[U8_length,hv]
 simp only[rcells,List.take_succ_cons,List.take_zero,List.cons_append,List.nil_append,List.drop_succ_cons]
 rw[List.drop_append,U8_length,h,List.drop_of_length_le (by rw[U8_length,h];omega)]
 rfl
theorem fill_i (r:Rec)(h:r.val.length=32)(k:Int)(rest:List (Nat × Value)):Instr.fill (pl.toArray[·]?) (rcells r).toArray ((4,.int .i64 k) :: rest)=Instr.fill (pl.toArray[·]?) (rcells ⟨r.kind,r.pos,r.block,r.val,k⟩).toArray rest:=by
 rw[fill_step 35 1 4 rfl _ [.int .i64 k] _ rfl rfl (by rw[rcells_len r h];omega) rest]
 congr 2
 simp only[rcells,List.take_succ_cons,List.cons_append,List.drop_succ_cons,List.length_singleton]
 rw[List.take_append,U8_length,h,List.take_of_length_le (by rw[U8_length,h];omega),List.drop_of_length_le (by simp[h])]
 simp
theorem fill_end (r:Rec):Instr.fill (pl.toArray[·]?) (rcells r).toArray []=some (rcells r).toArray:=rfl
theorem build31 (w:World)(parts:Array (Nat × Value))(r:Rec)(h:Instr.fill (pl.toArray[·]?) (rcells rec0).toArray parts.toList=some (rcells r).toArray):(Instr.build 180 parts).run prog w=.ok (.agg (rcells r).toArray) w :=
 run_build w 180 _ _ ((built_of 180 _ _ _ places31 zero31).trans h)
theorem build37 (w:World)(parts:Array (Nat × Value))(r:Rec)(h:Instr.fill (pl.toArray[·]?) (rcells rec0).toArray parts.toList=some (rcells r).toArray):(Instr.build 226 parts).run prog w=.ok (.agg (rcells r).toArray) w :=
 run_build w 226 _ _ ((built_of 226 _ _ _ places37 zero37).trans h)
theorem rec0_len:rec0.val.length=32:=zs_len 32
theorem sizeOf5 (w:World):(sizeOf 5).run prog w=.ok 1 w:=by
 cases hi:prog.info? 5 with
 | none=>have:=size5;simp[hi] at this
 | some i =>
  have h:=size5
  simp only[hi,Option.map_some,Option.some.injEq] at h
  simp[sizeOf,typeInfo,hi,h]
theorem all_range_eq:∀(xs ys:List Int),xs.length=ys.length→((List.range xs.length).all fun i=>xs.getD i 0 == ys.getD i 0)=decide (xs=ys)
 | [],[],_=>rfl
 | x :: xs,y :: ys,h=>by
  have ih:=all_range_eq xs ys (by simpa using h)
  rw[List.length_cons,List.range_succ_eq_map,List.all_cons,List.all_map]
  simp only[List.getD_cons_zero,Function.comp_def,List.getD_cons_succ,ih]
  rw[Bool.eq_iff_iff]
  simp
 | [],_ :: _,h=>by simp at h
 | _ :: _,[],h=>by simp at h
theorem equal24 (w:World)(d:Nat)(xs ys:List Int)(hx:xs.length=32)(hy:ys.length=32) :
  (Op.equalIn (d+2) 51 (.agg (U8 xs).toArray) (.agg (U8 ys).toArray)).run prog w=.ok (decide (xs=ys)) w:=by
 rw[← all_range_eq xs ys (hx.trans hy.symm),hx,List.range_eq_range',Op.equalIn]
 simp only[Sem.run_bind,run_underlying underlying51,Result.andThen_ok,sizeOf5,Std.Legacy.Range.forIn_eq_forIn_range',Std.Legacy.Range.size,Nat.sub_zero,Nat.add_sub_cancel,Nat.div_one]
 have hl:∀i∈List.range' 0 32 1,i<32:=fun i hi=>by simpa using (List.mem_range'_1.1 hi).2
 generalize List.range' 0 32 1=l at hl ⊢
 induction l with
 | nil=>simp
 | cons i l ih =>
  have hi:i<32:=hl i (by simp)
  have px:(part 5 (U8 xs).toArray (i*1)).run prog w=.ok (.int .u8 (xs.getD i 0)) w:=by
   simp[part,isAgg,run_underlying underlying5,List.getD,List.getElem?_eq_getElem (show i<xs.length by omega)]
  have py:(part 5 (U8 ys).toArray (i*1)).run prog w=.ok (.int .u8 (ys.getD i 0)) w:=by
   simp[part,isAgg,run_underlying underlying5,List.getD,List.getElem?_eq_getElem (show i<ys.length by omega)]
  have pe:(Op.equalIn (d+1) 5 (.int .u8 (xs.getD i 0)) (.int .u8 (ys.getD i 0))).run prog w=.ok (xs.getD i 0 == ys.getD i 0) w:=run_equalIn_int w d 5 .u8 .u8 _ _ underlying5
  simp only[List.forIn_cons,Sem.run_bind,px,py,pe,Result.andThen_ok,List.all_cons]
  cases hb:(xs.getD i 0 == ys.getD i 0)
  ·simp
  ·simp only[Bool.not_true,Bool.false_eq_true,if_false,Sem.run_pure,Result.andThen_ok,Bool.true_and]
   exact ih fun j hj=>hl j (by simp[hj])
theorem eql24 (w:World)(xs ys:List Int)(hx:xs.length=32)(hy:ys.length=32) :
  (binOp .eql 51 (.agg (U8 xs).toArray) (.agg (U8 ys).toArray)).run prog w=.ok (.bool (decide (xs=ys))) w:=by
 rw[run_eql_struct,equal24 w 9998 xs ys hx hy]
 rfl
theorem eqg24:prog.eqGuardType prog.depth 51=false:=by kernel_rfl
theorem build24 (w:World):(Instr.build 51 #[]).run prog w=.ok (.agg (U8 (zs 32)).toArray) w:=run_build w 51 _ _ (by kernel_rfl)
theorem image_any (r:Rec)(hv:r.val.length=32)(w:World) :
  Calls prog 222 #[.agg (rcells r).toArray] w fun e w'=>e=.returned (.bool (imageB r))∧Below w.heap.size w w':=by
 have hA:=RAt.new 180 w r
 have c0:=hA.c0
 have c2:=hA.c2
 have c4:=hA.c35 hv
 have HB:Hid (Below w.heap.size w (w.alloc (.cells (rcells r).toArray 180))):=below_alloc w _
 clear hA hv
 go_enter func222,ntmps222
 go_wp2
 all_goals go_ret
 all_goals (refine⟨?_,HB.out⟩)
 all_goals (clear c0 c2 c4;unfold imageB;simp_all <;> (intros;omega))
theorem commit_any (r:Rec)(hv:r.val.length=32)(w:World) :
  Calls prog 223 #[.agg (rcells r).toArray] w fun e w'=>e=.returned (.bool (commitB r))∧Below w.heap.size w w':=by
 have hA:=RAt.new 180 w r
 have c0:=hA.c0
 have c2:=hA.c2
 have c4:=hA.c35 hv
 have L3:Hid (_):=hA.load24 hv
 have B3:Hid (_):=build24 (w.alloc (.cells (rcells r).toArray 180))
 have Q3:Hid (_):=eql24 (w.alloc (.cells (rcells r).toArray 180)) r.val (zs 32) hv (zs_len 32)
 have HB:Hid (Below w.heap.size w (w.alloc (.cells (rcells r).toArray 180))):=below_alloc w _
 clear hA hv
 go_enter func223,ntmps223
 go_wp2_with (first | (refine wpList_load_is (by rfl) 51 rfl rfl L3.out ?_) | (refine wpList_build_is (by rfl) 51 rfl rfl B3.out ?_) | (refine wpList_eql_is (by rfl) 51 rfl rfl rfl eqg24 Q3.out ?_))
 all_goals go_ret
 all_goals (refine⟨?_,HB.out⟩)
 all_goals (clear c0 c2 c4 L3 B3 Q3;unfold commitB;simp_all <;> (intros;omega))
theorem chk_image (r:Rec)(hp:r.pos≤4611686018427387904)(h:imageB r=true):chk r=0:=by
 unfold chk may;rw[h,decide_eq_true hp];rfl
theorem chk_commit (r:Rec)(hp:r.pos≤4611686018427387904)(h:commitB r=true):chk r=0:=by
 unfold chk may;rw[h,decide_eq_true hp];simp
theorem chk_none (r:Rec)(h:imageB r=false)(h2:commitB r=false):chk r=60:=by
 unfold chk may;rw[h,h2];simp
theorem chk_pos (r:Rec)(hp:¬r.pos≤4611686018427387904):chk r=60:=by
 unfold chk may;rw[decide_eq_false hp];rfl
theorem check_any (r:Rec)(hv:r.val.length=32)(w:World) :
  Calls prog 201 #[.agg (rcells r).toArray] w fun e w'=>e=.returned (.int .i64 (chk r))∧Below w.heap.size w w':=by
 have hA:=RAt.new 180 w r
 have c1:=hA.c1
 have L1:Hid (_):=hA.load31 hv
 have HA:Hid (RAt 180 (w.alloc (.cells (rcells r).toArray 180)) w.heap.size r):=hA
 have HB:Hid (Below w.heap.size w (w.alloc (.cells (rcells r).toArray 180))):=below_alloc w _
 have HV:Hid (r.val.length=32):=hv
 clear hA hv
 go_enter func201,ntmps201
 by_cases hp:r.pos≤4611686018427387904
 ·have hp':¬4611686018427387904<r.pos:=by omega
  go_wp2_with (refine wpList_load_is (by rfl) 180 rfl rfl L1.out ?_)
  refine (image_any r HV.out _).mono ?_
  rintro e w1 ⟨rfl,b1⟩
  have HA1:Hid (RAt 180 w1 w.heap.size r):=HA.out.later b1
  have HB1:Hid (Below w.heap.size w w1):=below_then HB.out b1
  have L2:Hid (_):=HA1.out.load31 HV.out
  clear c1 L1 b1 HA HB
  cases hi:imageB r with
  | true =>
   have HC:Hid (chk r=0):=chk_image r hp hi
   go_wp2_with fail
   go_ret
   exact⟨by rw[HC.out];rfl,HB1.out⟩
  | false =>
   go_wp2_with (refine wpList_load_is (by rfl) 180 rfl rfl L2.out ?_)
   refine (commit_any r HV.out _).mono ?_
   rintro e w2 ⟨rfl,b2⟩
   have HB2:Hid (Below w.heap.size w w2):=below_then HB1.out b2
   clear b2 L2
   cases hc:commitB r with
   | true =>
    have HC:Hid (chk r=0):=chk_commit r hp hc
    go_wp2_with fail
    go_ret
    exact⟨by rw[HC.out];rfl,HB2.out⟩
   | false =>
    have HC:Hid (chk r=60):=chk_none r hi hc
    go_wp2_with fail
    go_ret
    exact⟨by rw[HC.out];rfl,HB2.out⟩
 ·have HC:Hid (chk r=60):=chk_pos r hp
  have hp':4611686018427387904<r.pos:=by omega
  go_wp2_with fail
  go_ret
  exact⟨by rw[HC.out];rfl,HB.out⟩
theorem number_rec (r:Rec)(hv:r.val.length=32)(hm:may r=true)(w:World) :
  Calls prog 203 #[.agg (rcells r).toArray] w fun e w'=>e=.returned (.int .u64 (numS r))∧Below w.heap.size w w':=by
 have hA:=RAt.new 180 w r
 have c0:=hA.c0
 have c2:=hA.c2
 have c4:=hA.c35 hv
 have HB:Hid (Below w.heap.size w (w.alloc (.cells (rcells r).toArray 180))):=below_alloc w _
 have hn:=numS_bd r hm
 clear hA hv
 by_cases hk:r.kind=1
 ·have e:numS r=r.block:=by unfold numS;rw[if_pos hk]
  rw[e] at hn ⊢
  obtain ⟨h0,h1⟩:=hn
  clear hm e
  go_enter func203,ntmps203
  go_wp2
  go_ret
  exact⟨rfl,HB.out⟩
 ·have e:numS r=r.images:=by unfold numS;rw[if_neg hk]
  rw[e] at hn ⊢
  obtain ⟨h0,h1⟩:=hn
  clear hm e
  go_enter func203,ntmps203
  go_wp2
  go_ret
  exact⟨rfl,HB.out⟩
theorem rput_any (n:Int)(k:Nat)(w:World)(hn0:0≤n)(hk:1≤k∧k≤8)(hn:n / 256 ^ k=0) :
  Calls prog 202 #[.int .u64 n,.int .i64 k] w fun e w'=>∃p c,e=.returned (.slice p k c)∧Made w w' p k c (digits k n):=by
 go_enter func202,ntmps202
 go_wp2_with fail
 refine (put_ok n k w hn0 hk hn).mono ?_
 rintro e w1 ⟨v,rfl,ho,hb⟩
 obtain ⟨p,c,rfl,hm⟩:=made_of ho (digits_bytes k n) hb
 clear ho hb hn
 go_wp2_with fail
 go_ret
 exact⟨p,c,rfl,hm⟩
theorem RAt.vin {t:TypeId}{w:World}{g:Nat}{r:Rec}(h:RAt t w g r)(hw:r.Wf):BIn w (some ⟨g,3,none⟩) 32 r.val:=by
 refine⟨hw.len,hw.byte,fun _=>⟨g,3,rfl,fun i hi=>?_⟩⟩
 have hi':i<r.val.length:=by rw[hw.len];exact hi
 rw[h.cell (3+i),rcells_val r i hi']
 simp[List.getD,List.getElem?_eq_getElem hi']
theorem join_new {w:World}{vs:List Value}{ls:List (List Int)}(h:SIns w vs ls)(n:Nat)(hn:vs.length=n)(hb:ls.flatten.length≤100000)(hn2:n≤100) :
  Calls prog 172 #[.slice (some ⟨w.heap.size,0,none⟩) n n] (w.alloc (.cells vs.toArray 107)) fun e w'=>∃p c,e=.returned (.slice p ls.flatten.length c)∧Made w w' p ls.flatten.length c ls.flatten:=by
 have hB:∀l∈ls,Bytes l:=by
  intro l hl
  obtain ⟨i,hi,rfl⟩:=List.getElem_of_mem hl
  obtain ⟨_,_,_,_,h1,_⟩:=h.at i (by rw[← h.len];exact hi) hi
  exact h1.byte
 refine (join_any _ n n vs ls _ (pin_new h n hn) (by omega) (by omega)).mono ?_
 rintro e w' ⟨v,rfl,ho,hb2⟩
 exact (made_of (own_mono ho (by simp)) (Bytes.flatten hB) (below_of_alloc hb2)).elim fun p ⟨c,e,m⟩=>⟨p,c,by rw[e],m⟩
theorem dig1 (k:Int)(h0:0≤k)(h1:k<256):digits 1 k=[k]:=by
 simp only[digits];rw[Int.emod_eq_of_lt h0 h1]
theorem div_zero (n m:Int)(h0:0≤n)(h1:n<m):n / m=0:=Int.ediv_eq_zero_of_lt h0 h1
theorem div1 (n:Int)(h0:0≤n)(h1:n<256):n / 256 ^ 1=0:=div_zero _ _ h0 (by rw[show (256:Int) ^ 1=256 by decide];omega)
theorem div8 (n:Int)(h0:0≤n)(h1:n≤18446744073709551615):n / 256 ^ 8=0:=div_zero _ _ h0 (by rw[show (256:Int) ^ 8=18446744073709551616 by decide];omega)
theorem div4 (n:Int)(h0:0≤n)(h1:n<4294967296):n / 256 ^ 4=0:=div_zero _ _ h0 (by rw[show (256:Int) ^ 4=4294967296 by decide];omega)
theorem chk_yes (r:Rec)(h:may r=true):chk r=0:=by unfold chk;rw[if_pos h]
theorem encode_good (r:Rec)(hw:r.Wf)(hm:may r=true)(w:World)(ht:Half w) :
  Calls prog 158 #[.agg (rcells r).toArray] w fun e w'=>∃p c,e=.returned (.tuple #[.slice p 64 c,.int .i64 0])∧Made w w' p 64 c (encS r):=by
 have HW:Hid (r.Wf):=hw
 have HM:Hid (may r=true):=hm
 have L1:Hid (_):=(RAt.new 180 w r).load31 hw.len
 have hc:=chk_yes r hm
 have HT:Hid (Half w):=ht
 have HN:Hid (0≤numS r∧numS r<64):=numS_bd r hm
 have HK:Hid (0≤r.kind∧r.kind<256):=by have:=may_kind hm;exact⟨by omega,by omega⟩
 have HP:Hid (0≤r.pos∧r.pos≤18446744073709551615):=⟨hw.p0,hw.p1⟩
 go_enter func158,ntmps158
 go_wp2_with (refine wpList_load_is (by rfl) 180 rfl rfl L1.out ?_)
 refine (check_any r hw.len _).mono ?_
 rintro e w1 ⟨rfl,b1⟩
 rw[hc]
 have HB1:Hid (Below w.heap.size w w1):=below_of_alloc b1
 have HA1:Hid (RAt 180 w1 w.heap.size r):=(RAt.new 180 w r).later b1
 clear b1 L1 hm hc hw ht
 go_wp2_with fail
 have k0:=HK.out.1
 have k1:=HK.out.2
 have ks:IntKind.u64.wrap r.kind=r.kind:=by rw[IntKind.wrap_u64];omega
 refine wp_region_noPanic ?_
 refine wp_region_held_drew (S:=fun w'=>RAt 180 w' w.heap.size r) (by kernel_rfl) HA1.out.drew (fun hHeld=>?_)
 refine tk 1 hHeld ?_
 refine tkl 2 hHeld (fun _ hSw=>RAt.c0 hSw) ?_
 refine tk 3 hHeld ?_
 refine tk 6 hHeld ?_
 refine tkl 7 hHeld (fun _ hSw=>RAt.c1 hSw) ?_
 refine wpAnyH_take (i:=9) (v:=_) (by simp;rfl) (by kernel_rfl) (by kernel_rfl) (by kernel_rfl) (fun _ _ _ h=>h) (yieldsIf_load_mid (by rfl) 180 (.tmp 1) rfl w.heap.size 0 rfl (rcells r) _ (fun _ h=>RAt.range h) underlying180 rfl (by rw[size31,rcells_len r HW.out.len])) hHeld ?_
 simp only[Act.put,zA,zB,zC]
 refine tk 12 hHeld ?_
 refine tk 13 hHeld ?_
 refine wpAnyH_ready (rs:=[0]) (by kernel_rfl) (by simp) ?_
 refine AllReadyH.cons (by simp;rfl) (fun Kc hKc=>?_) AllReadyH.nil
 go_simp
 refine (rput_any 87 1 w1.drew (by omega) (by omega) (by decide)).mono ?_
 rintro e w2 ⟨p2,c2,rfl,m2⟩
 have HB2:Hid (Below w1.heap.size w1 w2):=below_undrew m2.below
 have HS2:Hid (SIn w2 (.slice p2 1 c2) [87]):=m2.sin
 have HA2:Hid (RAt 180 w2 w.heap.size r):=HA1.out.later HB2.out
 clear m2
 refine hKc.out _ _ HA2.out (fun hHeld=>?_)
 clear hKc Kc
 refine wpAnyH_ready (rs:=[4]) (by kernel_rfl) (by simp) ?_
 refine AllReadyH.cons (by simp;rfl) (fun Kc hKc=>?_) AllReadyH.nil
 go_simp
 refine (rput_any r.kind 1 w2 k0 (by omega) (div1 _ k0 k1)).mono ?_
 rintro e w3 ⟨p3,c3,rfl,m3⟩
 have HB3:Hid (Below w2.heap.size w2 w3):=m3.below
 have HS3:Hid (SIn w3 (.slice p3 1 c3) [r.kind]):=by have:=m3.sin;rw[dig1 r.kind k0 k1] at this;exact this
 have HA3:Hid (RAt 180 w3 w.heap.size r):=HA2.out.later HB3.out
 clear m3
 refine hKc.out _ _ HA3.out (fun hHeld=>?_)
 clear hKc Kc
 refine wpAnyH_ready (rs:=[5]) (by kernel_rfl) (by simp) ?_
 refine AllReadyH.cons (by simp;rfl) (fun Kc hKc=>?_) AllReadyH.nil
 go_simp
 refine (rput_any 0 2 w3 (by omega) (by omega) (by decide)).mono ?_
 rintro e w4 ⟨p4,c4,rfl,m4⟩
 have HB4:Hid (Below w3.heap.size w3 w4):=m4.below
 have HS4:Hid (SIn w4 (.slice p4 2 c4) [0,0]):=m4.sin
 have HA4:Hid (RAt 180 w4 w.heap.size r):=HA3.out.later HB4.out
 clear m4
 refine hKc.out _ _ HA4.out (fun hHeld=>?_)
 clear hKc Kc
 refine wpAnyH_ready (rs:=[8]) (by kernel_rfl) (by simp) ?_
 refine AllReadyH.cons (by simp;rfl) (fun Kc hKc=>?_) AllReadyH.nil
 go_simp
 refine (rput_any r.pos 8 w4 HP.out.1 (by omega) (div8 _ HP.out.1 HP.out.2)).mono ?_
 rintro e w5 ⟨p5,c5,rfl,m5⟩
 have HB5:Hid (Below w4.heap.size w4 w5):=m5.below
 have HS5:Hid (SIn w5 (.slice p5 8 c5) (digits 8 r.pos)):=m5.sin
 have HA5:Hid (RAt 180 w5 w.heap.size r):=HA4.out.later HB5.out
 clear m5
 refine hKc.out _ _ HA5.out (fun hHeld=>?_)
 clear hKc Kc
 refine wpAnyH_ready (rs:=[10]) (by kernel_rfl) (by simp) ?_
 refine AllReadyH.cons (by simp;rfl) (fun Kc hKc=>?_) AllReadyH.nil
 go_simp
 refine (number_rec r HW.out.len HM.out w5).mono ?_
 rintro e w6 ⟨rfl,b6⟩
 have HB6:Hid (Below w5.heap.size w5 w6):=b6
 have HA6:Hid (RAt 180 w6 w.heap.size r):=HA5.out.later HB6.out
 clear b6
 refine hKc.out _ _ HA6.out (fun hHeld=>?_)
 clear hKc Kc
 refine wpAnyH_ready (rs:=[11]) (by kernel_rfl) (by simp) ?_
 refine AllReadyH.cons (by simp;rfl) (fun Kc hKc=>?_) AllReadyH.nil
 go_simp
 refine (rput_any (numS r) 4 w6 HN.out.1 (by omega) (div4 _ HN.out.1 (by have:=HN.out.2;omega))).mono ?_
 rintro e w7 ⟨p7,c7,rfl,m7⟩
 have HB7:Hid (Below w6.heap.size w6 w7):=m7.below
 have HS7:Hid (SIn w7 (.slice p7 4 c7) (digits 4 (numS r))):=m7.sin
 have HA7:Hid (RAt 180 w7 w.heap.size r):=HA6.out.later HB7.out
 clear m7
 refine hKc.out _ _ HA7.out (fun hHeld=>?_)
 clear hKc Kc
 have B67:=HB7.out
 have B57:=below_then HB6.out B67
 have B47:=below_then HB5.out B57
 have B37:=below_then HB4.out B47
 have B27:=below_then HB3.out B37
 have B17:=below_then HB2.out B27
 have HSS:Hid (SIns w7 [.slice p2 1 c2,.slice p3 1 c3,.slice p4 2 c4,.slice p5 8 c5,.slice p7 4 c7,.slice (some ⟨w.heap.size,3,none⟩) 32 32] [[87],[r.kind],[0,0],digits 8 r.pos,digits 4 (numS r),r.val]) :=
  ⟨HS2.out.later B27,HS3.out.later B37,HS4.out.later B47,HS5.out.later B57,HS7.out,⟨_,_,_,rfl,HA7.out.vin HW.out,Nat.le_refl _,fun e=>by cases e⟩,trivial⟩
 have HF:Hid ([[87],[r.kind],[0,0],digits 8 r.pos,digits 4 (numS r),r.val].flatten=head r):=by show _=_;simp[head]
 have HFL:Hid ((head r).length=48):=head_len r HW.out.len
 have HBW:Hid (Below w.heap.size w w7):=below_then HB1.out B17
 clear B67 B57 B47 B37 B27 B17 HB2 HB3 HB4 HB5 HB6 HB7 HS2 HS3 HS4 HS5 HS7 HA2 HA3 HA4 HA5 HA6 HB1 HA1
 refine wpAnyH_ready (rs:=[14]) (by kernel_rfl) (by simp) ?_
 refine AllReadyH.cons (by simp;rfl) (fun Kc hKc=>?_) AllReadyH.nil
 go_simp
 refine hKc.out _ _ (HA7.out.later (below_alloc w7 _)) (fun hHeld=>?_)
 clear hKc Kc
 refine wpAnyH_ready (rs:=[15]) (by kernel_rfl) (by simp) ?_
 refine AllReadyH.cons (by simp;rfl) (fun Kc hKc=>?_) AllReadyH.nil
 go_simp
 refine (join_new HSS.out 6 rfl (by rw[HF.out,HFL.out];omega) (by omega)).mono ?_
 rintro e w8 ⟨p8,c8,rfl,m8⟩
 rw[HF.out,HFL.out] at m8
 rw[HF.out,HFL.out]
 have HA8:Hid (RAt 180 w8 w.heap.size r):=HA7.out.later m8.below
 have HB8:Hid (Below w.heap.size w w8):=below_then HBW.out m8.below
 have HR8:Hid (BIn w8 p8 48 (head r)):=m8.read
 clear m8 HSS HF HFL HBW HA7
 refine hKc.out _ _ HA8.out (fun hHeld=>?_)
 clear hKc Kc
 refine tk 16 hHeld ?_
 refine wpAnyH_done (by kernel_rfl) (NoPanic.normal ?_) _
 clear hHeld
 go_wp2_with fail
 refine (pad_ok p8 48 c8 (head r) 60 w8 (by omega) (by omega) HR8.out).mono ?_
 rintro e w9 ⟨v9,rfl,ho9,hb9⟩
 obtain ⟨p9,c9,rfl,m9⟩:=made_of ho9 ((head_bytes r HW.out HM.out).append (zs_bytes 12)) hb9
 have HS9:Hid (SIn w9 (.slice p9 60 c9) (body r)):=m9.sin
 have HB9:Hid (Below w.heap.size w w9):=below_then HB8.out hb9
 have HL9:Hid ((body r).length=60):=body_len r HW.out.len
 clear ho9 hb9 m9 HR8 HB8 HA8
 go_wp2_with fail
 refine (of_new p9 60 c9 (body r) HS9.out (by rw[HL9.out];omega) (HT.out.later HB9.out)).mono ?_
 rintro e w10 ⟨rfl,b10⟩
 have HS10:Hid (SIn w10 (.slice p9 60 c9) (body r)):=HS9.out.later b10
 have HB10:Hid (Below w.heap.size w w10):=below_then HB9.out b10
 have hcl:=crc_lt (body r) (body_bytes r HW.out HM.out)
 have HE:Hid (encS r=[body r,digits 4 ((crc (body r):Nat):Int)].flatten):=by show _=_;simp[encS]
 have HEL:Hid ((encS r).length=64):=encS_len r HW.out.len
 clear b10 HS9 HB9
 generalize crc (body r)=S at *
 go_wp2_with fail
 refine (rput_any (S:Int) 4 w10 (by omega) (by omega) (div4 _ (by omega) (by omega))).mono ?_
 rintro e w11 ⟨p11,c11,rfl,m11⟩
 have HSS:Hid (SIns w11 [.slice p9 60 c9,.slice p11 4 c11] [body r,digits 4 (S:Int)]):=⟨HS10.out.later m11.below,m11.sin,trivial⟩
 have HB11:Hid (Below w.heap.size w w11):=below_then HB10.out m11.below
 clear m11 HS10 HB10
 go_wp2_with fail
 refine (join_new HSS.out 2 rfl (by rw[← HE.out,HEL.out];omega) (by omega)).mono ?_
 rintro e w12 ⟨p12,c12,rfl,m12⟩
 rw[← HE.out,HEL.out] at m12
 rw[← HE.out,HEL.out]
 have HM12:Hid (Made w11 w12 p12 64 c12 (encS r)):=m12
 clear m12 HSS
 go_wp2_with fail
 go_ret2
 exact⟨p12,c12,rfl,own_mono HM12.out.own HB11.out.size,HM12.out.read,HM12.out.le,HM12.out.nil,below_then HB11.out HM12.out.below⟩
end Go.Proofs.YtcdjepkhdjpjcaaGreatDoor.R
namespace Go.Proofs.YtcdjepkhdjpjcaaGreatDoor.R
open Go.RowKit
section
variable {P:Program} {o:Oper} {a:Act} {w w':World} {K:Act→World→Prop} {Q:Exit→Act→World→Prop}
theorem yields_build_is {ops:Array Oper}{S:World→Prop}(hw:Region.wanted o (yielded ops a.tmps)=true)(ty:TypeId){ps:Array (Nat × Operand)}(ho:o.op=.build ty ps){vs:List (Nat × Value)}{v:Value}(hx:ps.toList.map (fun (i,x)=>(i,a.eval x))=vs)(hrun:∀w,(Instr.build ty vs.toArray).run P w=.ok v w):YieldsIf P ops S o v a :=
 .inl ⟨hw,fun w _=>by unfold execOp;simp only[ho];rw[show ps.map (fun (i,x)=>(i,a.eval x))=vs.toArray by rw[← hx,← Array.toList_map]];simp only[Sem.run_bind,hrun w,Result.andThen_ok,Sem.run_pure]⟩
end
end Go.Proofs.YtcdjepkhdjpjcaaGreatDoor.R
namespace Go.Proofs.YtcdjepkhdjpjcaaGreatDoor.G
open Go.Proofs.Tryz
open Go.RowKit
theorem cap_any (n:Int)(w:World) :
  Calls prog 224 #[.int .i64 n] w fun e w'=>e=.returned (.bool (decide (Cap n)))∧w=w':=by
 go_enter func224,ntmps224
 go_wp2
 all_goals go_ret
 all_goals (refine⟨?_,rfl⟩;simp[Cap];omega)
theorem wrap_cap {n:Int}(h:Cap n):IntKind.u64.wrap n=n:=by
 have:=h.1;have:=h.2
 rw[IntKind.wrap_u64]
 omega
theorem mod_cap (p:Int){n:Int}(h:Cap n):0≤p % n∧p % n<64:=by
 have h1:=h.1
 have h2:=h.2
 have h3:=Int.emod_nonneg p (show n≠0 by omega)
 have h4:=Int.emod_lt_of_pos p (show 0<n by omega)
 omega
theorem wrap_mod (p:Int){n:Int}(h:Cap n):wrap64 (p % n)=p % n:=by
 have:=mod_cap p h
 unfold wrap64
 omega
theorem slotOf_any (p n:Int)(hp:0≤p)(hn:Cap n)(w:World) :
  Calls prog 225 #[.int .u64 p,.int .i64 n] w fun e w'=>e=.returned (.int .i64 (p % n))∧w=w':=by
 have h1:=hn.1
 have h2:=hn.2
 have hw:=wrap_cap hn
 have hm:=wrap_mod p hn
 go_enter func225,ntmps225
 go_wp2
 all_goals go_ret
 all_goals (refine⟨?_,rfl⟩)
 all_goals simp[hm]
abbrev pairI (x:Int × Int):Value:=.tuple #[.int .i64 x.1,.int .i64 x.2]
theorem slot_any (p n:Int)(h0:0≤p)(w:World) :
  Calls prog 204 #[.int .u64 p,.int .i64 n] w fun e w'=>e=.returned (pairI (slotS p n))∧w=w':=by
 by_cases hn:Cap n
 ·have hd:=decide_eq_true hn
  by_cases hp:p>4611686018427387968
  ·have hs:Hid (slotS p n=(0,31)):=by show _=_;simp[slotS,hn,hp]
   have hp':4611686018427387968<p:=by omega
   clear hp
   go_enter func204,ntmps204
   go_wp2_with (go_at_call 224;refine (cap_any _ _).mono ?_;rintro e w' ⟨rfl,rfl⟩)
   go_ret2
   exact⟨by rw[hs.out];rfl,rfl⟩
  ·have hs:Hid (slotS p n=(p % n,0)):=by show _=_;simp[slotS,hn,hp]
   have hp':¬4611686018427387968<p:=by omega
   clear hp
   go_enter func204,ntmps204
   go_wp2_with (first | (go_at_call 224;refine (cap_any _ _).mono ?_;rintro e w' ⟨rfl,rfl⟩) | (go_at_call 225;refine (slotOf_any _ _ h0 hn _).mono ?_;rintro e w' ⟨rfl,rfl⟩))
   go_ret2
   exact⟨by rw[hs.out];rfl,rfl⟩
 ·have hd:=decide_eq_false hn
  have hs:Hid (slotS p n=(0,2)):=by show _=_;simp[slotS,hn]
  go_enter func204,ntmps204
  go_wp2_with (go_at_call 224;refine (cap_any _ _).mono ?_;rintro e w' ⟨rfl,rfl⟩)
  go_ret2
  exact⟨by rw[hs.out];rfl,rfl⟩
theorem wrap_u {x:Int}(h0:0≤x)(h1:x<18446744073709551616):IntKind.u64.wrap x=x:=by
 rw[IntKind.wrap_u64];omega
end Go.Proofs.YtcdjepkhdjpjcaaGreatDoor.G
namespace Go.Proofs.YtcdjepkhdjpjcaaGreatDoor
open Go.Proofs.Tryz
open Go.RowKit
def lcells (dp:Option Addr)(g:Lg):List Value:=[.pointer dp,.int .i64 g.c.bl,.int .i64 g.c.lc,.int .i64 g.c.mr,.int .i64 g.c.hi,.int .i64 g.c.cl,.int .u64 g.life,.int .u64 g.tail,.int .u64 g.fin,.int .u64 g.mark,.int .i64 g.imgs,.int .i64 g.last]
abbrev GAt (w:World)(L:Nat)(dp:Option Addr)(g:Lg):Prop:=LAt 92 w L (lcells dp g)
section
variable {w:World} {L:Nat} {dp:Option Addr} {g:Lg}
theorem GAt.c0 (h:GAt w L dp g):w.cell? ⟨L,0,none⟩=some (.pointer dp):=LAt.cell h 0
theorem GAt.c1 (h:GAt w L dp g):w.cell? ⟨L,1,none⟩=some (.int .i64 g.c.bl):=LAt.cell h 1
theorem GAt.c2 (h:GAt w L dp g):w.cell? ⟨L,2,none⟩=some (.int .i64 g.c.lc):=LAt.cell h 2
theorem GAt.c3 (h:GAt w L dp g):w.cell? ⟨L,3,none⟩=some (.int .i64 g.c.mr):=LAt.cell h 3
theorem GAt.c6 (h:GAt w L dp g):w.cell? ⟨L,6,none⟩=some (.int .u64 g.life):=LAt.cell h 6
theorem GAt.c7 (h:GAt w L dp g):w.cell? ⟨L,7,none⟩=some (.int .u64 g.tail):=LAt.cell h 7
theorem GAt.c8 (h:GAt w L dp g):w.cell? ⟨L,8,none⟩=some (.int .u64 g.fin):=LAt.cell h 8
theorem GAt.c9 (h:GAt w L dp g):w.cell? ⟨L,9,none⟩=some (.int .u64 g.mark):=LAt.cell h 9
theorem GAt.c10 (h:GAt w L dp g):w.cell? ⟨L,10,none⟩=some (.int .i64 g.imgs):=LAt.cell h 10
theorem GAt.c11 (h:GAt w L dp g):w.cell? ⟨L,11,none⟩=some (.int .i64 g.last):=LAt.cell h 11
theorem GAt.free (h:GAt w L dp g)(j:Nat):w.frozen? ⟨L,j,none⟩=false:=frozen_of_row w L j _ 92 h
theorem GAt.rangeC (h:GAt w L dp g):w.rangeAt L 1 (ccells g.c):=fun j v hv=>by
 have hj:j<5:=by
  have:=(List.getElem?_eq_some_iff.1 hv).1
  simpa [ccells] using this
 rw[LAt.cell h (1+j)]
 rw[← hv]
 match j with
 | 0=>rfl
 | 1=>rfl
 | 2=>rfl
 | 3=>rfl
 | 4=>rfl
 | j+5=>omega
theorem GAt.setF (h:GAt w L dp g)(x:Int):GAt (w.setCell ⟨L,8,none⟩ (.int .u64 x)) L dp { g with fin:=x }:=LAt.set h 8 _
theorem GAt.setT (h:GAt w L dp g)(x:Int):GAt (w.setCell ⟨L,7,none⟩ (.int .u64 x)) L dp { g with tail:=x }:=LAt.set h 7 _
theorem GAt.setM (h:GAt w L dp g)(x:Int):GAt (w.setCell ⟨L,9,none⟩ (.int .u64 x)) L dp { g with mark:=x }:=LAt.set h 9 _
theorem GAt.setI (h:GAt w L dp g)(x:Int):GAt (w.setCell ⟨L,10,none⟩ (.int .i64 x)) L dp { g with imgs:=x }:=LAt.set h 10 _
theorem GAt.setB (h:GAt w L dp g)(x:Int):GAt (w.setCell ⟨L,11,none⟩ (.int .i64 x)) L dp { g with last:=x }:=LAt.set h 11 _
end
structure LD (w:World) (S:Nat→Prop) (L p:Nat) (d:List Int) (ws:List Wr) (g:Lg):Prop where
 log:GAt w L (some ⟨p,0,none⟩) g
 dsk:Dsk w (fun k=>S k∧k≠L) p g.sz d ws
 sl:S L
 ok:g.Ok
section
variable {w w':World} {S T:Nat→Prop} {L p:Nat} {d:List Int} {ws:List Wr} {g:Lg}
theorem LD.later (h:LD w S L p d ws g)(hb:Below w.heap.size w w'):LD w' S L p d ws g:=⟨LAt.later h.log hb,h.dsk.later hb,h.sl,h.ok⟩
theorem LD.kept (h:LD w S L p d ws g)(hk:Kept T w w')(hd:∀k,S k→T k→False):LD w' S L p d ws g :=
 ⟨(hk.block L (LAt.lt h.log) (fun t=>hd L h.sl t)).trans h.log,h.dsk.kept hk (fun k s t=>hd k s.1 t),h.sl,h.ok⟩
theorem LD.mono (h:LD w S L p d ws g)(hs:∀k,k<w.heap.size→S k→T k):LD w T L p d ws g :=
 ⟨h.log,h.dsk.mono fun k hk s=>⟨hs k hk s.1,s.2⟩,hs L (LAt.lt h.log) h.sl,h.ok⟩
theorem LD.wrote (h:LD w S L p d ws g){d':List Int}{ws':List Wr}(hd:Dsk w' (More (fun k=>S k∧k≠L) w) p g.sz d' ws')(hk:Kept (fun k=>S k∧k≠L) w w'):LD w' (More S w) L p d' ws' g∧Kept S w w':=by
 have hL:=LAt.lt h.log
 refine⟨⟨(hk.block L hL (fun t=>t.2 rfl)).trans h.log,hd.mono fun k _ s=>?_,.inl h.sl,h.ok⟩,⟨hk.os,hk.tape,hk.output,hk.size,fun k h1 h2=>hk.block k h1 fun t=>h2 t.1⟩⟩
 rcases s with s | s
 ·exact⟨.inl s.1,s.2⟩
 ·exact⟨.inr s,by omega⟩
theorem LD.flushed (h:LD w S L p d ws g){d':List Int}{ws':List Wr}(hd:Dsk w' (fun k=>S k∧k≠L) p g.sz d' ws')(hk:Kept (fun k=>S k∧k≠L) w w'):LD w' S L p d' ws' g∧Kept S w w':=by
 have hL:=LAt.lt h.log
 exact⟨⟨(hk.block L hL (fun t=>t.2 rfl)).trans h.log,hd,h.sl,h.ok⟩,⟨hk.os,hk.tape,hk.output,hk.size,fun k h1 h2=>hk.block k h1 fun t=>h2 t.1⟩⟩
theorem LD.set (h:LD w S L p d ws g)(j:Nat)(v:Value){g':Lg}(hg:GAt (w.setCell ⟨L,j,none⟩ v) L (some ⟨p,0,none⟩) g')(hc:g'.c=g.c)(ok:g'.Ok):LD (w.setCell ⟨L,j,none⟩ v) S L p d ws g':=by
 have hz:g'.sz=g.sz:=by unfold Lg.sz;rw[hc]
 refine⟨hg,?_,h.sl,ok⟩
 rw[hz]
 exact h.dsk.kept (T:=fun k=>k=L) ⟨rfl,rfl,rfl,by simp[World.setCell],fun k _ hk=>heap_setCell_other w ⟨L,j,none⟩ k v hk⟩ (fun k s t=>s.2 t)
end
theorem lacks_some {w:World}{L p:Nat}{g:Lg}(h:GAt w L (some ⟨p,0,none⟩) g):Calls prog 97 #[.pointer (some ⟨L,0,none⟩)] w fun e w'=>e=.returned (.bool false)∧w=w':=by
 have c0:=GAt.c0 h
 clear h
 go_enter func97,ntmps97
 go_wp2
 go_ret
 exact⟨rfl,rfl⟩
theorem ltail_at {w:World}{L:Nat}{dp:Option Addr}{g:Lg}(h:GAt w L dp g):Calls prog 22 #[.pointer (some ⟨L,0,none⟩)] w fun e w'=>e=.returned (.int .u64 g.tail)∧w=w':=by
 have c7:=GAt.c7 h
 clear h
 go_enter func22,ntmps22
 go_wp2
 go_ret
 exact⟨rfl,rfl⟩
theorem lend_at {w:World}{L:Nat}{dp:Option Addr}{g:Lg}(h:GAt w L dp g):Calls prog 14 #[.pointer (some ⟨L,0,none⟩)] w fun e w'=>e=.returned (.int .u64 g.fin)∧w=w':=by
 have c8:=GAt.c8 h
 clear h
 go_enter func14,ntmps14
 go_wp2
 go_ret
 exact⟨rfl,rfl⟩
theorem lmarked_at {w:World}{L:Nat}{dp:Option Addr}{g:Lg}(h:GAt w L dp g):Calls prog 103 #[.pointer (some ⟨L,0,none⟩)] w fun e w'=>e=.returned (.int .u64 g.mark)∧w=w':=by
 have c9:=GAt.c9 h
 clear h
 go_enter func103,ntmps103
 go_wp2
 go_ret
 exact⟨rfl,rfl⟩
theorem lused_at {w:World}{L:Nat}{dp:Option Addr}{g:Lg}(h:GAt w L dp g)(ok:g.Ok):Calls prog 157 #[.pointer (some ⟨L,0,none⟩)] w fun e w'=>e=.returned (.int .i64 (g.fin-g.tail))∧w=w':=by
 have HG:Hid (GAt w L dp g):=h
 have hn:0≤g.fin-g.tail∧g.fin-g.tail≤64:=by have:=ok.tm;have:=ok.mf;have:=ok.us;have:=ok.cf.2.1;omega
 clear h ok
 go_enter func157,ntmps157
 go_wp2_with fail
 refine (lend_at HG.out).mono ?_
 rintro e w1 ⟨rfl,rfl⟩
 go_wp2_with fail
 refine (ltail_at HG.out).mono ?_
 rintro e w1 ⟨rfl,rfl⟩
 have k1:IntKind.u64.wrap (g.fin-g.tail)=g.fin-g.tail:=G.wrap_u hn.1 (by omega)
 have k2:RowKit.wrap64 (g.fin-g.tail)=g.fin-g.tail:=by have:=IntKind.wrap_i64 (g.fin-g.tail);unfold RowKit.wrap64;omega
 go_wp2
 go_ret
 exact⟨rfl,rfl⟩
theorem slot_of {g:Lg}(ok:g.Ok){p:Int}(h1:p≤4611686018427387904):G.slotS p g.c.lc=(p % g.c.lc,0):=by
 have:=ok.cf.2.1
 unfold G.slotS
 rw[if_pos ⟨by omega,by omega⟩,if_neg (by omega)]
theorem sector_at {w:World}{L:Nat}{dp:Option Addr}{g:Lg}(h:GAt w L dp g)(ok:g.Ok)(p:Int)(h0:0≤p)(h1:p≤4611686018427387904):Calls prog 160 #[.pointer (some ⟨L,0,none⟩),.int .u64 p] w fun e w'=>e=.returned (.int .i64 (secN g p))∧w=w':=by
 have c1:=GAt.c1 h
 have c2:=GAt.c2 h
 have HS:Hid (_):=slot_of ok h1
 have HN:Hid (secN g p=1+g.c.bl+p % g.c.lc):=rfl
 have hb:=ok.cf.1
 have hl:=ok.cf.2.1
 have hm0:=Int.emod_nonneg p (show g.c.lc≠0 by omega)
 have hm1:=Int.emod_lt_of_pos p (show 0<g.c.lc by omega)
 clear h ok
 go_enter func160,ntmps160
 go_wp2_with fail
 refine (G.slot_any p g.c.lc h0 w).mono ?_
 rintro e w1 ⟨rfl,rfl⟩
 rw[HS.out]
 have k1:IntKind.i64.wrap (1+g.c.bl)=1+g.c.bl:=by rw[IntKind.wrap_i64];omega
 have k2:IntKind.i64.wrap (1+g.c.bl+p % g.c.lc)=1+g.c.bl+p % g.c.lc:=by rw[IntKind.wrap_i64];omega
 go_wp2
 go_ret
 exact⟨by rw[HN.out];rfl,rfl⟩
structure Told (w:World) (B g:Nat) (ws:List Wr) (vs:List Value):Prop where
 len:vs.length=ws.length
 blk:Blk w g 117 (ws.length*2)
 hg:B≤g
 sect:∀i (h:i<ws.length),w.cell? ⟨g,i*2,none⟩=some (.int .i64 (ws[i].s:Int))
 data:∀i (h:i<vs.length),w.cell? ⟨g,i*2+1,none⟩=some vs[i]
 each:∀i (h:i<ws.length) (h2:i<vs.length),w.ownsRow B 5 1 vs[i] 64 (U8 ws[i].b)
 apart:∀i j (hi:i<vs.length) (hj:j<vs.length),i<j→∀a b,vs[i].ownBlock=some a→vs[j].ownBlock=some b→a<b
structure Tel (w wr:World) (ws:List Wr) (k:Nat) (vs:List Value):Prop where
 len:vs.length=k
 hk:k≤ws.length
 blk:Blk wr w.heap.size 117 (ws.length*2)
 sect:∀i (h:i<ws.length),i<k→wr.cell? ⟨w.heap.size,i*2,none⟩=some (.int .i64 (ws[i].s:Int))
 data:∀i (h:i<vs.length),wr.cell? ⟨w.heap.size,i*2+1,none⟩=some vs[i]
 each:∀i (h:i<ws.length) (h2:i<vs.length),wr.ownsRow (w.heap.size+1) 5 1 vs[i] 64 (U8 ws[i].b)
 apart:∀i j (hi:i<vs.length) (hj:j<vs.length),i<j→∀a b,vs[i].ownBlock=some a→vs[j].ownBlock=some b→a<b
 below:Below w.heap.size w wr
theorem Tel.later {w wr w':World}{ws:List Wr}{k:Nat}{vs:List Value}(h:Tel w wr ws k vs)(hb:Below wr.heap.size wr w'):Tel w w' ws k vs :=
 ⟨h.len,h.hk,h.blk.same (hb.block _ h.blk.lt),fun i hi hik=>(hb.cell (p:=⟨w.heap.size,i*2,none⟩) h.blk.lt).trans (h.sect i hi hik),fun i hi=>(hb.cell (p:=⟨w.heap.size,i*2+1,none⟩) h.blk.lt).trans (h.data i hi),fun i h1 h2=>own_later (h.each i h1 h2) hb,h.apart,h.below.trans (hb.mono h.below.size)⟩
theorem Blk.some {w:World}{g t sz:Nat}(h:Blk w g t sz)(o:Nat)(ho:o<sz):∃u,w.cell? ⟨g,o,none⟩=some u:=by
 obtain ⟨cur,h,hs⟩:=h
 exact⟨cur[o],by rw[cell_of_row w g o cur t (0,0) h,Array.getElem?_eq_getElem (by omega)]⟩
theorem Blk.free {w:World}{g t sz:Nat}(h:Blk w g t sz)(o:Nat):w.frozen? ⟨g,o,none⟩=false:=by
 obtain ⟨cur,h,hs⟩:=h
 exact frozen_of_row w g o _ t h
theorem Tel.step {w wr w1:World}{ws:List Wr}{k:Nat}{vs:List Value}{v:Value}(h:Tel w wr ws k vs)(hb:Below wr.heap.size wr w1)(hk:k<ws.length)(hv:w1.ownsRow wr.heap.size 5 1 v 64 (U8 ws[k].b)) :
  Tel w ((w1.setCell ⟨w.heap.size,k*2,none⟩ (.int .i64 (ws[k].s:Int))).setCell ⟨w.heap.size,k*2+1,none⟩ v) ws (k+1) (vs++[v]):=by
 have h1:=h.later hb
 have hlt:=h.blk.lt
 obtain ⟨u0,c0⟩:=h1.blk.some (k*2) (by omega)
 obtain ⟨u1,c1⟩:=(h1.blk.setCell (g':=w.heap.size) (o:=k*2) (.int .i64 (ws[k].s:Int))).some (k*2+1) (by omega)
 have hold:∀{vv:Value} {xs:List Value} {nn:Nat},w1.ownsRow (w.heap.size+1) 5 1 vv nn xs→((w1.setCell ⟨w.heap.size,k*2,none⟩ (.int .i64 (ws[k].s:Int))).setCell ⟨w.heap.size,k*2+1,none⟩ v).ownsRow (w.heap.size+1) 5 1 vv nn xs:=fun {vv xs nn} ho =>
  own_same ho (fun b hb'=>(heap_setCell_other _ _ _ _ (by have:=(ho.lt b hb').1;show b≠w.heap.size;omega)).trans (heap_setCell_other _ _ _ _ (by have:=(ho.lt b hb').1;show b≠w.heap.size;omega)))
 refine⟨by simp[h.len],by omega,(h1.blk.setCell _).setCell _,fun i hi hik=>?_,fun i hi=>?_,fun i hi h2=>?_,fun i j hi hj hij a b ha hb'=>?_,(h1.below.setCell (Nat.le_refl _) _).setCell (Nat.le_refl _) _⟩
 ·rw[World.cell?_setCell_other _ _ _ _ (by intro e;simp only[Addr.mk.injEq] at e;omega)]
  by_cases c:i=k
  ·subst c
   exact World.cell?_setCell_same _ _ _ c0
  ·rw[World.cell?_setCell_other _ _ _ _ (by intro e;simp only[Addr.mk.injEq] at e;omega)]
   exact h1.sect i hi (by omega)
 ·by_cases c:i<vs.length
  ·have hl:=h.len
   rw[World.cell?_setCell_other _ _ _ _ (by intro e;simp only[Addr.mk.injEq] at e;omega),World.cell?_setCell_other _ _ _ _ (by intro e;simp only[Addr.mk.injEq] at e;omega),List.getElem_append_left c]
   exact h1.data i c
  ·have e:i=k:=by simp at hi;have:=h.len;omega
   subst e
   rw[World.cell?_setCell_same _ _ _ c1]
   simp[← h.len]
 ·by_cases c:i<vs.length
  ·rw[List.getElem_append_left c]
   exact hold (h1.each i hi c)
  ·have e:i=k:=by simp at h2;have:=h.len;omega
   subst e
   have e2:(vs++[v])[i]=v:=by simp[← h.len]
   rw[e2]
   exact hold (own_mono hv (by have:=h.blk.lt;omega))
 ·by_cases c:j<vs.length
  ·rw[List.getElem_append_left c] at hb'
   rw[List.getElem_append_left (by omega)] at ha
   exact h.apart i j (by omega) c hij a b ha hb'
  ·have e:j=k:=by simp at hj;have:=h.len;omega
   subst e
   have e2:(vs++[v])[j]=v:=by simp[← h.len]
   rw[e2] at hb'
   have hi':i<vs.length:=by have:=h.len;omega
   rw[List.getElem_append_left hi'] at ha
   have f1:=(hv.lt b hb').1
   have f2:=((h.each i (by omega) hi').lt a ha).2
   omega
theorem info82:(prog.info? 117).map (fun i=>(i.zero,i.size,i.bytes))=some (some (.agg #[.int .i64 0,.slice none 0 0]),2,32):=by kernel_rfl
theorem waiting_any {w:World}{S:Nat→Prop}{p n:Nat}{d:List Int}{ws:List Wr}(h:Dsk w S p n d ws)(hk:ws.length≤100000) :
  Calls prog 25 #[.pointer (some ⟨p,0,none⟩)] w fun e w'=>∃g vs,e=.returned (.slice (some ⟨g,0,none⟩) ws.length ws.length)∧Told w' w.heap.size g ws vs∧Below w.heap.size w w':=by
 obtain ⟨i0,hi,hz0,hz1,hz2⟩:=info_parts info82
 obtain ⟨q,cap,v,h⟩:=h
 have h1:=h.cell1
 have HH:Hid (PD w S p n d ws q cap v):=h
 obtain ⟨pv,cv,rfl,_⟩:=own_slice h.wt
 clear h
 have hmk:=run_make (P:=prog) w 73 117 i0 _ underlying73 hi hz0 .i64 .i64 (ws.length:Int) (ws.length:Int) (by omega) (Int.le_refl _) (by rw[hz2];omega) (by omega)
 rw[hz1] at hmk
 simp only[Int.toNat_natCast,Value.cells] at hmk
 have HT:Hid (Tel w (w.alloc (.cells (madeCells #[.int .i64 0,.slice none 0 0] (ws.length*2)) 117)) ws 0 []) :=
  ⟨rfl,Nat.zero_le _,⟨_,heap_alloc_new w _,size_madeCells _ _⟩,fun i _ h=>by omega,fun i h=>by simp at h,fun i _ h=>by simp at h,fun i j h=>by simp at h,below_alloc w _⟩
 obtain ⟨ob,hob⟩:∃ob,Obj.cells (madeCells #[.int .i64 0,.slice none 0 0] (ws.length*2)) 117=ob:=⟨_,rfl⟩
 rw[hob] at hmk HT
 clear hob
 have h1':(w.alloc ob).cell? ⟨p,1,none⟩=some (.slice pv ws.length cv):=(HH.out.later (below_alloc w ob)).cell1
 go_enter func25,ntmps25
 go_wp2
 clear hmk h1'
 generalize w.alloc ob=W0 at *
 go_loopw [19] (fun i wr=>∃(k:Nat) (vs:List Value),i=.int .i64 k∧Hid (Tel w wr ws k vs)) (fun i _=>ws.length-(intOf i).toNat)
 case atStart=>exact⟨0,[],rfl,HT.out⟩
 case round =>
  obtain ⟨k,vs,rfl,HR⟩:=hrel
  clear HT
  have hkl:=HR.out.hk
  by_cases hlt:k<ws.length
  ·have hp1:=HH.out.later HR.out.below
   obtain ⟨g,c',e,hr⟩:=wt_range hp1.wt HH.out.fit hlt
   simp only[Value.slice.injEq,true_and] at e
   obtain ⟨rfl,rfl⟩:=e
   have HX:=HH.out.fit.at k hlt
   have HS:Hid (∀(w1:World) (v:Value),Below (wr.alloc (.cells (wcell ws[k]).toArray 125)).heap.size (wr.alloc (.cells (wcell ws[k]).toArray 125)) w1→w1.ownsRow (wr.alloc (.cells (wcell ws[k]).toArray 125)).heap.size 5 1 v 64 (U8 ws[k].b)→Tel w ((w1.setCell ⟨w.heap.size,k*2,none⟩ (.int .i64 (ws[k].s:Int))).setCell ⟨w.heap.size,k*2+1,none⟩ v) ws (k+1) (vs++[v])) :=
    fun w1 v hb ho=>(HR.out.later (below_alloc wr _)).step hb hlt ho
   have HB0:Hid (Blk (wr.alloc (.cells (wcell ws[k]).toArray 125)) w.heap.size 117 (ws.length*2)):=(HR.out.later (below_alloc wr _)).blk
   generalize ws[k]=X at *
   have t1:(wr.alloc (.cells (wcell X).toArray 125)).cell? ⟨wr.heap.size,0,none⟩=some (.int .i64 (X.s:Int)):=by
    rw[cell_of_row _ _ _ _ 125 (0,0) (heap_alloc_new wr _)];rfl
   have t2:(wr.alloc (.cells (wcell X).toArray 125)).rangeAt wr.heap.size 1 (U8 X.b):=new_range_at wr _ _ 1 125 (wcell_data X)
   have hsz:(wr.alloc (.cells (wcell X).toArray 125)).heap.size=wr.heap.size+1:=by simp
   have hwlt:w.heap.size<wr.heap.size:=HR.out.blk.lt
   have HXl:Hid (X.b.length=64):=HX.2.1
   clear HR hp1 h1
   go_wp2_with (first | (refine wpList_load_mid (by rfl) 125 (.tmp 22) (by rfl) g (k*65) (by rfl) (wcell X) _ hr underlying125 rfl (by rw[size80];simp[wcell,HX.2.1]) ?_) | (refine wpList_alloc80 (by rfl) (by rfl) ?_) | (refine wpList_store80 (by rfl) (.tmp 5) (.tmp 23) (by rfl) X (by rfl) (by rfl) HX.2.1 ?_) | fail)
   simp only[Act.put]
   obtain ⟨W,hW⟩:∃W,wr.alloc (.cells (wcell X).toArray 125)=W:=⟨_,rfl⟩
   rw[hW] at t1 t2 HS HB0 hsz ⊢
   clear hW hr HX
   have i1:(k:Int)<(ws.length:Int):=by omega
   have i0':(0:Int)≤(k:Int):=by omega
   have hne:¬wr.heap.size=w.heap.size:=by omega
   go_region_held3 (fun w'=>w'.cell? ⟨wr.heap.size,0,none⟩=some (.int .i64 (X.s:Int))∧w'.rangeAt wr.heap.size 1 (U8 X.b)) (first | exact⟨t1,t2⟩ | exact⟨a1,a2⟩ | exact⟨b1,b2⟩) (first | (go_at_call 54;refine (clone_range wr.heap.size 1 64 64 X.b _ HXl.out (by omega) ?_).mono ?_;exact (‹_∧World.rangeAt _ _ _ _›).2;rintro e wa ⟨v1,rfl,hown,hba⟩;have hba':Below W.heap.size W wa:=⟨hba.os,hba.tape,hba.output,hba.size,hba.block⟩;obtain ⟨pv1,cv1,rfl,_⟩:=own_slice hown;have a1:wa.cell? ⟨wr.heap.size,0,none⟩=some (.int .i64 (X.s:Int)):=(hba'.cell (p:=⟨wr.heap.size,0,none⟩) (by show wr.heap.size<W.heap.size;omega)).trans t1;have a2:=rangeAt_same t2 (hba'.block wr.heap.size (by omega));have HB1:=HB0.out.same (hba'.block w.heap.size HB0.out.lt);obtain ⟨u0,s0⟩:=HB1.some (k*2) (by omega);obtain ⟨u1,s1⟩:=HB1.some (k*2+1) (by omega);have f0:=HB1.free (k*2);have f1:=HB1.free (k*2+1);have HN:=HS.out wa _ hba' hown;have b1:((wa.setCell ⟨w.heap.size,k*2,none⟩ (.int .i64 (X.s:Int))).setCell ⟨w.heap.size,k*2+1,none⟩ (.slice pv1 64 cv1)).cell? ⟨wr.heap.size,0,none⟩=some (.int .i64 (X.s:Int)):=by { rw[World.cell?_setCell_far _ _ _ _ (by show w.heap.size≠wr.heap.size;omega),World.cell?_setCell_far _ _ _ _ (by show w.heap.size≠wr.heap.size;omega)];exact a1 };have b2:((wa.setCell ⟨w.heap.size,k*2,none⟩ (.int .i64 (X.s:Int))).setCell ⟨w.heap.size,k*2+1,none⟩ (.slice pv1 64 cv1)).rangeAt wr.heap.size 1 (U8 X.b):=rangeAt_same a2 ((heap_setCell_other _ _ _ _ (by show wr.heap.size≠w.heap.size;omega)).trans (heap_setCell_other _ _ _ _ (by show wr.heap.size≠w.heap.size;omega)))))
   clear b1 b2 a1 a2 s0 s1 f0 f1 HB1 HS t1 t2
   have HN2:Hid (Tel w ((wa.setCell ⟨w.heap.size,k*2,none⟩ (.int .i64 (X.s:Int))).setCell ⟨w.heap.size,k*2+1,none⟩ (.slice pv1 64 cv1)) ws (k+1) (vs++[.slice pv1 64 cv1])):=HN
   clear HN
   go_wp2
   go_roundw
   case rel=>exact⟨k+1,_,by go_num,HN2.out⟩
   case measure=>simp[intOf];omega
  ·obtain rfl:k=ws.length:=by omega
   have HF:Hid (Told wr w.heap.size w.heap.size ws vs∧Below w.heap.size w wr) :=
    ⟨⟨HR.out.len,HR.out.blk,Nat.le_refl _,fun i hi=>HR.out.sect i hi hi,HR.out.data,fun i h1 h2=>own_mono (HR.out.each i h1 h2) (Nat.le_succ _),HR.out.apart⟩,HR.out.below⟩
   clear HR
   go_wp2
   go_ret
   exact⟨_,vs,rfl,HF.out.1,HF.out.2⟩
end Go.Proofs.YtcdjepkhdjpjcaaGreatDoor
