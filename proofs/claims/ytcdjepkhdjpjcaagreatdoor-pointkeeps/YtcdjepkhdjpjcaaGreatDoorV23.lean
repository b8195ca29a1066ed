import Derived.Test.YtcdjepkhdjpjcaaGreatDoorV00
import Derived.Laws.AppendOwnNone
import Derived.Deep.AppendLies
import Derived.Great.BuildSlice
import Derived.Laws.CopyOwn
import Derived.Lib.AppendZerosOnto
import Derived.LaidMore
set_option maxHeartbeats 20000000
set_option maxRecDepth 100000
namespace Go.Proofs.YtcdjepkhdjpjcaaGreatDoor.C
open Go.Proofs.Tryz
open Go.RowKit
def Bytes (xs:List Int):Prop:=∀x∈xs,0≤x∧x<256
abbrev U8 (xs:List Int):List Value:=xs.map (Value.int .u8)
theorem size5:(prog.info? 5).map (·.size)=some 1:=by kernel_rfl
theorem ones_u8 (xs:List Int):∀v∈U8 xs,v.oneCell'=true:=by
 intro u hu;obtain ⟨x,_,rfl⟩:=List.mem_map.1 hu;rfl
theorem below_alloc (w:World)(o:Obj):Below w.heap.size w (w.alloc o):=(Below.refl _ _).alloc (Nat.le_refl _) o
theorem below_then {a b c:World}(h:Below a.heap.size a b)(k:Below b.heap.size b c):Below a.heap.size a c:=h.trans (k.mono h.size)
theorem below_drawn {B:Nat}{w:World}(nq:Nat):Below B w (w.drewN nq):=⟨rfl,rfl,rfl,Nat.le_refl _,fun _ _=>rfl⟩
structure Kept (S:Nat→Prop) (w w':World):Prop where
 os:w'.os=w.os
 tape:w'.tape=w.tape
 output:w'.output=w.output
 size:w.heap.size≤w'.heap.size
 block:∀b,b<w.heap.size→¬S b→w'.heap[b]?=w.heap[b]?
theorem Kept.of_below {w w':World}(S:Nat→Prop)(h:Below w.heap.size w w'):Kept S w w':=⟨h.os,h.tape,h.output,h.size,fun b hb _=>h.block b hb⟩
theorem Kept.refl (S:Nat→Prop)(w:World):Kept S w w:=Kept.of_below S (Below.refl _ _)
theorem Kept.trans {S T:Nat→Prop}{a b c:World}(h:Kept S a b)(k:Kept T b c)(hT:∀x,x<a.heap.size→T x→S x):Kept S a c :=
 ⟨k.os.trans h.os,k.tape.trans h.tape,k.output.trans h.output,Nat.le_trans h.size k.size,fun x hx hs=>(k.block x (Nat.lt_of_lt_of_le hx h.size) fun t=>hs (hT x hx t)).trans (h.block x hx hs)⟩
theorem Kept.wider {S T:Nat→Prop}{a b:World}(h:Kept S a b)(hT:∀x,x<a.heap.size→S x→T x):Kept T a b:=⟨h.os,h.tape,h.output,h.size,fun x hx ht=>h.block x hx fun s=>ht (hT x hx s)⟩
theorem Kept.setCell {w:World}(b o:Nat)(v:Value):Kept (·=b) w (w.setCell ⟨b,o,none⟩ v):=⟨rfl,rfl,rfl,by simp,fun k _ hk=>Below.heap_setCell _ _ _ _ hk⟩
theorem Kept.into {S:Nat→Prop}{B:Nat}{w0 w w':World}(h:Kept S w w')(hb:Below B w0 w)(hS:∀b,b<B→¬S b)(hB:B≤w0.heap.size):Below B w0 w' :=
 ⟨h.os.trans hb.os,h.tape.trans hb.tape,h.output.trans hb.output,Nat.le_trans hb.size h.size,fun b hlt=>(h.block b (by have:=hb.size;omega) (hS b hlt)).trans (hb.block b hlt)⟩
theorem Kept.setRow (w:World)(g:Nat)(cs:Array Value):Kept (·=g) w (w.setRow g cs):=⟨rfl,rfl,rfl,by simp[World.setRow],fun k _ hk=>setRow_other w g k cs hk⟩
theorem flat_at {α:Type}{m:Nat}:∀(L:List (List α)) (_:∀l∈L,l.length=m) (i:Nat) (h:i<L.length) (j:Nat) (_:j<m),L.flatten[m*i+j]?=L[i][j]?
 | [],_,i,h,_,_=>by simp at h
 | a :: r,hl,0,_,j,hj=>by
  have ha:=hl a List.mem_cons_self
  simp only[List.flatten_cons,Nat.mul_zero,Nat.zero_add,List.getElem_cons_zero]
  rw[List.getElem?_append_left (by omega)]
 | a :: r,hl,i+1,h,j,hj=>by
  have ha:=hl a List.mem_cons_self
  simp only[List.flatten_cons,List.getElem_cons_succ]
  rw[List.getElem?_append_right (by rw[ha,Nat.mul_add];omega),← flat_at r (fun l hl'=>hl l (List.mem_cons_of_mem _ hl')) i (by simpa using h) j hj]
  congr 1
  rw[ha,Nat.mul_add];omega
theorem flat_length {α:Type}{m:Nat}:∀(L:List (List α)) (_:∀l∈L,l.length=m),L.flatten.length=L.length*m
 | [],_=>by simp
 | a :: r,hl=>by
  have ha:=hl a List.mem_cons_self
  rw[List.flatten_cons,List.length_append,flat_length r (fun l hl'=>hl l (List.mem_cons_of_mem _ hl')),ha,List.length_cons,Nat.add_mul]
  omega
def zs (n:Nat):List Int:=List.replicate n 0
theorem zs_len (n:Nat):(zs n).length=n:=by simp[zs]
abbrev i64 (x:Int):Prop:=-9223372036854775808≤x∧x≤9223372036854775807
theorem U8_length (xs:List Int):(U8 xs).length=xs.length:=by simp
def LAt (t:TypeId)(w:World)(g:Nat)(cs:List Value):Prop:=w.heap[g]?=some (.cells cs.toArray t (0,0))
theorem LAt.lt {t:TypeId}{w:World}{g:Nat}{cs:List Value}(h:LAt t w g cs):g<w.heap.size:=(Array.getElem?_eq_some_iff.1 h).1
theorem LAt.later {t:TypeId}{w w':World}{g:Nat}{cs:List Value}(h:LAt t w g cs)(hb:Below w.heap.size w w'):LAt t w' g cs:=(hb.block g h.lt).trans h
theorem LAt.new (t:TypeId)(w:World)(cs:List Value):LAt t (w.alloc (.cells cs.toArray t)) w.heap.size cs:=heap_alloc_new w _
theorem LAt.cell {t:TypeId}{w:World}{g:Nat}{cs:List Value}(h:LAt t w g cs)(j:Nat):w.cell? ⟨g,j,none⟩=cs[j]?:=by
 rw[cell_of_row w g j cs.toArray t (0,0) h];simp
theorem LAt.range {t:TypeId}{w:World}{g:Nat}{cs:List Value}(h:LAt t w g cs):w.rangeAt g 0 cs:=fun j v hv=>by
 rw[Nat.zero_add,h.cell j];exact hv
theorem LAt.store {t:TypeId}{w:World}{g:Nat}{cs ds:List Value}(h:LAt t w g cs)(ht:(prog.info? t).map (·.size)=some ds.length)(hl:ds.length=cs.length)(hd:ds.toArray.all (·.oneCell')=true) :
  (Instr.storeAt t (.pointer (some ⟨g,0,none⟩)) (.agg ds.toArray)).run prog w=.ok () (w.setRow g ds.toArray):=by
 simp only[Instr.storeAt,Instr.sureAddr,Sem.run_bind,Sem.run_pure,Result.andThen_ok,run_storeVar_row w g t t cs.toArray ds.toArray h (by rw[ht,List.size_toArray]) (by rw[List.size_toArray,List.size_toArray,hl]) hd]
theorem LAt.stored {t:TypeId}{w:World}{g:Nat}{cs:List Value}(h:LAt t w g cs)(ds:List Value):LAt t (w.setRow g ds.toArray) g ds:=setRow_heap w g _ _ t (0,0) h
theorem part_fill (off:Nat)(vs:List Value)(cs:List Value)(h:off+vs.length≤cs.length) :
  vs.toArray.zipIdx.foldl (fun cs (x:Value × Nat)=>cs.setIfInBounds (off+x.2) x.1) cs.toArray=(cs.take off++vs++cs.drop (off+vs.length)).toArray:=by
 rw[← Array.foldl_toList,Array.toList_zipIdx]
 obtain ⟨h1,h2⟩:=Great.foldl_set off vs 0 cs.toArray
 apply Array.ext_getElem?
 intro k
 have e:=h2 k
 simp only[Nat.add_zero,List.size_toArray] at e
 refine Eq.trans e ?_
 rw[List.getElem?_toArray,List.getElem?_toArray]
 by_cases c1:k<off
 ·rw[if_neg (by omega),List.append_assoc,List.getElem?_append_left (by simp;omega),List.getElem?_take,if_pos c1]
 ·by_cases c2:k<off+vs.length
  ·rw[if_pos ⟨by omega,c2,by omega⟩,List.append_assoc,List.getElem?_append_right (by simp;omega),List.getElem?_append_left (by simp;omega)]
   congr 1;simp;omega
  ·rw[if_neg (by omega),List.getElem?_append_right (by simp;omega),List.getElem?_drop]
   congr 1;simp;omega
def placesOf (P:Program)(t:TypeId):Option (List (Nat × Nat)):=(P.underlying t).bind fun d=>match d with
 | .struct fs=>fs.toList.mapM (fun f=>(P.info? f.type).map fun i=>(f.offset,i.size))
 | _=>none
theorem built_of (t:TypeId)(ps:List (Nat × Nat))(z:Value)(parts:List (Nat × Value))(hp:placesOf prog t=some ps)(hz:(prog.info? t).bind (·.zero)=some z):prog.built t parts=Instr.fill (ps.toArray[·]?) z.cells parts:=by
 unfold Program.built
 unfold placesOf at hp
 cases hu:prog.underlying t with
 | none=>simp[hu] at hp
 | some d =>
  cases hi:prog.info? t with
  | none=>simp[hi] at hz
  | some it =>
   simp only[hi,Option.bind_some] at hz
   simp only[hu,Option.bind_some] at hp
   cases d <;> first | (cases hp;done) | (simp only[hz,hp])
theorem fill_step {pl:List (Nat × Nat)}(off n:Nat)(i:Nat)(hp:pl.toArray[i]?=some (off,n))(v:Value)(vs cs:List Value)(hv:v.cells=vs.toArray)(hn:vs.length=n)(hl:off+n≤cs.length)(rest:List (Nat × Value)) :
  Instr.fill (pl.toArray[·]?) cs.toArray ((i,v) :: rest)=Instr.fill (pl.toArray[·]?) (cs.take off++vs++cs.drop (off+vs.length)).toArray rest:=by
 have a0:=part_fill off vs cs (by omega)
 have a1:vs.toArray.zipIdx.foldl (fun cs x=>match x with | (c,j)=>cs.setIfInBounds (off+j) c) cs.toArray=(cs.take off++vs++cs.drop (off+vs.length)).toArray:=a0
 simp only[Instr.fill]
 rw[hp]
 dsimp only
 rw[hv]
 simp only[List.size_toArray]
 rw[if_neg (by simp[hn];omega),a1]
section
variable {P:Program} {ops:Array Oper} {rest:List Oper} {o:Oper} {a:Act} {w w':World} {Q:Exit→Act→World→Prop}
theorem wpList_val (hgd:Region.wanted o (yielded ops a.tmps)=true){v:Value}(hrun:(execOp a.eval o).run P w=.ok (.value v) w')(h:wpList P ops Q rest (a.put o.dst v) w'):wpList P ops Q (o :: rest) a w :=
 wpList_step fun K hK=>by
  rw[if_pos hgd]
  unfold Oper.wp
  rw[hrun]
  exact hK _ _ h
theorem wpList_skp (hgd:Region.wanted o (yielded ops a.tmps)=true)(hrun:(execOp a.eval o).run P w=.ok .skip w')(h:wpList P ops Q rest (a.put o.dst undef) w'):wpList P ops Q (o :: rest) a w :=
 wpList_step fun K hK=>by
  rw[if_pos hgd]
  unfold Oper.wp
  rw[hrun]
  exact hK _ _ h
theorem wpList_load_is (hgd:Region.wanted o (yielded ops a.tmps)=true)(ty:TypeId){x:Operand}(ho:o.op=.load ty x){p v:Value}(hx:a.eval x=p)(hrun:(Instr.loadAt ty p).run P w=.ok v w)
  (h:wpList P ops Q rest (a.put o.dst v) w):wpList P ops Q (o :: rest) a w :=
 wpList_val hgd (by unfold execOp;simp only[ho,hx,Sem.run_bind,hrun,Result.andThen_ok,Sem.run_pure]) h
theorem wpList_build_is (hgd:Region.wanted o (yielded ops a.tmps)=true)(ty:TypeId){ps:Array (Nat × Operand)}(ho:o.op=.build ty ps){vs:List (Nat × Value)}{v:Value}(hx:ps.toList.map (fun (i,x)=>(i,a.eval x))=vs)(hrun:(Instr.build ty vs.toArray).run P w=.ok v w)
  (h:wpList P ops Q rest (a.put o.dst v) w):wpList P ops Q (o :: rest) a w :=
 wpList_val hgd (by unfold execOp;simp only[ho];rw[show ps.map (fun (i,x)=>(i,a.eval x))=vs.toArray by rw[← hx,← Array.toList_map]];simp only[Sem.run_bind,hrun,Result.andThen_ok,Sem.run_pure]) h
theorem wpList_eql_is (hgd:Region.wanted o (yielded ops a.tmps)=true)(ty:TypeId){x y:Operand}{t2:TypeId}(ho:o.op=.binOp .eql ty x y t2){xs ys:Array Value}{v:Value}(hx:a.eval x=.agg xs)(hy:a.eval y=.agg ys)(hg:P.eqGuardType P.depth ty=false)(hrun:(binOp .eql ty (.agg xs) (.agg ys)).run P w=.ok v w)
  (h:wpList P ops Q rest (a.put o.dst v) w):wpList P ops Q (o :: rest) a w :=
 wpList_val hgd (by unfold execOp;simp only[ho,hx,hy,Sem.run_bind,run_eqGuard_agg w .eql ty x y xs ys hg,hrun,Result.andThen_ok,Sem.run_pure]) h
theorem wpList_alloc_is (hgd:Region.wanted o (yielded ops a.tmps)=true)(ty:TypeId)(ho:o.op=.alloc ty){v:Value}(hrun:(Instr.alloc ty true (.tuple #[])).run P w=.ok v w')
  (h:wpList P ops Q rest (a.put o.dst v) w'):wpList P ops Q (o :: rest) a w :=
 wpList_val hgd (by unfold execOp;simp only[ho,Sem.run_bind,hrun,Result.andThen_ok,Sem.run_pure]) h
theorem wpList_store_is (hgd:Region.wanted o (yielded ops a.tmps)=true)(ty:TypeId){x y:Operand}(ho:o.op=.store ty x y){p v:Value}(hx:a.eval x=p)(hy:a.eval y=v)(hrun:(Instr.storeAt ty p v).run P w=.ok () w')
  (h:wpList P ops Q rest (a.put o.dst undef) w'):wpList P ops Q (o :: rest) a w :=
 wpList_skp hgd (by unfold execOp;simp only[ho,hx,hy,Sem.run_bind,hrun,Result.andThen_ok,Sem.run_pure]) h
end
theorem zv (t:TypeId)(z:Value)(hz:(prog.info? t).bind (·.zero)=some z)(w:World):(zeroValue t).run prog w=.ok z w:=by
 cases hi:prog.info? t with
 | none=>simp[hi] at hz
 | some it =>
  simp only[hi,Option.bind_some] at hz
  simp[zeroValue,typeInfo,hi,hz]
theorem world_ext:∀(u v:World),u.heap=v.heap→u.tape=v.tape→u.drawn=v.drawn→u.os=v.os→u.output=v.output→u=v
 | ⟨_,_,_,_,_⟩,⟨_,_,_,_,_⟩,h1,h2,h3,h4,h5=>by
  simp only at h1 h2 h3 h4 h5
  subst h1 h2 h3 h4 h5
  rfl
theorem setRow_alloc (w:World)(a b:Array Value)(t:TypeId):(w.alloc (.cells a t)).setRow w.heap.size b=w.alloc (.cells b t):=by
 refine world_ext _ _ ?_ rfl rfl rfl rfl
 apply Array.ext_getElem?
 intro k
 by_cases c:k=w.heap.size
 ·subst c
  rw[setRow_heap _ _ a b t (0,0) (heap_alloc_new w _),heap_alloc_new]
 ·rw[setRow_other _ _ _ _ c]
  show (w.heap.push _)[k]?=(w.heap.push _)[k]?
  rw[Array.getElem?_push,Array.getElem?_push,if_neg c,if_neg c]
def fl (P : Program)(t : TypeId) : List (Bool × TypeId × Nat) := (P.fieldsOf t).toList.map fun f => (decide (f.name ≠ "_"), f.type, f.offset)
theorem at_ops {P:Program}{ops:Array Oper}{rest:List Oper}{o:Oper}{a:Act}{w:World}{Q:Exit→Act→World→Prop}(h:wpList P ops Q (o :: rest) a w):wpList P ops Q (o :: rest) a w:=h
structure Im where
 b:Int
 v:List Int
structure Im.Wf (i:Im):Prop where
 b:i64 i.b
 len:i.v.length=32
 byte:Bytes i.v
def ImsWf (l:List Im):Prop:=∀i∈l,i.Wf
theorem sizeV:(prog.info? 51).map (·.size)=some 32:=by kernel_rfl
theorem sizeOf5 (w:World):(sizeOf 5).run prog w=.ok 1 w:=by
 cases hi:prog.info? 5 with
 | none=>have:=size5;simp[hi] at this
 | some i =>
  have h:=size5
  simp only[hi,Option.map_some,Option.some.injEq] at h
  simp[sizeOf,typeInfo,hi,h]
theorem all_range_eq:∀(xs ys:List Int),xs.length=ys.length→((List.range xs.length).all fun i=>xs.getD i 0 == ys.getD i 0)=decide (xs=ys)
 | [],[],_=>rfl
 | x :: xs,y :: ys,h=>by
  have ih:=all_range_eq xs ys (by simpa using h)
  rw[List.length_cons,List.range_succ_eq_map,List.all_cons,List.all_map]
  simp only[List.getD_cons_zero,Function.comp_def,List.getD_cons_succ,ih]
  rw[Bool.eq_iff_iff]
  simp
 | [],_ :: _,h=>by simp at h
 | _ :: _,[],h=>by simp at h
theorem equalV (w:World)(d:Nat)(xs ys:List Int)(hx:xs.length=32)(hy:ys.length=32) :
  (Op.equalIn (d+2) 51 (.agg (U8 xs).toArray) (.agg (U8 ys).toArray)).run prog w=.ok (decide (xs=ys)) w:=by
 rw[← all_range_eq xs ys (hx.trans hy.symm),hx,List.range_eq_range',Op.equalIn]
 simp only[Sem.run_bind,run_underlying underlying51,Result.andThen_ok,sizeOf5,Std.Legacy.Range.forIn_eq_forIn_range',Std.Legacy.Range.size,Nat.sub_zero,Nat.add_sub_cancel,Nat.div_one]
 have hl:∀i∈List.range' 0 32 1,i<32:=fun i hi=>by simpa using (List.mem_range'_1.1 hi).2
 generalize List.range' 0 32 1=l at hl ⊢
 induction l with
 | nil=>simp
 | cons i l ih =>
  have hi:i<32:=hl i (by simp)
  have px:(part 5 (U8 xs).toArray (i*1)).run prog w=.ok (.int .u8 (xs.getD i 0)) w:=by
   simp[part,isAgg,run_underlying underlying5,List.getD,List.getElem?_eq_getElem (show i<xs.length by omega)]
  have py:(part 5 (U8 ys).toArray (i*1)).run prog w=.ok (.int .u8 (ys.getD i 0)) w:=by
   simp[part,isAgg,run_underlying underlying5,List.getD,List.getElem?_eq_getElem (show i<ys.length by omega)]
  have pe:(Op.equalIn (d+1) 5 (.int .u8 (xs.getD i 0)) (.int .u8 (ys.getD i 0))).run prog w=.ok (xs.getD i 0 == ys.getD i 0) w:=run_equalIn_int w d 5 .u8 .u8 _ _ underlying5
  simp only[List.forIn_cons,Sem.run_bind,px,py,pe,Result.andThen_ok,List.all_cons]
  cases hb:(xs.getD i 0 == ys.getD i 0)
  ·simp
  ·simp only[Bool.not_true,Bool.false_eq_true,if_false,Sem.run_pure,Result.andThen_ok,Bool.true_and]
   exact ih fun j hj=>hl j (by simp[hj])
theorem eqlV (w:World)(xs ys:List Int)(hx:xs.length=32)(hy:ys.length=32) :
  (binOp .eql 51 (.agg (U8 xs).toArray) (.agg (U8 ys).toArray)).run prog w=.ok (.bool (decide (xs=ys))) w:=by
 rw[run_eql_struct,equalV w 9998 xs ys hx hy]
 rfl
theorem sizeI:(prog.info? 84).map (·.size)=some 33:=by kernel_rfl
def icells (i:Im):List Value:=.int .i64 i.b :: U8 i.v
def im0:Im:=⟨0,zs 32⟩
theorem icells_len {i:Im}(h:i.v.length=32):(icells i).length=33:=by simp[icells,h]
theorem icells_ones (i:Im):∀v∈icells i,v.oneCell'=true:=fun v hv=>by
 rcases List.mem_cons.1 hv with rfl | hv
 ·rfl
 ·exact ones_u8 _ v hv
theorem icells_all (i:Im):(icells i).toArray.all (·.oneCell')=true:=all_oneCell_toArray (icells_ones i)
def IC (l:List Im):List Value:=(l.map icells).flatten
theorem IC_snoc (l:List Im)(i:Im):IC (l++[i])=IC l++icells i:=by simp[IC]
theorem IC_len {l:List Im}(h:ImsWf l):(IC l).length=l.length*33:=by
 have:=flat_length (m:=33) (l.map icells) (fun x hx=>by
  obtain ⟨i,hi,rfl⟩:=List.mem_map.1 hx
  exact icells_len (h i hi).len)
 rw[List.length_map] at this
 exact this
theorem IC_at {l:List Im}(h:ImsWf l){k:Nat}{i:Im}(hk:l[k]?=some i)(j:Nat)(hj:j<33):(IC l)[33*k+j]?=(icells i)[j]?:=by
 obtain ⟨hk',e⟩:=List.getElem?_eq_some_iff.1 hk
 have:=flat_at (m:=33) (l.map icells) (fun x hx=>by
  obtain ⟨i,hi,rfl⟩:=List.mem_map.1 hx
  exact icells_len (h i hi).len) k (by simpa using hk') j hj
 rw[IC,this]
 simp[e]
def plI:List (Nat × Nat):=[(0,1),(1,32)]
theorem placesI:placesOf prog 84=some plI:=by kernel_rfl
theorem zeroI:(prog.info? 84).bind (·.zero)=some (.agg (icells im0).toArray):=by kernel_rfl
theorem infoI:(prog.info? 84).map (fun i=>(i.zero,i.size,i.bytes))=some (some (.agg (icells im0).toArray),33,40):=by kernel_rfl
theorem fill_ib (i:Im)(h:i.v.length=32)(b:Int)(rest:List (Nat × Value)):Instr.fill (plI.toArray[·]?) (icells i).toArray ((0,.int .i64 b) :: rest)=Instr.fill (plI.toArray[·]?) (icells ⟨b,i.v⟩).toArray rest :=
 fill_step 0 1 0 rfl _ [.int .i64 b] _ rfl rfl (by rw[icells_len h];omega) rest
theorem fill_iv (i:Im)(h:i.v.length=32)(v:List Int)(hv:v.length=32)(rest:List (Nat × Value)):Instr.fill (plI.toArray[·]?) (icells i).toArray ((1,.agg (U8 v).toArray) :: rest)=Instr.fill (plI.toArray[·]?) (icells ⟨i.b,v⟩).toArray rest:=by
 rw[fill_step 1 32 1 rfl _ (U8 v) _ rfl (by rw[U8_length,hv]) (by rw[icells_len h];omega) rest]
 congr 2
 rw[U8_length,hv]
 simp only[icells,List.take_succ_cons,List.take_zero,List.cons_append,List.nil_append,List.drop_succ_cons]
 rw[List.drop_of_length_le (by rw[U8_length,h];omega),List.append_nil]
theorem buildI (w:World)(b:Int)(v:List Int)(hv:v.length=32):(Instr.build 84 #[(0,.int .i64 b),(1,.agg (U8 v).toArray)]).run prog w=.ok (.agg (icells ⟨b,v⟩).toArray) w:=by
 refine run_build w 84 _ _ ((built_of 84 _ _ _ placesI zeroI).trans ?_)
 show Instr.fill (plI.toArray[·]?) (icells im0).toArray [(0,.int .i64 b),(1,.agg (U8 v).toArray)]=_
 rw[fill_ib im0 (zs_len 32),fill_iv ⟨b,im0.v⟩ (zs_len 32) v hv];rfl
theorem allocI (w:World):(Instr.alloc 84 true (.tuple #[])).run prog w=.ok (.pointer (some ⟨w.heap.size,0,none⟩)) (w.alloc (.cells (icells im0).toArray 84)):=by
 simp only[Instr.alloc,Sem.run_bind,zv 84 _ zeroI,Result.andThen_ok]
 simp[newVar,newRow,Value.cells]
theorem store_newI (w:World)(i:Im)(hi:i.v.length=32):(Instr.storeAt 84 (.pointer (some ⟨w.heap.size,0,none⟩)) (.agg (icells i).toArray)).run prog (w.alloc (.cells (icells im0).toArray 84))=.ok () (w.alloc (.cells (icells i).toArray 84)):=by
 rw[(LAt.new 84 w (icells im0)).store (ds:=icells i) (by rw[sizeI,icells_len hi]) (by rw[icells_len hi,icells_len (zs_len 32)]) (icells_all i),setRow_alloc]
theorem LAt.vrangeI {t:TypeId}{w:World}{g:Nat}{i:Im}(h:LAt t w g (icells i)):w.rangeAt g 1 (U8 i.v):=fun j v hv=>by
 rw[LAt.cell h (1+j),Nat.add_comm];exact hv
theorem LAt.loadIv {t:TypeId}{w:World}{g:Nat}{i:Im}(h:LAt t w g (icells i))(hi:i.v.length=32):(Instr.loadAt 51 (.pointer (some ⟨g,1,none⟩))).run prog w=.ok (.agg (U8 i.v).toArray) w :=
 run_loadAt_mid w g 1 51 (U8 i.v) _ (LAt.vrangeI h) underlying51 rfl (by rw[sizeV,U8_length,hi])
theorem build_im (w:World)(i:Im)(hi':i.v.length=32):(Instr.buildSlice 85 1 #[(0,.agg (icells i).toArray)]).run prog w=.ok (.slice (some ⟨w.heap.size,0,none⟩) 1 1) (w.alloc (.cells (icells i).toArray 84)):=by
 obtain ⟨i0,hi,hz0,hz1,hz2⟩:=info_parts infoI
 refine run_buildSlice w 85 84 1 _ _ i0 _ underlying85 hi hz0 (by rw[hz1];decide) (by rw[hz1];decide) ?_
 rw[hz1]
 have hl:(icells i).length=33:=icells_len hi'
 have hA:∀A:Array Value,A.size=33→Instr.fill (fun i=>some (i*33,33)) A [(0,.agg (icells i).toArray)]=some (icells i).toArray:=by
  intro A hA
  have a0:=part_fill 0 (icells i) A.toList (by simp;omega)
  simp only[Instr.fill,Value.cells,List.size_toArray,Nat.zero_mul]
  rw[if_neg (by simp[hl,hA])]
  have a0':(icells i).toArray.zipIdx.foldl (fun cs x=>match x with | (c,j)=>cs.setIfInBounds (0+j) c) A=((A.toList.take 0++icells i++A.toList.drop (0+(icells i).length))).toArray:=a0
  rw[a0',List.drop_eq_nil_of_le (by simp[hl,hA])]
  simp
 exact hA _ (by simp)
structure MIn (w:World) (p:Option Addr) (n:Nat) (l:List Im):Prop where
 len:l.length=n
 wf:ImsWf l
 cells:0<n→∃b o,p=some ⟨b,o,none⟩∧w.rangeAt b o (IC l)
theorem range_lt {w:World}{b o:Nat}{cs:List Value}(h:w.rangeAt b o cs)(h0:0<cs.length):b<w.heap.size:=by
 have:=h 0 cs[0] (by rw[List.getElem?_eq_getElem h0])
 exact World.block_lt_of_cell? w _ this
theorem range_block {w w':World}{b o:Nat}{cs:List Value}(h:w.rangeAt b o cs)(hb:w'.heap[b]?=w.heap[b]?):w'.rangeAt b o cs:=fun j v hv=>(World.cell?_of_block (a:=⟨b,o+j,none⟩) hb).trans (h j v hv)
theorem MIn.later {w w':World}{p:Option Addr}{n:Nat}{l:List Im}(h:MIn w p n l)(hb:Below w.heap.size w w'):MIn w' p n l:=by
 refine⟨h.len,h.wf,fun h0=>?_⟩
 obtain ⟨b,o,e,hr⟩:=h.cells h0
 exact⟨b,o,e,range_block hr (hb.block b (range_lt hr (by rw[IC_len h.wf,h.len];omega)))⟩
theorem MIn.at {w:World}{b o n:Nat}{l:List Im}(h:MIn w (some ⟨b,o,none⟩) n l){k:Nat}{i:Im}(hk:l[k]?=some i):w.rangeAt b (o+k*33) (icells i):=fun j v hv=>by
 have hk':=(List.getElem?_eq_some_iff.1 hk).1
 obtain ⟨b',o',e,hr⟩:=h.cells (by rw[← h.len];omega)
 cases e
 have hj:j<33:=by have:=(List.getElem?_eq_some_iff.1 hv).1;rw[icells_len (h.wf i (List.mem_of_getElem? hk)).len] at this;exact this
 have:=hr (33*k+j) v (by rw[IC_at h.wf hk j hj];exact hv)
 rw[show o+k*33+j=o+(33*k+j) by omega];exact this
theorem MIn.c0 {w:World}{b o n:Nat}{l:List Im}(h:MIn w (some ⟨b,o,none⟩) n l){k:Nat}{i:Im}(hk:l[k]?=some i):w.cell? ⟨b,o+k*33,none⟩=some (.int .i64 i.b):=h.at hk 0 _ rfl
theorem MIn.load {w:World}{b o n:Nat}{l:List Im}(h:MIn w (some ⟨b,o,none⟩) n l){k:Nat}{i:Im}(hk:l[k]?=some i):(Instr.loadAt 84 (.pointer (some ⟨b,o+k*33,none⟩))).run prog w=.ok (.agg (icells i).toArray) w :=
 run_loadAt_mid w b (o+k*33) 84 (icells i) _ (h.at hk) underlying84 rfl (by rw[sizeI,icells_len (h.wf i (List.mem_of_getElem? hk)).len])
abbrev IOwn (w:World)(B:Nat)(v:Value)(l:List Im):Prop:=w.ownsRow B 84 33 v l.length (IC l)
theorem IOwn.in {w:World}{B:Nat}{v:Value}{l:List Im}(h:IOwn w B v l)(hw:ImsWf l):∃p c,v=.slice p l.length c∧MIn w p l.length l∧l.length≤c∧c≤maxLen:=by
 rcases h.2 with ⟨e,e2⟩ | ⟨g,cap,cur,e,_,hg,h1,h2,h3,h4⟩
 ·refine⟨none,0,by rw[e,e2],?_,by omega,by decide⟩
  exact⟨rfl,hw,fun h0=>by omega⟩
 ·refine⟨_,cap,e,⟨rfl,hw,fun _=>⟨g,0,rfl,fun j v hv=>?_⟩⟩,h1,h2⟩
  rw[Nat.zero_add,cell_of_row w g j cur 84 (0,0) hg]
  have hj:=(List.getElem?_eq_some_iff.1 hv).1
  rw[← h4,List.getElem?_take] at hv
  split at hv
  ·simpa using hv
  ·cases hv
theorem grown_of_below {V V':World}(h:Below V.heap.size V V'):V.grownBy V' none:=⟨h.os,h.tape,h.output,h.size,fun k hk _=>h.block k hk⟩
theorem IOwn.later {w w':World}{B:Nat}{v:Value}{l:List Im}(h:IOwn w B v l)(hb:Below w.heap.size w w'):IOwn w' B v l:=h.kept (grown_of_below hb) (by cases hh:v.ownBlock <;> simp)
theorem results_lat {fn:Func}{p u:Tmp}{ty:TypeId}(h:fn.results=#[.cell p ty,.tmp u])(tmps:Array Value)(w:World)(g:Nat)(t:TypeId)(cs:List Value)(d:TypeDesc)
  (hp:tmps.getD p undef=.pointer (some ⟨g,0,none⟩)) (hg:LAt t w g cs) (hu:prog.underlying ty=some d) (hd:d.isRow=true) (hi:(prog.info? ty).map (·.size)=some cs.length) :
  (results fn tmps).run prog w=.ok (.tuple #[.agg cs.toArray,tmps.getD u undef]) w:=by
 rw[results_cell_tmp h,hp]
 simp only[asAddr,Sem.run_pure,Result.andThen_ok,run_loadVar_mid w g 0 ty _ d (LAt.range hg) hu hd hi]
section
variable {P:Program} {ops:Array Oper} {rest:List Oper} {o:Oper} {a:Act} {w w':World} {Q:Exit→Act→World→Prop}
theorem wpList_slice_is (hgd:Region.wanted o (yielded ops a.tmps)=true)(ty:TypeId){x:Operand}(ho:o.op=.buildSlice ty 1 #[(0,x)]){u v:Value}(hx:a.eval x=u)(hrun:(Instr.buildSlice ty 1 #[(0,u)]).run P w=.ok v w')(h:wpList P ops Q rest (a.put o.dst v) w'):wpList P ops Q (o :: rest) a w :=
 wpList_val hgd (by
  have e:(#[(0,x)]:Array (Nat × Operand)).map (fun (i,y)=>(i,a.eval y))=#[(0,u)]:=by simp[hx]
  unfold execOp;simp only[ho];rw[e];simp only[Sem.run_bind,hrun,Result.andThen_ok,Sem.run_pure]) h
theorem wpList_append_is (hgd:Region.wanted o (yielded ops a.tmps)=true){s x:Operand}{t ty:TypeId}(ho:o.op=.call { callee:=.builtin .append,args:=#[s,x],argTypes:=#[t,t] })(hty:o.type=ty){u1 u2 v:Value}(hs:a.eval s=u1)(hx:a.eval x=u2)(hrun:(Builtin.append_ #[t,t] ty #[u1,u2]).run P w=.ok v w')(h:wpList P ops Q rest (a.put o.dst v) w'):wpList P ops Q (o :: rest) a w :=
 wpList_val hgd (by subst hty;simp[execOp,ho,resolve,invoke,builtin,hs,hx,hrun,Result.andThen]) h
end
theorem yields_neq_is {P:Program}{ops:Array Oper}{S:World→Prop}{o:Oper}{a:Act}(hw:Region.wanted o (yielded ops a.tmps)=true)(ty:TypeId){x y:Operand}{t2:TypeId}(ho:o.op=.binOp .neq ty x y t2){xs ys:Array Value}{v:Value}(hx:a.eval x=.agg xs)(hy:a.eval y=.agg ys)(hg:P.eqGuardType P.depth ty=false)(hrun:∀w,(binOp .neq ty (.agg xs) (.agg ys)).run P w=.ok v w):YieldsIf P ops S o v a :=
 .inl ⟨hw,fun w _=>by unfold execOp;simp only[ho,hx,hy,Sem.run_bind,run_eqGuard_agg w .neq ty x y xs ys hg,hrun w,Result.andThen_ok,Sem.run_pure]⟩
end Go.Proofs.YtcdjepkhdjpjcaaGreatDoor.C
namespace Go.Proofs.YtcdjepkhdjpjcaaGreatDoor.C
open Go.RowKit
structure En where
 b:Int
 v:List Int
 p:Int
structure En.Wf (e:En):Prop where
 b:i64 e.b
 len:e.v.length=32
 byte:Bytes e.v
 p:0≤e.p∧e.p<18446744073709551616
def EnsWf (l:List En):Prop:=∀e∈l,e.Wf
theorem EnsWf.nil:EnsWf []:=fun _ h=>by cases h
theorem EnsWf.snoc {l:List En}(h:EnsWf l){i:En}(hi:i.Wf):EnsWf (l++[i]):=fun x hx=>by
 rcases List.mem_append.1 hx with hx | hx
 ·exact h x hx
 ·rw[List.mem_singleton.1 hx];exact hi
theorem EnsWf.append {l m:List En}(h:EnsWf l)(k:EnsWf m):EnsWf (l++m):=fun x hx=>(List.mem_append.1 hx).elim (h x) (k x)
abbrev UpE (L:List En):Prop:=L.Pairwise (fun x y=>x.b<y.b)
def ple (L:List En)(b:Int):Nat:=L.countP (fun x=>decide (x.b<b))
def isE (L:List En)(b:Int):Bool:=(L[ple L b]?).any (fun x=>decide (x.b=b))
def gtE (L:List En)(b:Int):Option En:=L.find? (fun x=>decide (x.b=b))
def layE (L:List En)(e:En):List En:=L.filter (fun x=>decide (x.b<e.b))++[e]++L.filter (fun x=>decide (e.b<x.b))
def isD (e x:En):Bool:=decide (x.b=e.b) && decide (x.p=e.p)
def drpE (L:List En)(e:En):List En:=L.filter (fun x=>!isD e x)
def drpN (L:List En)(e:En):Nat:=L.countP (isD e)
theorem ple_le (L:List En)(b:Int):ple L b≤L.length:=List.countP_le_length
theorem ple_zero {L:List En}{b:Int}(h:∀x∈L,b≤x.b):ple L b=0:=by
 rw[ple,List.countP_eq_zero]
 intro x hx
 have:=h x hx
 simp;omega
theorem ple_cons {x:En}{L:List En}{b:Int}(hu:UpE (x :: L)):ple (x :: L) b=if x.b<b then ple L b+1 else 0:=by
 by_cases h:x.b<b
 ·rw[if_pos h,ple,List.countP_cons_of_pos (by simpa using h)];rfl
 ·rw[if_neg h]
  refine ple_zero fun y hy=>?_
  rcases List.mem_cons.1 hy with rfl | hy
  ·omega
  ·have:=(List.pairwise_cons.1 hu).1 y hy;omega
theorem ple_lt:∀{L:List En} {b:Int},UpE L→∀(j:Nat) (x:En),j<ple L b→L[j]?=some x→x.b<b
 | [],b,_,j,x,h,_=>by simp[ple] at h
 | y :: L,b,hu,j,x,h,hx=>by
  rw[ple_cons hu] at h
  by_cases hy:y.b<b
  ·rw[if_pos hy] at h
   cases j with
   | zero=>cases hx;exact hy
   | succ j=>exact ple_lt (List.pairwise_cons.1 hu).2 j x (by omega) (by simpa using hx)
  ·rw[if_neg hy] at h;omega
theorem ple_ge:∀{L:List En} {b:Int},UpE L→∀(j:Nat) (x:En),ple L b≤j→L[j]?=some x→b≤x.b
 | [],b,_,j,x,_,hx=>by simp at hx
 | y :: L,b,hu,j,x,h,hx=>by
  rw[ple_cons hu] at h
  by_cases hy:y.b<b
  ·rw[if_pos hy] at h
   cases j with
   | zero=>omega
   | succ j=>exact ple_ge (List.pairwise_cons.1 hu).2 j x (by omega) (by simpa using hx)
  ·cases j with
   | zero=>cases hx;omega
   | succ j =>
    have:=(List.pairwise_cons.1 hu).1 x (List.mem_of_getElem? (by simpa using hx))
    omega
theorem ple_is {L:List En}{b:Int}(hu:UpE L){i:Nat}(hi:i≤L.length)(h1:∀j x,j<i→L[j]?=some x→x.b<b)(h2:∀j x,i≤j→L[j]?=some x→b≤x.b):i=ple L b:=by
 rcases Nat.lt_trichotomy i (ple L b) with h | h | h
 ·have hl:i<L.length:=Nat.lt_of_lt_of_le h (ple_le L b)
  have e:=List.getElem?_eq_getElem hl
  have a:=ple_lt hu i _ h e
  have c:=h2 i _ (Nat.le_refl _) e
  omega
 ·exact h
 ·have hl:ple L b<L.length:=by omega
  have e:=List.getElem?_eq_getElem hl
  have a:=ple_ge hu _ _ (Nat.le_refl _) e
  have c:=h1 _ _ h e
  omega
theorem isE_some {L:List En}{b:Int}(h:isE L b=true):∃x,L[ple L b]?=some x∧x.b=b:=by
 unfold isE at h
 cases e:L[ple L b]? with
 | none=>rw[e] at h;simp at h
 | some x=>rw[e] at h;simp at h;exact⟨x,rfl,h⟩
theorem isE_none {L:List En}{b:Int}(h:isE L b=false)(x:En)(hx:L[ple L b]?=some x):x.b≠b:=by
 unfold isE at h
 rw[hx] at h;simpa using h
theorem take_ple:∀{L:List En} {b:Int},UpE L→L.take (ple L b)=L.filter (fun x=>decide (x.b<b))
 | [],b,_=>rfl
 | y :: L,b,hu=>by
  have hu':=List.pairwise_cons.1 hu
  rw[ple_cons hu]
  by_cases hy:y.b<b
  ·rw[if_pos hy,List.take_succ_cons,take_ple hu'.2,List.filter_cons_of_pos (by simpa using hy)]
  ·rw[if_neg hy,List.take_zero]
   refine (List.filter_eq_nil_iff.2 fun x hx=>?_).symm
   rcases List.mem_cons.1 hx with rfl | hx
   ·simpa using hy
   ·have:=hu'.1 x hx;simp;omega
theorem drop_ple:∀{L:List En} {b:Int},UpE L→L.drop (ple L b)=L.filter (fun x=>decide (b≤x.b))
 | [],b,_=>by simp
 | y :: L,b,hu=>by
  have hu':=List.pairwise_cons.1 hu
  rw[ple_cons hu]
  by_cases hy:y.b<b
  ·rw[if_pos hy,List.drop_succ_cons,drop_ple hu'.2,List.filter_cons_of_neg (by simp;omega)]
  ·rw[if_neg hy,List.drop_zero]
   refine (List.filter_eq_self.2 fun x hx=>?_).symm
   rcases List.mem_cons.1 hx with rfl | hx
   ·simpa using hy
   ·have:=hu'.1 x hx;simp;omega
theorem drop_at {L:List En}{b:Int}(hu:UpE L)(h:isE L b=true):L.drop (ple L b+1)=L.filter (fun x=>decide (b<x.b)):=by
 obtain ⟨x,hx,hb⟩:=isE_some h
 obtain ⟨hl,ex⟩:=List.getElem?_eq_some_iff.1 hx
 have e1:=drop_ple (b:=b) hu
 rw[List.drop_eq_getElem_cons hl,ex] at e1
 have e2:(L.filter (fun x=>decide (b≤x.b))).filter (fun x=>decide (b<x.b))=L.filter (fun x=>decide (b<x.b)):=by
  rw[List.filter_filter]
  refine List.filter_congr fun y _=>?_
  by_cases c:b<y.b
  ·simp[c];omega
  ·simp[c]
 rw[← e2,← e1,List.filter_cons_of_neg (by simp;omega)]
 refine (List.filter_eq_self.2 fun y hy=>?_).symm
 obtain ⟨j,hj,ej⟩:=List.getElem_of_mem hy
 rw[List.length_drop] at hj
 rw[List.getElem_drop] at ej
 have:=List.pairwise_iff_getElem.1 hu (ple L b) (ple L b+1+j) hl (by omega) (by omega)
 rw[ex,ej] at this
 simp;omega
theorem drop_no {L:List En}{b:Int}(hu:UpE L)(h:isE L b=false):L.drop (ple L b)=L.filter (fun x=>decide (b<x.b)):=by
 rw[drop_ple hu]
 refine List.filter_congr fun y hy=>?_
 by_cases c:y.b=b
 ·exfalso
  obtain ⟨j,hj,ej⟩:=List.getElem_of_mem hy
  have ey:L[j]?=some y:=by rw[List.getElem?_eq_getElem hj,ej]
  rcases Nat.lt_trichotomy j (ple L b) with k | k | k
  ·have:=ple_lt hu j y k ey;omega
  ·subst k;exact isE_none h y ey c
  ·have hl:ple L b<L.length:=by omega
   have e3:=List.getElem?_eq_getElem hl
   have a1:=ple_ge hu _ _ (Nat.le_refl _) e3
   have a3:=List.pairwise_iff_getElem.1 hu _ _ hl hj k
   rw[ej] at a3
   omega
 ·have:b≤y.b↔b<y.b:=by omega
  simp[this]
theorem lay_at {L:List En}{e:En}(hu:UpE L)(h:isE L e.b=true):L.set (ple L e.b) e=layE L e:=by
 obtain ⟨x,hx,_⟩:=isE_some h
 have hl:=(List.getElem?_eq_some_iff.1 hx).1
 rw[List.set_eq_take_append_cons_drop,if_pos hl,take_ple hu,drop_at hu h]
 simp[layE]
theorem lay_no {L:List En}{e:En}(hu:UpE L)(h:isE L e.b=false):L.take (ple L e.b)++[e]++L.drop (ple L e.b)=layE L e:=by
 rw[take_ple hu,drop_no hu h];rfl
theorem mem_lay {L:List En}{e x:En}:x∈layE L e↔x=e∨(x∈L∧x.b≠e.b):=by
 unfold layE
 simp only[List.mem_append,List.mem_filter,List.mem_singleton,decide_eq_true_eq]
 constructor
 ·rintro ((⟨h,c⟩ | h) | ⟨h,c⟩)
  ·exact .inr ⟨h,by omega⟩
  ·exact .inl h
  ·exact .inr ⟨h,by omega⟩
 ·rintro (h | ⟨h,c⟩)
  ·exact .inl (.inr h)
  ·by_cases k:x.b<e.b
   ·exact .inl (.inl ⟨h,k⟩)
   ·exact .inr ⟨h,by omega⟩
theorem lay_up {L:List En}{e:En}(hu:UpE L):UpE (layE L e):=by
 unfold layE
 rw[List.append_assoc]
 refine List.pairwise_append.2 ⟨hu.sublist (List.filter_sublist),?_,fun x hx y hy=>?_⟩
 ·rw[List.singleton_append]
  exact List.pairwise_cons.2 ⟨fun y hy=>by simpa using (List.mem_filter.1 hy).2,hu.sublist (List.filter_sublist)⟩
 ·have h1:x.b<e.b:=by simpa using (List.mem_filter.1 hx).2
  rcases List.mem_append.1 hy with hy | hy
  ·rw[List.mem_singleton.1 hy];exact h1
  ·have h2:e.b<y.b:=by simpa using (List.mem_filter.1 hy).2
   omega
theorem up_injE {L:List En}(hu:UpE L){x y:En}(hx:x∈L)(hy:y∈L)(e:x.b=y.b):x=y:=by
 induction L with
 | nil=>cases hx
 | cons z L ih =>
  have h1:=(List.pairwise_cons.1 hu).1
  rcases List.mem_cons.1 hx with e1 | hx' <;> rcases List.mem_cons.1 hy with e2 | hy'
  ·rw[e1,e2]
  ·have:=h1 y hy';rw[e1] at e;omega
  ·have:=h1 x hx';rw[e2] at e;omega
  ·exact ih (List.pairwise_cons.1 hu).2 hx' hy'
theorem gt_some {L:List En}{b:Int}{x:En}(h:gtE L b=some x):x∈L∧x.b=b :=
 ⟨List.mem_of_find?_eq_some h,by simpa using List.find?_some h⟩
theorem gt_noneE {L:List En}{b:Int}(h:gtE L b=none)(x:En)(hx:x∈L):x.b≠b:=by
 simpa using List.find?_eq_none.1 h x hx
theorem gt_mem {L:List En}{x:En}(hu:UpE L)(hx:x∈L):gtE L x.b=some x:=by
 cases e:gtE L x.b with
 | none=>exact absurd rfl (gt_noneE e x hx)
 | some y=>rw[up_injE hu (gt_some e).1 hx (gt_some e).2]
theorem gt_at {L:List En}{b:Int}(hu:UpE L)(h:isE L b=true){x:En}(hx:L[ple L b]?=some x):gtE L b=some x:=by
 obtain ⟨y,hy,hb⟩:=isE_some h
 rw[hx] at hy;cases hy
 rw[← hb];exact gt_mem hu (List.mem_of_getElem? hx)
theorem gt_no {L:List En}{b:Int}(hu:UpE L)(h:isE L b=false):gtE L b=none:=by
 cases e:gtE L b with
 | none=>rfl
 | some y =>
  obtain ⟨hm,hb⟩:=gt_some e
  have h1:y∈L.drop (ple L b):=by rw[drop_ple hu];exact List.mem_filter.2 ⟨hm,by simp;omega⟩
  rw[drop_no hu h] at h1
  have h2:b<y.b:=by simpa using (List.mem_filter.1 h1).2
  omega
theorem drp_up {L:List En}{e:En}(hu:UpE L):UpE (drpE L e):=hu.sublist (List.filter_sublist)
theorem mem_drp {L:List En}{e x:En}:x∈drpE L e↔x∈L∧isD e x=false:=by
 unfold drpE
 rw[List.mem_filter];simp
theorem drp_len (L:List En)(e:En):(drpE L e).length+drpN L e=L.length:=by
 unfold drpE drpN
 induction L with
 | nil=>rfl
 | cons x L ih=>cases h:isD e x <;> simp[h] <;> omega
theorem drp_at {L:List En}{e:En}(hu:UpE L)(h:isE L e.b=true){x:En}(hx:L[ple L e.b]?=some x)(hp:x.p=e.p):L.take (ple L e.b)++L.drop (ple L e.b+1)=drpE L e∧drpN L e=1:=by
 obtain ⟨y,hy,hb⟩:=isE_some h
 rw[hx] at hy;cases hy
 obtain ⟨hl,ex⟩:=List.getElem?_eq_some_iff.1 hx
 have e0:L.take (ple L e.b)++L.drop (ple L e.b+1)=drpE L e:=by
  have e1:L=L.take (ple L e.b)++x :: L.drop (ple L e.b+1):=by rw[← ex,← List.drop_eq_getElem_cons hl,List.take_append_drop]
  unfold drpE
  have a1:(L.take (ple L e.b)).filter (fun x=>!isD e x)=L.take (ple L e.b):=List.filter_eq_self.2 fun z hz=>by
   rw[take_ple hu] at hz
   have:z.b<e.b:=by simpa using (List.mem_filter.1 hz).2
   have n:z.b≠e.b:=by omega
   simp[isD,n]
  have a2:(L.drop (ple L e.b+1)).filter (fun x=>!isD e x)=L.drop (ple L e.b+1):=List.filter_eq_self.2 fun z hz=>by
   rw[drop_at hu h] at hz
   have:e.b<z.b:=by simpa using (List.mem_filter.1 hz).2
   have n:z.b≠e.b:=by omega
   simp[isD,n]
  conv=>rhs;rw[e1]
  rw[List.filter_append,a1,List.filter_cons_of_neg (by simp[isD,hb,hp]),a2]
 refine⟨e0,?_⟩
 have l:=drp_len L e
 rw[← e0,List.length_append,List.length_take,List.length_drop] at l
 omega
theorem drp_no {L:List En}{e:En}(hu:UpE L)(h:∀x,isE L e.b=true→L[ple L e.b]?=some x→x.p≠e.p):drpE L e=L∧drpN L e=0:=by
 have key:∀x∈L,isD e x=false:=fun x hx=>by
  cases c:isD e x with
  | false=>rfl
  | true =>
   exfalso
   have c2:x.b=e.b∧x.p=e.p:=by simpa [isD] using c
   cases k:isE L e.b with
   | false=>exact gt_noneE (gt_no hu k) x hx c2.1
   | true =>
    obtain ⟨y,hy,hb⟩:=isE_some k
    have:=up_injE hu hx (List.mem_of_getElem? hy) (by omega)
    subst this
    exact h x k hy c2.2
 have e0:drpE L e=L:=List.filter_eq_self.2 fun x hx=>by simp[key x hx]
 refine⟨e0,?_⟩
 have l:=drp_len L e
 rw[e0] at l;omega
theorem up_few:∀{L:List En} {n a:Int},UpE L→(∀x∈L,a≤x.b∧x.b<n)→(L.length:Int)≤max (n-a) 0
 | [],_,_,_,_=>by simp;omega
 | x :: L,n,a,hu,h=>by
  have h0:=h x List.mem_cons_self
  have ih:=up_few (a:=x.b+1) (n:=n) (List.pairwise_cons.1 hu).2 fun y hy=>⟨by have:=(List.pairwise_cons.1 hu).1 y hy;omega,(h y (List.mem_cons_of_mem _ hy)).2⟩
  rw[List.length_cons]
  omega
def drps (L:List En)(l:List En):List En:=l.foldl drpE L
def drpsN:List En→List En→Nat
 | _,[]=>0
 | L,e :: l=>drpN L e+drpsN (drpE L e) l
theorem drps_snoc (L l:List En)(e:En):drps L (l++[e])=drpE (drps L l) e:=by simp[drps]
theorem drpsN_snoc:∀(L l:List En) (e:En),drpsN L (l++[e])=drpsN L l+drpN (drps L l) e
 | L,[],e=>by simp[drpsN,drps]
 | L,x :: l,e=>by
  rw[List.cons_append,drpsN,drpsN_snoc (drpE L x) l e,drpsN]
  simp only[drps,List.foldl_cons]
  omega
theorem drps_mem {L l:List En}{x:En}:x∈drps L l↔x∈L∧∀e∈l,isD e x=false:=by
 induction l generalizing L with
 | nil=>simp[drps]
 | cons e l ih =>
  rw[show drps L (e :: l)=drps (drpE L e) l from rfl,ih,mem_drp]
  simp[and_assoc]
theorem drps_len:∀(L l:List En),(drps L l).length+drpsN L l=L.length
 | L,[]=>rfl
 | L,e :: l=>by
  have h1:=drps_len (drpE L e) l
  have h2:=drp_len L e
  rw[show drps L (e :: l)=drps (drpE L e) l from rfl,drpsN]
  omega
def lays (L:List En)(l:List Im)(p:Int):List En:=l.foldl (fun L i=>layE L ⟨i.b,i.v,p⟩) L
theorem lays_snoc (L:List En)(l:List Im)(i:Im)(p:Int):lays L (l++[i]) p=layE (lays L l p) ⟨i.b,i.v,p⟩:=by simp[lays]
def upI (l:List Im):Bool:=decide (∀j,j<l.length-1→(l.getD j im0).b<(l.getD (j+1) im0).b)
def outI (n:Int)(i:Im):Bool:=decide (i.b<0) || decide (n≤i.b)
def putE (n nx:Int)(l:List Im)(p:Int):Int:=if l.any (outI n)=true then 51 else if upI l=false then 53 else if p<nx∨4611686018427387904<p then 30 else 0
structure Okc (n:Int) (L:List En) (nx:Int):Prop where
 n1:1≤n
 n64:n≤64
 up:UpE L
 ins:∀x∈L,0≤x.b∧x.b<n
 wf:EnsWf L
 nx0:0≤nx
 nx1:nx≤4611686018427387905
theorem Okc.few {n nx:Int}{L:List En}(h:Okc n L nx):L.length≤64:=by
 have:=up_few (a:=0) (n:=n) h.up h.ins
 have:=h.n64;have:=h.n1
 omega
theorem Okc.new {n:Int}(h1:1≤n)(h2:n≤64):Okc n [] 0:=⟨h1,h2,List.Pairwise.nil,fun _ h=>(List.not_mem_nil h).elim,EnsWf.nil,by omega,by omega⟩
theorem Okc.lay {n nx:Int}{L:List En}(h:Okc n L nx){e:En}(he:e.Wf)(hb:0≤e.b∧e.b<n):Okc n (layE L e) nx :=
 ⟨h.n1,h.n64,lay_up h.up,fun x hx=>by rcases mem_lay.1 hx with rfl | ⟨hx,_⟩;exact hb;exact h.ins x hx,fun x hx=>by rcases mem_lay.1 hx with rfl | ⟨hx,_⟩;exact he;exact h.wf x hx,h.nx0,h.nx1⟩
theorem Okc.drop {n nx:Int}{L:List En}(h:Okc n L nx)(e:En):Okc n (drpE L e) nx :=
 ⟨h.n1,h.n64,drp_up h.up,fun x hx=>h.ins x (mem_drp.1 hx).1,fun x hx=>h.wf x (mem_drp.1 hx).1,h.nx0,h.nx1⟩
theorem Okc.drops {n nx:Int}{L:List En}(h:Okc n L nx):∀(l:List En),Okc n (drps L l) nx:=fun l=>by
 induction l generalizing L with
 | nil=>exact h
 | cons e l ih=>exact ih (h.drop e)
theorem Okc.next {n nx p:Int}{L:List En}(h:Okc n L nx)(h0:0≤p)(h1:p≤4611686018427387904):Okc n L (p+1):=⟨h.n1,h.n64,h.up,h.ins,h.wf,by omega,by omega⟩
theorem Okc.lays {n nx p:Int}{L:List En}(h:Okc n L nx)(hp:0≤p∧p<18446744073709551616):∀(l:List Im),ImsWf l→(∀i∈l,outI n i=false)→Okc n (lays L l p) nx:=fun l=>by
 induction l generalizing L with
 | nil=>exact fun _ _=>h
 | cons i l ih =>
  intro hw ho
  have hi:=hw i List.mem_cons_self
  have hn:=ho i List.mem_cons_self
  refine ih (h.lay (e:=⟨i.b,i.v,p⟩) ⟨hi.b,hi.len,hi.byte,hp⟩ (by simpa [outI] using hn)) (fun x hx=>hw x (List.mem_cons_of_mem _ hx)) (fun x hx=>ho x (List.mem_cons_of_mem _ hx))
end Go.Proofs.YtcdjepkhdjpjcaaGreatDoor.C
