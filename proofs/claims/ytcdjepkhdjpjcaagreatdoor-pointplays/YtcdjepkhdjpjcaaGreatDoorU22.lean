import Derived.Test.YtcdjepkhdjpjcaaGreatDoorU10
import Derived.Test.YtcdjepkhdjpjcaaGreatDoorU12
set_option maxHeartbeats 20000000
set_option maxRecDepth 100000
namespace Go.Proofs.Zq.C
open Go.Proofs.Tryz
open Go.RowKit
theorem pS{α:Type}{m:Nat}:∀(L:List (List α)) (_:∀l∈L,l.length=m),L.flatten.length=L.length*m
 | [],_=>by simp
 | a :: r,hl=>by
  have ha:=hl a bS;rw[List.flatten_cons,aO,pS r (fun l qi=>hl l (cO _ qi)),ha,bz,Nat.add_mul];omega
def bE (t:TypeId)(w:World)(g:Nat)(cs:List Value):Prop:=w.heap[g]?=some (.cells cs.toArray t (0,0))
theorem bE.lt{t:TypeId}{w:World}{g:Nat}{cs:List Value}(h:bE t w g cs):g<w.heap.size:=(au.1 h).1
theorem bE.later{t:TypeId}{w w':World}{g:Nat}{cs:List Value}(h:bE t w g cs)(hb:Below w.heap.size w w'):bE t w' g cs:=(hb.block g h.lt).trans h
theorem bE.new(t:TypeId)(w:World)(cs:List Value):bE t (w.alloc (.cells cs.toArray t)) w.heap.size cs:=aG w _
theorem bE.cell{t:TypeId}{w:World}{g:Nat}{cs:List Value}(h:bE t w g cs)(j:Nat):w.cell? ⟨g,j,none⟩=cs[j]?:=by
 rw[aq w g j cs.toArray t (0,0) h];simp
theorem bE.range{t:TypeId}{w:World}{g:Nat}{cs:List Value}(h:bE t w g cs):w.rangeAt g 0 cs:=fun j v hv=>by
 rw[aW,h.cell j];exact hv
theorem bE.store{t:TypeId}{w:World}{g:Nat}{cs ds:List Value}(h:bE t w g cs)(ht:(prog.info? t).map (·.size)=some ds.length)(hl:ds.length=cs.length)(hd:ds.toArray.all (·.oneCell')=true) :
  (Instr.storeAt t (.pointer (some ⟨g,0,none⟩)) (.agg ds.toArray)).run prog w=.ok () (w.setRow g ds.toArray):=by
 simp only[Instr.storeAt,Instr.sureAddr,aU,bQ,aH,run_storeVar_row w g t t cs.toArray ds.toArray h (by rw[ht,aM]) (by rw[aM,aM,hl]) hd]
theorem bE.stored{t:TypeId}{w:World}{g:Nat}{cs:List Value}(h:bE t w g cs)(ds:List Value):bE t (w.setRow g ds.toArray) g ds:=cK w g _ _ t (0,0) h
theorem dU{pl:List (Nat × Nat)}(off n:Nat)(i:Nat)(hp:pl.toArray[i]?=some (off,n))(v:Value)(vs cs:List Value)(hv:v.cells=vs.toArray)(hn:vs.length=n)(hl:off+n<=cs.length)(rest:List (Nat × Value)) :
  Instr.fill (pl.toArray[·]?) cs.toArray ((i,v) :: rest)=Instr.fill (pl.toArray[·]?) (cs.take off++vs++cs.drop (off+vs.length)).toArray rest:=by
 have a0:=qC off vs cs (by omega);have a1:vs.toArray.zipIdx.foldl (fun cs x=>match x with | (c,j)=>cs.setIfInBounds (off+j) c) cs.toArray=(cs.take off++vs++cs.drop (off+vs.length)).toArray:=a0;simp only[Instr.fill];rw[hp];dsimp only;rw[hv];simp only[aM];rw[aD (by simp[hn];omega),a1]
section
variable {P:Program} {ops:Array Oper} {rest:List Oper} {o:Oper} {a:Act} {w w':World} {Q:Exit->Act->World->Prop}
theorem uk(jt:Region.wanted o (yielded ops a.tmps)=true)(ty:TypeId){x y:Operand}{t2:TypeId}(ho:o.op=.binOp .neq ty x y t2){xs ys:Array Value}{v:Value}(hx:a.eval x=.agg xs)(hy:a.eval y=.agg ys)(hg:P.eqGuardType P.depth ty=false)(dM:(binOp .neq ty (.agg xs) (.agg ys)).run P w=.ok v w)
  (h:wpList P ops Q rest (a.put o.dst v) w):wpList P ops Q (o :: rest) a w :=
 jz jt (by unfold execOp;simp only[ho,hx,hy,aU,run_eqGuard_agg w .neq ty x y xs ys hg,dM,aH,bQ]) h
end
theorem zv(t:TypeId)(z:Value)(hz:(prog.info? t).bind (·.zero)=some z)(w:World):(zeroValue t).run prog w=.ok z w:=by
 cases hi:prog.info? t with
 | none=>simp[hi] at hz
 | some it =>
  simp only[hi,q_] at hz;simp[zeroValue,typeInfo,hi,hz]
def fl (P : Program)(t : TypeId) : List (Bool × TypeId × Nat) := (P.fieldsOf t).toList.map fun f => (decide (f.name ≠ "_"), f.type, f.offset)
def og (d:Nat)(xs ys:Array Value):List (Bool × TypeId × Nat)->Sem Bool
 | []=>pure true
 | f :: fs =>
  if f.1=true then do
   let a <- part f.2.1 xs f.2.2
   let b <- part f.2.1 ys f.2.2
   let r <- Op.equalIn d f.2.1 a b
   if (!r)=true then pure false else og d xs ys fs
  else og d xs ys fs
theorem Co(d : Nat)(xs ys : Array Value) : ∀ fs : List Field, Op.eqFields d xs ys fs = og d xs ys (fs.map fun f => (decide (f.name ≠ "_"), f.type, f.offset))
 | []=>rfl
 | f :: fs=>by
  simp only[Op.eqFields,l_,og,Co d xs ys fs,gx]
theorem rJ(w:World)(d:Nat)(xs ys:Array Value)(t:TypeId)(o:Nat)(fs:List (Bool × TypeId × Nat)){a b:Value}{c:Bool}(ha:(part t xs o).run prog w=.ok a w)(hb:(part t ys o).run prog w=.ok b w)(he:(Op.equalIn d t a b).run prog w=.ok c w) :
  (og d xs ys ((true,t,o) :: fs)).run prog w=if c=true then (og d xs ys fs).run prog w else .ok false w:=by
 rw[og];simp only[if_true,aU,ha,hb,he,aH];cases c
 ·simp
 ·simp
theorem abX(w:World)(cs:List Value)(o:Nat)(v:Int)(h:cs[o]?=some (.int .i64 v)):(part 3 cs.toArray o).run prog w=.ok (.int .i64 v) w:=by
 simp[part,isAgg,run_underlying underlying3,h]
structure Im where
 b:Int
 v:List Int
structure Im.Wf (i:Im):Prop where
 b:i64 i.b
 len:i.v.length=32
 byte:Bytes i.v
def pY (l:List Im):Prop:=∀i∈l,i.Wf
theorem pY.nil:pY []:=fun _ h=>by cases h
theorem MP(w:World)(d:Nat)(xs ys:List Int)(hx:xs.length=32)(hy:ys.length=32) :
  (Op.equalIn (d+2) 51 (.agg (U8 xs).toArray) (.agg (U8 ys).toArray)).run prog w=.ok (decide (xs=ys)) w:=by
 rw[<-R.rN xs ys (hx.trans hy.symm),hx,List.range_eq_range',Op.equalIn];simp only[aU,run_underlying gw,aH,R.sizeOf5,Std.Legacy.Range.forIn_eq_forIn_range',Std.Legacy.Range.size,Nat.sub_zero,Nat.add_sub_cancel,Nat.div_one];have hl:∀i∈List.range' 0 32 1,i<32:=fun i hi=>by simpa using (List.mem_range'_1.1 hi).2
 generalize List.range' 0 32 1=l at hl ⊢
 induction l with
 | nil=>simp
 | cons i l ih =>
  have hi:i<32:=hl i (by simp);have px:(part 5 (U8 xs).toArray (i*1)).run prog w=.ok (.int .u8 (xs.getD i 0)) w:=by
   simp[part,isAgg,run_underlying underlying5,List.getD,List.getElem?_eq_getElem (show i<xs.length by omega)]
  have py:(part 5 (U8 ys).toArray (i*1)).run prog w=.ok (.int .u8 (ys.getD i 0)) w:=by
   simp[part,isAgg,run_underlying underlying5,List.getD,List.getElem?_eq_getElem (show i<ys.length by omega)]
  have pe:(Op.equalIn (d+1) 5 (.int .u8 (xs.getD i 0)) (.int .u8 (ys.getD i 0))).run prog w=.ok (xs.getD i 0 == ys.getD i 0) w:=run_equalIn_int w d 5 .u8 .u8 _ _ underlying5;simp only[List.forIn_cons,aU,px,py,pe,aH,List.all_cons];cases hb:(xs.getD i 0 == ys.getD i 0)
  ·simp
  ·simp only[Bool.not_true,Bool.false_eq_true,if_false,bQ,aH,Bool.true_and];exact ih fun j hj=>hl j (by simp[hj])
theorem aic(w:World)(xs ys:List Int)(hx:xs.length=32)(hy:ys.length=32) :
  (binOp .eql 51 (.agg (U8 xs).toArray) (.agg (U8 ys).toArray)).run prog w=.ok (.bool (decide (xs=ys))) w:=by
 rw[run_eql_struct,MP w 9998 xs ys hx hy];rfl
theorem abT:(prog.info? 84).map (·.size)=some 33:=by kernel_rfl
def dO (i:Im):List Value:=.int .i64 i.b :: U8 i.v
def VV:Im:=⟨0,zs 32⟩
theorem gH{i:Im}(h:i.v.length=32):(dO i).length=33:=by simp[dO,h]
theorem y_(i:Im):∀v∈dO i,v.oneCell'=true:=fun v hv=>by
 rcases bZ.1 hv with rfl | hv
 ·rfl
 ·exact eO _ v hv
theorem Mv(i:Im):(dO i).toArray.all (·.oneCell')=true:=gy (y_ i)
def IC (l:List Im):List Value:=(l.map dO).flatten
theorem abx(l:List Im)(i:Im):IC (l++[i])=IC l++dO i:=by simp[IC]
theorem X_{l:List Im}(h:pY l):(IC l).length=l.length*33:=by
 have:=pS (m:=33) (l.map dO) (fun x hx=>by
  obtain ⟨i,hi,rfl⟩:=cF.1 hx;exact gH (h i hi).len)
 rw[dI] at this;exact this
theorem aiy{l:List Im}(h:pY l){k:Nat}{i:Im}(hk:l[k]?=some i)(j:Nat)(hj:j<33):(IC l)[33*k+j]?=(dO i)[j]?:=by
 obtain ⟨kN,e⟩:=aA.1 hk;have:=pT (m:=33) (l.map dO) (fun x hx=>by
  obtain ⟨i,hi,rfl⟩:=cF.1 hx;exact gH (h i hi).len) k (by simpa using kN) j hj
 rw[IC,this];simp[e]
def plI:List (Nat × Nat):=[(0,1),(1,32)]
theorem ZL:placesOf prog 84=some plI:=by kernel_rfl
theorem abN:(prog.info? 84).bind (·.zero)=some (.agg (dO VV).toArray):=by kernel_rfl
theorem ab3:(prog.info? 84).map (fun i=>(i.zero,i.size,i.bytes))=some (some (.agg (dO VV).toArray),33,40):=by kernel_rfl
theorem aaI(i:Im)(h:i.v.length=32)(b:Int)(rest:List (Nat × Value)):Instr.fill (plI.toArray[·]?) (dO i).toArray ((0,.int .i64 b) :: rest)=Instr.fill (plI.toArray[·]?) (dO ⟨b,i.v⟩).toArray rest :=
 dU 0 1 0 rfl _ [.int .i64 b] _ rfl rfl (by rw[gH h];omega) rest
theorem aaH(i:Im)(h:i.v.length=32)(v:List Int)(hv:v.length=32)(rest:List (Nat × Value)):Instr.fill (plI.toArray[·]?) (dO i).toArray ((1,.agg (U8 v).toArray) :: rest)=Instr.fill (plI.toArray[·]?) (dO ⟨i.b,v⟩).toArray rest:=by
 rw[dU 1 32 1 rfl _ (U8 v) _ rfl (by rw[aX,hv]) (by rw[gH h];omega) rest]
 congr 2
 rw[aX,hv];simp only[dO,ig,jy,ct,bF,jh];rw[jl (by rw[aX,h];omega),jQ]
theorem ae7(w:World)(b:Int)(v:List Int)(hv:v.length=32):(Instr.build 84 #[(0,.int .i64 b),(1,.agg (U8 v).toArray)]).run prog w=.ok (.agg (dO ⟨b,v⟩).toArray) w:=by
 refine eo w 84 _ _ ((jr 84 _ _ _ ZL abN).trans ?_);show Instr.fill (plI.toArray[·]?) (dO VV).toArray [(0,.int .i64 b),(1,.agg (U8 v).toArray)]=_;rw[aaI VV (bG 32),aaH ⟨b,VV.v⟩ (bG 32) v hv];rfl
theorem afc(w:World):(Instr.alloc 84 true (.tuple #[])).run prog w=.ok (.pointer (some ⟨w.heap.size,0,none⟩)) (w.alloc (.cells (dO VV).toArray 84)):=by
 simp only[Instr.alloc,aU,zv 84 _ abN,aH];simp[newVar,newRow,Value.cells]
theorem KQ(w:World)(i:Im)(hi:i.v.length=32):(Instr.storeAt 84 (.pointer (some ⟨w.heap.size,0,none⟩)) (.agg (dO i).toArray)).run prog (w.alloc (.cells (dO VV).toArray 84))=.ok () (w.alloc (.cells (dO i).toArray 84)):=by
 rw[(bE.new 84 w (dO VV)).store (ds:=dO i) (by rw[abT,gH hi]) (by rw[gH hi,gH (bG 32)]) (Mv i),jA]
theorem bE.Zd{t:TypeId}{w:World}{g:Nat}{i:Im}(h:bE t w g (dO i)):w.rangeAt g 1 (U8 i.v):=fun j v hv=>by
 rw[bE.cell h (1+j),Nat.add_comm];exact hv
theorem bE.adT{t:TypeId}{w:World}{g:Nat}{i:Im}(h:bE t w g (dO i))(hi:i.v.length=32):(Instr.loadAt 51 (.pointer (some ⟨g,1,none⟩))).run prog w=.ok (.agg (U8 i.v).toArray) w :=
 b_ w g 1 51 (U8 i.v) _ (bE.Zd h) gw rfl (by rw[vZ,aX,hi])
theorem Xv(w:World)(i:Im)(Aj:i.v.length=32):(Instr.buildSlice 85 1 #[(0,.agg (dO i).toArray)]).run prog w=.ok (.slice (some ⟨w.heap.size,0,none⟩) 1 1) (w.alloc (.cells (dO i).toArray 84)):=by
 obtain ⟨i0,hi,ij,gm,iL⟩:=cj ab3;refine run_buildSlice w 85 84 1 _ _ i0 _ underlying85 hi ij (by rw[gm];decide) (by rw[gm];decide) ?_;rw[gm];have hl:(dO i).length=33:=gH Aj;have hA:∀A:Array Value,A.size=33->Instr.fill (fun i=>some (i*33,33)) A [(0,.agg (dO i).toArray)]=some (dO i).toArray:=by
  intro A hA;have a0:=qC 0 (dO i) A.toList (by simp;omega);simp only[Instr.fill,Value.cells,aM,Nat.zero_mul];rw[aD (by simp[hl,hA])];have a0':(dO i).toArray.zipIdx.foldl (fun cs x=>match x with | (c,j)=>cs.setIfInBounds (0+j) c) A=((A.toList.take 0++dO i++A.toList.drop (0+(dO i).length))).toArray:=a0;rw[a0',jm (by simp[hl,hA])];simp
 exact hA _ (by simp)
structure uD (w:World) (p:Option Addr) (n:Nat) (l:List Im):Prop where
 len:l.length=n
 wf:pY l
 cells:0<n->∃b o,p=some ⟨b,o,none⟩/\w.rangeAt b o (IC l)
theorem uD.nil(w:World)(p:Option Addr):uD w p 0 []:=⟨rfl,pY.nil,fun h=>absurd h (gB 0)⟩
theorem wE{w:World}{b o:Nat}{cs:List Value}(h:w.rangeAt b o cs)(h0:0<cs.length):b<w.heap.size:=by
 have:=h 0 cs[0] (by rw[ay h0]);exact cG w _ this
theorem pN{w w':World}{b o:Nat}{cs:List Value}(h:w.rangeAt b o cs)(hb:w'.heap[b]?=w.heap[b]?):w'.rangeAt b o cs:=fun j v hv=>(dN (a:=⟨b,o+j,none⟩) hb).trans (h j v hv)
theorem uD.later{w w':World}{p:Option Addr}{n:Nat}{l:List Im}(h:uD w p n l)(hb:Below w.heap.size w w'):uD w' p n l:=by
 refine⟨h.len,h.wf,fun h0=>?_⟩;obtain ⟨b,o,e,hr⟩:=h.cells h0;exact⟨b,o,e,pN hr (hb.block b (wE hr (by rw[X_ h.wf,h.len];omega)))⟩
theorem uD.at{w:World}{b o n:Nat}{l:List Im}(h:uD w (some ⟨b,o,none⟩) n l){k:Nat}{i:Im}(hk:l[k]?=some i):w.rangeAt b (o+k*33) (dO i):=fun j v hv=>by
 have kN:=(aA.1 hk).1;obtain ⟨b',o',e,hr⟩:=h.cells (by rw[<-h.len];omega);cases e;have hj:j<33:=by have:=(aA.1 hv).1;rw[gH (h.wf i (bt hk)).len] at this;exact this
 have:=hr (33*k+j) v (by rw[aiy h.wf hk j hj];exact hv);rw[show o+k*33+j=o+(33*k+j) by omega];exact this
theorem uD.c0{w:World}{b o n:Nat}{l:List Im}(h:uD w (some ⟨b,o,none⟩) n l){k:Nat}{i:Im}(hk:l[k]?=some i):w.cell? ⟨b,o+k*33,none⟩=some (.int .i64 i.b):=h.at hk 0 _ rfl
theorem uD.load{w:World}{b o n:Nat}{l:List Im}(h:uD w (some ⟨b,o,none⟩) n l){k:Nat}{i:Im}(hk:l[k]?=some i):(Instr.loadAt 84 (.pointer (some ⟨b,o+k*33,none⟩))).run prog w=.ok (.agg (dO i).toArray) w :=
 b_ w b (o+k*33) 84 (dO i) _ (h.at hk) underlying84 rfl (by rw[abT,gH (h.wf i (bt hk)).len])
abbrev Kg (w:World)(B:Nat)(v:Value)(l:List Im):Prop:=w.ownsRow B 84 33 v l.length (IC l)
theorem Kg.in{w:World}{B:Nat}{v:Value}{l:List Im}(h:Kg w B v l)(hw:pY l):∃p c,v=.slice p l.length c/\uD w p l.length l/\l.length<=c/\c<=maxLen:=by
 rcases h.2 with ⟨e,e2⟩ | ⟨g,cap,cur,e,_,hg,h1,h2,h3,h4⟩
 ·refine⟨none,0,by rw[e,e2],?_,by omega,by decide⟩;exact⟨rfl,hw,fun h0=>by omega⟩
 ·refine⟨_,cap,e,⟨rfl,hw,fun _=>⟨g,0,rfl,fun j v hv=>?_⟩⟩,h1,h2⟩;rw[aW,aq w g j cur 84 (0,0) hg];have hj:=(aA.1 hv).1;rw[<-h4,fG] at hv;split at hv
  ·simpa using hv
  ·cases hv
theorem ko{V V':World}(h:Below V.heap.size V V'):V.grownBy V' none:=⟨h.os,h.tape,h.output,h.size,fun k hk _=>h.block k hk⟩
theorem Kg.later{w w':World}{B:Nat}{v:Value}{l:List Im}(h:Kg w B v l)(hb:Below w.heap.size w w'):Kg w' B v l:=h.kept (ko hb) (by cases hh:v.ownBlock <;> simp)
theorem dJ{fn:Func}{p u:Tmp}{ty:TypeId}(h:fn.results=#[.cell p ty,.tmp u])(tmps:Array Value)(w:World)(g:Nat)(t:TypeId)(cs:List Value)(d:TypeDesc)
  (hp:tmps.getD p undef=.pointer (some ⟨g,0,none⟩)) (hg:bE t w g cs) (hu:prog.underlying ty=some d) (hd:d.isRow=true) (hi:(prog.info? ty).map (·.size)=some cs.length) :
  (results fn tmps).run prog w=.ok (.tuple #[.agg cs.toArray,tmps.getD u undef]) w:=by
 rw[results_cell_tmp h,hp];simp only[asAddr,bQ,aH,run_loadVar_mid w g 0 ty _ d (bE.range hg) hu hd hi]
section
variable {P:Program} {ops:Array Oper} {rest:List Oper} {o:Oper} {a:Act} {w w':World} {Q:Exit->Act->World->Prop}
theorem gW(jt:Region.wanted o (yielded ops a.tmps)=true)(ty:TypeId){x:Operand}(ho:o.op=.buildSlice ty 1 #[(0,x)]){u v:Value}(hx:a.eval x=u)(dM:(Instr.buildSlice ty 1 #[(0,u)]).run P w=.ok v w')(h:wpList P ops Q rest (a.put o.dst v) w'):wpList P ops Q (o :: rest) a w :=
 jz jt (by
  have e:(#[(0,x)]:Array (Nat × Operand)).map (fun (i,y)=>(i,a.eval y))=#[(0,u)]:=by simp[hx]
  unfold execOp;simp only[ho];rw[e];simp only[aU,dM,aH,bQ]) h
theorem ez(jt:Region.wanted o (yielded ops a.tmps)=true){s x:Operand}{t ty:TypeId}(ho:o.op=.call { callee:=.builtin .append,args:=#[s,x],argTypes:=#[t,t] })(hty:o.type=ty){u1 u2 v:Value}(hs:a.eval s=u1)(hx:a.eval x=u2)(dM:(Builtin.append_ #[t,t] ty #[u1,u2]).run P w=.ok v w')(h:wpList P ops Q rest (a.put o.dst v) w'):wpList P ops Q (o :: rest) a w :=
 jz jt (by subst hty;simp[execOp,ho,resolve,invoke,builtin,hs,hx,dM,Result.andThen]) h
end
theorem Zm(w:World):(sizeOf 51).run prog w=.ok 32 w:=by
 cases hi:prog.info? 51 with
 | none=>have:=vZ;simp[hi] at this
 | some i =>
  have h:=vZ;simp only[hi,iZ,aC] at h;simp[sizeOf,typeInfo,hi,h]
theorem CP{P:Program}{ops:Array Oper}{S:World->Prop}{o:Oper}{a:Act}(hw:Region.wanted o (yielded ops a.tmps)=true)(ty:TypeId){x y:Operand}{t2:TypeId}(ho:o.op=.binOp .neq ty x y t2){xs ys:Array Value}{v:Value}(hx:a.eval x=.agg xs)(hy:a.eval y=.agg ys)(hg:P.eqGuardType P.depth ty=false)(dM:∀w,(binOp .neq ty (.agg xs) (.agg ys)).run P w=.ok v w):YieldsIf P ops S o v a :=
 .inl ⟨hw,fun w _=>by unfold execOp;simp only[ho,hx,hy,aU,run_eqGuard_agg w .neq ty x y xs ys hg,dM w,aH,bQ]⟩
end Go.Proofs.Zq.C
namespace Go.Proofs.Zq.C
open Go.RowKit
structure En where
 b:Int
 v:List Int
 p:Int
structure En.Wf (e:En):Prop where
 b:i64 e.b
 len:e.v.length=32
 byte:Bytes e.v
 p:0<=e.p/\e.p<18446744073709551616
def dW (l:List En):Prop:=∀e∈l,e.Wf
theorem dW.nil:dW []:=fun _ h=>by cases h
theorem dW.snoc{l:List En}(h:dW l){i:En}(hi:i.Wf):dW (l++[i]):=fun x hx=>by
 rcases bH.1 hx with hx | hx
 ·exact h x hx
 ·rw[bg.1 hx];exact hi
theorem dW.append{l m:List En}(h:dW l)(k:dW m):dW (l++m):=fun x hx=>(bH.1 hx).elim (h x) (k x)
abbrev Dr (L:List En):Prop:=L.Pairwise (fun x y=>x.b<y.b)
def mM (L:List En)(b:Int):Nat:=L.countP (fun x=>decide (x.b<b))
def EF (L:List En)(b:Int):Bool:=(L[mM L b]?).any (fun x=>decide (x.b=b))
def gtE (L:List En)(b:Int):Option En:=L.find? (fun x=>decide (x.b=b))
def uP (L:List En)(e:En):List En:=L.filter (fun x=>decide (x.b<e.b))++[e]++L.filter (fun x=>decide (e.b<x.b))
def Rm (e x:En):Bool:=decide (x.b=e.b) && decide (x.p=e.p)
def qm (L:List En)(e:En):List En:=L.filter (fun x=>!Rm e x)
def wZ (L:List En)(e:En):Nat:=L.countP (Rm e)
theorem UO(L:List En)(b:Int):mM L b<=L.length:=List.countP_le_length
theorem UN{L:List En}{b:Int}(h:∀x∈L,b<=x.b):mM L b=0:=by
 rw[mM,List.countP_eq_zero];intro x hx;have:=h x hx;simp;omega
theorem wH{x:En}{L:List En}{b:Int}(hu:Dr (x :: L)):mM (x :: L) b=if x.b<b then mM L b+1 else 0:=by
 by_cases h:x.b<b
 ·rw[aE h,mM,List.countP_cons_of_pos (by simpa using h)];rfl
 ·rw[aD h];refine UN fun y hy=>?_;rcases bZ.1 hy with rfl | hy
  ·omega
  ·have:=(cQ.1 hu).1 y hy;omega
theorem LN:∀{L:List En} {b:Int},Dr L->∀(j:Nat) (x:En),j<mM L b->L[j]?=some x->x.b<b
 | [],b,_,j,x,h,_=>by simp[mM] at h
 | y :: L,b,hu,j,x,h,hx=>by
  rw[wH hu] at h;by_cases hy:y.b<b
  ·rw[aE hy] at h;cases j with
   | zero=>cases hx;exact hy
   | succ j=>exact LN (cQ.1 hu).2 j x (by omega) (by simpa using hx)
  ·rw[aD hy] at h;omega
theorem LQ:∀{L:List En} {b:Int},Dr L->∀(j:Nat) (x:En),mM L b<=j->L[j]?=some x->b<=x.b
 | [],b,_,j,x,_,hx=>by simp at hx
 | y :: L,b,hu,j,x,h,hx=>by
  rw[wH hu] at h;by_cases hy:y.b<b
  ·rw[aE hy] at h;cases j with
   | zero=>omega
   | succ j=>exact LQ (cQ.1 hu).2 j x (by omega) (by simpa using hx)
  ·cases j with
   | zero=>cases hx;omega
   | succ j =>
    have:=(cQ.1 hu).1 x (bt (by simpa using hx));omega
theorem adw{L:List En}{b:Int}(hu:Dr L){i:Nat}(hi:i<=L.length)(h1:∀j x,j<i->L[j]?=some x->x.b<b)(h2:∀j x,i<=j->L[j]?=some x->b<=x.b):i=mM L b:=by
 rcases Nat.lt_trichotomy i (mM L b) with h | h | h
 ·have hl:i<L.length:=bN h (UO L b);have e:=ay hl;have a:=LN hu i _ h e;have c:=h2 i _ (az _) e;omega
 ·exact h
 ·have hl:mM L b<L.length:=by omega
  have e:=ay hl;have a:=LQ hu _ _ (az _) e;have c:=h1 _ _ h e;omega
theorem qI{L:List En}{b:Int}(h:EF L b=true):∃x,L[mM L b]?=some x/\x.b=b:=by
 unfold EF at h;cases e:L[mM L b]? with
 | none=>rw[e] at h;simp at h
 | some x=>rw[e] at h;simp at h;exact⟨x,rfl,h⟩
theorem VM{L:List En}{b:Int}(h:EF L b=false)(x:En)(hx:L[mM L b]?=some x):x.b≠b:=by
 unfold EF at h;rw[hx] at h;simpa using h
theorem vT:∀{L:List En} {b:Int},Dr L->L.take (mM L b)=L.filter (fun x=>decide (x.b<b))
 | [],b,_=>rfl
 | y :: L,b,hu=>by
  have hu':=cQ.1 hu;rw[wH hu];by_cases hy:y.b<b
  ·rw[aE hy,ig,vT hu'.2,List.filter_cons_of_pos (by simpa using hy)]
  ·rw[aD hy,jy];refine (List.filter_eq_nil_iff.2 fun x hx=>?_).symm;rcases bZ.1 hx with rfl | hx
   ·simpa using hy
   ·have:=hu'.1 x hx;simp;omega
theorem w_:∀{L:List En} {b:Int},Dr L->L.drop (mM L b)=L.filter (fun x=>decide (b<=x.b))
 | [],b,_=>by simp
 | y :: L,b,hu=>by
  have hu':=cQ.1 hu;rw[wH hu];by_cases hy:y.b<b
  ·rw[aE hy,jh,w_ hu'.2,List.filter_cons_of_neg (by simp;omega)]
  ·rw[aD hy,List.drop_zero];refine (nO.2 fun x hx=>?_).symm;rcases bZ.1 hx with rfl | hx
   ·simpa using hy
   ·have:=hu'.1 x hx;simp;omega
theorem Pm{L:List En}{b:Int}(hu:Dr L)(h:EF L b=true):L.drop (mM L b+1)=L.filter (fun x=>decide (b<x.b)):=by
 obtain ⟨x,hx,hb⟩:=qI h;obtain ⟨hl,ex⟩:=aA.1 hx;have e1:=w_ (b:=b) hu;rw[eS hl,ex] at e1;have e2:(L.filter (fun x=>decide (b<=x.b))).filter (fun x=>decide (b<x.b))=L.filter (fun x=>decide (b<x.b)):=by
  rw[List.filter_filter];refine List.filter_congr fun y _=>?_;by_cases c:b<y.b
  ·simp[c];omega
  ·simp[c]
 rw[<-e2,<-e1,List.filter_cons_of_neg (by simp;omega)];refine (nO.2 fun y hy=>?_).symm;obtain ⟨j,hj,ej⟩:=fL hy;rw[cN] at hj;rw[List.getElem_drop] at ej;have:=eR.1 hu (mM L b) (mM L b+1+j) hl (by omega) (by omega);rw[ex,ej] at this;simp;omega
theorem Pk{L:List En}{b:Int}(hu:Dr L)(h:EF L b=false):L.drop (mM L b)=L.filter (fun x=>decide (b<x.b)):=by
 rw[w_ hu];refine List.filter_congr fun y hy=>?_;by_cases c:y.b=b
 ·exfalso;obtain ⟨j,hj,ej⟩:=fL hy;have ey:L[j]?=some y:=by rw[ay hj,ej]
  rcases Nat.lt_trichotomy j (mM L b) with k | k | k
  ·have:=LN hu j y k ey;omega
  ·subst k;exact VM h y ey c
  ·have hl:mM L b<L.length:=by omega
   have e3:=ay hl;have a1:=LQ hu _ _ (az _) e3;have a3:=eR.1 hu _ _ hl hj k;rw[ej] at a3;omega
 ·have:b<=y.b↔b<y.b:=by omega
  simp[this]
theorem adY{L:List En}{e:En}(hu:Dr L)(h:EF L e.b=true):L.set (mM L e.b) e=uP L e:=by
 obtain ⟨x,hx,_⟩:=qI h;have hl:=(aA.1 hx).1;rw[List.set_eq_take_append_cons_drop,aE hl,vT hu,Pm hu h];simp[uP]
theorem adX{L:List En}{e:En}(hu:Dr L)(h:EF L e.b=false):L.take (mM L e.b)++[e]++L.drop (mM L e.b)=uP L e:=by
 rw[vT hu,Pk hu h];rfl
theorem Ow{L:List En}{e x:En}:x∈uP L e↔x=e\/(x∈L/\x.b≠e.b):=by
 unfold uP;simp only[bH,iw,bg,gx];constructor
 ·rintro ((⟨h,c⟩ | h) | ⟨h,c⟩)
  ·exact .inr ⟨h,by omega⟩
  ·exact .inl h
  ·exact .inr ⟨h,by omega⟩
 ·rintro (h | ⟨h,c⟩)
  ·exact .inl (.inr h)
  ·by_cases k:x.b<e.b
   ·exact .inl (.inl ⟨h,k⟩)
   ·exact .inr ⟨h,by omega⟩
theorem adW{L:List En}{e:En}(hu:Dr L):Dr (uP L e):=by
 unfold uP;rw[aS];refine jT.2 ⟨hu.sublist (List.filter_sublist),?_,fun x hx y hy=>?_⟩
 ·rw[List.singleton_append];exact cQ.2 ⟨fun y hy=>by simpa using (iw.1 hy).2,hu.sublist (List.filter_sublist)⟩
 ·have h1:x.b<e.b:=by simpa using (iw.1 hx).2
  rcases bH.1 hy with hy | hy
  ·rw[bg.1 hy];exact h1
  ·have h2:e.b<y.b:=by simpa using (iw.1 hy).2
   omega
theorem Ze{L:List En}(hu:Dr L){x y:En}(hx:x∈L)(hy:y∈L)(e:x.b=y.b):x=y:=by
 induction L with
 | nil=>cases hx
 | cons z L ih =>
  have h1:=(cQ.1 hu).1;rcases bZ.1 hx with e1 | Ah <;> rcases bZ.1 hy with e2 | EH
  ·rw[e1,e2]
  ·have:=h1 y EH;rw[e1] at e;omega
  ·have:=h1 x Ah;rw[e2] at e;omega
  ·exact ih (cQ.1 hu).2 Ah EH
theorem aaD{L:List En}{b:Int}{x:En}(h:gtE L b=some x):x∈L/\x.b=b :=
 ⟨List.mem_of_find?_eq_some h,by simpa using List.find?_some h⟩
theorem WB{L:List En}{b:Int}(h:gtE L b=none)(x:En)(hx:x∈L):x.b≠b:=by
 simpa using List.find?_eq_none.1 h x hx
theorem ah4{L:List En}{b:Int}(hu:Dr L)(h:EF L b=false):gtE L b=none:=by
 cases e:gtE L b with
 | none=>rfl
 | some y =>
  obtain ⟨hm,hb⟩:=aaD e;have h1:y∈L.drop (mM L b):=by rw[w_ hu];exact iw.2 ⟨hm,by simp;omega⟩
  rw[Pk hu h] at h1;have h2:b<y.b:=by simpa using (iw.1 h1).2
  omega
theorem aeQ{L:List En}{e:En}(hu:Dr L):Dr (qm L e):=hu.sublist (List.filter_sublist)
theorem FE{L:List En}{e x:En}:x∈qm L e↔x∈L/\Rm e x=false:=by
 unfold qm;rw[iw];simp
theorem Am(L:List En)(e:En):(qm L e).length+wZ L e=L.length:=by
 unfold qm wZ
 induction L with
 | nil=>rfl
 | cons x L ih=>cases h:Rm e x <;> simp[h] <;> omega
theorem aeR{L:List En}{e:En}(hu:Dr L)(h:EF L e.b=true){x:En}(hx:L[mM L e.b]?=some x)(hp:x.p=e.p):L.take (mM L e.b)++L.drop (mM L e.b+1)=qm L e/\wZ L e=1:=by
 obtain ⟨y,hy,hb⟩:=qI h;rw[hx] at hy;cases hy;obtain ⟨hl,ex⟩:=aA.1 hx;have e0:L.take (mM L e.b)++L.drop (mM L e.b+1)=qm L e:=by
  have e1:L=L.take (mM L e.b)++x :: L.drop (mM L e.b+1):=by rw[<-ex,<-eS hl,eE]
  unfold qm;have a1:(L.take (mM L e.b)).filter (fun x=>!Rm e x)=L.take (mM L e.b):=nO.2 fun z hz=>by
   rw[vT hu] at hz;have:z.b<e.b:=by simpa using (iw.1 hz).2
   have n:z.b≠e.b:=by omega
   simp[Rm,n]
  have a2:(L.drop (mM L e.b+1)).filter (fun x=>!Rm e x)=L.drop (mM L e.b+1):=nO.2 fun z hz=>by
   rw[Pm hu h] at hz;have:e.b<z.b:=by simpa using (iw.1 hz).2
   have n:z.b≠e.b:=by omega
   simp[Rm,n]
  conv=>rhs;rw[e1]
  rw[List.filter_append,a1,List.filter_cons_of_neg (by simp[Rm,hb,hp]),a2]
 refine⟨e0,?_⟩;have l:=Am L e;rw[<-e0,aO,cr,cN] at l;omega
theorem Xd{L:List En}{e:En}(hu:Dr L)(h:∀x,EF L e.b=true->L[mM L e.b]?=some x->x.p≠e.p):qm L e=L/\wZ L e=0:=by
 have key:∀x∈L,Rm e x=false:=fun x hx=>by
  cases c:Rm e x with
  | false=>rfl
  | true =>
   exfalso;have c2:x.b=e.b/\x.p=e.p:=by simpa [Rm] using c
   cases k:EF L e.b with
   | false=>exact WB (ah4 hu k) x hx c2.1
   | true =>
    obtain ⟨y,hy,hb⟩:=qI k;have:=Ze hu hx (bt hy) (by omega);subst this;exact h x k hy c2.2
 have e0:qm L e=L:=nO.2 fun x hx=>by simp[key x hx]
 refine⟨e0,?_⟩;have l:=Am L e;rw[e0] at l;omega
theorem TM:∀{L:List En} {n a:Int},Dr L->(∀x∈L,a<=x.b/\x.b<n)->(L.length:Int)<=max (n-a) 0
 | [],_,_,_,_=>by simp;omega
 | x :: L,n,a,hu,h=>by
  have h0:=h x bS;have ih:=TM (a:=x.b+1) (n:=n) (cQ.1 hu).2 fun y hy=>⟨by have:=(cQ.1 hu).1 y hy;omega,(h y (cO _ hy)).2⟩
  rw[bz];omega
def lQ (L:List En)(l:List En):List En:=l.foldl qm L
def jH:List En->List En->Nat
 | _,[]=>0
 | L,e :: l=>wZ L e+jH (qm L e) l
theorem ER(L l:List En)(e:En):lQ L (l++[e])=qm (lQ L l) e:=by simp[lQ]
theorem vr:∀(L l:List En) (e:En),jH L (l++[e])=jH L l+wZ (lQ L l) e
 | L,[],e=>by simp[jH,lQ]
 | L,x :: l,e=>by
  rw[ct,jH,vr (qm L x) l e,jH];simp only[lQ,List.foldl_cons];omega
theorem Xc{L l:List En}{x:En}:x∈lQ L l↔x∈L/\∀e∈l,Rm e x=false:=by
 induction l generalizing L with
 | nil=>simp[lQ]
 | cons e l ih =>
  rw[show lQ L (e :: l)=lQ (qm L e) l from rfl,ih,FE];simp[and_assoc]
theorem Cp:∀(L l:List En),(lQ L l).length+jH L l=L.length
 | L,[]=>rfl
 | L,e :: l=>by
  have h1:=Cp (qm L e) l;have h2:=Am L e;rw[show lQ L (e :: l)=lQ (qm L e) l from rfl,jH];omega
def lays (L:List En)(l:List Im)(p:Int):List En:=l.foldl (fun L i=>uP L ⟨i.b,i.v,p⟩) L
theorem EA(L:List En)(l:List Im)(i:Im)(p:Int):lays L (l++[i]) p=uP (lays L l p) ⟨i.b,i.v,p⟩:=by simp[lays]
def KM (l:List Im):Bool:=decide (∀j,j<l.length-1->(l.getD j VV).b<(l.getD (j+1) VV).b)
def jC (n:Int)(i:Im):Bool:=decide (i.b<0) || decide (n<=i.b)
def ji (n nx:Int)(l:List Im)(p:Int):Int:=if l.any (jC n)=true then 51 else if KM l=false then 53 else if p<nx\/4611686018427387904<p then 30 else 0
structure t_ (n:Int) (L:List En) (nx:Int):Prop where
 n1:1<=n
 n64:n<=64
 up:Dr L
 ins:∀x∈L,0<=x.b/\x.b<n
 wf:dW L
 nx0:0<=nx
 nx1:nx<=4611686018427387905
theorem t_.nR{n nx:Int}{L:List En}(h:t_ n L nx):L.length<=64:=by
 have:=TM (a:=0) (n:=n) h.up h.ins;have:=h.n64;have:=h.n1;omega
theorem t_.new{n:Int}(h1:1<=n)(h2:n<=64):t_ n [] 0:=⟨h1,h2,List.Pairwise.nil,fun _ h=>(dL h).elim,dW.nil,by omega,by omega⟩
theorem t_.lay{n nx:Int}{L:List En}(h:t_ n L nx){e:En}(he:e.Wf)(hb:0<=e.b/\e.b<n):t_ n (uP L e) nx :=
 ⟨h.n1,h.n64,adW h.up,fun x hx=>by rcases Ow.1 hx with rfl | ⟨hx,_⟩;exact hb;exact h.ins x hx,fun x hx=>by rcases Ow.1 hx with rfl | ⟨hx,_⟩;exact he;exact h.wf x hx,h.nx0,h.nx1⟩
theorem t_.drop{n nx:Int}{L:List En}(h:t_ n L nx)(e:En):t_ n (qm L e) nx :=
 ⟨h.n1,h.n64,aeQ h.up,fun x hx=>h.ins x (FE.1 hx).1,fun x hx=>h.wf x (FE.1 hx).1,h.nx0,h.nx1⟩
theorem t_.acC{n nx:Int}{L:List En}(h:t_ n L nx):∀(l:List En),t_ n (lQ L l) nx:=fun l=>by
 induction l generalizing L with
 | nil=>exact h
 | cons e l ih=>exact ih (h.drop e)
theorem t_.next{n nx p:Int}{L:List En}(h:t_ n L nx)(h0:0<=p)(h1:p<=4611686018427387904):t_ n L (p+1):=⟨h.n1,h.n64,h.up,h.ins,h.wf,by omega,by omega⟩
theorem t_.lays{n nx p:Int}{L:List En}(h:t_ n L nx)(hp:0<=p/\p<18446744073709551616):∀(l:List Im),pY l->(∀i∈l,jC n i=false)->t_ n (lays L l p) nx:=fun l=>by
 induction l generalizing L with
 | nil=>exact fun _ _=>h
 | cons i l ih =>
  intro hw ho;have hi:=hw i bS;have hn:=ho i bS;refine ih (h.lay (e:=⟨i.b,i.v,p⟩) ⟨hi.b,hi.len,hi.byte,hp⟩ (by simpa [jC] using hn)) (fun x hx=>hw x (cO _ hx)) (fun x hx=>ho x (cO _ hx))
