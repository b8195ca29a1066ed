import Derived.Test.YtcdjepkhdjpjcaaGreatDoorU18
import Derived.Test.YtcdjepkhdjpjcaaGreatDoorU22
import Derived.Lib.Overlaps
set_option maxHeartbeats 20000000
set_option maxRecDepth 100000
namespace Go.Proofs.Zq.C
open Go.Proofs.Tryz
open Go.RowKit
def aB (i:En):List Value:=.int .i64 i.b :: (U8 i.v++[.int .u64 i.p])
def lN:En:=⟨0,zs 32,0⟩
theorem cI{i:En}(h:i.v.length=32):(aB i).length=34:=by simp[aB,h]
theorem jv(i:En):∀v∈aB i,v.oneCell'=true:=fun v hv=>by
 rcases bZ.1 hv with rfl | hv
 ·rfl
 ·rcases bH.1 hv with hv | hv
  ·exact eO _ v hv
  ·rw[bg.1 hv];rfl
theorem wY{i:En}(h:i.v.length=32):(aB i)[33]?=some (.int .u64 i.p):=by
 rw[aB,fk,aT (by simp[h])];simp[h]
theorem Xa{i:En}(j:Nat)(v:Value)(h:(U8 i.v)[j]?=some v):(aB i)[j+1]?=some v:=by
 rw[aB,fk,cg (aA.1 h).1];exact h
def ZM:List (Nat × Nat):=[(0,1),(1,32),(33,1)]
def flE:List (Bool × TypeId × Nat):=[(true,3,0),(true,51,1),(true,52,33)]
structure ET (ts te:TypeId):Prop where
 ut:prog.underlying ts=some (.slice te)
 un:prog.underlying te=some (.struct (prog.fieldsOf te))
 inf:(prog.info? te).map (fun i=>(i.zero,i.size,i.bytes))=some (some (.agg (aB lN).toArray),34,48)
 size:(prog.info? te).map (·.size)=some 34
 zero:(prog.info? te).bind (·.zero)=some (.agg (aB lN).toArray)
 places:placesOf prog te=some ZM
 held:prog.stoodInHeld te=false
 eqg:prog.eqGuardType prog.depth te=false
 Ge:fl prog te=flE
 el:Program.elem prog ts=te
theorem jG:ET 47 54:=⟨by kernel_rfl,by kernel_rfl,by kernel_rfl,by kernel_rfl,by kernel_rfl,by kernel_rfl,by kernel_rfl,by kernel_rfl,by kernel_rfl,by kernel_rfl⟩
theorem Dm:ET 160 241:=⟨by kernel_rfl,by kernel_rfl,by kernel_rfl,by kernel_rfl,by kernel_rfl,by kernel_rfl,by kernel_rfl,by kernel_rfl,by kernel_rfl,by kernel_rfl⟩
theorem FL(fs:Array Field):(TypeDesc.struct fs).isRow=true:=rfl
theorem vq(i:En):(aB i).toArray.all (·.oneCell')=true:=gy (jv i)
def EC (l:List En):List Value:=(l.map aB).flatten
theorem PT(l:List En)(i:En):EC (l++[i])=EC l++aB i:=by simp[EC]
theorem iG(l m:List En):EC (l++m)=EC l++EC m:=by simp[EC]
theorem iM{l:List En}(h:dW l):(EC l).length=l.length*34:=by
 have:=pS (m:=34) (l.map aB) (fun x hx=>by
  obtain ⟨i,hi,rfl⟩:=cF.1 hx;exact cI (h i hi).len)
 rw[dI] at this;exact this
theorem ajf{l:List En}(h:dW l){k:Nat}{i:En}(hk:l[k]?=some i)(j:Nat)(hj:j<34):(EC l)[34*k+j]?=(aB i)[j]?:=by
 obtain ⟨kN,e⟩:=aA.1 hk;have:=pT (m:=34) (l.map aB) (fun x hx=>by
  obtain ⟨i,hi,rfl⟩:=cF.1 hx;exact cI (h i hi).len) k (by simpa using kN) j hj
 rw[EC,this];simp[e]
theorem xo(l:List En):∀v∈EC l,v.oneCell'=true:=fun v hv=>by
 obtain ⟨c,hc,hv⟩:=List.mem_flatten.1 hv;obtain ⟨i,_,rfl⟩:=cF.1 hc;exact jv i v hv
structure lC (w:World) (p:Option Addr) (n:Nat) (l:List En):Prop where
 len:l.length=n
 wf:dW l
 cells:0<n->∃b o,p=some ⟨b,o,none⟩/\w.rangeAt b o (EC l)
theorem lC.later{w w':World}{p:Option Addr}{n:Nat}{l:List En}(h:lC w p n l)(hb:Below w.heap.size w w'):lC w' p n l:=by
 refine⟨h.len,h.wf,fun h0=>?_⟩;obtain ⟨b,o,e,hr⟩:=h.cells h0;exact⟨b,o,e,pN hr (hb.block b (wE hr (by rw[iM h.wf,h.len];omega)))⟩
theorem lC.at{w:World}{b o n:Nat}{l:List En}(h:lC w (some ⟨b,o,none⟩) n l){k:Nat}{i:En}(hk:l[k]?=some i):w.rangeAt b (o+k*34) (aB i):=fun j v hv=>by
 have kN:=(aA.1 hk).1;obtain ⟨b',o',e,hr⟩:=h.cells (by rw[<-h.len];omega);cases e;have hj:j<34:=by have:=(aA.1 hv).1;rw[cI (h.wf i (bt hk)).len] at this;exact this
 have:=hr (34*k+j) v (by rw[ajf h.wf hk j hj];exact hv);rw[show o+k*34+j=o+(34*k+j) by omega];exact this
theorem lC.c0{w:World}{b o n:Nat}{l:List En}(h:lC w (some ⟨b,o,none⟩) n l){k:Nat}{i:En}(hk:l[k]?=some i):w.cell? ⟨b,o+k*34,none⟩=some (.int .i64 i.b):=h.at hk 0 _ rfl
def Xf (q:Option Addr)(k c:Nat):Option Addr:=if c=k then q else q.map (·.add (k*34))
theorem lC.drop{w:World}{q:Option Addr}{n:Nat}{l:List En}(h:lC w q n l){k c:Nat}(hk:k<=n)(hc:n<=c):lC w (Xf q k c) (n-k) (l.drop k):=by
 refine⟨by rw[cN,h.len],fun x hx=>h.wf x (fE hx),fun h0=>?_⟩;obtain ⟨b,o,e,hr⟩:=h.cells (by omega);subst e;refine⟨b,o+k*34,by unfold Xf;rw[aD (by omega),iZ,fo],fun j v hv=>?_⟩;have e2:EC l=EC (l.take k)++EC (l.drop k):=by rw[<-iG,eE]
 have el:(EC (l.take k)).length=k*34:=by rw[iM fun x hx=>h.wf x (eY hx),cr,h.len,fX hk]
 have:=hr (k*34+j) v (by rw[e2,aT (by omega),el,iX];exact hv);rw[Nat.add_assoc];exact this
theorem lC.cp{w:World}{b o n:Nat}{l:List En}(h:lC w (some ⟨b,o,none⟩) n l){k:Nat}{i:En}(hk:l[k]?=some i):w.cell? ⟨b,o+k*34+33,none⟩=some (.int .u64 i.p):=h.at hk 33 _ (wY (h.wf i (bt hk)).len)
theorem lC.vat{w:World}{b o n:Nat}{l:List En}(h:lC w (some ⟨b,o,none⟩) n l){k:Nat}{i:En}(hk:l[k]?=some i):w.rangeAt b (o+k*34+1) (U8 i.v):=fun j v hj=>by
 rw[show o+k*34+1+j=o+k*34+(j+1) by omega];exact h.at hk (j+1) v (Xa j v hj)
theorem lC.Ox{w:World}{b o n:Nat}{l:List En}(h:lC w (some ⟨b,o,none⟩) n l){k:Nat}{i:En}(hk:l[k]?=some i):(Instr.loadAt 51 (.pointer (some ⟨b,o+k*34+1,none⟩))).run prog w=.ok (.agg (U8 i.v).toArray) w :=
 b_ w b (o+k*34+1) 51 (U8 i.v) _ (h.vat hk) gw rfl (by rw[vZ,aX,(h.wf i (bt hk)).len])
theorem lC.load{ts te:TypeId}(T:ET ts te){w:World}{b o n:Nat}{l:List En}(h:lC w (some ⟨b,o,none⟩) n l){k:Nat}{i:En}(hk:l[k]?=some i):(Instr.loadAt te (.pointer (some ⟨b,o+k*34,none⟩))).run prog w=.ok (.agg (aB i).toArray) w :=
 b_ w b (o+k*34) te (aB i) _ (h.at hk) T.un (FL _) (by rw[T.size,cI (h.wf i (bt hk)).len])
abbrev eU (te:TypeId)(w:World)(B:Nat)(v:Value)(l:List En):Prop:=w.ownsRow B te 34 v l.length (EC l)
theorem eU.in{te:TypeId}{w:World}{B:Nat}{v:Value}{l:List En}(h:eU te w B v l)(hw:dW l):∃p c,v=.slice p l.length c/\lC w p l.length l/\l.length<=c/\c<=maxLen:=by
 rcases h.2 with ⟨e,e2⟩ | ⟨g,cap,cur,e,_,hg,h1,h2,h3,h4⟩
 ·refine⟨none,0,by rw[e,e2],?_,by omega,by decide⟩;exact⟨rfl,hw,fun h0=>by omega⟩
 ·refine⟨_,cap,e,⟨rfl,hw,fun _=>⟨g,0,rfl,fun j v hv=>?_⟩⟩,h1,h2⟩;rw[aW,aq w g j cur te (0,0) hg];have hj:=(aA.1 hv).1;rw[<-h4,fG] at hv;split at hv
  ·simpa using hv
  ·cases hv
theorem eU.later{te:TypeId}{w w':World}{B:Nat}{v:Value}{l:List En}(h:eU te w B v l)(hb:Below w.heap.size w w'):eU te w' B v l:=h.kept (ko hb) (by cases hh:v.ownBlock <;> simp)
theorem Pc(i:En)(h:i.v.length=32)(b:Int)(rest:List (Nat × Value)):Instr.fill (ZM.toArray[·]?) (aB i).toArray ((0,.int .i64 b) :: rest)=Instr.fill (ZM.toArray[·]?) (aB ⟨b,i.v,i.p⟩).toArray rest :=
 dU 0 1 0 rfl _ [.int .i64 b] _ rfl rfl (by rw[cI h];omega) rest
theorem aaJ(i:En)(h:i.v.length=32)(v:List Int)(hv:v.length=32)(rest:List (Nat × Value)):Instr.fill (ZM.toArray[·]?) (aB i).toArray ((1,.agg (U8 v).toArray) :: rest)=Instr.fill (ZM.toArray[·]?) (aB ⟨i.b,v,i.p⟩).toArray rest:=by
 rw[dU 1 32 1 rfl _ (U8 v) _ rfl (by rw[aX,hv]) (by rw[cI h];omega) rest]
 congr 2
 rw[aX,hv];have e:((U8 i.v++[Value.int .u64 i.p])).drop 32=[.int .u64 i.p]:=by
  rw[show (32:Nat)=(U8 i.v).length by rw[aX,h],List.drop_left]
 simp only[aB,ig,jy,ct,bF];rw[show (1+32:Nat)=32+1 from rfl,jh,e]
theorem aaK(i:En)(h:i.v.length=32)(p:Int)(rest:List (Nat × Value)):Instr.fill (ZM.toArray[·]?) (aB i).toArray ((2,.int .u64 p) :: rest)=Instr.fill (ZM.toArray[·]?) (aB ⟨i.b,i.v,p⟩).toArray rest:=by
 rw[dU 33 1 2 rfl _ [.int .u64 p] _ rfl rfl (by rw[cI h];omega) rest]
 congr 2
 have e:((U8 i.v++[Value.int .u64 i.p])).take 32=U8 i.v:=by
  rw[show (32:Nat)=(U8 i.v).length by rw[aX,h],gC]
 simp only[aB];rw[show (33:Nat)=32+1 from rfl,ig,e,jl (by simp[h])];simp
theorem Xx{ts te:TypeId}(T:ET ts te)(w:World)(b:Int)(v:List Int)(p:Int)(hv:v.length=32):(Instr.build te #[(0,.int .i64 b),(1,.agg (U8 v).toArray),(2,.int .u64 p)]).run prog w=.ok (.agg (aB ⟨b,v,p⟩).toArray) w:=by
 refine eo w te _ _ ((jr te _ _ _ T.places T.zero).trans ?_);show Instr.fill (ZM.toArray[·]?) (aB lN).toArray [(0,.int .i64 b),(1,.agg (U8 v).toArray),(2,.int .u64 p)]=_;rw[Pc lN (bG 32),aaJ ⟨b,lN.v,lN.p⟩ (bG 32) v hv,aaK ⟨b,v,lN.p⟩ hv];rfl
theorem abi{ts te:TypeId}(T:ET ts te)(w:World):(Instr.build te #[]).run prog w=.ok (.agg (aB lN).toArray) w :=
 eo w te _ _ ((jr te _ _ _ T.places T.zero).trans rfl)
theorem Ao{ts te:TypeId}(T:ET ts te)(w:World)(b:Int):(Instr.build te #[(0,.int .i64 b)]).run prog w=.ok (.agg (aB ⟨b,zs 32,0⟩).toArray) w:=by
 refine eo w te _ _ ((jr te _ _ _ T.places T.zero).trans ?_);show Instr.fill (ZM.toArray[·]?) (aB lN).toArray [(0,.int .i64 b)]=_;rw[Pc lN (bG 32)];rfl
theorem nj{ts te:TypeId}(T:ET ts te)(w:World):(Instr.alloc te true (.tuple #[])).run prog w=.ok (.pointer (some ⟨w.heap.size,0,none⟩)) (w.alloc (.cells (aB lN).toArray te)):=by
 simp only[Instr.alloc,aU,zv te _ T.zero,aH];simp[newVar,newRow,Value.cells]
theorem gX{ts te:TypeId}(T:ET ts te)(w:World)(i:En)(hi:i.v.length=32):(Instr.storeAt te (.pointer (some ⟨w.heap.size,0,none⟩)) (.agg (aB i).toArray)).run prog (w.alloc (.cells (aB lN).toArray te))=.ok () (w.alloc (.cells (aB i).toArray te)):=by
 rw[(bE.new te w (aB lN)).store (ds:=aB i) (by rw[T.size,cI hi]) (by rw[cI hi,cI (bG 32)]) (vq i),jA]
theorem bE.yV{ts te:TypeId}(T:ET ts te){t:TypeId}{w:World}{g:Nat}{i:En}(h:bE t w g (aB i))(hi:i.v.length=32):(Instr.loadAt te (.pointer (some ⟨g,0,none⟩))).run prog w=.ok (.agg (aB i).toArray) w :=
 b_ w g 0 te (aB i) _ (bE.range h) T.un (FL _) (by rw[T.size,cI hi])
theorem mE{ts te:TypeId}(T:ET ts te)(w:World)(i:En)(Aj:i.v.length=32):(Instr.buildSlice ts 1 #[(0,.agg (aB i).toArray)]).run prog w=.ok (.slice (some ⟨w.heap.size,0,none⟩) 1 1) (w.alloc (.cells (aB i).toArray te)):=by
 obtain ⟨i0,hi,ij,gm,iL⟩:=cj T.inf;refine run_buildSlice w ts te 1 _ _ i0 _ T.ut hi ij (by rw[gm];decide) (by rw[gm];decide) ?_;rw[gm];have hl:(aB i).length=34:=cI Aj;have hA:∀A:Array Value,A.size=34->Instr.fill (fun i=>some (i*34,34)) A [(0,.agg (aB i).toArray)]=some (aB i).toArray:=by
  intro A hA;have a0:=qC 0 (aB i) A.toList (by simp;omega);simp only[Instr.fill,Value.cells,aM,Nat.zero_mul];rw[aD (by simp[hl,hA])];have a0':(aB i).toArray.zipIdx.foldl (fun cs x=>match x with | (c,j)=>cs.setIfInBounds (0+j) c) A=((A.toList.take 0++aB i++A.toList.drop (0+(aB i).length))).toArray:=a0;rw[a0',jm (by simp[hl,hA])];simp
 exact hA _ (by simp)
theorem U_(w:World)(i:En)(h:i.v.length=32):(part 51 (aB i).toArray 1).run prog w=.ok (.agg (U8 i.v).toArray) w:=by
 have aeE:(isAgg 51).run prog w=.ok true w:=by
  unfold isAgg;rw[aU,run_underlying gw w];rfl
 have hx:(aB i).toArray.extract 1 (1+32)=(U8 i.v).toArray:=by
  rw[List.extract_toArray]
  congr 1
  show ((aB i).drop 1).take (1+32-1)=_;rw[show (aB i).drop 1=U8 i.v++[.int .u64 i.p] from rfl,show 1+32-1=(U8 i.v).length by rw[aX,h],gC]
 simp only[part,aU,aeE,aH,if_true,Zm,bQ,hx]
theorem abW(w:World)(cs:List Value)(o:Nat)(v:Int)(h:cs[o]?=some (.int .u64 v)):(part 52 cs.toArray o).run prog w=.ok (.int .u64 v) w:=by
 simp[part,isAgg,run_underlying underlying52,h]
def enB (i j:En):Bool:=i.b == j.b && (decide (i.v=j.v) && i.p == j.p)
theorem aaS(i j:En):enB i j=true↔i=j:=by
 obtain ⟨a,b,p⟩:=i;obtain ⟨c,d,q⟩:=j;simp[enB]
theorem aeM{ts te:TypeId}(T:ET ts te)(w:World)(d:Nat)(i j:En)(hi:i.v.length=32)(hj:j.v.length=32):(Op.equalIn (d+3) te (.agg (aB i).toArray) (.agg (aB j).toArray)).run prog w=.ok (enB i j) w:=by
 rw [run_equalIn_struct w (d + 2) te _ _ T.un T.held, Co, show (prog.fieldsOf te).toList.map (fun f => (decide (f.name ≠ "_"), f.type, f.offset)) = flE from T.Ge]
 unfold flE enB;rw[rJ w _ _ _ 3 0 _ (abX w (aB i) 0 i.b rfl) (abX w (aB j) 0 j.b rfl) (run_equalIn_int w (d+1) 3 .i64 .i64 _ _ fe),
  rJ w _ _ _ 51 1 _ (U_ w i hi) (U_ w j hj) (MP w d i.v j.v hi hj),
  rJ w _ _ _ 52 33 _ (abW w (aB i) 33 i.p (wY hi)) (abW w (aB j) 33 j.p (wY hj)) (run_equalIn_int w (d+1) 52 .u64 .u64 _ _ underlying52)]
 have e0:(og (d+2) (aB i).toArray (aB j).toArray []).run prog w=.ok true w:=by rw[og];exact bQ ..
 rw[e0];cases (i.b == j.b) <;> cases decide (i.v=j.v) <;> cases (i.p == j.p) <;> simp
theorem PJ{ts te:TypeId}(T:ET ts te){W:World}{B:Nat}{v:Value}{l0 l:List En}{q:Option Addr}{m c:Nat}(h0:eU te W B v l0)(mI:dW l0)(h:lC W q m l)(hm:l0.length+m<=3000000)(hB:B<=W.heap.size):∃q' c' W',(Builtin.append_ #[ts,ts] ts #[v,.slice q m c]).run prog W=.ok (.slice q' (l0++l).length c') W'/\eU te W' B (.slice q' (l0++l).length c') (l0++l)/\W.grownBy W' v.ownBlock/\((Value.slice q' (l0++l).length c').ownBlock=v.ownBlock\/(Value.slice q' (l0++l).length c').ownBlock=some W.heap.size):=by
 obtain ⟨i0,BZ,ij,gm,iL⟩:=cj T.inf;have h65:(4000000:Nat)<=maxLen:=by decide
 have Mw:dW (l0++l):=fun x hx=>(bH.1 hx).elim (mI x) (h.wf x);have go:∀(ad:Addr),q=some ad->∃q' c' W',(Builtin.append_ #[ts,ts] ts #[v,.slice q m c]).run prog W=.ok (.slice q' (l0++l).length c') W'/\eU te W' B (.slice q' (l0++l).length c') (l0++l)/\W.grownBy W' v.ownBlock/\((Value.slice q' (l0++l).length c').ownBlock=v.ownBlock\/(Value.slice q' (l0++l).length c').ownBlock=some W.heap.size):=by
  rintro ad rfl;obtain ⟨v',W',dM,wQ,cU,-,lf⟩:=run_append_own_at (P:=prog) W B ts ts te i0 _ 34 48 T.ut BZ ij gm iL rfl (by decide) v l0.length (EC l0) h0 ad m c (EC l) (by rw[iM h.wf,h.len]) (fun j u hu=>by
   by_cases hp:0<m
   ·obtain ⟨b',o',e,hr⟩:=h.cells hp;cases e;rw[fo];exact hr j u hu
   ·have:l=[]:=List.length_eq_zero_iff.1 (by rw[h.len];omega);rw[this] at hu;simp[EC] at hu) (xo l) (by omega) (by omega) hB
  have jF:eU te W' B v' (l0++l):=by
   rw[eU,aO,h.len,iG];exact wQ
  obtain ⟨q',c',rfl,-,-,-⟩:=eU.in jF Mw;exact⟨q',c',W',dM,jF,cU,lf⟩
 by_cases hp:0<m
 ·obtain ⟨b,o,e,-⟩:=h.cells hp;exact go _ e
 ·have m0:m=0:=by omega
  have e0:l=[]:=List.length_eq_zero_iff.1 (by rw[h.len,m0]);cases q with
  | none =>
   subst m0;subst e0;have hr:(Builtin.append_ #[ts,ts] ts #[v,.slice none 0 c]).run prog W=.ok v W:=by
    rcases h0.2 with ⟨rfl,_⟩ | ⟨g,cap,cur,rfl,_,_,FX,_⟩
    ·simp[Builtin.append_,run_underlying T.ut,sizeOf,typeInfo,BZ,Builtin.lenOf,Builtin.firstCells]
    ·simp[Builtin.append_,run_underlying T.ut,sizeOf,typeInfo,BZ,Builtin.lenOf,Builtin.firstCells,FX,storeCells]
   obtain ⟨q',c',rfl,-,-,-⟩:=eU.in h0 mI;rw[jQ];exact⟨q',c',W,hr,h0,⟨rfl,rfl,rfl,az _,fun _ _ _=>rfl⟩,.inl rfl⟩
  | some ad=>exact go ad rfl
theorem eU.put{ts te:TypeId}(T:ET ts te){W:World}{B g n c:Nat}{l:List En}(h:eU te W B (.slice (some ⟨g,0,none⟩) n c) l)(hw:dW l)(i:En)(hi:i.Wf)(k:Nat)(hk:k<l.length) :
  ∃W',(Instr.storeAt te (.pointer (some ⟨g,k*34,none⟩)) (.agg (aB i).toArray)).run prog W=.ok () W'/\eU te W' B (.slice (some ⟨g,0,none⟩) n c) (l.take k++[i]++l.drop (k+1))/\W.grownBy W' (some g):=by
 obtain ⟨i0,BZ,ij,gm,iL⟩:=cj T.inf;have hwt:dW (l.take k):=fun x hx=>hw x (eY hx);have hwd:dW (l.drop (k+1)):=fun x hx=>hw x (fE hx);have Wk:(l.take k++[i]++l.drop (k+1)).length=l.length:=by simp;omega
 rcases h.2 with ⟨e,_⟩ | ⟨g',cap,cur,e,h0,hg,h1,h2,h3,h4⟩
 ·cases e
 ·cases e;have nV:cur.size=c*34:=h3;have iU:=qP prog g (k*34) te (aB i) 0 cur W hg (by rw[cI hi.len];omega) (jv i);rw[Nat.add_zero,cI hi.len] at iU;have hr:(Instr.storeAt te (.pointer (some ⟨g,k*34,none⟩)) (.agg (aB i).toArray)).run prog W=.ok () (W.setRow g (cur.toList.take (k*34)++aB i++cur.toList.drop (k*34+34)).toArray):=by
   simp[Instr.storeAt,Instr.sureAddr,storeVar,sizeOf,typeInfo,BZ,gm,Value.cells,cI hi.len,iU]
  refine⟨_,hr,⟨?_,.inr ⟨g,c,_,by rw[Wk],h0,cK W g cur _ te _ hg,by rw[Wk];exact h1,h2,?_,?_⟩⟩,⟨rfl,rfl,rfl,by simp,fun k _ hk=>iu W g k _ (fun e=>hk (by simp[e]))⟩⟩
  ·rw[Wk,iM,Wk];intro x hx;rcases bH.1 hx with hx | hx
   ·rcases bH.1 hx with hx | hx
    ·exact hwt x hx
    ·rw[bg.1 hx];exact hi
   ·exact hwd x hx
  ·simp only[aM,aO,cr,cN,gq,cI hi.len];omega
  ·have ec:cur.toList=EC l++cur.toList.drop (l.length*34):=by rw[<-h4,eE]
   have e2:EC l=EC (l.take k)++(aB l[k]++EC (l.drop (k+1))):=by
    have e0:l=l.take k++([l[k]]++l.drop (k+1)):=by
     rw[List.singleton_append,<-eS hk,eE]
    have e1:EC l=EC (l.take k++([l[k]]++l.drop (k+1))):=congrArg EC e0;rw[e1,iG,iG,show EC [l[k]]=aB l[k] by simp[EC]]
   have el:(EC (l.take k)).length=k*34:=by rw[iM hwt,cr,fX (by omega)]
   have ex:(aB l[k]).length=34:=cI (hw _ (eA hk)).len;have t1:cur.toList.take (k*34)=EC (l.take k):=by
    have e5:cur.toList=EC (l.take k)++((aB l[k]++EC (l.drop (k+1)))++cur.toList.drop (l.length*34)):=by rw[<-aS,<-e2];exact ec
    rw[<-el,e5,gC]
   have t2:cur.toList.drop (k*34+34)=EC (l.drop (k+1))++cur.toList.drop (l.length*34):=by
    have e5:cur.toList=(EC (l.take k)++aB l[k])++(EC (l.drop (k+1))++cur.toList.drop (l.length*34)):=by
     rw[<-aS,aS (EC (l.take k)),<-e2];exact ec
    generalize cur.toList.drop (l.length*34)=rest at *;rw[e5,show k*34+34=(EC (l.take k)++aB l[k]).length by rw[aO,el,ex],List.drop_left]
   have e3:EC (l.take k++[i]++l.drop (k+1))=EC (l.take k)++aB i++EC (l.drop (k+1)):=by rw[iG,iG];simp[EC]
   have e4:(EC (l.take k)++aB i++EC (l.drop (k+1))).length=l.length*34:=by
    have hd:(l.drop (k+1)).length=l.length-(k+1):=cN;rw[aO,aO,el,cI hi.len,iM hwd,hd];omega
   rw[Wk,t1,t2,e3];show List.take _ (EC (l.take k)++aB i++(EC (l.drop (k+1))++_))=_;rw[<-aS,<-e4,gC]
namespace O
open Go.Proofs.Tryz
section
variable {w w':World} {base:Nat} {t e:TypeId} {size bytes:Nat} {v:Value} {n:Nat} {xs:List Value}
theorem zZ(h:w.ownsRow base e size v n xs){b:Nat}{cur:Array Value}{ty:TypeId}{f:Nat × Nat}(hx:w.heap[b]?=some (.cells cur ty f))(kG:ty≠e):v.ownBlock≠some b:=fun hg=>by
 obtain ⟨c,hc⟩:=E.rz h hg;rw[hc] at hx;simp only[aC,Obj.cells.injEq] at hx;exact kG hx.2.1.symm
theorem qE(h:w.ownsRow base e size v n xs)(hn:0<n):∃g cap,v=.slice (some ⟨g,0,none⟩) n cap/\n<=cap/\(∀j u,xs[j]?=some u->w.cell? ⟨g,j,none⟩=some u)/\∀o,w.frozen? ⟨g,o,none⟩=false:=by
 have hc:∀g,v.ownBlock=some g->_:=fun g hg=>h.cells (g:=g) hg;rcases h.2 with ⟨_,e0⟩ | ⟨g,cap,cur,rfl,_,hg,yB,_⟩
 ·omega
 ·refine⟨g,cap,rfl,yB,fun j u hj=>?_,fun o=>by simp[World.frozen?,hg]⟩;have:=hc g rfl j u hj;rw[bW,aW] at this;exact this
end
theorem elM:E.Tx 85 84 33 40:=by
 obtain ⟨i0,hi,h0,h1,h2⟩:=cj ab3;exact⟨underlying85,⟨i0,_,hi,h0,h1,h2,rfl⟩,by decide,by decide⟩
end O
theorem Mf(x:Int)(w:World):Calls prog 168 #[.int .i64 x] w fun e w'=>e=.returned (.bool false)/\w'=w:=by
 go_enter func168,ntmps168;go_wp2;go_ret;exact⟨by simp,rfl⟩
def zI (x y:Int):Int:=if x<y then -1 else if y<x then 1 else 0
theorem aa3(x y:Int):zI x y<0↔x<y:=by
 unfold zI;by_cases h:x<y
 ·simp[h]
 ·by_cases h2:y<x <;> simp[h,h2]
theorem aa4(x y:Int):zI x y=0↔x=y:=by
 unfold zI;by_cases h:x<y
 ·simp[h];omega
 ·by_cases h2:y<x <;> simp[h,h2] <;> omega
theorem aeY(x y:Int)(w:World):Calls prog 109 #[.int .i64 x,.int .i64 y] w fun e w'=>e=.returned (.int .i64 (zI x y))/\w'=w:=by
 have H:Hid (∀z,((x<y/\z=-1)\/(¬x<y/\y<x/\z=1)\/(¬x<y/\¬y<x/\z=0))->zI x y=z):=fun z h=>by
  unfold zI;rcases h with ⟨h1,rfl⟩ | ⟨h1,h2,rfl⟩ | ⟨h1,h2,rfl⟩ <;> simp[*]
 go_enter func109,ntmps109;by_cases h1:x<y
 ·go_wp2_with (go_at_call 168;refine (Mf _ _).mono ?_;rintro e w' ⟨rfl,rfl⟩)
  go_ret;exact⟨by rw[H.out _ (.inl ⟨h1,rfl⟩)];rfl,rfl⟩
 ·by_cases h2:y<x
  ·go_wp2_with (go_at_call 168;refine (Mf _ _).mono ?_;rintro e w' ⟨rfl,rfl⟩)
   go_ret;exact⟨by rw[H.out _ (.inr (.inl ⟨h1,h2,rfl⟩))];rfl,rfl⟩
  ·go_wp2_with (go_at_call 168;refine (Mf _ _).mono ?_;rintro e w' ⟨rfl,rfl⟩)
   go_ret;exact⟨by rw[H.out _ (.inr (.inr ⟨h1,h2,rfl⟩))];rfl,rfl⟩
theorem Jy(x:En)(b:Int)(w:World):Calls prog 108 #[.agg (aB x).toArray,.int .i64 b] w fun e w'=>e=.returned (.int .i64 (zI x.b b))/\Below w.heap.size w w':=by
 have B0:Hid (Below w.heap.size w (w.alloc (.cells (aB x).toArray 54))):=ag w _;have c0:(w.alloc (.cells (aB x).toArray 54)).cell? ⟨w.heap.size,0,none⟩=some (.int .i64 x.b):=bE.cell (bE.new 54 w (aB x)) 0;go_enter func108,ntmps108;go_wp2_with (go_at_call 109;refine (aeY _ _ _).mono ?_;rintro e w' ⟨rfl,rfl⟩)
 go_ret;exact⟨rfl,B0.out⟩
abbrev ah8:Value:=.func (.func 108) #[] #[]
theorem Qi{w:World}{p:Option Addr}{n c:Nat}{L:List En}(h:lC w p n L)(hu:Dr L)(hn:n<=10000)(b:Int) :
  Calls prog 107 #[.slice p n c,.int .i64 b,ah8] w fun e w'=>e=.returned (.tuple #[.int .i64 (mM L b:Int),.bool (EF L b)])/\Below w.heap.size w w':=by
 have HH:=zH h;have HU:=zH hu;have HL:=zH h.len;clear h hu;go_enter func107,ntmps107;go_wp2_with fail
 go_loopw [9,10] (fun v v2 W=>∃(i j:Nat),v=.int .i64 (i:Int)/\v2=.int .i64 (j:Int)/\i<=j/\j<=n/\Hid (Below w.heap.size w W)/\Hid ((∀k x,k<i->L[k]?=some x->x.b<b)/\(∀k x,j<=k->L[k]?=some x->b<=x.b))) (fun v v2 _=>(intOf v2).toNat-(intOf v).toNat)
 case atStart=>exact⟨0,n,rfl,rfl,by omega,by omega,aV _ _,(⟨fun k x hk=>absurd hk (fW _),fun k x hk hx=>by have:=(aA.1 hx).1;have:=HL.out;omega⟩:(∀k x,k<0->L[k]?=some x->x.b<b)/\(∀k x,n<=k->L[k]?=some x->b<=x.b))⟩
 case round =>
  obtain ⟨i,j,rfl,rfl,h1,h2,HB,HI⟩:=hrel;by_cases Jk:i<j
  ·obtain ⟨x,hx⟩:∃x,L[(i+j) / 2]?=some x:=⟨_,ay (by rw[HL.out];omega)⟩
   obtain ⟨b1,o1,rfl,-⟩:=HH.out.cells (by omega);have zO:=zH (lC.load jG (HH.out.later HB.out) hx);have HX:=zH hx;clear hx;go_wp2_with (first | ((with_reducible refine aQ ?_);(refine aK (by rfl) 54 rfl rfl zO.out ?_);simp only[Act.put,zA,zB,zC]))
   refine (Jy x b wr).mono ?_;rintro e w' ⟨rfl,bn⟩;have gD:Hid (Below w.heap.size w w'):=ah HB.out bn;have HC:Hid (zI x.b b<0↔x.b<b):=aa3 _ _;generalize zI x.b b=cc at *;clear bn HB zO;by_cases hcc:cc<0
   ·have SH:Hid ((∀k y,k<(i+j) / 2+1->L[k]?=some y->y.b<b)/\(∀k y,j<=k->L[k]?=some y->b<=y.b)):=by
     refine⟨fun k y hk hy=>?_,HI.out.2⟩;have hxb:=HC.out.1 hcc;by_cases e:k=(i+j) / 2
     ·subst e;have:=HX.out;rw[hy] at this;cases this;exact hxb
     ·obtain ⟨wR,ek⟩:=aA.1 hy;obtain ⟨Ag,ex⟩:=aA.1 HX.out;have:=eR.1 HU.out k ((i+j) / 2) wR Ag (by omega);rw[ek,ex] at this;omega
    go_wp2_with fail;go_roundw
    case rel=>exact⟨(i+j) / 2+1,j,by congr 1,rfl,by omega,by omega,gD,SH⟩
    case measure=>simp[intOf];omega
   ·have SH:Hid ((∀k y,k<i->L[k]?=some y->y.b<b)/\(∀k y,(i+j) / 2<=k->L[k]?=some y->b<=y.b)):=by
     refine⟨HI.out.1,fun k y hk hy=>?_⟩;have hxb:¬x.b<b:=fun h=>hcc (HC.out.2 h);by_cases e:k=(i+j) / 2
     ·subst e;have:=HX.out;rw[hy] at this;cases this;omega
     ·obtain ⟨wR,ek⟩:=aA.1 hy;obtain ⟨Ag,ex⟩:=aA.1 HX.out;have:=eR.1 HU.out ((i+j) / 2) k Ag wR (by omega);rw[ek,ex] at this;omega
    go_wp2_with fail;go_roundw
    case rel=>exact⟨i,(i+j) / 2,rfl,by congr 1,by omega,by omega,gD,SH⟩
    case measure=>simp[intOf];omega
  ·obtain rfl:i=j:=by omega
   have hp:i=mM L b:=adw HU.out (by rw[HL.out];exact h2) HI.out.1 HI.out.2;have HP:=zH hp.symm;clear hp HI h1;by_cases zx:i<n
   ·obtain ⟨x,hx⟩:∃x,L[i]?=some x:=⟨_,ay (by rw[HL.out];omega)⟩
    obtain ⟨b1,o1,rfl,-⟩:=HH.out.cells (by omega);have zO:=zH (lC.load jG (HH.out.later HB.out) hx);have HA:Hid (EF L b=(zI x.b b == 0)):=by
     show _=_;unfold EF;rw[HP.out,hx,Bool.eq_iff_iff];simp[aa4]
    clear hx;go_wp2_with (first | ((with_reducible refine aQ ?_);(refine aK (by rfl) 54 rfl rfl zO.out ?_);simp only[Act.put,zA,zB,zC]))
    refine (Jy x b wr).mono ?_;rintro e w' ⟨rfl,bn⟩;have gD:Hid (Below w.heap.size w w'):=ah HB.out bn;generalize zI x.b b=cc at *;clear bn HB zO;go_wp2_with fail;go_ret2;exact⟨by rw[HP.out,HA.out];rfl,gD.out⟩
   ·have HA:Hid (EF L b=false):=by
     show _=_;unfold EF;rw[HP.out,cS (by rw[HL.out];omega)];rfl
    go_wp2_with fail;go_ret2;exact⟨by rw[HP.out,HA.out];rfl,HB.out⟩
open Go.Shelf
theorem nr{P:Program}(w:World)(dT sT ty elem:TypeId)(sz g o JK Xj:Nat)(a:Addr)(ud Fm:Nat)(cur:Array Value)(t:TypeId)(cs:List Value)
  (hu:P.underlying dT=some (.slice elem)) (hs:(P.info? elem).map (·.size)=some sz)
  (hg:w.heap[g]?=some (.cells cur t (0,0))) (hn:cs.length=Nat.min ud JK*sz)
  (FU:∀j v,cs[j]?=some v->w.cell? (a.add j)=some v) (rY:o+cs.length<=cur.size) (h1:∀v∈cs,v.oneCell'=true) :
  (Builtin.copy_ #[dT,sT] ty #[.slice (some ⟨g,o,none⟩) JK Xj,.slice (some a) ud Fm]).run P w =
   .ok (goInt (Nat.min ud JK)) (w.setRow g (cur.toList.take o++cs++cur.toList.drop (o+cs.length)).toArray):=by
 have hl:=run_loadCells_list (P:=P) w a cs FU;have iU:=qP P g o t cs 0 cur w hg (by simpa using rY) h1;cases hq:P.info? elem with
 | none=>simp[hq] at hs
 | some i =>
  have hi:i.size=sz:=by simpa [hq] using hs
  simp[Builtin.copy_,run_underlying hu,Builtin.lenOf,Builtin.firstCells,sizeOf,typeInfo,hq,hi,<-hn,hl,iU]
theorem Ua{α:Type}{C A X D:List α}{a x d:Nat}(hA:C.take a=A)(hx:X.length=x)(hd:D.length=d)(hl:a+x+d<=C.length) :
  (C.take (a+x)++D++C.drop (a+x+d)).take a++X++(C.take (a+x)++D++C.drop (a+x+d)).drop (a+x)=A++X++D++C.drop (a+x+d):=by
 have e1:(C.take (a+x)++D++C.drop (a+x+d)).take a=A:=by
  rw[aS,fD (by simp;omega),List.take_take,fX (by omega),hA]
 have e2:(C.take (a+x)++D++C.drop (a+x+d)).drop (a+x)=D++C.drop (a+x+d):=by
  have:(C.take (a+x)).length=a+x:=by simp;omega
  rw[aS,List.drop_append_of_le_length (by omega),jl (by omega),bF]
 rw[e1,e2,aS (A++X)]
theorem aaE{α:Type}{C A X D:List α}{a x d:Nat}(hA:C.take a=A)(hx:X.length=x)(hd:D.length=d)(hl:a+x+d<=C.length) :
  (C.take a++X++C.drop (a+x)).take (a+x)++D++(C.take a++X++C.drop (a+x)).drop (a+x+d)=A++X++D++C.drop (a+x+d):=by
 have u_:A.length=a:=by rw[<-hA];simp;omega
 have e1:(C.take a++X++C.drop (a+x)).take (a+x)=A++X:=by
  rw[hA,fD (by simp;omega),aL (by simp;omega)]
 have e2:(C.take a++X++C.drop (a+x)).drop (a+x+d)=C.drop (a+x+d):=by
  rw[hA,List.drop_append,jl (by simp;omega),bF,List.drop_drop]
  congr 1
  simp;omega
 rw[e1,e2]
theorem xm(L:List En)(i:Nat)(x:En):EC (L.take i++[x]++L.drop i)=EC (L.take i)++aB x++EC (L.drop i):=by simp[EC]
theorem rj{L:List En}(h:dW L)(i:Nat):dW (L.take i):=fun x hx=>h x (eY hx)
theorem vR{L:List En}(h:dW L)(i:Nat):dW (L.drop i):=fun x hx=>h x (fE hx)
theorem AK{L:List En}(h:dW L)(i:Nat){x:En}(hx:x.Wf):dW (L.take i++[x]++L.drop i):=((rj h i).snoc hx).append (vR h i)
theorem OE{L:List En}{i:Nat}(hi:i<=L.length)(x:En):(L.take i++[x]++L.drop i).length=L.length+1:=by simp;omega
theorem FO{w:World}{B g c i vb n:Nat}{L:List En}{x:En}(h:eU 54 w B (.slice (some ⟨g,0,none⟩) n c) L)(hw:dW L)(hl:L.length=n)(hx:x.Wf)(hv:bE 54 w vb (aB x))(hvg:vb≠g)(hi:i<n)(oS:n+1<=c)(hn:n<=10000) :
  Calls prog 135 #[.slice (some ⟨g,0,none⟩) n c,.int .i64 (i:Int),.slice (some ⟨vb,0,none⟩) 1 1] w fun e w'=>e=.returned (.slice (some ⟨g,0,none⟩) (n+1) c)/\eU 54 w' B (.slice (some ⟨g,0,none⟩) (n+1) c) (L.take i++[x]++L.drop i)/\E.Kept (·=g) w w':=by
 subst hl;obtain ⟨cur,hg,hcs,htk,hB,MG⟩:∃cur,w.heap[g]?=some (.cells cur 54 (0,0))/\cur.size=c*34/\cur.toList.take (L.length*34)=EC L/\B<=g/\c<=maxLen:=by
  rcases h.2 with ⟨e,_⟩ | ⟨g',cap,cur,e,h0,hg,h1,h2,h3,h4⟩
  ·cases e
  ·cases e;exact⟨cur,hg,h3,h4,h0,h2⟩
 have hv0:w.heap[vb]?=some (.cells (aB x).toArray 54 (0,0)):=hv;have hlen:cur.toList.length=c*34:=by rw[<-hcs];exact gq
 have hov:∀lb cb,(callFunc 187 #[.slice (some ⟨vb,0,none⟩) 1 1,.slice (some ⟨g,(i+1)*34,none⟩) lb cb]).run prog w=.ok (.value (.bool false)) w:=fun lb cb=>by
  rw[run_callFunc_extern func187 (by kernel_rfl) (by kernel_rfl) (by kernel_rfl) (e:=Extern.SlicesOverlaps.overlaps #[47,47] #[4]) (by kernel_rfl),
   Lib.run_overlaps_apart w 47 4 54 jG.ut 34 (fun w=>Tryz.sizeOf54 w) ⟨vb,0,none⟩ ⟨g,(i+1)*34,none⟩ 1 1 lb cb hvg 54 54 (aB x).toArray.size cur.size (by simp[World.shape?,hv0]) (by simp[World.shape?,hg]) (by omega) (by simp[World.frozen?,hv0]) (by simp[World.frozen?,hv0])]
  rfl
 have iL:¬((i:Int)=(L.length:Int)):=by omega
 have hr1:¬(c:Int)<(L.length:Int)+1:=by omega
 have ot:Hid ((EC (L.drop i)).length=(L.length-i)*34):=by show _=_;rw[iM (vR hw i),cN]
 have Ap:=zH (cI hx.len);have SN:Hid (cur.toList.take (i*34)=EC (L.take i)):=by
  have e2:EC L=EC (L.take i)++EC (L.drop i):=by rw[<-iG,eE]
  have el:(EC (L.take i)).length=i*34:=by rw[iM (rj hw i),cr];omega
  show _=_;rw[show cur.toList.take (i*34)=(cur.toList.take (L.length*34)).take (i*34) by rw[List.take_take,fX (eV _ (by omega))],htk,e2,<-el,gC]
 have ace:∀j v,(EC (L.drop i))[j]?=some v->w.cell? ((⟨g,i*34,none⟩:Addr).add j)=some v:=fun j v hj=>by
  have e2:EC L=EC (L.take i)++EC (L.drop i):=by rw[<-iG,eE]
  have el:(EC (L.take i)).length=i*34:=by rw[iM (rj hw i),cr];omega
  have:=h.cells (g:=g) rfl (i*34+j) v (by rw[e2,aT (by omega),el,iX];exact hj);rw[bW] at this ⊢
  rwa [aW] at this
 have acr:(i+1)*34+(EC (L.drop i)).length<=cur.size:=by
  rw[ot.out,hcs];have:=eV 34 oS;omega
 obtain ⟨C1,O_⟩:∃C1,C1=(cur.toList.take ((i+1)*34)++EC (L.drop i)++cur.toList.drop ((i+1)*34+(EC (L.drop i)).length)).toArray:=⟨_,rfl⟩
 have F_:C1.size=cur.size:=by rw[O_];simp only[aM,aO,cr,cN,gq];omega
 have SK:Hid (∀(W:World) ty dc sc,W.heap[g]?=w.heap[g]?->(Builtin.copy_ #[47,47] ty #[.slice (some ⟨g,(i+1)*34,none⟩) (L.length-i) dc,.slice (some ⟨g,i*34,none⟩) (L.length+1-i) sc]).run prog W=.ok (goInt ((L.length-i:Nat):Int)) (W.setRow g C1)):=fun W ty dc sc hW=>by
  have em:Nat.min (L.length+1-i) (L.length-i)=L.length-i:=by simp only[Nat.min_def];split <;> omega
  have:=nr (P:=prog) W 47 47 ty 54 34 g ((i+1)*34) (L.length-i) dc ⟨g,i*34,none⟩ (L.length+1-i) sc cur 54 (EC (L.drop i)) jG.ut jG.size (hW.trans hg) (by rw[em];exact ot.out) (fun j v hj=>(dN (w:=w) (w':=W) (a:=(⟨g,i*34,none⟩:Addr).add j) (by rw[bW];exact hW)).trans (ace j v hj)) acr (xo _);rw[em] at this;rw[O_];exact this
 have abH:Hid (∀(W:World) ty dc,W.heap[g]?=some (.cells C1 54 (0,0))->bE 54 W vb (aB x)->(Builtin.copy_ #[47,47] ty #[.slice (some ⟨g,i*34,none⟩) (L.length+1-i) dc,.slice (some ⟨vb,0,none⟩) 1 1]).run prog W=.ok (goInt 1) (W.setRow g (EC (L.take i)++aB x++EC (L.drop i)++cur.toList.drop ((L.length+1)*34)).toArray)):=fun W ty dc hW hV=>by
  have em:Nat.min 1 (L.length+1-i)=1:=by simp only[Nat.min_def];split <;> omega
  have:=nr (P:=prog) W 47 47 ty 54 34 g (i*34) (L.length+1-i) dc ⟨vb,0,none⟩ 1 1 C1 54 (aB x) jG.ut jG.size hW (by rw[em];exact Ap.out) (fun j v hj=>by rw[bW,aW,bE.cell hV];exact hj) (by rw[Ap.out,F_,hcs];omega) (jv x);rw[em] at this;rw[this,Ap.out];have e:=Ua (C:=cur.toList) (X:=aB x) (D:=EC (L.drop i)) (a:=i*34) (x:=34) (d:=(L.length-i)*34) SN.out Ap.out ot.out (by rw[hlen];omega);rw[show i*34+34+(L.length-i)*34=(L.length+1)*34 by omega] at e
  congr 3
  rw[O_,ot.out,show (i+1)*34=i*34+34 by omega,show i*34+34+(L.length-i)*34=(L.length+1)*34 by omega];exact e
 have SI:Hid (∀W:World,E.Kept (·=g) w W->W.heap[g]?=some (.cells (EC (L.take i)++aB x++EC (L.drop i)++cur.toList.drop ((L.length+1)*34)).toArray 54 (0,0))->eU 54 W B (.slice (some ⟨g,0,none⟩) (L.length+1) c) (L.take i++[x]++L.drop i)):=fun W _ hW=>by
  have e:=OE (i:=i) (L:=L) (by omega) x;refine⟨iM (AK hw i hx),.inr ⟨g,c,_,by rw[e],hB,hW,by omega,MG,?_,?_⟩⟩
  ·have e3:=iM (AK hw i hx);rw[xm,e] at e3;rw[aM,aO,e3,cN,hlen];omega
  ·have e3:=iM (AK hw i hx);rw[e,xm] at *;show ((EC (L.take i)++aB x++EC (L.drop i))++_).take _=_;rw[<-e3,gC]
 obtain ⟨C2,Tm⟩:∃C2:Array Value,C2=(EC (L.take i)++aB x++EC (L.drop i)++cur.toList.drop ((L.length+1)*34)).toArray:=⟨_,rfl⟩
 rw[<-Tm] at abH SI;clear Tm;have HV:=zH hv;have HG:=zH hg;have HNE:=zH hvg;clear hv0 hlen O_ F_ ace acr hg hcs htk h hw hv hvg hx ot Ap SN;go_enter func135,ntmps135;go_wp2_with (simp only[hov])
 clear hov;have mixed:prog.follows Departure.mixedOrders=true:=by kernel_rfl
 have dZ:IntKind.i64.wrap ((i:Int)+1)=(i:Int)+1:=by rw[aY];omega
 have qj:(0:Int)<=(i:Int)+1:=by omega
 have Yx:((i:Int)+1).toNat=i+1:=by omega
 have jb:¬(c=i+1):=by omega
 have Dj:(i:Int)+1<=(L.length:Int)+1:=by omega
 have MI:¬(c=i):=by omega
 have hb5:(i:Int)<=(L.length:Int)+1:=by omega
 have hcp:=SK.out w.drew 3 (c-(i+1)) (c-i) rfl
 go_region
 clear hcp;have K1:E.Kept (·=g) w (w.drew.setRow g C1):=(E.Kept.bP _ (av 1)).trans (E.Kept.setRow _ g C1) (fun _ _ e=>e);have HK1:Hid (E.Kept (·=g) w (w.drew.setRow g C1)):=K1;have CN:Hid ((w.drew.setRow g C1).heap[g]?=some (.cells C1 54 (0,0))):=cK w.drew g cur _ 54 (0,0) HG.out;have HV1:Hid (bE 54 (w.drew.setRow g C1) vb (aB x)):=(K1.block vb (bE.lt HV.out) HNE.out).trans HV.out;clear K1 SK dZ qj Yx mixed;generalize w.drew.setRow g C1=w1 at *;have arN:=abH.out w1 3 (c-i) CN.out HV1.out;go_wp2;go_ret;have K2:=HK1.out.trans (E.Kept.setRow w1 g C2) (fun _ _ e=>e);exact⟨rfl,SI.out _ K2 (cK w1 g C1 _ 54 (0,0) CN.out),K2⟩
theorem tE(k:Nat):(Builtin.zeroCells (aB lN).toArray k).size=k*34:=by simp[Builtin.zeroCells,cI (show lN.v.length=32 from bG 32)]
theorem yN(w:World)(o:Obj):Below w.heap.size w (w.drew.alloc o):=ah (show Below w.heap.size w w.drew from av 1) (ag w.drew o)
theorem IW{w:World}{B g c i vb n:Nat}{L:List En}{x:En}(h:eU 54 w B (.slice (some ⟨g,0,none⟩) n c) L)(hw:dW L)(hl:L.length=n)(hx:x.Wf)(hv:bE 54 w vb (aB x))(hi:i<n)(oS:¬n+1<=c)(hn:n<=10000)(hB:B<=w.heap.size) :
  Calls prog 135 #[.slice (some ⟨g,0,none⟩) n c,.int .i64 (i:Int),.slice (some ⟨vb,0,none⟩) 1 1] w fun e w'=>∃c',e=.returned (.slice (some ⟨w.heap.size,0,none⟩) (n+1) c')/\eU 54 w' B (.slice (some ⟨w.heap.size,0,none⟩) (n+1) c') (L.take i++[x]++L.drop i)/\Below w.heap.size w w':=by
 subst hl;obtain ⟨i0,BZ,ij,gm,iL⟩:=cj jG.inf;have FX:L.length<=c:=by
  rcases h.2 with ⟨e,_⟩ | ⟨g',cap,cur,e,h0,hg,h1,h2,h3,h4⟩
  ·cases e
  ·cases e;exact h1
 have hgw:g<w.heap.size:=(h.lt g rfl).2;have ot:Hid ((EC (L.drop i)).length=(L.length-i)*34):=by show _=_;rw[iM (vR hw i),cN]
 have Ap:=zH (cI hx.len);have SN:Hid ((EC (L.take i)).length=i*34):=by show _=_;rw[iM (rj hw i),cr];omega
 have e2:EC L=EC (L.take i)++EC (L.drop i):=by rw[<-iG,eE]
 have hcell:∀j v,(EC L)[j]?=some v->w.cell? ⟨g,j,none⟩=some v:=fun j v hj=>by
  have:=h.cells (g:=g) rfl j v hj;rw[bW] at this
  rwa [aW] at this
 have hold:(Builtin.firstCells i0.size i (.slice (some ⟨g,0,none⟩) i c)).run prog w.drew=.ok (EC (L.take i)).toArray w.drew :=
  run_firstCells_some w.drew i0.size i ⟨g,0,none⟩ i c (EC (L.take i)) (by rw[gm];exact SN.out) (fun j v hj=>by
   rw[bW,aW];exact hcell j v (by rw[e2,cg (aA.1 hj).1];exact hj))
 have MC:(L.length:Int)+1-(i:Int)=((L.length+1-i:Nat):Int):=by omega
 have Jj:i+(L.length+1-i)=L.length+1:=by omega
 obtain ⟨G,hG,MG⟩:∃G,(∀ty,(Builtin.append_ #[47,3] ty #[.slice (some ⟨g,0,none⟩) i c,.int .i64 ((L.length:Int)+1-(i:Int))]).run prog w=.ok (.slice (some ⟨w.heap.size,0,none⟩) (L.length+1) G) (w.drew.alloc (.cells ((EC (L.take i)).toArray++Builtin.zeroCells (aB lN).toArray (L.length+1-i)++Builtin.zeroCells (aB lN).toArray (G-(L.length+1))) 54)))/\L.length+1<=G/\G<=maxLen:=by
  have hb:(L.length+1)*48<=140737488355328:=by omega
  have rY:=growslice_fits (need:=L.length+1) (old:=c) (bytes:=48) (by omega) hb;have h65:(20000:Nat)<=maxLen:=by decide
  refine⟨grownCap w (L.length+1) c 54,fun ty=>?_,grownCap_ge _ _ _ _,grownCap_le_maxLen _ _ _ _ (by omega)⟩;have h:=Lib.run_append_grow_zeros (P:=prog) w 47 3 ty 54 i0 _ .i64 .i64 jG.ut fe BZ ij (some ⟨g,0,none⟩) i c (EC (L.take i)) hold (L.length+1-i) (by omega) (by omega) (by omega) (by omega) (by rw[iL];omega) (by rw[iL,Jj];exact rY);rw[Jj] at h;rw[MC];exact h
 obtain ⟨R,hR⟩:∃R:Array Value,R=(EC (L.take i)).toArray++Builtin.zeroCells (aB lN).toArray (L.length+1-i)++Builtin.zeroCells (aB lN).toArray (G-(L.length+1)):=⟨_,rfl⟩
 have hRs:R.size=G*34:=by rw[hR,Array.size_append,Array.size_append,tE,tE,aM,SN.out];omega
 have hRl:R.toList.length=G*34:=by rw[<-hRs];exact gq
 have hRt:R.toList.take (i*34)=EC (L.take i):=by
  rw[hR,Array.toList_append,Array.toList_append,aS];show List.take (i*34) (EC (L.take i)++_)=_;rw[<-SN.out,gC]
 rw[<-hR] at hG;obtain ⟨W0,RH⟩:∃W0,W0=w.drew.alloc (.cells R 54):=⟨_,rfl⟩
 rw[<-RH] at hG;have B0:Below w.heap.size w W0:=by rw[RH];exact yN w _
 have HN0:Hid (W0.heap[w.heap.size]?=some (.cells R 54 (0,0))):=by rw[RH];exact aG w.drew _
 have HV0:=zH (bE.later hv B0);obtain ⟨C1,O_⟩:∃C1,C1=(R.toList.take (i*34)++aB x++R.toList.drop (i*34+34)).toArray:=⟨_,rfl⟩
 have F_:C1.size=G*34:=by rw[O_];simp only[aM,aO,cr,cN,hRl,Ap.out];omega
 have SK:Hid ((Builtin.copy_ #[47,47] 3 #[.slice (some ⟨w.heap.size,i*34,none⟩) (L.length+1-i) (G-i),.slice (some ⟨vb,0,none⟩) 1 1]).run prog W0=.ok (goInt 1) (W0.setRow w.heap.size C1)):=by
  have em:Nat.min 1 (L.length+1-i)=1:=by simp only[Nat.min_def];split <;> omega
  have:=nr (P:=prog) W0 47 47 3 54 34 w.heap.size (i*34) (L.length+1-i) (G-i) ⟨vb,0,none⟩ 1 1 R 54 (aB x) jG.ut jG.size HN0.out (by rw[em];exact Ap.out) (fun j v hj=>by rw[bW,aW,bE.cell HV0.out];exact hj) (by rw[Ap.out,hRs];omega) (jv x);rw[em] at this;show _=_;rw[this,Ap.out,O_];rfl
 obtain ⟨W1,hW1⟩:∃W1,W1=W0.setRow w.heap.size C1:=⟨_,rfl⟩
 rw[<-hW1] at SK;have B1:Below w.heap.size w W1:=by rw[hW1];exact below_setRow B0 (az _) _
 have HN1:Hid (W1.heap[w.heap.size]?=some (.cells C1 54 (0,0))):=by rw[hW1];exact cK W0 _ R _ 54 (0,0) HN0.out
 obtain ⟨C2,Tm⟩:∃C2:Array Value,C2=(EC (L.take i)++aB x++EC (L.drop i)++R.toList.drop ((L.length+1)*34)).toArray:=⟨_,rfl⟩
 have abH:Hid ((Builtin.copy_ #[47,47] 3 #[.slice (some ⟨w.heap.size,(i+1)*34,none⟩) (L.length-i) (G-(i+1)),.slice (some ⟨g,i*34,none⟩) (L.length-i) (c-i)]).run prog W1.drew=.ok (goInt ((L.length-i:Nat):Int)) (W1.drew.setRow w.heap.size C2)):=by
  have em:Nat.min (L.length-i) (L.length-i)=L.length-i:=Nat.min_self _;have:=nr (P:=prog) W1.drew 47 47 3 54 34 w.heap.size ((i+1)*34) (L.length-i) (G-(i+1)) ⟨g,i*34,none⟩ (L.length-i) (c-i) C1 54 (EC (L.drop i)) jG.ut jG.size HN1.out (by rw[em];exact ot.out) (fun j v hj=>by
   rw[bW];have b2:Below w.heap.size w W1.drew:=B1.trans (av 1);rw[b2.cell (p:=⟨g,i*34+j,none⟩) hgw];exact hcell _ v (by rw[e2,aT (by rw[SN.out];omega),SN.out,iX];exact hj)) (by rw[ot.out,F_];omega) (xo _)
  rw[em] at this;show _=_;rw[this,ot.out];have e:=aaE (C:=R.toList) (X:=aB x) (D:=EC (L.drop i)) (a:=i*34) (x:=34) (d:=(L.length-i)*34) hRt Ap.out ot.out (by rw[hRl];omega);rw[show i*34+34+(L.length-i)*34=(L.length+1)*34 by omega] at e
  congr 2
  rw[Tm]
  congr 1
  rw[O_,show (i+1)*34=i*34+34 by omega,show i*34+34+(L.length-i)*34=(L.length+1)*34 by omega];exact e
 have SI:Hid (∀W:World,W.heap[w.heap.size]?=some (.cells C2 54 (0,0))->eU 54 W B (.slice (some ⟨w.heap.size,0,none⟩) (L.length+1) G) (L.take i++[x]++L.drop i)):=fun W hW=>by
  have e:=OE (i:=i) (L:=L) (by omega) x;have e3:=iM (AK hw i hx);rw[xm,e] at e3;refine⟨iM (AK hw i hx),.inr ⟨w.heap.size,G,_,by rw[e],hB,hW,by omega,MG.2,?_,?_⟩⟩
  ·rw[Tm,aM,aO,e3,cN,hRl];omega
  ·rw[e,xm,Tm];show ((EC (L.take i)++aB x++EC (L.drop i))++_).take _=_;rw[<-e3,gC]
 have gj:=zH B1;have hGc:=MG.1;have hzz:¬((i:Int)=(L.length:Int)):=by omega
 have hr1:(c:Int)<(L.length:Int)+1:=by omega
 have nN:=hG 47;have al3:=SK.out;have hkx:¬G=i:=by omega
 clear MC Jj O_ F_ Tm RH hW1 hG hR hRs hRl hRt B0 B1 e2 hcell hold h hw hx hv HN0 HV0 SK ot Ap SN BZ ij gm iL MG hgw i0;go_enter func135,ntmps135;go_wp2_with (at_builtin;refine Lib.wpList_append_run _ rfl _ _ _ _ rfl _ _ rfl rfl _ _ nN ?_)
 clear nN al3;have mixed:prog.follows Departure.mixedOrders=true:=by kernel_rfl
 have dZ:IntKind.i64.wrap ((i:Int)+1)=(i:Int)+1:=by rw[aY];omega
 have qj:(0:Int)<=(i:Int)+1:=by omega
 have Yx:((i:Int)+1).toNat=i+1:=by omega
 have jb:¬(G=i+1):=by omega
 have Dj:(i:Int)+1<=(L.length:Int)+1:=by omega
 have MI:¬(c=i):=by omega
 have hb5:(i:Int)<=(L.length:Int):=by omega
 have hcp:=abH.out
 go_region
 clear hcp mixed dZ qj Yx;go_wp2;go_ret;exact⟨G,rfl,SI.out _ (cK W1.drew _ C1 _ 54 (0,0) HN1.out),below_setRow (gj.out.trans (av 1)) (az _) _⟩
theorem Ms{w:World}{B vb n c:Nat}{p:Option Addr}{L:List En}{x:En}(h:eU 54 w B (.slice p n c) L)(hw:dW L)(hl:L.length=n)(hx:x.Wf)(hv:bE 54 w vb (aB x))(hn:n<=10000)(hB:B<=w.heap.size) :
  Calls prog 135 #[.slice p n c,.int .i64 (n:Int),.slice (some ⟨vb,0,none⟩) 1 1] w fun e w'=>∃v',e=.returned v'/\eU 54 w' B v' (L++[x])/\w.grownBy w' (Value.slice p n c).ownBlock/\(v'.ownBlock=(Value.slice p n c).ownBlock\/v'.ownBlock=some w.heap.size):=by
 have hM:lC w (some ⟨vb,0,none⟩) 1 [x]:=⟨rfl,fun y hy=>by rw[bg.1 hy];exact hx,fun _=>⟨vb,0,rfl,fun j v hj=>by
  rw[aW,bE.cell hv];simpa [EC] using hj⟩⟩
 obtain ⟨q',c',W',hr,ho,hg,lf⟩:=PJ jG (c:=1) h hw hM (by omega) hB;have nN:(Builtin.append_ #[47,47] 47 #[.slice p n c,.slice (some ⟨vb,0,none⟩) 1 1]).run prog w=.ok (.slice q' (L++[x]).length c') W':=hr;have HO:=zH ho;have HG:=zH hg;have HA:=zH lf
 have hz:n<=c:=by
  rcases h.2 with ⟨e,e2⟩ | ⟨g',cap,cur,e,h0,hg,h1,h2,h3,h4⟩
  ·cases e;omega
  ·cases e;omega
 generalize (L++[x]).length=m at *;clear hr ho hg lf hM h hw hx hv;go_enter func135,ntmps135;cases p with
 | none =>
  go_wp2_with (at_builtin;refine Lib.wpList_append_run _ rfl _ _ _ _ rfl _ _ rfl rfl _ _ nN ?_)
  go_ret;exact⟨_,rfl,HO.out,HG.out,HA.out⟩
 | some a =>
  obtain ⟨ab,ao,asp⟩:=a;go_wp2_with (at_builtin;refine Lib.wpList_append_run _ rfl _ _ _ _ rfl _ _ rfl rfl _ _ nN ?_)
  all_goals (go_ret;exact⟨_,rfl,HO.out,HG.out,HA.out⟩)
theorem Rn{w:World}{B vb i:Nat}{v:Value}{L:List En}{x:En}(h:eU 54 w B v L)(hw:dW L)(hx:x.Wf)(hv:bE 54 w vb (aB x))(hvg:v.ownBlock≠some vb)(hi:i<=L.length)(hn:L.length<=10000)(hB:B<=w.heap.size) :
  Calls prog 135 #[v,.int .i64 (i:Int),.slice (some ⟨vb,0,none⟩) 1 1] w fun e w'=>∃v',e=.returned v'/\eU 54 w' B v' (L.take i++[x]++L.drop i)/\E.Kept (fun b=>v.ownBlock=some b) w w'/\(v'.ownBlock=v.ownBlock\/v'.ownBlock=some w.heap.size):=by
 have hf:=E.iW h;obtain ⟨p,c,rfl,hc,hp⟩:=hf;by_cases zx:i<L.length
 ·obtain ⟨g,rfl⟩:=hp (by omega);by_cases oS:L.length+1<=c
  ·refine (FO h hw rfl hx hv (fun e=>hvg (by rw[e];rfl)) zx oS hn).mono ?_;rintro e w' ⟨rfl,h1,h2⟩;exact⟨_,rfl,h1,h2.wider (fun x _ e=>by subst e;rfl),.inl rfl⟩
  ·refine (IW h hw rfl hx hv zx oS hn hB).mono ?_;rintro e w' ⟨c',rfl,h1,h2⟩;exact⟨_,rfl,h1,E.Kept.bP _ h2,.inr rfl⟩
 ·obtain rfl:i=L.length:=by omega
  refine (Ms h hw rfl hx hv hn hB).mono ?_;rintro e w' ⟨v',rfl,h1,h2,h3⟩;refine⟨v',rfl,?_,E.rG h2,h3⟩;rw[List.take_length,List.drop_length,jQ];exact h1
