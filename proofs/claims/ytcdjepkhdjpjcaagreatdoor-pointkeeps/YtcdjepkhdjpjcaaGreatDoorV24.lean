import Derived.Test.YtcdjepkhdjpjcaaGreatDoorV23
set_option maxHeartbeats 20000000
set_option maxRecDepth 100000
namespace Go.Proofs.YtcdjepkhdjpjcaaGreatDoor.C
open Go.Proofs.Tryz
open Go.RowKit
def ecells (i:En):List Value:=.int .i64 i.b :: (U8 i.v++[.int .u64 i.p])
def en0:En:=⟨0,zs 32,0⟩
theorem ecells_len {i:En}(h:i.v.length=32):(ecells i).length=34:=by simp[ecells,h]
theorem ecells_ones (i:En):∀v∈ecells i,v.oneCell'=true:=fun v hv=>by
 rcases List.mem_cons.1 hv with rfl | hv
 ·rfl
 ·rcases List.mem_append.1 hv with hv | hv
  ·exact ones_u8 _ v hv
  ·rw[List.mem_singleton.1 hv];rfl
theorem ecells_p {i:En}(h:i.v.length=32):(ecells i)[33]?=some (.int .u64 i.p):=by
 rw[ecells,List.getElem?_cons_succ,List.getElem?_append_right (by simp[h])];simp[h]
theorem ecells_v {i:En}(j:Nat)(v:Value)(h:(U8 i.v)[j]?=some v):(ecells i)[j+1]?=some v:=by
 rw[ecells,List.getElem?_cons_succ,List.getElem?_append_left (List.getElem?_eq_some_iff.1 h).1];exact h
def plE:List (Nat × Nat):=[(0,1),(1,32),(33,1)]
def flE:List (Bool × TypeId × Nat):=[(true,3,0),(true,51,1),(true,52,33)]
structure ET (ts te:TypeId):Prop where
 ut:prog.underlying ts=some (.slice te)
 un:prog.underlying te=some (.struct (prog.fieldsOf te))
 inf:(prog.info? te).map (fun i=>(i.zero,i.size,i.bytes))=some (some (.agg (ecells en0).toArray),34,48)
 size:(prog.info? te).map (·.size)=some 34
 zero:(prog.info? te).bind (·.zero)=some (.agg (ecells en0).toArray)
 places:placesOf prog te=some plE
 held:prog.stoodInHeld te=false
 eqg:prog.eqGuardType prog.depth te=false
 fls:fl prog te=flE
 el:Program.elem prog ts=te
theorem etC:ET 47 54:=⟨by kernel_rfl,by kernel_rfl,by kernel_rfl,by kernel_rfl,by kernel_rfl,by kernel_rfl,by kernel_rfl,by kernel_rfl,by kernel_rfl,by kernel_rfl⟩
theorem etR:ET 160 241:=⟨by kernel_rfl,by kernel_rfl,by kernel_rfl,by kernel_rfl,by kernel_rfl,by kernel_rfl,by kernel_rfl,by kernel_rfl,by kernel_rfl,by kernel_rfl⟩
theorem isRowS (fs:Array Field):(TypeDesc.struct fs).isRow=true:=rfl
theorem ecells_all (i:En):(ecells i).toArray.all (·.oneCell')=true:=all_oneCell_toArray (ecells_ones i)
def EC (l:List En):List Value:=(l.map ecells).flatten
theorem EC_snoc (l:List En)(i:En):EC (l++[i])=EC l++ecells i:=by simp[EC]
theorem EC_append (l m:List En):EC (l++m)=EC l++EC m:=by simp[EC]
theorem EC_len {l:List En}(h:EnsWf l):(EC l).length=l.length*34:=by
 have:=flat_length (m:=34) (l.map ecells) (fun x hx=>by
  obtain ⟨i,hi,rfl⟩:=List.mem_map.1 hx
  exact ecells_len (h i hi).len)
 rw[List.length_map] at this
 exact this
theorem EC_at {l:List En}(h:EnsWf l){k:Nat}{i:En}(hk:l[k]?=some i)(j:Nat)(hj:j<34):(EC l)[34*k+j]?=(ecells i)[j]?:=by
 obtain ⟨hk',e⟩:=List.getElem?_eq_some_iff.1 hk
 have:=flat_at (m:=34) (l.map ecells) (fun x hx=>by
  obtain ⟨i,hi,rfl⟩:=List.mem_map.1 hx
  exact ecells_len (h i hi).len) k (by simpa using hk') j hj
 rw[EC,this]
 simp[e]
theorem EC_ones (l:List En):∀v∈EC l,v.oneCell'=true:=fun v hv=>by
 obtain ⟨c,hc,hv⟩:=List.mem_flatten.1 hv
 obtain ⟨i,_,rfl⟩:=List.mem_map.1 hc
 exact ecells_ones i v hv
structure EIn (w:World) (p:Option Addr) (n:Nat) (l:List En):Prop where
 len:l.length=n
 wf:EnsWf l
 cells:0<n→∃b o,p=some ⟨b,o,none⟩∧w.rangeAt b o (EC l)
theorem EIn.later {w w':World}{p:Option Addr}{n:Nat}{l:List En}(h:EIn w p n l)(hb:Below w.heap.size w w'):EIn w' p n l:=by
 refine⟨h.len,h.wf,fun h0=>?_⟩
 obtain ⟨b,o,e,hr⟩:=h.cells h0
 exact⟨b,o,e,range_block hr (hb.block b (range_lt hr (by rw[EC_len h.wf,h.len];omega)))⟩
theorem EIn.at {w:World}{b o n:Nat}{l:List En}(h:EIn w (some ⟨b,o,none⟩) n l){k:Nat}{i:En}(hk:l[k]?=some i):w.rangeAt b (o+k*34) (ecells i):=fun j v hv=>by
 have hk':=(List.getElem?_eq_some_iff.1 hk).1
 obtain ⟨b',o',e,hr⟩:=h.cells (by rw[← h.len];omega)
 cases e
 have hj:j<34:=by have:=(List.getElem?_eq_some_iff.1 hv).1;rw[ecells_len (h.wf i (List.mem_of_getElem? hk)).len] at this;exact this
 have:=hr (34*k+j) v (by rw[EC_at h.wf hk j hj];exact hv)
 rw[show o+k*34+j=o+(34*k+j) by omega];exact this
theorem EIn.c0 {w:World}{b o n:Nat}{l:List En}(h:EIn w (some ⟨b,o,none⟩) n l){k:Nat}{i:En}(hk:l[k]?=some i):w.cell? ⟨b,o+k*34,none⟩=some (.int .i64 i.b):=h.at hk 0 _ rfl
theorem EIn.cp {w:World}{b o n:Nat}{l:List En}(h:EIn w (some ⟨b,o,none⟩) n l){k:Nat}{i:En}(hk:l[k]?=some i):w.cell? ⟨b,o+k*34+33,none⟩=some (.int .u64 i.p):=h.at hk 33 _ (ecells_p (h.wf i (List.mem_of_getElem? hk)).len)
theorem EIn.vat {w:World}{b o n:Nat}{l:List En}(h:EIn w (some ⟨b,o,none⟩) n l){k:Nat}{i:En}(hk:l[k]?=some i):w.rangeAt b (o+k*34+1) (U8 i.v):=fun j v hj=>by
 rw[show o+k*34+1+j=o+k*34+(j+1) by omega]
 exact h.at hk (j+1) v (ecells_v j v hj)
theorem EIn.loadv {w:World}{b o n:Nat}{l:List En}(h:EIn w (some ⟨b,o,none⟩) n l){k:Nat}{i:En}(hk:l[k]?=some i):(Instr.loadAt 51 (.pointer (some ⟨b,o+k*34+1,none⟩))).run prog w=.ok (.agg (U8 i.v).toArray) w :=
 run_loadAt_mid w b (o+k*34+1) 51 (U8 i.v) _ (h.vat hk) underlying51 rfl (by rw[sizeV,U8_length,(h.wf i (List.mem_of_getElem? hk)).len])
theorem EIn.load {ts te:TypeId}(T:ET ts te){w:World}{b o n:Nat}{l:List En}(h:EIn w (some ⟨b,o,none⟩) n l){k:Nat}{i:En}(hk:l[k]?=some i):(Instr.loadAt te (.pointer (some ⟨b,o+k*34,none⟩))).run prog w=.ok (.agg (ecells i).toArray) w :=
 run_loadAt_mid w b (o+k*34) te (ecells i) _ (h.at hk) T.un (isRowS _) (by rw[T.size,ecells_len (h.wf i (List.mem_of_getElem? hk)).len])
abbrev EOwn (te:TypeId)(w:World)(B:Nat)(v:Value)(l:List En):Prop:=w.ownsRow B te 34 v l.length (EC l)
theorem EOwn.in {te:TypeId}{w:World}{B:Nat}{v:Value}{l:List En}(h:EOwn te w B v l)(hw:EnsWf l):∃p c,v=.slice p l.length c∧EIn w p l.length l∧l.length≤c∧c≤maxLen:=by
 rcases h.2 with ⟨e,e2⟩ | ⟨g,cap,cur,e,_,hg,h1,h2,h3,h4⟩
 ·refine⟨none,0,by rw[e,e2],?_,by omega,by decide⟩
  exact⟨rfl,hw,fun h0=>by omega⟩
 ·refine⟨_,cap,e,⟨rfl,hw,fun _=>⟨g,0,rfl,fun j v hv=>?_⟩⟩,h1,h2⟩
  rw[Nat.zero_add,cell_of_row w g j cur te (0,0) hg]
  have hj:=(List.getElem?_eq_some_iff.1 hv).1
  rw[← h4,List.getElem?_take] at hv
  split at hv
  ·simpa using hv
  ·cases hv
theorem EOwn.later {te:TypeId}{w w':World}{B:Nat}{v:Value}{l:List En}(h:EOwn te w B v l)(hb:Below w.heap.size w w'):EOwn te w' B v l:=h.kept (grown_of_below hb) (by cases hh:v.ownBlock <;> simp)
theorem fill_eb (i:En)(h:i.v.length=32)(b:Int)(rest:List (Nat × Value)):Instr.fill (plE.toArray[·]?) (ecells i).toArray ((0,.int .i64 b) :: rest)=Instr.fill (plE.toArray[·]?) (ecells ⟨b,i.v,i.p⟩).toArray rest :=
 fill_step 0 1 0 rfl _ [.int .i64 b] _ rfl rfl (by rw[ecells_len h];omega) rest
theorem fill_ev (i:En)(h:i.v.length=32)(v:List Int)(hv:v.length=32)(rest:List (Nat × Value)):Instr.fill (plE.toArray[·]?) (ecells i).toArray ((1,.agg (U8 v).toArray) :: rest)=Instr.fill (plE.toArray[·]?) (ecells ⟨i.b,v,i.p⟩).toArray rest:=by
 rw[fill_step 1 32 1 rfl _ (U8 v) _ rfl (by rw[U8_length,hv]) (by rw[ecells_len h];omega) rest]
 congr 2
 rw[U8_length,hv]
 have e:((U8 i.v++[Value.int .u64 i.p])).drop 32=[.int .u64 i.p]:=by
  rw[show (32:Nat)=(U8 i.v).length by rw[U8_length,h],List.drop_left]
 simp only[ecells,List.take_succ_cons,List.take_zero,List.cons_append,List.nil_append]
 rw[show (1+32:Nat)=32+1 from rfl,List.drop_succ_cons,e]
theorem fill_ep (i:En)(h:i.v.length=32)(p:Int)(rest:List (Nat × Value)):Instr.fill (plE.toArray[·]?) (ecells i).toArray ((2,.int .u64 p) :: rest)=Instr.fill (plE.toArray[·]?) (ecells ⟨i.b,i.v,p⟩).toArray rest:=by
 rw[fill_step 33 1 2 rfl _ [.int .u64 p] _ rfl rfl (by rw[ecells_len h];omega) rest]
 congr 2
 have e:((U8 i.v++[Value.int .u64 i.p])).take 32=U8 i.v:=by
  rw[show (32:Nat)=(U8 i.v).length by rw[U8_length,h],List.take_left]
 simp only[ecells]
 rw[show (33:Nat)=32+1 from rfl,List.take_succ_cons,e,List.drop_of_length_le (by simp[h])]
 simp
theorem buildE {ts te:TypeId}(T:ET ts te)(w:World)(b:Int)(v:List Int)(p:Int)(hv:v.length=32):(Instr.build te #[(0,.int .i64 b),(1,.agg (U8 v).toArray),(2,.int .u64 p)]).run prog w=.ok (.agg (ecells ⟨b,v,p⟩).toArray) w:=by
 refine run_build w te _ _ ((built_of te _ _ _ T.places T.zero).trans ?_)
 show Instr.fill (plE.toArray[·]?) (ecells en0).toArray [(0,.int .i64 b),(1,.agg (U8 v).toArray),(2,.int .u64 p)]=_
 rw[fill_eb en0 (zs_len 32),fill_ev ⟨b,en0.v,en0.p⟩ (zs_len 32) v hv,fill_ep ⟨b,v,en0.p⟩ hv];rfl
theorem buildE0 {ts te:TypeId}(T:ET ts te)(w:World):(Instr.build te #[]).run prog w=.ok (.agg (ecells en0).toArray) w :=
 run_build w te _ _ ((built_of te _ _ _ T.places T.zero).trans rfl)
theorem allocE {ts te:TypeId}(T:ET ts te)(w:World):(Instr.alloc te true (.tuple #[])).run prog w=.ok (.pointer (some ⟨w.heap.size,0,none⟩)) (w.alloc (.cells (ecells en0).toArray te)):=by
 simp only[Instr.alloc,Sem.run_bind,zv te _ T.zero,Result.andThen_ok]
 simp[newVar,newRow,Value.cells]
theorem store_newE {ts te:TypeId}(T:ET ts te)(w:World)(i:En)(hi:i.v.length=32):(Instr.storeAt te (.pointer (some ⟨w.heap.size,0,none⟩)) (.agg (ecells i).toArray)).run prog (w.alloc (.cells (ecells en0).toArray te))=.ok () (w.alloc (.cells (ecells i).toArray te)):=by
 rw[(LAt.new te w (ecells en0)).store (ds:=ecells i) (by rw[T.size,ecells_len hi]) (by rw[ecells_len hi,ecells_len (zs_len 32)]) (ecells_all i),setRow_alloc]
theorem LAt.loadE {ts te:TypeId}(T:ET ts te){t:TypeId}{w:World}{g:Nat}{i:En}(h:LAt t w g (ecells i))(hi:i.v.length=32):(Instr.loadAt te (.pointer (some ⟨g,0,none⟩))).run prog w=.ok (.agg (ecells i).toArray) w :=
 run_loadAt_mid w g 0 te (ecells i) _ (LAt.range h) T.un (isRowS _) (by rw[T.size,ecells_len hi])
theorem build_en {ts te:TypeId}(T:ET ts te)(w:World)(i:En)(hi':i.v.length=32):(Instr.buildSlice ts 1 #[(0,.agg (ecells i).toArray)]).run prog w=.ok (.slice (some ⟨w.heap.size,0,none⟩) 1 1) (w.alloc (.cells (ecells i).toArray te)):=by
 obtain ⟨i0,hi,hz0,hz1,hz2⟩:=info_parts T.inf
 refine run_buildSlice w ts te 1 _ _ i0 _ T.ut hi hz0 (by rw[hz1];decide) (by rw[hz1];decide) ?_
 rw[hz1]
 have hl:(ecells i).length=34:=ecells_len hi'
 have hA:∀A:Array Value,A.size=34→Instr.fill (fun i=>some (i*34,34)) A [(0,.agg (ecells i).toArray)]=some (ecells i).toArray:=by
  intro A hA
  have a0:=part_fill 0 (ecells i) A.toList (by simp;omega)
  simp only[Instr.fill,Value.cells,List.size_toArray,Nat.zero_mul]
  rw[if_neg (by simp[hl,hA])]
  have a0':(ecells i).toArray.zipIdx.foldl (fun cs x=>match x with | (c,j)=>cs.setIfInBounds (0+j) c) A=((A.toList.take 0++ecells i++A.toList.drop (0+(ecells i).length))).toArray:=a0
  rw[a0',List.drop_eq_nil_of_le (by simp[hl,hA])]
  simp
 exact hA _ (by simp)
theorem app_ens {ts te:TypeId}(T:ET ts te){W:World}{B:Nat}{v:Value}{l0 l:List En}{q:Option Addr}{m c:Nat}(h0:EOwn te W B v l0)(hw0:EnsWf l0)(h:EIn W q m l)(hm:l0.length+m≤3000000)(hB:B≤W.heap.size):∃q' c' W',(Builtin.append_ #[ts,ts] ts #[v,.slice q m c]).run prog W=.ok (.slice q' (l0++l).length c') W'∧EOwn te W' B (.slice q' (l0++l).length c') (l0++l)∧W.grownBy W' v.ownBlock∧((Value.slice q' (l0++l).length c').ownBlock=v.ownBlock∨(Value.slice q' (l0++l).length c').ownBlock=some W.heap.size):=by
 obtain ⟨i0,hi0,hz0,hz1,hz2⟩:=info_parts T.inf
 have h65:(4000000:Nat)≤maxLen:=by decide
 have hwf:EnsWf (l0++l):=fun x hx=>(List.mem_append.1 hx).elim (hw0 x) (h.wf x)
 have go:∀(ad:Addr),q=some ad→∃q' c' W',(Builtin.append_ #[ts,ts] ts #[v,.slice q m c]).run prog W=.ok (.slice q' (l0++l).length c') W'∧EOwn te W' B (.slice q' (l0++l).length c') (l0++l)∧W.grownBy W' v.ownBlock∧((Value.slice q' (l0++l).length c').ownBlock=v.ownBlock∨(Value.slice q' (l0++l).length c').ownBlock=some W.heap.size):=by
  rintro ad rfl
  obtain ⟨v',W',hrun,hown',hgrow,-,hat⟩:=run_append_own_at (P:=prog) W B ts ts te i0 _ 34 48 T.ut hi0 hz0 hz1 hz2 rfl (by decide) v l0.length (EC l0) h0 ad m c (EC l) (by rw[EC_len h.wf,h.len]) (fun j u hu=>by
   by_cases hp:0<m
   ·obtain ⟨b',o',e,hr⟩:=h.cells hp
    cases e
    rw[Addr.add_mid]
    exact hr j u hu
   ·have:l=[]:=List.length_eq_zero_iff.1 (by rw[h.len];omega)
    rw[this] at hu;simp[EC] at hu) (EC_ones l) (by omega) (by omega) hB
  have hown2:EOwn te W' B v' (l0++l):=by
   rw[EOwn,List.length_append,h.len,EC_append];exact hown'
  obtain ⟨q',c',rfl,-,-,-⟩:=EOwn.in hown2 hwf
  exact⟨q',c',W',hrun,hown2,hgrow,hat⟩
 by_cases hp:0<m
 ·obtain ⟨b,o,e,-⟩:=h.cells hp
  exact go _ e
 ·have m0:m=0:=by omega
  have e0:l=[]:=List.length_eq_zero_iff.1 (by rw[h.len,m0])
  cases q with
  | none =>
   subst m0;subst e0
   have hr:(Builtin.append_ #[ts,ts] ts #[v,.slice none 0 c]).run prog W=.ok v W:=by
    rcases h0.2 with ⟨rfl,_⟩ | ⟨g,cap,cur,rfl,_,_,hnc,_⟩
    ·simp[Builtin.append_,run_underlying T.ut,sizeOf,typeInfo,hi0,Builtin.lenOf,Builtin.firstCells]
    ·simp[Builtin.append_,run_underlying T.ut,sizeOf,typeInfo,hi0,Builtin.lenOf,Builtin.firstCells,hnc,storeCells]
   obtain ⟨q',c',rfl,-,-,-⟩:=EOwn.in h0 hw0
   rw[List.append_nil]
   exact⟨q',c',W,hr,h0,⟨rfl,rfl,rfl,Nat.le_refl _,fun _ _ _=>rfl⟩,.inl rfl⟩
  | some ad=>exact go ad rfl
theorem EOwn.put {ts te:TypeId}(T:ET ts te){W:World}{B g n c:Nat}{l:List En}(h:EOwn te W B (.slice (some ⟨g,0,none⟩) n c) l)(hw:EnsWf l)(i:En)(hi:i.Wf)(k:Nat)(hk:k<l.length) :
  ∃W',(Instr.storeAt te (.pointer (some ⟨g,k*34,none⟩)) (.agg (ecells i).toArray)).run prog W=.ok () W'∧EOwn te W' B (.slice (some ⟨g,0,none⟩) n c) (l.take k++[i]++l.drop (k+1))∧W.grownBy W' (some g):=by
 obtain ⟨i0,hi0,hz0,hz1,hz2⟩:=info_parts T.inf
 have hwt:EnsWf (l.take k):=fun x hx=>hw x (List.mem_of_mem_take hx)
 have hwd:EnsWf (l.drop (k+1)):=fun x hx=>hw x (List.mem_of_mem_drop hx)
 have hll:(l.take k++[i]++l.drop (k+1)).length=l.length:=by simp;omega
 rcases h.2 with ⟨e,_⟩ | ⟨g',cap,cur,e,h0,hg,h1,h2,h3,h4⟩
 ·cases e
 ·cases e
  have hsz:cur.size=c*34:=h3
  have hst:=run_storeCells_at prog g (k*34) te (ecells i) 0 cur W hg (by rw[ecells_len hi.len];omega) (ecells_ones i)
  rw[Nat.add_zero,ecells_len hi.len] at hst
  have hr:(Instr.storeAt te (.pointer (some ⟨g,k*34,none⟩)) (.agg (ecells i).toArray)).run prog W=.ok () (W.setRow g (cur.toList.take (k*34)++ecells i++cur.toList.drop (k*34+34)).toArray):=by
   simp[Instr.storeAt,Instr.sureAddr,storeVar,sizeOf,typeInfo,hi0,hz1,Value.cells,ecells_len hi.len,hst]
  refine⟨_,hr,⟨?_,.inr ⟨g,c,_,by rw[hll],h0,setRow_heap W g cur _ te _ hg,by rw[hll];exact h1,h2,?_,?_⟩⟩,⟨rfl,rfl,rfl,by simp,fun k _ hk=>setRow_other W g k _ (fun e=>hk (by simp[e]))⟩⟩
  ·rw[hll,EC_len,hll]
   intro x hx
   rcases List.mem_append.1 hx with hx | hx
   ·rcases List.mem_append.1 hx with hx | hx
    ·exact hwt x hx
    ·rw[List.mem_singleton.1 hx];exact hi
   ·exact hwd x hx
  ·simp only[List.size_toArray,List.length_append,List.length_take,List.length_drop,Array.length_toList,ecells_len hi.len]
   omega
  ·have ec:cur.toList=EC l++cur.toList.drop (l.length*34):=by rw[← h4,List.take_append_drop]
   have e2:EC l=EC (l.take k)++(ecells l[k]++EC (l.drop (k+1))):=by
    have e0:l=l.take k++([l[k]]++l.drop (k+1)):=by
     rw[List.singleton_append,← List.drop_eq_getElem_cons hk,List.take_append_drop]
    have e1:EC l=EC (l.take k++([l[k]]++l.drop (k+1))):=congrArg EC e0
    rw[e1,EC_append,EC_append,show EC [l[k]]=ecells l[k] by simp[EC]]
   have el:(EC (l.take k)).length=k*34:=by rw[EC_len hwt,List.length_take,Nat.min_eq_left (by omega)]
   have ex:(ecells l[k]).length=34:=ecells_len (hw _ (List.getElem_mem hk)).len
   have t1:cur.toList.take (k*34)=EC (l.take k):=by
    have e5:cur.toList=EC (l.take k)++((ecells l[k]++EC (l.drop (k+1)))++cur.toList.drop (l.length*34)):=by rw[← List.append_assoc,← e2];exact ec
    rw[← el,e5,List.take_left]
   have t2:cur.toList.drop (k*34+34)=EC (l.drop (k+1))++cur.toList.drop (l.length*34):=by
    have e5:cur.toList=(EC (l.take k)++ecells l[k])++(EC (l.drop (k+1))++cur.toList.drop (l.length*34)):=by
     rw[← List.append_assoc,List.append_assoc (EC (l.take k)),← e2];exact ec
    generalize cur.toList.drop (l.length*34)=rest at *
    rw[e5,show k*34+34=(EC (l.take k)++ecells l[k]).length by rw[List.length_append,el,ex],List.drop_left]
   have e3:EC (l.take k++[i]++l.drop (k+1))=EC (l.take k)++ecells i++EC (l.drop (k+1)):=by rw[EC_append,EC_append];simp[EC]
   have e4:(EC (l.take k)++ecells i++EC (l.drop (k+1))).length=l.length*34:=by
    have hd:(l.drop (k+1)).length=l.length-(k+1):=List.length_drop
    rw[List.length_append,List.length_append,el,ecells_len hi.len,EC_len hwd,hd];omega
   rw[hll,t1,t2,e3]
   show List.take _ (EC (l.take k)++ecells i++(EC (l.drop (k+1))++_))=_
   rw[← List.append_assoc,← e4,List.take_left]
namespace O
open Go.Proofs.Tryz
structure ElT (t e:TypeId) (size bytes:Nat):Prop where
 ut:prog.underlying t=some (.slice e)
 inf:∃i z,prog.info? e=some i∧i.zero=some z∧i.size=size∧i.bytes=bytes∧z.cells.size=size
 pos:0<size
 small:bytes≤100
section
variable {w w':World} {base:Nat} {t e:TypeId} {size bytes:Nat} {v:Value} {n:Nat} {xs:List Value}
theorem kept_grown (h:w.grownBy w' v.ownBlock):Kept (fun b=>v.ownBlock=some b) w w':=⟨h.os,h.tape,h.output,h.size,fun b hb hne=>h.block b hb fun e=>hne e.symm⟩
theorem own_typ (h:w.ownsRow base e size v n xs){b:Nat}(hb:v.ownBlock=some b):∃cur,w.heap[b]?=some (.cells cur e (0,0)):=by
 rcases h.2 with ⟨rfl,_⟩ | ⟨g,cap,cur,rfl,_,hg,_⟩
 ·cases hb
 ·cases hb;exact⟨cur,hg⟩
theorem own_keeps (h:w.ownsRow base e size v n xs)(hk:∀g,v.ownBlock=some g→w'.heap[g]?=w.heap[g]?):w'.ownsRow base e size v n xs:=by
 refine⟨h.1,?_⟩
 rcases h.2 with h | ⟨g,cap,cur,rfl,e2,e3,r⟩
 ·exact .inl h
 ·exact .inr ⟨g,cap,cur,rfl,e2,(hk g rfl).trans e3,r⟩
theorem own_later (h:w.ownsRow base e size v n xs)(hb:Below w.heap.size w w'):w'.ownsRow base e size v n xs:=own_keeps h fun g hg=>hb.block g (h.lt g hg).2
theorem own_far {S:Nat→Prop}(h:w.ownsRow base e size v n xs)(hk:Kept S w w')(hS:∀g,v.ownBlock=some g→¬S g):w'.ownsRow base e size v n xs:=own_keeps h fun g hg=>hk.block g (h.lt g hg).2 (hS g hg)
theorem own_not (h:w.ownsRow base e size v n xs){b:Nat}{cur:Array Value}{ty:TypeId}{f:Nat × Nat}(hx:w.heap[b]?=some (.cells cur ty f))(hne:ty≠e):v.ownBlock≠some b:=fun hg=>by
 obtain ⟨c,hc⟩:=own_typ h hg
 rw[hc] at hx
 simp only[Option.some.injEq,Obj.cells.injEq] at hx
 exact hne hx.2.1.symm
theorem own_some (h:w.ownsRow base e size v n xs)(hn:0<n):∃g cap,v=.slice (some ⟨g,0,none⟩) n cap∧n≤cap∧(∀j u,xs[j]?=some u→w.cell? ⟨g,j,none⟩=some u)∧∀o,w.frozen? ⟨g,o,none⟩=false:=by
 have hc:∀g,v.ownBlock=some g→_:=fun g hg=>h.cells (g:=g) hg
 rcases h.2 with ⟨_,e0⟩ | ⟨g,cap,cur,rfl,_,hg,hcap,_⟩
 ·omega
 ·refine⟨g,cap,rfl,hcap,fun j u hj=>?_,fun o=>by simp[World.frozen?,hg]⟩
  have:=hc g rfl j u hj
  rw[Go.WideShapes.add_plain,Nat.zero_add] at this
  exact this
theorem own_form (h:w.ownsRow base e size v n xs):∃p c,v=.slice p n c∧n≤c∧(0<n→∃g,p=some ⟨g,0,none⟩):=by
 rcases h.2 with ⟨rfl,rfl⟩ | ⟨g,cap,cur,rfl,_,_,hcap,_⟩
 ·exact⟨_,_,rfl,Nat.le_refl _,fun h=>absurd h (Nat.lt_irrefl 0)⟩
 ·exact⟨_,_,rfl,hcap,fun _=>⟨g,rfl⟩⟩
theorem run_own (E:ElT t e size bytes)(h:w.ownsRow base e size v n xs)(ty:TypeId)(a:Addr)(m c:Nat)(news:List Value)(hl:news.length=m*size)(hnews:∀j u,news[j]?=some u→w.cell? (a.add j)=some u)(h1:∀u∈news,u.oneCell'=true)(hn:n+m≤10000)(hb:base≤w.heap.size) :
  ∃v' w',(Builtin.append_ #[t,t] ty #[v,.slice (some a) m c]).run prog w=.ok v' w'∧w'.ownsRow base e size v' (n+m) (xs++news)∧Kept (fun b=>v.ownBlock=some b) w w'∧(v'.ownBlock=v.ownBlock∨v'.ownBlock=some w.heap.size):=by
 obtain ⟨i,z,hi,hz,hs,hby,hzs⟩:=E.inf
 have hml:10000≤maxLen:=by decide
 have hsm:=E.small
 obtain ⟨v',w',hr,h2,h3,_,h5⟩:=run_append_own_at w base t ty e i z size bytes E.ut hi hz hs hby hzs E.pos v n xs h a m c news hl hnews h1 (by omega) (by have:=Nat.mul_le_mul hn hsm;omega) hb
 exact⟨v',w',hr,h2,kept_grown h3,h5⟩
end
section
variable {w w':World}
theorem own_shape {base:Nat}{e:TypeId}{size:Nat}{v:Value}{n:Nat}{xs:List Value}(h:w.ownsRow base e size v n xs):∃p c,v=.slice p n c:=by
 obtain ⟨p,c,e1,_⟩:=own_form h
 exact⟨p,c,e1⟩
end
theorem elM:ElT 85 84 33 40:=by
 obtain ⟨i0,hi,h0,h1,h2⟩:=info_parts infoI
 exact⟨underlying85,⟨i0,_,hi,h0,h1,h2,rfl⟩,by decide,by decide⟩
section
variable {w w':World} {base base':Nat} {t e:TypeId} {size bytes:Nat} {v u:Value} {n m:Nat} {xs ys:List Value}
theorem run_own_any (E:ElT t e size bytes)(h:w.ownsRow base e size v n xs)(ty:TypeId)(hu:w.ownsRow base' e size u m ys)(h1:∀x∈ys,x.oneCell'=true)(hn:n+m≤10000)(hb:base≤w.heap.size) :
  ∃v' w',(Builtin.append_ #[t,t] ty #[v,u]).run prog w=.ok v' w'∧w'.ownsRow base e size v' (n+m) (xs++ys)∧Kept (fun b=>v.ownBlock=some b) w w'∧(v'.ownBlock=v.ownBlock∨v'.ownBlock=some w.heap.size):=by
 rcases hu.2 with ⟨rfl,rfl⟩ | ⟨g,cap,cur,rfl,_⟩
 ·obtain ⟨i,z,hi,hz,hs,hby,hzs⟩:=E.inf
  have e0:ys=[]:=List.eq_nil_of_length_eq_zero (by have:=hu.1;omega)
  refine⟨v,w,run_append_owned_none (P:=prog) (w:=w) base t ty e i size E.ut hi v n xs h,by rw[e0];simpa using h,Kept.refl _ _,.inl rfl⟩
 ·exact run_own E h ty ⟨g,0,none⟩ m cap ys hu.1 (fun j x hj=>hu.cells (g:=g) rfl j x hj) h1 hn hb
end
end O
theorem nan_is (x:Int)(w:World):Calls prog 168 #[.int .i64 x] w fun e w'=>e=.returned (.bool false)∧w'=w:=by
 go_enter func168,ntmps168
 go_wp2
 go_ret
 exact⟨by simp,rfl⟩
def cmpS (x y:Int):Int:=if x<y then -1 else if y<x then 1 else 0
theorem cmpS_lt (x y:Int):cmpS x y<0↔x<y:=by
 unfold cmpS
 by_cases h:x<y
 ·simp[h]
 ·by_cases h2:y<x <;> simp[h,h2]
theorem cmpS_eq (x y:Int):cmpS x y=0↔x=y:=by
 unfold cmpS
 by_cases h:x<y
 ·simp[h];omega
 ·by_cases h2:y<x <;> simp[h,h2] <;> omega
theorem cmp_is (x y:Int)(w:World):Calls prog 109 #[.int .i64 x,.int .i64 y] w fun e w'=>e=.returned (.int .i64 (cmpS x y))∧w'=w:=by
 have H:Hid (∀z,((x<y∧z=-1)∨(¬x<y∧y<x∧z=1)∨(¬x<y∧¬y<x∧z=0))→cmpS x y=z):=fun z h=>by
  unfold cmpS
  rcases h with ⟨h1,rfl⟩ | ⟨h1,h2,rfl⟩ | ⟨h1,h2,rfl⟩ <;> simp[*]
 go_enter func109,ntmps109
 by_cases h1:x<y
 ·go_wp2_with (go_at_call 168;refine (nan_is _ _).mono ?_;rintro e w' ⟨rfl,rfl⟩)
  go_ret
  exact⟨by rw[H.out _ (.inl ⟨h1,rfl⟩)];rfl,rfl⟩
 ·by_cases h2:y<x
  ·go_wp2_with (go_at_call 168;refine (nan_is _ _).mono ?_;rintro e w' ⟨rfl,rfl⟩)
   go_ret
   exact⟨by rw[H.out _ (.inr (.inl ⟨h1,h2,rfl⟩))];rfl,rfl⟩
  ·go_wp2_with (go_at_call 168;refine (nan_is _ _).mono ?_;rintro e w' ⟨rfl,rfl⟩)
   go_ret
   exact⟨by rw[H.out _ (.inr (.inr ⟨h1,h2,rfl⟩))];rfl,rfl⟩
theorem find1_at (x:En)(b:Int)(w:World):Calls prog 108 #[.agg (ecells x).toArray,.int .i64 b] w fun e w'=>e=.returned (.int .i64 (cmpS x.b b))∧Below w.heap.size w w':=by
 have B0:Hid (Below w.heap.size w (w.alloc (.cells (ecells x).toArray 54))):=below_alloc w _
 have c0:(w.alloc (.cells (ecells x).toArray 54)).cell? ⟨w.heap.size,0,none⟩=some (.int .i64 x.b):=LAt.cell (LAt.new 54 w (ecells x)) 0
 go_enter func108,ntmps108
 go_wp2_with (go_at_call 109;refine (cmp_is _ _ _).mono ?_;rintro e w' ⟨rfl,rfl⟩)
 go_ret
 exact⟨rfl,B0.out⟩
abbrev findV:Value:=.func (.func 108) #[] #[]
theorem search_at {w:World}{p:Option Addr}{n c:Nat}{L:List En}(h:EIn w p n L)(hu:UpE L)(hn:n≤10000)(b:Int) :
  Calls prog 107 #[.slice p n c,.int .i64 b,findV] w fun e w'=>e=.returned (.tuple #[.int .i64 (ple L b:Int),.bool (isE L b)])∧Below w.heap.size w w':=by
 have HH:Hid (EIn w p n L):=h
 have HU:Hid (UpE L):=hu
 have HL:Hid (L.length=n):=h.len
 clear h hu
 go_enter func107,ntmps107
 go_wp2_with fail
 go_loopw [9,10] (fun v v2 W=>∃(i j:Nat),v=.int .i64 (i:Int)∧v2=.int .i64 (j:Int)∧i≤j∧j≤n∧Hid (Below w.heap.size w W)∧Hid ((∀k x,k<i→L[k]?=some x→x.b<b)∧(∀k x,j≤k→L[k]?=some x→b≤x.b))) (fun v v2 _=>(intOf v2).toNat-(intOf v).toNat)
 case atStart=>exact⟨0,n,rfl,rfl,by omega,by omega,Below.refl _ _,(⟨fun k x hk=>absurd hk (Nat.not_lt_zero _),fun k x hk hx=>by have:=(List.getElem?_eq_some_iff.1 hx).1;have:=HL.out;omega⟩:(∀k x,k<0→L[k]?=some x→x.b<b)∧(∀k x,n≤k→L[k]?=some x→b≤x.b))⟩
 case round =>
  obtain ⟨i,j,rfl,rfl,h1,h2,HB,HI⟩:=hrel
  by_cases hij:i<j
  ·obtain ⟨x,hx⟩:∃x,L[(i+j) / 2]?=some x:=⟨_,List.getElem?_eq_getElem (by rw[HL.out];omega)⟩
   obtain ⟨b1,o1,rfl,-⟩:=HH.out.cells (by omega)
   have HLd:Hid ((Instr.loadAt 54 (.pointer (some ⟨b1,o1+(i+j) / 2*34,none⟩))).run prog wr=.ok (.agg (ecells x).toArray) wr):=EIn.load etC (HH.out.later HB.out) hx
   have HX:Hid (L[(i+j) / 2]?=some x):=hx
   clear hx
   go_wp2_with (first | ((with_reducible refine at_ops ?_);(refine wpList_load_is (by rfl) 54 rfl rfl HLd.out ?_);simp only[Act.put,zA,zB,zC]))
   refine (find1_at x b wr).mono ?_
   rintro e w' ⟨rfl,bn⟩
   have HB2:Hid (Below w.heap.size w w'):=below_then HB.out bn
   have HC:Hid (cmpS x.b b<0↔x.b<b):=cmpS_lt _ _
   generalize cmpS x.b b=cc at *
   clear bn HB HLd
   by_cases hcc:cc<0
   ·have HI2:Hid ((∀k y,k<(i+j) / 2+1→L[k]?=some y→y.b<b)∧(∀k y,j≤k→L[k]?=some y→b≤y.b)):=by
     refine⟨fun k y hk hy=>?_,HI.out.2⟩
     have hxb:=HC.out.1 hcc
     by_cases e:k=(i+j) / 2
     ·subst e;have:=HX.out;rw[hy] at this;cases this;exact hxb
     ·obtain ⟨hk2,ek⟩:=List.getElem?_eq_some_iff.1 hy
      obtain ⟨hx2,ex⟩:=List.getElem?_eq_some_iff.1 HX.out
      have:=List.pairwise_iff_getElem.1 HU.out k ((i+j) / 2) hk2 hx2 (by omega)
      rw[ek,ex] at this
      omega
    go_wp2_with fail
    go_roundw
    case rel=>exact⟨(i+j) / 2+1,j,by congr 1,rfl,by omega,by omega,HB2,HI2⟩
    case measure=>simp[intOf];omega
   ·have HI2:Hid ((∀k y,k<i→L[k]?=some y→y.b<b)∧(∀k y,(i+j) / 2≤k→L[k]?=some y→b≤y.b)):=by
     refine⟨HI.out.1,fun k y hk hy=>?_⟩
     have hxb:¬x.b<b:=fun h=>hcc (HC.out.2 h)
     by_cases e:k=(i+j) / 2
     ·subst e;have:=HX.out;rw[hy] at this;cases this;omega
     ·obtain ⟨hk2,ek⟩:=List.getElem?_eq_some_iff.1 hy
      obtain ⟨hx2,ex⟩:=List.getElem?_eq_some_iff.1 HX.out
      have:=List.pairwise_iff_getElem.1 HU.out ((i+j) / 2) k hx2 hk2 (by omega)
      rw[ek,ex] at this
      omega
    go_wp2_with fail
    go_roundw
    case rel=>exact⟨i,(i+j) / 2,rfl,by congr 1,by omega,by omega,HB2,HI2⟩
    case measure=>simp[intOf];omega
  ·obtain rfl:i=j:=by omega
   have hp:i=ple L b:=ple_is HU.out (by rw[HL.out];exact h2) HI.out.1 HI.out.2
   have HP:Hid (ple L b=i):=hp.symm
   clear hp HI h1
   by_cases hin:i<n
   ·obtain ⟨x,hx⟩:∃x,L[i]?=some x:=⟨_,List.getElem?_eq_getElem (by rw[HL.out];omega)⟩
    obtain ⟨b1,o1,rfl,-⟩:=HH.out.cells (by omega)
    have HLd:Hid ((Instr.loadAt 54 (.pointer (some ⟨b1,o1+i*34,none⟩))).run prog wr=.ok (.agg (ecells x).toArray) wr):=EIn.load etC (HH.out.later HB.out) hx
    have HA:Hid (isE L b=(cmpS x.b b == 0)):=by
     show _=_
     unfold isE
     rw[HP.out,hx,Bool.eq_iff_iff]
     simp[cmpS_eq]
    clear hx
    go_wp2_with (first | ((with_reducible refine at_ops ?_);(refine wpList_load_is (by rfl) 54 rfl rfl HLd.out ?_);simp only[Act.put,zA,zB,zC]))
    refine (find1_at x b wr).mono ?_
    rintro e w' ⟨rfl,bn⟩
    have HB2:Hid (Below w.heap.size w w'):=below_then HB.out bn
    generalize cmpS x.b b=cc at *
    clear bn HB HLd
    go_wp2_with fail
    go_ret2
    exact⟨by rw[HP.out,HA.out];rfl,HB2.out⟩
   ·have HA:Hid (isE L b=false):=by
     show _=_
     unfold isE
     rw[HP.out,List.getElem?_eq_none (by rw[HL.out];omega)]
     rfl
    go_wp2_with fail
    go_ret2
    exact⟨by rw[HP.out,HA.out];rfl,HB.out⟩
end Go.Proofs.YtcdjepkhdjpjcaaGreatDoor.C
