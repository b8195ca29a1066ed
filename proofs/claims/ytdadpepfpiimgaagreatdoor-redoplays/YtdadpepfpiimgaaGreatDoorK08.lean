import Derived.Test.YtdadpepfpiimgaaGreatDoorK07
import Derived.RangeFuncNested
import Derived.RangeFuncBound
import Derived.Shelf.RegionOpen
import Derived.OwnWalkIn
import Derived.LoopNIn
import Derived.LoopIn
set_option maxHeartbeats 20000000
set_option maxRecDepth 100000
namespace Go.Proofs.YtdadpepfpiimgaaGreatDoor
theorem may_wf (s:Sup)(h:May s)(h1:0≤s.tail):s.Wf:=by
 obtain ⟨⟨a1,a2,a3,a4,a5⟩,a6,a7,a8⟩:=h
 refine⟨?_,?_,?_,?_,?_,?_,?_⟩ <;> first | (simp only[i64];omega) | (simp only[u64];omega)
theorem newk_length {ws:List Wr}{d:List Int}{n i:Nat}(hd:d.length=64*n)(hw:Fit n ws)(hi:i<n):∀k,(newk ws d i k).length=64
 | 0=>sec_length hd hi
 | k+1=>by
  by_cases hk:k<ws.length
  ·rw[newk_step ws d i k hk]
   split
   ·exact (hw.at k hk).2.1
   ·exact newk_length hd hw hi k
  ·simp[newk,List.getElem?_eq_none (show ws.length≤k by omega)];exact newk_length hd hw hi k
def hbody (b:Int)(v:List Int):List Int:=[72,79,77,69,1,b]++(zs 22++v)
def homeS (b:Int)(v:List Int):List Int:=hbody b v++digits 4 (crc (hbody b v):Nat)
abbrev inB (b:Int):Prop:=0≤b∧b<64
theorem hbody_len {v:List Int}(b:Int)(h:v.length=32):(hbody b v).length=60:=by simp[hbody,zs_len,h]
theorem homeS_len {v:List Int}(b:Int)(h:v.length=32):(homeS b v).length=64:=by simp[homeS,hbody_len b h,digits_length]
theorem hbody_bytes {b:Int}{v:List Int}(hb:inB b)(hv:Bytes v):Bytes (hbody b v):=by
 unfold hbody
 refine Bytes.append ?_ ((zs_bytes 22).append hv)
 intro x hx;simp at hx;omega
theorem homeS_bytes {b:Int}{v:List Int}(hb:inB b)(hv:Bytes v):Bytes (homeS b v):=(hbody_bytes hb hv).append (digits_bytes _ _)
def sup1 (s:Sup):Sup:=⟨s.bl,s.lc,s.mr,s.hi,s.cl,0,1⟩
theorem sup1_mayT (s:Sup):MayT (sup1 s):=⟨by show (0:Int)≤_;omega,by show (1:Int)≤1;omega,by show (1:Int)≤_;omega⟩
theorem sup1_may {s:Sup}(h:MayC s):May (sup1 s):=⟨h,sup1_mayT s⟩
theorem sup1_wf {s:Sup}(h:MayC s):(sup1 s).Wf:=may_wf _ (sup1_may h) (by show (0:Int)≤0;omega)
def homes (n:Nat):List Int:=((List.range n).map fun (i:Nat)=>homeS (i:Int) (zs 32)).flatten
theorem homes_succ (n:Nat):homes (n+1)=homes n++homeS (n:Int) (zs 32):=by simp[homes,List.range_succ]
theorem homes_bytes (n:Nat)(h:n≤64):Bytes (homes n):=by
 induction n with
 | zero=>exact Bytes.nil
 | succ n ih=>rw[homes_succ];exact (ih (by omega)).append (homeS_bytes ⟨by omega,by omega⟩ (zs_bytes 32))
def newS (s:Sup):List Int:=encS (sup1 s)++homes s.bl.toNat++zs (64*s.lc.toNat)
def cntS (s:Sup):Nat:=1+s.bl.toNat+s.lc.toNat
theorem cntS_bd {s:Sup}(h:MayC s):4≤cntS s∧cntS s≤129:=by have:=h.1;have:=h.2.1;unfold cntS;omega
theorem newS_bytes {s:Sup}(h:MayC s):Bytes (newS s):=by
 have:=h.1
 exact ((encS_bytes _).append (homes_bytes _ (by omega))).append (zs_bytes _)
def rfS (s:Sup)(n:Int):Int:=if MayC s then (if n=1+s.bl+s.lc then 0 else 40) else 3
theorem rfS_no {s:Sup}(n:Int)(h:¬MayC s):rfS s n=3:=if_neg h
theorem rfS_len {s:Sup}{n:Int}(h:MayC s)(h2:¬n=1+s.bl+s.lc):rfS s n=40:=by unfold rfS;rw[if_pos h,if_neg h2]
theorem rfS_ok {s:Sup}{n:Int}(h:MayC s)(h2:n=1+s.bl+s.lc):rfS s n=0:=by unfold rfS;rw[if_pos h,if_pos h2]
theorem rfS_zero {s:Sup}{n:Int}(h:rfS s n=0):MayC s∧n=1+s.bl+s.lc:=by
 unfold rfS at h
 by_cases c:MayC s
 ·rw[if_pos c] at h
  by_cases c2:n=1+s.bl+s.lc
  ·exact⟨c,c2⟩
  ·rw[if_neg c2] at h;omega
 ·rw[if_neg c] at h;omega
def rbS (s:Sup)(n:Int)(b:Int):Int:=if rfS s n=0 then (if 0≤b∧b<s.bl then 0 else 51) else rfS s n
theorem rbS_no {s:Sup}{n:Int}(b:Int)(h:¬rfS s n=0):rbS s n b=rfS s n:=if_neg h
theorem rbS_out {s:Sup}{n b:Int}(h:rfS s n=0)(h2:¬(0≤b∧b<s.bl)):rbS s n b=51:=by unfold rbS;rw[if_pos h,if_neg h2]
theorem rbS_ok {s:Sup}{n b:Int}(h:rfS s n=0)(h2:0≤b∧b<s.bl):rbS s n b=0:=by unfold rbS;rw[if_pos h,if_pos h2]
theorem rbS_zero {s:Sup}{n b:Int}(h:rbS s n b=0):rfS s n=0∧0≤b∧b<s.bl:=by
 unfold rbS at h
 by_cases c:rfS s n=0
 ·rw[if_pos c] at h
  by_cases c2:0≤b∧b<s.bl
  ·exact⟨c,c2⟩
  ·rw[if_neg c2] at h;omega
 ·rw[if_neg c] at h;exact absurd h c
theorem rbS_in {s:Sup}{n b:Int}(h:rbS s n b=0):inB b∧0≤1+b∧1+b<n:=by
 obtain ⟨h1,h2,h3⟩:=rbS_zero h
 obtain ⟨h4,h5⟩:=rfS_zero h1
 have:=h4.1;have:=h4.2.1
 refine⟨⟨?_,?_⟩,?_,?_⟩ <;> omega
def svW (s:Sup)(n:Int)(ws:List Wr)(b:Int)(v:List Int):List Wr:=if rbS s n b=0 then ws++[⟨(1+b).toNat,homeS b v⟩] else ws
theorem svW_yes {s:Sup}{n b:Int}(ws:List Wr)(v:List Int)(h:rbS s n b=0):svW s n ws b v=ws++[⟨(1+b).toNat,homeS b v⟩]:=if_pos h
theorem svW_no {s:Sup}{n b:Int}(ws:List Wr)(v:List Int)(h:¬rbS s n b=0):svW s n ws b v=ws:=if_neg h
open Go.Proofs.Tryz Go.RowKit
theorem places29:placesOf prog 121=some plS:=by kernel_rfl
theorem zero29:(prog.info? 121).bind (·.zero)=some (.agg (scells sup0).toArray):=by kernel_rfl
theorem fill_cfg (r s:Sup)(rest:List (Nat × Value)):Instr.fill (plS.toArray[·]?) (scells r).toArray ((0,.agg (ccells s).toArray) :: rest)=Instr.fill (plS.toArray[·]?) (scells ⟨s.bl,s.lc,s.mr,s.hi,s.cl,r.tail,r.life⟩).toArray rest :=
 fill_step 0 5 0 rfl _ (ccells s) _ rfl rfl (by rw[scells_len];omega) rest
theorem fill_tail (r:Sup)(x:Int)(rest:List (Nat × Value)):Instr.fill (plS.toArray[·]?) (scells r).toArray ((1,.int .u64 x) :: rest)=Instr.fill (plS.toArray[·]?) (scells ⟨r.bl,r.lc,r.mr,r.hi,r.cl,x,r.life⟩).toArray rest :=
 fill_step 5 1 1 rfl _ [.int .u64 x] _ rfl rfl (by rw[scells_len];omega) rest
theorem fill_life (r:Sup)(x:Int)(rest:List (Nat × Value)):Instr.fill (plS.toArray[·]?) (scells r).toArray ((2,.int .u64 x) :: rest)=Instr.fill (plS.toArray[·]?) (scells ⟨r.bl,r.lc,r.mr,r.hi,r.cl,r.tail,x⟩).toArray rest :=
 fill_step 6 1 2 rfl _ [.int .u64 x] _ rfl rfl (by rw[scells_len];omega) rest
theorem fill_all (s:Sup):Instr.fill (plS.toArray[·]?) (scells sup0).toArray [(0,.agg (ccells s).toArray),(1,.int .u64 s.tail),(2,.int .u64 s.life)]=some (scells s).toArray:=by
 rw[fill_cfg,fill_tail,fill_life];rfl
theorem build29 (w:World)(parts:Array (Nat × Value))(r:Sup)(h:Instr.fill (plS.toArray[·]?) (scells sup0).toArray parts.toList=some (scells r).toArray):(Instr.build 121 parts).run prog w=.ok (.agg (scells r).toArray) w :=
 run_build w 121 _ _ ((built_of 121 _ _ _ places29 zero29).trans h)
end Go.Proofs.YtdadpepfpiimgaaGreatDoor
namespace Go.Proofs.YtdadpepfpiimgaaGreatDoor
open Go.RowKit
theorem below_setCells {B g:Nat}(hg:B≤g):∀(vs:List Value) (o:Nat) (w w':World),Below B w w'→Below B w (w'.setCells g o vs)
 | [],_,_,_,h=>h
 | v :: r,o,w,w',h=>below_setCells hg r (o+1) w _ (h.setCell (by simpa using hg) v)
open Go.Proofs.Tryz
theorem size71:(prog.info? 109).map (·.size)=some 128:=by kernel_rfl
theorem places71:placesOf prog 109=some [(0,64),(64,64)]:=by kernel_rfl
theorem zero71:(prog.info? 109).bind (·.zero)=some (.agg (List.replicate 128 (Value.int .u8 0)).toArray):=by kernel_rfl
theorem zero694:(prog.info? 107).bind (·.zero)=some (.agg (List.replicate 64 (Value.int .u8 0)).toArray):=by kernel_rfl
theorem built71 (a b:List Int)(ha:a.length=64)(hb:b.length=64):prog.built 109 [(0,.agg (U8 a).toArray),(1,.agg (U8 b).toArray)]=some (U8 a++U8 b).toArray:=by
 rw[built_of 109 _ _ _ places71 zero71]
 exact fill_two4 _ _ 0 64 64 64 rfl _ _ (U8 a) (U8 b) rfl rfl (by rw[U8_length,ha]) (by rw[U8_length,hb]) rfl rfl (by simp)
theorem run_build71 (w:World)(a b:List Int)(ha:a.length=64)(hb:b.length=64):(Instr.build 109 #[(0,.agg (U8 a).toArray),(1,.agg (U8 b).toArray)]).run prog w=.ok (.agg (U8 a++U8 b).toArray) w :=
 run_build w 109 _ _ (built71 a b ha hb)
def Z69:Array Value:=(List.replicate 64 (Value.int .u8 0)).toArray
theorem Z69_size:Z69.size=64:=by simp[Z69]
theorem run_alloc69 (w:World):(Instr.alloc 107 true (.tuple #[])).run prog w=.ok (.pointer (some ⟨w.heap.size,0,none⟩)) (w.alloc (.cells Z69 107)):=by
 simp only[Instr.alloc,Sem.run_bind,zv4 107 _ zero694,Result.andThen_ok]
 simp[newVar,newRow,Value.cells,Z69]
theorem run_store69 (w:World)(b:List Int)(hb:b.length=64):(Instr.storeAt 107 (.pointer (some ⟨w.heap.size,0,none⟩)) (.agg (U8 b).toArray)).run prog (w.alloc (.cells Z69 107))=.ok () (w.alloc (.cells (U8 b).toArray 107)) :=
 run_store_new w 107 Z69 _ (by simp[Z69_size,hb]) (by rw[size69];simp[hb]) (u8_ones b)
theorem wpList_alloc69 {ops:Array Oper}{rest:List Oper}{o:Oper}{a:Act}{w:World}{Q:Exit→Act→World→Prop}(hgd:o.guard=none)(ho:o.op=.alloc 107)
  (h:wpList prog ops Q rest (a.put o.dst (.pointer (some ⟨w.heap.size,0,none⟩))) (w.alloc (.cells Z69 107))):wpList prog ops Q (o :: rest) a w :=
 wpList_plain hgd fun _ hK=>wp_val (by unfold execOp;simp only[ho,Sem.run_bind,run_alloc69,Result.andThen_ok,Sem.run_pure]) (hK _ _ h)
theorem wpList_store69 {ops:Array Oper}{rest:List Oper}{o:Oper}{a:Act}{w:World}{Q:Exit→Act→World→Prop}(hgd:o.guard=none)(x y:Operand)(ho:o.op=.store 107 x y)(b:List Int)(hx:a.eval x=.pointer (some ⟨w.heap.size,0,none⟩))(hy:a.eval y=.agg (U8 b).toArray)(hb:b.length=64)
  (h:wpList prog ops Q rest (a.put o.dst undef) (w.alloc (.cells (U8 b).toArray 107))):wpList prog ops Q (o :: rest) a (w.alloc (.cells Z69 107)) :=
 wpList_plain hgd fun _ hK=>wp_skip' (by unfold execOp;simp only[ho,hx,hy,Sem.run_bind,run_store69 w b hb,Result.andThen_ok,Sem.run_pure]) (hK _ _ h)
theorem yields_build71 {ops:Array Oper}{S:World→Prop}{o:Oper}{a:Act}(hw:Region.wanted o (yielded ops a.tmps)=true)(x y:Operand)(ho:o.op=.build 109 #[(0,x),(1,y)])(b c:List Int)(hx:a.eval x=.agg (U8 b).toArray)(hy:a.eval y=.agg (U8 c).toArray)(hb:b.length=64)(hc:c.length=64):YieldsIf prog ops S o (.agg (U8 b++U8 c).toArray) a :=
 .inl ⟨hw,fun w _=>by
  have e:(#[(0,x),(1,y)]:Array (Nat × Operand)).map (fun (i,x)=>(i,a.eval x))=#[(0,a.eval x),(1,a.eval y)]:=by simp
  unfold execOp;simp only[ho];rw[e,hx,hy];simp only[Sem.run_bind,run_build71 w b c hb hc,Result.andThen_ok,Sem.run_pure]⟩
theorem sizeV:(prog.info? 39).map (·.size)=some 32:=by kernel_rfl
theorem zeroV:(prog.info? 39).bind (·.zero)=some (.agg (U8 (zs 32)).toArray):=by kernel_rfl
theorem sizeOf5 (w:World):(sizeOf 5).run prog w=.ok 1 w:=by
 cases hi:prog.info? 5 with
 | none=>have:=size5;simp[hi] at this
 | some i =>
  have h:=size5
  simp only[hi,Option.map_some,Option.some.injEq] at h
  simp[sizeOf,typeInfo,hi,h]
theorem all_range_eq:∀(xs ys:List Int),xs.length=ys.length→((List.range xs.length).all fun i=>xs.getD i 0 == ys.getD i 0)=decide (xs=ys)
 | [],[],_=>rfl
 | x :: xs,y :: ys,h=>by
  have ih:=all_range_eq xs ys (by simpa using h)
  rw[List.length_cons,List.range_succ_eq_map,List.all_cons,List.all_map]
  simp only[List.getD_cons_zero,Function.comp_def,List.getD_cons_succ,ih]
  rw[Bool.eq_iff_iff]
  simp
 | [],_ :: _,h=>by simp at h
 | _ :: _,[],h=>by simp at h
theorem buildV (w:World):(Instr.build 39 #[]).run prog w=.ok (.agg (U8 (zs 32)).toArray) w:=run_build w 39 _ _ (by kernel_rfl)
abbrev VAt (w:World)(g:Nat)(v:List Int):Prop:=LAt 39 w g (U8 v)
theorem VAt.load {w:World}{g:Nat}{v:List Int}(h:VAt w g v)(hv:v.length=32):(Instr.loadAt 39 (.pointer (some ⟨g,0,none⟩))).run prog w=.ok (.agg (U8 v).toArray) w :=
 run_loadAt_mid w g 0 39 (U8 v) _ (LAt.range h) underlying39 rfl (by rw[sizeV,U8_length,hv])
theorem VAt.bin {w:World}{g:Nat}{v:List Int}(h:VAt w g v)(hv:v.length=32)(hb:Bytes v):BIn w (some ⟨g,0,none⟩) 32 v:=by
 refine⟨hv,hb,fun _=>⟨g,0,rfl,fun i hi=>?_⟩⟩
 rw[Nat.zero_add,LAt.cell h i]
 simp[U8,List.getD,List.getElem?_eq_getElem (show i<v.length by omega)]
theorem VAt.sin {w:World}{g:Nat}{v:List Int}(h:VAt w g v)(hv:v.length=32)(hb:Bytes v):SIn w (.slice (some ⟨g,0,none⟩) 32 32) v:=⟨_,32,32,rfl,h.bin hv hb,Nat.le_refl _,fun e=>by cases e⟩
theorem isBlock_any (b n:Int)(w:World) :
  Calls prog 84 #[.int .i64 b,.int .i64 n] w fun e w'=>e=.returned (.bool (decide (0≤b∧b<n)))∧w=w':=by
 go_enter func84,ntmps84
 go_wp2
 all_goals go_ret
 all_goals (refine⟨?_,rfl⟩;simp;try omega)
theorem hput_any (n:Int)(k:Nat)(w:World)(hn0:0≤n)(hk:1≤k∧k≤8)(hn:n / 256 ^ k=0) :
  Calls prog 85 #[.int .u64 n,.int .i64 k] w fun e w'=>∃p c,e=.returned (.slice p k c)∧Made w w' p k c (digits k n):=by
 go_enter func85,ntmps85
 go_wp2_with fail
 refine (put_ok n k w hn0 hk hn).mono ?_
 rintro e w1 ⟨v,rfl,ho,hb⟩
 obtain ⟨p,c,rfl,hm⟩:=made_of ho (digits_bytes k n) hb
 clear ho hb hn
 go_wp2_with fail
 go_ret
 exact⟨p,c,rfl,hm⟩
theorem join_three {w:World}(u v x:Value)(xs ys zs:List Int)(hu:SIn w u xs)(hv:SIn w v ys)(hx:SIn w x zs)(n:Nat)(hn:(xs++(ys++zs)).length=n)(hb:n≤100000) :
  Calls prog 82 #[.slice (some ⟨w.heap.size,0,none⟩) 3 3] (w.alloc (.cells [u,v,x].toArray 27)) fun e w'=>e=.returned (.slice (some ⟨w.heap.size+1,0,none⟩) n n)∧Made w w' (some ⟨w.heap.size+1,0,none⟩) n n (xs++(ys++zs)):=by
 have hs:SIns w [u,v,x] [xs,ys,zs]:=⟨hu,hv,hx,trivial⟩
 have e:[xs,ys,zs].flatten=xs++(ys++zs):=by simp
 have hB:Bytes (xs++(ys++zs)):=by
  obtain ⟨_,_,_,_,h1,_⟩:=hu
  obtain ⟨_,_,_,_,h2,_⟩:=hv
  obtain ⟨_,_,_,_,h3,_⟩:=hx
  exact h1.byte.append (h2.byte.append h3.byte)
 have:=join_full w.heap.size 0 3 3 [u,v,x] [xs,ys,zs] (w.alloc (.cells [u,v,x].toArray 27)) (pin_new hs 3 rfl) (by omega) (by rw[e,hn];omega) (by omega)
 rw[e,hn] at this
 refine this.mono ?_
 have e2:(w.alloc (.cells [u,v,x].toArray 27)).heap.size=w.heap.size+1:=by simp
 rintro e w' ⟨rfl,ho,hb2⟩
 rw[e2] at ho hb2 ⊢
 have hb3:Below w.heap.size w w':=(below_alloc w _).trans (hb2.mono (by omega))
 obtain ⟨p,c,e3,hr,hc,hp,_⟩:=own_in ho hB
 simp only[Value.slice.injEq,true_and] at e3
 obtain ⟨rfl,rfl⟩:=e3
 exact⟨rfl,own_mono ho (by omega),hr,hc,hp,hb3⟩
abbrev HM:Array Value:=#[.int .u8 72,.int .u8 79,.int .u8 77,.int .u8 69]
def hm:List Int:=[72,79,77,69]
theorem hm_bytes:Bytes hm:=by intro x hx;simp[hm] at hx;omega
theorem dig1 (n:Int)(h0:0≤n)(h1:n<256):digits 1 n=[n]:=by simp[digits];omega
theorem div1 (n:Int)(h0:0≤n)(h1:n<256):n / 256 ^ 1=0:=Int.ediv_eq_zero_of_lt h0 (by rw[show (256:Int) ^ 1=256 by decide];omega)
theorem hbody_is (b:Int)(v:List Int):(hm++([1]++[b])++List.replicate (28-6) 0)++v=hbody b v:=by
 simp[hm,hbody,zs]
theorem hencode_good (b:Int)(v:List Int)(hb:inB b)(hv:v.length=32)(hvb:Bytes v)(w:World)(ht:Tab w) :
  Calls prog 44 #[.int .i64 b,.agg (U8 v).toArray] w fun e w'=>∃g,e=.returned (.tuple #[.slice (some ⟨g,0,none⟩) 64 64,.int .i64 0])∧Made w w' (some ⟨g,0,none⟩) 64 64 (homeS b v):=by
 obtain ⟨w0,hw0⟩:∃x,x=w.alloc (.cells (U8 v).toArray 39):=⟨_,rfl⟩
 have ew0:=hw0.symm
 have V0:Hid (VAt w0 w.heap.size v):=by rw[hw0];exact LAt.new 39 w (U8 v)
 have B0:Hid (Below w.heap.size w w0):=by rw[hw0];exact below_alloc w _
 have HT:Hid (Tab w):=ht
 have HV:Hid (v.length=32∧Bytes v):=⟨hv,hvb⟩
 have HB:Hid (inB b):=hb
 have hb0:=hb.1
 have hb1:=hb.2
 clear hw0 ht hv hvb
 go_enter func44,ntmps44
 go_wp2_with fail
 clear ew0
 refine (isBlock_any b 64 _).mono ?_
 rintro e w1 ⟨rfl,rfl⟩
 rw[decide_eq_true hb]
 clear hb
 have cv:=conv_const w0 HM 4 w0.heap.size rfl
 have C1:Hid (Below w0.heap.size w0 (w0.alloc (.cells HM 5 (4,5)))):=below_alloc w0 _
 have N1:Hid (BIn (w0.alloc (.cells HM 5 (4,5))) (some ⟨w0.heap.size,0,none⟩) 4 hm):=lit_mark w0 hm 4 (4,5) rfl hm_bytes
 go_wp2_with fail
 clear cv
 generalize w0.alloc (.cells HM 5 (4,5))=w1 at *
 refine (hput_any 1 1 w1 (by omega) (by omega) (by decide)).mono ?_
 rintro e w2 ⟨p2,c2,rfl,m2⟩
 have S2:Hid (SIn w2 (.slice p2 1 c2) [1]):=m2.sin
 have N2:Hid (SIn w2 (.slice (some ⟨w0.heap.size,0,none⟩) 4 4) hm):=⟨_,4,4,rfl,N1.out.later m2.below,Nat.le_refl _,fun e=>by cases e⟩
 have C2:Hid (Below w0.heap.size w0 w2):=below_then C1.out m2.below
 clear m2 N1 C1
 have ks:IntKind.u64.wrap b=b:=by rw[IntKind.wrap_u64];omega
 go_wp2_with fail
 refine (hput_any b 1 w2 hb0 (by omega) (div1 _ hb0 (by omega))).mono ?_
 rintro e w3 ⟨p3,c3,rfl,m3⟩
 have S3:Hid (SIn w3 (.slice p3 1 c3) [b]):=by have:=m3.sin;rw[dig1 b hb0 (by omega)] at this;exact this
 have T3:Hid (SIn w3 (.slice p2 1 c2) [1]):=S2.out.later m3.below
 have N3:Hid (SIn w3 (.slice (some ⟨w0.heap.size,0,none⟩) 4 4) hm):=N2.out.later m3.below
 have C3:Hid (Below w0.heap.size w0 w3):=below_then C2.out m3.below
 clear m3 S2 N2 C2
 go_wp2_with fail
 refine (join_three _ _ _ _ _ _ N3.out T3.out S3.out 6 (by simp[hm]) (by omega)).mono ?_
 rintro e w4 ⟨rfl,m4⟩
 have N4:Hid (BIn w4 (some ⟨w3.heap.size+1,0,none⟩) 6 (hm++([1]++[b]))):=m4.read
 have C4:Hid (Below w0.heap.size w0 w4):=below_then C3.out m4.below
 clear m4 S3 T3 N3 C3
 go_wp2_with fail
 refine (pad_full (some ⟨w3.heap.size+1,0,none⟩) 6 6 (hm++([1]++[b])) 28 w4 (by omega) (by omega) N4.out).mono ?_
 rintro e w5 ⟨rfl,g5,b5⟩
 have C5:Hid (Below w0.heap.size w0 w5):=below_then C4.out b5
 have S5:Hid (SIn w5 (.slice (some ⟨w4.heap.size,0,none⟩) 28 28) (hm++([1]++[b])++List.replicate (28-6) 0)):=by
  have hB:Bytes (hm++([1]++[b])++List.replicate (28-6) 0):=by
   refine (N4.out.byte).append (zs_bytes 22)
  refine⟨_,28,28,rfl,⟨by simp[hm],hB,fun _=>⟨_,0,rfl,fun i hi=>?_⟩⟩,Nat.le_refl _,fun e=>by cases e⟩
  rw[Nat.zero_add,g5.cell i]
  have:i<(hm++([1]++[b])++List.replicate (28-6) (0:Int)).length:=by simp[hm];omega
  simp only[U8,List.getElem?_map,List.getElem?_eq_getElem this,List.getD,Option.map_some,Option.getD_some]
 have V5:Hid (SIn w5 (.slice (some ⟨w.heap.size,0,none⟩) 32 32) v):=VAt.sin (LAt.later V0.out (below_then (Below.refl _ _) C5.out)) HV.out.1 HV.out.2
 clear g5 b5 C4 N4 V0
 go_wp2_with fail
 refine (join_two _ _ _ _ S5.out V5.out 60 (by rw[hbody_is,hbody_len b HV.out.1]) (by omega)).mono ?_
 rintro e w6 ⟨rfl,m6⟩
 rw[hbody_is] at m6
 have N6:Hid (SIn w6 (.slice (some ⟨w5.heap.size+1,0,none⟩) 60 60) (hbody b v)):=m6.sin
 have C6:Hid (Below w0.heap.size w0 w6):=below_then C5.out m6.below
 have HL:Hid ((hbody b v).length=60):=hbody_len b HV.out.1
 clear m6 S5 V5 C5
 go_wp2_with fail
 refine (of_new (some ⟨w5.heap.size+1,0,none⟩) 60 60 (hbody b v) N6.out (by rw[HL.out];omega) (HT.out.later (below_then B0.out C6.out)).half).mono ?_
 rintro e w7 ⟨rfl,b7⟩
 have N7:Hid (SIn w7 (.slice (some ⟨w5.heap.size+1,0,none⟩) 60 60) (hbody b v)):=N6.out.later b7
 have C7:Hid (Below w0.heap.size w0 w7):=below_then C6.out b7
 have hcl:=crc_lt (hbody b v) (hbody_bytes HB.out HV.out.2)
 have HE:Hid (homeS b v=hbody b v++digits 4 ((crc (hbody b v):Nat):Int)):=rfl
 have HEL:Hid ((homeS b v).length=64):=homeS_len b HV.out.1
 clear b7 N6 C6
 generalize crc (hbody b v)=S at *
 go_wp2_with fail
 refine (hput_any (S:Int) 4 w7 (by omega) (by omega) (div4 _ (by omega) (by omega))).mono ?_
 rintro e w8 ⟨p8,c8,rfl,m8⟩
 have N8:Hid (SIn w8 (.slice (some ⟨w5.heap.size+1,0,none⟩) 60 60) (hbody b v)):=N7.out.later m8.below
 have S8:Hid (SIn w8 (.slice p8 4 c8) (digits 4 (S:Int))):=m8.sin
 have C8:Hid (Below w.heap.size w w8):=below_then B0.out (below_then C7.out m8.below)
 clear m8 N7 C7
 go_wp2_with fail
 refine (join_two _ _ _ _ N8.out S8.out 64 (by rw[← HE.out];exact HEL.out) (by omega)).mono ?_
 rintro e w9 ⟨rfl,m9⟩
 rw[← HE.out] at m9
 have M9:Hid (Made w8 w9 (some ⟨w8.heap.size+1,0,none⟩) 64 64 (homeS b v)):=m9
 clear m9 N8 S8
 go_wp2_with fail
 go_ret2
 exact⟨w8.heap.size+1,rfl,own_mono M9.out.own C8.out.size,M9.out.read,M9.out.le,M9.out.nil,below_then C8.out M9.out.below⟩
theorem yields_neq_is {P:Program}{ops:Array Oper}{S:World→Prop}{o:Oper}{a:Act}(hw:Region.wanted o (yielded ops a.tmps)=true)(ty:TypeId){x y:Operand}{t2:TypeId}(ho:o.op=.binOp .neq ty x y t2){xs ys:Array Value}{v:Value}(hx:a.eval x=.agg xs)(hy:a.eval y=.agg ys)(hg:P.eqGuardType P.depth ty=false)(hrun:∀w,(binOp .neq ty (.agg xs) (.agg ys)).run P w=.ok v w):YieldsIf P ops S o v a :=
 .inl ⟨hw,fun w _=>by unfold execOp;simp only[ho,hx,hy,Sem.run_bind,run_eqGuard_agg w .neq ty x y xs ys hg,hrun w,Result.andThen_ok,Sem.run_pure]⟩
structure Ldn (w wr:World) (p q n cap:Nat) (v:Value) (D N:Nat→List Int):Prop where
 str:wr.heap[p]?=some (.cells #[.slice (some ⟨q,0,none⟩) n cap,v] 105 (0,0))
 pl:Pl wr q n cap D N
 wt:wr.ownsRow 0 114 65 v 0 []
 below:Below w.heap.size w wr
 hp:w.heap.size≤p
 hq:w.heap.size≤q
 hv:∀k,v.ownBlock=some k→w.heap.size≤k
theorem Ldn.later {w wr w':World}{p q n cap:Nat}{v:Value}{D N:Nat→List Int}(h:Ldn w wr p q n cap v D N)(hb:Below wr.heap.size wr w'):Ldn w w' p q n cap v D N :=
 ⟨(hb.block p (Blk.lt (t:=105) (sz:=2) ⟨_,h.str,rfl⟩)).trans h.str,h.pl.same (hb.block q h.pl.blk.lt),own_later h.wt hb,h.below.trans (hb.mono h.below.size),h.hp,h.hq,h.hv⟩
theorem Ldn.cell0 {w wr:World}{p q n cap:Nat}{v:Value}{D N:Nat→List Int}(h:Ldn w wr p q n cap v D N):wr.cell? ⟨p,0,none⟩=some (.slice (some ⟨q,0,none⟩) n cap):=by
 rw[cell_of_row _ _ _ _ 105 (0,0) h.str];rfl
theorem setCells_append (g:Nat):∀(vs us:List Value) (o:Nat) (w:World),w.setCells g o (vs++us)=(w.setCells g o vs).setCells g (o+vs.length) us
 | [],us,o,w=>rfl
 | v :: r,us,o,w=>by
  show (w.setCell ⟨g,o,none⟩ v).setCells g (o+1) (r++us)=_
  rw[setCells_append g r us (o+1) _,List.length_cons,show o+1+r.length=o+(r.length+1) by omega]
  rfl
theorem Ldn.set {w wr:World}{p q n cap k:Nat}{v:Value}{D N:Nat→List Int}(h:Ldn w wr p q n cap v D N)(b:List Int)(hb:b.length=64)(hk:k<n):Ldn w (wr.setCells q (k*128) (U8 b++U8 b)) p q n cap v (fun i=>if i=k then b else D i) (fun i=>if i=k then b else N i):=by
 have hpq:p≠q:=Blk.ne (t:=105) (sz:=2) ⟨_,h.str,rfl⟩ h.pl.blk (by decide)
 refine⟨(setCells_other hpq _ _ _).trans h.str,?_,own_same h.wt (fun k hk=>?_),below_setCells h.hq _ _ _ _ h.below,h.hp,h.hq,h.hv⟩
 ·rw[setCells_append,U8_length,hb]
  exact (h.pl.setD b hb hk).setN b hb hk
 ·obtain ⟨sz,hk'⟩:=own_ownBlk h.wt hk
  exact setCells_other (hk'.ne h.pl.blk (by decide)) _ _ _
def upk (xs:List Int)(k:Nat):Nat→List Int:=fun i=>if i<k then sec xs i else List.replicate 64 0
theorem upk_step (xs:List Int)(k:Nat):(fun i=>if i=k then sec xs k else upk xs k i)=upk xs (k+1):=by
 funext i
 simp only[upk]
 by_cases c:i=k
 ·subst c;simp
 ·by_cases c2:i<k
  ·simp[c,c2,show i<k+1 by omega]
  ·simp[c,c2,show ¬i<k+1 by omega]
theorem sec_range {w:World}{g o m n k:Nat}{xs:List Int}(h:BIn w (some ⟨g,o,none⟩) m xs)(hm:m=64*n)(hk:k<n):w.rangeAt g (o+k*64) (U8 (sec xs k)):=fun j v hv=>by
 have hj:j<64:=by have:=(List.getElem?_eq_some_iff.1 hv).1;rw[U8_length,sec_length (h.len.trans hm) hk] at this;exact this
 rw[Nat.add_assoc]
 refine h.range (k*64+j) v ?_
 rw[← hv]
 simp only[U8,List.getElem?_map,sec_get xs k j hj]
 rw[Nat.mul_comm]
theorem load_good (g o m c n:Nat)(xs:List Int)(w:World)(h:BIn w (some ⟨g,o,none⟩) m xs)(hm:m=64*n)(hmc:m≤c)(hn1:1≤n)(hn2:n≤4096) :
  Calls prog 8 #[.slice (some ⟨g,o,none⟩) m c] w fun e w'=>∃p,e=.returned (.tuple #[.pointer (some ⟨p,0,none⟩),.int .i64 0])∧Dsk w' (fun k=>w.heap.size≤k) p n xs []∧Below w.heap.size w w':=by
 have e1:((m:Int) % 64 != 0)=false:=by rw[show (m:Int) % 64=0 by omega];rfl
 have e2:(m:Int) / 64=(n:Int):=by omega
 have HX:Hid (BIn w (some ⟨g,o,none⟩) m xs):=h
 have HL:Hid (xs.length=64*n):=h.len.trans hm
 have HM:Hid (m=64*n):=hm
 clear h hm
 go_enter func8,ntmps8
 go_wp2_with fail
 clear e1 e2
 refine (new_good n w hn1 hn2).mono ?_
 rintro e w1 ⟨p,rfl,⟨q,cap,v,hd⟩,hb1⟩
 have h0:=hd.cell0
 have HD0:Hid (Ldn w w1 p q n cap v (upk xs 0) (upk xs 0)):=by
  refine⟨hd.str,hd.pl.congr (fun i hi=>?_) (fun i hi=>?_),hd.wt,hb1,hd.sp,hd.sq,hd.sv⟩
  ·rw[sec_zeros n i hi];rfl
  ·rw[newest_nil,sec_zeros n i hi];rfl
 clear hd
 go_wp2
 clear h0
 go_loopw [27] (fun i wr=>∃k:Nat,k≤n∧i=.int .i64 k∧Hid (Ldn w wr p q n cap v (upk xs k) (upk xs k))) (fun i _=>n-(intOf i).toNat)
 case atStart=>exact⟨0,by omega,rfl,HD0.out⟩
 case round =>
  obtain ⟨k,hkm,rfl,HR⟩:=hrel
  clear HD0
  by_cases hlt:k<n
  ·have hm:=HM.out
   have hmul:IntKind.i64.wrap ((k:Int)*64)=(k:Int)*64:=by rw[IntKind.wrap_i64];omega
   have l1:(k:Int)*64≤(m:Int):=by omega
   have l2:(m:Int)≤(c:Int):=by omega
   have l3:¬(c:Int)=(k:Int)*64:=by omega
   have l4:(0:Int)≤(k:Int)*64:=by omega
   have hr:wr.rangeAt g (o+k*64) (U8 (sec xs k)):=sec_range (HX.out.later HR.out.below) hm hlt
   have HLk:Hid ((sec xs k).length=64):=sec_length HL.out hlt
   have hat:∀(w:World) (a:Option Addr) (l c:Nat),64≤l→(Instr.arrayAt 107 (.slice a l c)).run prog w=.ok (.pointer a) w:=fun w a l c hl=>run_arrayAt w 107 _ 64 _ l c underlying107 hl
   have hat2:=fun w c=>hat w (some ⟨g,o+k*64,none⟩) (m-k*64) c (by omega)
   have HRb:Hid (Bytes (sec xs k)):=HX.out.byte.sec k
   have HU:Hid (Ldn w ((wr.alloc (.cells (U8 (sec xs k)).toArray 107)).setCells q (k*128) (U8 (sec xs k)++U8 (sec xs k))) p q n cap v (upk xs (k+1)) (upk xs (k+1))):=by
    have:=(HR.out.later (below_alloc wr (.cells (U8 (sec xs k)).toArray 107))).set (sec xs k) HLk.out hlt
    rw[upk_step] at this
    exact this
   have hD:=HR.out.later (below_alloc wr (.cells (U8 (sec xs k)).toArray 107))
   have t0:=hD.cell0
   have t1:(wr.alloc (.cells (U8 (sec xs k)).toArray 107)).rangeAt wr.heap.size 0 (U8 (sec xs k)):=new_range wr _ 107
   have t2:(wr.alloc (.cells (U8 (sec xs k)).toArray 107)).there q (k*128) 128:=hD.pl.blk.there _ _ (by have:=hD.pl.ncap;omega)
   have HNE:Hid (p≠q∧wr.heap.size≠q):=⟨Blk.ne (t:=105) (sz:=2) ⟨_,hD.str,rfl⟩ hD.pl.blk (by decide),by have:=HR.out.pl.blk.lt;omega⟩
   clear hat hm HR hD
   generalize sec xs k=b at *
   go_wp2_with (first | (refine wpList_load_mid (by rfl) 107 (.tmp 34) (by rfl) g (o+k*64) (by rfl) (U8 b) _ hr underlying107 rfl (by rw[size69,U8_length,HLk.out]) ?_) | (refine wpList_alloc69 (by rfl) (by rfl) ?_) | (refine wpList_store69 (by rfl) (.tmp 7) (.tmp 35) (by rfl) b (by rfl) (by rfl) HLk.out ?_) | fail)
   simp only[Act.put,zA,zB,zC]
   obtain ⟨W,hW⟩:∃W,wr.alloc (.cells (U8 b).toArray 107)=W:=⟨_,rfl⟩
   rw[hW] at t0 t1 t2 HU ⊢
   clear hW hr hat2 hmul l1 l2 l3 l4
   have i1:(k:Int)<(n:Int):=by omega
   have i0:(0:Int)≤(k:Int):=by omega
   have k0:(W.drew.setCells q (k*128) (U8 b++U8 b)).cell? ⟨p,0,none⟩=some (.slice (some ⟨q,0,none⟩) n cap):=by
    rw[World.cell?_setCells_out _ _ _ _ _ (fun e=>absurd e HNE.out.1)];exact t0
   have k1:(W.drew.setCells q (k*128) (U8 b++U8 b)).rangeAt wr.heap.size 0 (U8 b):=World.rangeAt_setCells_apart (w:=W.drew) t1 _ _ _ (Or.inl HNE.out.2)
   have k2:(W.drew.setCells q (k*128) (U8 b++U8 b)).there q (k*128) 128:=World.there_setCells (w:=W.drew) t2 _ _ _
   refine wp_region_noPanic ?_
   refine wp_region_held_drew (S:=(fun w'=>w'.cell? ⟨p,0,none⟩=some (.slice (some ⟨q,0,none⟩) n cap)∧w'.rangeAt wr.heap.size 0 (U8 b)∧w'.there q (k*128) 128)) (by kernel_rfl) ⟨t0,t1,t2⟩ (fun hHeld=>?_)
   refine wpAnyH_take (i:=0) (v:=?v0) (by simp;rfl) (by kernel_rfl) (by kernel_rfl) (by kernel_rfl) (fun _ _ _ h=>h) (Or.inl ⟨by rfl,?y0⟩) hHeld ?r0
   case y0=>intro w hSw;obtain ⟨hSw,-,-⟩:=hSw;go_simp;with_reducible rfl
   simp only[Act.put,zA,zB,zC]
   refine wpAnyH_take (i:=1) (v:=?v1) (by simp;rfl) (by kernel_rfl) (by kernel_rfl) (by kernel_rfl) (fun _ _ _ h=>h) (Or.inl ⟨by rfl,?y1⟩) hHeld ?r1
   case y1=>intro w hSw;obtain ⟨hSw,-,-⟩:=hSw;go_simp;with_reducible rfl
   simp only[Act.put,zA,zB,zC]
   refine wpAnyH_take (i:=2) (v:=?v2) (by simp;rfl) (by kernel_rfl) (by kernel_rfl) (by kernel_rfl) (fun _ _ _ h=>h) (Or.inl ⟨by rfl,?y2⟩) hHeld ?r2
   case y2=>intro w hSw;obtain ⟨hSw,-,-⟩:=hSw;go_simp;with_reducible rfl
   simp only[Act.put,zA,zB,zC]
   refine wpAnyH_take (i:=3) (v:=?v3) (by simp;rfl) (by kernel_rfl) (by kernel_rfl) (by kernel_rfl) (fun _ _ _ h=>h) (Or.inl ⟨by rfl,?y3⟩) hHeld ?r3
   case y3=>intro w hSw;obtain ⟨hSw,-,-⟩:=hSw;go_simp;with_reducible rfl
   simp only[Act.put,zA,zB,zC]
   refine wpAnyH_take (i:=4) (v:=?v4) (by simp;rfl) (by kernel_rfl) (by kernel_rfl) (by kernel_rfl) (fun _ _ _ h=>h) (Or.inl ⟨by rfl,?y4⟩) hHeld ?r4
   case y4=>intro w hSw;obtain ⟨hSw,-,-⟩:=hSw;go_simp;with_reducible rfl
   simp only[Act.put,zA,zB,zC]
   refine wpAnyH_take (i:=5) (v:=_) (by simp;rfl) (by kernel_rfl) (by kernel_rfl) (by kernel_rfl) (fun _ _ _ h=>h) (yieldsIf_load_mid (by rfl) 107 (.tmp 7) rfl wr.heap.size 0 rfl (U8 b) _ (fun _ h=>h.2.1) underlying107 rfl (by rw[size69,U8_length,HLk.out])) hHeld ?_
   simp only[Act.put,zA,zB,zC]
   refine wpAnyH_take (i:=6) (v:=_) (by simp;rfl) (by kernel_rfl) (by kernel_rfl) (by kernel_rfl) (fun _ _ _ h=>h) (yieldsIf_load_mid (by rfl) 107 (.tmp 7) rfl wr.heap.size 0 rfl (U8 b) _ (fun _ h=>h.2.1) underlying107 rfl (by rw[size69,U8_length,HLk.out])) hHeld ?_
   simp only[Act.put,zA,zB,zC]
   refine wpAnyH_take (i:=7) (v:=_) (by simp;rfl) (by kernel_rfl) (by kernel_rfl) (by kernel_rfl) (fun _ _ _ h=>h) (yields_build71 (by rfl) (.tmp 41) (.tmp 42) rfl b b rfl rfl HLk.out HLk.out) hHeld ?_
   simp only[Act.put,zA,zB,zC]
   refine tk 8 hHeld ?_
   refine wpAnyH_ready (rs:=[9]) (by kernel_rfl) (by simp) ?_
   refine AllReadyH.cons (by simp;rfl) (fun K hK=>?_) AllReadyH.nil
   rw[if_pos (by rfl)]
   refine wp_store_mid 109 (.tmp 44) (.tmp 43) rfl q (k*128) (U8 b++U8 b).toArray rfl rfl (by rw[List.size_toArray,List.length_append,U8_length,HLk.out];exact t2) (by rw[size71,List.size_toArray,List.length_append,U8_length,HLk.out]) (all_oneCell_toArray (fun u hu=>(List.mem_append.1 hu).elim (ones_u8 b u) (ones_u8 b u))) ?_
   rw[List.toList_toArray]
   refine hK.out _ _ ⟨k0,k1,k2⟩ (fun hHeld=>?_)
   clear hK K
   refine wpAnyH_done (by kernel_rfl) (NoPanic.normal ?_) _
   simp only[Act.put]
   rw[setCells_drew]
   clear k0 k1 k2 t0 t1 t2
   go_wp2
   go_roundw
   case rel=>exact⟨k+1,by omega,by go_num,HU.out.later ⟨rfl,rfl,rfl,Nat.le_refl _,fun _ _=>rfl⟩⟩
   case measure=>simp[intOf];omega
  ·obtain rfl:k=n:=by omega
   have HF:Hid (Dsk wr (fun k=>w.heap.size≤k) p k xs []∧Below w.heap.size w wr):=by
    refine⟨⟨q,cap,v,HR.out.str,HR.out.pl.congr (fun i hi=>?_) (fun i hi=>?_),HR.out.wt,HR.out.hp,HR.out.hq,HR.out.hv,hn1,hn2,HL.out,HX.out.byte,Fit.nil _⟩,HR.out.below⟩
    ·simp[upk,hi]
    ·simp[upk,hi,newest_nil]
   clear HR
   go_wp2
   go_ret2
   exact⟨_,rfl,HF.out.1,HF.out.2⟩
theorem hrefuses_nil (s:Sup)(w:World) :
  Calls prog 89 #[.pointer none,.agg (ccells s).toArray] w fun e w'=>e=.returned (.int .i64 1)∧Below w.heap.size w w':=by
 have HB:Hid (Below w.heap.size w (w.alloc (.cells (ccells s).toArray 23))):=below_alloc w _
 go_enter func89,ntmps89
 go_wp2
 go_ret
 exact⟨rfl,HB.out⟩
theorem hrefuses_any (s:Sup){w:World}{S:Nat→Prop}{p n:Nat}{d:List Int}{ws:List Wr}(h:Dsk w S p n d ws) :
  Calls prog 89 #[.pointer (some ⟨p,0,none⟩),.agg (ccells s).toArray] w fun e w'=>e=.returned (.int .i64 (rfS s n))∧Below w.heap.size w w':=by
 have L1:Hid (_):=CAt.load23 (LAt.new 23 w (ccells s))
 have HA:Hid (CAt (w.alloc (.cells (ccells s).toArray 23)) w.heap.size s):=LAt.new 23 w (ccells s)
 have HB:Hid (Below w.heap.size w (w.alloc (.cells (ccells s).toArray 23))):=below_alloc w _
 have HD:Hid (Dsk w S p n d ws):=h
 clear h
 go_enter func89,ntmps89
 go_wp2_with ((with_reducible refine at_ops ?_);(refine wpList_load_is (by rfl) 23 rfl rfl L1.out ?_);simp only[Act.put,zA,zB,zC])
 refine (config_any s _).mono ?_
 rintro e w1 ⟨rfl,b1⟩
 have HA1:Hid (CAt w1 w.heap.size s):=LAt.later HA.out b1
 have HB1:Hid (Below w.heap.size w w1):=below_then HB.out b1
 have HD1:Hid (Dsk w1 S p n d ws):=HD.out.later HB1.out
 clear b1 HA HB L1 HD
 by_cases hc:MayC s
 ·rw[cfg_yes s hc]
  have HC:Hid (MayC s):=hc
  obtain ⟨⟨a1,a2⟩,⟨a3,a4⟩,-⟩:=hc
  obtain ⟨bl,hbl⟩:∃x,x=s.bl:=⟨_,rfl⟩
  obtain ⟨lc,hlc⟩:∃x,x=s.lc:=⟨_,rfl⟩
  have k1:IntKind.i64.wrap (1+bl)=1+bl:=by rw[IntKind.wrap_i64];omega
  have k2:IntKind.i64.wrap (1+bl+lc)=1+bl+lc:=by rw[IntKind.wrap_i64];omega
  have HE:Hid (((n:Int)=1+bl+lc→rfS s n=0)∧(¬(n:Int)=1+bl+lc→rfS s n=40)):=by rw[hbl,hlc];exact⟨fun h=>rfS_ok HC.out h,fun h=>rfS_len HC.out h⟩
  have HC0:Hid (∀w',CAt w' w.heap.size s→w'.cell? ⟨w.heap.size,0,none⟩=some (.int .i64 bl)∧w'.cell? ⟨w.heap.size,1,none⟩=some (.int .i64 lc)):=by rw[hbl,hlc];exact fun w' h=>⟨CAt.c0 h,CAt.c1 h⟩
  clear hbl hlc a1 a2 a3 a4
  go_wp2_with fail
  refine wp_region_noPanic ?_
  refine wp_region_held_drew (S:=fun w'=>Below w1.heap.size w1 w') (by kernel_rfl) (below_drawn 1) (fun hHeld=>?_)
  have D1:Hid (Below w1.heap.size w1 w1.drew):=hHeld
  generalize w1.drew=wd at *
  refine tk 0 hHeld ?_
  refine tk 2 hHeld ?_
  refine tkl 3 hHeld (fun _ hSw=>(HC0.out _ (LAt.later HA1.out hSw)).1) ?_
  refine tk 4 hHeld ?_
  refine tk 5 hHeld ?_
  refine tkl 6 hHeld (fun _ hSw=>(HC0.out _ (LAt.later HA1.out hSw)).2) ?_
  refine tk 7 hHeld ?_
  refine wpAnyH_ready (rs:=[1]) (by kernel_rfl) (by simp) ?_
  refine AllReadyH.cons (by simp;rfl) (fun Kc hKc=>?_) AllReadyH.nil
  go_simp
  refine (len_any (HD1.out.later D1.out)).mono ?_
  rintro e wn ⟨rfl,rfl⟩
  refine hKc.out _ _ D1.out (fun hHeld=>?_)
  clear hKc Kc
  refine tk 8 hHeld ?_
  have HB2:Hid (Below w.heap.size w wd):=below_then HB1.out D1.out
  clear hHeld D1 HD1 HC0
  refine wpAnyH_done (by kernel_rfl) (NoPanic.normal ?_) _
  by_cases he:(n:Int)=1+bl+lc
  ·have hq:((n:Int) != 1+bl+lc)=false:=by rw[he];simp
   have HR:Hid (_):=HE.out.1 he
   clear he HE
   go_wp2_with fail
   go_ret
   exact⟨by rw[HR.out];rfl,HB2.out⟩
  ·have hq:((n:Int) != 1+bl+lc)=true:=by simp[he]
   have HR:Hid (_):=HE.out.2 he
   clear he HE
   go_wp2_with fail
   go_ret
   exact⟨by rw[HR.out];rfl,HB2.out⟩
 ·rw[cfg_no s hc]
  have HR:Hid (rfS s n=3):=rfS_no _ hc
  clear hc
  go_wp2_with fail
  go_ret
  exact⟨by rw[HR.out];rfl,HB1.out⟩
theorem hrefB_nil (s:Sup)(b:Int)(w:World) :
  Calls prog 103 #[.pointer none,.agg (ccells s).toArray,.int .i64 b] w fun e w'=>e=.returned (.int .i64 1)∧Below w.heap.size w w':=by
 have L1:Hid (_):=CAt.load23 (LAt.new 23 w (ccells s))
 have HB:Hid (Below w.heap.size w (w.alloc (.cells (ccells s).toArray 23))):=below_alloc w _
 go_enter func103,ntmps103
 go_wp2_with ((with_reducible refine at_ops ?_);(refine wpList_load_is (by rfl) 23 rfl rfl L1.out ?_);simp only[Act.put,zA,zB,zC])
 refine (hrefuses_nil s _).mono ?_
 rintro e w1 ⟨rfl,b1⟩
 have HB1:Hid (Below w.heap.size w w1):=below_then HB.out b1
 clear b1 HB L1
 go_wp2_with fail
 go_ret
 exact⟨rfl,HB1.out⟩
theorem hrefB_any (s:Sup)(b:Int){w:World}{S:Nat→Prop}{p n:Nat}{d:List Int}{ws:List Wr}(h:Dsk w S p n d ws) :
  Calls prog 103 #[.pointer (some ⟨p,0,none⟩),.agg (ccells s).toArray,.int .i64 b] w fun e w'=>e=.returned (.int .i64 (rbS s n b))∧Below w.heap.size w w':=by
 have L1:Hid (_):=CAt.load23 (LAt.new 23 w (ccells s))
 have HA:Hid (CAt (w.alloc (.cells (ccells s).toArray 23)) w.heap.size s):=LAt.new 23 w (ccells s)
 have HB:Hid (Below w.heap.size w (w.alloc (.cells (ccells s).toArray 23))):=below_alloc w _
 have HD:Hid (Dsk (w.alloc (.cells (ccells s).toArray 23)) S p n d ws):=h.later HB.out
 clear h
 go_enter func103,ntmps103
 go_wp2_with ((with_reducible refine at_ops ?_);(refine wpList_load_is (by rfl) 23 rfl rfl L1.out ?_);simp only[Act.put,zA,zB,zC])
 refine (hrefuses_any s HD.out).mono ?_
 rintro e w1 ⟨rfl,b1⟩
 have HA1:Hid (CAt w1 w.heap.size s):=LAt.later HA.out b1
 have HB1:Hid (Below w.heap.size w w1):=below_then HB.out b1
 have c0:=CAt.c0 HA1.out
 clear b1 HA HB L1 HD HA1
 by_cases hr:rfS s n=0
 ·rw[hr]
  go_wp2_with fail
  refine (isBlock_any b s.bl _).mono ?_
  rintro e w2 ⟨rfl,rfl⟩
  by_cases hb:0≤b∧b<s.bl
  ·have HR:Hid (rbS s n b=0):=rbS_ok hr hb
   rw[decide_eq_true hb]
   clear hb hr
   go_wp2_with fail
   go_ret
   exact⟨by rw[HR.out];rfl,HB1.out⟩
  ·have HR:Hid (rbS s n b=51):=rbS_out hr hb
   rw[decide_eq_false hb]
   clear hb hr
   go_wp2_with fail
   go_ret
   exact⟨by rw[HR.out];rfl,HB1.out⟩
 ·have HR:Hid (rbS s n b=rfS s n):=rbS_no b hr
  generalize rfS s n=q at *
  have hq:(q != 0)=true:=by simp[hr]
  go_wp2_with fail
  go_ret
  exact⟨by rw[HR.out];rfl,HB1.out⟩
theorem hsave_nil (s:Sup)(b:Int)(v:List Int)(w:World) :
  Calls prog 73 #[.pointer none,.agg (ccells s).toArray,.int .i64 b,.agg (U8 v).toArray] w fun e w'=>e=.returned (.int .i64 1)∧Below w.heap.size w w':=by
 obtain ⟨w0,hw0⟩:∃x,x=(w.alloc (.cells (ccells s).toArray 23)).alloc (.cells (U8 v).toArray 39):=⟨_,rfl⟩
 have ew:=hw0.symm
 have B0:Hid (Below w.heap.size w w0):=by rw[hw0];exact below_then (below_alloc w _) (below_alloc _ _)
 have C0:Hid (CAt w0 w.heap.size s):=by rw[hw0];exact LAt.later (LAt.new 23 w (ccells s)) (below_alloc _ _)
 have L1:Hid (_):=CAt.load23 C0.out
 clear hw0
 go_enter func73,ntmps73
 go_wp2_with ((with_reducible refine at_ops ?_);(refine wpList_load_is (by rfl) 23 rfl rfl L1.out ?_);simp only[Act.put,zA,zB,zC])
 refine (hrefB_nil s b _).mono ?_
 rintro e w1 ⟨rfl,b1⟩
 have HB1:Hid (Below w.heap.size w w1):=below_then B0.out b1
 clear b1 B0 L1 C0 ew
 go_wp2_with fail
 go_ret
 exact⟨rfl,HB1.out⟩
theorem hsave_any (s:Sup)(b:Int)(v:List Int)(hv:v.length=32)(hvb:Bytes v){w:World}{S:Nat→Prop}{p n:Nat}{d:List Int}{ws:List Wr}(h:Dsk w S p n d ws)(hk:ws.length≤100000)(ht:Tab w) :
  Calls prog 73 #[.pointer (some ⟨p,0,none⟩),.agg (ccells s).toArray,.int .i64 b,.agg (U8 v).toArray] w fun e w'=>e=.returned (.int .i64 (rbS s n b))∧Dsk w' (More S w) p n d (svW s n ws b v)∧Kept S w w':=by
 obtain ⟨w0,hw0⟩:∃x,x=(w.alloc (.cells (ccells s).toArray 23)).alloc (.cells (U8 v).toArray 39):=⟨_,rfl⟩
 have ew:=hw0.symm
 have B0:Hid (Below w.heap.size w w0):=by rw[hw0];exact below_then (below_alloc w _) (below_alloc _ _)
 have C0:Hid (CAt w0 w.heap.size s):=by rw[hw0];exact LAt.later (LAt.new 23 w (ccells s)) (below_alloc _ _)
 have V0:Hid (VAt w0 (w.heap.size+1) v):=by
  have:=LAt.new 39 (w.alloc (.cells (ccells s).toArray 23)) (U8 v)
  rw[show (w.alloc (.cells (ccells s).toArray 23)).heap.size=w.heap.size+1 by simp] at this
  rw[hw0]
  exact this
 have D0:Hid (Dsk w0 S p n d ws):=h.later B0.out
 have L1:Hid (_):=CAt.load23 C0.out
 have HT:Hid (Tab w):=ht
 have HV:Hid (v.length=32∧Bytes v):=⟨hv,hvb⟩
 have HK:Hid (ws.length≤100000):=hk
 clear hw0 h ht hv hvb hk
 go_enter func73,ntmps73
 go_wp2_with ((with_reducible refine at_ops ?_);(refine wpList_load_is (by rfl) 23 rfl rfl L1.out ?_);simp only[Act.put,zA,zB,zC])
 clear ew
 refine (hrefB_any s b D0.out).mono ?_
 rintro e w1 ⟨rfl,b1⟩
 have B1:Hid (Below w.heap.size w w1):=below_then B0.out b1
 have V1:Hid (VAt w1 (w.heap.size+1) v):=LAt.later V0.out b1
 have D1:Hid (Dsk w1 S p n d ws):=D0.out.later b1
 have L2:Hid (_):=VAt.load V1.out HV.out.1
 clear b1 B0 L1 C0 V0 D0 V1
 by_cases hr:rbS s n b=0
 ·obtain ⟨hb,h0,h1⟩:=rbS_in hr
  have HR:Hid (svW s n ws b v=ws++[⟨(1+b).toNat,homeS b v⟩]):=svW_yes ws v hr
  have HRZ:Hid (rbS s n b=0):=hr
  have hb0:=hb.1
  have hb1:=hb.2
  have H1:Hid (1+b<(n:Int)):=h1
  rw[hr]
  clear hr h0 h1
  go_wp2_with ((with_reducible refine at_ops ?_);(refine wpList_load_is (by rfl) 39 rfl rfl L2.out ?_);simp only[Act.put,zA,zB,zC])
  refine (hencode_good b v hb HV.out.1 HV.out.2 w1 (HT.out.later B1.out)).mono ?_
  rintro e w2 ⟨g2,rfl,m2⟩
  have B2:Hid (Below w.heap.size w w2):=below_then B1.out m2.below
  have D2:Hid (Dsk w2 S p n d ws):=D1.out.later m2.below
  have X2:Hid (BIn w2 (some ⟨g2,0,none⟩) 64 (homeS b v)):=m2.read
  clear m2 B1 D1 L2 hb
  go_wp2_with fail
  refine (write_at D2.out (1+b) (by omega) H1.out _ 64 _ X2.out HK.out).mono ?_
  rintro e w3 ⟨rfl,d3,k3⟩
  have F3:Hid (Dsk w3 (More S w) p n d (ws++[⟨(1+b).toNat,homeS b v⟩])∧Kept S w w3):=by
   refine⟨d3.mono (fun k _ hs=>?_),(Kept.of_below B2.out).trans k3 (fun _ _ t=>t)⟩
   rcases hs with hs | hs
   ·exact .inl hs
   ·exact .inr (Nat.le_trans B2.out.size hs)
  clear d3 k3 D2 X2 B2
  go_wp2_with fail
  go_ret
  exact⟨by rw[HRZ.out];rfl,by rw[HR.out];exact F3.out.1,F3.out.2⟩
 ·have HR:Hid (svW s n ws b v=ws):=svW_no ws v hr
  have F1:Hid (Dsk w1 (More S w) p n d ws∧Kept S w w1):=⟨D1.out.mono (fun k _ hs=>.inl hs),Kept.of_below B1.out⟩
  obtain ⟨q,hq0⟩:∃q,q=rbS s n b:=⟨_,rfl⟩
  have HQ:Hid (q=rbS s n b):=hq0
  rw[← hq0] at hr ⊢
  have hq:(q != 0)=true:=by simp[hr]
  clear L2 hq0
  go_wp2_with fail
  go_ret
  exact⟨by rw[← HQ.out];rfl,by rw[HR.out];exact F1.out.1,F1.out.2⟩
theorem low8_any (n:Int)(k:Nat)(w:World)(h0:0≤n)(h1:n≤18446744073709551615)(hk:k≤8) :
  Calls prog 101 #[.int .u64 n,.int .i64 k] w fun e w'=>∃v,e=.returned v∧w'.ownsRow w.heap.size 5 1 v k (U8 (digits k n))∧Below w.heap.size w w':=by
 obtain ⟨i0,hi,hz0,hz1,hz2⟩:=info_parts info5
 have HL:Hid ((digits k n).length=k):=digits_length k n
 go_enter func101,ntmps101
 go_wp2
 go_loopw [0,5,6] (fun q v i wr=>∃j:Nat,j≤k∧i=.int .i64 j∧q=.int .u64 (n / 256 ^ j)∧wr.ownsRow w.heap.size 5 1 v j (U8 ((digits k n).take j))∧Below w.heap.size w wr) (fun _ _ i _=>k-(intOf i).toNat)
 case atStart=>exact⟨0,Nat.zero_le _,rfl,by simp,World.ownsRow_nil _ _ _ _,Below.refl _ _⟩
 case round =>
  obtain ⟨j,hj,rfl,rfl,hown,hb⟩:=hrel
  have hbd:=div_bd n j h0
  by_cases hlt:j<k
  ·have hjl:j<(digits k n).length:=by rw[HL.out];exact hlt
   have hg:=digits_get k n j hjl
   have hst:=div_step n j
   obtain ⟨q,hq⟩:∃q,q=n / 256 ^ j:=⟨_,rfl⟩
   rw[← hq] at hbd hg hst ⊢
   have HS:Hid (q / 256=n / 256 ^ (j+1)):=hst
   have HG:Hid ((digits k n)[j]=q % 256):=hg
   have HO:Hid (wr.ownsRow w.heap.size 5 1 u5 j (U8 ((digits k n).take j))):=hown
   have HB:Hid (Below w.heap.size w wr):=hb
   clear hq hst hg hown hb
   have hq1:q≤18446744073709551615:=by omega
   have hq0:=hbd.1
   have t1:q.tmod 256=q % 256:=Int.tmod_eq_emod_of_nonneg hq0
   have t2:q.tdiv 256=q / 256:=Int.tdiv_eq_ediv_of_nonneg hq0
   go_wp2_with (at_builtin;refine wpList_append_own _ rfl (.tmp 12) (.tmp 16) 27 rfl w.heap.size 5 i0 (.int .u8 0) 1 1 underlying27 hi hz0 hz1 hz2 rfl (by decide) u5 j (U8 ((digits k n).take j)) rfl (HO.out.alloc _) ⟨wr.heap.size,0,none⟩ 1 1 [.int .u8 (q % 256)] rfl rfl (cell_one_new _ _ _) (by intro u hu;obtain rfl:=List.mem_singleton.1 hu;rfl) (by unfold maxLen;omega) (by omega) (by have:=HB.out.size;simp;omega) ?_)
   intro v' w1 hown1 hgrow1 _
   have R1:w1.ownsRow w.heap.size 5 1 v' (j+1) (U8 ((digits k n).take (j+1))):=by
    rw[List.take_succ_eq_append_getElem hjl,HG.out]
    simpa [U8] using hown1
   have R2:Below w.heap.size w w1:=(HB.out.alloc HB.out.size _).grown hgrow1 (by have:=HB.out.size;simp;omega) (fun g hg=>(HO.out.lt g hg).1)
   have HR1:Hid (w1.ownsRow w.heap.size 5 1 v' (j+1) (U8 ((digits k n).take (j+1)))):=R1
   have HR2:Hid (Below w.heap.size w w1):=R2
   clear hown1 hgrow1 R1 R2 HO HB
   go_wp2
   go_roundw
   case rel=>exact⟨j+1,by omega,by go_num,by rw[HS.out],HR1.out,HR2.out⟩
   case measure=>simp[intOf];omega
  ·obtain rfl:k=j:=by omega
   rw[List.take_of_length_le (by rw[HL.out];exact Nat.le_refl _)] at hown
   have HO:Hid (wr.ownsRow w.heap.size 5 1 u5 k (U8 (digits k n))):=hown
   have HB:Hid (Below w.heap.size w wr):=hb
   clear hown hb
   go_wp2
   go_ret
   exact⟨u5,rfl,HO.out,HB.out⟩
theorem box_kept {w w':World}{t:TypeId}{g:Nat}{cs:List Value}{base n:Nat}{v:Value}{xs:List Value}(hb:LAt t w g cs)(ho:w.ownsRow base 5 1 v n xs)(hg:w.grownBy w' v.ownBlock)(ht:t≠5):LAt t w' g cs:=by
 refine (hg.block g hb.lt (fun e=>?_)).trans hb
 rcases ho.2 with ⟨rfl,_⟩ | ⟨g',cap,cur,rfl,_,h2,_⟩
 ·simp[Value.ownBlock] at e
 ·simp only[Value.ownBlock,Option.some.injEq] at e
  subst e
  unfold LAt at hb
  rw[hb] at h2
  simp only[Option.some.injEq,Obj.cells.injEq] at h2
  exact ht h2.2.1
theorem build_new (w:World)(s:Sup):(Instr.build 121 #[(0,.agg (ccells s).toArray),(1,.int .u64 0),(2,.int .u64 1)]).run prog w=.ok (.agg (scells (sup1 s)).toArray) w :=
 build29 w _ (sup1 s) (fill_all (sup1 s))
theorem hnew_good (s:Sup)(hc:MayC s)(w:World)(ht:Tab w) :
  Calls prog 16 #[.agg (ccells s).toArray] w fun e w'=>∃p,e=.returned (.tuple #[.pointer (some ⟨p,0,none⟩),.int .i64 0])∧Dsk w' (fun k=>w.heap.size≤k) p (cntS s) (newS s) []∧Below w.heap.size w w':=by
 obtain ⟨i0,hi,hz0,hz1,hz2⟩:=info_parts info5
 have L1:Hid (_):=CAt.load23 (LAt.new 23 w (ccells s))
 have HA:Hid (CAt (w.alloc (.cells (ccells s).toArray 23)) w.heap.size s):=LAt.new 23 w (ccells s)
 have HB:Hid (Below w.heap.size w (w.alloc (.cells (ccells s).toArray 23))):=below_alloc w _
 have U1:Hid (_):=build_new (w.alloc (.cells (ccells s).toArray 23)) s
 have HC:Hid (MayC s):=hc
 have HT:Hid (Tab w):=ht
 obtain ⟨m,hm⟩:∃m,m=s.bl.toNat:=⟨_,rfl⟩
 obtain ⟨l,hl⟩:∃l,l=s.lc.toNat:=⟨_,rfl⟩
 have hb1:=hc.1
 have hl1:=hc.2.1
 have hmi:s.bl=(m:Int):=by omega
 have hli:s.lc=(l:Int):=by omega
 have hm1:1≤m:=by omega
 have hm2:m≤64:=by omega
 have hl0:2≤l:=by omega
 have hl2:l≤64:=by omega
 obtain ⟨K,hK⟩:∃K,K=64*l:=⟨_,rfl⟩
 have HN:Hid (newS s=encS (sup1 s)++homes m++zs K∧64*(m+1)+K=64*cntS s∧cntS s≤4096):=by
  refine⟨by unfold newS;rw[hK,hl,hm],?_,?_⟩
  ·unfold cntS;omega
  ·have:=(cntS_bd hc).2;omega
 have hk3:(l:Int)*64=(K:Int):=by omega
 have hk1:0<K:=by omega
 have hk2:K≤4096:=by omega
 have HCI:Hid (∀w',CAt w' w.heap.size s→w'.cell? ⟨w.heap.size,0,none⟩=some (.int .i64 (m:Int))∧w'.cell? ⟨w.heap.size,1,none⟩=some (.int .i64 (l:Int))):=by
  rw[← hmi,← hli];exact fun w' h=>⟨CAt.c0 h,CAt.c1 h⟩
 clear hc ht hm hl hb1 hl1 hmi hli hK
 go_enter func16,ntmps16
 go_wp2_with ((with_reducible refine at_ops ?_);(first | (refine wpList_load_is (by rfl) 23 rfl rfl L1.out ?_) | (refine wpList_build_is (vs:=[(0,.agg (ccells s).toArray),(1,.int .u64 0),(2,.int .u64 1)]) (by rfl) 121 rfl (by rfl) U1.out ?_));simp only[Act.put,zA,zB,zC])
 refine (encode_good (sup1 s) (sup1_wf HC.out) (sup1_may HC.out) _ (HT.out.later HB.out)).mono ?_
 rintro e w1 ⟨g1,rfl,m1⟩
 have A1:Hid (CAt w1 w.heap.size s):=LAt.later HA.out m1.below
 have B1:Hid (Below w.heap.size w w1):=below_then HB.out m1.below
 have O1:Hid (w1.ownsRow w.heap.size 5 1 (.slice (some ⟨g1,0,none⟩) 64 64) 64 (U8 (encS (sup1 s)))):=own_mono m1.own HB.out.size
 clear m1 HA HB L1 U1
 have c0:=(HCI.out _ A1.out).1
 go_wp2_with fail
 clear c0
 go_loopw [4,20] (fun v i wr=>∃k:Nat,k≤m∧i=.int .i64 k∧Hid (CAt wr w.heap.size s∧wr.ownsRow w.heap.size 5 1 v (64*(k+1)) (U8 (encS (sup1 s)++homes k))∧Below w.heap.size w wr)) (fun _ i _=>m-(intOf i).toNat)
 case atStart=>exact⟨0,Nat.zero_le _,rfl,A1.out,by simpa [homes] using O1.out,B1.out⟩
 case round =>
  obtain ⟨k,hk,rfl,HI⟩:=hrel
  clear A1 B1 O1
  have Ar:Hid (CAt wr w.heap.size s):=HI.out.1
  have Or:Hid (wr.ownsRow w.heap.size 5 1 u4 (64*(k+1)) (U8 (encS (sup1 s)++homes k))):=HI.out.2.1
  have Br:Hid (Below w.heap.size w wr):=HI.out.2.2
  clear HI
  by_cases hlt:k<m
  ·have U2:Hid (_):=buildV wr
   go_wp2_with ((with_reducible refine at_ops ?_);(refine wpList_build_is (vs:=[]) (by rfl) 39 rfl (by rfl) U2.out ?_);simp only[Act.put,zA,zB,zC])
   refine (hencode_good (k:Int) (zs 32) ⟨by omega,by omega⟩ (zs_len 32) (zs_bytes 32) wr (HT.out.later Br.out)).mono ?_
   rintro e w2 ⟨g2,rfl,m2⟩
   have A2:Hid (CAt w2 w.heap.size s):=LAt.later Ar.out m2.below
   have B2:Hid (Below w.heap.size w w2):=below_then Br.out m2.below
   have O2:Hid (w2.ownsRow w.heap.size 5 1 u4 (64*(k+1)) (U8 (encS (sup1 s)++homes k))):=own_later Or.out m2.below
   have X2:Hid (BIn w2 (some ⟨g2,0,none⟩) 64 (homeS (k:Int) (zs 32))):=m2.read
   have HL:Hid ((homeS (k:Int) (zs 32)).length=64):=homeS_len _ (zs_len 32)
   have HX:Hid (U8 (encS (sup1 s)++homes (k+1))=U8 (encS (sup1 s)++homes k)++U8 (homeS (k:Int) (zs 32))):=by show _=_;rw[homes_succ];simp only[U8,List.map_append,List.append_assoc]
   clear m2 Ar Or Br U2
   generalize homeS (k:Int) (zs 32)=hs at *
   go_wp2_with (at_builtin;refine wpList_append_own _ rfl (.tmp 32) (.tmp 33) 27 rfl w.heap.size 5 i0 (.int .u8 0) 1 1 underlying27 hi hz0 hz1 hz2 rfl (by decide) u4 (64*(k+1)) (U8 (encS (sup1 s)++homes k)) rfl O2.out ⟨g2,0,none⟩ 64 64 (U8 hs) rfl (by rw[U8_length,HL.out]) X2.out.news (ones_u8 _) (by unfold maxLen;omega) (by omega) B2.out.size ?_)
   intro v3 w3 hown3 hgrow3 _
   have F3:Hid (CAt w3 w.heap.size s∧w3.ownsRow w.heap.size 5 1 v3 (64*(k+1+1)) (U8 (encS (sup1 s)++homes (k+1)))∧Below w.heap.size w w3):=by
    refine⟨box_kept A2.out O2.out hgrow3 (by decide),?_,B2.out.grown hgrow3 B2.out.size (fun g hg=>(O2.out.lt g hg).1)⟩
    rw[HX.out,show 64*(k+1+1)=64*(k+1)+64 by omega]
    exact hown3
   clear hown3 hgrow3 A2 B2 O2 X2
   go_wp2_with fail
   go_roundw
   case rel=>exact⟨k+1,by omega,by go_num,F3.out⟩
   case measure=>simp[intOf];omega
  ·obtain rfl:m=k:=by omega
   have c1:=(HCI.out _ Ar.out).2
   obtain ⟨g4,c4,rfl,-⟩:=own_shape Or.out (by omega)
   go_wp2_with (at_builtin;refine wpList_append_zeros_own _ rfl (.tmp 36) _ 27 3 rfl w.heap.size 5 i0 (.int .u8 0) 1 .i64 .i64 underlying27 underlying3 hi hz0 hz1 hz2 rfl rfl g4 (64*(m+1)) c4 (U8 (encS (sup1 s)++homes m)) rfl Or.out K rfl hk1 (by unfold maxLen;omega) (by omega) Br.out.size ?_)
   intro v5 w5 hown5 hgrow5
   have B5:Hid (Below w.heap.size w w5):=Br.out.grown hgrow5 Br.out.size (fun k hk=>(Or.out.lt k hk).1)
   have O5:Hid (w5.ownsRow w.heap.size 5 1 v5 (64*(m+1)+K) (U8 (newS s))):=by
    show w5.ownsRow _ _ _ _ _ _
    rw[HN.out.1]
    simp only[U8,zs,List.map_append,List.map_replicate] at hown5 ⊢
    exact hown5
   clear hown5 hgrow5 Or Br Ar c1
   obtain ⟨g5,c5,rfl,hc5⟩:=own_shape O5.out (by omega)
   have X5:Hid (BIn w5 (some ⟨g5,0,none⟩) (64*(m+1)+K) (newS s)):=own_bin O5.out (newS_bytes HC.out)
   go_wp2_with fail
   refine (load_good g5 0 (64*(m+1)+K) c5 (cntS s) (newS s) w5 X5.out HN.out.2.1 hc5 (by unfold cntS;omega) HN.out.2.2).mono ?_
   rintro e w6 ⟨p,rfl,d6,b6⟩
   have F6:Hid (Dsk w6 (fun k=>w.heap.size≤k) p (cntS s) (newS s) []∧Below w.heap.size w w6):=⟨d6.mono (fun k _ hk=>Nat.le_trans B5.out.size hk),below_then B5.out b6⟩
   clear d6 b6 X5 O5 B5
   go_wp2_with fail
   go_ret2
   exact⟨p,rfl,F6.out.1,F6.out.2⟩
theorem refPush_any (x:Nat)(c:Int)(hx:x<4294967296)(hc0:0≤c)(hc1:c<256)(w:World) :
  Calls prog 144 #[.int .u32 x,.int .u8 c] w fun e w'=>e=.returned (.int .u32 (hn 8 (x ^^^ c.toNat):Nat))∧w=w':=by
 obtain ⟨y,hy⟩:∃y,y=x ^^^ c.toNat:=⟨_,rfl⟩
 have hyl:y<4294967296:=by rw[hy];exact xor_lt _ _ hx (by omega)
 have h1:bits .xor .u32 (x:Int) c=(y:Int):=by
  rw[hy,← u32_xor_nat x c.toNat hx (by omega)]
  congr 1
  omega
 rw[← hy]
 clear hy
 go_enter func144,ntmps144
 go_wp2
 go_loop [0,5] (fun v i=>∃k:Nat,k≤8∧i=.int .i64 k∧v=.int .u32 (hn k y:Nat)) (fun _ i=>8-(intOf i).toNat)
 case atStart=>exact⟨0,by omega,rfl,rfl⟩
 case round =>
  obtain ⟨k,hk,rfl,rfl⟩:=hrel
  by_cases hlt:k<8
  ·have hl:=hn_lt k y hyl
   have HN:Hid (hn (k+1) y=hv (hn k y)):=hn_next k y
   obtain ⟨z,hz⟩:∃z,z=hn k y:=⟨_,rfl⟩
   rw[← hz] at HN hl ⊢
   clear hz
   by_cases hodd:z % 2=1
   ·have hx2:=u32_xor_nat (z / 2) 3988292384 (by omega) (by omega)
    have HV:Hid (hv z=z / 2 ^^^ 3988292384):=by show _=_;unfold hv;rw[if_pos hodd]
    have ho':(z:Int) % 2=1:=by omega
    have hx3:bits .xor .u32 ((z:Int) / 2) 3988292384=((z / 2 ^^^ 3988292384:Nat):Int):=hx2
    clear hx2
    go_wp2
    go_round
    case rel=>exact⟨k+1,by omega,by go_num,by rw[HN.out,HV.out]⟩
    case measure=>simp[intOf];omega
   ·have HV:Hid (hv z=z / 2):=by show _=_;unfold hv;rw[if_neg hodd,Nat.xor_zero]
    have ho':¬(z:Int) % 2=1:=by omega
    go_wp2
    go_round
    case rel=>exact⟨k+1,by omega,by go_num,by rw[HN.out,HV.out];rfl⟩
    case measure=>simp[intOf];omega
  ·obtain rfl:k=8:=by omega
   go_wp2
   go_ret
   exact⟨rfl,rfl⟩
theorem refOf_pos (b o n c:Nat)(xs:List Int)(w:World)(h:BIn w (some ⟨b,o,none⟩) n xs)(h0:0<n)(hbig:n≤140737488355328) :
  Calls prog 125 #[.slice (some ⟨b,o,none⟩) n c] w fun e w'=>e=.returned (.int .u32 (crc xs:Nat))∧w=w':=by
 obtain ⟨b',o',e,hcs⟩:=h.cells h0
 simp only[Option.some.injEq,Addr.mk.injEq,and_true] at e
 obtain ⟨rfl,rfl⟩:=e
 have HC:Hid (∀i,i<n→w.cell? ⟨b,o+i,none⟩=some (.int .u8 (xs.getD i 0))):=hcs
 have HX:Hid (xs.length=n):=h.len
 have HK:Hid (Bytes xs):=h.byte
 clear hcs h
 go_enter func125,ntmps125
 go_wp2
 go_loop [3,4] (fun x i=>∃j:Nat,j≤n∧i=.int .i64 j∧x=.int .u32 (st 4294967295 (xs.take j):Nat)) (fun _ i=>n-(intOf i).toNat)
 case atStart=>exact⟨0,Nat.zero_le _,rfl,rfl⟩
 case round =>
  obtain ⟨j,hj,rfl,rfl⟩:=hrel
  have hlj:=st_lt 4294967295 (xs.take j) (by omega) (HK.out.take j)
  by_cases hjl:j<n
  ·have hcj:=HC.out j hjl
   have hjx:j<xs.length:=by rw[HX.out];exact hjl
   have hb:=HK.out.at j hjx
   have HJ:Hid (st 4294967295 (xs.take (j+1))=hn 8 (st 4294967295 (xs.take j) ^^^ xs[j].toNat)):=st_step _ xs j hjx
   rw[show xs.getD j 0=xs[j] by simp[List.getD,List.getElem?_eq_getElem hjx]] at hcj
   obtain ⟨z,hz⟩:∃z,z=st 4294967295 (xs.take j):=⟨_,rfl⟩
   rw[← hz] at hlj HJ ⊢
   obtain ⟨q,hq⟩:∃q,q=xs[j]:=⟨_,rfl⟩
   rw[← hq] at hb HJ hcj
   obtain ⟨hb0,hb1⟩:=hb
   clear hz hq
   go_wp2_with (go_at_call 144;refine (refPush_any z q hlj hb0 hb1 _).mono ?_;rintro e w' ⟨rfl,rfl⟩)
   go_round
   case rel=>exact⟨j+1,by omega,by go_num,by rw[HJ.out]⟩
   case measure=>simp[intOf];omega
  ·have HA:Hid (xs.take j=xs):=List.take_of_length_le (by rw[HX.out];omega)
   have hxo:=u32_xor_nat _ 4294967295 hlj (by omega)
   have HO:Hid (bits .xor .u32 ((st 4294967295 (xs.take j):Nat):Int) 4294967295=((crc xs:Nat):Int)):=by
    show _=_
    rw[crc,← HA.out]
    simpa [HA.out] using hxo
   clear hxo
   go_wp2
   go_ret
   refine⟨?_,rfl⟩
   rw[← HO.out]
   rfl
theorem refOf_zero (p:Option Addr)(c:Nat)(w:World) :
  Calls prog 125 #[.slice p 0 c] w fun e w'=>e=.returned (.int .u32 0)∧w=w':=by
 go_enter func125,ntmps125
 go_wp2
 refine wp_loop_rounds 1 ?_
 rw[rounds_succ]
 go_wp2
 go_ret
 exact⟨rfl,rfl⟩
theorem refOf_any (p:Option Addr)(n c:Nat)(xs:List Int)(w:World)(h:BIn w p n xs)(hbig:n≤140737488355328) :
  Calls prog 125 #[.slice p n c] w fun e w'=>e=.returned (.int .u32 (crc xs:Nat))∧w=w':=by
 by_cases h0:0<n
 ·obtain ⟨b,o,rfl,hc⟩:=h.cells h0
  exact refOf_pos b o n c xs w h h0 hbig
 ·obtain rfl:n=0:=by omega
  obtain rfl:xs=[]:=List.eq_nil_of_length_eq_zero h.len
  refine (refOf_zero p c w).mono ?_
  rintro e w' ⟨rfl,hw⟩
  exact⟨rfl,hw⟩
end Go.Proofs.YtdadpepfpiimgaaGreatDoor
