import Derived.Test.YtcdjepkhdjpjcaaGreatDoorU09
set_option maxHeartbeats 20000000
set_option maxRecDepth 100000
namespace Go.Proofs.Zq
theorem adO(s:fN)(h:PO s)(h1:0<=s.tail):s.Wf:=by
 obtain ⟨⟨a1,a2,a3,a4,a5⟩,a6,a7,a8⟩:=h;refine⟨?_,?_,?_,?_,?_,?_,?_⟩ <;> first | (simp only[i64];omega) | (simp only[u64];omega)
def kP (b:Int)(v:List Int):List Int:=[72,79,77,69,1,b]++(zs 22++v)
def mz (b:Int)(v:List Int):List Int:=kP b v++digits 4 (xx (kP b v):Nat)
abbrev inB (b:Int):Prop:=0<=b/\b<64
theorem yC{v:List Int}(b:Int)(h:v.length=32):(kP b v).length=60:=by simp[kP,bG,h]
theorem yw{v:List Int}(b:Int)(h:v.length=32):(mz b v).length=64:=by simp[mz,yC b h,dG]
theorem td{b:Int}{v:List Int}(hb:inB b)(hv:Bytes v):Bytes (kP b v):=by
 unfold kP;refine Bytes.append ?_ ((jW 22).append hv);intro x hx;simp at hx;omega
theorem Je{b:Int}{v:List Int}(hb:inB b)(hv:Bytes v):Bytes (mz b v):=(td hb hv).append (en _ _)
def mX (s:fN):fN:=⟨s.bl,s.lc,s.mr,s.hi,s.cl,0,1⟩
theorem PY(s:fN):Kf (mX s):=⟨by show (0:Int)<=_;omega,by show (1:Int)<=1;omega,by show (1:Int)<=_;omega⟩
theorem GZ{s:fN}(h:iP s):PO (mX s):=⟨h,PY s⟩
theorem Zk{s:fN}(h:iP s):(mX s).Wf:=adO _ (GZ h) (by show (0:Int)<=0;omega)
def homes (n:Nat):List Int:=((List.range n).map fun (i:Nat)=>mz (i:Int) (zs 32)).flatten
theorem uV(n:Nat):homes (n+1)=homes n++mz (n:Int) (zs 32):=by simp[homes,List.range_succ]
theorem Jd(n:Nat)(h:n<=64):Bytes (homes n):=by
 induction n with
 | zero=>exact Bytes.nil
 | succ n ih=>rw[uV];exact (ih (by omega)).append (Je ⟨by omega,by omega⟩ (jW 32))
def kM (s:fN):List Int:=encS (mX s)++homes s.bl.toNat++zs (64*s.lc.toNat)
def nG (s:fN):Nat:=1+s.bl.toNat+s.lc.toNat
theorem Pr{s:fN}(h:iP s):4<=nG s/\nG s<=129:=by have:=h.1;have:=h.2.1;unfold nG;omega
theorem BE{s:fN}(h:iP s):Bytes (kM s):=by
 have:=h.1;exact ((rL _).append (Jd _ (by omega))).append (jW _)
def xp (s:fN)(n:Int):Int:=if iP s then (if n=1+s.bl+s.lc then 0 else 40) else 3
theorem Uq{s:fN}(n:Int)(h:¬iP s):xp s n=3:=aD h
theorem NZ{s:fN}{n:Int}(h:iP s)(h2:¬n=1+s.bl+s.lc):xp s n=40:=by unfold xp;rw[aE h,aD h2]
theorem Uo{s:fN}{n:Int}(h:iP s)(h2:n=1+s.bl+s.lc):xp s n=0:=by unfold xp;rw[aE h,aE h2]
theorem Un{s:fN}{n:Int}(h:xp s n=0):iP s/\n=1+s.bl+s.lc:=by
 unfold xp at h;by_cases c:iP s
 ·rw[aE c] at h;by_cases c2:n=1+s.bl+s.lc
  ·exact⟨c,c2⟩
  ·rw[aD c2] at h;omega
 ·rw[aD c] at h;omega
def Eg (s:fN)(n:Int)(b:Int):Int:=if xp s n=0 then (if 0<=b/\b<s.bl then 0 else 51) else xp s n
theorem Ux{s:fN}{n:Int}(b:Int)(h:¬xp s n=0):Eg s n b=xp s n:=aD h
theorem Ob{s:fN}{n b:Int}(h:xp s n=0)(h2:¬(0<=b/\b<s.bl)):Eg s n b=51:=by unfold Eg;rw[aE h,aD h2]
theorem Uw{s:fN}{n b:Int}(h:xp s n=0)(h2:0<=b/\b<s.bl):Eg s n b=0:=by unfold Eg;rw[aE h,aE h2]
theorem Uv{s:fN}{n b:Int}(h:Eg s n b=0):xp s n=0/\0<=b/\b<s.bl:=by
 unfold Eg at h;by_cases c:xp s n=0
 ·rw[aE c] at h;by_cases c2:0<=b/\b<s.bl
  ·exact⟨c,c2⟩
  ·rw[aD c2] at h;omega
 ·rw[aD c] at h;exact absurd h c
theorem Uy{s:fN}{n b:Int}(h:Eg s n b=0):inB b/\0<=1+b/\1+b<n:=by
 obtain ⟨h1,h2,h3⟩:=Uv h;obtain ⟨h4,h5⟩:=Un h1;have:=h4.1;have:=h4.2.1;refine⟨⟨?_,?_⟩,?_,?_⟩ <;> omega
def Zj (s:fN)(n:Int)(ws:List Wr)(b:Int)(v:List Int):List Wr:=if Eg s n b=0 then ws++[⟨(1+b).toNat,mz b v⟩] else ws
theorem NK{s:fN}{n b:Int}(ws:List Wr)(v:List Int)(h:Eg s n b=0):Zj s n ws b v=ws++[⟨(1+b).toNat,mz b v⟩]:=aE h
theorem KO{s:fN}{n b:Int}(ws:List Wr)(v:List Int)(h:¬Eg s n b=0):Zj s n ws b v=ws:=aD h
open Go.RowKit
theorem tC{B g:Nat}(hg:B<=g):∀(vs:List Value) (o:Nat) (w w':World),Below B w w'->Below B w (w'.setCells g o vs)
 | [],_,_,_,h=>h
 | v :: r,o,w,w',h=>tC hg r (o+1) w _ (h.setCell (by simpa using hg) v)
open Go.Proofs.Tryz
theorem ada:(prog.info? 192).map (·.size)=some 128:=by kernel_rfl
theorem US:placesOf prog 192=some [(0,64),(64,64)]:=by kernel_rfl
theorem acX:(prog.info? 192).bind (·.zero)=some (.agg (List.replicate 128 (Value.int .u8 0)).toArray):=by kernel_rfl
theorem YX:(prog.info? 123).bind (·.zero)=some (.agg (List.replicate 64 (Value.int .u8 0)).toArray):=by kernel_rfl
theorem abg(a b:List Int)(ha:a.length=64)(hb:b.length=64):prog.built 192 [(0,.agg (U8 a).toArray),(1,.agg (U8 b).toArray)]=some (U8 a++U8 b).toArray:=by
 rw[jr 192 _ _ _ US acX];exact EP _ _ 0 64 64 64 rfl _ _ (U8 a) (U8 b) rfl rfl (by rw[aX,ha]) (by rw[aX,hb]) rfl rfl (by simp)
theorem Hv(w:World)(a b:List Int)(ha:a.length=64)(hb:b.length=64):(Instr.build 192 #[(0,.agg (U8 a).toArray),(1,.agg (U8 b).toArray)]).run prog w=.ok (.agg (U8 a++U8 b).toArray) w :=
 eo w 192 _ _ (abg a b ha hb)
def Z69:Array Value:=(List.replicate 64 (Value.int .u8 0)).toArray
theorem XV:Z69.size=64:=by simp[Z69]
theorem Hx(w:World):(Instr.alloc 123 true (.tuple #[])).run prog w=.ok (.pointer (some ⟨w.heap.size,0,none⟩)) (w.alloc (.cells Z69 123)):=by
 simp only[Instr.alloc,aU,zv4 123 _ YX,aH];simp[newVar,newRow,Value.cells,Z69]
theorem Hs(w:World)(b:List Int)(hb:b.length=64):(Instr.storeAt 123 (.pointer (some ⟨w.heap.size,0,none⟩)) (.agg (U8 b).toArray)).run prog (w.alloc (.cells Z69 123))=.ok () (w.alloc (.cells (U8 b).toArray 123)) :=
 uu w 123 Z69 _ (by simp[XV,hb]) (by rw[sD];simp[hb]) (NB b)
theorem AG{ops:Array Oper}{rest:List Oper}{o:Oper}{a:Act}{w:World}{Q:Exit->Act->World->Prop}(jt:o.guard=none)(ho:o.op=.alloc 123)
  (h:wpList prog ops Q rest (a.put o.dst (.pointer (some ⟨w.heap.size,0,none⟩))) (w.alloc (.cells Z69 123))):wpList prog ops Q (o :: rest) a w :=
 iQ jt fun _ hK=>EZ (by unfold execOp;simp only[ho,aU,Hx,aH,bQ]) (hK _ _ h)
theorem AB{ops:Array Oper}{rest:List Oper}{o:Oper}{a:Act}{w:World}{Q:Exit->Act->World->Prop}(jt:o.guard=none)(x y:Operand)(ho:o.op=.store 123 x y)(b:List Int)(hx:a.eval x=.pointer (some ⟨w.heap.size,0,none⟩))(hy:a.eval y=.agg (U8 b).toArray)(hb:b.length=64)
  (h:wpList prog ops Q rest (a.put o.dst undef) (w.alloc (.cells (U8 b).toArray 123))):wpList prog ops Q (o :: rest) a (w.alloc (.cells Z69 123)) :=
 iQ jt fun _ hK=>GL (by unfold execOp;simp only[ho,hx,hy,aU,Hs w b hb,aH,bQ]) (hK _ _ h)
theorem Aw{ops:Array Oper}{S:World->Prop}{o:Oper}{a:Act}(hw:Region.wanted o (yielded ops a.tmps)=true)(x y:Operand)(ho:o.op=.build 192 #[(0,x),(1,y)])(b c:List Int)(hx:a.eval x=.agg (U8 b).toArray)(hy:a.eval y=.agg (U8 c).toArray)(hb:b.length=64)(hc:c.length=64):YieldsIf prog ops S o (.agg (U8 b++U8 c).toArray) a :=
 .inl ⟨hw,fun w _=>by
  have e:(#[(0,x),(1,y)]:Array (Nat × Operand)).map (fun (i,x)=>(i,a.eval x))=#[(0,a.eval x),(1,a.eval y)]:=by simp
  unfold execOp;simp only[ho];rw[e,hx,hy];simp only[aU,Hv w b c hb hc,aH,bQ]⟩
theorem vZ:(prog.info? 51).map (·.size)=some 32:=by kernel_rfl
theorem zeroV:(prog.info? 51).bind (·.zero)=some (.agg (U8 (zs 32)).toArray):=by kernel_rfl
theorem amW(v:List Int):(U8 v).toArray.all (·.oneCell')=true:=gy (eO v)
theorem XJ(w:World):(Instr.alloc 51 true (.tuple #[])).run prog w=.ok (.pointer (some ⟨w.heap.size,0,none⟩)) (w.alloc (.cells (U8 (zs 32)).toArray 51)):=by
 simp only[Instr.alloc,aU,zv 51 _ zeroV,aH];simp[newVar,newRow,Value.cells]
theorem Xw(w:World):(Instr.build 51 #[]).run prog w=.ok (.agg (U8 (zs 32)).toArray) w:=eo w 51 _ _ (by kernel_rfl)
abbrev Dq (w:World)(g:Nat)(v:List Int):Prop:=bE 51 w g (U8 v)
theorem Dq.load{w:World}{g:Nat}{v:List Int}(h:Dq w g v)(hv:v.length=32):(Instr.loadAt 51 (.pointer (some ⟨g,0,none⟩))).run prog w=.ok (.agg (U8 v).toArray) w :=
 b_ w g 0 51 (U8 v) _ (bE.range h) gw rfl (by rw[vZ,aX,hv])
theorem Dq.store{w:World}{g:Nat}{u v:List Int}(h:Dq w g u)(hu:u.length=32)(hv:v.length=32):(Instr.storeAt 51 (.pointer (some ⟨g,0,none⟩)) (.agg (U8 v).toArray)).run prog w=.ok () (w.setRow g (U8 v).toArray) :=
 bE.store (ds:=U8 v) h (by rw[vZ,aX,hv]) (by rw[aX,aX,hu,hv]) (amW v)
theorem Dq.bin{w:World}{g:Nat}{v:List Int}(h:Dq w g v)(hv:v.length=32)(hb:Bytes v):jK w (some ⟨g,0,none⟩) 32 v:=by
 refine⟨hv,hb,fun _=>⟨g,0,rfl,fun i hi=>?_⟩⟩;rw[aW,bE.cell h i];simp[U8,List.getD,List.getElem?_eq_getElem (show i<v.length by omega)]
theorem Dq.sin{w:World}{g:Nat}{v:List Int}(h:Dq w g v)(hv:v.length=32)(hb:Bytes v):zK w (.slice (some ⟨g,0,none⟩) 32 32) v:=⟨_,32,32,rfl,h.bin hv hb,az _,fun e=>by cases e⟩
theorem yY(b n:Int)(w:World) :
  Calls prog 111 #[.int .i64 b,.int .i64 n] w fun e w'=>e=.returned (.bool (decide (0<=b/\b<n)))/\w=w':=by
 go_enter func111,ntmps111;go_wp2;all_goals go_ret
 all_goals (refine⟨?_,rfl⟩;simp;try omega)
theorem BW(n:Int)(k:Nat)(w:World)(yx:0<=n)(hk:1<=k/\k<=8)(hn:n / 256 ^ k=0) :
  Calls prog 173 #[.int .u64 n,.int .i64 k] w fun e w'=>∃p c,e=.returned (.slice p k c)/\Made w w' p k c (digits k n):=by
 go_enter func173,ntmps173;go_wp2_with fail;refine (LJ n k w yx hk hn).mono ?_;rintro e w1 ⟨v,rfl,ho,hb⟩;obtain ⟨p,c,rfl,hm⟩:=pQ ho (en k n) hb;clear ho hb hn;go_wp2_with fail;go_ret;exact⟨p,c,rfl,hm⟩
theorem Mo{w:World}(u v x:Value)(xs ys zs:List Int)(hu:zK w u xs)(hv:zK w v ys)(hx:zK w x zs)(n:Nat)(hn:(xs++(ys++zs)).length=n)(hb:n<=100000) :
  Calls prog 172 #[.slice (some ⟨w.heap.size,0,none⟩) 3 3] (w.alloc (.cells [u,v,x].toArray 107)) fun e w'=>e=.returned (.slice (some ⟨w.heap.size+1,0,none⟩) n n)/\Made w w' (some ⟨w.heap.size+1,0,none⟩) n n (xs++(ys++zs)):=by
 have hs:xl w [u,v,x] [xs,ys,zs]:=⟨hu,hv,hx,trivial⟩
 have e:[xs,ys,zs].flatten=xs++(ys++zs):=by simp
 have hB:Bytes (xs++(ys++zs)):=by
  obtain ⟨_,_,_,_,h1,_⟩:=hu;obtain ⟨_,_,_,_,h2,_⟩:=hv;obtain ⟨_,_,_,_,h3,_⟩:=hx;exact h1.byte.append (h2.byte.append h3.byte)
 have:=EE w.heap.size 0 3 3 [u,v,x] [xs,ys,zs] (w.alloc (.cells [u,v,x].toArray 107)) (zW hs 3 rfl) (by omega) (by rw[e,hn];omega) (by omega);rw[e,hn] at this;refine this.mono ?_;have e2:(w.alloc (.cells [u,v,x].toArray 107)).heap.size=w.heap.size+1:=by simp
 rintro e w' ⟨rfl,ho,jb⟩;rw[e2] at ho jb ⊢;have Dj:Below w.heap.size w w':=(ag w _).trans (jb.mono (by omega));obtain ⟨p,c,e3,hr,hc,hp,_⟩:=rA ho hB;simp only[cE,nY] at e3;obtain ⟨rfl,rfl⟩:=e3;exact⟨rfl,eH ho (by omega),hr,hc,hp,Dj⟩
abbrev HM:Array Value:=#[.int .u8 72,.int .u8 79,.int .u8 77,.int .u8 69]
def hm:List Int:=[72,79,77,69]
theorem Jh:Bytes hm:=by intro x hx;simp[hm] at hx;omega
theorem aeU(n:Int)(h0:0<=n)(h1:n<256):digits 1 n=[n]:=by simp[digits];omega
theorem aeS(n:Int)(h0:0<=n)(h1:n<256):n / 256 ^ 1=0:=lG h0 (by rw[show (256:Int) ^ 1=256 by decide];omega)
theorem Jp(b:Int)(v:List Int):(hm++([1]++[b])++List.replicate (28-6) 0)++v=kP b v:=by
 simp[hm,kP,zs]
theorem wS(b:Int)(v:List Int)(hb:inB b)(hv:v.length=32)(zw:Bytes v)(w:World)(ht:qX w) :
  Calls prog 113 #[.int .i64 b,.agg (U8 v).toArray] w fun e w'=>∃g,e=.returned (.tuple #[.slice (some ⟨g,0,none⟩) 64 64,.int .i64 0])/\Made w w' (some ⟨g,0,none⟩) 64 64 (mz b v):=by
 obtain ⟨w0,mI⟩:∃x,x=w.alloc (.cells (U8 v).toArray 51):=⟨_,rfl⟩
 have ew0:=mI.symm;have V0:Hid (Dq w0 w.heap.size v):=by rw[mI];exact bE.new 51 w (U8 v)
 have B0:Hid (Below w.heap.size w w0):=by rw[mI];exact ag w _
 have HT:=zH ht;have HV:=rf hv zw;have HB:=zH hb;have yD:=hb.1;have qj:=hb.2;clear mI ht hv zw;go_enter func113,ntmps113;go_wp2_with fail;clear ew0;refine (yY b 64 _).mono ?_;rintro e w1 ⟨rfl,rfl⟩;rw[aP hb];clear hb;have cv:=oY w0 HM 4 w0.heap.size rfl;have C1:Hid (Below w0.heap.size w0 (w0.alloc (.cells HM 5 (4,5)))):=ag w0 _;have N1:Hid (jK (w0.alloc (.cells HM 5 (4,5))) (some ⟨w0.heap.size,0,none⟩) 4 hm):=sR w0 hm 4 (4,5) rfl Jh;go_wp2_with fail;clear cv;generalize w0.alloc (.cells HM 5 (4,5))=w1 at *;refine (BW 1 1 w1 (by omega) (by omega) (by decide)).mono ?_;rintro e w2 ⟨p2,c2,rfl,m2⟩;have S2:=zH m2.sin;have N2:Hid (zK w2 (.slice (some ⟨w0.heap.size,0,none⟩) 4 4) hm):=⟨_,4,4,rfl,N1.out.later m2.below,az _,fun e=>by cases e⟩
 have C2:Hid (Below w0.heap.size w0 w2):=ah C1.out m2.below;clear m2 N1 C1;have ks:IntKind.u64.wrap b=b:=by rw[eD];omega
 go_wp2_with fail;refine (BW b 1 w2 yD (by omega) (aeS _ yD (by omega))).mono ?_;rintro e w3 ⟨p3,c3,rfl,m3⟩;have S3:Hid (zK w3 (.slice p3 1 c3) [b]):=by have:=m3.sin;rw[aeU b yD (by omega)] at this;exact this
 have T3:Hid (zK w3 (.slice p2 1 c2) [1]):=S2.out.later m3.below;have N3:Hid (zK w3 (.slice (some ⟨w0.heap.size,0,none⟩) 4 4) hm):=N2.out.later m3.below;have C3:Hid (Below w0.heap.size w0 w3):=ah C2.out m3.below;clear m3 S2 N2 C2;go_wp2_with fail;refine (Mo _ _ _ _ _ _ N3.out T3.out S3.out 6 (by simp[hm]) (by omega)).mono ?_;rintro e w4 ⟨rfl,m4⟩;have N4:=zH m4.read;have C4:Hid (Below w0.heap.size w0 w4):=ah C3.out m4.below;clear m4 S3 T3 N3 C3;go_wp2_with fail;refine (Is (some ⟨w3.heap.size+1,0,none⟩) 6 6 (hm++([1]++[b])) 28 w4 (by omega) (by omega) N4.out).mono ?_;rintro e w5 ⟨rfl,g5,b5⟩;have C5:Hid (Below w0.heap.size w0 w5):=ah C4.out b5;have S5:Hid (zK w5 (.slice (some ⟨w4.heap.size,0,none⟩) 28 28) (hm++([1]++[b])++List.replicate (28-6) 0)):=by
  have hB:Bytes (hm++([1]++[b])++List.replicate (28-6) 0):=by
   refine (N4.out.byte).append (jW 22)
  refine⟨_,28,28,rfl,⟨by simp[hm],hB,fun _=>⟨_,0,rfl,fun i hi=>?_⟩⟩,az _,fun e=>by cases e⟩;rw[aW,g5.cell i];have:i<(hm++([1]++[b])++List.replicate (28-6) (0:Int)).length:=by simp[hm];omega
  simp only[U8,qb,ay this,List.getD,iZ,kT]
 have V5:Hid (zK w5 (.slice (some ⟨w.heap.size,0,none⟩) 32 32) v):=Dq.sin (bE.later V0.out (ah (aV _ _) C5.out)) HV.out.1 HV.out.2;clear g5 b5 C4 N4 V0;go_wp2_with fail;refine (BP _ _ _ _ S5.out V5.out 60 (by rw[Jp,yC b HV.out.1]) (by omega)).mono ?_;rintro e w6 ⟨rfl,m6⟩;rw[Jp] at m6;have N6:=zH m6.sin;have C6:Hid (Below w0.heap.size w0 w6):=ah C5.out m6.below;have HL:Hid ((kP b v).length=60):=yC b HV.out.1;clear m6 S5 V5 C5;go_wp2_with fail;refine (Ma (some ⟨w5.heap.size+1,0,none⟩) 60 60 (kP b v) N6.out (by rw[HL.out];omega) (HT.out.later (ah B0.out C6.out)).half).mono ?_;rintro e w7 ⟨rfl,b7⟩;have N7:Hid (zK w7 (.slice (some ⟨w5.heap.size+1,0,none⟩) 60 60) (kP b v)):=N6.out.later b7;have C7:Hid (Below w0.heap.size w0 w7):=ah C6.out b7;have Tj:=yI (kP b v) (td HB.out HV.out.2);have HE:Hid (mz b v=kP b v++digits 4 ((xx (kP b v):Nat):Int)):=rfl;have YT:Hid ((mz b v).length=64):=yw b HV.out.1;clear b7 N6 C6;generalize xx (kP b v)=S at *;go_wp2_with fail;refine (BW (S:Int) 4 w7 (by omega) (by omega) (Xi _ (by omega) (by omega))).mono ?_;rintro e w8 ⟨p8,c8,rfl,m8⟩;have N8:Hid (zK w8 (.slice (some ⟨w5.heap.size+1,0,none⟩) 60 60) (kP b v)):=N7.out.later m8.below;have S8:=zH m8.sin;have C8:Hid (Below w.heap.size w w8):=ah B0.out (ah C7.out m8.below);clear m8 N7 C7;go_wp2_with fail;refine (BP _ _ _ _ N8.out S8.out 64 (by rw[<-HE.out];exact YT.out) (by omega)).mono ?_;rintro e w9 ⟨rfl,m9⟩;rw[<-HE.out] at m9;have M9:=zH m9;clear m9 N8 S8;go_wp2_with fail;go_ret2;exact⟨w8.heap.size+1,rfl,eH M9.out.own C8.out.size,M9.out.read,M9.out.le,M9.out.nil,ah C8.out M9.out.below⟩
structure XZ (w wr:World) (p q n cap:Nat) (v:Value) (D N:Nat->List Int):Prop where
 str:wr.heap[p]?=some (.cells #[.slice (some ⟨q,0,none⟩) n cap,v] 121 (0,0))
 pl:Pl wr q n cap D N
 wt:wr.ownsRow 0 125 65 v 0 []
 below:Below w.heap.size w wr
 hp:w.heap.size<=p
 hq:w.heap.size<=q
 hv:∀k,v.ownBlock=some k->w.heap.size<=k
theorem XZ.later{w wr w':World}{p q n cap:Nat}{v:Value}{D N:Nat->List Int}(h:XZ w wr p q n cap v D N)(hb:Below wr.heap.size wr w'):XZ w w' p q n cap v D N :=
 ⟨(hb.block p (pJ.lt (t:=121) (sz:=2) ⟨_,h.str,rfl⟩)).trans h.str,h.pl.same (hb.block q h.pl.bC.lt),dD h.wt hb,h.below.trans (hb.mono h.below.size),h.hp,h.hq,h.hv⟩
theorem XZ.cell0{w wr:World}{p q n cap:Nat}{v:Value}{D N:Nat->List Int}(h:XZ w wr p q n cap v D N):wr.cell? ⟨p,0,none⟩=some (.slice (some ⟨q,0,none⟩) n cap):=by
 rw[aq _ _ _ _ 121 (0,0) h.str];rfl
theorem rS(g:Nat):∀(vs us:List Value) (o:Nat) (w:World),w.setCells g o (vs++us)=(w.setCells g o vs).setCells g (o+vs.length) us
 | [],us,o,w=>rfl
 | v :: r,us,o,w=>by
  show (w.setCell ⟨g,o,none⟩ v).setCells g (o+1) (r++us)=_;rw[rS g r us (o+1) _,bz,show o+1+r.length=o+(r.length+1) by omega];rfl
theorem XZ.set{w wr:World}{p q n cap k:Nat}{v:Value}{D N:Nat->List Int}(h:XZ w wr p q n cap v D N)(b:List Int)(hb:b.length=64)(hk:k<n):XZ w (wr.setCells q (k*128) (U8 b++U8 b)) p q n cap v (fun i=>if i=k then b else D i) (fun i=>if i=k then b else N i):=by
 have Wb:p≠q:=pJ.ne (t:=121) (sz:=2) ⟨_,h.str,rfl⟩ h.pl.bC (by decide);refine⟨(jZ Wb _ _ _).trans h.str,?_,gO h.wt (fun k hk=>?_),tC h.hq _ _ _ _ h.below,h.hp,h.hq,h.hv⟩
 ·rw[rS,aX,hb];exact (h.pl.agw b hb hk).adg b hb hk
 ·obtain ⟨sz,kN⟩:=gY h.wt hk;exact jZ (kN.ne h.pl.bC (by decide)) _ _ _
def TJ (xs:List Int)(k:Nat):Nat->List Int:=fun i=>if i<k then sec xs i else List.replicate 64 0
theorem TI(xs:List Int)(k:Nat):(fun i=>if i=k then sec xs k else TJ xs k i)=TJ xs (k+1):=by
 funext i;simp only[TJ];by_cases c:i=k
 ·subst c;simp
 ·by_cases c2:i<k
  ·simp[c,c2,show i<k+1 by omega]
  ·simp[c,c2,show ¬i<k+1 by omega]
theorem Qh{w:World}{g o m n k:Nat}{xs:List Int}(h:jK w (some ⟨g,o,none⟩) m xs)(hm:m=64*n)(hk:k<n):w.rangeAt g (o+k*64) (U8 (sec xs k)):=fun j v hv=>by
 have hj:j<64:=by have:=(aA.1 hv).1;rw[aX,oG (h.len.trans hm) hk] at this;exact this
 rw[Nat.add_assoc];refine h.range (k*64+j) v ?_;rw[<-hv];simp only[U8,qb,tH xs k j hj];rw[Nat.mul_comm]
theorem Rf(g o m c n:Nat)(xs:List Int)(w:World)(h:jK w (some ⟨g,o,none⟩) m xs)(hm:m=64*n)(hmc:m<=c)(Wi:1<=n)(MB:n<=4096) :
  Calls prog 118 #[.slice (some ⟨g,o,none⟩) m c] w fun e w'=>∃p,e=.returned (.tuple #[.pointer (some ⟨p,0,none⟩),.int .i64 0])/\pz w' (fun k=>w.heap.size<=k) p n xs []/\Below w.heap.size w w':=by
 have e1:((m:Int) % 64 != 0)=false:=by rw[show (m:Int) % 64=0 by omega];rfl
 have e2:(m:Int) / 64=(n:Int):=by omega
 have HX:=zH h;have HL:=zH (h.len.trans hm);have HM:=zH hm;clear h hm;go_enter func118,ntmps118;go_wp2_with fail;clear e1 e2;refine (Vn n w Wi MB).mono ?_;rintro e w1 ⟨p,rfl,⟨q,cap,v,hd⟩,qj⟩;have h0:=hd.cell0;have HD0:Hid (XZ w w1 p q n cap v (TJ xs 0) (TJ xs 0)):=by
  refine⟨hd.str,hd.pl.congr (fun i hi=>?_) (fun i hi=>?_),hd.wt,qj,hd.sp,hd.sq,hd.sv⟩
  ·rw[ox n i hi];rfl
  ·rw[rB,ox n i hi];rfl
 clear hd;go_wp2;clear h0
 go_loopw [27] (fun i wr=>∃k:Nat,k<=n/\i=.int .i64 k/\Hid (XZ w wr p q n cap v (TJ xs k) (TJ xs k))) (fun i _=>n-(intOf i).toNat)
 case atStart=>exact⟨0,by omega,rfl,HD0.out⟩
 case round =>
  obtain ⟨k,hkm,rfl,HR⟩:=hrel;clear HD0;by_cases eP:k<n
  ·have hm:=HM.out;have hmul:IntKind.i64.wrap ((k:Int)*64)=(k:Int)*64:=by rw[aY];omega
   have l1:(k:Int)*64<=(m:Int):=by omega
   have l2:(m:Int)<=(c:Int):=by omega
   have l3:¬(c:Int)=(k:Int)*64:=by omega
   have l4:(0:Int)<=(k:Int)*64:=by omega
   have hr:wr.rangeAt g (o+k*64) (U8 (sec xs k)):=Qh (HX.out.later HR.out.below) hm eP;have HLk:=zH (oG HL.out eP);have lf:∀(w:World) (a:Option Addr) (l c:Nat),64<=l->(Instr.arrayAt 123 (.slice a l c)).run prog w=.ok (.pointer a) w:=fun w a l c hl=>run_arrayAt w 123 _ 64 _ l c kS hl;have FY:=fun w c=>lf w (some ⟨g,o+k*64,none⟩) (m-k*64) c (by omega);have HRb:=zH (HX.out.byte.sec k);have HU:Hid (XZ w ((wr.alloc (.cells (U8 (sec xs k)).toArray 123)).setCells q (k*128) (U8 (sec xs k)++U8 (sec xs k))) p q n cap v (TJ xs (k+1)) (TJ xs (k+1))):=by
    have:=(HR.out.later (ag wr (.cells (U8 (sec xs k)).toArray 123))).set (sec xs k) HLk.out eP;rw[TI] at this;exact this
   have hD:=HR.out.later (ag wr (.cells (U8 (sec xs k)).toArray 123));have t0:=hD.cell0;have t1:(wr.alloc (.cells (U8 (sec xs k)).toArray 123)).rangeAt wr.heap.size 0 (U8 (sec xs k)):=oy wr _ 123;have t2:(wr.alloc (.cells (U8 (sec xs k)).toArray 123)).there q (k*128) 128:=hD.pl.bC.there _ _ (by have:=hD.pl.BF;omega);have HNE:Hid (p≠q/\wr.heap.size≠q):=⟨pJ.ne (t:=121) (sz:=2) ⟨_,hD.str,rfl⟩ hD.pl.bC (by decide),by have:=HR.out.pl.bC.lt;omega⟩
   clear lf hm HR hD;generalize sec xs k=b at *;go_wp2_with (first | (refine pE (by rfl) 123 (.tmp 34) (by rfl) g (o+k*64) (by rfl) (U8 b) _ hr kS rfl (by rw[sD,aX,HLk.out]) ?_) | (refine AG (by rfl) (by rfl) ?_) | (refine AB (by rfl) (.tmp 7) (.tmp 35) (by rfl) b (by rfl) (by rfl) HLk.out ?_) | fail)
   simp only[Act.put,zA,zB,zC];obtain ⟨W,hW⟩:=zE (wr.alloc (.cells (U8 b).toArray 123));rw[hW] at t0 t1 t2 HU ⊢;clear hW hr FY hmul l1 l2 l3 l4;have i1:(k:Int)<(n:Int):=by omega
   have i0:(0:Int)<=(k:Int):=by omega
   have k0:(W.drew.setCells q (k*128) (U8 b++U8 b)).cell? ⟨p,0,none⟩=some (.slice (some ⟨q,0,none⟩) n cap):=by
    rw[kO _ _ _ _ _ (fun e=>absurd e HNE.out.1)];exact t0
   have k1:(W.drew.setCells q (k*128) (U8 b++U8 b)).rangeAt wr.heap.size 0 (U8 b):=eZ (w:=W.drew) t1 _ _ _ (Or.inl HNE.out.2);have k2:(W.drew.setCells q (k*128) (U8 b++U8 b)).there q (k*128) 128:=World.there_setCells (w:=W.drew) t2 _ _ _;refine zR ((fun w'=>w'.cell? ⟨p,0,none⟩=some (.slice (some ⟨q,0,none⟩) n cap)/\w'.rangeAt wr.heap.size 0 (U8 b)/\w'.there q (k*128) 128)) ⟨t0,t1,t2⟩ fun aa=>?_;refine dz (i:=0) (v:=?v0) (by simp;rfl) (by kernel_rfl) (by kernel_rfl) (by kernel_rfl) (fun _ _ _ h=>h) (Or.inl ⟨by rfl,?y0⟩) aa ?r0
   case y0=>intro w fc;obtain ⟨fc,-,-⟩:=fc;go_simp;with_reducible rfl
   simp only[Act.put,zA,zB,zC];refine dz (i:=1) (v:=?v1) (by simp;rfl) (by kernel_rfl) (by kernel_rfl) (by kernel_rfl) (fun _ _ _ h=>h) (Or.inl ⟨by rfl,?y1⟩) aa ?r1
   case y1=>intro w fc;obtain ⟨fc,-,-⟩:=fc;go_simp;with_reducible rfl
   simp only[Act.put,zA,zB,zC];refine dz (i:=2) (v:=?v2) (by simp;rfl) (by kernel_rfl) (by kernel_rfl) (by kernel_rfl) (fun _ _ _ h=>h) (Or.inl ⟨by rfl,?y2⟩) aa ?r2
   case y2=>intro w fc;obtain ⟨fc,-,-⟩:=fc;go_simp;with_reducible rfl
   simp only[Act.put,zA,zB,zC];refine dz (i:=3) (v:=?v3) (by simp;rfl) (by kernel_rfl) (by kernel_rfl) (by kernel_rfl) (fun _ _ _ h=>h) (Or.inl ⟨by rfl,?y3⟩) aa ?r3
   case y3=>intro w fc;obtain ⟨fc,-,-⟩:=fc;go_simp;with_reducible rfl
   simp only[Act.put,zA,zB,zC];refine dz (i:=4) (v:=?v4) (by simp;rfl) (by kernel_rfl) (by kernel_rfl) (by kernel_rfl) (fun _ _ _ h=>h) (Or.inl ⟨by rfl,?y4⟩) aa ?r4
   case y4=>intro w fc;obtain ⟨fc,-,-⟩:=fc;go_simp;with_reducible rfl
   simp only[Act.put,zA,zB,zC];refine dz (i:=5) (v:=_) (by simp;rfl) (by kernel_rfl) (by kernel_rfl) (by kernel_rfl) (fun _ _ _ h=>h) (mT (by rfl) 123 (.tmp 7) rfl wr.heap.size 0 rfl (U8 b) _ (fun _ h=>h.2.1) kS rfl (by rw[sD,aX,HLk.out])) aa ?_;simp only[Act.put,zA,zB,zC];refine dz (i:=6) (v:=_) (by simp;rfl) (by kernel_rfl) (by kernel_rfl) (by kernel_rfl) (fun _ _ _ h=>h) (mT (by rfl) 123 (.tmp 7) rfl wr.heap.size 0 rfl (U8 b) _ (fun _ h=>h.2.1) kS rfl (by rw[sD,aX,HLk.out])) aa ?_;simp only[Act.put,zA,zB,zC];refine dz (i:=7) (v:=_) (by simp;rfl) (by kernel_rfl) (by kernel_rfl) (by kernel_rfl) (fun _ _ _ h=>h) (Aw (by rfl) (.tmp 41) (.tmp 42) rfl b b rfl rfl HLk.out HLk.out) aa ?_;simp only[Act.put,zA,zB,zC];refine tk 8 aa ?_;refine ck (rs:=[9]) (by kernel_rfl) (by simp) ?_;refine bu (by simp;rfl) (fun K hK=>?_) bO;rw[aE (by rfl)];refine wp_store_mid 192 (.tmp 44) (.tmp 43) rfl q (k*128) (U8 b++U8 b).toArray rfl rfl (by rw[aM,aO,aX,HLk.out];exact t2) (by rw[ada,aM,aO,aX,HLk.out]) (gy (fun u hu=>(bH.1 hu).elim (eO b u) (eO b u))) ?_;rw[List.toList_toArray];refine hK.out _ _ ⟨k0,k1,k2⟩ (fun aa=>?_);clear hK K;refine zD ?_;simp only[Act.put];rw[jJ];clear k0 k1 k2 t0 t1 t2;go_wp2;go_roundw
   case rel=>exact⟨k+1,by omega,by go_num,HU.out.later ⟨rfl,rfl,rfl,az _,fun _ _=>rfl⟩⟩
   case measure=>simp[intOf];omega
  ·obtain rfl:k=n:=by omega
   have HF:Hid (pz wr (fun k=>w.heap.size<=k) p k xs []/\Below w.heap.size w wr):=by
    refine⟨⟨q,cap,v,HR.out.str,HR.out.pl.congr (fun i hi=>?_) (fun i hi=>?_),HR.out.wt,HR.out.hp,HR.out.hq,HR.out.hv,Wi,MB,HL.out,HX.out.byte,Fit.nil _⟩,HR.out.below⟩
    ·simp[TJ,hi]
    ·simp[TJ,hi,rB]
   clear HR;go_wp2;go_ret2;exact⟨_,rfl,HF.out.1,HF.out.2⟩
theorem FW(s:fN){w:World}{S:Nat->Prop}{p n:Nat}{d:List Int}{ws:List Wr}(h:pz w S p n d ws) :
  Calls prog 110 #[.pointer (some ⟨p,0,none⟩),.agg (aN s).toArray] w fun e w'=>e=.returned (.int .i64 (xp s n))/\Below w.heap.size w w':=by
 have L1:=zH (fC.gi (bE.new 23 w (aN s)));have HA:=zH (bE.new 23 w (aN s));have HB:Hid (Below w.heap.size w (w.alloc (.cells (aN s).toArray 23))):=ag w _;have HD:=zH h;clear h;go_enter func110,ntmps110;go_wp2_with ((with_reducible refine aQ ?_);(refine aK (by rfl) 23 rfl rfl L1.out ?_);simp only[Act.put,zA,zB,zC])
 refine (vz s _).mono ?_;rintro e w1 ⟨rfl,b1⟩;have uE:=zH (bE.later HA.out b1);have gj:Hid (Below w.heap.size w w1):=ah HB.out b1;have kD:=zH (HD.out.later gj.out);clear b1 HA HB L1 HD;by_cases hc:iP s
 ·rw[tY s hc];have HC:=zH hc;obtain ⟨⟨a1,a2⟩,⟨a3,a4⟩,-⟩:=hc;obtain ⟨bl,Jq⟩:∃x,x=s.bl:=⟨_,rfl⟩
  obtain ⟨lc,Tg⟩:∃x,x=s.lc:=⟨_,rfl⟩
  have k1:IntKind.i64.wrap (1+bl)=1+bl:=by rw[aY];omega
  have k2:IntKind.i64.wrap (1+bl+lc)=1+bl+lc:=by rw[aY];omega
  have HE:Hid (((n:Int)=1+bl+lc->xp s n=0)/\(¬(n:Int)=1+bl+lc->xp s n=40)):=by rw[Jq,Tg];exact⟨fun h=>Uo HC.out h,fun h=>NZ HC.out h⟩
  have Du:Hid (∀w',fC w' w.heap.size s->w'.cell? ⟨w.heap.size,0,none⟩=some (.int .i64 bl)/\w'.cell? ⟨w.heap.size,1,none⟩=some (.int .i64 lc)):=by rw[Jq,Tg];exact fun w' h=>⟨fC.c0 h,fC.c1 h⟩
  clear Jq Tg a1 a2 a3 a4;go_wp2_with fail;refine zS w1 fun aa=>?_;have D1:Hid (Below w1.heap.size w1 w1.drew):=aa;generalize w1.drew=wd at *;refine fI 0 2 aa ?_;refine de 3 aa (fun _ fc=>(Du.out _ (bE.later uE.out fc)).1) ?_;refine fI 4 5 aa ?_;refine de 6 aa (fun _ fc=>(Du.out _ (bE.later uE.out fc)).2) ?_;refine tk 7 aa ?_;refine ck (rs:=[1]) (by kernel_rfl) (by simp) ?_;refine bu (by simp;rfl) (fun Kc aJ=>?_) bO;go_simp;refine (Ae (kD.out.later D1.out)).mono ?_;rintro e wn ⟨rfl,rfl⟩;refine aJ.out _ _ D1.out (fun aa=>?_);clear aJ Kc;refine tk 8 aa ?_;have gD:Hid (Below w.heap.size w wd):=ah gj.out D1.out;clear aa D1 kD Du;refine zD ?_;by_cases he:(n:Int)=1+bl+lc
  ·have hq:((n:Int) != 1+bl+lc)=false:=by rw[he];simp
   have HR:=zH (HE.out.1 he);clear he HE;go_wp2_with fail;go_ret;exact⟨by rw[HR.out];rfl,gD.out⟩
  ·have hq:((n:Int) != 1+bl+lc)=true:=by simp[he]
   have HR:=zH (HE.out.2 he);clear he HE;go_wp2_with fail;go_ret;exact⟨by rw[HR.out];rfl,gD.out⟩
 ·rw[yL s hc];have HR:Hid (xp s n=3):=Uq _ hc;clear hc;go_wp2_with fail;go_ret;exact⟨by rw[HR.out];rfl,gj.out⟩
theorem Rw(s:fN)(b:Int){w:World}{S:Nat->Prop}{p n:Nat}{d:List Int}{ws:List Wr}(h:pz w S p n d ws) :
  Calls prog 50 #[.pointer (some ⟨p,0,none⟩),.agg (aN s).toArray,.int .i64 b] w fun e w'=>e=.returned (.int .i64 (Eg s n b))/\Below w.heap.size w w':=by
 have L1:=zH (fC.gi (bE.new 23 w (aN s)));have HA:=zH (bE.new 23 w (aN s));have HB:Hid (Below w.heap.size w (w.alloc (.cells (aN s).toArray 23))):=ag w _;have HD:=zH (h.later HB.out);clear h;go_enter func50,ntmps50;go_wp2_with ((with_reducible refine aQ ?_);(refine aK (by rfl) 23 rfl rfl L1.out ?_);simp only[Act.put,zA,zB,zC])
 refine (FW s HD.out).mono ?_;rintro e w1 ⟨rfl,b1⟩;have uE:=zH (bE.later HA.out b1);have gj:Hid (Below w.heap.size w w1):=ah HB.out b1;have c0:=fC.c0 uE.out;clear b1 HA HB L1 HD uE;by_cases hr:xp s n=0
 ·rw[hr];go_wp2_with fail;refine (yY b s.bl _).mono ?_;rintro e w2 ⟨rfl,rfl⟩;by_cases hb:0<=b/\b<s.bl
  ·have HR:=zH (Uw hr hb);rw[aP hb];clear hb hr;go_wp2_with fail;go_ret;exact⟨by rw[HR.out];rfl,gj.out⟩
  ·have HR:=zH (Ob hr hb);rw[aF hb];clear hb hr;go_wp2_with fail;go_ret;exact⟨by rw[HR.out];rfl,gj.out⟩
 ·have HR:=zH (Ux b hr);generalize xp s n=q at *;have hq:(q != 0)=true:=by simp[hr]
  go_wp2_with fail;go_ret;exact⟨by rw[HR.out];rfl,gj.out⟩
theorem Rv(s:fN)(b:Int)(v:List Int)(hv:v.length=32)(zw:Bytes v){w:World}{S:Nat->Prop}{p n:Nat}{d:List Int}{ws:List Wr}(h:pz w S p n d ws)(hk:ws.length<=100000)(ht:qX w) :
  Calls prog 100 #[.pointer (some ⟨p,0,none⟩),.agg (aN s).toArray,.int .i64 b,.agg (U8 v).toArray] w fun e w'=>e=.returned (.int .i64 (Eg s n b))/\pz w' (kX S w) p n d (Zj s n ws b v)/\Kept S w w':=by
 obtain ⟨w0,mI⟩:∃x,x=(w.alloc (.cells (aN s).toArray 23)).alloc (.cells (U8 v).toArray 51):=⟨_,rfl⟩
 have ew:=mI.symm;have B0:Hid (Below w.heap.size w w0):=by rw[mI];exact ah (ag w _) (ag _ _)
 have C0:Hid (fC w0 w.heap.size s):=by rw[mI];exact bE.later (bE.new 23 w (aN s)) (ag _ _)
 have V0:Hid (Dq w0 (w.heap.size+1) v):=by
  have:=bE.new 51 (w.alloc (.cells (aN s).toArray 23)) (U8 v);rw[show (w.alloc (.cells (aN s).toArray 23)).heap.size=w.heap.size+1 by simp] at this;rw[mI];exact this
 have D0:=zH (h.later B0.out);have L1:=zH (fC.gi C0.out);have HT:=zH ht;have HV:=rf hv zw;have HK:=zH hk;clear mI h ht hv zw hk;go_enter func100,ntmps100;go_wp2_with ((with_reducible refine aQ ?_);(refine aK (by rfl) 23 rfl rfl L1.out ?_);simp only[Act.put,zA,zB,zC])
 clear ew;refine (Rw s b D0.out).mono ?_;rintro e w1 ⟨rfl,b1⟩;have B1:Hid (Below w.heap.size w w1):=ah B0.out b1;have V1:=zH (bE.later V0.out b1);have D1:=zH (D0.out.later b1);have L2:=zH (Dq.load V1.out HV.out.1);clear b1 B0 L1 C0 V0 D0 V1;by_cases hr:Eg s n b=0
 ·obtain ⟨hb,h0,h1⟩:=Uy hr;have HR:=zH (NK ws v hr);have HRZ:=zH hr;have yD:=hb.1;have qj:=hb.2;have H1:=zH h1;rw[hr];clear hr h0 h1;go_wp2_with ((with_reducible refine aQ ?_);(refine aK (by rfl) 51 rfl rfl L2.out ?_);simp only[Act.put,zA,zB,zC])
  refine (wS b v hb HV.out.1 HV.out.2 w1 (HT.out.later B1.out)).mono ?_;rintro e w2 ⟨g2,rfl,m2⟩;have B2:Hid (Below w.heap.size w w2):=ah B1.out m2.below;have D2:=zH (D1.out.later m2.below);have X2:=zH m2.read;clear m2 B1 D1 L2 hb;go_wp2_with fail;refine (AA D2.out (1+b) (by omega) H1.out _ 64 _ X2.out HK.out).mono ?_;rintro e w3 ⟨rfl,d3,k3⟩;have F3:Hid (pz w3 (kX S w) p n d (ws++[⟨(1+b).toNat,mz b v⟩])/\Kept S w w3):=by
   refine⟨d3.mono (fun k _ hs=>?_),(Kept.bP B2.out).trans k3 (fun _ _ t=>t)⟩;rcases hs with hs | hs
   ·exact .inl hs
   ·exact .inr (bJ B2.out.size hs)
  clear d3 k3 D2 X2 B2;go_wp2_with fail;go_ret;exact⟨by rw[HRZ.out];rfl,by rw[HR.out];exact F3.out.1,F3.out.2⟩
 ·have HR:=zH (KO ws v hr);have F1:Hid (pz w1 (kX S w) p n d ws/\Kept S w w1):=⟨D1.out.mono (fun k _ hs=>.inl hs),Kept.bP B1.out⟩
  obtain ⟨q,EI⟩:∃q,q=Eg s n b:=⟨_,rfl⟩
  have HQ:=zH EI;rw[<-EI] at hr ⊢;have hq:(q != 0)=true:=by simp[hr]
  clear L2 EI;go_wp2_with fail;go_ret;exact⟨by rw[<-HQ.out];rfl,by rw[HR.out];exact F1.out.1,F1.out.2⟩
end Go.Proofs.Zq
namespace Go.Proofs.Zq
open Go.RowKit
theorem bE.setCells{t:TypeId}{g:Nat}:∀(vs:List Value) (o:Nat) (w:World) (cs:List Value),bE t w g cs->o+vs.length<=cs.length->bE t (w.setCells g o vs) g (cs.take o++vs++cs.drop (o+vs.length))
 | [],o,w,cs,h,_=>by
  show bE t w g _;simpa using h
 | v :: r,o,w,cs,h,hl=>by
  simp only[bz] at hl;have:=bE.setCells r (o+1) (w.setCell ⟨g,o,none⟩ v) (cs.set o v) (bE.set h o v) (by rw[List.length_set];omega);have e:(cs.set o v).take (o+1)++r++(cs.set o v).drop (o+1+r.length)=cs.take o++v :: r++cs.drop (o+(r.length+1)):=by
   rw[bw (by rw[List.length_set];omega),List.take_set_of_le (by omega),List.drop_set_of_lt (by omega),List.getElem_set_self];simp[Nat.add_comm,Nat.add_left_comm]
  rw[e] at this;exact this
open Go.Proofs.Tryz
theorem BI(n:Int)(k:Nat)(w:World)(h0:0<=n)(h1:n<=18446744073709551615)(hk:k<=8) :
  Calls prog 175 #[.int .u64 n,.int .i64 k] w fun e w'=>∃v,e=.returned v/\w'.ownsRow w.heap.size 5 1 v k (U8 (digits k n))/\Below w.heap.size w w':=by
 obtain ⟨i0,hi,ij,gm,iL⟩:=cj mq;have HL:=zH (dG k n);go_enter func175,ntmps175;go_wp2
 go_loopw [0,5,6] (fun q v i wr=>∃j:Nat,j<=k/\i=.int .i64 j/\q=.int .u64 (n / 256 ^ j)/\wr.ownsRow w.heap.size 5 1 v j (U8 ((digits k n).take j))/\Below w.heap.size w wr) (fun _ _ i _=>k-(intOf i).toNat)
 case atStart=>exact⟨0,aI _,rfl,by simp,cq _ _ _ _,aV _ _⟩
 case round =>
  obtain ⟨j,hj,rfl,rfl,dR,hb⟩:=hrel;have Wv:=Xh n j h0;by_cases eP:j<k
  ·have Dg:j<(digits k n).length:=by rw[HL.out];exact eP
   have hg:=oW k n j Dg;have iU:=JG n j;obtain ⟨q,hq⟩:∃q,q=n / 256 ^ j:=⟨_,rfl⟩
   rw[<-hq] at Wv hg iU ⊢;have HS:=zH iU;have HG:=zH hg;have HO:=zH dR;have HB:=zH hb;clear hq iU hg dR hb;have hq1:q<=18446744073709551615:=by omega
   have EI:=Wv.1;have t1:q.tmod 256=q % 256:=mW EI;have t2:q.tdiv 256=q / 256:=Int.tdiv_eq_ediv_of_nonneg EI;go_wp2_with (at_builtin;refine dK _ rfl (.tmp 12) (.tmp 16) 107 rfl w.heap.size 5 i0 (.int .u8 0) 1 1 bK hi ij gm iL rfl (by decide) u5 j (U8 ((digits k n).take j)) rfl (HO.out.alloc _) ⟨wr.heap.size,0,none⟩ 1 1 [.int .u8 (q % 256)] rfl rfl (cell_one_new _ _ _) (by intro u hu;obtain rfl:=bg.1 hu;rfl) (by unfold maxLen;omega) (by omega) (by have:=HB.out.size;simp;omega) ?_)
   intro v' w1 rV Ca _;have R1:w1.ownsRow w.heap.size 5 1 v' (j+1) (U8 ((digits k n).take (j+1))):=by
    rw[bw Dg,HG.out];simpa [U8] using rV
   have R2:Below w.heap.size w w1:=(HB.out.alloc HB.out.size _).grown Ca (by have:=HB.out.size;simp;omega) (fun g hg=>(HO.out.lt g hg).1);have Gu:=zH R1;have CL:=zH R2;clear rV Ca R1 R2 HO HB;go_wp2;go_roundw
   case rel=>exact⟨j+1,by omega,by go_num,by rw[HS.out],Gu.out,CL.out⟩
   case measure=>simp[intOf];omega
  ·obtain rfl:k=j:=by omega
   rw[aL (by rw[HL.out];exact az _)] at dR;have HO:=zH dR;have HB:=zH hb;clear dR hb;go_wp2;go_ret;exact⟨u5,rfl,HO.out,HB.out⟩
theorem Cv{w w':World}{t:TypeId}{g:Nat}{cs:List Value}{base n:Nat}{v:Value}{xs:List Value}(hb:bE t w g cs)(ho:w.ownsRow base 5 1 v n xs)(hg:w.grownBy w' v.ownBlock)(ht:t≠5):bE t w' g cs:=by
 refine (hg.block g hb.lt (fun e=>?_)).trans hb;rcases ho.2 with ⟨rfl,_⟩ | ⟨g',cap,cur,rfl,_,h2,_⟩
 ·simp[Value.ownBlock] at e
 ·simp only[Value.ownBlock,aC] at e;subst e;unfold bE at hb;rw[hb] at h2;simp only[aC,Obj.cells.injEq] at h2;exact ht h2.2.1
theorem Sj(w:World)(s:fN):(Instr.build 204 #[(0,.agg (aN s).toArray),(1,.int .u64 0),(2,.int .u64 1)]).run prog w=.ok (.agg (eL (mX s)).toArray) w :=
 Pz w _ (mX s) (Cn (mX s))
theorem Rx(s:fN)(hc:iP s)(w:World)(ht:qX w) :
  Calls prog 56 #[.agg (aN s).toArray] w fun e w'=>∃p,e=.returned (.tuple #[.pointer (some ⟨p,0,none⟩),.int .i64 0])/\pz w' (fun k=>w.heap.size<=k) p (nG s) (kM s) []/\Below w.heap.size w w':=by
 obtain ⟨i0,hi,ij,gm,iL⟩:=cj mq;have L1:=zH (fC.gi (bE.new 23 w (aN s)));have HA:=zH (bE.new 23 w (aN s));have HB:Hid (Below w.heap.size w (w.alloc (.cells (aN s).toArray 23))):=ag w _;have U1:Hid (_):=Sj (w.alloc (.cells (aN s).toArray 23)) s;have HC:=zH hc;have HT:=zH ht;obtain ⟨m,hm⟩:∃m,m=s.bl.toNat:=⟨_,rfl⟩
 obtain ⟨l,hl⟩:∃l,l=s.lc.toNat:=⟨_,rfl⟩
 have qj:=hc.1;have lK:=hc.2.1;have OR:s.bl=(m:Int):=by omega
 have hli:s.lc=(l:Int):=by omega
 have Wj:1<=m:=by omega
 have hm2:m<=64:=by omega
 have YA:2<=l:=by omega
 have hl2:l<=64:=by omega
 obtain ⟨K,hK⟩:∃K,K=64*l:=⟨_,rfl⟩
 have HN:Hid (kM s=encS (mX s)++homes m++zs K/\64*(m+1)+K=64*nG s/\nG s<=4096):=by
  refine⟨by unfold kM;rw[hK,hl,hm],?_,?_⟩
  ·unfold nG;omega
  ·have:=(Pr hc).2;omega
 have tU:(l:Int)*64=(K:Int):=by omega
 have hk1:0<K:=by omega
 have wR:K<=4096:=by omega
 have HCI:Hid (∀w',fC w' w.heap.size s->w'.cell? ⟨w.heap.size,0,none⟩=some (.int .i64 (m:Int))/\w'.cell? ⟨w.heap.size,1,none⟩=some (.int .i64 (l:Int))):=by
  rw[<-OR,<-hli];exact fun w' h=>⟨fC.c0 h,fC.c1 h⟩
 clear hc ht hm hl qj lK OR hli hK;go_enter func56,ntmps56;go_wp2_with ((with_reducible refine aQ ?_);(first | (refine aK (by rfl) 23 rfl rfl L1.out ?_) | (refine bh (vs:=[(0,.agg (aN s).toArray),(1,.int .u64 0),(2,.int .u64 1)]) (by rfl) 204 rfl (by rfl) U1.out ?_));simp only[Act.put,zA,zB,zC])
 refine (pU (mX s) (Zk HC.out) (GZ HC.out) _ (HT.out.later HB.out)).mono ?_;rintro e w1 ⟨g1,rfl,m1⟩;have A1:=zH (bE.later HA.out m1.below);have B1:Hid (Below w.heap.size w w1):=ah HB.out m1.below;have O1:=zH (eH m1.own HB.out.size);clear m1 HA HB L1 U1;have c0:=(HCI.out _ A1.out).1;go_wp2_with fail;clear c0
 go_loopw [4,20] (fun v i wr=>∃k:Nat,k<=m/\i=.int .i64 k/\Hid (fC wr w.heap.size s/\wr.ownsRow w.heap.size 5 1 v (64*(k+1)) (U8 (encS (mX s)++homes k))/\Below w.heap.size w wr)) (fun _ i _=>m-(intOf i).toNat)
 case atStart=>exact⟨0,aI _,rfl,A1.out,by simpa [homes] using O1.out,B1.out⟩
 case round =>
  obtain ⟨k,hk,rfl,HI⟩:=hrel;clear A1 B1 O1;have Ar:=zH HI.out.1;have Or:=zH HI.out.2.1;have Br:=zH HI.out.2.2;clear HI;by_cases eP:k<m
  ·have U2:=zH (Xw wr);go_wp2_with ((with_reducible refine aQ ?_);(refine bh (vs:=[]) (by rfl) 51 rfl (by rfl) U2.out ?_);simp only[Act.put,zA,zB,zC])
   refine (wS (k:Int) (zs 32) ⟨by omega,by omega⟩ (bG 32) (jW 32) wr (HT.out.later Br.out)).mono ?_;rintro e w2 ⟨g2,rfl,m2⟩;have A2:=zH (bE.later Ar.out m2.below);have B2:Hid (Below w.heap.size w w2):=ah Br.out m2.below;have O2:=zH (dD Or.out m2.below);have X2:=zH m2.read;have HL:Hid ((mz (k:Int) (zs 32)).length=64):=yw _ (bG 32);have HX:Hid (U8 (encS (mX s)++homes (k+1))=U8 (encS (mX s)++homes k)++U8 (mz (k:Int) (zs 32))):=by show _=_;rw[uV];simp only[U8,cZ,aS]
   clear m2 Ar Or Br U2;generalize mz (k:Int) (zs 32)=hs at *;go_wp2_with (at_builtin;refine dK _ rfl (.tmp 32) (.tmp 33) 107 rfl w.heap.size 5 i0 (.int .u8 0) 1 1 bK hi ij gm iL rfl (by decide) u4 (64*(k+1)) (U8 (encS (mX s)++homes k)) rfl O2.out ⟨g2,0,none⟩ 64 64 (U8 hs) rfl (by rw[aX,HL.out]) X2.out.news (eO _) (by unfold maxLen;omega) (by omega) B2.out.size ?_)
   intro v3 w3 Jc uX _;have F3:Hid (fC w3 w.heap.size s/\w3.ownsRow w.heap.size 5 1 v3 (64*(k+1+1)) (U8 (encS (mX s)++homes (k+1)))/\Below w.heap.size w w3):=by
    refine⟨Cv A2.out O2.out uX (by decide),?_,B2.out.grown uX B2.out.size (fun g hg=>(O2.out.lt g hg).1)⟩;rw[HX.out,show 64*(k+1+1)=64*(k+1)+64 by omega];exact Jc
   clear Jc uX A2 B2 O2 X2;go_wp2_with fail;go_roundw
   case rel=>exact⟨k+1,by omega,by go_num,F3.out⟩
   case measure=>simp[intOf];omega
  ·obtain rfl:m=k:=by omega
   have c1:=(HCI.out _ Ar.out).2;obtain ⟨g4,c4,rfl,-⟩:=cB Or.out (by omega);go_wp2_with (at_builtin;refine fZ _ rfl (.tmp 36) _ 107 3 rfl w.heap.size 5 i0 (.int .u8 0) 1 .i64 .i64 bK fe hi ij gm iL rfl rfl g4 (64*(m+1)) c4 (U8 (encS (mX s)++homes m)) rfl Or.out K rfl hk1 (by unfold maxLen;omega) (by omega) Br.out.size ?_)
   intro v5 w5 mQ lM;have B5:Hid (Below w.heap.size w w5):=Br.out.grown lM Br.out.size (fun k hk=>(Or.out.lt k hk).1);have O5:Hid (w5.ownsRow w.heap.size 5 1 v5 (64*(m+1)+K) (U8 (kM s))):=by
    show w5.ownsRow _ _ _ _ _ _;rw[HN.out.1];simp only[U8,zs,cZ,lD] at mQ ⊢;exact mQ
   clear mQ lM Or Br Ar c1;obtain ⟨g5,c5,rfl,hc5⟩:=cB O5.out (by omega);have X5:=zH (kK O5.out (BE HC.out));go_wp2_with fail;refine (Rf g5 0 (64*(m+1)+K) c5 (nG s) (kM s) w5 X5.out HN.out.2.1 hc5 (by unfold nG;omega) HN.out.2.2).mono ?_;rintro e w6 ⟨p,rfl,d6,b6⟩;have F6:Hid (pz w6 (fun k=>w.heap.size<=k) p (nG s) (kM s) []/\Below w.heap.size w w6):=⟨d6.mono (fun k _ hk=>bJ B5.out.size hk),ah B5.out b6⟩
   clear d6 b6 X5 O5 B5;go_wp2_with fail;go_ret2;exact⟨p,rfl,F6.out.1,F6.out.2⟩
