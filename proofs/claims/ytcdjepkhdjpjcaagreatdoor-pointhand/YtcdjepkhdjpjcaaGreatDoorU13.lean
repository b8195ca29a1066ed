import Derived.Test.YtcdjepkhdjpjcaaGreatDoorU06
import Derived.Test.YtcdjepkhdjpjcaaGreatDoorU12
import Derived.Shelf.SlMaps.Clone
import Derived.Shelf.Sort.Plain
import Derived.Shelf.Slices.CompactI
import Derived.Shelf.Slices.In.SortNone
set_option maxHeartbeats 20000000
set_option maxRecDepth 100000
namespace Go.Proofs.Zq.E.L
def look (t:Int):List (Int × Int)->Option Int
 | []=>none
 | x :: xs=>if x.1=t then some x.2 else look t xs
def pos (t:Int):List (Int × Int)->Nat
 | []=>0
 | x :: xs=>if x.1=t then 0 else pos t xs+1
def total:List (Int × Int)->Int
 | []=>0
 | x :: xs=>x.2+total xs
def cut (t:Int):List (Int × Int)->List (Int × Int)
 | []=>[]
 | x :: xs=>if x.1=t then xs else x :: cut t xs
def set (t v:Int):List (Int × Int)->List (Int × Int)
 | []=>[]
 | x :: xs=>if x.1=t then (t,v) :: xs else x :: set t v xs
structure si (L:List (Int × Int)):Prop where
 ya:∀x∈L,0<=x.2
 once:(L.map Prod.fst).Nodup
theorem si.nil:si []:=⟨fun _ h=>absurd h dL,List.nodup_nil⟩
theorem si.tail{x:Int × Int}{xs:List (Int × Int)}(h:si (x :: xs)):si xs:=⟨fun y hy=>h.ya y (cO _ hy),(List.nodup_cons.1 h.once).2⟩
theorem Eu{t:Int}:∀{L:List (Int × Int)},look t L=none↔t ∉ L.map Prod.fst
 | []=>by simp[look]
 | x :: xs=>by
  by_cases e:x.1=t
  ·simp[look,e]
  ·simp only[look,aD e,l_,bZ,not_or];rw[Eu (L:=xs)];exact⟨fun h=>⟨fun e2=>e e2.symm,h⟩,fun h=>h.2⟩
theorem IJ{t u n:Int}:∀{L:List (Int × Int)},look u L=none->look t (L++[(u,n)])=if t=u then some n else look t L
 | [],_=>by
  by_cases e:u=t
  ·subst e;simp[look]
  ·simp[look,e,Ne.symm e]
 | x :: xs,h=>by
  by_cases e:x.1=u
  ·simp[look,e] at h
  ·simp only[look,aD e] at h;by_cases e2:x.1=t
   ·subst e2;simp[look,e]
   ·simp only[ct,look,aD e2,IJ h]
theorem BJ{t u v:Int}:∀{L:List (Int × Int)} {n:Int},look u L=some n->look t (set u v L)=if t=u then some v else look t L
 | [],_,h=>by simp[look] at h
 | x :: xs,n,h=>by
  by_cases e:x.1=u
  ·by_cases e2:t=u
   ·subst e2;simp[set,look,e]
   ·subst e;have:¬x.1=t:=fun e3=>e2 e3.symm;simp[set,look,this,e2]
  ·simp only[look,aD e] at h;by_cases e2:x.1=t
   ·subst e2;simp[set,look,e]
   ·simp only[set,look,aD e,aD e2,BJ h]
theorem II{t u:Int}:∀{L:List (Int × Int)},si L->look t (cut u L)=if t=u then none else look t L
 | [],_=>by simp[look,cut]
 | x :: xs,h=>by
  by_cases e:x.1=u
  ·by_cases e2:t=u
   ·subst e2;have h1:look t xs=none:=Eu.2 (by rw[<-e];exact (List.nodup_cons.1 h.once).1);simp[cut,e,h1]
   ·subst e;have:¬x.1=t:=fun e3=>e2 e3.symm;simp[cut,look,this,e2]
  ·by_cases e2:x.1=t
   ·subst e2;simp[cut,look,e]
   ·simp only[cut,look,aD e,aD e2,II h.tail]
theorem tG(n u:Int):∀L:List (Int × Int),total (L++[(u,n)])=total L+n
 | []=>by simp[total]
 | x :: xs=>by simp only[ct,total,tG n u xs];omega
theorem tF{u v:Int}:∀{L:List (Int × Int)} {n:Int},look u L=some n->total (set u v L)=total L-n+v
 | [],_,h=>by simp[look] at h
 | x :: xs,n,h=>by
  by_cases e:x.1=u
  ·simp only[look,aE e,aC] at h;simp only[set,aE e,total];omega
  ·simp only[look,aD e] at h;simp only[set,aD e,total,tF h];omega
theorem xC{u:Int}:∀{L:List (Int × Int)} {n:Int},look u L=some n->total (cut u L)=total L-n
 | [],_,h=>by simp[look] at h
 | x :: xs,n,h=>by
  by_cases e:x.1=u
  ·simp only[look,aE e,aC] at h;simp only[cut,aE e,total];omega
  ·simp only[look,aD e] at h;simp only[cut,aD e,total,xC h];omega
theorem kI:∀{L:List (Int × Int)},si L->0<=total L
 | [],_=>iy _
 | x :: xs,h=>by
  have:=h.ya x (bS ..);have:=kI h.tail;simp only[total];omega
theorem Ab{t n:Int}:∀{L:List (Int × Int)},si L->look t L=some n->0<=n/\n<=total L
 | [],_,h=>by simp[look] at h
 | x :: xs,h,e=>by
  have:=h.ya x (bS ..);by_cases e2:x.1=t
  ·simp only[look,aE e2,aC] at e;have:=kI h.tail;simp only[total];omega
  ·simp only[look,aD e2] at e;have:=Ab h.tail e;simp only[total];omega
theorem NR(u v:Int):∀L:List (Int × Int),(set u v L).map Prod.fst=L.map Prod.fst
 | []=>rfl
 | x :: xs=>by
  by_cases e:x.1=u
  ·simp[set,e]
  ·simp[set,e,NR u v xs]
theorem NQ{u v:Int}:∀{L:List (Int × Int)} {x:Int × Int},x∈set u v L->x=(u,v)\/x∈L
 | [],x,h=>by simp[set] at h
 | y :: ys,x,h=>by
  by_cases e:y.1=u
  ·simp only[set,aE e,bZ] at h;rcases h with h | h
   ·exact .inl h
   ·exact .inr (cO _ h)
  ·simp only[set,aD e,bZ] at h;rcases h with h | h
   ·exact .inr (h ▸ bS ..)
   ·rcases NQ h with h | h
    ·exact .inl h
    ·exact .inr (cO _ h)
theorem si.set{L:List (Int × Int)}(h:si L){u v:Int}(hv:0<=v):si (set u v L):=by
 refine⟨fun x hx=>?_,by rw[NR];exact h.once⟩;rcases NQ hx with rfl | hx
 ·exact hv
 ·exact h.ya x hx
theorem UL(t:Int):∀L:List (Int × Int),pos t L<=L.length
 | []=>az _
 | x :: xs=>by
  have:=UL t xs;simp only[pos,bz];split <;> omega
theorem BK(t:Int):∀L:List (Int × Int),look t L=(L[pos t L]?).map Prod.snd
 | []=>rfl
 | x :: xs=>by
  by_cases e:x.1=t
  ·simp[look,pos,e]
  ·simp[look,pos,e,BK t xs]
theorem Fv(t:Int):∀{L:List (Int × Int)} (h:pos t L<L.length),(L[pos t L]).1=t
 | [],h=>by simp[pos] at h
 | x :: xs,h=>by
  by_cases e:x.1=t
  ·simp[pos,e]
  ·have h2:pos t xs<xs.length:=by simp only[pos,aD e,bz] at h;omega
   have:=Fv t h2;simpa [pos,e] using this
theorem UJ{t n:Int}{L:List (Int × Int)}(h:look t L=some n):∃hp:pos t L<L.length,L[pos t L]=(t,n):=by
 rw[BK] at h;by_cases hp:pos t L<L.length
 ·refine⟨hp,?_⟩;rw[ay hp] at h;simp only[iZ,aC] at h;exact Prod.ext (Fv t hp) h
 ·rw[cS (by omega)] at h;cases h
theorem UK{t:Int}{L:List (Int × Int)}(h:look t L=none):pos t L=L.length:=by
 rw[BK] at h;have:=UL t L;by_cases hp:pos t L<L.length
 ·rw[ay hp] at h;cases h
 ·omega
theorem UM{t : Int} : ∀ {L : List (Int × Int)}, si L -> ∀ {k : Nat} (hk : k < L.length), (L[k]).1 = t -> pos t L = k
  | [], _, k, hk, _ => by simp at hk
  | x :: xs, h, k, hk, e => by
    cases k with
    | zero => have e' : x.1 = t := by simpa using e
              simp [pos, e']
    | succ k =>
      have kN : k < xs.length := by simpa using hk
      have e' : (xs[k]).1 = t := by simpa using e
      have kG : ¬ x.1 = t := fun e2 => (List.nodup_cons.1 h.once).1 (by rw [e2, <- e']; exact cF.2 ⟨xs[k], eA kN, rfl⟩);simp [pos, kG, UM h.tail kN e']
structure Lg where
 cap:Int
 mark:Int
 used:Int
 L:List (Int × Int)
structure Ok (s:Lg):Prop where
 qN:2<=s.cap
 acF:s.cap<=64
 sy:0<=s.used
 room:s.used+total s.L<=s.cap
 fine:si s.L
abbrev BH (c m:Int):Prop:=2<=c/\c<=64/\1<=m/\m<=c
def kM (c m:Int):Lg:=⟨c,m,0,[]⟩
theorem Ok.new{c m:Int}(h:BH c m):Ok (kM c m):=⟨h.1,h.2.1,iy _,by have:=h.1;simp only[kM,total];omega,si.nil⟩
def nW (s:Lg)(n:Int):Bool:=decide (1<=n/\n<=s.cap-s.used-total s.L)
def ue (s:Lg)(t n:Int):Int:=if t=0\/n<1 then 2 else if (look t s.L).isSome then 110 else if nW s n then 0 else 120
def Qu (s:Lg)(t n:Int):Lg:=if ue s t n=0 then { s with L:=s.L++[(t,n)] } else s
def jO (s:Lg)(t:Int):Int:=match look t s.L with | none=>110 | some n=>if n=0 then 120 else 0
def jI (s:Lg)(t:Int):Lg:=match look t s.L with | none=>s | some n=>if n=0 then s else { s with used:=s.used+1,L:=set t (n-1) s.L }
def JS (s:Lg)(t:Int):Int:=if (look t s.L).isSome then 0 else 110
def Sa (s:Lg)(t:Int):Lg:={ s with L:=cut t s.L }
def Ck (s:Lg)(n:Int):Int:=if 0<=n/\n<=s.used then 0 else 2
def ku (s:Lg)(n:Int):Lg:=if 0<=n/\n<=s.used then { s with used:=s.used-n } else s
theorem JL{t:Int}:∀{L:List (Int × Int)},look t L=none->cut t L=L
 | [],_=>rfl
 | x :: xs,h=>by
  by_cases e:x.1=t
  ·simp[look,e] at h
  ·simp only[look,aD e] at h;simp only[cut,aD e,JL h]
theorem Ok.app{s:Lg}(h:Ok s)(t:Int):Ok (jI s t):=by
 unfold jI;split
 ·exact h
 ·rename_i n e;have:=Ab h.fine e;split
  ·exact h
  ·exact⟨h.qN,h.acF,by have:=h.sy;show 0<=s.used+1;omega,by have:=h.room;show s.used+1+total (set t (n-1) s.L)<=s.cap;rw[tF e];omega,h.fine.set (by omega)⟩
theorem Ok.ac9{s:Lg}(h:Ok s):0<=total s.L:=kI h.fine
theorem Ok.zo{s:Lg}(h:Ok s):2<=s.cap/\s.cap<=64/\0<=s.used/\0<=total s.L/\s.used+total s.L<=s.cap:=⟨h.qN,h.acF,h.sy,h.ac9,h.room⟩
end Go.Proofs.Zq.E.L
namespace Go.Proofs.Zq.E.L
open Go.Proofs.Tryz
open Go.RowKit
open Go.Maps (Keyed)
abbrev lp (Q:Nat):Value:=.pointer (some ⟨Q,0,none⟩)
theorem uz:Keyed prog 52:=Maps.int_keyed underlying52
theorem ago(w:World):(zeroValue 3).run prog w=.ok (.int .i64 0) w:=by kernel_rfl
def vG (t:Int):Prop:=(Lit.int .u64 t).wf=true
theorem vG.key{t:Int}(h:vG t):keyOf prog 52 (.int .u64 t)=some (.int .u64 t):=Maps.keyOf_int_mk underlying52 h
theorem VX{k:Int}(h0:0<=k)(h1:k<=1000):(Lit.int .i64 k).wf=true:=by
 have e1:IntKind.i64.min=-9223372036854775808:=by decide
 have e2:IntKind.i64.max=9223372036854775807:=by decide
 simp only[Lit.wf,e1,e2,Bool.and_eq_true,gx];omega
theorem Kept.sM{w w':World}{b:Nat}(h:w.grownBy w' (some b)):Kept (·=b) w w':=⟨h.os,h.tape,h.output,h.size,fun x hx kG=>h.block x hx fun e=>kG (by simpa using e)⟩
def Mp (w:World)(b n:Nat)(L:List (Int × Int)):Prop:=∃D:DataW Unit,w.ownsMap prog 52 (plainElem prog 3) b n D/\∀t,vG t->Maps.has D (.int .u64 t)=(look t L).isSome/\D.atKey (.int .u64 t) (.lit (.int .i64 0))=.lit (.int .i64 ((look t L).getD 0))
theorem Mp.Kn{w:World}{b n:Nat}{L:List (Int × Int)}(h:Mp w b n L):∃es clock,w.heap[b]?=some (.map es clock):=by
 obtain ⟨D,⟨es,clock,hb,_⟩,_⟩:=h;exact⟨es,clock,hb⟩
theorem Mp.lt{w:World}{b n:Nat}{L:List (Int × Int)}(h:Mp w b n L):b<w.heap.size:=by
 obtain ⟨es,clock,hb⟩:=h.Kn;exact (au.1 hb).1
theorem Mp.kept{w w':World}{b n:Nat}{L:List (Int × Int)}(h:Mp w b n L)(hk:w'.heap[b]?=w.heap[b]?):Mp w' b n L:=by
 obtain ⟨D,⟨es,clock,hb,r⟩,hD⟩:=h;exact⟨D,⟨es,clock,hk.trans hb,r⟩,hD⟩
theorem Mp.mono{w:World}{b n m:Nat}{L:List (Int × Int)}(h:Mp w b n L)(hm:n<=m):Mp w b m L:=by
 obtain ⟨D,ho,hD⟩:=h;exact⟨D,ho.mono hm,hD⟩
theorem Mp.made(w:World):Mp (w.alloc (.map #[] 0)) w.heap.size 0 []:=⟨_,World.ownsMap_made w _ _ _,fun _ _=>⟨rfl,rfl⟩⟩
theorem Mp.nB{w:World}{b n:Nat}{L:List (Int × Int)}(h:Mp w b n L){t:Int}(ht:vG t) :
  (Instr.lookup 195 (.map (some b)) (.int .u64 t) true).run prog w=.ok (.tuple #[.int .i64 ((look t L).getD 0),.bool (look t L).isSome]) w:=by
 obtain ⟨D,ho,hD⟩:=h;obtain ⟨v,ps,dM,hv⟩:=ho.look_ok uz underlying195 (ago w) (plainElem_int fe (by decide)) ht.key;obtain ⟨a,rfl,ha,_⟩:=plainElem_int_inv fe hv;rw[(hD t ht).1] at dM;have e:=congrArg Prod.fst ha;simp only[(hD t ht).2] at e;injection e with e;injection e with _ e;rw[dM,e]
theorem Mp.zV{w:World}{b n:Nat}{L L':List (Int × Int)}(h:Mp w b n L)(hn:n<10000){t v:Int}(ht:vG t)(hv:(Lit.int .i64 v).wf=true)(hL:∀u,look u L'=if u=t then some v else look u L) :
  ∃w',(Instr.mapUpdate 195 (.map (some b)) (.int .u64 t) (.int .i64 v)).run prog w=.ok () w'/\Mp w' b (n+1) L'/\Kept (·=b) w w':=by
 obtain ⟨D,ho,hD⟩:=h;have hml:10000<=maxLen:=by decide
 obtain ⟨w',dM,h1,h2⟩:=ho.store uz underlying195 (by omega) ht.key (plainElem_int fe hv);refine⟨w',dM,⟨_,h1,fun u hu=>?_⟩,Kept.sM h2.grown⟩;rw[hL u];by_cases e:u=t
 ·subst e;rw[aE rfl,Maps.has_put_same ho.isMap (uz.key ht.key),Maps.atKey_put_same ho.isMap (uz.key ht.key)];exact⟨rfl,rfl⟩
 ·have kG:(Lit.int .u64 u)≠Lit.int .u64 t:=fun e2=>e (by injection e2);rw[aD e,Maps.has_put_other kG,Maps.atKey_put_other kG];exact hD u hu
theorem Mp.Fo{w:World}{b n:Nat}{L L':List (Int × Int)}(h:Mp w b n L){t:Int}(ht:vG t)(hL:∀u,look u L'=if u=t then none else look u L)(ty:TypeId) :
  ∃w',(Builtin.delete_ #[195,52] ty #[.map (some b),.int .u64 t]).run prog w=.ok (.tuple #[]) w'/\Mp w' b n L'/\Kept (·=b) w w':=by
 obtain ⟨D,ho,hD⟩:=h;obtain ⟨w',dM,h1,h2⟩:=ho.drop uz underlying195 ht.key ty;refine⟨w',dM,⟨_,h1,fun u hu=>?_⟩,Kept.sM h2.grown⟩;rw[hL u];by_cases e:u=t
 ·subst e;rw[aE rfl,Maps.has_del_same,Maps.atKey_del_same];exact⟨rfl,rfl⟩
 ·have kG:(Lit.int .u64 u)≠Lit.int .u64 t:=fun e2=>e (by injection e2);rw[aD e,Maps.has_del_other kG,Maps.atKey_del_other kG];exact hD u hu
structure bE (w:World) (Q b n:Nat) (s:Lg):Prop where
 st:w.heap[Q]?=some (.cells #[.int .i64 s.cap,.int .i64 s.mark,.int .i64 s.used,.map (some b),.int .i64 (total s.L)] 197 (0,0))
 mp:Mp w b n s.L
section
variable {w w':World} {Q b n:Nat} {s:Lg}
theorem bE.lt(h:bE w Q b n s):Q<w.heap.size:=(au.1 h.st).1
theorem bE.c0(h:bE w Q b n s):w.cell? ⟨Q,0,none⟩=some (.int .i64 s.cap):=by rw[aq _ Q 0 _ 197 (0,0) h.st];rfl
theorem bE.c2(h:bE w Q b n s):w.cell? ⟨Q,2,none⟩=some (.int .i64 s.used):=by rw[aq _ Q 2 _ 197 (0,0) h.st];rfl
theorem bE.c3(h:bE w Q b n s):w.cell? ⟨Q,3,none⟩=some (.map (some b)):=by rw[aq _ Q 3 _ 197 (0,0) h.st];rfl
theorem bE.c4(h:bE w Q b n s):w.cell? ⟨Q,4,none⟩=some (.int .i64 (total s.L)):=by rw[aq _ Q 4 _ 197 (0,0) h.st];rfl
theorem bE.free(h:bE w Q b n s)(o:Nat):w.frozen? ⟨Q,o,none⟩=false:=by simp[World.frozen?,h.st]
theorem bE.ne(h:bE w Q b n s):b≠Q:=fun e=>by
 obtain ⟨es,clock,hb⟩:=h.mp.Kn;rw[e,h.st] at hb;cases hb
theorem bE.kept(h:bE w Q b n s)(h1:w'.heap[Q]?=w.heap[Q]?)(h2:w'.heap[b]?=w.heap[b]?):bE w' Q b n s:=⟨h1.trans h.st,h.mp.kept h2⟩
theorem bE.later(h:bE w Q b n s)(hb:Below w.heap.size w w'):bE w' Q b n s:=h.kept (hb.block Q h.lt) (hb.block b h.mp.lt)
theorem bE.drawn(h:bE w Q b n s)(nq:Nat):bE (w.drewN nq) Q b n s:=h.later (av nq)
theorem bE.mono{m:Nat}(h:bE w Q b n s)(hm:n<=m):bE w Q b m s:=⟨h.st,h.mp.mono hm⟩
theorem Fe(h:bE w Q b n s):Calls prog 53 #[lp Q] w fun e w'=>e=.returned (.int .i64 s.used)/\w'=w:=by
 have c2:=h.c2;clear h;go_enter func53,ntmps53;go_wp2;go_ret;exact⟨rfl,rfl⟩
theorem sI(h:bE w Q b n s):Calls prog 189 #[lp Q] w fun e w'=>e=.returned (.int .i64 (total s.L))/\w'=w:=by
 have c4:=h.c4;clear h;go_enter func189,ntmps189;go_wp2;go_ret;exact⟨rfl,rfl⟩
theorem left_at(h:bE w Q b n s){t:Int}(ht:vG t):Calls prog 161 #[lp Q,.int .u64 t] w fun e w'=>e=.returned (.tuple #[.int .i64 ((look t s.L).getD 0),.bool (look t s.L).isSome])/\w'=w:=by
 have c3:=h.c3;have hr:=h.mp.nB ht;clear h;generalize (look t s.L).getD 0=a at *;generalize (look t s.L).isSome=c at *;go_enter func161,ntmps161;go_wp2;go_ret2;exact⟨rfl,rfl⟩
theorem tX(h:bE w Q b n s)(ok:Ok s)(k:Int):Calls prog 154 #[lp Q,.int .i64 k] w fun e w'=>e=.returned (.bool (nW s k))/\∃m,w'=w.drewN m:=by
 have c0:=h.c0;have c2:=h.c2;have c4:=h.c4;obtain ⟨n1,n2,n3,n4,n5⟩:=ok.zo;have HF:Hid (nW s k=decide (1<=k/\k<=s.cap-s.used-total s.L)):=rfl;clear h ok;generalize nW s k=f at *;generalize s.cap=cp at *;generalize s.used=us at *;generalize total s.L=tl at *;go_enter func154,ntmps154;go_wp2_with fail;by_cases h1:(1:Int)<=k
 ·go_quiet (fail);go_wp2;go_ret;refine⟨?_,_,rfl⟩;rw[HF.out];by_cases h2:k<=cp-us-tl
  ·simp[h1,h2]
  ·simp[h2]
 ·have h2:decide ((1:Int)<=k)=false:=aF h1;go_quiet (fail);go_wp2;go_ret;refine⟨?_,_,rfl⟩;rw[HF.out];have h3:¬(1<=k/\k<=cp-us-tl):=by omega
  simp[h3]
theorem Md(w:World){c m:Int}(h:BH c m):Calls prog 181 #[.int .i64 c,.int .i64 m] w fun e w'=>e=.returned (.tuple #[lp (w.heap.size+1),.int .i64 0])/\bE w' (w.heap.size+1) w.heap.size 0 (kM c m)/\Below w.heap.size w w':=by
 obtain ⟨h1,h2,h3,h4⟩:=h;have Kr:=@run_makeMap prog;go_enter func181,ntmps181;go_wp2;go_ret2;have e:(w.alloc (.map #[] 0)).heap.size=w.heap.size+1:=by simp
 refine⟨rfl,⟨?_,(Mp.made w).kept ((ag _ _).block _ (by rw[e];omega))⟩,ah (ag w _) (ag _ _)⟩;rw[<-e];exact aG _ _
end
end Go.Proofs.Zq.E.L
namespace Go.Proofs.Zq.E.L
open Go.Proofs.Tryz
open Go.RowKit
theorem aaG{w:World}{Q:Nat}{a0 a1 a2 a3 a4:Value}{ty:TypeId}(h:w.heap[Q]?=some (.cells #[a0,a1,a2,a3,a4] ty (0,0))) :
  w.cell? ⟨Q,0,none⟩=some a0/\w.cell? ⟨Q,1,none⟩=some a1/\w.cell? ⟨Q,2,none⟩=some a2/\w.cell? ⟨Q,3,none⟩=some a3/\w.cell? ⟨Q,4,none⟩=some a4/\∀o,w.frozen? ⟨Q,o,none⟩=false :=
 ⟨by rw[aq _ Q 0 _ ty (0,0) h];rfl,by rw[aq _ Q 1 _ ty (0,0) h];rfl,by rw[aq _ Q 2 _ ty (0,0) h];rfl,by rw[aq _ Q 3 _ ty (0,0) h];rfl,by rw[aq _ Q 4 _ ty (0,0) h];rfl,fun o=>by simp[World.frozen?,h]⟩
theorem jL{w:World}{Q:Nat}{cs:Array Value}{ty:TypeId}(o:Nat)(v:Value)(h:w.heap[Q]?=some (.cells cs ty (0,0))):(w.setCell ⟨Q,o,none⟩ v).heap[Q]?=some (.cells (cs.setIfInBounds o v) ty (0,0)):=by
 rw[bM w Q o _ ty (0,0) v h];exact cK w Q _ _ ty _ h
theorem Zr{s:Lg}{t k:Int}(h:t=0\/k<1):ue s t k=2:=by simp only[ue,aE h]
theorem Ue{s:Lg}{t k v:Int}(h:¬(t=0\/k<1))(e:look t s.L=some v):ue s t k=110:=by simp only[ue,aD h,e,Option.isSome_some,if_true]
theorem Ed{s:Lg}{t k:Int}(h:¬(t=0\/k<1))(e:look t s.L=none)(f:nW s k=false):ue s t k=120:=by simp[ue,if_neg h,e,f]
theorem NU{s:Lg}{t k:Int}(h:¬(t=0\/k<1))(e:look t s.L=none)(f:nW s k=true):ue s t k=0:=by simp[ue,if_neg h,e,f]
theorem wj{s:Lg}{t k:Int}(h:ue s t k≠0):Qu s t k=s:=aD h
theorem NT{s:Lg}{t k:Int}(h:ue s t k=0):Qu s t k={ s with L:=s.L++[(t,k)] }:=aE h
section
variable {w w':World} {Q b n:Nat} {s:Lg}
def LF (Q b:Nat)(x:Nat):Prop:=x=Q\/x=b
theorem Lm(w:World)(Q:Nat){t k:Int}(h:t=0\/k<1):Calls prog 89 #[lp Q,.int .u64 t,.int .i64 k] w fun e w'=>e=.returned (.int .i64 2)/\w'=w:=by
 by_cases h0:t=0
 ·subst h0;clear h;go_enter func89,ntmps89;go_wp2;go_ret;exact⟨rfl,rfl⟩
 ·have h1:k<1:=by omega
  have h2:(t == 0)=false:=by simpa using h0
  clear h;go_enter func89,ntmps89;go_wp2;go_ret;exact⟨rfl,rfl⟩
theorem Ic(h:bE w Q b n s){t k v:Int}(ht:vG t)(h0:¬t=0)(h1:¬k<1)(e:look t s.L=some v):Calls prog 89 #[lp Q,.int .u64 t,.int .i64 k] w fun e w'=>e=.returned (.int .i64 110)/\w'=w:=by
 have c3:=h.c3;have hr:=h.mp.nB ht;rw[e] at hr;simp only[kT,Option.isSome_some] at hr;have h2:(t == 0)=false:=by simpa using h0
 clear h;go_enter func89,ntmps89;go_wp2;go_ret;exact⟨rfl,rfl⟩
theorem Fq(h:bE w Q b n s)(ok:Ok s){t k:Int}(ht:vG t)(h0:¬t=0)(h1:¬k<1)(e:look t s.L=none)(f:nW s k=false):Calls prog 89 #[lp Q,.int .u64 t,.int .i64 k] w fun e w'=>e=.returned (.int .i64 120)/\∃m,w'=w.drewN m:=by
 have c3:=h.c3;have hr:=h.mp.nB ht;rw[e] at hr;simp only[Option.getD_none,Option.isSome_none] at hr;have h2:(t == 0)=false:=by simpa using h0
 have hf:=tX h ok k;rw[f] at hf;clear h ok;go_enter func89,ntmps89;go_wp2_with (go_at_call 154;refine hf.mono ?_;rintro e w' ⟨rfl,m,rfl⟩)
 go_ret;exact⟨rfl,_,rfl⟩
theorem Ll(h:bE w Q b n s)(ok:Ok s)(hn:n<10000){t k:Int}(ht:vG t)(h0:¬t=0)(h1:¬k<1)(e:look t s.L=none)(f:nW s k=true) :
  Calls prog 89 #[lp Q,.int .u64 t,.int .i64 k] w fun e w'=>e=.returned (.int .i64 0)/\bE w' Q b (n+1) { s with L:=s.L++[(t,k)] }/\Kept (LF Q b) w w':=by
 have c3:=h.c3;have hr:=h.mp.nB ht;rw[e] at hr;simp only[Option.getD_none,Option.isSome_none] at hr;have h2:(t == 0)=false:=by simpa using h0
 have hf:=tX h ok k;have f':1<=k/\k<=s.cap-s.used-total s.L:=by simpa [nW] using f
 rw[f] at hf;obtain ⟨n1,n2,n3,n4,n5⟩:=ok.zo;have hf2:Calls prog 154 #[lp Q,.int .i64 k] w fun e w'=>e=.returned (.bool true)/\bE w' Q b n s/\Kept (LF Q b) w w':=hf.mono fun e w' hh=>by
  obtain ⟨h1,m,rfl⟩:=hh;exact⟨h1,h.drawn m,Kept.bP _ (av m)⟩
 clear h ok hf;go_enter func89,ntmps89;go_wp2_with fail;refine hf2.mono ?_;rintro e w1 ⟨rfl,h3,k3⟩;have H3:=rf h3 k3;obtain ⟨w2,hu,hm,hk⟩:=h3.mp.zV (L':=s.L++[(t,k)]) hn ht (VX (by omega) (by omega)) (fun u=>IJ e);have sV:Hid (w2.heap[Q]?=some (.cells #[.int .i64 s.cap,.int .i64 s.mark,.int .i64 s.used,.map (some b),.int .i64 (total s.L)] 197 (0,0))):=(hk.block Q h3.lt (fun e=>h3.ne e.symm)).trans h3.st;have H2:=rf hm hk;have d3:=h3.c3;obtain ⟨_,_,_,_,e4,ef⟩:=aaG sV.out;have e4f:=ef 4;clear h3 k3 hm hk ef hr;go_wp2;go_ret;refine⟨rfl,⟨?_,H2.out.1.kept ((Kept.setCell Q 4 _).block b H2.out.1.lt H3.out.1.ne)⟩,(H3.out.2.trans H2.out.2 fun x _ e=>.inr e).trans (Kept.setCell Q 4 _) fun x _ e=>.inl e⟩;rw[jL 4 _ sV.out,tG];rfl
theorem Bi(h:bE w Q b n s)(ok:Ok s)(hn:n<10000){t:Int}(ht:vG t)(k:Int) :
  Calls prog 89 #[lp Q,.int .u64 t,.int .i64 k] w fun e w'=>e=.returned (.int .i64 (ue s t k))/\bE w' Q b (n+1) (Qu s t k)/\Kept (LF Q b) w w':=by
 by_cases h1:t=0\/k<1
 ·have e1:=Zr (s:=s) h1;rw[e1,wj (by rw[e1];decide)];exact (Lm w Q h1).mono fun e w' ⟨a,c⟩=>⟨a,by rw[c];exact h.mono (di _),by rw[c];exact Kept.refl _ _⟩
 ·cases hl:look t s.L with
  | some v =>
   have e1:=Ue h1 hl;rw[e1,wj (by rw[e1];decide)];exact (Ic h ht (by omega) (by omega) hl).mono fun e w' ⟨a,c⟩=>⟨a,by rw[c];exact h.mono (di _),by rw[c];exact Kept.refl _ _⟩
  | none =>
   cases hf:nW s k with
   | false =>
    have e1:=Ed h1 hl hf;rw[e1,wj (by rw[e1];decide)];refine (Fq h ok ht (by omega) (by omega) hl hf).mono fun e w' hh=>?_;obtain ⟨a,m,rfl⟩:=hh;exact⟨a,(h.drawn m).mono (di _),Kept.bP _ (av m)⟩
   | true =>
    have e1:=NU h1 hl hf;rw[e1,NT e1];exact Ll h ok hn ht (by omega) (by omega) hl hf
theorem qO(h:bE w Q b n s)(ok:Ok s)(hn:n<10000){t:Int}(ht:vG t) :
  Calls prog 95 #[lp Q,.int .u64 t] w fun e w'=>e=.returned (.int .i64 (jO s t))/\bE w' Q b (n+1) (jI s t)/\Kept (LF Q b) w w':=by
 have H:=zH h;have c3:=h.c3;have hr:=h.mp.nB ht;cases e:look t s.L with
 | none =>
  rw[e] at hr;simp only[Option.getD_none,Option.isSome_none] at hr;have HE:Hid (jO s t=110/\jI s t=s):=⟨by simp[jO,e],by simp[jI,e]⟩
  clear h ok;go_enter func95,ntmps95;go_wp2;go_ret;rw[HE.out.1,HE.out.2];exact⟨rfl,H.out.mono (di _),Kept.refl _ _⟩
 | some v =>
  rw[e] at hr;simp only[kT,Option.isSome_some] at hr;by_cases hv:v=0
  ·subst hv;have HE:Hid (jO s t=120/\jI s t=s):=⟨by simp[jO,e],by simp[jI,e]⟩
   clear h ok;go_enter func95,ntmps95;go_wp2;go_ret;rw[HE.out.1,HE.out.2];exact⟨rfl,H.out.mono (di _),Kept.refl _ _⟩
  ·have HE:Hid (jO s t=0/\jI s t={ s with used:=s.used+1,L:=set t (v-1) s.L }):=⟨by simp[jO,e,hv],by simp[jI,e,hv]⟩
   obtain ⟨n1,n2,n3,n4,n5⟩:=ok.zo;have hle:=Ab ok.fine e;have uT:(v == 0)=false:=by simpa using hv
   have HT:Hid (total (set t (v-1) s.L)=total s.L-1):=by have:=tF (v:=v-1) e;show _=_;omega
   obtain ⟨w2,hu,hm,hk⟩:=h.mp.zV (L':=set t (v-1) s.L) (v:=v-1) hn ht (VX (by omega) (by omega)) (fun u=>BJ e);have sV:Hid (w2.heap[Q]?=some (.cells #[.int .i64 s.cap,.int .i64 s.mark,.int .i64 s.used,.map (some b),.int .i64 (total s.L)] 197 (0,0))):=(hk.block Q h.lt (fun e=>h.ne e.symm)).trans h.st;have H2:=rf hm hk;obtain ⟨_,_,e2,_,e4,ef⟩:=aaG sV.out;have e4f:=ef 4;have e2f:=ef 2;clear h ok hm hk ef hv e;generalize s.used=us at *;generalize total s.L=tl at *;go_enter func95,ntmps95;go_wp2;go_ret;rw[HE.out.1,HE.out.2];refine⟨rfl,⟨?_,(H2.out.1.kept ((Kept.setCell Q 4 _).block b H2.out.1.lt H.out.ne)).kept ((Kept.setCell Q 2 _).block b (by have:=H2.out.1.lt;simpa using this) H.out.ne)⟩,((H2.out.2.wider fun x _ e=>.inr e).trans (Kept.setCell Q 4 _) fun x _ e=>.inl e).trans (Kept.setCell Q 2 _) fun x _ e=>.inl e⟩;rw[jL 2 _ (jL 4 _ sV.out),HT.out];rfl
theorem xz{ops:Array Oper}{rest:List Oper}{o:Oper}{a:Act}{R:Exit->Act->World->Prop}(hg:o.guard=none)(m x:Operand)(hop:o.op=Op.call { callee:=Callee.builtin Builtin.delete,args:=#[m,x],argTypes:=#[195,52] })
  (L L':List (Int × Int)) (hm:a.eval m=.map (some b)) (h:Mp w b n L) (t:Int) (ht:vG t) (hx:a.eval x=.int .u64 t) (hL:∀u,look u L'=if u=t then none else look u L)
  (hK:∀w',Mp w' b n L'->Kept (·=b) w w'->wpList prog ops R rest (a.put o.dst (.tuple #[])) w') :
  wpList prog ops R (o :: rest) a w:=by
 refine iQ hg fun K' hK'=>?_;obtain ⟨w',dM,r1,r2⟩:=h.Fo ht hL o.type;unfold Oper.wp;simp[execOp,hop,resolve,invoke,builtin,hm,hx,dM,Result.andThen];exact hK' _ _ (hK w' r1 r2)
theorem Xl(h:bE w Q b n s)(ok:Ok s){t:Int}(ht:vG t) :
  Calls prog 163 #[lp Q,.int .u64 t] w fun e w'=>e=.returned (.int .i64 (JS s t))/\bE w' Q b (n+1) (Sa s t)/\Kept (LF Q b) w w':=by
 have H:=zH h;have c3:=h.c3;have hr:=h.mp.nB ht;cases e:look t s.L with
 | none =>
  rw[e] at hr;simp only[Option.getD_none,Option.isSome_none] at hr;have HE:Hid (JS s t=110/\Sa s t=s):=⟨by simp[JS,e],by simp[Sa,JL e]⟩
  clear h ok;go_enter func163,ntmps163;go_wp2;go_ret;rw[HE.out.1,HE.out.2];exact⟨rfl,H.out.mono (di _),Kept.refl _ _⟩
 | some v =>
  rw[e] at hr;simp only[kT,Option.isSome_some] at hr;have HE:Hid (JS s t=0):=by show _=_;simp[JS,e]
  obtain ⟨n1,n2,n3,n4,n5⟩:=ok.zo;have hle:=Ab ok.fine e;have HT:=zH (xC e);have hcut:Hid (∀u,look u (cut t s.L)=if u=t then none else look u s.L):=fun u=>II ok.fine;clear h ok e;go_enter func163,ntmps163;go_wp2_with (at_delete;refine xz rfl (.tmp 23) (.tmp 24) rfl s.L (cut t s.L) rfl H.out.mp t ht rfl hcut.out ?_;intro w2 hm hk;have sV:Hid (w2.heap[Q]?=some (.cells #[.int .i64 s.cap,.int .i64 s.mark,.int .i64 s.used,.map (some b),.int .i64 (total s.L)] 197 (0,0))):=(hk.block Q H.out.lt (fun e=>H.out.ne e.symm)).trans H.out.st;have H2:=rf hm hk;have e4:=(aaG sV.out).2.2.2.2.1;have e4f:=(aaG sV.out).2.2.2.2.2 4;clear hm hk hr c3)
  go_ret;rw[HE.out];refine⟨rfl,⟨?_,(H2.out.1.kept ((Kept.setCell Q 4 _).block b H2.out.1.lt H.out.ne)).mono (di _)⟩,((H2.out.2.wider fun x _ e=>.inr e).trans (Kept.setCell Q 4 _) fun x _ e=>.inl e)⟩;rw[jL 4 _ sV.out];show _=some (Obj.cells #[.int .i64 s.cap,.int .i64 s.mark,.int .i64 s.used,.map (some b),.int .i64 (total (cut t s.L))] 197 (0,0));rw[HT.out];rfl
theorem Gc(h:bE w Q b n s)(ok:Ok s)(k:Int) :
  Calls prog 166 #[lp Q,.int .i64 k] w fun e w'=>e=.returned (.int .i64 (Ck s k))/\bE w' Q b (n+1) (ku s k)/\Kept (LF Q b) w w':=by
 have H:=zH h;have c2:=h.c2;have f2:=h.free 2;obtain ⟨n1,n2,n3,n4,n5⟩:=ok.zo;by_cases hk:0<=k/\k<=s.used
 ·have HE:Hid (Ck s k=0/\ku s k={ s with used:=s.used-k }):=⟨aE hk,aE hk⟩
  obtain ⟨k1,k2⟩:=hk;clear h ok;generalize s.used=us at *;go_enter func166,ntmps166;go_wp2;go_ret;rw[HE.out.1,HE.out.2];refine⟨rfl,⟨?_,(H.out.mp.kept ((Kept.setCell Q 2 _).block b H.out.mp.lt H.out.ne)).mono (di _)⟩,(Kept.setCell Q 2 _).wider fun x _ e=>.inl e⟩;rw[jL 2 _ H.out.st];rfl
 ·have HE:Hid (Ck s k=2/\ku s k=s):=⟨aD hk,aD hk⟩
  clear h ok;generalize s.used=us at *;by_cases k1:k<0
  ·go_enter func166,ntmps166;go_wp2;go_ret;rw[HE.out.1,HE.out.2];exact⟨rfl,H.out.mono (di _),Kept.refl _ _⟩
  ·have k2:us<k:=by omega
   clear hk;go_enter func166,ntmps166;go_wp2;go_ret;rw[HE.out.1,HE.out.2];exact⟨rfl,H.out.mono (di _),Kept.refl _ _⟩
end
end Go.Proofs.Zq.E.L
namespace Go.Proofs.Zq.E.B
abbrev Up (l:List Int):Prop:=l.Pairwise (· < ·)
theorem Up.ext:∀{l l':List Int},Up l->Up l'->(∀x,x∈l↔x∈l')->l=l'
 | [],[],_,_,_=>rfl
 | [],b :: t,_,_,h=>absurd ((h b).2 (bS)) (by simp)
 | a :: s,[],_,_,h=>absurd ((h a).1 (bS)) (by simp)
 | a :: s,b :: t,h1,h2,h=>by
  have h1':=cQ.1 h1;have Cj:=cQ.1 h2;have hab:a=b:=by
   rcases bZ.1 ((h a).1 bS) with e | e
   ·exact e
   rcases bZ.1 ((h b).2 bS) with e2 | e2
   ·exact e2.symm
   have:=Cj.1 a e;have:=h1'.1 b e2;omega
  subst hab
  congr 1
  refine Up.ext h1'.2 Cj.2 fun x=>⟨fun hx=>?_,fun hx=>?_⟩
  ·rcases bZ.1 ((h x).1 (cO _ hx)) with e | e
   ·have:=h1'.1 x hx;omega
   ·exact e
  ·rcases bZ.1 ((h x).2 (cO _ hx)) with e | e
   ·have:=Cj.1 x hx;omega
   ·exact e
def ins (x:Int):List Int->List Int
 | []=>[x]
 | y :: l=>if x<y then x :: y :: l else if x=y then y :: l else y :: ins x l
theorem FB(x z:Int):∀l:List Int,z∈ins x l↔z=x\/z∈l
 | []=>by simp[ins]
 | y :: l=>by
  unfold ins;split
  ·simp
  ·split
   ·rename_i h;subst h;simp
   ·have:=FB x z l;simp only[bZ,this];constructor
    ·rintro (h | h | h) <;> simp[h]
    ·rintro (h | h | h) <;> simp[h]
theorem TK(x:Int):∀l:List Int,Up l->Up (ins x l)
 | [],_=>by simp[ins]
 | y :: l,h=>by
  have h':=cQ.1 h;unfold ins;split
  ·rename_i hxy;refine cQ.2 ⟨fun z hz=>?_,h⟩;rcases bZ.1 hz with e | e
   ·omega
   ·have:=h'.1 z e;omega
  ·split
   ·exact h
   ·refine cQ.2 ⟨fun z hz=>?_,TK x l h'.2⟩;rcases (FB x z l).1 hz with e | e
    ·omega
    ·exact h'.1 z e
theorem BR(x:Int):∀l:List Int,(ins x l).length<=l.length+1
 | []=>by simp[ins]
 | y :: l=>by
  have:=BR x l;unfold ins;split
  ·simp
  ·split
   ·simp
   ·simp;omega
def iq (xs:List Int):List Int:=xs.foldr ins []
theorem tP(z:Int):∀xs:List Int,z∈iq xs↔z∈xs
 | []=>by simp[iq]
 | x :: xs=>by
  have:=tP z xs;unfold iq at *;rw[List.foldr_cons,FB,this,bZ]
theorem AM:∀xs:List Int,Up (iq xs)
 | []=>by simp[iq]
 | x :: xs=>TK x _ (AM xs)
theorem xd:∀xs:List Int,(iq xs).length<=xs.length
 | []=>by simp[iq]
 | x :: xs=>by
  have h1:=BR x (iq xs);have h2:=xd xs;have e:iq (x :: xs)=ins x (iq xs):=rfl;rw[e];simp only[bz];omega
theorem JH{l xs:List Int}(hu:Up l)(hm:∀x,x∈l↔x∈xs):l=iq xs:=Up.ext hu (AM xs) fun x=>(hm x).trans (tP x xs).symm
theorem RU{xs:List Int}(h:iq xs=[]):xs=[]:=by
 cases xs with
 | nil=>rfl
 | cons x xs=>have:=(tP x (x :: xs)).2 bS;rw[h] at this;cases this
def xh (xs:List Int)(b:Int):Bool:=decide (∀x∈xs,0<=x/\x<b)
def sQ (b m:Int):Bool:=decide (1<=b/\b<=64/\1<=m/\m<=16/\m<=b)
def gA (xs:List Int)(b m:Int):List Int × Int :=
 if sQ b m=false then ([],2) else if xs=[] then ([],50) else if xh xs b=false then ([],51) else if m<((iq xs).length:Int) then ([],52) else (iq xs,0)
theorem yE(xs:List Int)(b m:Int):(gA xs b m).1.length<=16:=by
 unfold gA;split
 ·simp
 split
 ·simp
 split
 ·simp
 split
 ·simp
 ·rename_i h _ _ h2;have:sQ b m=true:=by simpa using h
  simp only[sQ,gx] at this;simp only;omega
theorem Jw{xs:List Int}{b m:Int}(h:(gA xs b m).2=0):(gA xs b m).1=iq xs/\sQ b m=true/\xs≠[]/\xh xs b=true/\((iq xs).length:Int)<=m:=by
 unfold gA at h ⊢;split at h
 ·simp at h
 split at h
 ·simp at h
 split at h
 ·simp at h
 split at h
 ·simp at h
 ·rename_i h1 h2 h3 h4;rw[aD h1,aD h2,aD h3,aD h4];exact⟨rfl,by simpa using h1,h2,by simpa using h3,by omega⟩
theorem Cl(xs:List Int)(b m:Int):((gA xs b m).2=0\/(gA xs b m).2=2\/(gA xs b m).2=50\/(gA xs b m).2=51\/(gA xs b m).2=52)/\((gA xs b m).2≠0->(gA xs b m).1=[]):=by
 unfold gA;split
 ·simp
 split
 ·simp
 split
 ·simp
 split
 ·simp
 ·simp
open Go.Proofs.Tryz Go.RowKit
theorem Vh(xs:List Int):∀v∈o_ xs,v.oneCell'=true:=by
 intro u hu;obtain ⟨x,_,rfl⟩:=cF.1 hu;rfl
theorem ZU(x:Int):∀u∈[Value.int .i64 x],u.oneCell'=true:=by
 intro u hu;obtain rfl:=bg.1 hu;rfl
structure pZ (w:World) (p:Option Addr) (n:Nat) (xs:List Int):Prop where
 len:xs.length=n
 cells:0<n->∃b o,p=some ⟨b,o,none⟩/\∀i,i<n->w.cell? ⟨b,o+i,none⟩=some (.int .i64 (xs.getD i 0))
theorem pZ.lt{w:World}{a:Addr}{n:Nat}{xs:List Int}(h:pZ w (some a) n xs)(h0:0<n):a.block<w.heap.size:=by
 obtain ⟨b,o,e,hc⟩:=h.cells h0;simp only[aC] at e;subst e;exact cG w _ (hc 0 h0)
theorem pZ.later{w w':World}{p:Option Addr}{n:Nat}{xs:List Int}(h:pZ w p n xs)(hb:Below w.heap.size w w'):pZ w' p n xs:=by
 refine⟨h.len,fun h0=>?_⟩;obtain ⟨b,o,rfl,hc⟩:=h.cells h0;refine⟨b,o,rfl,fun i hi=>?_⟩;rw[hb.cell (p:=⟨b,o+i,none⟩) (h.lt h0)];exact hc i hi
theorem pZ.news{w:World}{a:Addr}{n:Nat}{xs:List Int}(h:pZ w (some a) n xs):∀j u,(o_ xs)[j]?=some u->w.cell? (a.add j)=some u:=by
 intro j u hj;have hjn:j<xs.length:=by
  have:=(aA.1 hj).1;simpa using this
 obtain ⟨b,o,e,hc⟩:=h.cells (by have:=h.len;omega);simp only[aC] at e;subst e;rw[bW,hc j (by have:=h.len;omega),<-hj];simp[List.getD,List.getElem?_eq_getElem hjn]
theorem pZ.ZZ{w:World}{p:Option Addr}{n:Nat}{xs:List Int}(h:pZ w p n xs):∀ad,p=some ad->∀j u,(o_ xs)[j]?=some u->w.cell? (ad.add j)=some u:=by
 intro ad e;subst e;exact h.news
theorem ye(w:World)(xs:List Int)(n:Nat)(hl:xs.length=n):pZ (w.alloc (.cells (o_ xs).toArray 3)) (some ⟨w.heap.size,0,none⟩) n xs:=by
 refine⟨hl,fun h0=>⟨_,0,rfl,fun i hi=>?_⟩⟩;rw[aW,aq _ w.heap.size i (o_ xs).toArray 3 (0,0) (aG w _)];simp[o_,List.getD,List.getElem?_eq_getElem (show i<xs.length by omega)]
theorem dD{w w':World}{base:Nat}{e:TypeId}{size:Nat}{v:Value}{n:Nat}{xs:List Value}(h:w.ownsRow base e size v n xs)(hb:Below w.heap.size w w'):w'.ownsRow base e size v n xs:=by
 refine⟨h.1,?_⟩;rcases h.2 with hn | ⟨g,cap,cur,rfl,h1,hg,rest⟩
 ·exact .inl hn
 ·exact .inr ⟨g,cap,cur,rfl,h1,(hb.block g (au.1 hg).1).trans hg,rest⟩
theorem wO{w:World}{base:Nat}{v:Value}{n:Nat}{xs:List Int}(h:w.ownsRow base 3 1 v n (o_ xs)):∃p c,v=.slice p n c/\pZ w p n xs/\n<=c/\(p=none->c=0)/\(∀a,p=some a->base<=a.block/\a.block<w.heap.size):=by
 have hl:xs.length=n:=by have:=h.1;simpa [o_] using this
 rcases h.2 with ⟨rfl,rfl⟩ | ⟨g,cap,cur,rfl,h1,hg,FX,MG,nV,uA⟩
 ·exact⟨none,0,rfl,⟨hl,fun h0=>absurd h0 (gB 0)⟩,az _,fun _=>rfl,fun a e=>by cases e⟩
 ·refine⟨_,cap,rfl,⟨hl,fun h0=>⟨g,0,rfl,fun i hi=>?_⟩⟩,FX,(fun e=>by cases e),fun a e=>?_⟩
  ·have:=h.cellAt i (by omega);rw[aW,this];simp[o_,List.getD,List.getElem?_eq_getElem (show i<xs.length by omega)]
  ·simp only[aC] at e;subst e;exact⟨h1,(au.1 hg).1⟩
structure Made (w w':World) (p:Option Addr) (n c:Nat) (xs:List Int):Prop where
 own:w'.ownsRow w.heap.size 3 1 (.slice p n c) n (o_ xs)
 below:Below w.heap.size w w'
theorem pQ{w w':World}{v:Value}{n:Nat}{xs:List Int}(h:w'.ownsRow w.heap.size 3 1 v n (o_ xs))(hb:Below w.heap.size w w'):∃p c,v=.slice p n c/\Made w w' p n c xs:=by
 obtain ⟨p,c,rfl,_⟩:=wO h;exact⟨p,c,rfl,h,hb⟩
theorem ld(w:World){w':World}(hb:Below w.heap.size w w'):Made w w' none 0 0 []:=⟨cq _ _ _ _,hb⟩
theorem vP{P:Program}(w:World){ops:Array Oper}{rest:List Oper}{o:Oper}{a:Act}{Q:Exit->Act->World->Prop}(jt:o.guard=none)(s x:Operand)(t:TypeId)
  (ho:o.op=.call { callee:=.builtin .append,args:=#[s,x],argTypes:=#[t,t] })
  (base:Nat) (e:TypeId) (i:TypeInfo) (z:Value) (bytes:Nat) (ht:P.underlying t=some (.slice e)) (hi:P.info? e=some i) (hz:i.zero=some z)
  (oR:i.size=1) (Ku:i.bytes=bytes) (OJ:z.cells.size=1)
  (v:Value) (n:Nat) (xs:List Value) (hs:a.eval s=v) (dR:w.ownsRow base e 1 v n xs)
  (p:Option Addr) (m c:Nat) (news:List Value) (hx:a.eval x=.slice p m c) (hp:p=none->c=0) (hmc:m<=c) (hl:news.length=m) (nF:∀ad,p=some ad->∀j u,news[j]?=some u->w.cell? (ad.add j)=some u) (h1:∀u∈news,u.oneCell'=true)
  (Wz:n+m<=maxLen) (oU:(n+m)*bytes<=140737488355328) (pR:base<=w.heap.size)
  (h:∀v' w',w'.ownsRow base e 1 v' (n+m) (xs++news)->w.grownBy w' v.ownBlock->wpList P ops Q rest (a.put o.dst v') w'):wpList P ops Q (o :: rest) a w:=by
 cases p with
 | some ad=>exact dK w jt s x t ho base e i z 1 bytes ht hi hz oR Ku OJ (by omega) v n xs hs dR ad m c news hx (by omega) (nF ad rfl) h1 Wz oU pR fun v' w' a b _=>h v' w' a b
 | none =>
  obtain rfl:=hp rfl;obtain rfl:m=0:=by omega
  obtain rfl:news=[]:=aZ hl;refine wpList_append_own_none jt s x t ho base e i 1 ht hi v n xs hs dR hx ?_;exact h v w (by simpa using dR) (World.grownBy.refl _ _)
open Go.Shelf Go.Lib Go.Sort
def IM:Go.Shelf.Ren:=⟨fun | 189=>219 | 125=>234 | 257=>233 | 128=>244 | 129=>245 | 294=>235 | 295=>236 | 296=>237 | 297=>238 | 298=>239 | 299=>240 | 216=>241 | 300=>242 | 301=>243 | 328=>246 | 329=>247 | 330=>248 | 331=>249 | 332=>250 | 215=>168 | 343=>251 | n=>n,fun | 28=>59 | 3=>3 | 46=>251 | 0=>0 | 51=>256 | 53=>52 | 4=>4 | 183=>312 | 182=>311 | 131=>102 | 5=>5 | 9=>9 | 218=>318 | 222=>321 | 228=>323 | 229=>228 | n=>n,fun | n=>n⟩
theorem OA:Go.Proofs.Lays.n189 prog IM:={
 mixed:=by kernel_rfl
 f125:=func234.trans (congrArg some (by kernel_rfl))
 f128:=func244.trans (congrArg some (by kernel_rfl))
 f129:=func245.trans (congrArg some (by kernel_rfl))
 f189:=func219.trans (congrArg some (by kernel_rfl))
 f215:=func168.trans (congrArg some (by kernel_rfl))
 f216:=func241.trans (congrArg some (by kernel_rfl))
 f257:=func233.trans (congrArg some (by kernel_rfl))
 f294:=func235.trans (congrArg some (by kernel_rfl))
 f295:=func236.trans (congrArg some (by kernel_rfl))
 f296:=func237.trans (congrArg some (by kernel_rfl))
 f297:=func238.trans (congrArg some (by kernel_rfl))
 f298:=func239.trans (congrArg some (by kernel_rfl))
 f299:=func240.trans (congrArg some (by kernel_rfl))
 f300:=func242.trans (congrArg some (by kernel_rfl))
 f301:=func243.trans (congrArg some (by kernel_rfl))
 f328:=func246.trans (congrArg some (by kernel_rfl))
 f329:=func247.trans (congrArg some (by kernel_rfl))
 f330:=func248.trans (congrArg some (by kernel_rfl))
 f331:=func249.trans (congrArg some (by kernel_rfl))
 f332:=func250.trans (congrArg some (by kernel_rfl))
 f343:=func251.trans (congrArg some (by kernel_rfl))
 t0:=underlying0
 a0:=Tryz.isAgg0
 z0:=Tryz.sizeOf0
 v0:=Tryz.zeroValue0
 t3:=fe
 a3:=Tryz.isAgg3
 z3:=Tryz.sizeOf3
 v3:=Tryz.zeroValue3
 t4:=underlying4
 a4:=Tryz.isAgg4
 z4:=Tryz.sizeOf4
 v4:=Tryz.zeroValue4
 t5:=underlying5
 a5:=Tryz.isAgg5
 z5:=Tryz.sizeOf5
 v5:=Tryz.zeroValue5
 t9:=underlying9
 a9:=Tryz.isAgg9
 z9:=Tryz.sizeOf9
 v9:=Tryz.zeroValue9
 t28:=mG
 a28:=Tryz.isAgg59
 z28:=Tryz.sizeOf59
 v28:=Tryz.zeroValue59
 t46:=underlying251
 a46:=Tryz.isAgg251
 z46:=Tryz.sizeOf251
 v46:=Tryz.zeroValue251
 t51:=underlying256
 a51:=Tryz.isAgg256
 z51:=Tryz.sizeOf256
 v51:=Tryz.zeroValue256
 t53:=underlying52
 a53:=Tryz.isAgg52
 z53:=Tryz.sizeOf52
 v53:=Tryz.zeroValue52
 t131:=underlying102
 a131:=Tryz.isAgg102
 z131:=Tryz.sizeOf102
 v131:=Tryz.zeroValue102
 t182:=underlying311
 a182:=Tryz.isAgg311
 z182:=Tryz.sizeOf311
 v182:=Tryz.zeroValue311
 t183:=underlying312
 a183:=Tryz.isAgg312
 z183:=Tryz.sizeOf312
 v183:=Tryz.zeroValue312
 t218:=underlying318
 a218:=Tryz.isAgg318
 z218:=Tryz.sizeOf318
 v218:=Tryz.zeroValue318
 t222:=underlying321
 a222:=Tryz.isAgg321
 z222:=Tryz.sizeOf321
 v222:=Tryz.zeroValue321
 t228:=underlying323
 a228:=Tryz.isAgg323
 z228:=Tryz.sizeOf323
 v228:=Tryz.zeroValue323
 t229:=underlying228
 a229:=Tryz.isAgg228
 z229:=Tryz.sizeOf228
 v229:=Tryz.zeroValue228 }
theorem slices_Sort_int(bC off cap:Nat)(zs:List Int)(w:World)(hH:Holds (Value.int .i64) w bC off zs.toArray)(amb:bC<w.heap.size)(nV:zs.length<4611686018427387904) :
  Calls prog 219 #[.slice (some ⟨bC,off,none⟩) zs.length cap] w fun e w' =>
   e=.returned (.tuple #[])/\∃n os,w'=grow (putRow (Value.int .i64) (Sort.ahead w n) bC off (zs.mergeSort fun x y=>decide (x<=y)).toArray) os:=Any.slices_Sort_int OA bC off cap zs w hH amb nV
def Dc:Go.Shelf.Ren:=⟨fun | 20=>195 | n=>n,fun | 22=>59 | 3=>3 | 4=>4 | 0=>0 | n=>n,fun | n=>n⟩
theorem EB:Go.Proofs.Lays2.n20 prog Dc:={
 mixed:=by kernel_rfl
 f20:=func195.trans (congrArg some (by kernel_rfl))
 t0:=underlying0
 a0:=Tryz.isAgg0
 z0:=Tryz.sizeOf0
 v0:=Tryz.zeroValue0
 t3:=fe
 a3:=Tryz.isAgg3
 z3:=Tryz.sizeOf3
 v3:=Tryz.zeroValue3
 t4:=underlying4
 a4:=Tryz.isAgg4
 z4:=Tryz.sizeOf4
 v4:=Tryz.zeroValue4
 t22:=mG
 a22:=Tryz.isAgg59
 z22:=Tryz.sizeOf59
 v22:=Tryz.zeroValue59
 i3:=by kernel_rfl }
theorem slices_Compact_int(bC off cap:Nat)(zs:List Int)(w:World)(hH:Holds (Value.int .i64) w bC off zs.toArray)(nV:zs.length<=9223372036854775807)(yB:zs.length<=cap) :
  Calls prog 195 #[.slice (some ⟨bC,off,none⟩) zs.length cap] w fun e w'=>e=.returned (.slice (some ⟨bC,off,none⟩) (Lib.compact zs).length cap)/\∃q,w'=putRow (Value.int .i64) (Sort.ahead w q) bC off (Lib.compact zs++List.replicate (zs.length-(Lib.compact zs).length) 0).toArray:=Any.slices_Compact_int EB bC off cap zs w hH nV yB
theorem slices_Compact_int_empty(a:Option Addr)(cap:Nat)(w:World) :
  Calls prog 195 #[.slice a 0 cap] w fun e w'=>e=.returned (.slice a 0 cap)/\w'=w:=Any.slices_Compact_int_empty EB a cap w
theorem slices_Sort_int_none(p:Option Addr)(cap:Nat)(w:World) :
  Calls prog 219 #[.slice p 0 cap] w fun e w'=>e=.returned (.tuple #[])/\w'=w:=Any.slices_Sort_int_none OA p cap w
