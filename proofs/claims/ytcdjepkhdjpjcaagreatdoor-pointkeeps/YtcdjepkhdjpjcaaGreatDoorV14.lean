import Derived.Test.YtcdjepkhdjpjcaaGreatDoorV13
import Derived.Shelf.SlMaps.Clone
import Derived.Shelf.Sort.Plain
import Derived.Shelf.Slices.CompactI
import Derived.Shelf.Slices.In.SortNone
set_option maxHeartbeats 20000000
set_option maxRecDepth 100000
namespace Go.Proofs.YtcdjepkhdjpjcaaGreatDoor.E.L
def look (t:Int):List (Int × Int)→Option Int
 | []=>none
 | x :: xs=>if x.1=t then some x.2 else look t xs
def pos (t:Int):List (Int × Int)→Nat
 | []=>0
 | x :: xs=>if x.1=t then 0 else pos t xs+1
def total:List (Int × Int)→Int
 | []=>0
 | x :: xs=>x.2+total xs
def cut (t:Int):List (Int × Int)→List (Int × Int)
 | []=>[]
 | x :: xs=>if x.1=t then xs else x :: cut t xs
def set (t v:Int):List (Int × Int)→List (Int × Int)
 | []=>[]
 | x :: xs=>if x.1=t then (t,v) :: xs else x :: set t v xs
structure Fine (L:List (Int × Int)):Prop where
 nonneg:∀x∈L,0≤x.2
 once:(L.map Prod.fst).Nodup
theorem Fine.nil:Fine []:=⟨fun _ h=>absurd h List.not_mem_nil,List.nodup_nil⟩
theorem Fine.tail {x:Int × Int}{xs:List (Int × Int)}(h:Fine (x :: xs)):Fine xs:=⟨fun y hy=>h.nonneg y (List.mem_cons_of_mem _ hy),(List.nodup_cons.1 h.once).2⟩
theorem look_none {t:Int}:∀{L:List (Int × Int)},look t L=none↔t ∉ L.map Prod.fst
 | []=>by simp[look]
 | x :: xs=>by
  by_cases e:x.1=t
  ·simp[look,e]
  ·simp only[look,if_neg e,List.map_cons,List.mem_cons,not_or]
   rw[look_none (L:=xs)]
   exact⟨fun h=>⟨fun e2=>e e2.symm,h⟩,fun h=>h.2⟩
theorem look_app {t u n:Int}:∀{L:List (Int × Int)},look u L=none→look t (L++[(u,n)])=if t=u then some n else look t L
 | [],_=>by
  by_cases e:u=t
  ·subst e;simp[look]
  ·simp[look,e,Ne.symm e]
 | x :: xs,h=>by
  by_cases e:x.1=u
  ·simp[look,e] at h
  ·simp only[look,if_neg e] at h
   by_cases e2:x.1=t
   ·subst e2;simp[look,e]
   ·simp only[List.cons_append,look,if_neg e2,look_app h]
theorem look_set {t u v:Int}:∀{L:List (Int × Int)} {n:Int},look u L=some n→look t (set u v L)=if t=u then some v else look t L
 | [],_,h=>by simp[look] at h
 | x :: xs,n,h=>by
  by_cases e:x.1=u
  ·by_cases e2:t=u
   ·subst e2;simp[set,look,e]
   ·subst e
    have:¬x.1=t:=fun e3=>e2 e3.symm
    simp[set,look,this,e2]
  ·simp only[look,if_neg e] at h
   by_cases e2:x.1=t
   ·subst e2;simp[set,look,e]
   ·simp only[set,look,if_neg e,if_neg e2,look_set h]
theorem look_cut {t u:Int}:∀{L:List (Int × Int)},Fine L→look t (cut u L)=if t=u then none else look t L
 | [],_=>by simp[look,cut]
 | x :: xs,h=>by
  by_cases e:x.1=u
  ·by_cases e2:t=u
   ·subst e2
    have h1:look t xs=none:=look_none.2 (by rw[← e];exact (List.nodup_cons.1 h.once).1)
    simp[cut,e,h1]
   ·subst e
    have:¬x.1=t:=fun e3=>e2 e3.symm
    simp[cut,look,this,e2]
  ·by_cases e2:x.1=t
   ·subst e2;simp[cut,look,e]
   ·simp only[cut,look,if_neg e,if_neg e2,look_cut h.tail]
theorem total_app (n u:Int):∀L:List (Int × Int),total (L++[(u,n)])=total L+n
 | []=>by simp[total]
 | x :: xs=>by simp only[List.cons_append,total,total_app n u xs];omega
theorem total_set {u v:Int}:∀{L:List (Int × Int)} {n:Int},look u L=some n→total (set u v L)=total L-n+v
 | [],_,h=>by simp[look] at h
 | x :: xs,n,h=>by
  by_cases e:x.1=u
  ·simp only[look,if_pos e,Option.some.injEq] at h
   simp only[set,if_pos e,total];omega
  ·simp only[look,if_neg e] at h
   simp only[set,if_neg e,total,total_set h];omega
theorem total_cut {u:Int}:∀{L:List (Int × Int)} {n:Int},look u L=some n→total (cut u L)=total L-n
 | [],_,h=>by simp[look] at h
 | x :: xs,n,h=>by
  by_cases e:x.1=u
  ·simp only[look,if_pos e,Option.some.injEq] at h
   simp only[cut,if_pos e,total];omega
  ·simp only[look,if_neg e] at h
   simp only[cut,if_neg e,total,total_cut h];omega
theorem total_nonneg:∀{L:List (Int × Int)},Fine L→0≤total L
 | [],_=>Int.le_refl _
 | x :: xs,h=>by
  have:=h.nonneg x (List.mem_cons_self ..)
  have:=total_nonneg h.tail
  simp only[total];omega
theorem look_le {t n:Int}:∀{L:List (Int × Int)},Fine L→look t L=some n→0≤n∧n≤total L
 | [],_,h=>by simp[look] at h
 | x :: xs,h,e=>by
  have:=h.nonneg x (List.mem_cons_self ..)
  by_cases e2:x.1=t
  ·simp only[look,if_pos e2,Option.some.injEq] at e
   have:=total_nonneg h.tail
   simp only[total];omega
  ·simp only[look,if_neg e2] at e
   have:=look_le h.tail e
   simp only[total];omega
theorem set_fst (u v:Int):∀L:List (Int × Int),(set u v L).map Prod.fst=L.map Prod.fst
 | []=>rfl
 | x :: xs=>by
  by_cases e:x.1=u
  ·simp[set,e]
  ·simp[set,e,set_fst u v xs]
theorem set_mem {u v:Int}:∀{L:List (Int × Int)} {x:Int × Int},x∈set u v L→x=(u,v)∨x∈L
 | [],x,h=>by simp[set] at h
 | y :: ys,x,h=>by
  by_cases e:y.1=u
  ·simp only[set,if_pos e,List.mem_cons] at h
   rcases h with h | h
   ·exact .inl h
   ·exact .inr (List.mem_cons_of_mem _ h)
  ·simp only[set,if_neg e,List.mem_cons] at h
   rcases h with h | h
   ·exact .inr (h ▸ List.mem_cons_self ..)
   ·rcases set_mem h with h | h
    ·exact .inl h
    ·exact .inr (List.mem_cons_of_mem _ h)
theorem Fine.set {L:List (Int × Int)}(h:Fine L){u v:Int}(hv:0≤v):Fine (set u v L):=by
 refine⟨fun x hx=>?_,by rw[set_fst];exact h.once⟩
 rcases set_mem hx with rfl | hx
 ·exact hv
 ·exact h.nonneg x hx
theorem pos_le (t:Int):∀L:List (Int × Int),pos t L≤L.length
 | []=>Nat.le_refl _
 | x :: xs=>by
  have:=pos_le t xs
  simp only[pos,List.length_cons]
  split <;> omega
theorem look_pos (t:Int):∀L:List (Int × Int),look t L=(L[pos t L]?).map Prod.snd
 | []=>rfl
 | x :: xs=>by
  by_cases e:x.1=t
  ·simp[look,pos,e]
  ·simp[look,pos,e,look_pos t xs]
theorem pos_fst (t:Int):∀{L:List (Int × Int)} (h:pos t L<L.length),(L[pos t L]).1=t
 | [],h=>by simp[pos] at h
 | x :: xs,h=>by
  by_cases e:x.1=t
  ·simp[pos,e]
  ·have h2:pos t xs<xs.length:=by simp only[pos,if_neg e,List.length_cons] at h;omega
   have:=pos_fst t h2
   simpa [pos,e] using this
theorem pos_some {t n:Int}{L:List (Int × Int)}(h:look t L=some n):∃hp:pos t L<L.length,L[pos t L]=(t,n):=by
 rw[look_pos] at h
 by_cases hp:pos t L<L.length
 ·refine⟨hp,?_⟩
  rw[List.getElem?_eq_getElem hp] at h
  simp only[Option.map_some,Option.some.injEq] at h
  exact Prod.ext (pos_fst t hp) h
 ·rw[List.getElem?_eq_none (by omega)] at h;cases h
theorem pos_none {t:Int}{L:List (Int × Int)}(h:look t L=none):pos t L=L.length:=by
 rw[look_pos] at h
 have:=pos_le t L
 by_cases hp:pos t L<L.length
 ·rw[List.getElem?_eq_getElem hp] at h;cases h
 ·omega
theorem pos_is {t : Int} : ∀ {L : List (Int × Int)}, Fine L → ∀ {k : Nat} (hk : k < L.length), (L[k]).1 = t → pos t L = k
  | [], _, k, hk, _ => by simp at hk
  | x :: xs, h, k, hk, e => by
    cases k with
    | zero => have e' : x.1 = t := by simpa using e
              simp [pos, e']
    | succ k =>
      have hk' : k < xs.length := by simpa using hk
      have e' : (xs[k]).1 = t := by simpa using e
      have hne : ¬ x.1 = t := fun e2 => (List.nodup_cons.1 h.once).1 (by rw [e2, ← e']; exact List.mem_map.2 ⟨xs[k], List.getElem_mem hk', rfl⟩)
      simp [pos, hne, pos_is h.tail hk' e']
structure Lg where
 cap:Int
 mark:Int
 used:Int
 L:List (Int × Int)
structure Ok (s:Lg):Prop where
 cap2:2≤s.cap
 cap64:s.cap≤64
 used0:0≤s.used
 room:s.used+total s.L≤s.cap
 fine:Fine s.L
abbrev mayNew (c m:Int):Prop:=2≤c∧c≤64∧1≤m∧m≤c
def newS (c m:Int):Lg:=⟨c,m,0,[]⟩
theorem Ok.new {c m:Int}(h:mayNew c m):Ok (newS c m):=⟨h.1,h.2.1,Int.le_refl _,by have:=h.1;simp only[newS,total];omega,Fine.nil⟩
def fitsS (s:Lg)(n:Int):Bool:=decide (1≤n∧n≤s.cap-s.used-total s.L)
def rsvE (s:Lg)(t n:Int):Int:=if t=0∨n<1 then 2 else if (look t s.L).isSome then 110 else if fitsS s n then 0 else 120
def rsvS (s:Lg)(t n:Int):Lg:=if rsvE s t n=0 then { s with L:=s.L++[(t,n)] } else s
def appE (s:Lg)(t:Int):Int:=match look t s.L with | none=>110 | some n=>if n=0 then 120 else 0
def appS (s:Lg)(t:Int):Lg:=match look t s.L with | none=>s | some n=>if n=0 then s else { s with used:=s.used+1,L:=set t (n-1) s.L }
def clsE (s:Lg)(t:Int):Int:=if (look t s.L).isSome then 0 else 110
def clsS (s:Lg)(t:Int):Lg:={ s with L:=cut t s.L }
def freE (s:Lg)(n:Int):Int:=if 0≤n∧n≤s.used then 0 else 2
def freS (s:Lg)(n:Int):Lg:=if 0≤n∧n≤s.used then { s with used:=s.used-n } else s
theorem cut_none {t:Int}:∀{L:List (Int × Int)},look t L=none→cut t L=L
 | [],_=>rfl
 | x :: xs,h=>by
  by_cases e:x.1=t
  ·simp[look,e] at h
  ·simp only[look,if_neg e] at h
   simp only[cut,if_neg e,cut_none h]
theorem Ok.app {s:Lg}(h:Ok s)(t:Int):Ok (appS s t):=by
 unfold appS
 split
 ·exact h
 ·rename_i n e
  have:=look_le h.fine e
  split
  ·exact h
  ·exact⟨h.cap2,h.cap64,by have:=h.used0;show 0≤s.used+1;omega,by have:=h.room;show s.used+1+total (set t (n-1) s.L)≤s.cap;rw[total_set e];omega,h.fine.set (by omega)⟩
theorem Ok.total0 {s:Lg}(h:Ok s):0≤total s.L:=total_nonneg h.fine
theorem Ok.nums {s:Lg}(h:Ok s):2≤s.cap∧s.cap≤64∧0≤s.used∧0≤total s.L∧s.used+total s.L≤s.cap:=⟨h.cap2,h.cap64,h.used0,h.total0,h.room⟩
end Go.Proofs.YtcdjepkhdjpjcaaGreatDoor.E.L
namespace Go.Proofs.YtcdjepkhdjpjcaaGreatDoor.E.L
open Go.Proofs.Tryz
open Go.RowKit
open Go.Maps (Keyed)
abbrev lp (Q:Nat):Value:=.pointer (some ⟨Q,0,none⟩)
theorem key30:Keyed prog 52:=Maps.int_keyed underlying52
theorem zero3 (w:World):(zeroValue 3).run prog w=.ok (.int .i64 0) w:=by kernel_rfl
def U64 (t:Int):Prop:=(Lit.int .u64 t).wf=true
theorem U64.key {t:Int}(h:U64 t):keyOf prog 52 (.int .u64 t)=some (.int .u64 t):=Maps.keyOf_int_mk underlying52 h
theorem i64_wf {k:Int}(h0:0≤k)(h1:k≤1000):(Lit.int .i64 k).wf=true:=by
 have e1:IntKind.i64.min=-9223372036854775808:=by decide
 have e2:IntKind.i64.max=9223372036854775807:=by decide
 simp only[Lit.wf,e1,e2,Bool.and_eq_true,decide_eq_true_eq]
 omega
theorem Kept.of_grown {w w':World}{b:Nat}(h:w.grownBy w' (some b)):Kept (·=b) w w':=⟨h.os,h.tape,h.output,h.size,fun x hx hne=>h.block x hx fun e=>hne (by simpa using e)⟩
def Mp (w:World)(b n:Nat)(L:List (Int × Int)):Prop:=∃D:DataW Unit,w.ownsMap prog 52 (plainElem prog 3) b n D∧∀t,U64 t→Maps.has D (.int .u64 t)=(look t L).isSome∧D.atKey (.int .u64 t) (.lit (.int .i64 0))=.lit (.int .i64 ((look t L).getD 0))
theorem Mp.typ {w:World}{b n:Nat}{L:List (Int × Int)}(h:Mp w b n L):∃es clock,w.heap[b]?=some (.map es clock):=by
 obtain ⟨D,⟨es,clock,hb,_⟩,_⟩:=h
 exact⟨es,clock,hb⟩
theorem Mp.lt {w:World}{b n:Nat}{L:List (Int × Int)}(h:Mp w b n L):b<w.heap.size:=by
 obtain ⟨es,clock,hb⟩:=h.typ
 exact (Array.getElem?_eq_some_iff.1 hb).1
theorem Mp.kept {w w':World}{b n:Nat}{L:List (Int × Int)}(h:Mp w b n L)(hk:w'.heap[b]?=w.heap[b]?):Mp w' b n L:=by
 obtain ⟨D,⟨es,clock,hb,r⟩,hD⟩:=h
 exact⟨D,⟨es,clock,hk.trans hb,r⟩,hD⟩
theorem Mp.mono {w:World}{b n m:Nat}{L:List (Int × Int)}(h:Mp w b n L)(hm:n≤m):Mp w b m L:=by
 obtain ⟨D,ho,hD⟩:=h
 exact⟨D,ho.mono hm,hD⟩
theorem Mp.made (w:World):Mp (w.alloc (.map #[] 0)) w.heap.size 0 []:=⟨_,World.ownsMap_made w _ _ _,fun _ _=>⟨rfl,rfl⟩⟩
theorem Mp.run_look {w:World}{b n:Nat}{L:List (Int × Int)}(h:Mp w b n L){t:Int}(ht:U64 t) :
  (Instr.lookup 195 (.map (some b)) (.int .u64 t) true).run prog w=.ok (.tuple #[.int .i64 ((look t L).getD 0),.bool (look t L).isSome]) w:=by
 obtain ⟨D,ho,hD⟩:=h
 obtain ⟨v,ps,hrun,hv⟩:=ho.look_ok key30 underlying195 (zero3 w) (plainElem_int underlying3 (by decide)) ht.key
 obtain ⟨a,rfl,ha,_⟩:=plainElem_int_inv underlying3 hv
 rw[(hD t ht).1] at hrun
 have e:=congrArg Prod.fst ha
 simp only[(hD t ht).2] at e
 injection e with e
 injection e with _ e
 rw[hrun,e]
theorem Mp.run_put {w:World}{b n:Nat}{L L':List (Int × Int)}(h:Mp w b n L)(hn:n<10000){t v:Int}(ht:U64 t)(hv:(Lit.int .i64 v).wf=true)(hL:∀u,look u L'=if u=t then some v else look u L) :
  ∃w',(Instr.mapUpdate 195 (.map (some b)) (.int .u64 t) (.int .i64 v)).run prog w=.ok () w'∧Mp w' b (n+1) L'∧Kept (·=b) w w':=by
 obtain ⟨D,ho,hD⟩:=h
 have hml:10000≤maxLen:=by decide
 obtain ⟨w',hrun,h1,h2⟩:=ho.store key30 underlying195 (by omega) ht.key (plainElem_int underlying3 hv)
 refine⟨w',hrun,⟨_,h1,fun u hu=>?_⟩,Kept.of_grown h2.grown⟩
 rw[hL u]
 by_cases e:u=t
 ·subst e
  rw[if_pos rfl,Maps.has_put_same ho.isMap (key30.key ht.key),Maps.atKey_put_same ho.isMap (key30.key ht.key)]
  exact⟨rfl,rfl⟩
 ·have hne:(Lit.int .u64 u)≠Lit.int .u64 t:=fun e2=>e (by injection e2)
  rw[if_neg e,Maps.has_put_other hne,Maps.atKey_put_other hne]
  exact hD u hu
theorem Mp.run_del {w:World}{b n:Nat}{L L':List (Int × Int)}(h:Mp w b n L){t:Int}(ht:U64 t)(hL:∀u,look u L'=if u=t then none else look u L)(ty:TypeId) :
  ∃w',(Builtin.delete_ #[195,52] ty #[.map (some b),.int .u64 t]).run prog w=.ok (.tuple #[]) w'∧Mp w' b n L'∧Kept (·=b) w w':=by
 obtain ⟨D,ho,hD⟩:=h
 obtain ⟨w',hrun,h1,h2⟩:=ho.drop key30 underlying195 ht.key ty
 refine⟨w',hrun,⟨_,h1,fun u hu=>?_⟩,Kept.of_grown h2.grown⟩
 rw[hL u]
 by_cases e:u=t
 ·subst e
  rw[if_pos rfl,Maps.has_del_same,Maps.atKey_del_same]
  exact⟨rfl,rfl⟩
 ·have hne:(Lit.int .u64 u)≠Lit.int .u64 t:=fun e2=>e (by injection e2)
  rw[if_neg e,Maps.has_del_other hne,Maps.atKey_del_other hne]
  exact hD u hu
structure LAt (w:World) (Q b n:Nat) (s:Lg):Prop where
 st:w.heap[Q]?=some (.cells #[.int .i64 s.cap,.int .i64 s.mark,.int .i64 s.used,.map (some b),.int .i64 (total s.L)] 197 (0,0))
 mp:Mp w b n s.L
section
variable {w w':World} {Q b n:Nat} {s:Lg}
theorem LAt.lt (h:LAt w Q b n s):Q<w.heap.size:=(Array.getElem?_eq_some_iff.1 h.st).1
theorem LAt.c0 (h:LAt w Q b n s):w.cell? ⟨Q,0,none⟩=some (.int .i64 s.cap):=by rw[cell_of_row _ Q 0 _ 197 (0,0) h.st];rfl
theorem LAt.c2 (h:LAt w Q b n s):w.cell? ⟨Q,2,none⟩=some (.int .i64 s.used):=by rw[cell_of_row _ Q 2 _ 197 (0,0) h.st];rfl
theorem LAt.c3 (h:LAt w Q b n s):w.cell? ⟨Q,3,none⟩=some (.map (some b)):=by rw[cell_of_row _ Q 3 _ 197 (0,0) h.st];rfl
theorem LAt.c4 (h:LAt w Q b n s):w.cell? ⟨Q,4,none⟩=some (.int .i64 (total s.L)):=by rw[cell_of_row _ Q 4 _ 197 (0,0) h.st];rfl
theorem LAt.free (h:LAt w Q b n s)(o:Nat):w.frozen? ⟨Q,o,none⟩=false:=by simp[World.frozen?,h.st]
theorem LAt.ne (h:LAt w Q b n s):b≠Q:=fun e=>by
 obtain ⟨es,clock,hb⟩:=h.mp.typ
 rw[e,h.st] at hb
 cases hb
theorem LAt.kept (h:LAt w Q b n s)(h1:w'.heap[Q]?=w.heap[Q]?)(h2:w'.heap[b]?=w.heap[b]?):LAt w' Q b n s:=⟨h1.trans h.st,h.mp.kept h2⟩
theorem LAt.later (h:LAt w Q b n s)(hb:Below w.heap.size w w'):LAt w' Q b n s:=h.kept (hb.block Q h.lt) (hb.block b h.mp.lt)
theorem LAt.drawn (h:LAt w Q b n s)(nq:Nat):LAt (w.drewN nq) Q b n s:=h.later (below_drawn nq)
theorem LAt.mono {m:Nat}(h:LAt w Q b n s)(hm:n≤m):LAt w Q b m s:=⟨h.st,h.mp.mono hm⟩
theorem used_at (h:LAt w Q b n s):Calls prog 53 #[lp Q] w fun e w'=>e=.returned (.int .i64 s.used)∧w'=w:=by
 have c2:=h.c2
 clear h
 go_enter func53,ntmps53
 go_wp2
 go_ret
 exact⟨rfl,rfl⟩
theorem left_at (h:LAt w Q b n s){t:Int}(ht:U64 t):Calls prog 161 #[lp Q,.int .u64 t] w fun e w'=>e=.returned (.tuple #[.int .i64 ((look t s.L).getD 0),.bool (look t s.L).isSome])∧w'=w:=by
 have c3:=h.c3
 have hr:=h.mp.run_look ht
 clear h
 generalize (look t s.L).getD 0=a at *
 generalize (look t s.L).isSome=c at *
 go_enter func161,ntmps161
 go_wp2
 go_ret2
 exact⟨rfl,rfl⟩
theorem fits_at (h:LAt w Q b n s)(ok:Ok s)(k:Int):Calls prog 154 #[lp Q,.int .i64 k] w fun e w'=>e=.returned (.bool (fitsS s k))∧∃m,w'=w.drewN m:=by
 have c0:=h.c0
 have c2:=h.c2
 have c4:=h.c4
 obtain ⟨n1,n2,n3,n4,n5⟩:=ok.nums
 have HF:Hid (fitsS s k=decide (1≤k∧k≤s.cap-s.used-total s.L)):=rfl
 clear h ok
 generalize fitsS s k=f at *
 generalize s.cap=cp at *
 generalize s.used=us at *
 generalize total s.L=tl at *
 go_enter func154,ntmps154
 go_wp2_with fail
 by_cases h1:(1:Int)≤k
 ·go_quiet (fail)
  go_wp2
  go_ret
  refine⟨?_,_,rfl⟩
  rw[HF.out]
  by_cases h2:k≤cp-us-tl
  ·simp[h1,h2]
  ·simp[h2]
 ·have h2:decide ((1:Int)≤k)=false:=decide_eq_false h1
  go_quiet (fail)
  go_wp2
  go_ret
  refine⟨?_,_,rfl⟩
  rw[HF.out]
  have h3:¬(1≤k∧k≤cp-us-tl):=by omega
  simp[h3]
theorem new_ok (w:World){c m:Int}(h:mayNew c m):Calls prog 181 #[.int .i64 c,.int .i64 m] w fun e w'=>e=.returned (.tuple #[lp (w.heap.size+1),.int .i64 0])∧LAt w' (w.heap.size+1) w.heap.size 0 (newS c m)∧Below w.heap.size w w':=by
 obtain ⟨h1,h2,h3,h4⟩:=h
 have hmm:=@run_makeMap prog
 go_enter func181,ntmps181
 go_wp2
 go_ret2
 have e:(w.alloc (.map #[] 0)).heap.size=w.heap.size+1:=by simp
 refine⟨rfl,⟨?_,(Mp.made w).kept ((below_alloc _ _).block _ (by rw[e];omega))⟩,below_then (below_alloc w _) (below_alloc _ _)⟩
 rw[← e]
 exact heap_alloc_new _ _
end
end Go.Proofs.YtcdjepkhdjpjcaaGreatDoor.E.L
namespace Go.Proofs.YtcdjepkhdjpjcaaGreatDoor.E.L
open Go.Proofs.Tryz
open Go.RowKit
theorem five {w:World}{Q:Nat}{a0 a1 a2 a3 a4:Value}{ty:TypeId}(h:w.heap[Q]?=some (.cells #[a0,a1,a2,a3,a4] ty (0,0))) :
  w.cell? ⟨Q,0,none⟩=some a0∧w.cell? ⟨Q,1,none⟩=some a1∧w.cell? ⟨Q,2,none⟩=some a2∧w.cell? ⟨Q,3,none⟩=some a3∧w.cell? ⟨Q,4,none⟩=some a4∧∀o,w.frozen? ⟨Q,o,none⟩=false :=
 ⟨by rw[cell_of_row _ Q 0 _ ty (0,0) h];rfl,by rw[cell_of_row _ Q 1 _ ty (0,0) h];rfl,by rw[cell_of_row _ Q 2 _ ty (0,0) h];rfl,by rw[cell_of_row _ Q 3 _ ty (0,0) h];rfl,by rw[cell_of_row _ Q 4 _ ty (0,0) h];rfl,fun o=>by simp[World.frozen?,h]⟩
theorem st_set {w:World}{Q:Nat}{cs:Array Value}{ty:TypeId}(o:Nat)(v:Value)(h:w.heap[Q]?=some (.cells cs ty (0,0))):(w.setCell ⟨Q,o,none⟩ v).heap[Q]?=some (.cells (cs.setIfInBounds o v) ty (0,0)):=by
 rw[setCell_eq_setRow w Q o _ ty (0,0) v h]
 exact setRow_heap w Q _ _ ty _ h
theorem rsvE_in {s:Lg}{t k:Int}(h:t=0∨k<1):rsvE s t k=2:=by simp only[rsvE,if_pos h]
theorem rsvE_has {s:Lg}{t k v:Int}(h:¬(t=0∨k<1))(e:look t s.L=some v):rsvE s t k=110:=by simp only[rsvE,if_neg h,e,Option.isSome_some,if_true]
theorem rsvE_room {s:Lg}{t k:Int}(h:¬(t=0∨k<1))(e:look t s.L=none)(f:fitsS s k=false):rsvE s t k=120:=by simp[rsvE,if_neg h,e,f]
theorem rsvE_ok {s:Lg}{t k:Int}(h:¬(t=0∨k<1))(e:look t s.L=none)(f:fitsS s k=true):rsvE s t k=0:=by simp[rsvE,if_neg h,e,f]
theorem rsvS_not {s:Lg}{t k:Int}(h:rsvE s t k≠0):rsvS s t k=s:=if_neg h
theorem rsvS_ok {s:Lg}{t k:Int}(h:rsvE s t k=0):rsvS s t k={ s with L:=s.L++[(t,k)] }:=if_pos h
section
variable {w w':World} {Q b n:Nat} {s:Lg}
def LF (Q b:Nat)(x:Nat):Prop:=x=Q∨x=b
theorem reserve_in (w:World)(Q:Nat){t k:Int}(h:t=0∨k<1):Calls prog 89 #[lp Q,.int .u64 t,.int .i64 k] w fun e w'=>e=.returned (.int .i64 2)∧w'=w:=by
 by_cases h0:t=0
 ·subst h0
  clear h
  go_enter func89,ntmps89
  go_wp2
  go_ret
  exact⟨rfl,rfl⟩
 ·have h1:k<1:=by omega
  have h2:(t == 0)=false:=by simpa using h0
  clear h
  go_enter func89,ntmps89
  go_wp2
  go_ret
  exact⟨rfl,rfl⟩
theorem reserve_has (h:LAt w Q b n s){t k v:Int}(ht:U64 t)(h0:¬t=0)(h1:¬k<1)(e:look t s.L=some v):Calls prog 89 #[lp Q,.int .u64 t,.int .i64 k] w fun e w'=>e=.returned (.int .i64 110)∧w'=w:=by
 have c3:=h.c3
 have hr:=h.mp.run_look ht
 rw[e] at hr
 simp only[Option.getD_some,Option.isSome_some] at hr
 have h2:(t == 0)=false:=by simpa using h0
 clear h
 go_enter func89,ntmps89
 go_wp2
 go_ret
 exact⟨rfl,rfl⟩
theorem reserve_room (h:LAt w Q b n s)(ok:Ok s){t k:Int}(ht:U64 t)(h0:¬t=0)(h1:¬k<1)(e:look t s.L=none)(f:fitsS s k=false):Calls prog 89 #[lp Q,.int .u64 t,.int .i64 k] w fun e w'=>e=.returned (.int .i64 120)∧∃m,w'=w.drewN m:=by
 have c3:=h.c3
 have hr:=h.mp.run_look ht
 rw[e] at hr
 simp only[Option.getD_none,Option.isSome_none] at hr
 have h2:(t == 0)=false:=by simpa using h0
 have hf:=fits_at h ok k
 rw[f] at hf
 clear h ok
 go_enter func89,ntmps89
 go_wp2_with (go_at_call 154;refine hf.mono ?_;rintro e w' ⟨rfl,m,rfl⟩)
 go_ret
 exact⟨rfl,_,rfl⟩
theorem reserve_ok (h:LAt w Q b n s)(ok:Ok s)(hn:n<10000){t k:Int}(ht:U64 t)(h0:¬t=0)(h1:¬k<1)(e:look t s.L=none)(f:fitsS s k=true) :
  Calls prog 89 #[lp Q,.int .u64 t,.int .i64 k] w fun e w'=>e=.returned (.int .i64 0)∧LAt w' Q b (n+1) { s with L:=s.L++[(t,k)] }∧Kept (LF Q b) w w':=by
 have c3:=h.c3
 have hr:=h.mp.run_look ht
 rw[e] at hr
 simp only[Option.getD_none,Option.isSome_none] at hr
 have h2:(t == 0)=false:=by simpa using h0
 have hf:=fits_at h ok k
 have f':1≤k∧k≤s.cap-s.used-total s.L:=by simpa [fitsS] using f
 rw[f] at hf
 obtain ⟨n1,n2,n3,n4,n5⟩:=ok.nums
 have hf2:Calls prog 154 #[lp Q,.int .i64 k] w fun e w'=>e=.returned (.bool true)∧LAt w' Q b n s∧Kept (LF Q b) w w':=hf.mono fun e w' hh=>by
  obtain ⟨h1,m,rfl⟩:=hh
  exact⟨h1,h.drawn m,Kept.of_below _ (below_drawn m)⟩
 clear h ok hf
 go_enter func89,ntmps89
 go_wp2_with fail
 refine hf2.mono ?_
 rintro e w1 ⟨rfl,h3,k3⟩
 have H3:Hid (LAt w1 Q b n s∧Kept (LF Q b) w w1):=⟨h3,k3⟩
 obtain ⟨w2,hu,hm,hk⟩:=h3.mp.run_put (L':=s.L++[(t,k)]) hn ht (i64_wf (by omega) (by omega)) (fun u=>look_app e)
 have hs2:Hid (w2.heap[Q]?=some (.cells #[.int .i64 s.cap,.int .i64 s.mark,.int .i64 s.used,.map (some b),.int .i64 (total s.L)] 197 (0,0))):=(hk.block Q h3.lt (fun e=>h3.ne e.symm)).trans h3.st
 have H2:Hid (Mp w2 b (n+1) (s.L++[(t,k)])∧Kept (·=b) w1 w2):=⟨hm,hk⟩
 have d3:=h3.c3
 obtain ⟨_,_,_,_,e4,ef⟩:=five hs2.out
 have e4f:=ef 4
 clear h3 k3 hm hk ef hr
 go_wp2
 go_ret
 refine⟨rfl,⟨?_,H2.out.1.kept ((Kept.setCell Q 4 _).block b H2.out.1.lt H3.out.1.ne)⟩,(H3.out.2.trans H2.out.2 fun x _ e=>.inr e).trans (Kept.setCell Q 4 _) fun x _ e=>.inl e⟩
 rw[st_set 4 _ hs2.out,total_app]
 rfl
theorem reserve_at (h:LAt w Q b n s)(ok:Ok s)(hn:n<10000){t:Int}(ht:U64 t)(k:Int) :
  Calls prog 89 #[lp Q,.int .u64 t,.int .i64 k] w fun e w'=>e=.returned (.int .i64 (rsvE s t k))∧LAt w' Q b (n+1) (rsvS s t k)∧Kept (LF Q b) w w':=by
 by_cases h1:t=0∨k<1
 ·have e1:=rsvE_in (s:=s) h1
  rw[e1,rsvS_not (by rw[e1];decide)]
  exact (reserve_in w Q h1).mono fun e w' ⟨a,c⟩=>⟨a,by rw[c];exact h.mono (Nat.le_succ _),by rw[c];exact Kept.refl _ _⟩
 ·cases hl:look t s.L with
  | some v =>
   have e1:=rsvE_has h1 hl
   rw[e1,rsvS_not (by rw[e1];decide)]
   exact (reserve_has h ht (by omega) (by omega) hl).mono fun e w' ⟨a,c⟩=>⟨a,by rw[c];exact h.mono (Nat.le_succ _),by rw[c];exact Kept.refl _ _⟩
  | none =>
   cases hf:fitsS s k with
   | false =>
    have e1:=rsvE_room h1 hl hf
    rw[e1,rsvS_not (by rw[e1];decide)]
    refine (reserve_room h ok ht (by omega) (by omega) hl hf).mono fun e w' hh=>?_
    obtain ⟨a,m,rfl⟩:=hh
    exact⟨a,(h.drawn m).mono (Nat.le_succ _),Kept.of_below _ (below_drawn m)⟩
   | true =>
    have e1:=rsvE_ok h1 hl hf
    rw[e1,rsvS_ok e1]
    exact reserve_ok h ok hn ht (by omega) (by omega) hl hf
theorem append_at (h:LAt w Q b n s)(ok:Ok s)(hn:n<10000){t:Int}(ht:U64 t) :
  Calls prog 95 #[lp Q,.int .u64 t] w fun e w'=>e=.returned (.int .i64 (appE s t))∧LAt w' Q b (n+1) (appS s t)∧Kept (LF Q b) w w':=by
 have H:Hid (LAt w Q b n s):=h
 have c3:=h.c3
 have hr:=h.mp.run_look ht
 cases e:look t s.L with
 | none =>
  rw[e] at hr
  simp only[Option.getD_none,Option.isSome_none] at hr
  have HE:Hid (appE s t=110∧appS s t=s):=⟨by simp[appE,e],by simp[appS,e]⟩
  clear h ok
  go_enter func95,ntmps95
  go_wp2
  go_ret
  rw[HE.out.1,HE.out.2]
  exact⟨rfl,H.out.mono (Nat.le_succ _),Kept.refl _ _⟩
 | some v =>
  rw[e] at hr
  simp only[Option.getD_some,Option.isSome_some] at hr
  by_cases hv:v=0
  ·subst hv
   have HE:Hid (appE s t=120∧appS s t=s):=⟨by simp[appE,e],by simp[appS,e]⟩
   clear h ok
   go_enter func95,ntmps95
   go_wp2
   go_ret
   rw[HE.out.1,HE.out.2]
   exact⟨rfl,H.out.mono (Nat.le_succ _),Kept.refl _ _⟩
  ·have HE:Hid (appE s t=0∧appS s t={ s with used:=s.used+1,L:=set t (v-1) s.L }):=⟨by simp[appE,e,hv],by simp[appS,e,hv]⟩
   obtain ⟨n1,n2,n3,n4,n5⟩:=ok.nums
   have hle:=look_le ok.fine e
   have hv2:(v == 0)=false:=by simpa using hv
   have HT:Hid (total (set t (v-1) s.L)=total s.L-1):=by have:=total_set (v:=v-1) e;show _=_;omega
   obtain ⟨w2,hu,hm,hk⟩:=h.mp.run_put (L':=set t (v-1) s.L) (v:=v-1) hn ht (i64_wf (by omega) (by omega)) (fun u=>look_set e)
   have hs2:Hid (w2.heap[Q]?=some (.cells #[.int .i64 s.cap,.int .i64 s.mark,.int .i64 s.used,.map (some b),.int .i64 (total s.L)] 197 (0,0))):=(hk.block Q h.lt (fun e=>h.ne e.symm)).trans h.st
   have H2:Hid (Mp w2 b (n+1) (set t (v-1) s.L)∧Kept (·=b) w w2):=⟨hm,hk⟩
   obtain ⟨_,_,e2,_,e4,ef⟩:=five hs2.out
   have e4f:=ef 4
   have e2f:=ef 2
   clear h ok hm hk ef hv e
   generalize s.used=us at *
   generalize total s.L=tl at *
   go_enter func95,ntmps95
   go_wp2
   go_ret
   rw[HE.out.1,HE.out.2]
   refine⟨rfl,⟨?_,(H2.out.1.kept ((Kept.setCell Q 4 _).block b H2.out.1.lt H.out.ne)).kept ((Kept.setCell Q 2 _).block b (by have:=H2.out.1.lt;simpa using this) H.out.ne)⟩,((H2.out.2.wider fun x _ e=>.inr e).trans (Kept.setCell Q 4 _) fun x _ e=>.inl e).trans (Kept.setCell Q 2 _) fun x _ e=>.inl e⟩
   rw[st_set 2 _ (st_set 4 _ hs2.out),HT.out]
   rfl
theorem wpList_delete_mp {ops:Array Oper}{rest:List Oper}{o:Oper}{a:Act}{R:Exit→Act→World→Prop}(hg:o.guard=none)(m x:Operand)(hop:o.op=Op.call { callee:=Callee.builtin Builtin.delete,args:=#[m,x],argTypes:=#[195,52] })
  (L L':List (Int × Int)) (hm:a.eval m=.map (some b)) (h:Mp w b n L) (t:Int) (ht:U64 t) (hx:a.eval x=.int .u64 t) (hL:∀u,look u L'=if u=t then none else look u L)
  (hK:∀w',Mp w' b n L'→Kept (·=b) w w'→wpList prog ops R rest (a.put o.dst (.tuple #[])) w') :
  wpList prog ops R (o :: rest) a w:=by
 refine wpList_plain hg fun K' hK'=>?_
 obtain ⟨w',hrun,r1,r2⟩:=h.run_del ht hL o.type
 unfold Oper.wp
 simp[execOp,hop,resolve,invoke,builtin,hm,hx,hrun,Result.andThen]
 exact hK' _ _ (hK w' r1 r2)
theorem close_at (h:LAt w Q b n s)(ok:Ok s){t:Int}(ht:U64 t) :
  Calls prog 163 #[lp Q,.int .u64 t] w fun e w'=>e=.returned (.int .i64 (clsE s t))∧LAt w' Q b (n+1) (clsS s t)∧Kept (LF Q b) w w':=by
 have H:Hid (LAt w Q b n s):=h
 have c3:=h.c3
 have hr:=h.mp.run_look ht
 cases e:look t s.L with
 | none =>
  rw[e] at hr
  simp only[Option.getD_none,Option.isSome_none] at hr
  have HE:Hid (clsE s t=110∧clsS s t=s):=⟨by simp[clsE,e],by simp[clsS,cut_none e]⟩
  clear h ok
  go_enter func163,ntmps163
  go_wp2
  go_ret
  rw[HE.out.1,HE.out.2]
  exact⟨rfl,H.out.mono (Nat.le_succ _),Kept.refl _ _⟩
 | some v =>
  rw[e] at hr
  simp only[Option.getD_some,Option.isSome_some] at hr
  have HE:Hid (clsE s t=0):=by show _=_;simp[clsE,e]
  obtain ⟨n1,n2,n3,n4,n5⟩:=ok.nums
  have hle:=look_le ok.fine e
  have HT:Hid (total (cut t s.L)=total s.L-v):=total_cut e
  have hcut:Hid (∀u,look u (cut t s.L)=if u=t then none else look u s.L):=fun u=>look_cut ok.fine
  clear h ok e
  go_enter func163,ntmps163
  go_wp2_with (at_delete;refine wpList_delete_mp rfl (.tmp 23) (.tmp 24) rfl s.L (cut t s.L) rfl H.out.mp t ht rfl hcut.out ?_;intro w2 hm hk;have hs2:Hid (w2.heap[Q]?=some (.cells #[.int .i64 s.cap,.int .i64 s.mark,.int .i64 s.used,.map (some b),.int .i64 (total s.L)] 197 (0,0))):=(hk.block Q H.out.lt (fun e=>H.out.ne e.symm)).trans H.out.st;have H2:Hid (Mp w2 b n (cut t s.L)∧Kept (·=b) w w2):=⟨hm,hk⟩;have e4:=(five hs2.out).2.2.2.2.1;have e4f:=(five hs2.out).2.2.2.2.2 4;clear hm hk hr c3)
  go_ret
  rw[HE.out]
  refine⟨rfl,⟨?_,(H2.out.1.kept ((Kept.setCell Q 4 _).block b H2.out.1.lt H.out.ne)).mono (Nat.le_succ _)⟩,((H2.out.2.wider fun x _ e=>.inr e).trans (Kept.setCell Q 4 _) fun x _ e=>.inl e)⟩
  rw[st_set 4 _ hs2.out]
  show _=some (Obj.cells #[.int .i64 s.cap,.int .i64 s.mark,.int .i64 s.used,.map (some b),.int .i64 (total (cut t s.L))] 197 (0,0))
  rw[HT.out]
  rfl
theorem free_at (h:LAt w Q b n s)(ok:Ok s)(k:Int) :
  Calls prog 166 #[lp Q,.int .i64 k] w fun e w'=>e=.returned (.int .i64 (freE s k))∧LAt w' Q b (n+1) (freS s k)∧Kept (LF Q b) w w':=by
 have H:Hid (LAt w Q b n s):=h
 have c2:=h.c2
 have f2:=h.free 2
 obtain ⟨n1,n2,n3,n4,n5⟩:=ok.nums
 by_cases hk:0≤k∧k≤s.used
 ·have HE:Hid (freE s k=0∧freS s k={ s with used:=s.used-k }):=⟨if_pos hk,if_pos hk⟩
  obtain ⟨k1,k2⟩:=hk
  clear h ok
  generalize s.used=us at *
  go_enter func166,ntmps166
  go_wp2
  go_ret
  rw[HE.out.1,HE.out.2]
  refine⟨rfl,⟨?_,(H.out.mp.kept ((Kept.setCell Q 2 _).block b H.out.mp.lt H.out.ne)).mono (Nat.le_succ _)⟩,(Kept.setCell Q 2 _).wider fun x _ e=>.inl e⟩
  rw[st_set 2 _ H.out.st]
  rfl
 ·have HE:Hid (freE s k=2∧freS s k=s):=⟨if_neg hk,if_neg hk⟩
  clear h ok
  generalize s.used=us at *
  by_cases k1:k<0
  ·go_enter func166,ntmps166
   go_wp2
   go_ret
   rw[HE.out.1,HE.out.2]
   exact⟨rfl,H.out.mono (Nat.le_succ _),Kept.refl _ _⟩
  ·have k2:us<k:=by omega
   clear hk
   go_enter func166,ntmps166
   go_wp2
   go_ret
   rw[HE.out.1,HE.out.2]
   exact⟨rfl,H.out.mono (Nat.le_succ _),Kept.refl _ _⟩
end
end Go.Proofs.YtcdjepkhdjpjcaaGreatDoor.E.L
namespace Go.Proofs.YtcdjepkhdjpjcaaGreatDoor.E.B
abbrev Up (l:List Int):Prop:=l.Pairwise (· < ·)
theorem Up.ext:∀{l l':List Int},Up l→Up l'→(∀x,x∈l↔x∈l')→l=l'
 | [],[],_,_,_=>rfl
 | [],b :: t,_,_,h=>absurd ((h b).2 (List.mem_cons_self)) (by simp)
 | a :: s,[],_,_,h=>absurd ((h a).1 (List.mem_cons_self)) (by simp)
 | a :: s,b :: t,h1,h2,h=>by
  have h1':=List.pairwise_cons.1 h1
  have h2':=List.pairwise_cons.1 h2
  have hab:a=b:=by
   rcases List.mem_cons.1 ((h a).1 List.mem_cons_self) with e | e
   ·exact e
   rcases List.mem_cons.1 ((h b).2 List.mem_cons_self) with e2 | e2
   ·exact e2.symm
   have:=h2'.1 a e
   have:=h1'.1 b e2
   omega
  subst hab
  congr 1
  refine Up.ext h1'.2 h2'.2 fun x=>⟨fun hx=>?_,fun hx=>?_⟩
  ·rcases List.mem_cons.1 ((h x).1 (List.mem_cons_of_mem _ hx)) with e | e
   ·have:=h1'.1 x hx;omega
   ·exact e
  ·rcases List.mem_cons.1 ((h x).2 (List.mem_cons_of_mem _ hx)) with e | e
   ·have:=h2'.1 x hx;omega
   ·exact e
def ins (x:Int):List Int→List Int
 | []=>[x]
 | y :: l=>if x<y then x :: y :: l else if x=y then y :: l else y :: ins x l
theorem mem_ins (x z:Int):∀l:List Int,z∈ins x l↔z=x∨z∈l
 | []=>by simp[ins]
 | y :: l=>by
  unfold ins
  split
  ·simp
  ·split
   ·rename_i h;subst h;simp
   ·have:=mem_ins x z l
    simp only[List.mem_cons,this]
    constructor
    ·rintro (h | h | h) <;> simp[h]
    ·rintro (h | h | h) <;> simp[h]
theorem up_ins (x:Int):∀l:List Int,Up l→Up (ins x l)
 | [],_=>by simp[ins]
 | y :: l,h=>by
  have h':=List.pairwise_cons.1 h
  unfold ins
  split
  ·rename_i hxy
   refine List.pairwise_cons.2 ⟨fun z hz=>?_,h⟩
   rcases List.mem_cons.1 hz with e | e
   ·omega
   ·have:=h'.1 z e;omega
  ·split
   ·exact h
   ·refine List.pairwise_cons.2 ⟨fun z hz=>?_,up_ins x l h'.2⟩
    rcases (mem_ins x z l).1 hz with e | e
    ·omega
    ·exact h'.1 z e
theorem ins_length (x:Int):∀l:List Int,(ins x l).length≤l.length+1
 | []=>by simp[ins]
 | y :: l=>by
  have:=ins_length x l
  unfold ins
  split
  ·simp
  ·split
   ·simp
   ·simp;omega
def diffS (xs:List Int):List Int:=xs.foldr ins []
theorem mem_diffS (z:Int):∀xs:List Int,z∈diffS xs↔z∈xs
 | []=>by simp[diffS]
 | x :: xs=>by
  have:=mem_diffS z xs
  unfold diffS at *
  rw[List.foldr_cons,mem_ins,this,List.mem_cons]
theorem up_diffS:∀xs:List Int,Up (diffS xs)
 | []=>by simp[diffS]
 | x :: xs=>up_ins x _ (up_diffS xs)
theorem diffS_length:∀xs:List Int,(diffS xs).length≤xs.length
 | []=>by simp[diffS]
 | x :: xs=>by
  have h1:=ins_length x (diffS xs)
  have h2:=diffS_length xs
  have e:diffS (x :: xs)=ins x (diffS xs):=rfl
  rw[e]
  simp only[List.length_cons]
  omega
theorem diffS_eq {l xs:List Int}(hu:Up l)(hm:∀x,x∈l↔x∈xs):l=diffS xs:=Up.ext hu (up_diffS xs) fun x=>(hm x).trans (mem_diffS x xs).symm
theorem diffS_nil {xs:List Int}(h:diffS xs=[]):xs=[]:=by
 cases xs with
 | nil=>rfl
 | cons x xs=>have:=(mem_diffS x (x :: xs)).2 List.mem_cons_self;rw[h] at this;cases this
def belS (xs:List Int)(b:Int):Bool:=decide (∀x∈xs,0≤x∧x<b)
def mayS (b m:Int):Bool:=decide (1≤b∧b≤64∧1≤m∧m≤16∧m≤b)
def formS (xs:List Int)(b m:Int):List Int × Int :=
 if mayS b m=false then ([],2) else if xs=[] then ([],50) else if belS xs b=false then ([],51) else if m<((diffS xs).length:Int) then ([],52) else (diffS xs,0)
theorem formS_len (xs:List Int)(b m:Int):(formS xs b m).1.length≤16:=by
 unfold formS
 split
 ·simp
 split
 ·simp
 split
 ·simp
 split
 ·simp
 ·rename_i h _ _ h2
  have:mayS b m=true:=by simpa using h
  simp only[mayS,decide_eq_true_eq] at this
  simp only
  omega
theorem formS_ok {xs:List Int}{b m:Int}(h:(formS xs b m).2=0):(formS xs b m).1=diffS xs∧mayS b m=true∧xs≠[]∧belS xs b=true∧((diffS xs).length:Int)≤m:=by
 unfold formS at h ⊢
 split at h
 ·simp at h
 split at h
 ·simp at h
 split at h
 ·simp at h
 split at h
 ·simp at h
 ·rename_i h1 h2 h3 h4
  rw[if_neg h1,if_neg h2,if_neg h3,if_neg h4]
  exact⟨rfl,by simpa using h1,h2,by simpa using h3,by omega⟩
theorem formS_errs (xs:List Int)(b m:Int):((formS xs b m).2=0∨(formS xs b m).2=2∨(formS xs b m).2=50∨(formS xs b m).2=51∨(formS xs b m).2=52)∧((formS xs b m).2≠0→(formS xs b m).1=[]):=by
 unfold formS
 split
 ·simp
 split
 ·simp
 split
 ·simp
 split
 ·simp
 ·simp
open Go.Proofs.Tryz Go.RowKit
theorem info3:(prog.info? 3).map (fun i=>(i.zero,i.size,i.bytes))=some (some (.int .i64 0),1,8):=by kernel_rfl
abbrev I64 (xs:List Int):List Value:=xs.map (Value.int .i64)
theorem ones_i64 (xs:List Int):∀v∈I64 xs,v.oneCell'=true:=by
 intro u hu;obtain ⟨x,_,rfl⟩:=List.mem_map.1 hu;rfl
theorem one_i64 (x:Int):∀u∈[Value.int .i64 x],u.oneCell'=true:=by
 intro u hu;obtain rfl:=List.mem_singleton.1 hu;rfl
structure IIn (w:World) (p:Option Addr) (n:Nat) (xs:List Int):Prop where
 len:xs.length=n
 cells:0<n→∃b o,p=some ⟨b,o,none⟩∧∀i,i<n→w.cell? ⟨b,o+i,none⟩=some (.int .i64 (xs.getD i 0))
theorem IIn.lt {w:World}{a:Addr}{n:Nat}{xs:List Int}(h:IIn w (some a) n xs)(h0:0<n):a.block<w.heap.size:=by
 obtain ⟨b,o,e,hc⟩:=h.cells h0
 simp only[Option.some.injEq] at e
 subst e
 exact World.block_lt_of_cell? w _ (hc 0 h0)
theorem IIn.later {w w':World}{p:Option Addr}{n:Nat}{xs:List Int}(h:IIn w p n xs)(hb:Below w.heap.size w w'):IIn w' p n xs:=by
 refine⟨h.len,fun h0=>?_⟩
 obtain ⟨b,o,rfl,hc⟩:=h.cells h0
 refine⟨b,o,rfl,fun i hi=>?_⟩
 rw[hb.cell (p:=⟨b,o+i,none⟩) (h.lt h0)]
 exact hc i hi
theorem IIn.news {w:World}{a:Addr}{n:Nat}{xs:List Int}(h:IIn w (some a) n xs):∀j u,(I64 xs)[j]?=some u→w.cell? (a.add j)=some u:=by
 intro j u hj
 have hjn:j<xs.length:=by
  have:=(List.getElem?_eq_some_iff.1 hj).1
  simpa using this
 obtain ⟨b,o,e,hc⟩:=h.cells (by have:=h.len;omega)
 simp only[Option.some.injEq] at e
 subst e
 rw[Go.WideShapes.add_plain,hc j (by have:=h.len;omega),← hj]
 simp[List.getD,List.getElem?_eq_getElem hjn]
theorem IIn.newsAny {w:World}{p:Option Addr}{n:Nat}{xs:List Int}(h:IIn w p n xs):∀ad,p=some ad→∀j u,(I64 xs)[j]?=some u→w.cell? (ad.add j)=some u:=by
 intro ad e
 subst e
 exact h.news
theorem lit_in (w:World)(xs:List Int)(n:Nat)(hl:xs.length=n):IIn (w.alloc (.cells (I64 xs).toArray 3)) (some ⟨w.heap.size,0,none⟩) n xs:=by
 refine⟨hl,fun h0=>⟨_,0,rfl,fun i hi=>?_⟩⟩
 rw[Nat.zero_add,cell_of_row _ w.heap.size i (I64 xs).toArray 3 (0,0) (heap_alloc_new w _)]
 simp[I64,List.getD,List.getElem?_eq_getElem (show i<xs.length by omega)]
theorem own_later {w w':World}{base:Nat}{e:TypeId}{size:Nat}{v:Value}{n:Nat}{xs:List Value}(h:w.ownsRow base e size v n xs)(hb:Below w.heap.size w w'):w'.ownsRow base e size v n xs:=by
 refine⟨h.1,?_⟩
 rcases h.2 with hn | ⟨g,cap,cur,rfl,h1,hg,rest⟩
 ·exact .inl hn
 ·exact .inr ⟨g,cap,cur,rfl,h1,(hb.block g (Array.getElem?_eq_some_iff.1 hg).1).trans hg,rest⟩
theorem own_mono {w:World}{base base':Nat}{e:TypeId}{size:Nat}{v:Value}{n:Nat}{xs:List Value}(h:w.ownsRow base e size v n xs)(hb:base'≤base):w.ownsRow base' e size v n xs:=by
 refine⟨h.1,?_⟩
 rcases h.2 with hn | ⟨g,cap,cur,rfl,h1,rest⟩
 ·exact .inl hn
 ·exact .inr ⟨g,cap,cur,rfl,Nat.le_trans hb h1,rest⟩
theorem ints_in {w:World}{base:Nat}{v:Value}{n:Nat}{xs:List Int}(h:w.ownsRow base 3 1 v n (I64 xs)):∃p c,v=.slice p n c∧IIn w p n xs∧n≤c∧(p=none→c=0)∧(∀a,p=some a→base≤a.block∧a.block<w.heap.size):=by
 have hl:xs.length=n:=by have:=h.1;simpa [I64] using this
 rcases h.2 with ⟨rfl,rfl⟩ | ⟨g,cap,cur,rfl,h1,hg,hnc,hcm,hsz,htake⟩
 ·exact⟨none,0,rfl,⟨hl,fun h0=>absurd h0 (Nat.lt_irrefl 0)⟩,Nat.le_refl _,fun _=>rfl,fun a e=>by cases e⟩
 ·refine⟨_,cap,rfl,⟨hl,fun h0=>⟨g,0,rfl,fun i hi=>?_⟩⟩,hnc,(fun e=>by cases e),fun a e=>?_⟩
  ·have:=h.cellAt i (by omega)
   rw[Nat.zero_add,this]
   simp[I64,List.getD,List.getElem?_eq_getElem (show i<xs.length by omega)]
  ·simp only[Option.some.injEq] at e
   subst e
   exact⟨h1,(Array.getElem?_eq_some_iff.1 hg).1⟩
structure Made (w w':World) (p:Option Addr) (n c:Nat) (xs:List Int):Prop where
 own:w'.ownsRow w.heap.size 3 1 (.slice p n c) n (I64 xs)
 below:Below w.heap.size w w'
theorem made_of {w w':World}{v:Value}{n:Nat}{xs:List Int}(h:w'.ownsRow w.heap.size 3 1 v n (I64 xs))(hb:Below w.heap.size w w'):∃p c,v=.slice p n c∧Made w w' p n c xs:=by
 obtain ⟨p,c,rfl,_⟩:=ints_in h
 exact⟨p,c,rfl,h,hb⟩
theorem made_nil (w:World){w':World}(hb:Below w.heap.size w w'):Made w w' none 0 0 []:=⟨World.ownsRow_nil _ _ _ _,hb⟩
theorem wpList_append_any {P:Program}(w:World){ops:Array Oper}{rest:List Oper}{o:Oper}{a:Act}{Q:Exit→Act→World→Prop}(hgd:o.guard=none)(s x:Operand)(t:TypeId)
  (ho:o.op=.call { callee:=.builtin .append,args:=#[s,x],argTypes:=#[t,t] })
  (base:Nat) (e:TypeId) (i:TypeInfo) (z:Value) (bytes:Nat) (ht:P.underlying t=some (.slice e)) (hi:P.info? e=some i) (hz:i.zero=some z)
  (hsize:i.size=1) (hby:i.bytes=bytes) (hzs:z.cells.size=1)
  (v:Value) (n:Nat) (xs:List Value) (hs:a.eval s=v) (hown:w.ownsRow base e 1 v n xs)
  (p:Option Addr) (m c:Nat) (news:List Value) (hx:a.eval x=.slice p m c) (hp:p=none→c=0) (hmc:m≤c) (hl:news.length=m) (hnews:∀ad,p=some ad→∀j u,news[j]?=some u→w.cell? (ad.add j)=some u) (h1:∀u∈news,u.oneCell'=true)
  (h63:n+m≤maxLen) (hbytes:(n+m)*bytes≤140737488355328) (hbase:base≤w.heap.size)
  (h:∀v' w',w'.ownsRow base e 1 v' (n+m) (xs++news)→w.grownBy w' v.ownBlock→wpList P ops Q rest (a.put o.dst v') w'):wpList P ops Q (o :: rest) a w:=by
 cases p with
 | some ad=>exact wpList_append_own w hgd s x t ho base e i z 1 bytes ht hi hz hsize hby hzs (by omega) v n xs hs hown ad m c news hx (by omega) (hnews ad rfl) h1 h63 hbytes hbase fun v' w' a b _=>h v' w' a b
 | none =>
  obtain rfl:=hp rfl
  obtain rfl:m=0:=by omega
  obtain rfl:news=[]:=List.eq_nil_of_length_eq_zero hl
  refine wpList_append_own_none hgd s x t ho base e i 1 ht hi v n xs hs hown hx ?_
  exact h v w (by simpa using hown) (World.grownBy.refl _ _)
open Go.Shelf Go.Lib Go.Sort
def lays189_ren:Go.Shelf.Ren:=⟨fun | 189=>219 | 125=>234 | 257=>233 | 128=>244 | 129=>245 | 294=>235 | 295=>236 | 296=>237 | 297=>238 | 298=>239 | 299=>240 | 216=>241 | 300=>242 | 301=>243 | 328=>246 | 329=>247 | 330=>248 | 331=>249 | 332=>250 | 215=>168 | 343=>251 | n=>n,fun | 28=>59 | 3=>3 | 46=>251 | 0=>0 | 51=>256 | 53=>52 | 4=>4 | 183=>312 | 182=>311 | 131=>102 | 5=>5 | 9=>9 | 218=>318 | 222=>321 | 228=>323 | 229=>228 | n=>n,fun | n=>n⟩
theorem lays189:Go.Proofs.Lays.n189 prog lays189_ren:={
 mixed:=by kernel_rfl
 f125:=func234.trans (congrArg some (by kernel_rfl))
 f128:=func244.trans (congrArg some (by kernel_rfl))
 f129:=func245.trans (congrArg some (by kernel_rfl))
 f189:=func219.trans (congrArg some (by kernel_rfl))
 f215:=func168.trans (congrArg some (by kernel_rfl))
 f216:=func241.trans (congrArg some (by kernel_rfl))
 f257:=func233.trans (congrArg some (by kernel_rfl))
 f294:=func235.trans (congrArg some (by kernel_rfl))
 f295:=func236.trans (congrArg some (by kernel_rfl))
 f296:=func237.trans (congrArg some (by kernel_rfl))
 f297:=func238.trans (congrArg some (by kernel_rfl))
 f298:=func239.trans (congrArg some (by kernel_rfl))
 f299:=func240.trans (congrArg some (by kernel_rfl))
 f300:=func242.trans (congrArg some (by kernel_rfl))
 f301:=func243.trans (congrArg some (by kernel_rfl))
 f328:=func246.trans (congrArg some (by kernel_rfl))
 f329:=func247.trans (congrArg some (by kernel_rfl))
 f330:=func248.trans (congrArg some (by kernel_rfl))
 f331:=func249.trans (congrArg some (by kernel_rfl))
 f332:=func250.trans (congrArg some (by kernel_rfl))
 f343:=func251.trans (congrArg some (by kernel_rfl))
 t0:=underlying0
 a0:=Tryz.isAgg0
 z0:=Tryz.sizeOf0
 v0:=Tryz.zeroValue0
 t3:=underlying3
 a3:=Tryz.isAgg3
 z3:=Tryz.sizeOf3
 v3:=Tryz.zeroValue3
 t4:=underlying4
 a4:=Tryz.isAgg4
 z4:=Tryz.sizeOf4
 v4:=Tryz.zeroValue4
 t5:=underlying5
 a5:=Tryz.isAgg5
 z5:=Tryz.sizeOf5
 v5:=Tryz.zeroValue5
 t9:=underlying9
 a9:=Tryz.isAgg9
 z9:=Tryz.sizeOf9
 v9:=Tryz.zeroValue9
 t28:=underlying59
 a28:=Tryz.isAgg59
 z28:=Tryz.sizeOf59
 v28:=Tryz.zeroValue59
 t46:=underlying251
 a46:=Tryz.isAgg251
 z46:=Tryz.sizeOf251
 v46:=Tryz.zeroValue251
 t51:=underlying256
 a51:=Tryz.isAgg256
 z51:=Tryz.sizeOf256
 v51:=Tryz.zeroValue256
 t53:=underlying52
 a53:=Tryz.isAgg52
 z53:=Tryz.sizeOf52
 v53:=Tryz.zeroValue52
 t131:=underlying102
 a131:=Tryz.isAgg102
 z131:=Tryz.sizeOf102
 v131:=Tryz.zeroValue102
 t182:=underlying311
 a182:=Tryz.isAgg311
 z182:=Tryz.sizeOf311
 v182:=Tryz.zeroValue311
 t183:=underlying312
 a183:=Tryz.isAgg312
 z183:=Tryz.sizeOf312
 v183:=Tryz.zeroValue312
 t218:=underlying318
 a218:=Tryz.isAgg318
 z218:=Tryz.sizeOf318
 v218:=Tryz.zeroValue318
 t222:=underlying321
 a222:=Tryz.isAgg321
 z222:=Tryz.sizeOf321
 v222:=Tryz.zeroValue321
 t228:=underlying323
 a228:=Tryz.isAgg323
 z228:=Tryz.sizeOf323
 v228:=Tryz.zeroValue323
 t229:=underlying228
 a229:=Tryz.isAgg228
 z229:=Tryz.sizeOf228
 v229:=Tryz.zeroValue228 }
theorem slices_Sort_int (blk off cap:Nat)(zs:List Int)(w:World)(hH:Holds (Value.int .i64) w blk off zs.toArray)(hblk:blk<w.heap.size)(hsz:zs.length<4611686018427387904) :
  Calls prog 219 #[.slice (some ⟨blk,off,none⟩) zs.length cap] w fun e w' =>
   e=.returned (.tuple #[])∧∃n os,w'=grow (putRow (Value.int .i64) (Sort.ahead w n) blk off (zs.mergeSort fun x y=>decide (x≤y)).toArray) os:=Any.slices_Sort_int lays189 blk off cap zs w hH hblk hsz
def laysNm220_ren:Go.Shelf.Ren:=⟨fun | 20=>195 | n=>n,fun | 22=>59 | 3=>3 | 4=>4 | 0=>0 | n=>n,fun | n=>n⟩
theorem laysNm220:Go.Proofs.Lays2.n20 prog laysNm220_ren:={
 mixed:=by kernel_rfl
 f20:=func195.trans (congrArg some (by kernel_rfl))
 t0:=underlying0
 a0:=Tryz.isAgg0
 z0:=Tryz.sizeOf0
 v0:=Tryz.zeroValue0
 t3:=underlying3
 a3:=Tryz.isAgg3
 z3:=Tryz.sizeOf3
 v3:=Tryz.zeroValue3
 t4:=underlying4
 a4:=Tryz.isAgg4
 z4:=Tryz.sizeOf4
 v4:=Tryz.zeroValue4
 t22:=underlying59
 a22:=Tryz.isAgg59
 z22:=Tryz.sizeOf59
 v22:=Tryz.zeroValue59
 i3:=by kernel_rfl }
theorem slices_Compact_int (blk off cap:Nat)(zs:List Int)(w:World)(hH:Holds (Value.int .i64) w blk off zs.toArray)(hsz:zs.length≤9223372036854775807)(hcap:zs.length≤cap) :
  Calls prog 195 #[.slice (some ⟨blk,off,none⟩) zs.length cap] w fun e w'=>e=.returned (.slice (some ⟨blk,off,none⟩) (Lib.compact zs).length cap)∧∃q,w'=putRow (Value.int .i64) (Sort.ahead w q) blk off (Lib.compact zs++List.replicate (zs.length-(Lib.compact zs).length) 0).toArray:=Any.slices_Compact_int laysNm220 blk off cap zs w hH hsz hcap
theorem slices_Compact_int_empty (a:Option Addr)(cap:Nat)(w:World) :
  Calls prog 195 #[.slice a 0 cap] w fun e w'=>e=.returned (.slice a 0 cap)∧w'=w:=Any.slices_Compact_int_empty laysNm220 a cap w
theorem slices_Sort_int_none (p:Option Addr)(cap:Nat)(w:World) :
  Calls prog 219 #[.slice p 0 cap] w fun e w'=>e=.returned (.tuple #[])∧w'=w:=Any.slices_Sort_int_none lays189 p cap w
end Go.Proofs.YtcdjepkhdjpjcaaGreatDoor.E.B
