import Derived.Test.YtcdjepkhdjpjcaaGreatDoorY19
set_option maxHeartbeats 20000000
set_option maxRecDepth 100000
namespace Go.Proofs.YtcdjepkhdjpjcaaGreatDoor.E
open Go.Proofs.Tryz
open Go.RowKit
theorem may_at (w:World)(bl lc mr hi cl:Int):Calls prog 123 #[cfgV bl lc mr hi cl] w fun e w'=>e=.returned (.bool (decide (mayC bl lc mr hi cl)))∧Below w.heap.size w w':=by
 by_cases h0:1≤bl
 rotate_left
 ·have hd:decide (mayC bl lc mr hi cl)=false:=decide_eq_false fun h=>h0 (by unfold mayC at h;omega)
  rw[hd]
  clear hd
  go_enter func123,ntmps123
  go_wp2
  go_ret
  exact⟨rfl,below_alloc w _⟩
 by_cases h1:bl≤64
 rotate_left
 ·have hd:decide (mayC bl lc mr hi cl)=false:=decide_eq_false fun h=>h1 (by unfold mayC at h;omega)
  rw[hd]
  clear hd
  go_enter func123,ntmps123
  go_wp2
  go_ret
  exact⟨rfl,below_alloc w _⟩
 by_cases h2:2≤lc
 rotate_left
 ·have hd:decide (mayC bl lc mr hi cl)=false:=decide_eq_false fun h=>h2 (by unfold mayC at h;omega)
  rw[hd]
  clear hd
  go_enter func123,ntmps123
  go_wp2
  go_ret
  exact⟨rfl,below_alloc w _⟩
 by_cases h3:lc≤64
 rotate_left
 ·have hd:decide (mayC bl lc mr hi cl)=false:=decide_eq_false fun h=>h3 (by unfold mayC at h;omega)
  rw[hd]
  clear hd
  go_enter func123,ntmps123
  go_wp2
  go_ret
  exact⟨rfl,below_alloc w _⟩
 by_cases h4:1≤mr
 rotate_left
 ·have hd:decide (mayC bl lc mr hi cl)=false:=decide_eq_false fun h=>h4 (by unfold mayC at h;omega)
  rw[hd]
  clear hd
  go_enter func123,ntmps123
  go_wp2
  go_ret
  exact⟨rfl,below_alloc w _⟩
 by_cases h5:mr≤16
 rotate_left
 ·have hd:decide (mayC bl lc mr hi cl)=false:=decide_eq_false fun h=>h5 (by unfold mayC at h;omega)
  rw[hd]
  clear hd
  go_enter func123,ntmps123
  go_wp2
  go_ret
  exact⟨rfl,below_alloc w _⟩
 by_cases h6:mr≤bl
 rotate_left
 ·have hd:decide (mayC bl lc mr hi cl)=false:=decide_eq_false fun h=>h6 (by unfold mayC at h;omega)
  rw[hd]
  clear hd
  go_enter func123,ntmps123
  go_wp2
  go_ret
  exact⟨rfl,below_alloc w _⟩
 by_cases h7:mr≤lc-1
 rotate_left
 ·have hd:decide (mayC bl lc mr hi cl)=false:=decide_eq_false fun h=>h7 (by unfold mayC at h;omega)
  rw[hd]
  clear hd
  go_enter func123,ntmps123
  go_wp2
  go_ret
  exact⟨rfl,below_alloc w _⟩
 by_cases h8:1≤hi
 rotate_left
 ·have hd:decide (mayC bl lc mr hi cl)=false:=decide_eq_false fun h=>h8 (by unfold mayC at h;omega)
  rw[hd]
  clear hd
  go_enter func123,ntmps123
  go_wp2
  go_ret
  exact⟨rfl,below_alloc w _⟩
 by_cases h9:hi≤lc
 rotate_left
 ·have hd:decide (mayC bl lc mr hi cl)=false:=decide_eq_false fun h=>h9 (by unfold mayC at h;omega)
  rw[hd]
  clear hd
  go_enter func123,ntmps123
  go_wp2
  go_ret
  exact⟨rfl,below_alloc w _⟩
 by_cases h10:1≤cl
 rotate_left
 ·have hd:decide (mayC bl lc mr hi cl)=false:=decide_eq_false fun h=>h10 (by unfold mayC at h;omega)
  rw[hd]
  clear hd
  go_enter func123,ntmps123
  go_wp2
  go_ret
  exact⟨rfl,below_alloc w _⟩
 by_cases h11:cl≤8
 rotate_left
 ·have hd:decide (mayC bl lc mr hi cl)=false:=decide_eq_false fun h=>h11 (by unfold mayC at h;omega)
  rw[hd]
  clear hd
  go_enter func123,ntmps123
  go_wp2
  go_ret
  exact⟨rfl,below_alloc w _⟩
 have hd:decide (mayC bl lc mr hi cl)=true:=decide_eq_true ⟨h0,h1,h2,h3,h4,h5,h6,h7,h8,h9,h10,h11⟩
 rw[hd]
 clear hd
 go_enter func123,ntmps123
 go_wp2
 go_ret
 exact⟨rfl,below_alloc w _⟩
theorem rnew_ok (w:World){bl lc mr hi cl:Int}(h:mayC bl lc mr hi cl):Calls prog 61 #[cfgV bl lc mr hi cl] w fun e w'=>∃R,e=.returned (.tuple #[qp R,.int .i64 0])∧RL w' (fun _=>False) R nils nils (newA bl lc mr hi cl) [] []∧w.heap.size≤R∧Below w.heap.size w w':=by
 have hm:=fun w1=>may_at w1 bl lc mr hi cl
 rw[decide_eq_true h] at hm
 have HM:Hid (∀w1,Calls prog 123 #[cfgV bl lc mr hi cl] w1 fun e w'=>e=.returned (.bool true)∧Below w1.heap.size w1 w'):=hm
 clear hm h
 go_enter func61,ntmps61
 go_wp2_with fail
 refine (HM.out _).mono ?_
 rintro e w2 ⟨rfl,hb⟩
 have HB:Hid (Below w.heap.size w w2):=below_then (below_alloc w _) hb
 have hx:w2.heap[w.heap.size]?=some (.cells #[.int .i64 bl,.int .i64 lc,.int .i64 mr,.int .i64 hi,.int .i64 cl] 23 (0,0)):=(hb.block _ (by simp)).trans (heap_alloc_new w _)
 have x0:w2.cell? ⟨w.heap.size,0,none⟩=some (.int .i64 bl):=cell_of_row _ _ 0 _ 23 (0,0) hx
 have x1:w2.cell? ⟨w.heap.size,1,none⟩=some (.int .i64 lc):=cell_of_row _ _ 1 _ 23 (0,0) hx
 have x2:w2.cell? ⟨w.heap.size,2,none⟩=some (.int .i64 mr):=cell_of_row _ _ 2 _ 23 (0,0) hx
 have x3:w2.cell? ⟨w.heap.size,3,none⟩=some (.int .i64 hi):=cell_of_row _ _ 3 _ 23 (0,0) hx
 have x4:w2.cell? ⟨w.heap.size,4,none⟩=some (.int .i64 cl):=cell_of_row _ _ 4 _ 23 (0,0) hx
 clear hb hx
 go_wp2
 go_ret2
 refine⟨w2.heap.size,rfl,⟨heap_alloc_new w2 _,⟨World.ownsRow_nil _ _ _ _,trivial,fun g hg=>by cases hg⟩,⟨World.ownsRow_nil _ _ _ _,trivial,fun g hg=>by cases hg⟩⟩,HB.out.size,below_then HB.out (below_alloc w2 _)⟩
namespace B
open Go.Proofs.Tryz
def picks (xs:List Int)(k:Nat):List Int:=((List.range k).map Int.ofNat).filter fun x=>hasS xs x
theorem picks_succ (xs:List Int)(k:Nat):picks xs (k+1)=picks xs k++(if hasS xs k=true then [(k:Int)] else []):=by
 unfold picks
 rw[List.range_succ,List.map_append,List.filter_append]
 congr 1
 by_cases h:hasS xs k=true
 ·rw[if_pos h]
  simp[h]
 ·rw[if_neg h]
  simp[h]
theorem mem_picks (xs:List Int)(k:Nat)(x:Int):x∈picks xs k↔0≤x∧x<k∧x∈xs:=by
 unfold picks
 rw[List.mem_filter,hasS_iff,List.mem_map]
 constructor
 ·rintro ⟨⟨j,hj,rfl⟩,h⟩
  have:=List.mem_range.1 hj
  exact⟨Int.natCast_nonneg j,Int.ofNat_lt.2 this,h⟩
 ·rintro ⟨h1,h2,h3⟩
  exact⟨⟨x.toNat,List.mem_range.2 (by omega),Int.toNat_of_nonneg h1⟩,h3⟩
theorem up_picks (xs:List Int):∀k,Up (picks xs k)
 | 0=>by simp[picks]
 | k+1=>by
  rw[picks_succ]
  refine List.pairwise_append.2 ⟨up_picks xs k,?_,fun x hx y hy=>?_⟩
  ·split <;> simp
  ·have:=(mem_picks xs k x).1 hx
   split at hy
   ·obtain rfl:=List.mem_singleton.1 hy
    omega
   ·cases hy
theorem picks_length (xs:List Int):∀k,(picks xs k).length≤k
 | 0=>by simp[picks]
 | k+1=>by
  have:=picks_length xs k
  rw[picks_succ,List.length_append]
  split <;> simp <;> omega
theorem belS_false {xs:List Int}{b:Int}(h:¬∀x∈xs,0≤x∧x<b):belS xs b=false:=decide_eq_false h
theorem belS_true {xs:List Int}{b:Int}(h:∀x∈xs,0≤x∧x<b):belS xs b=true:=decide_eq_true h
theorem picks_diff {xs:List Int}{k:Nat}(h:belS xs k=true):picks xs k=diffS xs:=by
 have h':=of_decide_eq_true h
 exact diffS_eq (up_picks xs k) fun x=>by
  rw[mem_picks]
  exact⟨fun a=>a.2.2,fun a=>⟨(h' x a).1,(h' x a).2,a⟩⟩
theorem rform_may (p:Option Addr)(n c:Nat)(xs:List Int)(K M:Nat)(F:List Int)(E:Int)(hF:formS xs K M=(F,E))(w:World)(hreach:n+80≤17592186044416)(hI:IIn w p n xs)(hmay:mayS K M=true) :
  Calls prog 126 #[.slice p n c,.int .i64 K,.int .i64 M] w fun e' w'=>∃q d,e'=.returned (.tuple #[.slice q F.length d,.int .i64 E])∧Made w w' q F.length d F:=by
 obtain ⟨i0,hi,hz0,hz1,hz2⟩:=info_parts info3
 have hlen:=hI.len
 have h:=of_decide_eq_true hmay
 have a1:1≤K:=by omega
 have a2:K≤64:=by omega
 have a3:1≤M:=by omega
 have a4:M≤16:=by omega
 have a5:M≤K:=by omega
 unfold formS at hF
 rw[if_neg (by rw[hmay];decide)] at hF
 clear hmay h
 have HI:Hid (IIn w p n xs):=hI
 clear hI
 go_enter func126,ntmps126
 by_cases h0:n=0
 ·subst h0
  obtain rfl:xs=[]:=List.eq_nil_of_length_eq_zero hlen
  rw[if_pos rfl] at hF
  simp only[Prod.mk.injEq] at hF
  obtain ⟨rfl,rfl⟩:=hF
  go_wp2
  go_ret2
  exact⟨none,0,rfl,made_nil w (Below.refl _ _)⟩
 ·have hne:xs≠[]:=fun e=>h0 (by rw[← hlen,e];rfl)
  have hz:((n:Int) == 0)=false:=by simpa using h0
  rw[if_neg hne] at hF
  have HF:Hid ((if belS xs K=false then (([]:List Int),(51:Int)) else if (M:Int)<((diffS xs).length:Int) then ([],52) else (diffS xs,0))=(F,E)):=hF
  have HL:Hid (xs.length=n):=hlen
  clear hF hne hlen
  go_wp2_with fail
  go_loop [8] (fun i=>∃k:Nat,k≤n∧i=.int .i64 k∧Hid (∀j,j<k→0≤xs.getD j 0∧xs.getD j 0<K)) (fun i=>n-(intOf i).toNat)
  case atStart=>exact⟨0,Nat.zero_le _,rfl,fun j hj=>absurd hj (Nat.not_lt_zero _)⟩
  case round =>
   obtain ⟨k,hk,rfl,HT⟩:=hrel
   by_cases hlt:k<n
   ·obtain ⟨b',o,rfl,hcs⟩:=HI.out.cells (by omega)
    have hc:=hcs k hlt
    have HN:Hid ((0≤xs.getD k 0∧xs.getD k 0<(K:Int))→∀j,j<k+1→0≤xs.getD j 0∧xs.getD j 0<K):=fun e=>bel_step HT.out e
    have HY:Hid (¬(0≤xs.getD k 0∧xs.getD k 0<(K:Int))→F=[]∧E=51):=fun e=>by
     have:=HF.out
     rw[if_pos (belS_false (bel_not (by rw[HL.out];exact hlt) e))] at this
     simp only[Prod.mk.injEq] at this
     exact⟨this.1.symm,this.2.symm⟩
    clear hcs HT
    generalize xs.getD k 0=x at *
    by_cases h1:x<0
    ·obtain ⟨rfl,rfl⟩:=HY.out (by omega)
     clear HN HY
     go_wp2
     go_ret2
     exact⟨none,0,rfl,made_nil w (Below.refl _ _)⟩
    ·by_cases h2:x<(K:Int)
     ·have E:Hid (∀j,j<k+1→0≤xs.getD j 0∧xs.getD j 0<K):=HN.out (by omega)
      clear HN HY
      go_wp2
      go_round
      case rel=>exact⟨k+1,by omega,by go_num,E⟩
      case measure=>simp[intOf];omega
     ·obtain ⟨rfl,rfl⟩:=HY.out (by omega)
      clear HN HY
      go_wp2
      go_ret2
      exact⟨none,0,rfl,made_nil w (Below.refl _ _)⟩
   ·obtain rfl:k=n:=by omega
    have hbel:belS xs K=true:=belS_true (bel_all fun j hj=>HT.out j (by rw[← HL.out];exact hj))
    have HP:Hid (picks xs K=diffS xs):=picks_diff hbel
    have HG:Hid ((if (M:Int)<((picks xs K).length:Int) then (([]:List Int),(52:Int)) else (picks xs K,0))=(F,E)):=by
     have:=HF.out
     rw[if_neg (by rw[hbel];decide)] at this
     show _=_
     rw[HP.out]
     exact this
    clear HT HF hbel HP
    go_wp2_with fail
    go_loopw [9,10] (fun v i wr=>∃j:Nat,j≤K∧i=.int .i64 j∧wr.ownsRow w.heap.size 3 1 v (picks xs j).length (I64 (picks xs j))∧Below w.heap.size w wr) (fun _ i _=>K-(intOf i).toNat)
    case atStart=>exact⟨0,Nat.zero_le _,rfl,World.ownsRow_nil _ _ _ _,Below.refl _ _⟩
    case round =>
     obtain ⟨j,hj,rfl,hO,hB⟩:=hrel
     obtain ⟨q,d,rfl,_⟩:=ints_in hO
     have HO:Hid (wr.ownsRow w.heap.size 3 1 (.slice q (picks xs j).length d) (picks xs j).length (I64 (picks xs j))):=hO
     have HB:Hid (Below w.heap.size w wr):=hB
     clear hO hB
     obtain ⟨wo,hwo⟩:∃wo,wo=wr:=⟨_,rfl⟩
     subst hwo
     by_cases hjk:j<K
     ·have i1:(j:Int)<(K:Int):=by omega
      have hpl:=picks_length xs j
      have HS:Hid (picks xs (j+1)=picks xs j++(if hasS xs j=true then [(j:Int)] else [])):=picks_succ xs j
      have HI2:Hid (IIn wo p k xs):=HI.out.later HB.out
      go_wp2_with fail
      go_loopw [9,11] (fun v i wr=>∃x:Nat,x≤k∧v=.slice q (picks xs j).length d∧i=.int .i64 x∧wr=wo∧Hid (∀y,y<x→xs.getD y 0≠(j:Int))) (fun _ i _=>k-(intOf i).toNat)
      case atStart=>exact⟨0,Nat.zero_le _,rfl,rfl,rfl,fun y hy=>absurd hy (Nat.not_lt_zero _)⟩
      case round =>
       obtain ⟨x,hx,rfl,rfl,rfl,HX⟩:=hrel
       by_cases hxk:x<k
       ·obtain ⟨b',o,rfl,hcs⟩:=HI2.out.cells (by omega)
        have hc:=hcs x hxk
        have i2:(x:Int)<(k:Int):=by omega
        have HN:Hid (¬xs.getD x 0=(j:Int)→∀y,y<x+1→xs.getD y 0≠(j:Int)):=fun e=>not_snoc HX.out rfl e
        have HY:Hid (xs.getD x 0=(j:Int)→hasS xs j=true):=fun e=>has_at (by rw[HL.out];exact hxk) e
        clear hcs HX
        generalize xs.getD x 0=z at *
        cases hzz:(z == (j:Int))
        ·have hzn:¬z=(j:Int):=by simpa using hzz
         have E:Hid (∀y,y<x+1→xs.getD y 0≠(j:Int)):=HN.out hzn
         clear HN HY
         go_wp2_with fail
         go_roundw
         case rel=>exact⟨x+1,by omega,by trivial,by go_num,by trivial,E⟩
         case measure=>simp[intOf];omega
        ·have hh:hasS xs j=true:=HY.out (by simpa using hzz)
         rw[hh] at HS
         clear HN HY hh
         go_wp2_with (at_builtin;refine wpList_append_own _ rfl (.tmp 51) (.tmp 53) 59 rfl w.heap.size 3 i0 (.int .i64 0) 1 8 underlying59 hi hz0 hz1 hz2 rfl (by decide) _ (picks xs j).length (I64 (picks xs j)) rfl (HO.out.alloc _) ⟨_,0,none⟩ 1 1 [.int .i64 (j:Int)] rfl rfl (cell_one_new _ _ _) (one_i64 _) (by unfold maxLen;omega) (by omega) (by have:=HB.out.size;simp;omega) ?_)
         intro v' w3 hown hgrow _
         have HO3:Hid (w3.ownsRow w.heap.size 3 1 v' (picks xs (j+1)).length (I64 (picks xs (j+1)))):=by
          have e:I64 (picks xs (j+1))=I64 (picks xs j)++[Value.int .i64 (j:Int)]:=by rw[HS.out];simp[I64]
          show w3.ownsRow _ _ _ _ _ _
          rw[e,HS.out]
          simpa using hown
         have HW3:Hid (Below w.heap.size w w3):=(HB.out.alloc HB.out.size _).grown hgrow (by have:=HB.out.size;simp;omega) (fun k hk=>(HO.out.lt k hk).1)
         clear hown hgrow HO HB
         go_wp2_with fail
         go_roundw
         case rel=>exact⟨j+1,by omega,by go_num,HO3.out,HW3.out⟩
         case measure=>simp[intOf];omega
       ·obtain rfl:x=k:=by omega
        have hh:hasS xs j=false:=has_none fun y hy=>HX.out y (by rw[← HL.out];exact hy)
        rw[hh] at HS
        have HO3:Hid (wr.ownsRow w.heap.size 3 1 (.slice q (picks xs j).length d) (picks xs (j+1)).length (I64 (picks xs (j+1)))):=by
         have e:picks xs (j+1)=picks xs j:=by rw[HS.out];simp
         rw[e]
         exact HO.out
        go_wp2_with fail
        go_roundw
        case rel=>exact⟨j+1,by omega,by go_num,HO3.out,HB.out⟩
        case measure=>simp[intOf];omega
     ·obtain rfl:j=K:=by omega
      by_cases h3:(M:Int)<((picks xs j).length:Int)
      ·have:=HG.out
       rw[if_pos h3] at this
       simp only[Prod.mk.injEq] at this
       obtain ⟨rfl,rfl⟩:=this
       go_wp2
       go_ret2
       exact⟨none,0,rfl,made_nil w HB.out⟩
      ·have:=HG.out
       rw[if_neg h3] at this
       simp only[Prod.mk.injEq] at this
       obtain ⟨rfl,rfl⟩:=this
       go_wp2
       go_ret2
       exact⟨q,d,rfl,HO.out,HB.out⟩
theorem rform_is (p:Option Addr)(n c:Nat)(xs:List Int)(b m:Int)(w:World)(hreach:n+80≤17592186044416)(hI:IIn w p n xs)(h:mayS b m=true) :
  Calls prog 126 #[.slice p n c,.int .i64 b,.int .i64 m] w fun e' w'=>∃q d,e'=.returned (.tuple #[.slice q (formS xs b m).1.length d,.int .i64 (formS xs b m).2])∧Made w w' q (formS xs b m).1.length d (formS xs b m).1:=by
 have a:=of_decide_eq_true h
 obtain ⟨K,rfl⟩:=Int.eq_ofNat_of_zero_le (show 0≤b by omega)
 obtain ⟨M,rfl⟩:=Int.eq_ofNat_of_zero_le (show 0≤m by omega)
 exact rform_may p n c xs K M _ _ rfl w hreach hI h
theorem rform_f (p:Option Addr)(n c:Nat)(xs f:List Int)(E b m:Int)(hf:formS xs b m=(f,E))(w:World)(hreach:n+80≤17592186044416)(hI:IIn w p n xs)(h:mayS b m=true) :
  Calls prog 126 #[.slice p n c,.int .i64 b,.int .i64 m] w fun e' w'=>∃q d,e'=.returned (.tuple #[.slice q f.length d,.int .i64 E])∧Made w w' q f.length d f:=by
 have:=rform_is p n c xs b m w hreach hI h
 rw[hf] at this
 exact this
end B
section
variable {w w':World} {G:Nat→Prop} {R:Nat} {vW vI:Value} {a:Ad} {ws is:List Who}
theorem formS_may {a:Ad}(ok:a.Ok):B.mayS a.bl a.mr=true:=(mayC_iff.1 ok.may).1
theorem FR.later {we:World}{base:Nat}{e:TypeId}{size:Nat}{v:Value}{n:Nat}{xs:List Value}(h:FR we w base e size v n xs)(hb:Below w.heap.size w w'):FR we w' base e size v n xs:=⟨own_later h.own hb,below_then h.below hb,h.new⟩
theorem rbegin_bad (h:RL w G R vW vI a ws is)(ok:a.Ok){p:Option Addr}{m c:Nat}{xs:List Int}(hI:B.IIn w p m xs)(hm:m+80≤17592186044416)(hE:a.begE xs≠0) :
  Calls prog 65 #[qp R,.slice p m c] w fun e w'=>e=.returned (.tuple #[.int .u64 0,nils,.int .i64 (a.begE xs)])∧Below w.heap.size w w':=by
 have HI:Hid (B.IIn w.drew p m xs):=⟨hI.len,hI.cells⟩
 have c0:w.drew.cell? ⟨R,0,none⟩=some (.int .i64 a.bl):=h.c 0
 have c2:w.drew.cell? ⟨R,2,none⟩=some (.int .i64 a.mr):=h.c 2
 have HS:Hid (B.mayS a.bl a.mr=true):=formS_may ok
 have hE':((B.formS xs a.bl a.mr).2 != 0)=true:=by rw[bne_iff_ne];exact hE
 have HE:Hid (a.begE xs=(B.formS xs a.bl a.mr).2):=rfl
 clear hI h ok hE
 go_enter func65,ntmps65
 go_wp2_with fail
 go_region_with (go_at_call 126;refine (B.rform_is p m c xs a.bl a.mr w.drew hm HI.out HS.out).mono ?_;rintro e w2 ⟨q,d,rfl,hmade⟩;have HB:Hid (Below w.heap.size w w2):=below_then (below_drew w) hmade.below;clear hmade)
 all_goals (
  generalize (B.formS xs a.bl a.mr).1.length=fl at *
  generalize (B.formS xs a.bl a.mr).2=E at *
  go_wp2
  go_ret3
  exact⟨by rw[HE.out];rfl,HB.out⟩)
theorem rbegin_ok (h:RL w G R vW vI a ws is)(hR:¬G R)(ok:a.Ok)(hN:a.next≤1000){p:Option Addr}{m c:Nat}{xs f:List Int}(hI:B.IIn w p m xs)(hm:m+80≤17592186044416)(hf:B.formS xs a.bl a.mr=(f,0)) :
  Calls prog 65 #[qp R,.slice p m c] w fun e w'=>∃q d,e=.returned (.tuple #[.int .u64 a.next,.slice q f.length d,.int .i64 0])∧Frm w' (.slice q f.length d) f∧(∀g,blk (.slice q f.length d)=some g→w.heap.size≤g)∧RAf w w' G R { a with next:=a.next+1,W:=a.W++[(a.next,f)] }:=by
 have HI:Hid (B.IIn w.drew p m xs):=⟨hI.len,hI.cells⟩
 have c0:w.drew.cell? ⟨R,0,none⟩=some (.int .i64 a.bl):=h.c 0
 have c2:w.drew.cell? ⟨R,2,none⟩=some (.int .i64 a.mr):=h.c 2
 have HS:Hid (B.mayS a.bl a.mr=true):=formS_may ok
 have HF:Hid (B.formS xs a.bl a.mr=(f,0)):=hf
 have H:Hid (RL w G R vW vI a ws is):=h
 have HR:Hid (¬G R):=hR
 have hx0:1≤a.next:=ok.nums.2.2.2.2.2
 have hwl:ws.length≤1000:=by have:=h.wlen;have:=ok.wlen;omega
 have hw:IntKind.u64.wrap (a.next+1)=a.next+1:=by rw[IntKind.wrap_u64];omega
 have hmx:¬(4611686018427387904:Int)<a.next:=by omega
 clear hI h ok hR hf
 go_enter func65,ntmps65
 go_wp2_with fail
 go_region_with (go_at_call 126;refine (B.rform_f p m c xs f 0 a.bl a.mr HF.out w.drew hm HI.out HS.out).mono ?_;rintro e w2 ⟨q,d,rfl,hmade⟩;have HB:Hid (B.Made w.drew w2 q f.length d f):=hmade;clear hmade)
 all_goals (
  clear c0 c2 HI HS HF
  have hb2:Hid (Below w.heap.size w w2):=below_then (below_drew w) HB.out.below
  have h2:Hid (RL w2 G R vW vI a ws is):=H.out.later hb2.out
  have hfr:Hid (Frm w2 (.slice q f.length d) f∧∀g,blk (.slice q f.length d)=some g→w.heap.size≤g):=⟨Frm.of_made HB.out,fun g hg=>own_blk HB.out.own hg⟩
  have c5:w2.cell? ⟨R,5,none⟩=some (.int .u64 a.next):=h2.out.c 5
  have f5:w2.frozen? ⟨R,5,none⟩=false:=h2.out.free 5
  have hst3:Hid ((w2.setCell ⟨R,5,none⟩ (.int .u64 (a.next+1))).heap[R]?=some (.cells (rcells { a with next:=a.next+1 } vW vI) 217 (0,0))):=by
   show _=_
   rw[L.st_set 5 _ h2.out.st];rfl
  have k3:Hid (Kept (·=R) w (w2.setCell ⟨R,5,none⟩ (.int .u64 (a.next+1)))):=(Kept.of_below _ hb2.out).trans (Kept.setCell R 5 _) (fun _ _ e=>e)
  have hr3:Hid ((w2.setCell ⟨R,5,none⟩ (.int .u64 (a.next+1))).ownsRow 0 224 4 vW ws.length (hcells ws)):=(H.out.W.turn HR.out k3.out).row
  have hf3:Hid (Frm (w2.setCell ⟨R,5,none⟩ (.int .u64 (a.next+1))) (.slice q f.length d) f):=hfr.out.1.keeps fun g hg=>(Kept.setCell (w:=w2) R 5 _).block g (hfr.out.1.lt hg) (fun e=>by have:=hfr.out.2 g hg;have:=H.out.lt;omega)
  obtain ⟨w3,hw3⟩:∃w3,w3=w2.setCell ⟨R,5,none⟩ (.int .u64 (a.next+1)):=⟨_,rfl⟩
  have HW3:Hid (w3=w2.setCell ⟨R,5,none⟩ (.int .u64 (a.next+1))):=hw3
  rw[← hw3] at hst3 k3 hr3 hf3
  clear hw3
  have d6:w3.cell? ⟨R,6,none⟩=some vW:=cell_of_row _ R 6 _ 217 (0,0) hst3.out
  have hR3:Hid (R<w3.heap.size):=(Array.getElem?_eq_some_iff.1 hst3.out).1
  have F0:Hid (FR w3 (w3.alloc (.cells #[] 224)) 0 224 4 (.slice (some ⟨w3.heap.size,0,none⟩) 0 0) 0 []):=FR.empty 224 4 (Below.refl _ _) (Nat.zero_le _)
  have e6:(w3.alloc (.cells #[] 224)).cell? ⟨R,6,none⟩=some vW:=((below_alloc w3 _).cell (p:=⟨R,6,none⟩) hR3.out).trans d6
  go_upto_region 8 with fail
  rw[← HW3.out]
  clear c5 f5
  go_wp2_with (at_builtin;(first
   | (refine wpList_own_any rfl (.tmp 45) (.tmp 49) elW rfl rfl F0.out.own rfl (own_later hr3.out F0.out.below) (ones_h ws) (by omega) (Nat.zero_le _) ?_;intro v1 w5 ho hk hv;have F1:Hid (FR w3 w5 0 224 4 v1 ws.length (hcells ws)):=(by have h:=F0.out.app ho hk hv;rw[Nat.zero_add,List.nil_append] at h;exact h);clear ho hk hv;obtain ⟨p1,c1,rfl⟩:=own_shape F1.out.own)
   | (refine wpList_own_any (n:=ws.length) (m:=1) (base:=0) (base':=0) rfl (.tmp 50) (.tmp 54) elW rfl rfl (F1.out.later (below_alloc w5 _)).own rfl (own_one (base:=0) (cs:=[.int .u64 a.next,.slice q f.length d,.int .i64 0,.bool false]) w5 rfl (Nat.zero_le _)) (ones_h [⟨a.next,q,f.length,d,0,false⟩]) (by omega) (Nat.zero_le _) ?_;intro v2 w6 ho hk hv;have F2:Hid (FR w3 w6 0 224 4 v2 (ws.length+1) (hcells ws++[.int .u64 a.next,.slice q f.length d,.int .i64 0,.bool false])):=(F1.out.later (below_alloc w5 _)).app ho hk hv;clear ho hk hv;obtain ⟨p2,c2,rfl⟩:=own_shape F2.out.own;have g6:w6.cell? ⟨R,6,none⟩=some vW:=(F2.out.below.cell (p:=⟨R,6,none⟩) hR3.out).trans d6;have HS6:Hid (w6.heap[R]?=some (.cells (rcells { a with next:=a.next+1 } vW vI) 217 (0,0))):=(F2.out.below.block R hR3.out).trans hst3.out;have f6:w6.frozen? ⟨R,6,none⟩=false:=by simp[World.frozen?,HS6.out])))
  go_ret3
  have hk7:=Kept.setCell (w:=w6) R 6 (.slice p2 (ws.length+1) c2)
  have k7:Kept (·=R) w (w6.setCell ⟨R,6,none⟩ (.slice p2 (ws.length+1) c2)):=(k3.out.trans (Kept.of_below (fun _=>False) F2.out.below) (fun _ _ e=>e.elim)).trans hk7 (fun _ _ e=>e)
  have hfr7:Frm (w6.setCell ⟨R,6,none⟩ (.slice p2 (ws.length+1) c2)) (.slice q f.length d) f:=(hf3.out.later F2.out.below).keeps fun g hg=>hk7.block g ((hf3.out.later F2.out.below).lt hg) (fun e=>by have:=hfr.out.2 g hg;have:=H.out.lt;omega)
  refine⟨q,d,rfl,hfr7,hfr.out.2,⟨.slice p2 (ws.length+1) c2,vI,ws++[⟨a.next,q,f.length,d,0,false⟩],is,?_,RR.fresh ?_ ?_ ?_,H.out.I.turn HR.out k7⟩,k7⟩
  ·rw[L.st_set 6 _ HS6.out]
   rfl
  ·have:=own_far F2.out.own hk7 fun g hg e=>by have:=F2.out.new g hg;have:=hR3.out;omega
   rw[hcells_app,hcells_one,List.length_append]
   exact this
  ·have e1:wl (a.W++[(a.next,f)])=wl a.W++[(a.next,f,0)]:=by simp[wl]
   show Mis _ _ (wl (a.W++[(a.next,f)])) _
   rw[e1]
   exact (H.out.W.mi.turn HR.out k7).app ⟨rfl,hfr7,fun g hg=>.inr ⟨hfr.out.2 g hg,hfr7.lt hg⟩,rfl,by simp⟩
  ·intro g hg
   have:=F2.out.new g hg
   have:=k3.out.size
   omega)
theorem rbegin_at (h:RL w G R vW vI a ws is)(hR:¬G R)(ok:a.Ok)(hN:a.next≤1000){p:Option Addr}{m c:Nat}{xs:List Int}(hI:B.IIn w p m xs)(hm:m+80≤17592186044416) :
  Calls prog 65 #[qp R,.slice p m c] w fun e w'=>∃q d,e=.returned (.tuple #[.int .u64 (a.begT xs),.slice q (a.begF xs).length d,.int .i64 (a.begE xs)])∧Frm w' (.slice q (a.begF xs).length d) (a.begF xs)∧(∀g,blk (.slice q (a.begF xs).length d)=some g→w.heap.size≤g)∧RAf w w' G R (a.begS xs):=by
 by_cases e:a.begE xs=0
 ·have e1:a.begS xs={ a with next:=a.next+1,W:=a.W++[(a.next,a.begF xs)] }:=by simp only[Ad.begS,if_pos e]
  have e2:a.begT xs=a.next:=by simp only[Ad.begT,if_pos e]
  rw[e1,e2,e]
  exact rbegin_ok h hR ok hN hI hm (Prod.ext rfl e)
 ·have e1:a.begS xs=a:=by simp only[Ad.begS,if_neg e]
  have e2:a.begT xs=0:=by simp only[Ad.begT,if_neg e]
  have e3:a.begF xs=[]:=(B.formS_errs xs a.bl a.mr).2 e
  rw[e1,e2,e3]
  refine (rbegin_bad h ok hI hm e).mono ?_
  rintro e' w' ⟨rfl,hb⟩
  exact⟨none,0,rfl,Frm.nil _,fun g hg=>(by cases hg),RAf.same h hb⟩
end
end Go.Proofs.YtcdjepkhdjpjcaaGreatDoor.E
namespace Go.Proofs.YtcdjepkhdjpjcaaGreatDoor.E
open Go.RowKit
section
variable {P:Program} {ops:Array Oper} {Q:Exit→Act→World→Prop} {md:Region.Mode} {S:World→Prop} {L:Nat}
def wpAnyL (P:Program)(md:Region.Mode)(ops:Array Oper)(Q:Exit→Act→World→Prop)(S:World→Prop)(L:Nat):Nat→Array Bool→Act→World→Prop
 | 0,listed,a,w=>Region.ready md ops listed=[]∧Q .normal a w
 | fuel+1,listed,a,w =>
  (Region.ready md ops listed=[]→Q .normal a w) ∧
  ∀i∈Region.ready md ops listed,wpOp P ops Q i (fun a' w'=>(i≠L→S w')∧wpAnyL P md ops Q S L fuel (listed.setIfInBounds i true) a' w') a w
theorem wpAny_of_L:∀(fuel:Nat) (listed:Array Bool)(a:Act)(w:World),wpAnyL P md ops Q S L fuel listed a w→wpAny P md ops Q fuel listed a w
 | 0,_,_,_,h=>h
 | fuel+1,_,_,_,h=>⟨h.1,fun i hi=>wpOp_mono (fun a' w' h'=>wpAny_of_L fuel _ a' w' h'.2) (h.2 i hi)⟩
theorem wpAnyL_first {i:Nat}{oi:Oper}{v:Value}(hi:ops[i]?=some oi)(hsel:∀(j:Nat) (o:Oper) cs b,ops[j]?=some o→o.op≠.select cs b)
  (hQ:∀c a w,Q (.panic c) (a.put oi.dst v) w→Q (.panic c) a w) (hdep:∀o,ops[L]?=some o→∃e∈o.after,Region.binds md e=true∧e.on=i) :
  ∀(fuel:Nat) (listed:Array Bool) (a:Act) (w:World),
   (∀j oj,ops[j]?=some oj→j≠i→listed.getD j true=false→(∀e∈oj.after,Region.binds md e=true→e.on≠i)→oi.apart ops oj=true) →
   i∈Region.ready md ops listed→YieldsIf P ops S oi v a→S w →
   wpAnyL P md ops Q S L fuel (listed.setIfInBounds i true) (a.put oi.dst v) w→wpAnyL P md ops Q S L (fuel+1) listed a w:=by
 intro fuel
 induction fuel with
 | zero =>
  intro listed a w _ hr hy hS H
  refine⟨fun h=>(by rw[h] at hr;cases hr),fun j hj=>?_⟩
  by_cases hji:j=i
  ·subst hji;exact hy.wpOp hi hS ⟨fun _=>hS,H⟩
  ·have:=ready_mono hj hji
   rw[H.1] at this
   cases this
 | succ fuel ih =>
  intro listed a w hfree hr hy hS H
  refine⟨fun h=>(by rw[h] at hr;cases hr),fun j hj=>?_⟩
  by_cases hji:j=i
  ·subst hji;exact hy.wpOp hi hS ⟨fun _=>hS,H⟩
  ·have h1:=H.2 j (ready_mono hj hji)
   obtain ⟨hjun,oj,hoj,hall⟩:=mem_ready.1 hj
   have hnot:∀e∈oj.after,Region.binds md e=true→e.on≠i:=fun e he hb heq=>by
    have h1:=hall e he hb
    have h0:=(mem_ready.1 hr).1
    rw[heq] at h1
    rcases Nat.lt_or_ge i listed.size with h' | h'
    ·simp[h'] at h0 h1;rw[h0] at h1;cases h1
    ·simp[Array.getElem?_eq_none h'] at h1
   have hjL:j≠L:=fun e=>by
    subst e
    obtain ⟨e,he,hb,ho⟩:=hdep oj hoj
    exact hnot e he hb ho
   have h2:=wpOp_putIf hoj (hfree j oj hoj hji hjun hnot) (fun cs b=>hsel i oi cs b hi) (fun cs b=>hsel j oj cs b hoj) hQ hy h1
   have hfree':∀k ok,ops[k]?=some ok→k≠i→(listed.setIfInBounds j true).getD k true=false →
     (∀e∈ok.after,Region.binds md e=true→e.on≠i)→oi.apart ops ok=true:=fun k ok hk hki hun hno=>by
    refine hfree k ok hk hki ?_ hno
    by_cases hjk:j=k
    ·subst hjk;exact hjun
    ·rw[getD_set_ne true hjk] at hun;exact hun
   refine wpOp_mono (fun a' w' h3=>⟨fun _=>h3.2.1 hjL,ih (listed.setIfInBounds j true) a' w' hfree' (ready_mono hr (Ne.symm hji)) h3.1 (h3.2.1 hjL) ?_⟩) h2
   rw[Array.setIfInBounds_comm _ _ hji]
   exact h3.2.2
theorem wpAnyL_take {i:Nat}{oi:Oper}{v:Value}{fuel:Nat}{listed:Array Bool}{a:Act}{w:World}(hi:ops[i]?=some oi)
  (hs:Region.noSelect ops=true) (hf:Region.free md ops listed i=true) (hr:(Region.ready md ops listed).contains i=true)
  (hd:(match ops[L]? with | some o=>o.after.any (fun e=>Region.binds md e && e.on == i) | none=>true)=true)
  (hQ:∀c a w,Q (.panic c) (a.put oi.dst v) w→Q (.panic c) a w) (hy:YieldsIf P ops S oi v a) (hS:S w)
  (h:wpAnyL P md ops Q S L fuel (listed.setIfInBounds i true) (a.put oi.dst v) w):wpAnyL P md ops Q S L (fuel+1) listed a w :=
 wpAnyL_first hi (Region.noSelect_spec hs) hQ (fun o ho=>by
  rw[ho] at hd
  obtain ⟨e,he,hb⟩:=Array.any_eq_true'.1 hd
  simp only[Bool.and_eq_true,beq_iff_eq] at hb
  exact⟨e,he,hb.1,hb.2⟩) fuel listed a w (Region.free_spec hi hf) (by simpa using hr) hy hS h
theorem tkL (i:Nat){oi:Oper}{v:Value}{fuel:Nat}{listed:Array Bool}{a a':Act}{w:World}(hS:S w)(h:wpAnyL P md ops Q S L fuel (listed.setIfInBounds i true) a' w)(hi:ops[i]?=some oi:=by simp;rfl)(hs:Region.noSelect ops=true:=by kernel_rfl)(hf:Region.free md ops listed i=true:=by kernel_rfl)(hr:(Region.ready md ops listed).contains i=true:=by kernel_rfl)(hd:(match ops[L]? with | some o=>o.after.any (fun e=>Region.binds md e && e.on == i) | none=>true)=true:=by kernel_rfl)(hg:Region.wanted oi (yielded ops a.tmps)=true:=by rfl)(hy:∀w,(execOp a.eval oi).run P w=.ok (.value v) w:=by intro w;go_simp;with_reducible rfl)(ha:a.put oi.dst v=a':=by simp only[Act.put,zA,zB,zC];with_reducible rfl)(hQ:∀c a w,Q (.panic c) (a.put oi.dst v) w→Q (.panic c) a w:=by exact fun _ _ _ h=>h):wpAnyL P md ops Q S L (fuel+1) listed a w :=
 wpAnyL_take hi hs hf hr hd hQ (.inl ⟨hg,fun w _=>hy w⟩) hS (ha ▸ h)
def AllReadyL (P:Program)(md:Region.Mode)(ops:Array Oper)(Q:Exit→Act→World→Prop)(S:World→Prop)(L fuel:Nat)(listed:Array Bool)(a:Act)(w:World)(rs:List Nat):Prop :=
 ∀i∈rs,wpOp P ops Q i (fun a' w'=>(i≠L→S w')∧wpAnyL P md ops Q S L fuel (listed.setIfInBounds i true) a' w') a w
theorem AllReadyL.nil {fuel:Nat}{listed:Array Bool}{a:Act}{w:World}:AllReadyL P md ops Q S L fuel listed a w []:=fun _ h=>by cases h
theorem AllReadyL.cons {fuel:Nat}{listed:Array Bool}{a:Act}{w:World}{i:Nat}{o:Oper}{rs:List Nat}(ho:ops[i]?=some o)
  (h:∀K':Act→World→Prop,Shut (∀a w,(i≠L→S w)→wpAnyL P md ops Q S L fuel (listed.setIfInBounds i true) a w→K' a w)→if Region.wanted o (yielded ops a.tmps)=true then Oper.wp P o a w K' Q else K' (a.put o.dst undef) w)
  (hs:AllReadyL P md ops Q S L fuel listed a w rs):AllReadyL P md ops Q S L fuel listed a w (i :: rs):=fun j hj=>by
 rcases List.mem_cons.1 hj with rfl | hj
 ·exact wpOp_step ho (fun K' hK=>h K' (fun a w hS hW=>hK a w ⟨hS,hW⟩))
 ·exact hs j hj
theorem wpAnyL_ready {rs:List Nat}{fuel:Nat}{listed:Array Bool}{a:Act}{w:World}(hr:Region.ready md ops listed=rs)(hne:rs≠[])
  (h:AllReadyL P md ops Q S L fuel listed a w rs):wpAnyL P md ops Q S L (fuel+1) listed a w :=
 ⟨fun h0=>absurd (hr ▸ h0) hne,hr ▸ h⟩
theorem wpAnyL_done {listed:Array Bool}{a:Act}{w:World}(hr:Region.ready md ops listed=[])(h:Q .normal a w) :
  ∀fuel,wpAnyL P md ops Q S L fuel listed a w
 | 0=>⟨hr,h⟩
 | _+1=>⟨fun _=>h,by rw[hr];simp⟩
theorem wp_region_last {id:Nat}{a:Act}{w:World}(L:Nat)(S:World→Prop)(hm:P.follows .mixedOrders=true)
  (h:wpAnyL P .any ops Q S L ops.size (Array.replicate ops.size false) a w.drew):(Code.region id ops true).wp P Q a w :=
 wp_region_any hm (wpAny_of_L _ _ _ _ h)
end
end Go.Proofs.YtcdjepkhdjpjcaaGreatDoor.E
