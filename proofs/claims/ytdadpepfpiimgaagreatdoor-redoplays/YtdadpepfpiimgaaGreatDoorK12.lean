import Derived.Test.YtdadpepfpiimgaaGreatDoorK10
set_option maxHeartbeats 20000000
set_option maxRecDepth 100000
namespace Go.Proofs.YtdadpepfpiimgaaGreatDoor
open Go.Proofs.Tryz
open Go.RowKit
theorem take_input (p:Option Addr)(n c:Nat)(s:Int)(w:World)(hs:s<1∨8<s) :
  Calls prog 153 #[.slice p n c,.int .i64 s] w fun e w'=>e=.returned (.tuple #[.int .u64 0,.slice none 0 0,.int .i64 2])∧w=w':=by
 have hd:decide (1≤s∧s≤8)=false:=decide_eq_false (by omega)
 go_enter func153,ntmps153
 go_wp2_with (first | (go_at_call 132;refine (isSize_any _ _).mono ?_;rintro e w' ⟨rfl,rfl⟩))
 go_ret3
 exact⟨rfl,rfl⟩
theorem take_short (p:Option Addr)(n c:Nat)(k:Nat)(w:World)(hs:1≤k∧k≤8)(hk:n<k) :
  Calls prog 153 #[.slice p n c,.int .i64 k] w fun e w'=>e=.returned (.tuple #[.int .u64 0,.slice none 0 0,.int .i64 11])∧w=w':=by
 have hd:decide (1≤(k:Int)∧(k:Int)≤8)=true:=decide_eq_true (by omega)
 go_enter func153,ntmps153
 go_wp2_with (first | (go_at_call 132;refine (isSize_any _ _).mono ?_;rintro e w' ⟨rfl,rfl⟩))
 go_ret3
 exact⟨rfl,rfl⟩
theorem take_more (b o n c:Nat)(xs:List Int)(k:Nat)(w:World)(hs:1≤k∧k≤8)(hk:k≤n)(hnc:n≤c)(hbig:n≤140737488355328)(h:BIn w (some ⟨b,o,none⟩) n xs)(hck:¬c=k) :
  Calls prog 153 #[.slice (some ⟨b,o,none⟩) n c,.int .i64 k] w fun e w'=>∃v',e=.returned (.tuple #[.int .u64 (worth (xs.take k)),v',.int .i64 0]) ∧
   w'.ownsRow w.heap.size 5 1 v' (n-k) (U8 (xs.drop k))∧Below w.heap.size w w':=by
 have hd:decide (1≤(k:Int)∧(k:Int)≤8)=true:=decide_eq_true (by omega)
 have k0:(0:Int)≤k:=by omega
 have k1:(k:Int)≤(c:Int):=by omega
 have k2:(k:Int)≤(n:Int):=by omega
 go_enter func153,ntmps153
 go_wp2_with (first | (go_at_call 132;refine (isSize_any _ _).mono ?_;rintro e w' ⟨rfl,rfl⟩))
 go_region_with (first | (go_at_call 135;refine (number_any _ _ _ (xs.take k) _ (by omega) ?_).mono ?_;exact (h.take k hk).drew;rintro e w' ⟨rfl,rfl⟩) | (go_at_call 42;refine (clone_any _ _ _ (xs.drop k) _ ?_ (by omega)).mono ?_;exact (h.drop k hk).drew;rintro e w' ⟨v,rfl,hown,hbel⟩))
 all_goals go_wp2
 all_goals go_ret3
 exact⟨v,rfl,hown,below_undrew hbel⟩
theorem take_end (b o:Nat)(xs:List Int)(k:Nat)(w:World)(hs:1≤k∧k≤8)(h:BIn w (some ⟨b,o,none⟩) k xs) :
  Calls prog 153 #[.slice (some ⟨b,o,none⟩) k k,.int .i64 k] w fun e w'=>∃v',e=.returned (.tuple #[.int .u64 (worth xs),v',.int .i64 0]) ∧
   w'.ownsRow w.heap.size 5 1 v' 0 []∧Below w.heap.size w w':=by
 have hd:decide (1≤(k:Int)∧(k:Int)≤8)=true:=decide_eq_true (by omega)
 have k0:(0:Int)≤k:=by omega
 go_enter func153,ntmps153
 go_wp2_with (first | (go_at_call 132;refine (isSize_any _ _).mono ?_;rintro e w' ⟨rfl,rfl⟩))
 go_region_with (first | (go_at_call 135;refine (number_any _ _ _ xs _ (by omega) ?_).mono ?_;exact h.drew;rintro e w' ⟨rfl,rfl⟩) | (go_at_call 42;refine (clone_any _ _ _ [] _ ?_ (by omega)).mono ?_;exact BIn.empty;rintro e w' ⟨v,rfl,hown,hbel⟩))
 all_goals go_wp2
 all_goals go_ret3
 exact⟨v,rfl,hown,below_undrew hbel⟩
theorem take_any (p:Option Addr)(n c:Nat)(xs:List Int)(s:Int)(w:World)(h:BIn w p n xs)(hnc:n≤c)(hbig:n≤140737488355328) :
  Calls prog 153 #[.slice p n c,.int .i64 s] w fun e w'=>∃v',e=.returned (.tuple #[.int .u64 (takeS xs s).1,v',.int .i64 (takeS xs s).2.2]) ∧
   w'.ownsRow w.heap.size 5 1 v' (takeS xs s).2.1.length (U8 (takeS xs s).2.1)∧Below w.heap.size w w':=by
 unfold takeS
 by_cases hs:s<1∨8<s
 ·rw[if_pos hs]
  refine (take_input p n c s w hs).mono ?_
  rintro e w' ⟨rfl,rfl⟩
  exact⟨_,rfl,World.ownsRow_nil _ _ _ _,Below.refl _ _⟩
 ·rw[if_neg hs]
  obtain ⟨k,rfl⟩:=Int.eq_ofNat_of_zero_le (show 0≤s by omega)
  rw[Int.toNat_natCast,h.len]
  by_cases hk:(n:Int)<k
  ·rw[if_pos hk]
   refine (take_short p n c k w (by omega) (by omega)).mono ?_
   rintro e w' ⟨rfl,rfl⟩
   exact⟨_,rfl,World.ownsRow_nil _ _ _ _,Below.refl _ _⟩
  ·rw[if_neg hk]
   obtain ⟨b,o,rfl,_⟩:=h.cells (by omega)
   by_cases hck:c=k
   ·subst hck
    obtain rfl:n=c:=by omega
    have e1:xs.take n=xs:=List.take_of_length_le (by rw[h.len];omega)
    have e2:xs.drop n=[]:=List.drop_eq_nil_of_le (by rw[h.len];omega)
    rw[e1,e2]
    exact take_end b o xs n w (by omega) h
   ·simp only[List.length_drop,h.len]
    exact take_more b o n c xs k w (by omega) (by omega) hnc hbig h hck
theorem equal_any (p q:Option Addr)(n c m d:Nat)(xs ys:List Int)(w:World)(hx:BIn w p n xs)(hy:BIn w q m ys) :
  Calls prog 94 #[.slice p n c,.slice q m d] w fun e w'=>e=.returned (.bool (decide (xs=ys)))∧w=w':=by
 have q1:=hx.str c
 have q2:=hy.str d
 have HE:Hid (_):=str_eq xs ys hx.byte hy.byte
 clear hx hy
 go_enter func94,ntmps94
 go_wp2
 go_ret
 refine⟨?_,rfl⟩
 rw[← HE.out]
 rfl
def fcells:List Value:=[.int .i64 6,.int .i64 1,.int .i64 8,.int .i64 1,.int .i64 9,.int .i64 1,.int .i64 10,.int .i64 1,.int .i64 11,.int .i64 1,.int .i64 12,.int .i64 1,.int .i64 16,.int .i64 8,.int .i64 24,.int .i64 8]
theorem size63:(prog.info? 175).map (·.size)=some 16:=by kernel_rfl
theorem size62:(prog.info? 174).map (·.size)=some 2:=by kernel_rfl
theorem fcells_at (j:Nat)(hj:j<8):fcells[2*j]?=some (.int .i64 ((fa.getD j 0:Nat):Int))∧fcells[2*j+1]?=some (.int .i64 ((fw.getD j 0:Nat):Int)):=by
 have:j=0∨j=1∨j=2∨j=3∨j=4∨j=5∨j=6∨j=7:=by omega
 rcases this with rfl | rfl | rfl | rfl | rfl | rfl | rfl | rfl <;> exact⟨rfl,rfl⟩
theorem Flds.range {w:World}(h:Flds w):w.rangeAt 0 0 fcells:=fun j v hv=>by
 have hj:j<16:=(List.getElem?_eq_some_iff.1 hv).1
 rw[Nat.zero_add]
 rcases Nat.mod_two_eq_zero_or_one j with he | he
 ·obtain ⟨k,rfl⟩:∃k,j=2*k:=⟨j / 2,by omega⟩
  rw[(h k (by omega)).1,← hv]
  exact (fcells_at k (by omega)).1.symm
 ·obtain ⟨k,rfl⟩:∃k,j=2*k+1:=⟨j / 2,by omega⟩
  rw[(h k (by omega)).2,← hv]
  exact (fcells_at k (by omega)).2.symm
theorem load63 {w:World}(h:Flds w):(Instr.loadAt 175 (.pointer (some ⟨0,0,none⟩))).run prog w=.ok (.agg fcells.toArray) w :=
 run_loadAt_mid w 0 0 175 fcells _ h.range underlying175 rfl size63
theorem sizeOf62 (w:World):(sizeOf 174).run prog w=.ok 2 w:=by
 cases hi:prog.info? 174 with
 | none=>have:=size62;simp[hi] at this
 | some i =>
  have h:=size62
  simp only[hi,Option.map_some,Option.some.injEq] at h
  simp[sizeOf,typeInfo,hi,h]
def fpair (a k:Nat):List Value:=[.int .i64 (a:Int),.int .i64 (k:Int)]
theorem fpair_at (j:Nat)(hj:j<8):fcells.toArray.extract (j*2) (j*2+2)=(fpair (fa.getD j 0) (fw.getD j 0)).toArray:=by
 have:j=0∨j=1∨j=2∨j=3∨j=4∨j=5∨j=6∨j=7:=by omega
 rcases this with rfl | rfl | rfl | rfl | rfl | rfl | rfl | rfl <;> rfl
theorem index63 (w:World)(j:Nat)(hj:j<8):(Instr.index 175 (.agg fcells.toArray) (.int .i64 (j:Int))).run prog w=.ok (.agg (fpair (fa.getD j 0) (fw.getD j 0)).toArray) w:=by
 have h1:(0:Int)≤j∧(j:Int)<((8:Nat):Int):=by omega
 have hagg:(isAgg 174).run prog w=.ok true w:=by
  unfold isAgg
  rw[Sem.run_bind,run_underlying underlying174 w]
  rfl
 unfold Instr.index
 simp only[Sem.run_bind,asIntOf,Sem.run_pure,Result.andThen_ok,run_underlying underlying175]
 rw[if_pos h1]
 simp only[Sem.run_bind,sizeOf62,Result.andThen_ok,Int.toNat_natCast,part,hagg,if_true,Sem.run_pure]
 rw[fpair_at j hj]
theorem zero62:(prog.info? 174).bind (·.zero)=some (.agg (fpair 0 0).toArray):=by kernel_rfl
theorem alloc62 (w:World):(Instr.alloc 174 true (.tuple #[])).run prog w=.ok (.pointer (some ⟨w.heap.size,0,none⟩)) (w.alloc (.cells (fpair 0 0).toArray 174)):=by
 simp only[Instr.alloc,Sem.run_bind,zv 174 _ zero62,Result.andThen_ok]
 simp[newVar,newRow,Value.cells]
theorem fpair_all (a k:Nat):(fpair a k).toArray.all (·.oneCell')=true:=by
 apply all_oneCell_toArray
 intro v hv
 simp only[fpair,List.mem_cons,List.not_mem_nil,or_false] at hv
 rcases hv with rfl | rfl <;> rfl
theorem store_new62 (w:World)(a k:Nat):(Instr.storeAt 174 (.pointer (some ⟨w.heap.size,0,none⟩)) (.agg (fpair a k).toArray)).run prog (w.alloc (.cells (fpair 0 0).toArray 174))=.ok () (w.alloc (.cells (fpair a k).toArray 174)):=by
 rw[(LAt.new 174 w (fpair 0 0)).store (ds:=fpair a k) size62 rfl (fpair_all a k),setRow_alloc]
def rds (xs:List Int):List Int:=[rd xs 0,rd xs 1,rd xs 2,rd xs 3,rd xs 4,rd xs 5,rd xs 6,rd xs 7]
theorem rds_at (xs:List Int)(j:Nat)(hj:j<(rds xs).length):(rds xs)[j]=rd xs j:=by
 have hj':j<8:=hj
 have:j=0∨j=1∨j=2∨j=3∨j=4∨j=5∨j=6∨j=7:=by omega
 rcases this with rfl | rfl | rfl | rfl | rfl | rfl | rfl | rfl <;> rfl
theorem take_worth (xs:List Int)(k:Nat)(h1:1≤k)(h2:k≤8)(h3:k≤xs.length):(takeS xs (k:Int)).1=worth (xs.take k)∧(takeS xs (k:Int)).2.2=0:=by
 unfold takeS
 rw[if_neg (by omega),if_neg (by omega),Int.toNat_natCast]
 exact⟨rfl,rfl⟩
theorem read_any (b o c:Nat)(xs:List Int)(w:World)(hx:BIn w (some ⟨b,o,none⟩) 64 xs)(hc:64≤c)(ht:Tab w) :
  Calls prog 145 #[.slice (some ⟨b,o,none⟩) 64 c] w fun e w'=>e=.returned (.agg (scells (readS xs)).toArray)∧Below w.heap.size w w':=by
 have HX:Hid (BIn w (some ⟨b,o,none⟩) 64 xs):=hx
 have HT:Hid (Tab w):=ht
 have A0:Hid (_):=alloc29 w
 obtain ⟨w0,hw0⟩:∃x,x=w.alloc (.cells (scells sup0).toArray 121):=⟨_,rfl⟩
 have hs0:w0.heap.size=w.heap.size+1:=by rw[hw0];simp
 have B0:Below w.heap.size w w0:=by rw[hw0];exact below_alloc w _
 have S0:SAt 121 w0 w.heap.size sup0:=by rw[hw0];exact LAt.new 121 w _
 rw[← hw0] at A0
 have A1:Hid (_):=alloc59 w0
 obtain ⟨w1,hw1⟩:∃x,x=w0.alloc (.cells (List.replicate 8 (Value.int .u64 0)).toArray 171):=⟨_,rfl⟩
 have B1:Below w.heap.size w w1:=by rw[hw1];exact below_then B0 (below_alloc w0 _)
 have S1:SAt 121 w1 w.heap.size sup0:=by rw[hw1];exact LAt.later S0 (below_alloc w0 _)
 have N1:LAt 171 w1 (w.heap.size+1) (U64 (filled (rds xs) 0)):=by rw[hw1,← hs0];exact LAt.new 171 w0 _
 rw[hs0,← hw1] at A1
 have L1:Hid (_):=load63 (ht.later B1).flds
 have HI:Hid (LAt 171 w1 (w.heap.size+1) (U64 (filled (rds xs) 0))∧SAt 121 w1 w.heap.size sup0∧Below w.heap.size w w1):=⟨N1,S1,B1⟩
 clear hw0 hw1 hs0 B0 S0 B1 S1 N1 hx ht
 go_enter func145,ntmps145
 go_wp2_with ((with_reducible refine at_ops ?_);(first | (refine wpList_alloc_is (by rfl) 121 rfl A0.out ?_) | (refine wpList_alloc_is (by rfl) 171 rfl A1.out ?_) | (refine wpList_load_is (by rfl) 175 rfl rfl L1.out ?_));simp only[Act.put,zA,zB,zC])
 clear A0 A1 L1
 go_loopw [7] (fun i wr=>∃j:Nat,j≤8∧i=.int .i64 j∧Hid (LAt 171 wr (w.heap.size+1) (U64 (filled (rds xs) j))∧SAt 121 wr w.heap.size sup0∧Below w.heap.size w wr)) (fun i _=>8-(intOf i).toNat)
 case atStart=>exact⟨0,Nat.zero_le _,rfl,HI.out⟩
 case round =>
  obtain ⟨j,hj,rfl,HR⟩:=hrel
  clear HI
  by_cases hlt:j<8
  ·have HLJ:Hid (j<(rds xs).length):=hlt
   have HRD:Hid ((rds xs)[j]'HLJ.out=worth ((xs.drop (fa.getD j 0)).take (fw.getD j 0))):=rds_at xs j hlt
   have HK:=fld_bd j hlt
   have HIX:Hid (∀w,(Instr.index 175 (.agg fcells.toArray) (.int .i64 (j:Int))).run prog w=.ok (.agg (fpair (fa.getD j 0) (fw.getD j 0)).toArray) w):=fun w=>index63 w j hlt
   generalize fa.getD j 0=a0 at *
   generalize fw.getD j 0=k0 at *
   obtain ⟨k1,k2,k3⟩:=HK
   have A2:Hid (_):=alloc62 wr
   have T2:Hid (_):=store_new62 wr a0 k0
   obtain ⟨w2,hw2⟩:∃x,x=wr.alloc (.cells (fpair a0 k0).toArray 174):=⟨_,rfl⟩
   have b2:Below wr.heap.size wr w2:=by rw[hw2];exact below_alloc wr _
   have P2:Hid (LAt 174 w2 wr.heap.size (fpair a0 k0)):=by rw[hw2];exact LAt.new 174 wr _
   have R2:Hid (LAt 171 w2 (w.heap.size+1) (U64 (filled (rds xs) j))∧SAt 121 w2 w.heap.size sup0∧Below w.heap.size w w2):=⟨HR.out.1.later b2,LAt.later HR.out.2.1 b2,below_then HR.out.2.2 b2⟩
   rw[← hw2] at T2
   have HLT:Hid (w.heap.size+1<wr.heap.size):=HR.out.1.lt
   clear hw2 b2 HR
   have hI:(a0:Int)≤64:=by omega
   have hI2:(a0:Int)≤c:=by omega
   have hne:¬c=a0:=by omega
   go_wp2_with ((with_reducible refine at_ops ?_);(first | (refine wpList_index_is (by rfl) 175 rfl rfl rfl (HIX.out _) ?_) | (refine wpList_alloc_is (by rfl) 174 rfl A2.out ?_) | (refine wpList_store_is (by rfl) 174 rfl rfl rfl T2.out ?_));simp only[Act.put,zA,zB,zC])
   clear A2 T2 HIX
   refine wp_region_noPanic ?_
   refine wp_region_held_drew (S:=fun w'=>LAt 174 w' wr.heap.size (fpair a0 k0)) (by kernel_rfl) P2.out.drew (fun hHeld=>?_)
   refine tk 0 hHeld ?_
   refine tk 1 hHeld ?_
   refine tk 2 hHeld ?_
   refine wpAnyH_take (i:=3) (v:=?v3) (by simp;rfl) (by kernel_rfl) (by kernel_rfl) (by kernel_rfl) (fun _ _ _ h=>h) (Or.inl ⟨by rfl,?y3⟩) hHeld ?r3
   case y3=>intro w hSw;have z:=LAt.cell hSw 0;simp only[fpair,List.getElem?_cons_zero] at z;clear hSw;go_simp;with_reducible rfl
   simp only[Act.put,zA,zB,zC]
   refine tk 4 hHeld ?_
   refine tk 5 hHeld ?_
   refine wpAnyH_take (i:=6) (v:=?v6) (by simp;rfl) (by kernel_rfl) (by kernel_rfl) (by kernel_rfl) (fun _ _ _ h=>h) (Or.inl ⟨by rfl,?y6⟩) hHeld ?r6
   case y6=>intro w hSw;have z:=LAt.cell hSw 1;simp only[fpair,List.getElem?_cons_zero,List.getElem?_cons_succ] at z;clear hSw;go_simp;with_reducible rfl
   simp only[Act.put,zA,zB,zC]
   refine wpAnyH_ready (rs:=[7]) (by kernel_rfl) (by simp) ?_
   refine AllReadyH.cons (by simp;rfl) (fun Kc hKc=>?_) AllReadyH.nil
   go_simp
   have hx2:=((HX.out.later R2.out.2.2).drew).drop a0 (by omega)
   refine (take_any (some ⟨b,o+a0,none⟩) (64-a0) (c-a0) (xs.drop a0) (k0:Int) w2.drew hx2 (by omega) (by omega)).mono ?_
   rintro e w3 ⟨v3,rfl,-,b3⟩
   have htk:=take_worth (xs.drop a0) k0 k1 k2 (by rw[hx2.len];omega)
   rw[htk.1,htk.2,← HRD.out]
   have B3:Hid (Below w2.heap.size w2 w3):=below_undrew b3
   have R3:Hid (LAt 171 w3 (w.heap.size+1) (U64 (filled (rds xs) j))∧SAt 121 w3 w.heap.size sup0∧Below w.heap.size w w3):=⟨R2.out.1.later B3.out,LAt.later R2.out.2.1 B3.out,below_then R2.out.2.2 B3.out⟩
   have P3:Hid (LAt 174 w3 wr.heap.size (fpair a0 k0)):=P2.out.later B3.out
   clear b3 hx2 htk
   refine hKc.out _ _ P3.out (fun hHeld=>?_)
   clear hKc Kc
   refine tk 8 hHeld ?_
   refine tk 9 hHeld ?_
   refine tk 10 hHeld ?_
   refine tk 11 hHeld ?_
   refine tk 12 hHeld ?_
   refine wpAnyH_ready (rs:=[13]) (by kernel_rfl) (by simp) ?_
   refine AllReadyH.cons (by simp;rfl) (fun Kc hKc=>?_) AllReadyH.nil
   have z:∃u,w3.cell? ⟨w.heap.size+1,j,none⟩=some u:=by
    rw[R3.out.1.cell j]
    exact⟨_,List.getElem?_eq_getElem (by simp[filled_length (rds xs) j (Nat.le_of_lt HLJ.out)];exact hlt)⟩
   obtain ⟨u,hu⟩:=z
   have hfz:w3.frozen? ⟨w.heap.size+1,j,none⟩=false:=by simp[World.frozen?,show w3.heap[w.heap.size+1]?=_ from R3.out.1]
   have HQ:Hid (LAt 171 (w3.setCell ⟨w.heap.size+1,j,none⟩ (.int .u64 ((rds xs)[j]'HLJ.out))) (w.heap.size+1) (U64 (filled (rds xs) (j+1)))∧SAt 121 (w3.setCell ⟨w.heap.size+1,j,none⟩ (.int .u64 ((rds xs)[j]'HLJ.out))) w.heap.size sup0∧Below w.heap.size w (w3.setCell ⟨w.heap.size+1,j,none⟩ (.int .u64 ((rds xs)[j]'HLJ.out)))):=by
    refine⟨?_,LAt.setO R3.out.2.1 j _ (by omega),R3.out.2.2.setCell (by show _≤_;simp) _⟩
    have:=R3.out.1.set j (.int .u64 ((rds xs)[j]'HLJ.out))
    rw[← filled_step (rds xs) j HLJ.out]
    simpa [U64,List.map_set] using this
   have P4:Hid (LAt 174 (w3.setCell ⟨w.heap.size+1,j,none⟩ (.int .u64 ((rds xs)[j]'HLJ.out))) wr.heap.size (fpair a0 k0)):=LAt.setO P3.out j _ (by have:=HLT.out;omega)
   generalize (rds xs)[j]'HLJ.out=V at *
   go_simp
   refine hKc.out _ _ P4.out (fun hHeld=>?_)
   clear hKc Kc
   refine wpAnyH_done (by kernel_rfl) (NoPanic.normal ?_) _
   clear hHeld P4 P3 R3 R2 P2 hu hfz
   go_wp2_with fail
   go_roundw
   case rel=>exact⟨j+1,by omega,by go_num,HQ.out⟩
   case measure=>simp[intOf];omega
  ·obtain rfl:j=8:=by omega
   have HN:Hid (LAt 171 wr (w.heap.size+1) (U64 (rds xs))):=by have:=HR.out.1;rw[filled_all (rds xs) 8 (Nat.le_refl _)] at this;exact this
   have r1:=rd_one xs HX.out.byte 1 (by omega)
   have r2:=rd_one xs HX.out.byte 2 (by omega)
   have r3:=rd_one xs HX.out.byte 3 (by omega)
   have r4:=rd_one xs HX.out.byte 4 (by omega)
   have r5:=rd_one xs HX.out.byte 5 (by omega)
   have c1:wr.cell? ⟨w.heap.size+1,1,none⟩=some (.int .u64 (rd xs 1)):=HN.out.cell 1
   have c2:wr.cell? ⟨w.heap.size+1,2,none⟩=some (.int .u64 (rd xs 2)):=HN.out.cell 2
   have c3:wr.cell? ⟨w.heap.size+1,3,none⟩=some (.int .u64 (rd xs 3)):=HN.out.cell 3
   have c4:wr.cell? ⟨w.heap.size+1,4,none⟩=some (.int .u64 (rd xs 4)):=HN.out.cell 4
   have c5:wr.cell? ⟨w.heap.size+1,5,none⟩=some (.int .u64 (rd xs 5)):=HN.out.cell 5
   have c6:wr.cell? ⟨w.heap.size+1,6,none⟩=some (.int .u64 (rd xs 6)):=HN.out.cell 6
   have c7:wr.cell? ⟨w.heap.size+1,7,none⟩=some (.int .u64 (rd xs 7)):=HN.out.cell 7
   obtain ⟨r,hr⟩:∃r,r=readS xs:=⟨_,rfl⟩
   have HE:Hid (r=readS xs):=hr
   have e1:rd xs 1=r.bl:=by rw[hr];rfl
   have e2:rd xs 2=r.lc:=by rw[hr];rfl
   have e3:rd xs 3=r.mr:=by rw[hr];rfl
   have e4:rd xs 4=r.hi:=by rw[hr];rfl
   have e5:rd xs 5=r.cl:=by rw[hr];rfl
   have e6:rd xs 6=r.tail:=by rw[hr];rfl
   have e7:rd xs 7=r.life:=by rw[hr];rfl
   rw[e1] at r1 c1
   rw[e2] at r2 c2
   rw[e3] at r3 c3
   rw[e4] at r4 c4
   rw[e5] at r5 c5
   rw[e6] at c6
   rw[e7] at c7
   obtain ⟨r10,r11⟩:=r1
   obtain ⟨r20,r21⟩:=r2
   obtain ⟨r30,r31⟩:=r3
   obtain ⟨r40,r41⟩:=r4
   obtain ⟨r50,r51⟩:=r5
   have q1:IntKind.i64.wrap r.bl=r.bl:=by rw[IntKind.wrap_i64];omega
   have q2:IntKind.i64.wrap r.lc=r.lc:=by rw[IntKind.wrap_i64];omega
   have q3:IntKind.i64.wrap r.mr=r.mr:=by rw[IntKind.wrap_i64];omega
   have q4:IntKind.i64.wrap r.hi=r.hi:=by rw[IntKind.wrap_i64];omega
   have q5:IntKind.i64.wrap r.cl=r.cl:=by rw[IntKind.wrap_i64];omega
   have ST:Hid (_):=LAt.store (ds:=scells r) HR.out.2.1 size29 rfl (scells_all r)
   have HF:Hid (SAt 121 (wr.setRow w.heap.size (scells r).toArray) w.heap.size r∧Below w.heap.size w (wr.setRow w.heap.size (scells r).toArray)):=⟨LAt.stored HR.out.2.1 _,below_setRow HR.out.2.2 (Nat.le_refl _) _⟩
   clear hr e1 e2 e3 e4 e5 e6 e7 r10 r11 r20 r21 r30 r31 r40 r41 r50 r51 HN HR
   go_wp2_with ((with_reducible refine at_ops ?_);(refine wpList_store_is (by rfl) 121 rfl rfl rfl ST.out ?_);simp only[Act.put])
   rw[← HE.out]
   exact bodyPost_ret (results_cell1 results145 _ _ w.heap.size 121 _ _ (by rfl) HF.out.1 underlying121 rfl size29) rfl ⟨rfl,HF.out.2⟩
theorem decode_len (p:Option Addr)(n c:Nat)(w:World)(hn:n≠64) :
  Calls prog 126 #[.slice p n c] w fun e w'=>e=.returned (.tuple #[.agg (scells sup0).toArray,.int .i64 2])∧Below w.heap.size w w':=by
 have A1:Hid (_):=alloc29 w
 have R1:Hid (SAt 121 (w.alloc (.cells (scells sup0).toArray 121)) w.heap.size sup0):=LAt.new 121 w _
 have S1:Hid (_):=store_new29 w sup0
 have hn':(((n:Nat):Int) != 64)=true:=by simp;omega
 go_enter func126,ntmps126
 go_wp2_with ((with_reducible refine at_ops ?_);(first | (refine wpList_alloc_is (by rfl) 121 rfl A1.out ?_) | (refine wpList_build_is (vs:=[]) (by rfl) 121 rfl (by rfl) (build29 _ #[] sup0 fill_none) ?_) | (refine wpList_store_is (by rfl) 121 rfl rfl rfl S1.out ?_));simp only[Act.put,zA,zB,zC])
 exact bodyPost_ret (results_sup results126 _ _ w.heap.size 121 _ _ (by rfl) R1.out underlying121 rfl size29) rfl ⟨rfl,below_alloc w _⟩
theorem decode_64 (b o c:Nat)(xs:List Int)(w:World)(hx:BIn w (some ⟨b,o,none⟩) 64 xs)(hc:64≤c)(ht:Tab w) :
  Calls prog 126 #[.slice (some ⟨b,o,none⟩) 64 c] w fun e w'=>e=.returned (.tuple #[.agg (scells (decS xs).1).toArray,.int .i64 (decS xs).2])∧Below w.heap.size w w':=by
 have A1:Hid (_):=alloc29 w
 have R1:Hid (SAt 121 (w.alloc (.cells (scells sup0).toArray 121)) w.heap.size sup0):=LAt.new 121 w _
 have B1:Hid (Below w.heap.size w (w.alloc (.cells (scells sup0).toArray 121))):=below_alloc w _
 have HX:Hid (BIn (w.alloc (.cells (scells sup0).toArray 121)) (some ⟨b,o,none⟩) 64 xs):=hx.later (below_alloc w _)
 have HT:Hid (Tab w):=ht
 have HW:Hid ((readS xs).Wf):=readS_wf xs hx.byte
 have HL:Hid (xs.length=64):=hx.len
 clear hx ht
 go_enter func126,ntmps126
 go_wp2_with ((with_reducible refine at_ops ?_);(refine wpList_alloc_is (by rfl) 121 rfl A1.out ?_);simp only[Act.put,zA,zB,zC])
 refine (read_any b o c xs _ HX.out hc (HT.out.later B1.out)).mono ?_
 rintro e w1 ⟨rfl,b1⟩
 have R2:Hid (SAt 121 w1 w.heap.size sup0):=LAt.later R1.out b1
 have B2:Hid (Below w.heap.size w w1):=below_of_alloc b1
 have X2:Hid (BIn w1 (some ⟨b,o,none⟩) 64 xs):=HX.out.later b1
 clear b1 R1 HX A1 B1
 obtain ⟨r,hr⟩:∃r,r=readS xs:=⟨_,rfl⟩
 have HRR:Hid (r=readS xs):=hr
 rw[← hr] at HW ⊢
 clear hr
 have A2:Hid (_):=alloc29 w1
 have S2:Hid (_):=store_new29 w1 r
 have R3:Hid (SAt 121 (w1.alloc (.cells (scells r).toArray 121)) w1.heap.size r):=LAt.new 121 w1 _
 have L3:Hid (_):=SAt.load29 R3.out
 go_wp2_with ((with_reducible refine at_ops ?_);(first | (refine wpList_alloc_is (by rfl) 121 rfl A2.out ?_) | (refine wpList_store_is (by rfl) 121 rfl rfl rfl S2.out ?_) | (refine wpList_load_is (by rfl) 121 rfl rfl L3.out ?_));simp only[Act.put,zA,zB,zC])
 have B3:Below w1.heap.size w1 (w1.alloc (.cells (scells r).toArray 121)):=below_alloc w1 _
 refine (encode_any r HW.out _ (HT.out.later (below_then B2.out B3))).mono ?_
 rintro e w2 ⟨p2,n2,c2,rfl,hn2,m2⟩
 have B4:=below_then B3 m2.below
 have R4:Hid (SAt 121 w2 w1.heap.size r):=LAt.later R3.out m2.below
 have R5:Hid (SAt 121 w2 w.heap.size sup0):=LAt.later R2.out B4
 have HB:Hid (Below w.heap.size w w2):=below_then B2.out B4
 have X4:Hid (BIn w2 (some ⟨b,o,none⟩) 64 xs):=X2.out.later B4
 have E4:Hid (BIn w2 p2 n2 (encT r)):=m2.read
 clear m2 B3 B4 R3 L3 S2 A2 R2 B2 X2 hn2
 have L4:Hid (_):=SAt.load29 R4.out
 have ST:Hid (_):=LAt.store (ds:=scells r) R5.out size29 rfl (scells_all r)
 have SZ:Hid (_):=LAt.store (ds:=scells sup0) R5.out size29 rfl (scells_all sup0)
 have F1:Hid (SAt 121 (w2.setRow w.heap.size (scells r).toArray) w.heap.size r∧Below w.heap.size w (w2.setRow w.heap.size (scells r).toArray)):=⟨LAt.stored R5.out _,below_setRow HB.out (Nat.le_refl _) _⟩
 have F0:Hid (SAt 121 (w2.setRow w.heap.size (scells sup0).toArray) w.heap.size sup0∧Below w.heap.size w (w2.setRow w.heap.size (scells sup0).toArray)):=⟨LAt.stored R5.out _,below_setRow HB.out (Nat.le_refl _) _⟩
 by_cases hm:May r
 ·rw[chk_yes r hm]
  by_cases he:encS r=xs
  ·have hq:decide (encT r=xs)=true:=by rw[encT_yes r hm,he];simp
   have HD:Hid (decS xs=(r,0)):=by
    show _=_
    rw[decS_ok xs HL.out (by unfold Good;rw[← HRR.out];exact⟨hm,he⟩),HRR.out]
   clear he hm
   go_wp2_with fail
   refine (equal_any p2 (some ⟨b,o,none⟩) n2 c2 64 c (encT r) xs w2 E4.out X4.out).mono ?_
   rintro e w3 ⟨rfl,rfl⟩
   go_wp2_with ((with_reducible refine at_ops ?_);(first | (refine wpList_store_is (by rfl) 121 rfl rfl rfl ST.out ?_) | (refine wpList_load_is (by rfl) 121 rfl rfl L4.out ?_));simp only[Act.put,zA,zB,zC])
   rw[HD.out]
   exact bodyPost_ret (results_sup results126 _ _ w.heap.size 121 _ _ (by rfl) F1.out.1 underlying121 rfl size29) rfl ⟨rfl,F1.out.2⟩
  ·have hq:decide (encT r=xs)=false:=by rw[encT_yes r hm];simp[he]
   have HD:Hid (decS xs=(sup0,70)):=decS_bad xs HL.out (by unfold Good;rw[← HRR.out];exact fun h=>he h.2)
   clear he hm
   go_wp2_with fail
   refine (equal_any p2 (some ⟨b,o,none⟩) n2 c2 64 c (encT r) xs w2 E4.out X4.out).mono ?_
   rintro e w3 ⟨rfl,rfl⟩
   go_wp2_with ((with_reducible refine at_ops ?_);(first | (refine wpList_store_is (by rfl) 121 rfl rfl rfl SZ.out ?_) | (refine wpList_build_is (vs:=[]) (by rfl) 121 rfl (by rfl) (build29 _ #[] sup0 fill_none) ?_));simp only[Act.put,zA,zB,zC])
   rw[HD.out]
   exact bodyPost_ret (results_sup results126 _ _ w.heap.size 121 _ _ (by rfl) F0.out.1 underlying121 rfl size29) rfl ⟨rfl,F0.out.2⟩
 ·have hc0:chk r≠0:=fun h=>hm ((chk_zero r).1 h)
  generalize chk r=q at *
  have HD:Hid (decS xs=(sup0,70)):=decS_bad xs HL.out (by unfold Good;rw[← HRR.out];exact fun h=>hm h.1)
  clear hm
  go_wp2_with ((with_reducible refine at_ops ?_);(first | (refine wpList_store_is (by rfl) 121 rfl rfl rfl SZ.out ?_) | (refine wpList_build_is (vs:=[]) (by rfl) 121 rfl (by rfl) (build29 _ #[] sup0 fill_none) ?_));simp only[Act.put,zA,zB,zC])
  rw[HD.out]
  exact bodyPost_ret (results_sup results126 _ _ w.heap.size 121 _ _ (by rfl) F0.out.1 underlying121 rfl size29) rfl ⟨rfl,F0.out.2⟩
theorem decode_any (p:Option Addr)(n c:Nat)(xs:List Int)(w:World)(hx:BIn w p n xs)(hc:n≤c)(ht:Tab w) :
  Calls prog 126 #[.slice p n c] w fun e w'=>e=.returned (.tuple #[.agg (scells (decS xs).1).toArray,.int .i64 (decS xs).2])∧Below w.heap.size w w':=by
 by_cases h:n=64
 ·subst h
  obtain ⟨b,o,rfl,-⟩:=hx.cells (by omega)
  exact decode_64 b o c xs w hx hc ht
 ·rw[decS_len xs (by rw[hx.len];exact h)]
  exact decode_len p n c w h
theorem eqg23:prog.eqGuardType prog.depth 23=false:=by kernel_rfl
theorem neq23 (w:World)(r s:Sup):(binOp .neq 23 (.agg (ccells r).toArray) (.agg (ccells s).toArray)).run prog w=.ok (.bool (!cfgB r s)) w:=by
 rw[run_neq_struct,equal23 w 9998 r s]
 rfl
theorem cfgB_iff (r s:Sup):cfgB r s=true↔SameC r s:=by simp[cfgB,SameC]
theorem superOf_nil (c:Sup)(w:World):Calls prog 105 #[.pointer none,.agg (ccells c).toArray] w fun e w'=>e=.returned (.tuple #[.agg (scells sup0).toArray,.int .i64 1])∧Below w.heap.size w w':=by
 obtain ⟨wa,hwa⟩:∃y,y=w.alloc (.cells (ccells c).toArray 23):=⟨_,rfl⟩
 obtain ⟨w0,hw0⟩:∃y,y=wa.alloc (.cells (scells sup0).toArray 121):=⟨_,rfl⟩
 have ewa:=hwa.symm
 have sa:wa.heap.size=w.heap.size+1:=by rw[hwa];simp
 have A1:Hid (_):=alloc29 wa
 rw[← hw0,sa] at A1
 have Ba:Below w.heap.size w wa:=by rw[hwa];exact below_alloc w _
 have B0:Hid (Below w.heap.size w w0):=by rw[hw0];exact below_then Ba (below_alloc wa _)
 have C0:Hid (CAt w0 w.heap.size c):=by
  rw[hw0]
  refine LAt.later ?_ (below_alloc wa _)
  rw[hwa];exact LAt.new 23 w _
 have V0:Hid (SAt 121 w0 (w.heap.size+1) sup0):=by rw[hw0,← sa];exact LAt.new 121 wa _
 clear hwa hw0 Ba
 have U0:Hid (_):=build29 w0 #[] sup0 fill_none
 have T0:Hid (_):=LAt.store (ds:=scells sup0) V0.out size29 rfl (scells_all sup0)
 have F0:Hid (SAt 121 (w0.setRow (w.heap.size+1) (scells sup0).toArray) (w.heap.size+1) sup0):=LAt.stored V0.out _
 have G0:Hid (Below w.heap.size w (w0.setRow (w.heap.size+1) (scells sup0).toArray)):=below_setRow B0.out (Nat.le_succ _) _
 go_enter func105,ntmps105
 go_wp2_with ((with_reducible refine at_ops ?_);(first | (refine wpList_alloc_is (by rfl) 121 rfl A1.out ?_) | (refine wpList_build_is (vs:=[]) (by rfl) 121 rfl (by rfl) U0.out ?_) | (refine wpList_store_is (by rfl) 121 rfl rfl rfl T0.out ?_));simp only[Act.put,zA,zB,zC])
 exact bodyPost_ret (results_sup results105 _ _ (w.heap.size+1) 121 sup0 _ (by rfl) F0.out underlying121 rfl size29) rfl ⟨rfl,G0.out⟩
theorem superOf_any {w:World}{S:Nat→Prop}{p n:Nat}{d:List Int}{ws:List Wr}(h:Dsk w S p n d ws)(ht:Tab w)(c:Sup) :
  Calls prog 105 #[.pointer (some ⟨p,0,none⟩),.agg (ccells c).toArray] w fun e w'=>e=.returned (.tuple #[.agg (scells (supOf c n (newest ws d)).1).toArray,.int .i64 (supOf c n (newest ws d)).2])∧Below w.heap.size w w':=by
 obtain ⟨wa,hwa⟩:∃y,y=w.alloc (.cells (ccells c).toArray 23):=⟨_,rfl⟩
 obtain ⟨w0,hw0⟩:∃y,y=wa.alloc (.cells (scells sup0).toArray 121):=⟨_,rfl⟩
 have ewa:=hwa.symm
 have sa:wa.heap.size=w.heap.size+1:=by rw[hwa];simp
 have A1:Hid (_):=alloc29 wa
 rw[← hw0,sa] at A1
 have Ba:Below w.heap.size w wa:=by rw[hwa];exact below_alloc w _
 have B0:Hid (Below w.heap.size w w0):=by rw[hw0];exact below_then Ba (below_alloc wa _)
 have C0:Hid (CAt w0 w.heap.size c):=by
  rw[hw0]
  refine LAt.later ?_ (below_alloc wa _)
  rw[hwa];exact LAt.new 23 w _
 have V0:Hid (SAt 121 w0 (w.heap.size+1) sup0):=by rw[hw0,← sa];exact LAt.new 121 wa _
 clear hwa hw0 Ba
 have HD:Hid (Dsk w S p n d ws):=h
 have HT:Hid (Tab w):=ht
 have L0:Hid (_):=CAt.load23 C0.out
 clear h ht
 go_enter func105,ntmps105
 go_wp2_with ((with_reducible refine at_ops ?_);(first | (refine wpList_alloc_is (by rfl) 121 rfl A1.out ?_) | (refine wpList_load_is (by rfl) 23 rfl rfl L0.out ?_));simp only[Act.put,zA,zB,zC])
 clear ewa A1
 refine (config_any c _).mono ?_
 rintro e w1 ⟨rfl,b1⟩
 have B1:Hid (Below w.heap.size w w1):=below_then B0.out b1
 have C1:Hid (CAt w1 w.heap.size c):=LAt.later C0.out b1
 have V1:Hid (SAt 121 w1 (w.heap.size+1) sup0):=LAt.later V0.out b1
 clear b1 B0 C0 V0 L0
 by_cases hc:MayC c
 ·rw[cfg_yes c hc]
  have HC:Hid (MayC c):=hc
  obtain ⟨⟨a1,a2⟩,⟨a3,a4⟩,-⟩:=hc
  obtain ⟨bl,hbl⟩:∃x,x=c.bl:=⟨_,rfl⟩
  obtain ⟨lc,hlc⟩:∃x,x=c.lc:=⟨_,rfl⟩
  have k1:IntKind.i64.wrap (1+bl)=1+bl:=by rw[IntKind.wrap_i64];omega
  have k2:IntKind.i64.wrap (1+bl+lc)=1+bl+lc:=by rw[IntKind.wrap_i64];omega
  have HE:Hid ((¬(n:Int)=1+bl+lc→supOf c n (newest ws d)=(sup0,40))∧((n:Int)=1+bl+lc→∀z,decS (newest ws d 0)=z→(¬z.2=0→supOf c n (newest ws d)=(sup0,z.2))∧(z.2=0→cfgB z.1 c=false→supOf c n (newest ws d)=(sup0,3))∧(z.2=0→cfgB z.1 c=true→supOf c n (newest ws d)=(z.1,0)))):=by
   rw[hbl,hlc]
   refine⟨fun h=>supOf_len _ HC.out h,fun h z hz=>?_⟩
   subst hz
   exact⟨fun k=>supOf_bad HC.out h k,fun k k2=>supOf_other HC.out h k fun e=>(by rw[(cfgB_iff _ _).2 e] at k2;cases k2),fun k k2=>supOf_ok HC.out h k ((cfgB_iff _ _).1 k2)⟩
  have HC0:Hid (∀w',CAt w' w.heap.size c→w'.cell? ⟨w.heap.size,0,none⟩=some (.int .i64 bl)∧w'.cell? ⟨w.heap.size,1,none⟩=some (.int .i64 lc)):=by rw[hbl,hlc];exact fun w' h=>⟨CAt.c0 h,CAt.c1 h⟩
  have hn4:1+bl+lc≤129:=by omega
  have hn0:0<1+bl+lc:=by omega
  clear hbl hlc a1 a2 a3 a4
  go_wp2_with fail
  refine wp_region_noPanic ?_
  refine wp_region_held_drew (S:=fun w'=>Below w1.heap.size w1 w') (by kernel_rfl) (below_drawn 1) (fun hHeld=>?_)
  have D1:Hid (Below w1.heap.size w1 w1.drew):=hHeld
  generalize w1.drew=wd at *
  refine tk 0 hHeld ?_
  refine tk 2 hHeld ?_
  refine tkl 3 hHeld (fun _ hSw=>(HC0.out _ (LAt.later C1.out hSw)).1) ?_
  refine tk 4 hHeld ?_
  refine tk 5 hHeld ?_
  refine tkl 6 hHeld (fun _ hSw=>(HC0.out _ (LAt.later C1.out hSw)).2) ?_
  refine tk 7 hHeld ?_
  refine wpAnyH_ready (rs:=[1]) (by kernel_rfl) (by simp) ?_
  refine AllReadyH.cons (by simp;rfl) (fun Kc hKc=>?_) AllReadyH.nil
  go_simp
  refine (len_any (HD.out.later (below_then B1.out D1.out))).mono ?_
  rintro e wn ⟨rfl,rfl⟩
  refine hKc.out _ _ D1.out (fun hHeld=>?_)
  clear hKc Kc
  refine tk 8 hHeld ?_
  have B2:Hid (Below w.heap.size w wd):=below_then B1.out D1.out
  have C2:Hid (CAt wd w.heap.size c):=LAt.later C1.out D1.out
  have V2:Hid (SAt 121 wd (w.heap.size+1) sup0):=LAt.later V1.out D1.out
  clear hHeld D1 HC0 B1 C1 V1
  refine wpAnyH_done (by kernel_rfl) (NoPanic.normal ?_) _
  obtain ⟨w2,hw2⟩:∃y,y=wd:=⟨_,rfl⟩
  rw[← hw2] at B2 C2 V2 ⊢
  clear hw2
  by_cases he:(n:Int)=1+bl+lc
  ·have hq:((n:Int) != 1+bl+lc)=false:=by rw[he];simp
   have HZ0:Hid (_):=HE.out.2 he
   have hn:0<n:=by omega
   clear he HE
   go_wp2_with fail
   refine (rd_at (HD.out.later B2.out) 0 (Int.le_refl 0) (by omega)).mono ?_
   rintro e w3 ⟨q2,c2,rfl,x2,hc2,b2⟩
   have X3:Hid (BIn w3 q2 64 (newest ws d 0)):=x2
   have B3:Hid (Below w.heap.size w w3):=below_then B2.out b2
   have C3:Hid (CAt w3 w.heap.size c):=LAt.later C2.out b2
   have V3:Hid (SAt 121 w3 (w.heap.size+1) sup0):=LAt.later V2.out b2
   clear x2 b2 B2 C2 V2
   go_wp2_with fail
   refine (decode_any q2 64 c2 _ w3 X3.out hc2 (HT.out.later B3.out)).mono ?_
   rintro e w4 ⟨rfl,b4⟩
   have B4:Hid (Below w.heap.size w w4):=below_then B3.out b4
   have C4:Hid (CAt w4 w.heap.size c):=LAt.later C3.out b4
   have V4:Hid (SAt 121 w4 (w.heap.size+1) sup0):=LAt.later V3.out b4
   clear b4 X3 B3 C3 V3
   obtain ⟨⟨r,k⟩,hz⟩:∃z,decS (newest ws d 0)=z:=⟨_,rfl⟩
   have HZ:Hid (_):=HZ0.out _ hz
   rw[hz]
   clear hz HZ0
   obtain ⟨w5,hw5⟩:∃y,y=w4.alloc (.cells (scells r).toArray 121):=⟨_,rfl⟩
   have A5:Hid (_):=alloc29 w4
   have T45:Hid (_):=store_new29 w4 r
   rw[← hw5] at T45
   have b5:Below w4.heap.size w4 w5:=by rw[hw5];exact below_alloc w4 _
   have B5:Hid (Below w.heap.size w w5):=below_then B4.out b5
   have C5:Hid (CAt w5 w.heap.size c):=LAt.later C4.out b5
   have V5:Hid (SAt 121 w5 (w.heap.size+1) sup0):=LAt.later V4.out b5
   have R5:Hid (SAt 121 w5 w4.heap.size r):=by rw[hw5];exact LAt.new 121 w4 _
   clear hw5 b5 B4 C4 V4
   have U5:Hid (_):=build29 w5 #[] sup0 fill_none
   have T5:Hid (_):=LAt.store (ds:=scells sup0) V5.out size29 rfl (scells_all sup0)
   have F5:Hid (SAt 121 (w5.setRow (w.heap.size+1) (scells sup0).toArray) (w.heap.size+1) sup0):=LAt.stored V5.out _
   have G5:Hid (Below w.heap.size w (w5.setRow (w.heap.size+1) (scells sup0).toArray)):=below_setRow B5.out (Nat.le_succ _) _
   by_cases hk:k=0
   ·subst hk
    have L5:Hid (_):=SAt.load23 R5.out
    have M5:Hid (_):=CAt.load23 C5.out
    have N5:Hid (_):=neq23 w5 r c
    cases hb:cfgB r c with
    | true =>
     have HR:Hid (_):=HZ.out.2.2 rfl hb
     have Q5:Hid (_):=SAt.load29 R5.out
     have T6:Hid (_):=LAt.store (ds:=scells r) V5.out size29 rfl (scells_all r)
     have F6:Hid (SAt 121 (w5.setRow (w.heap.size+1) (scells r).toArray) (w.heap.size+1) r):=LAt.stored V5.out _
     have G6:Hid (Below w.heap.size w (w5.setRow (w.heap.size+1) (scells r).toArray)):=below_setRow B5.out (Nat.le_succ _) _
     rw[hb] at N5
     clear HZ T5 F5 G5 U5 hb
     go_wp2_with ((with_reducible refine at_ops ?_);(first | (refine wpList_alloc_is (by rfl) 121 rfl A5.out ?_) | (refine wpList_store_is (by rfl) 121 rfl rfl rfl T45.out ?_) | (refine wpList_load_is (by rfl) 23 rfl rfl L5.out ?_) | (refine wpList_load_is (by rfl) 23 rfl rfl M5.out ?_) | (refine wpList_neq_is (by rfl) 23 rfl rfl rfl eqg23 N5.out ?_) | (refine wpList_load_is (by rfl) 121 rfl rfl Q5.out ?_) | (refine wpList_store_is (by rfl) 121 rfl rfl rfl T6.out ?_));simp only[Act.put,zA,zB,zC])
     rw[HR.out]
     exact bodyPost_ret (results_sup results105 _ _ (w.heap.size+1) 121 r _ (by rfl) F6.out underlying121 rfl size29) rfl ⟨rfl,G6.out⟩
    | false =>
     have HR:Hid (_):=HZ.out.2.1 rfl hb
     rw[hb] at N5
     clear HZ hb
     go_wp2_with ((with_reducible refine at_ops ?_);(first | (refine wpList_alloc_is (by rfl) 121 rfl A5.out ?_) | (refine wpList_store_is (by rfl) 121 rfl rfl rfl T45.out ?_) | (refine wpList_load_is (by rfl) 23 rfl rfl L5.out ?_) | (refine wpList_load_is (by rfl) 23 rfl rfl M5.out ?_) | (refine wpList_neq_is (by rfl) 23 rfl rfl rfl eqg23 N5.out ?_) | (refine wpList_build_is (vs:=[]) (by rfl) 121 rfl (by rfl) U5.out ?_) | (refine wpList_store_is (by rfl) 121 rfl rfl rfl T5.out ?_));simp only[Act.put,zA,zB,zC])
     rw[HR.out]
     exact bodyPost_ret (results_sup results105 _ _ (w.heap.size+1) 121 sup0 _ (by rfl) F5.out underlying121 rfl size29) rfl ⟨rfl,G5.out⟩
   ·have HR:Hid (_):=HZ.out.1 hk
    have hq:(k != 0)=true:=by simp[hk]
    clear HZ
    go_wp2_with ((with_reducible refine at_ops ?_);(first | (refine wpList_alloc_is (by rfl) 121 rfl A5.out ?_) | (refine wpList_store_is (by rfl) 121 rfl rfl rfl T45.out ?_) | (refine wpList_build_is (vs:=[]) (by rfl) 121 rfl (by rfl) U5.out ?_) | (refine wpList_store_is (by rfl) 121 rfl rfl rfl T5.out ?_));simp only[Act.put,zA,zB,zC])
    rw[HR.out]
    exact bodyPost_ret (results_sup results105 _ _ (w.heap.size+1) 121 sup0 _ (by rfl) F5.out underlying121 rfl size29) rfl ⟨rfl,G5.out⟩
  ·have hq:((n:Int) != 1+bl+lc)=true:=by simp[he]
   have HR:Hid (_):=HE.out.1 he
   clear he HE
   have U2:Hid (_):=build29 w2 #[] sup0 fill_none
   have T2:Hid (_):=LAt.store (ds:=scells sup0) V2.out size29 rfl (scells_all sup0)
   have F2:Hid (SAt 121 (w2.setRow (w.heap.size+1) (scells sup0).toArray) (w.heap.size+1) sup0):=LAt.stored V2.out _
   have G2:Hid (Below w.heap.size w (w2.setRow (w.heap.size+1) (scells sup0).toArray)):=below_setRow B2.out (Nat.le_succ _) _
   go_wp2_with ((with_reducible refine at_ops ?_);(first | (refine wpList_build_is (vs:=[]) (by rfl) 121 rfl (by rfl) U2.out ?_) | (refine wpList_store_is (by rfl) 121 rfl rfl rfl T2.out ?_));simp only[Act.put,zA,zB,zC])
   rw[HR.out]
   exact bodyPost_ret (results_sup results105 _ _ (w.heap.size+1) 121 sup0 _ (by rfl) F2.out underlying121 rfl size29) rfl ⟨rfl,G2.out⟩
 ·rw[cfg_no c hc]
  have HR:Hid (_):=supOf_no n (newest ws d) hc
  clear hc
  have U1:Hid (_):=build29 w1 #[] sup0 fill_none
  have T1:Hid (_):=LAt.store (ds:=scells sup0) V1.out size29 rfl (scells_all sup0)
  have F1:Hid (SAt 121 (w1.setRow (w.heap.size+1) (scells sup0).toArray) (w.heap.size+1) sup0):=LAt.stored V1.out _
  have G1:Hid (Below w.heap.size w (w1.setRow (w.heap.size+1) (scells sup0).toArray)):=below_setRow B1.out (Nat.le_succ _) _
  go_wp2_with ((with_reducible refine at_ops ?_);(first | (refine wpList_build_is (vs:=[]) (by rfl) 121 rfl (by rfl) U1.out ?_) | (refine wpList_store_is (by rfl) 121 rfl rfl rfl T1.out ?_));simp only[Act.put,zA,zB,zC])
  rw[HR.out]
  exact bodyPost_ret (results_sup results105 _ _ (w.heap.size+1) 121 sup0 _ (by rfl) F1.out underlying121 rfl size29) rfl ⟨rfl,G1.out⟩
def gcells (t l f:Int)(v:Value):List Value:=[.int .u64 t,.int .u64 l,.int .u64 f,v]
theorem gcells_ones {v:Value}(hv:v.oneCell'=true)(t l f:Int):∀u∈gcells t l f v,u.oneCell'=true:=by
 intro u hu
 simp only[gcells,List.mem_cons,List.not_mem_nil,or_false] at hu
 rcases hu with rfl | rfl | rfl | rfl
 ·rfl
 ·rfl
 ·rfl
 ·exact hv
theorem sizeLg:(prog.info? 165).map (·.size)=some 4:=by kernel_rfl
theorem zeroLg:(prog.info? 165).bind (·.zero)=some (.agg (gcells 0 0 0 (.slice none 0 0)).toArray):=by kernel_rfl
def plLg:List (Nat × Nat):=[(0,1),(1,1),(2,1),(3,1)]
theorem placesLg:placesOf prog 165=some plLg:=by kernel_rfl
theorem buildL0 (w:World):(Instr.build 165 #[]).run prog w=.ok (.agg (gcells 0 0 0 (.slice none 0 0)).toArray) w:=run_build w 165 _ _ ((built_of 165 _ _ _ placesLg zeroLg).trans rfl)
theorem buildL3 (w:World)(t l f:Int):(Instr.build 165 #[(0,.int .u64 t),(1,.int .u64 l),(2,.int .u64 f)]).run prog w=.ok (.agg (gcells t l f (.slice none 0 0)).toArray) w :=
 run_build w 165 _ _ ((built_of 165 _ _ _ placesLg zeroLg).trans rfl)
theorem allocLg (w:World):(Instr.alloc 165 true (.tuple #[])).run prog w=.ok (.pointer (some ⟨w.heap.size,0,none⟩)) (w.alloc (.cells (gcells 0 0 0 (.slice none 0 0)).toArray 165)):=by
 simp only[Instr.alloc,Sem.run_bind,zv 165 _ zeroLg,Result.andThen_ok]
 simp[newVar,newRow,Value.cells]
theorem storeLg (w:World)(t l f:Int){v:Value}(hv:v.oneCell'=true):(Instr.storeAt 165 (.pointer (some ⟨w.heap.size,0,none⟩)) (.agg (gcells t l f v).toArray)).run prog (w.alloc (.cells (gcells 0 0 0 (.slice none 0 0)).toArray 165))=.ok () (w.alloc (.cells (gcells t l f v).toArray 165)):=by
 rw[(LAt.new 165 w (gcells 0 0 0 (.slice none 0 0))).store (ds:=gcells t l f v) sizeLg rfl (all_oneCell_toArray (gcells_ones hv t l f)),setRow_alloc]
theorem LAt.loadLg {w:World}{g:Nat}{t l f:Int}{v:Value}(h:LAt 165 w g (gcells t l f v)):(Instr.loadAt 165 (.pointer (some ⟨g,0,none⟩))).run prog w=.ok (.agg (gcells t l f v).toArray) w :=
 run_loadAt_mid w g 0 165 (gcells t l f v) _ (LAt.range h) underlying165 rfl sizeLg
theorem LAt.free {t:TypeId}{w:World}{g:Nat}{cs:List Value}(h:LAt t w g cs)(j:Nat):w.frozen? ⟨g,j,none⟩=false:=by
 unfold World.frozen?
 rw[show w.heap[(⟨g,j,none⟩:Addr).block]?=some (.cells cs.toArray t (0,0)) from h]
 simp
theorem infoT:(prog.info? 207).map (fun i=>(i.zero,i.size,i.bytes))=some (some (.agg #[.int .u64 0,.slice none 0 0]),2,32):=by kernel_rfl
theorem zeroT:(prog.info? 207).bind (·.zero)=some (.agg #[.int .u64 0,.slice none 0 0]):=by kernel_rfl
def plT:List (Nat × Nat):=[(0,1),(1,1)]
theorem placesT:placesOf prog 207=some plT:=by kernel_rfl
theorem buildT (w:World)(p:Int)(q:Option Addr)(n m:Nat):(Instr.build 207 #[(0,.int .u64 p),(1,.slice q n m)]).run prog w=.ok (.agg #[.int .u64 p,.slice q n m]) w :=
 run_build w 207 _ _ ((built_of 207 _ _ _ placesT zeroT).trans rfl)
theorem build_tx (w:World)(p:Int)(q:Option Addr)(n m:Nat):(Instr.buildSlice 163 1 #[(0,.agg #[.int .u64 p,.slice q n m])]).run prog w=.ok (.slice (some ⟨w.heap.size,0,none⟩) 1 1) (w.alloc (.cells #[.int .u64 p,.slice q n m] 207)):=by
 obtain ⟨i0,hi,hz0,hz1,hz2⟩:=info_parts infoT
 refine run_buildSlice w 163 207 1 _ _ i0 _ underlying163 hi hz0 (by rw[hz1];decide) (by rw[hz1];decide) ?_
 rw[hz1]
 have hA:∀A:Array Value,A.size=2→Instr.fill (fun i=>some (i*2,2)) A [(0,.agg #[.int .u64 p,.slice q n m])]=some #[.int .u64 p,.slice q n m]:=by
  intro A hA
  have a0:=part_fill 0 [.int .u64 p,.slice q n m] A.toList (by simp;omega)
  simp only[Instr.fill,Value.cells,List.size_toArray,Nat.zero_mul]
  rw[if_neg (by simp[hA])]
  have a0':(#[Value.int .u64 p,.slice q n m]).zipIdx.foldl (fun cs x=>match x with | (c,j)=>cs.setIfInBounds (0+j) c) A=((A.toList.take 0++[Value.int .u64 p,Value.slice q n m]++A.toList.drop (0+2))).toArray:=a0
  rw[a0',List.drop_eq_nil_of_le (by simp[hA])]
  simp
 exact hA _ (by simp)
theorem own_cells {W W':World}(hc:∀(k:Nat) (o:Obj),W.heap[k]?=some o→o.isCells=true→W'.heap[k]?=some o){B:Nat}{e:TypeId}{sz:Nat}{v:Value}{n:Nat}{xs:List Value}(h:W.ownsRow B e sz v n xs):W'.ownsRow B e sz v n xs:=by
 refine⟨h.1,?_⟩
 rcases h.2 with h | ⟨g,cap,cur,h1,h2,h3,h4⟩
 ·exact .inl h
 ·exact .inr ⟨g,cap,cur,h1,h2,hc g _ h3 rfl,h4⟩
theorem XOwn.cells {W W':World}(hc:∀(k:Nat) (o:Obj),W.heap[k]?=some o→o.isCells=true→W'.heap[k]?=some o){e:TypeId}{B:Nat}{v:Value}{l:List TX}{vs:List Value}(h:XOwn e W B v l vs):XOwn e W' B v l vs :=
 ⟨h.len,own_cells hc h.row,fun k t u a b=>own_cells hc (h.each k t u a b),h.wf⟩
structure RdM (w W:World) (Bd Bc Br Bl Bo Bt Be:Nat) (dp:Option Addr) (c:Sup) (t l e:Int) (s:Sc) (v:Value) (vs:List Value) (cv:Value) (Bx:Nat):Prop where
 dk:Boxed W Bd 30 (.pointer dp)
 cf:CAt W Bc c
 rs:LAt 165 W Br (gcells 0 0 0 (.slice none 0 0))
 bt:Boxed W Bt 37 (.int .u64 t)
 be:Boxed W Be 37 (.int .u64 e)
 lg:LAt 165 W Bl (gcells t l s.fin v)
 co:Boxed W Bo 92 cv
 tx:XOwn 207 W w.heap.size v s.txs vs
 im:IOwn W Bx cv s.come
 up:Rise vs Bx
 x0:w.heap.size≤Bx
 x1:Bx≤W.heap.size
 low:Below w.heap.size w W
 ne:Bl≠Br
 l0:w.heap.size≤Bl
 o0:w.heap.size≤Bo
theorem RdM.cells {W W':World}{w:World}{Bd Bc Br Bl Bo Bt Be Bx:Nat}{dp:Option Addr}{c:Sup}{t l e:Int}{s:Sc}{v cv:Value}{vs:List Value}(h:RdM w W Bd Bc Br Bl Bo Bt Be dp c t l e s v vs cv Bx)
  (hc:∀(k:Nat) (o:Obj),W.heap[k]?=some o→o.isCells=true→W'.heap[k]?=some o) (hs:W.heap.size≤W'.heap.size) (hb:Below w.heap.size w W'):RdM w W' Bd Bc Br Bl Bo Bt Be dp c t l e s v vs cv Bx :=
 ⟨hc _ _ h.dk rfl,hc _ _ h.cf rfl,hc _ _ h.rs rfl,hc _ _ h.bt rfl,hc _ _ h.be rfl,hc _ _ h.lg rfl,hc _ _ h.co rfl,h.tx.cells hc,own_cells hc h.im,h.up,h.x0,Nat.le_trans h.x1 hs,hb,h.ne,h.l0,h.o0⟩
theorem RdM.later {w V:World}{Bd Bc Br Bl Bo Bt Be Bx:Nat}{dp:Option Addr}{c:Sup}{t l e:Int}{s:Sc}{v cv:Value}{vs:List Value}{V':World}(h:RdM w V Bd Bc Br Bl Bo Bt Be dp c t l e s v vs cv Bx)(hb:Below V.heap.size V V'):RdM w V' Bd Bc Br Bl Bo Bt Be dp c t l e s v vs cv Bx :=
 h.cells (fun k _ hk _=>(hb.block k (Array.getElem?_eq_some_iff.1 hk).1).trans hk) hb.size (below_then h.low hb)
theorem RdM.own {w:World}{Bd Bc Br Bl Bo Bt Be Bx:Nat}{dp:Option Addr}{c:Sup}{t l e:Int}{s:Sc}{v cv:Value}{vs:List Value}{B:Nat}{β:Type}(hB:w.heap.size≤B):OwnFrom B (fun (_:β) (W:World)=>RdM w W Bd Bc Br Bl Bo Bt Be dp c t l e s v vs cv Bx):=fun _ X Y row hs hg hr =>
 hs.cells (fun _ _ hk hc=>(grownBy_keeps_cells hg (fun r e=>(hr r e).2) hk hc).trans hk) hg.size (ownFrom_below (β:=Unit) (Nat.le_refl _) hB () X Y row hs.low hg hr)
theorem keeps_grown {V V4:World}{B:Nat}{e:TypeId}{sz n:Nat}{v:Value}{xs:List Value}{tmp:Obj}(hrow:V.ownsRow B e sz v n xs)(hgrow:(V.alloc tmp).grownBy V4 v.ownBlock):KeepsOthers V V4:=by
 refine (KeepsOthers.alloc V tmp).trans (KeepsOthers.of_grownBy hgrow fun j o ej hj=>?_)
 rcases (hrow.alloc tmp).2 with ⟨rfl,_⟩ | ⟨g,cap,cur,rfl,_,hgb,_⟩
 ·simp[Value.ownBlock] at ej
 ·obtain rfl:g=j:=by simpa [Value.ownBlock] using ej
  rw[hgb] at hj;cases hj;rfl
theorem rise_ne {vs:List Value}{C:Nat}(h:Rise vs C){w:World}{e:TypeId}{sz n:Nat}{v:Value}{xs:List Value}(hv:w.ownsRow C e sz v n xs):∀u∈vs,u.ownBlock=none∨u.ownBlock≠v.ownBlock:=fun u hu=>by
 cases hub:u.ownBlock with
 | none=>exact .inl rfl
 | some g =>
  refine .inr fun e'=>?_
  have h1:=h.2 u hu g hub
  have h2:=(hv.lt g e'.symm).1
  omega
theorem lat_grown {V V4:World}{B:Nat}{ty e:TypeId}{sz n k:Nat}{v:Value}{xs cs:List Value}{tmp:Obj}(h:LAt ty V k cs)(hne:ty≠e)(hrow:V.ownsRow B e sz v n xs)(hgrow:(V.alloc tmp).grownBy V4 v.ownBlock):LAt ty V4 k cs:=by
 have h':LAt ty (V.alloc tmp) k cs:=(Below.heap_alloc _ _ _ h.lt).trans h
 refine (hgrow.block k h'.lt fun e'=>?_).trans h'
 rcases hrow.2 with ⟨rfl,_⟩ | ⟨g,cap,cur,rfl,_,hgb,_⟩
 ·cases e'
 ·simp only[Value.ownBlock,Option.some.injEq] at e'
  subst e'
  rw[show V.heap[k]?=_ from h] at hgb
  cases hgb
  exact hne rfl
theorem RdM.img {w V:World}{Bd Bc Br Bl Bo Bt Be Bx:Nat}{dp:Option Addr}{c:Sup}{t l e:Int}{s:Sc}{v cv:Value}{vs:List Value}(h:RdM w V Bd Bc Br Bl Bo Bt Be dp c t l e s v vs cv Bx)(i:Im)(hi:i.Wf)(hl:s.come.length≤64) :
  ∃v' V4,(Builtin.append_ #[92,92] 92 #[cv,.slice (some ⟨V.heap.size,0,none⟩) 1 1]).run prog (V.alloc (.cells (icells i).toArray 155))=.ok v' V4∧Boxed V4 Bo 92 cv∧RdM w (V4.setCell ⟨Bo,0,none⟩ v') Bd Bc Br Bl Bo Bt Be dp c t l e ⟨s.txs,s.fin,s.come++[i]⟩ v vs v' Bx∧KeepsOthers V (V4.setCell ⟨Bo,0,none⟩ v'):=by
 obtain ⟨i0,hi0,hz0,hz1,hz2⟩:=info_parts infoI
 have h65:(65:Nat)≤maxLen:=by decide
 have hcl:=h.x1
 obtain ⟨v',V4,hrun,hown',hgrow,-⟩:=run_append_own (P:=prog) (V.alloc (.cells (icells i).toArray 155)) Bx 92 92 155 i0 _ 33 40 underlying92 hi0 hz0 hz1 hz2 rfl (by decide) cv s.come.length (IC s.come) (h.im.alloc _) ⟨V.heap.size,0,none⟩ 1 1 (icells i) (by rw[icells_len hi.len]) (fun j u hu=>by
  rw[Addr.add_mid,Nat.zero_add,LAt.cell (LAt.new 155 V (icells i)) j];exact hu) (icells_ones i) (by omega) (by omega) (by simp;omega)
 have hco:Boxed V4 Bo 92 cv:=(h.co.alloc _).kept hgrow (h.co.not_row (by decide) h.im)
 have gs:=grownBy_setCell' V4 Bo v'
 refine⟨v',V4,hrun,hco,⟨?_,?_,?_,?_,?_,?_,hco.set v',?_,?_,h.up,h.x0,?_,?_,h.ne,h.l0,h.o0⟩,(keeps_grown h.im hgrow).trans (KeepsOthers.setCell _ _ _)⟩
 ·exact ((h.dk.alloc _).kept hgrow (h.dk.not_row (by decide) h.im)).other (fun e=>by have:=h.dk;rw[e] at this;have:=this.symm.trans h.co;simp at this) _
 ·exact LAt.setO (lat_grown h.cf (by decide) h.im hgrow) 0 v' (fun e=>by have:=h.cf;rw[e] at this;have:=this.symm.trans h.co;simp[ccells] at this)
 ·exact LAt.setO (lat_grown h.rs (by decide) h.im hgrow) 0 v' (fun e=>by have:=h.rs;rw[e] at this;have:=this.symm.trans h.co;simp[gcells] at this)
 ·exact ((h.bt.alloc _).kept hgrow (h.bt.not_row (by decide) h.im)).other (fun e=>by have:=h.bt;rw[e] at this;have:=this.symm.trans h.co;simp at this) _
 ·exact ((h.be.alloc _).kept hgrow (h.be.not_row (by decide) h.im)).other (fun e=>by have:=h.be;rw[e] at this;have:=this.symm.trans h.co;simp at this) _
 ·exact LAt.setO (lat_grown h.lg (by decide) h.im hgrow) 0 v' (fun e=>by have:=h.lg;rw[e] at this;have:=this.symm.trans h.co;simp[gcells] at this)
 ·have x1:=(h.tx.later (below_alloc V _)).kept hgrow (own_ne h.tx.row h.im (by decide)) (rise_ne h.up h.im)
  refine x1.kept gs ?_ (fun u hu=>?_)
  ·exact .inr (hco.not_row (by decide) x1.row).symm
  ·obtain ⟨k,hk,rfl⟩:=List.getElem_of_mem hu
   have hk':k<s.txs.length:=by rw[← x1.len];exact hk
   exact .inr (hco.not_row (by decide) (x1.each k s.txs[k] vs[k] (List.getElem?_eq_getElem hk') (List.getElem?_eq_getElem hk))).symm
 ·rw[IOwn,IC_snoc,List.length_append,List.length_singleton]
  exact hown'.kept gs (.inr (hco.not_row (by decide) hown').symm)
 ·have:=hgrow.size
  simp at this ⊢
  omega
 ·refine Below.setCell (p:=⟨Bo,0,none⟩) ?_ h.o0 v'
  exact (below_then h.low (below_alloc V _)).grown hgrow (by have:=h.low.size;simp;omega) fun j ej=>Nat.le_trans h.x0 (h.im.lt j ej).1
theorem RdM.com {w V:World}{Bd Bc Br Bl Bo Bt Be Bx:Nat}{dp:Option Addr}{c:Sup}{t l e:Int}{s:Sc}{v cv:Value}{vs:List Value}(h:RdM w V Bd Bc Br Bl Bo Bt Be dp c t l e s v vs cv Bx)(p:Int)(hp:u64 p)(hl:s.txs.length≤64)(hcw:ImsWf s.come)(q:Option Addr)(k m:Nat)(hcv:cv=.slice q k m) :
  ∃v' V4,(Builtin.append_ #[163,163] 163 #[v,.slice (some ⟨V.heap.size,0,none⟩) 1 1]).run prog (V.alloc (.cells #[.int .u64 p,cv] 207))=.ok v' V4∧LAt 165 V4 Bl (gcells t l s.fin v)∧Boxed V4 Bo 92 cv∧RdM w (((V4.setCell ⟨Bl,3,none⟩ v').setCell ⟨Bl,2,none⟩ (.int .u64 (p+1))).setCell ⟨Bo,0,none⟩ (.slice none 0 0)) Bd Bc Br Bl Bo Bt Be dp c t l e ⟨s.txs++[⟨p,s.come⟩],p+1,[]⟩ v' (vs++[cv]) (.slice none 0 0) (((V4.setCell ⟨Bl,3,none⟩ v').setCell ⟨Bl,2,none⟩ (.int .u64 (p+1))).setCell ⟨Bo,0,none⟩ (.slice none 0 0)).heap.size∧KeepsOthers V (((V4.setCell ⟨Bl,3,none⟩ v').setCell ⟨Bl,2,none⟩ (.int .u64 (p+1))).setCell ⟨Bo,0,none⟩ (.slice none 0 0)):=by
 obtain ⟨i0,hi0,hz0,hz1,hz2⟩:=info_parts infoT
 have h65:(65:Nat)≤maxLen:=by decide
 have hcl:=h.low.size
 obtain ⟨v',V4,hrun,hown',hgrow,-⟩:=run_append_own (P:=prog) (V.alloc (.cells #[.int .u64 p,cv] 207)) w.heap.size 163 163 207 i0 _ 2 32 underlying163 hi0 hz0 hz1 hz2 rfl (by decide) v s.txs.length _ (h.tx.row.alloc _) ⟨V.heap.size,0,none⟩ 1 1 [.int .u64 p,cv] rfl (fun j u hu=>by
  rw[Addr.add_mid,Nat.zero_add];exact (LAt.cell (LAt.new 207 V [.int .u64 p,cv]) j).trans hu) (fun u hu=>by
  simp only[List.mem_cons,List.not_mem_nil,or_false] at hu
  rcases hu with rfl | rfl
  ·rfl
  ·rw[hcv];rfl) (by omega) (by omega) (by simp;omega)
 have hco:Boxed V4 Bo 92 cv:=(h.co.alloc _).kept hgrow (h.co.not_row (by decide) h.tx.row)
 have hlg:LAt 165 V4 Bl (gcells t l s.fin v):=lat_grown h.lg (by decide) h.tx.row hgrow
 have nlo:Bl≠Bo:=fun e=>by have:=h.lg;rw[e] at this;have:=this.symm.trans h.co;simp[gcells] at this
 have boxo:∀{k ty u},ty≠165→ty≠92→ty≠207→Boxed V k ty u→Boxed (((V4.setCell ⟨Bl,3,none⟩ v').setCell ⟨Bl,2,none⟩ (.int .u64 (p+1))).setCell ⟨Bo,0,none⟩ (.slice none 0 0)) k ty u:=by
  intro k ty u h1 h2 h3 hb
  have n1:k≠Bl:=fun e=>by subst e;have:=hb.symm.trans h.lg;simp only[Option.some.injEq,Obj.cells.injEq] at this;exact h1 this.2.1
  have n2:k≠Bo:=fun e=>by subst e;have:=hb.symm.trans h.co;simp only[Option.some.injEq,Obj.cells.injEq] at this;exact h2 this.2.1
  have hb4:Boxed V4 k ty u:=(hb.alloc _).kept hgrow (hb.not_row h3 h.tx.row)
  refine ((heap_setCell_other _ ⟨Bo,0,none⟩ k _ n2).trans ((heap_setCell_other _ ⟨Bl,2,none⟩ k _ n1).trans ((heap_setCell_other _ ⟨Bl,3,none⟩ k _ n1).trans hb4)))
 have lato:∀{k ty cs},k≠Bl→k≠Bo→ty≠207→LAt ty V k cs→LAt ty (((V4.setCell ⟨Bl,3,none⟩ v').setCell ⟨Bl,2,none⟩ (.int .u64 (p+1))).setCell ⟨Bo,0,none⟩ (.slice none 0 0)) k cs:=by
  intro k ty cs n1 n2 h3 hb
  exact LAt.setO (LAt.setO (LAt.setO (lat_grown hb h3 h.tx.row hgrow) 3 v' n1) 2 _ n1) 0 _ n2
 have rowo:∀{C ty sz n u xs},ty≠165→ty≠92→V4.ownsRow C ty sz u n xs→(((V4.setCell ⟨Bl,3,none⟩ v').setCell ⟨Bl,2,none⟩ (.int .u64 (p+1))).setCell ⟨Bo,0,none⟩ (.slice none 0 0)).ownsRow C ty sz u n xs:=by
  intro C ty sz n u xs h1 h2 hr
  refine⟨hr.1,?_⟩
  rcases hr.2 with hr | ⟨g,cap,cur,e1,e2,e3,e4⟩
  ·exact .inl hr
  ·have n1:g≠Bl:=fun e=>by subst e;have:=e3.symm.trans hlg;simp only[Option.some.injEq,Obj.cells.injEq] at this;exact h1 this.2.1
   have n2:g≠Bo:=fun e=>by subst e;have:=e3.symm.trans hco;simp only[Option.some.injEq,Obj.cells.injEq] at this;exact h2 this.2.1
   exact .inr ⟨g,cap,cur,e1,e2,((heap_setCell_other _ ⟨Bo,0,none⟩ g _ n2).trans ((heap_setCell_other _ ⟨Bl,2,none⟩ g _ n1).trans ((heap_setCell_other _ ⟨Bl,3,none⟩ g _ n1).trans e3))),e4⟩
 have x4:∀(j:Nat) (y:TX) (u:Value),s.txs[j]?=some y→vs[j]?=some u→IOwn V4 w.heap.size u y.ims:=fun j y u a b =>
  ((h.tx.each j y u a b).alloc _).kept hgrow (own_ne (h.tx.each j y u a b) h.tx.row (by decide))
 have hsz:V.heap.size≤V4.heap.size:=by have:=hgrow.size;simp at this;omega
 refine⟨v',V4,hrun,hlg,hco,⟨boxo (by decide) (by decide) (by decide) h.dk,lato ?_ ?_ (by decide) h.cf,lato h.ne.symm ?_ (by decide) h.rs,boxo (by decide) (by decide) (by decide) h.bt,boxo (by decide) (by decide) (by decide) h.be,?_,?_,?_,World.ownsRow_nil _ _ _ _,?_,?_,Nat.le_refl _,?_,h.ne,h.l0,h.o0⟩,?_⟩
 ·exact fun e=>by have:=h.cf;rw[e] at this;have:=this.symm.trans h.lg;simp[ccells,gcells] at this
 ·exact fun e=>by have:=h.cf;rw[e] at this;have:=this.symm.trans h.co;simp[ccells] at this
 ·exact fun e=>by have:=h.rs;rw[e] at this;have:=this.symm.trans h.co;simp[gcells] at this
 ·exact LAt.setO (LAt.set (LAt.set hlg 3 v') 2 (.int .u64 (p+1))) 0 _ nlo
 ·exact Boxed.set _ (show Boxed _ _ _ _ from (heap_setCell_other _ ⟨Bl,2,none⟩ Bo _ nlo.symm).trans ((heap_setCell_other _ ⟨Bl,3,none⟩ Bo _ nlo.symm).trans hco))
 ·refine⟨by rw[List.length_append,List.length_append,h.tx.len];rfl,?_,fun j y u a b=>?_,h.tx.wf.snoc ⟨hp,hcw⟩⟩
  ·rw[List.map_append,List.zip_append (by rw[List.length_map,h.tx.len]),List.length_append]
   show World.ownsRow _ _ _ _ _ _ (TC ((s.txs.map (·.p)).zip vs++[(p,cv)]))
   rw[TC_snoc]
   exact rowo (by decide) (by decide) hown'
  ·by_cases cj:j<s.txs.length
   ·rw[List.getElem?_append_left cj] at a
    rw[List.getElem?_append_left (by rw[h.tx.len];exact cj)] at b
    exact rowo (by decide) (by decide) (x4 j y u a b)
   ·have hj:j=s.txs.length:=by
     have:=(List.getElem?_eq_some_iff.1 a).1
     simp only[List.length_append,List.length_singleton] at this
     omega
    subst hj
    rw[List.getElem?_append_right (Nat.le_refl _),Nat.sub_self] at a
    rw[← h.tx.len,List.getElem?_append_right (Nat.le_refl _),Nat.sub_self] at b
    cases a;cases b
    exact rowo (by decide) (by decide) (own_at ((h.im.alloc _).kept hgrow (own_ne h.im h.tx.row (by decide))) (fun k hk=>Nat.le_trans h.x0 (h.im.lt k hk).1) rfl)
 ·refine (h.up.snoc (fun g hg=>(h.im.lt g hg).1) (fun g hg=>(h.im.lt g hg).2) h.x1).mono ?_
  simpa using hsz
 ·have:=h.low.size;simp;omega
 ·refine Below.setCell (p:=⟨Bo,0,none⟩) (Below.setCell (p:=⟨Bl,2,none⟩) (Below.setCell (p:=⟨Bl,3,none⟩) ?_ h.l0 v') h.l0 _) h.o0 _
  exact (below_then h.low (below_alloc V _)).grown hgrow (by have:=h.low.size;simp;omega) fun j ej=>(h.tx.row.lt j ej).1
 ·exact ((keeps_grown h.tx.row hgrow).trans (KeepsOthers.setCell _ _ _)).trans ((KeepsOthers.setCell _ _ _).trans (KeepsOthers.setCell _ _ _))
end Go.Proofs.YtdadpepfpiimgaaGreatDoor
