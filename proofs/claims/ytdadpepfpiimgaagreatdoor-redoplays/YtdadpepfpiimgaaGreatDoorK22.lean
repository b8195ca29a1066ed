import Derived.Test.YtdadpepfpiimgaaGreatDoorK19
set_option maxHeartbeats 20000000
set_option maxRecDepth 100000
namespace Go.Proofs.YtdadpepfpiimgaaGreatDoor
open Go.Proofs.Tryz
open Go.RowKit
theorem write_bad {w:World}{S:Nat→Prop}{p n:Nat}{d:List Int}{ws:List Wr}(h:Dsk w S p n d ws)(i:Int)(v:Value)(hi:i<0∨(n:Int)≤i):Calls prog 64 #[.pointer (some ⟨p,0,none⟩),.int .i64 i,v] w fun e w'=>e=.returned (.int .i64 40)∧w=w':=by
 obtain ⟨q,cap,v,h⟩:=h
 have h0:=h.cell0
 clear h
 go_enter func64,ntmps64
 go_wp2_with fail
 refine (refuses_any i w p n q cap h0).mono ?_
 rintro e w1 ⟨rfl,rfl⟩
 rw[refS,if_neg (by omega)]
 go_wp2
 go_ret
 exact⟨rfl,rfl⟩
def wrE (n:Nat)(i:Int):Int:=if i<0∨(n:Int)≤i then 40 else 0
def wrU (n:Nat)(ws:List Wr)(i:Int)(b:List Int):List Wr:=if i<0∨(n:Int)≤i then ws else ws++[⟨i.toNat,b⟩]
theorem wrU_length (n:Nat)(ws:List Wr)(i:Int)(b:List Int):(wrU n ws i b).length≤ws.length+1:=by unfold wrU;split <;> simp
theorem write64 {w:World}{S:Nat→Prop}{p n:Nat}{d:List Int}{ws:List Wr}(h:Dsk w S p n d ws)(i:Int)(a:Option Addr)(c:Nat)(b:List Int)(hb:BIn w a 64 b)(hk:ws.length≤100000):Calls prog 64 #[.pointer (some ⟨p,0,none⟩),.int .i64 i,.slice a 64 c] w fun e w'=>e=.returned (.int .i64 (wrE n i))∧Dsk w' (More S w) p n d (wrU n ws i b)∧Kept S w w':=by
 by_cases hi:i<0∨(n:Int)≤i
 ·refine (write_bad h i _ hi).mono ?_
  rintro e w' ⟨rfl,rfl⟩
  unfold wrE wrU
  rw[if_pos hi,if_pos hi]
  exact⟨rfl,h.mono (fun _ _ hs=>.inl hs),Kept.refl _ _⟩
 ·refine (write_at h i (by omega) (by omega) a c b hb hk).mono ?_
  rintro e w' ⟨rfl,hd,hk⟩
  unfold wrE wrU
  rw[if_neg hi,if_neg hi]
  exact⟨rfl,hd,hk⟩
theorem rwrite64 {w:World}{S:Nat→Prop}{p n:Nat}{d:List Int}{ws:List Wr}(h:Ref w S p n d ws)(i:Int)(a:Option Addr)(c:Nat)(b:List Int)(hb:BIn w a 64 b)(hk:ws.length≤100000):Calls prog 32 #[.pointer (some ⟨p,0,none⟩),.int .i64 i,.slice a 64 c] w fun e w'=>e=.returned (.int .i64 (wrE n i))∧Ref w' (More S w) p n d (wrU n ws i b)∧Kept S w w':=by
 by_cases hi:i<0∨(n:Int)≤i
 ·refine (rwrite_bad h i _ hi).mono ?_
  rintro e w' ⟨rfl,rfl⟩
  unfold wrE wrU
  rw[if_pos hi,if_pos hi]
  exact⟨rfl,h.mono (fun _ _ hs=>.inl hs),Kept.refl _ _⟩
 ·refine (rwrite_at h i (by omega) (by omega) a c b hb hk).mono ?_
  rintro e w' ⟨rfl,hd,hk⟩
  unfold wrE wrU
  rw[if_neg hi,if_neg hi]
  exact⟨rfl,hd,hk⟩
end Go.Proofs.YtdadpepfpiimgaaGreatDoor
