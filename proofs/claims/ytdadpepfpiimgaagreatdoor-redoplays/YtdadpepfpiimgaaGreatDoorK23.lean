import Derived.Test.YtdadpepfpiimgaaGreatDoorK22
set_option maxHeartbeats 20000000
set_option maxRecDepth 100000
namespace Go.Proofs.YtdadpepfpiimgaaGreatDoor
open Go.RowKit
structure LW where
 s:Int
 q:Option Addr
 n:Nat
 c:Nat
 b:List Int
structure WIn (w:World) (p:Option Addr) (n:Nat) (l:List LW):Prop where
 len:l.length=n
 cells:0<n→∃b o,p=some ⟨b,o,none⟩∧∀(k:Nat) (t:LW),l[k]?=some t→w.cell? ⟨b,o+k*2,none⟩=some (.int .i64 t.s)∧w.cell? ⟨b,o+k*2+1,none⟩=some (.slice t.q t.n t.c)∧BIn w t.q t.n t.b
end Go.Proofs.YtdadpepfpiimgaaGreatDoor
