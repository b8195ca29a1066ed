import Derived.Test.YtdadpepfpiimgaaGreatDoorK21
import Derived.Test.YtdadpepfpiimgaaGreatDoorK23
import Derived.ProofKit
import Derived.LaidMore
import Derived.OpenShut
import Derived.Stop.Joined
import Derived.Stop.LaidErr
import Derived.Lib.LaidTab
import Derived.ShutString
set_option maxHeartbeats 20000000
set_option maxRecDepth 100000
namespace Go.Proofs.YtdadpepfpiimgaaGreatDoor.Q
open Go.Proofs.Tryz
open Go.RowKit
section
variable {w0 w:World} {X:List Kd} {i j P p n:Nat} {q:Option Nat} {D:Dd} {x:Rc}
theorem lg_new {c:Sup}(h:MayC c):rdL c (cntS c) (newest [] (newS c))=(⟨0,1,0,[]⟩,0):=by
 have hb:=h.1;have hl:=h.2.1
 refine rdL_new h (by rw[newest_nil];exact newS_sup c) (s:=⟨[],0,[]⟩) (scRun_off (st_blank ?_))
 rw[newest_nil,Int.zero_emod]
 exact newS_log c _ (by omega) (by unfold cntS;omega)
abbrev n7:Nat:=cntS sm
abbrev D7:Dd:=⟨newS sm,[]⟩
theorem st1:stepS n7 (r0 sm) D7=⟨⟨19,-1,zv,0,0⟩,0,⟨sm,3,0,1,[]⟩,D7⟩:=by
 have e:=lg_new sm_may
 have el:lgS n7 sm D7=⟨0,1,0,[]⟩:=by unfold lgS;exact congrArg Prod.fst e
 have e2:(rdL sm n7 D7.rd).2=0:=congrArg Prod.snd e
 have hw:¬wrapS sm (lgS n7 sm D7):=by rw[el];decide
 rw[step_read rfl (by unfold rdE;rw[if_pos e2,if_neg hw])]
 unfold readR
 rw[el];rfl
theorem st2:stepS n7 ⟨sm,3,0,1,[]⟩ D7=⟨⟨12,-1,zv,0,0⟩,0,⟨sm,4,0,1,[]⟩,D7⟩:=step_flush rfl
abbrev D8:Dd:=D7.wr 0 (encS (supN ⟨sm,4,0,1,[]⟩))
theorem st3:stepS n7 ⟨sm,4,0,1,[]⟩ D7=⟨⟨16,-1,zv,4,0⟩,0,⟨sm,5,0,1,[]⟩,D8⟩:=step_mark rfl
theorem st4:stepS n7 ⟨sm,5,0,1,[]⟩ D8=⟨⟨20,-1,zv,4,0⟩,0,⟨sm,6,0,1,[]⟩,D8.fls⟩:=step_end rfl
theorem st5:stepS n7 ⟨sm,6,0,1,[]⟩ D8.fls=⟨⟨0,0,zv,0,0⟩,190,⟨sm,6,0,1,[]⟩,D8.fls⟩:=step_over rfl
theorem ok1:(r0 sm).Ok n7:=start_ok sm_may (cntS_is sm_may)
theorem ok2:(⟨sm,3,0,1,[]⟩:Rc).Ok n7:=⟨sm_may,cntS_is sm_may,by decide,by decide,ImsWf.nil,fun _ h=>(by cases h),by decide,by decide,by decide,by decide,by decide,by decide,by decide,by decide⟩
theorem ok3:(⟨sm,4,0,1,[]⟩:Rc).Ok n7:=ok2.go (by decide) (by decide) (by decide)
theorem ok4:(⟨sm,5,0,1,[]⟩:Rc).Ok n7:=ok2.go (by decide) (by decide) (by decide)
theorem ok5:(⟨sm,6,0,1,[]⟩:Rc).Ok n7:=ok2.go (by decide) (by decide) (by decide)
theorem Fz.keeprow (h:Fz w0 w X){r:Rw}(hr:r.val.length=32):∃w1 w2,(Instr.alloc 42 true (.tuple #[])).run prog w=.ok (qp w.heap.size) w1∧(Instr.storeAt 42 (qp w.heap.size) (.agg (rowc r).toArray)).run prog w1=.ok () w2∧Fz w0 w2 (kb w.heap.size 42 (rowc r) :: X):=by
 obtain ⟨w1,e1,_,h1⟩:=h.rowbox
 obtain ⟨ha,_,_,hl⟩:=h1.atb (i:=0) rfl
 exact⟨w1,_,e1,store_row ha (rowc_len (zs_len 32)) (rowc_len hr) (rowc_one r),hl (rowc r)⟩
theorem loadRow {W:World}{B:Nat}{r:Rw}(hr:r.val.length=32)(h:LAt 42 W B (rowc r)):(Instr.loadAt 42 (.pointer (some ⟨B,0,none⟩))).run prog W=.ok (.agg (rowc r).toArray) W:=run_loadAt_mid W B 0 42 (rowc r) _ (LAt.range h) underlying42 rfl (by rw[size_row,rowc_len hr])
theorem build_row4 (w:World)(k:Int):(Instr.build 42 #[(0,.int .i64 k),(4,.int .i64 (-1))]).run prog w=.ok (.agg (rowc ⟨k,-1,zv,0,0⟩).toArray) w:=run_build w 42 _ _ (by kernel_rfl)
theorem fixed_is (ht:Tab w):Calls prog 6 #[] w fun e w'=>e=.returned (.bool true)∧Below w.heap.size w w':=by
 have F0:Hid (Fz w w []):=Fz.start w
 go_enter func6,ntmps6
 go_wp2_with fail
 refine (small_is _).mono ?_
 rintro e w1 ⟨rfl,hb⟩
 have F0':Hid (Fz w w1 []):=F0.out.later hb
 clear hb F0
 go_wp2_with fail
 refine (hnew_good sm sm_may _ (F0'.out.tab ht)).mono ?_
 rintro e w2 ⟨p,rfl,hd,hb⟩
 have F1:Hid (Fz w w2 [kd p n7 D7]):=F0'.out.newd hb hd
 clear hb hd F0'
 go_wp2_with fail
 refine (small_is _).mono ?_
 rintro e w3 ⟨rfl,hb⟩
 have F1':Hid (Fz w w3 [kd p n7 D7]):=F1.out.later hb
 clear hb F1
 go_wp2_with fail
 refine (new_ok (j:=0) sm sm_may F1'.out rfl (cntS_is sm_may)).mono ?_
 rintro e w4 ⟨P,rfl,hd⟩
 have F2:Hid (Fz w w4 [kr P (some p) (r0 sm),kd p n7 D7]):=hd
 clear hd F1'
 go_wp2_with fail
 refine (small_is _).mono ?_
 rintro e w5 ⟨rfl,hb⟩
 have F2':Hid (Fz w w5 [kr P (some p) (r0 sm),kd p n7 D7]):=F2.out.later hb
 clear hb F2
 go_wp2_with fail
 refine (new_none sm F2'.out).mono ?_
 rintro e w6 ⟨rfl,hd⟩
 have G0:Hid (Fz w w6 [kr P (some p) (r0 sm),kd p n7 D7]):=hd
 clear hd F2'
 go_wp2_with fail
 refine (state_at (i:=0) G0.out rfl).mono ?_
 rintro e w' ⟨rfl,hw'⟩
 rw[hw']
 clear hw' w'
 go_wp2_with fail
 refine (step_at (i:=0) (j:=1) ht G0.out rfl rfl (by decide) ok1 (by decide)).mono ?_
 rintro e v1 ⟨rfl,hd⟩
 rw[st1] at hd
 rw[st1]
 obtain ⟨a1,b1,hal,hst,hk⟩:=Fz.keeprow (r:=⟨19,-1,zv,0,0⟩) hd (zs_len 32)
 obtain ⟨R1,hR⟩:∃B,v1.heap.size=B:=⟨_,rfl⟩
 rw[hR] at hal hst hk
 have HAL:Hid (_):=hal
 have HST:Hid (_):=hst
 have G1:Hid (Fz w b1 [kb R1 42 (rowc ⟨19,-1,zv,0,0⟩),kr P (some p) ⟨sm,3,0,1,[]⟩,kd p n7 D7]):=hk
 clear hd hk hal hst hR G0
 go_wp2_with ((with_reducible refine at_ops ?_);(first | (refine wpList_alloc_is (by rfl) 42 rfl HAL.out ?_) | (refine wpList_store_is (by rfl) 42 rfl rfl rfl HST.out ?_));simp only[Act.put,zA,zB,zC])
 clear HAL HST
 go_wp2_with fail
 refine (step_at (i:=1) (j:=2) ht G1.out rfl rfl (by decide) ok2 (by decide)).mono ?_
 rintro e v2 ⟨rfl,hd⟩
 rw[st2] at hd
 rw[st2]
 obtain ⟨a2,b2,hal,hst,hk⟩:=Fz.keeprow (r:=⟨12,-1,zv,0,0⟩) hd (zs_len 32)
 obtain ⟨R2,hR⟩:∃B,v2.heap.size=B:=⟨_,rfl⟩
 rw[hR] at hal hst hk
 have HAL:Hid (_):=hal
 have HST:Hid (_):=hst
 have G2:Hid (Fz w b2 [kb R2 42 (rowc ⟨12,-1,zv,0,0⟩),kb R1 42 (rowc ⟨19,-1,zv,0,0⟩),kr P (some p) ⟨sm,4,0,1,[]⟩,kd p n7 D7]):=hk
 clear hd hk hal hst hR G1
 go_wp2_with ((with_reducible refine at_ops ?_);(first | (refine wpList_alloc_is (by rfl) 42 rfl HAL.out ?_) | (refine wpList_store_is (by rfl) 42 rfl rfl rfl HST.out ?_));simp only[Act.put,zA,zB,zC])
 clear HAL HST
 go_wp2_with fail
 refine (step_at (i:=2) (j:=3) ht G2.out rfl rfl (by decide) ok3 (by decide)).mono ?_
 rintro e v3 ⟨rfl,hd⟩
 rw[st3] at hd
 rw[st3]
 obtain ⟨a3,b3,hal,hst,hk⟩:=Fz.keeprow (r:=⟨16,-1,zv,4,0⟩) hd (zs_len 32)
 obtain ⟨R3,hR⟩:∃B,v3.heap.size=B:=⟨_,rfl⟩
 rw[hR] at hal hst hk
 have HAL:Hid (_):=hal
 have HST:Hid (_):=hst
 have G3:Hid (Fz w b3 [kb R3 42 (rowc ⟨16,-1,zv,4,0⟩),kb R2 42 (rowc ⟨12,-1,zv,0,0⟩),kb R1 42 (rowc ⟨19,-1,zv,0,0⟩),kr P (some p) ⟨sm,5,0,1,[]⟩,kd p n7 D8]):=hk
 clear hd hk hal hst hR G2
 go_wp2_with ((with_reducible refine at_ops ?_);(first | (refine wpList_alloc_is (by rfl) 42 rfl HAL.out ?_) | (refine wpList_store_is (by rfl) 42 rfl rfl rfl HST.out ?_));simp only[Act.put,zA,zB,zC])
 clear HAL HST
 go_wp2_with fail
 refine (step_at (i:=3) (j:=4) ht G3.out rfl rfl (by decide) ok4 (by decide)).mono ?_
 rintro e v4 ⟨rfl,hd⟩
 rw[st4] at hd
 rw[st4]
 obtain ⟨a4,b4,hal,hst,hk⟩:=Fz.keeprow (r:=⟨20,-1,zv,4,0⟩) hd (zs_len 32)
 obtain ⟨R4,hR⟩:∃B,v4.heap.size=B:=⟨_,rfl⟩
 rw[hR] at hal hst hk
 have HAL:Hid (_):=hal
 have HST:Hid (_):=hst
 have G4:Hid (Fz w b4 [kb R4 42 (rowc ⟨20,-1,zv,4,0⟩),kb R3 42 (rowc ⟨16,-1,zv,4,0⟩),kb R2 42 (rowc ⟨12,-1,zv,0,0⟩),kb R1 42 (rowc ⟨19,-1,zv,0,0⟩),kr P (some p) ⟨sm,6,0,1,[]⟩,kd p n7 D8.fls]):=hk
 clear hd hk hal hst hR G3
 go_wp2_with ((with_reducible refine at_ops ?_);(first | (refine wpList_alloc_is (by rfl) 42 rfl HAL.out ?_) | (refine wpList_store_is (by rfl) 42 rfl rfl rfl HST.out ?_));simp only[Act.put,zA,zB,zC])
 clear HAL HST
 go_wp2_with fail
 refine (step_at (i:=4) (j:=5) ht G4.out rfl rfl (by decide) ok5 (by decide)).mono ?_
 rintro e v5 ⟨rfl,hd⟩
 rw[st5] at hd
 rw[st5]
 obtain ⟨a5,b5,hal,hst,hk⟩:=Fz.keeprow (r:=⟨0,0,zv,0,0⟩) hd (zs_len 32)
 obtain ⟨R5,hR⟩:∃B,v5.heap.size=B:=⟨_,rfl⟩
 rw[hR] at hal hst hk
 have HAL:Hid (_):=hal
 have HST:Hid (_):=hst
 have G5:Hid (Fz w b5 [kb R5 42 (rowc ⟨0,0,zv,0,0⟩),kb R4 42 (rowc ⟨20,-1,zv,4,0⟩),kb R3 42 (rowc ⟨16,-1,zv,4,0⟩),kb R2 42 (rowc ⟨12,-1,zv,0,0⟩),kb R1 42 (rowc ⟨19,-1,zv,0,0⟩),kr P (some p) ⟨sm,6,0,1,[]⟩,kd p n7 D8.fls]):=hk
 clear hd hk hal hst hR G4
 go_wp2_with ((with_reducible refine at_ops ?_);(first | (refine wpList_alloc_is (by rfl) 42 rfl HAL.out ?_) | (refine wpList_store_is (by rfl) 42 rfl rfl rfl HST.out ?_));simp only[Act.put,zA,zB,zC])
 clear HAL HST
 go_wp2_with fail
 refine (result_at (i:=5) G5.out rfl).mono ?_
 rintro e u0 ⟨rfl,hd⟩
 have K0:Hid (Fz w u0 [kb R5 42 (rowc ⟨0,0,zv,0,0⟩),kb R4 42 (rowc ⟨20,-1,zv,4,0⟩),kb R3 42 (rowc ⟨16,-1,zv,4,0⟩),kb R2 42 (rowc ⟨12,-1,zv,0,0⟩),kb R1 42 (rowc ⟨19,-1,zv,0,0⟩),kr P (some p) ⟨sm,6,0,1,[]⟩,kd p n7 D8.fls]):=hd
 clear hd G5
 have HLD:Hid (_):=loadRow (zs_len 32) (K0.out.atb (i:=4) rfl).1
 have HBD:Hid (_):=build_row4 u0 19
 go_wp2_with ((with_reducible refine at_ops ?_);(first | (refine wpList_load_is (by rfl) 42 rfl rfl HLD.out ?_) | (refine wpList_build_is (vs:=[(0,.int .i64 19),(4,.int .i64 (-1))]) (by rfl) 42 rfl (by rfl) HBD.out ?_));simp only[Act.put,zA,zB,zC])
 refine (sameRow_eq ⟨19,-1,zv,0,0⟩ (zs_len 32) _).mono ?_
 rintro e u1 ⟨rfl,hb⟩
 have K1:Hid (Fz w u1 [kb R5 42 (rowc ⟨0,0,zv,0,0⟩),kb R4 42 (rowc ⟨20,-1,zv,4,0⟩),kb R3 42 (rowc ⟨16,-1,zv,4,0⟩),kb R2 42 (rowc ⟨12,-1,zv,0,0⟩),kb R1 42 (rowc ⟨19,-1,zv,0,0⟩),kr P (some p) ⟨sm,6,0,1,[]⟩,kd p n7 D8.fls]):=K0.out.later hb
 clear hb K0 HLD HBD
 have HLD:Hid (_):=loadRow (zs_len 32) (K1.out.atb (i:=3) rfl).1
 have HBD:Hid (_):=build_row4 u1 12
 go_wp2_with ((with_reducible refine at_ops ?_);(first | (refine wpList_load_is (by rfl) 42 rfl rfl HLD.out ?_) | (refine wpList_build_is (vs:=[(0,.int .i64 12),(4,.int .i64 (-1))]) (by rfl) 42 rfl (by rfl) HBD.out ?_));simp only[Act.put,zA,zB,zC])
 refine (sameRow_eq ⟨12,-1,zv,0,0⟩ (zs_len 32) _).mono ?_
 rintro e u2 ⟨rfl,hb⟩
 have K2:Hid (Fz w u2 [kb R5 42 (rowc ⟨0,0,zv,0,0⟩),kb R4 42 (rowc ⟨20,-1,zv,4,0⟩),kb R3 42 (rowc ⟨16,-1,zv,4,0⟩),kb R2 42 (rowc ⟨12,-1,zv,0,0⟩),kb R1 42 (rowc ⟨19,-1,zv,0,0⟩),kr P (some p) ⟨sm,6,0,1,[]⟩,kd p n7 D8.fls]):=K1.out.later hb
 clear hb K1 HLD HBD
 have HLD:Hid (_):=loadRow (zs_len 32) (K2.out.atb (i:=2) rfl).1
 have HBD:Hid (_):=build_row6 u2 16 4
 go_wp2_with ((with_reducible refine at_ops ?_);(first | (refine wpList_load_is (by rfl) 42 rfl rfl HLD.out ?_) | (refine wpList_build_is (vs:=[(0,.int .i64 16),(4,.int .i64 (-1)),(6,.int .u64 4)]) (by rfl) 42 rfl (by rfl) HBD.out ?_));simp only[Act.put,zA,zB,zC])
 refine (sameRow_eq ⟨16,-1,zv,4,0⟩ (zs_len 32) _).mono ?_
 rintro e u3 ⟨rfl,hb⟩
 have K3:Hid (Fz w u3 [kb R5 42 (rowc ⟨0,0,zv,0,0⟩),kb R4 42 (rowc ⟨20,-1,zv,4,0⟩),kb R3 42 (rowc ⟨16,-1,zv,4,0⟩),kb R2 42 (rowc ⟨12,-1,zv,0,0⟩),kb R1 42 (rowc ⟨19,-1,zv,0,0⟩),kr P (some p) ⟨sm,6,0,1,[]⟩,kd p n7 D8.fls]):=K2.out.later hb
 clear hb K2 HLD HBD
 have HLD:Hid (_):=loadRow (zs_len 32) (K3.out.atb (i:=1) rfl).1
 have HBD:Hid (_):=build_row6 u3 20 4
 go_wp2_with ((with_reducible refine at_ops ?_);(first | (refine wpList_load_is (by rfl) 42 rfl rfl HLD.out ?_) | (refine wpList_build_is (vs:=[(0,.int .i64 20),(4,.int .i64 (-1)),(6,.int .u64 4)]) (by rfl) 42 rfl (by rfl) HBD.out ?_));simp only[Act.put,zA,zB,zC])
 refine (sameRow_eq ⟨20,-1,zv,4,0⟩ (zs_len 32) _).mono ?_
 rintro e u4 ⟨rfl,hb⟩
 have K4:Hid (Fz w u4 [kb R5 42 (rowc ⟨0,0,zv,0,0⟩),kb R4 42 (rowc ⟨20,-1,zv,4,0⟩),kb R3 42 (rowc ⟨16,-1,zv,4,0⟩),kb R2 42 (rowc ⟨12,-1,zv,0,0⟩),kb R1 42 (rowc ⟨19,-1,zv,0,0⟩),kr P (some p) ⟨sm,6,0,1,[]⟩,kd p n7 D8.fls]):=K3.out.later hb
 clear hb K3 HLD HBD
 go_wp2_with fail
 refine (state_at (i:=5) K4.out rfl).mono ?_
 rintro e w' ⟨rfl,hw'⟩
 rw[hw']
 clear hw' w'
 go_wp2_with fail
 refine (left_at (i:=5) K4.out rfl (by decide)).mono ?_
 rintro e u5 ⟨v,rfl,hd⟩
 obtain ⟨t,G,rfl,ho,-⟩:=hd.at (i:=0) rfl
 obtain ⟨av,cv,ev,-⟩:=IOwn.in ho ImsWf.nil
 have HZ:Hid (Below w.heap.size w u5):=hd.below
 subst ev
 clear ho hd K4
 go_wp2
 go_ret
 exact⟨rfl,HZ.out⟩
end
end Go.Proofs.YtdadpepfpiimgaaGreatDoor.Q
namespace Go.Proofs.YtdadpepfpiimgaaGreatDoor.Q
open Go.RowKit
open Go.ChangeShapes Go.WideShapes Go.ChangeAt Go.Deep
theorem ownK:ownKnob Tryz.prog.godebug=none:=by kernel_rfl
theorem gHalves : Tryz.prog.globalNamed "wicket/sum.halves" = some 1 := by kernel_rfl
theorem tHalves:(Tryz.prog.globals[1]?).map (·.type)=some 238:=by kernel_rfl
theorem gFields : Tryz.prog.globalNamed "wicket/super.fields" = some 0 := by kernel_rfl
theorem tFields:(Tryz.prog.globals[0]?).map (·.type)=some 175:=by kernel_rfl
theorem cells38:Tryz.prog.cellsOf 178=1:=by kernel_rfl
theorem cells78:Tryz.prog.cellsOf 238=16:=by kernel_rfl
theorem cells62:Tryz.prog.cellsOf 174=2:=by kernel_rfl
theorem cells3:Tryz.prog.cellsOf 3=1:=by kernel_rfl
def zs16:List Int:=[0,498536548,997073096,651767980,1994146192,1802195444,1303535960,1342533948,3988292384,4027552580,3604390888,3412177804,2607071920,2262029012,2685067896,3183342108]
theorem zs16_table:∀i,i<16→zs16[i]?=some ((table.getD i 0:Nat):Int):=by decide
abbrev laidS : List (String × DataW Unit) := [("wicket/sum.halves", Rows.laid_wicket_sum_halves), ("wicket/super.fields", Rows.laid_wicket_super_fields)]
theorem door_met (os:Os)(args:Array Value):laidMetH Tryz.prog laidS ((World.doorLaid Tryz.prog 400 os).forCall (fun _ _=>0) ⟨#[],args,[]⟩).memory :=
 laidMetH_of_parts3 (fuel:=8) (laidMet_of_run' 8 (by kernel_rfl) (by kernel_rfl)) (by kernel_rfl) (by kernel_rfl)
def pairD {H:Type}(a k:Nat):DataW H:=.agg [.lit (.int .i64 (a:Int)),.lit (.int .i64 (k:Int))]
theorem drop_one {α:Type}(l:List α)(i:Nat)(v:α)(h:(l.drop i).take 1=[v]):l[i]?=some v:=by
 have e:((l.drop i).take 1)[0]?=some v:=by rw[h];rfl
 rw[List.getElem?_take,if_pos (by omega),List.getElem?_drop] at e
 exact e
theorem pair_of {H:Type}{enc:TypeId × Value→H}{W:World}{b:Nat}{sp:Nat→Bool}{held:Bool}{m:Nat}{cs:List Value}{p:List MemPlace}{a k:Nat}(h:DataW.trod enc Tryz.prog W b sp held m 174 cs=some (pairD a k,p)) :
  cs[0]?=some (.int .i64 (a:Int))∧cs[1]?=some (.int .i64 (k:Int)):=by
 obtain ⟨xs,n,_,e,_,hxl,hg⟩:=DataW.trod_struct Tryz.underlying174 h
 have hxl2:xs.length=2:=hxl
 have g0:DataW.trod enc Tryz.prog W b sp held n 3 ((cs.drop 0).take (Tryz.prog.cellsOf 3))=xs[0]?:=hg 0 _ rfl
 have g1:DataW.trod enc Tryz.prog W b sp held n 3 ((cs.drop 1).take (Tryz.prog.cellsOf 3))=xs[1]?:=hg 1 _ rfl
 rw[cells3,List.getElem?_eq_getElem (by omega)] at g0 g1
 obtain ⟨a0,e0,d0,_⟩:=DataW.trod_int Tryz.underlying3 g0
 obtain ⟨a1,e1,d1,_⟩:=DataW.trod_int Tryz.underlying3 g1
 have f0:=drop_one _ _ _ e0
 have f1:=drop_one _ _ _ e1
 have ed:=congrArg Prod.fst e
 match xs,hxl2 with
 | [y0,y1],_ =>
  simp only[List.getElem_cons_zero,List.getElem_cons_succ] at d0 d1
  rw[d0,d1] at ed
  simp[pairD] at ed
  rw[f0,f1,ed.1,ed.2]
  exact⟨rfl,rfl⟩
def fdata {H:Type}:List (DataW H):=[pairD 6 1,pairD 8 1,pairD 9 1,pairD 10 1,pairD 11 1,pairD 12 1,pairD 16 8,pairD 24 8]
theorem fdata_at {H:Type}(i:Nat)(h:i<8):(fdata (H:=H))[i]?=some (pairD (fa.getD i 0) (fw.getD i 0)):=by
 have:i=0∨i=1∨i=2∨i=3∨i=4∨i=5∨i=6∨i=7:=by omega
 rcases this with rfl | rfl | rfl | rfl | rfl | rfl | rfl | rfl <;> rfl
theorem flds_of {H:Type}{enc:TypeId × Value→H}{W:World}{b:Nat}{sp:Nat→Bool}{held:Bool}{m:Nat}{cs:List Value}{p:List MemPlace}(h:DataW.trod enc Tryz.prog W b sp held m 175 cs=some (.agg fdata,p))(i:Nat)(hi:i<8) :
  cs[2*i]?=some (.int .i64 ((fa.getD i 0:Nat):Int))∧cs[2*i+1]?=some (.int .i64 ((fw.getD i 0:Nat):Int)):=by
 obtain ⟨xs,m',_,e,_,hxl,hf⟩:=DataW.trod_array Tryz.underlying175 h
 have e1:fdata=xs.map (·.1):=by
  have:=congrArg Prod.fst e
  injection this
 have g:=hf i hi
 rw[cells62] at g
 have hx:(xs.map (·.1))[i]?=some (pairD (fa.getD i 0) (fw.getD i 0)):=by rw[← e1];exact fdata_at i hi
 rw[List.getElem?_map] at hx
 obtain ⟨y,hy,hy1⟩:=Option.map_eq_some_iff.1 hx
 rw[hy] at g
 obtain ⟨d,pp⟩:=y
 simp only at hy1
 subst hy1
 have hp:=pair_of g
 rw[List.getElem?_take,if_pos (by omega),List.getElem?_drop,List.getElem?_take,if_pos (by omega),List.getElem?_drop] at hp
 rw[show i*2+0=2*i by omega,show i*2+1=2*i+1 by omega] at hp
 exact hp
theorem tab_of {W:World}(h:laidMetH Tryz.prog laidS W):Tab W:=by
 rw[MakeChecks.laidMetH_plain _ _ _ (by kernel_rfl)] at h
 have h' : laidMet Tryz.prog [("wicket/sum.halves", Lib.tabData .u32 zs16), ("wicket/super.fields", .agg fdata)] W := h
 refine⟨?_,?_⟩
 ·have hT:=Lib.tabIs_of_head gHalves tHalves Tryz.underlying238 Tryz.underlying178 cells38 cells78 h'
  intro i hi
  rw[World.var?_cell gHalves hT i]
  have:=zs16_table i hi
  simp[this]
 ·obtain ⟨ps,⟨g',t',cs,fuel,p,q,hg',ht',hvar,hd,_,_⟩,_⟩:=h'.tail
  obtain rfl:=Option.some.inj (gFields.symm.trans hg')
  obtain rfl:=Option.some.inj (tFields.symm.trans ht')
  intro i hi
  have hf:=flds_of hd i hi
  rw[World.var?_cell gFields hvar (2*i),World.var?_cell gFields hvar (2*i+1)]
  simpa using hf
end Go.Proofs.YtdadpepfpiimgaaGreatDoor.Q
namespace Go.Proofs.YtdadpepfpiimgaaGreatDoor.Q
open Go.Proofs.Tryz
open Go.RowKit
section
variable {w0 w w':World} {X:List Kd} {i j P p n:Nat}
def Th.byt (v:Value)(bs:List Int):Th:=⟨fun w _=>w.ownsRow 0 5 1 v bs.length (U8 bs),fun b=>v.ownBlock=some b,fun _ _ b h hb=>(World.ownsRow.lt h b hb).2,fun _ _ _ _ _ h hk hf _ _=>own_same h fun k e=>hk.block k (World.ownsRow.lt h k e).2 (hf k e)⟩
def ky (v:Value)(bs:List Int):Kd:=fun t=>t=Th.byt v bs
def fil (xs:List Int):List Int:=(xs++List.replicate 64 0).take 64
theorem wpList_append2_is {P:Program}{ops:Array Oper}{Q:Exit→Act→World→Prop}{rest:List Oper}{o:Oper}{a:Act}(hgd:Region.wanted o (yielded ops a.tmps)=true){s x:Operand}{t t2 ty:TypeId}(ho:o.op=.call { callee:=.builtin .append,args:=#[s,x],argTypes:=#[t,t2] })(hty:o.type=ty){u1 u2 v:Value}(hs:a.eval s=u1)(hx:a.eval x=u2)(hrun:(Builtin.append_ #[t,t2] ty #[u1,u2]).run P w=.ok v w')(h:wpList P ops Q rest (a.put o.dst v) w'):wpList P ops Q (o :: rest) a w :=
 wpList_val hgd (by subst hty;simp[execOp,ho,resolve,invoke,builtin,hs,hx,hrun,Result.andThen]) h
theorem app_bytes {a:Option Addr}{m c:Nat}{xs:List Int}(h:BIn w a m xs)(hn:a=none→m=0∧c=0)(hm:m+64≤140737488355328):∃g cp w1,(Builtin.append_ #[27,27] 27 #[.slice (some ⟨w.heap.size,0,none⟩) 0 0,.slice a m c]).run prog (w.alloc (.cells #[] 5))=.ok (.slice (some ⟨g,0,none⟩) m cp) w1∧w1.ownsRow w.heap.size 5 1 (.slice (some ⟨g,0,none⟩) m cp) m (U8 xs)∧Below w.heap.size w w1:=by
 obtain ⟨i0,hi,hz0,hz1,hz2⟩:=info_parts info5
 have hE:(w.alloc (.cells #[] 5)).ownsRow w.heap.size 5 1 (.slice (some ⟨w.heap.size,0,none⟩) 0 0) 0 []:=World.ownsRow_made w #[] 0 (Nat.le_refl _) (Nat.zero_le _) rfl
 have hX:=h.later (below_alloc w (.cells #[] 5))
 cases a with
 | none =>
  obtain ⟨rfl,rfl⟩:=hn rfl
  have hx:xs=[]:=List.length_eq_zero_iff.1 h.len
  subst hx
  exact⟨_,_,_,run_append_owned_none (P:=prog) _ w.heap.size 27 27 5 i0 1 underlying27 hi _ 0 [] hE,hE,below_alloc w _⟩
 | some ad =>
  obtain ⟨v',w1,hr,ho,hg,h4⟩:=run_append_own (P:=prog) (w.alloc (.cells #[] 5)) w.heap.size 27 27 5 i0 _ 1 1 underlying27 hi hz0 hz1 hz2 rfl (by decide) _ 0 [] hE ad m c (U8 xs) (by rw[U8_length,h.len];omega) hX.news (ones_u8 _) (by unfold maxLen;omega) (by omega) (by simp)
  rw[Nat.zero_add,List.nil_append] at ho
  have hb:Below w.heap.size w w1:=((Below.refl _ _).alloc (Nat.le_refl _) _).grown hg (by simp) (fun k hk=>by cases hk;exact Nat.le_refl _)
  obtain ⟨p,cap,rfl,hpn,hsm⟩:=own_slice ho
  cases p with
  | none =>
   obtain ⟨e1,e2⟩:=hpn rfl
   subst e1 e2
   have:=h4.1 rfl
   simp at this
  | some ad' =>
   obtain ⟨g,rfl⟩:=hsm ad' rfl
   exact⟨g,cap,w1,hr,ho,hb⟩
theorem app_zeros {B g m c:Nat}{xs:List Int}(h:w.ownsRow B 5 1 (.slice (some ⟨g,0,none⟩) m c) m (U8 xs))(hB:B≤w.heap.size)(hm:m+64≤140737488355328):∃g2 c2 w1,(Builtin.append_ #[27,3] 27 #[.slice (some ⟨g,0,none⟩) m c,.int .i64 64]).run prog w=.ok (.slice (some ⟨g2,0,none⟩) (m+64) c2) w1∧w1.ownsRow B 5 1 (.slice (some ⟨g2,0,none⟩) (m+64) c2) (m+64) (U8 (xs++List.replicate 64 0))∧m+64≤c2∧w.grownBy w1 (some g):=by
 obtain ⟨i0,hi,hz0,hz1,hz2⟩:=info_parts info5
 obtain ⟨v,w1,hr,ho,hg⟩:=run_append_zeros_own (P:=prog) w B 27 3 27 5 i0 (.int .u8 0) 1 .i64 .i64 underlying27 underlying3 hi hz0 hz1 hz2 rfl rfl g m c (U8 xs) h 64 (by omega) (by unfold maxLen;omega) (by omega) hB
 obtain ⟨g2,c2,rfl,hc⟩:=own_shape ho (by omega)
 refine⟨g2,c2,w1,hr,?_,hc,hg⟩
 rw[show U8 (xs++List.replicate 64 0)=U8 xs++List.replicate 64 (Value.int .u8 0) by simp[U8]]
 exact ho
theorem fill_run {a:Option Addr}{m c:Nat}{xs:List Int}(h:BIn w a m xs)(hn:a=none→m=0∧c=0)(hm:m+64≤140737488355328):∃g5 c5 w5 g9 c9 w9,(Builtin.append_ #[27,27] 27 #[.slice (some ⟨w.heap.size,0,none⟩) 0 0,.slice a m c]).run prog (w.alloc (.cells #[] 5))=.ok (.slice (some ⟨g5,0,none⟩) m c5) w5∧(Builtin.append_ #[27,3] 27 #[.slice (some ⟨g5,0,none⟩) m c5,.int .i64 64]).run prog w5=.ok (.slice (some ⟨g9,0,none⟩) (m+64) c9) w9∧m+64≤c9∧BIn w9 (some ⟨g9,0,none⟩) 64 (fil xs)∧w.heap.size≤g9∧Below w.heap.size w w9:=by
 obtain ⟨g5,c5,w5,r5,o5,b5⟩:=app_bytes h hn hm
 obtain ⟨g9,c9,w9,r9,o9,hc,hg⟩:=app_zeros o5 b5.size hm
 refine⟨g5,c5,w5,g9,c9,w9,r5,r9,hc,?_,(World.ownsRow.lt o9 g9 rfl).1,b5.grown hg b5.size (fun k hk=>by cases hk;exact (World.ownsRow.lt o5 _ rfl).1)⟩
 exact BIn.take (n:=m+64) (own_bin (base:=w.heap.size) (cap:=c9) o9 (h.byte.append (fun q hq=>by rw[List.eq_of_mem_replicate hq];decide))) 64 (by omega)
end
section
variable {w0 w w':World} {X:List Kd} {i j P p n:Nat} {D:Dd}
def hcl (c:Sup)(more:Int)(a:Option Addr)(m cp:Nat):List Value:=[.int .i64 c.bl,.int .i64 c.lc,.int .i64 c.mr,.int .i64 c.hi,.int .i64 c.cl,.int .i64 more,.slice a m cp]
structure SIn (w:World) (p:Option Addr) (n:Nat) (l:List LW):Prop where
 win:WIn w p n l
 non:∀t∈l,t.q=none→t.n=0∧t.c=0
 few:∀t∈l,t.n+64≤140737488355328
theorem SIn.at {a:Option Addr}{m:Nat}{l:List LW}(h:SIn w a m l)(hb:Below w.heap.size w w'){k:Nat}(hk:k<m):∃b o t,a=some ⟨b,o,none⟩∧l[k]?=some t∧w'.cell? ⟨b,o+k*2,none⟩=some (.int .i64 t.s)∧w'.cell? ⟨b,o+k*2+1,none⟩=some (.slice t.q t.n t.c)∧BIn w' t.q t.n t.b∧(t.q=none→t.n=0∧t.c=0)∧t.n+64≤140737488355328∧b<w.heap.size:=by
 obtain ⟨b,o,e,hc⟩:=h.win.cells (by omega)
 have hl:k<l.length:=by rw[h.win.len];exact hk
 obtain ⟨c0,c1,hB⟩:=hc k l[k] (List.getElem?_eq_getElem hl)
 have hlt:b<w.heap.size:=World.block_lt_of_cell? w _ c0
 have hm:=List.getElem_mem hl
 exact⟨b,o,l[k],e,List.getElem?_eq_getElem hl,by rw[hb.cell (p:=⟨b,o+k*2,none⟩) hlt];exact c0,by rw[hb.cell (p:=⟨b,o+k*2+1,none⟩) hlt];exact c1,hB.later hb,h.non _ hm,h.few _ hm,hlt⟩
theorem hcl_cfg {W:World}{B:Nat}{c:Sup}{more:Int}{a:Option Addr}{m cp:Nat}(h:LAt 26 W B (hcl c more a m cp)):(Instr.loadAt 23 (.pointer (some ⟨B,0,none⟩))).run prog W=.ok (.agg (ccells c).toArray) W :=
 run_loadAt_mid W B 0 23 (ccells c) _ (fun j u hu=>by
  have hj:j<5:=(List.getElem?_eq_some_iff.1 hu).1
  rw[LAt.cell h (0+j),Nat.zero_add]
  match j,hj with
  | 0,_=>exact hu
  | 1,_=>exact hu
  | 2,_=>exact hu
  | 3,_=>exact hu
  | 4,_=>exact hu) underlying23 rfl (by kernel_rfl)
theorem hcl5 {W:World}{B:Nat}{c:Sup}{more:Int}{a:Option Addr}{m cp:Nat}(h:LAt 26 W B (hcl c more a m cp)):W.cell? ⟨B,5,none⟩=some (.int .i64 more):=by rw[LAt.cell h 5];rfl
theorem hcl6 {W:World}{B:Nat}{c:Sup}{more:Int}{a:Option Addr}{m cp:Nat}(h:LAt 26 W B (hcl c more a m cp)):W.cell? ⟨B,6,none⟩=some (.slice a m cp):=by rw[LAt.cell h 6];rfl
theorem r_write (h:Fz w0 w X)(hj:X[j]?=some (ke p n D))(hk:D.ws.length≤100000)(i:Int){a:Option Addr}{c:Nat}{b:List Int}(hb:BIn w a 64 b):Calls prog 32 #[qp p,.int .i64 i,.slice a 64 c] w fun e w'=>e=.returned (.int .i64 (wrE n i))∧Fz w0 w' (X.set j (ke p n ⟨D.d,wrU n D.ws i b⟩)):=by
 obtain ⟨S,hd,_,hl⟩:=h.ate hj
 refine (rwrite64 hd i a c b hb hk).mono ?_
 rintro e w' ⟨rfl,h1,h2⟩
 exact⟨rfl,hl w' _ ⟨D.d,wrU n D.ws i b⟩ h1 h2 fun _ a=>a⟩
theorem r_flush (h:Fz w0 w X)(hj:X[j]?=some (ke p n D))(hk:D.ws.length≤100000):Calls prog 33 #[qp p] w fun e w'=>e=.returned (.int .i64 D.ws.length)∧Fz w0 w' (X.set j (ke p n D.fls)):=by
 obtain ⟨S,hd,hlt,hl⟩:=h.ate hj
 refine (rflush_any hd hk hlt).mono ?_
 rintro e w' ⟨rfl,h1,h2⟩
 exact⟨rfl,hl w' S D.fls h1 h2 fun _ a=>.inl a⟩
theorem Fz.durable (h:Fz w0 w X)(hj:X[j]?=some (ke p n D)):∃g cap,w.cell? ⟨p,0,none⟩=some (.slice (some ⟨g,0,none⟩) (64*n) cap)∧w.ownsRow w0.heap.size 5 1 (.slice (some ⟨g,0,none⟩) (64*n) cap) (64*n) (U8 D.d)∧64*n≤cap:=by
 obtain ⟨t,G,⟨S,rfl⟩,ha,hf,-⟩:=h.at hj
 obtain ⟨g,L,cap,v,vs,hp⟩:=ha.1
 have hL:=hp.hL
 subst hL
 have hlo:w0.heap.size≤g:=(hf g hp.sg).1
 have hd:=own_at hp.dur (C:=w0.heap.size) (fun k hk=>by simp only[Value.ownBlock,Option.some.injEq] at hk;omega) rfl
 refine⟨g,cap,by rw[cell_of_row _ _ _ _ _ _ hp.str];rfl,hd,?_⟩
 rcases hd.2 with ⟨e,_⟩ | ⟨g',cap',cur,e,_,_,hc,_⟩
 ·cases e
 ·cases e;exact hc
theorem own_cut {B g n k cap:Nat}{bs:List Int}(h:w.ownsRow B 5 1 (.slice (some ⟨g,0,none⟩) n cap) n (U8 bs))(hk:k≤n):w.ownsRow B 5 1 (.slice (some ⟨g,0,none⟩) k cap) k (U8 (bs.take k)):=by
 have hl:=h.1
 rcases h.2 with ⟨e,_⟩ | ⟨g',cap',cur,e,h0,hg,h1,h2,h3,h4⟩
 ·cases e
 ·cases e
  refine⟨by rw[U8_length,List.length_take];rw[U8_length] at hl;omega,.inr ⟨g,cap,cur,rfl,h0,hg,by omega,h2,h3,?_⟩⟩
  rw[show U8 (bs.take k)=(U8 bs).take (k*1) by simp[U8,List.map_take],← h4,List.take_take,Nat.min_eq_left (by omega)]
theorem image_no (c:Sup)(hc:¬MayC c)(more:Int)(a:Option Addr)(m cp:Nat):Calls prog 7 #[.agg (hcl c more a m cp).toArray] w fun e w'=>e=.returned (.slice none 0 0)∧Below w.heap.size w w':=by
 have h1:=(Fz.start w).newa (hcl c more a m cp) 26
 obtain ⟨B,hB⟩:∃B,w.heap.size=B:=⟨_,rfl⟩
 rw[hB] at h1
 have HC:Hid (_):=hcl_cfg (h1.atb (i:=0) rfl).1
 have H1:Hid (Fz w (w.alloc (.cells (hcl c more a m cp).toArray 26)) [kb B 26 (hcl c more a m cp)]):=h1
 clear h1
 go_enter func7,ntmps7
 go_wp2_with ((with_reducible refine at_ops ?_);(refine wpList_load_is (by rfl) 23 rfl rfl HC.out ?_);simp only[Act.put,zA,zB,zC])
 refine (rnew8_bad c hc _).mono ?_
 rintro e w2 ⟨rfl,hb⟩
 have HZ:Hid (Below w.heap.size w w2):=(H1.out.later hb).below
 clear hb H1 HC
 go_wp2
 go_ret
 exact⟨rfl,HZ.out⟩
theorem image_is (c:Sup)(hc:MayC c)(more:Int){a:Option Addr}{m cp:Nat}{l:List LW}(hS:SIn w a m l)(hm:m≤140737488355328):Calls prog 7 #[.agg (hcl c more a m cp).toArray] w fun e w'=>∃g cap k bs,e=.returned (.slice (some ⟨g,0,none⟩) (64*k) cap)∧w'.ownsRow w.heap.size 5 1 (.slice (some ⟨g,0,none⟩) (64*k) cap) (64*k) (U8 bs)∧bs.length=64*k∧Bytes bs∧64*k≤cap∧3≤k∧k≤130∧Below w.heap.size w w':=by
 have h1:=(Fz.start w).newa (hcl c more a m cp) 26
 obtain ⟨B,hB⟩:∃B,w.heap.size=B:=⟨_,rfl⟩
 rw[hB] at h1
 have HC:Hid (_):=hcl_cfg (h1.atb (i:=0) rfl).1
 have H1:Hid (Fz w (w.alloc (.cells (hcl c more a m cp).toArray 26)) [kb B 26 (hcl c more a m cp)]):=h1
 have HSI:Hid (SIn w a m l):=hS
 have HCN:Hid (4≤cntS c∧cntS c≤129):=cntS_bd hc
 clear h1 hS
 go_enter func7,ntmps7
 go_wp2_with ((with_reducible refine at_ops ?_);(refine wpList_load_is (by rfl) 23 rfl rfl HC.out ?_);simp only[Act.put,zA,zB,zC])
 refine (rnew8_good c hc _).mono ?_
 rintro e w2 ⟨p,rfl,hd,hb⟩
 have H2:Hid (Fz w w2 [ke p (cntS c) ⟨newS c,[]⟩,kb B 26 (hcl c more a m cp)]):=H1.out.newe hb hd
 clear hb hd H1 HC
 go_wp2_with fail
 go_loopw [5] (fun i wr=>∃(k:Nat) (ws:List Wr),i=.int .i64 k∧k≤m∧k≤200∧ws.length≤k∧Hid (Fz w wr [ke p (cntS c) ⟨newS c,ws⟩,kb B 26 (hcl c more a m cp)])) (fun i _=>m-(intOf i).toNat)
 case atStart=>exact⟨0,[],rfl,by omega,by omega,by simp,H2⟩
 case round =>
  obtain ⟨k,ws,rfl,hkm,hk2,hwl,HF⟩:=hrel
  have c6:=hcl6 (HF.out.atb (i:=1) rfl).1
  by_cases hlt:k<m∧k<200
  ·have k1:(k:Int)<(m:Int):=by omega
   have k2:(k:Int)<200:=by omega
   have k0:(0:Int)≤(k:Int):=by omega
   have F2:Hid (Fz w (wr.alloc (.cells #[] 5)) [ke p (cntS c) ⟨newS c,ws⟩,kb B 26 (hcl c more a m cp)]):=HF.out.later (below_alloc _ _)
   have d6:=hcl6 (F2.out.atb (i:=1) rfl).1
   obtain ⟨b,o,t,ea,et,s0,s1,hB1,hn1,hf1,hbl⟩:=HSI.out.at F2.out.below hlt.1
   subst ea
   obtain ⟨b',o',t',ea',et',-,-,hB0,-⟩:=HSI.out.at HF.out.below hlt.1
   rw[et] at et'
   cases et'
   obtain ⟨g5,c5,w5,g9,c9,w9,r5,r9,hc9,hY,hg9,hb9⟩:=fill_run hB0 hn1 hf1
   have HA5:Hid (_):=r5
   have HA9:Hid (_):=r9
   have HY9:Hid (BIn w9 (some ⟨g9,0,none⟩) 64 (fil t.b)):=hY
   have F9:Hid (Fz w w9 [ke p (cntS c) ⟨newS c,ws⟩,kb B 26 (hcl c more (some ⟨b,o,none⟩) m cp)]):=HF.out.later hb9
   have e6:=hcl6 (F9.out.atb (i:=1) rfl).1
   obtain ⟨b2,o2,t2,ea2,et2,u0,-⟩:=HSI.out.at F9.out.below hlt.1
   cases ea2
   rw[et] at et2
   cases et2
   clear r5 r9 hY hb9 hB0 hB1 F2 HF ea'
   go_wp2_with ((with_reducible refine at_ops ?_);(first | (refine wpList_append_is (by rfl) rfl rfl rfl rfl HA5.out ?_) | (refine wpList_append2_is (by rfl) rfl rfl rfl rfl HA9.out ?_));simp only[Act.put,zA,zB,zC])
   refine (r_write (j:=0) F9.out rfl (by show ws.length≤100000;omega) t.s HY9.out).mono ?_
   rintro e wn ⟨rfl,hd⟩
   have FN:Hid (Fz w wn [ke p (cntS c) ⟨newS c,wrU (cntS c) ws t.s (fil t.b)⟩,kb B 26 (hcl c more (some ⟨b,o,none⟩) m cp)]):=hd
   clear hd F9 e6 u0 HA5 HA9 HY9
   go_wp2_with fail
   go_roundw
   case rel=>exact⟨k+1,_,by congr 1,by omega,by omega,Nat.le_trans (wrU_length _ _ _ _) (by omega),FN⟩
   case measure=>simp[intOf];omega
  ·have HNL:Hid (¬(k<m∧k<200)):=hlt
   have hg1:¬((k:Int)<(m:Int))∨((k:Int)<(m:Int)∧¬(k:Int)<200):=by omega
   rcases hg1 with hg1 | ⟨hg0,hg1⟩
   ·go_wp2_with fail
    refine (r_flush (j:=0) HF.out rfl (by show ws.length≤100000;omega)).mono ?_
    rintro e wf ⟨rfl,hd⟩
    have FF:Hid (Fz w wf [ke p (cntS c) (Dd.fls ⟨newS c,ws⟩),kb B 26 (hcl c more a m cp)]):=hd
    have hok:=FF.out.eok (j:=0) rfl
    have HDB:Hid (Bytes (Dd.fls ⟨newS c,ws⟩).d∧(Dd.fls ⟨newS c,ws⟩).d.length=64*cntS c):=⟨hok.db,hok.dl⟩
    obtain ⟨g,cap,cg,hog,hcap⟩:=FF.out.durable (j:=0) rfl
    have c5:=hcl5 (FF.out.atb (i:=1) rfl).1
    have HOG:Hid (wf.ownsRow w.heap.size 5 1 (.slice (some ⟨g,0,none⟩) (64*cntS c) cap) (64*cntS c) (U8 (Dd.fls ⟨newS c,ws⟩).d)):=hog
    have HBF:Hid (Below w.heap.size w wf):=FF.out.below
    generalize (Dd.fls ⟨newS c,ws⟩).d=bs at *
    generalize cntS c=cn at *
    obtain ⟨cn4,cn129⟩:=HCN.out
    clear hd hok hog FF HF c6
    obtain ⟨g3,c3,w3,r3,o3,hc3,hg3⟩:=app_zeros HOG.out HBF.out.size (by omega)
    have HA3:Hid (_):=r3
    have HO3:Hid (w3.ownsRow w.heap.size 5 1 (.slice (some ⟨g3,0,none⟩) (64*(cn+1)) c3) (64*(cn+1)) (U8 (bs++List.replicate 64 0))):=o3
    have HB3:Hid (Below w.heap.size w w3):=HBF.out.grown hg3 HBF.out.size (fun k hk=>by cases hk;exact (World.ownsRow.lt HOG.out _ rfl).1)
    have HBY:Hid (Bytes (bs++List.replicate 64 0)):=HDB.out.1.append (fun q hq=>by rw[List.eq_of_mem_replicate hq];decide)
    clear r3 o3 hg3 H2 HCN HSI HNL hlt hkm hk2 hwl hm hc
    go_upto_region 12 with fail
    generalize (RowKit.wrap64 (more.tmod 5+5)).tmod 5=T at *
    by_cases h3:T=3
    ·subst h3
     go_wp2_with ((with_reducible refine at_ops ?_);(refine wpList_append2_is (by rfl) rfl rfl rfl rfl HA3.out ?_);simp only[Act.put,zA,zB,zC])
     go_ret
     exact⟨g3,c3,cn+1,_,rfl,HO3.out,by rw[List.length_append,HDB.out.2,List.length_replicate];omega,HBY.out,by omega,by omega,by omega,HB3.out⟩
    ·have n3:(T == 3)=false:=by simp[h3]
     by_cases h4:T=4
     ·subst h4
      go_wp2
      rw[show 64*cn-64=64*(cn-1) by omega]
      go_ret
      exact⟨g,cap,cn-1,bs.take (64*(cn-1)),rfl,own_cut HOG.out (by omega),by rw[List.length_take,HDB.out.2];omega,HDB.out.1.take _,by omega,by omega,by omega,HBF.out⟩
     ·have n4:(T == 4)=false:=by simp[h4]
      go_wp2
      go_ret
      exact⟨g,cap,cn,bs,rfl,HOG.out,HDB.out.2,HDB.out.1,hcap,by omega,by omega,HBF.out⟩
   ·go_wp2_with fail
    refine (r_flush (j:=0) HF.out rfl (by show ws.length≤100000;omega)).mono ?_
    rintro e wf ⟨rfl,hd⟩
    have FF:Hid (Fz w wf [ke p (cntS c) (Dd.fls ⟨newS c,ws⟩),kb B 26 (hcl c more a m cp)]):=hd
    have hok:=FF.out.eok (j:=0) rfl
    have HDB:Hid (Bytes (Dd.fls ⟨newS c,ws⟩).d∧(Dd.fls ⟨newS c,ws⟩).d.length=64*cntS c):=⟨hok.db,hok.dl⟩
    obtain ⟨g,cap,cg,hog,hcap⟩:=FF.out.durable (j:=0) rfl
    have c5:=hcl5 (FF.out.atb (i:=1) rfl).1
    have HOG:Hid (wf.ownsRow w.heap.size 5 1 (.slice (some ⟨g,0,none⟩) (64*cntS c) cap) (64*cntS c) (U8 (Dd.fls ⟨newS c,ws⟩).d)):=hog
    have HBF:Hid (Below w.heap.size w wf):=FF.out.below
    generalize (Dd.fls ⟨newS c,ws⟩).d=bs at *
    generalize cntS c=cn at *
    obtain ⟨cn4,cn129⟩:=HCN.out
    clear hd hok hog FF HF c6
    obtain ⟨g3,c3,w3,r3,o3,hc3,hg3⟩:=app_zeros HOG.out HBF.out.size (by omega)
    have HA3:Hid (_):=r3
    have HO3:Hid (w3.ownsRow w.heap.size 5 1 (.slice (some ⟨g3,0,none⟩) (64*(cn+1)) c3) (64*(cn+1)) (U8 (bs++List.replicate 64 0))):=o3
    have HB3:Hid (Below w.heap.size w w3):=HBF.out.grown hg3 HBF.out.size (fun k hk=>by cases hk;exact (World.ownsRow.lt HOG.out _ rfl).1)
    have HBY:Hid (Bytes (bs++List.replicate 64 0)):=HDB.out.1.append (fun q hq=>by rw[List.eq_of_mem_replicate hq];decide)
    clear r3 o3 hg3 H2 HCN HSI HNL hlt hkm hk2 hwl hm hc
    go_upto_region 12 with fail
    generalize (RowKit.wrap64 (more.tmod 5+5)).tmod 5=T at *
    by_cases h3:T=3
    ·subst h3
     go_wp2_with ((with_reducible refine at_ops ?_);(refine wpList_append2_is (by rfl) rfl rfl rfl rfl HA3.out ?_);simp only[Act.put,zA,zB,zC])
     go_ret
     exact⟨g3,c3,cn+1,_,rfl,HO3.out,by rw[List.length_append,HDB.out.2,List.length_replicate];omega,HBY.out,by omega,by omega,by omega,HB3.out⟩
    ·have n3:(T == 3)=false:=by simp[h3]
     by_cases h4:T=4
     ·subst h4
      go_wp2
      rw[show 64*cn-64=64*(cn-1) by omega]
      go_ret
      exact⟨g,cap,cn-1,bs.take (64*(cn-1)),rfl,own_cut HOG.out (by omega),by rw[List.length_take,HDB.out.2];omega,HDB.out.1.take _,by omega,by omega,by omega,HBF.out⟩
     ·have n4:(T == 4)=false:=by simp[h4]
      go_wp2
      go_ret
      exact⟨g,cap,cn,bs,rfl,HOG.out,HDB.out.2,HDB.out.1,hcap,by omega,by omega,HBF.out⟩
end
end Go.Proofs.YtdadpepfpiimgaaGreatDoor.Q
namespace Go.Proofs.YtdadpepfpiimgaaGreatDoor.Q
open Go.RowKit
theorem step_ws (n:Int)(x:Rc)(D:Dd):(stepS n x D).D.ws.length≤D.ws.length+1:=by
 unfold stepS
 split
 ·split <;> (show D.ws.length≤_;omega)
 ·split
  ·split
   ·show D.ws.length≤_;omega
   ·show (D.ws++[_]).length≤_;simp
  ·split
   ·show (0:Nat)≤_;omega
   ·split
    ·show (D.ws++[_]).length≤_;simp
    ·split
     ·show (0:Nat)≤_;omega
     ·show D.ws.length≤_;omega
open Go.Proofs.Tryz
section
variable {P:Program} {ops:Array Oper} {Q:Exit→Act→World→Prop} {md:Region.Mode} {S:World→Prop} {fuel L:Nat} {listed:Array Bool} {a:Act} {w:World}
theorem tkc (i:Nat){oi:Oper}{f t:TypeId}{x:Operand}{p v:Value}{a':Act}(hS:S w)(hrun:∀w,S w→(convert f t p).run P w=.ok v w)(h:wpAnyH P md ops Q S fuel (listed.setIfInBounds i true) a' w)(hi:ops[i]?=some oi:=by simp;rfl)(ho:oi.op=.convert f t x:=by rfl)(hx:a.eval x=p:=by rfl)(hs:Region.noSelect ops=true:=by kernel_rfl)(hf:Region.free md ops listed i=true:=by kernel_rfl)(hr:(Region.ready md ops listed).contains i=true:=by kernel_rfl)(hg:Region.wanted oi (yielded ops a.tmps)=true:=by rfl)(ha:a.put oi.dst v=a':=by simp only[Act.put,zA,zB,zC];with_reducible rfl)(hQ:∀c a w,Q (.panic c) (a.put oi.dst v) w→Q (.panic c) a w:=by exact fun _ _ _ h=>h):wpAnyH P md ops Q S (fuel+1) listed a w :=
 wpAnyH_take hi hs hf hr hQ (.inl ⟨hg,fun w s=>by unfold execOp;simp only[ho,hx,Sem.run_bind,hrun w s,Result.andThen_ok,Sem.run_pure]⟩) hS (ha ▸ h)
theorem tkL (i:Nat){oi:Oper}{v:Value}{a':Act}(hS:S w)(h:wpAnyL P md ops Q S L fuel (listed.setIfInBounds i true) a' w)(hi:ops[i]?=some oi:=by simp;rfl)(hs:Region.noSelect ops=true:=by kernel_rfl)(hf:Region.free md ops listed i=true:=by kernel_rfl)(hr:(Region.ready md ops listed).contains i=true:=by kernel_rfl)(hd:(match ops[L]? with | some o=>o.after.any (fun e=>Region.binds md e && e.on == i) | none=>true)=true:=by kernel_rfl)(hg:Region.wanted oi (yielded ops a.tmps)=true:=by rfl)(hy:∀w,(execOp a.eval oi).run P w=.ok (.value v) w:=by intro w;go_simp;with_reducible rfl)(ha:a.put oi.dst v=a':=by simp only[Act.put,zA,zB,zC];with_reducible rfl)(hQ:∀c a w,Q (.panic c) (a.put oi.dst v) w→Q (.panic c) a w:=by exact fun _ _ _ h=>h):wpAnyL P md ops Q S L (fuel+1) listed a w :=
 wpAnyL_take hi hs hf hr hd hQ (.inl ⟨hg,fun w _=>hy w⟩) hS (ha ▸ h)
theorem tklL (i:Nat){oi:Oper}{v:Value}{a':Act}{Z:World→Prop}(hS:S w)(z:∀w,S w→Z w)(h:wpAnyL P md ops Q S L fuel (listed.setIfInBounds i true) a' w)(hi:ops[i]?=some oi:=by simp;rfl)(hs:Region.noSelect ops=true:=by kernel_rfl)(hf:Region.free md ops listed i=true:=by kernel_rfl)(hr:(Region.ready md ops listed).contains i=true:=by kernel_rfl)(hd:(match ops[L]? with | some o=>o.after.any (fun e=>Region.binds md e && e.on == i) | none=>true)=true:=by kernel_rfl)(hg:Region.wanted oi (yielded ops a.tmps)=true:=by rfl)(hy:∀w,Z w→(execOp a.eval oi).run P w=.ok (.value v) w:=by intro w z;go_simp;with_reducible rfl)(ha:a.put oi.dst v=a':=by simp only[Act.put,zA,zB,zC];with_reducible rfl)(hQ:∀c a w,Q (.panic c) (a.put oi.dst v) w→Q (.panic c) a w:=by exact fun _ _ _ h=>h):wpAnyL P md ops Q S L (fuel+1) listed a w :=
 wpAnyL_take hi hs hf hr hd hQ (.inl ⟨hg,fun w s=>hy w (z w s)⟩) hS (ha ▸ h)
end
theorem run_conv_is {P:Program}{o:Oper}{a:Act}{w:World}{K:Act→World→Prop}{Q:Exit→Act→World→Prop}(f t:TypeId){x:Operand}(ho:o.op=.convert f t x){u v:Value}(hx:a.eval x=u)(hrun:(convert f t u).run P w=.ok v w)(h:K (a.put o.dst v) w):o.wp P a w K Q:=by
 have e:(execOp a.eval o).run P w=.ok (.value v) w:=by unfold execOp;simp only[ho,hx,Sem.run_bind,hrun,Result.andThen_ok,Sem.run_pure]
 unfold Oper.wp;rw[e];exact h
section
variable {w0 w w':World} {X:List Kd} {i j P p n:Nat} {D:Dd} {x:Rc} {g cap m:Nat} {bs:List Int}
theorem SIn.later {a:Option Addr}{l:List LW}(h:SIn w a m l)(hb:Below w.heap.size w w'):SIn w' a m l:=by
 refine⟨⟨h.win.len,fun h0=>?_⟩,h.non,h.few⟩
 obtain ⟨b,o,e,-⟩:=h.win.cells h0
 refine⟨b,o,e,fun k t hk=>?_⟩
 obtain ⟨b',o',t',e',et,c0,c1,hB,-⟩:=h.at hb (k:=k) (by rw[← h.win.len];exact (List.getElem?_eq_some_iff.1 hk).1)
 rw[e] at e'
 cases e'
 rw[hk] at et
 cases et
 exact⟨c0,c1,hB⟩
theorem Fz.aty (h:Fz w0 w X)(hi:X[i]?=some (ky (.slice (some ⟨g,0,none⟩) m cap) bs))(hm:bs.length=m):w.ownsRow 0 5 1 (.slice (some ⟨g,0,none⟩) m cap) m (U8 bs)∧∀(k:Nat) (z:Int),Fz w0 (w.setCell ⟨g,k,none⟩ (.int .u8 z)) (X.set i (ky (.slice (some ⟨g,0,none⟩) m cap) (bs.set k z))):=by
 subst hm
 obtain ⟨t,G,rfl,ha,hf,hL⟩:=h.at hi
 refine⟨ha,fun k z=>?_⟩
 obtain ⟨h1,h2⟩:=World.ownsRow.stored (show w.ownsRow 0 5 1 (.slice (some ⟨g,0,none⟩) bs.length cap) bs.length (U8 bs) from ha) k (.int .u8 z)
 refine hL _ (.byt _ (bs.set k z)) G (fun b=>b=g) _ ?_ ⟨h2.os,h2.tape,h2.output,h2.size,fun b hb hne=>h2.block b hb fun e=>hne (by cases e;rfl)⟩ (fun b _ hb=>by have e:b=g:=hb;show (Value.slice (some ⟨g,0,none⟩) bs.length cap).ownBlock=some b;rw[e];rfl) (fun b hb=>.inl hb) (fun _ a=>a) (fun _ a=>.inl a) rfl
 show (w.setCell ⟨g,k,none⟩ (.int .u8 z)).ownsRow 0 5 1 (.slice (some ⟨g,0,none⟩) bs.length cap) (bs.set k z).length (U8 (bs.set k z))
 rw[List.length_set,show U8 (bs.set k z)=(U8 bs).set k (.int .u8 z) by simp[U8,List.map_set]]
 exact h1
theorem Fz.biny (h:Fz w0 w X)(hi:X[i]?=some (ky (.slice (some ⟨g,0,none⟩) m cap) bs))(hm:bs.length=m)(hb:Bytes bs):BIn w (some ⟨g,0,none⟩) m bs:=by
 obtain ⟨p,c,e,hB,-⟩:=own_in (h.aty hi hm).1 hb
 cases e
 exact hB
theorem hcl_load {W:World}{B:Nat}{c:Sup}{more:Int}{a:Option Addr}{m cp:Nat}(h:LAt 26 W B (hcl c more a m cp)):(Instr.loadAt 26 (.pointer (some ⟨B,0,none⟩))).run prog W=.ok (.agg (hcl c more a m cp).toArray) W:=run_loadAt_mid W B 0 26 (hcl c more a m cp) _ (LAt.range h) underlying26 rfl (by kernel_rfl)
end
open Go.ChangeShapes Go.WideShapes Go.ChangeAt Go.Deep
theorem laidK:laidOutB prog=true:=by kernel_rfl
theorem cellsC:prog.cellsOf 23=5:=by kernel_rfl
theorem cellsBs:prog.cellsOf 27=1:=by kernel_rfl
theorem cellsSc:prog.cellsOf 96=2:=by kernel_rfl
theorem cellsScs:prog.cellsOf 24=1:=by kernel_rfl
theorem cellsDk:prog.cellsOf 26=7:=by kernel_rfl
theorem bytesSc:prog.bytesOf 96=32:=by kernel_rfl
theorem bytes5:prog.bytesOf 5=1:=by kernel_rfl
theorem openedC {H:Type}{enc:TypeId × Value→H}{W:World}{l:List Value}{n:Nat}{y:DataW H × List MemPlace}(h:DataW.trod enc prog W 0 (fun _=>true) true n 23 l=some y) :
  ∃a0 a1 a2 a3 a4:Int,l[0]?=some (.int .i64 a0)∧l[1]?=some (.int .i64 a1)∧l[2]?=some (.int .i64 a2)∧l[3]?=some (.int .i64 a3)∧l[4]?=some (.int .i64 a4):=by
 obtain ⟨xs,k,_,hy,_,hxl,hg⟩:=DataW.trod_struct underlying23 h
 have hxl5:xs.length=5:=hxl
 have g0:DataW.trod enc prog W 0 (fun _=>true) true k 3 ((l.drop 0).take (prog.cellsOf 3))=xs[0]?:=hg 0 _ rfl
 have g1:DataW.trod enc prog W 0 (fun _=>true) true k 3 ((l.drop 1).take (prog.cellsOf 3))=xs[1]?:=hg 1 _ rfl
 have g2:DataW.trod enc prog W 0 (fun _=>true) true k 3 ((l.drop 2).take (prog.cellsOf 3))=xs[2]?:=hg 2 _ rfl
 have g3:DataW.trod enc prog W 0 (fun _=>true) true k 3 ((l.drop 3).take (prog.cellsOf 3))=xs[3]?:=hg 3 _ rfl
 have g4:DataW.trod enc prog W 0 (fun _=>true) true k 3 ((l.drop 4).take (prog.cellsOf 3))=xs[4]?:=hg 4 _ rfl
 rw[cells3,List.getElem?_eq_getElem (by omega)] at g0 g1 g2 g3 g4
 obtain ⟨a0,e0,_,w0⟩:=DataW.trod_int underlying3 g0
 obtain ⟨a1,e1,_,w1⟩:=DataW.trod_int underlying3 g1
 obtain ⟨a2,e2,_,w2⟩:=DataW.trod_int underlying3 g2
 obtain ⟨a3,e3,_,w3⟩:=DataW.trod_int underlying3 g3
 obtain ⟨a4,e4,_,w4⟩:=DataW.trod_int underlying3 g4
 exact⟨a0,a1,a2,a3,a4,drop_one _ _ _ e0,drop_one _ _ _ e1,drop_one _ _ _ e2,drop_one _ _ _ e3,drop_one _ _ _ e4⟩
theorem openedCfg {H:Type}{enc:TypeId × Value→H}{W:World}{cs:Array Value}{d:DataW H}{p:List MemPlace}(hn:cs.size=5)(h:DataW.Trod enc prog W 0 (fun _=>true) true 23 (.agg cs) d p) :
  ∃s:Sup,cs=(ccells s).toArray:=by
 obtain ⟨fuel,hf⟩:=h
 obtain ⟨l⟩:=cs
 have hl:l.length=5:=by simpa using hn
 have hf':DataW.trod enc prog W 0 (fun _=>true) true fuel 23 l=some (d,p):=by simpa [Value.cells] using hf
 obtain ⟨a0,a1,a2,a3,a4,f0,f1,f2,f3,f4⟩:=openedC hf'
 refine⟨⟨a0,a1,a2,a3,a4,0,0⟩,?_⟩
 congr 1
 apply List.ext_getElem?
 intro i
 match i with
 | 0=>exact f0
 | 1=>exact f1
 | 2=>exact f2
 | 3=>exact f3
 | 4=>exact f4
 | j+5=>rw[List.getElem?_eq_none (by omega)];rfl
theorem openedB {H:Type}{enc:TypeId × Value→H}{W:World}{a:Option Addr}{len cap:Nat}{d:DataW H}{p:List MemPlace}(h:DataW.Trod enc prog W 0 (fun _=>true) true 27 (.slice a len cap) d p)(hw:∀k∈d.weights prog 27,k≤reachBytes) :
  ∃ss,BIn W a len ss∧len≤cap∧(a=none→len=0∧cap=0)∧len+64≤140737488355328:=by
 obtain ⟨fuel,hf⟩:=h
 rcases open_ints underlying27 underlying5 (by kernel_rfl) hf with ⟨hcs,_⟩ | ⟨x,l,c,zs,hcs,_,hl,hm,hz,hx,hcell,hwz⟩
 ·simp[Value.cells] at hcs
  obtain ⟨rfl,rfl,rfl⟩:=hcs
  exact⟨[],⟨rfl,(fun x hx=>by cases hx),fun h=>absurd h (Nat.lt_irrefl 0)⟩,Nat.le_refl _,fun _=>⟨rfl,rfl⟩,by omega⟩
 ·simp[Value.cells] at hcs
  obtain ⟨rfl,rfl,rfl⟩:=hcs
  have hz':zs.length=cap:=by simpa using hz
  simp only[Prod.mk.injEq] at hx
  have w5:cap*1≤reachBytes:=by
   have:=hw (zs.length*prog.bytesOf 5) (by rw[hx.1];simp[DataW.weights,underlying27,lits];left;congr 1;omega)
   rw[bytes5,hz'] at this
   exact this
  simp only[reachBytes] at w5
  refine⟨zs.take len,⟨by rw[List.length_take];omega,fun x hx=>by have:=bounds_u8 (hwz x (List.mem_of_mem_take hx));omega,fun h0=>?_⟩,hl,fun e=>(by cases e),by omega⟩
  obtain ⟨b,o,s⟩:=x
  obtain rfl:s=none:=by simpa [Addr.add] using World.cell?_spot (hcell 0 (by omega))
  refine⟨b,o,rfl,fun i hi=>?_⟩
  have hil:i<len:=hi
  have hiz:i<zs.length:=by omega
  have:=hcell i (by omega)
  rw[add_plain] at this
  rw[this]
  rw[List.getD,List.getD,List.getElem?_take,if_pos hil]
theorem slice_of {H:Type}{enc:TypeId × Value→H}{W:World}{t e:TypeId}{k:Nat}{c:Value}{y:DataW H × List MemPlace}(ht:prog.underlying t=some (.slice e))(h:DataW.trod enc prog W 0 (fun _=>true) true k t [c]=some y) :
  ∃a l cp,c=.slice a l cp:=by
 rcases open_slice ht h with ⟨h0,_⟩ | ⟨a,len,cap,_,_,_,_,h0,_⟩
 ·simp only[List.cons.injEq,and_true] at h0
  exact⟨_,_,_,h0⟩
 ·simp only[List.cons.injEq,and_true] at h0
  exact⟨_,_,_,h0⟩
theorem weightsAll_mem {H:Type}{P:Program}{e:TypeId}:∀{l:List (DataW H)} {d:DataW H},d∈l→∀n∈d.weights P e,n∈DataW.weightsAll P e l
 | x :: r,d,hd,n,hn=>by
  simp only[DataW.weightsAll,List.mem_append]
  rcases List.mem_cons.1 hd with rfl | hd
  ·exact .inl hn
  ·exact .inr (weightsAll_mem hd n hn)
 | [],_,hd,_,_=>by cases hd
theorem one_cell {α:Type}(l:List α)(k:Nat)(h:k<l.length):(l.drop k).take 1=[l[k]]:=by
 rw[List.drop_eq_getElem_cons h,List.take_succ_cons,List.take_zero]
theorem one_sec {H:Type}{enc:TypeId × Value→H}{W:World}{cs:List Value}{n:Nat}{y:DataW H × List MemPlace}(hd:DataW.trod enc prog W 0 (fun _=>true) true n 96 cs=some y)(hw:∀k∈y.1.weights prog 96,k≤reachBytes):∃t:LW,cs=[.int .i64 t.s,.slice t.q t.n t.c]∧BIn W t.q t.n t.b∧(t.q=none→t.n=0∧t.c=0)∧t.n+64≤140737488355328:=by
 obtain ⟨xs,k,_,hy,hl,hxl,hf⟩:=DataW.trod_struct underlying96 hd
 rw[cellsSc] at hl
 have hxl2:xs.length=2:=hxl
 match xs,hxl2 with
 | [y0,y1],_ =>
  have g0:DataW.trod enc prog W 0 (fun _=>true) true k 3 ((cs.drop 0).take (prog.cellsOf 3))=some y0:=hf 0 _ rfl
  have g1:DataW.trod enc prog W 0 (fun _=>true) true k 27 ((cs.drop 1).take (prog.cellsOf 27))=some y1:=hf 1 _ rfl
  rw[cells3] at g0
  rw[cellsBs,one_cell cs 1 (by omega)] at g1
  obtain ⟨s,e0,_,w0⟩:=DataW.trod_int underlying3 g0
  obtain ⟨q,len,c,e1⟩:=slice_of underlying27 g1
  rw[e1] at g1
  simp only[List.map_cons,List.map_nil] at hy
  obtain ⟨bs,hb,_,hn,hl64⟩:=openedB (d:=y1.1) (p:=y1.2) ⟨k,g1⟩ (fun j hj=>hw j (by
   rw[hy]
   simp only[DataW.weights,underlying96]
   exact DataW.weights_mem_each (j:=1) (t:=27) rfl rfl _ hj))
  refine⟨⟨s,q,len,c,bs⟩,?_,hb,hn,hl64⟩
  have h1:cs.take 1=[.int .i64 s]:=e0
  have h2:cs.drop 1=[.slice q len c]:=by rw[← e1,← one_cell cs 1 (by omega),List.take_of_length_le (by rw[List.length_drop];omega)]
  rw[← List.take_append_drop 1 cs,h1,h2];rfl
theorem openedSecs {H:Type}{enc:TypeId × Value→H}{W:World}{a:Option Addr}{len cap:Nat}{d:DataW H}{p:List MemPlace}(h:DataW.Trod enc prog W 0 (fun _=>true) true 24 (.slice a len cap) d p)(hw:∀k∈d.weights prog 24,k≤reachBytes) :
  ∃l,SIn W a len l∧len≤140737488355328:=by
 obtain ⟨fuel,hf⟩:=h
 rcases open_slice underlying24 hf with ⟨hcs,_⟩ | ⟨x,l,c,m,n,D,Pl,hcs,_,hl,hm,hmm,hx,hcell⟩
 ·simp[Value.cells] at hcs
  obtain ⟨rfl,rfl,rfl⟩:=hcs
  exact⟨[],⟨⟨rfl,fun h=>absurd h (Nat.lt_irrefl 0)⟩,fun t h=>(by cases h),fun t h=>(by cases h)⟩,Nat.zero_le _⟩
 ·simp[Value.cells] at hcs
  obtain ⟨rfl,rfl,rfl⟩:=hcs
  rw[cellsSc] at hcell
  simp only[Prod.mk.injEq] at hx
  have hlm:len≤m:=by rw[hmm];simpa using hl
  have each:∀i,i<len→∃t:LW,(∀(j:Nat) v,[Value.int .i64 t.s,.slice t.q t.n t.c][j]?=some v→W.cell? ((x.add (i*2)).add j)=some v)∧BIn W t.q t.n t.b∧(t.q=none→t.n=0∧t.c=0)∧t.n+64≤140737488355328:=by
   intro i hi
   obtain ⟨cs',h1,h2⟩:=hcell i (by omega)
   obtain ⟨t,rfl,ht⟩:=one_sec h2 (fun k hk=>hw k (by
    rw[hx.1]
    simp only[DataW.weights,underlying24,List.mem_cons,List.mem_append]
    exact .inr (.inl (weightsAll_mem (List.mem_map.2 ⟨i,List.mem_range.2 hi,rfl⟩) k hk))))
   refine⟨t,fun j v hv=>?_,ht⟩
   have hs:=World.cells?_some h1
   have hj:j<2:=(List.getElem?_eq_some_iff.1 hv).1
   rw[hs.2.2 j hj];exact hv
  have hlb:len≤140737488355328:=by
   rw[hx.1] at hw
   simp only[DataW.weights,underlying24] at hw
   have h1:=hw _ List.mem_cons_self
   rw[bytesSc] at h1
   simp only[List.length_map,List.length_range,reachBytes] at h1
   omega
  refine⟨(List.range len).map fun i=>if h:i<len then (each i h).choose else ⟨0,none,0,0,[]⟩,⟨⟨by simp,fun h0=>?_⟩,fun t ht=>?_,fun t ht=>?_⟩,hlb⟩
  ·obtain ⟨b,o,s⟩:=x
   have hc0:=(each 0 h0).choose_spec.1 0 _ rfl
   obtain rfl:s=none:=by simpa [Addr.add] using World.cell?_spot hc0
   have e1:∀i j,((⟨b,o,none⟩:Addr).add (i*2)).add j=⟨b,o+i*2+j,none⟩:=fun i j=>by rw[add_plain];exact add_plain _ _ _
   refine⟨b,o,rfl,fun k t ht=>?_⟩
   have hk':k<len:=by have:=(List.getElem?_eq_some_iff.1 ht).1;simpa using this
   rw[List.getElem?_map,List.getElem?_range hk'] at ht
   simp only[Option.map_some,hk',dif_pos,Option.some.injEq] at ht
   subst ht
   have h2:=(each k hk').choose_spec
   have a0:=h2.1 0 _ rfl
   have a1:=h2.1 1 _ rfl
   rw[e1] at a0 a1
   exact⟨a0,a1,h2.2.1⟩
  ·obtain ⟨i,hi,rfl⟩:=List.mem_map.1 ht
   have hi':=List.mem_range.1 hi
   simp only[hi',dif_pos]
   exact (each i hi').choose_spec.2.2.1
  ·obtain ⟨i,hi,rfl⟩:=List.mem_map.1 ht
   have hi':=List.mem_range.1 hi
   simp only[hi',dif_pos]
   exact (each i hi').choose_spec.2.2.2
theorem take_five {α:Type}{l:List α}{i:Nat}{v:α}(h:((l.drop 0).take 5)[i]?=some v):l[i]?=some v:=by
 rw[List.drop_zero,List.getElem?_take] at h
 split at h
 ·exact h
 ·cases h
theorem openedDisk {H:Type}{enc:TypeId × Value→H}{W:World}{cs:Array Value}{d:DataW H}{p:List MemPlace}(hn:cs.size=7)(h:DataW.Trod enc prog W 0 (fun _=>true) true 26 (.agg cs) d p)(hw:∀k∈d.weights prog 26,k≤reachBytes) :
  ∃c more a m cp l,cs=(hcl c more a m cp).toArray∧SIn W a m l∧m≤140737488355328:=by
 obtain ⟨fuel,hf⟩:=h
 obtain ⟨l⟩:=cs
 have hl:l.length=7:=by simpa using hn
 have hf':DataW.trod enc prog W 0 (fun _=>true) true fuel 26 l=some (d,p):=by simpa [Value.cells] using hf
 obtain ⟨xs,k,_,hy,_,hxl,hg⟩:=DataW.trod_struct underlying26 hf'
 have hxl3:xs.length=3:=hxl
 match xs,hxl3 with
 | [y0,y1,y2],_ =>
  have g0:DataW.trod enc prog W 0 (fun _=>true) true k 23 ((l.drop 0).take (prog.cellsOf 23))=some y0:=hg 0 _ rfl
  have g1:DataW.trod enc prog W 0 (fun _=>true) true k 3 ((l.drop 5).take (prog.cellsOf 3))=some y1:=hg 1 _ rfl
  have g2:DataW.trod enc prog W 0 (fun _=>true) true k 24 ((l.drop 6).take (prog.cellsOf 24))=some y2:=hg 2 _ rfl
  rw[cellsC] at g0
  rw[cells3] at g1
  rw[cellsScs,one_cell l 6 (by omega)] at g2
  obtain ⟨a0,a1,a2,a3,a4,f0,f1,f2,f3,f4⟩:=openedC g0
  obtain ⟨mo,e1,_,w1⟩:=DataW.trod_int underlying3 g1
  obtain ⟨ps,n,c,e2⟩:=slice_of underlying24 g2
  rw[e2] at g2
  simp only[List.map_cons,List.map_nil,Prod.mk.injEq] at hy
  obtain ⟨rfl,_⟩:=hy
  obtain ⟨sl,hs,hlen⟩:=openedSecs (d:=y2.1) (p:=y2.2) ⟨k,g2⟩ (fun j hj=>hw j (by
   simp only[DataW.weights,underlying26]
   exact DataW.weights_mem_each (j:=2) (t:=24) rfl rfl _ hj))
  refine⟨⟨a0,a1,a2,a3,a4,0,0⟩,mo,ps,n,c,sl,?_,hs,hlen⟩
  congr 1
  apply List.ext_getElem?
  intro i
  match i with
  | 0=>exact take_five f0
  | 1=>exact take_five f1
  | 2=>exact take_five f2
  | 3=>exact take_five f3
  | 4=>exact take_five f4
  | 5=>exact drop_one _ _ _ e1
  | 6=>rw[List.getElem?_eq_getElem (by omega),e2];rfl
  | j+7=>rw[List.getElem?_eq_none (by omega)];rfl
end Go.Proofs.YtdadpepfpiimgaaGreatDoor.Q
namespace Go.Proofs.YtdadpepfpiimgaaGreatDoor.Q
open Go.RowKit
theorem tmod_fix (m k:Int)(hk:0<k):((m.tmod k)+k).tmod k=m % k:=by
 have h1:=Int.tmod_lt_of_pos m hk
 have h2:-k<m.tmod k:=by
  have:=Int.lt_tmod_of_pos m hk
  omega
 rw[Int.tmod_eq_emod_of_nonneg (by omega),Int.add_emod_right]
 rw[Int.tmod_def,Int.sub_emod,Int.mul_emod_right]
 simp
open Go.Proofs.Tryz
section
variable {w0 w w':World} {X:List Kd} {i j L p n:Nat} {D:Dd} {c:Sup}
theorem p_crash (h:Fz w0 w X)(hj:X[j]?=some (kd p n D))(hk:D.ws.length≤100000){a:Option Addr}{m cp:Nat}{K:List Int}(hx:JIn w a m K)(hm:m≤140737488355328):Calls prog 21 #[qp p,.slice a m cp] w fun e w'=>e=.returned (.tuple #[.int .i64 D.ws.length,.int .i64 0])∧Fz w0 w' (X.set j (kd p n (D.crs K))):=by
 obtain ⟨S,hd,_,hl⟩:=h.atd hj
 refine (crash_any hd hk a m cp K hx hm).mono ?_
 rintro e w' ⟨rfl,h1,h2⟩
 exact⟨rfl,hl w' S (D.crs K) h1 h2 fun _ a=>.inl a⟩
end
end Go.Proofs.YtdadpepfpiimgaaGreatDoor.Q
namespace Go.Proofs.YtdadpepfpiimgaaGreatDoor.Q
open Go.RowKit
section
variable {w0 w w' W:World} {X:List Kd} {i j B b o:Nat}
theorem Fz.cells {ty:TypeId}:∀(vs:List Value) (o:Nat) {w:World} {X:List Kd} {cs:List Value},Fz w0 w X→X[i]?=some (kb B ty cs)→o+vs.length≤cs.length→Fz w0 (w.setCells B o vs) (X.set i (kb B ty (cs.take o++vs++cs.drop (o+vs.length))))
 | [],o,w,X,cs,h,hi,_=>by
  have e:cs.take o++([]:List Value)++cs.drop (o+([]:List Value).length)=cs:=by simp
  rw[e,Fz.set_same hi];exact h
 | v :: r,o,w,X,cs,h,hi,hl=>by
  simp only[List.length_cons] at hl
  have hlt:=(List.getElem?_eq_some_iff.1 hi).1
  have:=Fz.cells r (o+1) (h.cell hi o v) (List.getElem?_set_self hlt) (by rw[List.length_set];omega)
  have e:(cs.set o v).take (o+1)++r++(cs.set o v).drop (o+1+r.length)=cs.take o++v :: r++cs.drop (o+(r.length+1)):=by
   rw[List.take_succ_eq_append_getElem (by rw[List.length_set];omega),List.take_set_of_le (by omega),List.drop_set_of_lt (by omega),List.getElem_set_self]
   simp[Nat.add_comm,Nat.add_left_comm]
  rw[e,List.set_set] at this
  exact this
end
section
variable {P:Program} {ops:Array Oper} {o:Oper} {a:Act} {w w':World} {K:Act→World→Prop} {Q:Exit→Act→World→Prop} {E:Prop}
theorem step_slice_is (hw:Region.wanted o (yielded ops a.tmps)=true)(ty n:Nat){ps:Array (Nat × Operand)}(ho:o.op=.buildSlice ty n ps){vs:List (Nat × Value)}{v:Value}(hx:ps.toList.map (fun (i,x)=>(i,a.eval x))=vs)(hrun:(Instr.buildSlice ty n vs.toArray).run P w=.ok v w')(hK:K (a.put o.dst v) w'):if Region.wanted o (yielded ops a.tmps)=true then Oper.wp P o a w K Q else E:=by
 rw[if_pos hw]
 have hr:(execOp a.eval o).run P w=.ok (.value v) w':=by unfold execOp;simp only[ho];rw[show ps.map (fun (i,x)=>(i,a.eval x))=vs.toArray by rw[← hx,← Array.toList_map]];simp only[Sem.run_bind,hrun,Result.andThen_ok,Sem.run_pure]
 unfold Oper.wp
 rw[hr]
 exact hK
theorem step_append_is (hw:Region.wanted o (yielded ops a.tmps)=true){s x:Operand}{t ty:TypeId}(ho:o.op=.call { callee:=.builtin .append,args:=#[s,x],argTypes:=#[t,t] })(hty:o.type=ty){u1 u2 v:Value}(hs:a.eval s=u1)(hx:a.eval x=u2)(hrun:(Builtin.append_ #[t,t] ty #[u1,u2]).run P w=.ok v w')(hK:K (a.put o.dst v) w'):if Region.wanted o (yielded ops a.tmps)=true then Oper.wp P o a w K Q else E:=by
 rw[if_pos hw]
 have hr:(execOp a.eval o).run P w=.ok (.value v) w':=by subst hty;simp[execOp,ho,resolve,invoke,builtin,hs,hx,hrun,Result.andThen]
 unfold Oper.wp
 rw[hr]
 exact hK
end
open Go.ChangeShapes Go.WideShapes Go.ChangeAt Go.Deep Go.Proofs.Tryz
theorem bytes3:prog.bytesOf 3=8:=by kernel_rfl
theorem cellsIs:prog.cellsOf 40=1:=by kernel_rfl
theorem openedI {H:Type}{enc:TypeId × Value→H}{W:World}{a:Option Addr}{len cap:Nat}{d:DataW H}{p:List MemPlace}(h:DataW.Trod enc prog W 0 (fun _=>true) true 40 (.slice a len cap) d p)(hw:∀k∈d.weights prog 40,k≤reachBytes) :
  ∃ss,JIn W a len ss∧len≤140737488355328:=by
 obtain ⟨fuel,hf⟩:=h
 rcases open_ints underlying40 underlying3 (by kernel_rfl) hf with ⟨hcs,_⟩ | ⟨x,l,c,zs,hcs,_,hl,hm,hz,hx,hcell,hwz⟩
 ·simp[Value.cells] at hcs
  obtain ⟨rfl,rfl,rfl⟩:=hcs
  exact⟨[],⟨rfl,fun h=>absurd h (Nat.lt_irrefl 0)⟩,Nat.zero_le _⟩
 ·simp[Value.cells] at hcs
  obtain ⟨rfl,rfl,rfl⟩:=hcs
  have hz':zs.length=cap:=by simpa using hz
  simp only[Prod.mk.injEq] at hx
  have w5:cap*8≤reachBytes:=by
   have:=hw (zs.length*prog.bytesOf 3) (by rw[hx.1];simp[DataW.weights,underlying40,lits];left;congr 1;omega)
   rw[bytes3,hz'] at this
   exact this
  simp only[reachBytes] at w5
  refine⟨zs.take len,⟨by rw[List.length_take];omega,fun h0=>?_⟩,by omega⟩
  obtain ⟨b,o,s⟩:=x
  obtain rfl:s=none:=by simpa [Addr.add] using World.cell?_spot (hcell 0 (by omega))
  refine⟨b,o,rfl,fun i hi=>?_⟩
  have hil:i<len:=hi
  have hiz:i<zs.length:=by omega
  have:=hcell i (by omega)
  rw[add_plain] at this
  rw[this]
  simp[List.getD,hiz,hil]
end Go.Proofs.YtdadpepfpiimgaaGreatDoor.Q
