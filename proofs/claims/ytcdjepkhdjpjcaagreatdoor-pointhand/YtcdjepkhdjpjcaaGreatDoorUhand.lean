import Derived.Test.YtcdjepkhdjpjcaaGreatDoorU41
import Derived.Test.YtcdjepkhdjpjcaaGreatDoorTie
import Derived.Test.YtcdjepkhdjpjcaaGreatDoorCards
set_option maxHeartbeats 20000000
set_option maxRecDepth 100000
namespace Go.Proofs.YtcdjepkhdjpjcaaGreatDoor
open Go.Proofs.Zq
open Go.ChangeShapes Go.WideShapes Go.ChangeAt Go.RowKit Q
theorem xY(os:Os)(started:os.Started)(H:Type)(enc:TypeId × Value->H) :
  ReturnsInHanded {} Tryz.checked os 7 .any (fun w args=>(Rows.pointHandSpec.pre enc Tryz.prog Tryz.f7 [] false w args/\laidMetH Tryz.prog yX w)/\sizedMet enc Tryz.prog Tryz.f7 (OpenSpec.ofChange Rows.pointHandSpec) false w args)
   (Rows.pointHandSpec.post enc Tryz.prog Tryz.f7 false true false false):=by
 refine returnsInHanded_of_change_and (C:=Tryz.checked) (X:=fun w _=>laidMetH Tryz.prog yX w) (fun _ _ _ hh h=>h.of_heap hh) agM started (by kernel_rfl) Tryz.func7
  (ChangeSpec.witness_shaped (enc:=enc) (C:=Tryz.checked) (os:=os) (X:=fun w _=>laidMetH Tryz.prog yX w) false (World.doorLaid Tryz.prog 400 os) #[.agg (aN qz).toArray,.slice none 0 0] 8 rfl (World.shaped_of_RefB (by kernel_rfl) (by kernel_rfl)) (by kernel_rfl) (by kernel_rfl) (by kernel_rfl) (JF os _)) ?_
 intro W base args ds gs before IZ hW _ nV hL _;have hval:∀(j:Nat) t v,Tryz.f7.params[j]?=some t->args[j]?=some v->Value.okWide Tryz.prog W .any base t v:=IZ;have hW':=hW;obtain ⟨p,q,hA0,hV,rfl,hfz,hnd⟩:=hW;have hA:DataW.TrodAll enc Tryz.prog W 0 (fun _=>true) true Tryz.f7.params.toList args.toList ds p:=hA0;rw[Tryz.params7] at hA hval;obtain ⟨v0,vs0,d0,ds0,p0,q0,ahN,rfl,rfl,h0,r0⟩:=trodAll_cons hA;obtain ⟨v1,vs1,d1,ds1,p1,q1,rfl,rfl,rfl,h1,r1⟩:=trodAll_cons r0;obtain ⟨rfl,rfl,rfl⟩:=trodAll_nil r1;obtain rfl:args=#[v0,v1]:=by cases args;simp_all
 obtain ⟨rfl,rfl⟩:=trodVars_none hV;have V_:(DataW.weightsEach Tryz.prog (Tryz.f7.params.toList++Rows.pointHandSpec.plain.varTypes Tryz.prog) (([d0,d1]:List (DataW H))++[])).all (·<=reachBytes)=true:=nV;rw[Tryz.params7] at V_;obtain ⟨cs0,rfl,yx⟩:=okWide_struct Tryz.underlying23 (hval 0 23 v0 rfl rfl);rw[Xq] at yx;have k0:=h0;have lt0:∀x∈p0,x.block<W.heap.size:=by obtain ⟨m,hm⟩:=k0;exact DataW.trod_lt m _ _ _ hm
 obtain ⟨s0,rfl⟩:=Eo yx h0;obtain ⟨a1,akZ,amQ,rfl⟩:=okWide_slice Tryz.underlying24 (hval 1 24 v1 rfl rfl);have k1:=h1;have lt1:∀x∈p1,x.block<W.heap.size:=by obtain ⟨m,hm⟩:=k1;exact DataW.trod_lt m _ _ _ hm
 obtain ⟨ts1,aee,-⟩:=Ot h1 (fun k hk=>by have:=List.all_eq_true.1 V_ k (qU (j:=1) (t:=24) rfl rfl k hk);simpa using this);clear hA0 IZ;refine (Q.C' s0 (TQ hL) aee).mono fun e W' ⟨he,bel⟩=>?_;subst he;exact⟨_,rfl,_,_,_,[],_,[],hW',trodAll_mk1 (shut_bool Tryz.underlying4 _),(trodAll_cons_mk (Below.trod OD (by kernel_rfl) (fy (by kernel_rfl)) k0 bel lt0) (trodAll_cons_mk (Below.trod OD (by kernel_rfl) (fy (by kernel_rfl)) k1 bel lt1) trodAll_mk0)),rfl,bel.frame _,fun h=>by cases h⟩
theorem pointHand_row:Rows.PointHandSaid :=
 OpenClaim.holds_of_wide 7 Tryz.f7 rfl rfl rfl rfl rfl rfl rfl ⟨rfl,rfl,rfl,rfl,rfl⟩ rfl rfl rfl rfl rfl (by kernel_rfl) Tryz.func7 (by kernel_rfl)
  (fy (by kernel_rfl)) (by unfold Func.isWrapper;first | (rw[aE (by decide +kernel)];kernel_rfl) | (rw[aD (by decide +kernel)];exact⟨rfl,rfl⟩))
  (fun os started H enc _=>xY os started H enc)
theorem pointHand_holds:Rows.PointHandCardSaid :=
 Claim7.holds_tied_plain_at .later [] [.data, .data] true (true, "4cecbd6a23d0475acae70b9b4718c3070a437b4a5975e761881664620fcb77a6") false
  pointHand_row (fun _ h=>by cases h) (by kernel_rfl) (fun _ h=>by cases h) pointHand_row_tie rfl ⟨rfl,rfl⟩ (by kernel_rfl) rfl
  (fun f fn hf hfn=>by
   obtain rfl : f = 7 := iY ((show Tryz.prog.funcNamed "wicket/wicketlaw20.PointHand" = some 7 by kernel_rfl).symm.trans hf) |>.symm
   obtain rfl:fn=Tryz.f7:=(iY (Tryz.func7.symm.trans hfn)).symm;exact⟨by kernel_rfl,fun j t ht=>by
    rw[Tryz.params7] at ht;have hm:t∈[23,24]:=by simpa using Array.mem_of_getElem? ht
    have Ci:([23,24].all fun u=>!Tryz.prog.wantsStandIn u)=true:=by kernel_rfl
    exact (show Tryz.prog.wantsStandIn t=false by simpa using List.all_eq_true.1 Ci t hm)⟩)
  (by kernel_rfl)
#print axioms pointHand_holds
end Go.Proofs.YtcdjepkhdjpjcaaGreatDoor
