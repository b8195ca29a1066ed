import Derived.Test.YtcdjepkhdjpjcaaGreatDoorRows
import Derived.WalkSpells
import Derived.WalkLawsBesides
import Derived.BigQuiet
import Derived.Deep.RegionHeld3
import Derived.Deep.CutBlock
set_option maxHeartbeats 20000000
set_option maxRecDepth 100000
namespace Go.Proofs.Zq
open Go.RowKit
abbrev aA:=@List.getElem?_eq_some_iff
abbrev aC:=@Option.some.injEq
abbrev aD:=@if_neg
abbrev aE:=@if_pos
abbrev aF:=@decide_eq_false
abbrev aG:=@Go.heap_alloc_new
abbrev aH:=@Go.Result.andThen_ok
abbrev aI:=@Nat.zero_le
abbrev aL:=@List.take_of_length_le
abbrev aM:=@List.size_toArray
abbrev aO:=@List.length_append
abbrev aP:=@decide_eq_true
abbrev aS:=@List.append_assoc
abbrev aT:=@List.getElem?_append_right
abbrev aU:=@Go.Sem.run_bind
abbrev aV:=@Go.RowKit.Below.refl
abbrev aW:=@Nat.zero_add
abbrev aY:=@Go.IntKind.wrap_i64
abbrev aZ:=@List.eq_nil_of_length_eq_zero
abbrev a_:=@Go.World.size_alloc
abbrev aq:=@Go.cell_of_row
abbrev au:=@Array.getElem?_eq_some_iff
abbrev ay:=@List.getElem?_eq_getElem
abbrev az:=@Nat.le_refl
abbrev bF:=@List.nil_append
abbrev bH:=@List.mem_append
abbrev bJ:=@Nat.le_trans
abbrev bK:=@Go.Proofs.Tryz.underlying107
abbrev bM:=@Go.setCell_eq_setRow
abbrev bN:=@Nat.lt_of_lt_of_le
abbrev bO:=@Go.AllReadyH.nil
abbrev bQ:=@Go.Sem.run_pure
abbrev bS:=@List.mem_cons_self
abbrev bW:=@Go.WideShapes.add_plain
abbrev bZ:=@List.mem_cons
abbrev b_:=@Go.run_loadAt_mid
abbrev bg:=@List.mem_singleton
abbrev bt:=@List.mem_of_getElem?
abbrev bu:=@Go.AllReadyH.cons
abbrev bw:=@List.take_succ_eq_append_getElem
abbrev bz:=@List.length_cons
abbrev cC:=@Go.bodyPost_ret
abbrev cE:=@Go.Value.slice.injEq
abbrev cF:=@List.mem_map
abbrev cG:=@Go.World.block_lt_of_cell?
abbrev cJ:=@Go.heap_setCell_other
abbrev cK:=@Go.setRow_heap
abbrev cN:=@List.length_drop
abbrev cO:=@List.mem_cons_of_mem
abbrev cQ:=@List.pairwise_cons
abbrev cS:=@List.getElem?_eq_none
abbrev cZ:=@List.map_append
abbrev cg:=@List.getElem?_append_left
abbrev cj:=@Go.info_parts
abbrev ck:=@Go.wpAnyH_ready
abbrev cq:=@Go.World.ownsRow_nil
abbrev cr:=@List.length_take
abbrev ct:=@List.cons_append
abbrev dF:=@List.append_toArray
abbrev dH:=@List.length_nil
abbrev dI:=@List.length_map
abbrev dK:=@Go.wpList_append_own
abbrev dL:=@List.not_mem_nil
abbrev dN:=@Go.World.cell?_of_block
abbrev dP:=@Go.Proofs.Tryz.underlying61
abbrev dS:=@List.push_toArray
abbrev dV:=@List.getElem?_toArray
abbrev dX:=@List.getElem_append_left
abbrev d_:=@Go.Addr.mk.injEq
abbrev di:=@Nat.le_succ
abbrev dn:=@Array.replicate_zero
abbrev dw:=@Array.replicate_succ
abbrev dz:=@Go.wpAnyH_take
abbrev eA:=@List.getElem_mem
abbrev eD:=@Go.IntKind.wrap_u64
abbrev eE:=@List.take_append_drop
abbrev eR:=@List.pairwise_iff_getElem
abbrev eS:=@List.drop_eq_getElem_cons
abbrev eV:=@Nat.mul_le_mul_right
abbrev eY:=@List.mem_of_mem_take
abbrev eZ:=@Go.World.rangeAt_setCells_apart
abbrev eo:=@Go.run_build
abbrev fD:=@List.take_append_of_le_length
abbrev fE:=@List.mem_of_mem_drop
abbrev fG:=@List.getElem?_take
abbrev fL:=@List.getElem_of_mem
abbrev fO:=@List.length_singleton
abbrev fQ:=@Go.World.ownsRow.lt
abbrev fW:=@Nat.not_lt_zero
abbrev fX:=@Nat.min_eq_left
abbrev fe:=@Go.Proofs.Tryz.underlying3
abbrev fk:=@List.getElem?_cons_succ
abbrev fo:=@Go.Addr.add_mid
abbrev fy:=@of_decide_eq_true
abbrev gB:=@Nat.lt_irrefl
abbrev gC:=@List.take_left
abbrev gI:=@Go.IntKind.wrap_u8
abbrev gJ:=@and_true
abbrev gN:=@Go.World.ownsRow_made
abbrev gS:=@Prod.mk.injEq
abbrev gp:=@beq_eq_false_iff_ne
abbrev gq:=@Array.length_toList
abbrev gw:=@Go.Proofs.Tryz.underlying51
abbrev gx:=@decide_eq_true_eq
abbrev gy:=@Go.all_oneCell_toArray
abbrev iH:=@List.getElem?_drop
abbrev iQ:=@Go.wpList_plain
abbrev iR:=@Go.callsIn_wide
abbrev iX:=@Nat.add_sub_cancel_left
abbrev iY:=@Option.some.inj
abbrev iZ:=@Option.map_some
abbrev ig:=@List.take_succ_cons
abbrev iu:=@Go.setRow_other
abbrev iw:=@List.mem_filter
abbrev iy:=@Int.le_refl
abbrev iz:=@Go.DataW.trod_int
abbrev jQ:=@List.append_nil
abbrev jT:=@List.pairwise_append
abbrev jg:=@Go.wp_region_noPanic
abbrev jh:=@List.drop_succ_cons
abbrev jl:=@List.drop_of_length_le
abbrev jm:=@List.drop_eq_nil_of_le
abbrev jx:=@Go.callsIn_of_wp
abbrev jy:=@List.take_zero
abbrev kF:=@Go.results_none
abbrev kO:=@Go.World.cell?_setCells_out
abbrev kS:=@Go.Proofs.Tryz.underlying123
abbrev kT:=@Option.getD_some
abbrev lD:=@List.map_replicate
abbrev lF:=@List.getElem_cons_succ
abbrev lG:=@Int.ediv_eq_zero_of_lt
abbrev lX:=@List.cons.injEq
abbrev l_:=@List.map_cons
abbrev lq:=@Go.NoPanic.normal
abbrev mG:=@Go.Proofs.Tryz.underlying59
abbrev mH:=@List.ext_getElem?
abbrev mK:=@Go.frozen_of_row
abbrev mL:=@Go.RowKit.Below.heap_alloc
abbrev mT:=@Go.yieldsIf_load_mid
abbrev mU:=@Nat.mul_one
abbrev mV:=@List.getElem_concat_length
abbrev mW:=@Int.tmod_eq_emod_of_nonneg
abbrev mg:=@List.length_filter_le
abbrev nL:=@Go.u32_xor_nat
abbrev nM:=@Go.toList_madeCells_one
abbrev nO:=@List.filter_eq_self
abbrev nY:=@true_and
abbrev nZ:=@Go.World.cell?_setCell_other
abbrev n_:=@List.eq_of_mem_replicate
abbrev ny:=@Array.toList_map
abbrev pE:=@Go.wpList_load_mid
abbrev p_:=@List.mem_range
abbrev qP:=@Go.run_storeCells_at
abbrev qQ:=@Go.Proofs.Tryz.results190
abbrev qR:=@Go.Proofs.Tryz.ntmps123
abbrev qT:=@List.set_append_right
abbrev qU:=@Go.DataW.weights_mem_each
abbrev q_:=@Option.bind_some
abbrev qb:=@List.getElem?_map
abbrev qd:=@List.any_eq_false
theorem zA {α:Type _}{xs:List α}{i:Nat}{v:α}:xs.toArray.setIfInBounds i v=(xs.set i v).toArray:=List.setIfInBounds_toArray ..
theorem zB {α:Type _}{x y:α}{xs:List α}:(x :: xs).set 0 y=y :: xs:=List.set_cons_zero ..
theorem zC {α:Type _}{x y:α}{xs:List α}{n:Nat}:(x :: xs).set (n+1) y=x :: xs.set n y:=List.set_cons_succ ..
section
variable {P:Program} {ops:Array Oper} {Q:Exit->Act->World->Prop} {md:Region.Mode} {S:World->Prop} {fuel:Nat} {listed:Array Bool} {a:Act} {w:World}
theorem tk (i:Nat){oi:Oper}{v:Value}{a':Act}(hS:S w)(h:wpAnyH P md ops Q S fuel (listed.setIfInBounds i true) a' w)(hi:ops[i]?=some oi:=by simp;rfl)(hs:Region.noSelect ops=true:=by kernel_rfl)(hf:Region.free md ops listed i=true:=by kernel_rfl)(hr:(Region.ready md ops listed).contains i=true:=by kernel_rfl)(hg:Region.wanted oi (yielded ops a.tmps)=true:=by rfl)(hy:∀w,(execOp a.eval oi).run P w=.ok (.value v) w:=by intro w;go_simp;with_reducible rfl)(ha:a.put oi.dst v=a':=by simp only[Act.put,zA,zB,zC];with_reducible rfl)(hQ:∀c a w,Q (.panic c) (a.put oi.dst v) w->Q (.panic c) a w:=by exact fun _ _ _ h=>h):wpAnyH P md ops Q S (fuel+1) listed a w :=
 dz hi hs hf hr hQ (.inl ⟨hg,fun w _=>hy w⟩) hS (ha ▸ h)
theorem de (i:Nat){oi:Oper}{v:Value}{a':Act}{Z:World->Prop}(hS:S w)(z:∀w,S w->Z w)(h:wpAnyH P md ops Q S fuel (listed.setIfInBounds i true) a' w)(hi:ops[i]?=some oi:=by simp;rfl)(hs:Region.noSelect ops=true:=by kernel_rfl)(hf:Region.free md ops listed i=true:=by kernel_rfl)(hr:(Region.ready md ops listed).contains i=true:=by kernel_rfl)(hg:Region.wanted oi (yielded ops a.tmps)=true:=by rfl)(hy:∀w,Z w->(execOp a.eval oi).run P w=.ok (.value v) w:=by intro w z;go_simp;with_reducible rfl)(ha:a.put oi.dst v=a':=by simp only[Act.put,zA,zB,zC];with_reducible rfl)(hQ:∀c a w,Q (.panic c) (a.put oi.dst v) w->Q (.panic c) a w:=by exact fun _ _ _ h=>h):wpAnyH P md ops Q S (fuel+1) listed a w :=
 dz hi hs hf hr hQ (.inl ⟨hg,fun w s=>hy w (z w s)⟩) hS (ha ▸ h)
theorem dA (i:Nat){oi:Oper}{a':Act}(hS:S w)(h:wpAnyH P md ops Q S fuel (listed.setIfInBounds i true) a' w)(hi:ops[i]?=some oi:=by simp;rfl)(hs:Region.noSelect ops=true:=by kernel_rfl)(hf:Region.free md ops listed i=true:=by kernel_rfl)(hr:(Region.ready md ops listed).contains i=true:=by kernel_rfl)(hg:Region.wanted oi (yielded ops a.tmps)=false:=by rfl)(ha:a.put oi.dst undef=a':=by simp only[Act.put,zA,zB,zC];with_reducible rfl)(hQ:∀c a w,Q (.panic c) (a.put oi.dst undef) w->Q (.panic c) a w:=by exact fun _ _ _ h=>h):wpAnyH P md ops Q S (fuel+1) listed a w :=
 dz hi hs hf hr hQ (.inr ⟨hg,rfl⟩) hS (ha ▸ h)
theorem iA (i:Nat){oi:Oper}(h:∀K':Act->World->Prop,Shut (∀a w,S w->(S w->wpAnyH P md ops Q S fuel (listed.setIfInBounds i true) a w)->K' a w)->if Region.wanted oi (yielded ops a.tmps)=true then Oper.wp P oi a w K' Q else K' (a.put oi.dst undef) w)(hi:ops[i]?=some oi:=by simp;rfl)(hr:Region.ready md ops listed=[i]:=by kernel_rfl):wpAnyH P md ops Q S (fuel+1) listed a w :=
 ck hr (by simp) (bu hi h bO)
theorem GU (i:Nat){oi:Oper}{ty:TypeId}{x:Operand}{p v:Value}{a':Act}(hS:S w)(dM:∀w,S w->(Instr.loadAt ty p).run P w=.ok v w)(h:wpAnyH P md ops Q S fuel (listed.setIfInBounds i true) a' w)(hi:ops[i]?=some oi:=by simp;rfl)(ho:oi.op=.load ty x:=by rfl)(hx:a.eval x=p:=by rfl)(hs:Region.noSelect ops=true:=by kernel_rfl)(hf:Region.free md ops listed i=true:=by kernel_rfl)(hr:(Region.ready md ops listed).contains i=true:=by kernel_rfl)(hg:Region.wanted oi (yielded ops a.tmps)=true:=by rfl)(ha:a.put oi.dst v=a':=by simp only[Act.put,zA,zB,zC];with_reducible rfl)(hQ:∀c a w,Q (.panic c) (a.put oi.dst v) w->Q (.panic c) a w:=by exact fun _ _ _ h=>h):wpAnyH P md ops Q S (fuel+1) listed a w :=
 dz hi hs hf hr hQ (.inl ⟨hg,fun w s=>by unfold execOp;simp only[ho,hx,aU,dM w s,aH,bQ]⟩) hS (ha ▸ h)
theorem zD {fuel:Nat}(h:Q .normal a w)(hr:Region.ready md ops listed=[]:=by kernel_rfl):wpAnyH P md ops (NoPanic Q) S fuel listed a w :=
 wpAnyH_done hr (lq h) _
theorem zR {id:Nat}(S:World->Prop)(hS:S w.drew)(h:S w.drew->wpAnyH P .any ops (NoPanic Q) S ops.size (Array.replicate ops.size false) a w.drew)(hm:P.follows .mixedOrders=true:=by kernel_rfl):(Code.region id ops true).wp P Q a w :=
 jg (wp_region_held_drew hm hS h)
theorem zS {id:Nat}(w:World)(h:Below w.heap.size w w.drew->wpAnyH P .any ops (NoPanic Q) (fun w'=>Below w.heap.size w w') ops.size (Array.replicate ops.size false) a w.drew)(hm:P.follows .mixedOrders=true:=by kernel_rfl):(Code.region id ops true).wp P Q a w :=
 jg (wp_region_held_drew hm ⟨rfl,rfl,rfl,az _,fun _ _=>rfl⟩ h)
theorem fI (i j:Nat){oi oj:Oper}{vi vj:Value}{ai aj:Act}(hS:S w)(h:wpAnyH P md ops Q S fuel ((listed.setIfInBounds i true).setIfInBounds j true) aj w)(hii:ops[i]?=some oi:=by simp;rfl)(hs:Region.noSelect ops=true:=by kernel_rfl)(hfi:Region.free md ops listed i=true:=by kernel_rfl)(hri:(Region.ready md ops listed).contains i=true:=by kernel_rfl)(hgi:Region.wanted oi (yielded ops a.tmps)=true:=by rfl)(hyi:∀w,(execOp a.eval oi).run P w=.ok (.value vi) w:=by intro w;go_simp;with_reducible rfl)(hai:a.put oi.dst vi=ai:=by simp only[Act.put,zA,zB,zC];with_reducible rfl)(hQi:∀c a w,Q (.panic c) (a.put oi.dst vi) w->Q (.panic c) a w:=by exact fun _ _ _ h=>h)(Jk:ops[j]?=some oj:=by simp;rfl)(hfj:Region.free md ops (listed.setIfInBounds i true) j=true:=by kernel_rfl)(hrj:(Region.ready md ops (listed.setIfInBounds i true)).contains j=true:=by kernel_rfl)(hgj:Region.wanted oj (yielded ops ai.tmps)=true:=by rfl)(hyj:∀w,(execOp ai.eval oj).run P w=.ok (.value vj) w:=by intro w;go_simp;with_reducible rfl)(haj:ai.put oj.dst vj=aj:=by simp only[Act.put,zA,zB,zC];with_reducible rfl)(hQj:∀c a w,Q (.panic c) (a.put oj.dst vj) w->Q (.panic c) a w:=by exact fun _ _ _ h=>h):wpAnyH P md ops Q S (fuel+1+1) listed a w :=
 tk i hS (tk j hS h Jk hs hfj hrj hgj hyj haj hQj) hii hs hfi hri hgi hyi hai hQi
theorem gh (i j k:Nat){oi oj ok:Oper}{vi vj vk:Value}{ai aj ak:Act}(hS:S w)(h:wpAnyH P md ops Q S fuel (((listed.setIfInBounds i true).setIfInBounds j true).setIfInBounds k true) ak w)(hii:ops[i]?=some oi:=by simp;rfl)(hs:Region.noSelect ops=true:=by kernel_rfl)(hfi:Region.free md ops listed i=true:=by kernel_rfl)(hri:(Region.ready md ops listed).contains i=true:=by kernel_rfl)(hgi:Region.wanted oi (yielded ops a.tmps)=true:=by rfl)(hyi:∀w,(execOp a.eval oi).run P w=.ok (.value vi) w:=by intro w;go_simp;with_reducible rfl)(hai:a.put oi.dst vi=ai:=by simp only[Act.put,zA,zB,zC];with_reducible rfl)(hQi:∀c a w,Q (.panic c) (a.put oi.dst vi) w->Q (.panic c) a w:=by exact fun _ _ _ h=>h)(Jk:ops[j]?=some oj:=by simp;rfl)(hfj:Region.free md ops (listed.setIfInBounds i true) j=true:=by kernel_rfl)(hrj:(Region.ready md ops (listed.setIfInBounds i true)).contains j=true:=by kernel_rfl)(hgj:Region.wanted oj (yielded ops ai.tmps)=true:=by rfl)(hyj:∀w,(execOp ai.eval oj).run P w=.ok (.value vj) w:=by intro w;go_simp;with_reducible rfl)(haj:ai.put oj.dst vj=aj:=by simp only[Act.put,zA,zB,zC];with_reducible rfl)(hQj:∀c a w,Q (.panic c) (a.put oj.dst vj) w->Q (.panic c) a w:=by exact fun _ _ _ h=>h)(Jj:ops[k]?=some ok:=by simp;rfl)(hfk:Region.free md ops ((listed.setIfInBounds i true).setIfInBounds j true) k=true:=by kernel_rfl)(hrk:(Region.ready md ops ((listed.setIfInBounds i true).setIfInBounds j true)).contains k=true:=by kernel_rfl)(YB:Region.wanted ok (yielded ops aj.tmps)=true:=by rfl)(hyk:∀w,(execOp aj.eval ok).run P w=.ok (.value vk) w:=by intro w;go_simp;with_reducible rfl)(hak:aj.put ok.dst vk=ak:=by simp only[Act.put,zA,zB,zC];with_reducible rfl)(hQk:∀c a w,Q (.panic c) (a.put ok.dst vk) w->Q (.panic c) a w:=by exact fun _ _ _ h=>h):wpAnyH P md ops Q S (fuel+1+1+1) listed a w :=
 tk i hS (tk j hS (tk k hS h Jj hs hfk hrk YB hyk hak hQk) Jk hs hfj hrj hgj hyj haj hQj) hii hs hfi hri hgi hyi hai hQi
theorem gu (i j k l:Nat){oi oj ok ol:Oper}{vi vj vk vl:Value}{ai aj ak al:Act}(hS:S w)(h:wpAnyH P md ops Q S fuel ((((listed.setIfInBounds i true).setIfInBounds j true).setIfInBounds k true).setIfInBounds l true) al w)(hii:ops[i]?=some oi:=by simp;rfl)(hs:Region.noSelect ops=true:=by kernel_rfl)(hfi:Region.free md ops listed i=true:=by kernel_rfl)(hri:(Region.ready md ops listed).contains i=true:=by kernel_rfl)(hgi:Region.wanted oi (yielded ops a.tmps)=true:=by rfl)(hyi:∀w,(execOp a.eval oi).run P w=.ok (.value vi) w:=by intro w;go_simp;with_reducible rfl)(hai:a.put oi.dst vi=ai:=by simp only[Act.put,zA,zB,zC];with_reducible rfl)(hQi:∀c a w,Q (.panic c) (a.put oi.dst vi) w->Q (.panic c) a w:=by exact fun _ _ _ h=>h)(Jk:ops[j]?=some oj:=by simp;rfl)(hfj:Region.free md ops (listed.setIfInBounds i true) j=true:=by kernel_rfl)(hrj:(Region.ready md ops (listed.setIfInBounds i true)).contains j=true:=by kernel_rfl)(hgj:Region.wanted oj (yielded ops ai.tmps)=true:=by rfl)(hyj:∀w,(execOp ai.eval oj).run P w=.ok (.value vj) w:=by intro w;go_simp;with_reducible rfl)(haj:ai.put oj.dst vj=aj:=by simp only[Act.put,zA,zB,zC];with_reducible rfl)(hQj:∀c a w,Q (.panic c) (a.put oj.dst vj) w->Q (.panic c) a w:=by exact fun _ _ _ h=>h)(Jj:ops[k]?=some ok:=by simp;rfl)(hfk:Region.free md ops ((listed.setIfInBounds i true).setIfInBounds j true) k=true:=by kernel_rfl)(hrk:(Region.ready md ops ((listed.setIfInBounds i true).setIfInBounds j true)).contains k=true:=by kernel_rfl)(YB:Region.wanted ok (yielded ops aj.tmps)=true:=by rfl)(hyk:∀w,(execOp aj.eval ok).run P w=.ok (.value vk) w:=by intro w;go_simp;with_reducible rfl)(hak:aj.put ok.dst vk=ak:=by simp only[Act.put,zA,zB,zC];with_reducible rfl)(hQk:∀c a w,Q (.panic c) (a.put ok.dst vk) w->Q (.panic c) a w:=by exact fun _ _ _ h=>h)(hil:ops[l]?=some ol:=by simp;rfl)(MD:Region.free md ops (((listed.setIfInBounds i true).setIfInBounds j true).setIfInBounds k true) l=true:=by kernel_rfl)(hrl:(Region.ready md ops (((listed.setIfInBounds i true).setIfInBounds j true).setIfInBounds k true)).contains l=true:=by kernel_rfl)(hgl:Region.wanted ol (yielded ops ak.tmps)=true:=by rfl)(hyl:∀w,(execOp ak.eval ol).run P w=.ok (.value vl) w:=by intro w;go_simp;with_reducible rfl)(u_:ak.put ol.dst vl=al:=by simp only[Act.put,zA,zB,zC];with_reducible rfl)(hQl:∀c a w,Q (.panic c) (a.put ol.dst vl) w->Q (.panic c) a w:=by exact fun _ _ _ h=>h):wpAnyH P md ops Q S (fuel+1+1+1+1) listed a w :=
 tk i hS (tk j hS (tk k hS (tk l hS h hil hs MD hrl hgl hyl u_ hQl) Jj hs hfk hrk YB hyk hak hQk) Jk hs hfj hrj hgj hyj haj hQj) hii hs hfi hri hgi hyi hai hQi
end
section
variable {P:Program} {ops:Array Oper} {rest:List Oper} {o:Oper} {a a':Act} {w w':World} {Q:Exit->Act->World->Prop}
theorem agq (jt:Region.wanted o (yielded ops a.tmps)=true){v:Value}(dM:(execOp a.eval o).run P w=.ok (.value v) w')(h:wpList P ops Q rest (a.put o.dst v) w'):wpList P ops Q (o :: rest) a w :=
 wpList_step fun K hK=>by
  rw[aE jt];unfold Oper.wp;rw[dM];exact hK _ _ h
theorem akz (jt:Region.wanted o (yielded ops a.tmps)=true)(dM:(execOp a.eval o).run P w=.ok .skip w')(h:wpList P ops Q rest (a.put o.dst undef) w'):wpList P ops Q (o :: rest) a w :=
 wpList_step fun K hK=>by
  rw[aE jt];unfold Oper.wp;rw[dM];exact hK _ _ h
theorem qo (ty:TypeId){x y:Operand}{p v:Value}(dM:(Instr.storeAt ty p v).run P w=.ok () w')(h:wpList P ops Q rest a w')(jt:Region.wanted o (yielded ops a.tmps)=true:=by rfl)(ho:o.op=.store ty x y:=by rfl)(hd:o.dst=none:=by rfl)(hx:a.eval x=p:=by rfl)(hy:a.eval y=v:=by rfl):wpList P ops Q (o :: rest) a w :=
 akz (w':=w') jt (by unfold execOp;simp only[ho,hx,hy,aU,dM,aH,bQ]) (by rw[hd];exact h)
theorem lJ (ty:TypeId){x:Operand}{p v:Value}(dM:(Instr.loadAt ty p).run P w=.ok v w)(h:wpList P ops Q rest a' w)(jt:Region.wanted o (yielded ops a.tmps)=true:=by rfl)(ho:o.op=.load ty x:=by rfl)(hx:a.eval x=p:=by rfl)(ha:a.put o.dst v=a':=by simp only[Act.put,zA,zB,zC];with_reducible rfl):wpList P ops Q (o :: rest) a w :=
 agq jt (by unfold execOp;simp only[ho,hx,aU,dM,aH,bQ]) (ha ▸ h)
theorem xk (ty:TypeId){v:Value}(dM:(Instr.alloc ty true (.tuple #[])).run P w=.ok v w')(h:wpList P ops Q rest a' w')(jt:Region.wanted o (yielded ops a.tmps)=true:=by rfl)(ho:o.op=.alloc ty:=by rfl)(ha:a.put o.dst v=a':=by simp only[Act.put,zA,zB,zC];with_reducible rfl):wpList P ops Q (o :: rest) a w :=
 agq jt (by unfold execOp;simp only[ho,aU,dM,aH,bQ]) (ha ▸ h)
end
theorem zH {p:Prop}(h:p):Hid p:=h
theorem rf {p q:Prop}(a:p)(b:q):Hid (p/\q):=⟨a,b⟩
theorem Av {p q r:Prop}(a:p)(b:q)(c:r):Hid (p/\q/\r):=⟨a,b,c⟩
theorem zH4 {p q r s:Prop}(a:p)(b:q)(c:r)(d:s):Hid (p/\q/\r/\s):=⟨a,b,c,d⟩
theorem zH5 {p q r s t:Prop}(a:p)(b:q)(c:r)(d:s)(e:t):Hid (p/\q/\r/\s/\t):=⟨a,b,c,d,e⟩
theorem zH6 {p q r s t u:Prop}(a:p)(b:q)(c:r)(d:s)(e:t)(f:u):Hid (p/\q/\r/\s/\t/\u):=⟨a,b,c,d,e,f⟩
theorem zE {α:Sort _}(a:α):∃b,a=b:=⟨a,rfl⟩
