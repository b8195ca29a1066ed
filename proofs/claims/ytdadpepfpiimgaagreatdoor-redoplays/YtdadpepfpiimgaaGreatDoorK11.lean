import Derived.Test.YtdadpepfpiimgaaGreatDoorK10
import Derived.Shelf.SlIterI.Nil
import Derived.Shelf.SortM.Plain
import Derived.Shelf.SortM.SortNone
set_option maxHeartbeats 20000000
set_option maxRecDepth 100000
namespace Go.Proofs.YtdadpepfpiimgaaGreatDoor
theorem homes_len (n:Nat):(homes n).length=64*n:=by
 induction n with
 | zero=>rfl
 | succ n ih=>rw[homes_succ,List.length_append,ih,homeS_len _ (zs_len 32)];omega
theorem cntS_is {s:Sup}(h:MayC s):((cntS s:Nat):Int)=1+s.bl+s.lc:=by have:=h.1;have:=h.2.1;unfold cntS;omega
theorem log0_wf:log0.Wf:=⟨by decide,by decide,by decide,TxsWf.nil,Nat.zero_le _,fun x hx=>by cases hx⟩
theorem scanS_ok {c:Sup}{n:Int}{rd:Nat→List Int}(hb:∀i,Bytes (rd i))(h:(supOf c n rd).2=0):Sc.Ok c.mr (supOf c n rd).1.tail c.lc.toNat (scRun (stS c rd) c.mr c.lc.toNat (supOf c n rd).1.tail ⟨[],(supOf c n rd).1.tail,[]⟩):=by
 obtain ⟨h1,h2,h3,h4,h5⟩:=supOf_zero h
 have hm:=(decS_good _ h3).1
 have hw:=decS_wf _ (hb 0)
 rw[h5]
 have ht:=hw.tail
 have hT:=hm.2.1
 have:=Sc.Ok.run (st:=stS c rd) (mr:=c.mr) (t:=(decS (rd 0)).1.tail) (by have:=h1.2.2.1.1;omega) ht.1 (fun p=>stS_wf hb) c.lc.toNat 0 ⟨[],(decS (rd 0)).1.tail,[]⟩ (Sc.Ok.start (by have:=h1.2.2.1.1;omega) _) (by have:=h1.2.1.2;omega)
 rw[show (decS (rd 0)).1.tail+((0:Nat):Int)=(decS (rd 0)).1.tail by omega,Nat.zero_add] at this
 exact this
theorem rdL_wf {c:Sup}{n:Int}{rd:Nat→List Int}(hb:∀i,Bytes (rd i)):(rdL c n rd).1.Wf:=by
 by_cases h:(supOf c n rd).2=0
 ·rw[rdL_ok h]
  obtain ⟨h1,h2,h3,h4,h5⟩:=supOf_zero h
  have k:Sc.Ok c.mr (decS (rd 0)).1.tail c.lc.toNat (scRun (stS c rd) c.mr c.lc.toNat (decS (rd 0)).1.tail ⟨[],(decS (rd 0)).1.tail,[]⟩):=by
   have:=scanS_ok hb h
   rw[h5] at this
   exact this
  have hm:=(decS_good _ h3).1
  have hw:=decS_wf _ (hb 0)
  rw[h5]
  show (scanS c rd (decS (rd 0)).1).Wf
  have ht:=hw.tail;have hT:=hm.2.1;have hl:=hw.life
  have hlc:=h1.2.1
  have hmr:=h1.2.2.1
  refine⟨ht,hl,⟨by have:=k.f0;show 0≤(scRun _ _ _ _ _).fin;omega,by have:=k.f1;show (scRun _ _ _ _ _).fin≤_;omega⟩,k.tw,by have:=k.tl;show (scRun _ _ _ _ _).txs.length≤_;omega,fun x hx=>by have:=k.cm x hx;omega⟩
 ·rw[rdL_no h];exact log0_wf
theorem withS_wf {l:List Im}{x:Im}(h:ImsWf l)(hx:x.Wf):ImsWf (withS l x):=by
 induction l with
 | nil=>intro z hz;rw[show z=x by simpa [withS] using hz];exact hx
 | cons y l ih =>
  have hy:=h y (List.mem_cons.2 (.inl rfl))
  have hl:ImsWf l:=fun z hz=>h z (List.mem_cons.2 (.inr hz))
  rcases Int.lt_trichotomy y.b x.b with c | c | c
  ·rw[withS_lt l c];intro z hz
   rcases List.mem_cons.1 hz with e | hz
   ·rw[e];exact hy
   ·exact ih hl z hz
  ·rw[withS_eq l c];exact h
  ·rw[withS_gt l c];intro z hz
   rcases List.mem_cons.1 hz with e | hz
   ·rw[e];exact hx
   ·exact h z hz
theorem withS_len (l:List Im)(x:Im):(withS l x).length≤l.length+1:=by
 induction l with
 | nil=>simp[withS]
 | cons y l ih =>
  rcases Int.lt_trichotomy y.b x.b with c | c | c
  ·rw[withS_lt l c];simp only[List.length_cons];omega
  ·rw[withS_eq l c];omega
  ·rw[withS_gt l c];simp only[List.length_cons];omega
theorem nwS_wf:∀{l},ImsWf l→ImsWf (nwS l)
 | [],_=>ImsWf.nil
 | x :: _,h=>withS_wf (nwS_wf fun z hz=>h z (List.mem_cons.2 (.inr hz))) (h x (List.mem_cons.2 (.inl rfl)))
theorem nwS_len:∀l,(nwS l).length≤l.length
 | []=>Nat.le_refl _
 | x :: xs=>by
  have:=withS_len (nwS xs) x;have:=nwS_len xs
  show (withS (nwS xs) x).length≤xs.length+1
  omega
theorem newS_sup (s:Sup):sec (newS s) 0=encS (sup1 s):=by
 have:=encS_len (sup1 s)
 unfold newS sec
 rw[Nat.mul_zero,List.drop_zero,List.append_assoc,List.take_append_of_le_length (by omega),List.take_of_length_le (by omega)]
theorem newS_log (s:Sup)(i:Nat)(h1:1+s.bl.toNat≤i)(h2:i<cntS s):sec (newS s) i=zs 64:=by
 have e1:=encS_len (sup1 s);have e2:=homes_len s.bl.toNat
 unfold cntS at h2
 unfold newS sec
 have hl:(encS (sup1 s)++homes s.bl.toNat).length=64*(1+s.bl.toNat):=by rw[List.length_append,e1,e2];omega
 rw[List.drop_append,hl,List.drop_of_length_le (by rw[hl];omega),List.nil_append]
 unfold zs
 rw[List.drop_replicate,List.take_replicate]
 congr 1
 omega
theorem zs64_no:(R.decS (zs 64)).2≠0:=by decide
open Go.RowKit
theorem supOf_new {c:Sup}(h:MayC c){rd:Nat→List Int}(h0:rd 0=encS (sup1 c)):supOf c (cntS c) rd=(sup1 c,0):=by
 have e:decS (rd 0)=(sup1 c,0):=by rw[h0];exact decS_encS _ (sup1_wf h) (sup1_may h)
 rw[supOf_ok h (cntS_is h) (by rw[e]) (by rw[e];exact⟨rfl,rfl,rfl,rfl,rfl⟩),e]
theorem rdL_new {c:Sup}(h:MayC c){rd:Nat→List Int}(h0:rd 0=encS (sup1 c)){s:Sc}(hs:scRun (stS c rd) c.mr c.lc.toNat 0 ⟨[],0,[]⟩=s):rdL c (cntS c) rd=(⟨0,1,s.fin,s.txs⟩,0):=by
 have e:=supOf_new h h0
 rw[rdL_ok (by rw[e]),e]
 show (scanS c rd (sup1 c),(0:Int))=_
 unfold scanS
 show ((⟨0,1,(scRun (stS c rd) c.mr c.lc.toNat 0 ⟨[],0,[]⟩).fin,(scRun (stS c rd) c.mr c.lc.toNat 0 ⟨[],0,[]⟩).txs⟩:LogS),(0:Int))=_
 rw[hs]
theorem st_blank {c:Sup}{rd:Nat→List Int}{p:Int}(h:rd (1+c.bl+p % c.lc).toNat=zs 64):(stS c rd p).2=false:=by
 rw[stS_no fun k=>zs64_no (by rw[← h];exact k.1)]
end Go.Proofs.YtdadpepfpiimgaaGreatDoor
