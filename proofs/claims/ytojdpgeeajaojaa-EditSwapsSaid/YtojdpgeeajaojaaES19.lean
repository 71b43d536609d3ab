/- Part 19. Conditions: as each theorem says. -/
import Derived.Test.YtojdpgeeajaojaaES18
import Derived.ProofKit
import Derived.OpenShut
import Derived.Carry
import Derived.ChangeSame
import Derived.Test.YtojdpgeeajaojaaProg
set_option maxRecDepth 100000
namespace Go.Proofs.Ytojdpgeeajaojaa
open Go.RowKit
section
open Go.ChangeShapes Go.WideShapes Go.ChangeAt Go.RowKit
section
variable{H:Type}{enc:TypeId×Value->H}{P:Program}
theorem O2{x:Int}(h:(Lit.int .u64 x).wf=true):∃ n:Nat,x=(n:Int)/\n<18446744073709551616:=by
 have h1:IntKind.u64.min=0:=rfl
 have h2:IntKind.u64.max=18446744073709551615:=rfl
 simp only[Lit.wf,Bool.and_eq_true,decide_eq_true_eq]at h
 exact⟨x.toNat,by omega,by omega⟩
theorem O8{x:Int}(h:(Lit.int .i64 x).wf=true):-9223372036854775808<=x/\x<9223372036854775808:=by
 have h1:IntKind.i64.min = -9223372036854775808:=rfl
 have h2:IntKind.i64.max=9223372036854775807:=rfl
 simp only[Lit.wf,Bool.and_eq_true,decide_eq_true_eq]at h
 omega
theorem FC(hl:laidOutB P=true){W W':World}(hb:Below W.heap.size W W'){sp:Nat->Bool}:∀ {ts:List TypeId} {vs:List Value} {ds:List (DataW H)} {ps:List MemPlace},
  (ts.all fun t=>P.readableRec t&&decide (t<P.types.size))=true->DataW.TrodAll enc P W 0 (fun _=>true) true ts vs ds ps->(∀ p∈ps,p.block<W.heap.size)->(∀ p∈ps,sp p.block=true) ->
  DataW.TrodAll enc P W' 0 sp true ts vs ds ps
 | [],_,_,_,_,h,_,_=>by
  obtain⟨rfl,rfl,rfl⟩:=trodAll_nil h
  exact trodAll_mk0
 | t::ts,_,_,_,ht,h,hlt,hsp=>by
  simp only[List.all_cons,Bool.and_eq_true,decide_eq_true_eq]at ht
  obtain⟨v,vs,d,ds,p,q,rfl,rfl,rfl,h0,hr⟩:=trodAll_cons h
  exact trodAll_cons_mk (WideElems.Trod_stays hl ht.1.1 ht.1.2 h0 (fun x hx=>hb.same (hlt x (List.mem_append_left _ hx))) (fun x hx=>hsp x (List.mem_append_left _ hx)))
   (FC hl hb ht.2 hr (fun x hx=>hlt x (List.mem_append_right _ hx)) (fun x hx=>hsp x (List.mem_append_right _ hx)))
theorem NO{f:Func}{s:ChangeSpec}{W W':World}{args:Array Value}{ds:List (DataW H)}{before:List MemPlace}
  (hl:laidOutB P=true) (ht:(f.params.toList.all fun t=>P.readableRec t&&decide (t<P.types.size))=true)
  (hvars:s.vars=[]) (hs:s.fn H (ds++[])={ results:=[.lit (.bool true)],args:=ds }) {tb:TypeId} (hres:f.resultTypes = #[tb]) (hbool:P.underlying tb=some .bool)
  (hW:DataW.Whole enc P f.params.toList s.vars false W args.toList ds [] before)
  (hA:DataW.TrodAll enc P W 0 (fun _=>true) true f.params.toList args.toList ds before) (hb:Below W.heap.size W W'):
  s.post enc P f false true false false W args (.bool true) W':=by
 have hlt:∀ p∈before,p.block<W.heap.size:=fun p hp=>hW.lt p hp
 have e1:(Value.bool true).resultList f.resultTypes.size=[Value.bool true]:=by rw[hres];rfl
 refine⟨ds,[],before,[],before,[],hW,?_,?_,?_,World.keptBut_mono (fun p hp=>⟨hp,by simpa using hp⟩) (hb.frame (· ∈ before)),fun h=>by cases h⟩
 ·rw[hs,e1,hres]
  exact trodAll_mk1 (shut_bool hbool _)
 ·rw[hs]
  exact FC hl hb ht hA hlt (fun p hp=>by simpa using hlt p hp)
 ·rw[hs,hvars]
  rfl
end
end
section
open Go.ChangeShapes Go.WideShapes Go.ChangeAt Go.RowKit
theorem IR(s:ByteArray):str s.data.toList=s:=by
 unfold str
 simp
section
variable{H:Type}{enc:TypeId×Value->H}{w:World}{base:Nat}{spare:Nat->Bool}{held:Bool}
theorem FO:Try.prog.cellsOf 27=7:=by kernel_rfl
theorem L5:Try.prog.cellsOf 44=8:=by kernel_rfl
theorem K8:Try.prog.cellsOf 55=14:=by kernel_rfl
theorem L3:Try.prog.cellsOf 3=1:=by kernel_rfl
theorem N9:Try.prog.cellsOf 22=1:=by kernel_rfl
theorem K9:Try.prog.cellsOf 9=1:=by kernel_rfl
theorem PA:Try.prog.cellsOf 23=1:=by kernel_rfl
theorem P3:Try.prog.cellsOf 24=1:=by kernel_rfl
theorem PD:Try.prog.cellsOf 25=1:=by kernel_rfl
set_option maxHeartbeats 1000000 in
theorem O1:∀ (fuel:Nat) (cs:List Value) (x:DataW H×List MemPlace),DataW.trod enc Try.prog w base spare held fuel 27 cs=some x -> ∃ v:Vl,Fits w (Old w) v.dats cs/\v.Fine:=by
 intro fuel
 induction fuel using Nat.strongRecOn with
 | ind fuel ih=>
  intro cs x h
  obtain⟨xs,m,rfl,_,hcl,hxl,hf⟩:=DataW.trod_struct Try.underlying27 h
  rw[FO]at hcl
  match cs,hcl,xs,hxl with
  | [c0,c1,c2,c3,c4,c5,c6],_,[y0,y1,y2,y3,y4,y5,y6],_=>
   have h0:DataW.trod enc Try.prog w base spare held m 3 [c0]=some y0:=by simpa[L3]using hf 0 _ rfl
   have h1:DataW.trod enc Try.prog w base spare held m 22 [c1]=some y1:=by simpa[N9]using hf 1 _ rfl
   have h2:DataW.trod enc Try.prog w base spare held m 9 [c2]=some y2:=by simpa[K9]using hf 2 _ rfl
   have h3:DataW.trod enc Try.prog w base spare held m 23 [c3]=some y3:=by simpa[PA]using hf 3 _ rfl
   have h4:DataW.trod enc Try.prog w base spare held m 9 [c4]=some y4:=by simpa[K9]using hf 4 _ rfl
   have h5:DataW.trod enc Try.prog w base spare held m 24 [c5]=some y5:=by simpa[P3]using hf 5 _ rfl
   have h6:DataW.trod enc Try.prog w base spare held m 25 [c6]=some y6:=by simpa[PD]using hf 6 _ rfl
   obtain⟨k,e0,_,wk⟩:=DataW.trod_int Try.underlying3 h0
   obtain⟨z,e1,_,wz⟩:=DataW.trod_int Try.underlying22 h1
   obtain⟨s,e2,_,ws⟩:=DataW.trod_string Try.underlying9 h2
   obtain⟨t,e4,_,wt⟩:=DataW.trod_string Try.underlying9 h4
   obtain⟨n,rfl,hn⟩:=O2 wz
   obtain⟨lo,hi⟩:=O8 wk
   obtain⟨pf,fs,cf,e3,lf,ff,mf,mf'⟩:=H8 (f:=fieldDats) (F:=fun f:Int×Vl=>(-9223372036854775808<=f.1/\f.1<9223372036854775808)/\f.2.Fine) Try.underlying23 (by omega) L5 BH (fun n hn cs x hx=>by
    obtain⟨zs,q,rfl,_,hzl,hql,hg⟩:=DataW.trod_struct Try.underlying44 hx
    rw[L5]at hzl
    match cs,hzl,zs,hql with
    | d0::ds,hds,[u0,u1],_=>
     have hds:ds.length=7:=by simpa using hds
     have g0:DataW.trod enc Try.prog w base spare held q 3 [d0]=some u0:=by simpa[L3]using hg 0 _ rfl
     have g1:DataW.trod enc Try.prog w base spare held q 27 ds=some u1:=by
      have:=hg 1 _ rfl
      change DataW.trod _ _ _ _ _ _ _ 27 (ds.take (Try.prog.cellsOf 27))=some u1 at this
      rw[FO]at this
      rwa [List.take_of_length_le (by omega)]at this
     obtain⟨b,e,_,wb⟩:=DataW.trod_int Try.underlying3 g0
     obtain⟨v,hv,hV⟩:=ih q (by omega) ds u1 g1
     simp only[List.cons.injEq,and_true]at e
     subst e
     exact⟨(b,v),.cons (.cell _) hv,O8 wb,hV⟩) h3
   obtain⟨pl,ls,cl,e5,ll,fl,ml,ml'⟩:=H8 (f:=Vl.dats) (F:=Vl.Fine) Try.underlying24 (by omega) FO Vl.dats_len (fun n hn cs x hx=>ih n (by omega) cs x hx) h5
   obtain⟨pp,ps,cp,e6,lp,fp,mp,mp'⟩:=H8 (f:=pairDats) (F:=fun p:Vl×Vl=>p.1.Fine/\p.2.Fine) Try.underlying25 (by omega) K8 BG (fun n hn cs x hx=>by
    obtain⟨zs,q,rfl,_,hzl,hql,hg⟩:=DataW.trod_struct Try.underlying55 hx
    rw[K8]at hzl
    match zs,hql with
    | [u0,u1],_=>
     have g0:=hg 0 _ rfl
     have g1:=hg 1 _ rfl
     change DataW.trod _ _ _ _ _ _ _ 27 (cs.take (Try.prog.cellsOf 27))=some u0 at g0
     change DataW.trod _ _ _ _ _ _ _ 27 ((cs.drop 7).take (Try.prog.cellsOf 27))=some u1 at g1
     rw[FO]at g0 g1
     obtain⟨a,ha,hA⟩:=ih q (by omega) _ u0 g0
     obtain⟨b,hb,hB⟩:=ih q (by omega) _ u1 g1
     refine⟨(a,b),?_,hA,hB⟩
     have:=ha.append hb
     rw[List.take_of_length_le (l:=cs.drop 7) (by rw[List.length_drop];omega),List.take_append_drop]at this
     exact this) h6
   simp only[List.cons.injEq,and_true]at e0 e1 e2 e3 e4 e5 e6
   subst e0 e1 e2 e3 e4 e5 e6
   refine⟨.mk k n s.data.toList fs t.data.toList ls ps,?_,.mk _ lo hi hn (by show s.data.toList.length<=maxLen;simpa using ws) (by show t.data.toList.length<=maxLen;simpa using wt) (by show fs.length<=_;omega) (by show ls.length<=_;omega) (by show ps.length<=_;omega) (fun f hf=>(ff f hf).1) (fun f hf=>(ff f hf).2) fl (fun p hp=>(fp p hp).1) (fun p hp=>(fp p hp).2)⟩
   have:=Vl.shut (v:=.mk k n s.data.toList fs t.data.toList ls ps) lf ll lp
   unfold J2 at this
   rw[Vl.text_mk,Vl.rest_mk,IR,IR]at this
   exact this
theorem GY{r:Reach}{b0:Nat}{v:Value}{d:DataW H}{ps:List MemPlace}(hval:Value.okWide Try.prog w r b0 27 v)(h:DataW.Trod enc Try.prog w base spare held 27 v d ps):
  ∃ (x:Vl) (cs:List Value),v=.agg cs.toArray/\Fits w (Old w) x.dats cs/\x.Fine:=by
 obtain⟨cs,rfl,_⟩:=okWide_struct Try.underlying27 hval
 obtain⟨fuel,hf⟩:=h
 obtain⟨x,hx,hF⟩:=O1 fuel _ _ hf
 refine⟨x,cs.toList,by simp,?_,hF⟩
 simpa[Value.cells]using hx
end
end
end Go.Proofs.Ytojdpgeeajaojaa
