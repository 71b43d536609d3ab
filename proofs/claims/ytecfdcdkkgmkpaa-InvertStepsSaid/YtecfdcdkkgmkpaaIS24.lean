/- Part 24. Conditions: as each theorem says. -/
import Derived.Test.YtecfdcdkkgmkpaaIS23
import Derived.Test.YtecfdcdkkgmkpaaProg
set_option maxRecDepth 100000
namespace Go.Proofs.Ytecfdcdkkgmkpaa
open Go.RowKit
section
open Go.ChangeShapes Go.WideShapes Go.ChangeAt Go.RowKit
section
variable{H:Type}{enc:TypeId×Value->H}{w:World}{base:Nat}{spare:Nat->Bool}{held:Bool}
theorem J5:Try.prog.cellsOf 32=21:=by kernel_rfl
theorem Q2:Try.prog.cellsOf 61=22:=by kernel_rfl
theorem Q0:Try.prog.cellsOf 76=30:=by kernel_rfl
theorem Q5:Try.prog.cellsOf 65=28:=by kernel_rfl
theorem SX:Try.prog.cellsOf 4=1:=by kernel_rfl
theorem RE:Try.prog.cellsOf 28=1:=by kernel_rfl
theorem RH:Try.prog.cellsOf 29=1:=by kernel_rfl
theorem RO:Try.prog.cellsOf 30=1:=by kernel_rfl
theorem J2{fuel:Nat}{cs:List Value}{x:DataW H×List MemPlace}(h:DataW.trod enc Try.prog w base spare held fuel 27 cs=some x):∃ v:Vl,Fits w (Old w) (vd v) cs/\v.Fine:=by
 obtain⟨v,h1,h2⟩:=RP fuel cs x h
 exact⟨v,D7 v▸h1,h2⟩
set_option maxHeartbeats 1000000 in
theorem TT:∀ (fuel:Nat) (cs:List Value) (x:DataW H×List MemPlace),DataW.trod enc Try.prog w base spare held fuel 32 cs=some x -> ∃ e:Ed,Fits w (Old w) (ed e) cs/\e.Fine:=by
 intro fuel
 induction fuel using Nat.strongRecOn with
 | ind fuel ih=>
  intro cs x h
  obtain⟨xs,m,rfl,_,hcl,hxl,hf⟩:=DataW.trod_struct Try.underlying32 h
  rw[J5]at hcl
  match cs,hcl,xs,hxl with
  | [c0,a0,a1,a2,a3,a4,a5,a6,b0,b1,b2,b3,b4,b5,b6,c15,c16,c17,c18,c19,c20],_,[y0,y1,y2,y3,y4,y5,y6,y7,y8],_=>
   have h0:DataW.trod enc Try.prog w base spare held m 3 [c0]=some y0:=by simpa[ER]using hf 0 _ rfl
   have h1:DataW.trod enc Try.prog w base spare held m 27 [a0,a1,a2,a3,a4,a5,a6]=some y1:=by simpa[DQ]using hf 1 _ rfl
   have h2:DataW.trod enc Try.prog w base spare held m 27 [b0,b1,b2,b3,b4,b5,b6]=some y2:=by simpa[DQ]using hf 2 _ rfl
   have h3:DataW.trod enc Try.prog w base spare held m 28 [c15]=some y3:=by simpa[RE]using hf 3 _ rfl
   have h4:DataW.trod enc Try.prog w base spare held m 4 [c16]=some y4:=by simpa[SX]using hf 4 _ rfl
   have h5:DataW.trod enc Try.prog w base spare held m 9 [c17]=some y5:=by simpa[HE]using hf 5 _ rfl
   have h6:DataW.trod enc Try.prog w base spare held m 9 [c18]=some y6:=by simpa[HE]using hf 6 _ rfl
   have h7:DataW.trod enc Try.prog w base spare held m 29 [c19]=some y7:=by simpa[RH]using hf 7 _ rfl
   have h8:DataW.trod enc Try.prog w base spare held m 30 [c20]=some y8:=by simpa[RO]using hf 8 _ rfl
   obtain⟨k,e0,_,wk⟩:=DataW.trod_int Try.underlying3 h0
   obtain⟨vo,fo,Fo⟩:=J2 h1
   obtain⟨vn,fn,Fn⟩:=J2 h2
   obtain⟨r,e4,_⟩:=DataW.trod_bool Try.underlying4 h4
   obtain⟨s,e5,_,ws⟩:=DataW.trod_string Try.underlying9 h5
   obtain⟨t,e6,_,wt⟩:=DataW.trod_string Try.underlying9 h6
   obtain⟨pf,fs,cf,e3,lf,ff,mf,mf'⟩:=EV (f:=DM) (F:=fun p:Int×Ed=>I64 p.1/\p.2.Fine) Try.underlying28 (by omega) Q2 E4 (fun n hn cs x hx=>by
    obtain⟨zs,q,rfl,_,hzl,hql,hg⟩:=DataW.trod_struct Try.underlying61 hx
    rw[Q2]at hzl
    match cs,hzl,zs,hql with
    | d0::ds,hds,[u0,u1],_=>
     have hds:ds.length=21:=by simpa using hds
     have g0:DataW.trod enc Try.prog w base spare held q 3 [d0]=some u0:=by simpa[ER]using hg 0 _ rfl
     have g1:DataW.trod enc Try.prog w base spare held q 32 ds=some u1:=by
      have:=hg 1 _ rfl
      change DataW.trod _ _ _ _ _ _ _ 32 (ds.take (Try.prog.cellsOf 32))=some u1 at this
      rw[J5]at this
      rwa [List.take_of_length_le (by omega)]at this
     obtain⟨b,e,_,wb⟩:=DataW.trod_int Try.underlying3 g0
     obtain⟨v,hv,hV⟩:=ih q (by omega) ds u1 g1
     simp only[List.cons.injEq,and_true]at e
     subst e
     exact⟨(b,v),DH (b,v)▸.cons (.cell _) hv,HY wb,hV⟩) h3
   obtain⟨ps,ss,cp,e7,ls,fsn,ms,ms'⟩:=EV (f:=BC) (F:=fun p:(Int×Int×Vl)×Ed=>(I64 p.1.1/\I64 p.1.2.1/\p.1.2.2.Fine)/\p.2.Fine) Try.underlying29 (by omega) Q0 CA (fun n hn cs x hx=>by
    obtain⟨zs,q,rfl,_,hzl,hql,hg⟩:=DataW.trod_struct Try.underlying76 hx
    rw[Q0]at hzl
    match cs,hzl,zs,hql with
    | d0::d1::ds,hds,[u0,u1,u2,u3],_=>
     have hds:ds.length=28:=by simpa using hds
     have g0:DataW.trod enc Try.prog w base spare held q 3 [d0]=some u0:=by simpa[ER]using hg 0 _ rfl
     have g1:DataW.trod enc Try.prog w base spare held q 3 [d1]=some u1:=by simpa[ER]using hg 1 _ rfl
     have g2:DataW.trod enc Try.prog w base spare held q 27 (ds.take 7)=some u2:=by
      have:=hg 2 _ rfl
      change DataW.trod _ _ _ _ _ _ _ 27 (ds.take (Try.prog.cellsOf 27))=some u2 at this
      rwa [DQ]at this
     have g3:DataW.trod enc Try.prog w base spare held q 32 (ds.drop 7)=some u3:=by
      have:=hg 3 _ rfl
      change DataW.trod _ _ _ _ _ _ _ 32 ((ds.drop 7).take (Try.prog.cellsOf 32))=some u3 at this
      rw[J5]at this
      rwa [List.take_of_length_le (by rw[List.length_drop];omega)]at this
     obtain⟨b,e,_,wb⟩:=DataW.trod_int Try.underlying3 g0
     obtain⟨c,e',_,wc⟩:=DataW.trod_int Try.underlying3 g1
     obtain⟨z,hz,hZ⟩:=J2 g2
     obtain⟨v,hv,hV⟩:=ih q (by omega) _ u3 g3
     simp only[List.cons.injEq,and_true]at e e'
     subst e e'
     refine⟨((b,c,z),v),?_,⟨HY wb,HY wc,hZ⟩,hV⟩
     rw[C0]
     have:=hz.append hv
     rw[List.take_append_drop]at this
     exact .cons (.cell _) (.cons (.cell _) this)) h7
   obtain⟨pk,kk,ck,e8,lk,fk,mk,mk'⟩:=EV (f:=DR) (F:=fun p:Vl×Ed=>p.1.Fine/\p.2.Fine) Try.underlying30 (by omega) Q5 E3 (fun n hn cs x hx=>by
    obtain⟨zs,q,rfl,_,hzl,hql,hg⟩:=DataW.trod_struct Try.underlying65 hx
    rw[Q5]at hzl
    match zs,hql with
    | [u0,u1],_=>
     have g0:=hg 0 _ rfl
     have g1:=hg 1 _ rfl
     change DataW.trod _ _ _ _ _ _ _ 27 (cs.take (Try.prog.cellsOf 27))=some u0 at g0
     change DataW.trod _ _ _ _ _ _ _ 32 ((cs.drop 7).take (Try.prog.cellsOf 32))=some u1 at g1
     rw[DQ]at g0
     rw[J5]at g1
     obtain⟨a,ha,hA⟩:=J2 g0
     obtain⟨b,hb,hB⟩:=ih q (by omega) _ u1 g1
     refine⟨(a,b),?_,hA,hB⟩
     have:=ha.append hb
     rw[List.take_of_length_le (l:=cs.drop 7) (by rw[List.length_drop];omega),List.take_append_drop]at this
     exact DP (a,b)▸this) h8
   simp only[List.cons.injEq,and_true]at e0 e3 e4 e5 e6 e7 e8
   subst e0 e3 e4 e5 e6 e7 e8
   have ls1:Lies w (Old w) (.cell (.string (str s.data.toList))) (.string s):=by rw[G8];exact .cell _
   have ls2:Lies w (Old w) (.cell (.string (str t.data.toList))) (.string t):=by rw[G8];exact .cell _
   refine⟨.mk k vo vn fs r s.data.toList t.data.toList ss kk,.cons (.cell _) (fo.append (fn.append (.cons lf (.cons (.cell _) (.cons ls1 (.cons ls2 (.cons ls (.cons lk (.nil _ _))))))))),
    .mk _ (HY wk) Fo Fn ⟨by show s.data.toList.length<=maxLen;simpa using ws,by show t.data.toList.length<=maxLen;simpa using wt,by show fs.length<=_;omega,by show ss.length<=_;omega,by show kk.length<=_;omega⟩ (fun p hp=>(ff p hp).1) (fun p hp=>(fsn p hp).1) (fun p hp=>(fk p hp).1) (fun x hx=>?_)⟩
   rcases List.mem_append.1 hx with hx | hx
   ·obtain⟨p,hp,rfl⟩:=List.mem_map.1 hx
    exact(ff p hp).2
   rcases List.mem_append.1 hx with hx | hx
   ·obtain⟨p,hp,rfl⟩:=List.mem_map.1 hx
    exact(fsn p hp).2
   ·obtain⟨p,hp,rfl⟩:=List.mem_map.1 hx
    exact(fk p hp).2
theorem QD{r:Reach}{b0:Nat}{v:Value}{d:DataW H}{ps:List MemPlace}(hval:Value.okWide Try.prog w r b0 32 v)(h:DataW.Trod enc Try.prog w base spare held 32 v d ps):
  ∃ (x:Ed) (cs:List Value),v=.agg cs.toArray/\Fits w (Old w) (ed x) cs/\x.Fine:=by
 obtain⟨cs,rfl,_⟩:=okWide_struct Try.underlying32 hval
 obtain⟨fuel,hf⟩:=h
 obtain⟨x,hx,hF⟩:=TT fuel _ _ hf
 refine⟨x,cs.toList,by simp,?_,hF⟩
 simpa[Value.cells]using hx
end
end
end Go.Proofs.Ytecfdcdkkgmkpaa
