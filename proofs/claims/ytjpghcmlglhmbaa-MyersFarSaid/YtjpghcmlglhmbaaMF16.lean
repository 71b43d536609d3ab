/- Part 16. Conditions: as each theorem says. -/
import Derived.Test.YtjpghcmlglhmbaaMF15
import Derived.ChangeArms
import Derived.Deep.Slices
import Derived.Deep.Fields
import Derived.ChangeSame
import Derived.ProofKit
import Derived.OpenShut
import Derived.Carry
import Derived.Test.YtjpghcmlglhmbaaProg
import Derived.SizedLaws
set_option maxRecDepth 100000
namespace Go.Proofs.Ytjpghcmlglhmbaa
open Go.RowKit
section
theorem KT{α:Type}{f:α->List Dat}{k:Nat}(hk:∀ a,(f a).length=k){qs:List α}{i r:Nat}{a:α}(ha:qs[i]?=some a)(hr:r<k):(qs.flatMap f)[i*k+r]?=(f a)[r]?:=by
 have h:=ED hk qs i a ha
 rw[<- h,List.getElem?_take,if_pos hr,List.getElem?_drop]
def Old(w:World):Nat->Prop:=fun g=>g<w.heap.size
section
variable{H:Type}{enc:TypeId×Value->H}{P:Program}{w:World}{base:Nat}{spare:Nat->Bool}{held:Bool}{fuel:Nat}{t:TypeId}{cs:List Value}{x:DataW H×List MemPlace}
theorem KB{e:TypeId}(ht:P.underlying t=some (.slice e)){k:Nat}(hk0:0<k)(hke:P.cellsOf e=k){α:Type}[Inhabited α]{f:α->List Dat}(hk:∀ a,(f a).length=k){F:α->Prop}
  (elem:∀ n,n<fuel -> ∀ cs x,DataW.trod enc P w base spare held n e cs=some x -> ∃ a,Fits w (Old w) (f a) cs/\F a) (h:DataW.trod enc P w base spare held fuel t cs=some x):
  ∃ p,∃ qs:List α,∃ c,cs=[.slice p qs.length c]/\Lies w (Old w) (.row k qs.length (qs.flatMap f)) (.slice p qs.length c)/\(∀ a∈qs,F a)/\qs.length<=c/\c<=maxLen:=by
 rcases DataW.trod_slice ht h with⟨rfl,_⟩ | ⟨ad,len,cap,elems,rest,n,rfl,rfl,_,hb,hl,hm,hlen,hel,_,_⟩
 ·exact⟨none,[],0,rfl,.none _ _ _,by simp,by simp,by simp⟩
 ·rw[hke]at hel
  have hone:∀ i,i<len -> ∃ y:α×List Value,Fits w (Old w) (f y.1) y.2/\F y.1 /\ ∀ j,j<k->w.cell? (ad.add (i*k+j))=y.2[j]?:=fun i hi=>by
   have key:=hel i hi
   rw[List.getElem?_eq_getElem (by omega)]at key
   obtain⟨cs',h1,h2⟩:=Option.bind_eq_some_iff.1 key
   obtain⟨a,hF,hA⟩:=elem n (by omega) cs' _ h2
   obtain⟨_,_,hat⟩:=World.cells?_some h1
   exact⟨(a,cs'),hF,hA,fun j hj=>by rw[<- Go.Deep.add_add];exact hat j hj⟩
  obtain⟨Y,hY⟩:=Go.Deep.choose_lt (α:=α×List Value) (p:=fun i y=>Fits w (Old w) (f y.1) y.2/\F y.1 /\ ∀ j,j<k->w.cell? (ad.add (i*k+j))=y.2[j]?) hone
  have hlen':((List.range len).map fun i=>(Y i).1).length=len:=by simp
  have hget:∀ i,i<len->((List.range len).map fun i=>(Y i).1)[i]?=some (Y i).1:=fun i hi=>by rw[List.getElem?_map,List.getElem?_range hi];rfl
  refine⟨some ad,(List.range len).map fun i=>(Y i).1,cap,by rw[hlen'],?_,fun a ha=>?_,by omega,hm⟩
  ·rw[hlen']
   rcases Nat.eq_zero_or_pos len with h0 | h0
   ·subst h0
    exact .none _ _ _
   obtain⟨b,o,s⟩:=ad
   have hcell:∀ i,i<len -> ∀ j,j<k -> ∃ v,(Y i).2[j]?=some v:=fun i hi j hj=>by
    have hl':=(hY i hi).1.1
    rw[hk]at hl'
    exact⟨_,List.getElem?_eq_getElem (by omega)⟩
   obtain rfl:s=none:=by
    obtain⟨v,hv⟩:=hcell 0 h0 0 hk0
    have:=(hY 0 h0).2.2 0 hk0
    rw[hv]at this
    simpa[Addr.add]using World.cell?_spot this
   have hb':b<w.heap.size:=by
    obtain⟨v,hv⟩:=hcell 0 h0 0 hk0
    have:=(hY 0 h0).2.2 0 hk0
    rw[hv]at this
    have:=World.block_lt_of_cell? _ _ this
    simpa[Addr.add_lit]using this
   have hfl:((((List.range len).map fun i=>(Y i).1)).flatMap f).length=len*k:=by rw[FP hk,hlen']
   refine .row k len b o cap _ (fun j=>((Y (j / k)).2[j % k]?).getD default) h0 (by omega) hfl hb' (fun j hj=>?_) fun j d hd=>?_
   ·rw[hfl]at hj
    have hi:j / k<len:=Nat.div_lt_of_lt_mul (by rw[Nat.mul_comm];exact hj)
    have hr:j % k<k:=Nat.mod_lt _ hk0
    obtain⟨v,hv⟩:=hcell _ hi _ hr
    have:=(hY _ hi).2.2 _ hr
    rw[Addr.add_lit,Nat.div_add_mod' j k]at this
    rw[this,hv]
    rfl
   ·have hj:j<len*k:=by rw[<- hfl];exact(List.getElem?_eq_some_iff.1 hd).1
    have hi:j / k<len:=Nat.div_lt_of_lt_mul (by rw[Nat.mul_comm];exact hj)
    have hr:j % k<k:=Nat.mod_lt _ hk0
    obtain⟨v,hv⟩:=hcell _ hi _ hr
    rw[<- Nat.div_add_mod' j k,KT hk (hget _ hi) hr]at hd
    show Lies w (Old w) d (((Y (j / k)).2[j % k]?).getD default)
    rw[hv]
    exact(hY _ hi).1.2 _ d v hd hv
  ·obtain⟨i,hi,rfl⟩:=List.mem_map.1 ha
   exact(hY i (by simpa using hi)).2.1
end
end
section
open Go.ChangeShapes Go.WideShapes Go.ChangeAt Go.RowKit
section
variable{H:Type}{enc:TypeId×Value->H}{P:Program}
theorem MU{x:Int}(h:(Lit.int .i64 x).wf=true):-9223372036854775808<=x/\x<9223372036854775808:=by
 have h1:IntKind.i64.min = -9223372036854775808:=rfl
 have h2:IntKind.i64.max=9223372036854775807:=rfl
 simp only[Lit.wf,Bool.and_eq_true,decide_eq_true_eq]at h
 omega
theorem DR(hl:laidOutB P=true){W W':World}(hb:Below W.heap.size W W'){sp:Nat->Bool}:∀ {ts:List TypeId} {vs:List Value} {ds:List (DataW H)} {ps:List MemPlace},
  (ts.all fun t=>P.readableRec t&&decide (t<P.types.size))=true->DataW.TrodAll enc P W 0 (fun _=>true) true ts vs ds ps->(∀ p∈ps,p.block<W.heap.size)->(∀ p∈ps,sp p.block=true) ->
  DataW.TrodAll enc P W' 0 sp true ts vs ds ps
 | [],_,_,_,_,h,_,_=>by
  obtain⟨rfl,rfl,rfl⟩:=trodAll_nil h
  exact trodAll_mk0
 | t::ts,_,_,_,ht,h,hlt,hsp=>by
  simp only[List.all_cons,Bool.and_eq_true,decide_eq_true_eq]at ht
  obtain⟨v,vs,d,ds,p,q,rfl,rfl,rfl,h0,hr⟩:=trodAll_cons h
  exact trodAll_cons_mk (WideElems.Trod_stays hl ht.1.1 ht.1.2 h0 (fun x hx=>hb.same (hlt x (List.mem_append_left _ hx))) (fun x hx=>hsp x (List.mem_append_left _ hx)))
   (DR hl hb ht.2 hr (fun x hx=>hlt x (List.mem_append_right _ hx)) (fun x hx=>hsp x (List.mem_append_right _ hx)))
theorem JZ{f:Func}{s:ChangeSpec}{W W':World}{args:Array Value}{ds:List (DataW H)}{before:List MemPlace}
  (hl:laidOutB P=true) (ht:(f.params.toList.all fun t=>P.readableRec t&&decide (t<P.types.size))=true)
  (hvars:s.vars=[]) (hs:s.fn H (ds++[])={ results:=[.lit (.bool true)],args:=ds }) {tb:TypeId} (hres:f.resultTypes = #[tb]) (hbool:P.underlying tb=some .bool)
  (hW:DataW.Whole enc P f.params.toList s.vars false W args.toList ds [] before)
  (hA:DataW.TrodAll enc P W 0 (fun _=>true) true f.params.toList args.toList ds before) (hb:Below W.heap.size W W'):
  s.post enc P f false true false false W args (.bool true) W':=by
 have hlt:∀ p∈before,p.block<W.heap.size:=fun p hp=>hW.lt p hp
 have e1:(Value.bool true).resultList f.resultTypes.size=[Value.bool true]:=by rw[hres];rfl
 refine⟨ds,[],before,[],before,[],hW,?_,?_,?_,World.keptBut_mono (fun p hp=>⟨hp,by simpa using hp⟩) (hb.frame (· ∈ before)),fun h=>by cases h⟩
 ·rw[hs,e1,hres]
  exact trodAll_mk1 (shut_bool hbool _)
 ·rw[hs]
  exact DR hl hb ht hA hlt (fun p hp=>by simpa using hlt p hp)
 ·rw[hs,hvars]
  rfl
end
end
section
open Go.ChangeShapes Go.WideShapes Go.ChangeAt Go.RowKit
section
variable{H:Type}{enc:TypeId×Value->H}{w:World}{base:Nat}{spare:Nat->Bool}{held:Bool}
theorem MP:Try.prog.cellsOf 3=1:=by kernel_rfl
theorem LJ{r:Reach}{b0:Nat}{v:Value}{d:DataW H}{ps:List MemPlace}(hval:Value.okWide Try.prog w r b0 22 v)(h:DataW.Trod enc Try.prog w base spare held 22 v d ps):
  ∃ (p:Option Addr) (l:List Int) (c:Nat),v=.slice p l.length c/\Lies w (Old w) (zsD l) (.slice p l.length c):=by
 obtain⟨a0,len,cap,rfl⟩:=okWide_slice Try.underlying22 hval
 obtain⟨fuel,hf⟩:=h
 obtain⟨p,qs,c,e,hl,_,_,_⟩:=KB (f:=zD1) (F:=fun _:Int=>True) Try.underlying22 (by omega) MP AH (fun n hn cs x hx=>by
  obtain⟨z,e2,_⟩:=DataW.trod_int Try.underlying3 hx
  refine⟨z,?_,trivial⟩
  subst e2
  exact .cons (.cell _) (.nil _ _)) hf
 simp[Value.cells]at e
 obtain⟨rfl,rfl,rfl⟩:=e
 exact⟨_,qs,_,rfl,hl⟩
end
theorem J6{P:Program}{f:FuncId}{ps:List Part}{v:Value}{w:World}{vs:List Value}(h:EF P [] f ps (.is v))(hp:PsFit w (Old w) ps vs):Calls P f vs.toArray w fun e w'=>e=.returned v/\Below w.heap.size w w':=
 (h w (Old w) vs (fun g hg=>hg) (fun _ _ h=>by cases h) hp).mono fun e w' ⟨u,y,h1,h2,h3,h4⟩=>by
  subst h2
  refine⟨?_,h3⟩
  rw[h1,VR.is_eq (h4 (fun _=>0) (fun _=>undef))]
end
end Go.Proofs.Ytjpghcmlglhmbaa
