/- Part 3. Conditions: as each theorem says. -/
import Derived.Test.YtecfdcdkkgmkpaaIT02
import Derived.StillTail
import Derived.Great.BuildSlice
import Derived.Laws.Small
import Derived.Laws.Slices
import Derived.Laws.ByValue
import Derived.Laws.Pointers
set_option maxRecDepth 100000
namespace Go.Proofs.Ytecfdcdkkgmkpaa
open Go.RowKit
section
section
variable{P:Program}{ops:Array Oper}{md:Region.Mode}{C:World->Prop}{R:World->World->Prop}
def FR(P:Program)(md:Region.Mode)(ops:Array Oper)(R:World->World->Prop)(C:World->Prop)(ks:Nat->Kind)(n:Nat)(L:Array Bool->List C1->Act->Prop):Nat->Array Bool->List C1->Act->Prop
 | 0,listed,G,a=>L listed G a
 | fuel+1,listed,G,a=>
  Region.ready md ops listed≠[] /\
  ∀ i∈Region.ready md ops listed,i<n /\ ∀ o,ops[i]?=some o->AskT P ops R C o (ks i) G a /\
   ∀ v,(ks i).ok v->FR P md ops R C ks n L fuel (listed.setIfInBounds i true) ((o.dst,(ks i).pred v)::G) (a.put o.dst v)
theorem IC{ks:Nat->Kind}{n:Nat}{L:Array Bool->List C1->Act->Prop}(hL:∀ listed G G' a,(∀ f∈G,f∈G')->L listed G a->L listed G' a):
  ∀ (fuel:Nat) (listed:Array Bool) (G G':List C1) (a:Act),(∀ f∈G,f∈G')->FR P md ops R C ks n L fuel listed G a->FR P md ops R C ks n L fuel listed G' a
 | 0,_,_,_,_,hG,h=>hL _ _ _ _ hG h
 | fuel+1,_,G,G',_,hG,h=>⟨h.1,fun i hi=>⟨(h.2 i hi).1,fun o ho=>by
   obtain⟨h1,h2⟩:=(h.2 i hi).2 o ho
   refine⟨h1.more hG,fun v hv=>IC hL fuel _ _ _ _ (fun f hf=>?_) (h2 v hv)⟩
   grind⟩⟩
theorem GL{ks:Nat->Kind}{n g:Nat}{L:Array Bool->List C1->Act->Prop}{Q':Exit->Act->World->Prop}(hC:EK R C)(hks:∀ i v,EK R ((ks i).pred v))
  (hL:∀ listed G a w,C w->(∀ f∈G,f.2 w)->L listed G a->wpAny P md ops Q' g listed a w):∀ (fuel:Nat) (listed:Array Bool) (G:List C1) (a:Act) (w:World),C w->(∀ f∈G,f.2 w)->(∀ f∈G,EK R f.2) ->
  FR P md ops R C ks n L fuel listed G a->wpAny P md ops Q' (fuel+g) listed a w
 | 0,_,_,_,_,hw,hG,_,h=>by rw[Nat.zero_add];exact hL _ _ _ _ hw hG h
 | fuel+1,listed,G,a,w,hw,hG,hst,h=>by
  rw[show fuel+1+g=(fuel+g)+1 by omega]
  refine⟨fun h0=>absurd h0 h.1,fun i hi=>?_⟩
  unfold wpOp
  split
  ·grind[mem_ready]
  ·rename_i o ho
   obtain⟨h1,h2⟩:=(h.2 i hi).2 o ho
   unfold AskT at h1
   split
   ·rename_i hwt
    rw[if_pos hwt]at h1
    refine .inl (JQ (h1 w hw fun f hf _ _ _=>hG f hf) fun v w' hR hok hp=>?_)
    refine GL hC hks hL fuel _ _ _ w' (hC _ _ hR hw) (fun f hf=>?_) (fun f hf=>?_) (h2 v hok)
    ·rcases List.mem_cons.1 hf with rfl | hf
     ·exact hp
     ·exact hst f hf _ _ hR (hG f hf)
    grind
   ·rename_i hwt
    rw[if_neg hwt]at h1
    refine GL hC hks hL fuel _ _ _ w hw (fun f hf=>?_) (fun f hf=>?_) (h2 undef h1.1)
    ·rcases List.mem_cons.1 hf with rfl | hf
     ·grind
     grind
    grind
theorem M2{ks:Nat->Kind}{n i:Nat}{oi:Oper}{L:Array Bool->List C1->Act->Prop}(hLm:∀ listed G G' a,(∀ f∈G,f∈G')->L listed G a->L listed G' a)(hi:ops[i]?=some oi)
  (hsel:∀ (j:Nat) (o:Oper) cs b,ops[j]?=some o->o.op≠.select cs b)
  (hs:Region.sinkB md ops n=true) (hc:Region.chainB md ops n=true) (hn:n<ops.size) (hin:i<n)
  (hdone:∀ listed G a,L listed G a -> ∀ j∈Region.ready md ops listed,n<=j):
  ∀ (fuel:Nat) (listed:Array Bool) (G:List C1) (a:Act),HeadInv md ops n listed ->
   (∀ j oj,ops[j]?=some oj->j≠i->listed.getD j true=false->(∀ e∈oj.after,Region.binds md e=true->e.on≠i)->oi.apart ops oj=true) ->
   i∈Region.ready md ops listed->AskT P ops R C oi (ks i) G a ->
   (∀ v,(ks i).ok v->FR P md ops R C ks n L fuel (listed.setIfInBounds i true) ((oi.dst,(ks i).pred v)::G) (a.put oi.dst v))->FR P md ops R C ks n L (fuel+1) listed G a:=by
 intro fuel
 induction fuel with
 | zero=>
  intro listed G a inv _ hr hy H
  have hun:=(mem_ready.1 hr).1
  refine⟨fun h=>(by grind),fun j hj=>?_⟩
  have hjn:j<n:=by
   rcases Nat.lt_or_ge j n with h | h
   ·exact h
   ·exact absurd hj (tail_waits hs hc hn inv _ i rfl hin hun j h)
  refine⟨hjn,fun o ho=>?_⟩
  by_cases hji:j=i
  ·grind
  ·have:=hdone _ _ _ (H _ (ks i).ok_pick) j (ready_mono hj hji)
   omega
 | succ fuel ih=>
  intro listed G a inv hfree hr hy H
  have hun:=(mem_ready.1 hr).1
  refine⟨fun h=>(by grind),fun j hj=>?_⟩
  have hjn:j<n:=by
   rcases Nat.lt_or_ge j n with h | h
   ·exact h
   ·exact absurd hj (tail_waits hs hc hn inv _ i rfl hin hun j h)
  refine⟨hjn,fun o ho=>?_⟩
  by_cases hji:j=i
  ·grind
  ·have hjun:=(mem_ready.1 hj).1
   obtain⟨a1,a2,a3⟩:=Oper.apart_spec (hfree j o ho hji hjun (L3 hr hj ho))
   have hjr:=ready_mono hj hji
   refine⟨(AskT.put (hsel j o · · ho) a1).1 (((H _ (ks i).ok_pick).2 j hjr).2 o ho).1,fun u hu=>?_⟩
   refine ih (listed.setIfInBounds j true) _ _ (inv.set hj hjn) (fun k ok hk hki hun hno=>hfree k ok hk hki (Decidable.byCases (fun h:j=k=>by rw[<- h];exact hjun) fun h=>by simp_all) hno) (ready_mono hr (Ne.symm hji)) ((AskT.put (hsel i oi · · hi) a3).2 hy) fun v hv=>?_
   have h2:=(((H v hv).2 j hjr).2 o ho).2 u hu
   grind[Array.setIfInBounds_comm,Act.put_comm,IC]
theorem JR{ks:Nat->Kind}{n g:Nat}{Q:List C1->Act->Prop}(hQ:∀ G G' a,(∀ f∈G,f∈G')->Q G a->Q G' a)(hsel:Region.noSelect ops=true)(hs:Region.sinkB md ops n=true)(hc:Region.chainB md ops n=true)(hn:n<ops.size):
  ∀ (l:List Oper) (kl:List Kind) (k:Nat) (listed:Array Bool) (G:List C1) (a:Act),(∀ j,j<l.length->l[j]?=ops[k+j]?)->(∀ (j:Nat) x,kl[j]?=some x->ks (k+j)=x)->k+l.length=n->HeadInv md ops n listed ->
  Region.lexHead md ops g l.length k listed=true->wpT P ops R C Q l kl G a ->
  FR P md ops R C ks n (fun listed' G' a'=>Region.seqB md ops g n listed'=true/\Q G' a') l.length listed G a
 | [],_,k,listed,G,a,_,_,hk,_,hB,h=>by
  have:k=n:=by simpa using hk
  subst this
  exact⟨by grind[Region.lexHead],h⟩
 | _::_,[],_,_,_,_,_,_,_,_,_,h=>h.elim
 | o::l,x::kl,k,listed,G,a,hl,hx,hk,inv,hB,h=>by
  have h0:ops[k]?=some o:=by simpa using(hl 0 (by simp)).symm
  have hx0:ks k=x:=by simpa using hx 0 x (by simp)
  simp only[List.length_cons,Region.lexHead,Bool.and_eq_true]at hB
  obtain⟨⟨hr,hf⟩,hB'⟩:=hB
  have hkn:k<n:=by simp only[List.length_cons]at hk;omega
  have hr':k∈Region.ready md ops listed:=by simpa using hr
  obtain⟨h1,h2⟩:=h
  refine M2 (fun listed G G' a hG h=>⟨h.1,hQ _ _ _ hG h.2⟩) h0 (Region.noSelect_spec hsel) hs hc hn hkn (fun listed' G' a' hL=>seqB_ready hL.1) l.length listed G a inv (Region.free_spec h0 hf) hr' (by grind) fun v hv=>?_
  rw[hx0]at hv ⊢
  exact JR hQ hsel hs hc hn l kl (k+1) _ _ _ (fun j hj=>by have:=hl (j+1) (by simp;omega);grind)
   (fun j x' hj=>by have:=hx (j+1) x' (by simpa using hj);simpa[Nat.add_assoc,Nat.add_comm 1 j]using this) (by grind) (inv.set hr' hkn) hB' (h2 v hv)
theorem H7{id:Nat}{Q:Exit->Act->World->Prop}{a:Act}{w:World}{l:List Oper}(n:Nat)(C:World->Prop)(R:World->World->Prop)(kl:List Kind)(hm:P.follows .mixedOrders=true)
  (hB:Region.lexTailB .any l.toArray n=true) (hC:EK R C) (hks:AllStay R kl) (h0:C w.drew)
  (h:wpT P l.toArray R C (fun G a'=>∀ w',C w'->(∀ f∈G,f.2 w')->wpList P l.toArray Q (l.drop n) a' w') (l.take n) kl [] a):(Code.region id l.toArray true).wp P Q a w:=by
 simp only[Region.lexTailB,Bool.and_eq_true,decide_eq_true_eq]at hB
 obtain⟨⟨⟨⟨hsel,hn⟩,hs⟩,hc⟩,hlex⟩:=hB
 have hn':n<l.length:=by simpa using hn
 have htl:(l.take n).length=n:=by simp;omega
 have hdl:(l.drop n).length=l.toArray.size-n:=by simp
 have inv0:HeadInv .any l.toArray n (Array.replicate l.toArray.size false):=
  ⟨by simp,fun j oj _ hl=>(by rw[getD_replicate_false]at hl;cases hl),fun t _ ht=>getD_in (by grind) (getD_replicate_false _ _)⟩
 have hks':∀ i v,EK R (((fun i=>kl.getD i (Kind.is undef)) i).pred v):=fun i v=>by
  simp only[List.getD]
  cases hk:kl[i]? with
  | none=>exact fun _ _ _ _=>trivial
  | some k=>exact hks.mem k (List.mem_of_getElem? hk) v
 have H:=JR (md:=.any) (ks:=fun i=>kl.getD i (Kind.is undef)) (g:=l.toArray.size-n) (fun G G' a' hG h w' hw hF=>h w' hw fun f hf=>hF f (hG f hf)) hsel hs hc hn (l.take n) kl 0 _ [] a (fun j hj=>by
  have hj':j<n:=by rw[htl]at hj;exact hj
  simp[hj']) (fun j k hj=>by simp[List.getD,hj]) (by simpa using htl) inv0 (by grind) h
 refine wp_region_any hm ?_
 have:=GL (Q':=Q) (g:=l.toArray.size-n) hC hks' (fun listed G a' w' hw hG hL=>by
  grind[wpAny_of_seq]) _ _ [] _ w.drew h0 (fun f hf=>by cases hf) (fun f hf=>by cases hf) H
 rw[htl,show n+(l.toArray.size-n)=l.toArray.size by omega]at this
 exact this
end
end
section
theorem CT{a b:Nat}(h:Nat.blt a b=true):a<b:=by simp_all
def ev(T:TL):Operand->Option IV
 | .tmp t=>lk t T
 | .const v=>some (.is v)
 | .global g=>some (.is (.pointer (some ⟨g,0,none⟩)))
 | .func f=>some (.is (.func (.func f) #[] #[]))
theorem UP{T:TL}{x:Operand}{y:IV}{w:World}{D:Nat->Prop}{M:Nat->Nat}{V:Nat->Value}{a:Act}(h:ev T x=some y)(hT:∀ t z,x=.tmp t->lk t T=some z->VR w D M V z (a.tmps.getD t undef)):VR w D M V y (a.eval x):=by
 cases x with
 | tmp t=>exact hT t y rfl h
 | const v=>injection h with h;rw[<- h];exact .cell v
 | global g=>injection h with h;rw[<- h];exact .cell _
 | func f=>injection h with h;rw[<- h];exact .cell _
theorem VR.is_eq{w:World}{D:Nat->Prop}{M:Nat->Nat}{V:Nat->Value}{v u:Value}(h:VR w D M V (.is v) u):u=v:=Lies.cell_eq h
def Upon(P:Program)(cx:Cx)(B:BL)(R:RL)(M:Nat->Nat)(V:Nat->Value)(w:World)(y:IV):Result Next->Prop
 | .ok (.value v) w'=>Below w.heap.size w w'/\VR w' (Dc cx B R M V w') M V y v
 | .ok .skip w'=>Below w.heap.size w w'/\VR w' (Dc cx B R M V w') M V y undef
 | .ok (.enter f args) w'=>w'=w/\Calls P f args w fun e w''=>∃ v,e=.returned v/\Below w.heap.size w w''/\VR w'' (Dc cx B R M V w'') M V y v
 | _=>False
def LStep(P:Program)(cx:Cx)(B:BL)(R:RL)(o:Oper)(T:TL)(y:IV):Prop:=
 ∀ (M:Nat->Nat) (V:Nat->Value) (w:World) (a:Act),HR cx B R M V w->(∀ t z,.tmp t∈o.op.operands->lk t T=some z->VR w (Dc cx B R M V w) M V z (a.tmps.getD t undef))->Upon P cx B R M V w y ((execOp a.eval o).run P w)
def gk(ops:Array Oper)(T:TL)(o:Oper):Option Bool:=
 match o.guard with
 | none=>some true
 | some (j,want)=>
  match (ops[j]?).bind (·.dst)with
  | none=>none
  | some d=>
   match lk d T with
   | some (.part (.one (.cell (.bool b))))=>match want with | true=>some b | false=>some (!b)
   | some (.opt g (.part (.one (.cell (.bool b)))))=>match want with | true=>some (g&&b) | false=>some (g && !b)
   | _=>none
inductive Walk (P:Program) (cx:Cx) (B:BL) (R:RL) (ops:Array Oper):List Oper->TL->List IV->TL->Prop
 | nil {T:TL}:Walk P cx B R ops [] T [] T
 | op {o:Oper} {d:Nat} {l:List Oper} {T T':TL} {y:IV} {ys:List IV}:o.guard=none->o.dst=some d->Nat.blt d cx.n=true->LStep P cx B R o T y->Walk P cx B R ops l ((d,y)::T) ys T'->Walk P cx B R ops (o::l) T (y::ys) T'
 | gd (g:Bool) {o:Oper} {d:Nat} {l:List Oper} {T T':TL} {y:IV} {ys:List IV}:gk ops T o=some g->o.dst=some d->Nat.blt d cx.n=true->(g=true->LStep P cx B R o T y)->Walk P cx B R ops l ((d,.opt g y)::T) ys T'->Walk P cx B R ops (o::l) T (.opt g y::ys) T'
def IV.whole:IV->Option Value
 | .part (.one (.cell v))=>some v
 | .opt g x=>
  match x.whole with
  | some v=>some (bif g then v else undef)
  | none=>bif g then none else some undef
 | _=>none
theorem DW{w:World}{D:Nat->Prop}{M:Nat->Nat}{V:Nat->Value}:∀ {x:IV} {v u:Value},x.whole=some v->VR w D M V x u->u=v
 | .part (.one (.cell c)),v,u,h,hv=>by
  obtain rfl:c=v:=by grind[IV.whole]
  exact hv.is_eq
 | .opt true x,v,u,h,hv=>by
  unfold IV.whole at h
  cases hx:x.whole with
  | none=>grind
  | some c=>
   rw[hx]at h
   have:c=v:=by injection h
   subst this
   exact DW hx (hv.1 rfl)
 | .opt false x,v,u,h,hv=>by
  have:undef=v:=by
   unfold IV.whole at h
   cases hx:x.whole<;>rw[hx]at h<;>injection h
  rw[<- this]
  exact hv.2 rfl
 | .junk,_,_,h,_=>by grind[IV.whole]
 | .part (.one (.row _ _ _)),_,_,h,_=>by grind[IV.whole]
 | .part (.one (.ptr _ _)),_,_,h,_=>by grind[IV.whole]
 | .part (.one (.ifc _ _)),_,_,h,_=>by grind[IV.whole]
 | .part (.one (.map _ _)),_,_,h,_=>by grind[IV.whole]
 | .part (.many _),_,_,h,_=>by grind[IV.whole]
 | .tup _,_,_,h,_=>by grind[IV.whole]
 | .ref _,_,_,h,_=>by grind[IV.whole]
 | .box _ _,_,_,h,_=>by grind[IV.whole]
 | .own _,_,_,h,_=>by grind[IV.whole]
 | .via _ _,_,_,h,_=>by grind[IV.whole]
 | .clo _ _ _,_,_,h,_=>by grind[IV.whole]
 | .sl _ _ _,_,_,h,_=>by grind[IV.whole]
theorem KX{w:World}{D:Nat->Prop}{M:Nat->Nat}{V:Nat->Value}:∀ {x:IV} {v:Value},x.whole=some v->VR w D M V x v
 | .part (.one (.cell c)),v,h=>by
  obtain rfl:c=v:=by grind[IV.whole]
  exact .cell c
 | .opt true x,v,h=>by
  unfold IV.whole at h
  cases hx:x.whole with
  | none=>grind
  | some c=>
   rw[hx]at h
   have:c=v:=by injection h
   subst this
   exact⟨fun _=>KX hx,fun h=>(by cases h)⟩
 | .opt false x,v,h=>by
  have:undef=v:=by
   unfold IV.whole at h
   cases hx:x.whole<;>rw[hx]at h<;>injection h
  exact⟨fun h=>(by cases h),fun _=>this.symm⟩
 | .junk,_,h=>by grind[IV.whole]
 | .part (.one (.row _ _ _)),_,h=>by grind[IV.whole]
 | .part (.one (.ptr _ _)),_,h=>by grind[IV.whole]
 | .part (.one (.ifc _ _)),_,h=>by grind[IV.whole]
 | .part (.one (.map _ _)),_,h=>by grind[IV.whole]
 | .part (.many _),_,h=>by grind[IV.whole]
 | .tup _,_,h=>by grind[IV.whole]
 | .ref _,_,h=>by grind[IV.whole]
 | .box _ _,_,h=>by grind[IV.whole]
 | .own _,_,h=>by grind[IV.whole]
 | .via _ _,_,h=>by grind[IV.whole]
 | .clo _ _ _,_,h=>by grind[IV.whole]
 | .sl _ _ _,_,h=>by grind[IV.whole]
theorem IT(x:IV):(IV.opt false x).whole=some undef:=by
 grind[IV.whole]
section
variable{P:Program}{cx:Cx}{T T':TL}{B:BL}{R:RL}{M:Nat->Nat}{V:Nat->Value}
theorem GW{ops:Array Oper}{o:Oper}{g:Bool}{a:Act}(h:gk ops T o=some g)(hx:∀ t z v,t∈o.looksAt ops->lk t T=some z->z.whole=some v->a.tmps.getD t undef=v):
  Region.wanted o (yielded ops a.tmps)=g:=by
 unfold gk at h
 unfold Region.wanted
 cases hg:o.guard with
 | none=>
  grind
 | some jw=>
  obtain⟨j,want⟩:=jw
  rw[hg]at h
  simp only at h ⊢
  cases hj:(ops[j]?).bind (·.dst)with
  | none=>grind
  | some d=>
   rw[hj]at h
   simp only at h
   have hm:d∈o.looksAt ops:=by
    unfold Oper.looksAt
    rw[hg]
    exact List.mem_append_right _ (by simp[hj])
   have hy:∀ v,a.tmps.getD d undef=v->yielded ops a.tmps j=match v with | .bool b=>some b | _=>none:=by
    intro v hv
    unfold yielded
    rw[hj]
    simp only[Option.bind_some]
    rcases Nat.lt_or_ge d a.tmps.size with hd | hd
    ·simp only[Array.getD_eq_getD_getElem?,Array.getElem?_eq_getElem hd,Option.getD_some]at hv
     grind
    ·simp only[Array.getD_eq_getD_getElem?,Array.getElem?_eq_none hd,Option.getD_none]at hv
     rw[Array.getElem?_eq_none hd,<- hv]
     rfl
   split at h
   ·rename_i b hb
    rw[hy _ (hx d _ _ hm hb rfl)]
    cases want<;>injection h with h<;>subst h<;>cases b<;>rfl
   ·rename_i g' b hb
    have:=hy _ (hx d _ _ hm hb rfl)
    rw[this]
    cases want<;>injection h with h<;>subst h<;>cases g'<;>cases b<;>rfl
   ·cases h
theorem FB{ops:Array Oper}{o:Oper}{t:Nat}(h:.tmp t∈o.op.operands):t∈o.looksAt ops:=
 List.mem_append_left _ (List.mem_filterMap.2 ⟨.tmp t,by grind,rfl⟩)
theorem KZ{o:Oper}{d:Nat}{y:IV}{a:Act}{w:World}{K:Act->World->Prop}{Q:Exit->Act->World->Prop}(hr:Rel cx T B R M V a w)(hd:o.dst=some d)(hn:d<cx.n)(h:LStep P cx B R o T y)
  (hK:∀ a' w',Rel cx ((d,y)::T) B R M V a' w'->K a' w'):o.wp P a w K Q:=by
 have h1:=h M V w a hr.heap fun t z _ hz=>hr.tmp t z hz
 unfold Oper.wp
 generalize(execOp a.eval o).run P w=r at *
 cases r with
 | halt x w'=>exact h1.elim
 | ok n w'=>
  cases n<;>simp only[Upon]at h1<;>simp only[Oper.upon,hd]
  case value u=>exact hK _ _ (hr.put h1.1 hn h1.2)
  case skip=>exact hK _ _ (hr.put h1.1 hn h1.2)
  case enter f args=>
   obtain⟨rfl,h1⟩:=h1
   exact h1.mono fun e w'' ⟨v,he,h2,h3⟩=>by subst he;exact hK _ _ (hr.put h2 hn h3)
theorem H1{ops:Array Oper}{Q:Exit->Act->World->Prop}{o:Oper}{l:List Oper}{d:Nat}{y:IV}(hg:o.guard=none)(hd:o.dst=some d)(hn:Nat.blt d cx.n=true)(h:LStep P cx B R o T y)(hE:E cx ((d,y)::T) B R (wpList P ops Q l)):
  E cx T B R (wpList P ops Q (o::l)):=fun M V a w hr=>by
 refine wpList_plain hg fun K hK=>?_
 exact KZ hr hd (CT hn) h fun a' w' hr'=>hK _ _ (hE M V a' w' hr')
theorem GX{ops:Array Oper}{Q:Exit->Act->World->Prop}{o:Oper}{l:List Oper}{d:Nat}{y:IV}{g:Bool}(hg:gk ops T o=some g)(hd:o.dst=some d)(hn:Nat.blt d cx.n=true)(h:g=true->LStep P cx B R o T y)(hE:E cx ((d,.opt g y)::T) B R (wpList P ops Q l)):
  E cx T B R (wpList P ops Q (o::l)):=fun M V a w hr=>by
 have hw:=GW hg fun t z v _ hz hv=>DW hv (hr.tmp t z hz)
 refine wpList_step fun K hK=>?_
 rw[hw]
 cases g with
 | false=>
  rw[if_neg (by simp)]
  refine hK _ _ (hE M V _ w ?_)
  rw[hd]
  exact hr.put (Below.refl _ _) (CT hn) ⟨fun h=>(by cases h),fun _=>rfl⟩
 | true=>
  rw[if_pos rfl]
  have h2:LStep P cx B R o T (.opt true y):=fun M V w a hh ht=>by
   have h1:=h rfl M V w a hh ht
   revert h1
   generalize(execOp a.eval o).run P w=r
   intro h1
   cases r with
   | halt x w'=>exact h1
   | ok n w'=>
    cases n<;>simp only[Upon]at h1 ⊢
    case value u=>exact⟨h1.1,fun _=>h1.2,fun h=>(by cases h)⟩
    case skip=>exact⟨h1.1,fun _=>h1.2,fun h=>(by cases h)⟩
    case enter f args=>exact⟨h1.1,h1.2.mono fun e w'' ⟨v,he,h3,h4⟩=>⟨v,he,h3,fun _=>h4,fun h=>(by cases h)⟩⟩
  exact KZ hr hd (CT hn) h2 fun a' w' hr'=>hK _ _ (hE M V a' w' hr')
theorem WU{ops:Array Oper}{Q:Exit->Act->World->Prop}{l rest:List Oper}{ys:List IV}(hW:Walk P cx B R ops l T ys T')(h:E cx T' B R (wpList P ops Q rest)):E cx T B R (wpList P ops Q (l++rest)):=by
 induction hW with
 | nil=>exact h
 | op hg hd hn hs _ ih=>exact H1 hg hd hn hs (ih h)
 | gd g hg hd hn hs _ ih=>exact GX hg hd hn hs (ih h)
def CJ(cx:Cx)(B:BL)(R:RL)(M:Nat->Nat)(V:Nat->Value)(y:IV):Kind:=
 match y.whole with
 | some v=>Kind.is v
 | none=>⟨none,fun v w=>∃ w1,HR cx B R M V w1/\Below w1.heap.size w1 w/\VR w1 (Dc cx B R M V w1) M V y v⟩
def Gt(cx:Cx)(B:BL)(R:RL)(M:Nat->Nat)(V:Nat->Value)(C:World->Prop)(T:TL)(G:List C1)(a:Act):Prop:=
 ∀ t x,lk t T=some x->(∀ w,C w->VR w (Dc cx B R M V w) M V x (a.tmps.getD t undef))\/(x.whole=none /\ ∃ F,(some t,F)∈G /\ ∀ w,F w->VR w (Dc cx B R M V w) M V x (a.tmps.getD t undef))
abbrev Rb(w w':World):Prop:=Below w.heap.size w w'
theorem Gt.put{C:World->Prop}{G:List C1}{a:Act}(h:Gt cx B R M V C T G a){d:Nat}(hd:d<a.tmps.size){y:IV}{v:Value}(hok:(CJ cx B R M V y).ok v):Gt cx B R M V C ((d,y)::T) ((some d,(CJ cx B R M V y).pred v)::G) (a.put (some d) v):=fun t x hx=>by
 rw[GI a d t v hd]
 rcases AJ hx with⟨rfl,rfl⟩ | ⟨hne,hx⟩
 ·rw[if_pos rfl]
  unfold CJ at hok ⊢
  cases hw:x.whole with
  | some u=>
   grind[Kind.ok_is,KX]
  | none=>exact .inr ⟨rfl,_,List.mem_cons_self,fun w ⟨w1,h1,h2,h3⟩=>h3.stay (h1.keeps h2) fun g hg=>hg.mono h2.size⟩
 ·rw[if_neg hne]
  rcases h t x hx with h | ⟨h1,F,h2,h3⟩
  ·grind
  grind
theorem JD{C:World->Prop}{ops:Array Oper}{o:Oper}{y:IV}{G:List C1}{a:Act}(hC:∀ w,C w->HR cx B R M V w)(hG:Gt cx B R M V C T G a)(h:LStep P cx B R o T y){w:World}(hc:C w)(hS:Seen ops o G w):
  D8 P Rb o a (CJ cx B R M V y) w:=by
 have h1:=h M V w a (hC w hc) fun t z hm hz=>by
  rcases hG t z hz with h | ⟨_,F,h2,h3⟩
  ·grind
  ·exact h3 w (hS _ h2 t rfl (FB hm))
 have key:∀ {v:Value} {w':World},HR cx B R M V w'->VR w' (Dc cx B R M V w') M V y v->(CJ cx B R M V y).ok v/\(CJ cx B R M V y).pred v w':=fun{v w'} hh hv=>by
  unfold CJ
  cases hw:y.whole with
  | some u=>exact⟨Kind.ok_is.2 (DW hw hv),trivial⟩
  | none=>exact⟨fun c h=>(by cases h),w',hh,Below.refl _ _,hv⟩
 unfold D8
 generalize(execOp a.eval o).run P w=r at *
 cases r with
 | halt x w'=>exact h1.elim
 | ok n w'=>
  cases n<;>simp only[Upon]at h1<;>simp only[EE]
  case value u=>exact⟨h1.1,key ((hC w hc).step h1.1) h1.2⟩
  case skip=>exact⟨h1.1,key ((hC w hc).step h1.1) h1.2⟩
  case enter f args=>
   obtain⟨rfl,h1⟩:=h1
   exact h1.mono fun e w'' ⟨v,he,h2,h3⟩=>⟨v,he,h2,key ((hC _ hc).step h2) h3⟩
theorem Walk.wpT{C:World->Prop}{ops:Array Oper}{Q:List C1->Act->Prop}(hC:∀ w,C w->HR cx B R M V w)(hc:∃ w,C w){l:List Oper}{ys:List IV}(hW:Walk P cx B R ops l T ys T'):
  ∀ {G:List C1} {a:Act},a.tmps.size=cx.n->a.defers=[]->Gt cx B R M V C T G a->(∀ G' a',a'.tmps.size=cx.n->a'.defers=[]->Gt cx B R M V C T' G' a'->Q G' a')->wpT P ops Rb C Q l (ys.map (CJ cx B R M V)) G a:=by
 induction hW with
 | nil=>exact fun hn hd hG hQ=>hQ _ _ hn hd hG
 | op hg hd hn hs _ ih=>
  intro G a hsz hdf hG hQ
  refine⟨?_,fun v hv=>?_⟩
  ·unfold AskT
   rw[if_pos (by grind[Region.wanted])]
   grind[JD]
  ·rw[hd]
   exact ih (by simpa[Act.put]using hsz) hdf (hG.put (by simp_all) hv) hQ
 | gd g hg hd hn hs _ ih=>
  intro G a hsz hdf hG hQ
  obtain⟨w0,hw0⟩:=hc
  have hw:=GW hg fun t z v _ hz hv=>by
   rcases hG t z hz with h | ⟨h1,_⟩
   ·exact DW hv (h w0 hw0)
   grind
  refine⟨?_,fun v hv=>?_⟩
  ·unfold AskT
   rw[hw]
   cases g with
   | true=>
    rw[if_pos rfl]
    refine fun w hc hS=>JD hC hG (fun M V w a hh ht=>?_) hc hS
    have h1:=hs rfl M V w a hh ht
    revert h1
    generalize(execOp a.eval _).run P w=r
    intro h1
    cases r with
    | halt x w'=>exact h1
    | ok n w'=>
     cases n<;>simp only[Upon]at h1 ⊢
     case value u=>exact⟨h1.1,fun _=>h1.2,fun h=>(by cases h)⟩
     case skip=>exact⟨h1.1,fun _=>h1.2,fun h=>(by cases h)⟩
     case enter f args=>exact⟨h1.1,h1.2.mono fun e w'' ⟨v,he,h3,h4⟩=>⟨v,he,h3,fun _=>h4,fun h=>(by cases h)⟩⟩
   | false=>
    rw[if_neg (by simp)]
    unfold CJ
    rw[IT]
    exact⟨Kind.ok_is.2 rfl,fun _=>trivial⟩
  ·rw[hd]
   exact ih (by simpa[Act.put]using hsz) hdf (hG.put (by simp_all) hv) hQ
theorem HV:∀ ys:List IV,AllStay Rb (ys.map (CJ cx B R M V))
 | []=>trivial
 | y::ys=>⟨fun v=>by
   unfold CJ
   cases y.whole with
   | some u=>exact fun _ _ _ _=>trivial
   | none=>exact fun w w' hb ⟨w1,h1,h2,h3⟩=>⟨w1,h1,h2.trans (hb.mono h2.size),h3⟩,HV ys⟩
def Ct(cx:Cx)(T:TL)(B:BL)(R:RL)(M:Nat->Nat)(V:Nat->Value)(a:Act)(w:World):Prop:=HR cx B R M V w/\TR cx T B R M V a w
theorem Ct.stay{a:Act}:EK Rb (Ct cx T B R M V a):=fun _ _ hb h=>⟨h.1.step hb,fun t x hx=>(h.2 t x hx).stay (h.1.keeps hb) fun _ hg=>hg.mono hb.size⟩
theorem Gt.rel{C:World->Prop}{G:List C1}{a:Act}(hC:∀ w,C w->HR cx B R M V w)(hn:a.tmps.size=cx.n)(hd:a.defers=[])(hG:Gt cx B R M V C T G a){w:World}(hc:C w)(hF:∀ f∈G,f.2 w):Rel cx T B R M V a w:=
 ⟨hn,hd,hC w hc,fun t x hx=>by
  rcases hG t x hx with h | ⟨_,F,h1,h2⟩
  ·grind
  grind⟩
theorem BZ{id:Nat}{l:List Oper}{Q:Exit->Act->World->Prop}{ys:List IV}(hm:P.follows .mixedOrders=true)(hB:Region.lexB .any l.toArray=true)(hW:Walk P cx B R l.toArray l T ys T')(h:E cx T' B R (Q .normal)):
  E cx T B R ((Code.region id l.toArray true).wp P Q):=fun M V a w hr=>by
 have h0:Ct cx T B R M V a w.drew:=Ct.stay w _ (Below.refl _ _).drew ⟨hr.heap,hr.tmp⟩
 refine LB (Ct cx T B R M V a) Rb (ys.map (CJ cx B R M V)) hm hB Ct.stay (HV ys) h0 ?_
 refine hW.wpT (fun w h=>h.1) ⟨_,h0⟩ hr.size hr.defers (fun t x hx=>.inl fun w h=>h.2 t x hx) fun G' a' hn hd hG w' hc hF=>?_
 exact h M V a' w' (hG.rel (fun w h=>h.1) hn hd hc hF)
theorem PL(n:Nat){id:Nat}{l:List Oper}{Q:Exit->Act->World->Prop}{ys:List IV}(hm:P.follows .mixedOrders=true)(hB:Region.lexTailB .any l.toArray n=true)(hW:Walk P cx B R l.toArray (l.take n) T ys T')(h:E cx T' B R (wpList P l.toArray Q (l.drop n))):
  E cx T B R ((Code.region id l.toArray true).wp P Q):=fun M V a w hr=>by
 have h0:Ct cx T B R M V a w.drew:=Ct.stay w _ (Below.refl _ _).drew ⟨hr.heap,hr.tmp⟩
 refine H7 n (Ct cx T B R M V a) Rb (ys.map (CJ cx B R M V)) hm hB Ct.stay (HV ys) h0 ?_
 refine hW.wpT (fun w h=>h.1) ⟨_,h0⟩ hr.size hr.defers (fun t x hx=>.inl fun w h=>h.2 t x hx) fun G' a' hn hd hG w' hc hF=>?_
 exact h M V a' w' (hG.rel (fun w h=>h.1) hn hd hc hF)
theorem AI{id:Nat}{l:List Oper}{Q:Exit->Act->World->Prop}(h:E cx T B R (wpList P l.toArray Q l)):E cx T B R ((Code.region id l.toArray false).wp P Q):=fun M V a w hr=>wp_region_lit (h M V a w hr)
theorem AH{ops:Array Oper}{Q:Exit->Act->World->Prop}(h:E cx T B R (Q .normal)):E cx T B R (wpList P ops Q []):=h
theorem A0{id:Nat}{l:List Oper}{Q:Exit->Act->World->Prop}{ys:List IV}(hW:Walk P cx B R l.toArray l T ys T')(h:E cx T' B R (Q .normal)):E cx T B R ((Code.region id l.toArray false).wp P Q):=
 AI (by have:=WU (rest:=[]) (Q:=Q) hW (AH h);grind)
section
variable{Q:Exit->Act->World->Prop}{x y:Code}
theorem AE{c:Operand}{t:Bool}(hc:ev T c=some (.is (.bool t)))(h1:t=true->E cx T B R (x.wp P Q))(h2:t=false->E cx T B R (y.wp P Q)):E cx T B R ((Code.cond c x y).wp P Q):=fun M V a w hr=>by
 have he:a.eval c=.bool t:=VR.is_eq (UP hc fun t z _ hz=>hr.tmp t z hz)
 exact wp_cond_split he (fun h=>h1 h M V a w hr) fun h=>h2 h M V a w hr
def W9{ι:Type}(cx:Cx)(T:ι->TL)(B:ι->BL)(R:ι->RL)(μ:ι->Nat)(n:Nat)(a:Act)(w:World):Prop:=∃ i M V,μ i<n/\Rel cx (T i) (B i) (R i) M V a w
theorem M5{c:Code}{ι:Type}(I:ι->Act->World->Prop)(μ:ι->Nat)(round:∀ i a w,I i a w->c.wp P (Exit.then (fun a' w'=>∃ i',μ i'<μ i/\I i' a' w') Q) a w):∀ (n:Nat) (i:ι) (a:Act) (w:World),μ i=n->I i a w->(Code.loop c).wp P Q a w:=by
 intro _ i a w _ hI b k cs
 have key:∀ n i a w,μ i=n->I i a w ->
   ∃ e a' w',Q e a' w'/\Arrives P (lone (b.at a (.code c::.inLoop c::k)) cs w) b k cs e a' w':=by
  intro n
  induction n using Nat.strongRecOn with
  | _ n ih=>
   intro i a w hn hI
   obtain⟨e,a₁,w₁,hq,harr⟩:=round i a w hI b (.inLoop c::k) cs
   cases e with
   | normal=>
    obtain⟨i₁,hlt,hI₁⟩:=hq
    obtain⟨e₂,a₂,w₂,hq₂,harr₂⟩:=ih (μ i₁) (hn▸hlt) i₁ a₁ w₁ rfl hI₁
    exact⟨e₂,a₂,w₂,hq₂,.of_steps (Steps.trans harr (.one step_inLoop)) harr₂⟩
   | exit id=>exact⟨_,a₁,w₁,hq,.pass (x:=.inLoop c) rfl (fun _ _=>.inl (by simp)) harr⟩
   | goto l=>exact⟨_,a₁,w₁,hq,.pass (x:=.inLoop c) rfl (fun _ _=>.inl (by simp)) harr⟩
   | ret=>exact⟨_,a₁,w₁,hq,.pass (x:=.inLoop c) rfl (fun _ _=>.inl (by simp)) harr⟩
   | panic ch=>exact⟨_,a₁,w₁,hq,.pass (x:=.inLoop c) rfl (fun _ _=>.inl (by simp)) harr⟩
   | outgrown=>exact⟨_,a₁,w₁,hq,.pass (x:=.inLoop c) rfl (fun _ _=>.inl (by simp)) harr⟩
 obtain⟨e,a',w',hq,harr⟩:=key _ i a w rfl hI
 exact⟨e,a',w',hq,.of_steps (.one step_loop) harr⟩
theorem BG{c:Code}{ι:Type}(Ti:ι->TL)(Bi:ι->BL)(Ri:ι->RL)(μ:ι->Nat)(i:ι)(h0:∀ K,E cx (Ti i) (Bi i) (Ri i) K->E cx T B R K)
  (round:∀ i,E cx (Ti i) (Bi i) (Ri i) (c.wp P (Exit.then (W9 cx Ti Bi Ri μ (μ i)) Q))):E cx T B R ((Code.loop c).wp P Q):=by
 refine h0 _ fun M V a w hr=>?_
 refine M5 (fun i a w=>∃ M V,Rel cx (Ti i) (Bi i) (Ri i) M V a w) μ (fun i _ _ ⟨M,V,hr⟩=>?_) _ i a w rfl ⟨M,V,hr⟩
 refine wp_mono (round i M V _ _ hr) fun e a' w' hq=>?_
 cases e<;>first | exact hq | (obtain⟨i',M',V',h1,h2⟩:=hq;exact⟨i',h1,M',V',h2⟩)
theorem AT{ι:Type}{Ti:ι->TL}{Bi:ι->BL}{Ri:ι->RL}{μ:ι->Nat}{n:Nat}(i:ι)(hlt:μ i<n)(h0:∀ K,E cx (Ti i) (Bi i) (Ri i) K->E cx T B R K):E cx T B R (W9 cx Ti Bi Ri μ n):=
 h0 _ fun M V _ _ hr=>⟨i,M,V,hlt,hr⟩
end
end
end
section
class Flow (K:Act->World->Prop) (K':outParam (Act->World->Prop)):Prop where
 out:∀ a w,K' a w->K a w
class FlowS (K:Act->World->Prop) (K':outParam (Act->World->Prop)):Prop where
 out:∀ a w,K' a w->K a w
instance (priority:=low) flow_refl (K:Act->World->Prop):Flow K K:=⟨fun _ _ h=>h⟩
instance (priority:=high) flow_more (K K':Act->World->Prop) [h:FlowS K K']:Flow K K':=⟨h.out⟩
section
variable{P:Program}{Q:Exit->Act->World->Prop}{x y:Code}{K K':Act->World->Prop}
instance fl_seq[h:Flow (x.wp P (Exit.then (y.wp P Q) Q)) K']:FlowS ((Code.seq x y).wp P Q) K':=⟨fun _ _ hk=>wp_seq (h.out _ _ hk)⟩
instance fl_then[h:Flow K K']:FlowS (Exit.then K Q .normal) K':=⟨fun _ _ hk=>h.out _ _ hk⟩
instance fl_skip[h:Flow (Q .normal) K']:FlowS (Code.skip.wp P Q) K':=⟨fun _ _ hk=>wp_skip (h.out _ _ hk)⟩
instance fl_label{l:Nat}[h:Flow (Q .normal) K']:FlowS ((Code.label l).wp P Q) K':=⟨fun _ _ hk=>wp_label (h.out _ _ hk)⟩
instance fl_block{id:Nat}[h:Flow (x.wp P (Exit.inBlock id Q)) K']:FlowS ((Code.block id x).wp P Q) K':=⟨fun _ _ hk=>wp_block (h.out _ _ hk)⟩
instance fl_exit{id:Nat}[h:Flow (Q (.exit id)) K']:FlowS ((Code.exit id).wp P Q) K':=⟨fun _ _ hk=>wp_exit (h.out _ _ hk)⟩
instance fl_then_exit{i:Nat}[h:Flow (Q (.exit i)) K']:FlowS (Exit.then K Q (.exit i)) K':=⟨fun _ _ hk=>h.out _ _ hk⟩
instance fl_in_exit{i:Nat}[h:Flow (Q .normal) K']:FlowS (Exit.inBlock i Q (.exit i)) K':=⟨fun a w hk=>by
 simp only[Exit.inBlock,if_true]
 exact h.out _ _ hk⟩
class NeN (j i:Nat):Prop where
 out:j≠i
instance neN_l(n:Nat):NeN (n+1) 0:=⟨Nat.succ_ne_zero n⟩
instance neN_r(n:Nat):NeN 0 (n+1):=⟨(Nat.succ_ne_zero n).symm⟩
instance neN_s(a b:Nat)[h:NeN a b]:NeN (a+1) (b+1):=⟨fun e=>h.out (Nat.succ.inj e)⟩
instance (priority:=low) fl_in_other {i j:Nat} [e:NeN j i] [h:Flow (Q (.exit j)) K']:FlowS (Exit.inBlock i Q (.exit j)) K':=⟨fun a w hk=>by
 simp only[Exit.inBlock,if_neg e.out]
 exact h.out _ _ hk⟩
instance fl_in_normal{i:Nat}[h:Flow (Q .normal) K']:FlowS (Exit.inBlock i Q .normal) K':=⟨fun _ _ hk=>h.out _ _ hk⟩
instance fl_ret[h:Flow (Q .ret) K']:FlowS (Code.ret.wp P Q) K':=⟨fun _ _ hk=>wp_ret (h.out _ _ hk)⟩
instance fl_then_ret[h:Flow (Q .ret) K']:FlowS (Exit.then K Q .ret) K':=⟨fun _ _ hk=>h.out _ _ hk⟩
instance fl_in_ret{i:Nat}[h:Flow (Q .ret) K']:FlowS (Exit.inBlock i Q .ret) K':=⟨fun _ _ hk=>h.out _ _ hk⟩
theorem A1{cx:Cx}{T:TL}{B:BL}{R:RL}[hf:FlowS K K'](h:E cx T B R K'):E cx T B R K:=fun M V a w hr=>hf.out a w (h M V a w hr)
end
end
section
def Kn(T:TL)(x:Operand)(y:IV):Prop:=∀ (w:World) (D:Nat->Prop) (M:Nat->Nat) (V:Nat->Value) (a:Act),(∀ t z,x=.tmp t->lk t T=some z->VR w D M V z (a.tmps.getD t undef))->VR w D M V y (a.eval x)
theorem kn{T:TL}{x:Operand}{y:IV}(h:ev T x=some y):Kn T x y:=fun _ _ _ _ _ hT=>UP h hT
theorem A2{T:TL}{x:Operand}{y:IV}{g:Bool}(h:ev T x=some (.opt g y))(hg:g=true):Kn T x y:=fun _ _ _ _ _ hT=>(UP h hT).1 hg
theorem gl{a b:Bool}(h:(a&&b)=true):a=true:=by grind
theorem gr{a b:Bool}(h:(a&&b)=true):b=true:=by grind
theorem gb{a b:Bool}(ha:a=true)(hb:b=true):(a&&b)=true:=by grind
section
variable{P:Program}{cx:Cx}{T:TL}{B:BL}{R:RL}{o:Oper}
theorem LStep.val{y:IV}(h:∀ (M:Nat->Nat) (V:Nat->Value) (w:World) (a:Act),HR cx B R M V w->(∀ x z,x∈o.op.operands->Kn T x z->VR w (Dc cx B R M V w) M V z (a.eval x)) -> ∃ v w',(execOp a.eval o).run P w=.ok (.value v) w'/\Below w.heap.size w w'/\VR w' (Dc cx B R M V w') M V y v):LStep P cx B R o T y:=fun M V w a hh ht=>by
 obtain⟨v,w',h1,h2,h3⟩:=h M V w a hh fun x z hm hk=>hk w _ M V a fun t z' e hz=>ht t z' (e▸hm) hz
 rw[h1]
 exact⟨h2,h3⟩
theorem LStep.same{y:IV}(h:∀ (M:Nat->Nat) (V:Nat->Value) (w:World) (a:Act),HR cx B R M V w->(∀ x z,x∈o.op.operands->Kn T x z->VR w (Dc cx B R M V w) M V z (a.eval x)) -> ∃ v,(execOp a.eval o).run P w=.ok (.value v) w/\VR w (Dc cx B R M V w) M V y v):LStep P cx B R o T y:=
 LStep.val fun M V w a hh hk=>by
  obtain⟨v,h1,h2⟩:=h M V w a hh hk
  grind[Below.refl]
theorem AM{x:Operand}{y:IV}(ho:o.op=.move x)(hx:Kn T x y):LStep P cx B R o T y:=LStep.same fun M V w a _ hk=>
 ⟨a.eval x,by simp[execOp,ho],hk x y (by grind[Op.operands]) hx⟩
theorem OH{x:Operand}{y:IV}(ho:o.op=.assign x)(hx:Kn T x y):LStep P cx B R o T y:=LStep.same fun M V w a _ hk=>
 ⟨a.eval x,by simp[execOp,ho],hk x y (by grind[Op.operands]) hx⟩
def H6(P:Program)(op:BinOp)(t:TypeId)(u v r:Value):Prop:=∀ (x y:Operand) (w:World),(do eqGuard op t x y u v;binOp op t u v:Sem Value).run P w=.ok r w
theorem A9{x y:Operand}{op:BinOp}{t t':TypeId}{u v r:Value}(ho:o.op=.binOp op t x y t')(hx:Kn T x (.is u))(hy:Kn T y (.is v))(h:H6 P op t u v r):LStep P cx B R o T (.is r):=LStep.same fun M V w a _ hk=>by
 have h1:=(hk x _ (by grind[Op.operands]) hx).is_eq
 have h2:=(hk y _ (by grind[Op.operands]) hy).is_eq
 refine⟨r,?_,.cell r⟩
 have:=h x y w
 unfold execOp
 simp only[ho,h1,h2]
 rw[Sem.run_bind,this]
 rfl
section
variable{t:TypeId}{m n:Int}{k:IntKind}
theorem X5:H6 P .add t (.int k m) (.int k n) (.int k (k.wrap (m+n))):=fun _ _ w=>by simp[eqGuard,binOp,Op.intArith]
theorem X7:H6 P .sub t (.int k m) (.int k n) (.int k (k.wrap (m-n))):=fun _ _ w=>by simp[eqGuard,binOp,Op.intArith]
theorem RU(z:Int)(h1 : -9223372036854775808<=z)(h2:z<=9223372036854775807):IntKind.i64.wrap z=z:=by
 grind[IntKind.wrap,IntKind.bits,IntKind.signed]
theorem AO(h : -9223372036854775808<=m+n/\m+n<=9223372036854775807):H6 P .add t (.int .i64 m) (.int .i64 n) (.int .i64 (m+n)):=fun x y w=>by
 have:=X5 (P:=P) (t:=t) (k:=.i64) (m:=m) (n:=n) x y w
 grind[RU]
theorem EB(h : -9223372036854775808<=m-n/\m-n<=9223372036854775807):H6 P .sub t (.int .i64 m) (.int .i64 n) (.int .i64 (m-n)):=fun x y w=>by
 have:=X7 (P:=P) (t:=t) (k:=.i64) (m:=m) (n:=n) x y w
 grind[RU]
theorem BJ:H6 P .lss t (.int k m) (.int k n) (.bool (decide (m<n))):=fun _ _ w=>by simp[eqGuard,binOp,Op.intCmp]
theorem OB:H6 P .leq t (.int k m) (.int k n) (.bool (decide (m<=n))):=fun _ _ w=>by simp[eqGuard,binOp,Op.intCmp]
theorem DQ:H6 P .gtr t (.int k m) (.int k n) (.bool (decide (n<m))):=fun _ _ w=>by simp[eqGuard,binOp,Op.intCmp]
theorem D7:H6 P .geq t (.int k m) (.int k n) (.bool (decide (n<=m))):=fun _ _ w=>by simp[eqGuard,binOp,Op.intCmp]
theorem AL:H6 P .eql t (.int k m) (.int k n) (.bool (decide (m=n))):=fun _ _ w=>by simp[eqGuard,binOp,Op.intCmp];rfl
theorem DP:H6 P .neq t (.int k m) (.int k n) (.bool (!decide (m=n))):=fun _ _ w=>by simp[eqGuard,binOp,Op.intCmp];rfl
theorem X4{a b:Bool}(h:P.underlying t=some .bool):H6 P .eql t (.bool a) (.bool b) (.bool (a==b)):=fun _ _ w=>by grind[eqGuard,run_eql_bool]
end
theorem DL{x:Operand}{t:TypeId}{b:Bool}(ho:o.op=.unOp .not t x)(hx:Kn T x (.is (.bool b))):LStep P cx B R o T (.is (.bool (!b))):=LStep.same fun M V w a _ hk=>by
 have h1:=(hk x _ (by grind[Op.operands]) hx).is_eq
 exact⟨_,by simp_all[execOp,Op.unary],.cell _⟩
theorem AP{c x:Operand}{a b:Bool}(ho:o.op=.pick c x (.const (.bool false)))(hc:Kn T c (.is (.bool a)))(hx:a=true->Kn T x (.is (.bool b))):LStep P cx B R o T (.is (.bool (a&&b))):=LStep.same fun M V w e _ hk=>by
 have h1:=(hk c _ (by grind[Op.operands]) hc).is_eq
 cases a with
 | false=>
  have h3:e.eval (.const (.bool false))=.bool false:=rfl
  exact⟨_,by simp_all[execOp,asBool],.cell _⟩
 | true=>
  simp_all[Op.operands,execOp,asBool]
theorem FK{c x:Operand}{a b:Bool}(ho:o.op=.pick c (.const (.bool true)) x)(hc:Kn T c (.is (.bool a)))(hx:(!a)=true->Kn T x (.is (.bool b))):LStep P cx B R o T (.is (.bool (a||b))):=LStep.same fun M V w e _ hk=>by
 have h1:=(hk c _ (by grind[Op.operands]) hc).is_eq
 cases a with
 | true=>
  have h3:e.eval (.const (.bool true))=.bool true:=rfl
  exact⟨_,by simp_all[execOp,asBool],.cell _⟩
 | false=>
  simp_all[Op.operands,execOp,asBool]
theorem IY{w:World}{D:Nat->Prop}{k n:Nat}{ds:List Dat}{v:Value}(h:Lies w D (.row k n ds) v):∃ p c,v=.slice p n c:=by
 cases h with
 | none k p c=>grind
 | row k n b o c ds X=>grind
theorem AW{x:Operand}{t:TypeId}{k n:Nat}{ds:List Dat}(ho:o.op=.call { callee:=.builtin .len,args := #[x],argTypes := #[t] })(hx:Kn T x (.part (.one (.row k n ds))))(ht:P.underlying t=some (.slice (P.elem t))):
  LStep P cx B R o T (.is (.int .i64 (n:Int))):=LStep.same fun M V w a _ hk=>by
 obtain⟨p,c,h1⟩:=IY (hk x _ (by grind[Op.operands,Call.operands]) hx)
 exact⟨_,by simp_all[execOp,resolve,invoke,builtin,run_len_slice,goInt],.cell _⟩
theorem KV{x:Operand}{t:TypeId}{p:Option Addr}{n c:Nat}(ho:o.op=.call { callee:=.builtin .len,args := #[x],argTypes := #[t] })(hx:Kn T x (.is (.slice p n c)))(ht:P.underlying t=some (.slice (P.elem t))):
  LStep P cx B R o T (.is (.int .i64 (n:Int))):=LStep.same fun M V w a _ hk=>by
 have h1:=(hk x _ (by grind[Op.operands,Call.operands]) hx).is_eq
 exact⟨_,by simp_all[execOp,resolve,invoke,builtin,run_len_slice,goInt],.cell _⟩
theorem H3{x:Operand}{t:TypeId}{r:Nat}{y:Rw}(ho:o.op=.call { callee:=.builtin .len,args := #[x],argTypes := #[t] })(hx:Kn T x (.own r))(hr:lk r R=some y)(ht:P.underlying t=some (.slice (P.elem t)))(hty:Nat.blt y.ty 1000000=true:=by rfl):
  LStep P cx B R o T (.is (.int .i64 (y.n:Int))):=LStep.same fun M V w a hh hk=>by
 have h1:a.eval x=V r:=hk x _ (by grind[Op.operands,Call.operands]) hx
 have h2:=hh.row r y hr
 have:∃ p c,V r=.slice p y.n c:=by
  split at h2
  ·grind[J1,IY]
  ·obtain⟨xs,⟨_,h3⟩,_⟩:=Gx.row h2 hty
   grind
 obtain⟨p,c,h3⟩:=this
 exact⟨_,by simp_all[execOp,resolve,invoke,builtin,run_len_slice,goInt],.cell _⟩
theorem AA{x:Operand}{ds:List Dat}(ho:o.op=.nilCheck x)(hx:Kn T x (.ref ds)):LStep P cx B R o T (.ref ds):=LStep.same fun M V w a _ hk=>by
 have h1:=hk x _ (by grind[Op.operands]) hx
 obtain⟨b,off,h2,_⟩:=h1
 simp_all[execOp,Op.operands]
def CZ(P:Program)(t:TypeId)(f:Nat):Option Nat:=
 match P.underlying t with
 | some (.struct fs)=>
  match fs[f]? with
  | some x=>if((P.info? x.type).map (·.size)).getD 0=0 then none else some x.offset
  | none=>none
 | _=>none
theorem G7{t:TypeId}{f off:Nat}(h:CZ P t f=some off)(b j:Nat)(w:World):(Instr.fieldAt t (.pointer (some ⟨b,j,none⟩)) f).run P w=.ok (.pointer (some ⟨b,j+off,none⟩)) w:=by
 unfold CZ at h
 cases hu:P.underlying t with
 | none=>grind
 | some d=>
  rw[hu]at h
  cases d<;>simp only at h<;>try cases h
  rename_i fs
  cases hf:fs[f]? with
  | none=>grind
  | some x=>
   rw[hf]at h
   simp only at h
   cases hq:P.info? x.type with
   | none=>grind
   | some i=>
    simp_all[Addr.add,Instr.fieldAt,run_underlying,Instr.sureAddr,fieldPlace,sizeOf,typeInfo]
theorem A4{x:Operand}{t:TypeId}{f off b j:Nat}(ho:o.op=.fieldAddr t x f)(hx:Kn T x (.box b j))(h:CZ P t f=some off):LStep P cx B R o T (.box b (j+off)):=LStep.same fun M V w a _ hk=>by
 have h1:a.eval x=_:=hk x _ (by grind[Op.operands]) hx
 exact⟨_,by simp_all[execOp,G7],rfl⟩
theorem A6{x:Operand}{t:TypeId}{f off:Nat}{ds:List Dat}(ho:o.op=.fieldAddr t x f)(hx:Kn T x (.ref ds))(h:CZ P t f=some off):LStep P cx B R o T (.ref (ds.drop off)):=LStep.same fun M V w a _ hk=>by
 obtain⟨b,j,h1,hD,xs,h2,h3⟩:=hk x _ (by grind[Op.operands]) hx
 refine⟨_,by simp[execOp,ho,h1,G7 h],b,j+off,rfl,hD,xs.drop off,⟨by simp[h2.1],fun i d y hd hy=>h2.2 (off+i) d y (by rwa [List.getElem?_drop]at hd) (by grind)⟩,fun i y hy=>?_⟩
 grind
end
end
end Go.Proofs.Ytecfdcdkkgmkpaa
