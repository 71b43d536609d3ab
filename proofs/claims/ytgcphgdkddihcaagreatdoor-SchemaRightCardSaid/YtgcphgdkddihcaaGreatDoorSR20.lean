/- Part 20. Conditions: as each theorem says. -/
import Derived.Test.YtgcphgdkddihcaaGreatDoorSR19
import Derived.Test.YtgcphgdkddihcaaGreatDoorProg
set_option maxRecDepth 100000
namespace Go.Proofs.YtgcphgdkddihcaaGreatDoor
open Go.RowKit
section
section
variable{P:Program}{ops:Array Oper}{md:Region.Mode}{C:World->Prop}{R:World->World->Prop}
def JJ(P:Program)(md:Region.Mode)(ops:Array Oper)(R:World->World->Prop)(C:World->Prop)(ks:Nat->Kind)(n p:Nat)(L:Array Bool->List C9->Act->Prop):Nat->Array Bool->List C9->Act->Prop
 | 0,listed,G,a=>L listed G a
 | fuel+1,listed,G,a=>
  Region.ready md ops listed≠[] /\
  (∀ i∈Region.ready md ops listed,i<n -> ∀ o,ops[i]?=some o->AskT P ops R C o (ks i) G a /\
   ∀ v,(ks i).ok v->JJ P md ops R C ks n p L fuel (listed.setIfInBounds i true) ((o.dst,(ks i).pred v)::G) (a.put o.dst v)) /\
  ((∀ i∈Region.ready md ops listed,i<n)\/(p∈Region.ready md ops listed/\p<n))
theorem MN{ks:Nat->Kind}{n p:Nat}{L:Array Bool->List C9->Act->Prop}(hL:∀ listed G G' a,(∀ f∈G,f∈G')->L listed G a->L listed G' a):
  ∀ (fuel:Nat) (listed:Array Bool) (G G':List C9) (a:Act),(∀ f∈G,f∈G')->JJ P md ops R C ks n p L fuel listed G a->JJ P md ops R C ks n p L fuel listed G' a
 | 0,_,_,_,_,hG,h=>hL _ _ _ _ hG h
 | fuel+1,_,G,G',_,hG,h=>⟨h.1,fun i hi hin o ho=>by
   obtain⟨h1,h2⟩:=h.2.1 i hi hin o ho
   refine⟨h1.more hG,fun v hv=>MN hL fuel _ _ _ _ (fun f hf=>?_) (h2 v hv)⟩
   rcases List.mem_cons.1 hf with rfl | hf
   ·exact List.mem_cons_self
   ·exact List.mem_cons_of_mem _ (hG f hf),h.2.2⟩
theorem IH{ks:Nat->Kind}{n p g:Nat}{op:Oper}{L:Array Bool->List C9->Act->Prop}{Q':Exit->Act->World->Prop}(hC:CV R C)(hks:∀ i v,CV R ((ks i).pred v))(hop:ops[p]?=some op)
  (hsel:∀ (j:Nat) (o:Oper) cs b,ops[j]?=some o->o.op≠.select cs b) (hQ:∀ c a v w,Q' (.panic c) (a.put op.dst v) w->Q' (.panic c) a w) (hpw:op.guard=none) (hpx:∃ x i,op.op=.extract x i)
  (hfree:∀ j oj,ops[j]?=some oj->j≠p->(∀ e∈op.after,Region.binds md e=true->e.on≠j)->(∀ e∈oj.after,Region.binds md e=true->e.on≠p)->op.apart ops oj=true)
  (hL:∀ listed G a w,C w->(∀ f∈G,f.2 w)->L listed G a->wpAny P md ops Q' g listed a w):∀ (fuel:Nat) (listed:Array Bool) (G:List C9) (a:Act) (w:World),C w->(∀ f∈G,f.2 w)->(∀ f∈G,CV R f.2) ->
  JJ P md ops R C ks n p L fuel listed G a->wpAny P md ops Q' (fuel+g) listed a w
 | 0,_,_,_,_,hw,hG,_,h=>by rw[Nat.zero_add];exact hL _ _ _ _ hw hG h
 | fuel+1,listed,G,a,w,hw,hG,hst,h=>by
  rw[show fuel+1+g=(fuel+g)+1 by omega]
  rcases h.2.2 with hall | ⟨hp,hpn⟩
  ·refine⟨fun h0=>absurd h0 h.1,fun i hi=>?_⟩
   unfold wpOp
   split
   ·rename_i ho
    obtain⟨_,o,ho',_⟩:=mem_ready.1 hi
    rw[ho]at ho';cases ho'
   ·rename_i o ho
    obtain⟨h1,h2⟩:=h.2.1 i hi (hall i hi) o ho
    unfold AskT at h1
    split
    ·rename_i hwt
     rw[if_pos hwt]at h1
     refine .inl (IK (h1 w hw fun f hf _ _ _=>hG f hf) fun v w' hR hok hp=>?_)
     refine IH hC hks hop hsel hQ hpw hpx hfree hL fuel _ _ _ w' (hC _ _ hR hw) (fun f hf=>?_) (fun f hf=>?_) (h2 v hok)
     ·rcases List.mem_cons.1 hf with rfl | hf
      ·exact hp
      ·exact hst f hf _ _ hR (hG f hf)
     ·rcases List.mem_cons.1 hf with rfl | hf
      ·exact hks i v
      ·exact hst f hf
    ·rename_i hwt
     rw[if_neg hwt]at h1
     refine IH hC hks hop hsel hQ hpw hpx hfree hL fuel _ _ _ w hw (fun f hf=>?_) (fun f hf=>?_) (h2 undef h1.1)
     ·rcases List.mem_cons.1 hf with rfl | hf
      ·exact h1.2 w
      ·exact hG f hf
     ·rcases List.mem_cons.1 hf with rfl | hf
      ·exact hks i undef
      ·exact hst f hf
  ·obtain⟨h1,h2⟩:=h.2.1 p hp hpn op hop
   have hwt:Region.wanted op (yielded ops a.tmps)=true:=by simp[Region.wanted,hpw]
   unfold AskT at h1
   rw[if_pos hwt]at h1
   have h3:=h1 w hw fun f hf _ _ _=>hG f hf
   obtain⟨x,i,hx⟩:=hpx
   have hv:∃ v,(∀ u,(execOp a.eval op).run P u=.ok (.value v) u)/\(ks p).ok v/\(ks p).pred v w:=by
    unfold EP at h3
    cases hxv:a.eval x with
    | tuple vs=>
     cases hi:vs[i]? with
     | some v=>
      have hr:∀ u,(execOp a.eval op).run P u=.ok (.value v) u:=fun u=>by simp[execOp,hx,hxv,Instr.extract,hi]
      rw[hr w]at h3
      exact⟨v,hr,h3.2.1,h3.2.2⟩
     | none=>simp[execOp,hx,hxv,Instr.extract,hi,FY]at h3
    | _=>simp[execOp,hx,hxv,Instr.extract,FY]at h3
   obtain⟨v,hr,hok,hpr⟩:=hv
   refine wpAny_first (v:=v) hop hsel (fun c a w h=>hQ c a v w h) (fuel+g) listed a w (fun j oj hj hjp hun hno=>hfree j oj hj hjp (fun e he hb hon=>by
    obtain⟨_,o',ho',hall⟩:=mem_ready.1 hp
    rw[hop]at ho'
    obtain rfl:=Option.some.inj ho'
    have h5:=hall e he hb
    rw[hon,getD_both hun]at h5
    cases h5) hno) hp (.inl ⟨hwt,hr⟩) ?_
   refine IH hC hks hop hsel hQ hpw ⟨x,i,hx⟩ hfree hL fuel _ _ _ w hw (fun f hf=>?_) (fun f hf=>?_) (h2 v hok)
   ·rcases List.mem_cons.1 hf with rfl | hf
    ·exact hpr
    ·exact hG f hf
   ·rcases List.mem_cons.1 hf with rfl | hf
    ·exact hks p v
    ·exact hst f hf
theorem TO{ks:Nat->Kind}{n p i:Nat}{oi:Oper}{L:Array Bool->List C9->Act->Prop}(hLm:∀ listed G G' a,(∀ f∈G,f∈G')->L listed G a->L listed G' a)(hi:ops[i]?=some oi)
  (hsel:∀ (j:Nat) (o:Oper) cs b,ops[j]?=some o->o.op≠.select cs b)
  {Inv:Array Bool->Prop} (hset:∀ listed i,Inv listed->i∈Region.ready md ops listed->i<n->Inv (listed.setIfInBounds i true)) (hwait:∀ listed,Inv listed -> ∀ i,i<n->i≠p->listed.getD i true=false -> ∀ t,n<=t->t∉Region.ready md ops listed) (hin:i<n)
  (hdone:∀ listed G a,L listed G a -> ∀ j∈Region.ready md ops listed,n<=j):
  ∀ (fuel:Nat) (listed:Array Bool) (G:List C9) (a:Act),Inv listed ->
   (∀ j oj,ops[j]?=some oj->j≠i->listed.getD j true=false->(∀ e∈oj.after,Region.binds md e=true->e.on≠i)->oi.apart ops oj=true) ->
   i∈Region.ready md ops listed->AskT P ops R C oi (ks i) G a ->
   (∀ v,(ks i).ok v->JJ P md ops R C ks n p L fuel (listed.setIfInBounds i true) ((oi.dst,(ks i).pred v)::G) (a.put oi.dst v))->JJ P md ops R C ks n p L (fuel+1) listed G a:=by
 intro fuel
 have hthird:∀ listed,Inv listed->i∈Region.ready md ops listed->(∀ j∈Region.ready md ops listed,j<n)\/(p∈Region.ready md ops listed/\p<n):=fun listed inv hr=>by
  have hun:=(mem_ready.1 hr).1
  by_cases hip:i=p
  ·subst hip
   exact .inr ⟨hr,hin⟩
  ·refine .inl fun j hj=>?_
   rcases Nat.lt_or_ge j n with h | h
   ·exact h
   ·exact absurd hj (hwait _ inv i hin hip hun j h)
 induction fuel with
 | zero=>
  intro listed G a inv _ hr hy H
  refine⟨fun h=>(by rw[h]at hr;cases hr),fun j hj hjn o ho=>?_,hthird listed inv hr⟩
  by_cases hji:j=i
  ·subst hji
   rw[hi]at ho;cases ho
   exact⟨hy,H⟩
  ·have:=hdone _ _ _ (H _ (ks i).ok_pick) j (ready_mono hj hji)
   omega
 | succ fuel ih=>
  intro listed G a inv hfree hr hy H
  refine⟨fun h=>(by rw[h]at hr;cases hr),fun j hj hjn o ho=>?_,hthird listed inv hr⟩
  by_cases hji:j=i
  ·subst hji
   rw[hi]at ho;cases ho
   exact⟨hy,H⟩
  ·have hjun:=(mem_ready.1 hj).1
   obtain⟨a1,a2,a3⟩:=Oper.apart_spec (hfree j o ho hji hjun (JI hr hj ho))
   have hjr:=ready_mono hj hji
   refine⟨(AskT.put (hsel j o · · ho) a1).1 ((H _ (ks i).ok_pick).2.1 j hjr hjn o ho).1,fun u hu=>?_⟩
   refine ih (listed.setIfInBounds j true) _ _ (hset _ _ inv hj hjn) (fun k ok hk hki hun hno=>hfree k ok hk hki (Decidable.byCases (fun h:j=k=>by rw[<- h];exact hjun) fun h=>by rwa [getD_set_ne true h]at hun) hno) (ready_mono hr (Ne.symm hji)) ((AskT.put (hsel i oi · · hi) a3).2 hy) fun v hv=>?_
   have h2:=(((H v hv).2.1 j hjr hjn o ho)).2 u hu
   rw[Array.setIfInBounds_comm _ _ hji,<- Act.put_comm a v u a2]
   refine MN hLm fuel _ _ _ _ (fun f hf=>?_) h2
   simp only[List.mem_cons]at hf ⊢
   rcases hf with h | h | h
   ·exact .inr (.inl h)
   ·exact .inl h
   ·exact .inr (.inr h)
theorem PA{ks:Nat->Kind}{n p g:Nat}{Q:List C9->Act->Prop}(hQ:∀ G G' a,(∀ f∈G,f∈G')->Q G a->Q G' a)(hsel:Region.noSelect ops=true){Inv:Array Bool->Prop}(hset:∀ listed i,Inv listed->i∈Region.ready md ops listed->i<n->Inv (listed.setIfInBounds i true))(hwait:∀ listed,Inv listed -> ∀ i,i<n->i≠p->listed.getD i true=false -> ∀ t,n<=t->t∉Region.ready md ops listed):
  ∀ (l:List Oper) (kl:List Kind) (k:Nat) (listed:Array Bool) (G:List C9) (a:Act),(∀ j,j<l.length->l[j]?=ops[k+j]?)->(∀ (j:Nat) x,kl[j]?=some x->ks (k+j)=x)->k+l.length=n->Inv listed ->
  Region.lexHead md ops g l.length k listed=true->wpT P ops R C Q l kl G a ->
  JJ P md ops R C ks n p (fun listed' G' a'=>Region.seqB md ops g n listed'=true/\Q G' a') l.length listed G a
 | [],_,k,listed,G,a,_,_,hk,_,hB,h=>by
  have:k=n:=by simpa using hk
  subst this
  exact⟨by simpa[Region.lexHead]using hB,h⟩
 | _::_,[],_,_,_,_,_,_,_,_,_,h=>h.elim
 | o::l,x::kl,k,listed,G,a,hl,hx,hk,inv,hB,h=>by
  have h0:ops[k]?=some o:=by simpa using(hl 0 (by simp)).symm
  have hx0:ks k=x:=by simpa using hx 0 x (by simp)
  simp only[List.length_cons,Region.lexHead,Bool.and_eq_true]at hB
  obtain⟨⟨hr,hf⟩,hB'⟩:=hB
  have hkn:k<n:=by simp only[List.length_cons]at hk;omega
  have hr':k∈Region.ready md ops listed:=by simpa using hr
  obtain⟨h1,h2⟩:=h
  refine TO (fun listed G G' a hG h=>⟨h.1,hQ _ _ _ hG h.2⟩) h0 (Region.noSelect_spec hsel) hset hwait hkn (fun listed' G' a' hL=>seqB_ready hL.1) l.length listed G a inv (Region.free_spec h0 hf) hr' (by rw[hx0];exact h1) fun v hv=>?_
  rw[hx0]at hv ⊢
  exact PA hQ hsel hset hwait l kl (k+1) _ _ _ (fun j hj=>by have:=hl (j+1) (by simp;omega);simpa[Nat.add_assoc,Nat.add_comm 1 j]using this)
   (fun j x' hj=>by have:=hx (j+1) x' (by simpa using hj);simpa[Nat.add_assoc,Nat.add_comm 1 j]using this) (by simp only[List.length_cons]at hk;omega) (hset _ _ inv hr' hkn) hB' (h2 v hv)
def Q4H(ops:Array Oper)(n p:Nat):Bool:=
  Region.noSelect ops&&decide (n<ops.size)&&decide (p<n)&&(List.range n).all (fun i=>i==p||Region.waitsFor .any ops n i)&&(List.range ops.size).all (fun t=>Nat.ble t n||Region.waitsFor .any ops t n) &&
  Region.lexHead .any ops (ops.size-n) n 0 (Array.replicate ops.size false) &&
  (match ops[p]? with
   | some op=>(List.range ops.size).all fun j=>j==p||Region.waitsFor .any ops j p||Region.waitsFor .any ops p j||(match ops[j]? with | some oj=>op.apart ops oj | none=>true)
   | none=>false)
theorem Q3m{n p:Nat}(h1:(List.range n).all (fun i=>i==p||Region.waitsFor md ops n i)=true)(h2:(List.range ops.size).all (fun t=>Nat.ble t n||Region.waitsFor md ops t n)=true)(hn:n<ops.size){listed:Array Bool}(inv:HeadInv md ops n listed):∀ i,i<n->i≠p->listed.getD i true=false -> ∀ t,n<=t->t∉Region.ready md ops listed:=fun i hi hip hun t ht hr=>by
 obtain⟨htu,o,ho,hall⟩:=mem_ready.1 hr
 have htl:t<ops.size:=(Array.getElem?_eq_some_iff.1 ho).1
 by_cases htn:t=n
 ·subst htn
  have:=List.all_eq_true.1 h1 i (List.mem_range.2 hi)
  simp only[Bool.or_eq_true,beq_iff_eq]at this
  rcases this with h | h
  ·exact hip h
  ·obtain⟨oj,hj,e,he,hb,hon⟩:=Region.waitsFor_spec h
   rw[ho]at hj
   obtain rfl:=Option.some.inj hj
   have h3:=hall e he hb
   rw[hon]at h3
   rw[getD_both hun]at h3
   cases h3
 ·have:=List.all_eq_true.1 h2 t (List.mem_range.2 htl)
  simp only[Bool.or_eq_true]at this
  rcases this with h | h
  ·have:=Nat.le_of_ble_eq_true h
   omega
  ·obtain⟨oj,hj,e,he,hb,hon⟩:=Region.waitsFor_spec h
   rw[ho]at hj
   obtain rfl:=Option.some.inj hj
   have h3:=hall e he hb
   rw[hon,getD_both (inv.tail n (Nat.le_refl _) hn)]at h3
   cases h3
theorem RX{id:Nat}{Q:Exit->Act->World->Prop}{a:Act}{w:World}{l:List Oper}(n p:Nat)(C:World->Prop)(R:World->World->Prop)(kl:List Kind){op:Oper}(hm:P.follows .mixedOrders=true)
  (hB:Q4H l.toArray n p=true) (hop:l.toArray[p]?=some op) (hpw:op.guard=none) (hpx:∃ x i,op.op=.extract x i) (hQ:∀ c a v w,Q (.panic c) (a.put op.dst v) w->Q (.panic c) a w) (hC:CV R C) (hks:AllStay R kl) (h0:C w.drew)
  (h:wpT P l.toArray R C (fun G a'=>∀ w',C w'->(∀ f∈G,f.2 w')->wpList P l.toArray Q (l.drop n) a' w') (l.take n) kl [] a):(Code.region id l.toArray true).wp P Q a w:=by
 simp only[Q4H,Bool.and_eq_true,decide_eq_true_eq,hop]at hB
 obtain⟨⟨⟨⟨⟨⟨hsel,hn⟩,hpn⟩,hw1⟩,hw2⟩,hlex⟩,hap⟩:=hB
 have hn':n<l.length:=by simpa using hn
 have htl:(l.take n).length=n:=by simp;omega
 have hdl:(l.drop n).length=l.toArray.size-n:=by simp
 have inv0:HeadInv .any l.toArray n (Array.replicate l.toArray.size false):=
  ⟨by simp,fun j oj _ hl=>(by rw[getD_replicate_false]at hl;cases hl),fun t _ ht=>getD_in (by simpa using ht) (getD_replicate_false _ _)⟩
 have hks':∀ i v,CV R (((fun i=>kl.getD i (Kind.is undef)) i).pred v):=fun i v=>by
  simp only[List.getD]
  cases hk:kl[i]? with
  | none=>exact fun _ _ _ _=>trivial
  | some k=>exact hks.mem k (List.mem_of_getElem? hk) v
 have H:=PA (md:=.any) (p:=p) (ks:=fun i=>kl.getD i (Kind.is undef)) (g:=l.toArray.size-n) (Inv:=HeadInv .any l.toArray n) (fun G G' a' hG h w' hw hF=>h w' hw fun f hf=>hF f (hG f hf)) hsel (fun listed i inv hi hin=>inv.set hi hin) (fun listed inv=>Q3m hw1 hw2 hn inv) (l.take n) kl 0 _ [] a (fun j hj=>by
  have hj':j<n:=by rw[htl]at hj;exact hj
  simp[hj']) (fun j k hj=>by simp[List.getD,hj]) (by simpa using htl) inv0 (by rw[htl];exact hlex) h
 refine wp_region_any hm ?_
 have:=IH (Q':=Q) (g:=l.toArray.size-n) hC hks' hop (Region.noSelect_spec hsel) hQ hpw hpx (fun j oj hj hjp hno2 hno=>by
  have hlt:j<l.toArray.size:=(Array.getElem?_eq_some_iff.1 hj).1
  have h1:=List.all_eq_true.1 hap j (List.mem_range.2 hlt)
  simp only[Bool.or_eq_true,beq_iff_eq,hj]at h1
  rcases h1 with((h1 | h1) | h1) | h1
  ·exact absurd h1 hjp
  ·obtain⟨oj',hj',e,he,hb,hon⟩:=Region.waitsFor_spec h1
   rw[hj]at hj'
   obtain rfl:=Option.some.inj hj'
   exact absurd hon (hno e he hb)
  ·obtain⟨oj',hj',e,he,hb,hon⟩:=Region.waitsFor_spec h1
   rw[hop]at hj'
   obtain rfl:=Option.some.inj hj'
   exact absurd hon (hno2 e he hb)
  ·exact h1) (fun listed G a' w' hw hG hL=>by
  have:=wpAny_of_seq (md:=.any) (Q':=Q) (l.drop n) n listed a' w' (fun j=>by simp[List.getElem?_drop]) (by rw[hdl];exact hL.1) (hL.2 w' hw hG)
  rwa [hdl]at this) _ _ [] _ w.drew h0 (fun f hf=>by cases hf) (fun f hf=>by cases hf) H
 rw[htl,show n+(l.toArray.size-n)=l.toArray.size by omega]at this
 exact this
end
end
section
section
variable{P:Program}{cx:Cx}{T T':TL}{B:BL}{R:RL}
theorem XM(n p b:Nat){id:Nat}{l:List Oper}{on op:Oper}{d:Nat}{ty:TypeId}{zs:List Value}{Q:Exit->Act->World->Prop}{ys:List IV}(T0:TL)(hm:P.follows .mixedOrders=true)(hB:Q4H l.toArray (n+1) p=true)(hop:l.toArray[p]?=some op)(hpw:op.guard=none)(hpx:∃ x i,op.op=.extract x i)(hQ:∀ c a v w,Q (.panic c) (a.put op.dst v) w->Q (.panic c) a w)
  (hon:l[n]?=some on) (hg:on.guard=none) (hd:on.dst=some d) (hn:Nat.blt d cx.n=true) (ho:on.op=.alloc ty) (hz:C5 P ty=some zs) (h1:zs.all Value.oneCell'=true) (hpn:cx.pn.all (fun c => !Nat.beq c b)=true) (hT:OO b T=true) (hBb:MM b B=true)
  (hW:Walk P cx B R l.toArray (l.take n) T ys T') (hs:SubN T T' (l.take n) T0) (h:E cx ((d,.box b 0)::T0) ((b,⟨ty,bcs (zs.map Dat.cell)⟩)::B) R (wpList P l.toArray Q (l.drop (n+1)))):
  E cx T B R ((Code.region id l.toArray true).wp P Q):=fun M V a w hr=>by
 have h00:Ct cx T B R M V a w.drew:=Ct.stay w _ (Below.refl _ _).drew ⟨hr.heap,hr.tmp⟩
 have hr0:Rel cx T B R M V a w.drew:=⟨hr.size,hr.defers,h00.1,h00.2⟩
 let C:World->Prop:=fun w'=>Ct cx T B R M V a w'/\Below w.drew.heap.size w.drew w'
 have hC:CV Rb C:=fun w1 w2 hb h=>⟨Ct.stay w1 w2 hb h.1,h.2.trans (hb.mono h.2.size)⟩
 let k:Kind:=Kind.of fun v w'=>∃ g,v=.pointer (some ⟨g,0,none⟩)/\w.drew.heap.size<=g/\Blk w' g ty zs
 have hk:∀ v,CV Rb (k.pred v):=fun v w1 w2 hb ⟨g,e1,e2,e3⟩=>⟨g,e1,e2,e3.kept hb⟩
 have h0:C w.drew:=⟨h00,Below.refl _ _⟩
 refine RX (n+1) p C Rb (ys.map (E6 cx B R M V)++[k]) hm hB hop hpw hpx hQ hC ((F3 ys).app ⟨hk,trivial⟩) h0 ?_
 have htk:l.take (n+1)=l.take n++[on]:=by rw[List.take_add_one,hon];rfl
 rw[htk]
 refine X3 _ _ (by rw[List.length_map,hW.len]) ?_
 refine N1 (Q:=fun G' a'=>(a'.tmps.size=cx.n/\a'.defers=[]/\Gt cx B R M V C T' G' a') /\ ∀ t,(∀ o∈l.take n,o.dst≠some t)->a'.tmps.getD t undef=a.tmps.getD t undef) (fun G' a' ⟨⟨q1,q2,q3⟩,q4⟩=>?_) _ _ (SE _ _ (hW.wpT (fun w h=>h.1.1) ⟨_,h0⟩ hr.size hr.defers (fun t x hx=>.inl fun w h=>h.1.2 t x hx) fun G' a' q1 q2 q3=>⟨q1,q2,q3⟩))
 refine⟨?_,fun v _ w' hc hF=>?_⟩
 ·unfold AskT
  rw[if_pos (by simp[Region.wanted,hg])]
  intro w1 hc _
  unfold EP
  cases hi:P.info? ty with
  | none=>simp[C5,hi]at hz
  | some i=>
   cases hzz:i.zero with
   | none=>simp[C5,hi,hzz]at hz
   | some z=>
    have hzc:z.cells=zs.toArray:=by
     have:z.cells.toList=zs:=by simpa[C5,hi,hzz]using hz
     rw[<- this]
    unfold execOp
    simp only[ho,Sem.run_bind]
    simp[Instr.alloc,zeroValue,typeInfo,hi,hzz,newVar,newRow,hzc]
    exact⟨(Below.refl _ _).alloc (Nat.le_refl _) _,fun c h=>(by cases h),w1.heap.size,rfl,hc.2.size,Blk.new _ _ _⟩
 ·obtain⟨g,e1,e2,e3⟩:=hF (some d,k.pred v) (by rw[hd];exact List.mem_cons_self)
  subst e1
  obtain⟨M',hMb,hr'⟩:=hr0.newbox hc.2 b (ds:=zs.map Dat.cell) e2 e3 ⟨by simp,fun j x u hx hu=>by
   rw[List.getElem?_map,hu]at hx
   obtain rfl:=Option.some.inj hx
   exact .cell _⟩ (fun c hcm=>List.all_eq_true.1 h1 c hcm) hpn hT hBb
  have hrel:=q3.rel (fun w h=>h.1.1) q1 q2 hc fun f hf=>hF f (List.mem_cons_of_mem _ hf)
  refine h M' V _ w' ⟨by rw[hd];simpa[Act.put]using q1,by rw[hd];exact q2,hr'.heap,fun t x hx=>?_⟩
  rw[hd,EW a' d t _ (by rw[q1];exact C0 hn)]
  rcases AK hx with⟨rfl,rfl⟩ | ⟨hne,hx⟩
  ·rw[if_pos rfl]
   show _=_
   rw[hMb]
  ·rw[if_neg hne]
   rcases hs.get hx with⟨f1,f2⟩ | ⟨f1,f2⟩
   ·exact Q1 f2 (hrel.tmp t x f1)
   ·rw[q4 t f2]
    exact hr'.tmp t x f1
end
end
abbrev mgs(A:List MgV):List Mg:=A.map (·.1)
theorem KW{α:Type}{f:α->List Dat}{k:Nat}(hk:∀ a,(f a).length=k){qs:List α}{i r:Nat}{a:α}(ha:qs[i]?=some a)(hr:r<k):(qs.flatMap f)[i*k+r]?=(f a)[r]?:=by
 have h:=O7 hk qs i a ha
 rw[<- h,List.getElem?_take,if_pos hr,List.getElem?_drop]
theorem O3{α:Type}{f:α->List Dat}{k:Nat}(hk:∀ a,(f a).length=k):∀ {qs:List α} {i r:Nat} {a b:α} {d:Dat},qs[i]?=some a->r<k->f b=(f a).set r d->(qs.flatMap f).set (i*k+r) d=(qs.set i b).flatMap f
 | [],_,_,_,_,_,h,_,_=>by cases h
 | q::qs,0,r,a,b,d,h,hr,hb=>by
  obtain rfl:=Option.some.inj h
  rw[List.set_cons_zero,List.flatMap_cons,List.flatMap_cons,Nat.zero_mul,Nat.zero_add,List.set_append,if_pos (by rw[hk];exact hr),hb]
 | q::qs,i+1,r,a,b,d,h,hr,hb=>by
  rw[List.set_cons_succ,List.flatMap_cons,List.flatMap_cons,List.set_append,if_neg (by rw[hk,Nat.succ_mul];omega),hk,show(i+1)*k+r-k=i*k+r by rw[Nat.succ_mul];omega,O3 hk (show qs[i]?=some a from h) hr hb]
theorem YG{α:Type}{p:α->Bool}{f:α}:∀ {l:List α} (i:Nat),l.find? p=some f -> ∃ k,l[k]?=some f/\cix p l i=((i+k:Nat):Int)
 | [],_,h=>by cases h
 | x::l,i,h=>by
  rw[List.find?_cons]at h
  rw[cix]
  cases hp:p x
  ·rw[hp]at h
   obtain⟨k,h1,h2⟩:=YG (i+1) h
   refine⟨k+1,h1,?_⟩
   rw[if_neg (by decide),h2]
   congr 1
   omega
  ·rw[hp]at h
   obtain rfl:=Option.some.inj h
   exact⟨0,rfl,by rw[if_pos rfl];rfl⟩
theorem UE{n kk:Int}{f:Fd}:∀ {l:List Fd} {i:Nat} {k:Nat},cix (fun f=>decide (f.number=n)) l i=((i+k:Nat):Int)->l[k]?=some f->CS n kk l=l.set k { f with key:=kk }
 | [],_,_,_,h=>by cases h
 | x::l,i,k,h,hk=>by
  rw[cix]at h
  unfold CS
  by_cases e:x.number=n
  ·rw[if_pos (decide_eq_true e)]at h
   obtain rfl:k=0:=by omega
   obtain rfl:=Option.some.inj hk
   rw[if_pos e]
   rfl
  ·rw[if_neg (by simp[e])]at h
   rw[if_neg e]
   cases k with
   | zero=>
    exfalso
    have:∀ (l:List Fd) (j:Nat),cix (fun f=>decide (f.number=n)) l j = -1\/(j:Int)<=cix (fun f=>decide (f.number=n)) l j:=fun l=>by
     induction l with
     | nil=>intro j;exact .inl rfl
     | cons y l ih=>
      intro j
      rw[cix]
      split
      ·exact .inr (by omega)
      ·rcases ih (j+1)with h | h
       ·exact .inl h
       ·exact .inr (by omega)
    rcases this l (i+1)with h2 | h2<;>omega
   | succ k=>
    rw[List.set_cons_succ,UE (l:=l) (i:=i+1) (k:=k) (by rw[h];congr 1;omega) hk]
theorem Q3w{n:Int}{f:Fd}{l:List Fd}(h:(l.find? fun f=>decide (f.number=n))=some f):∃ k:Nat,l[k]?=some f/\cix (fun f=>decide (f.number=n)) l 0=(k:Int) /\ ∀ kk,CS n kk l=l.set k { f with key:=kk }:=by
 obtain⟨k,h1,h2⟩:=YG 0 h
 exact⟨k,h1,by rw[h2,Nat.zero_add],fun kk=>UE h2 h1⟩
theorem Q6h(l:List Fd)(f:Fd)(k:Nat)(kk:Int)(h:l[k]?=some f):(l.flatMap fdD).set (k*9+6) (.cell (.int .i64 kk))=(l.set k { f with key:=kk }).flatMap fdD:=O3 G5 h (by omega) rfl
theorem X5{A:List MgV}{n:Nat}{q:Mg}{v:Value}(h:A[n]?=some (q,v)):(A.flatMap mgO)[n*3+1]?=some (.orow 61 9 q.fields.length v (q.fields.flatMap fdD)):=by
 rw[KW Q1R h (by omega)]
 rfl
theorem WL{l:List Dat}{j:Nat}{d:Dat}(h:j<l.length):(l.set j d)[j]?=some d:=by
 rw[List.getElem?_set,if_pos rfl,if_pos h]
theorem XJ{A:List MgV}{n:Nat}{q q':Mg}{v:Value}(h:A[n]?=some (q,v))(h1:q'.name=q.name)(h2:q'.oneofs=q.oneofs){m:Nat}(hm:m=q'.fields.length):((A.flatMap mgO).set (n*3+1) (.cell v)).set (n*3+1) (.orow 61 9 m v (q'.fields.flatMap fdD))=(A.set n (q',v)).flatMap mgO:=by
 subst hm
 rw[List.set_set]
 exact O3 Q1R h (by omega) (by unfold mgO;rw[h1,h2];rfl)
theorem RM{α:Type}{l:List α}{n:Nat}{a:α}(h:l[n]?=some a):l.set n a=l:=by
 apply List.ext_getElem?
 intro i
 rw[List.getElem?_set]
 split
 ·rename_i e
  subst e
  split
  ·exact h.symm
  ·rename_i hn
   rw[List.getElem?_eq_none (by omega)]
 ·rfl
theorem UB(A:List MgV):(A.flatMap mgO).map QT=(mgs A).flatMap mgD:=by
 induction A with
 | nil=>rfl
 | cons x l ih=>rw[List.flatMap_cons,List.map_append,ih];rfl
theorem Q2c{w:World}{D:Nat->Prop}{A:List MgV}{n:Nat}{q:Mg}{v u u1:Value}(h:A[n]?=some (q,v))(h1:Lies w D (datOf ⟨2000000+71,3,A.length,(A.flatMap mgO).set (n*3+1) (.cell v),false⟩) u)(h2:Lies w D (datOf ⟨61,9,q.fields.length,q.fields.flatMap fdD,false⟩) u1)(hv:u1=v):Lies w D (.row 3 (mgs A).length ((mgs A).flatMap mgD)) u:=by
 subst hv
 rw[JT rfl]at h1
 rw[GT rfl]at h2
 have hl:n*3+1<(A.flatMap mgO).length:=(List.getElem?_eq_some_iff.1 (X5 h)).1
 have h3:=WZ h1 (j:=n*3+1) (v0:=u1) (by rw[List.getElem?_map,WL hl];rfl) h2
 have e:(((A.flatMap mgO).set (n*3+1) (.cell u1)).map QT).set (n*3+1) (.row 9 q.fields.length (q.fields.flatMap fdD))=(mgs A).flatMap mgD:=by
  rw[<- UB,List.map_set,List.set_set]
  refine RM ?_
  rw[List.getElem?_map,X5 h]
  rfl
 rw[List.length_map,<- e]
 exact h3
def KY(er:Nat->Er)(g:Nat)(L:List Ty)(nm ne:List (List UInt8))(A:List MgV)(E:List En)(W:List Wish)(v3:Value)(x:Fld)(r:Option (List Mg))(y:IV)(B1:BL)(R1:RL)(p1:List (Nat×Value)):Prop:=
 B1=coB L nm ne/\p1=[(1003,v3)]/\((∃ A',r=some (mgs A')/\A'.length=A.length/\y=.part IS/\R1=coR (pcV g) A' E W)\/(r=none/\y=.part (.one (sfD x.line x.col (er 10)))/\R1=coR (pcV g) A E W))
theorem KY.tidy{er:Nat->Er}{g:Nat}{L:List Ty}{nm ne:List (List UInt8)}{A:List MgV}{E:List En}{W:List Wish}{v3:Value}{x:Fld}{r:Option (List Mg)}(y:IV)(B1:BL)(R1:RL)(p1:List (Nat×Value))(h:KY er g L nm ne A E W v3 x r y B1 R1 p1):NU (coB L nm ne) (coR (pcV g) A E W) y B1 R1 p1:=by
 obtain⟨rfl,rfl,⟨A',_,_,rfl,rfl⟩ | ⟨_,rfl,rfl⟩⟩:=h<;>exact⟨⟨rfl,rfl,rfl,rfl⟩,fun z hz=>by
  obtain rfl:=List.mem_singleton.1 hz
  exact .tail _ (.tail _ (.head _))⟩
set_option maxHeartbeats 8000000 in
theorem Q7g(er:Nat->Er)(g:Nat)(L:List Ty)(nm ne:List (List UInt8))(A:List MgV)(E:List En)(W:List Wish)(v3:Value)(hA:A.length<=1000)(hF:∀ q∈A,q.1.fields.length<=100000)(n0:Nat)(q:Mg)(v:Value)(hq:A[n0]?=some (q,v))(x:Fld)(f:Fd)(hf:(q.fields.find? fun f=>decide (f.number=x.number))=some f):
  EGp Tryz.prog (gC er) 89 [.box 1000 0,.part (iP (n0:Int)),.part (.many x.dats)] (coB L nm ne) (coR (pcV g) A E W) [(1003,v3)] (At g) (KY er g L nm ne A E W v3 x (JM (mgs A) ⟨n0,x⟩)):=by
 have hn0:n0<A.length:=(List.getElem?_eq_some_iff.1 hq).1
 have hql:q.fields.length<=100000:=hF _ (List.mem_of_getElem? hq)
 have hrow:=X5 hq
 have hlen:n0*3+1<(A.flatMap mgO).length:=(List.getElem?_eq_some_iff.1 hrow).1
 obtain⟨k,hk,hcix,hset⟩:=Q3w hf
 have hkl:k<q.fields.length:=(List.getElem?_eq_some_iff.1 hk).1
 have hft:(q.fields.flatMap fdD)[k*9+4]?=some (.cell (.int .i64 f.type)):=by rw[KW G5 hk (by omega)];rfl
 have hAm:(mgs A).length<=100000000000:=by rw[List.length_map];omega
 have hFm:∀ g∈mgs A,g.fields.length<=100000000000:=fun g hg=>by
  obtain⟨p,hp,rfl⟩:=List.mem_map.1 hg
  have:=hF p hp
  omega
 have hqm:(mgs A)[n0]?=some q:=by rw[List.getElem?_map,hq];rfl
 have hr0:JM (mgs A) ⟨n0,x⟩=match EV (mgs A) f.type x.key with | none=>none | some k=>if E7 k then some ((mgs A).set n0 { q with fields:=CS x.number k.number q.fields })else none:=by
  unfold JM
  dsimp only
  rw[hqm]
  dsimp only
  rw[hf]
  rfl
 refine GY 57 Tryz.func89 rfl rfl rfl fun w D bor mb hpre=>?_
 try refine A0 ?_
 obtain rfl:mb 1000=g:=hpre
 refine A8 ?_
 refine DZ 5 rfl rfl rfl rfl (kn rfl) rfl rfl rfl rfl ?_
 refine AG ?_
 refine A6 ?_
 try refine A0 ?_
 refine FA 5 5 rfl rfl rfl ?_
 refine A1 (AA rfl rfl rfl rfl rfl (A5 rfl rfl rfl (AL rfl (kn rfl)) (A5 rfl rfl rfl (A3 rfl (kn rfl) off_95_3) (A5 rfl rfl rfl (A3 rfl (kn rfl) off_26_0) (A5 rfl rfl rfl (A4 rfl (kn rfl) rfl rfl one_23) (AA rfl rfl rfl rfl rfl (A5 rfl rfl rfl (Z0 (z:=(n0:Int)) rfl (kn rfl) rfl (kn rfl) (by omega) sle_23 esz_23) (A5 rfl rfl rfl (KE rfl (kn rfl) off_71_1) (A5 rfl rfl rfl (WC rfl (kn rfl) rfl hrow one_69) (AE rfl rfl rfl rfl rfl .nil)))))))))) ?_
 try refine A0 ?_
 refine Q4y (n0*3+1) 900 1011 (r:=1001) rfl hrow rfl rfl rfl rfl ?_
 refine Q6f (t:=7) (s:=900) rfl rfl ?_
 refine S1 902 1002 rfl rfl fun v2 hv2=>?_
 refine NQ (s:=902) (v0:=v2) 1000 4 rfl rfl rfl rfl ?_
 refine A1 (AA rfl rfl rfl rfl rfl (A5 rfl rfl rfl (L6 (ds:=[.ptr 210 x.dats]) rfl ⟨kn rfl,trivial⟩) (A5 rfl rfl rfl (Q9 rfl (by kernel_rfl) (Q5b _ 141 (by kernel_rfl) [.ptr 210 x.dats] q.fields (by omega) (fun f=>decide (f.number=x.number)) (fun f _=>Q50 _ x f)) (KnV.shows ⟨.inr ⟨1011,_,EU (kn rfl) (Q1y _ _),rfl,rfl⟩,.inl (kn rfl),trivial⟩) (Far.is _)) (AE rfl rfl rfl rfl rfl .nil)))) ?_
 try refine A0 ?_
 rw[hcix]
 refine XM 15 14 9 ([(36,_),(37,_),(0,.box 1000 0),(5,.part (.one (.ptr 210 x.dats))),(7,atv 1011 v),(8,.is (.int .i64 (k:Int))),(900,LQ 1011 v),(902,LQ 1002 v2),(10003,LQ 1003 v3)]) mixed (by kernel_rfl) rfl rfl ⟨_,_,rfl⟩ (fun _ _ _ _ h=>h) rfl rfl rfl rfl rfl zr_61 rfl rfl rfl rfl (AA rfl rfl rfl rfl rfl (A5 rfl rfl rfl (AL rfl (kn rfl)) (A5 rfl rfl rfl (A3 rfl (kn rfl) off_95_3) (A5 rfl rfl rfl (YJ rfl (kn rfl) rfl rfl rfl agg_26 sz_26) (AA rfl rfl rfl rfl rfl (AA rfl rfl rfl rfl rfl (A5 rfl rfl rfl (Q0V (z:=(k:Int)) rfl rfl rfl rfl rfl (by omega) sle_69 esz_69) (A5 rfl rfl rfl (YE rfl rfl off_61_4) (A5 rfl rfl rfl (XB rfl rfl rfl hft one_3) (A5 rfl rfl rfl (AF rfl (kq rfl) off_210_3) (A5 rfl rfl rfl (AD rfl (kn rfl) one_9) (A5 rfl rfl rfl (Q9 rfl (by kernel_rfl) (OB _ (mgs A) (.cell v2) hv2 hAm hFm f.type x.key) (fun w D M V a h1 h2=>by have e1:=h1 27 _ (.head _) rfl;have e2:=h1 32 _ (.tail _ (.head _)) rfl;have e3:=h1 34 _ (.tail _ (.tail _ (.head _))) rfl;exact⟨⟨[V 1001,v2],e1,Fits.cons (Q2c hq (h2 1001 _ rfl) (h2 1011 _ rfl) e2.2) (Fits.cons (.cell v2) (Fits.nil _ _))⟩,(show Lies w D _ _ from(show a.tmps.getD 32 undef=_ from e2.1)▸.cell _),e3,trivial⟩) (show Far (fdA (EV (mgs A) f.type x.key)) (fdA (EV (mgs A) f.type x.key)) from Far.many1 (fdV ((EV (mgs A) f.type x.key).getD fd0)) (.bool (EV (mgs A) f.type x.key).isSome))) (AA rfl rfl rfl rfl rfl (A5 rfl rfl rfl (BN rfl (kn rfl) rfl) (A5 rfl rfl rfl (BN rfl (kn rfl) rfl) .nil))))))))))))))) ⟨.inl ⟨rfl,rfl⟩,.inl ⟨rfl,rfl⟩,.inr ⟨rfl,rfl⟩,.inr ⟨rfl,rfl⟩,.inr ⟨rfl,rfl⟩,.inr ⟨rfl,rfl⟩,.inr ⟨rfl,rfl⟩,.inr ⟨rfl,rfl⟩,.inr ⟨rfl,rfl⟩,trivial⟩ ?_
 refine AI rfl rfl rfl (kn rfl) rfl (kn rfl) rfl rfl sz_61 ?_
 refine AG ?_
 refine A6 ?_
 try refine A0 ?_
 refine A1 (AA rfl rfl rfl rfl rfl (A5 rfl rfl rfl (DL rfl (kn rfl)) (AA rfl rfl rfl rfl rfl (Walk.gd _ rfl rfl rfl (fun h=>AT (ds:=[_,_,_,_,_,_,_,_,_]) 9 rfl (kn rfl) rfl rfl agg_61 sz_61 rfl) (Walk.gd _ rfl rfl rfl (fun h=>AY rfl (by kernel_rfl) (Q3E _ ((EV (mgs A) f.type x.key).getD fd0)) ⟨(A9 rfl h),trivial⟩) (Walk.gd _ rfl rfl rfl (fun h=>DL rfl (A9 rfl h)) (A5 rfl rfl rfl (EJ rfl (kn rfl) (fun hb=>A9 rfl hb)) .nil))))))) ?_
 try refine A0 ?_
 refine AO rfl (fun h=>?_) (fun h=>?_)
 ·have hr:JM (mgs A) ⟨n0,x⟩=none:=by
   rw[hr0]
   cases hnm:EV (mgs A) f.type x.key with
   | none=>rfl
   | some kf=>
    rw[hnm]at h
    dsimp only
    rw[if_neg (by simpa using h)]
  rw[hr]
  try refine A0 ?_
  refine A1 (A5 rfl rfl rfl (AF rfl (kq rfl) off_210_8) (A5 rfl rfl rfl (AD rfl (kn rfl) one_3) (A5 rfl rfl rfl (AF rfl (kq rfl) off_210_9) (A5 rfl rfl rfl (AD rfl (kn rfl) one_3) (A5 rfl rfl rfl (C4 rfl (kn rfl) (Q7x er) one_28) (A5 rfl rfl rfl (AY rfl (by kernel_rfl) (G2 _ x.line x.col (er 10)) ⟨(kn rfl),⟨(kn rfl),⟨(kn rfl),trivial⟩⟩⟩) (AE rfl rfl rfl rfl rfl .nil))))))) ?_
  try refine A0 ?_
  refine QG (n0*3+1) (s:=900) (r:=1001) (q:=1011) (v0:=v) rfl rfl rfl (WL hlen) rfl ?_
  refine IU rfl ((XJ hq rfl rfl rfl).trans (by rw[RM hq])) ?_
  refine N4 (s:=902) (v0:=v2) 1000 4 rfl rfl rfl rfl ?_
  exact BS (coB L nm ne) (coR (pcV (mb 1000)) A E W) ([(1003,v3)]) rfl (.tmp (kn rfl) (.nil)) (Imp.refl _) ⟨s_b,trivial⟩ ⟨rfl,rfl,rfl,trivial⟩ ⟨rfl,trivial⟩ (⟨rfl,rfl,.inr ⟨rfl,rfl,rfl⟩⟩)
 obtain⟨kf,hnm⟩:∃ kf,EV (mgs A) f.type x.key=some kf:=by
  cases hnm:EV (mgs A) f.type x.key with
  | none=>rw[hnm]at h;simp at h
  | some kf=>exact⟨kf,rfl⟩
 rw[hnm]at h
 have hr:JM (mgs A) ⟨n0,x⟩=some (mgs (A.set n0 ({ q with fields:=CS x.number kf.number q.fields },v))):=by
  rw[hr0,hnm]
  dsimp only
  rw[if_pos (by simpa using h)]
  unfold mgs
  rw[List.map_set]
 rw[hr,hnm]
 have hjl:k*9+6<(q.fields.flatMap fdD).length:=(List.getElem?_eq_some_iff.1 (show(q.fields.flatMap fdD)[k*9+6]?=some (.cell (.int .i64 f.key)) by rw[KW G5 hk (by omega)];rfl)).1
 have hst:(q.fields.flatMap fdD).set (k*9+6) (.cell (.int .i64 kf.number))=(CS x.number kf.number q.fields).flatMap fdD:=by rw[hset,Q6h _ _ _ _ hk]
 try refine A0 ?_
 refine A8 ?_
 refine AJ ?_
 refine AJ ?_
 refine AB (A3 rfl (kn rfl) off_61_1) ?_
 refine AB (A4 rfl (kn rfl) rfl rfl one_3) ?_
 refine AB (M7 (z:=(k:Int)) rfl (EU (kn rfl) (Q1y _ _)) rfl (kn rfl) (by omega) sle_69 esz_69) ?_
 refine AB (KE rfl (kn rfl) off_61_6) ?_
 refine WA rfl rfl rfl (kn rfl) rfl (kn rfl) rfl hjl sz_3 hst ?_
 refine A6 ?_
 try refine A0 ?_
 refine QG (n0*3+1) (s:=900) (r:=1001) (q:=1011) (v0:=v) rfl rfl rfl (WL hlen) rfl ?_
 refine IU (n':=(A.set n0 ({ q with fields:=CS x.number kf.number q.fields },v)).length) (by rw[List.length_set]) (XJ (q':={ q with fields:=CS x.number kf.number q.fields }) hq rfl rfl (by show _=(CS x.number kf.number q.fields).length;rw[hset,List.length_set])) ?_
 refine N4 (s:=902) (v0:=v2) 1000 4 rfl rfl rfl rfl ?_
 refine A1 (AE rfl rfl rfl rfl rfl .nil) ?_
 try refine A0 ?_
 exact BS (coB L nm ne) (coR (pcV (mb 1000)) (A.set n0 ({ q with fields:=CS x.number kf.number q.fields },v)) E W) ([(1003,v3)]) rfl (.tmp (kn rfl) (.nil)) (Imp.refl _) ⟨s_b,trivial⟩ ⟨rfl,rfl,rfl,trivial⟩ ⟨rfl,trivial⟩ (⟨rfl,rfl,.inl ⟨_,rfl,by rw[List.length_set],rfl,rfl⟩⟩)
theorem Q7M(er:Nat->Er)(g:Nat)(L:List Ty)(nm ne:List (List UInt8))(A:List MgV)(E:List En)(W:List Wish)(v3:Value)(hA:A.length<=1000)(hF:∀ q∈A,q.1.fields.length<=100000)(n0:Nat)(q:Mg)(v:Value)(hq:A[n0]?=some (q,v))(x:Fld)(f:Fd)(hf:(q.fields.find? fun f=>decide (f.number=x.number))=some f):
  EGp Tryz.prog (gC er) 88 ([.ptr 88 [.cell (pcV g)],.ptr 3 [.cell (.int .i64 (n0:Int))],.ptr 210 x.dats].map fun d=>.part (.one d)) (coB L nm ne) (coR (pcV g) A E W) [(1003,v3)] (At g) (KY er g L nm ne A E W v3 x (JM (mgs A) ⟨n0,x⟩)):=by
 refine GY 8 Tryz.func88 rfl rfl rfl fun w D bor mb hpre=>?_
 try refine A0 ?_
 obtain rfl:mb 1000=g:=hpre
 refine A1 (AE rfl rfl rfl rfl rfl .nil) ?_
 try refine A0 ?_
 refine A8 ?_
 refine AB (DE rfl (kq rfl) rfl one_88) ?_
 refine AB (AD rfl (kq rfl) one_3) ?_
 refine AB (BQ rfl (kq rfl) agg_210 sz_210) ?_
 refine Q2 rfl rfl rfl rfl (by kernel_rfl) (ys:=[.box 1000 0,.part (iP (n0:Int)),.part (.many x.dats)]) (KnX.all ⟨kn rfl,kn rfl,kn rfl,trivial⟩) (Q7g er (mb 1000) L nm ne A E W v3 hA hF n0 q v hq x f hf) ⟨rfl,trivial⟩ ⟨rfl,rfl,rfl,trivial⟩ (fun M h=>h 1000 (.head _)) ⟨rfl,trivial⟩ KY.tidy ?_
 rintro _ _ _ _ ⟨rfl,rfl,(⟨A',hr,hl,rfl,rfl⟩ | ⟨hr,rfl,rfl⟩)⟩
 ·refine AG ?_
  refine A6 ?_
  try refine A0 ?_
  exact BS (coB L nm ne) (coR (pcV (mb 1000)) A' E W) ([(1003,v3)]) rfl (.tmp (kn rfl) (.nil)) (Imp.refl _) ⟨s_b,trivial⟩ ⟨rfl,rfl,rfl,trivial⟩ ⟨rfl,trivial⟩ (⟨rfl,rfl,.inl ⟨A',hr,hl,rfl,rfl⟩⟩)
 ·refine AG ?_
  refine A6 ?_
  try refine A0 ?_
  exact BS (coB L nm ne) (coR (pcV (mb 1000)) A E W) ([(1003,v3)]) rfl (.tmp (kn rfl) (.nil)) (Imp.refl _) ⟨s_b,trivial⟩ ⟨rfl,rfl,rfl,trivial⟩ ⟨rfl,trivial⟩ (⟨rfl,rfl,.inr ⟨hr,rfl,rfl⟩⟩)
end Go.Proofs.YtgcphgdkddihcaaGreatDoor
