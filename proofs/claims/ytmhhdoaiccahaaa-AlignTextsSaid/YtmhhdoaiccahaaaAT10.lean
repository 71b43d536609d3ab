/- Part 10. Conditions: as each theorem says. -/
import Derived.Test.YtmhhdoaiccahaaaAT09
import Derived.Laws.StructEq
import Derived.Laws.IdiomStrings
import Derived.Laws.Entries
import Derived.Laws.MakeOwn
set_option maxRecDepth 100000
namespace Go.Proofs.Ytmhhdoaiccahaaa
open Go.RowKit
section
def EO(P:Program)(gls:List (Nat×List Value))(f:FuncId)(ps:List Part)(ty k n:Nat)(cs:List Value):Prop:=
 ∀ (w:World) (D:Nat->Prop) (vs:List Value),(∀ g,D g->g<w.heap.size)->Q3 gls w->PsFit w D ps vs->Calls P f vs.toArray w fun e w'=>∃ v,e=.returned v/\Below w.heap.size w w'/\w'.ownsRow w.heap.size ty k v n cs
def OE(w:World)(ty k n:Nat)(cs:List Value)(e:Ending)(w':World):Prop:=∃ v,e=.returned v/\Below w.heap.size w w'/\w'.ownsRow w.heap.size ty k v n cs
section
variable{P:Program}
theorem JE{gls:List (Nat×List Value)}{f:FuncId}{fn:Func}{c:Code}{ps:List Part}{ty k m:Nat}{cs:List Value}(n:Nat)(hf:P.funcs[f]?=some fn)(hb:fn.body=some c)(hn:fn.ntmps=n)(hle:Nat.ble ps.length n=true)
  (h:∀ (w:World) (D:Nat->Prop),E ⟨w,D,fun _=>False,n,gls,[],fun _=>0⟩ (IQ 0 ps) [] [] (c.wp P (bodyPost P fn (OE w ty k m cs)))):EO P gls f ps ty k m cs:=fun w D vs hD hG hp=>by
 refine calls_of_wp hf hb ?_
 have hl:=hp.length
 have hle':=Nat.le_of_ble_eq_true hle
 refine h w D (fun _=>0) (fun _=>undef) _ w ⟨by simp[hn];omega,rfl,⟨Bex.refl _ _,fun g hg=>⟨hD g hg,fun h=>h⟩,fun _ h=>h.elim,fun g cs hg=>⟨⟨(hG g cs hg).1,fun h=>h⟩,(hG g cs hg).2⟩,fun b x hx=>(by cases hx),fun r x hx=>(by cases hx),fun r x g hx=>(by cases hx),fun b hb=>(by cases hb),fun b c x y hx=>(by cases hx),fun b r x y g hx=>(by cases hx),fun r q x y g hx=>(by cases hx)⟩,fun t x hx=>?_⟩
 obtain⟨p,h1,rfl,_⟩:=EQ hx
 obtain⟨v,h2,h3⟩:=hp.get h1
 rw[Nat.sub_zero]at h2
 have hv:(vs.toArray++Array.replicate (fn.ntmps-vs.toArray.size) undef).getD t undef=v:=by
  have hlt:t<vs.length:=by
   rcases Nat.lt_or_ge t vs.length with h | h
   ·exact h
   ·rw[List.getElem?_eq_none h]at h2;cases h2
  have h4:vs[t]=v:=by
   rw[List.getElem?_eq_getElem hlt]at h2
   exact Option.some.inj h2
  simp[Array.getElem?_append,hlt,h4]
 show VR _ _ _ _ _ ((vs.toArray++Array.replicate (fn.ntmps-vs.toArray.size) undef).getD t undef)
 rw[hv]
 exact PFit.stay (D:=D) (Keeps.refl _ _) (fun g hg=>Or.inl hg) h3
variable{cx:Cx}{T:TL}{B:BL}{R:RL}{M:Nat->Nat}{V:Nat->Value}{o:Oper}
theorem F4(hbor:cx.bor=fun _=>False){fn:Func}{t r ty k n:Nat}{ds:List Dat}{cs:List Value}(hrs:fn.results = #[.tmp t])(ht:lk t T=some (.own r))(hr0:lk r R=some ⟨ty,k,n,ds,false⟩)(hds:ds=cs.map .cell)(hty:Nat.blt ty 1000000=true:=by rfl):E cx T B R (bodyPost P fn (OE cx.w0 ty k n cs) .ret):=fun M V a w hr=>by
 have hbl:Below cx.w0.heap.size cx.w0 w:=(show Bex (fun _=>False) cx.w0 w from hbor▸hr.heap.below).below
 have hv:a.tmps.getD t undef=V r:=hr.tmp t _ ht
 have h1:Gx w (Dc cx B R M V w) 0 ty k (V r) n ds:=hr.heap.row r _ hr0
 obtain⟨xs,⟨hl,hown⟩,hfx⟩:Gr w (Dc cx B R M V w) 0 ty k (V r) n ds:=h1.row hty
 subst hds
 obtain rfl:=hfx.cells
 refine⟨hr.defers,V r,?_,V r,rfl,hbl,hl,?_⟩
 ·have e:results fn a.tmps=(do let vs <- fn.results.mapM (FD a.tmps);pure (if h:vs.size=1 then vs[0]else .tuple vs)):=by
   unfold results
   congr 1
  rw[e,hrs]
  simp[FD,hv]
 ·rcases hown with h | ⟨g,cap,cur,h2,_,h3⟩
  ·exact .inl h
  ·refine .inr ⟨g,cap,cur,h2,?_,h3⟩
   have:=hr.heap.ro r _ g hr0 rfl (.inl (by rw[h2];rfl))
   rcases this with h | h
   ·exact h
   ·rw[hbor]at h;exact h.elim
theorem M7{ops:Array Oper}{Q:Exit->Act->World->Prop}(r:Nat){l:List Oper}{d:Nat}{f:FuncId}{xs:List Operand}{ts:Array TypeId}{ps:List Part}{ty k n:Nat}{cs:List Value}
  (hg:o.guard=none) (hd:o.dst=some d) (hn:Nat.blt d cx.n=true) (ho:o.op=.call { callee:=.value (.func f),args:=xs.toArray,argTypes:=ts }) (hc:C3 P f=true) (hf:EO P cx.gl f ps ty k n cs) (hx:KnA T xs ps)
  (hT:IM r T=true) (hB:IT r B=true)
  (hE:E cx ((d,.own r)::T) B ((r,⟨ty,k,n,cs.map .cell,false⟩)::R) (wpList P ops Q l)) (hty:Nat.blt ty 1000000=true:=by rfl):E cx T B R (wpList P ops Q (o::l)):=fun M V a w hrel=>by
 refine wpList_plain hg fun K hK=>?_
 have hrun:(execOp a.eval o).run P w=.ok (.enter f (xs.map a.eval).toArray) w:=by
  have he:a.eval (.func f)=.func (.func f) #[] #[]:=rfl
  simp[execOp,ho,resolve,he,Deferred.ofValue,invoke,BS hc]
 unfold Oper.wp
 rw[hrun]
 simp only[Oper.upon,hd]
 refine(hf w (Dc cx B R M V w) _ (fun g hg=>hrel.heap.dlt hg) hrel.heap.glok (hx.fit fun x z _ hkx=>hkx w _ M V a fun t z' _ hz=>hrel.tmp t z' hz)).mono ?_
 rintro e w' ⟨v,rfl,hb,hown⟩
 refine hK _ _ ?_
 obtain⟨V',hVr,hr0⟩:=hrel.own_new hb hown r hT hB hty
 exact hE M V' _ _ (hr0.put (Below.refl _ _) (BJ hn) hVr.symm)
theorem FV{x:Operand}{y z:IV}(h:Kn T x y)(hi:Imp y z):Kn T x z:=fun w D M V a hT=>hi w D M V _ (h w D M V a hT)
variable{α:Type}{kf:α->Value}[DecidableEq α]
end
def AZ{α:Type}(L:List Bool):List Nat->List (Nat×Nat×α)->List (Nat×α)
 | _,[]=>[]
 | sn,(i,s,y)::es=>bif L.getD i false && !(sn.any fun c=>Nat.beq c s)then(s,y)::AZ L (s::sn) es else AZ L sn es
section
variable{P:Program}{cx:Cx}{T0:TL}{B0:BL}{R0:RL}{ops:Array Oper}{Q:Exit->Act->World->Prop}{deps:List (List Nat)}{es:List (Nat×Nat×IV)}{bs:List (Nat×Nat×Bx)}{rs:List (Nat×Nat×Rw)}
def AllStepsR(P:Program)(cx:Cx)(T0:TL)(B0:BL)(R0:RL)(ops:Array Oper)(Q:Exit->Act->World->Prop)(es:List (Nat×Nat×IV))(bs:List (Nat×Nat×Bx))(rs:List (Nat×Nat×Rw)):List (List Bool×Nat)->Prop
 | []=>True
 | (L,i)::r=>(∀ K,E cx (T0++AZ (L.set i true) [] es) (AZ (L.set i true) [] bs++B0) (AZ (L.set i true) [] rs++R0) K->E cx (T0++AZ L [] es) (AZ L [] bs++B0) (AZ L [] rs++R0) (wpOp P ops Q i K))/\AllStepsR P cx T0 B0 R0 ops Q es bs rs r
theorem AllStepsR.get:∀ {st:List (List Bool×Nat)} (_:AllStepsR P cx T0 B0 R0 ops Q es bs rs st) {L:List Bool} {i:Nat},(L,i)∈st -> ∀ K,E cx (T0++AZ (L.set i true) [] es) (AZ (L.set i true) [] bs++B0) (AZ (L.set i true) [] rs++R0) K->E cx (T0++AZ L [] es) (AZ L [] bs++B0) (AZ L [] rs++R0) (wpOp P ops Q i K)
 | (L',j)::r,h,L,i,hm=>by
  rcases List.mem_cons.1 hm with e | hm
  ·injection e with e1 e2
   subst e1 e2
   exact h.1
  ·exact AllStepsR.get h.2 hm
 | [],_,_,_,hm=>by cases hm
theorem MS{L0 full:List Bool}{reach:List (List Bool)}{steps:List (List Bool×Nat)}(hd:D2 ops=deps)(hB:JY deps L0 full reach steps=true)(hs:AllStepsR P cx T0 B0 R0 ops Q es bs rs steps)(hend:E cx (T0++AZ full [] es) (AZ full [] bs++B0) (AZ full [] rs++R0) (Q .normal)):
  ∀ (m:Nat) (L:List Bool),L.count false=m->L∈reach->E cx (T0++AZ L [] es) (AZ L [] bs++B0) (AZ L [] rs++R0) (wpAny P .any ops Q m L.toArray):=by
 simp only[JY,Bool.and_eq_true]at hB
 have hall:=List.all_eq_true.1 hB.2
 intro m
 induction m with
 | zero=>
  intro L hm hL
  have h:=hall L hL
  cases hf:(L==full)with
  | true=>
   rw[hf]at h
   simp only[cond_true,Bool.and_eq_true]at h
   rw[beq_iff_eq]at hf
   subst hf
   exact OT hd h.1 hend
  | false=>
   rw[hf]at h
   simp only[cond_false,Bool.and_eq_true]at h
   cases hr:BF L 0 deps with
   | nil=>rw[hr]at h;exact absurd h.1 (by decide)
   | cons i is=>
    have h2:=List.all_eq_true.1 h.2 i (by rw[hr];exact List.mem_cons_self)
    simp only[Bool.and_eq_true,beq_iff_eq]at h2
    omega
 | succ m ih=>
  intro L hm hL
  have h:=hall L hL
  cases hf:(L==full)with
  | true=>
   rw[hf]at h
   simp only[cond_true,Bool.and_eq_true,beq_iff_eq]at h
   omega
  | false=>
   rw[hf]at h
   simp only[cond_false,Bool.and_eq_true,Bool.not_eq_true']at h
   refine QR hd h.1 (AnyE.of fun i hi=>?_)
   have h2:=List.all_eq_true.1 h.2 i hi
   simp only[Bool.and_eq_true,beq_iff_eq,List.contains_iff_mem]at h2
   exact hs.get h2.1.1 _ (ih _ (by omega) h2.1.2)
theorem AR{T T':TL}{B B':BL}{R R':RL}{K:Act->World->Prop}(hK:E cx T' B' R' K)(hT:SubT T T')(hB:SubB B B')(hR:SubR R R'):E cx T B R K:=AE hT hB hR hK
theorem MA{id:Nat}{l:List Oper}(n:Nat)(deps:List (List Nat))(reach:List (List Bool))(steps:List (List Bool×Nat))(es:List (Nat×Nat×IV))(bs:List (Nat×Nat×Bx))(rs:List (Nat×Nat×Rw)){T:TL}{B:BL}{R:RL}(T0:TL)(B0:BL)(R0:RL)(hd:D2 l.toArray=deps)(hn:l.toArray.size=n)(hm:P.follows .mixedOrders=true)(hB:JY deps (List.replicate n false) (List.replicate n true) reach steps=true)(hc:(List.replicate n false).count false=n)
  (h0:∀ K,E cx (T0++AZ (List.replicate n false) [] es) (AZ (List.replicate n false) [] bs++B0) (AZ (List.replicate n false) [] rs++R0) K->E cx T B R K) (hs:AllStepsR P cx T0 B0 R0 l.toArray Q es bs rs steps) (hend:E cx (T0++AZ (List.replicate n true) [] es) (AZ (List.replicate n true) [] bs++B0) (AZ (List.replicate n true) [] rs++R0) (Q .normal)):E cx T B R ((Code.region id l.toArray true).wp P Q):=by
 refine H6 n _ deps hd hn hm rfl fun _=>h0 _ ?_
 refine MS hd hB hs hend n _ hc ?_
 simp only[JY,Bool.and_eq_true,List.contains_iff_mem]at hB
 exact hB.1
end
end
section
inductive Alike3 (P:Program) (t:TypeId):Value->Value->Prop where
 | int (k k':IntKind) (a b:Int) (h:P.underlying t=some (.int k')):Alike3 P t (.int k a) (.int k b)
 | str (a b:List UInt8) (h:P.underlying t=some .string):Alike3 P t (.string (str a)) (.string (str b))
 | bool (a b:Bool) (h:P.underlying t=some .bool):Alike3 P t (.bool a) (.bool b)
theorem Alike3.plain{P:Program}{t:TypeId}{a b:Value}(h:Alike3 P t a b):(P.underlying t=some .string\/P.underlying t=some .bool) \/ ∃ k,P.underlying t=some (.int k):=by
 cases h with
 | int k k' a b hu=>exact .inr ⟨k',hu⟩
 | str a b hu=>exact .inl (.inl hu)
 | bool a b hu=>exact .inl (.inr hu)
section
variable{P:Program}{cx:Cx}{T:TL}{B:BL}{R:RL}{o:Oper}
end
end
section
theorem G4{w:World}{D:Nat->Prop}:∀ {vs us:List Value},PsFit w D (vs.map fun v=>.one (.cell v)) us->us=vs
 | [],[],_=>rfl
 | v::vs,u::us,h=>by
  obtain rfl:=Lies.cell_eq h.1
  rw[G4 h.2]
 | [],_::_,h=>h.elim
 | _::_,[],h=>h.elim
theorem HH(w:World)(D:Nat->Prop):∀ vs:List Value,PsFit w D (vs.map fun v=>.one (.cell v)) vs
 | []=>trivial
 | v::vs=>⟨.cell v,HH w D vs⟩
section
variable{P:Program}{cx:Cx}{T:TL}{B:BL}{R:RL}{o:Oper}
end
end
section
def T4(P:Program)(Q:World->Prop)(gls:List (Nat×List Value))(f:FuncId)(ps:List Part)(Y:IV->Prop):Prop:=
 ∀ (w:World) (D:Nat->Prop) (vs:List Value),(∀ g,D g->g<w.heap.size)->Q3 gls w->Q w->PsFit w D ps vs->Calls P f vs.toArray w (KB w D Y)
theorem EFx.q{P:Program}{Q:World->Prop}{gls gls':List (Nat×List Value)}{f:FuncId}{ps:List Part}{Y:IV->Prop}(h:EFx P gls f ps Y)(hs:∀ x,x∈gls->x∈gls'):T4 P Q gls' f ps Y:=fun w D vs hD hG _ hp=>h w D vs hD (fun g cs hg=>hG g cs (hs _ hg)) hp
section
variable{P:Program}{cx:Cx}{T:TL}{B:BL}{R:RL}{o:Oper}{Q:World->Prop}
end
end
section
def ddS:List Nat->BL->BL
 | _,[]=>[]
 | sn,(j,x)::l=>bif sn.any fun c=>Nat.beq c j then ddS sn l else(j,x)::ddS (j::sn) l
theorem KJ:∀ (l:BL) (sn:List Nat) (b:Nat),b∉sn->lk b (ddS sn l)=lk b l
 | [],_,_,_=>rfl
 | (j,x)::l,sn,b,hb=>by
  unfold ddS
  cases h:sn.any fun c=>Nat.beq c j with
  | true=>
   obtain⟨c,hc,e⟩:=List.any_eq_true.1 h
   have e':c=j:=Nat.eq_of_beq_eq_true e
   have hj:j≠b:=fun e2=>hb (by rw[<- e2,<- e'];exact hc)
   rw[cond_true,KJ l sn b hb,AV _ _ hj]
  | false=>
   rw[cond_false]
   by_cases e:j=b
   ·subst e
    rw[AY,AY]
   ·rw[AV _ _ e,AV _ _ e]
    exact KJ l (j::sn) b (by
     rintro(_ | ⟨_,h⟩)
     ·exact e rfl
     ·exact hb h)
section
variable{cx:Cx}{T:TL}{B B':BL}{R:RL}{K:Act->World->Prop}
theorem Dc.lkB(h:∀ b,lk b B=lk b B')(M:Nat->Nat)(V:Nat->Value)(w:World):Dc cx B R M V w=Dc cx B' R M V w:=by
 funext g
 unfold Dc
 simp only[h]
theorem SO(h:∀ b,lk b B=lk b B')(hE:E cx T B' R K):E cx T B R K:=fun M V a w hr=>by
 have hD:=Dc.lkB (cx:=cx) (R:=R) h M V w
 have hh:=hr.heap
 refine hE M V a w ⟨hr.size,hr.defers,⟨hh.below,hh.d0,hh.bl,hh.gl,fun b x hx=>?_,fun r x hx=>?_,hh.ro,hh.pin,fun b c x y hx hy=>hh.bb b c x y (by rw[h];exact hx) (by rw[h];exact hy),fun b r x y g hx=>hh.br b r x y g (by rw[h];exact hx),hh.rr⟩,fun t x hx=>?_⟩
 ·have:=hh.box b x (by rw[h];exact hx)
  rwa [hD]at this
 ·have:=hh.row r x hx
  rwa [hD]at this
 ·have:=hr.tmp t x hx
  rwa [hD]at this
theorem O8(hE:E cx T B R K):E cx T (ddS [] B) R K:=SO (fun b=>KJ B [] b (by simp)) hE
end
end
section
abbrev atv(r:Nat)(v0:Value):IV:=.via r fun a u=>u=a/\a=v0
abbrev ET(r:Nat)(v0:Value):IV:=.via r fun a _=>a=v0
theorem IP(r:Nat)(v0:Value):Imp (atv r v0) (.is v0):=fun w D M V v h=>by
 obtain⟨h1,h2⟩:=(show v=V r/\V r=v0 from h)
 subst h1
 rw[h2]
 exact .cell v0
section
variable{P:Program}{cx:Cx}{T:TL}{B:BL}{R:RL}{M:Nat->Nat}{V:Nat->Value}{o:Oper}
theorem DB{K:Act->World->Prop}(s:Nat){t r:Nat}{v0:Value}(ht:lk t T=some (atv r v0))(h:E cx ((s,ET r v0)::T) B R K):E cx T B R K:=fun M V a w hr=>h M V a w ⟨hr.size,hr.defers,hr.heap,fun q z hz=>by
 rcases AB hz with⟨rfl,rfl⟩ | ⟨_,hz⟩
 ·exact(show _/\_ from hr.tmp t _ ht).2
 ·exact hr.tmp q z hz⟩
theorem PQ{K:Act->World->Prop}{t r:Nat}(ht:lk t T=some (.own r))(h:∀ v0,E cx ((t,atv r v0)::T) B R K):E cx T B R K:=fun M V a w hr=>h (V r) M V a w ⟨hr.size,hr.defers,hr.heap,fun q z hz=>by
 rcases AB hz with⟨rfl,rfl⟩ | ⟨_,hz⟩
 ·exact⟨hr.tmp t _ ht,rfl⟩
 ·exact hr.tmp q z hz⟩
theorem VR.atv_of{w:World}{D:Nat->Prop}{r:Nat}{v0 v:Value}(h:VR w D M V (.is v0) v)(hp:V r=v0):VR w D M V (atv r v0) v:=by
 have h1:v=v0:=Lies.cell_eq h
 exact⟨h1.trans hp.symm,hp⟩
section
variable{ops:Array Oper}{Q:Exit->Act->World->Prop}{l:List Oper}
end
end
end
section
section
variable{P:Program}{cx:Cx}{T:TL}{B:BL}{R:RL}{o:Oper}{ops:Array Oper}{Q:Exit->Act->World->Prop}{l:List Oper}
theorem JJ{K:Act->World->Prop}{t r:Nat}{x:Rw}(ht:lk t T=some (.own r))(hr0:lk r R=some x)(hf:x.fz=false)(h:∀ v0:Value,v0.oneCell'=true->E cx ((t,atv r v0)::T) B R K):E cx T B R K:=fun M V a w hr=>h (V r) (by
 have h1:=hr.heap.row r x hr0
 rw[hf]at h1
 obtain⟨xs,h2,_⟩:Gx _ _ _ _ _ _ _ _:=h1
 rcases h2 with⟨_,_,⟨h3,_⟩ | ⟨g,cap,cur,h3,_⟩⟩ | ⟨_,g,es,c,h3,_⟩ | ⟨_,_,⟨h3,_⟩ | ⟨g,cap,cur,h3,_⟩⟩<;>rw[h3]<;>rfl) M V a w ⟨hr.size,hr.defers,hr.heap,fun q z hz=>by
 rcases AB hz with⟨rfl,rfl⟩ | ⟨_,hz⟩
 ·exact⟨hr.tmp t _ ht,rfl⟩
 ·exact hr.tmp q z hz⟩
theorem BG{K:Act->World->Prop}{r ty k n n':Nat}{ds ds':List Dat}{f:Bool}(hn:n=n')(hd:ds=ds')(h:E cx T B ((r,⟨ty,k,n',ds',f⟩)::R) K):E cx T B ((r,⟨ty,k,n,ds,f⟩)::R) K:=by
 subst hn
 subst hd
 exact h
end
def ddR:List Nat->RL->RL
 | _,[]=>[]
 | sn,(j,x)::l=>bif sn.any fun c=>Nat.beq c j then ddR sn l else(j,x)::ddR (j::sn) l
theorem KK:∀ (l:RL) (sn:List Nat) (b:Nat),b∉sn->lk b (ddR sn l)=lk b l
 | [],_,_,_=>rfl
 | (j,x)::l,sn,b,hb=>by
  unfold ddR
  cases h:sn.any fun c=>Nat.beq c j with
  | true=>
   obtain⟨c,hc,e⟩:=List.any_eq_true.1 h
   have e':c=j:=Nat.eq_of_beq_eq_true e
   have hj:j≠b:=fun e2=>hb (by rw[<- e2,<- e'];exact hc)
   rw[cond_true,KK l sn b hb,AV _ _ hj]
  | false=>
   rw[cond_false]
   by_cases e:j=b
   ·subst e
    rw[AY,AY]
   ·rw[AV _ _ e,AV _ _ e]
    exact KK l (j::sn) b (by
     rintro(_ | ⟨_,h⟩)
     ·exact e rfl
     ·exact hb h)
section
variable{cx:Cx}{T:TL}{B:BL}{R R':RL}{K:Act->World->Prop}
theorem Dc.lkR(h:∀ b,lk b R=lk b R')(M:Nat->Nat)(V:Nat->Value)(w:World):Dc cx B R M V w=Dc cx B R' M V w:=by
 funext g
 unfold Dc
 simp only[h]
theorem S7(h:∀ b,lk b R=lk b R')(hE:E cx T B R' K):E cx T B R K:=fun M V a w hr=>by
 have hD:=Dc.lkR (cx:=cx) (B:=B) h M V w
 have hh:=hr.heap
 refine hE M V a w ⟨hr.size,hr.defers,⟨hh.below,hh.d0,hh.bl,hh.gl,fun b x hx=>?_,fun r x hx=>?_,fun r x g hx=>hh.ro r x g (by rw[h];exact hx),hh.pin,hh.bb,fun b r x y g hx hy=>hh.br b r x y g hx (by rw[h];exact hy),fun r q x y g hx hy=>hh.rr r q x y g (by rw[h];exact hx) (by rw[h];exact hy)⟩,fun t x hx=>?_⟩
 ·have:=hh.box b x hx
  rwa [hD]at this
 ·have:=hh.row r x (by rw[h];exact hx)
  rwa [hD]at this
 ·have:=hr.tmp t x hx
  rwa [hD]at this
theorem JZ(hE:E cx T B R K):E cx T B (ddR [] R) K:=S7 (fun b=>KK R [] b (by simp)) hE
end
end
section
variable{P:Program}{cx:Cx}{T:TL}{B:BL}{R:RL}{o:Oper}{ops:Array Oper}{Q:Exit->Act->World->Prop}{l:List Oper}
theorem KN{z:Value}{zs:List Value}(hz:z.cells.toList=zs)(n:Nat):(madeCells z.cells (n*z.cells.size)).toList=(List.replicate n zs).flatten:=by
 subst hz
 have h:=J5 z.cells.toList n
 rw[Array.length_toList]at h
 rw[<- h]
 unfold madeCells
 rfl
theorem OC(r:Nat){d:Nat}{t ty:TypeId}{k n bytes:Nat}{x y:Operand}{kl kc:IntKind}{zs:List Value}{ds:List Dat}(hg:o.guard=none)(hd:o.dst=some d)(hn:Nat.blt d cx.n=true)(ho:o.op=.makeSlice t x y)(hx:Kn T x (.is (.int kl (n:Int))))(hy:Kn T y (.is (.int kc (n:Int))))(ht:P.underlying t=some (.slice ty))(hz:(P.info? ty).map (fun i=>(i.size,i.bytes,i.zero.map (·.cells.size)))=some (k,bytes,some k))(hzs:BT P ty=some zs)
  (hb1:n<=140737488355328) (hb2:bytes*n<=140737488355328) (hds:(List.replicate n zs).flatten.map Dat.cell=ds) (hT:IM r T=true) (hB:IT r B=true) (hE:E cx ((d,.own r)::T) B ((r,⟨ty,k,n,ds,false⟩)::R) (wpList P ops Q l)) (hty:Nat.blt ty 1000000=true:=by rfl):E cx T B R (wpList P ops Q (o::l)):=fun M V a w hrel=>by
 subst hds
 refine wpList_plain hg fun K hK=>?_
 have hxv:a.eval x=.int kl (n:Int):=(hx w (Dc cx B R M V w) M V a fun t z _ hz=>hrel.tmp t z hz).is_eq
 have hyv:a.eval y=.int kc (n:Int):=(hy w (Dc cx B R M V w) M V a fun t z _ hz=>hrel.tmp t z hz).is_eq
 cases hi:P.info? ty with
 | none=>simp[hi]at hz
 | some i=>
  simp only[hi,Option.map_some,Option.some.injEq,Prod.mk.injEq]at hz
  obtain⟨h1,h2,h3⟩:=hz
  obtain⟨z,hz0,hzk⟩:∃ z,i.zero=some z/\z.cells.size=k:=by
   cases hz0:i.zero with
   | none=>simp[hz0]at h3
   | some z=>exact⟨z,rfl,by simpa[hz0]using h3⟩
  have hzc:z.cells.toList=zs:=by simpa[BT,hi,hz0]using hzs
  have hbz:(i.bytes:Int)*(n:Int)<=281474976710656:=by
   rw[h2,<- Int.natCast_mul]
   omega
  have hrun:=run_make (P:=P) w t ty i z ht hi hz0 kl kc (n:Int) (n:Int) (by omega) (by omega) hbz (by omega)
  simp only[Int.toNat_natCast]at hrun
  rw[h1,<- hzk]at hrun
  have hcl:=KN hzc n
  have hlen:(List.replicate n zs).flatten.length=n*k:=by
   rw[<- hcl,Array.length_toList,size_madeCells,hzk]
  have hb:Below w.heap.size w (w.alloc (.cells (madeCells z.cells (n*z.cells.size)) ty)):=(Below.refl _ _).alloc (Nat.le_refl _) _
  have hown:(w.alloc (.cells (madeCells z.cells (n*z.cells.size)) ty)).ownsRow w.heap.size ty k (.slice (some ⟨w.heap.size,0,none⟩) n n) n (List.replicate n zs).flatten:=
   ⟨hlen,.inr ⟨w.heap.size,n,_,rfl,Nat.le_refl _,heap_alloc_new w _,Nat.le_refl _,by simp only[maxLen];omega,by rw[size_madeCells,hzk],by rw[hcl,<- hlen,List.take_length]⟩⟩
  obtain⟨V',hVr,hr0⟩:=hrel.own_new hb hown r hT hB hty
  have:=hK _ _ (hE M V' _ _ (hr0.put (Below.refl _ _) (BJ hn) hVr.symm))
  unfold Oper.wp execOp
  simp only[ho,hxv,hyv,Sem.run_bind,hrun]
  simp only[Oper.upon,hd]
  exact this
theorem S4{K:Act->World->Prop}(r:Nat){ty:TypeId}{k n:Nat}{ds es:List Dat}(hr:lk r R=some ⟨ty,k,n,ds,false⟩)(hi:∀ M V a w,Rel cx T B R M V a w -> ∀ xs,Fits w (Dc cx B R M V w) ds xs->Fits w (Dc cx B R M V w) es xs)(h:E cx T B ((r,⟨ty,k,n,es,false⟩)::R) K)(hty2:Nat.blt ty 2000000=true:=by rfl):E cx T B R K:=fun M V a w hrel=>by
 have h1:Gx w (Dc cx B R M V w) 0 ty k (V r) n ds:=hrel.heap.row r _ hr
 refine h M V a w (hrel.turned (z':=⟨ty,k,n,es,false⟩) hr rfl rfl (fun _ _=>rfl) rfl rfl rfl rfl (fun g hg=>.inl (EC hg hty2)) fun D' hk hD=>?_)
 obtain⟨xs,a2,a3⟩:=h1
 exact⟨xs,a2,.inl ⟨hty2,(hi M V a w hrel xs (a3.row hty2)).stay hk hD⟩⟩
theorem OL{w:World}{D:Nat->Prop}{ds:List Dat}{xs:List Value}(h:Fits w D ds xs){j:Nat}{d:Dat}(hj:∀ v,xs[j]?=some v->Lies w D d v):Fits w D (ds.set j d) xs:=by
 refine⟨by simp[h.1],fun i e v he hv=>?_⟩
 rw[List.getElem?_set]at he
 split at he
 ·rename_i hji
  subst hji
  split at he
  ·obtain rfl:=Option.some.inj he
   exact hj v hv
  ·cases he
 ·exact h.2 i e v he hv
theorem NE{K:Act->World->Prop}(j:Nat){s r q ty k n:Nat}{v0:Value}{y:Rw}{ds es:List Dat}(hp:lk s T=some (ET q v0))(hr:lk r R=some ⟨ty,k,n,ds,false⟩)(hq:lk q R=some y)(hf:y.fz=true)(hj:ds[j]?=some (.cell v0))(hes:ds.set j (datOf y)=es)(h:E cx T B ((r,⟨ty,k,n,es,false⟩)::R) K)(hty2:Nat.blt ty 2000000=true:=by rfl):E cx T B R K:=by
 subst hes
 refine S4 r hr (fun M V a w hrel xs hx=>OL hx fun v hv=>?_) h hty2
 have h1:V q=v0:=hrel.tmp s _ hp
 have h2:=hrel.heap.row q y hq
 rw[if_pos hf,h1]at h2
 rw[(hx.2 j _ v hj hv).cell_eq]
 exact h2
theorem JN{K:Act->World->Prop}(r:Nat){y:Rw}(hy:lk r R=some y)(hf:y.fz=false)(h:E cx T B ((r,⟨y.ty,y.k,y.n,y.ds,true⟩)::R) K):E cx T B R K:=fun M V a w hr=>h M V a w (hr.freeze r hy hf)
theorem B8{x y:Operand}{st:TypeId}{r ty k n j:Nat}{ds ds':List Dat}{d:Dat}(hg:o.guard=none)(hd:o.dst=none)(ho:o.op=.store st x y)(hx:Kn T x (.via r (AtV j)))(hr:lk r R=some ⟨ty,k,n,ds,false⟩)(hy:Kn T y (.part (.one d)))(h1:d.isOne=true)(hj:j<ds.length)(hs:sizeT P st=some 1)(hds:ds.set j d=ds')
  (hE:E cx T B ((r,⟨ty,k,n,ds',false⟩)::R) (wpList P ops Q l)) (hty:Nat.blt ty 1000000=true:=by rfl):E cx T B R (wpList P ops Q (o::l)):=fun M V a w hrel=>by
 subst hds
 obtain⟨g,n',c,hVr,hxv⟩:AtV j (V r) (a.eval x):=hx w (Dc cx B R M V w) M V a fun t z _ hz=>hrel.tmp t z hz
 have hyv:Lies w (Dc cx B R M V w) d (a.eval y):=hy w (Dc cx B R M V w) M V a fun t z _ hz=>hrel.tmp t z hz
 have hone:=hyv.one h1
 obtain⟨w',hst,hrel'⟩:=HR.own_store (P:=P) hrel hr hVr (es:=[d]) (us:=[a.eval y]) (j:=j) (by simp only[List.length_singleton];omega) (by simp) (Fits.cons hyv (Fits.nil _ _)) (fun u hu=>by rw[List.mem_singleton.1 hu];exact hone) hty
 rw[show ds.take j++[d]++ds.drop (j+[d].length)=ds.set j d by rw[List.set_eq_take_append_cons_drop,if_pos hj];simp]at hrel'
 refine wpList_plain hg fun K hK=>?_
 have:=hK _ _ (hE M V _ _ hrel')
 have hsz:=C9 hs (w:=w)
 have hccl:(a.eval y).cells = #[a.eval y]:=by
  revert hone
  cases a.eval y<;>intro h<;>first | rfl | cases h
 unfold Oper.wp execOp
 simp only[ho,hxv,Instr.storeAt,Instr.sureAddr,Sem.run_bind,Sem.run_pure,Result.andThen_ok]
 simp[storeVar,hsz,hccl,hst,Oper.upon,hd,Act.put]
 exact this
abbrev RB(r:Nat)(v0 v:Value):IV:=.via r fun a u=>u=v/\a=v0
theorem GK(r:Nat)(v0:Value):Imp (atv r v0) (.own r):=fun _ _ _ _ _ h=>h.1
theorem IJ{K:Act->World->Prop}{t s r:Nat}{v0:Value}(ht:lk t T=some (.is v0))(hp:lk s T=some (ET r v0))(h:E cx ((t,atv r v0)::T) B R K):E cx T B R K:=fun M V a w hr=>h M V a w ⟨hr.size,hr.defers,hr.heap,fun q z hz=>by
 rcases AB hz with⟨rfl,rfl⟩ | ⟨_,hz⟩
 ·exact(hr.tmp t _ ht).atv_of (hr.tmp s _ hp)
 ·exact hr.tmp q z hz⟩
theorem N9{K:Act->World->Prop}{t s r:Nat}{v v0:Value}(ht:lk t T=some (.is v))(hp:lk s T=some (ET r v0))(h:E cx ((t,RB r v0 v)::T) B R K):E cx T B R K:=fun M V a w hr=>h M V a w ⟨hr.size,hr.defers,hr.heap,fun q z hz=>by
 rcases AB hz with⟨rfl,rfl⟩ | ⟨_,hz⟩
 ·exact⟨Lies.cell_eq (hr.tmp t _ ht),hr.tmp s _ hp⟩
 ·exact hr.tmp q z hz⟩
theorem OD{K:Act->World->Prop}(s:Nat){t r:Nat}{v v0:Value}(ht:lk t T=some (RB r v0 v))(h:E cx ((t,.is v)::(s,ET r v0)::T) B R K):E cx T B R K:=fun M V a w hr=>h M V a w ⟨hr.size,hr.defers,hr.heap,fun q z hz=>by
 have h1:a.tmps.getD t undef=v/\V r=v0:=hr.tmp t _ ht
 rcases AB hz with⟨rfl,rfl⟩ | ⟨_,hz⟩
 ·show Lies _ _ (.cell v) _
  rw[h1.1]
  exact .cell v
 ·rcases AB hz with⟨rfl,rfl⟩ | ⟨_,hz⟩
  ·exact h1.2
  ·exact hr.tmp q z hz⟩
theorem BX{fn:Func}{Y:IV->BL->RL->Prop}{t:Nat}{y:IV}(B1:BL)(R1:RL)(hrs:fn.results = #[.tmp t])(ht:lk t T=some y)(hB:SubB B B1)(hR:SubR R R1)(hY:Y y B1 R1):E cx T B R (bodyPost P fn (KS cx Y) .ret):=fun M V a w hr=>by
 have h3:=hr.sub (T':=[(t,y)]) ⟨JP _ ht,trivial⟩ hB hR
 refine⟨hr.defers,a.tmps.getD t undef,?_,_,y,B1,R1,M,V,rfl,hY,h3.heap,h3.tmp t y (AY _ _ _)⟩
 have e:results fn a.tmps=(do let vs <- fn.results.mapM (FD a.tmps);pure (if h:vs.size=1 then vs[0]else .tuple vs)):=by
  unfold results
  congr 1
 rw[e,hrs]
 simp[FD]
theorem PJ{d:Nat}{f:FuncId}{xs:List Operand}{ts:Array TypeId}{ys:List IV}{B0:BL}{R0:RL}{Y:IV->BL->RL->Prop}(hg:o.guard=none)(hd:o.dst=some d)(hn:Nat.blt d cx.n=true)(ho:o.op=.call { callee:=.value (.func f),args:=xs.toArray,argTypes:=ts })(hc:C3 P f=true)
  (hf:EG P cx.gl f ys B0 R0 Y) (hB:LentB B B0) (hR:LentR R R0) (hx:∀ (w:World) (D:Nat->Prop) (M:Nat->Nat) (V:Nat->Value) (a:Act),(∀ t z,lk t T=some z->VR w D M V z (a.tmps.getD t undef))->VRs w D M V ys (xs.map a.eval)) (hY:∀ y B1 R1,Y y B1 R1->PG B0 R0 y B1 R1)
  (hE:∀ y B1 R1,Y y B1 R1->E cx ((d,y)::FY (names R0) T) (B1++CZ (names R0) B) (R1++R) (wpList P ops Q l)):E cx T B R (wpList P ops Q (o::l)):=fun M V a w hr=>by
 refine wpList_plain hg fun K hK=>?_
 have hrun:(execOp a.eval o).run P w=.ok (.enter f (xs.map a.eval).toArray) w:=by
  have he:a.eval (.func f)=.func (.func f) #[] #[]:=rfl
  simp[execOp,ho,resolve,he,Deferred.ofValue,invoke,BS hc]
 unfold Oper.wp
 rw[hrun]
 simp only[Oper.upon,hd]
 exact(GV (ρ:=fun b=>b) (σ:=fun r=>r) hr (LentI.lent ⟨fun _ _ h=>hB.get h,fun _ _ h=>hR.get h⟩) (by rw[DI];exact hx w (Dc cx B R M V w) M V a fun t z hz=>hr.tmp t z hz) hf hY (BJ hn)).mono fun e w' ⟨v,y,B1,R1,V',h1,h2,h3⟩=>by
  subst h1
  rw[IV.ren_id,M0,L5,List.map_id']at h3
  exact hK _ _ (hE y B1 R1 h2 M V' _ _ h3)
end
section
variable{P:Program}{cx:Cx}{T:TL}{B:BL}{R:RL}{M:Nat->Nat}{V:Nat->Value}{o:Oper}{ops:Array Oper}{Q:Exit->Act->World->Prop}{l:List Oper}
theorem LE{f:FuncId}{xs:List Operand}{ts:Array TypeId}{ps:List Part}{y y':IV}(ho:o.op=.call { callee:=.value (.func f),args:=xs.toArray,argTypes:=ts })(hc:C3 P f=true)(hf:EF P cx.gl f ps y)
  (hx:∀ (w:World) (D:Nat->Prop) (M:Nat->Nat) (V:Nat->Value) (a:Act),(∀ t z,.tmp t∈xs->lk t T=some z->VR w D M V z (a.tmps.getD t undef))->(∀ r x,lk r R=some x->Lies w D (datOf x) (V r))->PsFit w D ps (xs.map a.eval)) (hy:Far y y'):LStep P cx B R o T y':=fun M V w a hh ht=>by
 have hrun:(execOp a.eval o).run P w=.ok (.enter f (xs.map a.eval).toArray) w:=by
  have he:a.eval (.func f)=.func (.func f) #[] #[]:=rfl
  simp[execOp,ho,resolve,he,Deferred.ofValue,invoke,BS hc]
 rw[hrun]
 let D':Nat->Prop:=fun g=>Dc cx B R M V w g \/ ∃ r x,lk r R=some x/\x.fz=false/\obs x.ty x.ds (V r) g
 have hk:=Keeps.refl (Dc cx B R M V w) w
 have hDD:∀ g,Dc cx B R M V w g->D' g:=fun g h=>.inl h
 have hD':∀ g,D' g->g<w.heap.size:=fun g hg=>by
  rcases(show Dc cx B R M V w g \/ ∃ r x,lk r R=some x/\x.fz=false/\obs x.ty x.ds (V r) g from hg)with hg | ⟨r,x,h1,h2,h3⟩
  ·exact hh.dlt hg
  ·have h4:=hh.row r x h1
   rw[h2]at h4
   exact Gx.lt h4 g h3
 have hp:PsFit w D' ps (xs.map a.eval):=hx w D' M V a (fun t z hm hz=>(ht t z (by rw[ho];simp only[Op.operands,Call.operands];simp[hm]) hz).stay hk hDD) fun r x hr=>by
  have h4:=hh.row r x hr
  cases hfz:x.fz with
  | true=>
   rw[if_pos hfz]at h4
   exact h4.stay hk hDD
  | false=>
   rw[hfz]at h4
   exact Gx.frozen (show Gx w (Dc cx B R M V w) 0 x.ty x.k (V r) x.n x.ds from h4) hDD fun g hg=>.inr ⟨r,x,hr,hfz,hg⟩
 refine⟨rfl,(hf w D' (xs.map a.eval) hD' hh.glok hp).mono fun e w' ⟨v,y0,h1,h2,h3,h4⟩=>?_⟩
 subst h2
 exact⟨v,h1,h3,hy _ _ _ _ _ _ _ _ _ (h4 M V)⟩
end
section
section
variable{P:Program}{cx:Cx}{T:TL}{B:BL}{R:RL}{M:Nat->Nat}{V:Nat->Value}{o:Oper}{ops:Array Oper}{Q:Exit->Act->World->Prop}{l:List Oper}
def PinV(V:Nat->Value):List (Nat×Value)->Prop
 | []=>True
 | x::l=>V x.1=x.2/\PinV V l
def PinL(T:TL):List (Nat×Value)->Prop
 | []=>True
 | x::l=>lk (9000+x.1) T=some (ET x.1 x.2)/\PinL T l
theorem PinL.v{a:Act}{w:World}(hr:Rel cx T B R M V a w):∀ {p:List (Nat×Value)},PinL T p->PinV V p
 | [],_=>trivial
 | _::_,h=>⟨hr.tmp _ _ h.1,PinL.v hr h.2⟩
theorem PinV.of{V V':Nat->Value}:∀ {p:List (Nat×Value)},(∀ x∈p,V x.1=V' x.1)->PinV V p->PinV V' p
 | [],_,_=>trivial
 | x::p,h,hp=>⟨(h x List.mem_cons_self).symm.trans hp.1,PinV.of (fun y hy=>h y (List.mem_cons_of_mem _ hy)) hp.2⟩
def RC(cx:Cx)(Y:IV->BL->RL->List (Nat×Value)->Prop)(e:Ending)(w':World):Prop:=∃ v y B1 R1 p1 M1 V1,e=.returned v/\Y y B1 R1 p1/\HR cx B1 R1 M1 V1 w'/\VR w' (Dc cx B1 R1 M1 V1 w') M1 V1 y v/\PinV V1 p1
def EGp(P:Program)(gls:List (Nat×List Value))(f:FuncId)(xs:List IV)(B:BL)(R:RL)(p:List (Nat×Value))(Pre:(Nat->Nat)->Prop)(Y:IV->BL->RL->List (Nat×Value)->Prop):Prop:=
 ∀ (w:World) (D:Nat->Prop) (M:Nat->Nat) (V:Nat->Value) (vs:List Value) (n:Nat),HR (lcx w D n gls B R M V) B R M V w->VRs w (Dc (lcx w D n gls B R M V) B R M V w) M V xs vs->Pre M->PinV V p->Calls P f vs.toArray w (RC (lcx w D n gls B R M V) Y)
def SR(T:TL)(xs:List Operand)(ys:List IV):Prop:=∀ (w:World) (D:Nat->Prop) (M:Nat->Nat) (V:Nat->Value) (a:Act),(∀ t z,lk t T=some z->VR w D M V z (a.tmps.getD t undef))->VRs w D M V ys (xs.map a.eval)
theorem KnX.all{xs:List Operand}{ys:List IV}(h:KnX T xs ys):SR T xs ys:=fun _ _ _ _ _ hT=>h.vrs hT
end
end
section
section
variable{P:Program}{ops:Array Oper}{C:World->Prop}{R:World->World->Prop}
theorem AllStay.app:∀ {l m:List Kind},AllStay R l->AllStay R m->AllStay R (l++m)
 | [],_,_,h=>h
 | _::_,_,h1,h2=>⟨h1.1,AllStay.app h1.2 h2⟩
end
section
variable{P:Program}{cx:Cx}{T T':TL}{B:BL}{R:RL}
theorem Walk.len{ops:Array Oper}{l:List Oper}{ys:List IV}(h:Walk P cx B R ops l T ys T'):ys.length=l.length:=by
 induction h with
 | nil=>rfl
 | op _ _ _ _ _ ih=>simp[ih]
 | gd _ _ _ _ _ _ ih=>simp[ih]
def Dat.plain:Dat->Bool
 | .cell _=>true
 | _=>false
def IV.free:IV->Bool
 | .part (.one d)=>d.plain
 | .part (.many ds)=>ds.all Dat.plain
 | .opt _ x=>x.free
 | .junk=>true
 | _=>false
theorem HI{d:Dat}(h:d.plain=true){w w':World}{D D':Nat->Prop}{v:Value}(hv:Lies w D d v):Lies w' D' d v:=by
 cases d with
 | cell c=>obtain rfl:=hv.cell_eq;exact .cell _
 | _=>cases h
theorem LG:∀ {x:IV} (_:x.free=true) {w w':World} {D D':Nat->Prop} {M M':Nat->Nat} {V V':Nat->Value} {v:Value},VR w D M V x v->VR w' D' M' V' x v
 | .part (.one _),h,_,_,_,_,_,_,_,_,_,hv=>HI h hv
 | .part (.many ds),h,w,w',D,D',M,M',V,V',v,hv=>by
  obtain⟨xs,h1,h2⟩:=hv
  refine⟨xs,h1,h2.1,fun j d u hd hu=>HI (List.all_eq_true.1 h d (List.mem_of_getElem? hd)) (h2.2 j d u hd hu)⟩
 | .opt _ x,h,_,_,_,_,_,_,_,_,_,hv=>⟨fun e=>LG (show x.free=true from h) (hv.1 e),hv.2⟩
 | .junk,_,_,_,_,_,_,_,_,_,_,_=>trivial
def SubN(T T':TL)(l:List Oper):TL->Prop
 | []=>True
 | x::m=>((lk x.1 T'=some x.2/\x.2.free=true)\/(lk x.1 T=some x.2/\l.all (fun o=>match o.dst with | some d => !Nat.beq d x.1 | none=>true)=true))/\SubN T T' l m
theorem SubN.get{l:List Oper}:∀ {T0:TL},SubN T T' l T0 -> ∀ {t x},lk t T0=some x->(lk t T'=some x/\x.free=true)\/(lk t T=some x /\ ∀ o∈l,o.dst≠some t)
 | [],_,_,_,h=>by cases h
 | y::m,hs,t,x,h=>by
  rcases AB (show lk t ((y.1,y.2)::m)=some x from h)with⟨rfl,rfl⟩ | ⟨_,h⟩
  ·rcases hs.1 with h1 | ⟨h1,h2⟩
   ·exact .inl h1
   ·refine .inr ⟨h1,fun o ho e=>?_⟩
    have h3:=List.all_eq_true.1 h2 o ho
    rw[e]at h3
    simp at h3
  ·exact hs.2.get h
end
end
section
section
variable{P:Program}{cx:Cx}{T:TL}{B:BL}{R:RL}
def KnV(T:TL)(R:RL):List Operand->List Part->Prop
 | [],[]=>True
 | x::xs,p::ps=>(Kn T x (.part p) \/ ∃ r z,Kn T x (.own r)/\lk r R=some z/\p=.one (datOf z))/\KnV T R xs ps
 | _,_=>False
theorem KnV.shows:∀ {xs:List Operand} {ps:List Part},KnV T R xs ps -> ∀ (w:World) (D:Nat->Prop) (M:Nat->Nat) (V:Nat->Value) (a:Act),(∀ t z,.tmp t∈xs->lk t T=some z->VR w D M V z (a.tmps.getD t undef))->(∀ r x,lk r R=some x->Lies w D (datOf x) (V r))->PsFit w D ps (xs.map a.eval)
 | [],[],_,_,_,_,_,_,_,_=>trivial
 | [],_::_,h,_,_,_,_,_,_,_=>h.elim
 | _::_,[],h,_,_,_,_,_,_,_=>h.elim
 | x::xs,p::ps,h,w,D,M,V,a,h1,h2=>by
  refine⟨?_,KnV.shows h.2 w D M V a (fun t z hm=>h1 t z (List.mem_cons_of_mem _ hm)) h2⟩
  rcases h.1 with hk | ⟨r,z,hk,hz,rfl⟩
  ·exact hk w D M V a fun t z e hz=>h1 t z (by rw[e];exact List.mem_cons_self) hz
  ·have h3:a.eval x=V r:=hk w D M V a fun t z e hz=>h1 t z (by rw[e];exact List.mem_cons_self) hz
   show Lies w D (datOf z) (a.eval x)
   rw[h3]
   exact h2 r z hz
theorem Far.cells(vs:List Value):Far (.tup (vs.map fun v=>.one (.cell v))) (.tup (vs.map fun v=>.one (.cell v))):=fun w D M V w' D' M' V' v h=>by
 obtain⟨us,h1,h2⟩:=h
 obtain rfl:=G4 h2
 exact⟨_,h1,HH _ _ _⟩
theorem Far.free{y:IV}(h:y.free=true):Far y y:=fun _ _ _ _ _ _ _ _ _ hv=>LG h hv
theorem EG.p{gls:List (Nat×List Value)}{f:FuncId}{xs:List IV}{Y:IV->BL->RL->Prop}{Pre:(Nat->Nat)->Prop}(h:EG P gls f xs B R Y):EGp P gls f xs B R [] Pre (fun y B1 R1 p1=>Y y B1 R1/\p1=[]):=fun w D M V vs n hh hv _ _=>
 (h w D M V vs n hh hv).mono fun e w' ⟨v,y,B1,R1,M1,V1,a1,a2,a3,a4⟩=>⟨v,y,B1,R1,[],M1,V1,a1,⟨a2,rfl⟩,a3,a4,trivial⟩
end
end
section
section
variable{P:Program}{cx:Cx}{T:TL}{B:BL}{R:RL}{o:Oper}
theorem Upon.imp{M:Nat->Nat}{V:Nat->Value}{w:World}{y y':IV}(hi:∀ (w:World) (D:Nat->Prop) (v:Value),VR w D M V y v->VR w D M V y' v){r:Result Next}(h:Upon P cx B R M V w y r):Upon P cx B R M V w y' r:=by
 cases r with
 | halt x w'=>exact h
 | ok n w'=>
  cases n with
  | value v=>exact⟨h.1,hi _ _ _ h.2⟩
  | skip=>exact⟨h.1,hi _ _ _ h.2⟩
  | enter f args=>exact⟨h.1,h.2.mono fun e w'' ⟨v,h1,h2,h3⟩=>⟨v,h1,h2,hi _ _ _ h3⟩⟩
  | _=>exact h
theorem LStep.pin{t r:Nat}{x y y':IV}{p:Value->Value->Prop}{v0:Value}(hm:.tmp t∈o.op.operands)(hx:lk t T=some (.via r fun a u=>p a u/\a=v0))(hxi:∀ (w:World) (D:Nat->Prop) (M:Nat->Nat) (V:Nat->Value) (u:Value),p (V r) u->VR w D M V x u)(h:LStep P cx B R o ((t,x)::T) y)
  (hy:∀ (w:World) (D:Nat->Prop) (M:Nat->Nat) (V:Nat->Value) (u:Value),V r=v0->VR w D M V y u->VR w D M V y' u):LStep P cx B R o T y':=fun M V w a hh ht=>by
 have h1:p (V r) (a.tmps.getD t undef)/\V r=v0:=ht t _ hm hx
 exact(h M V w a hh fun s z hs hz=>by
  rcases AB hz with⟨rfl,rfl⟩ | ⟨_,hz⟩
  ·exact hxi _ _ _ _ _ h1.1
  ·exact ht s z hs hz).imp fun w D v hv=>hy w D M V v h1.2 hv
theorem EGp.any{gls:List (Nat×List Value)}{f:FuncId}{xs:List IV}{p:List (Nat×Value)}{b:Nat}{Y:Nat->IV->BL->RL->List (Nat×Value)->Prop}(h:∀ g,EGp P gls f xs B R p (fun M=>M b=g) (Y g)):EGp P gls f xs B R p (fun _=>True) (fun y B1 R1 p1=>∃ g,Y g y B1 R1 p1):=fun w D M V vs n hh hv _ hp=>
 (h (M b) w D M V vs n hh hv rfl hp).mono fun e w' ⟨v,y,B1,R1,p1,M1,V1,a1,a2,a3,a4,a5⟩=>⟨v,y,B1,R1,p1,M1,V1,a1,⟨_,a2⟩,a3,a4,a5⟩
end
end
section
section
variable{P:Program}{cx:Cx}{T0:TL}{B0:BL}{R0:RL}{ops:Array Oper}{Q:Exit->Act->World->Prop}{deps:List (List Nat)}{es:List (Nat×Nat×IV)}{bs:List (Nat×Nat×Bx)}{rs:List (Nat×Nat×Rw)}
def AllStepsS(P:Program)(cx:Cx)(T0:TL)(B0:BL)(R0:RL)(ops:Array Oper)(Q:Exit->Act->World->Prop)(es:List (Nat×Nat×IV))(bs:List (Nat×Nat×Bx))(rs:List (Nat×Nat×Rw)):List (List Bool×Nat)->Prop
 | []=>True
 | (L,i)::r=>(∀ K,E cx (AZ (L.set i true) [] es++T0) (AZ (L.set i true) [] bs++B0) (AZ (L.set i true) [] rs++R0) K->E cx (AZ L [] es++T0) (AZ L [] bs++B0) (AZ L [] rs++R0) (wpOp P ops Q i K))/\AllStepsS P cx T0 B0 R0 ops Q es bs rs r
theorem AllStepsS.get:∀ {st:List (List Bool×Nat)} (_:AllStepsS P cx T0 B0 R0 ops Q es bs rs st) {L:List Bool} {i:Nat},(L,i)∈st -> ∀ K,E cx (AZ (L.set i true) [] es++T0) (AZ (L.set i true) [] bs++B0) (AZ (L.set i true) [] rs++R0) K->E cx (AZ L [] es++T0) (AZ L [] bs++B0) (AZ L [] rs++R0) (wpOp P ops Q i K)
 | (L',j)::r,h,L,i,hm=>by
  rcases List.mem_cons.1 hm with e | hm
  ·injection e with e1 e2
   subst e1 e2
   exact h.1
  ·exact AllStepsS.get h.2 hm
 | [],_,_,_,hm=>by cases hm
theorem MD{L0 full:List Bool}{reach:List (List Bool)}{steps:List (List Bool×Nat)}(hd:D2 ops=deps)(hB:JY deps L0 full reach steps=true)(hs:AllStepsS P cx T0 B0 R0 ops Q es bs rs steps)(hend:E cx (AZ full [] es++T0) (AZ full [] bs++B0) (AZ full [] rs++R0) (Q .normal)):
  ∀ (m:Nat) (L:List Bool),L.count false=m->L∈reach->E cx (AZ L [] es++T0) (AZ L [] bs++B0) (AZ L [] rs++R0) (wpAny P .any ops Q m L.toArray):=by
 simp only[JY,Bool.and_eq_true]at hB
 have hall:=List.all_eq_true.1 hB.2
 intro m
 induction m with
 | zero=>
  intro L hm hL
  have h:=hall L hL
  cases hf:(L==full)with
  | true=>
   rw[hf]at h
   simp only[cond_true,Bool.and_eq_true]at h
   rw[beq_iff_eq]at hf
   subst hf
   exact OT hd h.1 hend
  | false=>
   rw[hf]at h
   simp only[cond_false,Bool.and_eq_true]at h
   cases hr:BF L 0 deps with
   | nil=>rw[hr]at h;exact absurd h.1 (by decide)
   | cons i is=>
    have h2:=List.all_eq_true.1 h.2 i (by rw[hr];exact List.mem_cons_self)
    simp only[Bool.and_eq_true,beq_iff_eq]at h2
    omega
 | succ m ih=>
  intro L hm hL
  have h:=hall L hL
  cases hf:(L==full)with
  | true=>
   rw[hf]at h
   simp only[cond_true,Bool.and_eq_true,beq_iff_eq]at h
   omega
  | false=>
   rw[hf]at h
   simp only[cond_false,Bool.and_eq_true,Bool.not_eq_true']at h
   refine QR hd h.1 (AnyE.of fun i hi=>?_)
   have h2:=List.all_eq_true.1 h.2 i hi
   simp only[Bool.and_eq_true,beq_iff_eq,List.contains_iff_mem]at h2
   exact hs.get h2.1.1 _ (ih _ (by omega) h2.1.2)
theorem EA{id:Nat}{l:List Oper}(n:Nat)(deps:List (List Nat))(reach:List (List Bool))(steps:List (List Bool×Nat))(es:List (Nat×Nat×IV))(bs:List (Nat×Nat×Bx))(rs:List (Nat×Nat×Rw)){T:TL}{B:BL}{R:RL}(T0:TL)(B0:BL)(R0:RL)(hd:D2 l.toArray=deps)(hn:l.toArray.size=n)(hm:P.follows .mixedOrders=true)(hB:JY deps (List.replicate n false) (List.replicate n true) reach steps=true)(hc:(List.replicate n false).count false=n)
  (h0:∀ K,E cx (AZ (List.replicate n false) [] es++T0) (AZ (List.replicate n false) [] bs++B0) (AZ (List.replicate n false) [] rs++R0) K->E cx T B R K) (hs:AllStepsS P cx T0 B0 R0 l.toArray Q es bs rs steps) (hend:E cx (AZ (List.replicate n true) [] es++T0) (AZ (List.replicate n true) [] bs++B0) (AZ (List.replicate n true) [] rs++R0) (Q .normal)):E cx T B R ((Code.region id l.toArray true).wp P Q):=by
 refine H6 n _ deps hd hn hm rfl fun _=>h0 _ ?_
 refine MD hd hB hs hend n _ hc ?_
 simp only[JY,Bool.and_eq_true,List.contains_iff_mem]at hB
 exact hB.1
def ddT:List Nat->TL->TL
 | _,[]=>[]
 | sn,(j,x)::l=>bif sn.any fun c=>Nat.beq c j then ddT sn l else(j,x)::ddT (j::sn) l
theorem KE:∀ (l:TL) (sn:List Nat) (b:Nat),b∉sn->lk b (ddT sn l)=lk b l
 | [],_,_,_=>rfl
 | (j,x)::l,sn,b,hb=>by
  unfold ddT
  cases h:sn.any fun c=>Nat.beq c j with
  | true=>
   obtain⟨c,hc,e⟩:=List.any_eq_true.1 h
   have e':c=j:=Nat.eq_of_beq_eq_true e
   have hj:j≠b:=fun e2=>hb (by rw[<- e2,<- e'];exact hc)
   rw[cond_true,KE l sn b hb,AV _ _ hj]
  | false=>
   rw[cond_false]
   by_cases hj:j=b
   ·subst hj
    rw[AY,AY]
   ·rw[AV _ _ hj,AV _ _ hj]
    exact KE l (j::sn) b fun h2=>by
     rcases List.mem_cons.1 h2 with e | h2
     ·exact hj e.symm
     ·exact hb h2
theorem L3{T:TL}{B:BL}{R:RL}{K:Act->World->Prop}(hE:E cx T B R K):E cx (ddT [] T) B R K:=fun M V a w hr=>hE M V a w ⟨hr.size,hr.defers,hr.heap,fun t x hx=>hr.tmp t x (by rw[KE T [] t (by simp)];exact hx)⟩
end
end
end Go.Proofs.Ytmhhdoaiccahaaa
