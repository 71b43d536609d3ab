/- Part 15. Conditions: as each theorem says. -/
import Derived.Test.YtojdpgeeajaojaaGreatET14
import Derived.Laws.Slices
import Derived.Laws.StructEq
import Derived.Laws.IdiomStrings
import Derived.Laws.Entries
import Derived.Test.YtojdpgeeajaojaaGreatProg
set_option maxRecDepth 100000
namespace Go.Proofs.YtojdpgeeajaojaaGreat
open Go.RowKit
section
theorem Imp.ptr_ref(t:TypeId)(ds:List Dat):Imp (.part (.one (.ptr t ds))) (.ref ds):=fun w D M V v h=>by
 have h':Lies w D (.ptr t ds) v:=h
 cases h' with
 | ptr b t ds xs hD hb hl hx=>exact⟨b,0,rfl,hD,xs,⟨hl,fun j d x h1 h2=>hx j d x h1 h2⟩,fun j x hj=>by rw[Nat.zero_add,hb.cell];exact hj⟩
section
variable{P:Program}{cx:Cx}{T:TL}{B:BL}{R:RL}{o:Oper}
def Far(y y':IV):Prop:=∀ (w:World) (D:Nat->Prop) (M:Nat->Nat) (V:Nat->Value) (w':World) (D':Nat->Prop) (M':Nat->Nat) (V':Nat->Value) (v:Value),VR w D M V y v->VR w' D' M' V' y' v
theorem Far.is(v:Value):Far (.is v) (.is v):=fun w D M V w' D' M' V' u h=>by
 obtain rfl:=VR.is_eq h
 exact .cell _
def V6(n:Nat)(_ v:Value):Prop:=∃ p c,v=.slice p n c
theorem Far.row(r k n:Nat)(ds:List Dat):Far (.part (.one (.row k n ds))) (.via r (V6 n)):=fun w D M V w' D' M' V' u h=>by
 obtain⟨p,c,h1⟩:=GQ h
 exact⟨p,c,h1⟩
variable{ops:Array Oper}{Q:Exit->Act->World->Prop}{l:List Oper}
end
end
section
section
variable{P:Program}{cx:Cx}{T:TL}{B:BL}{R:RL}{ops:Array Oper}{Q:Exit->Act->World->Prop}{deps:List (List Nat)}
def FN(ops:Array Oper):List (List Nat):=ops.toList.map fun o=>(o.after.toList.filter fun e=>Region.binds .any e).map (·.on)
def CF(L:List Bool):Nat->List (List Nat)->List Nat
 | _,[]=>[]
 | i,d::ds=>bif !(L.getD i true)&&d.all (fun j=>L.getD j false)then i::CF L (i+1) ds else CF L (i+1) ds
theorem KF{L:List Bool}:∀ {ds:List (List Nat)} {k i:Nat},i∈CF L k ds↔k<=i/\L.getD i true=false /\ ∃ d,ds[i-k]?=some d/\d.all (fun j=>L.getD j false)=true
 | [],k,i=>by simp[CF]
 | d::ds,k,i=>by
  have ih:=KF (L:=L) (ds:=ds) (k:=k+1) (i:=i)
  have key:i∈CF L k (d::ds)↔(i=k/\L.getD k true=false/\d.all (fun j=>L.getD j false)=true)\/i∈CF L (k+1) ds:=by
   rw[show CF L k (d::ds)=bif !(L.getD k true)&&d.all (fun j=>L.getD j false)then k::CF L (k+1) ds else CF L (k+1) ds from rfl]
   cases h:(!(L.getD k true)&&d.all (fun j=>L.getD j false))with
   | true=>
    simp only[Bool.and_eq_true,Bool.not_eq_true']at h
    simp only[cond_true,List.mem_cons]
    exact⟨fun h'=>h'.imp (fun e=>⟨e,h.1,h.2⟩) id,fun h'=>h'.imp (fun e=>e.1) id⟩
   | false=>
    simp only[cond_false]
    refine⟨.inr,fun h'=>h'.resolve_left fun e=>?_⟩
    rw[e.2.1,e.2.2]at h
    cases h
  rw[key,ih]
  constructor
  ·rintro(⟨rfl,h1,h2⟩ | ⟨h1,h2,d',h3,h4⟩)
   ·exact⟨Nat.le_refl _,h1,d,by simp,h2⟩
   ·refine⟨by omega,h2,d',?_,h4⟩
    rw[show i-k=(i-(k+1))+1 by omega,List.getElem?_cons_succ]
    exact h3
  ·rintro⟨h1,h2,d',h3,h4⟩
   by_cases e:i=k
   ·subst e
    rw[Nat.sub_self,List.getElem?_cons_zero]at h3
    obtain rfl:=Option.some.inj h3
    exact .inl ⟨rfl,h2,h4⟩
   ·rw[show i-k=(i-(k+1))+1 by omega,List.getElem?_cons_succ]at h3
    exact .inr ⟨by omega,h2,d',h3,h4⟩
theorem FE{L:List Bool}(hd:FN ops=deps){i:Nat}:i∈Region.ready .any ops L.toArray↔i∈CF L 0 deps:=by
 have hg:∀ (j:Nat) (b:Bool),L.toArray.getD j b=L.getD j b:=fun j b=>by simp[List.getD_eq_getElem?_getD]
 rw[mem_ready,KF,<- hd]
 simp only[hg,Nat.zero_le,true_and,Nat.sub_zero,FN,List.getElem?_map,Array.getElem?_toList]
 constructor
 ·rintro⟨h1,o,ho,h2⟩
  refine⟨h1,_,by rw[ho];rfl,?_⟩
  rw[List.all_eq_true]
  intro j hj
  obtain⟨e,he,rfl⟩:=List.mem_map.1 hj
  obtain⟨he1,he2⟩:=List.mem_filter.1 he
  exact h2 e (Array.mem_toList_iff.1 he1) he2
 ·rintro⟨h1,d,h2,h3⟩
  cases ho:ops[i]? with
  | none=>rw[ho]at h2;cases h2
  | some o=>
   rw[ho]at h2
   obtain rfl:=Option.some.inj h2
   refine⟨h1,o,rfl,fun e he hb=>?_⟩
   exact List.all_eq_true.1 h3 _ (List.mem_map.2 ⟨e,List.mem_filter.2 ⟨Array.mem_toList_iff.2 he,hb⟩,rfl⟩)
theorem OA{id:Nat}{l:List Oper}(n:Nat)(L:List Bool)(deps:List (List Nat))(hd:FN l.toArray=deps)(hn:l.toArray.size=n)(hm:P.follows .mixedOrders=true)(hL:List.replicate n false=L)(h:FN l.toArray=deps->E cx T B R (wpAny P .any l.toArray Q n L.toArray)):E cx T B R ((Code.region id l.toArray true).wp P Q):=fun M V a w hr=>by
 have hr1:Rel cx T B R M V a w.drew:=⟨hr.size,hr.defers,hr.heap.step (Below.refl _ _).drew,fun t x hx=>(hr.tmp t x hx).stay (hr.heap.keeps (Below.refl _ _).drew) fun _ hg=>hg.mono (Nat.le_refl _)⟩
 refine wp_region_any hm ?_
 rw[hn,<- List.toArray_replicate,hL]
 exact h hd M V a w.drew hr1
def AnyE(P:Program)(cx:Cx)(T:TL)(B:BL)(R:RL)(ops:Array Oper)(Q:Exit->Act->World->Prop)(fuel:Nat)(L:List Bool):List Nat->Prop
 | []=>True
 | i::is=>E cx T B R (wpOp P ops Q i (wpAny P .any ops Q fuel (L.set i true).toArray))/\AnyE P cx T B R ops Q fuel L is
theorem AnyE.get{fuel:Nat}{L:List Bool}:∀ {is:List Nat} (_:AnyE P cx T B R ops Q fuel L is) {i:Nat},i∈is->E cx T B R (wpOp P ops Q i (wpAny P .any ops Q fuel (L.set i true).toArray))
 | j::is,h,i,hi=>by
  rcases List.mem_cons.1 hi with rfl | hi
  ·exact h.1
  ·exact AnyE.get h.2 hi
 | [],_,_,hi=>by cases hi
theorem V2{fuel:Nat}{L:List Bool}(hd:FN ops=deps)(hne:(CF L 0 deps).isEmpty=false)(h:AnyE P cx T B R ops Q fuel L (CF L 0 deps)):E cx T B R (wpAny P .any ops Q (fuel+1) L.toArray):=fun M V a w hrel=>by
 refine⟨fun e=>?_,fun i hi=>?_⟩
 ·cases hl:CF L 0 deps with
  | nil=>rw[hl]at hne;cases hne
  | cons i is=>
   have:i∈Region.ready .any ops L.toArray:=(FE hd).2 (by rw[hl];exact List.mem_cons_self)
   rw[e]at this
   cases this
 ·have:=AnyE.get h ((FE hd).1 hi)
  rw[List.setIfInBounds_toArray]
  exact this M V a w hrel
theorem UG{L:List Bool}(hd:FN ops=deps)(hr:(CF L 0 deps).isEmpty=true)(h:E cx T B R (Q .normal)):E cx T B R (wpAny P .any ops Q 0 L.toArray):=fun M V a w hrel=>by
 refine⟨?_,h M V a w hrel⟩
 cases hl:Region.ready .any ops L.toArray with
 | nil=>rfl
 | cons i is=>
  have:i∈CF L 0 deps:=(FE hd).1 (by rw[hl];exact List.mem_cons_self)
  cases hl2:CF L 0 deps with
  | nil=>rw[hl2]at this;cases this
  | cons j js=>rw[hl2]at hr;cases hr
theorem IJ{i:Nat}{o:Oper}{K:Act->World->Prop}(ho:ops[i]?=some o)(hl:LetsOut (Exit.then K Q)->LetsOut Q)(h:E cx T B R (wpList P ops (Exit.then K Q) [o])):E cx T B R (wpOp P ops Q i K):=fun M V a w hrel=>OF ho hl (h M V a w hrel)
end
end
section
def GT(L:List Bool):List (Nat×Nat×IV)->TL
 | []=>[]
 | (i,s,y)::es=>bif L.getD i false then(s,y)::GT L es else GT L es
def S5(L:List Bool):List Nat->List (Nat×Nat×Bx)->BL
 | _,[]=>[]
 | sn,(i,s,y)::es=>bif L.getD i false && !(sn.any fun c=>Nat.beq c s)then(s,y)::S5 L (s::sn) es else S5 L sn es
def IT(L:List Bool)(es:List (Nat×Nat×Bx)):BL:=S5 L [] es
def TG(deps:List (List Nat))(L0 full:List Bool)(reach:List (List Bool))(steps:List (List Bool×Nat)):Bool:=
 reach.contains L0&&reach.all fun L=>bif L==full then(CF L 0 deps).isEmpty&&(L.count false==0)else
  !(CF L 0 deps).isEmpty&&(CF L 0 deps).all fun i=>steps.contains (L,i)&&reach.contains (L.set i true)&&((L.set i true).count false+1==L.count false)
section
variable{P:Program}{cx:Cx}{T0:TL}{B0:BL}{R:RL}{ops:Array Oper}{Q:Exit->Act->World->Prop}{deps:List (List Nat)}{es:List (Nat×Nat×IV)}{bs:List (Nat×Nat×Bx)}
def AllSteps(P:Program)(cx:Cx)(T0:TL)(B0:BL)(R:RL)(ops:Array Oper)(Q:Exit->Act->World->Prop)(es:List (Nat×Nat×IV))(bs:List (Nat×Nat×Bx)):List (List Bool×Nat)->Prop
 | []=>True
 | (L,i)::r=>(∀ K,E cx (T0++GT (L.set i true) es) (IT (L.set i true) bs++B0) R K->E cx (T0++GT L es) (IT L bs++B0) R (wpOp P ops Q i K))/\AllSteps P cx T0 B0 R ops Q es bs r
theorem AllSteps.get:∀ {st:List (List Bool×Nat)} (_:AllSteps P cx T0 B0 R ops Q es bs st) {L:List Bool} {i:Nat},(L,i)∈st -> ∀ K,E cx (T0++GT (L.set i true) es) (IT (L.set i true) bs++B0) R K->E cx (T0++GT L es) (IT L bs++B0) R (wpOp P ops Q i K)
 | (L',j)::r,h,L,i,hm=>by
  rcases List.mem_cons.1 hm with e | hm
  ·injection e with e1 e2
   subst e1 e2
   exact h.1
  ·exact AllSteps.get h.2 hm
 | [],_,_,_,hm=>by cases hm
theorem AnyE.of{T:TL}{B:BL}{fuel:Nat}{L:List Bool}:∀ {is:List Nat},(∀ i∈is,E cx T B R (wpOp P ops Q i (wpAny P .any ops Q fuel (L.set i true).toArray)))->AnyE P cx T B R ops Q fuel L is
 | [],_=>trivial
 | i::is,h=>⟨h i List.mem_cons_self,AnyE.of fun j hj=>h j (List.mem_cons_of_mem _ hj)⟩
theorem SE{L0 full:List Bool}{reach:List (List Bool)}{steps:List (List Bool×Nat)}(hd:FN ops=deps)(hB:TG deps L0 full reach steps=true)(hs:AllSteps P cx T0 B0 R ops Q es bs steps)(hend:E cx (T0++GT full es) (IT full bs++B0) R (Q .normal)):
  ∀ (m:Nat) (L:List Bool),L.count false=m->L∈reach->E cx (T0++GT L es) (IT L bs++B0) R (wpAny P .any ops Q m L.toArray):=by
 simp only[TG,Bool.and_eq_true]at hB
 have hall:=List.all_eq_true.1 hB.2
 intro m
 induction m with
 | zero=>
  intro L hm hL
  have h:=hall L hL
  cases hf:(L==full)with
  | true=>
   rw[hf]at h
   simp only[cond_true,Bool.and_eq_true]at h
   rw[beq_iff_eq]at hf
   subst hf
   exact UG hd h.1 hend
  | false=>
   rw[hf]at h
   simp only[cond_false,Bool.and_eq_true]at h
   cases hr:CF L 0 deps with
   | nil=>rw[hr]at h;exact absurd h.1 (by decide)
   | cons i is=>
    have h2:=List.all_eq_true.1 h.2 i (by rw[hr];exact List.mem_cons_self)
    simp only[Bool.and_eq_true,beq_iff_eq]at h2
    omega
 | succ m ih=>
  intro L hm hL
  have h:=hall L hL
  cases hf:(L==full)with
  | true=>
   rw[hf]at h
   simp only[cond_true,Bool.and_eq_true,beq_iff_eq]at h
   omega
  | false=>
   rw[hf]at h
   simp only[cond_false,Bool.and_eq_true,Bool.not_eq_true']at h
   refine V2 hd h.1 (AnyE.of fun i hi=>?_)
   have h2:=List.all_eq_true.1 h.2 i hi
   simp only[Bool.and_eq_true,beq_iff_eq,List.contains_iff_mem]at h2
   exact hs.get h2.1.1 _ (ih _ (by omega) h2.1.2)
theorem FS{T T':TL}{B B':BL}{K:Act->World->Prop}(hK:E cx T' B' [] K)(hT:SubT T T')(hB:SubB B B'):E cx T B [] K:=AL (R':=[]) hT hB trivial hK
theorem QJ{id:Nat}{l:List Oper}(n:Nat)(deps:List (List Nat))(reach:List (List Bool))(steps:List (List Bool×Nat))(es:List (Nat×Nat×IV))(bs:List (Nat×Nat×Bx)){T:TL}{B:BL}(T0:TL)(B0:BL)(hd:FN l.toArray=deps)(hn:l.toArray.size=n)(hm:P.follows .mixedOrders=true)(hB:TG deps (List.replicate n false) (List.replicate n true) reach steps=true)(hc:(List.replicate n false).count false=n)
  (h0:∀ K,E cx (T0++GT (List.replicate n false) es) (IT (List.replicate n false) bs++B0) R K->E cx T B R K) (hs:AllSteps P cx T0 B0 R l.toArray Q es bs steps) (hend:E cx (T0++GT (List.replicate n true) es) (IT (List.replicate n true) bs++B0) R (Q .normal)):E cx T B R ((Code.region id l.toArray true).wp P Q):=by
 refine OA n _ deps hd hn hm rfl fun _=>h0 _ ?_
 refine SE hd hB hs hend n _ hc ?_
 simp only[TG,Bool.and_eq_true,List.contains_iff_mem]at hB
 exact hB.1
end
end
section
section
variable{P:Program}
variable{cx:Cx}{T:TL}{B:BL}{R:RL}{M:Nat->Nat}{V:Nat->Value}{o:Oper}
theorem B7{x:Operand}{y z:IV}(h:Kn T x y)(hi:Imp y z):Kn T x z:=fun w D M V a hT=>hi w D M V _ (h w D M V a hT)
variable{α:Type}{kf:α->Value}[DecidableEq α]
end
def CI{α:Type}(L:List Bool):List Nat->List (Nat×Nat×α)->List (Nat×α)
 | _,[]=>[]
 | sn,(i,s,y)::es=>bif L.getD i false && !(sn.any fun c=>Nat.beq c s)then(s,y)::CI L (s::sn) es else CI L sn es
section
variable{P:Program}{cx:Cx}{T0:TL}{B0:BL}{R0:RL}{ops:Array Oper}{Q:Exit->Act->World->Prop}{deps:List (List Nat)}{es:List (Nat×Nat×IV)}{bs:List (Nat×Nat×Bx)}{rs:List (Nat×Nat×Rw)}
def AllStepsR(P:Program)(cx:Cx)(T0:TL)(B0:BL)(R0:RL)(ops:Array Oper)(Q:Exit->Act->World->Prop)(es:List (Nat×Nat×IV))(bs:List (Nat×Nat×Bx))(rs:List (Nat×Nat×Rw)):List (List Bool×Nat)->Prop
 | []=>True
 | (L,i)::r=>(∀ K,E cx (T0++CI (L.set i true) [] es) (CI (L.set i true) [] bs++B0) (CI (L.set i true) [] rs++R0) K->E cx (T0++CI L [] es) (CI L [] bs++B0) (CI L [] rs++R0) (wpOp P ops Q i K))/\AllStepsR P cx T0 B0 R0 ops Q es bs rs r
theorem AllStepsR.get:∀ {st:List (List Bool×Nat)} (_:AllStepsR P cx T0 B0 R0 ops Q es bs rs st) {L:List Bool} {i:Nat},(L,i)∈st -> ∀ K,E cx (T0++CI (L.set i true) [] es) (CI (L.set i true) [] bs++B0) (CI (L.set i true) [] rs++R0) K->E cx (T0++CI L [] es) (CI L [] bs++B0) (CI L [] rs++R0) (wpOp P ops Q i K)
 | (L',j)::r,h,L,i,hm=>by
  rcases List.mem_cons.1 hm with e | hm
  ·injection e with e1 e2
   subst e1 e2
   exact h.1
  ·exact AllStepsR.get h.2 hm
 | [],_,_,_,hm=>by cases hm
end
end
section
inductive Alike3 (P:Program) (t:TypeId):Value->Value->Prop where
 | int (k k':IntKind) (a b:Int) (h:P.underlying t=some (.int k')):Alike3 P t (.int k a) (.int k b)
 | str (a b:List UInt8) (h:P.underlying t=some .string):Alike3 P t (.string (str a)) (.string (str b))
 | bool (a b:Bool) (h:P.underlying t=some .bool):Alike3 P t (.bool a) (.bool b)
theorem Alike3.plain{P:Program}{t:TypeId}{a b:Value}(h:Alike3 P t a b):(P.underlying t=some .string\/P.underlying t=some .bool) \/ ∃ k,P.underlying t=some (.int k):=by
 cases h with
 | int k k' a b hu=>exact .inr ⟨k',hu⟩
 | str a b hu=>exact .inl (.inl hu)
 | bool a b hu=>exact .inl (.inr hu)
section
variable{P:Program}{cx:Cx}{T:TL}{B:BL}{R:RL}{o:Oper}
end
end
section
theorem IQ{w:World}{D:Nat->Prop}:∀ {vs us:List Value},PsFit w D (vs.map fun v=>.one (.cell v)) us->us=vs
 | [],[],_=>rfl
 | v::vs,u::us,h=>by
  obtain rfl:=Lies.cell_eq h.1
  rw[IQ h.2]
 | [],_::_,h=>h.elim
 | _::_,[],h=>h.elim
theorem K6(w:World)(D:Nat->Prop):∀ vs:List Value,PsFit w D (vs.map fun v=>.one (.cell v)) vs
 | []=>trivial
 | v::vs=>⟨.cell v,K6 w D vs⟩
section
variable{P:Program}{cx:Cx}{T:TL}{B:BL}{R:RL}{o:Oper}
end
end
section
def V5(P:Program)(Q:World->Prop)(gls:List (Nat×List Value))(f:FuncId)(ps:List Part)(Y:IV->Prop):Prop:=
 ∀ (w:World) (D:Nat->Prop) (vs:List Value),(∀ g,D g->g<w.heap.size)->UO gls w->Q w->PsFit w D ps vs->Calls P f vs.toArray w (MU w D Y)
theorem EFx.q{P:Program}{Q:World->Prop}{gls gls':List (Nat×List Value)}{f:FuncId}{ps:List Part}{Y:IV->Prop}(h:EFx P gls f ps Y)(hs:∀ x,x∈gls->x∈gls'):V5 P Q gls' f ps Y:=fun w D vs hD hG _ hp=>h w D vs hD (fun g cs hg=>hG g cs (hs _ hg)) hp
section
variable{P:Program}{cx:Cx}{T:TL}{B:BL}{R:RL}{o:Oper}{Q:World->Prop}
end
end
section
abbrev V4(r:Nat)(v0:Value):IV:=.via r fun a _=>a=v0
section
variable{P:Program}{cx:Cx}{T:TL}{B:BL}{R:RL}{M:Nat->Nat}{V:Nat->Value}{o:Oper}
section
variable{ops:Array Oper}{Q:Exit->Act->World->Prop}{l:List Oper}
end
end
end
section
theorem Lies.kid{w:World}{D:Nat->Prop}{d:Dat}{x:Value}(h:Lies w D d x):KidFit w D d x/\kidBlk d=Option.none:=by
 cases d with
 | orow=>cases h
 | optr=>cases h
 | _=>exact⟨h,rfl⟩
variable{P:Program}{cx:Cx}{T:TL}{B:BL}{R:RL}{M:Nat->Nat}{V:Nat->Value}{o:Oper}{ops:Array Oper}{Q:Exit->Act->World->Prop}{l:List Oper}
end
section
section
variable{P:Program}{cx:Cx}{T:TL}{B:BL}{R:RL}{M:Nat->Nat}{V:Nat->Value}{o:Oper}{ops:Array Oper}{Q:Exit->Act->World->Prop}{l:List Oper}
def PinV(V:Nat->Value):List (Nat×Value)->Prop
 | []=>True
 | x::l=>V x.1=x.2/\PinV V l
def PinL(T:TL):List (Nat×Value)->Prop
 | []=>True
 | x::l=>lk (9000+x.1) T=some (V4 x.1 x.2)/\PinL T l
theorem PinL.v{a:Act}{w:World}(hr:Rel cx T B R M V a w):∀ {p:List (Nat×Value)},PinL T p->PinV V p
 | [],_=>trivial
 | _::_,h=>⟨hr.tmp _ _ h.1,PinL.v hr h.2⟩
theorem PinV.of{V V':Nat->Value}:∀ {p:List (Nat×Value)},(∀ x∈p,V x.1=V' x.1)->PinV V p->PinV V' p
 | [],_,_=>trivial
 | x::p,h,hp=>⟨(h x List.mem_cons_self).symm.trans hp.1,PinV.of (fun y hy=>h y (List.mem_cons_of_mem _ hy)) hp.2⟩
def UF(cx:Cx)(Y:IV->BL->RL->List (Nat×Value)->Prop)(e:Ending)(w':World):Prop:=∃ v y B1 R1 p1 M1 V1,e=.returned v/\Y y B1 R1 p1/\HR cx B1 R1 M1 V1 w'/\VR w' (Dc cx B1 R1 M1 V1 w') M1 V1 y v/\PinV V1 p1
def EGp(P:Program)(gls:List (Nat×List Value))(f:FuncId)(xs:List IV)(B:BL)(R:RL)(p:List (Nat×Value))(Pre:(Nat->Nat)->Prop)(Y:IV->BL->RL->List (Nat×Value)->Prop):Prop:=
 ∀ (w:World) (D:Nat->Prop) (M:Nat->Nat) (V:Nat->Value) (vs:List Value) (n:Nat),HR (lcx w D n gls B R M V) B R M V w->VRs w (Dc (lcx w D n gls B R M V) B R M V w) M V xs vs->Pre M->PinV V p->Calls P f vs.toArray w (UF (lcx w D n gls B R M V) Y)
def UW(T:TL)(xs:List Operand)(ys:List IV):Prop:=∀ (w:World) (D:Nat->Prop) (M:Nat->Nat) (V:Nat->Value) (a:Act),(∀ t z,lk t T=some z->VR w D M V z (a.tmps.getD t undef))->VRs w D M V ys (xs.map a.eval)
theorem KnX.all{xs:List Operand}{ys:List IV}(h:KnX T xs ys):UW T xs ys:=fun _ _ _ _ _ hT=>h.vrs hT
theorem Imp.ref_pref(ds:List Dat):Imp (.ref ds) (.part (.one (.pref ds))):=fun w D M V v h=>by
 obtain⟨b,o,rfl,hb,xs,hf,hc⟩:=h
 refine .pref b o ds (fun j=>xs.getD j undef) hb (fun j hj=>?_) (fun j d hd=>?_)
 ·have hx:xs[j]?=some (xs.getD j undef):=by
   rw[List.getD_eq_getElem?_getD,List.getElem?_eq_getElem (by rw[<- hf.1];exact hj)]
   rfl
  exact hc j _ hx
 ·have hj:j<xs.length:=by
   rw[<- hf.1]
   rcases Nat.lt_or_ge j ds.length with h | h
   ·exact h
   ·rw[List.getElem?_eq_none h]at hd;cases hd
  have hx:xs[j]?=some (xs.getD j undef):=by
   rw[List.getD_eq_getElem?_getD,List.getElem?_eq_getElem hj]
   rfl
  exact hf.2 j d _ hd hx
theorem Imp.pref_ref(ds:List Dat):Imp (.part (.one (.pref ds))) (.ref ds):=fun w D M V v h=>by
 have h':Lies w D (.pref ds) v:=h
 cases h' with
 | pref b o ds X hb hc hX=>
  refine⟨b,o,rfl,hb,(List.range ds.length).map X,⟨by simp,fun j d x hd hx=>?_⟩,fun j x hx=>?_⟩
  ·rw[List.getElem?_map,Option.map_eq_some_iff]at hx
   obtain⟨i,hi,rfl⟩:=hx
   have hj:j<ds.length:=by
    rcases Nat.lt_or_ge j ds.length with h | h
    ·exact h
    ·rw[List.getElem?_eq_none h]at hd;cases hd
   rw[List.getElem?_range hj]at hi
   obtain rfl:j=i:=by simpa using hi
   exact hX j d hd
  ·rw[List.getElem?_map,Option.map_eq_some_iff]at hx
   obtain⟨i,hi,rfl⟩:=hx
   have hj:j<ds.length:=by
    rcases Nat.lt_or_ge j ds.length with h | h
    ·exact h
    ·rw[List.getElem?_eq_none (by simpa using h)]at hi;cases hi
   rw[List.getElem?_range hj]at hi
   obtain rfl:j=i:=by simpa using hi
   exact hc j hj
end
end
section
section
variable{P:Program}{ops:Array Oper}{C:World->Prop}{R:World->World->Prop}
end
section
variable{P:Program}{cx:Cx}{T T':TL}{B:BL}{R:RL}
theorem Walk.len{ops:Array Oper}{l:List Oper}{ys:List IV}(h:Walk P cx B R ops l T ys T'):ys.length=l.length:=by
 induction h with
 | nil=>rfl
 | op _ _ _ _ _ ih=>simp[ih]
 | gd _ _ _ _ _ _ ih=>simp[ih]
def Dat.plain:Dat->Bool
 | .cell _=>true
 | _=>false
def IV.free:IV->Bool
 | .part (.one d)=>d.plain
 | .part (.many ds)=>ds.all Dat.plain
 | .opt _ x=>x.free
 | .junk=>true
 | _=>false
theorem JP{d:Dat}(h:d.plain=true){w w':World}{D D':Nat->Prop}{v:Value}(hv:Lies w D d v):Lies w' D' d v:=by
 cases d with
 | cell c=>obtain rfl:=hv.cell_eq;exact .cell _
 | _=>cases h
theorem PT:∀ {x:IV} (_:x.free=true) {w w':World} {D D':Nat->Prop} {M M':Nat->Nat} {V V':Nat->Value} {v:Value},VR w D M V x v->VR w' D' M' V' x v
 | .part (.one _),h,_,_,_,_,_,_,_,_,_,hv=>JP h hv
 | .part (.many ds),h,w,w',D,D',M,M',V,V',v,hv=>by
  obtain⟨xs,h1,h2⟩:=hv
  refine⟨xs,h1,h2.1,fun j d u hd hu=>JP (List.all_eq_true.1 h d (List.mem_of_getElem? hd)) (h2.2 j d u hd hu)⟩
 | .opt _ x,h,_,_,_,_,_,_,_,_,_,hv=>⟨fun e=>PT (show x.free=true from h) (hv.1 e),hv.2⟩
 | .junk,_,_,_,_,_,_,_,_,_,_,_=>trivial
def SubN(T T':TL)(l:List Oper):TL->Prop
 | []=>True
 | x::m=>((lk x.1 T'=some x.2/\x.2.free=true)\/(lk x.1 T=some x.2/\l.all (fun o=>match o.dst with | some d => !Nat.beq d x.1 | none=>true)=true))/\SubN T T' l m
theorem SubN.get{l:List Oper}:∀ {T0:TL},SubN T T' l T0 -> ∀ {t x},lk t T0=some x->(lk t T'=some x/\x.free=true)\/(lk t T=some x /\ ∀ o∈l,o.dst≠some t)
 | [],_,_,_,h=>by cases h
 | y::m,hs,t,x,h=>by
  rcases AU (show lk t ((y.1,y.2)::m)=some x from h)with⟨rfl,rfl⟩ | ⟨_,h⟩
  ·rcases hs.1 with h1 | ⟨h1,h2⟩
   ·exact .inl h1
   ·refine .inr ⟨h1,fun o ho e=>?_⟩
    have h3:=List.all_eq_true.1 h2 o ho
    rw[e]at h3
    simp at h3
  ·exact hs.2.get h
end
end
section
section
variable{P:Program}{cx:Cx}{T:TL}{B:BL}{R:RL}
theorem Far.cells(vs:List Value):Far (.tup (vs.map fun v=>.one (.cell v))) (.tup (vs.map fun v=>.one (.cell v))):=fun w D M V w' D' M' V' v h=>by
 obtain⟨us,h1,h2⟩:=h
 obtain rfl:=IQ h2
 exact⟨_,h1,K6 _ _ _⟩
theorem Far.free{y:IV}(h:y.free=true):Far y y:=fun _ _ _ _ _ _ _ _ _ hv=>PT h hv
theorem EG.p{gls:List (Nat×List Value)}{f:FuncId}{xs:List IV}{Y:IV->BL->RL->Prop}{Pre:(Nat->Nat)->Prop}(h:EG P gls f xs B R Y):EGp P gls f xs B R [] Pre (fun y B1 R1 p1=>Y y B1 R1/\p1=[]):=fun w D M V vs n hh hv _ _=>
 (h w D M V vs n hh hv).mono fun e w' ⟨v,y,B1,R1,M1,V1,a1,a2,a3,a4⟩=>⟨v,y,B1,R1,[],M1,V1,a1,⟨a2,rfl⟩,a3,a4,trivial⟩
end
end
section
section
variable{P:Program}{cx:Cx}{T:TL}{B:BL}{R:RL}{o:Oper}
theorem Upon.imp{M:Nat->Nat}{V:Nat->Value}{w:World}{y y':IV}(hi:∀ (w:World) (D:Nat->Prop) (v:Value),VR w D M V y v->VR w D M V y' v){r:Result Next}(h:Upon P cx B R M V w y r):Upon P cx B R M V w y' r:=by
 cases r with
 | halt x w'=>exact h
 | ok n w'=>
  cases n with
  | value v=>exact⟨h.1,hi _ _ _ h.2⟩
  | skip=>exact⟨h.1,hi _ _ _ h.2⟩
  | enter f args=>exact⟨h.1,h.2.mono fun e w'' ⟨v,h1,h2,h3⟩=>⟨v,h1,h2,hi _ _ _ h3⟩⟩
  | _=>exact h
theorem LStep.pin{t r:Nat}{x y y':IV}{p:Value->Value->Prop}{v0:Value}(hm:.tmp t∈o.op.operands)(hx:lk t T=some (.via r fun a u=>p a u/\a=v0))(hxi:∀ (w:World) (D:Nat->Prop) (M:Nat->Nat) (V:Nat->Value) (u:Value),p (V r) u->VR w D M V x u)(h:LStep P cx B R o ((t,x)::T) y)
  (hy:∀ (w:World) (D:Nat->Prop) (M:Nat->Nat) (V:Nat->Value) (u:Value),V r=v0->VR w D M V y u->VR w D M V y' u):LStep P cx B R o T y':=fun M V w a hh ht=>by
 have h1:p (V r) (a.tmps.getD t undef)/\V r=v0:=ht t _ hm hx
 exact(h M V w a hh fun s z hs hz=>by
  rcases AU hz with⟨rfl,rfl⟩ | ⟨_,hz⟩
  ·exact hxi _ _ _ _ _ h1.1
  ·exact ht s z hs hz).imp fun w D v hv=>hy w D M V v h1.2 hv
theorem EGp.any{gls:List (Nat×List Value)}{f:FuncId}{xs:List IV}{p:List (Nat×Value)}{b:Nat}{Y:Nat->IV->BL->RL->List (Nat×Value)->Prop}(h:∀ g,EGp P gls f xs B R p (fun M=>M b=g) (Y g)):EGp P gls f xs B R p (fun _=>True) (fun y B1 R1 p1=>∃ g,Y g y B1 R1 p1):=fun w D M V vs n hh hv _ hp=>
 (h (M b) w D M V vs n hh hv rfl hp).mono fun e w' ⟨v,y,B1,R1,p1,M1,V1,a1,a2,a3,a4,a5⟩=>⟨v,y,B1,R1,p1,M1,V1,a1,⟨_,a2⟩,a3,a4,a5⟩
end
end
section
section
variable{P:Program}{cx:Cx}{T0:TL}{B0:BL}{R0:RL}{ops:Array Oper}{Q:Exit->Act->World->Prop}{deps:List (List Nat)}{es:List (Nat×Nat×IV)}{bs:List (Nat×Nat×Bx)}{rs:List (Nat×Nat×Rw)}
def AllStepsS(P:Program)(cx:Cx)(T0:TL)(B0:BL)(R0:RL)(ops:Array Oper)(Q:Exit->Act->World->Prop)(es:List (Nat×Nat×IV))(bs:List (Nat×Nat×Bx))(rs:List (Nat×Nat×Rw)):List (List Bool×Nat)->Prop
 | []=>True
 | (L,i)::r=>(∀ K,E cx (CI (L.set i true) [] es++T0) (CI (L.set i true) [] bs++B0) (CI (L.set i true) [] rs++R0) K->E cx (CI L [] es++T0) (CI L [] bs++B0) (CI L [] rs++R0) (wpOp P ops Q i K))/\AllStepsS P cx T0 B0 R0 ops Q es bs rs r
theorem AllStepsS.get:∀ {st:List (List Bool×Nat)} (_:AllStepsS P cx T0 B0 R0 ops Q es bs rs st) {L:List Bool} {i:Nat},(L,i)∈st -> ∀ K,E cx (CI (L.set i true) [] es++T0) (CI (L.set i true) [] bs++B0) (CI (L.set i true) [] rs++R0) K->E cx (CI L [] es++T0) (CI L [] bs++B0) (CI L [] rs++R0) (wpOp P ops Q i K)
 | (L',j)::r,h,L,i,hm=>by
  rcases List.mem_cons.1 hm with e | hm
  ·injection e with e1 e2
   subst e1 e2
   exact h.1
  ·exact AllStepsS.get h.2 hm
 | [],_,_,_,hm=>by cases hm
end
end
section
variable{P:Program}{cx:Cx}{T T':TL}{B:BL}{R:RL}{o:Oper}{M:Nat->Nat}{V:Nat->Value}{Φ:(Nat->Value)->Prop}
def LStepV(Φ:(Nat->Value)->Prop)(P:Program)(cx:Cx)(B:BL)(R:RL)(o:Oper)(T:TL)(y:IV):Prop:=
 ∀ (M:Nat->Nat) (V:Nat->Value) (w:World) (a:Act),Φ V->HR cx B R M V w->(∀ t z,.tmp t∈o.op.operands->lk t T=some z->VR w (Dc cx B R M V w) M V z (a.tmps.getD t undef))->Upon P cx B R M V w y ((execOp a.eval o).run P w)
theorem LStepV.of{y:IV}(h:LStep P cx B R o T y):LStepV Φ P cx B R o T y:=fun M V w a _=>h M V w a
inductive WalkV (Φ:(Nat->Value)->Prop) (P:Program) (cx:Cx) (B:BL) (R:RL) (ops:Array Oper):List Oper->TL->List IV->TL->Prop
 | nil {T:TL}:WalkV Φ P cx B R ops [] T [] T
 | op {o:Oper} {d:Nat} {l:List Oper} {T T':TL} {y:IV} {ys:List IV}:o.guard=none->o.dst=some d->Nat.blt d cx.n=true->LStepV Φ P cx B R o T y->WalkV Φ P cx B R ops l ((d,y)::T) ys T'->WalkV Φ P cx B R ops (o::l) T (y::ys) T'
 | gd (g:Bool) {o:Oper} {d:Nat} {l:List Oper} {T T':TL} {y:IV} {ys:List IV}:gk ops T o=some g->o.dst=some d->Nat.blt d cx.n=true->(g=true->LStepV Φ P cx B R o T y)->WalkV Φ P cx B R ops l ((d,.opt g y)::T) ys T'->WalkV Φ P cx B R ops (o::l) T (.opt g y::ys) T'
theorem HU{C:World->Prop}{ops:Array Oper}{y:IV}{G:List C8}{a:Act}(hΦ:Φ V)(hC:∀ w,C w->HR cx B R M V w)(hG:Gt cx B R M V C T G a)(h:LStepV Φ P cx B R o T y){w:World}(hc:C w)(hS:Seen ops o G w):
  D5 P Rb o a (CJ cx B R M V y) w:=by
 have h1:=h M V w a hΦ (hC w hc) fun t z hm hz=>by
  rcases hG t z hz with h | ⟨_,F,h2,h3⟩
  ·exact h w hc
  ·exact h3 w (hS _ h2 t rfl (E0 hm))
 have key:∀ {v:Value} {w':World},HR cx B R M V w'->VR w' (Dc cx B R M V w') M V y v->(CJ cx B R M V y).ok v/\(CJ cx B R M V y).pred v w':=fun{v w'} hh hv=>by
  unfold CJ
  cases hw:y.whole with
  | some u=>exact⟨Kind.ok_is.2 (DO hw hv),trivial⟩
  | none=>exact⟨fun c h=>(by cases h),w',hh,Below.refl _ _,hv⟩
 unfold D5
 generalize(execOp a.eval o).run P w=r at *
 cases r with
 | halt x w'=>exact h1.elim
 | ok n w'=>
  cases n<;>simp only[Upon]at h1<;>simp only[E2]
  case value u=>exact⟨h1.1,key ((hC w hc).step h1.1) h1.2⟩
  case skip=>exact⟨h1.1,key ((hC w hc).step h1.1) h1.2⟩
  case enter f args=>
   obtain⟨rfl,h1⟩:=h1
   exact h1.mono fun e w'' ⟨v,he,h2,h3⟩=>⟨v,he,h2,key ((hC _ hc).step h2) h3⟩
theorem WalkV.wpT{C:World->Prop}{ops:Array Oper}{Q:List C8->Act->Prop}(hΦ:Φ V)(hC:∀ w,C w->HR cx B R M V w)(hc:∃ w,C w){l:List Oper}{ys:List IV}(hW:WalkV Φ P cx B R ops l T ys T'):
  ∀ {G:List C8} {a:Act},a.tmps.size=cx.n->a.defers=[]->Gt cx B R M V C T G a->(∀ G' a',a'.tmps.size=cx.n->a'.defers=[]->Gt cx B R M V C T' G' a'->Q G' a')->wpT P ops Rb C Q l (ys.map (CJ cx B R M V)) G a:=by
 induction hW with
 | nil=>exact fun hn hd hG hQ=>hQ _ _ hn hd hG
 | op hg hd hn hs _ ih=>
  intro G a hsz hdf hG hQ
  refine⟨?_,fun v hv=>?_⟩
  ·unfold AskT
   rw[if_pos (by simp[Region.wanted,hg])]
   exact fun w hc hS=>HU hΦ hC hG hs hc hS
  ·rw[hd]
   exact ih (by simpa[Act.put]using hsz) hdf (hG.put (by rw[hsz];exact CG hn) hv) hQ
 | gd g hg hd hn hs _ ih=>
  intro G a hsz hdf hG hQ
  obtain⟨w0,hw0⟩:=hc
  have hw:=GM hg fun t z v _ hz hv=>by
   rcases hG t z hz with h | ⟨h1,_⟩
   ·exact DO hv (h w0 hw0)
   ·rw[h1]at hv;cases hv
  refine⟨?_,fun v hv=>?_⟩
  ·unfold AskT
   rw[hw]
   cases g with
   | true=>
    rw[if_pos rfl]
    refine fun w hc hS=>HU (Φ:=Φ) hΦ hC hG (fun M V w a hp hh ht=>?_) hc hS
    have h1:=hs rfl M V w a hp hh ht
    revert h1
    generalize(execOp a.eval _).run P w=r
    intro h1
    cases r with
    | halt x w'=>exact h1
    | ok n w'=>
     cases n<;>simp only[Upon]at h1 ⊢
     case value u=>exact⟨h1.1,fun _=>h1.2,fun h=>(by cases h)⟩
     case skip=>exact⟨h1.1,fun _=>h1.2,fun h=>(by cases h)⟩
     case enter f args=>exact⟨h1.1,h1.2.mono fun e w'' ⟨v,he,h3,h4⟩=>⟨v,he,h3,fun _=>h4,fun h=>(by cases h)⟩⟩
   | false=>
    rw[if_neg (by simp)]
    unfold CJ
    rw[IH]
    exact⟨Kind.ok_is.2 rfl,fun _=>trivial⟩
  ·rw[hd]
   exact ih (by simpa[Act.put]using hsz) hdf (hG.put (by rw[hsz];exact CG hn) hv) hQ
end
section
variable{P:Program}{cx:Cx}{T:TL}{B:BL}{R:RL}{o:Oper}
theorem B2{x:Operand}{t:TypeId}{ds:List Dat}(es:List Dat)(k:Nat)(ho:o.op=.load t x)(hx:Kn T x (.ref ds))(ht:aggT P t=true)(hn:sizeT P t=some k)(he:ds.take k=es)(hl:es.length=k):LStep P cx B R o T (.part (.many es)):=by
 have h1:k<=ds.length:=by
  rw[<- he,List.length_take]at hl
  omega
 have h:=EE (B:=B) (R:=R) (cx:=cx) (o:=o) k ho hx ht hn h1
 rwa [he]at h
theorem U5{x y z:Operand}{ts:Array TypeId}{k k' k'':IntKind}{l m n:Int}(ho:o.op=.call { callee:=.builtin .max,args := #[x,y,z],argTypes:=ts })(hx:Kn T x (.is (.int k l)))(hy:Kn T y (.is (.int k' m)))(hz:Kn T z (.is (.int k'' n))):LStep P cx B R o T (.is (.int k (max (max l m) n))):=LStep.same fun M V w a _ hk=>by
 have h1:=(hk x _ (by simp[ho,Op.operands,Call.operands]) hx).is_eq
 have h2:=(hk y _ (by simp[ho,Op.operands,Call.operands]) hy).is_eq
 have h3:=(hk z _ (by simp[ho,Op.operands,Call.operands]) hz).is_eq
 have h4:(Builtin.max_ ts o.type #[.int k l,.int k' m,.int k'' n]).run P w=.ok (.int k (max (max l m) n)) w:=by
  have e:(if m>l then m else l)=max l m:=by split<;>omega
  have e2:(if n>max l m then n else max l m)=max (max l m) n:=by split<;>omega
  simp[Builtin.max_,Builtin.max2,e,e2]
 refine⟨_,?_,.cell _⟩
 simp[execOp,ho,h1,h2,h3,resolve,invoke,builtin,h4]
end
end Go.Proofs.YtojdpgeeajaojaaGreat
