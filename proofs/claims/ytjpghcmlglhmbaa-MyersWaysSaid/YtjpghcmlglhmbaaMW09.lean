/- Part 9. Conditions: as each theorem says. -/
import Derived.Test.YtjpghcmlglhmbaaMW08
import Derived.Laws.Entries
set_option maxRecDepth 100000
namespace Go.Proofs.Ytjpghcmlglhmbaa
open Go.RowKit
section
section
variable{P:Program}{cx:Cx}{T:TL}{B:BL}{R:RL}{M:Nat->Nat}{V:Nat->Value}{o:Oper}{ops:Array Oper}{Q:Exit->Act->World->Prop}{l:List Oper}
def PinV(V:Nat->Value):List (Nat×Value)->Prop
 | []=>True
 | x::l=>V x.1=x.2/\PinV V l
def PinL(T:TL):List (Nat×Value)->Prop
 | []=>True
 | x::l=>lk (9000+x.1) T=some (OL x.1 x.2)/\PinL T l
theorem PinL.v{a:Act}{w:World}(hr:Rel cx T B R M V a w):∀ {p:List (Nat×Value)},PinL T p->PinV V p
 | [],_=>trivial
 | _::_,h=>⟨hr.tmp _ _ h.1,PinL.v hr h.2⟩
theorem PinV.of{V V':Nat->Value}:∀ {p:List (Nat×Value)},(∀ x∈p,V x.1=V' x.1)->PinV V p->PinV V' p
 | [],_,_=>trivial
 | x::p,h,hp=>⟨(h x List.mem_cons_self).symm.trans hp.1,PinV.of (fun y hy=>h y (List.mem_cons_of_mem _ hy)) hp.2⟩
def N7(cx:Cx)(Y:IV->BL->RL->List (Nat×Value)->Prop)(e:Ending)(w':World):Prop:=∃ v y B1 R1 p1 M1 V1,e=.returned v/\Y y B1 R1 p1/\HR cx B1 R1 M1 V1 w'/\VR w' (Dc cx B1 R1 M1 V1 w') M1 V1 y v/\PinV V1 p1
def EGp(P:Program)(gls:List (Nat×List Value))(f:FuncId)(xs:List IV)(B:BL)(R:RL)(p:List (Nat×Value))(Pre:(Nat->Nat)->Prop)(Y:IV->BL->RL->List (Nat×Value)->Prop):Prop:=
 ∀ (w:World) (D:Nat->Prop) (M:Nat->Nat) (V:Nat->Value) (vs:List Value) (n:Nat),HR (lcx w D n gls B R M V) B R M V w->VRs w (Dc (lcx w D n gls B R M V) B R M V w) M V xs vs->Pre M->PinV V p->Calls P f vs.toArray w (N7 (lcx w D n gls B R M V) Y)
def OC(T:TL)(xs:List Operand)(ys:List IV):Prop:=∀ (w:World) (D:Nat->Prop) (M:Nat->Nat) (V:Nat->Value) (a:Act),(∀ t z,lk t T=some z->VR w D M V z (a.tmps.getD t undef))->VRs w D M V ys (xs.map a.eval)
theorem KnX.all{xs:List Operand}{ys:List IV}(h:KnX T xs ys):OC T xs ys:=fun _ _ _ _ _ hT=>h.vrs hT
end
end
section
section
variable{P:Program}{ops:Array Oper}{C:World->Prop}{R:World->World->Prop}
theorem AllStay.app:∀ {l m:List Kind},AllStay R l->AllStay R m->AllStay R (l++m)
 | [],_,_,h=>h
 | _::_,_,h1,h2=>⟨h1.1,AllStay.app h1.2 h2⟩
end
section
variable{P:Program}{cx:Cx}{T T':TL}{B:BL}{R:RL}
theorem Walk.len{ops:Array Oper}{l:List Oper}{ys:List IV}(h:Walk P cx B R ops l T ys T'):ys.length=l.length:=by
 induction h with
 | nil=>rfl
 | op _ _ _ _ _ ih=>simp[ih]
 | gd _ _ _ _ _ _ ih=>simp[ih]
def Dat.plain:Dat->Bool
 | .cell _=>true
 | _=>false
def IV.free:IV->Bool
 | .part (.one d)=>d.plain
 | .part (.many ds)=>ds.all Dat.plain
 | .opt _ x=>x.free
 | .junk=>true
 | _=>false
theorem FX{d:Dat}(h:d.plain=true){w w':World}{D D':Nat->Prop}{v:Value}(hv:Lies w D d v):Lies w' D' d v:=by
 cases d with
 | cell c=>obtain rfl:=hv.cell_eq;exact .cell _
 | _=>cases h
theorem IH:∀ {x:IV} (_:x.free=true) {w w':World} {D D':Nat->Prop} {M M':Nat->Nat} {V V':Nat->Value} {v:Value},VR w D M V x v->VR w' D' M' V' x v
 | .part (.one _),h,_,_,_,_,_,_,_,_,_,hv=>FX h hv
 | .part (.many ds),h,w,w',D,D',M,M',V,V',v,hv=>by
  obtain⟨xs,h1,h2⟩:=hv
  refine⟨xs,h1,h2.1,fun j d u hd hu=>FX (List.all_eq_true.1 h d (List.mem_of_getElem? hd)) (h2.2 j d u hd hu)⟩
 | .opt _ x,h,_,_,_,_,_,_,_,_,_,hv=>⟨fun e=>IH (show x.free=true from h) (hv.1 e),hv.2⟩
 | .junk,_,_,_,_,_,_,_,_,_,_,_=>trivial
def SubN(T T':TL)(l:List Oper):TL->Prop
 | []=>True
 | x::m=>((lk x.1 T'=some x.2/\x.2.free=true)\/(lk x.1 T=some x.2/\l.all (fun o=>match o.dst with | some d => !Nat.beq d x.1 | none=>true)=true))/\SubN T T' l m
theorem SubN.get{l:List Oper}:∀ {T0:TL},SubN T T' l T0 -> ∀ {t x},lk t T0=some x->(lk t T'=some x/\x.free=true)\/(lk t T=some x /\ ∀ o∈l,o.dst≠some t)
 | [],_,_,_,h=>by cases h
 | y::m,hs,t,x,h=>by
  rcases A9 (show lk t ((y.1,y.2)::m)=some x from h)with⟨rfl,rfl⟩ | ⟨_,h⟩
  ·rcases hs.1 with h1 | ⟨h1,h2⟩
   ·exact .inl h1
   ·refine .inr ⟨h1,fun o ho e=>?_⟩
    have h3:=List.all_eq_true.1 h2 o ho
    rw[e]at h3
    simp at h3
  ·exact hs.2.get h
end
end
section
section
variable{P:Program}{cx:Cx}{T:TL}{B:BL}{R:RL}
def KnV(T:TL)(R:RL):List Operand->List Part->Prop
 | [],[]=>True
 | x::xs,p::ps=>(Kn T x (.part p) \/ ∃ r z,Kn T x (.own r)/\lk r R=some z/\p=.one (datOf z))/\KnV T R xs ps
 | _,_=>False
theorem KnV.shows:∀ {xs:List Operand} {ps:List Part},KnV T R xs ps -> ∀ (w:World) (D:Nat->Prop) (M:Nat->Nat) (V:Nat->Value) (a:Act),(∀ t z,.tmp t∈xs->lk t T=some z->VR w D M V z (a.tmps.getD t undef))->(∀ r x,lk r R=some x->Lies w D (datOf x) (V r))->PsFit w D ps (xs.map a.eval)
 | [],[],_,_,_,_,_,_,_,_=>trivial
 | [],_::_,h,_,_,_,_,_,_,_=>h.elim
 | _::_,[],h,_,_,_,_,_,_,_=>h.elim
 | x::xs,p::ps,h,w,D,M,V,a,h1,h2=>by
  refine⟨?_,KnV.shows h.2 w D M V a (fun t z hm=>h1 t z (List.mem_cons_of_mem _ hm)) h2⟩
  rcases h.1 with hk | ⟨r,z,hk,hz,rfl⟩
  ·exact hk w D M V a fun t z e hz=>h1 t z (by rw[e];exact List.mem_cons_self) hz
  ·have h3:a.eval x=V r:=hk w D M V a fun t z e hz=>h1 t z (by rw[e];exact List.mem_cons_self) hz
   show Lies w D (datOf z) (a.eval x)
   rw[h3]
   exact h2 r z hz
theorem Far.cells(vs:List Value):Far (.tup (vs.map fun v=>.one (.cell v))) (.tup (vs.map fun v=>.one (.cell v))):=fun w D M V w' D' M' V' v h=>by
 obtain⟨us,h1,h2⟩:=h
 obtain rfl:=EQ h2
 exact⟨_,h1,FM _ _ _⟩
theorem Far.free{y:IV}(h:y.free=true):Far y y:=fun _ _ _ _ _ _ _ _ _ hv=>IH h hv
theorem EG.p{gls:List (Nat×List Value)}{f:FuncId}{xs:List IV}{Y:IV->BL->RL->Prop}{Pre:(Nat->Nat)->Prop}(h:EG P gls f xs B R Y):EGp P gls f xs B R [] Pre (fun y B1 R1 p1=>Y y B1 R1/\p1=[]):=fun w D M V vs n hh hv _ _=>
 (h w D M V vs n hh hv).mono fun e w' ⟨v,y,B1,R1,M1,V1,a1,a2,a3,a4⟩=>⟨v,y,B1,R1,[],M1,V1,a1,⟨a2,rfl⟩,a3,a4,trivial⟩
end
end
section
section
variable{P:Program}{cx:Cx}{T:TL}{B:BL}{R:RL}{o:Oper}
theorem Upon.imp{M:Nat->Nat}{V:Nat->Value}{w:World}{y y':IV}(hi:∀ (w:World) (D:Nat->Prop) (v:Value),VR w D M V y v->VR w D M V y' v){r:Result Next}(h:Upon P cx B R M V w y r):Upon P cx B R M V w y' r:=by
 cases r with
 | halt x w'=>exact h
 | ok n w'=>
  cases n with
  | value v=>exact⟨h.1,hi _ _ _ h.2⟩
  | skip=>exact⟨h.1,hi _ _ _ h.2⟩
  | enter f args=>exact⟨h.1,h.2.mono fun e w'' ⟨v,h1,h2,h3⟩=>⟨v,h1,h2,hi _ _ _ h3⟩⟩
  | _=>exact h
theorem LStep.pin{t r:Nat}{x y y':IV}{p:Value->Value->Prop}{v0:Value}(hm:.tmp t∈o.op.operands)(hx:lk t T=some (.via r fun a u=>p a u/\a=v0))(hxi:∀ (w:World) (D:Nat->Prop) (M:Nat->Nat) (V:Nat->Value) (u:Value),p (V r) u->VR w D M V x u)(h:LStep P cx B R o ((t,x)::T) y)
  (hy:∀ (w:World) (D:Nat->Prop) (M:Nat->Nat) (V:Nat->Value) (u:Value),V r=v0->VR w D M V y u->VR w D M V y' u):LStep P cx B R o T y':=fun M V w a hh ht=>by
 have h1:p (V r) (a.tmps.getD t undef)/\V r=v0:=ht t _ hm hx
 exact(h M V w a hh fun s z hs hz=>by
  rcases A9 hz with⟨rfl,rfl⟩ | ⟨_,hz⟩
  ·exact hxi _ _ _ _ _ h1.1
  ·exact ht s z hs hz).imp fun w D v hv=>hy w D M V v h1.2 hv
theorem EGp.any{gls:List (Nat×List Value)}{f:FuncId}{xs:List IV}{p:List (Nat×Value)}{b:Nat}{Y:Nat->IV->BL->RL->List (Nat×Value)->Prop}(h:∀ g,EGp P gls f xs B R p (fun M=>M b=g) (Y g)):EGp P gls f xs B R p (fun _=>True) (fun y B1 R1 p1=>∃ g,Y g y B1 R1 p1):=fun w D M V vs n hh hv _ hp=>
 (h (M b) w D M V vs n hh hv rfl hp).mono fun e w' ⟨v,y,B1,R1,p1,M1,V1,a1,a2,a3,a4,a5⟩=>⟨v,y,B1,R1,p1,M1,V1,a1,⟨_,a2⟩,a3,a4,a5⟩
end
end
section
section
variable{P:Program}{cx:Cx}{T0:TL}{B0:BL}{R0:RL}{ops:Array Oper}{Q:Exit->Act->World->Prop}{deps:List (List Nat)}{es:List (Nat×Nat×IV)}{bs:List (Nat×Nat×Bx)}{rs:List (Nat×Nat×Rw)}
def AllStepsS(P:Program)(cx:Cx)(T0:TL)(B0:BL)(R0:RL)(ops:Array Oper)(Q:Exit->Act->World->Prop)(es:List (Nat×Nat×IV))(bs:List (Nat×Nat×Bx))(rs:List (Nat×Nat×Rw)):List (List Bool×Nat)->Prop
 | []=>True
 | (L,i)::r=>(∀ K,E cx (AX (L.set i true) [] es++T0) (AX (L.set i true) [] bs++B0) (AX (L.set i true) [] rs++R0) K->E cx (AX L [] es++T0) (AX L [] bs++B0) (AX L [] rs++R0) (wpOp P ops Q i K))/\AllStepsS P cx T0 B0 R0 ops Q es bs rs r
theorem AllStepsS.get:∀ {st:List (List Bool×Nat)} (_:AllStepsS P cx T0 B0 R0 ops Q es bs rs st) {L:List Bool} {i:Nat},(L,i)∈st -> ∀ K,E cx (AX (L.set i true) [] es++T0) (AX (L.set i true) [] bs++B0) (AX (L.set i true) [] rs++R0) K->E cx (AX L [] es++T0) (AX L [] bs++B0) (AX L [] rs++R0) (wpOp P ops Q i K)
 | (L',j)::r,h,L,i,hm=>by
  rcases List.mem_cons.1 hm with e | hm
  ·injection e with e1 e2
   subst e1 e2
   exact h.1
  ·exact AllStepsS.get h.2 hm
 | [],_,_,_,hm=>by cases hm
theorem JD{L0 full:List Bool}{reach:List (List Bool)}{steps:List (List Bool×Nat)}(hd:DK ops=deps)(hB:MF deps L0 full reach steps=true)(hs:AllStepsS P cx T0 B0 R0 ops Q es bs rs steps)(hend:E cx (AX full [] es++T0) (AX full [] bs++B0) (AX full [] rs++R0) (Q .normal)):
  ∀ (m:Nat) (L:List Bool),L.count false=m->L∈reach->E cx (AX L [] es++T0) (AX L [] bs++B0) (AX L [] rs++R0) (wpAny P .any ops Q m L.toArray):=by
 simp only[MF,Bool.and_eq_true]at hB
 have hall:=List.all_eq_true.1 hB.2
 intro m
 induction m with
 | zero=>
  intro L hm hL
  have h:=hall L hL
  cases hf:(L==full)with
  | true=>
   rw[hf]at h
   simp only[cond_true,Bool.and_eq_true]at h
   rw[beq_iff_eq]at hf
   subst hf
   exact NP hd h.1 hend
  | false=>
   rw[hf]at h
   simp only[cond_false,Bool.and_eq_true]at h
   cases hr:BA L 0 deps with
   | nil=>rw[hr]at h;exact absurd h.1 (by decide)
   | cons i is=>
    have h2:=List.all_eq_true.1 h.2 i (by rw[hr];exact List.mem_cons_self)
    simp only[Bool.and_eq_true,beq_iff_eq]at h2
    omega
 | succ m ih=>
  intro L hm hL
  have h:=hall L hL
  cases hf:(L==full)with
  | true=>
   rw[hf]at h
   simp only[cond_true,Bool.and_eq_true,beq_iff_eq]at h
   omega
  | false=>
   rw[hf]at h
   simp only[cond_false,Bool.and_eq_true,Bool.not_eq_true']at h
   refine NW hd h.1 (AnyE.of fun i hi=>?_)
   have h2:=List.all_eq_true.1 h.2 i hi
   simp only[Bool.and_eq_true,beq_iff_eq,List.contains_iff_mem]at h2
   exact hs.get h2.1.1 _ (ih _ (by omega) h2.1.2)
theorem DL{id:Nat}{l:List Oper}(n:Nat)(deps:List (List Nat))(reach:List (List Bool))(steps:List (List Bool×Nat))(es:List (Nat×Nat×IV))(bs:List (Nat×Nat×Bx))(rs:List (Nat×Nat×Rw)){T:TL}{B:BL}{R:RL}(T0:TL)(B0:BL)(R0:RL)(hd:DK l.toArray=deps)(hn:l.toArray.size=n)(hm:P.follows .mixedOrders=true)(hB:MF deps (List.replicate n false) (List.replicate n true) reach steps=true)(hc:(List.replicate n false).count false=n)
  (h0:∀ K,E cx (AX (List.replicate n false) [] es++T0) (AX (List.replicate n false) [] bs++B0) (AX (List.replicate n false) [] rs++R0) K->E cx T B R K) (hs:AllStepsS P cx T0 B0 R0 l.toArray Q es bs rs steps) (hend:E cx (AX (List.replicate n true) [] es++T0) (AX (List.replicate n true) [] bs++B0) (AX (List.replicate n true) [] rs++R0) (Q .normal)):E cx T B R ((Code.region id l.toArray true).wp P Q):=by
 refine I1 n _ deps hd hn hm rfl fun _=>h0 _ ?_
 refine JD hd hB hs hend n _ hc ?_
 simp only[MF,Bool.and_eq_true,List.contains_iff_mem]at hB
 exact hB.1
def ddT:List Nat->TL->TL
 | _,[]=>[]
 | sn,(j,x)::l=>bif sn.any fun c=>Nat.beq c j then ddT sn l else(j,x)::ddT (j::sn) l
theorem HY:∀ (l:TL) (sn:List Nat) (b:Nat),b∉sn->lk b (ddT sn l)=lk b l
 | [],_,_,_=>rfl
 | (j,x)::l,sn,b,hb=>by
  unfold ddT
  cases h:sn.any fun c=>Nat.beq c j with
  | true=>
   obtain⟨c,hc,e⟩:=List.any_eq_true.1 h
   have e':c=j:=Nat.eq_of_beq_eq_true e
   have hj:j≠b:=fun e2=>hb (by rw[<- e2,<- e'];exact hc)
   rw[cond_true,HY l sn b hb,AI _ _ hj]
  | false=>
   rw[cond_false]
   by_cases hj:j=b
   ·subst hj
    rw[AP,AP]
   ·rw[AI _ _ hj,AI _ _ hj]
    exact HY l (j::sn) b fun h2=>by
     rcases List.mem_cons.1 h2 with e | h2
     ·exact hj e.symm
     ·exact hb h2
theorem J2{T:TL}{B:BL}{R:RL}{K:Act->World->Prop}(hE:E cx T B R K):E cx (ddT [] T) B R K:=fun M V a w hr=>hE M V a w ⟨hr.size,hr.defers,hr.heap,fun t x hx=>hr.tmp t x (by rw[HY T [] t (by simp)];exact hx)⟩
end
end
section
variable{P:Program}{cx:Cx}{T T':TL}{B:BL}{R:RL}{o:Oper}{M:Nat->Nat}{V:Nat->Value}{Φ:(Nat->Value)->Prop}
def LStepV(Φ:(Nat->Value)->Prop)(P:Program)(cx:Cx)(B:BL)(R:RL)(o:Oper)(T:TL)(y:IV):Prop:=
 ∀ (M:Nat->Nat) (V:Nat->Value) (w:World) (a:Act),Φ V->HR cx B R M V w->(∀ t z,.tmp t∈o.op.operands->lk t T=some z->VR w (Dc cx B R M V w) M V z (a.tmps.getD t undef))->Upon P cx B R M V w y ((execOp a.eval o).run P w)
theorem LStepV.of{y:IV}(h:LStep P cx B R o T y):LStepV Φ P cx B R o T y:=fun M V w a _=>h M V w a
inductive WalkV (Φ:(Nat->Value)->Prop) (P:Program) (cx:Cx) (B:BL) (R:RL) (ops:Array Oper):List Oper->TL->List IV->TL->Prop
 | nil {T:TL}:WalkV Φ P cx B R ops [] T [] T
 | op {o:Oper} {d:Nat} {l:List Oper} {T T':TL} {y:IV} {ys:List IV}:o.guard=none->o.dst=some d->Nat.blt d cx.n=true->LStepV Φ P cx B R o T y->WalkV Φ P cx B R ops l ((d,y)::T) ys T'->WalkV Φ P cx B R ops (o::l) T (y::ys) T'
 | gd (g:Bool) {o:Oper} {d:Nat} {l:List Oper} {T T':TL} {y:IV} {ys:List IV}:gk ops T o=some g->o.dst=some d->Nat.blt d cx.n=true->(g=true->LStepV Φ P cx B R o T y)->WalkV Φ P cx B R ops l ((d,.opt g y)::T) ys T'->WalkV Φ P cx B R ops (o::l) T (.opt g y::ys) T'
theorem DY{C:World->Prop}{ops:Array Oper}{y:IV}{G:List BD}{a:Act}(hΦ:Φ V)(hC:∀ w,C w->HR cx B R M V w)(hG:Gt cx B R M V C T G a)(h:LStepV Φ P cx B R o T y){w:World}(hc:C w)(hS:Seen ops o G w):
  BN P Rb o a (BE cx B R M V y) w:=by
 have h1:=h M V w a hΦ (hC w hc) fun t z hm hz=>by
  rcases hG t z hz with h | ⟨_,F,h2,h3⟩
  ·exact h w hc
  ·exact h3 w (hS _ h2 t rfl (CY hm))
 have key:∀ {v:Value} {w':World},HR cx B R M V w'->VR w' (Dc cx B R M V w') M V y v->(BE cx B R M V y).ok v/\(BE cx B R M V y).pred v w':=fun{v w'} hh hv=>by
  unfold BE
  cases hw:y.whole with
  | some u=>exact⟨Kind.ok_is.2 (C4 hw hv),trivial⟩
  | none=>exact⟨fun c h=>(by cases h),w',hh,Below.refl _ _,hv⟩
 unfold BN
 generalize(execOp a.eval o).run P w=r at *
 cases r with
 | halt x w'=>exact h1.elim
 | ok n w'=>
  cases n<;>simp only[Upon]at h1<;>simp only[CJ]
  case value u=>exact⟨h1.1,key ((hC w hc).step h1.1) h1.2⟩
  case skip=>exact⟨h1.1,key ((hC w hc).step h1.1) h1.2⟩
  case enter f args=>
   obtain⟨rfl,h1⟩:=h1
   exact h1.mono fun e w'' ⟨v,he,h2,h3⟩=>⟨v,he,h2,key ((hC _ hc).step h2) h3⟩
theorem WalkV.wpT{C:World->Prop}{ops:Array Oper}{Q:List BD->Act->Prop}(hΦ:Φ V)(hC:∀ w,C w->HR cx B R M V w)(hc:∃ w,C w){l:List Oper}{ys:List IV}(hW:WalkV Φ P cx B R ops l T ys T'):
  ∀ {G:List BD} {a:Act},a.tmps.size=cx.n->a.defers=[]->Gt cx B R M V C T G a->(∀ G' a',a'.tmps.size=cx.n->a'.defers=[]->Gt cx B R M V C T' G' a'->Q G' a')->wpT P ops Rb C Q l (ys.map (BE cx B R M V)) G a:=by
 induction hW with
 | nil=>exact fun hn hd hG hQ=>hQ _ _ hn hd hG
 | op hg hd hn hs _ ih=>
  intro G a hsz hdf hG hQ
  refine⟨?_,fun v hv=>?_⟩
  ·unfold AskT
   rw[if_pos (by simp[Region.wanted,hg])]
   exact fun w hc hS=>DY hΦ hC hG hs hc hS
  ·rw[hd]
   exact ih (by simpa[Act.put]using hsz) hdf (hG.put (by rw[hsz];exact BF hn) hv) hQ
 | gd g hg hd hn hs _ ih=>
  intro G a hsz hdf hG hQ
  obtain⟨w0,hw0⟩:=hc
  have hw:=DN hg fun t z v _ hz hv=>by
   rcases hG t z hz with h | ⟨h1,_⟩
   ·exact C4 hv (h w0 hw0)
   ·rw[h1]at hv;cases hv
  refine⟨?_,fun v hv=>?_⟩
  ·unfold AskT
   rw[hw]
   cases g with
   | true=>
    rw[if_pos rfl]
    refine fun w hc hS=>DY (Φ:=Φ) hΦ hC hG (fun M V w a hp hh ht=>?_) hc hS
    have h1:=hs rfl M V w a hp hh ht
    revert h1
    generalize(execOp a.eval _).run P w=r
    intro h1
    cases r with
    | halt x w'=>exact h1
    | ok n w'=>
     cases n<;>simp only[Upon]at h1 ⊢
     case value u=>exact⟨h1.1,fun _=>h1.2,fun h=>(by cases h)⟩
     case skip=>exact⟨h1.1,fun _=>h1.2,fun h=>(by cases h)⟩
     case enter f args=>exact⟨h1.1,h1.2.mono fun e w'' ⟨v,he,h3,h4⟩=>⟨v,he,h3,fun _=>h4,fun h=>(by cases h)⟩⟩
   | false=>
    rw[if_neg (by simp)]
    unfold BE
    rw[EM]
    exact⟨Kind.ok_is.2 rfl,fun _=>trivial⟩
  ·rw[hd]
   exact ih (by simpa[Act.put]using hsz) hdf (hG.put (by rw[hsz];exact BF hn) hv) hQ
end
section
variable{P:Program}{cx:Cx}{T:TL}{B:BL}{R:RL}{o:Oper}
theorem FQ(r:Nat){ops:Array Oper}{Q:Exit->Act->World->Prop}{l:List Oper}{d:Nat}{f:FuncId}{xs:List Operand}{ts:Array TypeId}{ps:List Part}{ty k n:Nat}{cs:List Value}
  (hg:o.guard=none) (hd:o.dst=some d) (hn:Nat.blt d cx.n=true) (ho:o.op=.call { callee:=.value (.func f),args:=xs.toArray,argTypes:=ts }) (hc:C2 P f=true) (hf:EO P cx.gl f ps ty k n cs)
  (hx:∀ (w:World) (D:Nat->Prop) (M:Nat->Nat) (V:Nat->Value) (a:Act),(∀ t z,.tmp t∈xs->lk t T=some z->VR w D M V z (a.tmps.getD t undef))->(∀ r x,lk r R=some x->Lies w D (datOf x) (V r))->PsFit w D ps (xs.map a.eval))
  (hT:HE r T=true) (hB:HJ r B=true)
  (hE:E cx ((d,.own r)::T) B ((r,⟨ty,k,n,cs.map .cell,false⟩)::R) (wpList P ops Q l)) (hty:Nat.blt ty 1000000=true:=by rfl):E cx T B R (wpList P ops Q (o::l)):=fun M V a w hrel=>by
 refine wpList_plain hg fun K hK=>?_
 have hrun:(execOp a.eval o).run P w=.ok (.enter f (xs.map a.eval).toArray) w:=by
  have he:a.eval (.func f)=.func (.func f) #[] #[]:=rfl
  simp[execOp,ho,resolve,he,Deferred.ofValue,invoke,BS hc]
 unfold Oper.wp
 rw[hrun]
 simp only[Oper.upon,hd]
 have hh:=hrel.heap
 let D':Nat->Prop:=fun g=>Dc cx B R M V w g \/ ∃ r x,lk r R=some x/\x.fz=false/\obs x.ty x.ds (V r) g
 have hk:=Keeps.refl (Dc cx B R M V w) w
 have hDD:∀ g,Dc cx B R M V w g->D' g:=fun g h=>.inl h
 have hD':∀ g,D' g->g<w.heap.size:=fun g hg=>by
  rcases(show Dc cx B R M V w g \/ ∃ r x,lk r R=some x/\x.fz=false/\obs x.ty x.ds (V r) g from hg)with hg | ⟨r,x,h1,h2,h3⟩
  ·exact hh.dlt hg
  ·have h4:=hh.row r x h1
   rw[h2]at h4
   exact Gx.lt h4 g h3
 have hp:PsFit w D' ps (xs.map a.eval):=hx w D' M V a (fun t z _ hz=>(hrel.tmp t z hz).stay hk hDD) fun r x hr=>by
  have h4:=hh.row r x hr
  cases hfz:x.fz with
  | true=>
   rw[if_pos hfz]at h4
   exact h4.stay hk hDD
  | false=>
   rw[hfz]at h4
   exact Gx.frozen (show Gx w (Dc cx B R M V w) 0 x.ty x.k (V r) x.n x.ds from h4) hDD fun g hg=>.inr ⟨r,x,hr,hfz,hg⟩
 refine(hf w D' _ hD' hh.glok hp).mono ?_
 rintro e w' ⟨v,rfl,hb,hown⟩
 refine hK _ _ ?_
 obtain⟨V',hVr,hr0⟩:=hrel.own_new hb hown r hT hB hty
 exact hE M V' _ _ (hr0.put (Below.refl _ _) (BF hn) hVr.symm)
theorem O7{x y:Operand}{ts:Array TypeId}{k k':IntKind}{m n:Int}(ho:o.op=.call { callee:=.builtin .min,args := #[x,y],argTypes:=ts })(hx:Kn T x (.is (.int k m)))(hy:Kn T y (.is (.int k' n))):LStep P cx B R o T (.is (.int k (min m n))):=LStep.same fun M V w a _ hk=>by
 have h1:=(hk x _ (by simp[ho,Op.operands,Call.operands]) hx).is_eq
 have h2:=(hk y _ (by simp[ho,Op.operands,Call.operands]) hy).is_eq
 have h3:(if n<m then n else m)=min m n:=by
  split<;>omega
 refine⟨_,?_,.cell _⟩
 simp[execOp,ho,h1,h2,resolve,invoke,builtin,run_min_int2,h3]
end
section
def ed(s:Nat->Nat->Bool):Nat->Nat->Nat
 | 0,n=>n
 | m+1,0=>m+1
 | m+1,n+1=>if s m n then ed s m n else 1+min (ed s m (n+1)) (ed s (m+1) n)
termination_by m n=>m+n
section
variable{s:Nat->Nat->Bool}
theorem BW(n:Nat):ed s 0 n=n:=by rw[ed]
theorem CD(m:Nat):ed s m 0=m:=by cases m<;>rw[ed]
theorem G7(m n:Nat):ed s (m+1) (n+1)=if s m n then ed s m n else 1+min (ed s m (n+1)) (ed s (m+1) n):=by rw[ed]
theorem FS{m n:Nat}(h:s m n=true):ed s (m+1) (n+1)=ed s m n:=by rw[G7,if_pos h]
theorem DB{m n:Nat}(h:s m n=false):ed s (m+1) (n+1)=1+min (ed s m (n+1)) (ed s (m+1) n):=by rw[G7,if_neg (by simp[h])]
theorem EY:∀ (k m n:Nat),m+n<=k->(ed s m n<=ed s (m+1) n+1/\ed s (m+1) n<=ed s m n+1)/\ed s m n<=ed s m (n+1)+1/\ed s m (n+1)<=ed s m n+1
 | 0,m,n,h=>by
  obtain rfl:m=0:=by omega
  obtain rfl:n=0:=by omega
  simp only[BW,CD]
  omega
 | k+1,m,n,h=>by
  constructor
  ·cases n with
   | zero=>simp only[CD];omega
   | succ n=>
    have ih:=EY k m n (by omega)
    cases hs:s m n with
    | true=>rw[FS hs];omega
    | false=>rw[DB hs];omega
  ·cases m with
   | zero=>simp only[BW];omega
   | succ m=>
    have ih:=EY k m n (by omega)
    cases hs:s m n with
    | true=>rw[FS hs];omega
    | false=>rw[DB hs];omega
theorem NM(m n:Nat):ed s m n<=ed s (m+1) n+1/\ed s (m+1) n<=ed s m n+1:=(EY _ m n (Nat.le_refl _)).1
theorem N1(m n:Nat):ed s m n<=ed s m (n+1)+1/\ed s m (n+1)<=ed s m n+1:=(EY _ m n (Nat.le_refl _)).2
theorem LW(m n:Nat):ed s m n<=ed s (m+1) (n+1):=by
 cases hs:s m n with
 | true=>rw[FS hs];exact Nat.le_refl _
 | false=>
  rw[DB hs]
  have:=NM (s:=s) m n
  have:=N1 (s:=s) m n
  omega
theorem J1(m n j:Nat):ed s m n<=ed s (m+j) (n+j):=by
 induction j with
 | zero=>exact Nat.le_refl _
 | succ j ih=>exact Nat.le_trans ih (LW (m+j) (n+j))
theorem GT:∀ (k m n:Nat),m+n<=k->(ed s m n+m+n) % 2=0
 | 0,m,n,h=>by
  obtain rfl:m=0:=by omega
  obtain rfl:n=0:=by omega
  rw[BW]
 | k+1,m,n,h=>by
  cases m with
  | zero=>rw[BW];omega
  | succ m=>
   cases n with
   | zero=>rw[CD];omega
   | succ n=>
    have h1:=GT k m n (by omega)
    have h2:=GT k m (n+1) (by omega)
    have h3:=GT k (m+1) n (by omega)
    cases hs:s m n with
    | true=>rw[FS hs];omega
    | false=>rw[DB hs];omega
theorem GY(m n:Nat):(ed s m n+m+n) % 2=0:=GT _ m n (Nat.le_refl _)
theorem GM:∀ (k m n:Nat),m+n<=k->m<=ed s m n+n/\n<=ed s m n+m/\ed s m n<=m+n
 | 0,m,n,h=>by
  obtain rfl:m=0:=by omega
  obtain rfl:n=0:=by omega
  rw[BW]
  omega
 | k+1,m,n,h=>by
  cases m with
  | zero=>rw[BW];omega
  | succ m=>
   cases n with
   | zero=>rw[CD];omega
   | succ n=>
    have h1:=GM k m n (by omega)
    have h2:=GM k m (n+1) (by omega)
    have h3:=GM k (m+1) n (by omega)
    cases hs:s m n with
    | true=>rw[FS hs];omega
    | false=>rw[DB hs];omega
theorem N5(m n:Nat):m<=ed s m n+n/\n<=ed s m n+m/\ed s m n<=m+n:=GM _ m n (Nat.le_refl _)
theorem IG(m n:Nat):∀ j,(∀ i,i<j->s (m+i) (n+i)=true)->ed s (m+j) (n+j)=ed s m n
 | 0,_=>rfl
 | j+1,h=>by
  rw[<- IG m n j fun i hi=>h i (by omega)]
  exact FS (h j (by omega))
end
theorem C7{s t:Nat->Nat->Bool}:∀ (k m n:Nat),m+n<=k->(∀ x y,x<m->y<n->s x y=t x y)->ed s m n=ed t m n
 | 0,m,n,h,_=>by
  obtain rfl:m=0:=by omega
  rw[BW,BW]
 | k+1,m,n,h,hst=>by
  cases m with
  | zero=>rw[BW,BW]
  | succ m=>
   cases n with
   | zero=>rw[CD,CD]
   | succ n=>
    rw[G7,G7,hst m n (by omega) (by omega),C7 k m n (by omega) fun x y hx hy=>hst x y (by omega) (by omega),C7 k m (n+1) (by omega) fun x y hx hy=>hst x y (by omega) (by omega),C7 k (m+1) n (by omega) fun x y hx hy=>hst x y (by omega) (by omega)]
def alk(s:Nat->Nat->Bool):Nat->Nat->Nat->Nat
 | 0,x,_=>x
 | f+1,x,y=>if s x y then alk s f (x+1) (y+1)else x
theorem GU{s:Nat->Nat->Bool}{N:Nat}(hN:∀ x y,N<=x->s x y=false):∀ (f x y:Nat),N<=x+f -> ∃ j,alk s f x y=x+j/\(∀ i,i<j->s (x+i) (y+i)=true)/\s (x+j) (y+j)=false/\(j=0\/x+j<=N)
 | 0,x,y,h=>⟨0,rfl,fun i hi=>by omega,hN _ _ (by omega),.inl rfl⟩
 | f+1,x,y,h=>by
  cases hs:s x y with
  | false=>exact⟨0,by simp[alk,hs],fun i hi=>by omega,hs,.inl rfl⟩
  | true=>
   obtain⟨j,h1,h2,h3,h4⟩:=GU hN f (x+1) (y+1) (by omega)
   have hx:x<N:=by
    rcases Nat.lt_or_ge x N with h | h
    ·exact h
    ·rw[hN x y h]at hs;cases hs
   refine⟨j+1,by simp only[alk,hs,if_true,h1];omega,fun i hi=>?_,by rw[<- h3];congr 1<;>omega,.inr (by omega)⟩
   cases i with
   | zero=>exact hs
   | succ i=>rw[<- h2 i (by omega)];congr 1<;>omega
def edt(p:Nat->Nat)(d i:Nat):Nat:=if i=0 then p 0 else if i=d+1 then p d+1 else max (p (i-1)+1) (p i)
def fr(s:Nat->Nat->Bool)(N:Nat):Nat->Nat->Nat
 | 0,_=>alk s N 0 0
 | d+1,i=>alk s N (edt (fr s N d) d i) (edt (fr s N d) d i+(d+1)-2*i)
theorem G3{s:Nat->Nat->Bool}{N d e y0 i:Nat}(hN:∀ x y,N<=x->s x y=false)(he:e+d=y0+2*i)(h1:ed s e y0<=d)(h2:∀ X Y,e<=X->X+d=Y+2*i->s X Y=false->d<ed s (X+1) (Y+1)):
  (∀ x y,x+d=y+2*i->(ed s x y<=d↔x<=alk s N e y0))/\(alk s N e y0<=N\/alk s N e y0=e):=by
 obtain⟨j,a1,a2,a3,a4⟩:=GU hN N e y0 (by omega)
 rw[a1]
 refine⟨fun x y hxy=>?_,by omega⟩
 have h3:=IG e y0 j a2
 have h4:=h2 (e+j) (y0+j) (by omega) (by omega) a3
 constructor
 ·intro h
  rcases Nat.lt_or_ge (e+j) x with hx | hx
  ·have:=J1 (s:=s) (e+j+1) (y0+j+1) (x-(e+j+1))
   rw[show e+j+1+(x-(e+j+1))=x by omega,show y0+j+1+(x-(e+j+1))=y by omega]at this
   omega
  ·exact hx
 ·intro h
  have:=J1 (s:=s) x y (e+j-x)
  rw[show x+(e+j-x)=e+j by omega,show y+(e+j-x)=y0+j by omega,h3]at this
  omega
theorem HH{s:Nat->Nat->Bool}{N:Nat}(hN:∀ x y,N<=x->s x y=false):∀ d i,i<=d->(∀ x y,x+d=y+2*i->(ed s x y<=d↔x<=fr s N d i))/\fr s N d i<=N+d
 | 0,i,hi=>by
  obtain rfl:i=0:=by omega
  have:=G3 (d:=0) (e:=0) (y0:=0) (i:=0) hN rfl (by rw[BW];exact Nat.le_refl _) fun X Y _ h hs=>by rw[DB hs];omega
  exact⟨this.1,by have:=this.2;unfold fr;omega⟩
 | d+1,i,hi=>by
  have ih:=HH hN d
  have low:∀ i,i<=d->2*i<=fr s N d i+d:=fun i hi=>by
   rcases Nat.lt_or_ge (2*i) d with h | h
   ·omega
   ·have:=((ih i hi).1 (2*i-d) 0 (by omega)).1 (by rw[CD];omega)
    omega
  have he:edt (fr s N d) d i+(d+1)=(edt (fr s N d) d i+(d+1)-2*i)+2*i/\ed s (edt (fr s N d) d i) (edt (fr s N d) d i+(d+1)-2*i)<=d+1/\(0<i->fr s N d (i-1)+1<=edt (fr s N d) d i)/\(i<=d->fr s N d i<=edt (fr s N d) d i)/\edt (fr s N d) d i<=N+d+1:=by
   have A:0<i->2*i<=fr s N d (i-1)+1+(d+1)/\ed s (fr s N d (i-1)+1) (fr s N d (i-1)+1+(d+1)-2*i)<=d+1/\fr s N d (i-1)<=N+d:=fun h0=>by
    have l:=low (i-1) (by omega)
    have h1:=((ih (i-1) (by omega)).1 (fr s N d (i-1)) (fr s N d (i-1)+1+(d+1)-2*i) (by omega)).2 (Nat.le_refl _)
    have h2:=NM (s:=s) (fr s N d (i-1)) (fr s N d (i-1)+1+(d+1)-2*i)
    exact⟨by omega,by omega,(ih (i-1) (by omega)).2⟩
   have C:i<=d->2*i<=fr s N d i+(d+1)/\ed s (fr s N d i) (fr s N d i+(d+1)-2*i)<=d+1/\fr s N d i<=N+d:=fun h0=>by
    have l:=low i h0
    have h1:=((ih i h0).1 (fr s N d i) (fr s N d i+d-2*i) (by omega)).2 (Nat.le_refl _)
    have h2:=N1 (s:=s) (fr s N d i) (fr s N d i+d-2*i)
    rw[show fr s N d i+d-2*i+1=fr s N d i+(d+1)-2*i by omega]at h2
    exact⟨by omega,by omega,(ih i h0).2⟩
   unfold edt
   by_cases h0:i=0
   ·subst h0
    have:=C (by omega)
    rw[if_pos rfl]
    exact⟨by omega,this.2.1,fun h=>by omega,fun _=>Nat.le_refl _,by omega⟩
   ·rw[if_neg h0]
    by_cases h1:i=d+1
    ·subst h1
     have:=A (by omega)
     rw[if_pos rfl]
     simp only[Nat.add_sub_cancel]at this ⊢
     exact⟨by omega,this.2.1,fun _=>Nat.le_refl _,fun h=>by omega,by omega⟩
    ·rw[if_neg h1]
     have a:=A (by omega)
     have c:=C (by omega)
     rcases Nat.le_total (fr s N d (i-1)+1) (fr s N d i)with h | h
     ·rw[Nat.max_eq_right h]
      exact⟨by omega,c.2.1,fun _=>h,fun _=>Nat.le_refl _,by omega⟩
     ·rw[Nat.max_eq_left h]
      exact⟨by omega,a.2.1,fun _=>Nat.le_refl _,fun _=>h,by omega⟩
  show(∀ x y,x+(d+1)=y+2*i->(ed s x y<=d+1↔x<=alk s N (edt (fr s N d) d i) (edt (fr s N d) d i+(d+1)-2*i)))/\alk s N (edt (fr s N d) d i) (edt (fr s N d) d i+(d+1)-2*i)<=N+(d+1)
  generalize edt (fr s N d) d i=e at he ⊢
  obtain⟨h1,h2,h3,h4,h5⟩:=he
  have:=G3 (d:=d+1) (e:=e) (y0:=e+(d+1)-2*i) (i:=i) hN h1 h2 fun X Y hX hXY hs=>by
   rw[DB hs]
   have b1:d<ed s X (Y+1):=by
    rcases Nat.eq_zero_or_pos i with h | h
    ·have:=N5 (s:=s) X (Y+1)
     omega
    ·have:=(ih (i-1) (by omega)).1 X (Y+1) (by omega)
     have:=h3 h
     omega
   have b2:d<ed s (X+1) Y:=by
    rcases Nat.lt_or_ge d i with h | h
    ·have:=N5 (s:=s) (X+1) Y
     omega
    ·have:=(ih i h).1 (X+1) Y (by omega)
     have:=h4 h
     omega
   omega
  exact⟨this.1,by have:=this.2;omega⟩
def wth(s:Nat->Nat->Bool)(d x y:Nat):Bool:=decide (ed s x y<=d/\(x+y+d) % 2=0)
theorem NH{s:Nat->Nat->Bool}{N:Nat}(hN:∀ x y,N<=x->s x y=false)(d x y:Nat):
  wth s d x y=decide (y<=x+d/\x+d-y<=2*d/\(x+d-y) % 2=0/\x<=fr s N d ((x+d-y) / 2)):=by
 unfold wth
 refine decide_eq_decide.2 ⟨fun⟨h1,h2⟩=>?_,fun⟨h1,h2,h3,h4⟩=>?_⟩
 ·have:=N5 (s:=s) x y
  refine⟨by omega,by omega,by omega,?_⟩
  exact((HH hN d ((x+d-y) / 2) (by omega)).1 x y (by omega)).1 h1
 ·exact⟨((HH hN d ((x+d-y) / 2) (by omega)).1 x y (by omega)).2 h4,by omega⟩
def st(s:Nat->Nat->Bool):Nat->Nat->List Int
 | 0,0=>[]
 | m+1,0=>2::st s m 0
 | 0,n+1=>3::st s 0 n
 | m+1,n+1=>if s m n then 1::st s m n else if ed s m (n+1)<=ed s (m+1) n then 2::st s m (n+1)else 3::st s (m+1) n
termination_by m n=>m+n
section
variable{s:Nat->Nat->Bool}
theorem st_00:st s 0 0=[]:=by rw[st]
theorem IX(m:Nat):st s (m+1) 0=2::st s m 0:=by rw[st]
theorem st_0n(n:Nat):st s 0 (n+1)=3::st s 0 n:=by rw[st]
theorem FB(m n:Nat):st s (m+1) (n+1)=if s m n then 1::st s m n else if ed s m (n+1)<=ed s (m+1) n then 2::st s m (n+1)else 3::st s (m+1) n:=by rw[st]
def nE(l:List Int):Nat:=l.countP fun k=>k≠1
def nK(l:List Int):Nat:=l.countP fun k=>k=1
theorem E5(k:Int)(l:List Int):nE (k::l)=nE l+if k=1 then 0 else 1:=by
 unfold nE
 rw[List.countP_cons]
 by_cases h:k=1<;>simp[h]
theorem EE(k:Int)(l:List Int):nK (k::l)=nK l+if k=1 then 1 else 0:=by
 unfold nK
 rw[List.countP_cons]
 by_cases h:k=1<;>simp[h]
theorem GC:∀ (k m n:Nat),m+n<=k->nE (st s m n)=ed s m n/\ed s m n+2*nK (st s m n)=m+n/\(st s m n).length<=m+n /\ ∀ z∈st s m n,z=1\/z=2\/z=3
 | 0,m,n,h=>by
  obtain rfl:m=0:=by omega
  obtain rfl:n=0:=by omega
  rw[st_00,BW]
  exact⟨rfl,rfl,Nat.le_refl _,fun z hz=>by cases hz⟩
 | k+1,m,n,h=>by
  cases m with
  | zero=>
   cases n with
   | zero=>
    rw[st_00,BW]
    exact⟨rfl,rfl,Nat.le_refl _,fun z hz=>by cases hz⟩
   | succ n=>
    obtain⟨a1,a2,a3,a4⟩:=GC k 0 n (by omega)
    rw[st_0n,E5,EE,BW]
    rw[BW]at a1 a2
    simp only[show ¬ (3:Int)=1 by decide,if_false,List.length_cons,List.forall_mem_cons]
    exact⟨by omega,by omega,by omega,by simp,a4⟩
  | succ m=>
   cases n with
   | zero=>
    obtain⟨a1,a2,a3,a4⟩:=GC k m 0 (by omega)
    rw[IX,E5,EE,CD]
    rw[CD]at a1 a2
    simp only[show ¬ (2:Int)=1 by decide,if_false,List.length_cons,List.forall_mem_cons]
    exact⟨by omega,by omega,by omega,by simp,a4⟩
   | succ n=>
    rw[FB]
    cases hs:s m n with
    | true=>
     obtain⟨a1,a2,a3,a4⟩:=GC k m n (by omega)
     rw[if_pos rfl,E5,EE,FS hs]
     simp only[if_true,List.length_cons,List.forall_mem_cons]
     exact⟨by omega,by omega,by omega,by simp,a4⟩
    | false=>
     have h1:=NM (s:=s) m n
     have h2:=N1 (s:=s) m n
     rw[if_neg (by simp)]
     by_cases hc:ed s m (n+1)<=ed s (m+1) n
     ·obtain⟨a1,a2,a3,a4⟩:=GC k m (n+1) (by omega)
      rw[if_pos hc,E5,EE,DB hs,Nat.min_eq_left hc]
      simp only[show ¬ (2:Int)=1 by decide,if_false,List.length_cons,List.forall_mem_cons]
      exact⟨by omega,by omega,by omega,by simp,a4⟩
     ·obtain⟨a1,a2,a3,a4⟩:=GC k (m+1) n (by omega)
      rw[if_neg hc,E5,EE,DB hs,Nat.min_eq_right (by omega)]
      simp only[show ¬ (3:Int)=1 by decide,if_false,List.length_cons,List.forall_mem_cons]
      exact⟨by omega,by omega,by omega,by simp,a4⟩
theorem M3{m n:Nat}(hs:∀ n',n=n'+1->s m n'=false):wth s (ed s (m+1) n-1) m n=true->st s (m+1) n=2::st s m n/\ed s m n=ed s (m+1) n-1/\1<=ed s (m+1) n:=by
 intro h
 have h':=(of_decide_eq_true h).1
 cases n with
 | zero=>
  rw[IX,CD,CD]
  exact⟨rfl,by omega,by omega⟩
 | succ n=>
  have h0:=hs n rfl
  rw[DB h0]at h' ⊢
  rw[FB,if_neg (by simp[h0])]
  by_cases hc:ed s m (n+1)<=ed s (m+1) n
  ·rw[if_pos hc,Nat.min_eq_left hc]
   exact⟨rfl,by omega,by omega⟩
  ·omega
theorem MX{m n:Nat}(hm:m≠0\/n≠0)(hs:∀ m' n',m=m'+1->n=n'+1->s m' n'=false)(h:∀ m',m=m'+1->wth s (ed s m n-1) m' n=false):∃ n',n=n'+1/\st s m n=3::st s m n'/\ed s m n'=ed s m n-1/\1<=ed s m n:=by
 cases n with
 | zero=>
  cases m with
  | zero=>omega
  | succ m=>
   have:=of_decide_eq_false (h m rfl)
   rw[CD,CD]at this
   omega
 | succ n=>
  refine⟨n,rfl,?_⟩
  cases m with
  | zero=>
   rw[st_0n,BW,BW]
   exact⟨rfl,by omega,by omega⟩
  | succ m=>
   have h0:=hs m n rfl rfl
   have h1:=of_decide_eq_false (h m rfl)
   have p1:=GY (s:=s) m (n+1)
   have p2:=GY (s:=s) (m+1) (n+1)
   rw[DB h0]at h1 p2 ⊢
   rw[FB,if_neg (by simp[h0])]
   by_cases hc:ed s m (n+1)<=ed s (m+1) n
   ·rw[Nat.min_eq_left hc]at h1 p2
    omega
   ·rw[if_neg hc,Nat.min_eq_right (by omega)]
    exact⟨rfl,by omega,by omega⟩
end
def fe(l:List Int)(x:Nat):Int:=l.getD (l.length-1-x) 0
theorem LO(p:Int)(l:List Int)(x:Nat)(hx:x<l.length):fe (p::l) x=fe l x:=by
 unfold fe
 have:(p::l).length-1-x=(l.length-1-x)+1:=by simp only[List.length_cons];omega
 rw[this]
 rfl
theorem MO{l:List Int}{i:Nat}{p:Int}(h:l[i]?=some p):fe l (l.length-1-i)=p:=by
 have hi:i<l.length:=(List.getElem?_eq_some_iff.1 h).1
 unfold fe
 rw[show l.length-1-(l.length-1-i)=i by omega,List.getD_eq_getElem?_getD,h]
 rfl
def sm(a b:List Int)(x y:Nat):Bool:=decide (x<a.length)&&decide (y<b.length)&&decide (fe a x=fe b y)
theorem MR(a b:List Int)(x y:Nat)(hx:x<a.length)(hy:y<b.length):sm a b x y=decide (fe a x=fe b y):=by
 unfold sm
 rw[decide_eq_true hx,decide_eq_true hy]
 rfl
theorem FO(a b:List Int)(x y:Nat)(h:a.length<=x):sm a b x y=false:=by
 unfold sm
 rw[decide_eq_false (show ¬ x<a.length by omega)]
 rfl
theorem LQ(a b:List Int)(x y:Nat)(h:b.length<=y):sm a b x y=false:=by
 unfold sm
 rw[decide_eq_false (show ¬ y<b.length by omega),Bool.and_false]
 rfl
theorem IC(a b:List Int)(x y:Nat):sm a b x y=sm b a y x:=by
 unfold sm
 rw[Bool.and_comm (decide (x<a.length)),decide_eq_decide.2 (eq_comm (a:=fe a x))]
theorem G8{a b:List Int}{i j:Nat}{p q:Int}(hp:a[i]?=some p)(hq:b[j]?=some q):sm a b (a.length-1-i) (b.length-1-j)=decide (p=q):=by
 have hi:i<a.length:=(List.getElem?_eq_some_iff.1 hp).1
 have hj:j<b.length:=(List.getElem?_eq_some_iff.1 hq).1
 rw[MR a b _ _ (by omega) (by omega),MO hp,MO hq]
theorem E4(p:Int)(a b:List Int)(x y:Nat)(hx:x<a.length):sm (p::a) b x y=sm a b x y:=by
 unfold sm
 rw[decide_eq_true hx,decide_eq_true (show x<(p::a).length by simp only[List.length_cons];omega),LO p a x hx]
theorem FT(q:Int)(a b:List Int)(x y:Nat)(hy:y<b.length):sm a (q::b) x y=sm a b x y:=by
 rw[IC,E4 q b a y x hy,IC]
theorem J7(p q:Int)(a b:List Int)(x y:Nat)(hx:x<a.length)(hy:y<b.length):sm (p::a) (q::b) x y=sm a b x y:=by
 rw[E4 p a (q::b) x y hx,FT q a b x y hy]
end
end Go.Proofs.Ytjpghcmlglhmbaa
