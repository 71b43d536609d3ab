/- Part 10. Conditions: as each theorem says. -/
import Derived.Test.YtojdpgeeajaojaaES09
import Derived.Test.YtojdpgeeajaojaaProg
set_option maxRecDepth 100000
namespace Go.Proofs.Ytojdpgeeajaojaa
open Go.RowKit
section
section
variable{P:Program}{cx:Cx}{T:TL}{B:BL}{R:RL}{M:Nat->Nat}{V:Nat->Value}{o:Oper}{ops:Array Oper}{Q:Exit->Act->World->Prop}{l:List Oper}
def PinV(V:Nat->Value):List (Nat×Value)->Prop
 | []=>True
 | x::l=>V x.1=x.2/\PinV V l
def PinL(T:TL):List (Nat×Value)->Prop
 | []=>True
 | x::l=>lk (9000+x.1) T=some (Q8 x.1 x.2)/\PinL T l
theorem PinL.v{a:Act}{w:World}(hr:Rel cx T B R M V a w):∀ {p:List (Nat×Value)},PinL T p->PinV V p
 | [],_=>trivial
 | _::_,h=>⟨hr.tmp _ _ h.1,PinL.v hr h.2⟩
theorem PinV.of{V V':Nat->Value}:∀ {p:List (Nat×Value)},(∀ x∈p,V x.1=V' x.1)->PinV V p->PinV V' p
 | [],_,_=>trivial
 | x::p,h,hp=>⟨(h x List.mem_cons_self).symm.trans hp.1,PinV.of (fun y hy=>h y (List.mem_cons_of_mem _ hy)) hp.2⟩
def PV(cx:Cx)(Y:IV->BL->RL->List (Nat×Value)->Prop)(e:Ending)(w':World):Prop:=∃ v y B1 R1 p1 M1 V1,e=.returned v/\Y y B1 R1 p1/\HR cx B1 R1 M1 V1 w'/\VR w' (Dc cx B1 R1 M1 V1 w') M1 V1 y v/\PinV V1 p1
def EGp(P:Program)(gls:List (Nat×List Value))(f:FuncId)(xs:List IV)(B:BL)(R:RL)(p:List (Nat×Value))(Pre:(Nat->Nat)->Prop)(Y:IV->BL->RL->List (Nat×Value)->Prop):Prop:=
 ∀ (w:World) (D:Nat->Prop) (M:Nat->Nat) (V:Nat->Value) (vs:List Value) (n:Nat),HR (lcx w D n gls B R M V) B R M V w->VRs w (Dc (lcx w D n gls B R M V) B R M V w) M V xs vs->Pre M->PinV V p->Calls P f vs.toArray w (PV (lcx w D n gls B R M V) Y)
def Q3(T:TL)(xs:List Operand)(ys:List IV):Prop:=∀ (w:World) (D:Nat->Prop) (M:Nat->Nat) (V:Nat->Value) (a:Act),(∀ t z,lk t T=some z->VR w D M V z (a.tmps.getD t undef))->VRs w D M V ys (xs.map a.eval)
theorem KnX.all{xs:List Operand}{ys:List IV}(h:KnX T xs ys):Q3 T xs ys:=fun _ _ _ _ _ hT=>h.vrs hT
theorem Imp.ref_pref(ds:List Dat):Imp (.ref ds) (.part (.one (.pref ds))):=fun w D M V v h=>by
 obtain⟨b,o,rfl,hb,xs,hf,hc⟩:=h
 refine .pref b o ds (fun j=>xs.getD j undef) hb (fun j hj=>?_) (fun j d hd=>?_)
 ·have hx:xs[j]?=some (xs.getD j undef):=by
   rw[List.getD_eq_getElem?_getD,List.getElem?_eq_getElem (by rw[<- hf.1];exact hj)]
   rfl
  exact hc j _ hx
 ·have hj:j<xs.length:=by
   rw[<- hf.1]
   rcases Nat.lt_or_ge j ds.length with h | h
   ·exact h
   ·rw[List.getElem?_eq_none h]at hd;cases hd
  have hx:xs[j]?=some (xs.getD j undef):=by
   rw[List.getD_eq_getElem?_getD,List.getElem?_eq_getElem hj]
   rfl
  exact hf.2 j d _ hd hx
theorem Imp.pref_ref(ds:List Dat):Imp (.part (.one (.pref ds))) (.ref ds):=fun w D M V v h=>by
 have h':Lies w D (.pref ds) v:=h
 cases h' with
 | pref b o ds X hb hc hX=>
  refine⟨b,o,rfl,hb,(List.range ds.length).map X,⟨by simp,fun j d x hd hx=>?_⟩,fun j x hx=>?_⟩
  ·rw[List.getElem?_map,Option.map_eq_some_iff]at hx
   obtain⟨i,hi,rfl⟩:=hx
   have hj:j<ds.length:=by
    rcases Nat.lt_or_ge j ds.length with h | h
    ·exact h
    ·rw[List.getElem?_eq_none h]at hd;cases hd
   rw[List.getElem?_range hj]at hi
   obtain rfl:j=i:=by simpa using hi
   exact hX j d hd
  ·rw[List.getElem?_map,Option.map_eq_some_iff]at hx
   obtain⟨i,hi,rfl⟩:=hx
   have hj:j<ds.length:=by
    rcases Nat.lt_or_ge j ds.length with h | h
    ·exact h
    ·rw[List.getElem?_eq_none (by simpa using h)]at hi;cases hi
   rw[List.getElem?_range hj]at hi
   obtain rfl:j=i:=by simpa using hi
   exact hc j hj
end
end
section
section
variable{P:Program}{ops:Array Oper}{C:World->Prop}{R:World->World->Prop}
end
section
variable{P:Program}{cx:Cx}{T T':TL}{B:BL}{R:RL}
theorem Walk.len{ops:Array Oper}{l:List Oper}{ys:List IV}(h:Walk P cx B R ops l T ys T'):ys.length=l.length:=by
 induction h with
 | nil=>rfl
 | op _ _ _ _ _ ih=>simp[ih]
 | gd _ _ _ _ _ _ ih=>simp[ih]
def Dat.plain:Dat->Bool
 | .cell _=>true
 | _=>false
def IV.free:IV->Bool
 | .part (.one d)=>d.plain
 | .part (.many ds)=>ds.all Dat.plain
 | .opt _ x=>x.free
 | .junk=>true
 | _=>false
theorem I1{d:Dat}(h:d.plain=true){w w':World}{D D':Nat->Prop}{v:Value}(hv:Lies w D d v):Lies w' D' d v:=by
 cases d with
 | cell c=>obtain rfl:=hv.cell_eq;exact .cell _
 | _=>cases h
theorem MC:∀ {x:IV} (_:x.free=true) {w w':World} {D D':Nat->Prop} {M M':Nat->Nat} {V V':Nat->Value} {v:Value},VR w D M V x v->VR w' D' M' V' x v
 | .part (.one _),h,_,_,_,_,_,_,_,_,_,hv=>I1 h hv
 | .part (.many ds),h,w,w',D,D',M,M',V,V',v,hv=>by
  obtain⟨xs,h1,h2⟩:=hv
  refine⟨xs,h1,h2.1,fun j d u hd hu=>I1 (List.all_eq_true.1 h d (List.mem_of_getElem? hd)) (h2.2 j d u hd hu)⟩
 | .opt _ x,h,_,_,_,_,_,_,_,_,_,hv=>⟨fun e=>MC (show x.free=true from h) (hv.1 e),hv.2⟩
 | .junk,_,_,_,_,_,_,_,_,_,_,_=>trivial
def SubN(T T':TL)(l:List Oper):TL->Prop
 | []=>True
 | x::m=>((lk x.1 T'=some x.2/\x.2.free=true)\/(lk x.1 T=some x.2/\l.all (fun o=>match o.dst with | some d => !Nat.beq d x.1 | none=>true)=true))/\SubN T T' l m
theorem SubN.get{l:List Oper}:∀ {T0:TL},SubN T T' l T0 -> ∀ {t x},lk t T0=some x->(lk t T'=some x/\x.free=true)\/(lk t T=some x /\ ∀ o∈l,o.dst≠some t)
 | [],_,_,_,h=>by cases h
 | y::m,hs,t,x,h=>by
  rcases AX (show lk t ((y.1,y.2)::m)=some x from h)with⟨rfl,rfl⟩ | ⟨_,h⟩
  ·rcases hs.1 with h1 | ⟨h1,h2⟩
   ·exact .inl h1
   ·refine .inr ⟨h1,fun o ho e=>?_⟩
    have h3:=List.all_eq_true.1 h2 o ho
    rw[e]at h3
    simp at h3
  ·exact hs.2.get h
end
end
section
section
variable{P:Program}{cx:Cx}{T:TL}{B:BL}{R:RL}
theorem Far.cells(vs:List Value):Far (.tup (vs.map fun v=>.one (.cell v))) (.tup (vs.map fun v=>.one (.cell v))):=fun w D M V w' D' M' V' v h=>by
 obtain⟨us,h1,h2⟩:=h
 obtain rfl:=GK h2
 exact⟨_,h1,HW _ _ _⟩
theorem Far.free{y:IV}(h:y.free=true):Far y y:=fun _ _ _ _ _ _ _ _ _ hv=>MC h hv
theorem EG.p{gls:List (Nat×List Value)}{f:FuncId}{xs:List IV}{Y:IV->BL->RL->Prop}{Pre:(Nat->Nat)->Prop}(h:EG P gls f xs B R Y):EGp P gls f xs B R [] Pre (fun y B1 R1 p1=>Y y B1 R1/\p1=[]):=fun w D M V vs n hh hv _ _=>
 (h w D M V vs n hh hv).mono fun e w' ⟨v,y,B1,R1,M1,V1,a1,a2,a3,a4⟩=>⟨v,y,B1,R1,[],M1,V1,a1,⟨a2,rfl⟩,a3,a4,trivial⟩
end
end
section
section
variable{P:Program}{cx:Cx}{T:TL}{B:BL}{R:RL}{o:Oper}
theorem Upon.imp{M:Nat->Nat}{V:Nat->Value}{w:World}{y y':IV}(hi:∀ (w:World) (D:Nat->Prop) (v:Value),VR w D M V y v->VR w D M V y' v){r:Result Next}(h:Upon P cx B R M V w y r):Upon P cx B R M V w y' r:=by
 cases r with
 | halt x w'=>exact h
 | ok n w'=>
  cases n with
  | value v=>exact⟨h.1,hi _ _ _ h.2⟩
  | skip=>exact⟨h.1,hi _ _ _ h.2⟩
  | enter f args=>exact⟨h.1,h.2.mono fun e w'' ⟨v,h1,h2,h3⟩=>⟨v,h1,h2,hi _ _ _ h3⟩⟩
  | _=>exact h
theorem LStep.pin{t r:Nat}{x y y':IV}{p:Value->Value->Prop}{v0:Value}(hm:.tmp t∈o.op.operands)(hx:lk t T=some (.via r fun a u=>p a u/\a=v0))(hxi:∀ (w:World) (D:Nat->Prop) (M:Nat->Nat) (V:Nat->Value) (u:Value),p (V r) u->VR w D M V x u)(h:LStep P cx B R o ((t,x)::T) y)
  (hy:∀ (w:World) (D:Nat->Prop) (M:Nat->Nat) (V:Nat->Value) (u:Value),V r=v0->VR w D M V y u->VR w D M V y' u):LStep P cx B R o T y':=fun M V w a hh ht=>by
 have h1:p (V r) (a.tmps.getD t undef)/\V r=v0:=ht t _ hm hx
 exact(h M V w a hh fun s z hs hz=>by
  rcases AX hz with⟨rfl,rfl⟩ | ⟨_,hz⟩
  ·exact hxi _ _ _ _ _ h1.1
  ·exact ht s z hs hz).imp fun w D v hv=>hy w D M V v h1.2 hv
theorem EGp.any{gls:List (Nat×List Value)}{f:FuncId}{xs:List IV}{p:List (Nat×Value)}{b:Nat}{Y:Nat->IV->BL->RL->List (Nat×Value)->Prop}(h:∀ g,EGp P gls f xs B R p (fun M=>M b=g) (Y g)):EGp P gls f xs B R p (fun _=>True) (fun y B1 R1 p1=>∃ g,Y g y B1 R1 p1):=fun w D M V vs n hh hv _ hp=>
 (h (M b) w D M V vs n hh hv rfl hp).mono fun e w' ⟨v,y,B1,R1,p1,M1,V1,a1,a2,a3,a4,a5⟩=>⟨v,y,B1,R1,p1,M1,V1,a1,⟨_,a2⟩,a3,a4,a5⟩
end
end
section
section
variable{P:Program}{cx:Cx}{T0:TL}{B0:BL}{R0:RL}{ops:Array Oper}{Q:Exit->Act->World->Prop}{deps:List (List Nat)}{es:List (Nat×Nat×IV)}{bs:List (Nat×Nat×Bx)}{rs:List (Nat×Nat×Rw)}
def AllStepsS(P:Program)(cx:Cx)(T0:TL)(B0:BL)(R0:RL)(ops:Array Oper)(Q:Exit->Act->World->Prop)(es:List (Nat×Nat×IV))(bs:List (Nat×Nat×Bx))(rs:List (Nat×Nat×Rw)):List (List Bool×Nat)->Prop
 | []=>True
 | (L,i)::r=>(∀ K,E cx (BS (L.set i true) [] es++T0) (BS (L.set i true) [] bs++B0) (BS (L.set i true) [] rs++R0) K->E cx (BS L [] es++T0) (BS L [] bs++B0) (BS L [] rs++R0) (wpOp P ops Q i K))/\AllStepsS P cx T0 B0 R0 ops Q es bs rs r
theorem AllStepsS.get:∀ {st:List (List Bool×Nat)} (_:AllStepsS P cx T0 B0 R0 ops Q es bs rs st) {L:List Bool} {i:Nat},(L,i)∈st -> ∀ K,E cx (BS (L.set i true) [] es++T0) (BS (L.set i true) [] bs++B0) (BS (L.set i true) [] rs++R0) K->E cx (BS L [] es++T0) (BS L [] bs++B0) (BS L [] rs++R0) (wpOp P ops Q i K)
 | (L',j)::r,h,L,i,hm=>by
  rcases List.mem_cons.1 hm with e | hm
  ·injection e with e1 e2
   subst e1 e2
   exact h.1
  ·exact AllStepsS.get h.2 hm
 | [],_,_,_,hm=>by cases hm
end
end
section
variable{P:Program}{cx:Cx}{T T':TL}{B:BL}{R:RL}{o:Oper}{M:Nat->Nat}{V:Nat->Value}{Φ:(Nat->Value)->Prop}
def LStepV(Φ:(Nat->Value)->Prop)(P:Program)(cx:Cx)(B:BL)(R:RL)(o:Oper)(T:TL)(y:IV):Prop:=
 ∀ (M:Nat->Nat) (V:Nat->Value) (w:World) (a:Act),Φ V->HR cx B R M V w->(∀ t z,.tmp t∈o.op.operands->lk t T=some z->VR w (Dc cx B R M V w) M V z (a.tmps.getD t undef))->Upon P cx B R M V w y ((execOp a.eval o).run P w)
theorem LStepV.of{y:IV}(h:LStep P cx B R o T y):LStepV Φ P cx B R o T y:=fun M V w a _=>h M V w a
inductive WalkV (Φ:(Nat->Value)->Prop) (P:Program) (cx:Cx) (B:BL) (R:RL) (ops:Array Oper):List Oper->TL->List IV->TL->Prop
 | nil {T:TL}:WalkV Φ P cx B R ops [] T [] T
 | op {o:Oper} {d:Nat} {l:List Oper} {T T':TL} {y:IV} {ys:List IV}:o.guard=none->o.dst=some d->Nat.blt d cx.n=true->LStepV Φ P cx B R o T y->WalkV Φ P cx B R ops l ((d,y)::T) ys T'->WalkV Φ P cx B R ops (o::l) T (y::ys) T'
 | gd (g:Bool) {o:Oper} {d:Nat} {l:List Oper} {T T':TL} {y:IV} {ys:List IV}:gk ops T o=some g->o.dst=some d->Nat.blt d cx.n=true->(g=true->LStepV Φ P cx B R o T y)->WalkV Φ P cx B R ops l ((d,.opt g y)::T) ys T'->WalkV Φ P cx B R ops (o::l) T (.opt g y::ys) T'
theorem FP{C:World->Prop}{ops:Array Oper}{y:IV}{G:List BI}{a:Act}(hΦ:Φ V)(hC:∀ w,C w->HR cx B R M V w)(hG:Gt cx B R M V C T G a)(h:LStepV Φ P cx B R o T y){w:World}(hc:C w)(hS:Seen ops o G w):
  C4 P Rb o a (BT cx B R M V y) w:=by
 have h1:=h M V w a hΦ (hC w hc) fun t z hm hz=>by
  rcases hG t z hz with h | ⟨_,F,h2,h3⟩
  ·exact h w hc
  ·exact h3 w (hS _ h2 t rfl (DA hm))
 have key:∀ {v:Value} {w':World},HR cx B R M V w'->VR w' (Dc cx B R M V w') M V y v->(BT cx B R M V y).ok v/\(BT cx B R M V y).pred v w':=fun{v w'} hh hv=>by
  unfold BT
  cases hw:y.whole with
  | some u=>exact⟨Kind.ok_is.2 (CJ hw hv),trivial⟩
  | none=>exact⟨fun c h=>(by cases h),w',hh,Below.refl _ _,hv⟩
 unfold C4
 generalize(execOp a.eval o).run P w=r at *
 cases r with
 | halt x w'=>exact h1.elim
 | ok n w'=>
  cases n<;>simp only[Upon]at h1<;>simp only[CW]
  case value u=>exact⟨h1.1,key ((hC w hc).step h1.1) h1.2⟩
  case skip=>exact⟨h1.1,key ((hC w hc).step h1.1) h1.2⟩
  case enter f args=>
   obtain⟨rfl,h1⟩:=h1
   exact h1.mono fun e w'' ⟨v,he,h2,h3⟩=>⟨v,he,h2,key ((hC _ hc).step h2) h3⟩
theorem WalkV.wpT{C:World->Prop}{ops:Array Oper}{Q:List BI->Act->Prop}(hΦ:Φ V)(hC:∀ w,C w->HR cx B R M V w)(hc:∃ w,C w){l:List Oper}{ys:List IV}(hW:WalkV Φ P cx B R ops l T ys T'):
  ∀ {G:List BI} {a:Act},a.tmps.size=cx.n->a.defers=[]->Gt cx B R M V C T G a->(∀ G' a',a'.tmps.size=cx.n->a'.defers=[]->Gt cx B R M V C T' G' a'->Q G' a')->wpT P ops Rb C Q l (ys.map (BT cx B R M V)) G a:=by
 induction hW with
 | nil=>exact fun hn hd hG hQ=>hQ _ _ hn hd hG
 | op hg hd hn hs _ ih=>
  intro G a hsz hdf hG hQ
  refine⟨?_,fun v hv=>?_⟩
  ·unfold AskT
   rw[if_pos (by simp[Region.wanted,hg])]
   exact fun w hc hS=>FP hΦ hC hG hs hc hS
  ·rw[hd]
   exact ih (by simpa[Act.put]using hsz) hdf (hG.put (by rw[hsz];exact C9 hn) hv) hQ
 | gd g hg hd hn hs _ ih=>
  intro G a hsz hdf hG hQ
  obtain⟨w0,hw0⟩:=hc
  have hw:=EJ hg fun t z v _ hz hv=>by
   rcases hG t z hz with h | ⟨h1,_⟩
   ·exact CJ hv (h w0 hw0)
   ·rw[h1]at hv;cases hv
  refine⟨?_,fun v hv=>?_⟩
  ·unfold AskT
   rw[hw]
   cases g with
   | true=>
    rw[if_pos rfl]
    refine fun w hc hS=>FP (Φ:=Φ) hΦ hC hG (fun M V w a hp hh ht=>?_) hc hS
    have h1:=hs rfl M V w a hp hh ht
    revert h1
    generalize(execOp a.eval _).run P w=r
    intro h1
    cases r with
    | halt x w'=>exact h1
    | ok n w'=>
     cases n<;>simp only[Upon]at h1 ⊢
     case value u=>exact⟨h1.1,fun _=>h1.2,fun h=>(by cases h)⟩
     case skip=>exact⟨h1.1,fun _=>h1.2,fun h=>(by cases h)⟩
     case enter f args=>exact⟨h1.1,h1.2.mono fun e w'' ⟨v,he,h3,h4⟩=>⟨v,he,h3,fun _=>h4,fun h=>(by cases h)⟩⟩
   | false=>
    rw[if_neg (by simp)]
    unfold BT
    rw[G5]
    exact⟨Kind.ok_is.2 rfl,fun _=>trivial⟩
  ·rw[hd]
   exact ih (by simpa[Act.put]using hsz) hdf (hG.put (by rw[hsz];exact C9 hn) hv) hQ
end
section
variable{P:Program}{cx:Cx}{T:TL}{B:BL}{R:RL}{o:Oper}
theorem AQ{x:Operand}{t:TypeId}{ds:List Dat}(es:List Dat)(k:Nat)(ho:o.op=.load t x)(hx:Kn T x (.ref ds))(ht:aggT P t=true)(hn:sizeT P t=some k)(he:ds.take k=es)(hl:es.length=k):LStep P cx B R o T (.part (.many es)):=by
 have h1:k<=ds.length:=by
  rw[<- he,List.length_take]at hl
  omega
 have h:=L8 (B:=B) (R:=R) (cx:=cx) (o:=o) k ho hx ht hn h1
 rwa [he]at h
end
theorem VSm.le{n:Nat}{v:Vl}(h:VSm n v)(hn:n<=80):vnodes v<=1000000:=by have:=h.nodes;omega
theorem H9{α:Type}{l:List α}{k:Nat}{p:α}(h:l[((k:Int)-1).toNat]?=some p):CP l k=if k=0 then none else some p:=by
 unfold CP
 split
 ·rfl
 ·rw[<- h];congr 1;omega
theorem LH{e:Ed}(h:e.kind<0\/4<e.kind):BK e=false:=by
 rw[DD,if_neg (by omega),if_neg (by omega),if_neg (by omega),if_neg (by omega),if_neg (by omega),Bool.and_false]
section
inductive WalkU (P:Program) (cx:Cx) (B:BL) (R:RL) (n b:Nat):Nat->List Oper->TL->List IV->Prop
 | nil {i:Nat} {T:TL}:WalkU P cx B R n b i [] T []
 | op {i:Nat} {o:Oper} {d:Nat} {l:List Oper} {T:TL} {y:IV} {ys:List IV}:o.dst=some d->Nat.blt d cx.n=true->LStep P cx B R o T y->WalkU P cx B R n b (i+1) l ((d,y)::T) ys->WalkU P cx B R n b i (o::l) T (y::ys)
 | new {i:Nat} {o:Oper} {d:Nat} {l:List Oper} {T:TL} {ys:List IV}:i=n->o.dst=some d->WalkU P cx B R n b (i+1) l ((d,.box b 0)::T) ys->WalkU P cx B R n b i (o::l) T (.box b 0::ys)
section
variable{P:Program}{cx:Cx}{T:TL}{B:BL}{R:RL}{n b:Nat}
theorem WalkU.len{i:Nat}{l:List Oper}{ys:List IV}(h:WalkU P cx B R n b i l T ys):ys.length=l.length:=by
 induction h with
 | nil=>rfl
 | op _ _ _ _ ih=>simp[ih]
 | new _ _ _ ih=>simp[ih]
theorem WalkU.get{i:Nat}{l:List Oper}{ys:List IV}(h:WalkU P cx B R n b i l T ys):∀ (j:Nat) (o:Oper) (y:IV),l[j]?=some o->ys[j]?=some y->(i+j=n/\y=.box b 0)\/(∃ d Tj,o.dst=some d/\Nat.blt d cx.n=true/\LStep P cx B R o Tj y /\ ∀ t z,lk t Tj=some z->(∃ k ok,k<j/\l[k]?=some ok/\ok.dst=some t/\ys[k]?=some z)\/lk t T=some z):=by
 induction h with
 | nil=>intro j o y h;simp at h
 | @op i o d l T y ys h1 h2 h3 _ ih=>
  intro j o' y' ho hy
  cases j with
  | zero=>
   obtain rfl:o=o':=by simpa using ho
   obtain rfl:y=y':=by simpa using hy
   exact .inr ⟨d,T,h1,h2,h3,fun t z hz=>.inr hz⟩
  | succ j=>
   rcases ih j o' y' (by simpa using ho) (by simpa using hy)with⟨e,hy⟩ | ⟨d',Tj,e1,e2,e3,e4⟩
   ·exact .inl ⟨by omega,hy⟩
   ·refine .inr ⟨d',Tj,e1,e2,e3,fun t z hz=>?_⟩
    rcases e4 t z hz with⟨k,ok,hk,a1,a2,a3⟩ | hz
    ·exact .inl ⟨k+1,ok,by omega,by simpa using a1,a2,by simpa using a3⟩
    ·rcases AX hz with⟨rfl,rfl⟩ | ⟨_,hz⟩
     ·exact .inl ⟨0,o,by omega,rfl,h1,rfl⟩
     ·exact .inr hz
 | @new i o d l T ys h0 h1 _ ih=>
  intro j o' y' ho hy
  cases j with
  | zero=>
   obtain rfl:IV.box b 0=y':=by simpa using hy
   exact .inl ⟨h0,rfl⟩
  | succ j=>
   rcases ih j o' y' (by simpa using ho) (by simpa using hy)with⟨e,hy⟩ | ⟨d',Tj,e1,e2,e3,e4⟩
   ·exact .inl ⟨by omega,hy⟩
   ·refine .inr ⟨d',Tj,e1,e2,e3,fun t z hz=>?_⟩
    rcases e4 t z hz with⟨k,ok,hk,a1,a2,a3⟩ | hz
    ·exact .inl ⟨k+1,ok,by omega,by simpa using a1,a2,by simpa using a3⟩
    ·rcases AX hz with⟨rfl,rfl⟩ | ⟨_,hz⟩
     ·exact .inl ⟨0,o,by omega,rfl,h1,rfl⟩
     ·exact .inr hz
theorem LStep.more{o:Oper}{y:IV}{T':TL}(h:LStep P cx B R o T y)(hT:∀ t z,.tmp t∈o.op.operands->lk t T=some z->lk t T'=some z):LStep P cx B R o T' y:=fun M V w a hh hk=>h M V w a hh fun t z ht hz=>hk t z ht (hT t z ht hz)
end
end
structure Vl.Good (v:Vl):Prop where
 fine:v.Fine
 tx:v.Tx
 nodes:vnodes v<=1000
def JO(n:Nat):Vl:=.mk 1 n [] [] [] [] []
theorem MR(k:Int)(n:Nat)(h1 : -9223372036854775808<=k)(h2:k<9223372036854775808)(h3:n<18446744073709551616):(Vl.mk k n [] [] [] [] []).Fine:=
 .mk _ h1 h2 h3 (Nat.zero_le _) (Nat.zero_le _) (Nat.zero_le _) (Nat.zero_le _) (Nat.zero_le _) (fun _ h=>by cases h) (fun _ h=>by cases h) (fun _ h=>by cases h) (fun _ h=>by cases h) (fun _ h=>by cases h)
theorem IU(k:Int)(n:Nat)(h1 : -9223372036854775808<=k)(h2:k<9223372036854775808)(h3:n<18446744073709551616):(Vl.mk k n [] [] [] [] []).Good:=
 ⟨MR k n h1 h2 h3,.mk _ (Nat.zero_le _) (Nat.zero_le _) (fun _ h=>by cases h),by rw[BV];simp[Vl.list,Vl.fields,Vl.pairs,lnodes,fnodes,pnodes]⟩
end Go.Proofs.Ytojdpgeeajaojaa
