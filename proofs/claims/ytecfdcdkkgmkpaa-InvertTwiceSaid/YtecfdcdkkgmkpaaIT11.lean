/- Part 11. Conditions: as each theorem says. -/
import Derived.Test.YtecfdcdkkgmkpaaIT10
import Derived.Test.YtecfdcdkkgmkpaaProg
set_option maxRecDepth 100000
namespace Go.Proofs.Ytecfdcdkkgmkpaa
open Go.RowKit
section
section
variable{P:Program}{cx:Cx}{T:TL}{B:BL}{R:RL}{o:Oper}
theorem Upon.imp{M:Nat->Nat}{V:Nat->Value}{w:World}{y y':IV}(hi:∀ (w:World) (D:Nat->Prop) (v:Value),VR w D M V y v->VR w D M V y' v){r:Result Next}(h:Upon P cx B R M V w y r):Upon P cx B R M V w y' r:=by
 cases r with
 | halt x w'=>exact h
 | ok n w'=>
  cases n with
  | value v=>exact⟨h.1,hi _ _ _ h.2⟩
  | skip=>exact⟨h.1,hi _ _ _ h.2⟩
  | enter f args=>exact⟨h.1,h.2.mono fun e w'' ⟨v,h1,h2,h3⟩=>⟨v,h1,h2,hi _ _ _ h3⟩⟩
  | _=>exact h
abbrev atP(r:Nat)(v0:Value)(j:Nat):IV:=.via r fun a u=>AtV j a u/\a=v0
theorem LStep.pin{t r:Nat}{x y y':IV}{p:Value->Value->Prop}{v0:Value}(hm:.tmp t∈o.op.operands)(hx:lk t T=some (.via r fun a u=>p a u/\a=v0))(hxi:∀ (w:World) (D:Nat->Prop) (M:Nat->Nat) (V:Nat->Value) (u:Value),p (V r) u->VR w D M V x u)(h:LStep P cx B R o ((t,x)::T) y)
  (hy:∀ (w:World) (D:Nat->Prop) (M:Nat->Nat) (V:Nat->Value) (u:Value),V r=v0->VR w D M V y u->VR w D M V y' u):LStep P cx B R o T y':=fun M V w a hh ht=>by
 have h1:p (V r) (a.tmps.getD t undef)/\V r=v0:=ht t _ hm hx
 exact(h M V w a hh fun s z hs hz=>by
  rcases AJ hz with⟨rfl,rfl⟩ | ⟨_,hz⟩
  ·grind
  grind).imp fun w D v hv=>hy w D M V v h1.2 hv
theorem HL{x i:Nat}{t:TypeId}{r ty k n:Nat}{ds:List Dat}{v0:Value}{z:Int}{kk:IntKind}(ho:o.op=.indexAddr t (.tmp x) (.tmp i))(hx:lk x T=some (atv r v0))(hr:lk r R=some ⟨ty,k,n,ds,false⟩)(hi:lk i T=some (.is (.int kk z)))(hne:Nat.beq x i=false)(hz:0<=z/\z<(n:Int))(ht:P.underlying t=some (.slice (P.elem t)))(hs:sizeT P (P.elem t)=some k)(hty:Nat.blt ty 1000000=true:=by rfl):LStep P cx B R o T (atP r v0 (z.toNat*k)):=
 LStep.pin (t:=x) (x:=.own r) (p:=fun a u=>u=a) (by simp[ho,Op.operands]) hx (fun _ _ _ _ _ h=>h) (KM (z:=z) (kk:=kk) ho (kn (BK _ _ _)) hr (kn ((AY _ _ (fun e=>by grind)).trans hi)) hz ht hs hty) (fun _ _ _ _ _ e h=>⟨h,e⟩)
theorem JG{x:Nat}{t:TypeId}{f off r j:Nat}{v0:Value}(ho:o.op=.fieldAddr t (.tmp x) f)(hx:lk x T=some (atP r v0 j))(h:CZ P t f=some off):LStep P cx B R o T (atP r v0 (j+off)):=
 LStep.pin (t:=x) (x:=.via r (AtV j)) (p:=AtV j) (by grind[Op.operands]) hx (fun _ _ _ _ _ h=>h) (B2 ho (kn (BK _ _ _)) h) (fun _ _ _ _ _ e h=>⟨h,e⟩)
theorem EGp.any{gls:List (Nat×List Value)}{f:FuncId}{xs:List IV}{p:List (Nat×Value)}{b:Nat}{Y:Nat->IV->BL->RL->List (Nat×Value)->Prop}(h:∀ g,EGp P gls f xs B R p (fun M=>M b=g) (Y g)):EGp P gls f xs B R p (fun _=>True) (fun y B1 R1 p1=>∃ g,Y g y B1 R1 p1):=fun w D M V vs n hh hv _ hp=>
 (h (M b) w D M V vs n hh hv rfl hp).mono fun e w' ⟨v,y,B1,R1,p1,M1,V1,a1,a2,a3,a4,a5⟩=>⟨v,y,B1,R1,p1,M1,V1,a1,⟨_,a2⟩,a3,a4,a5⟩
end
end
section
section
variable{P:Program}{cx:Cx}{T0:TL}{B0:BL}{R0:RL}{ops:Array Oper}{Q:Exit->Act->World->Prop}{deps:List (List Nat)}{es:List (Nat×Nat×IV)}{bs:List (Nat×Nat×Bx)}{rs:List (Nat×Nat×Rw)}
def AllStepsS(P:Program)(cx:Cx)(T0:TL)(B0:BL)(R0:RL)(ops:Array Oper)(Q:Exit->Act->World->Prop)(es:List (Nat×Nat×IV))(bs:List (Nat×Nat×Bx))(rs:List (Nat×Nat×Rw)):List (List Bool×Nat)->Prop
 | []=>True
 | (L,i)::r=>(∀ K,E cx (BR (L.set i true) [] es++T0) (BR (L.set i true) [] bs++B0) (BR (L.set i true) [] rs++R0) K->E cx (BR L [] es++T0) (BR L [] bs++B0) (BR L [] rs++R0) (wpOp P ops Q i K))/\AllStepsS P cx T0 B0 R0 ops Q es bs rs r
theorem AllStepsS.get:∀ {st:List (List Bool×Nat)} (_:AllStepsS P cx T0 B0 R0 ops Q es bs rs st) {L:List Bool} {i:Nat},(L,i)∈st -> ∀ K,E cx (BR (L.set i true) [] es++T0) (BR (L.set i true) [] bs++B0) (BR (L.set i true) [] rs++R0) K->E cx (BR L [] es++T0) (BR L [] bs++B0) (BR L [] rs++R0) (wpOp P ops Q i K)
 | (L',j)::r,h,L,i,hm=>by
  rcases List.mem_cons.1 hm with e | hm
  ·injection e with e1 e2
   subst e1 e2
   exact h.1
  ·exact AllStepsS.get h.2 hm
 | [],_,_,_,hm=>by cases hm
theorem SX{L0 full:List Bool}{reach:List (List Bool)}{steps:List (List Bool×Nat)}(hd:GD ops=deps)(hB:VC deps L0 full reach steps=true)(hs:AllStepsS P cx T0 B0 R0 ops Q es bs rs steps)(hend:E cx (BR full [] es++T0) (BR full [] bs++B0) (BR full [] rs++R0) (Q .normal)):
  ∀ (m:Nat) (L:List Bool),L.count false=m->L∈reach->E cx (BR L [] es++T0) (BR L [] bs++B0) (BR L [] rs++R0) (wpAny P .any ops Q m L.toArray):=by
 simp only[VC,Bool.and_eq_true]at hB
 have hall:=List.all_eq_true.1 hB.2
 intro m
 induction m with
 | zero=>
  intro L hm hL
  have h:=hall L hL
  cases hf:(L==full)with
  | true=>
   simp_all[WS]
  | false=>
   rw[hf]at h
   simp only[cond_false,Bool.and_eq_true]at h
   cases hr:CV L 0 deps with
   | nil=>grind
   | cons i is=>
    grind
 | succ m ih=>
  intro L hm hL
  have h:=hall L hL
  cases hf:(L==full)with
  | true=>
   grind
  | false=>
   rw[hf]at h
   simp only[cond_false,Bool.and_eq_true,Bool.not_eq_true']at h
   refine X3 hd h.1 (AnyE.of fun i hi=>?_)
   have h2:=List.all_eq_true.1 h.2 i hi
   simp only[Bool.and_eq_true,beq_iff_eq,List.contains_iff_mem]at h2
   exact hs.get h2.1.1 _ (ih _ (by omega) h2.1.2)
theorem GS{id:Nat}{l:List Oper}(n:Nat)(deps:List (List Nat))(reach:List (List Bool))(steps:List (List Bool×Nat))(es:List (Nat×Nat×IV))(bs:List (Nat×Nat×Bx))(rs:List (Nat×Nat×Rw)){T:TL}{B:BL}{R:RL}(T0:TL)(B0:BL)(R0:RL)(hd:GD l.toArray=deps)(hn:l.toArray.size=n)(hm:P.follows .mixedOrders=true)(hB:VC deps (List.replicate n false) (List.replicate n true) reach steps=true)(hc:(List.replicate n false).count false=n)
  (h0:∀ K,E cx (BR (List.replicate n false) [] es++T0) (BR (List.replicate n false) [] bs++B0) (BR (List.replicate n false) [] rs++R0) K->E cx T B R K) (hs:AllStepsS P cx T0 B0 R0 l.toArray Q es bs rs steps) (hend:E cx (BR (List.replicate n true) [] es++T0) (BR (List.replicate n true) [] bs++B0) (BR (List.replicate n true) [] rs++R0) (Q .normal)):E cx T B R ((Code.region id l.toArray true).wp P Q):=by
 refine R4 n _ deps hd hn hm rfl fun _=>h0 _ ?_
 refine SX hd hB hs hend n _ hc ?_
 simp_all[VC]
def ddT:List Nat->TL->TL
 | _,[]=>[]
 | sn,(j,x)::l=>bif sn.any fun c=>Nat.beq c j then ddT sn l else(j,x)::ddT (j::sn) l
theorem QQ:∀ (l:TL) (sn:List Nat) (b:Nat),b∉sn->lk b (ddT sn l)=lk b l
 | [],_,_,_=>rfl
 | (j,x)::l,sn,b,hb=>by
  unfold ddT
  cases h:sn.any fun c=>Nat.beq c j with
  | true=>
   obtain⟨c,hc,e⟩:=List.any_eq_true.1 h
   have e':c=j:=Nat.eq_of_beq_eq_true e
   have hj:j≠b:=fun e2=>hb (by grind)
   rw[cond_true,QQ l sn b hb,AY _ _ hj]
  | false=>
   rw[cond_false]
   by_cases hj:j=b
   ·grind[BK]
   ·rw[AY _ _ hj,AY _ _ hj]
    exact QQ l (j::sn) b fun h2=>by
     grind
theorem RY{T:TL}{B:BL}{R:RL}{K:Act->World->Prop}(hE:E cx T B R K):E cx (ddT [] T) B R K:=fun M V a w hr=>hE M V a w ⟨hr.size,hr.defers,hr.heap,fun t x hx=>hr.tmp t x (by grind[QQ])⟩
end
end
section
variable{P:Program}{cx:Cx}{T T':TL}{B:BL}{R:RL}{o:Oper}{M:Nat->Nat}{V:Nat->Value}{Φ:(Nat->Value)->Prop}
def LStepV(Φ:(Nat->Value)->Prop)(P:Program)(cx:Cx)(B:BL)(R:RL)(o:Oper)(T:TL)(y:IV):Prop:=
 ∀ (M:Nat->Nat) (V:Nat->Value) (w:World) (a:Act),Φ V->HR cx B R M V w->(∀ t z,.tmp t∈o.op.operands->lk t T=some z->VR w (Dc cx B R M V w) M V z (a.tmps.getD t undef))->Upon P cx B R M V w y ((execOp a.eval o).run P w)
theorem LStepV.of{y:IV}(h:LStep P cx B R o T y):LStepV Φ P cx B R o T y:=fun M V w a _=>h M V w a
inductive WalkV (Φ:(Nat->Value)->Prop) (P:Program) (cx:Cx) (B:BL) (R:RL) (ops:Array Oper):List Oper->TL->List IV->TL->Prop
 | nil {T:TL}:WalkV Φ P cx B R ops [] T [] T
 | op {o:Oper} {d:Nat} {l:List Oper} {T T':TL} {y:IV} {ys:List IV}:o.guard=none->o.dst=some d->Nat.blt d cx.n=true->LStepV Φ P cx B R o T y->WalkV Φ P cx B R ops l ((d,y)::T) ys T'->WalkV Φ P cx B R ops (o::l) T (y::ys) T'
 | gd (g:Bool) {o:Oper} {d:Nat} {l:List Oper} {T T':TL} {y:IV} {ys:List IV}:gk ops T o=some g->o.dst=some d->Nat.blt d cx.n=true->(g=true->LStepV Φ P cx B R o T y)->WalkV Φ P cx B R ops l ((d,.opt g y)::T) ys T'->WalkV Φ P cx B R ops (o::l) T (.opt g y::ys) T'
theorem I5{C:World->Prop}{ops:Array Oper}{y:IV}{G:List C1}{a:Act}(hΦ:Φ V)(hC:∀ w,C w->HR cx B R M V w)(hG:Gt cx B R M V C T G a)(h:LStepV Φ P cx B R o T y){w:World}(hc:C w)(hS:Seen ops o G w):
  D8 P Rb o a (CJ cx B R M V y) w:=by
 have h1:=h M V w a hΦ (hC w hc) fun t z hm hz=>by
  rcases hG t z hz with h | ⟨_,F,h2,h3⟩
  ·grind
  ·exact h3 w (hS _ h2 t rfl (FB hm))
 have key:∀ {v:Value} {w':World},HR cx B R M V w'->VR w' (Dc cx B R M V w') M V y v->(CJ cx B R M V y).ok v/\(CJ cx B R M V y).pred v w':=fun{v w'} hh hv=>by
  unfold CJ
  cases hw:y.whole with
  | some u=>exact⟨Kind.ok_is.2 (DW hw hv),trivial⟩
  | none=>exact⟨fun c h=>(by cases h),w',hh,Below.refl _ _,hv⟩
 unfold D8
 generalize(execOp a.eval o).run P w=r at *
 cases r with
 | halt x w'=>exact h1.elim
 | ok n w'=>
  cases n<;>simp only[Upon]at h1<;>simp only[EE]
  case value u=>exact⟨h1.1,key ((hC w hc).step h1.1) h1.2⟩
  case skip=>exact⟨h1.1,key ((hC w hc).step h1.1) h1.2⟩
  case enter f args=>
   obtain⟨rfl,h1⟩:=h1
   exact h1.mono fun e w'' ⟨v,he,h2,h3⟩=>⟨v,he,h2,key ((hC _ hc).step h2) h3⟩
theorem WalkV.wpT{C:World->Prop}{ops:Array Oper}{Q:List C1->Act->Prop}(hΦ:Φ V)(hC:∀ w,C w->HR cx B R M V w)(hc:∃ w,C w){l:List Oper}{ys:List IV}(hW:WalkV Φ P cx B R ops l T ys T'):
  ∀ {G:List C1} {a:Act},a.tmps.size=cx.n->a.defers=[]->Gt cx B R M V C T G a->(∀ G' a',a'.tmps.size=cx.n->a'.defers=[]->Gt cx B R M V C T' G' a'->Q G' a')->wpT P ops Rb C Q l (ys.map (CJ cx B R M V)) G a:=by
 induction hW with
 | nil=>exact fun hn hd hG hQ=>hQ _ _ hn hd hG
 | op hg hd hn hs _ ih=>
  intro G a hsz hdf hG hQ
  refine⟨?_,fun v hv=>?_⟩
  ·unfold AskT
   rw[if_pos (by grind[Region.wanted])]
   grind[I5]
  ·rw[hd]
   exact ih (by simpa[Act.put]using hsz) hdf (hG.put (by simp_all) hv) hQ
 | gd g hg hd hn hs _ ih=>
  intro G a hsz hdf hG hQ
  obtain⟨w0,hw0⟩:=hc
  have hw:=GW hg fun t z v _ hz hv=>by
   rcases hG t z hz with h | ⟨h1,_⟩
   ·exact DW hv (h w0 hw0)
   grind
  refine⟨?_,fun v hv=>?_⟩
  ·unfold AskT
   rw[hw]
   cases g with
   | true=>
    rw[if_pos rfl]
    refine fun w hc hS=>I5 (Φ:=Φ) hΦ hC hG (fun M V w a hp hh ht=>?_) hc hS
    have h1:=hs rfl M V w a hp hh ht
    revert h1
    generalize(execOp a.eval _).run P w=r
    intro h1
    cases r with
    | halt x w'=>exact h1
    | ok n w'=>
     cases n<;>simp only[Upon]at h1 ⊢
     case value u=>exact⟨h1.1,fun _=>h1.2,fun h=>(by cases h)⟩
     case skip=>exact⟨h1.1,fun _=>h1.2,fun h=>(by cases h)⟩
     case enter f args=>exact⟨h1.1,h1.2.mono fun e w'' ⟨v,he,h3,h4⟩=>⟨v,he,h3,fun _=>h4,fun h=>(by cases h)⟩⟩
   | false=>
    rw[if_neg (by simp)]
    unfold CJ
    rw[IT]
    exact⟨Kind.ok_is.2 rfl,fun _=>trivial⟩
  ·rw[hd]
   exact ih (by simpa[Act.put]using hsz) hdf (hG.put (by simp_all) hv) hQ
end
section
variable{P:Program}{cx:Cx}{T:TL}{B:BL}{R:RL}{o:Oper}
theorem AZ{x:Operand}{t:TypeId}{ds:List Dat}(es:List Dat)(k:Nat)(ho:o.op=.load t x)(hx:Kn T x (.ref ds))(ht:aggT P t=true)(hn:sizeT P t=some k)(he:ds.take k=es)(hl:es.length=k):LStep P cx B R o T (.part (.many es)):=by
 have h1:k<=ds.length:=by
  rw[<- he,List.length_take]at hl
  omega
 grind[PR]
theorem WE{x y z:Operand}{ts:Array TypeId}{k k' k'':IntKind}{l m n:Int}(ho:o.op=.call { callee:=.builtin .max,args := #[x,y,z],argTypes:=ts })(hx:Kn T x (.is (.int k l)))(hy:Kn T y (.is (.int k' m)))(hz:Kn T z (.is (.int k'' n))):LStep P cx B R o T (.is (.int k (max (max l m) n))):=LStep.same fun M V w a _ hk=>by
 have h1:=(hk x _ (by grind[Op.operands,Call.operands]) hx).is_eq
 have h2:=(hk y _ (by grind[Op.operands,Call.operands]) hy).is_eq
 have h3:=(hk z _ (by grind[Op.operands,Call.operands]) hz).is_eq
 have h4:(Builtin.max_ ts o.type #[.int k l,.int k' m,.int k'' n]).run P w=.ok (.int k (max (max l m) n)) w:=by
  have e:(if m>l then m else l)=max l m:=by split<;>omega
  have e2:(if n>max l m then n else max l m)=max (max l m) n:=by split<;>omega
  simp[Builtin.max_,Builtin.max2,e,e2]
 refine⟨_,?_,.cell _⟩
 simp_all[execOp,resolve,invoke,builtin]
end
theorem VSm.le{n:Nat}{v:Vl}(h:VSm n v)(hn:n<=80):vnodes v<=1000000:=by have:=h.nodes;omega
theorem GQ(e:Ed):E3 e=true↔(e.kind=1\/(DZ e.old=true/\DZ e.new=true))/\(e.kind=2\/(e.fields.length=0/\e.rests=false/\e.ro.length=0/\e.rn.length=0))/\(e.kind=3\/e.steps.length=0)/\(e.kind=4\/e.keys.length=0):=by
 unfold E3
 simp only[Bool.and_eq_true,Bool.or_eq_true,decide_eq_true_eq,List.isEmpty_iff,List.length_eq_zero_iff,Bool.not_eq_true']
 constructor
 ·rintro⟨⟨⟨h1,h2⟩,h3⟩,h4⟩
  exact⟨h1,h2.imp id fun h=>⟨h.1.1.1,h.1.1.2,h.1.2,h.2⟩,h3,h4⟩
 ·rintro⟨h1,h2,h3,h4⟩
  exact⟨⟨⟨h1,h2.imp id fun h=>⟨⟨⟨h.1,h.2.1⟩,h.2.2.1⟩,h.2.2.2⟩⟩,h3⟩,h4⟩
theorem LK{α:Type}{l:List α}{k:Nat}{p:α}(h:l[((k:Int)-1).toNat]?=some p):DC l k=if k=0 then none else some p:=by
 unfold DC
 split
 ·rfl
 ·rw[<- h];congr 1;omega
theorem RA{e:Ed}(h:e.kind<0\/4<e.kind):B5 e=false:=by
 rw[DF,if_neg (by omega),if_neg (by omega),if_neg (by omega),if_neg (by omega),if_neg (by omega),Bool.and_false]
section
inductive WalkU (P:Program) (cx:Cx) (B:BL) (R:RL) (n b:Nat):Nat->List Oper->TL->List IV->Prop
 | nil {i:Nat} {T:TL}:WalkU P cx B R n b i [] T []
 | op {i:Nat} {o:Oper} {d:Nat} {l:List Oper} {T:TL} {y:IV} {ys:List IV}:o.dst=some d->Nat.blt d cx.n=true->LStep P cx B R o T y->WalkU P cx B R n b (i+1) l ((d,y)::T) ys->WalkU P cx B R n b i (o::l) T (y::ys)
 | new {i:Nat} {o:Oper} {d:Nat} {l:List Oper} {T:TL} {ys:List IV}:i=n->o.dst=some d->WalkU P cx B R n b (i+1) l ((d,.box b 0)::T) ys->WalkU P cx B R n b i (o::l) T (.box b 0::ys)
section
variable{P:Program}{cx:Cx}{T:TL}{B:BL}{R:RL}{n b:Nat}
theorem WalkU.len{i:Nat}{l:List Oper}{ys:List IV}(h:WalkU P cx B R n b i l T ys):ys.length=l.length:=by
 induction h with
 | nil=>rfl
 | op _ _ _ _ ih=>simp[ih]
 | new _ _ _ ih=>simp[ih]
theorem WalkU.get{i:Nat}{l:List Oper}{ys:List IV}(h:WalkU P cx B R n b i l T ys):∀ (j:Nat) (o:Oper) (y:IV),l[j]?=some o->ys[j]?=some y->(i+j=n/\y=.box b 0)\/(∃ d Tj,o.dst=some d/\Nat.blt d cx.n=true/\LStep P cx B R o Tj y /\ ∀ t z,lk t Tj=some z->(∃ k ok,k<j/\l[k]?=some ok/\ok.dst=some t/\ys[k]?=some z)\/lk t T=some z):=by
 induction h with
 | nil=>grind
 | @op i o d l T y ys h1 h2 h3 _ ih=>
  intro j o' y' ho hy
  cases j with
  | zero=>
   grind
  | succ j=>
   rcases ih j o' y' (by simpa using ho) (by grind)with⟨e,hy⟩ | ⟨d',Tj,e1,e2,e3,e4⟩
   ·grind
   ·refine .inr ⟨d',Tj,e1,e2,e3,fun t z hz=>?_⟩
    rcases e4 t z hz with⟨k,ok,hk,a1,a2,a3⟩ | hz
    ·exact .inl ⟨k+1,ok,by omega,by simpa using a1,a2,by grind⟩
    ·rcases AJ hz with⟨rfl,rfl⟩ | ⟨_,hz⟩
     ·exact .inl ⟨0,o,by omega,rfl,h1,rfl⟩
     grind
 | @new i o d l T ys h0 h1 _ ih=>
  intro j o' y' ho hy
  cases j with
  | zero=>
   grind
  | succ j=>
   rcases ih j o' y' (by simpa using ho) (by grind)with⟨e,hy⟩ | ⟨d',Tj,e1,e2,e3,e4⟩
   ·grind
   ·refine .inr ⟨d',Tj,e1,e2,e3,fun t z hz=>?_⟩
    rcases e4 t z hz with⟨k,ok,hk,a1,a2,a3⟩ | hz
    ·exact .inl ⟨k+1,ok,by omega,by simpa using a1,a2,by grind⟩
    ·rcases AJ hz with⟨rfl,rfl⟩ | ⟨_,hz⟩
     ·exact .inl ⟨0,o,by omega,rfl,h1,rfl⟩
     grind
theorem LStep.more{o:Oper}{y:IV}{T':TL}(h:LStep P cx B R o T y)(hT:∀ t z,.tmp t∈o.op.operands->lk t T=some z->lk t T'=some z):LStep P cx B R o T' y:=fun M V w a hh hk=>h M V w a hh fun t z ht hz=>hk t z ht (hT t z ht hz)
end
end
theorem JM{α:Type}{g:Ed->Int->Int}{bad:α->Bool}{xs:List (α×Ed)}{l:Int}{k:Nat}{x:α×Ed}(h:xs[k]?=some x)(h0:0<=BH g bad (xs.take k) l)(hb:bad x.1=true):BH g bad xs l = -1:=by
 rw[NJ xs (k+1) l,F0 h,if_pos h0,if_pos hb,ER _ (by decide)]
def EGr(d:Nat):Prop:=∀ (e:Ed) (left:Int),e.Fine->0<=left->left<=80->EF Try.prog [] 19 [.many (ed e),iP left,iP (d:Int)] (.part (iP (BP d e left)))
theorem PW:EGr 0:=by
 intro e left hf h0 h1
 obtain⟨_,o1,o2,_⟩:=hf.all
 refine AF 107 Try.func19 rfl rfl rfl fun w D=>?_
 try refine A1 ?_
 refine AI ?_
 refine BS 3 rfl rfl rfl rfl (kn rfl) rfl rfl rfl rfl ?_
 refine C7 ?_
 refine AH ?_
 try refine A1 ?_
 refine A0 (A8 rfl rfl rfl rfl rfl (A3 rfl rfl rfl (A9 rfl (kn rfl) (kn rfl) AL) (A8 rfl rfl rfl rfl rfl (Walk.gd _ rfl rfl rfl (fun h=>A4 rfl (kn rfl) off_32_5) (Walk.gd _ rfl rfl rfl (fun h=>A5 rfl (A2 rfl h) rfl rfl one_9) (Walk.gd _ rfl rfl rfl (fun h=>GC rfl (A2 rfl h) str_9) (Walk.gd _ rfl rfl rfl (fun h=>A9 rfl (A2 rfl h) (kn rfl) DQ) (A3 rfl rfl rfl (FK rfl (kn rfl) (fun hb=>A2 rfl hb)) (A8 rfl rfl rfl rfl rfl (Walk.gd _ rfl rfl rfl (fun h=>A4 rfl (kn rfl) off_32_6) (Walk.gd _ rfl rfl rfl (fun h=>A5 rfl (A2 rfl h) rfl rfl one_9) (Walk.gd _ rfl rfl rfl (fun h=>GC rfl (A2 rfl h) str_9) (Walk.gd _ rfl rfl rfl (fun h=>A9 rfl (A2 rfl h) (kn rfl) DQ) (A3 rfl rfl rfl (FK rfl (kn rfl) (fun hb=>A2 rfl hb)) (A8 rfl rfl rfl rfl rfl (Walk.gd _ rfl rfl rfl (fun h=>A4 rfl (kn rfl) off_32_1) (Walk.gd _ rfl rfl rfl (fun h=>AB (ds:=[_,_,_,_,_,_,_]) 7 rfl (A2 rfl h) rfl rfl agg_27 sz_27 rfl) (Walk.gd _ rfl rfl rfl (fun h=>AG rfl (by kernel_rfl) (IQ e.old 60 o1 (by decide) (by decide)) ⟨(A2 rfl h),⟨(kn rfl),trivial⟩⟩) (A3 rfl rfl rfl (FK rfl (kn rfl) (fun hb=>A2 rfl hb)) (A8 rfl rfl rfl rfl rfl (Walk.gd _ rfl rfl rfl (fun h=>A4 rfl (kn rfl) off_32_2) (Walk.gd _ rfl rfl rfl (fun h=>AB (ds:=[_,_,_,_,_,_,_]) 7 rfl (A2 rfl h) rfl rfl agg_27 sz_27 rfl) (Walk.gd _ rfl rfl rfl (fun h=>AG rfl (by kernel_rfl) (IQ e.new 60 o2 (by decide) (by decide)) ⟨(A2 rfl h),⟨(kn rfl),trivial⟩⟩) (A3 rfl rfl rfl (FK rfl (kn rfl) (fun hb=>A2 rfl hb)) .nil)))))))))))))))))))))))) ?_
 try refine A1 ?_
 refine AE rfl (fun h=>?_) (fun h=>?_)
 ·try refine A1 ?_
  refine A0 (AC rfl rfl rfl rfl rfl .nil) ?_
  try refine A1 ?_
  exact A7 rfl rfl (.tmp (kn rfl) (.nil)) (Imp.of_eq rfl) rfl
 ·simp at h
set_option maxHeartbeats 4000000 in
theorem PB(d:Nat)(hd:d<=1000)(ih:EGr d):EGr (d+1):=by
 intro e left hf h0 h1
 have hmax:maxLen<=9223372036854775807:=by decide
 obtain⟨k1,o1,o2,⟨l1,l2,l3,l4,l5⟩,k2,k3,k4⟩:=hf.all
 have q:BP (d+1) e left=if P0 e then -1 else BH (BP d) PZ e.keys (BH (BP d) LC e.steps (BH (BP d) (fun _=>false) e.fields (left-1))):=rfl
 refine AF 107 Try.func19 rfl rfl rfl fun w D=>?_
 try refine A1 ?_
 refine AI ?_
 refine BS 3 rfl rfl rfl rfl (kn rfl) rfl rfl rfl rfl ?_
 refine C7 ?_
 refine AH ?_
 try refine A1 ?_
 refine A0 (A8 rfl rfl rfl rfl rfl (A3 rfl rfl rfl (A9 rfl (kn rfl) (kn rfl) AL) (A8 rfl rfl rfl rfl rfl (Walk.gd _ rfl rfl rfl (fun h=>A4 rfl (kn rfl) off_32_5) (Walk.gd _ rfl rfl rfl (fun h=>A5 rfl (A2 rfl h) rfl rfl one_9) (Walk.gd _ rfl rfl rfl (fun h=>GC rfl (A2 rfl h) str_9) (Walk.gd _ rfl rfl rfl (fun h=>A9 rfl (A2 rfl h) (kn rfl) DQ) (A3 rfl rfl rfl (FK rfl (kn rfl) (fun hb=>A2 rfl hb)) (A8 rfl rfl rfl rfl rfl (Walk.gd _ rfl rfl rfl (fun h=>A4 rfl (kn rfl) off_32_6) (Walk.gd _ rfl rfl rfl (fun h=>A5 rfl (A2 rfl h) rfl rfl one_9) (Walk.gd _ rfl rfl rfl (fun h=>GC rfl (A2 rfl h) str_9) (Walk.gd _ rfl rfl rfl (fun h=>A9 rfl (A2 rfl h) (kn rfl) DQ) (A3 rfl rfl rfl (FK rfl (kn rfl) (fun hb=>A2 rfl hb)) (A8 rfl rfl rfl rfl rfl (Walk.gd _ rfl rfl rfl (fun h=>A4 rfl (kn rfl) off_32_1) (Walk.gd _ rfl rfl rfl (fun h=>AB (ds:=[_,_,_,_,_,_,_]) 7 rfl (A2 rfl h) rfl rfl agg_27 sz_27 rfl) (Walk.gd _ rfl rfl rfl (fun h=>AG rfl (by kernel_rfl) (IQ e.old 60 o1 (by decide) (by decide)) ⟨(A2 rfl h),⟨(kn rfl),trivial⟩⟩) (A3 rfl rfl rfl (FK rfl (kn rfl) (fun hb=>A2 rfl hb)) (A8 rfl rfl rfl rfl rfl (Walk.gd _ rfl rfl rfl (fun h=>A4 rfl (kn rfl) off_32_2) (Walk.gd _ rfl rfl rfl (fun h=>AB (ds:=[_,_,_,_,_,_,_]) 7 rfl (A2 rfl h) rfl rfl agg_27 sz_27 rfl) (Walk.gd _ rfl rfl rfl (fun h=>AG rfl (by kernel_rfl) (IQ e.new 60 o2 (by decide) (by decide)) ⟨(A2 rfl h),⟨(kn rfl),trivial⟩⟩) (A3 rfl rfl rfl (FK rfl (kn rfl) (fun hb=>A2 rfl hb)) .nil)))))))))))))))))))))))) ?_
 try refine A1 ?_
 refine AE rfl (fun h=>?_) (fun h=>?_)
 ·have hb:P0 e=true:=by
   simp only[Bool.or_eq_true,decide_eq_true_eq]at h
   simp only[P0,Bool.or_eq_true,decide_eq_true_eq]
   rcases h with(((h | h) | h) | h) | h
   ·omega
   ·exact .inl (.inl (.inl (by omega)))
   ·exact .inl (.inl (.inr (by omega)))
   ·exact .inl (.inr h)
   ·exact .inr h
  rw[if_pos hb]at q
  try refine A1 ?_
  refine A0 (AC rfl rfl rfl rfl rfl .nil) ?_
  try refine A1 ?_
  exact A7 rfl rfl (.tmp (kn rfl) (.nil)) (Imp.of_eq (by rw[q];rfl)) rfl
 have hb:P0 e=false:=by
  simp only[Bool.or_eq_false_iff,decide_eq_false_iff_not]at h
  simp only[P0,Bool.or_eq_false_iff,decide_eq_false_iff_not]
  exact⟨⟨⟨by omega,by omega⟩,h.1.2⟩,h.2⟩
 rw[if_neg (by rw[hb];decide)]at q
 clear h
 try refine A1 ?_
 refine A0 (A8 rfl rfl rfl rfl rfl (A3 rfl rfl rfl (A9 rfl (kn rfl) (kn rfl) (EB (by first | omega | (dsimp only;omega)))) (AC rfl rfl rfl rfl rfl .nil))) ?_
 try refine A1 ?_
 refine A0 (A3 rfl rfl rfl (A4 rfl (kn rfl) off_32_3) (A3 rfl rfl rfl (A5 rfl (kn rfl) rfl rfl one_28) (A3 rfl rfl rfl (AW rfl (kn rfl) sle_28) (A8 rfl rfl rfl rfl rfl .nil)))) ?_
 try refine A1 ?_
 refine BG (ι:={ k:Nat // k<=(e.fields).length })
  (fun k=>[(1,.is (.int .i64 (BH (BP d) (fun _=>false) ((e.fields).take k.1) (left-1)))),(2,.is (.int .i64 ((d+1:Nat):Int))),(3,.box 3 0),(40,.part (.one (.row 22 (e.fields).length ((e.fields).flatMap CP)))),(41,.is (.int .i64 ((e.fields).length:Int))),(42,.is (.int .i64 (k.1:Int)))])
  (fun _=>[(3,⟨32,bcs (ed e)⟩)]) (fun _=>[]) (fun k=>(e.fields).length-k.1) ⟨0,by omega⟩
  (fun K=>AN ⟨s_t,s_t,s_t,s_t,s_t,s_t,trivial⟩ ⟨s_b,trivial⟩ trivial) ?_
 rintro⟨k,hk⟩
 dsimp only at hk ⊢
 try refine A1 ?_
 refine A0 (A3 rfl rfl rfl (A9 rfl (kn rfl) (kn rfl) BJ) .nil) ?_
 try refine A1 ?_
 refine AE rfl (fun h=>?_) (fun h=>?_)
 ·have hlt:k<(e.fields).length:=by have:=of_decide_eq_true h;omega
  obtain⟨x,hx⟩:∃ x,(e.fields)[k]?=some x:=⟨_,List.getElem?_eq_getElem hlt⟩
  have mx:=List.mem_of_getElem? hx
  have htk:=F0 (g:=BP d) (bad:=(fun _=>false)) (l:=(left-1)) hx
  obtain⟨b1,b2⟩:=FG (d:=d) (bad:=(fun _=>false)) ((e.fields).take k) (left-1) (fun p hp=>hf.kid (Ed.kid_f (List.mem_of_mem_take hp))) (by omega)
  try refine A1 ?_
  refine AI ?_
  refine AK (AQ rfl (kn rfl) (kn rfl) (by omega) hx CQ sle_28 esz_28 (CO x)) ?_
  refine AK (AS rfl (kn rfl) agg_61 sz_61) ?_
  refine BD 8 [.is (.int .i64 0),.is (.int .i64 0),.is (.int .i64 0),.is (.int .u64 0),.is (.string ⟨#[]⟩),.is (.slice none 0 0),.is (.string ⟨#[]⟩),.is (.slice none 0 0),.is (.slice none 0 0),.is (.int .i64 0),.is (.int .u64 0),.is (.string ⟨#[]⟩),.is (.slice none 0 0),.is (.string ⟨#[]⟩),.is (.slice none 0 0),.is (.slice none 0 0),.is (.slice none 0 0),.is (.bool false),.is (.string ⟨#[]⟩),.is (.string ⟨#[]⟩),.is (.slice none 0 0),.is (.slice none 0 0)] rfl rfl rfl rfl zr_61 (fun w D M V=>⟨rfl,fun j x v h1 h2=>BC _ h1 h2 rfl⟩) rfl rfl rfl rfl ?_
  refine B6 rfl rfl rfl (kn rfl) rfl (kn rfl) rfl rfl sz_61 ?_
  refine AH ?_
  try refine A1 ?_
  refine A0 (A8 rfl rfl rfl rfl rfl (A3 rfl rfl rfl (A9 rfl (kn rfl) (kn rfl) D7) .nil)) ?_
  try refine A1 ?_
  refine AE rfl (fun h2=>?_) (fun h2=>?_)
  ·have h3:=of_decide_eq_true h2
   try refine A1 ?_
   refine A0 (A3 rfl rfl rfl (A4 rfl (kn rfl) off_61_1) (A3 rfl rfl rfl (AB (ds:=[_,_,_,_,_,_,_,_,_,_,_,_,_,_,_,_,_,_,_,_,_]) 21 rfl (kn rfl) rfl rfl agg_32 sz_32 rfl) (A8 rfl rfl rfl rfl rfl (A8 rfl rfl rfl rfl rfl (A3 rfl rfl rfl (A9 rfl (kn rfl) (kn rfl) (LE d hd)) (A3 rfl rfl rfl (AG rfl (by kernel_rfl) (ih x.2 _ (hf.kid (Ed.kid_f mx)) h3 (by omega)) ⟨(kn rfl),⟨(kn rfl),⟨(kn rfl),trivial⟩⟩⟩) (AC rfl rfl rfl rfl rfl .nil))))))) ?_
   try refine A1 ?_
   try refine A1 ?_
   refine A0 (A3 rfl rfl rfl (A9 rfl (kn rfl) (kn rfl) (AO (by first | omega | (dsimp only;omega)))) (A8 rfl rfl rfl rfl rfl .nil)) ?_
   try refine A1 ?_
   refine AT ⟨k+1,by omega⟩ (by dsimp only;omega) (fun K=>AN ⟨⟨_,rfl,Imp.of_eq (by rw[htk,if_pos h3,if_neg (by decide)])⟩,s_t,s_t,s_t,s_t,s_t,trivial⟩ ⟨s_b,trivial⟩ trivial)
  have h3:=of_decide_eq_false h2
  try refine A1 ?_
  refine A0 (A3 rfl rfl rfl (A9 rfl (kn rfl) (kn rfl) (AO (by first | omega | (dsimp only;omega)))) (A8 rfl rfl rfl rfl rfl .nil)) ?_
  try refine A1 ?_
  refine AT ⟨k+1,by omega⟩ (by dsimp only;omega) (fun K=>AN ⟨⟨_,rfl,Imp.of_eq (by rw[htk,if_neg h3])⟩,s_t,s_t,s_t,s_t,s_t,trivial⟩ ⟨s_b,trivial⟩ trivial)
 obtain rfl:k=e.fields.length:=by have:=of_decide_eq_false h;omega
 rw[List.take_length]
 obtain⟨F1,F2⟩:=FG (d:=d) (bad:=fun _:Int=>false) e.fields (left-1) (fun p hp=>hf.kid (Ed.kid_f hp)) (by omega)
 generalize BH (BP d) (fun _=>false) e.fields (left-1)=F at *
 try refine A1 ?_
 refine A0 (A3 rfl rfl rfl (A4 rfl (kn rfl) off_32_7) (A3 rfl rfl rfl (A5 rfl (kn rfl) rfl rfl one_29) (A3 rfl rfl rfl (AW rfl (kn rfl) sle_29) (A8 rfl rfl rfl rfl rfl .nil)))) ?_
 try refine A1 ?_
 refine BG (ι:={ k:Nat // k<=(e.steps).length })
  (fun k=>[(1,.is (.int .i64 (BH (BP d) LC ((e.steps).take k.1) F))),(2,.is (.int .i64 ((d+1:Nat):Int))),(3,.box 3 0),(56,.part (.one (.row 30 (e.steps).length ((e.steps).flatMap BF)))),(57,.is (.int .i64 ((e.steps).length:Int))),(58,.is (.int .i64 (k.1:Int)))])
  (fun _=>[(3,⟨32,bcs (ed e)⟩)]) (fun _=>[]) (fun k=>(e.steps).length-k.1) ⟨0,by omega⟩
  (fun K=>AN ⟨s_t,s_t,s_t,s_t,s_t,s_t,trivial⟩ ⟨s_b,trivial⟩ trivial) ?_
 rintro⟨k,hk⟩
 dsimp only at hk ⊢
 try refine A1 ?_
 refine A0 (A3 rfl rfl rfl (A9 rfl (kn rfl) (kn rfl) BJ) .nil) ?_
 try refine A1 ?_
 refine AE rfl (fun h=>?_) (fun h=>?_)
 ·have hlt:k<(e.steps).length:=by have:=of_decide_eq_true h;omega
  obtain⟨x,hx⟩:∃ x,(e.steps)[k]?=some x:=⟨_,List.getElem?_eq_getElem hlt⟩
  have mx:=List.mem_of_getElem? hx
  have htk:=F0 (g:=BP d) (bad:=LC) (l:=F) hx
  obtain⟨b1,b2⟩:=FG (d:=d) (bad:=LC) ((e.steps).take k) F (fun p hp=>hf.kid (Ed.kid_s (List.mem_of_mem_take hp))) (by omega)
  try refine A1 ?_
  refine AI ?_
  refine AK (AQ rfl (kn rfl) (kn rfl) (by omega) hx C2 sle_29 esz_29 (BX x)) ?_
  refine AK (AS rfl (kn rfl) agg_76 sz_76) ?_
  refine BD 10 [.is (.int .i64 0),.is (.int .i64 0),.is (.int .i64 0),.is (.int .u64 0),.is (.string ⟨#[]⟩),.is (.slice none 0 0),.is (.string ⟨#[]⟩),.is (.slice none 0 0),.is (.slice none 0 0),.is (.int .i64 0),.is (.int .i64 0),.is (.int .u64 0),.is (.string ⟨#[]⟩),.is (.slice none 0 0),.is (.string ⟨#[]⟩),.is (.slice none 0 0),.is (.slice none 0 0),.is (.int .i64 0),.is (.int .u64 0),.is (.string ⟨#[]⟩),.is (.slice none 0 0),.is (.string ⟨#[]⟩),.is (.slice none 0 0),.is (.slice none 0 0),.is (.slice none 0 0),.is (.bool false),.is (.string ⟨#[]⟩),.is (.string ⟨#[]⟩),.is (.slice none 0 0),.is (.slice none 0 0)] rfl rfl rfl rfl zr_76 (fun w D M V=>⟨rfl,fun j x v h1 h2=>BC _ h1 h2 rfl⟩) rfl rfl rfl rfl ?_
  refine B6 rfl rfl rfl (kn rfl) rfl (kn rfl) rfl rfl sz_76 ?_
  refine AH ?_
  try refine A1 ?_
  refine A0 (A8 rfl rfl rfl rfl rfl (A3 rfl rfl rfl (A9 rfl (kn rfl) (kn rfl) D7) (A8 rfl rfl rfl rfl rfl (Walk.gd _ rfl rfl rfl (fun h=>A4 rfl (kn rfl) off_76_2) (Walk.gd _ rfl rfl rfl (fun h=>AB (ds:=[_,_,_,_,_,_,_]) 7 rfl (A2 rfl h) rfl rfl agg_27 sz_27 rfl) (Walk.gd _ rfl rfl rfl (fun h=>AG rfl (by kernel_rfl) (IQ x.1.2.2 60 (k3 x mx).2.2 (by decide) (by decide)) ⟨(A2 rfl h),⟨(kn rfl),trivial⟩⟩) (Walk.gd _ rfl rfl rfl (fun h=>AM rfl (A2 rfl h)) (Walk.gd _ rfl rfl rfl (fun h=>A4 rfl (kn rfl) off_76_1) (Walk.gd _ rfl rfl rfl (fun h=>A5 rfl (A2 rfl h) rfl rfl one_3) (Walk.gd _ rfl rfl rfl (fun h=>A9 rfl (A2 rfl h) (kn rfl) DQ) (Walk.gd _ rfl rfl rfl (fun h=>FK rfl (A2 rfl h) (fun hb=>A2 rfl (gb h hb))) (A3 rfl rfl rfl (AP rfl (kn rfl) (fun hb=>A2 rfl hb)) .nil)))))))))))) ?_
  try refine A1 ?_
  refine AE rfl (fun h2=>?_) (fun h2=>?_)
  ·have h3:=(Bool.and_eq_true _ _).mp h2
   rw[JM hx (of_decide_eq_true h3.1) h3.2,ER _ (by decide)]at q
   try refine A1 ?_
   refine A0 (AC rfl rfl rfl rfl rfl .nil) ?_
   try refine A1 ?_
   exact A7 rfl rfl (.tmp (kn rfl) (.nil)) (Imp.of_eq (by rw[q];rfl)) rfl
  have h3:0<=BH (BP d) LC (e.steps.take k) F->LC x.1=false:=fun h3=>((Bool.and_eq_false_iff).mp h2).resolve_left (by rw[decide_eq_true h3];decide)
  try refine A1 ?_
  refine A0 (A8 rfl rfl rfl rfl rfl (A3 rfl rfl rfl (A9 rfl (kn rfl) (kn rfl) D7) .nil)) ?_
  try refine A1 ?_
  refine AE rfl (fun h2=>?_) (fun h2=>?_)
  ·have h4:=of_decide_eq_true h2
   have h5:=h3 h4
   try refine A1 ?_
   refine A0 (A3 rfl rfl rfl (A4 rfl (kn rfl) off_76_3) (A3 rfl rfl rfl (AB (ds:=[_,_,_,_,_,_,_,_,_,_,_,_,_,_,_,_,_,_,_,_,_]) 21 rfl (kn rfl) rfl rfl agg_32 sz_32 rfl) (A8 rfl rfl rfl rfl rfl (A8 rfl rfl rfl rfl rfl (A3 rfl rfl rfl (A9 rfl (kn rfl) (kn rfl) (LE d hd)) (A3 rfl rfl rfl (AG rfl (by kernel_rfl) (ih x.2 _ (hf.kid (Ed.kid_s mx)) h4 (by omega)) ⟨(kn rfl),⟨(kn rfl),⟨(kn rfl),trivial⟩⟩⟩) (AC rfl rfl rfl rfl rfl .nil))))))) ?_
   try refine A1 ?_
   try refine A1 ?_
   refine A0 (A3 rfl rfl rfl (A9 rfl (kn rfl) (kn rfl) (AO (by first | omega | (dsimp only;omega)))) (A8 rfl rfl rfl rfl rfl .nil)) ?_
   try refine A1 ?_
   refine AT ⟨k+1,by omega⟩ (by dsimp only;omega) (fun K=>AN ⟨⟨_,rfl,Imp.of_eq (by rw[htk,if_pos h4,h5,if_neg (by decide)])⟩,s_t,s_t,s_t,s_t,s_t,trivial⟩ ⟨s_b,trivial⟩ trivial)
  have h4:=of_decide_eq_false h2
  try refine A1 ?_
  refine A0 (A3 rfl rfl rfl (A9 rfl (kn rfl) (kn rfl) (AO (by first | omega | (dsimp only;omega)))) (A8 rfl rfl rfl rfl rfl .nil)) ?_
  try refine A1 ?_
  refine AT ⟨k+1,by omega⟩ (by dsimp only;omega) (fun K=>AN ⟨⟨_,rfl,Imp.of_eq (by rw[htk,if_neg h4])⟩,s_t,s_t,s_t,s_t,s_t,trivial⟩ ⟨s_b,trivial⟩ trivial)
 obtain rfl:k=e.steps.length:=by have:=of_decide_eq_false h;omega
 rw[List.take_length]
 obtain⟨G1,G2⟩:=FG (d:=d) (bad:=LC) e.steps F (fun p hp=>hf.kid (Ed.kid_s hp)) (by omega)
 generalize BH (BP d) LC e.steps F=G at *
 try refine A1 ?_
 refine A0 (A3 rfl rfl rfl (A4 rfl (kn rfl) off_32_8) (A3 rfl rfl rfl (A5 rfl (kn rfl) rfl rfl one_30) (A3 rfl rfl rfl (AW rfl (kn rfl) sle_30) (A8 rfl rfl rfl rfl rfl .nil)))) ?_
 try refine A1 ?_
 refine BG (ι:={ k:Nat // k<=(e.keys).length })
  (fun k=>[(1,.is (.int .i64 (BH (BP d) PZ ((e.keys).take k.1) G))),(2,.is (.int .i64 ((d+1:Nat):Int))),(3,.box 3 0),(84,.part (.one (.row 28 (e.keys).length ((e.keys).flatMap CM)))),(85,.is (.int .i64 ((e.keys).length:Int))),(86,.is (.int .i64 (k.1:Int)))])
  (fun _=>[(3,⟨32,bcs (ed e)⟩)]) (fun _=>[]) (fun k=>(e.keys).length-k.1) ⟨0,by omega⟩
  (fun K=>AN ⟨s_t,s_t,s_t,s_t,s_t,s_t,trivial⟩ ⟨s_b,trivial⟩ trivial) ?_
 rintro⟨k,hk⟩
 dsimp only at hk ⊢
 try refine A1 ?_
 refine A0 (A3 rfl rfl rfl (A9 rfl (kn rfl) (kn rfl) BJ) .nil) ?_
 try refine A1 ?_
 refine AE rfl (fun h=>?_) (fun h=>?_)
 ·have hlt:k<(e.keys).length:=by have:=of_decide_eq_true h;omega
  obtain⟨x,hx⟩:∃ x,(e.keys)[k]?=some x:=⟨_,List.getElem?_eq_getElem hlt⟩
  have mx:=List.mem_of_getElem? hx
  have htk:=F0 (g:=BP d) (bad:=PZ) (l:=G) hx
  obtain⟨b1,b2⟩:=FG (d:=d) (bad:=PZ) ((e.keys).take k) G (fun p hp=>hf.kid (Ed.kid_k (List.mem_of_mem_take hp))) (by omega)
  try refine A1 ?_
  refine AI ?_
  refine AK (AQ rfl (kn rfl) (kn rfl) (by omega) hx CS sle_30 esz_30 (CN x)) ?_
  refine AK (AS rfl (kn rfl) agg_65 sz_65) ?_
  refine BD 12 [.is (.int .i64 0),.is (.int .u64 0),.is (.string ⟨#[]⟩),.is (.slice none 0 0),.is (.string ⟨#[]⟩),.is (.slice none 0 0),.is (.slice none 0 0),.is (.int .i64 0),.is (.int .i64 0),.is (.int .u64 0),.is (.string ⟨#[]⟩),.is (.slice none 0 0),.is (.string ⟨#[]⟩),.is (.slice none 0 0),.is (.slice none 0 0),.is (.int .i64 0),.is (.int .u64 0),.is (.string ⟨#[]⟩),.is (.slice none 0 0),.is (.string ⟨#[]⟩),.is (.slice none 0 0),.is (.slice none 0 0),.is (.slice none 0 0),.is (.bool false),.is (.string ⟨#[]⟩),.is (.string ⟨#[]⟩),.is (.slice none 0 0),.is (.slice none 0 0)] rfl rfl rfl rfl zr_65 (fun w D M V=>⟨rfl,fun j x v h1 h2=>BC _ h1 h2 rfl⟩) rfl rfl rfl rfl ?_
  refine B6 rfl rfl rfl (kn rfl) rfl (kn rfl) rfl rfl sz_65 ?_
  refine AH ?_
  try refine A1 ?_
  refine A0 (A8 rfl rfl rfl rfl rfl (A3 rfl rfl rfl (A9 rfl (kn rfl) (kn rfl) D7) (A8 rfl rfl rfl rfl rfl (Walk.gd _ rfl rfl rfl (fun h=>A4 rfl (kn rfl) off_65_0) (Walk.gd _ rfl rfl rfl (fun h=>AB (ds:=[_,_,_,_,_,_,_]) 7 rfl (A2 rfl h) rfl rfl agg_27 sz_27 rfl) (Walk.gd _ rfl rfl rfl (fun h=>AG rfl (by kernel_rfl) (IQ x.1 20 (k4 x mx) (by decide) (by decide)) ⟨(A2 rfl h),⟨(kn rfl),trivial⟩⟩) (A3 rfl rfl rfl (AP rfl (kn rfl) (fun hb=>A2 rfl hb)) .nil))))))) ?_
  try refine A1 ?_
  refine AE rfl (fun h2=>?_) (fun h2=>?_)
  ·have h3:=(Bool.and_eq_true _ _).mp h2
   rw[JM hx (of_decide_eq_true h3.1) h3.2]at q
   try refine A1 ?_
   refine A0 (AC rfl rfl rfl rfl rfl .nil) ?_
   try refine A1 ?_
   exact A7 rfl rfl (.tmp (kn rfl) (.nil)) (Imp.of_eq (by rw[q];rfl)) rfl
  have h3:0<=BH (BP d) PZ (e.keys.take k) G->PZ x.1=false:=fun h3=>((Bool.and_eq_false_iff).mp h2).resolve_left (by rw[decide_eq_true h3];decide)
  try refine A1 ?_
  refine A0 (A8 rfl rfl rfl rfl rfl (A3 rfl rfl rfl (A9 rfl (kn rfl) (kn rfl) D7) .nil)) ?_
  try refine A1 ?_
  refine AE rfl (fun h2=>?_) (fun h2=>?_)
  ·have h4:=of_decide_eq_true h2
   have h5:=h3 h4
   try refine A1 ?_
   refine A0 (A3 rfl rfl rfl (A4 rfl (kn rfl) off_65_1) (A3 rfl rfl rfl (AB (ds:=[_,_,_,_,_,_,_,_,_,_,_,_,_,_,_,_,_,_,_,_,_]) 21 rfl (kn rfl) rfl rfl agg_32 sz_32 rfl) (A8 rfl rfl rfl rfl rfl (A8 rfl rfl rfl rfl rfl (A3 rfl rfl rfl (A9 rfl (kn rfl) (kn rfl) (LE d hd)) (A3 rfl rfl rfl (AG rfl (by kernel_rfl) (ih x.2 _ (hf.kid (Ed.kid_k mx)) h4 (by omega)) ⟨(kn rfl),⟨(kn rfl),⟨(kn rfl),trivial⟩⟩⟩) (AC rfl rfl rfl rfl rfl .nil))))))) ?_
   try refine A1 ?_
   try refine A1 ?_
   refine A0 (A3 rfl rfl rfl (A9 rfl (kn rfl) (kn rfl) (AO (by first | omega | (dsimp only;omega)))) (A8 rfl rfl rfl rfl rfl .nil)) ?_
   try refine A1 ?_
   refine AT ⟨k+1,by omega⟩ (by dsimp only;omega) (fun K=>AN ⟨⟨_,rfl,Imp.of_eq (by rw[htk,if_pos h4,h5,if_neg (by decide)])⟩,s_t,s_t,s_t,s_t,s_t,trivial⟩ ⟨s_b,trivial⟩ trivial)
  have h4:=of_decide_eq_false h2
  try refine A1 ?_
  refine A0 (A3 rfl rfl rfl (A9 rfl (kn rfl) (kn rfl) (AO (by first | omega | (dsimp only;omega)))) (A8 rfl rfl rfl rfl rfl .nil)) ?_
  try refine A1 ?_
  refine AT ⟨k+1,by omega⟩ (by dsimp only;omega) (fun K=>AN ⟨⟨_,rfl,Imp.of_eq (by rw[htk,if_neg h4])⟩,s_t,s_t,s_t,s_t,s_t,trivial⟩ ⟨s_b,trivial⟩ trivial)
 obtain rfl:k=e.keys.length:=by have:=of_decide_eq_false h;omega
 rw[List.take_length,<- q]
 try refine A1 ?_
 refine A0 (A8 rfl rfl rfl rfl rfl (AC rfl rfl rfl rfl rfl .nil)) ?_
 try refine A1 ?_
 exact A7 rfl rfl (.tmp (kn rfl) (.nil)) (Imp.of_eq rfl) rfl
theorem MX:∀ d:Nat,d<=1000->EGr d
 | 0,_=>PW
 | d+1,h=>PB d (by omega) (MX d (by omega))
theorem V8(e:Ed)(hf:e.Fine):EF Try.prog [] 7 [.many (ed e),iP 80] (.part (tP (X8 e))):=by
 refine AF 9 Try.func7 rfl rfl rfl fun w D=>?_
 try refine A1 ?_
 refine AI ?_
 refine BS 2 rfl rfl rfl rfl (kn rfl) rfl rfl rfl rfl ?_
 refine C7 ?_
 refine AH ?_
 try refine A1 ?_
 refine A0 (A3 rfl rfl rfl (AB (ds:=[_,_,_,_,_,_,_,_,_,_,_,_,_,_,_,_,_,_,_,_,_]) 21 rfl (kn rfl) rfl rfl agg_32 sz_32 rfl) (A8 rfl rfl rfl rfl rfl (A3 rfl rfl rfl (AG rfl (by kernel_rfl) (MX 20 (by decide) e 80 hf (by decide) (by decide)) ⟨(kn rfl),⟨(kn rfl),⟨(kn rfl),trivial⟩⟩⟩) (A3 rfl rfl rfl (A9 rfl (kn rfl) (kn rfl) BJ) (AC rfl rfl rfl rfl rfl .nil))))) ?_
 try refine A1 ?_
 exact A7 rfl rfl (.tmp (kn rfl) (.nil)) (Imp.of_eq rfl) rfl
structure Vl.Good (v:Vl):Prop where
 fine:v.Fine
 tx:v.Tx
 nodes:vnodes v<=1000
def WL(n:Nat):Vl:=.mk 1 n [] [] [] [] []
theorem SD(k:Int)(n:Nat)(h1 : -9223372036854775808<=k)(h2:k<9223372036854775808)(h3:n<18446744073709551616):(Vl.mk k n [] [] [] [] []).Fine:=
 .mk _ h1 h2 h3 (Nat.zero_le _) (Nat.zero_le _) (Nat.zero_le _) (Nat.zero_le _) (Nat.zero_le _) (fun _ h=>by cases h) (fun _ h=>by cases h) (fun _ h=>by cases h) (fun _ h=>by cases h) (fun _ h=>by cases h)
theorem MM(k:Int)(n:Nat)(h1 : -9223372036854775808<=k)(h2:k<9223372036854775808)(h3:n<18446744073709551616):(Vl.mk k n [] [] [] [] []).Good:=
 ⟨SD k n h1 h2 h3,.mk _ (Nat.zero_le _) (Nat.zero_le _) (fun _ h=>by cases h),by rw[CE];simp[Vl.list,Vl.fields,Vl.pairs,lnodes,fnodes,pnodes]⟩
end Go.Proofs.Ytecfdcdkkgmkpaa
