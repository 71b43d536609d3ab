/- Part 14. Conditions: as each theorem says. -/
import Derived.Test.YtecfdcdkkgmkpaaIO13
import Derived.Test.YtecfdcdkkgmkpaaProg
set_option maxRecDepth 100000
namespace Go.Proofs.Ytecfdcdkkgmkpaa
open Go.RowKit
section
section
variable{P:Program}{cx:Cx}{T:TL}{B:BL}{R:RL}{o:Oper}
theorem Upon.imp{M:Nat->Nat}{V:Nat->Value}{w:World}{y y':IV}(hi:∀ (w:World) (D:Nat->Prop) (v:Value),VR w D M V y v->VR w D M V y' v){r:Result Next}(h:Upon P cx B R M V w y r):Upon P cx B R M V w y' r:=by
 cases r with
 | halt x w'=>exact h
 | ok n w'=>
  cases n with
  | value v=>exact⟨h.1,hi _ _ _ h.2⟩
  | skip=>exact⟨h.1,hi _ _ _ h.2⟩
  | enter f args=>exact⟨h.1,h.2.mono fun e w'' ⟨v,h1,h2,h3⟩=>⟨v,h1,h2,hi _ _ _ h3⟩⟩
  | _=>exact h
abbrev atP(r:Nat)(v0:Value)(j:Nat):IV:=.via r fun a u=>AtV j a u/\a=v0
theorem LStep.pin{t r:Nat}{x y y':IV}{p:Value->Value->Prop}{v0:Value}(hm:.tmp t∈o.op.operands)(hx:lk t T=some (.via r fun a u=>p a u/\a=v0))(hxi:∀ (w:World) (D:Nat->Prop) (M:Nat->Nat) (V:Nat->Value) (u:Value),p (V r) u->VR w D M V x u)(h:LStep P cx B R o ((t,x)::T) y)
  (hy:∀ (w:World) (D:Nat->Prop) (M:Nat->Nat) (V:Nat->Value) (u:Value),V r=v0->VR w D M V y u->VR w D M V y' u):LStep P cx B R o T y':=fun M V w a hh ht=>by
 have h1:p (V r) (a.tmps.getD t undef)/\V r=v0:=ht t _ hm hx
 exact(h M V w a hh fun s z hs hz=>by
  rcases AK hz with⟨rfl,rfl⟩ | ⟨_,hz⟩
  ·grind
  grind).imp fun w D v hv=>hy w D M V v h1.2 hv
theorem I6{x i:Nat}{t:TypeId}{r ty k n:Nat}{ds:List Dat}{v0:Value}{z:Int}{kk:IntKind}(ho:o.op=.indexAddr t (.tmp x) (.tmp i))(hx:lk x T=some (atv r v0))(hr:lk r R=some ⟨ty,k,n,ds,false⟩)(hi:lk i T=some (.is (.int kk z)))(hne:Nat.beq x i=false)(hz:0<=z/\z<(n:Int))(ht:P.underlying t=some (.slice (P.elem t)))(hs:sizeT P (P.elem t)=some k)(hty:Nat.blt ty 1000000=true:=by rfl):LStep P cx B R o T (atP r v0 (z.toNat*k)):=
 LStep.pin (t:=x) (x:=.own r) (p:=fun a u=>u=a) (by simp[ho,Op.operands]) hx (fun _ _ _ _ _ h=>h) (HK (z:=z) (kk:=kk) ho (kn (BG _ _ _)) hr (kn ((AX _ _ (fun e=>by grind)).trans hi)) hz ht hs hty) (fun _ _ _ _ _ e h=>⟨h,e⟩)
theorem K0{x:Nat}{t:TypeId}{f off r j:Nat}{v0:Value}(ho:o.op=.fieldAddr t (.tmp x) f)(hx:lk x T=some (atP r v0 j))(h:BR P t f=some off):LStep P cx B R o T (atP r v0 (j+off)):=
 LStep.pin (t:=x) (x:=.via r (AtV j)) (p:=AtV j) (by grind[Op.operands]) hx (fun _ _ _ _ _ h=>h) (AZ ho (kn (BG _ _ _)) h) (fun _ _ _ _ _ e h=>⟨h,e⟩)
theorem EGp.any{gls:List (Nat×List Value)}{f:FuncId}{xs:List IV}{p:List (Nat×Value)}{b:Nat}{Y:Nat->IV->BL->RL->List (Nat×Value)->Prop}(h:∀ g,EGp P gls f xs B R p (fun M=>M b=g) (Y g)):EGp P gls f xs B R p (fun _=>True) (fun y B1 R1 p1=>∃ g,Y g y B1 R1 p1):=fun w D M V vs n hh hv _ hp=>
 (h (M b) w D M V vs n hh hv rfl hp).mono fun e w' ⟨v,y,B1,R1,p1,M1,V1,a1,a2,a3,a4,a5⟩=>⟨v,y,B1,R1,p1,M1,V1,a1,⟨_,a2⟩,a3,a4,a5⟩
end
end
section
section
variable{P:Program}{cx:Cx}{T0:TL}{B0:BL}{R0:RL}{ops:Array Oper}{Q:Exit->Act->World->Prop}{deps:List (List Nat)}{es:List (Nat×Nat×IV)}{bs:List (Nat×Nat×Bx)}{rs:List (Nat×Nat×Rw)}
def AllStepsS(P:Program)(cx:Cx)(T0:TL)(B0:BL)(R0:RL)(ops:Array Oper)(Q:Exit->Act->World->Prop)(es:List (Nat×Nat×IV))(bs:List (Nat×Nat×Bx))(rs:List (Nat×Nat×Rw)):List (List Bool×Nat)->Prop
 | []=>True
 | (L,i)::r=>(∀ K,E cx (BZ (L.set i true) [] es++T0) (BZ (L.set i true) [] bs++B0) (BZ (L.set i true) [] rs++R0) K->E cx (BZ L [] es++T0) (BZ L [] bs++B0) (BZ L [] rs++R0) (wpOp P ops Q i K))/\AllStepsS P cx T0 B0 R0 ops Q es bs rs r
theorem AllStepsS.get:∀ {st:List (List Bool×Nat)} (_:AllStepsS P cx T0 B0 R0 ops Q es bs rs st) {L:List Bool} {i:Nat},(L,i)∈st -> ∀ K,E cx (BZ (L.set i true) [] es++T0) (BZ (L.set i true) [] bs++B0) (BZ (L.set i true) [] rs++R0) K->E cx (BZ L [] es++T0) (BZ L [] bs++B0) (BZ L [] rs++R0) (wpOp P ops Q i K)
 | (L',j)::r,h,L,i,hm=>by
  rcases List.mem_cons.1 hm with e | hm
  ·injection e with e1 e2
   subst e1 e2
   exact h.1
  ·exact AllStepsS.get h.2 hm
 | [],_,_,_,hm=>by cases hm
theorem S7{L0 full:List Bool}{reach:List (List Bool)}{steps:List (List Bool×Nat)}(hd:GC ops=deps)(hB:UX deps L0 full reach steps=true)(hs:AllStepsS P cx T0 B0 R0 ops Q es bs rs steps)(hend:E cx (BZ full [] es++T0) (BZ full [] bs++B0) (BZ full [] rs++R0) (Q .normal)):
  ∀ (m:Nat) (L:List Bool),L.count false=m->L∈reach->E cx (BZ L [] es++T0) (BZ L [] bs++B0) (BZ L [] rs++R0) (wpAny P .any ops Q m L.toArray):=by
 simp only[UX,Bool.and_eq_true]at hB
 have hall:=List.all_eq_true.1 hB.2
 intro m
 induction m with
 | zero=>
  intro L hm hL
  have h:=hall L hL
  cases hf:(L==full)with
  | true=>
   simp_all[WP]
  | false=>
   rw[hf]at h
   simp only[cond_false,Bool.and_eq_true]at h
   cases hr:CX L 0 deps with
   | nil=>grind
   | cons i is=>
    grind
 | succ m ih=>
  intro L hm hL
  have h:=hall L hL
  cases hf:(L==full)with
  | true=>
   grind
  | false=>
   rw[hf]at h
   simp only[cond_false,Bool.and_eq_true,Bool.not_eq_true']at h
   refine WX hd h.1 (AnyE.of fun i hi=>?_)
   have h2:=List.all_eq_true.1 h.2 i hi
   simp only[Bool.and_eq_true,beq_iff_eq,List.contains_iff_mem]at h2
   exact hs.get h2.1.1 _ (ih _ (by omega) h2.1.2)
theorem HD{id:Nat}{l:List Oper}(n:Nat)(deps:List (List Nat))(reach:List (List Bool))(steps:List (List Bool×Nat))(es:List (Nat×Nat×IV))(bs:List (Nat×Nat×Bx))(rs:List (Nat×Nat×Rw)){T:TL}{B:BL}{R:RL}(T0:TL)(B0:BL)(R0:RL)(hd:GC l.toArray=deps)(hn:l.toArray.size=n)(hm:P.follows .mixedOrders=true)(hB:UX deps (List.replicate n false) (List.replicate n true) reach steps=true)(hc:(List.replicate n false).count false=n)
  (h0:∀ K,E cx (BZ (List.replicate n false) [] es++T0) (BZ (List.replicate n false) [] bs++B0) (BZ (List.replicate n false) [] rs++R0) K->E cx T B R K) (hs:AllStepsS P cx T0 B0 R0 l.toArray Q es bs rs steps) (hend:E cx (BZ (List.replicate n true) [] es++T0) (BZ (List.replicate n true) [] bs++B0) (BZ (List.replicate n true) [] rs++R0) (Q .normal)):E cx T B R ((Code.region id l.toArray true).wp P Q):=by
 refine QN n _ deps hd hn hm rfl fun _=>h0 _ ?_
 refine S7 hd hB hs hend n _ hc ?_
 simp_all[UX]
def ddT:List Nat->TL->TL
 | _,[]=>[]
 | sn,(j,x)::l=>bif sn.any fun c=>Nat.beq c j then ddT sn l else(j,x)::ddT (j::sn) l
theorem QT:∀ (l:TL) (sn:List Nat) (b:Nat),b∉sn->lk b (ddT sn l)=lk b l
 | [],_,_,_=>rfl
 | (j,x)::l,sn,b,hb=>by
  unfold ddT
  cases h:sn.any fun c=>Nat.beq c j with
  | true=>
   obtain⟨c,hc,e⟩:=List.any_eq_true.1 h
   have e':c=j:=Nat.eq_of_beq_eq_true e
   have hj:j≠b:=fun e2=>hb (by grind)
   rw[cond_true,QT l sn b hb,AX _ _ hj]
  | false=>
   rw[cond_false]
   by_cases hj:j=b
   ·grind[BG]
   ·rw[AX _ _ hj,AX _ _ hj]
    exact QT l (j::sn) b fun h2=>by
     grind
theorem RR{T:TL}{B:BL}{R:RL}{K:Act->World->Prop}(hE:E cx T B R K):E cx (ddT [] T) B R K:=fun M V a w hr=>hE M V a w ⟨hr.size,hr.defers,hr.heap,fun t x hx=>hr.tmp t x (by grind[QT])⟩
end
end
section
variable{P:Program}{cx:Cx}{T T':TL}{B:BL}{R:RL}{o:Oper}{M:Nat->Nat}{V:Nat->Value}{Φ:(Nat->Value)->Prop}
def LStepV(Φ:(Nat->Value)->Prop)(P:Program)(cx:Cx)(B:BL)(R:RL)(o:Oper)(T:TL)(y:IV):Prop:=
 ∀ (M:Nat->Nat) (V:Nat->Value) (w:World) (a:Act),Φ V->HR cx B R M V w->(∀ t z,.tmp t∈o.op.operands->lk t T=some z->VR w (Dc cx B R M V w) M V z (a.tmps.getD t undef))->Upon P cx B R M V w y ((execOp a.eval o).run P w)
theorem LStepV.of{y:IV}(h:LStep P cx B R o T y):LStepV Φ P cx B R o T y:=fun M V w a _=>h M V w a
inductive WalkV (Φ:(Nat->Value)->Prop) (P:Program) (cx:Cx) (B:BL) (R:RL) (ops:Array Oper):List Oper->TL->List IV->TL->Prop
 | nil {T:TL}:WalkV Φ P cx B R ops [] T [] T
 | op {o:Oper} {d:Nat} {l:List Oper} {T T':TL} {y:IV} {ys:List IV}:o.guard=none->o.dst=some d->Nat.blt d cx.n=true->LStepV Φ P cx B R o T y->WalkV Φ P cx B R ops l ((d,y)::T) ys T'->WalkV Φ P cx B R ops (o::l) T (y::ys) T'
 | gd (g:Bool) {o:Oper} {d:Nat} {l:List Oper} {T T':TL} {y:IV} {ys:List IV}:gk ops T o=some g->o.dst=some d->Nat.blt d cx.n=true->(g=true->LStepV Φ P cx B R o T y)->WalkV Φ P cx B R ops l ((d,.opt g y)::T) ys T'->WalkV Φ P cx B R ops (o::l) T (.opt g y::ys) T'
theorem J0{C:World->Prop}{ops:Array Oper}{y:IV}{G:List C6}{a:Act}(hΦ:Φ V)(hC:∀ w,C w->HR cx B R M V w)(hG:Gt cx B R M V C T G a)(h:LStepV Φ P cx B R o T y){w:World}(hc:C w)(hS:Seen ops o G w):
  DQ P Rb o a (CV cx B R M V y) w:=by
 have h1:=h M V w a hΦ (hC w hc) fun t z hm hz=>by
  rcases hG t z hz with h | ⟨_,F,h2,h3⟩
  ·grind
  ·exact h3 w (hS _ h2 t rfl (EN hm))
 have key:∀ {v:Value} {w':World},HR cx B R M V w'->VR w' (Dc cx B R M V w') M V y v->(CV cx B R M V y).ok v/\(CV cx B R M V y).pred v w':=fun{v w'} hh hv=>by
  unfold CV
  cases hw:y.whole with
  | some u=>exact⟨Kind.ok_is.2 (E6 hw hv),trivial⟩
  | none=>exact⟨fun c h=>(by cases h),w',hh,Below.refl _ _,hv⟩
 unfold DQ
 generalize(execOp a.eval o).run P w=r at *
 cases r with
 | halt x w'=>exact h1.elim
 | ok n w'=>
  cases n<;>simp only[Upon]at h1<;>simp only[EK]
  case value u=>exact⟨h1.1,key ((hC w hc).step h1.1) h1.2⟩
  case skip=>exact⟨h1.1,key ((hC w hc).step h1.1) h1.2⟩
  case enter f args=>
   obtain⟨rfl,h1⟩:=h1
   exact h1.mono fun e w'' ⟨v,he,h2,h3⟩=>⟨v,he,h2,key ((hC _ hc).step h2) h3⟩
theorem WalkV.wpT{C:World->Prop}{ops:Array Oper}{Q:List C6->Act->Prop}(hΦ:Φ V)(hC:∀ w,C w->HR cx B R M V w)(hc:∃ w,C w){l:List Oper}{ys:List IV}(hW:WalkV Φ P cx B R ops l T ys T'):
  ∀ {G:List C6} {a:Act},a.tmps.size=cx.n->a.defers=[]->Gt cx B R M V C T G a->(∀ G' a',a'.tmps.size=cx.n->a'.defers=[]->Gt cx B R M V C T' G' a'->Q G' a')->wpT P ops Rb C Q l (ys.map (CV cx B R M V)) G a:=by
 induction hW with
 | nil=>exact fun hn hd hG hQ=>hQ _ _ hn hd hG
 | op hg hd hn hs _ ih=>
  intro G a hsz hdf hG hQ
  refine⟨?_,fun v hv=>?_⟩
  ·unfold AskT
   rw[if_pos (by grind[Region.wanted])]
   grind[J0]
  ·rw[hd]
   exact ih (by simpa[Act.put]using hsz) hdf (hG.put (by simp_all) hv) hQ
 | gd g hg hd hn hs _ ih=>
  intro G a hsz hdf hG hQ
  obtain⟨w0,hw0⟩:=hc
  have hw:=HF hg fun t z v _ hz hv=>by
   rcases hG t z hz with h | ⟨h1,_⟩
   ·exact E6 hv (h w0 hw0)
   grind
  refine⟨?_,fun v hv=>?_⟩
  ·unfold AskT
   rw[hw]
   cases g with
   | true=>
    rw[if_pos rfl]
    refine fun w hc hS=>J0 (Φ:=Φ) hΦ hC hG (fun M V w a hp hh ht=>?_) hc hS
    have h1:=hs rfl M V w a hp hh ht
    revert h1
    generalize(execOp a.eval _).run P w=r
    intro h1
    cases r with
    | halt x w'=>exact h1
    | ok n w'=>
     cases n<;>simp only[Upon]at h1 ⊢
     case value u=>exact⟨h1.1,fun _=>h1.2,fun h=>(by cases h)⟩
     case skip=>exact⟨h1.1,fun _=>h1.2,fun h=>(by cases h)⟩
     case enter f args=>exact⟨h1.1,h1.2.mono fun e w'' ⟨v,he,h3,h4⟩=>⟨v,he,h3,fun _=>h4,fun h=>(by cases h)⟩⟩
   | false=>
    rw[if_neg (by simp)]
    unfold CV
    rw[JA]
    exact⟨Kind.ok_is.2 rfl,fun _=>trivial⟩
  ·rw[hd]
   exact ih (by simpa[Act.put]using hsz) hdf (hG.put (by simp_all) hv) hQ
end
section
variable{P:Program}{cx:Cx}{T:TL}{B:BL}{R:RL}{o:Oper}
theorem C1{x:Operand}{t:TypeId}{ds:List Dat}(es:List Dat)(k:Nat)(ho:o.op=.load t x)(hx:Kn T x (.ref ds))(ht:aggT P t=true)(hn:sizeT P t=some k)(he:ds.take k=es)(hl:es.length=k):LStep P cx B R o T (.part (.many es)):=by
 have h1:k<=ds.length:=by
  rw[<- he,List.length_take]at hl
  omega
 grind[GV]
end
theorem VSm.le{n:Nat}{v:Vl}(h:VSm n v)(hn:n<=80):vnodes v<=1000000:=by have:=h.nodes;omega
def REq(a:Ed):Prop:=∀ b:Ed,b.Sm->EF Try.prog [] 13 [.many (ed a),.many (ed b)] (.part (tP (eeq a b)))
set_option maxHeartbeats 4000000 in
theorem U0(a:Ed)(ha:a.Sm)(ih:∀ x∈a.kids,REq x):REq a:=by
 intro b hb
 have la:=ha.lens
 have lb:=hb.lens
 obtain⟨_,a1,a2,_,_,_,a3,a4⟩:=ha.ok.all
 obtain⟨_,b1,b2,_,_,_,b3,b4⟩:=hb.ok.all
 have q:=TE a b
 refine AH 184 Try.func13 rfl rfl rfl fun w D=>?_
 try refine A2 ?_
 refine AF ?_
 refine BX 2 rfl rfl rfl rfl (kn rfl) rfl rfl rfl rfl ?_
 refine BX 3 rfl rfl rfl rfl (kn rfl) rfl rfl rfl rfl ?_
 refine BY ?_
 refine AD ?_
 try refine A2 ?_
 refine A1 (A4 rfl rfl rfl (A0 rfl (kn rfl) off_45_0) (A4 rfl rfl rfl (A5 rfl (kn rfl) rfl rfl one_3) (A4 rfl rfl rfl (A0 rfl (kn rfl) off_45_0) (A4 rfl rfl rfl (A5 rfl (kn rfl) rfl rfl one_3) (A4 rfl rfl rfl (A6 rfl (kn rfl) (kn rfl) CE) (A9 rfl rfl rfl rfl rfl (Walk.gd _ rfl rfl rfl (fun h=>A0 rfl (kn rfl) off_45_4) (Walk.gd _ rfl rfl rfl (fun h=>A5 rfl (A3 rfl h) rfl rfl one_4) (Walk.gd _ rfl rfl rfl (fun h=>A0 rfl (kn rfl) off_45_4) (Walk.gd _ rfl rfl rfl (fun h=>A5 rfl (A3 rfl h) rfl rfl one_4) (Walk.gd _ rfl rfl rfl (fun h=>A6 rfl (A3 rfl h) (A3 rfl h) (X6 bool_4)) (A4 rfl rfl rfl (DI rfl (kn rfl) (fun hb=>A3 rfl hb)) (A9 rfl rfl rfl rfl rfl (Walk.gd _ rfl rfl rfl (fun h=>A0 rfl (kn rfl) off_45_5) (Walk.gd _ rfl rfl rfl (fun h=>A5 rfl (A3 rfl h) rfl rfl one_9) (Walk.gd _ rfl rfl rfl (fun h=>A0 rfl (kn rfl) off_45_5) (Walk.gd _ rfl rfl rfl (fun h=>A5 rfl (A3 rfl h) rfl rfl one_9) (Walk.gd _ rfl rfl rfl (fun h=>A6 rfl (A3 rfl h) (A3 rfl h) (QM)) (A4 rfl rfl rfl (DI rfl (kn rfl) (fun hb=>A3 rfl hb)) (A9 rfl rfl rfl rfl rfl (Walk.gd _ rfl rfl rfl (fun h=>A0 rfl (kn rfl) off_45_6) (Walk.gd _ rfl rfl rfl (fun h=>A5 rfl (A3 rfl h) rfl rfl one_9) (Walk.gd _ rfl rfl rfl (fun h=>A0 rfl (kn rfl) off_45_6) (Walk.gd _ rfl rfl rfl (fun h=>A5 rfl (A3 rfl h) rfl rfl one_9) (Walk.gd _ rfl rfl rfl (fun h=>A6 rfl (A3 rfl h) (A3 rfl h) (QM)) (A4 rfl rfl rfl (DI rfl (kn rfl) (fun hb=>A3 rfl hb)) (A9 rfl rfl rfl rfl rfl (Walk.gd _ rfl rfl rfl (fun h=>A0 rfl (kn rfl) off_45_1) (Walk.gd _ rfl rfl rfl (fun h=>A7 (ds:=[_,_,_,_,_,_,_]) 7 rfl (A3 rfl h) rfl rfl agg_40 sz_40 rfl) (Walk.gd _ rfl rfl rfl (fun h=>A0 rfl (kn rfl) off_45_1) (Walk.gd _ rfl rfl rfl (fun h=>A7 (ds:=[_,_,_,_,_,_,_]) 7 rfl (A3 rfl h) rfl rfl agg_40 sz_40 rfl) (Walk.gd _ rfl rfl rfl (fun h=>AE rfl (by kernel_rfl) (KC a.old b.old a1.fine b1.fine) ⟨(A3 rfl h),⟨(A3 rfl h),trivial⟩⟩) (Walk.gd _ rfl rfl rfl (fun h=>D1 rfl (A3 rfl h)) (A4 rfl rfl rfl (DI rfl (kn rfl) (fun hb=>A3 rfl hb)) (A9 rfl rfl rfl rfl rfl (Walk.gd _ rfl rfl rfl (fun h=>A0 rfl (kn rfl) off_45_2) (Walk.gd _ rfl rfl rfl (fun h=>A7 (ds:=[_,_,_,_,_,_,_]) 7 rfl (A3 rfl h) rfl rfl agg_40 sz_40 rfl) (Walk.gd _ rfl rfl rfl (fun h=>A0 rfl (kn rfl) off_45_2) (Walk.gd _ rfl rfl rfl (fun h=>A7 (ds:=[_,_,_,_,_,_,_]) 7 rfl (A3 rfl h) rfl rfl agg_40 sz_40 rfl) (Walk.gd _ rfl rfl rfl (fun h=>AE rfl (by kernel_rfl) (KC a.new b.new a2.fine b2.fine) ⟨(A3 rfl h),⟨(A3 rfl h),trivial⟩⟩) (Walk.gd _ rfl rfl rfl (fun h=>D1 rfl (A3 rfl h)) (A4 rfl rfl rfl (DI rfl (kn rfl) (fun hb=>A3 rfl hb)) (A9 rfl rfl rfl rfl rfl (Walk.gd _ rfl rfl rfl (fun h=>A0 rfl (kn rfl) off_45_3) (Walk.gd _ rfl rfl rfl (fun h=>A5 rfl (A3 rfl h) rfl rfl one_41) (Walk.gd _ rfl rfl rfl (fun h=>AT rfl (A3 rfl h) sle_41) (Walk.gd _ rfl rfl rfl (fun h=>A0 rfl (kn rfl) off_45_3) (Walk.gd _ rfl rfl rfl (fun h=>A5 rfl (A3 rfl h) rfl rfl one_41) (Walk.gd _ rfl rfl rfl (fun h=>AT rfl (A3 rfl h) sle_41) (Walk.gd _ rfl rfl rfl (fun h=>A6 rfl (A3 rfl h) (A3 rfl h) CE) (A4 rfl rfl rfl (DI rfl (kn rfl) (fun hb=>A3 rfl hb)) (A9 rfl rfl rfl rfl rfl (Walk.gd _ rfl rfl rfl (fun h=>A0 rfl (kn rfl) off_45_7) (Walk.gd _ rfl rfl rfl (fun h=>A5 rfl (A3 rfl h) rfl rfl one_42) (Walk.gd _ rfl rfl rfl (fun h=>AT rfl (A3 rfl h) sle_42) (Walk.gd _ rfl rfl rfl (fun h=>A0 rfl (kn rfl) off_45_7) (Walk.gd _ rfl rfl rfl (fun h=>A5 rfl (A3 rfl h) rfl rfl one_42) (Walk.gd _ rfl rfl rfl (fun h=>AT rfl (A3 rfl h) sle_42) (Walk.gd _ rfl rfl rfl (fun h=>A6 rfl (A3 rfl h) (A3 rfl h) CE) (A4 rfl rfl rfl (DI rfl (kn rfl) (fun hb=>A3 rfl hb)) (A9 rfl rfl rfl rfl rfl (Walk.gd _ rfl rfl rfl (fun h=>A0 rfl (kn rfl) off_45_8) (Walk.gd _ rfl rfl rfl (fun h=>A5 rfl (A3 rfl h) rfl rfl one_43) (Walk.gd _ rfl rfl rfl (fun h=>AT rfl (A3 rfl h) sle_43) (Walk.gd _ rfl rfl rfl (fun h=>A0 rfl (kn rfl) off_45_8) (Walk.gd _ rfl rfl rfl (fun h=>A5 rfl (A3 rfl h) rfl rfl one_43) (Walk.gd _ rfl rfl rfl (fun h=>AT rfl (A3 rfl h) sle_43) (Walk.gd _ rfl rfl rfl (fun h=>A6 rfl (A3 rfl h) (A3 rfl h) CE) (A4 rfl rfl rfl (DI rfl (kn rfl) (fun hb=>A3 rfl hb)) .nil))))))))))))))))))))))))))))))))))))))))))))))))))))))))))))))))))))) ?_
 try refine A2 ?_
 refine AA rfl (fun h=>?_) (fun h=>?_)
 ·have e:eeq a b=false:=by
   rw[q]
   simp only[Bool.or_eq_true,Bool.not_eq_true',decide_eq_false_iff_not,bne_iff_ne]at h
   rcases h with(((((((h | h) | h) | h) | h) | h) | h) | h) | h
   ·simp[EE,h]
   ·simp[EE,h]
   ·simp[EE,h]
   ·simp[EE,h]
   ·simp[EE,CQ,h]
   ·simp[EE,CQ,h]
   ·rw[IR (l:=a.fields) (m:=b.fields) (by omega)];simp
   ·rw[IR (l:=a.steps) (m:=b.steps) (by omega)];simp
   ·rw[IR (l:=a.keys) (m:=b.keys) (by omega)];simp
  try refine A2 ?_
  refine A1 (AC rfl rfl rfl rfl rfl .nil) ?_
  try refine A2 ?_
  exact A8 rfl rfl (.tmp (kn rfl) (.nil)) (Imp.of_eq (by rw[e];rfl)) rfl
 simp only[Bool.or_eq_false_iff,Bool.not_eq_false',decide_eq_true_eq,bne_eq_false_iff_eq]at h
 obtain⟨⟨⟨⟨⟨⟨⟨⟨g1,g2⟩,g3⟩,g4⟩,g5⟩,g6⟩,g7⟩,g8⟩,g9⟩:=h
 have g7:a.fields.length=b.fields.length:=by omega
 have g8:a.steps.length=b.steps.length:=by omega
 have g9:a.keys.length=b.keys.length:=by omega
 rw[show EE a b=true by simp[EE,CQ,g1,g2,g3,g4,g5,g6],Bool.true_and]at q
 try refine A2 ?_
 refine A1 (A4 rfl rfl rfl (A0 rfl (kn rfl) off_45_3) (A4 rfl rfl rfl (A5 rfl (kn rfl) rfl rfl one_41) (A4 rfl rfl rfl (AT rfl (kn rfl) sle_41) (A9 rfl rfl rfl rfl rfl .nil)))) ?_
 try refine A2 ?_
 refine BB (ι:={ k:Nat // k<=(a.fields).length/\DL L8 (a.fields) (b.fields)=DL L8 ((a.fields).drop k) ((b.fields).drop k) })
  (fun k=>[(2,.box 2 0),(3,.box 3 0),(82,.part (.one (.row 22 (a.fields).length ((a.fields).flatMap D3)))),(83,.is (.int .i64 ((a.fields).length:Int))),(84,.is (.int .i64 (k.1:Int)))])
  (fun _=>[(2,⟨45,bcs (ed a)⟩),(3,⟨45,bcs (ed b)⟩)]) (fun _=>[]) (fun k=>(a.fields).length-k.1) ⟨0,by omega,rfl⟩
  (fun K=>AM ⟨s_t,s_t,s_t,s_t,s_t,trivial⟩ ⟨s_b,s_b,trivial⟩ trivial) ?_
 rintro⟨k,hk,hw⟩
 dsimp only at hk hw ⊢
 try refine A2 ?_
 refine A1 (A4 rfl rfl rfl (A6 rfl (kn rfl) (kn rfl) B7) .nil) ?_
 try refine A2 ?_
 refine AA rfl (fun h=>?_) (fun h=>?_)
 ·have hlt:k<(a.fields).length:=by have:=of_decide_eq_true h;omega
  obtain⟨x,hx⟩:∃ x,(a.fields)[k]?=some x:=⟨_,List.getElem?_eq_getElem hlt⟩
  obtain⟨y,hy⟩:∃ y,(b.fields)[k]?=some y:=⟨_,List.getElem?_eq_getElem (by omega)⟩
  have mx:=List.mem_of_getElem? hx
  have my:=List.mem_of_getElem? hy
  have hs:=JD hx hy hw
  try refine A2 ?_
  refine AF ?_
  refine BA ?_
  refine AG (AL rfl (kn rfl) (kn rfl) (by omega) hx CO sle_41 esz_41 (CD x)) ?_
  refine AG (AJ rfl (kn rfl) agg_63 sz_63) ?_
  refine AV 6 [.is (.int .i64 0),.is (.int .i64 0),.is (.int .i64 0),.is (.int .u64 0),.is (.string ⟨#[]⟩),.is (.slice none 0 0),.is (.string ⟨#[]⟩),.is (.slice none 0 0),.is (.slice none 0 0),.is (.int .i64 0),.is (.int .u64 0),.is (.string ⟨#[]⟩),.is (.slice none 0 0),.is (.string ⟨#[]⟩),.is (.slice none 0 0),.is (.slice none 0 0),.is (.slice none 0 0),.is (.bool false),.is (.string ⟨#[]⟩),.is (.string ⟨#[]⟩),.is (.slice none 0 0),.is (.slice none 0 0)] rfl rfl rfl rfl zr_63 (fun w D M V=>⟨rfl,fun j x v h1 h2=>AU _ h1 h2 rfl⟩) rfl rfl rfl rfl ?_
  refine BY ?_
  refine AP rfl rfl rfl (kn rfl) rfl (kn rfl) rfl rfl sz_63 ?_
  refine AD ?_
  try refine A2 ?_
  refine CT C5 (by kernel_rfl) (A4 rfl rfl rfl (A0 rfl (kn rfl) off_63_0) (A4 rfl rfl rfl (A5 rfl (kn rfl) rfl rfl one_3) (A4 rfl rfl rfl (A0 rfl (kn rfl) off_45_3) (A4 rfl rfl rfl (A5 rfl (kn rfl) rfl rfl one_41) (A9 rfl rfl rfl rfl rfl (A4 rfl rfl rfl (AL rfl (kn rfl) (kn rfl) (by omega) hy CO sle_41 esz_41 (CD y)) (A4 rfl rfl rfl (AB rfl (kn rfl) off_63_0) (A4 rfl rfl rfl (AI rfl (kn rfl) one_3) (A4 rfl rfl rfl (A6 rfl (kn rfl) (kn rfl) CE) (A9 rfl rfl rfl rfl rfl (Walk.gd _ rfl rfl rfl (fun h=>A0 rfl (kn rfl) off_63_1) (Walk.gd _ rfl rfl rfl (fun h=>A7 (ds:=[_,_,_,_,_,_,_,_,_,_,_,_,_,_,_,_,_,_,_,_,_]) 21 rfl (A3 rfl h) rfl rfl agg_45 sz_45 rfl) (Walk.gd _ rfl rfl rfl (fun h=>A0 rfl (kn rfl) off_45_3) (Walk.gd _ rfl rfl rfl (fun h=>A5 rfl (A3 rfl h) rfl rfl one_41) (Walk.gd _ rfl rfl rfl (fun h=>AW rfl (kn rfl)) (Walk.gd _ rfl rfl rfl (fun h=>AL rfl (A3 rfl h) (A3 rfl h) (by omega) hy CO sle_41 esz_41 (CD y)) (Walk.gd _ rfl rfl rfl (fun h=>AB rfl (A3 rfl h) off_63_1) (Walk.gd _ rfl rfl rfl (fun h=>AJ rfl (A3 rfl h) agg_45 sz_45) (Walk.gd _ rfl rfl rfl (fun h=>AE rfl (by kernel_rfl) (ih x.2 (Ed.kid_f mx) y.2 (hb.kid (Ed.kid_f my))) ⟨(A3 rfl h),⟨(A3 rfl h),trivial⟩⟩) (Walk.gd _ rfl rfl rfl (fun h=>D1 rfl (A3 rfl h)) (A4 rfl rfl rfl (DI rfl (kn rfl) (fun hb=>A3 rfl hb)) .nil))))))))))))))))))))) ?_
  try refine A2 ?_
  refine AA rfl (fun h1=>?_) (fun h1=>?_)
  ·have e:eeq a b=false:=by
    rw[q,hs]
    simp only[Bool.or_eq_true,Bool.not_eq_true',decide_eq_false_iff_not]at h1
    rcases h1 with h1 | h1<;>simp[h1]
   try refine A2 ?_
   refine A1 (AC rfl rfl rfl rfl rfl .nil) ?_
   try refine A2 ?_
   exact A8 rfl rfl (.tmp (kn rfl) (.nil)) (Imp.of_eq (by rw[e];rfl)) rfl
  simp only[Bool.or_eq_false_iff,Bool.not_eq_false',decide_eq_true_eq]at h1
  rw[show L8 x y=true by simp[h1.1,h1.2],Bool.true_and]at hs
  try refine A2 ?_
  refine A1 (A4 rfl rfl rfl (A6 rfl (kn rfl) (kn rfl) (AS (by first | omega | (dsimp only;omega)))) (A9 rfl rfl rfl rfl rfl .nil)) ?_
  try refine A2 ?_
  refine AR ⟨k+1,by omega,hs⟩ (by dsimp only;omega) (fun K=>AM ⟨s_t,s_t,s_t,s_t,s_t,trivial⟩ ⟨s_b,s_b,trivial⟩ trivial)
 rw[LN g7 (by have:=of_decide_eq_false h;omega) hw,Bool.true_and]at q
 try refine A2 ?_
 refine A1 (A4 rfl rfl rfl (A0 rfl (kn rfl) off_45_7) (A4 rfl rfl rfl (A5 rfl (kn rfl) rfl rfl one_42) (A4 rfl rfl rfl (AT rfl (kn rfl) sle_42) (A9 rfl rfl rfl rfl rfl .nil)))) ?_
 try refine A2 ?_
 refine BB (ι:={ k:Nat // k<=(a.steps).length/\DL PB (a.steps) (b.steps)=DL PB ((a.steps).drop k) ((b.steps).drop k) })
  (fun k=>[(2,.box 2 0),(3,.box 3 0),(112,.part (.one (.row 30 (a.steps).length ((a.steps).flatMap B5)))),(113,.is (.int .i64 ((a.steps).length:Int))),(114,.is (.int .i64 (k.1:Int)))])
  (fun _=>[(2,⟨45,bcs (ed a)⟩),(3,⟨45,bcs (ed b)⟩)]) (fun _=>[]) (fun k=>(a.steps).length-k.1) ⟨0,by omega,rfl⟩
  (fun K=>AM ⟨s_t,s_t,s_t,s_t,s_t,trivial⟩ ⟨s_b,s_b,trivial⟩ trivial) ?_
 rintro⟨k,hk,hw⟩
 dsimp only at hk hw ⊢
 try refine A2 ?_
 refine A1 (A4 rfl rfl rfl (A6 rfl (kn rfl) (kn rfl) B7) .nil) ?_
 try refine A2 ?_
 refine AA rfl (fun h=>?_) (fun h=>?_)
 ·have hlt:k<(a.steps).length:=by have:=of_decide_eq_true h;omega
  obtain⟨x,hx⟩:∃ x,(a.steps)[k]?=some x:=⟨_,List.getElem?_eq_getElem hlt⟩
  obtain⟨y,hy⟩:∃ y,(b.steps)[k]?=some y:=⟨_,List.getElem?_eq_getElem (by omega)⟩
  have mx:=List.mem_of_getElem? hx
  have my:=List.mem_of_getElem? hy
  have hs:=JD hx hy hw
  try refine A2 ?_
  refine AF ?_
  refine BA ?_
  refine AG (AL rfl (kn rfl) (kn rfl) (by omega) hx BK sle_42 esz_42 (BJ x)) ?_
  refine AG (AJ rfl (kn rfl) agg_69 sz_69) ?_
  refine AV 8 [.is (.int .i64 0),.is (.int .i64 0),.is (.int .i64 0),.is (.int .u64 0),.is (.string ⟨#[]⟩),.is (.slice none 0 0),.is (.string ⟨#[]⟩),.is (.slice none 0 0),.is (.slice none 0 0),.is (.int .i64 0),.is (.int .i64 0),.is (.int .u64 0),.is (.string ⟨#[]⟩),.is (.slice none 0 0),.is (.string ⟨#[]⟩),.is (.slice none 0 0),.is (.slice none 0 0),.is (.int .i64 0),.is (.int .u64 0),.is (.string ⟨#[]⟩),.is (.slice none 0 0),.is (.string ⟨#[]⟩),.is (.slice none 0 0),.is (.slice none 0 0),.is (.slice none 0 0),.is (.bool false),.is (.string ⟨#[]⟩),.is (.string ⟨#[]⟩),.is (.slice none 0 0),.is (.slice none 0 0)] rfl rfl rfl rfl zr_69 (fun w D M V=>⟨rfl,fun j x v h1 h2=>AU _ h1 h2 rfl⟩) rfl rfl rfl rfl ?_
  refine BY ?_
  refine AP rfl rfl rfl (kn rfl) rfl (kn rfl) rfl rfl sz_69 ?_
  refine AD ?_
  try refine A2 ?_
  refine AF ?_
  refine AG (A0 rfl (kn rfl) off_45_7) ?_
  refine AG (A5 rfl (kn rfl) rfl rfl one_42) ?_
  refine BA ?_
  refine AG (AL rfl (kn rfl) (kn rfl) (by omega) hy BK sle_42 esz_42 (BJ y)) ?_
  refine AG (AJ rfl (kn rfl) agg_69 sz_69) ?_
  refine AV 9 [.is (.int .i64 0),.is (.int .i64 0),.is (.int .i64 0),.is (.int .u64 0),.is (.string ⟨#[]⟩),.is (.slice none 0 0),.is (.string ⟨#[]⟩),.is (.slice none 0 0),.is (.slice none 0 0),.is (.int .i64 0),.is (.int .i64 0),.is (.int .u64 0),.is (.string ⟨#[]⟩),.is (.slice none 0 0),.is (.string ⟨#[]⟩),.is (.slice none 0 0),.is (.slice none 0 0),.is (.int .i64 0),.is (.int .u64 0),.is (.string ⟨#[]⟩),.is (.slice none 0 0),.is (.string ⟨#[]⟩),.is (.slice none 0 0),.is (.slice none 0 0),.is (.slice none 0 0),.is (.bool false),.is (.string ⟨#[]⟩),.is (.string ⟨#[]⟩),.is (.slice none 0 0),.is (.slice none 0 0)] rfl rfl rfl rfl zr_69 (fun w D M V=>⟨rfl,fun j x v h1 h2=>AU _ h1 h2 rfl⟩) rfl rfl rfl rfl ?_
  refine AP rfl rfl rfl (kn rfl) rfl (kn rfl) rfl rfl sz_69 ?_
  refine AD ?_
  try refine A2 ?_
  refine A1 (A4 rfl rfl rfl (A0 rfl (kn rfl) off_69_0) (A4 rfl rfl rfl (A5 rfl (kn rfl) rfl rfl one_3) (A4 rfl rfl rfl (A0 rfl (kn rfl) off_69_0) (A4 rfl rfl rfl (A5 rfl (kn rfl) rfl rfl one_3) (A4 rfl rfl rfl (A6 rfl (kn rfl) (kn rfl) CE) (A9 rfl rfl rfl rfl rfl (Walk.gd _ rfl rfl rfl (fun h=>A0 rfl (kn rfl) off_69_1) (Walk.gd _ rfl rfl rfl (fun h=>A5 rfl (A3 rfl h) rfl rfl one_3) (Walk.gd _ rfl rfl rfl (fun h=>A0 rfl (kn rfl) off_69_1) (Walk.gd _ rfl rfl rfl (fun h=>A5 rfl (A3 rfl h) rfl rfl one_3) (Walk.gd _ rfl rfl rfl (fun h=>A6 rfl (A3 rfl h) (A3 rfl h) CE) (A4 rfl rfl rfl (DI rfl (kn rfl) (fun hb=>A3 rfl hb)) (A9 rfl rfl rfl rfl rfl (Walk.gd _ rfl rfl rfl (fun h=>A0 rfl (kn rfl) off_69_2) (Walk.gd _ rfl rfl rfl (fun h=>A7 (ds:=[_,_,_,_,_,_,_]) 7 rfl (A3 rfl h) rfl rfl agg_40 sz_40 rfl) (Walk.gd _ rfl rfl rfl (fun h=>A0 rfl (kn rfl) off_69_2) (Walk.gd _ rfl rfl rfl (fun h=>A7 (ds:=[_,_,_,_,_,_,_]) 7 rfl (A3 rfl h) rfl rfl agg_40 sz_40 rfl) (Walk.gd _ rfl rfl rfl (fun h=>AE rfl (by kernel_rfl) (KC x.1.2.2 y.1.2.2 (a3 x mx).2.2.2.fine (b3 y my).2.2.2.fine) ⟨(A3 rfl h),⟨(A3 rfl h),trivial⟩⟩) (Walk.gd _ rfl rfl rfl (fun h=>D1 rfl (A3 rfl h)) (A4 rfl rfl rfl (DI rfl (kn rfl) (fun hb=>A3 rfl hb)) (A9 rfl rfl rfl rfl rfl (Walk.gd _ rfl rfl rfl (fun h=>A0 rfl (kn rfl) off_69_3) (Walk.gd _ rfl rfl rfl (fun h=>A7 (ds:=[_,_,_,_,_,_,_,_,_,_,_,_,_,_,_,_,_,_,_,_,_]) 21 rfl (A3 rfl h) rfl rfl agg_45 sz_45 rfl) (Walk.gd _ rfl rfl rfl (fun h=>A0 rfl (kn rfl) off_69_3) (Walk.gd _ rfl rfl rfl (fun h=>A7 (ds:=[_,_,_,_,_,_,_,_,_,_,_,_,_,_,_,_,_,_,_,_,_]) 21 rfl (A3 rfl h) rfl rfl agg_45 sz_45 rfl) (Walk.gd _ rfl rfl rfl (fun h=>AE rfl (by kernel_rfl) (ih x.2 (Ed.kid_s mx) y.2 (hb.kid (Ed.kid_s my))) ⟨(A3 rfl h),⟨(A3 rfl h),trivial⟩⟩) (Walk.gd _ rfl rfl rfl (fun h=>D1 rfl (A3 rfl h)) (A4 rfl rfl rfl (DI rfl (kn rfl) (fun hb=>A3 rfl hb)) .nil)))))))))))))))))))))))))))) ?_
  try refine A2 ?_
  refine AA rfl (fun h1=>?_) (fun h1=>?_)
  ·have e:eeq a b=false:=by
    rw[q,hs]
    simp only[Bool.or_eq_true,Bool.not_eq_true',decide_eq_false_iff_not]at h1
    rcases h1 with((h1 | h1) | h1) | h1<;>simp[CQ,h1]
   try refine A2 ?_
   refine A1 (AC rfl rfl rfl rfl rfl .nil) ?_
   try refine A2 ?_
   exact A8 rfl rfl (.tmp (kn rfl) (.nil)) (Imp.of_eq (by rw[e];rfl)) rfl
  simp only[Bool.or_eq_false_iff,Bool.not_eq_false',decide_eq_true_eq]at h1
  rw[show PB x y=true by simp[CQ,h1.1.1.1,h1.1.1.2,h1.1.2,h1.2],Bool.true_and]at hs
  try refine A2 ?_
  refine A1 (A4 rfl rfl rfl (A6 rfl (kn rfl) (kn rfl) (AS (by first | omega | (dsimp only;omega)))) (A9 rfl rfl rfl rfl rfl .nil)) ?_
  try refine A2 ?_
  refine AR ⟨k+1,by omega,hs⟩ (by dsimp only;omega) (fun K=>AM ⟨s_t,s_t,s_t,s_t,s_t,trivial⟩ ⟨s_b,s_b,trivial⟩ trivial)
 rw[LN g8 (by have:=of_decide_eq_false h;omega) hw,Bool.true_and]at q
 try refine A2 ?_
 refine A1 (A4 rfl rfl rfl (A0 rfl (kn rfl) off_45_8) (A4 rfl rfl rfl (A5 rfl (kn rfl) rfl rfl one_43) (A4 rfl rfl rfl (AT rfl (kn rfl) sle_43) (A9 rfl rfl rfl rfl rfl .nil)))) ?_
 try refine A2 ?_
 refine BB (ι:={ k:Nat // k<=(a.keys).length/\DL US (a.keys) (b.keys)=DL US ((a.keys).drop k) ((b.keys).drop k) })
  (fun k=>[(2,.box 2 0),(3,.box 3 0),(154,.part (.one (.row 28 (a.keys).length ((a.keys).flatMap D4)))),(155,.is (.int .i64 ((a.keys).length:Int))),(156,.is (.int .i64 (k.1:Int)))])
  (fun _=>[(2,⟨45,bcs (ed a)⟩),(3,⟨45,bcs (ed b)⟩)]) (fun _=>[]) (fun k=>(a.keys).length-k.1) ⟨0,by omega,rfl⟩
  (fun K=>AM ⟨s_t,s_t,s_t,s_t,s_t,trivial⟩ ⟨s_b,s_b,trivial⟩ trivial) ?_
 rintro⟨k,hk,hw⟩
 dsimp only at hk hw ⊢
 try refine A2 ?_
 refine A1 (A4 rfl rfl rfl (A6 rfl (kn rfl) (kn rfl) B7) .nil) ?_
 try refine A2 ?_
 refine AA rfl (fun h=>?_) (fun h=>?_)
 ·have hlt:k<(a.keys).length:=by have:=of_decide_eq_true h;omega
  obtain⟨x,hx⟩:∃ x,(a.keys)[k]?=some x:=⟨_,List.getElem?_eq_getElem hlt⟩
  obtain⟨y,hy⟩:∃ y,(b.keys)[k]?=some y:=⟨_,List.getElem?_eq_getElem (by omega)⟩
  have mx:=List.mem_of_getElem? hx
  have my:=List.mem_of_getElem? hy
  have hs:=JD hx hy hw
  try refine A2 ?_
  refine AF ?_
  refine BA ?_
  refine AG (AL rfl (kn rfl) (kn rfl) (by omega) hx CM sle_43 esz_43 (CG x)) ?_
  refine AG (AJ rfl (kn rfl) agg_67 sz_67) ?_
  refine AV 11 [.is (.int .i64 0),.is (.int .u64 0),.is (.string ⟨#[]⟩),.is (.slice none 0 0),.is (.string ⟨#[]⟩),.is (.slice none 0 0),.is (.slice none 0 0),.is (.int .i64 0),.is (.int .i64 0),.is (.int .u64 0),.is (.string ⟨#[]⟩),.is (.slice none 0 0),.is (.string ⟨#[]⟩),.is (.slice none 0 0),.is (.slice none 0 0),.is (.int .i64 0),.is (.int .u64 0),.is (.string ⟨#[]⟩),.is (.slice none 0 0),.is (.string ⟨#[]⟩),.is (.slice none 0 0),.is (.slice none 0 0),.is (.slice none 0 0),.is (.bool false),.is (.string ⟨#[]⟩),.is (.string ⟨#[]⟩),.is (.slice none 0 0),.is (.slice none 0 0)] rfl rfl rfl rfl zr_67 (fun w D M V=>⟨rfl,fun j x v h1 h2=>AU _ h1 h2 rfl⟩) rfl rfl rfl rfl ?_
  refine BY ?_
  refine AP rfl rfl rfl (kn rfl) rfl (kn rfl) rfl rfl sz_67 ?_
  refine AD ?_
  try refine A2 ?_
  refine CT C5 (by kernel_rfl) (A4 rfl rfl rfl (A0 rfl (kn rfl) off_67_0) (A4 rfl rfl rfl (A7 (ds:=[_,_,_,_,_,_,_]) 7 rfl (kn rfl) rfl rfl agg_40 sz_40 rfl) (A4 rfl rfl rfl (A0 rfl (kn rfl) off_45_8) (A4 rfl rfl rfl (A5 rfl (kn rfl) rfl rfl one_43) (A9 rfl rfl rfl rfl rfl (A4 rfl rfl rfl (AL rfl (kn rfl) (kn rfl) (by omega) hy CM sle_43 esz_43 (CG y)) (A4 rfl rfl rfl (AB rfl (kn rfl) off_67_0) (A4 rfl rfl rfl (C1 (vd y.1) 7 rfl (kn rfl) agg_40 sz_40 rfl rfl) (A4 rfl rfl rfl (AE rfl (by kernel_rfl) (KC x.1 y.1 (a4 x mx).fine (b4 y my).fine) ⟨(kn rfl),⟨(kn rfl),trivial⟩⟩) (A4 rfl rfl rfl (D1 rfl (kn rfl)) (A9 rfl rfl rfl rfl rfl (Walk.gd _ rfl rfl rfl (fun h=>A0 rfl (kn rfl) off_67_1) (Walk.gd _ rfl rfl rfl (fun h=>A7 (ds:=[_,_,_,_,_,_,_,_,_,_,_,_,_,_,_,_,_,_,_,_,_]) 21 rfl (A3 rfl h) rfl rfl agg_45 sz_45 rfl) (Walk.gd _ rfl rfl rfl (fun h=>A0 rfl (kn rfl) off_45_8) (Walk.gd _ rfl rfl rfl (fun h=>A5 rfl (A3 rfl h) rfl rfl one_43) (Walk.gd _ rfl rfl rfl (fun h=>AW rfl (kn rfl)) (Walk.gd _ rfl rfl rfl (fun h=>AL rfl (A3 rfl h) (A3 rfl h) (by omega) hy CM sle_43 esz_43 (CG y)) (Walk.gd _ rfl rfl rfl (fun h=>AB rfl (A3 rfl h) off_67_1) (Walk.gd _ rfl rfl rfl (fun h=>AJ rfl (A3 rfl h) agg_45 sz_45) (Walk.gd _ rfl rfl rfl (fun h=>AE rfl (by kernel_rfl) (ih x.2 (Ed.kid_k mx) y.2 (hb.kid (Ed.kid_k my))) ⟨(A3 rfl h),⟨(A3 rfl h),trivial⟩⟩) (Walk.gd _ rfl rfl rfl (fun h=>D1 rfl (A3 rfl h)) (A4 rfl rfl rfl (DI rfl (kn rfl) (fun hb=>A3 rfl hb)) .nil)))))))))))))))))))))) ?_
  try refine A2 ?_
  refine AA rfl (fun h1=>?_) (fun h1=>?_)
  ·have e:eeq a b=false:=by
    rw[q,hs]
    simp only[Bool.or_eq_true,Bool.not_eq_true',decide_eq_false_iff_not]at h1
    rcases h1 with h1 | h1<;>simp[CQ,h1]
   try refine A2 ?_
   refine A1 (AC rfl rfl rfl rfl rfl .nil) ?_
   try refine A2 ?_
   exact A8 rfl rfl (.tmp (kn rfl) (.nil)) (Imp.of_eq (by rw[e];rfl)) rfl
  simp only[Bool.or_eq_false_iff,Bool.not_eq_false',decide_eq_true_eq]at h1
  rw[show US x y=true by simp[CQ,h1.1,h1.2],Bool.true_and]at hs
  try refine A2 ?_
  refine A1 (A4 rfl rfl rfl (A6 rfl (kn rfl) (kn rfl) (AS (by first | omega | (dsimp only;omega)))) (A9 rfl rfl rfl rfl rfl .nil)) ?_
  try refine A2 ?_
  refine AR ⟨k+1,by omega,hs⟩ (by dsimp only;omega) (fun K=>AM ⟨s_t,s_t,s_t,s_t,s_t,trivial⟩ ⟨s_b,s_b,trivial⟩ trivial)
 have e:eeq a b=true:=by rw[q,LN g9 (by have:=of_decide_eq_false h;omega) hw]
 try refine A2 ?_
 refine A1 (AC rfl rfl rfl rfl rfl .nil) ?_
 try refine A2 ?_
 exact A8 rfl rfl (.tmp (kn rfl) (.nil)) (Imp.of_eq (by rw[e];rfl)) rfl
theorem RB(a:Ed):a.Sm->REq a:=Ed.kids_ind (P:=fun a=>a.Sm->REq a) (fun a ih h=>U0 a h fun x hx=>ih x hx (h.kid hx)) a
theorem H4(e:Ed):EA e=true↔(e.kind=1\/(E5 e.old=true/\E5 e.new=true))/\(e.kind=2\/(e.fields.length=0/\e.rests=false/\e.ro.length=0/\e.rn.length=0))/\(e.kind=3\/e.steps.length=0)/\(e.kind=4\/e.keys.length=0):=by
 unfold EA
 simp only[Bool.and_eq_true,Bool.or_eq_true,decide_eq_true_eq,List.isEmpty_iff,List.length_eq_zero_iff,Bool.not_eq_true']
 constructor
 ·rintro⟨⟨⟨h1,h2⟩,h3⟩,h4⟩
  exact⟨h1,h2.imp id fun h=>⟨h.1.1.1,h.1.1.2,h.1.2,h.2⟩,h3,h4⟩
 ·rintro⟨h1,h2,h3,h4⟩
  exact⟨⟨⟨h1,h2.imp id fun h=>⟨⟨⟨h.1,h.2.1⟩,h.2.2.1⟩,h.2.2.2⟩⟩,h3⟩,h4⟩
theorem LH{α:Type}{l:List α}{k:Nat}{p:α}(h:l[((k:Int)-1).toNat]?=some p):D5 l k=if k=0 then none else some p:=by
 unfold D5
 split
 ·rfl
 ·rw[<- h];congr 1;omega
theorem RJ{e:Ed}(h:e.kind<0\/4<e.kind):B3 e=false:=by
 rw[DV,if_neg (by omega),if_neg (by omega),if_neg (by omega),if_neg (by omega),if_neg (by omega),Bool.and_false]
end Go.Proofs.Ytecfdcdkkgmkpaa
