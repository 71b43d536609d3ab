/- Part 11. Conditions: as each theorem says. -/
import Derived.Test.YtmhhdoaiccahaaaAT10
import Derived.Laws.Entries
set_option maxRecDepth 100000
namespace Go.Proofs.Ytmhhdoaiccahaaa
open Go.RowKit
section
variable{P:Program}{cx:Cx}{T T':TL}{B:BL}{R:RL}{o:Oper}{M:Nat->Nat}{V:Nat->Value}{Φ:(Nat->Value)->Prop}
def LStepV(Φ:(Nat->Value)->Prop)(P:Program)(cx:Cx)(B:BL)(R:RL)(o:Oper)(T:TL)(y:IV):Prop:=
 ∀ (M:Nat->Nat) (V:Nat->Value) (w:World) (a:Act),Φ V->HR cx B R M V w->(∀ t z,.tmp t∈o.op.operands->lk t T=some z->VR w (Dc cx B R M V w) M V z (a.tmps.getD t undef))->Upon P cx B R M V w y ((execOp a.eval o).run P w)
theorem LStepV.of{y:IV}(h:LStep P cx B R o T y):LStepV Φ P cx B R o T y:=fun M V w a _=>h M V w a
inductive WalkV (Φ:(Nat->Value)->Prop) (P:Program) (cx:Cx) (B:BL) (R:RL) (ops:Array Oper):List Oper->TL->List IV->TL->Prop
 | nil {T:TL}:WalkV Φ P cx B R ops [] T [] T
 | op {o:Oper} {d:Nat} {l:List Oper} {T T':TL} {y:IV} {ys:List IV}:o.guard=none->o.dst=some d->Nat.blt d cx.n=true->LStepV Φ P cx B R o T y->WalkV Φ P cx B R ops l ((d,y)::T) ys T'->WalkV Φ P cx B R ops (o::l) T (y::ys) T'
 | gd (g:Bool) {o:Oper} {d:Nat} {l:List Oper} {T T':TL} {y:IV} {ys:List IV}:gk ops T o=some g->o.dst=some d->Nat.blt d cx.n=true->(g=true->LStepV Φ P cx B R o T y)->WalkV Φ P cx B R ops l ((d,.opt g y)::T) ys T'->WalkV Φ P cx B R ops (o::l) T (.opt g y::ys) T'
theorem AX{ops:Array Oper}{d:Nat}{l:List Oper}{y:IV}{ys:List IV}(hg:o.guard=none)(hd:o.dst=some d)(hn:Nat.blt d cx.n=true)(h:LStep P cx B R o T y)(hW:WalkV Φ P cx B R ops l ((d,y)::T) ys T'):WalkV Φ P cx B R ops (o::l) T (y::ys) T':=.op hg hd hn (.of h) hW
theorem FH{C:World->Prop}{ops:Array Oper}{y:IV}{G:List BA}{a:Act}(hΦ:Φ V)(hC:∀ w,C w->HR cx B R M V w)(hG:Gt cx B R M V C T G a)(h:LStepV Φ P cx B R o T y){w:World}(hc:C w)(hS:Seen ops o G w):
  BU P Rb o a (BI cx B R M V y) w:=by
 have h1:=h M V w a hΦ (hC w hc) fun t z hm hz=>by
  rcases hG t z hz with h | ⟨_,F,h2,h3⟩
  ·exact h w hc
  ·exact h3 w (hS _ h2 t rfl (D6 hm))
 have key:∀ {v:Value} {w':World},HR cx B R M V w'->VR w' (Dc cx B R M V w') M V y v->(BI cx B R M V y).ok v/\(BI cx B R M V y).pred v w':=fun{v w'} hh hv=>by
  unfold BI
  cases hw:y.whole with
  | some u=>exact⟨Kind.ok_is.2 (CF hw hv),trivial⟩
  | none=>exact⟨fun c h=>(by cases h),w',hh,Below.refl _ _,hv⟩
 unfold BU
 generalize(execOp a.eval o).run P w=r at *
 cases r with
 | halt x w'=>exact h1.elim
 | ok n w'=>
  cases n<;>simp only[Upon]at h1<;>simp only[CM]
  case value u=>exact⟨h1.1,key ((hC w hc).step h1.1) h1.2⟩
  case skip=>exact⟨h1.1,key ((hC w hc).step h1.1) h1.2⟩
  case enter f args=>
   obtain⟨rfl,h1⟩:=h1
   exact h1.mono fun e w'' ⟨v,he,h2,h3⟩=>⟨v,he,h2,key ((hC _ hc).step h2) h3⟩
theorem WalkV.wpT{C:World->Prop}{ops:Array Oper}{Q:List BA->Act->Prop}(hΦ:Φ V)(hC:∀ w,C w->HR cx B R M V w)(hc:∃ w,C w){l:List Oper}{ys:List IV}(hW:WalkV Φ P cx B R ops l T ys T'):
  ∀ {G:List BA} {a:Act},a.tmps.size=cx.n->a.defers=[]->Gt cx B R M V C T G a->(∀ G' a',a'.tmps.size=cx.n->a'.defers=[]->Gt cx B R M V C T' G' a'->Q G' a')->wpT P ops Rb C Q l (ys.map (BI cx B R M V)) G a:=by
 induction hW with
 | nil=>exact fun hn hd hG hQ=>hQ _ _ hn hd hG
 | op hg hd hn hs _ ih=>
  intro G a hsz hdf hG hQ
  refine⟨?_,fun v hv=>?_⟩
  ·unfold AskT
   rw[if_pos (by simp[Region.wanted,hg])]
   exact fun w hc hS=>FH hΦ hC hG hs hc hS
  ·rw[hd]
   exact ih (by simpa[Act.put]using hsz) hdf (hG.put (by rw[hsz];exact BJ hn) hv) hQ
 | gd g hg hd hn hs _ ih=>
  intro G a hsz hdf hG hQ
  obtain⟨w0,hw0⟩:=hc
  have hw:=EH hg fun t z v _ hz hv=>by
   rcases hG t z hz with h | ⟨h1,_⟩
   ·exact CF hv (h w0 hw0)
   ·rw[h1]at hv;cases hv
  refine⟨?_,fun v hv=>?_⟩
  ·unfold AskT
   rw[hw]
   cases g with
   | true=>
    rw[if_pos rfl]
    refine fun w hc hS=>FH (Φ:=Φ) hΦ hC hG (fun M V w a hp hh ht=>?_) hc hS
    have h1:=hs rfl M V w a hp hh ht
    revert h1
    generalize(execOp a.eval _).run P w=r
    intro h1
    cases r with
    | halt x w'=>exact h1
    | ok n w'=>
     cases n<;>simp only[Upon]at h1 ⊢
     case value u=>exact⟨h1.1,fun _=>h1.2,fun h=>(by cases h)⟩
     case skip=>exact⟨h1.1,fun _=>h1.2,fun h=>(by cases h)⟩
     case enter f args=>exact⟨h1.1,h1.2.mono fun e w'' ⟨v,he,h3,h4⟩=>⟨v,he,h3,fun _=>h4,fun h=>(by cases h)⟩⟩
   | false=>
    rw[if_neg (by simp)]
    unfold BI
    rw[FZ]
    exact⟨Kind.ok_is.2 rfl,fun _=>trivial⟩
  ·rw[hd]
   exact ih (by simpa[Act.put]using hsz) hdf (hG.put (by rw[hsz];exact BJ hn) hv) hQ
def LJ:List (Nat×Value)->(Nat->Value)->Prop
 | [],_=>True
 | p::ps,V=>V p.1=p.2/\LJ ps V
def LT(T:TL):List (Nat×Nat×Value)->Prop
 | []=>True
 | p::ps=>lk p.1 T=some (ET p.2.1 p.2.2)/\LT T ps
theorem J1{a:Act}{w:World}(hr:Rel cx T B R M V a w):∀ {ps:List (Nat×Nat×Value)},LT T ps->LJ (ps.map (·.2)) V
 | [],_=>trivial
 | _::_,h=>⟨hr.tmp _ _ h.1,J1 hr h.2⟩
theorem QL(ps:List (Nat×Nat×Value)){id:Nat}{l:List Oper}{Q:Exit->Act->World->Prop}{ys:List IV}(hp:LT T ps)(hm:P.follows .mixedOrders=true)(hB:Region.lexB .any l.toArray=true)(hW:WalkV (LJ (ps.map (·.2))) P cx B R l.toArray l T ys T')(h:E cx T' B R (Q .normal)):
  E cx T B R ((Code.region id l.toArray true).wp P Q):=fun M V a w hr=>by
 have h0:Ct cx T B R M V a w.drew:=Ct.stay w _ (Below.refl _ _).drew ⟨hr.heap,hr.tmp⟩
 refine E0 (Ct cx T B R M V a) Rb (ys.map (BI cx B R M V)) hm hB Ct.stay (DL ys) h0 ?_
 refine hW.wpT (J1 hr hp) (fun w h=>h.1) ⟨_,h0⟩ hr.size hr.defers (fun t x hx=>.inl fun w h=>h.2 t x hx) fun G' a' hn hd hG w' hc hF=>?_
 exact h M V a' w' (hG.rel (fun w h=>h.1) hn hd hc hF)
theorem D9(ps:List (Nat×Nat×Value))(n:Nat){id:Nat}{l:List Oper}{Q:Exit->Act->World->Prop}{ys:List IV}(hp:LT T ps)(hm:P.follows .mixedOrders=true)(hB:Region.lexTailB .any l.toArray n=true)(hW:WalkV (LJ (ps.map (·.2))) P cx B R l.toArray (l.take n) T ys T')(h:E cx T' B R (wpList P l.toArray Q (l.drop n))):
  E cx T B R ((Code.region id l.toArray true).wp P Q):=fun M V a w hr=>by
 have h0:Ct cx T B R M V a w.drew:=Ct.stay w _ (Below.refl _ _).drew ⟨hr.heap,hr.tmp⟩
 refine EI n (Ct cx T B R M V a) Rb (ys.map (BI cx B R M V)) hm hB Ct.stay (DL ys) h0 ?_
 refine hW.wpT (J1 hr hp) (fun w h=>h.1) ⟨_,h0⟩ hr.size hr.defers (fun t x hx=>.inl fun w h=>h.2 t x hx) fun G' a' hn hd hG w' hc hF=>?_
 exact h M V a' w' (hG.rel (fun w h=>h.1) hn hd hc hF)
theorem HG{y:IV}{q:Nat}{v:Value}(h:LStep P cx B R o T (.is v))(hq:∀ V,Φ V->V q=v)(hy:y=.own q):LStepV Φ P cx B R o T y:=fun M V w a hp hh ht=>by
 subst hy
 have h1:=h M V w a hh ht
 revert h1
 generalize(execOp a.eval o).run P w=r
 intro h1
 cases r with
 | halt x w'=>exact h1
 | ok n w'=>
  cases n<;>simp only[Upon]at h1 ⊢
  case value u=>exact⟨h1.1,h1.2.is_eq.trans (hq V hp).symm⟩
  case skip=>exact⟨h1.1,h1.2.is_eq.trans (hq V hp).symm⟩
  case enter f args=>exact⟨h1.1,h1.2.mono fun e w'' ⟨u,he,h3,h4⟩=>⟨u,he,h3,h4.is_eq.trans (hq V hp).symm⟩⟩
end
section
variable{P:Program}{cx:Cx}{T:TL}{B:BL}{R:RL}{o:Oper}
theorem HK(r:Nat){ops:Array Oper}{Q:Exit->Act->World->Prop}{l:List Oper}{d:Nat}{f:FuncId}{xs:List Operand}{ts:Array TypeId}{ps:List Part}{ty k n:Nat}{cs:List Value}
  (hg:o.guard=none) (hd:o.dst=some d) (hn:Nat.blt d cx.n=true) (ho:o.op=.call { callee:=.value (.func f),args:=xs.toArray,argTypes:=ts }) (hc:C3 P f=true) (hf:EO P cx.gl f ps ty k n cs)
  (hx:∀ (w:World) (D:Nat->Prop) (M:Nat->Nat) (V:Nat->Value) (a:Act),(∀ t z,.tmp t∈xs->lk t T=some z->VR w D M V z (a.tmps.getD t undef))->(∀ r x,lk r R=some x->Lies w D (datOf x) (V r))->PsFit w D ps (xs.map a.eval))
  (hT:IM r T=true) (hB:IT r B=true)
  (hE:E cx ((d,.own r)::T) B ((r,⟨ty,k,n,cs.map .cell,false⟩)::R) (wpList P ops Q l)) (hty:Nat.blt ty 1000000=true:=by rfl):E cx T B R (wpList P ops Q (o::l)):=fun M V a w hrel=>by
 refine wpList_plain hg fun K hK=>?_
 have hrun:(execOp a.eval o).run P w=.ok (.enter f (xs.map a.eval).toArray) w:=by
  have he:a.eval (.func f)=.func (.func f) #[] #[]:=rfl
  simp[execOp,ho,resolve,he,Deferred.ofValue,invoke,BS hc]
 unfold Oper.wp
 rw[hrun]
 simp only[Oper.upon,hd]
 have hh:=hrel.heap
 let D':Nat->Prop:=fun g=>Dc cx B R M V w g \/ ∃ r x,lk r R=some x/\x.fz=false/\obs x.ty x.ds (V r) g
 have hk:=Keeps.refl (Dc cx B R M V w) w
 have hDD:∀ g,Dc cx B R M V w g->D' g:=fun g h=>.inl h
 have hD':∀ g,D' g->g<w.heap.size:=fun g hg=>by
  rcases(show Dc cx B R M V w g \/ ∃ r x,lk r R=some x/\x.fz=false/\obs x.ty x.ds (V r) g from hg)with hg | ⟨r,x,h1,h2,h3⟩
  ·exact hh.dlt hg
  ·have h4:=hh.row r x h1
   rw[h2]at h4
   exact Gx.lt h4 g h3
 have hp:PsFit w D' ps (xs.map a.eval):=hx w D' M V a (fun t z _ hz=>(hrel.tmp t z hz).stay hk hDD) fun r x hr=>by
  have h4:=hh.row r x hr
  cases hfz:x.fz with
  | true=>
   rw[if_pos hfz]at h4
   exact h4.stay hk hDD
  | false=>
   rw[hfz]at h4
   exact Gx.frozen (show Gx w (Dc cx B R M V w) 0 x.ty x.k (V r) x.n x.ds from h4) hDD fun g hg=>.inr ⟨r,x,hr,hfz,hg⟩
 refine(hf w D' _ hD' hh.glok hp).mono ?_
 rintro e w' ⟨v,rfl,hb,hown⟩
 refine hK _ _ ?_
 obtain⟨V',hVr,hr0⟩:=hrel.own_new hb hown r hT hB hty
 exact hE M V' _ _ (hr0.put (Below.refl _ _) (BJ hn) hVr.symm)
theorem SZ{x y:Operand}{ts:Array TypeId}{k k':IntKind}{m n:Int}(ho:o.op=.call { callee:=.builtin .min,args := #[x,y],argTypes:=ts })(hx:Kn T x (.is (.int k m)))(hy:Kn T y (.is (.int k' n))):LStep P cx B R o T (.is (.int k (min m n))):=LStep.same fun M V w a _ hk=>by
 have h1:=(hk x _ (by simp[ho,Op.operands,Call.operands]) hx).is_eq
 have h2:=(hk y _ (by simp[ho,Op.operands,Call.operands]) hy).is_eq
 have h3:(if n<m then n else m)=min m n:=by
  split<;>omega
 refine⟨_,?_,.cell _⟩
 simp[execOp,ho,h1,h2,resolve,invoke,builtin,run_min_int2,h3]
end
section
def ed(s:Nat->Nat->Bool):Nat->Nat->Nat
 | 0,n=>n
 | m+1,0=>m+1
 | m+1,n+1=>if s m n then ed s m n else 1+min (ed s m (n+1)) (ed s (m+1) n)
termination_by m n=>m+n
section
variable{s:Nat->Nat->Bool}
theorem C1(n:Nat):ed s 0 n=n:=by rw[ed]
theorem CH(m:Nat):ed s m 0=m:=by cases m<;>rw[ed]
theorem I9(m n:Nat):ed s (m+1) (n+1)=if s m n then ed s m n else 1+min (ed s m (n+1)) (ed s (m+1) n):=by rw[ed]
theorem H7{m n:Nat}(h:s m n=true):ed s (m+1) (n+1)=ed s m n:=by rw[I9,if_pos h]
theorem DP{m n:Nat}(h:s m n=false):ed s (m+1) (n+1)=1+min (ed s m (n+1)) (ed s (m+1) n):=by rw[I9,if_neg (by simp[h])]
theorem GI:∀ (k m n:Nat),m+n<=k->(ed s m n<=ed s (m+1) n+1/\ed s (m+1) n<=ed s m n+1)/\ed s m n<=ed s m (n+1)+1/\ed s m (n+1)<=ed s m n+1
 | 0,m,n,h=>by
  obtain rfl:m=0:=by omega
  obtain rfl:n=0:=by omega
  simp only[C1,CH]
  omega
 | k+1,m,n,h=>by
  constructor
  ·cases n with
   | zero=>simp only[CH];omega
   | succ n=>
    have ih:=GI k m n (by omega)
    cases hs:s m n with
    | true=>rw[H7 hs];omega
    | false=>rw[DP hs];omega
  ·cases m with
   | zero=>simp only[C1];omega
   | succ m=>
    have ih:=GI k m n (by omega)
    cases hs:s m n with
    | true=>rw[H7 hs];omega
    | false=>rw[DP hs];omega
theorem RZ(m n:Nat):ed s m n<=ed s (m+1) n+1/\ed s (m+1) n<=ed s m n+1:=(GI _ m n (Nat.le_refl _)).1
theorem S2(m n:Nat):ed s m n<=ed s m (n+1)+1/\ed s m (n+1)<=ed s m n+1:=(GI _ m n (Nat.le_refl _)).2
theorem PN(m n:Nat):ed s m n<=ed s (m+1) (n+1):=by
 cases hs:s m n with
 | true=>rw[H7 hs];exact Nat.le_refl _
 | false=>
  rw[DP hs]
  have:=RZ (s:=s) m n
  have:=S2 (s:=s) m n
  omega
theorem L8(m n j:Nat):ed s m n<=ed s (m+j) (n+j):=by
 induction j with
 | zero=>exact Nat.le_refl _
 | succ j ih=>exact Nat.le_trans ih (PN (m+j) (n+j))
theorem IH:∀ (k m n:Nat),m+n<=k->(ed s m n+m+n) % 2=0
 | 0,m,n,h=>by
  obtain rfl:m=0:=by omega
  obtain rfl:n=0:=by omega
  rw[C1]
 | k+1,m,n,h=>by
  cases m with
  | zero=>rw[C1];omega
  | succ m=>
   cases n with
   | zero=>rw[CH];omega
   | succ n=>
    have h1:=IH k m n (by omega)
    have h2:=IH k m (n+1) (by omega)
    have h3:=IH k (m+1) n (by omega)
    cases hs:s m n with
    | true=>rw[H7 hs];omega
    | false=>rw[DP hs];omega
theorem J4(m n:Nat):(ed s m n+m+n) % 2=0:=IH _ m n (Nat.le_refl _)
theorem J0:∀ (k m n:Nat),m+n<=k->m<=ed s m n+n/\n<=ed s m n+m/\ed s m n<=m+n
 | 0,m,n,h=>by
  obtain rfl:m=0:=by omega
  obtain rfl:n=0:=by omega
  rw[C1]
  omega
 | k+1,m,n,h=>by
  cases m with
  | zero=>rw[C1];omega
  | succ m=>
   cases n with
   | zero=>rw[CH];omega
   | succ n=>
    have h1:=J0 k m n (by omega)
    have h2:=J0 k m (n+1) (by omega)
    have h3:=J0 k (m+1) n (by omega)
    cases hs:s m n with
    | true=>rw[H7 hs];omega
    | false=>rw[DP hs];omega
theorem NF(m n:Nat):m<=ed s m n+n/\n<=ed s m n+m/\ed s m n<=m+n:=J0 _ m n (Nat.le_refl _)
theorem LC(m n:Nat):∀ j,(∀ i,i<j->s (m+i) (n+i)=true)->ed s (m+j) (n+j)=ed s m n
 | 0,_=>rfl
 | j+1,h=>by
  rw[<- LC m n j fun i hi=>h i (by omega)]
  exact H7 (h j (by omega))
end
theorem CI{s t:Nat->Nat->Bool}:∀ (k m n:Nat),m+n<=k->(∀ x y,x<m->y<n->s x y=t x y)->ed s m n=ed t m n
 | 0,m,n,h,_=>by
  obtain rfl:m=0:=by omega
  rw[C1,C1]
 | k+1,m,n,h,hst=>by
  cases m with
  | zero=>rw[C1,C1]
  | succ m=>
   cases n with
   | zero=>rw[CH,CH]
   | succ n=>
    rw[I9,I9,hst m n (by omega) (by omega),CI k m n (by omega) fun x y hx hy=>hst x y (by omega) (by omega),CI k m (n+1) (by omega) fun x y hx hy=>hst x y (by omega) (by omega),CI k (m+1) n (by omega) fun x y hx hy=>hst x y (by omega) (by omega)]
def alk(s:Nat->Nat->Bool):Nat->Nat->Nat->Nat
 | 0,x,_=>x
 | f+1,x,y=>if s x y then alk s f (x+1) (y+1)else x
theorem IX{s:Nat->Nat->Bool}{N:Nat}(hN:∀ x y,N<=x->s x y=false):∀ (f x y:Nat),N<=x+f -> ∃ j,alk s f x y=x+j/\(∀ i,i<j->s (x+i) (y+i)=true)/\s (x+j) (y+j)=false/\(j=0\/x+j<=N)
 | 0,x,y,h=>⟨0,rfl,fun i hi=>by omega,hN _ _ (by omega),.inl rfl⟩
 | f+1,x,y,h=>by
  cases hs:s x y with
  | false=>exact⟨0,by simp[alk,hs],fun i hi=>by omega,hs,.inl rfl⟩
  | true=>
   obtain⟨j,h1,h2,h3,h4⟩:=IX hN f (x+1) (y+1) (by omega)
   have hx:x<N:=by
    rcases Nat.lt_or_ge x N with h | h
    ·exact h
    ·rw[hN x y h]at hs;cases hs
   refine⟨j+1,by simp only[alk,hs,if_true,h1];omega,fun i hi=>?_,by rw[<- h3];congr 1<;>omega,.inr (by omega)⟩
   cases i with
   | zero=>exact hs
   | succ i=>rw[<- h2 i (by omega)];congr 1<;>omega
def edt(p:Nat->Nat)(d i:Nat):Nat:=if i=0 then p 0 else if i=d+1 then p d+1 else max (p (i-1)+1) (p i)
def fr(s:Nat->Nat->Bool)(N:Nat):Nat->Nat->Nat
 | 0,_=>alk s N 0 0
 | d+1,i=>alk s N (edt (fr s N d) d i) (edt (fr s N d) d i+(d+1)-2*i)
theorem I0{s:Nat->Nat->Bool}{N d e y0 i:Nat}(hN:∀ x y,N<=x->s x y=false)(he:e+d=y0+2*i)(h1:ed s e y0<=d)(h2:∀ X Y,e<=X->X+d=Y+2*i->s X Y=false->d<ed s (X+1) (Y+1)):
  (∀ x y,x+d=y+2*i->(ed s x y<=d↔x<=alk s N e y0))/\(alk s N e y0<=N\/alk s N e y0=e):=by
 obtain⟨j,a1,a2,a3,a4⟩:=IX hN N e y0 (by omega)
 rw[a1]
 refine⟨fun x y hxy=>?_,by omega⟩
 have h3:=LC e y0 j a2
 have h4:=h2 (e+j) (y0+j) (by omega) (by omega) a3
 constructor
 ·intro h
  rcases Nat.lt_or_ge (e+j) x with hx | hx
  ·have:=L8 (s:=s) (e+j+1) (y0+j+1) (x-(e+j+1))
   rw[show e+j+1+(x-(e+j+1))=x by omega,show y0+j+1+(x-(e+j+1))=y by omega]at this
   omega
  ·exact hx
 ·intro h
  have:=L8 (s:=s) x y (e+j-x)
  rw[show x+(e+j-x)=e+j by omega,show y+(e+j-x)=y0+j by omega,h3]at this
  omega
theorem JI{s:Nat->Nat->Bool}{N:Nat}(hN:∀ x y,N<=x->s x y=false):∀ d i,i<=d->(∀ x y,x+d=y+2*i->(ed s x y<=d↔x<=fr s N d i))/\fr s N d i<=N+d
 | 0,i,hi=>by
  obtain rfl:i=0:=by omega
  have:=I0 (d:=0) (e:=0) (y0:=0) (i:=0) hN rfl (by rw[C1];exact Nat.le_refl _) fun X Y _ h hs=>by rw[DP hs];omega
  exact⟨this.1,by have:=this.2;unfold fr;omega⟩
 | d+1,i,hi=>by
  have ih:=JI hN d
  have low:∀ i,i<=d->2*i<=fr s N d i+d:=fun i hi=>by
   rcases Nat.lt_or_ge (2*i) d with h | h
   ·omega
   ·have:=((ih i hi).1 (2*i-d) 0 (by omega)).1 (by rw[CH];omega)
    omega
  have he:edt (fr s N d) d i+(d+1)=(edt (fr s N d) d i+(d+1)-2*i)+2*i/\ed s (edt (fr s N d) d i) (edt (fr s N d) d i+(d+1)-2*i)<=d+1/\(0<i->fr s N d (i-1)+1<=edt (fr s N d) d i)/\(i<=d->fr s N d i<=edt (fr s N d) d i)/\edt (fr s N d) d i<=N+d+1:=by
   have A:0<i->2*i<=fr s N d (i-1)+1+(d+1)/\ed s (fr s N d (i-1)+1) (fr s N d (i-1)+1+(d+1)-2*i)<=d+1/\fr s N d (i-1)<=N+d:=fun h0=>by
    have l:=low (i-1) (by omega)
    have h1:=((ih (i-1) (by omega)).1 (fr s N d (i-1)) (fr s N d (i-1)+1+(d+1)-2*i) (by omega)).2 (Nat.le_refl _)
    have h2:=RZ (s:=s) (fr s N d (i-1)) (fr s N d (i-1)+1+(d+1)-2*i)
    exact⟨by omega,by omega,(ih (i-1) (by omega)).2⟩
   have C:i<=d->2*i<=fr s N d i+(d+1)/\ed s (fr s N d i) (fr s N d i+(d+1)-2*i)<=d+1/\fr s N d i<=N+d:=fun h0=>by
    have l:=low i h0
    have h1:=((ih i h0).1 (fr s N d i) (fr s N d i+d-2*i) (by omega)).2 (Nat.le_refl _)
    have h2:=S2 (s:=s) (fr s N d i) (fr s N d i+d-2*i)
    rw[show fr s N d i+d-2*i+1=fr s N d i+(d+1)-2*i by omega]at h2
    exact⟨by omega,by omega,(ih i h0).2⟩
   unfold edt
   by_cases h0:i=0
   ·subst h0
    have:=C (by omega)
    rw[if_pos rfl]
    exact⟨by omega,this.2.1,fun h=>by omega,fun _=>Nat.le_refl _,by omega⟩
   ·rw[if_neg h0]
    by_cases h1:i=d+1
    ·subst h1
     have:=A (by omega)
     rw[if_pos rfl]
     simp only[Nat.add_sub_cancel]at this ⊢
     exact⟨by omega,this.2.1,fun _=>Nat.le_refl _,fun h=>by omega,by omega⟩
    ·rw[if_neg h1]
     have a:=A (by omega)
     have c:=C (by omega)
     rcases Nat.le_total (fr s N d (i-1)+1) (fr s N d i)with h | h
     ·rw[Nat.max_eq_right h]
      exact⟨by omega,c.2.1,fun _=>h,fun _=>Nat.le_refl _,by omega⟩
     ·rw[Nat.max_eq_left h]
      exact⟨by omega,a.2.1,fun _=>Nat.le_refl _,fun _=>h,by omega⟩
  show(∀ x y,x+(d+1)=y+2*i->(ed s x y<=d+1↔x<=alk s N (edt (fr s N d) d i) (edt (fr s N d) d i+(d+1)-2*i)))/\alk s N (edt (fr s N d) d i) (edt (fr s N d) d i+(d+1)-2*i)<=N+(d+1)
  generalize edt (fr s N d) d i=e at he ⊢
  obtain⟨h1,h2,h3,h4,h5⟩:=he
  have:=I0 (d:=d+1) (e:=e) (y0:=e+(d+1)-2*i) (i:=i) hN h1 h2 fun X Y hX hXY hs=>by
   rw[DP hs]
   have b1:d<ed s X (Y+1):=by
    rcases Nat.eq_zero_or_pos i with h | h
    ·have:=NF (s:=s) X (Y+1)
     omega
    ·have:=(ih (i-1) (by omega)).1 X (Y+1) (by omega)
     have:=h3 h
     omega
   have b2:d<ed s (X+1) Y:=by
    rcases Nat.lt_or_ge d i with h | h
    ·have:=NF (s:=s) (X+1) Y
     omega
    ·have:=(ih i h).1 (X+1) Y (by omega)
     have:=h4 h
     omega
   omega
  exact⟨this.1,by have:=this.2;omega⟩
def wth(s:Nat->Nat->Bool)(d x y:Nat):Bool:=decide (ed s x y<=d/\(x+y+d) % 2=0)
theorem RM{s:Nat->Nat->Bool}{N:Nat}(hN:∀ x y,N<=x->s x y=false)(d x y:Nat):
  wth s d x y=decide (y<=x+d/\x+d-y<=2*d/\(x+d-y) % 2=0/\x<=fr s N d ((x+d-y) / 2)):=by
 unfold wth
 refine decide_eq_decide.2 ⟨fun⟨h1,h2⟩=>?_,fun⟨h1,h2,h3,h4⟩=>?_⟩
 ·have:=NF (s:=s) x y
  refine⟨by omega,by omega,by omega,?_⟩
  exact((JI hN d ((x+d-y) / 2) (by omega)).1 x y (by omega)).1 h1
 ·exact⟨((JI hN d ((x+d-y) / 2) (by omega)).1 x y (by omega)).2 h4,by omega⟩
def st(s:Nat->Nat->Bool):Nat->Nat->List Int
 | 0,0=>[]
 | m+1,0=>2::st s m 0
 | 0,n+1=>3::st s 0 n
 | m+1,n+1=>if s m n then 1::st s m n else if ed s m (n+1)<=ed s (m+1) n then 2::st s m (n+1)else 3::st s (m+1) n
termination_by m n=>m+n
section
variable{s:Nat->Nat->Bool}
theorem st_00:st s 0 0=[]:=by rw[st]
theorem I2(m:Nat):st s (m+1) 0=2::st s m 0:=by rw[st]
theorem st_0n(n:Nat):st s 0 (n+1)=3::st s 0 n:=by rw[st]
theorem EX(m n:Nat):st s (m+1) (n+1)=if s m n then 1::st s m n else if ed s m (n+1)<=ed s (m+1) n then 2::st s m (n+1)else 3::st s (m+1) n:=by rw[st]
def nE(l:List Int):Nat:=l.countP fun k=>k≠1
def nK(l:List Int):Nat:=l.countP fun k=>k=1
theorem F3(k:Int)(l:List Int):nE (k::l)=nE l+if k=1 then 0 else 1:=by
 unfold nE
 rw[List.countP_cons]
 by_cases h:k=1<;>simp[h]
theorem EB(k:Int)(l:List Int):nK (k::l)=nK l+if k=1 then 1 else 0:=by
 unfold nK
 rw[List.countP_cons]
 by_cases h:k=1<;>simp[h]
theorem HT:∀ (k m n:Nat),m+n<=k->nE (st s m n)=ed s m n/\ed s m n+2*nK (st s m n)=m+n/\(st s m n).length<=m+n /\ ∀ z∈st s m n,z=1\/z=2\/z=3
 | 0,m,n,h=>by
  obtain rfl:m=0:=by omega
  obtain rfl:n=0:=by omega
  rw[st_00,C1]
  exact⟨rfl,rfl,Nat.le_refl _,fun z hz=>by cases hz⟩
 | k+1,m,n,h=>by
  cases m with
  | zero=>
   cases n with
   | zero=>
    rw[st_00,C1]
    exact⟨rfl,rfl,Nat.le_refl _,fun z hz=>by cases hz⟩
   | succ n=>
    obtain⟨a1,a2,a3,a4⟩:=HT k 0 n (by omega)
    rw[st_0n,F3,EB,C1]
    rw[C1]at a1 a2
    simp only[show ¬ (3:Int)=1 by decide,if_false,List.length_cons,List.forall_mem_cons]
    exact⟨by omega,by omega,by omega,by simp,a4⟩
  | succ m=>
   cases n with
   | zero=>
    obtain⟨a1,a2,a3,a4⟩:=HT k m 0 (by omega)
    rw[I2,F3,EB,CH]
    rw[CH]at a1 a2
    simp only[show ¬ (2:Int)=1 by decide,if_false,List.length_cons,List.forall_mem_cons]
    exact⟨by omega,by omega,by omega,by simp,a4⟩
   | succ n=>
    rw[EX]
    cases hs:s m n with
    | true=>
     obtain⟨a1,a2,a3,a4⟩:=HT k m n (by omega)
     rw[if_pos rfl,F3,EB,H7 hs]
     simp only[if_true,List.length_cons,List.forall_mem_cons]
     exact⟨by omega,by omega,by omega,by simp,a4⟩
    | false=>
     have h1:=RZ (s:=s) m n
     have h2:=S2 (s:=s) m n
     rw[if_neg (by simp)]
     by_cases hc:ed s m (n+1)<=ed s (m+1) n
     ·obtain⟨a1,a2,a3,a4⟩:=HT k m (n+1) (by omega)
      rw[if_pos hc,F3,EB,DP hs,Nat.min_eq_left hc]
      simp only[show ¬ (2:Int)=1 by decide,if_false,List.length_cons,List.forall_mem_cons]
      exact⟨by omega,by omega,by omega,by simp,a4⟩
     ·obtain⟨a1,a2,a3,a4⟩:=HT k (m+1) n (by omega)
      rw[if_neg hc,F3,EB,DP hs,Nat.min_eq_right (by omega)]
      simp only[show ¬ (3:Int)=1 by decide,if_false,List.length_cons,List.forall_mem_cons]
      exact⟨by omega,by omega,by omega,by simp,a4⟩
theorem PP{m n:Nat}(hs:∀ n',n=n'+1->s m n'=false):wth s (ed s (m+1) n-1) m n=true->st s (m+1) n=2::st s m n/\ed s m n=ed s (m+1) n-1/\1<=ed s (m+1) n:=by
 intro h
 have h':=(of_decide_eq_true h).1
 cases n with
 | zero=>
  rw[I2,CH,CH]
  exact⟨rfl,by omega,by omega⟩
 | succ n=>
  have h0:=hs n rfl
  rw[DP h0]at h' ⊢
  rw[EX,if_neg (by simp[h0])]
  by_cases hc:ed s m (n+1)<=ed s (m+1) n
  ·rw[if_pos hc,Nat.min_eq_left hc]
   exact⟨rfl,by omega,by omega⟩
  ·omega
theorem RY{m n:Nat}(hm:m≠0\/n≠0)(hs:∀ m' n',m=m'+1->n=n'+1->s m' n'=false)(h:∀ m',m=m'+1->wth s (ed s m n-1) m' n=false):∃ n',n=n'+1/\st s m n=3::st s m n'/\ed s m n'=ed s m n-1/\1<=ed s m n:=by
 cases n with
 | zero=>
  cases m with
  | zero=>omega
  | succ m=>
   have:=of_decide_eq_false (h m rfl)
   rw[CH,CH]at this
   omega
 | succ n=>
  refine⟨n,rfl,?_⟩
  cases m with
  | zero=>
   rw[st_0n,C1,C1]
   exact⟨rfl,by omega,by omega⟩
  | succ m=>
   have h0:=hs m n rfl rfl
   have h1:=of_decide_eq_false (h m rfl)
   have p1:=J4 (s:=s) m (n+1)
   have p2:=J4 (s:=s) (m+1) (n+1)
   rw[DP h0]at h1 p2 ⊢
   rw[EX,if_neg (by simp[h0])]
   by_cases hc:ed s m (n+1)<=ed s (m+1) n
   ·rw[Nat.min_eq_left hc]at h1 p2
    omega
   ·rw[if_neg hc,Nat.min_eq_right (by omega)]
    exact⟨rfl,by omega,by omega⟩
end
def fe(l:List Int)(x:Nat):Int:=l.getD (l.length-1-x) 0
theorem Q6(p:Int)(l:List Int)(x:Nat)(hx:x<l.length):fe (p::l) x=fe l x:=by
 unfold fe
 have:(p::l).length-1-x=(l.length-1-x)+1:=by simp only[List.length_cons];omega
 rw[this]
 rfl
theorem QV{l:List Int}{i:Nat}{p:Int}(h:l[i]?=some p):fe l (l.length-1-i)=p:=by
 have hi:i<l.length:=(List.getElem?_eq_some_iff.1 h).1
 unfold fe
 rw[show l.length-1-(l.length-1-i)=i by omega,List.getD_eq_getElem?_getD,h]
 rfl
def sm(a b:List Int)(x y:Nat):Bool:=decide (x<a.length)&&decide (y<b.length)&&decide (fe a x=fe b y)
theorem P5(a b:List Int)(x y:Nat)(hx:x<a.length)(hy:y<b.length):sm a b x y=decide (fe a x=fe b y):=by
 unfold sm
 rw[decide_eq_true hx,decide_eq_true hy]
 rfl
theorem HE(a b:List Int)(x y:Nat)(h:a.length<=x):sm a b x y=false:=by
 unfold sm
 rw[decide_eq_false (show ¬ x<a.length by omega)]
 rfl
theorem Q5(a b:List Int)(x y:Nat)(h:b.length<=y):sm a b x y=false:=by
 unfold sm
 rw[decide_eq_false (show ¬ y<b.length by omega),Bool.and_false]
 rfl
theorem M2(a b:List Int)(x y:Nat):sm a b x y=sm b a y x:=by
 unfold sm
 rw[Bool.and_comm (decide (x<a.length)),decide_eq_decide.2 (eq_comm (a:=fe a x))]
theorem G9{a b:List Int}{i j:Nat}{p q:Int}(hp:a[i]?=some p)(hq:b[j]?=some q):sm a b (a.length-1-i) (b.length-1-j)=decide (p=q):=by
 have hi:i<a.length:=(List.getElem?_eq_some_iff.1 hp).1
 have hj:j<b.length:=(List.getElem?_eq_some_iff.1 hq).1
 rw[P5 a b _ _ (by omega) (by omega),QV hp,QV hq]
theorem F5(p:Int)(a b:List Int)(x y:Nat)(hx:x<a.length):sm (p::a) b x y=sm a b x y:=by
 unfold sm
 rw[decide_eq_true hx,decide_eq_true (show x<(p::a).length by simp only[List.length_cons];omega),Q6 p a x hx]
theorem GR(q:Int)(a b:List Int)(x y:Nat)(hy:y<b.length):sm a (q::b) x y=sm a b x y:=by
 rw[M2,F5 q b a y x hy,M2]
theorem LM(p q:Int)(a b:List Int)(x y:Nat)(hx:x<a.length)(hy:y<b.length):sm (p::a) (q::b) x y=sm a b x y:=by
 rw[F5 p a (q::b) x y hx,GR q a b x y hy]
end
end Go.Proofs.Ytmhhdoaiccahaaa
