/- Part 10. Conditions: as each theorem says. -/
import Derived.Test.YtjpghcmlglhmbaaMF09
import Derived.Test.YtjpghcmlglhmbaaProg
set_option maxRecDepth 100000
namespace Go.Proofs.Ytjpghcmlglhmbaa
open Go.RowKit
section
def ed(s:Nat->Nat->Bool):Nat->Nat->Nat
 | 0,n=>n
 | m+1,0=>m+1
 | m+1,n+1=>if s m n then ed s m n else 1+min (ed s m (n+1)) (ed s (m+1) n)
termination_by m n=>m+n
section
variable{s:Nat->Nat->Bool}
theorem BN(n:Nat):ed s 0 n=n:=by rw[ed]
theorem C2(m:Nat):ed s m 0=m:=by cases m<;>rw[ed]
theorem G7(m n:Nat):ed s (m+1) (n+1)=if s m n then ed s m n else 1+min (ed s m (n+1)) (ed s (m+1) n):=by rw[ed]
theorem FC{m n:Nat}(h:s m n=true):ed s (m+1) (n+1)=ed s m n:=by rw[G7,if_pos h]
theorem CX{m n:Nat}(h:s m n=false):ed s (m+1) (n+1)=1+min (ed s m (n+1)) (ed s (m+1) n):=by rw[G7,if_neg (by simp[h])]
theorem F0:∀ (k m n:Nat),m+n<=k->(ed s m n<=ed s (m+1) n+1/\ed s (m+1) n<=ed s m n+1)/\ed s m n<=ed s m (n+1)+1/\ed s m (n+1)<=ed s m n+1
 | 0,m,n,h=>by
  obtain rfl:m=0:=by omega
  obtain rfl:n=0:=by omega
  simp only[BN,C2]
  omega
 | k+1,m,n,h=>by
  constructor
  ·cases n with
   | zero=>simp only[C2];omega
   | succ n=>
    have ih:=F0 k m n (by omega)
    cases hs:s m n with
    | true=>rw[FC hs];omega
    | false=>rw[CX hs];omega
  ·cases m with
   | zero=>simp only[BN];omega
   | succ m=>
    have ih:=F0 k m n (by omega)
    cases hs:s m n with
    | true=>rw[FC hs];omega
    | false=>rw[CX hs];omega
theorem MR(m n:Nat):ed s m n<=ed s (m+1) n+1/\ed s (m+1) n<=ed s m n+1:=(F0 _ m n (Nat.le_refl _)).1
theorem N1(m n:Nat):ed s m n<=ed s m (n+1)+1/\ed s m (n+1)<=ed s m n+1:=(F0 _ m n (Nat.le_refl _)).2
theorem LX(m n:Nat):ed s m n<=ed s (m+1) (n+1):=by
 cases hs:s m n with
 | true=>rw[FC hs];exact Nat.le_refl _
 | false=>
  rw[CX hs]
  have:=MR (s:=s) m n
  have:=N1 (s:=s) m n
  omega
theorem IH(m n j:Nat):ed s m n<=ed s (m+j) (n+j):=by
 induction j with
 | zero=>exact Nat.le_refl _
 | succ j ih=>exact Nat.le_trans ih (LX (m+j) (n+j))
theorem GL:∀ (k m n:Nat),m+n<=k->(ed s m n+m+n) % 2=0
 | 0,m,n,h=>by
  obtain rfl:m=0:=by omega
  obtain rfl:n=0:=by omega
  rw[BN]
 | k+1,m,n,h=>by
  cases m with
  | zero=>rw[BN];omega
  | succ m=>
   cases n with
   | zero=>rw[C2];omega
   | succ n=>
    have h1:=GL k m n (by omega)
    have h2:=GL k m (n+1) (by omega)
    have h3:=GL k (m+1) n (by omega)
    cases hs:s m n with
    | true=>rw[FC hs];omega
    | false=>rw[CX hs];omega
theorem GJ(m n:Nat):(ed s m n+m+n) % 2=0:=GL _ m n (Nat.le_refl _)
theorem GI:∀ (k m n:Nat),m+n<=k->m<=ed s m n+n/\n<=ed s m n+m/\ed s m n<=m+n
 | 0,m,n,h=>by
  obtain rfl:m=0:=by omega
  obtain rfl:n=0:=by omega
  rw[BN]
  omega
 | k+1,m,n,h=>by
  cases m with
  | zero=>rw[BN];omega
  | succ m=>
   cases n with
   | zero=>rw[C2];omega
   | succ n=>
    have h1:=GI k m n (by omega)
    have h2:=GI k m (n+1) (by omega)
    have h3:=GI k (m+1) n (by omega)
    cases hs:s m n with
    | true=>rw[FC hs];omega
    | false=>rw[CX hs];omega
theorem LI(m n:Nat):m<=ed s m n+n/\n<=ed s m n+m/\ed s m n<=m+n:=GI _ m n (Nat.le_refl _)
theorem IX(m n:Nat):∀ j,(∀ i,i<j->s (m+i) (n+i)=true)->ed s (m+j) (n+j)=ed s m n
 | 0,_=>rfl
 | j+1,h=>by
  rw[<- IX m n j fun i hi=>h i (by omega)]
  exact FC (h j (by omega))
end
theorem C1{s t:Nat->Nat->Bool}:∀ (k m n:Nat),m+n<=k->(∀ x y,x<m->y<n->s x y=t x y)->ed s m n=ed t m n
 | 0,m,n,h,_=>by
  obtain rfl:m=0:=by omega
  rw[BN,BN]
 | k+1,m,n,h,hst=>by
  cases m with
  | zero=>rw[BN,BN]
  | succ m=>
   cases n with
   | zero=>rw[C2,C2]
   | succ n=>
    rw[G7,G7,hst m n (by omega) (by omega),C1 k m n (by omega) fun x y hx hy=>hst x y (by omega) (by omega),C1 k m (n+1) (by omega) fun x y hx hy=>hst x y (by omega) (by omega),C1 k (m+1) n (by omega) fun x y hx hy=>hst x y (by omega) (by omega)]
def alk(s:Nat->Nat->Bool):Nat->Nat->Nat->Nat
 | 0,x,_=>x
 | f+1,x,y=>if s x y then alk s f (x+1) (y+1)else x
theorem GP{s:Nat->Nat->Bool}{N:Nat}(hN:∀ x y,N<=x->s x y=false):∀ (f x y:Nat),N<=x+f -> ∃ j,alk s f x y=x+j/\(∀ i,i<j->s (x+i) (y+i)=true)/\s (x+j) (y+j)=false/\(j=0\/x+j<=N)
 | 0,x,y,h=>⟨0,rfl,fun i hi=>by omega,hN _ _ (by omega),.inl rfl⟩
 | f+1,x,y,h=>by
  cases hs:s x y with
  | false=>exact⟨0,by simp[alk,hs],fun i hi=>by omega,hs,.inl rfl⟩
  | true=>
   obtain⟨j,h1,h2,h3,h4⟩:=GP hN f (x+1) (y+1) (by omega)
   have hx:x<N:=by
    rcases Nat.lt_or_ge x N with h | h
    ·exact h
    ·rw[hN x y h]at hs;cases hs
   refine⟨j+1,by simp only[alk,hs,if_true,h1];omega,fun i hi=>?_,by rw[<- h3];congr 1<;>omega,.inr (by omega)⟩
   cases i with
   | zero=>exact hs
   | succ i=>rw[<- h2 i (by omega)];congr 1<;>omega
def edt(p:Nat->Nat)(d i:Nat):Nat:=if i=0 then p 0 else if i=d+1 then p d+1 else max (p (i-1)+1) (p i)
def fr(s:Nat->Nat->Bool)(N:Nat):Nat->Nat->Nat
 | 0,_=>alk s N 0 0
 | d+1,i=>alk s N (edt (fr s N d) d i) (edt (fr s N d) d i+(d+1)-2*i)
theorem G8{s:Nat->Nat->Bool}{N d e y0 i:Nat}(hN:∀ x y,N<=x->s x y=false)(he:e+d=y0+2*i)(h1:ed s e y0<=d)(h2:∀ X Y,e<=X->X+d=Y+2*i->s X Y=false->d<ed s (X+1) (Y+1)):
  (∀ x y,x+d=y+2*i->(ed s x y<=d↔x<=alk s N e y0))/\(alk s N e y0<=N\/alk s N e y0=e):=by
 obtain⟨j,a1,a2,a3,a4⟩:=GP hN N e y0 (by omega)
 rw[a1]
 refine⟨fun x y hxy=>?_,by omega⟩
 have h3:=IX e y0 j a2
 have h4:=h2 (e+j) (y0+j) (by omega) (by omega) a3
 constructor
 ·intro h
  rcases Nat.lt_or_ge (e+j) x with hx | hx
  ·have:=IH (s:=s) (e+j+1) (y0+j+1) (x-(e+j+1))
   rw[show e+j+1+(x-(e+j+1))=x by omega,show y0+j+1+(x-(e+j+1))=y by omega]at this
   omega
  ·exact hx
 ·intro h
  have:=IH (s:=s) x y (e+j-x)
  rw[show x+(e+j-x)=e+j by omega,show y+(e+j-x)=y0+j by omega,h3]at this
  omega
theorem H1{s:Nat->Nat->Bool}{N:Nat}(hN:∀ x y,N<=x->s x y=false):∀ d i,i<=d->(∀ x y,x+d=y+2*i->(ed s x y<=d↔x<=fr s N d i))/\fr s N d i<=N+d
 | 0,i,hi=>by
  obtain rfl:i=0:=by omega
  have:=G8 (d:=0) (e:=0) (y0:=0) (i:=0) hN rfl (by rw[BN];exact Nat.le_refl _) fun X Y _ h hs=>by rw[CX hs];omega
  exact⟨this.1,by have:=this.2;unfold fr;omega⟩
 | d+1,i,hi=>by
  have ih:=H1 hN d
  have low:∀ i,i<=d->2*i<=fr s N d i+d:=fun i hi=>by
   rcases Nat.lt_or_ge (2*i) d with h | h
   ·omega
   ·have:=((ih i hi).1 (2*i-d) 0 (by omega)).1 (by rw[C2];omega)
    omega
  have he:edt (fr s N d) d i+(d+1)=(edt (fr s N d) d i+(d+1)-2*i)+2*i/\ed s (edt (fr s N d) d i) (edt (fr s N d) d i+(d+1)-2*i)<=d+1/\(0<i->fr s N d (i-1)+1<=edt (fr s N d) d i)/\(i<=d->fr s N d i<=edt (fr s N d) d i)/\edt (fr s N d) d i<=N+d+1:=by
   have A:0<i->2*i<=fr s N d (i-1)+1+(d+1)/\ed s (fr s N d (i-1)+1) (fr s N d (i-1)+1+(d+1)-2*i)<=d+1/\fr s N d (i-1)<=N+d:=fun h0=>by
    have l:=low (i-1) (by omega)
    have h1:=((ih (i-1) (by omega)).1 (fr s N d (i-1)) (fr s N d (i-1)+1+(d+1)-2*i) (by omega)).2 (Nat.le_refl _)
    have h2:=MR (s:=s) (fr s N d (i-1)) (fr s N d (i-1)+1+(d+1)-2*i)
    exact⟨by omega,by omega,(ih (i-1) (by omega)).2⟩
   have C:i<=d->2*i<=fr s N d i+(d+1)/\ed s (fr s N d i) (fr s N d i+(d+1)-2*i)<=d+1/\fr s N d i<=N+d:=fun h0=>by
    have l:=low i h0
    have h1:=((ih i h0).1 (fr s N d i) (fr s N d i+d-2*i) (by omega)).2 (Nat.le_refl _)
    have h2:=N1 (s:=s) (fr s N d i) (fr s N d i+d-2*i)
    rw[show fr s N d i+d-2*i+1=fr s N d i+(d+1)-2*i by omega]at h2
    exact⟨by omega,by omega,(ih i h0).2⟩
   unfold edt
   by_cases h0:i=0
   ·subst h0
    have:=C (by omega)
    rw[if_pos rfl]
    exact⟨by omega,this.2.1,fun h=>by omega,fun _=>Nat.le_refl _,by omega⟩
   ·rw[if_neg h0]
    by_cases h1:i=d+1
    ·subst h1
     have:=A (by omega)
     rw[if_pos rfl]
     simp only[Nat.add_sub_cancel]at this ⊢
     exact⟨by omega,this.2.1,fun _=>Nat.le_refl _,fun h=>by omega,by omega⟩
    ·rw[if_neg h1]
     have a:=A (by omega)
     have c:=C (by omega)
     rcases Nat.le_total (fr s N d (i-1)+1) (fr s N d i)with h | h
     ·rw[Nat.max_eq_right h]
      exact⟨by omega,c.2.1,fun _=>h,fun _=>Nat.le_refl _,by omega⟩
     ·rw[Nat.max_eq_left h]
      exact⟨by omega,a.2.1,fun _=>Nat.le_refl _,fun _=>h,by omega⟩
  show(∀ x y,x+(d+1)=y+2*i->(ed s x y<=d+1↔x<=alk s N (edt (fr s N d) d i) (edt (fr s N d) d i+(d+1)-2*i)))/\alk s N (edt (fr s N d) d i) (edt (fr s N d) d i+(d+1)-2*i)<=N+(d+1)
  generalize edt (fr s N d) d i=e at he ⊢
  obtain⟨h1,h2,h3,h4,h5⟩:=he
  have:=G8 (d:=d+1) (e:=e) (y0:=e+(d+1)-2*i) (i:=i) hN h1 h2 fun X Y hX hXY hs=>by
   rw[CX hs]
   have b1:d<ed s X (Y+1):=by
    rcases Nat.eq_zero_or_pos i with h | h
    ·have:=LI (s:=s) X (Y+1)
     omega
    ·have:=(ih (i-1) (by omega)).1 X (Y+1) (by omega)
     have:=h3 h
     omega
   have b2:d<ed s (X+1) Y:=by
    rcases Nat.lt_or_ge d i with h | h
    ·have:=LI (s:=s) (X+1) Y
     omega
    ·have:=(ih i h).1 (X+1) Y (by omega)
     have:=h4 h
     omega
   omega
  exact⟨this.1,by have:=this.2;omega⟩
def wth(s:Nat->Nat->Bool)(d x y:Nat):Bool:=decide (ed s x y<=d/\(x+y+d) % 2=0)
theorem NC{s:Nat->Nat->Bool}{N:Nat}(hN:∀ x y,N<=x->s x y=false)(d x y:Nat):
  wth s d x y=decide (y<=x+d/\x+d-y<=2*d/\(x+d-y) % 2=0/\x<=fr s N d ((x+d-y) / 2)):=by
 unfold wth
 refine decide_eq_decide.2 ⟨fun⟨h1,h2⟩=>?_,fun⟨h1,h2,h3,h4⟩=>?_⟩
 ·have:=LI (s:=s) x y
  refine⟨by omega,by omega,by omega,?_⟩
  exact((H1 hN d ((x+d-y) / 2) (by omega)).1 x y (by omega)).1 h1
 ·exact⟨((H1 hN d ((x+d-y) / 2) (by omega)).1 x y (by omega)).2 h4,by omega⟩
def st(s:Nat->Nat->Bool):Nat->Nat->List Int
 | 0,0=>[]
 | m+1,0=>2::st s m 0
 | 0,n+1=>3::st s 0 n
 | m+1,n+1=>if s m n then 1::st s m n else if ed s m (n+1)<=ed s (m+1) n then 2::st s m (n+1)else 3::st s (m+1) n
termination_by m n=>m+n
section
variable{s:Nat->Nat->Bool}
theorem st_00:st s 0 0=[]:=by rw[st]
theorem HL(m:Nat):st s (m+1) 0=2::st s m 0:=by rw[st]
theorem st_0n(n:Nat):st s 0 (n+1)=3::st s 0 n:=by rw[st]
theorem DV(m n:Nat):st s (m+1) (n+1)=if s m n then 1::st s m n else if ed s m (n+1)<=ed s (m+1) n then 2::st s m (n+1)else 3::st s (m+1) n:=by rw[st]
def nE(l:List Int):Nat:=l.countP fun k=>k≠1
def nK(l:List Int):Nat:=l.countP fun k=>k=1
theorem E4(k:Int)(l:List Int):nE (k::l)=nE l+if k=1 then 0 else 1:=by
 unfold nE
 rw[List.countP_cons]
 by_cases h:k=1<;>simp[h]
theorem E6(k:Int)(l:List Int):nK (k::l)=nK l+if k=1 then 1 else 0:=by
 unfold nK
 rw[List.countP_cons]
 by_cases h:k=1<;>simp[h]
theorem G1:∀ (k m n:Nat),m+n<=k->nE (st s m n)=ed s m n/\ed s m n+2*nK (st s m n)=m+n/\(st s m n).length<=m+n /\ ∀ z∈st s m n,z=1\/z=2\/z=3
 | 0,m,n,h=>by
  obtain rfl:m=0:=by omega
  obtain rfl:n=0:=by omega
  rw[st_00,BN]
  exact⟨rfl,rfl,Nat.le_refl _,fun z hz=>by cases hz⟩
 | k+1,m,n,h=>by
  cases m with
  | zero=>
   cases n with
   | zero=>
    rw[st_00,BN]
    exact⟨rfl,rfl,Nat.le_refl _,fun z hz=>by cases hz⟩
   | succ n=>
    obtain⟨a1,a2,a3,a4⟩:=G1 k 0 n (by omega)
    rw[st_0n,E4,E6,BN]
    rw[BN]at a1 a2
    simp only[show ¬ (3:Int)=1 by decide,if_false,List.length_cons,List.forall_mem_cons]
    exact⟨by omega,by omega,by omega,by simp,a4⟩
  | succ m=>
   cases n with
   | zero=>
    obtain⟨a1,a2,a3,a4⟩:=G1 k m 0 (by omega)
    rw[HL,E4,E6,C2]
    rw[C2]at a1 a2
    simp only[show ¬ (2:Int)=1 by decide,if_false,List.length_cons,List.forall_mem_cons]
    exact⟨by omega,by omega,by omega,by simp,a4⟩
   | succ n=>
    rw[DV]
    cases hs:s m n with
    | true=>
     obtain⟨a1,a2,a3,a4⟩:=G1 k m n (by omega)
     rw[if_pos rfl,E4,E6,FC hs]
     simp only[if_true,List.length_cons,List.forall_mem_cons]
     exact⟨by omega,by omega,by omega,by simp,a4⟩
    | false=>
     have h1:=MR (s:=s) m n
     have h2:=N1 (s:=s) m n
     rw[if_neg (by simp)]
     by_cases hc:ed s m (n+1)<=ed s (m+1) n
     ·obtain⟨a1,a2,a3,a4⟩:=G1 k m (n+1) (by omega)
      rw[if_pos hc,E4,E6,CX hs,Nat.min_eq_left hc]
      simp only[show ¬ (2:Int)=1 by decide,if_false,List.length_cons,List.forall_mem_cons]
      exact⟨by omega,by omega,by omega,by simp,a4⟩
     ·obtain⟨a1,a2,a3,a4⟩:=G1 k (m+1) n (by omega)
      rw[if_neg hc,E4,E6,CX hs,Nat.min_eq_right (by omega)]
      simp only[show ¬ (3:Int)=1 by decide,if_false,List.length_cons,List.forall_mem_cons]
      exact⟨by omega,by omega,by omega,by simp,a4⟩
theorem L5{m n:Nat}(hs:∀ n',n=n'+1->s m n'=false):wth s (ed s (m+1) n-1) m n=true->st s (m+1) n=2::st s m n/\ed s m n=ed s (m+1) n-1/\1<=ed s (m+1) n:=by
 intro h
 have h':=(of_decide_eq_true h).1
 cases n with
 | zero=>
  rw[HL,C2,C2]
  exact⟨rfl,by omega,by omega⟩
 | succ n=>
  have h0:=hs n rfl
  rw[CX h0]at h' ⊢
  rw[DV,if_neg (by simp[h0])]
  by_cases hc:ed s m (n+1)<=ed s (m+1) n
  ·rw[if_pos hc,Nat.min_eq_left hc]
   exact⟨rfl,by omega,by omega⟩
  ·omega
theorem MS{m n:Nat}(hm:m≠0\/n≠0)(hs:∀ m' n',m=m'+1->n=n'+1->s m' n'=false)(h:∀ m',m=m'+1->wth s (ed s m n-1) m' n=false):∃ n',n=n'+1/\st s m n=3::st s m n'/\ed s m n'=ed s m n-1/\1<=ed s m n:=by
 cases n with
 | zero=>
  cases m with
  | zero=>omega
  | succ m=>
   have:=of_decide_eq_false (h m rfl)
   rw[C2,C2]at this
   omega
 | succ n=>
  refine⟨n,rfl,?_⟩
  cases m with
  | zero=>
   rw[st_0n,BN,BN]
   exact⟨rfl,by omega,by omega⟩
  | succ m=>
   have h0:=hs m n rfl rfl
   have h1:=of_decide_eq_false (h m rfl)
   have p1:=GJ (s:=s) m (n+1)
   have p2:=GJ (s:=s) (m+1) (n+1)
   rw[CX h0]at h1 p2 ⊢
   rw[DV,if_neg (by simp[h0])]
   by_cases hc:ed s m (n+1)<=ed s (m+1) n
   ·rw[Nat.min_eq_left hc]at h1 p2
    omega
   ·rw[if_neg hc,Nat.min_eq_right (by omega)]
    exact⟨rfl,by omega,by omega⟩
end
def fe(l:List Int)(x:Nat):Int:=l.getD (l.length-1-x) 0
theorem LZ(p:Int)(l:List Int)(x:Nat)(hx:x<l.length):fe (p::l) x=fe l x:=by
 unfold fe
 have:(p::l).length-1-x=(l.length-1-x)+1:=by simp only[List.length_cons];omega
 rw[this]
 rfl
theorem MA{l:List Int}{i:Nat}{p:Int}(h:l[i]?=some p):fe l (l.length-1-i)=p:=by
 have hi:i<l.length:=(List.getElem?_eq_some_iff.1 h).1
 unfold fe
 rw[show l.length-1-(l.length-1-i)=i by omega,List.getD_eq_getElem?_getD,h]
 rfl
def sm(a b:List Int)(x y:Nat):Bool:=decide (x<a.length)&&decide (y<b.length)&&decide (fe a x=fe b y)
theorem JU(a b:List Int)(x y:Nat)(hx:x<a.length)(hy:y<b.length):sm a b x y=decide (fe a x=fe b y):=by
 unfold sm
 rw[decide_eq_true hx,decide_eq_true hy]
 rfl
theorem FH(a b:List Int)(x y:Nat)(h:a.length<=x):sm a b x y=false:=by
 unfold sm
 rw[decide_eq_false (show ¬ x<a.length by omega)]
 rfl
theorem LM(a b:List Int)(x y:Nat)(h:b.length<=y):sm a b x y=false:=by
 unfold sm
 rw[decide_eq_false (show ¬ y<b.length by omega),Bool.and_false]
 rfl
theorem IS(a b:List Int)(x y:Nat):sm a b x y=sm b a y x:=by
 unfold sm
 rw[Bool.and_comm (decide (x<a.length)),decide_eq_decide.2 (eq_comm (a:=fe a x))]
theorem EV{a b:List Int}{i j:Nat}{p q:Int}(hp:a[i]?=some p)(hq:b[j]?=some q):sm a b (a.length-1-i) (b.length-1-j)=decide (p=q):=by
 have hi:i<a.length:=(List.getElem?_eq_some_iff.1 hp).1
 have hj:j<b.length:=(List.getElem?_eq_some_iff.1 hq).1
 rw[JU a b _ _ (by omega) (by omega),MA hp,MA hq]
theorem DS(p:Int)(a b:List Int)(x y:Nat)(hx:x<a.length):sm (p::a) b x y=sm a b x y:=by
 unfold sm
 rw[decide_eq_true hx,decide_eq_true (show x<(p::a).length by simp only[List.length_cons];omega),LZ p a x hx]
theorem FA(q:Int)(a b:List Int)(x y:Nat)(hy:y<b.length):sm a (q::b) x y=sm a b x y:=by
 rw[IS,DS q b a y x hy,IS]
theorem IL(p q:Int)(a b:List Int)(x y:Nat)(hx:x<a.length)(hy:y<b.length):sm (p::a) (q::b) x y=sm a b x y:=by
 rw[DS p a (q::b) x y hx,FA q a b x y hy]
end
abbrev Rn:Type:=Int×Int
def BM(l:List Rn)(k c:Int):List Rn:=
 if c=0 then l else match l.getLast? with
 | none=>[(k,c)]
 | some p=>if p.1=k then l.dropLast++[(p.1,p.2+c)]else l++[(k,c)]
theorem BJ(l:List Rn)(k:Int):BM l k 0=l:=by unfold BM;rw[if_pos rfl]
theorem C3{k c:Int}(h:c≠0):BM [] k c=[(k,c)]:=by unfold BM;rw[if_neg h];rfl
theorem BW{m:List Rn}{k c c':Int}(h:c≠0):BM (m++[(k,c')]) k c=m++[(k,c'+c)]:=by
 unfold BM
 rw[if_neg h,List.getLast?_append]
 simp
theorem CV{m:List Rn}{k k' c c':Int}(h:c≠0)(hk:k'≠k):BM (m++[(k',c')]) k c=m++[(k',c')]++[(k,c)]:=by
 unfold BM
 rw[if_neg h,List.getLast?_append]
 simp[hk]
theorem D9(l:List Rn):l=[] \/ ∃ m k c,l=m++[(k,c)]:=by
 rcases List.eq_nil_or_concat l with h | ⟨m,⟨k,c⟩,h⟩
 ·exact .inl h
 ·exact .inr ⟨m,k,c,by rw[h,List.concat_eq_append]⟩
theorem JK(l:List Rn)(k:Int){c d:Int}(hc:0<=c)(hd:0<=d):BM (BM l k c) k d=BM l k (c+d):=by
 by_cases h0:c=0
 ·subst h0
  rw[BJ,Int.zero_add]
 by_cases h1:d=0
 ·subst h1
  rw[BJ,Int.add_zero]
 have h2:c+d≠0:=by omega
 rcases D9 l with rfl | ⟨m,k',c',rfl⟩
 ·rw[C3 h0,C3 h2,show[(k,c)]=([]:List Rn)++[(k,c)] from rfl,BW h1]
  rfl
 ·by_cases hk:k'=k
  ·subst hk
   rw[BW h0,BW h1,BW h2,Int.add_assoc]
  ·rw[CV h0 hk,CV h2 hk,BW h1]
def B7(l:List Int):List Rn:=l.foldl (fun r k=>BM r k 1) []
theorem BS(l:List Int)(k:Int):B7 (l++[k])=BM (B7 l) k 1:=by unfold B7;rw[List.foldl_append];rfl
theorem D7(l:List Int)(k:Int):∀ n:Nat,B7 (l++List.replicate n k)=BM (B7 l) k (n:Int)
 | 0=>by rw[List.replicate_zero,List.append_nil];exact(BJ _ _).symm
 | n+1=>by
  rw[List.replicate_succ',<- List.append_assoc,BS,D7 l k n,JK _ _ (by omega) (by omega)]
  rfl
def ex(r:List Rn):List Int:=r.flatMap fun p=>List.replicate p.2.toNat p.1
def OkR(r:List Rn):Prop:=∀ p∈r,1<=p.2
theorem EB(r q:List Rn):ex (r++q)=ex r++ex q:=List.flatMap_append ..
theorem GO(k c:Int):ex [(k,c)]=List.replicate c.toNat k:=by simp[ex]
theorem LY{l:List Rn}(h:OkR l){k c:Int}(hc:0<=c):OkR (BM l k c)/\ex (BM l k c)=ex l++List.replicate c.toNat k:=by
 by_cases h0:c=0
 ·subst h0
  rw[BJ]
  exact⟨h,by simp⟩
 rcases D9 l with rfl | ⟨m,k',c',rfl⟩
 ·rw[C3 h0]
  refine⟨fun p hp=>?_,by rw[GO];rfl⟩
  rw[List.mem_singleton.1 hp]
  show 1<=c
  omega
 ·have h1:1<=c':=h (k',c') (by simp)
  have hm:OkR m:=fun p hp=>h p (by simp[hp])
  by_cases hk:k'=k
  ·subst hk
   rw[BW h0]
   refine⟨fun p hp=>?_,?_⟩
   ·rcases List.mem_append.1 hp with hp | hp
    ·exact hm p hp
    ·rw[List.mem_singleton.1 hp]
     show 1<=c'+c
     omega
   ·rw[EB,EB,GO,GO,List.append_assoc,List.replicate_append_replicate,show(c'+c).toNat=c'.toNat+c.toNat by omega]
  ·rw[CV h0 hk]
   refine⟨fun p hp=>?_,by rw[EB,GO]⟩
   rcases List.mem_append.1 hp with hp | hp
   ·exact h p hp
   ·rw[List.mem_singleton.1 hp]
    show 1<=c
    omega
theorem JQ{α:Type}{P:List α->Prop}(h0:P [])(h1:∀ l a,P l->P (l++[a]))(l:List α):P l:=by
 have:∀ (n:Nat) (l:List α),l.length=n->P l:=by
  intro n
  induction n with
  | zero=>intro l h;rw[List.eq_nil_of_length_eq_zero h];exact h0
  | succ n ih=>
   intro l h
   rcases List.eq_nil_or_concat l with rfl | ⟨m,a,rfl⟩
   ·exact h0
   ·rw[List.concat_eq_append];exact h1 m a (ih m (by simpa using h))
 exact this _ l rfl
theorem IU(l:List Int):OkR (B7 l)/\ex (B7 l)=l:=by
 induction l using JQ with
 | h0=>exact⟨fun p hp=>(by cases hp),rfl⟩
 | h1 l k ih=>
  rw[BS]
  have:=LY ih.1 (k:=k) (c:=1) (by decide)
  rw[ih.2]at this
  exact this
theorem MK{r:List Rn}{p:Rn}(hp:p∈r):p.2.toNat<=(ex r).length:=by
 induction r with
 | nil=>cases hp
 | cons q r ih=>
  have h:ex (q::r)=List.replicate q.2.toNat q.1++ex r:=rfl
  rw[h,List.length_append,List.length_replicate]
  rcases List.mem_cons.1 hp with rfl | hp
  ·omega
  ·have:=ih hp;omega
theorem N4{r:List Rn}(h:OkR r):r.length<=(ex r).length:=by
 induction r with
 | nil=>exact Nat.le_refl _
 | cons q r ih=>
  have h0:ex (q::r)=List.replicate q.2.toNat q.1++ex r:=rfl
  have h1:=ih fun p hp=>h p (List.mem_cons_of_mem _ hp)
  have h2:=h q List.mem_cons_self
  rw[h0,List.length_append,List.length_replicate,List.length_cons]
  omega
theorem FR{l:List Int}{p:Rn}(hp:p∈B7 l):1<=p.2/\p.2<=(l.length:Int)/\p.1∈l:=by
 have h:=IU l
 have h1:=h.1 p hp
 have h2:=MK hp
 rw[h.2]at h2
 refine⟨h1,by omega,?_⟩
 rw[<- h.2]
 exact List.mem_flatMap.2 ⟨p,hp,by rw[List.mem_replicate];exact⟨by omega,rfl⟩⟩
theorem F4(l:List Int):(B7 l).length<=l.length:=by
 have h:=IU l
 have:=N4 h.1
 rwa [h.2]at this
theorem G9(l:List Int)(k:Int):∃ m c,B7 (l++[k])=m++[(k,c)]:=by
 rw[BS]
 rcases D9 (B7 l)with h | ⟨m,k',c',h⟩
 ·exact⟨[],1,by rw[h,C3 (by decide)];rfl⟩
 ·by_cases hk:k'=k
  ·subst hk
   exact⟨m,c'+1,by rw[h,BW (by decide)]⟩
  ·exact⟨m++[(k',c')],1,by rw[h,CV (by decide) hk]⟩
def K3(l:List Int):Prop:=∀ z∈l,z=1\/z=2\/z=3
def edL(a b:List Int):Nat:=ed (sm a b) a.length b.length
def stL(a b:List Int):List Int:=st (sm a b) a.length b.length
theorem IG(p q:Int)(a b:List Int):sm (p::a) (q::b) a.length b.length=decide (p=q):=by
 have:=EV (a:=p::a) (b:=q::b) (i:=0) (j:=0) (p:=p) (q:=q) rfl rfl
 simpa using this
theorem NV(p q:Int)(a b:List Int):ed (sm (p::a) (q::b)) a.length b.length=edL a b:=C1 _ _ _ (Nat.le_refl _) fun x y hx hy=>IL p q a b x y hx hy
theorem MD(p:Int)(a b:List Int):ed (sm (p::a) b) a.length b.length=edL a b:=C1 _ _ _ (Nat.le_refl _) fun x y hx _=>DS p a b x y hx
theorem MB(q:Int)(a b:List Int):ed (sm a (q::b)) a.length b.length=edL a b:=C1 _ _ _ (Nat.le_refl _) fun x y _ hy=>FA q a b x y hy
theorem GW(p q:Int)(a b:List Int):edL (p::a) (q::b)=if p=q then edL a b else 1+min (edL a (q::b)) (edL (p::a) b):=by
 show ed (sm (p::a) (q::b)) (a.length+1) (b.length+1)=_
 rw[G7,IG,NV]
 have h1:=MD p a (q::b)
 have h2:=MB q (p::a) b
 simp only[List.length_cons]at h1 h2
 rw[h1,h2]
 by_cases h:p=q<;>simp[h]
theorem BY{s t:Nat->Nat->Bool}:∀ (k m n:Nat),m+n<=k->(∀ x y,x<m->y<n->s x y=t x y)->st s m n=st t m n
 | 0,m,n,h,_=>by
  obtain rfl:m=0:=by omega
  obtain rfl:n=0:=by omega
  rw[st_00,st_00]
 | k+1,m,n,h,hst=>by
  cases m with
  | zero=>
   cases n with
   | zero=>rw[st_00,st_00]
   | succ n=>rw[st_0n,st_0n,BY k 0 n (by omega) fun x y hx hy=>hst x y (by omega) (by omega)]
  | succ m=>
   cases n with
   | zero=>rw[HL,HL,BY k m 0 (by omega) fun x y hx hy=>hst x y (by omega) (by omega)]
   | succ n=>
    rw[DV,DV,hst m n (by omega) (by omega),BY k m n (by omega) fun x y hx hy=>hst x y (by omega) (by omega),BY k m (n+1) (by omega) fun x y hx hy=>hst x y (by omega) (by omega),BY k (m+1) n (by omega) fun x y hx hy=>hst x y (by omega) (by omega),C1 _ m (n+1) (Nat.le_refl _) fun x y hx hy=>hst x y (by omega) (by omega),C1 _ (m+1) n (Nat.le_refl _) fun x y hx hy=>hst x y (by omega) (by omega)]
theorem NK(p:Int)(a b:List Int):st (sm (p::a) b) a.length b.length=stL a b:=BY _ _ _ (Nat.le_refl _) fun x y hx _=>DS p a b x y hx
theorem MC(q:Int)(a b:List Int):st (sm a (q::b)) a.length b.length=stL a b:=BY _ _ _ (Nat.le_refl _) fun x y _ hy=>FA q a b x y hy
theorem LS:stL [] []=[]:=st_00
theorem NR(q:Int)(b:List Int):stL [] (q::b)=3::stL [] b:=by
 have:=MC q [] b
 show st _ 0 (b.length+1)=_
 rw[st_0n]
 exact congrArg _ this
theorem KL(p q:Int)(a b:List Int):stL (p::a) (q::b)=if p=q then 1::stL a b else if edL a (q::b)<=edL (p::a) b then 2::stL a (q::b)else 3::stL (p::a) b:=by
 have h0:st (sm (p::a) (q::b)) a.length b.length=stL a b:=BY _ _ _ (Nat.le_refl _) fun x y hx hy=>IL p q a b x y hx hy
 have h1:=MD p a (q::b)
 have h2:=MB q (p::a) b
 have h3:=NK p a (q::b)
 have h4:=MC q (p::a) b
 simp only[List.length_cons]at h1 h2 h3 h4
 show st (sm (p::a) (q::b)) (a.length+1) (b.length+1)=_
 rw[DV,IG,h0,h1,h2,h3,h4]
 by_cases h:p=q<;>simp[h]
theorem HW(a b:List Int):nE (stL a b)=edL a b/\edL a b+2*nK (stL a b)=a.length+b.length/\(stL a b).length<=a.length+b.length/\K3 (stL a b):=G1 _ _ _ (Nat.le_refl _)
def hd:List Int->List Int->Nat
 | p::a,q::b=>if p=q then hd a b+1 else 0
 | _,_=>0
theorem H2:∀ a b:List Int,hd a b<=a.length/\hd a b<=b.length
 | [],b=>by simp[hd]
 | p::a,[]=>by simp[hd]
 | p::a,q::b=>by
  have:=H2 a b
  unfold hd
  split
  ·simp only[List.length_cons];omega
  ·simp
theorem GT:∀ {a b:List Int} {k:Nat} {p q:Int},k<=hd a b->a[k]?=some p->b[k]?=some q->(p=q↔k<hd a b)
 | [],_,_,_,_,_,h,_=>by simp at h
 | _::_,[],_,_,_,_,_,h=>by simp at h
 | x::a,y::b,k,p,q,hk,hp,hq=>by
  cases k with
  | zero=>
   obtain rfl:x=p:=by simpa using hp
   obtain rfl:y=q:=by simpa using hq
   unfold hd
   by_cases e:x=y
   ·rw[if_pos e];exact⟨fun _=>by omega,fun _=>e⟩
   ·rw[if_neg e];exact⟨fun h=>absurd h e,fun h=>by omega⟩
  | succ k=>
   have hp':a[k]?=some p:=by simpa using hp
   have hq':b[k]?=some q:=by simpa using hq
   unfold hd at hk ⊢
   by_cases e:x=y
   ·rw[if_pos e]at hk ⊢
    rw[GT (k:=k) (by omega) hp' hq']
    omega
   ·rw[if_neg e]at hk;omega
def tl(a b:List Int):Nat:=alk (sm a b) a.length 0 0
theorem MG(a b:List Int):tl a b<=a.length/\tl a b<=b.length /\ ∀ k,k<=tl a b->(sm a b k k=true↔k<tl a b):=by
 obtain⟨j,h1,h2,h3,h4⟩:=GP (N:=a.length) (fun x y h=>FH a b x y h) a.length 0 0 (by omega)
 have e:tl a b=j:=by unfold tl;rw[h1];omega
 rw[e]
 refine⟨by omega,?_,fun k hk=>⟨fun h=>?_,fun h=>?_⟩⟩
 ·rcases Nat.lt_or_ge b.length j with h | h
  ·have:=h2 b.length h
   rw[Nat.zero_add,LM a b _ _ (Nat.le_refl _)]at this
   cases this
  ·exact h
 ·rcases Nat.lt_or_ge k j with h5 | h5
  ·exact h5
  ·obtain rfl:k=j:=by omega
   rw[Nat.zero_add]at h3
   rw[h3]at h;cases h
 ·have:=h2 k h
  rwa [Nat.zero_add]at this
def tlN(a b:List Int):Nat:=tl (a.drop (hd a b)) (b.drop (hd a b))
theorem HQ(a b:List Int):hd a b+tlN a b<=a.length/\hd a b+tlN a b<=b.length:=by
 have h1:=H2 a b
 have h2:=MG (a.drop (hd a b)) (b.drop (hd a b))
 rw[List.length_drop,List.length_drop]at h2
 unfold tlN
 omega
theorem L1{a b:List Int}{k:Nat}{p q:Int}(hk:k<=tlN a b)(ha:k<a.length-hd a b)(hb:k<b.length-hd a b)(hp:a[a.length-1-k]?=some p)(hq:b[b.length-1-k]?=some q):(p=q↔k<tlN a b):=by
 have h1:=H2 a b
 have h2:=(MG (a.drop (hd a b)) (b.drop (hd a b))).2.2 k hk
 have e:∀ (l:List Int) (h:Nat) (z:Int),h<=l.length->k<l.length-h->l[l.length-1-k]?=some z->fe (l.drop h) k=z:=fun l h z hh hl hz=>by
  unfold fe
  rw[List.getD_eq_getElem?_getD,List.getElem?_drop,List.length_drop,show h+(l.length-h-1-k)=l.length-1-k by omega,hz]
  rfl
 rw[JU _ _ _ _ (by rw[List.length_drop];omega) (by rw[List.length_drop];omega),e a _ p (by omega) ha hp,e b _ q (by omega) hb hq,decide_eq_true_eq]at h2
 exact h2
def apL(a b:List Int):List Int:=List.replicate (hd a b) 1++List.replicate (a.length-tlN a b-hd a b) 2++List.replicate (b.length-tlN a b-hd a b) 3++List.replicate (tlN a b) 1
def C4(a b:List Int):List Int:=if 400<edL a b then apL a b else stL a b
theorem I5(a b:List Int):(C4 a b).length<=a.length+b.length:=by
 unfold C4
 split
 ·have:=HQ a b
  simp only[apL,List.length_append,List.length_replicate]
  omega
 ·exact(HW a b).2.2.1
section
section
variable{P:Program}{cx:Cx}{T T':TL}{B:BL}{R:RL}{ops:Array Oper}{Q:Exit->Act->World->Prop}{o:Oper}{l:List Oper}{d:Nat}{y:IV}{x:Operand}{ys:List IV}
theorem AM(h:LStep P cx B R o T y)(hE:E cx ((d,y)::T) B R (wpList P ops Q l))(hg:o.guard=none:=by exact rfl)(hd:o.dst=some d:=by exact rfl)(hn:Nat.blt d cx.n=true:=by exact rfl):E cx T B R (wpList P ops Q (o::l)):=DC hg hd hn h hE
theorem AI(hE:E cx ((d,y)::T) B R (wpList P ops Q l))(hg:o.guard=none:=by exact rfl)(hd:o.dst=some d:=by exact rfl)(hn:Nat.blt d cx.n=true:=by exact rfl)(ho:o.op=.move x:=by exact rfl)(hk:ev T x=some y:=by exact rfl):E cx T B R (wpList P ops Q (o::l)):=DC hg hd hn (A6 ho (kn hk)) hE
theorem B3(hE:E cx ((d,y)::T) B R (wpList P ops Q l))(hg:o.guard=none:=by exact rfl)(hd:o.dst=some d:=by exact rfl)(hn:Nat.blt d cx.n=true:=by exact rfl)(ho:o.op=.assign x:=by exact rfl)(hk:ev T x=some y:=by exact rfl):E cx T B R (wpList P ops Q (o::l)):=DC hg hd hn (FU ho (kn hk)) hE
theorem A4(hg:o.guard=none)(hd:o.dst=some d)(hn:Nat.blt d cx.n=true)(h:LStep P cx B R o T y)(hW:Walk P cx B R ops l ((d,y)::T) ys T'):Walk P cx B R ops (o::l) T (y::ys) T':=.op hg hd hn h hW
theorem A5(hg:o.guard=none)(hd:o.dst=some d)(hn:Nat.blt d cx.n=true)(ho:o.op=.move x)(hk:ev T x=some y)(hW:Walk P cx B R ops l ((d,y)::T) ys T'):Walk P cx B R ops (o::l) T (y::ys) T':=.op hg hd hn (A6 ho (kn hk)) hW
theorem A9(hg:o.guard=none)(hd:o.dst=some d)(hn:Nat.blt d cx.n=true)(ho:o.op=.assign x)(hk:ev T x=some y)(hW:Walk P cx B R ops l ((d,y)::T) ys T'):Walk P cx B R ops (o::l) T (y::ys) T':=.op hg hd hn (FU ho (kn hk)) hW
theorem s_t{t:Nat}(h:lk t T=some y:=by exact rfl):∃ z,lk t T=some z/\Imp z y:=HB y h
theorem s_b{b:Nat}{z:Bx}(h:lk b B=some z:=by exact rfl):∃ u,lk b B=some u/\u.ty=z.ty/\ImpL u.cs z.cs:=LN z h
theorem NA{c:Operand}{a b:Code}(h:E cx T B R (b.wp P Q))(hc:ev T c=some (.is (.bool false)):=by exact rfl):E cx T B R ((Code.cond c a b).wp P Q):=AC hc (fun h=>(by cases h)) fun _=>h
theorem ME{c:Operand}{a b:Code}(h:E cx T B R (a.wp P Q))(hc:ev T c=some (.is (.bool true)):=by exact rfl):E cx T B R ((Code.cond c a b).wp P Q):=AC hc (fun _=>h) fun h=>(by cases h)
end
end
theorem one_3:oneT Try.prog 3=true:=by kernel_rfl
theorem sz_3:sizeT Try.prog 3=some 1:=by kernel_rfl
theorem int_3:Try.prog.underlying 3=some (.int .i64):=by kernel_rfl
theorem zr_3:BQ Try.prog 3=some [.int .i64 0]:=by kernel_rfl
theorem one_22:oneT Try.prog 22=true:=by kernel_rfl
theorem sz_22:sizeT Try.prog 22=some 1:=by kernel_rfl
theorem sl_22:Try.prog.underlying 22=some (.slice 3):=by kernel_rfl
theorem sle_22:Try.prog.underlying 22=some (.slice (Try.prog.elem 22)):=by kernel_rfl
theorem esz_22:sizeT Try.prog (Try.prog.elem 22)=some 1:=by kernel_rfl
theorem ap_22:(Try.prog.info? 3).map (fun i=>(i.size,i.bytes,i.zero.map (·.cells.size)))=some (1,8,some 1):=by kernel_rfl
theorem zr_22:BQ Try.prog 22=some [.slice none 0 0]:=by kernel_rfl
theorem sl_25:Try.prog.underlying 25=some (.slice 22):=by kernel_rfl
theorem sle_25:Try.prog.underlying 25=some (.slice (Try.prog.elem 25)):=by kernel_rfl
theorem esz_25:sizeT Try.prog (Try.prog.elem 25)=some 1:=by kernel_rfl
theorem ap_25:(Try.prog.info? 22).map (fun i=>(i.size,i.bytes,i.zero.map (·.cells.size)))=some (1,24,some 1):=by kernel_rfl
theorem sl_28:Try.prog.underlying 28=some (.slice 45):=by kernel_rfl
theorem sle_28:Try.prog.underlying 28=some (.slice (Try.prog.elem 28)):=by kernel_rfl
theorem esz_28:sizeT Try.prog (Try.prog.elem 28)=some 2:=by kernel_rfl
theorem ap_28:(Try.prog.info? 45).map (fun i=>(i.size,i.bytes,i.zero.map (·.cells.size)))=some (2,16,some 2):=by kernel_rfl
theorem sl_30:Try.prog.underlying 30=some (.slice 39):=by kernel_rfl
theorem sle_30:Try.prog.underlying 30=some (.slice (Try.prog.elem 30)):=by kernel_rfl
theorem esz_30:sizeT Try.prog (Try.prog.elem 30)=some 2:=by kernel_rfl
theorem ap_30:(Try.prog.info? 39).map (fun i=>(i.size,i.bytes,i.zero.map (·.cells.size)))=some (2,16,some 2):=by kernel_rfl
theorem int_34:Try.prog.underlying 34=some (.int .u64):=by kernel_rfl
theorem agg_39:aggT Try.prog 39=true:=by kernel_rfl
theorem sz_39:sizeT Try.prog 39=some 2:=by kernel_rfl
theorem off_39_1:JI Try.prog 39 1=some 1:=by kernel_rfl
theorem pl_39:E3 Try.prog 39=some [(0,1),(1,1)]:=by kernel_rfl
theorem zr_39:BQ Try.prog 39=some [.int .i64 0,.int .i64 0]:=by kernel_rfl
theorem agg_45:aggT Try.prog 45=true:=by kernel_rfl
theorem sz_45:sizeT Try.prog 45=some 2:=by kernel_rfl
theorem off_45_0:JI Try.prog 45 0=some 0:=by kernel_rfl
theorem off_45_1:JI Try.prog 45 1=some 1:=by kernel_rfl
theorem pl_45:E3 Try.prog 45=some [(0,1),(1,1)]:=by kernel_rfl
theorem zr_45:BQ Try.prog 45=some [.int .i64 0,.int .i64 0]:=by kernel_rfl
theorem sl_47:Try.prog.underlying 47=some (.slice 22):=by kernel_rfl
theorem sle_47:Try.prog.underlying 47=some (.slice (Try.prog.elem 47)):=by kernel_rfl
theorem esz_47:sizeT Try.prog (Try.prog.elem 47)=some 1:=by kernel_rfl
theorem BR:Try.prog.follows .mixedOrders=true:=by kernel_rfl
end Go.Proofs.Ytjpghcmlglhmbaa
