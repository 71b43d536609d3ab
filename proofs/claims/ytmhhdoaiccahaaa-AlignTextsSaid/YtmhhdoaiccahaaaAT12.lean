/- Part 12. Conditions: as each theorem says. -/
import Derived.Test.YtmhhdoaiccahaaaAT11
import Derived.Test.YtmhhdoaiccahaaaProg
set_option maxRecDepth 100000
namespace Go.Proofs.Ytmhhdoaiccahaaa
open Go.RowKit
abbrev Rn:Type:=Int×Int
def BD(l:List Rn)(k c:Int):List Rn:=
 if c=0 then l else match l.getLast? with
 | none=>[(k,c)]
 | some p=>if p.1=k then l.dropLast++[(p.1,p.2+c)]else l++[(k,c)]
theorem BY(l:List Rn)(k:Int):BD l k 0=l:=by unfold BD;rw[if_pos rfl]
theorem CE{k c:Int}(h:c≠0):BD [] k c=[(k,c)]:=by unfold BD;rw[if_neg h];rfl
theorem CA{m:List Rn}{k c c':Int}(h:c≠0):BD (m++[(k,c')]) k c=m++[(k,c'+c)]:=by
 unfold BD
 rw[if_neg h,List.getLast?_append]
 simp
theorem DN{m:List Rn}{k k' c c':Int}(h:c≠0)(hk:k'≠k):BD (m++[(k',c')]) k c=m++[(k',c')]++[(k,c)]:=by
 unfold BD
 rw[if_neg h,List.getLast?_append]
 simp[hk]
theorem DY(l:List Rn):l=[] \/ ∃ m k c,l=m++[(k,c)]:=by
 rcases List.eq_nil_or_concat l with h | ⟨m,⟨k,c⟩,h⟩
 ·exact .inl h
 ·exact .inr ⟨m,k,c,by rw[h,List.concat_eq_append]⟩
theorem MC(l:List Rn)(k:Int){c d:Int}(hc:0<=c)(hd:0<=d):BD (BD l k c) k d=BD l k (c+d):=by
 by_cases h0:c=0
 ·subst h0
  rw[BY,Int.zero_add]
 by_cases h1:d=0
 ·subst h1
  rw[BY,Int.add_zero]
 have h2:c+d≠0:=by omega
 rcases DY l with rfl | ⟨m,k',c',rfl⟩
 ·rw[CE h0,CE h2,show[(k,c)]=([]:List Rn)++[(k,c)] from rfl,CA h1]
  rfl
 ·by_cases hk:k'=k
  ·subst hk
   rw[CA h0,CA h1,CA h2,Int.add_assoc]
  ·rw[DN h0 hk,DN h2 hk,CA h1]
def B2(l:List Int):List Rn:=l.foldl (fun r k=>BD r k 1) []
theorem C8(l:List Int)(k:Int):B2 (l++[k])=BD (B2 l) k 1:=by unfold B2;rw[List.foldl_append];rfl
theorem C5(l:List Int)(k:Int):∀ n:Nat,B2 (l++List.replicate n k)=BD (B2 l) k (n:Int)
 | 0=>by rw[List.replicate_zero,List.append_nil];exact(BY _ _).symm
 | n+1=>by
  rw[List.replicate_succ',<- List.append_assoc,C8,C5 l k n,MC _ _ (by omega) (by omega)]
  rfl
def ex(r:List Rn):List Int:=r.flatMap fun p=>List.replicate p.2.toNat p.1
def OkR(r:List Rn):Prop:=∀ p∈r,1<=p.2
theorem E7(r q:List Rn):ex (r++q)=ex r++ex q:=List.flatMap_append ..
theorem GX(k c:Int):ex [(k,c)]=List.replicate c.toNat k:=by simp[ex]
theorem PX{l:List Rn}(h:OkR l){k c:Int}(hc:0<=c):OkR (BD l k c)/\ex (BD l k c)=ex l++List.replicate c.toNat k:=by
 by_cases h0:c=0
 ·subst h0
  rw[BY]
  exact⟨h,by simp⟩
 rcases DY l with rfl | ⟨m,k',c',rfl⟩
 ·rw[CE h0]
  refine⟨fun p hp=>?_,by rw[GX];rfl⟩
  rw[List.mem_singleton.1 hp]
  show 1<=c
  omega
 ·have h1:1<=c':=h (k',c') (by simp)
  have hm:OkR m:=fun p hp=>h p (by simp[hp])
  by_cases hk:k'=k
  ·subst hk
   rw[CA h0]
   refine⟨fun p hp=>?_,?_⟩
   ·rcases List.mem_append.1 hp with hp | hp
    ·exact hm p hp
    ·rw[List.mem_singleton.1 hp]
     show 1<=c'+c
     omega
   ·rw[E7,E7,GX,GX,List.append_assoc,List.replicate_append_replicate,show(c'+c).toNat=c'.toNat+c.toNat by omega]
  ·rw[DN h0 hk]
   refine⟨fun p hp=>?_,by rw[E7,GX]⟩
   rcases List.mem_append.1 hp with hp | hp
   ·exact h p hp
   ·rw[List.mem_singleton.1 hp]
    show 1<=c
    omega
theorem K1{α:Type}{P:List α->Prop}(h0:P [])(h1:∀ l a,P l->P (l++[a]))(l:List α):P l:=by
 have:∀ (n:Nat) (l:List α),l.length=n->P l:=by
  intro n
  induction n with
  | zero=>intro l h;rw[List.eq_nil_of_length_eq_zero h];exact h0
  | succ n ih=>
   intro l h
   rcases List.eq_nil_or_concat l with rfl | ⟨m,a,rfl⟩
   ·exact h0
   ·rw[List.concat_eq_append];exact h1 m a (ih m (by simpa using h))
 exact this _ l rfl
theorem FC(l:List Int):OkR (B2 l)/\ex (B2 l)=l:=by
 induction l using K1 with
 | h0=>exact⟨fun p hp=>(by cases hp),rfl⟩
 | h1 l k ih=>
  rw[C8]
  have:=PX ih.1 (k:=k) (c:=1) (by decide)
  rw[ih.2]at this
  exact this
theorem RE{r:List Rn}{p:Rn}(hp:p∈r):p.2.toNat<=(ex r).length:=by
 induction r with
 | nil=>cases hp
 | cons q r ih=>
  have h:ex (q::r)=List.replicate q.2.toNat q.1++ex r:=rfl
  rw[h,List.length_append,List.length_replicate]
  rcases List.mem_cons.1 hp with rfl | hp
  ·omega
  ·have:=ih hp;omega
theorem RR{r:List Rn}(h:OkR r):r.length<=(ex r).length:=by
 induction r with
 | nil=>exact Nat.le_refl _
 | cons q r ih=>
  have h0:ex (q::r)=List.replicate q.2.toNat q.1++ex r:=rfl
  have h1:=ih fun p hp=>h p (List.mem_cons_of_mem _ hp)
  have h2:=h q List.mem_cons_self
  rw[h0,List.length_append,List.length_replicate,List.length_cons]
  omega
theorem CN{l:List Int}{p:Rn}(hp:p∈B2 l):1<=p.2/\p.2<=(l.length:Int)/\p.1∈l:=by
 have h:=FC l
 have h1:=h.1 p hp
 have h2:=RE hp
 rw[h.2]at h2
 refine⟨h1,by omega,?_⟩
 rw[<- h.2]
 exact List.mem_flatMap.2 ⟨p,hp,by rw[List.mem_replicate];exact⟨by omega,rfl⟩⟩
theorem E5(l:List Int):(B2 l).length<=l.length:=by
 have h:=FC l
 have:=RR h.1
 rwa [h.2]at this
theorem IE(l:List Int)(k:Int):∃ m c,B2 (l++[k])=m++[(k,c)]:=by
 rw[C8]
 rcases DY (B2 l)with h | ⟨m,k',c',h⟩
 ·exact⟨[],1,by rw[h,CE (by decide)];rfl⟩
 ·by_cases hk:k'=k
  ·subst hk
   exact⟨m,c'+1,by rw[h,CA (by decide)]⟩
  ·exact⟨m++[(k',c')],1,by rw[h,DN (by decide) hk]⟩
def DH(p:Rn):Bool:=decide (1<=p.1)&&decide (p.1<=3)&&decide (1<=p.2)
theorem DO{p:Rn}:DH p=true↔(1<=p.1/\p.1<=3)/\1<=p.2:=by unfold DH;simp only[Bool.and_eq_true,decide_eq_true_eq]
theorem I4(l m:List Int):nK (l++m)=nK l+nK m:=List.countP_append ..
abbrev LL:Type:=List Int×List Int
def mv(k:Int)(t:LL):Option LL:=
 if k=1 then(match t with | (p::a,q::b)=>if p=q then some (a,b)else none | _=>none)
 else if k=2 then(match t with | (_::a,b)=>some (a,b) | _=>none)
 else if k=3 then(match t with | (a,_::b)=>some (a,b) | _=>none)
 else none
def mvs:List Int->LL->Option LL
 | [],t=>some t
 | k::l,t=>(mv k t).bind (mvs l)
theorem DD:∀ (l m:List Int) (t:LL),mvs (l++m) t=(mvs l t).bind (mvs m)
 | [],m,t=>rfl
 | k::l,m,t=>by
  show(mv k t).bind (mvs (l++m))=((mv k t).bind (mvs l)).bind (mvs m)
  cases h:mv k t with
  | none=>rfl
  | some u=>exact DD l m u
theorem HB:∀ (c:Nat) (a b:List Int),mvs (List.replicate c 2) (a,b)=if c<=a.length then some (a.drop c,b)else none
 | 0,a,b=>by simp[mvs]
 | c+1,[],b=>by simp[List.replicate_succ,mvs,mv]
 | c+1,p::a,b=>by
  have:mv 2 (p::a,b)=some (a,b):=rfl
  rw[List.replicate_succ,mvs,this]
  show mvs (List.replicate c 2) (a,b)=_
  rw[HB c a b]
  simp
theorem FF:∀ (c:Nat) (a b:List Int),mvs (List.replicate c 3) (a,b)=if c<=b.length then some (a,b.drop c)else none
 | 0,a,b=>by simp[mvs]
 | c+1,a,[]=>by cases a<;>simp[List.replicate_succ,mvs,mv]
 | c+1,a,p::b=>by
  have:mv 3 (a,p::b)=some (a,b):=rfl
  rw[List.replicate_succ,mvs,this]
  show mvs (List.replicate c 3) (a,b)=_
  rw[FF c a b]
  simp
theorem N1(d p:Nat)(t:LL):mvs (List.replicate p 3++List.replicate d 2) t=mvs (List.replicate d 2++List.replicate p 3) t:=by
 obtain⟨a,b⟩:=t
 rw[DD,DD,FF,HB]
 by_cases h1:p<=b.length
 ·rw[if_pos h1]
  show mvs (List.replicate d 2) (a,b.drop p)=_
  rw[HB]
  by_cases h2:d<=a.length
  ·rw[if_pos h2,if_pos h2]
   show _=mvs (List.replicate p 3) (a.drop d,b)
   rw[FF,if_pos h1]
  ·rw[if_neg h2,if_neg h2]
   rfl
 ·rw[if_neg h1]
  by_cases h2:d<=a.length
  ·rw[if_pos h2]
   show _=mvs (List.replicate p 3) (a.drop d,b)
   rw[FF,if_neg h1]
   rfl
  ·rw[if_neg h2]
   rfl
abbrev Td:Type:=List Int×Nat×Nat
def fl(t:Td):List Int:=t.1++List.replicate t.2.1 2++List.replicate t.2.2 3
def td1(t:Td)(k:Int)(c:Nat):Td:=
 if c=0 then t else if k=1 then(fl t++List.replicate c 1,0,0)else if k=2 then(t.1,t.2.1+c,t.2.2)else if k=3 then(t.1,t.2.1,t.2.2+c)else t
def td(t:Td)(r:List Rn):Td:=r.foldl (fun t p=>td1 t p.1 p.2.toNat) t
def FI(r:List Rn):List Rn:=B2 (fl (td ([],0,0) r))
theorem PT(t:Td)(r:List Rn)(p:Rn):td t (r++[p])=td1 (td t r) p.1 p.2.toNat:=by unfold td;rw[List.foldl_append];rfl
theorem O7(t:Td)(k:Int)(c:Nat):td1 t k (c+1)=td1 (td1 t k c) k 1:=by
 unfold td1
 rw[if_neg (show ¬ c+1=0 by omega),if_neg (show ¬ (1:Nat)=0 by decide)]
 by_cases h1:k=1
 ·subst h1
  simp only[if_true]
  by_cases hc:c=0
  ·subst hc
   simp
  ·rw[if_neg hc]
   simp[fl,List.replicate_succ']
 ·simp only[if_neg h1]
  by_cases h2:k=2
  ·subst h2
   simp only[if_true]
   by_cases hc:c=0
   ·subst hc
    simp
   ·rw[if_neg hc];rfl
  ·simp only[if_neg h2]
   by_cases h3:k=3
   ·subst h3
    simp only[if_true]
    by_cases hc:c=0
    ·subst hc
     simp
    ·rw[if_neg hc];rfl
   ·simp only[if_neg h3]
    split<;>rfl
theorem CR(t:Td):(fl t).length=t.1.length+t.2.1+t.2.2:=by simp[fl];omega
theorem IZ(t:Td)(k:Int)(c:Nat):(fl (td1 t k c)).length<=(fl t).length+c:=by
 unfold td1
 split
 ·omega
 ·split
  ·rw[CR];simp
  ·split
   ·rw[CR,CR];simp only;omega
   ·split
    ·rw[CR,CR];simp only;omega
    ·omega
theorem KT{n:Nat}:∀ (r:List Rn) (t:Td),(∀ p∈r,p.2<=(n:Int))->(fl (td t r)).length<=(fl t).length+n*r.length
 | [],t,_=>by simp[td]
 | p::r,t,h=>by
  have h1:=KT r (td1 t p.1 p.2.toNat) fun q hq=>h q (List.mem_cons_of_mem _ hq)
  have h2:=IZ t p.1 p.2.toNat
  have h3:=h p List.mem_cons_self
  show(fl (td (td1 t p.1 p.2.toNat) r)).length<=_
  rw[List.length_cons,Nat.mul_succ]
  omega
def K3(l:List Int):Prop:=∀ z∈l,z=1\/z=2\/z=3
theorem K3.app{l m:List Int}(h1:K3 l)(h2:K3 m):K3 (l++m):=fun z hz=>by
 rcases List.mem_append.1 hz with h | h
 ·exact h1 z h
 ·exact h2 z h
theorem K3.rep{k:Int}(h:k=1\/k=2\/k=3)(n:Nat):K3 (List.replicate n k):=fun z hz=>by rw[List.eq_of_mem_replicate hz];exact h
theorem K3.fl{t:Td}(h:K3 t.1):K3 (fl t):=(h.app (.rep (by decide) _)).app (.rep (by decide) _)
theorem SL{t:Td}(h:K3 t.1)(k:Int)(c:Nat):K3 (td1 t k c).1:=by
 unfold td1
 split
 ·exact h
 ·split
  ·exact h.fl.app (.rep (by decide) _)
  ·split
   ·exact h
   ·split<;>exact h
theorem SM:∀ (r:List Rn) {t:Td},K3 t.1->K3 (td t r).1
 | [],_,h=>h
 | p::r,t,h=>SM r (t:=td1 t p.1 p.2.toNat) (SL h p.1 p.2.toNat)
theorem QJ{t:Td}{p:Rn}(hp:DH p=true)(u:LL):mvs (fl (td1 t p.1 p.2.toNat)) u=mvs (fl t++List.replicate p.2.toNat p.1) u:=by
 obtain⟨⟨h1,h2⟩,h3⟩:=DO.1 hp
 obtain⟨k,c⟩:=p
 simp only at h1 h2 h3 ⊢
 have hc:c.toNat≠0:=by omega
 generalize c.toNat=n at hc ⊢
 unfold td1
 rw[if_neg hc]
 by_cases k1:k=1
 ·rw[if_pos k1,k1]
  simp[fl]
 ·rw[if_neg k1]
  by_cases k2:k=2
  ·rw[if_pos k2,k2]
   simp only[fl]
   rw[List.append_assoc (t.1++List.replicate t.2.1 2),DD (t.1++List.replicate t.2.1 2),<- List.replicate_append_replicate,<- List.append_assoc t.1,List.append_assoc (t.1++List.replicate t.2.1 2),DD (t.1++List.replicate t.2.1 2)]
   congr 1
   funext v
   exact(N1 n t.2.2 v).symm
  ·rw[if_neg k2,if_pos (by omega),show k=3 by omega]
   simp only[fl]
   rw[List.append_assoc (t.1++List.replicate t.2.1 2),List.replicate_append_replicate]
theorem O3:∀ (r:List Rn) (t:Td) (u:LL),r.all DH=true->mvs (fl (td t r)) u=mvs (fl t++ex r) u
 | [],t,u,_=>by simp[td,ex]
 | p::r,t,u,h=>by
  rw[List.all_cons,Bool.and_eq_true]at h
  have h0:ex (p::r)=List.replicate p.2.toNat p.1++ex r:=rfl
  have h1:=O3 r (td1 t p.1 p.2.toNat) u h.2
  show mvs (fl (td (td1 t p.1 p.2.toNat) r)) u=_
  rw[h1,h0,<- List.append_assoc,DD,QJ h.1,<- DD]
theorem KM{l:List Int}(h:K3 l):(B2 l).all DH=true:=by
 rw[List.all_eq_true]
 intro p hp
 obtain⟨h1,h2,h3⟩:=CN hp
 have:=h _ h3
 exact DO.2 ⟨by omega,h1⟩
def edL(a b:List Int):Nat:=ed (sm a b) a.length b.length
def stL(a b:List Int):List Int:=st (sm a b) a.length b.length
theorem LR(p q:Int)(a b:List Int):sm (p::a) (q::b) a.length b.length=decide (p=q):=by
 have:=G9 (a:=p::a) (b:=q::b) (i:=0) (j:=0) (p:=p) (q:=q) rfl rfl
 simpa using this
theorem S5(p q:Int)(a b:List Int):ed (sm (p::a) (q::b)) a.length b.length=edL a b:=CI _ _ _ (Nat.le_refl _) fun x y hx hy=>LM p q a b x y hx hy
theorem R2(p:Int)(a b:List Int):ed (sm (p::a) b) a.length b.length=edL a b:=CI _ _ _ (Nat.le_refl _) fun x y hx _=>F5 p a b x y hx
theorem QP(q:Int)(a b:List Int):ed (sm a (q::b)) a.length b.length=edL a b:=CI _ _ _ (Nat.le_refl _) fun x y _ hy=>GR q a b x y hy
theorem JR(p q:Int)(a b:List Int):edL (p::a) (q::b)=if p=q then edL a b else 1+min (edL a (q::b)) (edL (p::a) b):=by
 show ed (sm (p::a) (q::b)) (a.length+1) (b.length+1)=_
 rw[I9,LR,S5]
 have h1:=R2 p a (q::b)
 have h2:=QP q (p::a) b
 simp only[List.length_cons]at h1 h2
 rw[h1,h2]
 by_cases h:p=q<;>simp[h]
theorem CJ{s t:Nat->Nat->Bool}:∀ (k m n:Nat),m+n<=k->(∀ x y,x<m->y<n->s x y=t x y)->st s m n=st t m n
 | 0,m,n,h,_=>by
  obtain rfl:m=0:=by omega
  obtain rfl:n=0:=by omega
  rw[st_00,st_00]
 | k+1,m,n,h,hst=>by
  cases m with
  | zero=>
   cases n with
   | zero=>rw[st_00,st_00]
   | succ n=>rw[st_0n,st_0n,CJ k 0 n (by omega) fun x y hx hy=>hst x y (by omega) (by omega)]
  | succ m=>
   cases n with
   | zero=>rw[I2,I2,CJ k m 0 (by omega) fun x y hx hy=>hst x y (by omega) (by omega)]
   | succ n=>
    rw[EX,EX,hst m n (by omega) (by omega),CJ k m n (by omega) fun x y hx hy=>hst x y (by omega) (by omega),CJ k m (n+1) (by omega) fun x y hx hy=>hst x y (by omega) (by omega),CJ k (m+1) n (by omega) fun x y hx hy=>hst x y (by omega) (by omega),CI _ m (n+1) (Nat.le_refl _) fun x y hx hy=>hst x y (by omega) (by omega),CI _ (m+1) n (Nat.le_refl _) fun x y hx hy=>hst x y (by omega) (by omega)]
theorem QY(p:Int)(a b:List Int):st (sm (p::a) b) a.length b.length=stL a b:=CJ _ _ _ (Nat.le_refl _) fun x y hx _=>F5 p a b x y hx
theorem R4(q:Int)(a b:List Int):st (sm a (q::b)) a.length b.length=stL a b:=CJ _ _ _ (Nat.le_refl _) fun x y _ hy=>GR q a b x y hy
theorem LB:stL [] []=[]:=st_00
theorem SP(p:Int)(a:List Int):stL (p::a) []=2::stL a []:=by
 have:=QY p a []
 show st _ (a.length+1) 0=_
 rw[I2]
 exact congrArg _ this
theorem QT(q:Int)(b:List Int):stL [] (q::b)=3::stL [] b:=by
 have:=R4 q [] b
 show st _ 0 (b.length+1)=_
 rw[st_0n]
 exact congrArg _ this
theorem K8(p q:Int)(a b:List Int):stL (p::a) (q::b)=if p=q then 1::stL a b else if edL a (q::b)<=edL (p::a) b then 2::stL a (q::b)else 3::stL (p::a) b:=by
 have h0:st (sm (p::a) (q::b)) a.length b.length=stL a b:=CJ _ _ _ (Nat.le_refl _) fun x y hx hy=>LM p q a b x y hx hy
 have h1:=R2 p a (q::b)
 have h2:=QP q (p::a) b
 have h3:=QY p a (q::b)
 have h4:=R4 q (p::a) b
 simp only[List.length_cons]at h1 h2 h3 h4
 show st (sm (p::a) (q::b)) (a.length+1) (b.length+1)=_
 rw[EX,LR,h0,h1,h2,h3,h4]
 by_cases h:p=q<;>simp[h]
theorem FX:∀ (k:Nat) (a b:List Int),a.length+b.length<=k->mvs (stL a b) (a,b)=some ([],[])
 | _,[],[],_=>by rw[LB];rfl
 | 0,p::a,b,h=>by simp at h
 | 0,[],q::b,h=>by simp at h
 | k+1,p::a,[],h=>by
  rw[SP]
  exact FX k a [] (by simp only[List.length_cons,List.length_nil]at h ⊢;omega)
 | k+1,[],q::b,h=>by
  rw[QT]
  exact FX k [] b (by simp only[List.length_cons,List.length_nil]at h ⊢;omega)
 | k+1,p::a,q::b,h=>by
  simp only[List.length_cons]at h
  rw[K8]
  by_cases e:p=q
  ·rw[if_pos e]
   subst e
   have:mv 1 (p::a,p::b)=some (a,b):=by simp[mv]
   rw[mvs,this]
   exact FX k a b (by omega)
  ·rw[if_neg e]
   by_cases hc:edL a (q::b)<=edL (p::a) b
   ·rw[if_pos hc]
    exact FX k a (q::b) (by simp only[List.length_cons];omega)
   ·rw[if_neg hc]
    exact FX k (p::a) b (by simp only[List.length_cons];omega)
theorem IY(a b:List Int):nE (stL a b)=edL a b/\edL a b+2*nK (stL a b)=a.length+b.length/\(stL a b).length<=a.length+b.length/\K3 (stL a b):=HT _ _ _ (Nat.le_refl _)
def hd:List Int->List Int->Nat
 | p::a,q::b=>if p=q then hd a b+1 else 0
 | _,_=>0
theorem JW:∀ a b:List Int,hd a b<=a.length/\hd a b<=b.length
 | [],b=>by simp[hd]
 | p::a,[]=>by simp[hd]
 | p::a,q::b=>by
  have:=JW a b
  unfold hd
  split
  ·simp only[List.length_cons];omega
  ·simp
theorem JG:∀ {a b:List Int} {k:Nat} {p q:Int},k<=hd a b->a[k]?=some p->b[k]?=some q->(p=q↔k<hd a b)
 | [],_,_,_,_,_,h,_=>by simp at h
 | _::_,[],_,_,_,_,_,h=>by simp at h
 | x::a,y::b,k,p,q,hk,hp,hq=>by
  cases k with
  | zero=>
   obtain rfl:x=p:=by simpa using hp
   obtain rfl:y=q:=by simpa using hq
   unfold hd
   by_cases e:x=y
   ·rw[if_pos e];exact⟨fun _=>by omega,fun _=>e⟩
   ·rw[if_neg e];exact⟨fun h=>absurd h e,fun h=>by omega⟩
  | succ k=>
   have hp':a[k]?=some p:=by simpa using hp
   have hq':b[k]?=some q:=by simpa using hq
   unfold hd at hk ⊢
   by_cases e:x=y
   ·rw[if_pos e]at hk ⊢
    rw[JG (k:=k) (by omega) hp' hq']
    omega
   ·rw[if_neg e]at hk;omega
def tl(a b:List Int):Nat:=alk (sm a b) a.length 0 0
theorem R3(a b:List Int):tl a b<=a.length/\tl a b<=b.length /\ ∀ k,k<=tl a b->(sm a b k k=true↔k<tl a b):=by
 obtain⟨j,h1,h2,h3,h4⟩:=IX (N:=a.length) (fun x y h=>HE a b x y h) a.length 0 0 (by omega)
 have e:tl a b=j:=by unfold tl;rw[h1];omega
 rw[e]
 refine⟨by omega,?_,fun k hk=>⟨fun h=>?_,fun h=>?_⟩⟩
 ·rcases Nat.lt_or_ge b.length j with h | h
  ·have:=h2 b.length h
   rw[Nat.zero_add,Q5 a b _ _ (Nat.le_refl _)]at this
   cases this
  ·exact h
 ·rcases Nat.lt_or_ge k j with h5 | h5
  ·exact h5
  ·obtain rfl:k=j:=by omega
   rw[Nat.zero_add]at h3
   rw[h3]at h;cases h
 ·have:=h2 k h
  rwa [Nat.zero_add]at this
def tlN(a b:List Int):Nat:=tl (a.drop (hd a b)) (b.drop (hd a b))
theorem KR(a b:List Int):hd a b+tlN a b<=a.length/\hd a b+tlN a b<=b.length:=by
 have h1:=JW a b
 have h2:=R3 (a.drop (hd a b)) (b.drop (hd a b))
 rw[List.length_drop,List.length_drop]at h2
 unfold tlN
 omega
theorem NM{a b:List Int}{k:Nat}{p q:Int}(hk:k<=tlN a b)(ha:k<a.length-hd a b)(hb:k<b.length-hd a b)(hp:a[a.length-1-k]?=some p)(hq:b[b.length-1-k]?=some q):(p=q↔k<tlN a b):=by
 have h1:=JW a b
 have h2:=(R3 (a.drop (hd a b)) (b.drop (hd a b))).2.2 k hk
 have e:∀ (l:List Int) (h:Nat) (z:Int),h<=l.length->k<l.length-h->l[l.length-1-k]?=some z->fe (l.drop h) k=z:=fun l h z hh hl hz=>by
  unfold fe
  rw[List.getD_eq_getElem?_getD,List.getElem?_drop,List.length_drop,show h+(l.length-h-1-k)=l.length-1-k by omega,hz]
  rfl
 rw[P5 _ _ _ _ (by rw[List.length_drop];omega) (by rw[List.length_drop];omega),e a _ p (by omega) ha hp,e b _ q (by omega) hb hq,decide_eq_true_eq]at h2
 exact h2
def apL(a b:List Int):List Int:=List.replicate (hd a b) 1++List.replicate (a.length-tlN a b-hd a b) 2++List.replicate (b.length-tlN a b-hd a b) 3++List.replicate (tlN a b) 1
def BC(a b:List Int):List Int:=if 400<edL a b then apL a b else stL a b
theorem EL(a b:List Int):(BC a b).length<=a.length+b.length:=by
 unfold BC
 split
 ·have:=KR a b
  simp only[apL,List.length_append,List.length_replicate]
  omega
 ·exact(IY a b).2.2.1
theorem O6(a b:List Int):K3 (BC a b):=by
 unfold BC
 split
 ·exact(((K3.rep (by decide) _).app (.rep (by decide) _)).app (.rep (by decide) _)).app (.rep (by decide) _)
 ·exact(IY a b).2.2.2
section
section
variable{P:Program}{cx:Cx}{T T':TL}{B:BL}{R:RL}{ops:Array Oper}{Q:Exit->Act->World->Prop}{o:Oper}{l:List Oper}{d:Nat}{y:IV}{x:Operand}{ys:List IV}
theorem AJ(h:LStep P cx B R o T y)(hE:E cx ((d,y)::T) B R (wpList P ops Q l))(hg:o.guard=none:=by exact rfl)(hd:o.dst=some d:=by exact rfl)(hn:Nat.blt d cx.n=true:=by exact rfl):E cx T B R (wpList P ops Q (o::l)):=ED hg hd hn h hE
theorem AI(hE:E cx ((d,y)::T) B R (wpList P ops Q l))(hg:o.guard=none:=by exact rfl)(hd:o.dst=some d:=by exact rfl)(hn:Nat.blt d cx.n=true:=by exact rfl)(ho:o.op=.move x:=by exact rfl)(hk:ev T x=some y:=by exact rfl):E cx T B R (wpList P ops Q (o::l)):=ED hg hd hn (A6 ho (kn hk)) hE
theorem B5(hE:E cx ((d,y)::T) B R (wpList P ops Q l))(hg:o.guard=none:=by exact rfl)(hd:o.dst=some d:=by exact rfl)(hn:Nat.blt d cx.n=true:=by exact rfl)(ho:o.op=.assign x:=by exact rfl)(hk:ev T x=some y:=by exact rfl):E cx T B R (wpList P ops Q (o::l)):=ED hg hd hn (H5 ho (kn hk)) hE
theorem A3(hg:o.guard=none)(hd:o.dst=some d)(hn:Nat.blt d cx.n=true)(h:LStep P cx B R o T y)(hW:Walk P cx B R ops l ((d,y)::T) ys T'):Walk P cx B R ops (o::l) T (y::ys) T':=.op hg hd hn h hW
theorem A5(hg:o.guard=none)(hd:o.dst=some d)(hn:Nat.blt d cx.n=true)(ho:o.op=.move x)(hk:ev T x=some y)(hW:Walk P cx B R ops l ((d,y)::T) ys T'):Walk P cx B R ops (o::l) T (y::ys) T':=.op hg hd hn (A6 ho (kn hk)) hW
theorem A7(hg:o.guard=none)(hd:o.dst=some d)(hn:Nat.blt d cx.n=true)(ho:o.op=.assign x)(hk:ev T x=some y)(hW:Walk P cx B R ops l ((d,y)::T) ys T'):Walk P cx B R ops (o::l) T (y::ys) T':=.op hg hd hn (H5 ho (kn hk)) hW
theorem s_t{t:Nat}(h:lk t T=some y:=by exact rfl):∃ z,lk t T=some z/\Imp z y:=JP y h
theorem s_b{b:Nat}{z:Bx}(h:lk b B=some z:=by exact rfl):∃ u,lk b B=some u/\u.ty=z.ty/\ImpL u.cs z.cs:=PZ z h
theorem KW{c:Operand}{a b:Code}(h:E cx T B R (b.wp P Q))(hc:ev T c=some (.is (.bool false)):=by exact rfl):E cx T B R ((Code.cond c a b).wp P Q):=AC hc (fun h=>(by cases h)) fun _=>h
theorem G8{c:Operand}{a b:Code}(h:E cx T B R (a.wp P Q))(hc:ev T c=some (.is (.bool true)):=by exact rfl):E cx T B R ((Code.cond c a b).wp P Q):=AC hc (fun _=>h) fun h=>(by cases h)
end
end
theorem one_3:oneT Try.prog 3=true:=by kernel_rfl
theorem sz_3:sizeT Try.prog 3=some 1:=by kernel_rfl
theorem zr_3:BT Try.prog 3=some [.int .i64 0]:=by kernel_rfl
theorem one_9:oneT Try.prog 9=true:=by kernel_rfl
theorem sz_9:sizeT Try.prog 9=some 1:=by kernel_rfl
theorem str_9:Try.prog.underlying 9=some .string:=by kernel_rfl
theorem zr_9:BT Try.prog 9=some [.string ⟨#[]⟩]:=by kernel_rfl
theorem one_22:oneT Try.prog 22=true:=by kernel_rfl
theorem sz_22:sizeT Try.prog 22=some 1:=by kernel_rfl
theorem sl_22:Try.prog.underlying 22=some (.slice 9):=by kernel_rfl
theorem sle_22:Try.prog.underlying 22=some (.slice (Try.prog.elem 22)):=by kernel_rfl
theorem esz_22:sizeT Try.prog (Try.prog.elem 22)=some 1:=by kernel_rfl
theorem ap_22:(Try.prog.info? 9).map (fun i=>(i.size,i.bytes,i.zero.map (·.cells.size)))=some (1,16,some 1):=by kernel_rfl
theorem zr_22:BT Try.prog 22=some [.slice none 0 0]:=by kernel_rfl
theorem sl_25:Try.prog.underlying 25=some (.slice 31):=by kernel_rfl
theorem sle_25:Try.prog.underlying 25=some (.slice (Try.prog.elem 25)):=by kernel_rfl
theorem esz_25:sizeT Try.prog (Try.prog.elem 25)=some 3:=by kernel_rfl
theorem ap_25:(Try.prog.info? 31).map (fun i=>(i.size,i.bytes,i.zero.map (·.cells.size)))=some (3,24,some 3):=by kernel_rfl
theorem sl_28:Try.prog.underlying 28=some (.slice 34):=by kernel_rfl
theorem sle_28:Try.prog.underlying 28=some (.slice (Try.prog.elem 28)):=by kernel_rfl
theorem esz_28:sizeT Try.prog (Try.prog.elem 28)=some 3:=by kernel_rfl
theorem ap_28:(Try.prog.info? 34).map (fun i=>(i.size,i.bytes,i.zero.map (·.cells.size)))=some (3,24,some 3):=by kernel_rfl
theorem agg_31:aggT Try.prog 31=true:=by kernel_rfl
theorem sz_31:sizeT Try.prog 31=some 3:=by kernel_rfl
theorem off_31_0:GC Try.prog 31 0=some 0:=by kernel_rfl
theorem off_31_1:GC Try.prog 31 1=some 1:=by kernel_rfl
theorem off_31_2:GC Try.prog 31 2=some 2:=by kernel_rfl
theorem pl_31:DK Try.prog 31=some [(0,1),(1,1),(2,1)]:=by kernel_rfl
theorem zr_31:BT Try.prog 31=some [.int .i64 0,.int .i64 0,.int .i64 0]:=by kernel_rfl
theorem agg_34:aggT Try.prog 34=true:=by kernel_rfl
theorem sz_34:sizeT Try.prog 34=some 3:=by kernel_rfl
theorem pl_34:DK Try.prog 34=some [(0,1),(1,1),(2,1)]:=by kernel_rfl
theorem zr_34:BT Try.prog 34=some [.int .i64 0,.int .i64 0,.int .i64 0]:=by kernel_rfl
theorem sl_35:Try.prog.underlying 35=some (.slice 41):=by kernel_rfl
theorem sle_35:Try.prog.underlying 35=some (.slice (Try.prog.elem 35)):=by kernel_rfl
theorem esz_35:sizeT Try.prog (Try.prog.elem 35)=some 1:=by kernel_rfl
theorem ap_35:(Try.prog.info? 41).map (fun i=>(i.size,i.bytes,i.zero.map (·.cells.size)))=some (1,24,some 1):=by kernel_rfl
theorem sl_38:Try.prog.underlying 38=some (.slice 52):=by kernel_rfl
theorem sle_38:Try.prog.underlying 38=some (.slice (Try.prog.elem 38)):=by kernel_rfl
theorem esz_38:sizeT Try.prog (Try.prog.elem 38)=some 2:=by kernel_rfl
theorem ap_38:(Try.prog.info? 52).map (fun i=>(i.size,i.bytes,i.zero.map (·.cells.size)))=some (2,16,some 2):=by kernel_rfl
theorem one_41:oneT Try.prog 41=true:=by kernel_rfl
theorem sz_41:sizeT Try.prog 41=some 1:=by kernel_rfl
theorem sl_41:Try.prog.underlying 41=some (.slice 3):=by kernel_rfl
theorem sle_41:Try.prog.underlying 41=some (.slice (Try.prog.elem 41)):=by kernel_rfl
theorem esz_41:sizeT Try.prog (Try.prog.elem 41)=some 1:=by kernel_rfl
theorem ap_41:(Try.prog.info? 3).map (fun i=>(i.size,i.bytes,i.zero.map (·.cells.size)))=some (1,8,some 1):=by kernel_rfl
theorem zr_41:BT Try.prog 41=some [.slice none 0 0]:=by kernel_rfl
theorem sl_43:Try.prog.underlying 43=some (.slice 22):=by kernel_rfl
theorem sle_43:Try.prog.underlying 43=some (.slice (Try.prog.elem 43)):=by kernel_rfl
theorem esz_43:sizeT Try.prog (Try.prog.elem 43)=some 1:=by kernel_rfl
theorem sl_44:Try.prog.underlying 44=some (.slice 49):=by kernel_rfl
theorem sle_44:Try.prog.underlying 44=some (.slice (Try.prog.elem 44)):=by kernel_rfl
theorem esz_44:sizeT Try.prog (Try.prog.elem 44)=some 2:=by kernel_rfl
theorem ap_44:(Try.prog.info? 49).map (fun i=>(i.size,i.bytes,i.zero.map (·.cells.size)))=some (2,16,some 2):=by kernel_rfl
theorem agg_49:aggT Try.prog 49=true:=by kernel_rfl
theorem sz_49:sizeT Try.prog 49=some 2:=by kernel_rfl
theorem off_49_0:GC Try.prog 49 0=some 0:=by kernel_rfl
theorem off_49_1:GC Try.prog 49 1=some 1:=by kernel_rfl
theorem pl_49:DK Try.prog 49=some [(0,1),(1,1)]:=by kernel_rfl
theorem zr_49:BT Try.prog 49=some [.int .i64 0,.int .i64 0]:=by kernel_rfl
theorem agg_52:aggT Try.prog 52=true:=by kernel_rfl
theorem sz_52:sizeT Try.prog 52=some 2:=by kernel_rfl
theorem off_52_0:GC Try.prog 52 0=some 0:=by kernel_rfl
theorem off_52_1:GC Try.prog 52 1=some 1:=by kernel_rfl
theorem pl_52:DK Try.prog 52=some [(0,1),(1,1)]:=by kernel_rfl
theorem zr_52:BT Try.prog 52=some [.int .i64 0,.int .i64 0]:=by kernel_rfl
theorem sl_54:Try.prog.underlying 54=some (.slice 41):=by kernel_rfl
theorem sle_54:Try.prog.underlying 54=some (.slice (Try.prog.elem 54)):=by kernel_rfl
theorem esz_54:sizeT Try.prog (Try.prog.elem 54)=some 1:=by kernel_rfl
theorem BP:Try.prog.follows .mixedOrders=true:=by kernel_rfl
end Go.Proofs.Ytmhhdoaiccahaaa
