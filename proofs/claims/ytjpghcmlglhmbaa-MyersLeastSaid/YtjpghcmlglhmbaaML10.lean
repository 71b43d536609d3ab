/- Part 10. Conditions: as each theorem says. -/
import Derived.Test.YtjpghcmlglhmbaaML09
import Derived.Test.YtjpghcmlglhmbaaProg
set_option maxRecDepth 100000
namespace Go.Proofs.Ytjpghcmlglhmbaa
open Go.RowKit
abbrev Rn:Type:=Int×Int
def BD(l:List Rn)(k c:Int):List Rn:=
 if c=0 then l else match l.getLast? with
 | none=>[(k,c)]
 | some p=>if p.1=k then l.dropLast++[(p.1,p.2+c)]else l++[(k,c)]
theorem B7(l:List Rn)(k:Int):BD l k 0=l:=by unfold BD;rw[if_pos rfl]
theorem BV{k c:Int}(h:c≠0):BD [] k c=[(k,c)]:=by unfold BD;rw[if_neg h];rfl
theorem C2{m:List Rn}{k c c':Int}(h:c≠0):BD (m++[(k,c')]) k c=m++[(k,c'+c)]:=by
 unfold BD
 rw[if_neg h,List.getLast?_append]
 simp
theorem DE{m:List Rn}{k k' c c':Int}(h:c≠0)(hk:k'≠k):BD (m++[(k',c')]) k c=m++[(k',c')]++[(k,c)]:=by
 unfold BD
 rw[if_neg h,List.getLast?_append]
 simp[hk]
theorem D6(l:List Rn):l=[] \/ ∃ m k c,l=m++[(k,c)]:=by
 rcases List.eq_nil_or_concat l with h | ⟨m,⟨k,c⟩,h⟩
 ·exact .inl h
 ·exact .inr ⟨m,k,c,by rw[h,List.concat_eq_append]⟩
theorem JE(l:List Rn)(k:Int){c d:Int}(hc:0<=c)(hd:0<=d):BD (BD l k c) k d=BD l k (c+d):=by
 by_cases h0:c=0
 ·subst h0
  rw[B7,Int.zero_add]
 by_cases h1:d=0
 ·subst h1
  rw[B7,Int.add_zero]
 have h2:c+d≠0:=by omega
 rcases D6 l with rfl | ⟨m,k',c',rfl⟩
 ·rw[BV h0,BV h2,show[(k,c)]=([]:List Rn)++[(k,c)] from rfl,C2 h1]
  rfl
 ·by_cases hk:k'=k
  ·subst hk
   rw[C2 h0,C2 h1,C2 h2,Int.add_assoc]
  ·rw[DE h0 hk,DE h2 hk,C2 h1]
def B4(l:List Int):List Rn:=l.foldl (fun r k=>BD r k 1) []
theorem C5(l:List Int)(k:Int):B4 (l++[k])=BD (B4 l) k 1:=by unfold B4;rw[List.foldl_append];rfl
theorem CM(l:List Int)(k:Int):∀ n:Nat,B4 (l++List.replicate n k)=BD (B4 l) k (n:Int)
 | 0=>by rw[List.replicate_zero,List.append_nil];exact(B7 _ _).symm
 | n+1=>by
  rw[List.replicate_succ',<- List.append_assoc,C5,CM l k n,JE _ _ (by omega) (by omega)]
  rfl
def ex(r:List Rn):List Int:=r.flatMap fun p=>List.replicate p.2.toNat p.1
def OkR(r:List Rn):Prop:=∀ p∈r,1<=p.2
theorem DG(r q:List Rn):ex (r++q)=ex r++ex q:=List.flatMap_append ..
theorem GJ(k c:Int):ex [(k,c)]=List.replicate c.toNat k:=by simp[ex]
theorem LK{l:List Rn}(h:OkR l){k c:Int}(hc:0<=c):OkR (BD l k c)/\ex (BD l k c)=ex l++List.replicate c.toNat k:=by
 by_cases h0:c=0
 ·subst h0
  rw[B7]
  exact⟨h,by simp⟩
 rcases D6 l with rfl | ⟨m,k',c',rfl⟩
 ·rw[BV h0]
  refine⟨fun p hp=>?_,by rw[GJ];rfl⟩
  rw[List.mem_singleton.1 hp]
  show 1<=c
  omega
 ·have h1:1<=c':=h (k',c') (by simp)
  have hm:OkR m:=fun p hp=>h p (by simp[hp])
  by_cases hk:k'=k
  ·subst hk
   rw[C2 h0]
   refine⟨fun p hp=>?_,?_⟩
   ·rcases List.mem_append.1 hp with hp | hp
    ·exact hm p hp
    ·rw[List.mem_singleton.1 hp]
     show 1<=c'+c
     omega
   ·rw[DG,DG,GJ,GJ,List.append_assoc,List.replicate_append_replicate,show(c'+c).toNat=c'.toNat+c.toNat by omega]
  ·rw[DE h0 hk]
   refine⟨fun p hp=>?_,by rw[DG,GJ]⟩
   rcases List.mem_append.1 hp with hp | hp
   ·exact h p hp
   ·rw[List.mem_singleton.1 hp]
    show 1<=c
    omega
theorem HM{α:Type}{P:List α->Prop}(h0:P [])(h1:∀ l a,P l->P (l++[a]))(l:List α):P l:=by
 have:∀ (n:Nat) (l:List α),l.length=n->P l:=by
  intro n
  induction n with
  | zero=>intro l h;rw[List.eq_nil_of_length_eq_zero h];exact h0
  | succ n ih=>
   intro l h
   rcases List.eq_nil_or_concat l with rfl | ⟨m,a,rfl⟩
   ·exact h0
   ·rw[List.concat_eq_append];exact h1 m a (ih m (by simpa using h))
 exact this _ l rfl
theorem E1(l:List Int):OkR (B4 l)/\ex (B4 l)=l:=by
 induction l using HM with
 | h0=>exact⟨fun p hp=>(by cases hp),rfl⟩
 | h1 l k ih=>
  rw[C5]
  have:=LK ih.1 (k:=k) (c:=1) (by decide)
  rw[ih.2]at this
  exact this
theorem MM{r:List Rn}{p:Rn}(hp:p∈r):p.2.toNat<=(ex r).length:=by
 induction r with
 | nil=>cases hp
 | cons q r ih=>
  have h:ex (q::r)=List.replicate q.2.toNat q.1++ex r:=rfl
  rw[h,List.length_append,List.length_replicate]
  rcases List.mem_cons.1 hp with rfl | hp
  ·omega
  ·have:=ih hp;omega
theorem N2{r:List Rn}(h:OkR r):r.length<=(ex r).length:=by
 induction r with
 | nil=>exact Nat.le_refl _
 | cons q r ih=>
  have h0:ex (q::r)=List.replicate q.2.toNat q.1++ex r:=rfl
  have h1:=ih fun p hp=>h p (List.mem_cons_of_mem _ hp)
  have h2:=h q List.mem_cons_self
  rw[h0,List.length_append,List.length_replicate,List.length_cons]
  omega
theorem E2{l:List Int}{p:Rn}(hp:p∈B4 l):1<=p.2/\p.2<=(l.length:Int)/\p.1∈l:=by
 have h:=E1 l
 have h1:=h.1 p hp
 have h2:=MM hp
 rw[h.2]at h2
 refine⟨h1,by omega,?_⟩
 rw[<- h.2]
 exact List.mem_flatMap.2 ⟨p,hp,by rw[List.mem_replicate];exact⟨by omega,rfl⟩⟩
theorem D8(l:List Int):(B4 l).length<=l.length:=by
 have h:=E1 l
 have:=N2 h.1
 rwa [h.2]at this
def Adj(r:List Rn):Prop:=∀ (i:Nat) p q,r[i]?=some p->r[i+1]?=some q->p.1≠q.1
theorem K5{m:List Rn}{p q:Rn}(h:Adj (m++[p]))(hn:p.1≠q.1):Adj (m++[p]++[q]):=fun i x y hx hy=>by
 rcases Nat.lt_or_ge (i+1) (m++[p]).length with hi | hi
 ·rw[List.getElem?_append_left (by omega)]at hx
  rw[List.getElem?_append_left hi]at hy
  exact h i x y hx hy
 ·rw[List.getElem?_append_right hi]at hy
  have h0:i+1-(m++[p]).length=0:=by
   rcases Nat.eq_zero_or_pos (i+1-(m++[p]).length)with h | h
   ·exact h
   ·rw[List.getElem?_eq_none (by simp only[List.length_singleton];omega)]at hy;cases hy
  rw[h0]at hy
  have hi2:i=m.length:=by simp only[List.length_append,List.length_singleton]at hi h0;omega
  subst hi2
  obtain rfl:q=y:=by simpa using hy
  rw[List.append_assoc,List.getElem?_append_right (Nat.le_refl _),Nat.sub_self]at hx
  obtain rfl:p=x:=by simpa using hx
  exact hn
theorem JP{m:List Rn}{k c d:Int}(h:Adj (m++[(k,c)])):Adj (m++[(k,d)]):=fun i x y hx hy=>by
 have hlt:i+1<(m++[(k,d)]).length:=by
  rcases Nat.lt_or_ge (i+1) (m++[(k,d)]).length with h | h
  ·exact h
  ·rw[List.getElem?_eq_none h]at hy;cases hy
 simp only[List.length_append,List.length_singleton]at hlt
 rw[List.getElem?_append_left (by omega)]at hx
 rcases Nat.lt_or_ge (i+1) m.length with hi | hi
 ·rw[List.getElem?_append_left hi]at hy
  exact h i x y (by rw[List.getElem?_append_left (by omega)];exact hx) (by rw[List.getElem?_append_left hi];exact hy)
 ·have h0:i+1=m.length:=by omega
  rw[List.getElem?_append_right hi,h0,Nat.sub_self]at hy
  obtain rfl:(k,d)=y:=by simpa using hy
  exact h i x (k,c) (by rw[List.getElem?_append_left (by omega)];exact hx) (by rw[List.getElem?_append_right hi,h0,Nat.sub_self];rfl)
theorem JT{l:List Rn}(h:Adj l)(k c:Int):Adj (BD l k c):=by
 by_cases h0:c=0
 ·subst h0
  rw[B7]
  exact h
 rcases D6 l with rfl | ⟨m,k',c',rfl⟩
 ·rw[BV h0]
  intro i p q _ hq
  simp at hq
 ·by_cases hk:k'=k
  ·subst hk
   rw[C2 h0]
   exact JP h
  ·rw[DE h0 hk]
   exact K5 h hk
theorem JQ(l:List Int):Adj (B4 l):=by
 induction l using HM with
 | h0=>intro i p q h;simp[B4]at h
 | h1 l k ih=>rw[C5];exact JT ih k 1
def BQ(p:Rn):Bool:=decide (1<=p.1)&&decide (p.1<=3)&&decide (1<=p.2)
theorem BG{p:Rn}:BQ p=true↔(1<=p.1/\p.1<=3)/\1<=p.2:=by unfold BQ;simp only[Bool.and_eq_true,decide_eq_true_eq]
def edR(p:Rn):Int:=if(BQ p && !decide (p.1=1)&&decide (p.2<=1048576))=true then p.2 else 0
def kpR(p:Rn):Int:=if p.1=1 then p.2 else 0
def CB(f:Rn->Int):List Rn->Int
 | []=>0
 | p::r=>f p+CB f r
theorem G9(f:Rn->Int)(p:Rn):∀ r,CB f (r++[p])=CB f r+f p
 | []=>by simp[CB]
 | q::r=>by
  show f q+CB f (r++[p])=f q+CB f r+f p
  rw[G9 f p r]
  omega
theorem J8(l m:List Int):nE (l++m)=nE l+nE m:=List.countP_append ..
theorem JA(l m:List Int):nK (l++m)=nK l+nK m:=List.countP_append ..
theorem HX(k:Int):∀ n:Nat,nE (List.replicate n k)=if k=1 then 0 else n
 | 0=>by simp[nE]
 | n+1=>by
  rw[List.replicate_succ,CR,HX k n]
  split<;>rfl
theorem JW(k:Int):∀ n:Nat,nK (List.replicate n k)=if k=1 then n else 0
 | 0=>by simp[nK]
 | n+1=>by
  rw[List.replicate_succ,DB,JW k n]
  split<;>rfl
theorem I0:∀ r:List Rn,(∀ p∈r,BQ p=true/\p.2<=1048576)->CB edR r=(nE (ex r):Int)
 | [],_=>rfl
 | (k,c)::r,h=>by
  have h1:=h (k,c) List.mem_cons_self
  have h2:=I0 r fun p hp=>h p (List.mem_cons_of_mem _ hp)
  have h0:ex ((k,c)::r)=List.replicate c.toNat k++ex r:=rfl
  have h3:=(BG.1 h1.1).2
  have h4:c<=1048576:=h1.2
  simp only at h3
  rw[h0,J8,HX,CB,h2]
  unfold edR
  rw[h1.1]
  simp only[Bool.true_and,Bool.and_eq_true,Bool.not_eq_true',decide_eq_true_eq,decide_eq_false_iff_not]
  by_cases hk:k=1
  ·rw[if_neg (fun h=>h.1 hk),if_pos hk]
   omega
  ·rw[if_pos ⟨hk,h4⟩,if_neg hk]
   omega
theorem IH:∀ r:List Rn,OkR r->CB kpR r=(nK (ex r):Int)
 | [],_=>rfl
 | (k,c)::r,h=>by
  have h1:1<=c:=h (k,c) List.mem_cons_self
  have h2:=IH r fun p hp=>h p (List.mem_cons_of_mem _ hp)
  have h0:ex ((k,c)::r)=List.replicate c.toNat k++ex r:=rfl
  rw[h0,JA,JW,CB,h2]
  unfold kpR
  by_cases hk:k=1
  ·rw[if_pos hk,if_pos hk]
   omega
  ·rw[if_neg hk,if_neg hk]
   omega
abbrev LL:Type:=List Int×List Int
def mv(k:Int)(t:LL):Option LL:=
 if k=1 then(match t with | (p::a,q::b)=>if p=q then some (a,b)else none | _=>none)
 else if k=2 then(match t with | (_::a,b)=>some (a,b) | _=>none)
 else if k=3 then(match t with | (a,_::b)=>some (a,b) | _=>none)
 else none
def mvs:List Int->LL->Option LL
 | [],t=>some t
 | k::l,t=>(mv k t).bind (mvs l)
theorem GN:∀ (l m:List Int) (t:LL),mvs (l++m) t=(mvs l t).bind (mvs m)
 | [],m,t=>rfl
 | k::l,m,t=>by
  show(mv k t).bind (mvs (l++m))=((mv k t).bind (mvs l)).bind (mvs m)
  cases h:mv k t with
  | none=>rfl
  | some u=>exact GN l m u
theorem F5:∀ (c:Nat) (a b:List Int),mvs (List.replicate c 1) (a,b)=if c<=a.length/\c<=b.length/\a.take c=b.take c then some (a.drop c,b.drop c)else none
 | 0,a,b=>by simp[mvs]
 | c+1,[],b=>by simp[List.replicate_succ,mvs,mv]
 | c+1,p::a,[]=>by simp[List.replicate_succ,mvs,mv]
 | c+1,p::a,q::b=>by
  have ih:=F5 c a b
  have:mv 1 (p::a,q::b)=if p=q then some (a,b)else none:=rfl
  rw[List.replicate_succ,mvs,this]
  by_cases h:p=q
  ·subst h
   rw[if_pos rfl]
   show mvs (List.replicate c 1) (a,b)=_
   rw[ih]
   simp
  ·rw[if_neg h,if_neg (by simp[h])]
   rfl
theorem FZ:∀ (c:Nat) (a b:List Int),mvs (List.replicate c 2) (a,b)=if c<=a.length then some (a.drop c,b)else none
 | 0,a,b=>by simp[mvs]
 | c+1,[],b=>by simp[List.replicate_succ,mvs,mv]
 | c+1,p::a,b=>by
  have:mv 2 (p::a,b)=some (a,b):=rfl
  rw[List.replicate_succ,mvs,this]
  show mvs (List.replicate c 2) (a,b)=_
  rw[FZ c a b]
  simp
theorem FW:∀ (c:Nat) (a b:List Int),mvs (List.replicate c 3) (a,b)=if c<=b.length then some (a,b.drop c)else none
 | 0,a,b=>by simp[mvs]
 | c+1,a,[]=>by cases a<;>simp[List.replicate_succ,mvs,mv]
 | c+1,a,p::b=>by
  have:mv 3 (a,p::b)=some (a,b):=rfl
  rw[List.replicate_succ,mvs,this]
  show mvs (List.replicate c 3) (a,b)=_
  rw[FW c a b]
  simp
def CV(r:List Rn)(a b:List Int):Bool:=r.all BQ&&decide (mvs (ex r) (a,b)=some ([],[]))
theorem LG(a b:List Int):CV [] a b=(decide (a.length=0)&&decide (b.length=0)):=by
 cases a<;>cases b<;>simp[CV,mvs,ex]
theorem LQ{p:Rn}{r:List Rn}{a b:List Int}(h:BQ p=false):CV (p::r) a b=false:=by
 unfold CV
 rw[List.all_cons,h]
 rfl
theorem HI{p:Rn}{r:List Rn}{a b:List Int}(h:mvs (List.replicate p.2.toNat p.1) (a,b)=none):CV (p::r) a b=false:=by
 have h0:ex (p::r)=List.replicate p.2.toNat p.1++ex r:=rfl
 unfold CV
 rw[h0,GN,h]
 simp
theorem MS{p:Rn}{r:List Rn}{a b a' b':List Int}(hp:BQ p=true)(h:mvs (List.replicate p.2.toNat p.1) (a,b)=some (a',b')):CV (p::r) a b=CV r a' b':=by
 have h0:ex (p::r)=List.replicate p.2.toNat p.1++ex r:=rfl
 unfold CV
 rw[h0,GN,h,List.all_cons,hp]
 rfl
def K3(l:List Int):Prop:=∀ z∈l,z=1\/z=2\/z=3
theorem FG{l:List Int}(h:K3 l):(B4 l).all BQ=true:=by
 rw[List.all_eq_true]
 intro p hp
 obtain⟨h1,h2,h3⟩:=E2 hp
 have:=h _ h3
 exact BG.2 ⟨by omega,h1⟩
theorem KA{l:List Int}(h:K3 l)(a b:List Int):CV (B4 l) a b=decide (mvs l (a,b)=some ([],[])):=by
 unfold CV
 rw[FG h,(E1 l).2]
 rfl
def edL(a b:List Int):Nat:=ed (sm a b) a.length b.length
def stL(a b:List Int):List Int:=st (sm a b) a.length b.length
theorem IK(p q:Int)(a b:List Int):sm (p::a) (q::b) a.length b.length=decide (p=q):=by
 have:=GD (a:=p::a) (b:=q::b) (i:=0) (j:=0) (p:=p) (q:=q) rfl rfl
 simpa using this
theorem NT(p q:Int)(a b:List Int):ed (sm (p::a) (q::b)) a.length b.length=edL a b:=BX _ _ _ (Nat.le_refl _) fun x y hx hy=>IM p q a b x y hx hy
theorem K0(p:Int)(a b:List Int):ed (sm (p::a) b) a.length b.length=edL a b:=BX _ _ _ (Nat.le_refl _) fun x y hx _=>E4 p a b x y hx
theorem JR(q:Int)(a b:List Int):ed (sm a (q::b)) a.length b.length=edL a b:=BX _ _ _ (Nat.le_refl _) fun x y _ hy=>FU q a b x y hy
theorem F4(p q:Int)(a b:List Int):edL (p::a) (q::b)=if p=q then edL a b else 1+min (edL a (q::b)) (edL (p::a) b):=by
 show ed (sm (p::a) (q::b)) (a.length+1) (b.length+1)=_
 rw[ES,IK,NT]
 have h1:=K0 p a (q::b)
 have h2:=JR q (p::a) b
 simp only[List.length_cons]at h1 h2
 rw[h1,h2]
 by_cases h:p=q<;>simp[h]
theorem NQ(p:Int)(a b:List Int):edL (p::a) b<=edL a b+1:=by
 have:=(M5 (s:=sm (p::a) b) a.length b.length).2
 rw[K0]at this
 exact this
theorem NY(q:Int)(a b:List Int):edL a (q::b)<=edL a b+1:=by
 have:=(LH (s:=sm a (q::b)) a.length b.length).2
 rw[JR]at this
 exact this
theorem H8(a b:List Int):edL a b=edL b a:=F0 _ _ _ (Nat.le_refl _) fun x y=>GS a b x y
theorem DF:∀ (l:List Int) (a b:List Int),mvs l (a,b)=some ([],[])->edL a b<=nE l
 | [],a,b,h=>by
  injection h with h
  injection h with h1 h2
  subst h1 h2
  exact Nat.le_of_eq (BB 0)
 | k::l,a,b,h=>by
  rw[CR]
  unfold mvs mv at h
  by_cases k1:k=1
  ·rw[if_pos k1]at h ⊢
   cases a with
   | nil=>cases h
   | cons p a=>
    cases b with
    | nil=>cases h
    | cons q b=>
     simp only at h
     by_cases e:p=q
     ·rw[if_pos e]at h
      rw[F4,if_pos e]
      exact DF l a b h
     ·rw[if_neg e]at h;cases h
  ·rw[if_neg k1]at h ⊢
   by_cases k2:k=2
   ·rw[if_pos k2]at h
    cases a with
    | nil=>cases h
    | cons p a=>
     have:=DF l a b h
     have:=NQ p a b
     omega
   ·rw[if_neg k2]at h
    by_cases k3:k=3
    ·rw[if_pos k3]at h
     cases b with
     | nil=>cases h
     | cons q b=>
      have:=DF l a b h
      have:=NY q a b
      omega
    ·rw[if_neg k3]at h;cases h
theorem BT{s t:Nat->Nat->Bool}:∀ (k m n:Nat),m+n<=k->(∀ x y,x<m->y<n->s x y=t x y)->st s m n=st t m n
 | 0,m,n,h,_=>by
  obtain rfl:m=0:=by omega
  obtain rfl:n=0:=by omega
  rw[st_00,st_00]
 | k+1,m,n,h,hst=>by
  cases m with
  | zero=>
   cases n with
   | zero=>rw[st_00,st_00]
   | succ n=>rw[st_0n,st_0n,BT k 0 n (by omega) fun x y hx hy=>hst x y (by omega) (by omega)]
  | succ m=>
   cases n with
   | zero=>rw[H6,H6,BT k m 0 (by omega) fun x y hx hy=>hst x y (by omega) (by omega)]
   | succ n=>
    rw[FF,FF,hst m n (by omega) (by omega),BT k m n (by omega) fun x y hx hy=>hst x y (by omega) (by omega),BT k m (n+1) (by omega) fun x y hx hy=>hst x y (by omega) (by omega),BT k (m+1) n (by omega) fun x y hx hy=>hst x y (by omega) (by omega),BX _ m (n+1) (Nat.le_refl _) fun x y hx hy=>hst x y (by omega) (by omega),BX _ (m+1) n (Nat.le_refl _) fun x y hx hy=>hst x y (by omega) (by omega)]
theorem MH(p:Int)(a b:List Int):st (sm (p::a) b) a.length b.length=stL a b:=BT _ _ _ (Nat.le_refl _) fun x y hx _=>E4 p a b x y hx
theorem MC(q:Int)(a b:List Int):st (sm a (q::b)) a.length b.length=stL a b:=BT _ _ _ (Nat.le_refl _) fun x y _ hy=>FU q a b x y hy
theorem GR:stL [] []=[]:=st_00
theorem NR(p:Int)(a:List Int):stL (p::a) []=2::stL a []:=by
 have:=MH p a []
 show st _ (a.length+1) 0=_
 rw[H6]
 exact congrArg _ this
theorem MG(q:Int)(b:List Int):stL [] (q::b)=3::stL [] b:=by
 have:=MC q [] b
 show st _ 0 (b.length+1)=_
 rw[st_0n]
 exact congrArg _ this
theorem FS(p q:Int)(a b:List Int):stL (p::a) (q::b)=if p=q then 1::stL a b else if edL a (q::b)<=edL (p::a) b then 2::stL a (q::b)else 3::stL (p::a) b:=by
 have h0:st (sm (p::a) (q::b)) a.length b.length=stL a b:=BT _ _ _ (Nat.le_refl _) fun x y hx hy=>IM p q a b x y hx hy
 have h1:=K0 p a (q::b)
 have h2:=JR q (p::a) b
 have h3:=MH p a (q::b)
 have h4:=MC q (p::a) b
 simp only[List.length_cons]at h1 h2 h3 h4
 show st (sm (p::a) (q::b)) (a.length+1) (b.length+1)=_
 rw[FF,IK,h0,h1,h2,h3,h4]
 by_cases h:p=q<;>simp[h]
theorem EK:∀ (k:Nat) (a b:List Int),a.length+b.length<=k->mvs (stL a b) (a,b)=some ([],[])
 | _,[],[],_=>by rw[GR];rfl
 | 0,p::a,b,h=>by simp at h
 | 0,[],q::b,h=>by simp at h
 | k+1,p::a,[],h=>by
  rw[NR]
  exact EK k a [] (by simp only[List.length_cons,List.length_nil]at h ⊢;omega)
 | k+1,[],q::b,h=>by
  rw[MG]
  exact EK k [] b (by simp only[List.length_cons,List.length_nil]at h ⊢;omega)
 | k+1,p::a,q::b,h=>by
  simp only[List.length_cons]at h
  rw[FS]
  by_cases e:p=q
  ·rw[if_pos e]
   subst e
   have:mv 1 (p::a,p::b)=some (a,b):=by simp[mv]
   rw[mvs,this]
   exact EK k a b (by omega)
  ·rw[if_neg e]
   by_cases hc:edL a (q::b)<=edL (p::a) b
   ·rw[if_pos hc]
    exact EK k a (q::b) (by simp only[List.length_cons];omega)
   ·rw[if_neg hc]
    exact EK k (p::a) b (by simp only[List.length_cons];omega)
theorem GL:∀ a:List Int,stL a a=List.replicate a.length 1
 | []=>GR
 | p::a=>by rw[FS,if_pos rfl,GL a];rfl
theorem GM(a b:List Int):nE (stL a b)=edL a b/\edL a b+2*nK (stL a b)=a.length+b.length/\(stL a b).length<=a.length+b.length/\K3 (stL a b):=GA _ _ _ (Nat.le_refl _)
def hd:List Int->List Int->Nat
 | p::a,q::b=>if p=q then hd a b+1 else 0
 | _,_=>0
theorem L1:∀ a b:List Int,hd a b<=a.length/\hd a b<=b.length
 | [],b=>by simp[hd]
 | p::a,[]=>by simp[hd]
 | p::a,q::b=>by
  have:=L1 a b
  unfold hd
  split
  ·simp only[List.length_cons];omega
  ·simp
theorem KT:∀ {a b:List Int} {k:Nat} {p q:Int},k<=hd a b->a[k]?=some p->b[k]?=some q->(p=q↔k<hd a b)
 | [],_,_,_,_,_,h,_=>by simp at h
 | _::_,[],_,_,_,_,_,h=>by simp at h
 | x::a,y::b,k,p,q,hk,hp,hq=>by
  cases k with
  | zero=>
   obtain rfl:x=p:=by simpa using hp
   obtain rfl:y=q:=by simpa using hq
   unfold hd
   by_cases e:x=y
   ·rw[if_pos e];exact⟨fun _=>by omega,fun _=>e⟩
   ·rw[if_neg e];exact⟨fun h=>absurd h e,fun h=>by omega⟩
  | succ k=>
   have hp':a[k]?=some p:=by simpa using hp
   have hq':b[k]?=some q:=by simpa using hq
   unfold hd at hk ⊢
   by_cases e:x=y
   ·rw[if_pos e]at hk ⊢
    rw[KT (k:=k) (by omega) hp' hq']
    omega
   ·rw[if_neg e]at hk;omega
def tl(a b:List Int):Nat:=alk (sm a b) a.length 0 0
theorem NV(a b:List Int):tl a b<=a.length/\tl a b<=b.length /\ ∀ k,k<=tl a b->(sm a b k k=true↔k<tl a b):=by
 obtain⟨j,h1,h2,h3,h4⟩:=GK (N:=a.length) (fun x y h=>FH a b x y h) a.length 0 0 (by omega)
 have e:tl a b=j:=by unfold tl;rw[h1];omega
 rw[e]
 refine⟨by omega,?_,fun k hk=>⟨fun h=>?_,fun h=>?_⟩⟩
 ·rcases Nat.lt_or_ge b.length j with h | h
  ·have:=h2 b.length h
   rw[Nat.zero_add,LN a b _ _ (Nat.le_refl _)]at this
   cases this
  ·exact h
 ·rcases Nat.lt_or_ge k j with h5 | h5
  ·exact h5
  ·obtain rfl:k=j:=by omega
   rw[Nat.zero_add]at h3
   rw[h3]at h;cases h
 ·have:=h2 k h
  rwa [Nat.zero_add]at this
def tlN(a b:List Int):Nat:=tl (a.drop (hd a b)) (b.drop (hd a b))
theorem JN(a b:List Int):hd a b+tlN a b<=a.length/\hd a b+tlN a b<=b.length:=by
 have h1:=L1 a b
 have h2:=NV (a.drop (hd a b)) (b.drop (hd a b))
 rw[List.length_drop,List.length_drop]at h2
 unfold tlN
 omega
def apL(a b:List Int):List Int:=List.replicate (hd a b) 1++List.replicate (a.length-tlN a b-hd a b) 2++List.replicate (b.length-tlN a b-hd a b) 3++List.replicate (tlN a b) 1
def BR(a b:List Int):List Int:=if 400<edL a b then apL a b else stL a b
theorem IF(a b:List Int):(BR a b).length<=a.length+b.length:=by
 unfold BR
 split
 ·have:=JN a b
  simp only[apL,List.length_append,List.length_replicate]
  omega
 ·exact(GM a b).2.2.1
section
section
variable{P:Program}{cx:Cx}{T T':TL}{B:BL}{R:RL}{ops:Array Oper}{Q:Exit->Act->World->Prop}{o:Oper}{l:List Oper}{d:Nat}{y:IV}{x:Operand}{ys:List IV}
theorem AO(h:LStep P cx B R o T y)(hE:E cx ((d,y)::T) B R (wpList P ops Q l))(hg:o.guard=none:=by exact rfl)(hd:o.dst=some d:=by exact rfl)(hn:Nat.blt d cx.n=true:=by exact rfl):E cx T B R (wpList P ops Q (o::l)):=DC hg hd hn h hE
theorem AM(hE:E cx ((d,y)::T) B R (wpList P ops Q l))(hg:o.guard=none:=by exact rfl)(hd:o.dst=some d:=by exact rfl)(hn:Nat.blt d cx.n=true:=by exact rfl)(ho:o.op=.move x:=by exact rfl)(hk:ev T x=some y:=by exact rfl):E cx T B R (wpList P ops Q (o::l)):=DC hg hd hn (A7 ho (kn hk)) hE
theorem BA(hE:E cx ((d,y)::T) B R (wpList P ops Q l))(hg:o.guard=none:=by exact rfl)(hd:o.dst=some d:=by exact rfl)(hn:Nat.blt d cx.n=true:=by exact rfl)(ho:o.op=.assign x:=by exact rfl)(hk:ev T x=some y:=by exact rfl):E cx T B R (wpList P ops Q (o::l)):=DC hg hd hn (HK ho (kn hk)) hE
theorem A3(hg:o.guard=none)(hd:o.dst=some d)(hn:Nat.blt d cx.n=true)(h:LStep P cx B R o T y)(hW:Walk P cx B R ops l ((d,y)::T) ys T'):Walk P cx B R ops (o::l) T (y::ys) T':=.op hg hd hn h hW
theorem A5(hg:o.guard=none)(hd:o.dst=some d)(hn:Nat.blt d cx.n=true)(ho:o.op=.move x)(hk:ev T x=some y)(hW:Walk P cx B R ops l ((d,y)::T) ys T'):Walk P cx B R ops (o::l) T (y::ys) T':=.op hg hd hn (A7 ho (kn hk)) hW
theorem A8(hg:o.guard=none)(hd:o.dst=some d)(hn:Nat.blt d cx.n=true)(ho:o.op=.assign x)(hk:ev T x=some y)(hW:Walk P cx B R ops l ((d,y)::T) ys T'):Walk P cx B R ops (o::l) T (y::ys) T':=.op hg hd hn (HK ho (kn hk)) hW
theorem s_t{t:Nat}(h:lk t T=some y:=by exact rfl):∃ z,lk t T=some z/\Imp z y:=HL y h
theorem s_b{b:Nat}{z:Bx}(h:lk b B=some z:=by exact rfl):∃ u,lk b B=some u/\u.ty=z.ty/\ImpL u.cs z.cs:=LW z h
theorem N0{c:Operand}{a b:Code}(h:E cx T B R (b.wp P Q))(hc:ev T c=some (.is (.bool false)):=by exact rfl):E cx T B R ((Code.cond c a b).wp P Q):=AA hc (fun h=>(by cases h)) fun _=>h
theorem KY{c:Operand}{a b:Code}(h:E cx T B R (a.wp P Q))(hc:ev T c=some (.is (.bool true)):=by exact rfl):E cx T B R ((Code.cond c a b).wp P Q):=AA hc (fun _=>h) fun h=>(by cases h)
end
end
theorem one_3:oneT Try.prog 3=true:=by kernel_rfl
theorem sz_3:sizeT Try.prog 3=some 1:=by kernel_rfl
theorem zr_3:BO Try.prog 3=some [.int .i64 0]:=by kernel_rfl
theorem one_22:oneT Try.prog 22=true:=by kernel_rfl
theorem sz_22:sizeT Try.prog 22=some 1:=by kernel_rfl
theorem sl_22:Try.prog.underlying 22=some (.slice 3):=by kernel_rfl
theorem sle_22:Try.prog.underlying 22=some (.slice (Try.prog.elem 22)):=by kernel_rfl
theorem esz_22:sizeT Try.prog (Try.prog.elem 22)=some 1:=by kernel_rfl
theorem ap_22:(Try.prog.info? 3).map (fun i=>(i.size,i.bytes,i.zero.map (·.cells.size)))=some (1,8,some 1):=by kernel_rfl
theorem zr_22:BO Try.prog 22=some [.slice none 0 0]:=by kernel_rfl
theorem sl_25:Try.prog.underlying 25=some (.slice 22):=by kernel_rfl
theorem ap_25:(Try.prog.info? 22).map (fun i=>(i.size,i.bytes,i.zero.map (·.cells.size)))=some (1,24,some 1):=by kernel_rfl
theorem sl_28:Try.prog.underlying 28=some (.slice 45):=by kernel_rfl
theorem sle_28:Try.prog.underlying 28=some (.slice (Try.prog.elem 28)):=by kernel_rfl
theorem esz_28:sizeT Try.prog (Try.prog.elem 28)=some 2:=by kernel_rfl
theorem ap_28:(Try.prog.info? 45).map (fun i=>(i.size,i.bytes,i.zero.map (·.cells.size)))=some (2,16,some 2):=by kernel_rfl
theorem sl_30:Try.prog.underlying 30=some (.slice 39):=by kernel_rfl
theorem sle_30:Try.prog.underlying 30=some (.slice (Try.prog.elem 30)):=by kernel_rfl
theorem esz_30:sizeT Try.prog (Try.prog.elem 30)=some 2:=by kernel_rfl
theorem ap_30:(Try.prog.info? 39).map (fun i=>(i.size,i.bytes,i.zero.map (·.cells.size)))=some (2,16,some 2):=by kernel_rfl
theorem agg_39:aggT Try.prog 39=true:=by kernel_rfl
theorem sz_39:sizeT Try.prog 39=some 2:=by kernel_rfl
theorem pl_39:DW Try.prog 39=some [(0,1),(1,1)]:=by kernel_rfl
theorem zr_39:BO Try.prog 39=some [.int .i64 0,.int .i64 0]:=by kernel_rfl
theorem agg_45:aggT Try.prog 45=true:=by kernel_rfl
theorem sz_45:sizeT Try.prog 45=some 2:=by kernel_rfl
theorem off_45_0:I4 Try.prog 45 0=some 0:=by kernel_rfl
theorem off_45_1:I4 Try.prog 45 1=some 1:=by kernel_rfl
theorem pl_45:DW Try.prog 45=some [(0,1),(1,1)]:=by kernel_rfl
theorem zr_45:BO Try.prog 45=some [.int .i64 0,.int .i64 0]:=by kernel_rfl
theorem sl_47:Try.prog.underlying 47=some (.slice 22):=by kernel_rfl
theorem sle_47:Try.prog.underlying 47=some (.slice (Try.prog.elem 47)):=by kernel_rfl
theorem esz_47:sizeT Try.prog (Try.prog.elem 47)=some 1:=by kernel_rfl
theorem C9:Try.prog.follows .mixedOrders=true:=by kernel_rfl
abbrev zC(z:Int):Dat:=.cell (.int .i64 z)
abbrev zP(z:Int):Part:=.one (zC z)
abbrev bP(b:Bool):Part:=.one (.cell (.bool b))
theorem D2{a b:Bool}(h:a=b):Imp (.part (bP a)) (.part (bP b)):=Imp.of_eq (by rw[h])
theorem H4{a b:Int}(h:a=b):Imp (.part (zP a)) (.part (zP b)):=Imp.of_eq (by rw[h])
abbrev zI(z:Int):IV:=.is (.int .i64 z)
def zD1(z:Int):List Dat:=[zC z]
theorem AR(z:Int):(zD1 z).length=1:=rfl
theorem s_z{T:TL}{t:Nat}{m n:Int}(h:lk t T=some (zI n))(e:n=m):∃ z,lk t T=some z/\Imp z (zI m):=by subst e;exact⟨_,h,Imp.refl _⟩
abbrev zsD(l:List Int):Dat:=.row 1 l.length (l.flatMap zD1)
def KN(l:List Int):List Dat:=[zsD l]
theorem HE(l:List Int):(KN l).length=1:=rfl
abbrev G2(L:List (List Int)):Dat:=.row 1 L.length (L.flatMap KN)
abbrev K7:Dat:=.cell (.slice none 0 0)
theorem J6{α:Type}{f:α->List Dat}{g:α->Dat}(hf:∀ a,f a=[g a])(l:List α):l.flatMap f=l.map g:=by
 induction l with
 | nil=>rfl
 | cons x l ih=>rw[List.flatMap_cons,hf,ih];rfl
theorem EZ{α:Type}(f:Nat->α){n i:Nat}(h:i<n):((List.range n).map f)[i]?=some (f i):=by
 rw[List.getElem?_map,List.getElem?_range h]
 rfl
theorem LR{α:Type}(f:Nat->α)(n:Nat):((List.range n).map f).length=n:=by simp
theorem LS{α:Type}(f g:Nat->α){n i:Nat}(h:∀ j,j<n->j≠i->f j=g j):((List.range n).map f).set i (g i)=(List.range n).map g:=by
 apply List.ext_getElem?
 intro j
 rw[List.getElem?_set]
 rcases Nat.lt_or_ge j n with hj | hj
 ·rw[EZ g hj]
  by_cases e:i=j
  ·subst e
   rw[if_pos rfl,if_pos (by simpa using hj)]
  ·rw[if_neg e,EZ f hj,h j hj (Ne.symm e)]
 ·rw[List.getElem?_eq_none (l:=(List.range n).map g) (by simpa using hj)]
  split
  ·rename_i e
   rw[if_neg (by rw[LR];omega)]
  ·exact List.getElem?_eq_none (by simpa using hj)
def dA(a b:List Int)(x y:Nat):Nat:=ed (sm a b) (a.length-x) (b.length-y)
theorem NF{a b:List Int}{x y:Nat}{p q:Int}(hp:a[x]?=some p)(hq:b[y]?=some q):dA a b x y=if p=q then dA a b (x+1) (y+1)else 1+min (dA a b (x+1) y) (dA a b x (y+1)):=by
 have hx:x<a.length:=(List.getElem?_eq_some_iff.1 hp).1
 have hy:y<b.length:=(List.getElem?_eq_some_iff.1 hq).1
 have h:=GD hp hq
 unfold dA
 rw[show a.length-x=(a.length-1-x)+1 by omega,show b.length-y=(b.length-1-y)+1 by omega,ES,h,show a.length-(x+1)=a.length-1-x by omega,show b.length-(y+1)=b.length-1-y by omega]
 by_cases e:p=q<;>simp[e]
theorem ltd{m n:Nat}(h:decide ((m:Int)<(n:Int))=true):m<n:=by have:=of_decide_eq_true h;omega
theorem ltf{m n:Nat}(h:decide ((m:Int)<(n:Int))=false):n<=m:=by have:=of_decide_eq_false h;omega
theorem O3(m n:Nat):decide ((m:Int)<(n:Int))=decide (m<n):=decide_eq_decide.2 (by omega)
theorem J1(l:List Int)(x:Nat):∃ p,x<l.length->l[x]?=some p:=⟨l.getD x 0,fun h=>by rw[List.getD_eq_getElem?_getD,List.getElem?_eq_getElem h];rfl⟩
theorem J0{α:Type}(l:List α)(z:α):l.length+1=(l++[z]).length:=by simp
def sA(a b:List Int)(x y:Nat):List Int:=st (sm a b) (a.length-x) (b.length-y)
theorem N5(a b:List Int):sA a b a.length b.length=[]:=by unfold sA;rw[Nat.sub_self,Nat.sub_self,st_00]
theorem LD{a b:List Int}{x y:Nat}{p:Int}(hp:a[x]?=some p)(hq:b[y]?=some p):sA a b x y=1::sA a b (x+1) (y+1):=by
 have hx:x<a.length:=(List.getElem?_eq_some_iff.1 hp).1
 have hy:y<b.length:=(List.getElem?_eq_some_iff.1 hq).1
 have h:=GD hp hq
 unfold sA
 rw[show a.length-x=(a.length-1-x)+1 by omega,show b.length-y=(b.length-1-y)+1 by omega,FF,h,show a.length-(x+1)=a.length-1-x by omega,show b.length-(y+1)=b.length-1-y by omega]
 simp
def rnD(p:Rn):List Dat:=[zC p.1,zC p.2]
theorem BM(p:Rn):(rnD p).length=2:=rfl
abbrev C3(l:List Rn):Dat:=.row 2 l.length (l.flatMap rnD)
theorem DQ(l:List Rn):(l.flatMap rnD).length=l.length*2:=FQ BM l
theorem MR(m:List Rn)(k c:Int):((m++[(k,c)]).flatMap rnD)[m.length*2+1]?=some (zC c)/\((m++[(k,c)]).flatMap rnD)[m.length*2]?=some (zC k):=by
 rw[List.flatMap_append]
 constructor
 ·rw[List.getElem?_append_right (by rw[DQ];omega),DQ,show m.length*2+1-m.length*2=1 by omega]
  rfl
 ·rw[List.getElem?_append_right (by rw[DQ];omega),DQ,Nat.sub_self]
  rfl
theorem ML(m:List Rn)(k c d:Int):((m++[(k,c)]).flatMap rnD).set (m.length*2+1) (zC d)=(m++[(k,d)]).flatMap rnD:=by
 rw[List.flatMap_append,List.flatMap_append,List.set_append_right _ _ (by rw[DQ];omega),DQ,show m.length*2+1-m.length*2=1 by omega]
 rfl
theorem GO(l:List Rn)(k c:Int):l.flatMap rnD++[zC k,zC c]=(l++[(k,c)]).flatMap rnD:=by simp[rnD]
end Go.Proofs.Ytjpghcmlglhmbaa
