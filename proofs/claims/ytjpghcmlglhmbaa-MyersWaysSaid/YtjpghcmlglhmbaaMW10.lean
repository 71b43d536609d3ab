/- Part 10. Conditions: as each theorem says. -/
import Derived.Test.YtjpghcmlglhmbaaMW09
import Derived.Test.YtjpghcmlglhmbaaProg
set_option maxRecDepth 100000
namespace Go.Proofs.Ytjpghcmlglhmbaa
open Go.RowKit
abbrev Rn:Type:=Int×Int
def B8(l:List Rn)(k c:Int):List Rn:=
 if c=0 then l else match l.getLast? with
 | none=>[(k,c)]
 | some p=>if p.1=k then l.dropLast++[(p.1,p.2+c)]else l++[(k,c)]
theorem BP(l:List Rn)(k:Int):B8 l k 0=l:=by unfold B8;rw[if_pos rfl]
theorem C3{k c:Int}(h:c≠0):B8 [] k c=[(k,c)]:=by unfold B8;rw[if_neg h];rfl
theorem C0{m:List Rn}{k c c':Int}(h:c≠0):B8 (m++[(k,c')]) k c=m++[(k,c'+c)]:=by
 unfold B8
 rw[if_neg h,List.getLast?_append]
 simp
theorem D7{m:List Rn}{k k' c c':Int}(h:c≠0)(hk:k'≠k):B8 (m++[(k',c')]) k c=m++[(k',c')]++[(k,c)]:=by
 unfold B8
 rw[if_neg h,List.getLast?_append]
 simp[hk]
theorem DH(l:List Rn):l=[] \/ ∃ m k c,l=m++[(k,c)]:=by
 rcases List.eq_nil_or_concat l with h | ⟨m,⟨k,c⟩,h⟩
 ·exact .inl h
 ·exact .inr ⟨m,k,c,by rw[h,List.concat_eq_append]⟩
theorem JN(l:List Rn)(k:Int){c d:Int}(hc:0<=c)(hd:0<=d):B8 (B8 l k c) k d=B8 l k (c+d):=by
 by_cases h0:c=0
 ·subst h0
  rw[BP,Int.zero_add]
 by_cases h1:d=0
 ·subst h1
  rw[BP,Int.add_zero]
 have h2:c+d≠0:=by omega
 rcases DH l with rfl | ⟨m,k',c',rfl⟩
 ·rw[C3 h0,C3 h2,show[(k,c)]=([]:List Rn)++[(k,c)] from rfl,C0 h1]
  rfl
 ·by_cases hk:k'=k
  ·subst hk
   rw[C0 h0,C0 h1,C0 h2,Int.add_assoc]
  ·rw[D7 h0 hk,D7 h2 hk,C0 h1]
def AW(l:List Int):List Rn:=l.foldl (fun r k=>B8 r k 1) []
theorem BZ(l:List Int)(k:Int):AW (l++[k])=B8 (AW l) k 1:=by unfold AW;rw[List.foldl_append];rfl
theorem BT(l:List Int)(k:Int):∀ n:Nat,AW (l++List.replicate n k)=B8 (AW l) k (n:Int)
 | 0=>by rw[List.replicate_zero,List.append_nil];exact(BP _ _).symm
 | n+1=>by
  rw[List.replicate_succ',<- List.append_assoc,BZ,BT l k n,JN _ _ (by omega) (by omega)]
  rfl
def ex(r:List Rn):List Int:=r.flatMap fun p=>List.replicate p.2.toNat p.1
def OkR(r:List Rn):Prop:=∀ p∈r,1<=p.2
theorem EL(r q:List Rn):ex (r++q)=ex r++ex q:=List.flatMap_append ..
theorem GO(k c:Int):ex [(k,c)]=List.replicate c.toNat k:=by simp[ex]
theorem LI{l:List Rn}(h:OkR l){k c:Int}(hc:0<=c):OkR (B8 l k c)/\ex (B8 l k c)=ex l++List.replicate c.toNat k:=by
 by_cases h0:c=0
 ·subst h0
  rw[BP]
  exact⟨h,by simp⟩
 rcases DH l with rfl | ⟨m,k',c',rfl⟩
 ·rw[C3 h0]
  refine⟨fun p hp=>?_,by rw[GO];rfl⟩
  rw[List.mem_singleton.1 hp]
  show 1<=c
  omega
 ·have h1:1<=c':=h (k',c') (by simp)
  have hm:OkR m:=fun p hp=>h p (by simp[hp])
  by_cases hk:k'=k
  ·subst hk
   rw[C0 h0]
   refine⟨fun p hp=>?_,?_⟩
   ·rcases List.mem_append.1 hp with hp | hp
    ·exact hm p hp
    ·rw[List.mem_singleton.1 hp]
     show 1<=c'+c
     omega
   ·rw[EL,EL,GO,GO,List.append_assoc,List.replicate_append_replicate,show(c'+c).toNat=c'.toNat+c.toNat by omega]
  ·rw[D7 h0 hk]
   refine⟨fun p hp=>?_,by rw[EL,GO]⟩
   rcases List.mem_append.1 hp with hp | hp
   ·exact h p hp
   ·rw[List.mem_singleton.1 hp]
    show 1<=c
    omega
theorem L3{α:Type}{P:List α->Prop}(h0:P [])(h1:∀ l a,P l->P (l++[a]))(l:List α):P l:=by
 have:∀ (n:Nat) (l:List α),l.length=n->P l:=by
  intro n
  induction n with
  | zero=>intro l h;rw[List.eq_nil_of_length_eq_zero h];exact h0
  | succ n ih=>
   intro l h
   rcases List.eq_nil_or_concat l with rfl | ⟨m,a,rfl⟩
   ·exact h0
   ·rw[List.concat_eq_append];exact h1 m a (ih m (by simpa using h))
 exact this _ l rfl
theorem GJ(l:List Int):OkR (AW l)/\ex (AW l)=l:=by
 induction l using L3 with
 | h0=>exact⟨fun p hp=>(by cases hp),rfl⟩
 | h1 l k ih=>
  rw[BZ]
  have:=LI ih.1 (k:=k) (c:=1) (by decide)
  rw[ih.2]at this
  exact this
theorem NG{r:List Rn}{p:Rn}(hp:p∈r):p.2.toNat<=(ex r).length:=by
 induction r with
 | nil=>cases hp
 | cons q r ih=>
  have h:ex (q::r)=List.replicate q.2.toNat q.1++ex r:=rfl
  rw[h,List.length_append,List.length_replicate]
  rcases List.mem_cons.1 hp with rfl | hp
  ·omega
  ·have:=ih hp;omega
theorem N8{r:List Rn}(h:OkR r):r.length<=(ex r).length:=by
 induction r with
 | nil=>exact Nat.le_refl _
 | cons q r ih=>
  have h0:ex (q::r)=List.replicate q.2.toNat q.1++ex r:=rfl
  have h1:=ih fun p hp=>h p (List.mem_cons_of_mem _ hp)
  have h2:=h q List.mem_cons_self
  rw[h0,List.length_append,List.length_replicate,List.length_cons]
  omega
theorem DI{l:List Int}{p:Rn}(hp:p∈AW l):1<=p.2/\p.2<=(l.length:Int)/\p.1∈l:=by
 have h:=GJ l
 have h1:=h.1 p hp
 have h2:=NG hp
 rw[h.2]at h2
 refine⟨h1,by omega,?_⟩
 rw[<- h.2]
 exact List.mem_flatMap.2 ⟨p,hp,by rw[List.mem_replicate];exact⟨by omega,rfl⟩⟩
theorem EA(l:List Int):(AW l).length<=l.length:=by
 have h:=GJ l
 have:=N8 h.1
 rwa [h.2]at this
theorem GH(l:List Int)(k:Int):∃ m c,AW (l++[k])=m++[(k,c)]:=by
 rw[BZ]
 rcases DH (AW l)with h | ⟨m,k',c',h⟩
 ·exact⟨[],1,by rw[h,C3 (by decide)];rfl⟩
 ·by_cases hk:k'=k
  ·subst hk
   exact⟨m,c'+1,by rw[h,C0 (by decide)]⟩
  ·exact⟨m++[(k',c')],1,by rw[h,D7 (by decide) hk]⟩
def B9(p:Rn):Bool:=decide (1<=p.1)&&decide (p.1<=3)&&decide (1<=p.2)
theorem B3{p:Rn}:B9 p=true↔(1<=p.1/\p.1<=3)/\1<=p.2:=by unfold B9;simp only[Bool.and_eq_true,decide_eq_true_eq]
def edR(p:Rn):Int:=if(B9 p && !decide (p.1=1)&&decide (p.2<=1048576))=true then p.2 else 0
def E8(f:Rn->Int):List Rn->Int
 | []=>0
 | p::r=>f p+E8 f r
theorem G5(f:Rn->Int)(p:Rn):∀ r,E8 f (r++[p])=E8 f r+f p
 | []=>by simp[E8]
 | q::r=>by
  show f q+E8 f (r++[p])=f q+E8 f r+f p
  rw[G5 f p r]
  omega
abbrev LL:Type:=List Int×List Int
def mv(k:Int)(t:LL):Option LL:=
 if k=1 then(match t with | (p::a,q::b)=>if p=q then some (a,b)else none | _=>none)
 else if k=2 then(match t with | (_::a,b)=>some (a,b) | _=>none)
 else if k=3 then(match t with | (a,_::b)=>some (a,b) | _=>none)
 else none
def mvs:List Int->LL->Option LL
 | [],t=>some t
 | k::l,t=>(mv k t).bind (mvs l)
theorem BR:∀ (l m:List Int) (t:LL),mvs (l++m) t=(mvs l t).bind (mvs m)
 | [],m,t=>rfl
 | k::l,m,t=>by
  show(mv k t).bind (mvs (l++m))=((mv k t).bind (mvs l)).bind (mvs m)
  cases h:mv k t with
  | none=>rfl
  | some u=>exact BR l m u
theorem F4:∀ (c:Nat) (a b:List Int),mvs (List.replicate c 1) (a,b)=if c<=a.length/\c<=b.length/\a.take c=b.take c then some (a.drop c,b.drop c)else none
 | 0,a,b=>by simp[mvs]
 | c+1,[],b=>by simp[List.replicate_succ,mvs,mv]
 | c+1,p::a,[]=>by simp[List.replicate_succ,mvs,mv]
 | c+1,p::a,q::b=>by
  have ih:=F4 c a b
  have:mv 1 (p::a,q::b)=if p=q then some (a,b)else none:=rfl
  rw[List.replicate_succ,mvs,this]
  by_cases h:p=q
  ·subst h
   rw[if_pos rfl]
   show mvs (List.replicate c 1) (a,b)=_
   rw[ih]
   simp
  ·rw[if_neg h,if_neg (by simp[h])]
   rfl
theorem DD:∀ (c:Nat) (a b:List Int),mvs (List.replicate c 2) (a,b)=if c<=a.length then some (a.drop c,b)else none
 | 0,a,b=>by simp[mvs]
 | c+1,[],b=>by simp[List.replicate_succ,mvs,mv]
 | c+1,p::a,b=>by
  have:mv 2 (p::a,b)=some (a,b):=rfl
  rw[List.replicate_succ,mvs,this]
  show mvs (List.replicate c 2) (a,b)=_
  rw[DD c a b]
  simp
theorem CZ:∀ (c:Nat) (a b:List Int),mvs (List.replicate c 3) (a,b)=if c<=b.length then some (a,b.drop c)else none
 | 0,a,b=>by simp[mvs]
 | c+1,a,[]=>by cases a<;>simp[List.replicate_succ,mvs,mv]
 | c+1,a,p::b=>by
  have:mv 3 (a,p::b)=some (a,b):=rfl
  rw[List.replicate_succ,mvs,this]
  show mvs (List.replicate c 3) (a,b)=_
  rw[CZ c a b]
  simp
def C8(r:List Rn)(a b:List Int):Bool:=r.all B9&&decide (mvs (ex r) (a,b)=some ([],[]))
theorem IZ(a b:List Int):C8 [] a b=(decide (a.length=0)&&decide (b.length=0)):=by
 cases a<;>cases b<;>simp[C8,mvs,ex]
theorem ID{p:Rn}{r:List Rn}{a b:List Int}(h:B9 p=false):C8 (p::r) a b=false:=by
 unfold C8
 rw[List.all_cons,h]
 rfl
theorem FH{p:Rn}{r:List Rn}{a b:List Int}(h:mvs (List.replicate p.2.toNat p.1) (a,b)=none):C8 (p::r) a b=false:=by
 have h0:ex (p::r)=List.replicate p.2.toNat p.1++ex r:=rfl
 unfold C8
 rw[h0,BR,h]
 simp
theorem K8{p:Rn}{r:List Rn}{a b a' b':List Int}(hp:B9 p=true)(h:mvs (List.replicate p.2.toNat p.1) (a,b)=some (a',b')):C8 (p::r) a b=C8 r a' b':=by
 have h0:ex (p::r)=List.replicate p.2.toNat p.1++ex r:=rfl
 unfold C8
 rw[h0,BR,h,List.all_cons,hp]
 rfl
theorem KW(d p:Nat)(t:LL):mvs (List.replicate p 3++List.replicate d 2) t=mvs (List.replicate d 2++List.replicate p 3) t:=by
 obtain⟨a,b⟩:=t
 rw[BR,BR,CZ,DD]
 by_cases h1:p<=b.length
 ·rw[if_pos h1]
  show mvs (List.replicate d 2) (a,b.drop p)=_
  rw[DD]
  by_cases h2:d<=a.length
  ·rw[if_pos h2,if_pos h2]
   show _=mvs (List.replicate p 3) (a.drop d,b)
   rw[CZ,if_pos h1]
  ·rw[if_neg h2,if_neg h2]
   rfl
 ·rw[if_neg h1]
  by_cases h2:d<=a.length
  ·rw[if_pos h2]
   show _=mvs (List.replicate p 3) (a.drop d,b)
   rw[CZ,if_neg h1]
   rfl
  ·rw[if_neg h2]
   rfl
abbrev Td:Type:=List Int×Nat×Nat
def fl(t:Td):List Int:=t.1++List.replicate t.2.1 2++List.replicate t.2.2 3
def td1(t:Td)(k:Int)(c:Nat):Td:=
 if c=0 then t else if k=1 then(fl t++List.replicate c 1,0,0)else if k=2 then(t.1,t.2.1+c,t.2.2)else if k=3 then(t.1,t.2.1,t.2.2+c)else t
def td(t:Td)(r:List Rn):Td:=r.foldl (fun t p=>td1 t p.1 p.2.toNat) t
def DC(r:List Rn):List Rn:=AW (fl (td ([],0,0) r))
theorem MN(t:Td)(r:List Rn)(p:Rn):td t (r++[p])=td1 (td t r) p.1 p.2.toNat:=by unfold td;rw[List.foldl_append];rfl
theorem KE(t:Td)(k:Int)(c:Nat):td1 t k (c+1)=td1 (td1 t k c) k 1:=by
 unfold td1
 rw[if_neg (show ¬ c+1=0 by omega),if_neg (show ¬ (1:Nat)=0 by decide)]
 by_cases h1:k=1
 ·subst h1
  simp only[if_true]
  by_cases hc:c=0
  ·subst hc
   simp
  ·rw[if_neg hc]
   simp[fl,List.replicate_succ']
 ·simp only[if_neg h1]
  by_cases h2:k=2
  ·subst h2
   simp only[if_true]
   by_cases hc:c=0
   ·subst hc
    simp
   ·rw[if_neg hc];rfl
  ·simp only[if_neg h2]
   by_cases h3:k=3
   ·subst h3
    simp only[if_true]
    by_cases hc:c=0
    ·subst hc
     simp
    ·rw[if_neg hc];rfl
   ·simp only[if_neg h3]
    split<;>rfl
theorem CN(t:Td):(fl t).length=t.1.length+t.2.1+t.2.2:=by simp[fl];omega
theorem J8(t:Td)(k:Int)(c:Nat):(fl (td1 t k c)).length<=(fl t).length+c:=by
 unfold td1
 split
 ·omega
 ·split
  ·rw[CN];simp
  ·split
   ·rw[CN,CN];simp only;omega
   ·split
    ·rw[CN,CN];simp only;omega
    ·omega
theorem GW{n:Nat}:∀ (r:List Rn) (t:Td),(∀ p∈r,p.2<=(n:Int))->(fl (td t r)).length<=(fl t).length+n*r.length
 | [],t,_=>by simp[td]
 | p::r,t,h=>by
  have h1:=GW r (td1 t p.1 p.2.toNat) fun q hq=>h q (List.mem_cons_of_mem _ hq)
  have h2:=J8 t p.1 p.2.toNat
  have h3:=h p List.mem_cons_self
  show(fl (td (td1 t p.1 p.2.toNat) r)).length<=_
  rw[List.length_cons,Nat.mul_succ]
  omega
def K3(l:List Int):Prop:=∀ z∈l,z=1\/z=2\/z=3
theorem K3.app{l m:List Int}(h1:K3 l)(h2:K3 m):K3 (l++m):=fun z hz=>by
 rcases List.mem_append.1 hz with h | h
 ·exact h1 z h
 ·exact h2 z h
theorem K3.rep{k:Int}(h:k=1\/k=2\/k=3)(n:Nat):K3 (List.replicate n k):=fun z hz=>by rw[List.eq_of_mem_replicate hz];exact h
theorem K3.fl{t:Td}(h:K3 t.1):K3 (fl t):=(h.app (.rep (by decide) _)).app (.rep (by decide) _)
theorem NX{t:Td}(h:K3 t.1)(k:Int)(c:Nat):K3 (td1 t k c).1:=by
 unfold td1
 split
 ·exact h
 ·split
  ·exact h.fl.app (.rep (by decide) _)
  ·split
   ·exact h
   ·split<;>exact h
theorem O0:∀ (r:List Rn) {t:Td},K3 t.1->K3 (td t r).1
 | [],_,h=>h
 | p::r,t,h=>O0 r (t:=td1 t p.1 p.2.toNat) (NX h p.1 p.2.toNat)
theorem LS{t:Td}{p:Rn}(hp:B9 p=true)(u:LL):mvs (fl (td1 t p.1 p.2.toNat)) u=mvs (fl t++List.replicate p.2.toNat p.1) u:=by
 obtain⟨⟨h1,h2⟩,h3⟩:=B3.1 hp
 obtain⟨k,c⟩:=p
 simp only at h1 h2 h3 ⊢
 have hc:c.toNat≠0:=by omega
 generalize c.toNat=n at hc ⊢
 unfold td1
 rw[if_neg hc]
 by_cases k1:k=1
 ·rw[if_pos k1,k1]
  simp[fl]
 ·rw[if_neg k1]
  by_cases k2:k=2
  ·rw[if_pos k2,k2]
   simp only[fl]
   rw[List.append_assoc (t.1++List.replicate t.2.1 2),BR (t.1++List.replicate t.2.1 2),<- List.replicate_append_replicate,<- List.append_assoc t.1,List.append_assoc (t.1++List.replicate t.2.1 2),BR (t.1++List.replicate t.2.1 2)]
   congr 1
   funext v
   exact(KW n t.2.2 v).symm
  ·rw[if_neg k2,if_pos (by omega),show k=3 by omega]
   simp only[fl]
   rw[List.append_assoc (t.1++List.replicate t.2.1 2),List.replicate_append_replicate]
theorem KU:∀ (r:List Rn) (t:Td) (u:LL),r.all B9=true->mvs (fl (td t r)) u=mvs (fl t++ex r) u
 | [],t,u,_=>by simp[td,ex]
 | p::r,t,u,h=>by
  rw[List.all_cons,Bool.and_eq_true]at h
  have h0:ex (p::r)=List.replicate p.2.toNat p.1++ex r:=rfl
  have h1:=KU r (td1 t p.1 p.2.toNat) u h.2
  show mvs (fl (td (td1 t p.1 p.2.toNat) r)) u=_
  rw[h1,h0,<- List.append_assoc,BR,LS h.1,<- BR]
theorem I2{l:List Int}(h:K3 l):(AW l).all B9=true:=by
 rw[List.all_eq_true]
 intro p hp
 obtain⟨h1,h2,h3⟩:=DI hp
 have:=h _ h3
 exact B3.2 ⟨by omega,h1⟩
theorem KC{l:List Int}(h:K3 l)(a b:List Int):C8 (AW l) a b=decide (mvs l (a,b)=some ([],[])):=by
 unfold C8
 rw[I2 h,(GJ l).2]
 rfl
theorem L7{r:List Rn}{a b:List Int}(h:C8 r a b=true):C8 (DC r) a b=true:=by
 unfold C8 at h
 rw[Bool.and_eq_true]at h
 unfold DC
 rw[KC (K3.fl (O0 r fun z hz=>by cases hz)),KU r _ _ h.1]
 exact h.2
def edL(a b:List Int):Nat:=ed (sm a b) a.length b.length
def stL(a b:List Int):List Int:=st (sm a b) a.length b.length
theorem IT(p q:Int)(a b:List Int):sm (p::a) (q::b) a.length b.length=decide (p=q):=by
 have:=G8 (a:=p::a) (b:=q::b) (i:=0) (j:=0) (p:=p) (q:=q) rfl rfl
 simpa using this
theorem OF(p q:Int)(a b:List Int):ed (sm (p::a) (q::b)) a.length b.length=edL a b:=C7 _ _ _ (Nat.le_refl _) fun x y hx hy=>J7 p q a b x y hx hy
theorem MQ(p:Int)(a b:List Int):ed (sm (p::a) b) a.length b.length=edL a b:=C7 _ _ _ (Nat.le_refl _) fun x y hx _=>E4 p a b x y hx
theorem MP(q:Int)(a b:List Int):ed (sm a (q::b)) a.length b.length=edL a b:=C7 _ _ _ (Nat.le_refl _) fun x y _ hy=>FT q a b x y hy
theorem H7(p q:Int)(a b:List Int):edL (p::a) (q::b)=if p=q then edL a b else 1+min (edL a (q::b)) (edL (p::a) b):=by
 show ed (sm (p::a) (q::b)) (a.length+1) (b.length+1)=_
 rw[G7,IT,OF]
 have h1:=MQ p a (q::b)
 have h2:=MP q (p::a) b
 simp only[List.length_cons]at h1 h2
 rw[h1,h2]
 by_cases h:p=q<;>simp[h]
theorem C6{s t:Nat->Nat->Bool}:∀ (k m n:Nat),m+n<=k->(∀ x y,x<m->y<n->s x y=t x y)->st s m n=st t m n
 | 0,m,n,h,_=>by
  obtain rfl:m=0:=by omega
  obtain rfl:n=0:=by omega
  rw[st_00,st_00]
 | k+1,m,n,h,hst=>by
  cases m with
  | zero=>
   cases n with
   | zero=>rw[st_00,st_00]
   | succ n=>rw[st_0n,st_0n,C6 k 0 n (by omega) fun x y hx hy=>hst x y (by omega) (by omega)]
  | succ m=>
   cases n with
   | zero=>rw[IX,IX,C6 k m 0 (by omega) fun x y hx hy=>hst x y (by omega) (by omega)]
   | succ n=>
    rw[FB,FB,hst m n (by omega) (by omega),C6 k m n (by omega) fun x y hx hy=>hst x y (by omega) (by omega),C6 k m (n+1) (by omega) fun x y hx hy=>hst x y (by omega) (by omega),C6 k (m+1) n (by omega) fun x y hx hy=>hst x y (by omega) (by omega),C7 _ m (n+1) (Nat.le_refl _) fun x y hx hy=>hst x y (by omega) (by omega),C7 _ (m+1) n (Nat.le_refl _) fun x y hx hy=>hst x y (by omega) (by omega)]
theorem OA(p:Int)(a b:List Int):st (sm (p::a) b) a.length b.length=stL a b:=C6 _ _ _ (Nat.le_refl _) fun x y hx _=>E4 p a b x y hx
theorem MV(q:Int)(a b:List Int):st (sm a (q::b)) a.length b.length=stL a b:=C6 _ _ _ (Nat.le_refl _) fun x y _ hy=>FT q a b x y hy
theorem LV:stL [] []=[]:=st_00
theorem OE(q:Int)(b:List Int):stL [] (q::b)=3::stL [] b:=by
 have:=MV q [] b
 show st _ 0 (b.length+1)=_
 rw[st_0n]
 exact congrArg _ this
theorem LB(p q:Int)(a b:List Int):stL (p::a) (q::b)=if p=q then 1::stL a b else if edL a (q::b)<=edL (p::a) b then 2::stL a (q::b)else 3::stL (p::a) b:=by
 have h0:st (sm (p::a) (q::b)) a.length b.length=stL a b:=C6 _ _ _ (Nat.le_refl _) fun x y hx hy=>J7 p q a b x y hx hy
 have h1:=MQ p a (q::b)
 have h2:=MP q (p::a) b
 have h3:=OA p a (q::b)
 have h4:=MV q (p::a) b
 simp only[List.length_cons]at h1 h2 h3 h4
 show st (sm (p::a) (q::b)) (a.length+1) (b.length+1)=_
 rw[FB,IT,h0,h1,h2,h3,h4]
 by_cases h:p=q<;>simp[h]
theorem NK(a b:List Int):nE (stL a b)=edL a b/\edL a b+2*nK (stL a b)=a.length+b.length/\(stL a b).length<=a.length+b.length/\K3 (stL a b):=GC _ _ _ (Nat.le_refl _)
def hd:List Int->List Int->Nat
 | p::a,q::b=>if p=q then hd a b+1 else 0
 | _,_=>0
theorem KB:∀ a b:List Int,hd a b<=a.length/\hd a b<=b.length
 | [],b=>by simp[hd]
 | p::a,[]=>by simp[hd]
 | p::a,q::b=>by
  have:=KB a b
  unfold hd
  split
  ·simp only[List.length_cons];omega
  ·simp
theorem LA:∀ {a b:List Int} {k:Nat} {p q:Int},k<=hd a b->a[k]?=some p->b[k]?=some q->(p=q↔k<hd a b)
 | [],_,_,_,_,_,h,_=>by simp at h
 | _::_,[],_,_,_,_,_,h=>by simp at h
 | x::a,y::b,k,p,q,hk,hp,hq=>by
  cases k with
  | zero=>
   obtain rfl:x=p:=by simpa using hp
   obtain rfl:y=q:=by simpa using hq
   unfold hd
   by_cases e:x=y
   ·rw[if_pos e];exact⟨fun _=>by omega,fun _=>e⟩
   ·rw[if_neg e];exact⟨fun h=>absurd h e,fun h=>by omega⟩
  | succ k=>
   have hp':a[k]?=some p:=by simpa using hp
   have hq':b[k]?=some q:=by simpa using hq
   unfold hd at hk ⊢
   by_cases e:x=y
   ·rw[if_pos e]at hk ⊢
    rw[LA (k:=k) (by omega) hp' hq']
    omega
   ·rw[if_neg e]at hk;omega
def tl(a b:List Int):Nat:=alk (sm a b) a.length 0 0
theorem O3(a b:List Int):tl a b<=a.length/\tl a b<=b.length /\ ∀ k,k<=tl a b->(sm a b k k=true↔k<tl a b):=by
 obtain⟨j,h1,h2,h3,h4⟩:=GU (N:=a.length) (fun x y h=>FO a b x y h) a.length 0 0 (by omega)
 have e:tl a b=j:=by unfold tl;rw[h1];omega
 rw[e]
 refine⟨by omega,?_,fun k hk=>⟨fun h=>?_,fun h=>?_⟩⟩
 ·rcases Nat.lt_or_ge b.length j with h | h
  ·have:=h2 b.length h
   rw[Nat.zero_add,LQ a b _ _ (Nat.le_refl _)]at this
   cases this
  ·exact h
 ·rcases Nat.lt_or_ge k j with h5 | h5
  ·exact h5
  ·obtain rfl:k=j:=by omega
   rw[Nat.zero_add]at h3
   rw[h3]at h;cases h
 ·have:=h2 k h
  rwa [Nat.zero_add]at this
def tlN(a b:List Int):Nat:=tl (a.drop (hd a b)) (b.drop (hd a b))
theorem NI(a b:List Int):hd a b+tlN a b<=a.length/\hd a b+tlN a b<=b.length:=by
 have h1:=KB a b
 have h2:=O3 (a.drop (hd a b)) (b.drop (hd a b))
 rw[List.length_drop,List.length_drop]at h2
 unfold tlN
 omega
def apL(a b:List Int):List Int:=List.replicate (hd a b) 1++List.replicate (a.length-tlN a b-hd a b) 2++List.replicate (b.length-tlN a b-hd a b) 3++List.replicate (tlN a b) 1
def GN(a b:List Int):List Int:=if 400<edL a b then apL a b else stL a b
section
section
variable{P:Program}{cx:Cx}{T T':TL}{B:BL}{R:RL}{ops:Array Oper}{Q:Exit->Act->World->Prop}{o:Oper}{l:List Oper}{d:Nat}{y:IV}{x:Operand}{ys:List IV}
theorem AK(h:LStep P cx B R o T y)(hE:E cx ((d,y)::T) B R (wpList P ops Q l))(hg:o.guard=none:=by exact rfl)(hd:o.dst=some d:=by exact rfl)(hn:Nat.blt d cx.n=true:=by exact rfl):E cx T B R (wpList P ops Q (o::l)):=DM hg hd hn h hE
theorem AM(hE:E cx ((d,y)::T) B R (wpList P ops Q l))(hg:o.guard=none:=by exact rfl)(hd:o.dst=some d:=by exact rfl)(hn:Nat.blt d cx.n=true:=by exact rfl)(ho:o.op=.move x:=by exact rfl)(hk:ev T x=some y:=by exact rfl):E cx T B R (wpList P ops Q (o::l)):=DM hg hd hn (AA ho (kn hk)) hE
theorem B7(hE:E cx ((d,y)::T) B R (wpList P ops Q l))(hg:o.guard=none:=by exact rfl)(hd:o.dst=some d:=by exact rfl)(hn:Nat.blt d cx.n=true:=by exact rfl)(ho:o.op=.assign x:=by exact rfl)(hk:ev T x=some y:=by exact rfl):E cx T B R (wpList P ops Q (o::l)):=DM hg hd hn (HQ ho (kn hk)) hE
theorem A3(hg:o.guard=none)(hd:o.dst=some d)(hn:Nat.blt d cx.n=true)(h:LStep P cx B R o T y)(hW:Walk P cx B R ops l ((d,y)::T) ys T'):Walk P cx B R ops (o::l) T (y::ys) T':=.op hg hd hn h hW
theorem A5(hg:o.guard=none)(hd:o.dst=some d)(hn:Nat.blt d cx.n=true)(ho:o.op=.move x)(hk:ev T x=some y)(hW:Walk P cx B R ops l ((d,y)::T) ys T'):Walk P cx B R ops (o::l) T (y::ys) T':=.op hg hd hn (AA ho (kn hk)) hW
theorem A6(hg:o.guard=none)(hd:o.dst=some d)(hn:Nat.blt d cx.n=true)(ho:o.op=.assign x)(hk:ev T x=some y)(hW:Walk P cx B R ops l ((d,y)::T) ys T'):Walk P cx B R ops (o::l) T (y::ys) T':=.op hg hd hn (HQ ho (kn hk)) hW
theorem s_t{t:Nat}(h:lk t T=some y:=by exact rfl):∃ z,lk t T=some z/\Imp z y:=HD y h
theorem s_b{b:Nat}{z:Bx}(h:lk b B=some z:=by exact rfl):∃ u,lk b B=some u/\u.ty=z.ty/\ImpL u.cs z.cs:=MI z h
theorem N2{c:Operand}{a b:Code}(h:E cx T B R (b.wp P Q))(hc:ev T c=some (.is (.bool false)):=by exact rfl):E cx T B R ((Code.cond c a b).wp P Q):=AC hc (fun h=>(by cases h)) fun _=>h
theorem J9{c:Operand}{a b:Code}(h:E cx T B R (a.wp P Q))(hc:ev T c=some (.is (.bool true)):=by exact rfl):E cx T B R ((Code.cond c a b).wp P Q):=AC hc (fun _=>h) fun h=>(by cases h)
end
end
theorem one_3:oneT Try.prog 3=true:=by kernel_rfl
theorem sz_3:sizeT Try.prog 3=some 1:=by kernel_rfl
theorem zr_3:BX Try.prog 3=some [.int .i64 0]:=by kernel_rfl
theorem bool_4:Try.prog.underlying 4=some .bool:=by kernel_rfl
theorem one_22:oneT Try.prog 22=true:=by kernel_rfl
theorem sz_22:sizeT Try.prog 22=some 1:=by kernel_rfl
theorem sl_22:Try.prog.underlying 22=some (.slice 3):=by kernel_rfl
theorem sle_22:Try.prog.underlying 22=some (.slice (Try.prog.elem 22)):=by kernel_rfl
theorem esz_22:sizeT Try.prog (Try.prog.elem 22)=some 1:=by kernel_rfl
theorem ap_22:(Try.prog.info? 3).map (fun i=>(i.size,i.bytes,i.zero.map (·.cells.size)))=some (1,8,some 1):=by kernel_rfl
theorem zr_22:BX Try.prog 22=some [.slice none 0 0]:=by kernel_rfl
theorem sl_25:Try.prog.underlying 25=some (.slice 22):=by kernel_rfl
theorem ap_25:(Try.prog.info? 22).map (fun i=>(i.size,i.bytes,i.zero.map (·.cells.size)))=some (1,24,some 1):=by kernel_rfl
theorem sl_28:Try.prog.underlying 28=some (.slice 45):=by kernel_rfl
theorem sle_28:Try.prog.underlying 28=some (.slice (Try.prog.elem 28)):=by kernel_rfl
theorem esz_28:sizeT Try.prog (Try.prog.elem 28)=some 2:=by kernel_rfl
theorem ap_28:(Try.prog.info? 45).map (fun i=>(i.size,i.bytes,i.zero.map (·.cells.size)))=some (2,16,some 2):=by kernel_rfl
theorem sl_30:Try.prog.underlying 30=some (.slice 39):=by kernel_rfl
theorem sle_30:Try.prog.underlying 30=some (.slice (Try.prog.elem 30)):=by kernel_rfl
theorem esz_30:sizeT Try.prog (Try.prog.elem 30)=some 2:=by kernel_rfl
theorem ap_30:(Try.prog.info? 39).map (fun i=>(i.size,i.bytes,i.zero.map (·.cells.size)))=some (2,16,some 2):=by kernel_rfl
theorem agg_39:aggT Try.prog 39=true:=by kernel_rfl
theorem sz_39:sizeT Try.prog 39=some 2:=by kernel_rfl
theorem off_39_0:HG Try.prog 39 0=some 0:=by kernel_rfl
theorem off_39_1:HG Try.prog 39 1=some 1:=by kernel_rfl
theorem pl_39:DZ Try.prog 39=some [(0,1),(1,1)]:=by kernel_rfl
theorem zr_39:BX Try.prog 39=some [.int .i64 0,.int .i64 0]:=by kernel_rfl
theorem agg_45:aggT Try.prog 45=true:=by kernel_rfl
theorem sz_45:sizeT Try.prog 45=some 2:=by kernel_rfl
theorem off_45_0:HG Try.prog 45 0=some 0:=by kernel_rfl
theorem off_45_1:HG Try.prog 45 1=some 1:=by kernel_rfl
theorem pl_45:DZ Try.prog 45=some [(0,1),(1,1)]:=by kernel_rfl
theorem zr_45:BX Try.prog 45=some [.int .i64 0,.int .i64 0]:=by kernel_rfl
theorem sl_47:Try.prog.underlying 47=some (.slice 22):=by kernel_rfl
theorem sle_47:Try.prog.underlying 47=some (.slice (Try.prog.elem 47)):=by kernel_rfl
theorem esz_47:sizeT Try.prog (Try.prog.elem 47)=some 1:=by kernel_rfl
theorem CB:Try.prog.follows .mixedOrders=true:=by kernel_rfl
abbrev zC(z:Int):Dat:=.cell (.int .i64 z)
abbrev zP(z:Int):Part:=.one (zC z)
abbrev bP(b:Bool):Part:=.one (.cell (.bool b))
theorem CM{a b:Bool}(h:a=b):Imp (.part (bP a)) (.part (bP b)):=Imp.of_eq (by rw[h])
theorem HB{a b:Int}(h:a=b):Imp (.part (zP a)) (.part (zP b)):=Imp.of_eq (by rw[h])
abbrev zI(z:Int):IV:=.is (.int .i64 z)
def zD1(z:Int):List Dat:=[zC z]
theorem AT(z:Int):(zD1 z).length=1:=rfl
theorem s_z{T:TL}{t:Nat}{m n:Int}(h:lk t T=some (zI n))(e:n=m):∃ z,lk t T=some z/\Imp z (zI m):=by subst e;exact⟨_,h,Imp.refl _⟩
abbrev zsD(l:List Int):Dat:=.row 1 l.length (l.flatMap zD1)
def JS(l:List Int):List Dat:=[zsD l]
theorem HI(l:List Int):(JS l).length=1:=rfl
abbrev F7(L:List (List Int)):Dat:=.row 1 L.length (L.flatMap JS)
abbrev L5:Dat:=.cell (.slice none 0 0)
theorem JQ{α:Type}{f:α->List Dat}{g:α->Dat}(hf:∀ a,f a=[g a])(l:List α):l.flatMap f=l.map g:=by
 induction l with
 | nil=>rfl
 | cons x l ih=>rw[List.flatMap_cons,hf,ih];rfl
theorem EZ{α:Type}(f:Nat->α){n i:Nat}(h:i<n):((List.range n).map f)[i]?=some (f i):=by
 rw[List.getElem?_map,List.getElem?_range h]
 rfl
theorem MM{α:Type}(f:Nat->α)(n:Nat):((List.range n).map f).length=n:=by simp
theorem MC{α:Type}(f g:Nat->α){n i:Nat}(h:∀ j,j<n->j≠i->f j=g j):((List.range n).map f).set i (g i)=(List.range n).map g:=by
 apply List.ext_getElem?
 intro j
 rw[List.getElem?_set]
 rcases Nat.lt_or_ge j n with hj | hj
 ·rw[EZ g hj]
  by_cases e:i=j
  ·subst e
   rw[if_pos rfl,if_pos (by simpa using hj)]
  ·rw[if_neg e,EZ f hj,h j hj (Ne.symm e)]
 ·rw[List.getElem?_eq_none (l:=(List.range n).map g) (by simpa using hj)]
  split
  ·rename_i e
   rw[if_neg (by rw[MM];omega)]
  ·exact List.getElem?_eq_none (by simpa using hj)
def dA(a b:List Int)(x y:Nat):Nat:=ed (sm a b) (a.length-x) (b.length-y)
theorem O4{a b:List Int}{x y:Nat}{p q:Int}(hp:a[x]?=some p)(hq:b[y]?=some q):dA a b x y=if p=q then dA a b (x+1) (y+1)else 1+min (dA a b (x+1) y) (dA a b x (y+1)):=by
 have hx:x<a.length:=(List.getElem?_eq_some_iff.1 hp).1
 have hy:y<b.length:=(List.getElem?_eq_some_iff.1 hq).1
 have h:=G8 hp hq
 unfold dA
 rw[show a.length-x=(a.length-1-x)+1 by omega,show b.length-y=(b.length-1-y)+1 by omega,G7,h,show a.length-(x+1)=a.length-1-x by omega,show b.length-(y+1)=b.length-1-y by omega]
 by_cases e:p=q<;>simp[e]
theorem ltd{m n:Nat}(h:decide ((m:Int)<(n:Int))=true):m<n:=by have:=of_decide_eq_true h;omega
theorem ltf{m n:Nat}(h:decide ((m:Int)<(n:Int))=false):n<=m:=by have:=of_decide_eq_false h;omega
theorem OK(m n:Nat):decide ((m:Int)<(n:Int))=decide (m<n):=decide_eq_decide.2 (by omega)
theorem JF(m n:Nat):decide ((m:Int)<=(n:Int))=decide (m<=n):=decide_eq_decide.2 (by omega)
theorem NV(m n:Nat):decide ((m:Int)=(n:Int))=decide (m=n):=decide_eq_decide.2 (by omega)
theorem GA(l:List Int)(x:Nat):∃ p,x<l.length->l[x]?=some p:=⟨l.getD x 0,fun h=>by rw[List.getD_eq_getElem?_getD,List.getElem?_eq_getElem h];rfl⟩
theorem GR(l:List Int)(z:Int):l.flatMap zD1++[zC z]=(l++[z]).flatMap zD1:=by simp[zD1]
theorem GQ{α:Type}(l:List α)(z:α):l.length+1=(l++[z]).length:=by simp
def sA(a b:List Int)(x y:Nat):List Int:=st (sm a b) (a.length-x) (b.length-y)
theorem N6(a b:List Int):sA a b a.length b.length=[]:=by unfold sA;rw[Nat.sub_self,Nat.sub_self,st_00]
theorem MA{a b:List Int}{x y:Nat}{p:Int}(hp:a[x]?=some p)(hq:b[y]?=some p):sA a b x y=1::sA a b (x+1) (y+1):=by
 have hx:x<a.length:=(List.getElem?_eq_some_iff.1 hp).1
 have hy:y<b.length:=(List.getElem?_eq_some_iff.1 hq).1
 have h:=G8 hp hq
 unfold sA
 rw[show a.length-x=(a.length-1-x)+1 by omega,show b.length-y=(b.length-1-y)+1 by omega,FB,h,show a.length-(x+1)=a.length-1-x by omega,show b.length-(y+1)=b.length-1-y by omega]
 simp
def rnD(p:Rn):List Dat:=[zC p.1,zC p.2]
theorem BO(p:Rn):(rnD p).length=2:=rfl
abbrev BH(l:List Rn):Dat:=.row 2 l.length (l.flatMap rnD)
theorem NB(l:List Rn):(l.flatMap rnD).all Dat.isOne=true:=by
 simp only[List.all_flatMap,rnD,List.all_eq_true]
 intro x _ d hd
 simp only[List.mem_cons,List.not_mem_nil,or_false]at hd
 rcases hd with rfl | rfl<;>rfl
theorem DE(l:List Rn):(l.flatMap rnD).length=l.length*2:=FA BO l
theorem L1(m:List Rn)(k c:Int):((m++[(k,c)]).flatMap rnD)[m.length*2+1]?=some (zC c)/\((m++[(k,c)]).flatMap rnD)[m.length*2]?=some (zC k):=by
 rw[List.flatMap_append]
 constructor
 ·rw[List.getElem?_append_right (by rw[DE];omega),DE,show m.length*2+1-m.length*2=1 by omega]
  rfl
 ·rw[List.getElem?_append_right (by rw[DE];omega),DE,Nat.sub_self]
  rfl
theorem JW(m:List Rn)(k c d:Int):((m++[(k,c)]).flatMap rnD).set (m.length*2+1) (zC d)=(m++[(k,d)]).flatMap rnD:=by
 rw[List.flatMap_append,List.flatMap_append,List.set_append_right _ _ (by rw[DE];omega),DE,show m.length*2+1-m.length*2=1 by omega]
 rfl
theorem F0(l:List Rn)(k c:Int):l.flatMap rnD++[zC k,zC c]=(l++[(k,c)]).flatMap rnD:=by simp[rnD]
theorem JJ{l:List Int}{i:Nat}{k:Int}(h:l[i]?=some k):AW (l.take (i+1))=B8 (AW (l.take i)) k 1:=by
 rw[List.take_add_one,h]
 exact BZ _ _
set_option maxHeartbeats 2000000 in
theorem M0(l:List Int)(hl:l.length<=3000000):EF Try.prog [] 12 [.one (zsD l)] (.part (.one (BH (AW l)))):=by
 refine AL 42 Try.func12 rfl rfl rfl fun w D=>?_
 try refine A1 ?_
 refine A0 (A6 rfl rfl rfl rfl rfl .nil) ?_
 try refine A1 ?_
 refine AF ?_
 refine D4 1000 rfl rfl rfl rfl sl_30 ap_30 rfl rfl ?_
 refine B7 ?_
 refine AD ?_
 try refine A1 ?_
 refine A0 (A5 rfl rfl rfl rfl rfl (A3 rfl rfl rfl (AN rfl (kn rfl) sle_22) (A5 rfl rfl rfl rfl rfl .nil))) ?_
 try refine A1 ?_
 refine BC (ι:={ i:Nat // i<=l.length })
  (fun i=>[(0,.part (.one (zsD l))),(3,.own 1000),(7,.part (.one (zsD l))),(8,zI (l.length:Int)),(9,zI (i.1:Int))])
  (fun _=>[]) (fun i=>[(1000,⟨39,2,(AW (l.take i.1)).length,(AW (l.take i.1)).flatMap rnD,false⟩)]) (fun i=>l.length-i.1) ⟨0,Nat.zero_le _⟩
  (fun K=>AH ⟨s_t,s_t,s_t,s_t,s_t,trivial⟩ trivial ⟨rfl,trivial⟩) ?_
 rintro⟨i,hi⟩
 dsimp only at hi ⊢
 try refine A1 ?_
 refine A0 (A3 rfl rfl rfl (A4 rfl (kn rfl) (kn rfl) BU) .nil) ?_
 try refine A1 ?_
 refine AC rfl (fun h=>?_) (fun h=>?_)
 ·have hlt:=ltd h
  obtain⟨k,hk⟩:∃ k,l[i]?=some k:=⟨_,List.getElem?_eq_getElem hlt⟩
  obtain⟨p,hp⟩:∃ p,0<i->l[((i:Int)-1).toNat]?=some p:=⟨l.getD (i-1) 0,fun h0=>by rw[show((i:Int)-1).toNat=i-1 by omega,List.getD_eq_getElem?_getD,List.getElem?_eq_getElem (by omega)];rfl⟩
  have hnext:=JJ hk
  have hle:=EA (l.take i)
  rw[List.length_take]at hle
  try refine A1 ?_
  refine A0 (A5 rfl rfl rfl rfl rfl (A3 rfl rfl rfl (AR rfl (kn rfl) (kn rfl) (by omega) hk AT sle_22 esz_22 rfl) (A3 rfl rfl rfl (AG rfl (kn rfl) one_3) (A6 rfl rfl rfl rfl rfl (A6 rfl rfl rfl rfl rfl .nil))))) ?_
  try refine A1 ?_
  refine A0 (A5 rfl rfl rfl rfl rfl (A3 rfl rfl rfl (A4 rfl (kn rfl) (kn rfl) CE) (A5 rfl rfl rfl rfl rfl (Walk.gd _ rfl rfl rfl (fun h=>AA rfl (kn rfl)) (Walk.gd _ rfl rfl rfl (fun h=>AA rfl (kn rfl)) (Walk.gd _ rfl rfl rfl (fun h=>A4 rfl (A2 rfl h) (kn rfl) (AV (by first | omega | (dsimp only;omega)))) (Walk.gd _ rfl rfl rfl (fun h=>AR rfl (A2 rfl h) (A2 rfl h) (by have:=of_decide_eq_true h;omega) (hp (by have:=of_decide_eq_true h;omega)) AT sle_22 esz_22 rfl) (Walk.gd _ rfl rfl rfl (fun h=>AG rfl (A2 rfl h) one_3) (Walk.gd _ rfl rfl rfl (fun h=>AA rfl (kn rfl)) (Walk.gd _ rfl rfl rfl (fun h=>A4 rfl (A2 rfl h) (A2 rfl h) B2) (A3 rfl rfl rfl (BB rfl (kn rfl) (fun hb=>A2 rfl hb)) .nil))))))))))) ?_
  try refine A1 ?_
  refine AC rfl (fun h1=>?_) (fun h1=>?_)
  ·have h0:0<i:=by have:=of_decide_eq_true (gl h1);omega
   obtain rfl:=of_decide_eq_true (gr h1)
   obtain⟨j,rfl⟩:∃ j,i=j+1:=⟨i-1,by omega⟩
   have hp':l[j]?=some p:=by
    have:=hp h0
    rwa [show(((j+1:Nat):Int)-1).toNat=j by omega]at this
   obtain⟨m,c,hm⟩:=GH (l.take j) p
   rw[show l.take j++[p]=l.take (j+1) by rw[List.take_add_one,hp'];rfl]at hm
   have hc:c<=(l.length:Int):=by
    have:=(DI (l:=l.take (j+1)) (p:=(p,c)) (by rw[hm];simp)).2.1
    rw[List.length_take]at this
    simp only at this
    omega
   have hc1:1<=c:=(DI (l:=l.take (j+1)) (p:=(p,c)) (by rw[hm];simp)).1
   rw[hm,C0 (by decide)]at hnext
   rw[hm]at hle ⊢
   have hml:(m++[(p,c)]).length=m.length+1:=by simp
   have hg:=(L1 m p c).1
   have hst:=JW m p c (c+1)
   have hfl:=DE (m++[(p,c)])
   rw[hml]at hle hfl
   refine CC hml rfl ?_
   try refine A1 ?_
   refine AF ?_
   refine AM ?_
   refine AM ?_
   refine AK (CI rfl (kn rfl) rfl sle_30) ?_
   refine AK (A4 rfl (kn rfl) (kn rfl) (AV (by first | omega | (dsimp only;omega)))) ?_
   rw[show((m.length+1:Nat):Int)-1=(m.length:Int) by omega]
   refine AK (BK (z:=(m.length:Int)) rfl (kn rfl) rfl (kn rfl) ⟨by omega,by omega⟩ sle_30 esz_30) ?_
   refine AK (BJ rfl (kn rfl) off_39_1) ?_
   refine AK (C5 rfl (kn rfl) rfl (by simpa using hg) one_3) ?_
   refine AK (A4 rfl (kn rfl) (kn rfl) (AE (by first | omega | (dsimp only;omega)))) ?_
   refine AK (BK (z:=(m.length:Int)) rfl (kn rfl) rfl (kn rfl) ⟨by omega,by omega⟩ sle_30 esz_30) ?_
   refine AK (BJ rfl (kn rfl) off_39_1) ?_
   refine D3 (ds':=(m++[(p,c+1)]).flatMap rnD) rfl rfl rfl (kn rfl) rfl (kn rfl) rfl (by rw[hfl];omega) sz_3 (by simpa using hst) ?_ rfl
   refine AD ?_
   try refine A1 ?_
   refine A0 (A3 rfl rfl rfl (A4 rfl (kn rfl) (kn rfl) (AE (by first | omega | (dsimp only;omega)))) (A5 rfl rfl rfl rfl rfl .nil)) ?_
   try refine A1 ?_
   refine AO ⟨j+1+1,by omega⟩ (by dsimp only;omega) (fun K=>AH ⟨s_t,s_t,s_t,s_t,s_t,trivial⟩ trivial ⟨by dsimp only;rw[hnext];simp;rfl,trivial⟩)
  have hstep:B8 (AW (l.take i)) k 1=AW (l.take i)++[(k,1)]:=by
   rcases Nat.eq_zero_or_pos i with h0 | h0
   ·subst h0
    exact C3 (by decide)
   ·obtain⟨j,rfl⟩:∃ j,i=j+1:=⟨i-1,by omega⟩
    have hp':l[j]?=some p:=by
     have:=hp h0
     rwa [show(((j+1:Nat):Int)-1).toNat=j by omega]at this
    obtain⟨m,c,hm⟩:=GH (l.take j) p
    rw[show l.take j++[p]=l.take (j+1) by rw[List.take_add_one,hp'];rfl]at hm
    rw[hm]
    refine D7 (by decide) fun e=>?_
    rw[decide_eq_true e,decide_eq_true (show(0:Int)<((j+1:Nat):Int) by omega)]at h1
    cases h1
  rw[hstep]at hnext
  generalize hR:AW (l.take i)=r at hnext hle ⊢
  try refine A1 ?_
  refine AF ?_
  refine AM ?_
  refine AM ?_
  refine AK (CO (ds:=[_,_]) [(0,_),(1,_)] rfl ⟨rfl,(kn rfl),⟨rfl,(kn rfl),trivial⟩⟩ rfl pl_39 zr_39 (fun w D=>.cons (.cell _) (.cons (.cell _) (.nil _ _))) rfl) ?_
  refine AK (AQ (ds:=[_,_]) [(0,_)] rfl ⟨rfl,(kn rfl),trivial⟩ rfl sl_30 sz_39 zr_39 (fun w D=>.cons (.cell _) (.cons (.cell _) (.nil _ _))) rfl rfl rfl rfl rfl) ?_
  refine B4 rfl rfl rfl rfl (kn rfl) rfl (kn rfl) sl_30 ap_30 rfl rfl (by omega) (by omega) ?_
  refine CC (GQ r (k,1)) (F0 r k 1) ?_
  refine B7 ?_
  refine AD ?_
  try refine A1 ?_
  rw[<- hnext]
  refine A0 (A3 rfl rfl rfl (A4 rfl (kn rfl) (kn rfl) (AE (by first | omega | (dsimp only;omega)))) (A5 rfl rfl rfl rfl rfl .nil)) ?_
  try refine A1 ?_
  refine AO ⟨i+1,by omega⟩ (by dsimp only;omega) (fun K=>AH ⟨s_t,s_t,s_t,s_t,s_t,trivial⟩ trivial ⟨rfl,trivial⟩)
 rw[List.take_of_length_le (ltf h)]
 try refine A1 ?_
 refine AJ 3 1000 rfl rfl rfl ?_
 refine A0 (A5 rfl rfl rfl rfl rfl (A6 rfl rfl rfl rfl rfl .nil)) ?_
 try refine A1 ?_
 exact AB rfl rfl (.tmp (kn rfl) (.nil)) (Imp.refl _) rfl
end Go.Proofs.Ytjpghcmlglhmbaa
