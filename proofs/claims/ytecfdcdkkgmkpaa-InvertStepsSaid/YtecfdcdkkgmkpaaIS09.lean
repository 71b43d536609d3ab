/- Part 9. Conditions: as each theorem says. -/
import Derived.Test.YtecfdcdkkgmkpaaIS08
import Derived.Test.YtecfdcdkkgmkpaaProg
import Derived.Laws.StructEq
import Derived.Laws.Entries
import Derived.Laws.Small
import Derived.ChangeMaps5
set_option maxRecDepth 100000
namespace Go.Proofs.Ytecfdcdkkgmkpaa
open Go.RowKit
section
open Go Go.RowKit
inductive Ed where
 | mk (kind:Int) (old new:Vl) (fields:List (Int×Ed)) (rests:Bool) (ro rn:List UInt8) (steps:List ((Int×Int×Vl)×Ed)) (keys:List (Vl×Ed))
instance:Inhabited Ed:=⟨.mk 0 default default [] false [] [] [] []⟩
namespace Ed
def kind:Ed->Int | .mk k _ _ _ _ _ _ _ _=>k
def old:Ed->Vl | .mk _ o _ _ _ _ _ _ _=>o
def new:Ed->Vl | .mk _ _ n _ _ _ _ _ _=>n
def fields:Ed->List (Int×Ed) | .mk _ _ _ f _ _ _ _ _=>f
def rests:Ed->Bool | .mk _ _ _ _ r _ _ _ _=>r
def ro:Ed->List UInt8 | .mk _ _ _ _ _ r _ _ _=>r
def rn:Ed->List UInt8 | .mk _ _ _ _ _ _ r _ _=>r
def steps:Ed->List ((Int×Int×Vl)×Ed) | .mk _ _ _ _ _ _ _ s _=>s
def keys:Ed->List (Vl×Ed) | .mk _ _ _ _ _ _ _ _ k=>k
theorem eta(e:Ed):e=.mk e.kind e.old e.new e.fields e.rests e.ro e.rn e.steps e.keys:=by cases e;rfl
def kids(e:Ed):List Ed:=e.fields.map (·.2)++(e.steps.map (·.2)++e.keys.map (·.2))
theorem kid_f{e:Ed}{p:Int×Ed}(h:p∈e.fields):p.2∈e.kids:=List.mem_append_left _ (List.mem_map.2 ⟨p,h,rfl⟩)
theorem kid_s{e:Ed}{p:(Int×Int×Vl)×Ed}(h:p∈e.steps):p.2∈e.kids:=List.mem_append_right _ (List.mem_append_left _ (List.mem_map.2 ⟨p,h,rfl⟩))
theorem kid_k{e:Ed}{p:Vl×Ed}(h:p∈e.keys):p.2∈e.kids:=List.mem_append_right _ (List.mem_append_right _ (List.mem_map.2 ⟨p,h,rfl⟩))
theorem UC{e x:Ed}(h:x∈e.kids):SizeOf.sizeOf x<SizeOf.sizeOf e:=by
 cases e with
 | mk k o n fs r ro rn ss ks=>
  rcases List.mem_append.1 h with h | h
  ·obtain⟨⟨i,y⟩,hp,rfl⟩:=List.mem_map.1 h
   have h1:=List.sizeOf_lt_of_mem (show(i,y)∈fs from hp)
   simp at h1 ⊢
   omega
  rcases List.mem_append.1 h with h | h
  ·obtain⟨⟨i,y⟩,hp,rfl⟩:=List.mem_map.1 h
   have h1:=List.sizeOf_lt_of_mem (show(i,y)∈ss from hp)
   simp at h1 ⊢
   omega
  ·obtain⟨⟨i,y⟩,hp,rfl⟩:=List.mem_map.1 h
   have h1:=List.sizeOf_lt_of_mem (show(i,y)∈ks from hp)
   simp at h1 ⊢
   omega
theorem kids_ind{P:Ed->Prop}(h:∀ e:Ed,(∀ x∈e.kids,P x)->P e)(e:Ed):P e:=by
 generalize hn:SizeOf.sizeOf e=n
 induction n using Nat.strongRecOn generalizing e with
 | ind n ih=>
  subst hn
  exact h e fun x hx=>ih _ (UC hx) _ rfl
end Ed
mutual
def ecata{β:Type}(f:Ed->List β->List β->List β->β):Ed->β
 | .mk k o n fs r ro rn ss ks=>f (.mk k o n fs r ro rn ss ks) (fcata f fs) (scata f ss) (kcata f ks)
def fcata{β:Type}(f:Ed->List β->List β->List β->β):List (Int×Ed)->List β
 | []=>[]
 | (_,e)::l=>ecata f e::fcata f l
def scata{β:Type}(f:Ed->List β->List β->List β->β):List ((Int×Int×Vl)×Ed)->List β
 | []=>[]
 | (_,e)::l=>ecata f e::scata f l
def kcata{β:Type}(f:Ed->List β->List β->List β->β):List (Vl×Ed)->List β
 | []=>[]
 | (_,e)::l=>ecata f e::kcata f l
end
section
variable{β:Type}(f:Ed->List β->List β->List β->β)
theorem ND:∀ l:List (Int×Ed),fcata f l=l.map fun p=>ecata f p.2
 | []=>by simp[fcata]
 | (n,x)::l=>by rw[fcata,ND l];rfl
theorem OO:∀ l:List ((Int×Int×Vl)×Ed),scata f l=l.map fun p=>ecata f p.2
 | []=>by simp[scata]
 | (n,x)::l=>by rw[scata,OO l];rfl
theorem N2:∀ l:List (Vl×Ed),kcata f l=l.map fun p=>ecata f p.2
 | []=>by simp[kcata]
 | (n,x)::l=>by rw[kcata,N2 l];rfl
theorem EZ(e:Ed):ecata f e=f e (e.fields.map fun p=>ecata f p.2) (e.steps.map fun p=>ecata f p.2) (e.keys.map fun p=>ecata f p.2):=by
 cases e
 rw[ecata,ND,OO,N2]
 rfl
end
theorem FF{α β γ:Type}(g:α->β->γ)(h:α->β):∀ l:List α,List.zipWith g l (l.map h)=l.map fun x=>g x (h x)
 | []=>rfl
 | x::l=>by rw[List.map_cons,List.zipWith_cons_cons,FF g h l];rfl
def TU(_:Ed)(a b c:List Nat):Nat:=1+(a.sum+b.sum+c.sum)
def ecount(e:Ed):Nat:=ecata TU e
def RS(e:Ed)(a b c:List Nat):Nat:=if e.kind=0 then 0 else 1+vsize e.old+vsize e.new+a.sum+(List.zipWith (fun(s:(Int×Int×Vl)×Ed) n=>1+vsize s.1.2.2+n) e.steps b).sum+(List.zipWith (fun(s:Vl×Ed) n=>vsize s.1+n) e.keys c).sum
def FP(e:Ed):Nat:=ecata RS e
def R9(l:List Nat):Nat:=l.foldl max 0
def Q6(e:Ed)(a b c:List Nat):Nat:=if e.kind=0 then 0 else 1+R9 (a++(b++c))
def FH(e:Ed):Nat:=ecata Q6 e
theorem CL(e:Ed):ecount e=1+((e.fields.map fun p=>ecount p.2).sum+(e.steps.map fun p=>ecount p.2).sum+(e.keys.map fun p=>ecount p.2).sum):=by
 unfold ecount;rw[EZ];rfl
theorem RM(e:Ed):FP e=if e.kind=0 then 0 else 1+vsize e.old+vsize e.new+(e.fields.map fun p=>FP p.2).sum+(e.steps.map fun s=>1+vsize s.1.2.2+FP s.2).sum+(e.keys.map fun s=>vsize s.1+FP s.2).sum:=by
 unfold FP;rw[EZ,RS,FF,FF]
theorem R5(e:Ed):FH e=if e.kind=0 then 0 else 1+R9 (e.kids.map FH):=by
 unfold FH
 rw[EZ,Q6,Ed.kids,List.map_append,List.map_append,List.map_map,List.map_map,List.map_map]
 rfl
theorem MB(l:List Nat):∀ n,l.foldl max n=max n (l.foldl max 0):=by
 induction l with
 | nil=>intro n;simp
 | cons x l ih=>
  intro n
  rw[List.foldl_cons,List.foldl_cons,ih (max n x),ih (max 0 x)]
  omega
theorem TI{l:List Nat}{n:Nat}(h:∀ x∈l,x<=n):R9 l<=n:=by
 induction l with
 | nil=>simp[R9]
 | cons x l ih=>
  have h1:=ih fun y hy=>h y (List.mem_cons_of_mem _ hy)
  have h2:=h x List.mem_cons_self
  unfold R9 at h1 ⊢
  rw[List.foldl_cons,MB]
  omega
theorem GB{α:Type}{f g:α->Nat}{c:Nat}{l:List α}(h:∀ x∈l,f x<=c*g x):(l.map f).sum<=c*(l.map g).sum:=by
 induction l with
 | nil=>simp
 | cons x l ih=>
  have h1:=ih fun y hy=>h y (List.mem_cons_of_mem _ hy)
  have h2:=h x List.mem_cons_self
  rw[List.map_cons,List.map_cons,List.sum_cons,List.sum_cons,Nat.mul_add]
  omega
theorem JW{l:List Nat}{n:Nat}(h:n∈l):n<=l.sum:=by
 induction l with
 | nil=>cases h
 | cons x l ih=>
  rw[List.sum_cons]
  rcases List.mem_cons.1 h with rfl | h
  ·omega
  ·have:=ih h;omega
theorem E7(e:Ed):0<ecount e:=by rw[CL];omega
theorem IL(e:Ed):ecount e=1+(e.kids.map ecount).sum:=by
 rw[CL,Ed.kids,List.map_append,List.map_append,List.sum_append,List.sum_append,List.map_map,List.map_map,List.map_map]
 simp only[Function.comp_def]
 omega
theorem P9{e x:Ed}(h:x∈e.kids):ecount x<ecount e:=by
 have:=JW (List.mem_map.2 ⟨x,h,rfl⟩:ecount x∈e.kids.map ecount)
 rw[IL e]
 omega
structure VSm (n:Nat) (v:Vl):Prop where
 fine:v.Fine
 tx:v.Tx
 nodes:vnodes v<=n
theorem VSm.mono{n m:Nat}{v:Vl}(h:VSm n v)(hm:n<=m):VSm m v:=⟨h.fine,h.tx,Nat.le_trans h.nodes hm⟩
def I64(z:Int):Prop := -9223372036854775808<=z/\z<9223372036854775808
inductive Ed.Fine:Ed->Prop where
 | mk (e:Ed):I64 e.kind->e.old.Fine->e.new.Fine->(e.ro.length<=maxLen/\e.rn.length<=maxLen/\e.fields.length<=maxLen/\e.steps.length<=maxLen/\e.keys.length<=maxLen)->(∀ p∈e.fields,I64 p.1)->(∀ p∈e.steps,I64 p.1.1/\I64 p.1.2.1/\p.1.2.2.Fine)->(∀ p∈e.keys,p.1.Fine)->(∀ x∈e.kids,Fine x)->Fine e
inductive Ed.Ok:Ed->Prop where
 | mk (e:Ed):I64 e.kind->VSm 80 e.old->VSm 80 e.new->e.ro.length<=300->e.rn.length<=300->(∀ p∈e.fields,I64 p.1)->(∀ p∈e.steps,I64 p.1.1 /\ -9223372036854775808<=p.1.2.1/\p.1.2.1<=2097152/\VSm 80 p.1.2.2)->(∀ p∈e.keys,VSm 20 p.1)->(∀ x∈e.kids,Ok x)->Ok e
theorem Ed.Fine.kid{e x:Ed}(h:e.Fine)(hx:x∈e.kids):x.Fine:=by
 cases h with
 | mk e a b c d f g i j=>exact j x hx
theorem Ed.Ok.kid{e x:Ed}(h:e.Ok)(hx:x∈e.kids):x.Ok:=by
 cases h with
 | mk e a b c d f g i j k=>exact k x hx
theorem Ed.Ok.all{e:Ed}(h:e.Ok):I64 e.kind/\VSm 80 e.old/\VSm 80 e.new/\e.ro.length<=300/\e.rn.length<=300/\(∀ p∈e.fields,I64 p.1)/\(∀ p∈e.steps,I64 p.1.1 /\ -9223372036854775808<=p.1.2.1/\p.1.2.1<=2097152/\VSm 80 p.1.2.2)/\(∀ p∈e.keys,VSm 20 p.1):=by
 cases h
 exact⟨‹_›,‹_›,‹_›,‹_›,‹_›,‹_›,‹_›,‹_›⟩
theorem Ed.Fine.all{e:Ed}(h:e.Fine):I64 e.kind/\e.old.Fine/\e.new.Fine/\(e.ro.length<=maxLen/\e.rn.length<=maxLen/\e.fields.length<=maxLen/\e.steps.length<=maxLen/\e.keys.length<=maxLen)/\(∀ p∈e.fields,I64 p.1)/\(∀ p∈e.steps,I64 p.1.1/\I64 p.1.2.1/\p.1.2.2.Fine)/\(∀ p∈e.keys,p.1.Fine):=by
 cases h
 exact⟨‹_›,‹_›,‹_›,‹_›,‹_›,‹_›,‹_›⟩
structure Ed.Sm (e:Ed):Prop where
 ok:e.Ok
 count:ecount e<=80
theorem Ed.Sm.kid{e x:Ed}(h:e.Sm)(hx:x∈e.kids):x.Sm:=⟨h.ok.kid hx,by have:=P9 hx;have:=h.count;omega⟩
theorem H4{α:Type}(l:List α)(f:α->Nat)(h:∀ x∈l,0<f x):l.length<=(l.map f).sum:=by
 induction l with
 | nil=>simp
 | cons x l ih=>
  have h1:=ih fun y hy=>h y (List.mem_cons_of_mem _ hy)
  have h2:=h x List.mem_cons_self
  rw[List.map_cons,List.sum_cons,List.length_cons]
  omega
theorem Ed.Sm.lens{e:Ed}(h:e.Sm):e.fields.length+e.steps.length+e.keys.length<=80:=by
 have h1:=h.count
 rw[CL]at h1
 have h2:=H4 e.fields (fun p=>ecount p.2) fun _ _=>E7 _
 have h3:=H4 e.steps (fun p=>ecount p.2) fun _ _=>E7 _
 have h4:=H4 e.keys (fun p=>ecount p.2) fun _ _=>E7 _
 omega
theorem HV{n:Nat}{v:Vl}(h:VSm n v):vsize v<=n:=Nat.le_trans (T9 v).1 h.nodes
theorem RK(e:Ed):e.Ok->FP e+81<=300*ecount e:=by
 refine Ed.kids_ind (P:=fun e=>e.Ok->FP e+81<=300*ecount e) (fun e ih h=>?_) e
 have hp:=E7 e
 rw[RM]
 obtain⟨_,h1,h2,_,_,_,h3,h4⟩:=h.all
 split
 ·omega
 rw[CL]
 have a1:=HV h1
 have a2:=HV h2
 have b1:(e.fields.map fun p=>FP p.2).sum<=300*(e.fields.map fun p=>ecount p.2).sum:=GB fun p hp=>by
  have:=ih _ (Ed.kid_f hp) (h.kid (Ed.kid_f hp))
  omega
 have b2:(e.steps.map fun s=>1+vsize s.1.2.2+FP s.2).sum<=300*(e.steps.map fun p=>ecount p.2).sum:=GB fun p hp=>by
  have:=ih _ (Ed.kid_s hp) (h.kid (Ed.kid_s hp))
  have:=HV (h3 p hp).2.2.2
  omega
 have b3:(e.keys.map fun s=>vsize s.1+FP s.2).sum<=300*(e.keys.map fun p=>ecount p.2).sum:=GB fun p hp=>by
  have:=ih _ (Ed.kid_k hp) (h.kid (Ed.kid_k hp))
  have:=HV (h4 p hp)
  omega
 omega
theorem RR(l:List Nat):R9 l<=l.sum:=TI fun _ h=>JW h
theorem RY{α:Type}{f g:α->Nat}{l:List α}(h:∀ x∈l,f x<=g x):(l.map f).sum<=(l.map g).sum:=by
 have:=GB (c:=1) (l:=l) (f:=f) (g:=g) fun x hx=>by have:=h x hx;omega
 omega
theorem RC(e:Ed):FH e<=ecount e:=by
 refine Ed.kids_ind (P:=fun e=>FH e<=ecount e) (fun e ih=>?_) e
 have hp:=E7 e
 rw[R5]
 split
 ·omega
 rw[IL]
 have:=RR (e.kids.map FH)
 have:=RY (f:=FH) (g:=ecount) (l:=e.kids) fun x hx=>ih x hx
 omega
theorem Ed.Sm.bounds{e:Ed}(h:e.Sm):FP e<=24000/\FH e<=80:=by
 have h1:=RK e h.ok
 have h2:=RC e
 have:=h.count
 omega
def B7{α:Type}(ok:α->Bool)(ah:α->α->Bool):Option α->List α->Bool
 | _,[]=>true
 | none,x::l=>ok x&&B7 ok ah (some x) l
 | some p,x::l=>ok x&&ah p x&&B7 ok ah (some x) l
theorem DI{α β:Type}(g:α->β)(ok:β->Bool)(ah:β->β->Bool):∀ (o:Option α) (l:List α),B7 ok ah (o.map g) (l.map g)=B7 (fun x=>ok (g x)) (fun x y=>ah (g x) (g y)) o l
 | _,[]=>by simp[B7]
 | none,x::l=>by
  have:=DI g ok ah (some x) l
  rw[Option.map_none,List.map_cons,B7,B7,<- this]
  rfl
 | some p,x::l=>by
  have:=DI g ok ah (some x) l
  rw[Option.map_some,List.map_cons,B7,B7,<- this]
  rfl
theorem J6{α β:Type}(h:α->β):∀ l:List α,l.zip (l.map h)=l.map fun x=>(x,h x)
 | []=>rfl
 | x::l=>by rw[List.map_cons,List.zip_cons_cons,J6 h l];rfl
def D4{α:Type}(l:List α)(k:Nat):Option α:=if k=0 then none else l[k-1]?
theorem KC{α:Type}{l:List α}{k:Nat}{x:α}(h:l[k]?=some x):D4 l (k+1)=some x:=by
 unfold D4
 rw[if_neg (by omega),Nat.add_sub_cancel,h]
theorem JP{α:Type}{ok:α->Bool}{ah:α->α->Bool}{l:List α}{k:Nat}(hk:l.length<=k)(h:B7 ok ah none l=B7 ok ah (D4 l k) (l.drop k)):B7 ok ah none l=true:=by
 rw[h,List.drop_eq_nil_of_le hk]
 cases D4 l k<;>rfl
theorem ET{α:Type}{ok:α->Bool}{ah:α->α->Bool}{l:List α}{k:Nat}{x:α}(hx:l[k]?=some x)(h:B7 ok ah none l=B7 ok ah (D4 l k) (l.drop k))(hn:ok x=false \/ ∃ p,D4 l k=some p/\ah p x=false):B7 ok ah none l=false:=by
 rw[h,BQ hx]
 rcases hn with hn | ⟨p,hp,hn⟩
 ·cases D4 l k<;>simp[B7,hn]
 ·rw[hp]
  simp[B7,hn]
theorem IH{α:Type}{ok:α->Bool}{ah:α->α->Bool}{l:List α}{k:Nat}{x:α}(hx:l[k]?=some x)(h:B7 ok ah none l=B7 ok ah (D4 l k) (l.drop k))(h1:ok x=true)(h2:∀ p,D4 l k=some p->ah p x=true):B7 ok ah none l=B7 ok ah (D4 l (k+1)) (l.drop (k+1)):=by
 rw[h,BQ hx,KC hx]
 cases hp:D4 l k with
 | none=>simp[B7,h1]
 | some p=>simp[B7,h1,h2 p hp]
def DG(v:Vl):Bool:=decide (v.kind=0)&&vright v
def KA(v:Vl):Bool:=(decide (v.kind=1)||decide (v.kind=2)||decide (v.kind=3))&&vright v
def GM(a b:Vl):Bool:=decide (vcmp a b=0)
def DT(e:Ed):Bool:=
 (decide (e.kind=1)||(DG e.old&&DG e.new))&&(decide (e.kind=2)||(e.fields.isEmpty && !e.rests&&e.ro.isEmpty&&e.rn.isEmpty))&&(decide (e.kind=3)||e.steps.isEmpty)&&(decide (e.kind=4)||e.keys.isEmpty)
def G5(p:Int×Ed)(b:Bool):Bool:=decide (1<=p.1)&&decide (p.1<=536870911)&&(!decide (p.2.kind=0)&&b)
def EL(p q:Int×Ed):Bool:=decide (p.1<q.1)
def HA(s:(Int×Int×Vl)×Ed)(b:Bool):Bool:=
 if s.1.1=1 then decide (1<=s.1.2.1)&&decide (s.1.2.1<=1048576)&&DG s.1.2.2&&(decide (s.2.kind=0)&&b)
 else if s.1.1=2\/s.1.1=3 then decide (s.1.2.1=0)&&KA s.1.2.2&&(decide (s.2.kind=0)&&b)
 else if s.1.1=4 then decide (s.1.2.1=0)&&DG s.1.2.2&&(!decide (s.2.kind=0)&&b)
 else false
def BX(p q:(Int×Int×Vl)×Ed):Bool:=if p.1.1=1 then !decide (q.1.1=1)else if p.1.1=3 then !decide (q.1.1=2)else true
def IF(s:(Int×Int×Vl)×Ed):Bool := !decide (s.1.1=1)
def LJ(p:Vl×Ed)(b:Bool):Bool:=(decide (p.1.kind=1)||decide (p.1.kind=2))&&vright p.1&&(!decide (p.2.kind=0)&&b)
def IU(p q:Vl×Ed):Bool:=decide (p.1.kind=q.1.kind)&&decide (vcmp p.1 q.1<0)
def JB(e:Ed):Bool:=if e.rests then !decide (e.ro=e.rn)else decide (e.ro=[])&&decide (e.rn=[])
def MY(e:Ed)(a b c:List Bool):Bool:=
 DT e&&(if e.kind=0 then true
  else if e.kind=1 then vright e.old&&vright e.new && !GM e.old e.new
  else if e.kind=2 then JB e&&(e.rests || !e.fields.isEmpty)&&B7 (fun q:(Int×Ed)×Bool=>G5 q.1 q.2) (fun p q=>EL p.1 q.1) none (e.fields.zip a)
  else if e.kind=3 then e.steps.any IF&&B7 (fun q:((Int×Int×Vl)×Ed)×Bool=>HA q.1 q.2) (fun p q=>BX p.1 q.1) none (e.steps.zip b)
  else if e.kind=4 then !e.keys.isEmpty&&B7 (fun q:(Vl×Ed)×Bool=>LJ q.1 q.2) (fun p q=>IU p.1 q.1) none (e.keys.zip c)
  else false)
def AU(e:Ed):Bool:=ecata MY e
abbrev H9(p:Int×Ed):Bool:=G5 p (AU p.2)
abbrev BS(p:(Int×Int×Vl)×Ed):Bool:=HA p (AU p.2)
abbrev OU(p:Vl×Ed):Bool:=LJ p (AU p.2)
theorem D3(e:Ed):AU e=(DT e&&(if e.kind=0 then true
  else if e.kind=1 then vright e.old&&vright e.new && !GM e.old e.new
  else if e.kind=2 then JB e&&(e.rests || !e.fields.isEmpty)&&B7 H9 EL none e.fields
  else if e.kind=3 then e.steps.any IF&&B7 BS BX none e.steps
  else if e.kind=4 then !e.keys.isEmpty&&B7 OU IU none e.keys
  else false)):=by
 have h1:=DI (fun x:Int×Ed=>(x,AU x.2)) (fun q:(Int×Ed)×Bool=>G5 q.1 q.2) (fun p q=>EL p.1 q.1) none e.fields
 have h2:=DI (fun x:(Int×Int×Vl)×Ed=>(x,AU x.2)) (fun q:((Int×Int×Vl)×Ed)×Bool=>HA q.1 q.2) (fun p q=>BX p.1 q.1) none e.steps
 have h3:=DI (fun x:Vl×Ed=>(x,AU x.2)) (fun q:(Vl×Ed)×Bool=>LJ q.1 q.2) (fun p q=>IU p.1 q.1) none e.keys
 show ecata MY e=_
 rw[EZ,MY]
 show(DT e&&(if e.kind=0 then true
  else if e.kind=1 then vright e.old&&vright e.new && !GM e.old e.new
  else if e.kind=2 then JB e&&(e.rests || !e.fields.isEmpty)&&B7 (fun q:(Int×Ed)×Bool=>G5 q.1 q.2) (fun p q=>EL p.1 q.1) none (e.fields.zip (e.fields.map fun p=>AU p.2))
  else if e.kind=3 then e.steps.any IF&&B7 (fun q:((Int×Int×Vl)×Ed)×Bool=>HA q.1 q.2) (fun p q=>BX p.1 q.1) none (e.steps.zip (e.steps.map fun p=>AU p.2))
  else if e.kind=4 then !e.keys.isEmpty&&B7 (fun q:(Vl×Ed)×Bool=>LJ q.1 q.2) (fun p q=>IU p.1 q.1) none (e.keys.zip (e.keys.map fun p=>AU p.2))
  else false))=_
 rw[J6,J6,J6]
 rw[Option.map_none]at h1 h2 h3
 rw[h1,h2,h3]
def B8{α:Type}(g:Ed->Int->Int)(bad:α->Bool)(xs:List (α×Ed))(left:Int):Int:=xs.foldl (fun l x=>if 0<=l then(if bad x.1 then -1 else g x.2 l)else l) left
def NZ(e:Ed):Bool:=decide (300<e.ro.length)||decide (300<e.rn.length)||P1 e.old 60||P1 e.new 60
def KO(s:Int×Int×Vl):Bool:=P1 s.2.2 60||decide (2097152<s.2.1)
def N9(v:Vl):Bool:=P1 v 20
def BH:Nat->Ed->Int->Int
 | 0,_,_ => -1
 | d+1,e,left=>if NZ e then -1 else B8 (BH d) N9 e.keys (B8 (BH d) KO e.steps (B8 (BH d) (fun _=>false) e.fields (left-1)))
def UU(e:Ed):Bool:=decide (BH 20 e 80<0)
theorem EK{α:Type}{g:Ed->Int->Int}{bad:α->Bool}{xs:List (α×Ed)}{l:Int}{k:Nat}{x:α×Ed}(h:xs[k]?=some x):B8 g bad (xs.take (k+1)) l=(if 0<=B8 g bad (xs.take k) l then(if bad x.1 then -1 else g x.2 (B8 g bad (xs.take k) l))else B8 g bad (xs.take k) l):=by
 unfold B8
 rw[List.take_add_one,h]
 simp only[Option.toList_some,List.foldl_append,List.foldl_cons,List.foldl_nil]
theorem E8{α:Type}{g:Ed->Int->Int}{bad:α->Bool}:∀ (xs:List (α×Ed)) {l:Int},l<0->B8 g bad xs l=l
 | [],_,_=>rfl
 | x::xs,l,h=>by
  unfold B8
  rw[List.foldl_cons,if_neg (by omega)]
  exact E8 xs h
theorem LW{α:Type}{g:Ed->Int->Int}{bad:α->Bool}(xs:List (α×Ed))(k:Nat)(l:Int):B8 g bad xs l=B8 g bad (xs.drop k) (B8 g bad (xs.take k) l):=by
 unfold B8
 rw[<- List.foldl_append,List.take_append_drop]
theorem E5{α:Type}{g:Ed->Int->Int}{bad:α->Bool}:∀ (xs:List (α×Ed)) (l:Int),(∀ p∈xs,∀ l,0<=l -> -1<=g p.2 l/\g p.2 l<=l-1/\(0<=g p.2 l->(ecount p.2:Int)<=l-g p.2 l/\p.2.Ok)) -> -1<=l ->
  -1<=B8 g bad xs l/\B8 g bad xs l<=l/\(0<=B8 g bad xs l->(((xs.map fun p=>ecount p.2).sum:Nat):Int)<=l-B8 g bad xs l /\ ∀ p∈xs,bad p.1=false/\p.2.Ok)
 | [],l,_,h=>⟨h,Int.le_refl _,fun _=>⟨by simp[B8],fun _ h=>by cases h⟩⟩
 | x::xs,l,hg,h=>by
  have ih:=E5 (g:=g) (bad:=bad) xs
  have hg':∀ p∈xs,∀ l,0<=l -> -1<=g p.2 l/\g p.2 l<=l-1/\(0<=g p.2 l->(ecount p.2:Int)<=l-g p.2 l/\p.2.Ok):=fun p hp=>hg p (List.mem_cons_of_mem _ hp)
  have e:B8 g bad (x::xs) l=B8 g bad xs (if 0<=l then(if bad x.1 then -1 else g x.2 l)else l):=rfl
  rw[e]
  by_cases h0:0<=l
  ·rw[if_pos h0]
   cases hb:bad x.1
   ·obtain⟨c1,c2,c3⟩:=hg x List.mem_cons_self l h0
    obtain⟨d1,d2,d3⟩:=ih (g x.2 l) hg' c1
    rw[if_neg (by decide)]
    refine⟨d1,by omega,fun hp=>?_⟩
    obtain⟨f1,f2⟩:=d3 hp
    obtain⟨k1,k2⟩:=c3 (by omega)
    refine⟨?_,fun p hp=>?_⟩
    ·rw[List.map_cons,List.sum_cons]
     push_cast
     omega
    ·rcases List.mem_cons.1 hp with rfl | hp
     ·exact⟨hb,k2⟩
     ·exact f2 p hp
   ·rw[if_pos rfl,E8 xs (by decide)]
    exact⟨by omega,by omega,fun h=>absurd h (by decide)⟩
  ·rw[if_neg h0,E8 xs (by omega)]
   exact⟨h,Int.le_refl _,fun h=>absurd h h0⟩
theorem J8{v:Vl}{n:Nat}(hv:v.Fine)(h:P1 v (n:Int)=false):VSm n v:=by
 obtain⟨h1,h2⟩:=TH (Int.natCast_nonneg n) h
 exact⟨hv,h2,by omega⟩
theorem G3:∀ (d:Nat) (e:Ed) (left:Int),e.Fine->0<=left -> -1<=BH d e left/\BH d e left<=left-1/\(0<=BH d e left->(ecount e:Int)<=left-BH d e left/\e.Ok)
 | 0,e,left,_,h=>⟨by simp[BH],by simp[BH];omega,fun h=>absurd h (by simp[BH])⟩
 | d+1,e,left,hf,h=>by
  have ih:=G3 d
  rw[BH]
  cases hb:NZ e
  ·rw[if_neg (by decide)]
   obtain⟨a1,a2,a3⟩:=E5 (bad:=fun _=>false) e.fields (left-1) (fun p hp l hl=>ih p.2 l (hf.kid (Ed.kid_f hp)) hl) (by omega)
   obtain⟨b1,b2,b3⟩:=E5 (bad:=KO) e.steps _ (fun p hp l hl=>ih p.2 l (hf.kid (Ed.kid_s hp)) hl) a1
   obtain⟨c1,c2,c3⟩:=E5 (bad:=N9) e.keys _ (fun p hp l hl=>ih p.2 l (hf.kid (Ed.kid_k hp)) hl) b1
   refine⟨c1,by omega,fun hp=>?_⟩
   obtain⟨a4,a5⟩:=a3 (by omega)
   obtain⟨b4,b5⟩:=b3 (by omega)
   obtain⟨c4,c5⟩:=c3 hp
   obtain⟨k1,k2,k3,k4,k5,k6,k7⟩:=hf.all
   simp only[NZ,Bool.or_eq_false_iff,decide_eq_false_iff_not]at hb
   refine⟨by rw[CL];push_cast;omega,.mk e k1 ((J8 (n:=60) k2 hb.1.2).mono (by decide)) ((J8 (n:=60) k3 hb.2).mono (by decide)) (by omega) (by omega) k5 (fun p hp=>?_) (fun p hp=>J8 (n:=20) (k7 p hp) (c5 p hp).1) (fun x hx=>?_)⟩
   ·obtain⟨m1,m2,m3⟩:=k6 p hp
    have m4:=(b5 p hp).1
    simp only[KO,Bool.or_eq_false_iff,decide_eq_false_iff_not]at m4
    exact⟨m1,m2.1,by omega,(J8 (n:=60) m3 m4.1).mono (by decide)⟩
   ·rcases List.mem_append.1 hx with hx | hx
    ·obtain⟨p,hp,rfl⟩:=List.mem_map.1 hx
     exact(a5 p hp).2
    rcases List.mem_append.1 hx with hx | hx
    ·obtain⟨p,hp,rfl⟩:=List.mem_map.1 hx
     exact(b5 p hp).2
    ·obtain⟨p,hp,rfl⟩:=List.mem_map.1 hx
     exact(c5 p hp).2
  ·rw[if_pos rfl]
   exact⟨by omega,by omega,fun h=>absurd h (by decide)⟩
theorem QB{e:Ed}(hf:e.Fine)(h:UU e=false):e.Sm:=by
 have h1:=of_decide_eq_false h
 obtain⟨_,_,h2⟩:=G3 20 e 80 hf (by decide)
 obtain⟨h3,h4⟩:=h2 (by omega)
 exact⟨h4,by omega⟩
theorem EY{α:Type}{d:Nat}{bad:α->Bool}(xs:List (α×Ed))(l:Int)(hf:∀ p∈xs,p.2.Fine)(h : -1<=l):-1<=B8 (BH d) bad xs l/\B8 (BH d) bad xs l<=l:=
 ⟨(E5 xs l (fun p hp l hl=>G3 d p.2 l (hf p hp) hl) h).1,(E5 xs l (fun p hp l hl=>G3 d p.2 l (hf p hp) hl) h).2.1⟩
def RT(e:Ed)(a b c:List (List Dat)):List Dat:=
 .cell (.int .i64 e.kind)::(vd e.old++(vd e.new++[.row 22 e.fields.length (List.zipWith (fun(p:Int×Ed) d=>.cell (.int .i64 p.1)::d) e.fields a).flatten,.cell (.bool e.rests),.cell (.string (str e.ro)),.cell (.string (str e.rn)),
  .row 30 e.steps.length (List.zipWith (fun(p:(Int×Int×Vl)×Ed) d=>.cell (.int .i64 p.1.1)::.cell (.int .i64 p.1.2.1)::(vd p.1.2.2++d)) e.steps b).flatten,.row 28 e.keys.length (List.zipWith (fun(p:Vl×Ed) d=>vd p.1++d) e.keys c).flatten]))
def Ed.dats(e:Ed):List Dat:=ecata RT e
def DM(p:Int×Ed):List Dat:=.cell (.int .i64 p.1)::p.2.dats
def BC(p:(Int×Int×Vl)×Ed):List Dat:=.cell (.int .i64 p.1.1)::.cell (.int .i64 p.1.2.1)::(vd p.1.2.2++p.2.dats)
def DR(p:Vl×Ed):List Dat:=vd p.1++p.2.dats
def ed(e:Ed):List Dat:=.cell (.int .i64 e.kind)::(vd e.old++(vd e.new++[.row 22 e.fields.length (e.fields.flatMap DM),.cell (.bool e.rests),.cell (.string (str e.ro)),.cell (.string (str e.rn)),.row 30 e.steps.length (e.steps.flatMap BC),.row 28 e.keys.length (e.keys.flatMap DR)]))
def efd(p:Int×Ed):List Dat:=.cell (.int .i64 p.1)::ed p.2
def esd(p:(Int×Int×Vl)×Ed):List Dat:=.cell (.int .i64 p.1.1)::.cell (.int .i64 p.1.2.1)::(vd p.1.2.2++ed p.2)
def ekd(p:Vl×Ed):List Dat:=vd p.1++ed p.2
theorem MQ(e:Ed):e.dats=ed e:=by
 unfold Ed.dats
 rw[EZ,RT,FF,FF,FF]
 rfl
theorem DH(p:Int×Ed):DM p=efd p:=by unfold DM efd;rw[MQ]
theorem C0(p:(Int×Int×Vl)×Ed):BC p=esd p:=by unfold BC esd;rw[MQ]
theorem DP(p:Vl×Ed):DR p=ekd p:=by unfold DR ekd;rw[MQ]
theorem E4(p:Int×Ed):(DM p).length=22:=by rw[DH];rfl
theorem CA(p:(Int×Int×Vl)×Ed):(BC p).length=30:=by rw[C0];rfl
theorem E3(p:Vl×Ed):(DR p).length=28:=by rw[DP];rfl
end
section
section
variable{P:Program}{cx:Cx}{T:TL}{B:BL}{R:RL}
theorem MT{ι:Type}{Q:Exit->Act->World->Prop}{K:Act->World->Prop}{x:Code}(Ti:ι->TL)(Bi:ι->BL)(Ri:ι->RL)(h1:E cx T B R (x.wp P (Exit.then (Cut cx Ti Bi Ri) Q)))(h2:∀ i,E cx (Ti i) (Bi i) (Ri i) K):E cx T B R (x.wp P (Exit.then K Q)):=fun M V a w hr=>by
 refine wp_mono (h1 M V a w hr) fun e a' w' hq=>?_
 cases e<;>first | exact hq | (obtain⟨i,M',V',h3⟩:=hq;exact h2 i M' V' a' w' h3)
end
end
section
inductive Alike (P:Program) (t:TypeId):Value->Value->Prop where
 | int (k k':IntKind) (a b:Int) (h:P.underlying t=some (.int k')):Alike P t (.int k a) (.int k b)
 | str (a b:List UInt8) (h:P.underlying t=some .string):Alike P t (.string (str a)) (.string (str b))
theorem Alike.plain{P:Program}{t:TypeId}{a b:Value}(h:Alike P t a b):P.underlying t=some .string \/ ∃ k,P.underlying t=some (.int k):=by
 cases h with
 | int k k' a b hu=>grind
 | str a b hu=>grind
section
variable{P:Program}{cx:Cx}{T:TL}{B:BL}{R:RL}{o:Oper}
end
end
section
theorem Cap.ren_id(c:Cap):c.ren (fun b=>b)=c:=by cases c<;>rfl
theorem NT(l:List Cap):l.map (Cap.ren fun b=>b)=l:=by
 induction l with
 | nil=>rfl
 | cons c l ih=>grind[Cap.ren_id]
theorem IV.ren_id(x:IV):x.ren (fun b=>b) (fun r=>r)=x:=by
 induction x with
 | opt g x ih=>grind[IV.ren]
 | clo fn fs cs=>grind[IV.ren,NT]
 | _=>rfl
theorem EA(l:List IV):l.map (·.ren (fun b=>b) (fun r=>r))=l:=by
 simp_all[IV.ren_id]
theorem M6(B:BL):IC (fun b=>b) (fun r=>r) B=B:=by
 simp_all[IC,EA]
theorem MX(R:RL):J1 (fun r=>r) R=R:=by
 simp_all[J1]
def LentI(B:BL)(R:RL)(B0:BL)(R0:RL):Prop:=(∀ b x,lk b B0=some x->lk b B=some x) /\ ∀ r x,lk r R0=some x->lk r R=some x
theorem LentI.lent{B:BL}{R:RL}{B0:BL}{R0:RL}(h:LentI B R B0 R0):Lent B R (fun b=>b) (fun r=>r) B0 R0:=⟨fun b x hx=>by rw[EA];exact h.1 b x hx,h.2,fun _ _ _ _ e=>e,fun _ _ _ _ e=>e⟩
def LentB(B:BL):BL->Prop
 | []=>True
 | (b,x)::l=>lk b B=some x/\LentB B l
def LentR(R:RL):RL->Prop
 | []=>True
 | (r,x)::l=>lk r R=some x/\LentR R l
theorem LentB.get{B:BL}:∀ {B0:BL} (_:LentB B B0) {b:Nat} {x:Bx},lk b B0=some x->lk b B=some x
 | (c,y)::l,h,b,x,hx=>by
  rcases AE hx with⟨rfl,rfl⟩ | ⟨_,hx⟩
  ·exact h.1
  ·exact LentB.get h.2 hx
 | [],_,_,_,hx=>by cases hx
theorem LentR.get{R:RL}:∀ {R0:RL} (_:LentR R R0) {b:Nat} {x:Rw},lk b R0=some x->lk b R=some x
 | (c,y)::l,h,b,x,hx=>by
  rcases AE hx with⟨rfl,rfl⟩ | ⟨_,hx⟩
  ·exact h.1
  ·exact LentR.get h.2 hx
 | [],_,_,_,hx=>by cases hx
section
variable{P:Program}{cx:Cx}{T:TL}{B:BL}{R:RL}{o:Oper}
def PV(B0:BL)(R0:RL)(y:IV)(B1:BL)(R1:RL):Prop:=names B1=names B0/\names R1=names R0/\S8 (names B0) (names R0) B1=true/\y.bin (names B0) (names R0)=true
theorem HT{ops:Array Oper}{Q:Exit->Act->World->Prop}{l:List Oper}{d:Nat}{f:FuncId}{xs:List Operand}{ts:Array TypeId}{ys:List IV}{B0:BL}{R0:RL}{Y:IV->BL->RL->Prop}(hg:o.guard=none)(hd:o.dst=some d)(hn:Nat.blt d cx.n=true)(ho:o.op=.call { callee:=.value (.func f),args:=xs.toArray,argTypes:=ts })(hc:AZ P f=true)
  (hf:EG P cx.gl f ys B0 R0 Y) (hB:LentB B B0) (hR:LentR R R0) (hx:KnX T xs ys) (hY:∀ y B1 R1,Y y B1 R1->PV B0 R0 y B1 R1)
  (hE:∀ y B1 R1,Y y B1 R1->E cx ((d,y)::FQ (names R0) T) (B1++DW (names R0) B) (R1++R) (wpList P ops Q l)):E cx T B R (wpList P ops Q (o::l)):=
 SQ (fun b=>b) (fun r=>r) hg hd hn ho hc (LentI.lent ⟨fun _ _ h=>hB.get h,fun _ _ h=>hR.get h⟩) (by grind[EA]) hf hY fun y B1 R1 hy=>by
  rw[IV.ren_id,M6,MX,List.map_id']
  exact hE y B1 R1 hy
theorem HU{ops:Array Oper}{Q:Exit->Act->World->Prop}{l:List Oper}{d:Nat}{f:FuncId}{x:Operand}{xs:List Operand}{ts:Array TypeId}{fs cs:List Cap}{zs ys:List IV}{B0:BL}{R0:RL}{Y:IV->BL->RL->Prop}(hg:o.guard=none)(hd:o.dst=some d)(hn:Nat.blt d cx.n=true)(ho:o.op=.call { callee:=.value x,args:=xs.toArray,argTypes:=ts })(hc:AZ P f=true)
  (hf:EG P cx.gl f ys B0 R0 Y) (hB:LentB B B0) (hR:LentR R R0) (hx:Kn T x (.clo (.func f) fs cs)) (hxs:KnX T xs zs) (hys:ys=fs.map Cap.iv++zs++cs.map Cap.iv) (hY:∀ y B1 R1,Y y B1 R1->PV B0 R0 y B1 R1)
  (hE:∀ y B1 R1,Y y B1 R1->E cx ((d,y)::FQ (names R0) T) (B1++DW (names R0) B) (R1++R) (wpList P ops Q l)):E cx T B R (wpList P ops Q (o::l)):=
 TS (fun b=>b) (fun r=>r) hg hd hn ho hc (LentI.lent ⟨fun _ _ h=>hB.get h,fun _ _ h=>hR.get h⟩) hx hxs (by grind[EA]) hf hY fun y B1 R1 hy=>by
  rw[IV.ren_id,M6,MX,List.map_id']
  exact hE y B1 R1 hy
end
end
section
def off(d:Nat):TL->TL
 | []=>[]
 | (j,x)::l=>bif Nat.beq j d then off d l else(j,x)::off d l
section
variable{P:Program}{cx:Cx}{T T' T2:TL}{B:BL}{R:RL}
end
end
section
section
variable{P:Program}{cx:Cx}{T:TL}{B:BL}{R:RL}
theorem SZ{o:Oper}{a:Act}{w:World}{K:Act->World->Prop}{Q:Exit->Act->World->Prop}(h:o.wp P a w K (Exit.then K Q)):o.wp P a w K Q:=by
 unfold Oper.wp at *
 generalize(execOp a.eval o).run P w=r at *
 cases r with
 | ok n w'=>
  cases n<;>simp only[Oper.upon]at h ⊢ <;> first | exact h | exact Calls.mono h (fun e w'' he=>by cases e<;>exact he) | exact Rows.mono h (fun _ _ he=>he)
 | halt x w'=>cases x<;>simp only[Oper.upon]at h ⊢ <;> exact h
theorem OR{ops:Array Oper}{Q:Exit->Act->World->Prop}{K:Act->World->Prop}{o:Oper}{i:Nat}{a:Act}{w:World}(hi:ops[i]?=some o)(hl:LetsOut (Exit.then K Q)->LetsOut Q)(h:wpList P ops (Exit.then K Q) [o] a w):wpOp P ops Q i K a w:=by
 unfold wpOp
 simp only[hi]
 simp only[wpList]at h
 split
 ·rename_i hw
  rw[if_pos hw]at h
  exact h.imp (fun h=>SZ h) (fun h=>⟨h.1,hl h.2⟩)
 ·rename_i hw
  rw[if_neg hw]at h
  exact h
end
end
section
section
variable{P:Program}{cx:Cx}{T:TL}{B:BL}{R:RL}
def LentBr(ρ σ:Nat->Nat)(B:BL):BL->Prop
 | []=>True
 | (b,x)::l=>lk (ρ b) B=some ⟨x.ty,x.cs.map (·.ren ρ σ)⟩/\LentBr ρ σ B l
def LentRr(σ:Nat->Nat)(R:RL):RL->Prop
 | []=>True
 | (r,x)::l=>lk (σ r) R=some x/\LentRr σ R l
theorem LentBr.get{ρ σ:Nat->Nat}:∀ {B0:BL} (_:LentBr ρ σ B B0) {b:Nat} {x:Bx},lk b B0=some x->lk (ρ b) B=some ⟨x.ty,x.cs.map (·.ren ρ σ)⟩
 | (c,y)::l,h,b,x,hx=>by
  rcases AE hx with⟨rfl,rfl⟩ | ⟨_,hx⟩
  ·exact h.1
  ·exact LentBr.get h.2 hx
 | [],_,_,_,hx=>by cases hx
theorem LentRr.get{σ:Nat->Nat}:∀ {R0:RL} (_:LentRr σ R R0) {b:Nat} {x:Rw},lk b R0=some x->lk (σ b) R=some x
 | (c,y)::l,h,b,x,hx=>by
  rcases AE hx with⟨rfl,rfl⟩ | ⟨_,hx⟩
  ·exact h.1
  ·exact LentRr.get h.2 hx
 | [],_,_,_,hx=>by cases hx
end
end
section
section
variable{P:Program}{cx:Cx}{T:TL}{B:BL}{R:RL}{M:Nat->Nat}{V:Nat->Value}{o:Oper}
theorem EFx.more{gls gls':List (Nat×List Value)}{f:FuncId}{ps:List Part}{Y:IV->Prop}(h:EFx P gls f ps Y)(hs:∀ x,x∈gls->x∈gls'):EFx P gls' f ps Y:=fun w D vs hD hG hp=>h w D vs hD (fun g cs hg=>hG g cs (hs _ hg)) hp
end
end
section
section
variable{P:Program}{cx:Cx}{T:TL}{B:BL}{R:RL}{o:Oper}
theorem CH{f:FuncId}{x:Operand}{xs:List Operand}{ts:Array TypeId}{ps:List Part}{y:IV}(ho:o.op=.call { callee:=.value x,args:=xs.toArray,argTypes:=ts })(hc:AZ P f=true)(hxf:Kn T x (.is (.func (.func f) #[] #[])))(hf:EF P cx.gl f ps y)(hx:KnA T xs ps):LStep P cx B R o T y:=fun M V w a hh ht=>by
 have hkk:∀ y z,y∈x::xs->Kn T y z->VR w (Dc cx B R M V w) M V z (a.eval y):=fun y z hm hkx=>hkx w _ M V a fun t z' e hz=>ht t z' (by
  grind[Op.operands,Call.operands]) hz
 have he:a.eval x=.func (.func f) #[] #[]:=(hkk x _ (by simp) hxf).is_eq
 have hrun:(execOp a.eval o).run P w=.ok (.enter f (xs.map a.eval).toArray) w:=by
  simp[execOp,ho,resolve,he,Deferred.ofValue,invoke,CQ hc]
 rw[hrun]
 refine⟨rfl,(OI hh (fun x z hm hkx=>hkk x z (by simp[hm]) hkx) hx hf).mono fun _ _ ⟨v,y',h1,h2,h3,h4⟩=>⟨v,h1,h3,h2▸h4⟩⟩
end
end
section
section
variable{P:Program}{cx:Cx}{T:TL}{B:BL}{R:RL}{o:Oper}
theorem UE{f:FuncId}{x y:Operand}{ts:Array TypeId}{u v r:Value}(ho:o.op=.call { callee:=.value (.func f),args := #[x,y],argTypes:=ts })(hf:∀ w:World,(callFunc f #[u,v]).run P w=.ok (.value r) w)(hx:Kn T x (.is u))(hy:Kn T y (.is v)):LStep P cx B R o T (.is r):=LStep.same fun M V w a _ hk=>by
 have h1:=(hk x _ (by grind[Op.operands,Call.operands]) hx).is_eq
 have h2:=(hk y _ (by grind[Op.operands,Call.operands]) hy).is_eq
 have he:a.eval (.func f)=.func (.func f) #[] #[]:=rfl
 exact⟨_,by grind[execOp,resolve,Deferred.ofValue,invoke],.cell _⟩
variable{M:Nat->Nat}{V:Nat->Value}
end
end
section
section
variable{P:Program}{cx:Cx}{T:TL}{B:BL}{R:RL}{o:Oper}
theorem Rel.row_turn{M:Nat->Nat}{V:Nat->Value}{a:Act}{w w':World}(hr:Rel cx T B R M V a w){r g:Nat}{z z':Rw}(hr0:lk r R=some z)(hf0:z.fz=false)(hob:obk (V r)=some g)(hz':z'.fz=false)(hty':Nat.blt z'.ty 2000000=true)(hoth:∀ q,q≠g->w'.heap[q]?=w.heap[q]?)(hsz:w'.heap.size=w.heap.size)(hos:w'.os=w.os)(htp:w'.tape=w.tape)(hou:w'.output=w.output)
  (hnew:∀ D',Keeps (Dc cx B R M V w) w w'->(∀ q,Dc cx B R M V w q->D' q)->Gx w' D' 0 z'.ty z'.k (V r) z'.n z'.ds):Rel cx T B ((r,z')::R) M V a w':=by
 exact hr.turned hr0 hf0 hz' (fun q hq=>hoth q fun e=>hq (.inl (by grind))) hsz hos htp hou (fun p hp=>.inl (G6 hp hty')) hnew
variable{α:Type}
def MEs(w:World)(D:Nat->Prop)(kf:α->Value):List (α×Dat)->List MapEntry->Prop
 | [],[]=>True
 | p::ps,e::es=>e.key=kf p.1/\Lies w D p.2 e.val/\MEs w D kf ps es
 | _,_=>False
variable{w w':World}{D D':Nat->Prop}{kf:α->Value}
theorem MEs.length:∀ {ps:List (α×Dat)} {es:List MapEntry},MEs w D kf ps es->es.length=ps.length
 | [],[],_=>rfl
 | _::_,_::_,h=>by simp[MEs.length h.2.2]
 | [],_::_,h=>h.elim
 | _::_,[],h=>h.elim
theorem MEs.stay(hk:Keeps D w w')(hD:∀ g,D g->D' g):∀ {ps:List (α×Dat)} {es:List MapEntry},MEs w D kf ps es->MEs w' D' kf ps es
 | [],[],_=>trivial
 | _::_,_::_,h=>⟨h.1,h.2.1.stay hk hD,MEs.stay hk hD h.2.2⟩
 | [],_::_,h=>h.elim
 | _::_,[],h=>h.elim
variable[DecidableEq α]
end
end
end Go.Proofs.Ytecfdcdkkgmkpaa
