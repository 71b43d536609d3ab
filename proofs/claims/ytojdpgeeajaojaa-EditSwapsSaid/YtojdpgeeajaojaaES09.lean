/- Part 9. Conditions: as each theorem says. -/
import Derived.Test.YtojdpgeeajaojaaES08
import Derived.Test.YtojdpgeeajaojaaProg
import Derived.Laws.StructEq
import Derived.Laws.Entries
import Derived.Laws.Small
import Derived.ChangeMaps5
import Derived.Laws.Slices
import Derived.Laws.IdiomStrings
set_option maxRecDepth 100000
namespace Go.Proofs.Ytojdpgeeajaojaa
open Go.RowKit
section
open Go Go.RowKit
inductive Ed where
 | mk (kind:Int) (old new:Vl) (fields:List (Int×Ed)) (rests:Bool) (ro rn:List UInt8) (steps:List ((Int×Int×Vl)×Ed)) (keys:List (Vl×Ed))
instance:Inhabited Ed:=⟨.mk 0 default default [] false [] [] [] []⟩
namespace Ed
def kind:Ed->Int | .mk k _ _ _ _ _ _ _ _=>k
def old:Ed->Vl | .mk _ o _ _ _ _ _ _ _=>o
def new:Ed->Vl | .mk _ _ n _ _ _ _ _ _=>n
def fields:Ed->List (Int×Ed) | .mk _ _ _ f _ _ _ _ _=>f
def rests:Ed->Bool | .mk _ _ _ _ r _ _ _ _=>r
def ro:Ed->List UInt8 | .mk _ _ _ _ _ r _ _ _=>r
def rn:Ed->List UInt8 | .mk _ _ _ _ _ _ r _ _=>r
def steps:Ed->List ((Int×Int×Vl)×Ed) | .mk _ _ _ _ _ _ _ s _=>s
def keys:Ed->List (Vl×Ed) | .mk _ _ _ _ _ _ _ _ k=>k
def kids(e:Ed):List Ed:=e.fields.map (·.2)++(e.steps.map (·.2)++e.keys.map (·.2))
theorem kid_f{e:Ed}{p:Int×Ed}(h:p∈e.fields):p.2∈e.kids:=List.mem_append_left _ (List.mem_map.2 ⟨p,h,rfl⟩)
theorem kid_s{e:Ed}{p:(Int×Int×Vl)×Ed}(h:p∈e.steps):p.2∈e.kids:=List.mem_append_right _ (List.mem_append_left _ (List.mem_map.2 ⟨p,h,rfl⟩))
theorem kid_k{e:Ed}{p:Vl×Ed}(h:p∈e.keys):p.2∈e.kids:=List.mem_append_right _ (List.mem_append_right _ (List.mem_map.2 ⟨p,h,rfl⟩))
theorem PK{e x:Ed}(h:x∈e.kids):SizeOf.sizeOf x<SizeOf.sizeOf e:=by
 cases e with
 | mk k o n fs r ro rn ss ks=>
  rcases List.mem_append.1 h with h | h
  ·obtain⟨⟨i,y⟩,hp,rfl⟩:=List.mem_map.1 h
   have h1:=List.sizeOf_lt_of_mem (show(i,y)∈fs from hp)
   simp at h1 ⊢
   omega
  rcases List.mem_append.1 h with h | h
  ·obtain⟨⟨i,y⟩,hp,rfl⟩:=List.mem_map.1 h
   have h1:=List.sizeOf_lt_of_mem (show(i,y)∈ss from hp)
   simp at h1 ⊢
   omega
  ·obtain⟨⟨i,y⟩,hp,rfl⟩:=List.mem_map.1 h
   have h1:=List.sizeOf_lt_of_mem (show(i,y)∈ks from hp)
   simp at h1 ⊢
   omega
theorem kids_ind{P:Ed->Prop}(h:∀ e:Ed,(∀ x∈e.kids,P x)->P e)(e:Ed):P e:=by
 generalize hn:SizeOf.sizeOf e=n
 induction n using Nat.strongRecOn generalizing e with
 | ind n ih=>
  subst hn
  exact h e fun x hx=>ih _ (PK hx) _ rfl
end Ed
mutual
def ecata{β:Type}(f:Ed->List β->List β->List β->β):Ed->β
 | .mk k o n fs r ro rn ss ks=>f (.mk k o n fs r ro rn ss ks) (fcata f fs) (scata f ss) (kcata f ks)
def fcata{β:Type}(f:Ed->List β->List β->List β->β):List (Int×Ed)->List β
 | []=>[]
 | (_,e)::l=>ecata f e::fcata f l
def scata{β:Type}(f:Ed->List β->List β->List β->β):List ((Int×Int×Vl)×Ed)->List β
 | []=>[]
 | (_,e)::l=>ecata f e::scata f l
def kcata{β:Type}(f:Ed->List β->List β->List β->β):List (Vl×Ed)->List β
 | []=>[]
 | (_,e)::l=>ecata f e::kcata f l
end
section
variable{β:Type}(f:Ed->List β->List β->List β->β)
theorem KT:∀ l:List (Int×Ed),fcata f l=l.map fun p=>ecata f p.2
 | []=>by simp[fcata]
 | (n,x)::l=>by rw[fcata,KT l];rfl
theorem KU:∀ l:List ((Int×Int×Vl)×Ed),scata f l=l.map fun p=>ecata f p.2
 | []=>by simp[scata]
 | (n,x)::l=>by rw[scata,KU l];rfl
theorem JV:∀ l:List (Vl×Ed),kcata f l=l.map fun p=>ecata f p.2
 | []=>by simp[kcata]
 | (n,x)::l=>by rw[kcata,JV l];rfl
theorem D9(e:Ed):ecata f e=f e (e.fields.map fun p=>ecata f p.2) (e.steps.map fun p=>ecata f p.2) (e.keys.map fun p=>ecata f p.2):=by
 cases e
 rw[ecata,KT,KU,JV]
 rfl
end
theorem FV{α β γ:Type}(g:α->β->γ)(h:α->β):∀ l:List α,List.zipWith g l (l.map h)=l.map fun x=>g x (h x)
 | []=>rfl
 | x::l=>by rw[List.map_cons,List.zipWith_cons_cons,FV g h l];rfl
def P2(_:Ed)(a b c:List Nat):Nat:=1+(a.sum+b.sum+c.sum)
def ecount(e:Ed):Nat:=ecata P2 e
def NM(e:Ed)(a b c:List Nat):Nat:=if e.kind=0 then 0 else 1+vsize e.old+vsize e.new+a.sum+(List.zipWith (fun(s:(Int×Int×Vl)×Ed) n=>1+vsize s.1.2.2+n) e.steps b).sum+(List.zipWith (fun(s:Vl×Ed) n=>vsize s.1+n) e.keys c).sum
def BY(e:Ed):Nat:=ecata NM e
def NE(l:List Nat):Nat:=l.foldl max 0
def MJ(e:Ed)(a b c:List Nat):Nat:=if e.kind=0 then 0 else 1+NE (a++(b++c))
def DZ(e:Ed):Nat:=ecata MJ e
theorem DM(e:Ed):ecount e=1+((e.fields.map fun p=>ecount p.2).sum+(e.steps.map fun p=>ecount p.2).sum+(e.keys.map fun p=>ecount p.2).sum):=by
 unfold ecount;rw[D9];rfl
theorem HE(e:Ed):BY e=if e.kind=0 then 0 else 1+vsize e.old+vsize e.new+(e.fields.map fun p=>BY p.2).sum+(e.steps.map fun s=>1+vsize s.1.2.2+BY s.2).sum+(e.keys.map fun s=>vsize s.1+BY s.2).sum:=by
 unfold BY;rw[D9,NM,FV,FV]
theorem N0(e:Ed):DZ e=if e.kind=0 then 0 else 1+NE (e.kids.map DZ):=by
 unfold DZ
 rw[D9,MJ,Ed.kids,List.map_append,List.map_append,List.map_map,List.map_map,List.map_map]
 rfl
theorem JC(l:List Nat):∀ n,l.foldl max n=max n (l.foldl max 0):=by
 induction l with
 | nil=>intro n;simp
 | cons x l ih=>
  intro n
  rw[List.foldl_cons,List.foldl_cons,ih (max n x),ih (max 0 x)]
  omega
theorem P6{l:List Nat}{n:Nat}(h:∀ x∈l,x<=n):NE l<=n:=by
 induction l with
 | nil=>simp[NE]
 | cons x l ih=>
  have h1:=ih fun y hy=>h y (List.mem_cons_of_mem _ hy)
  have h2:=h x List.mem_cons_self
  unfold NE at h1 ⊢
  rw[List.foldl_cons,JC]
  omega
theorem EI{α:Type}{f g:α->Nat}{c:Nat}{l:List α}(h:∀ x∈l,f x<=c*g x):(l.map f).sum<=c*(l.map g).sum:=by
 induction l with
 | nil=>simp
 | cons x l ih=>
  have h1:=ih fun y hy=>h y (List.mem_cons_of_mem _ hy)
  have h2:=h x List.mem_cons_self
  rw[List.map_cons,List.map_cons,List.sum_cons,List.sum_cons,Nat.mul_add]
  omega
theorem JW(l:List Nat)(k:Nat):(l.take k).sum<=l.sum:=by
 have h:(l.take k++l.drop k).sum=l.sum:=by rw[List.take_append_drop]
 rw[List.sum_append]at h
 omega
theorem D8{α:Type}{f:α->Nat}{l:List α}{k:Nat}{x:α}(h:l[k]?=some x):((l.take (k+1)).map f).sum=((l.take k).map f).sum+f x:=by
 rw[List.take_add_one,h]
 simp
theorem DN{α:Type}(f:α->Nat)(l:List α)(k:Nat):((l.take k).map f).sum<=(l.map f).sum:=by
 rw[List.map_take]
 exact JW _ _
theorem H7{l:List Nat}{n:Nat}(h:n∈l):n<=l.sum:=by
 induction l with
 | nil=>cases h
 | cons x l ih=>
  rw[List.sum_cons]
  rcases List.mem_cons.1 h with rfl | h
  ·omega
  ·have:=ih h;omega
theorem CY(e:Ed):0<ecount e:=by rw[DM];omega
theorem GJ(e:Ed):ecount e=1+(e.kids.map ecount).sum:=by
 rw[DM,Ed.kids,List.map_append,List.map_append,List.sum_append,List.sum_append,List.map_map,List.map_map,List.map_map]
 simp only[Function.comp_def]
 omega
theorem LN{e x:Ed}(h:x∈e.kids):ecount x<ecount e:=by
 have:=H7 (List.mem_map.2 ⟨x,h,rfl⟩:ecount x∈e.kids.map ecount)
 rw[GJ e]
 omega
structure VSm (n:Nat) (v:Vl):Prop where
 fine:v.Fine
 tx:v.Tx
 nodes:vnodes v<=n
theorem VSm.mono{n m:Nat}{v:Vl}(h:VSm n v)(hm:n<=m):VSm m v:=⟨h.fine,h.tx,Nat.le_trans h.nodes hm⟩
def I64(z:Int):Prop := -9223372036854775808<=z/\z<9223372036854775808
inductive Ed.Fine:Ed->Prop where
 | mk (e:Ed):I64 e.kind->e.old.Fine->e.new.Fine->(e.ro.length<=maxLen/\e.rn.length<=maxLen/\e.fields.length<=maxLen/\e.steps.length<=maxLen/\e.keys.length<=maxLen)->(∀ p∈e.fields,I64 p.1)->(∀ p∈e.steps,I64 p.1.1/\I64 p.1.2.1/\p.1.2.2.Fine)->(∀ p∈e.keys,p.1.Fine)->(∀ x∈e.kids,Fine x)->Fine e
inductive Ed.Ok:Ed->Prop where
 | mk (e:Ed):I64 e.kind->VSm 80 e.old->VSm 80 e.new->e.ro.length<=300->e.rn.length<=300->(∀ p∈e.fields,I64 p.1)->(∀ p∈e.steps,I64 p.1.1 /\ -9223372036854775808<=p.1.2.1/\p.1.2.1<=2097152/\VSm 80 p.1.2.2)->(∀ p∈e.keys,VSm 20 p.1)->(∀ x∈e.kids,Ok x)->Ok e
theorem Ed.Fine.kid{e x:Ed}(h:e.Fine)(hx:x∈e.kids):x.Fine:=by
 cases h with
 | mk e a b c d f g i j=>exact j x hx
theorem Ed.Ok.kid{e x:Ed}(h:e.Ok)(hx:x∈e.kids):x.Ok:=by
 cases h with
 | mk e a b c d f g i j k=>exact k x hx
theorem Ed.Ok.all{e:Ed}(h:e.Ok):I64 e.kind/\VSm 80 e.old/\VSm 80 e.new/\e.ro.length<=300/\e.rn.length<=300/\(∀ p∈e.fields,I64 p.1)/\(∀ p∈e.steps,I64 p.1.1 /\ -9223372036854775808<=p.1.2.1/\p.1.2.1<=2097152/\VSm 80 p.1.2.2)/\(∀ p∈e.keys,VSm 20 p.1):=by
 cases h
 exact⟨‹_›,‹_›,‹_›,‹_›,‹_›,‹_›,‹_›,‹_›⟩
theorem Ed.Fine.all{e:Ed}(h:e.Fine):I64 e.kind/\e.old.Fine/\e.new.Fine/\(e.ro.length<=maxLen/\e.rn.length<=maxLen/\e.fields.length<=maxLen/\e.steps.length<=maxLen/\e.keys.length<=maxLen)/\(∀ p∈e.fields,I64 p.1)/\(∀ p∈e.steps,I64 p.1.1/\I64 p.1.2.1/\p.1.2.2.Fine)/\(∀ p∈e.keys,p.1.Fine):=by
 cases h
 exact⟨‹_›,‹_›,‹_›,‹_›,‹_›,‹_›,‹_›⟩
structure Ed.Sm (e:Ed):Prop where
 ok:e.Ok
 count:ecount e<=80
theorem Ed.Sm.kid{e x:Ed}(h:e.Sm)(hx:x∈e.kids):x.Sm:=⟨h.ok.kid hx,by have:=LN hx;have:=h.count;omega⟩
theorem F0{α:Type}(l:List α)(f:α->Nat)(h:∀ x∈l,0<f x):l.length<=(l.map f).sum:=by
 induction l with
 | nil=>simp
 | cons x l ih=>
  have h1:=ih fun y hy=>h y (List.mem_cons_of_mem _ hy)
  have h2:=h x List.mem_cons_self
  rw[List.map_cons,List.sum_cons,List.length_cons]
  omega
theorem Ed.Sm.lens{e:Ed}(h:e.Sm):e.fields.length+e.steps.length+e.keys.length<=80:=by
 have h1:=h.count
 rw[DM]at h1
 have h2:=F0 e.fields (fun p=>ecount p.2) fun _ _=>CY _
 have h3:=F0 e.steps (fun p=>ecount p.2) fun _ _=>CY _
 have h4:=F0 e.keys (fun p=>ecount p.2) fun _ _=>CY _
 omega
theorem CO{n:Nat}{v:Vl}(h:VSm n v):vsize v<=n:=Nat.le_trans (M6 v).1 h.nodes
theorem ON(e:Ed):e.Ok->BY e+81<=300*ecount e:=by
 refine Ed.kids_ind (P:=fun e=>e.Ok->BY e+81<=300*ecount e) (fun e ih h=>?_) e
 have hp:=CY e
 rw[HE]
 obtain⟨_,h1,h2,_,_,_,h3,h4⟩:=h.all
 split
 ·omega
 rw[DM]
 have a1:=CO h1
 have a2:=CO h2
 have b1:(e.fields.map fun p=>BY p.2).sum<=300*(e.fields.map fun p=>ecount p.2).sum:=EI fun p hp=>by
  have:=ih _ (Ed.kid_f hp) (h.kid (Ed.kid_f hp))
  omega
 have b2:(e.steps.map fun s=>1+vsize s.1.2.2+BY s.2).sum<=300*(e.steps.map fun p=>ecount p.2).sum:=EI fun p hp=>by
  have:=ih _ (Ed.kid_s hp) (h.kid (Ed.kid_s hp))
  have:=CO (h3 p hp).2.2.2
  omega
 have b3:(e.keys.map fun s=>vsize s.1+BY s.2).sum<=300*(e.keys.map fun p=>ecount p.2).sum:=EI fun p hp=>by
  have:=ih _ (Ed.kid_k hp) (h.kid (Ed.kid_k hp))
  have:=CO (h4 p hp)
  omega
 omega
theorem O4(l:List Nat):NE l<=l.sum:=P6 fun _ h=>H7 h
theorem NX{α:Type}{f g:α->Nat}{l:List α}(h:∀ x∈l,f x<=g x):(l.map f).sum<=(l.map g).sum:=by
 have:=EI (c:=1) (l:=l) (f:=f) (g:=g) fun x hx=>by have:=h x hx;omega
 omega
theorem NF(e:Ed):DZ e<=ecount e:=by
 refine Ed.kids_ind (P:=fun e=>DZ e<=ecount e) (fun e ih=>?_) e
 have hp:=CY e
 rw[N0]
 split
 ·omega
 rw[GJ]
 have:=O4 (e.kids.map DZ)
 have:=NX (f:=DZ) (g:=ecount) (l:=e.kids) fun x hx=>ih x hx
 omega
theorem Ed.Sm.bounds{e:Ed}(h:e.Sm):BY e<=24000/\DZ e<=80:=by
 have h1:=ON e h.ok
 have h2:=NF e
 have:=h.count
 omega
def BJ{α:Type}(ok:α->Bool)(ah:α->α->Bool):Option α->List α->Bool
 | _,[]=>true
 | none,x::l=>ok x&&BJ ok ah (some x) l
 | some p,x::l=>ok x&&ah p x&&BJ ok ah (some x) l
theorem E2{α β:Type}(g:α->β)(ok:β->Bool)(ah:β->β->Bool):∀ (o:Option α) (l:List α),BJ ok ah (o.map g) (l.map g)=BJ (fun x=>ok (g x)) (fun x y=>ah (g x) (g y)) o l
 | _,[]=>by simp[BJ]
 | none,x::l=>by
  have:=E2 g ok ah (some x) l
  rw[Option.map_none,List.map_cons,BJ,BJ,<- this]
  rfl
 | some p,x::l=>by
  have:=E2 g ok ah (some x) l
  rw[Option.map_some,List.map_cons,BJ,BJ,<- this]
  rfl
theorem DU{α β:Type}(h:α->β):∀ l:List α,l.zip (l.map h)=l.map fun x=>(x,h x)
 | []=>rfl
 | x::l=>by rw[List.map_cons,List.zip_cons_cons,DU h l];rfl
def CP{α:Type}(l:List α)(k:Nat):Option α:=if k=0 then none else l[k-1]?
theorem LB{α:Type}{l:List α}{k:Nat}{x:α}(h:l[k]?=some x):CP l (k+1)=some x:=by
 unfold CP
 rw[if_neg (by omega),Nat.add_sub_cancel,h]
theorem GW{α:Type}{ok:α->Bool}{ah:α->α->Bool}{l:List α}{k:Nat}(hk:l.length<=k)(h:BJ ok ah none l=BJ ok ah (CP l k) (l.drop k)):BJ ok ah none l=true:=by
 rw[h,List.drop_eq_nil_of_le hk]
 cases CP l k<;>rfl
theorem DF{α:Type}{ok:α->Bool}{ah:α->α->Bool}{l:List α}{k:Nat}{x:α}(hx:l[k]?=some x)(h:BJ ok ah none l=BJ ok ah (CP l k) (l.drop k))(hn:ok x=false \/ ∃ p,CP l k=some p/\ah p x=false):BJ ok ah none l=false:=by
 rw[h,B8 hx]
 rcases hn with hn | ⟨p,hp,hn⟩
 ·cases CP l k<;>simp[BJ,hn]
 ·rw[hp]
  simp[BJ,hn]
theorem FX{α:Type}{ok:α->Bool}{ah:α->α->Bool}{l:List α}{k:Nat}{x:α}(hx:l[k]?=some x)(h:BJ ok ah none l=BJ ok ah (CP l k) (l.drop k))(h1:ok x=true)(h2:∀ p,CP l k=some p->ah p x=true):BJ ok ah none l=BJ ok ah (CP l (k+1)) (l.drop (k+1)):=by
 rw[h,B8 hx,LB hx]
 cases hp:CP l k with
 | none=>simp[BJ,h1]
 | some p=>simp[BJ,h1,h2 p hp]
def E0(v:Vl):Bool:=decide (v.kind=0)&&vright v
def KP(v:Vl):Bool:=(decide (v.kind=1)||decide (v.kind=2)||decide (v.kind=3))&&vright v
def CA(a b:Vl):Bool:=decide (vcmp a b=0)
def DK(e:Ed):Bool:=
 (decide (e.kind=1)||(E0 e.old&&E0 e.new))&&(decide (e.kind=2)||(e.fields.isEmpty && !e.rests&&e.ro.isEmpty&&e.rn.isEmpty))&&(decide (e.kind=3)||e.steps.isEmpty)&&(decide (e.kind=4)||e.keys.isEmpty)
def GS(p:Int×Ed)(b:Bool):Bool:=decide (1<=p.1)&&decide (p.1<=536870911)&&(!decide (p.2.kind=0)&&b)
def EL(p q:Int×Ed):Bool:=decide (p.1<q.1)
def I3(s:(Int×Int×Vl)×Ed)(b:Bool):Bool:=
 if s.1.1=1 then decide (1<=s.1.2.1)&&decide (s.1.2.1<=1048576)&&E0 s.1.2.2&&(decide (s.2.kind=0)&&b)
 else if s.1.1=2\/s.1.1=3 then decide (s.1.2.1=0)&&KP s.1.2.2&&(decide (s.2.kind=0)&&b)
 else if s.1.1=4 then decide (s.1.2.1=0)&&E0 s.1.2.2&&(!decide (s.2.kind=0)&&b)
 else false
def G3(p q:(Int×Int×Vl)×Ed):Bool:=if p.1.1=1 then !decide (q.1.1=1)else if p.1.1=3 then !decide (q.1.1=2)else true
def H1(s:(Int×Int×Vl)×Ed):Bool := !decide (s.1.1=1)
def M5(p:Vl×Ed)(b:Bool):Bool:=(decide (p.1.kind=1)||decide (p.1.kind=2))&&vright p.1&&(!decide (p.2.kind=0)&&b)
def IW(p q:Vl×Ed):Bool:=decide (p.1.kind=q.1.kind)&&decide (vcmp p.1 q.1<0)
def J6(e:Ed):Bool:=if e.rests then !decide (e.ro=e.rn)else decide (e.ro=[])&&decide (e.rn=[])
def JF(e:Ed)(a b c:List Bool):Bool:=
 DK e&&(if e.kind=0 then true
  else if e.kind=1 then vright e.old&&vright e.new && !CA e.old e.new
  else if e.kind=2 then J6 e&&(e.rests || !e.fields.isEmpty)&&BJ (fun q:(Int×Ed)×Bool=>GS q.1 q.2) (fun p q=>EL p.1 q.1) none (e.fields.zip a)
  else if e.kind=3 then e.steps.any H1&&BJ (fun q:((Int×Int×Vl)×Ed)×Bool=>I3 q.1 q.2) (fun p q=>G3 p.1 q.1) none (e.steps.zip b)
  else if e.kind=4 then !e.keys.isEmpty&&BJ (fun q:(Vl×Ed)×Bool=>M5 q.1 q.2) (fun p q=>IW p.1 q.1) none (e.keys.zip c)
  else false)
def BK(e:Ed):Bool:=ecata JF e
abbrev LT(p:Int×Ed):Bool:=GS p (BK p.2)
abbrev KO(p:(Int×Int×Vl)×Ed):Bool:=I3 p (BK p.2)
abbrev PO(p:Vl×Ed):Bool:=M5 p (BK p.2)
theorem DD(e:Ed):BK e=(DK e&&(if e.kind=0 then true
  else if e.kind=1 then vright e.old&&vright e.new && !CA e.old e.new
  else if e.kind=2 then J6 e&&(e.rests || !e.fields.isEmpty)&&BJ LT EL none e.fields
  else if e.kind=3 then e.steps.any H1&&BJ KO G3 none e.steps
  else if e.kind=4 then !e.keys.isEmpty&&BJ PO IW none e.keys
  else false)):=by
 have h1:=E2 (fun x:Int×Ed=>(x,BK x.2)) (fun q:(Int×Ed)×Bool=>GS q.1 q.2) (fun p q=>EL p.1 q.1) none e.fields
 have h2:=E2 (fun x:(Int×Int×Vl)×Ed=>(x,BK x.2)) (fun q:((Int×Int×Vl)×Ed)×Bool=>I3 q.1 q.2) (fun p q=>G3 p.1 q.1) none e.steps
 have h3:=E2 (fun x:Vl×Ed=>(x,BK x.2)) (fun q:(Vl×Ed)×Bool=>M5 q.1 q.2) (fun p q=>IW p.1 q.1) none e.keys
 show ecata JF e=_
 rw[D9,JF]
 show(DK e&&(if e.kind=0 then true
  else if e.kind=1 then vright e.old&&vright e.new && !CA e.old e.new
  else if e.kind=2 then J6 e&&(e.rests || !e.fields.isEmpty)&&BJ (fun q:(Int×Ed)×Bool=>GS q.1 q.2) (fun p q=>EL p.1 q.1) none (e.fields.zip (e.fields.map fun p=>BK p.2))
  else if e.kind=3 then e.steps.any H1&&BJ (fun q:((Int×Int×Vl)×Ed)×Bool=>I3 q.1 q.2) (fun p q=>G3 p.1 q.1) none (e.steps.zip (e.steps.map fun p=>BK p.2))
  else if e.kind=4 then !e.keys.isEmpty&&BJ (fun q:(Vl×Ed)×Bool=>M5 q.1 q.2) (fun p q=>IW p.1 q.1) none (e.keys.zip (e.keys.map fun p=>BK p.2))
  else false))=_
 rw[DU,DU,DU]
 rw[Option.map_none]at h1 h2 h3
 rw[h1,h2,h3]
def BP{α β:Type}(p:α->β->Bool):List α->List β->Bool
 | [],[]=>true
 | x::l,y::m=>p x y&&BP p l m
 | _,_=>false
theorem F6{α β γ:Type}(g:α->β)(p:β->γ->Bool):∀ (l:List α) (m:List γ),BP p (l.map g) m=BP (fun x=>p (g x)) l m
 | [],[]=>rfl
 | [],_::_=>rfl
 | _::_,[]=>rfl
 | x::l,y::m=>by rw[List.map_cons,BP,BP,F6 g p l m]
theorem FJ{α β:Type}{p:α->β->Bool}:∀ {l:List α} {m:List β},l.length≠m.length->BP p l m=false
 | [],[],h=>absurd rfl h
 | [],_::_,_=>rfl
 | _::_,[],_=>rfl
 | x::l,y::m,h=>by
  rw[BP,FJ (l:=l) (m:=m) (by simpa using h)]
  exact Bool.and_false _
theorem H6{α β:Type}{p:α->β->Bool}{l:List α}{m:List β}{k:Nat}(hl:l.length=m.length)(hk:l.length<=k)(h:BP p l m=BP p (l.drop k) (m.drop k)):BP p l m=true:=by
 rw[h,List.drop_eq_nil_of_le hk,List.drop_eq_nil_of_le (by omega)]
 rfl
theorem FZ{α β:Type}{p:α->β->Bool}{l:List α}{m:List β}{k:Nat}{x:α}{y:β}(hx:l[k]?=some x)(hy:m[k]?=some y)(h:BP p l m=BP p (l.drop k) (m.drop k)):BP p l m=(p x y&&BP p (l.drop (k+1)) (m.drop (k+1))):=by
 rw[h,B8 hx,B8 hy,BP]
theorem EQ{α:Type}{p:α->α->Bool}:∀ {l:List α},(∀ x∈l,p x x=true)->BP p l l=true
 | [],_=>rfl
 | x::l,h=>by
  rw[BP,h x List.mem_cons_self,EQ fun y hy=>h y (List.mem_cons_of_mem _ hy)]
  rfl
def H2(e y:Ed):Bool:=decide (e.kind=y.kind)&&CA e.old y.old&&CA e.new y.new&&(e.rests==y.rests)&&decide (e.ro=y.ro)&&decide (e.rn=y.rn)
def PM(e:Ed)(a b c:List (Ed->Bool))(y:Ed):Bool:=
 H2 e y&&BP (fun(q:(Int×Ed)×(Ed->Bool)) (z:Int×Ed)=>decide (q.1.1=z.1)&&q.2 z.2) (e.fields.zip a) y.fields
  && BP (fun(q:((Int×Int×Vl)×Ed)×(Ed->Bool)) (z:(Int×Int×Vl)×Ed)=>decide (q.1.1.1=z.1.1)&&decide (q.1.1.2.1=z.1.2.1)&&CA q.1.1.2.2 z.1.2.2&&q.2 z.2) (e.steps.zip b) y.steps
  && BP (fun(q:(Vl×Ed)×(Ed->Bool)) (z:Vl×Ed)=>CA q.1.1 z.1&&q.2 z.2) (e.keys.zip c) y.keys
def eeq(e:Ed):Ed->Bool:=ecata PM e
abbrev JJ(p q:Int×Ed):Bool:=decide (p.1=q.1)&&eeq p.2 q.2
abbrev MG(p q:(Int×Int×Vl)×Ed):Bool:=decide (p.1.1=q.1.1)&&decide (p.1.2.1=q.1.2.1)&&CA p.1.2.2 q.1.2.2&&eeq p.2 q.2
abbrev PF(p q:Vl×Ed):Bool:=CA p.1 q.1&&eeq p.2 q.2
theorem O3(e y:Ed):eeq e y=(H2 e y&&BP JJ e.fields y.fields&&BP MG e.steps y.steps&&BP PF e.keys y.keys):=by
 show ecata PM e y=_
 rw[D9,PM]
 show(H2 e y&&BP (fun(q:(Int×Ed)×(Ed->Bool)) (z:Int×Ed)=>decide (q.1.1=z.1)&&q.2 z.2) (e.fields.zip (e.fields.map fun p=>eeq p.2)) y.fields
  && BP (fun(q:((Int×Int×Vl)×Ed)×(Ed->Bool)) (z:(Int×Int×Vl)×Ed)=>decide (q.1.1.1=z.1.1)&&decide (q.1.1.2.1=z.1.2.1)&&CA q.1.1.2.2 z.1.2.2&&q.2 z.2) (e.steps.zip (e.steps.map fun p=>eeq p.2)) y.steps
  && BP (fun(q:(Vl×Ed)×(Ed->Bool)) (z:Vl×Ed)=>CA q.1.1 z.1&&q.2 z.2) (e.keys.zip (e.keys.map fun p=>eeq p.2)) y.keys)=_
 rw[DU,DU,DU,F6,F6,F6]
theorem EW(v:Vl):CA v v=true:=decide_eq_true (FY v)
theorem NV(e:Ed):eeq e e=true:=by
 refine Ed.kids_ind (P:=fun e=>eeq e e=true) (fun e ih=>?_) e
 rw[O3,EQ fun x hx=>by simp[JJ,ih _ (Ed.kid_f hx)],EQ fun x hx=>by simp[MG,EW,ih _ (Ed.kid_s hx)],EQ fun x hx=>by simp[PF,EW,ih _ (Ed.kid_k hx)]]
 simp[H2,EW]
theorem MB{v:Vl}{n:Nat}(hv:v.Fine)(h:NN v (n:Int)=false):VSm n v:=by
 obtain⟨h1,h2⟩:=OU (Int.natCast_nonneg n) h
 exact⟨hv,h2,by omega⟩
def NT(e:Ed)(a b c:List (List Dat)):List Dat:=
 .cell (.int .i64 e.kind)::(vd e.old++(vd e.new++[.row 22 e.fields.length (List.zipWith (fun(p:Int×Ed) d=>.cell (.int .i64 p.1)::d) e.fields a).flatten,.cell (.bool e.rests),.cell (.string (str e.ro)),.cell (.string (str e.rn)),
  .row 30 e.steps.length (List.zipWith (fun(p:(Int×Int×Vl)×Ed) d=>.cell (.int .i64 p.1.1)::.cell (.int .i64 p.1.2.1)::(vd p.1.2.2++d)) e.steps b).flatten,.row 28 e.keys.length (List.zipWith (fun(p:Vl×Ed) d=>vd p.1++d) e.keys c).flatten]))
def Ed.dats(e:Ed):List Dat:=ecata NT e
def DV(p:Int×Ed):List Dat:=.cell (.int .i64 p.1)::p.2.dats
def D7(p:(Int×Int×Vl)×Ed):List Dat:=.cell (.int .i64 p.1.1)::.cell (.int .i64 p.1.2.1)::(vd p.1.2.2++p.2.dats)
def DY(p:Vl×Ed):List Dat:=vd p.1++p.2.dats
def ed(e:Ed):List Dat:=.cell (.int .i64 e.kind)::(vd e.old++(vd e.new++[.row 22 e.fields.length (e.fields.flatMap DV),.cell (.bool e.rests),.cell (.string (str e.ro)),.cell (.string (str e.rn)),.row 30 e.steps.length (e.steps.flatMap D7),.row 28 e.keys.length (e.keys.flatMap DY)]))
def efd(p:Int×Ed):List Dat:=.cell (.int .i64 p.1)::ed p.2
def esd(p:(Int×Int×Vl)×Ed):List Dat:=.cell (.int .i64 p.1.1)::.cell (.int .i64 p.1.2.1)::(vd p.1.2.2++ed p.2)
def ekd(p:Vl×Ed):List Dat:=vd p.1++ed p.2
theorem JG(e:Ed):e.dats=ed e:=by
 unfold Ed.dats
 rw[D9,NT,FV,FV,FV]
 rfl
theorem CZ(p:Int×Ed):DV p=efd p:=by unfold DV efd;rw[JG]
theorem CK(p:(Int×Int×Vl)×Ed):D7 p=esd p:=by unfold D7 esd;rw[JG]
theorem D2(p:Vl×Ed):DY p=ekd p:=by unfold DY ekd;rw[JG]
theorem CT(p:Int×Ed):(DV p).length=22:=by rw[CZ];rfl
theorem CD(p:(Int×Int×Vl)×Ed):(D7 p).length=30:=by rw[CK];rfl
theorem CU(p:Vl×Ed):(DY p).length=28:=by rw[D2];rfl
end
section
section
variable{P:Program}{cx:Cx}{T:TL}{B:BL}{R:RL}
theorem JL{ι:Type}{Q:Exit->Act->World->Prop}{K:Act->World->Prop}{x:Code}(Ti:ι->TL)(Bi:ι->BL)(Ri:ι->RL)(h1:E cx T B R (x.wp P (Exit.then (Cut cx Ti Bi Ri) Q)))(h2:∀ i,E cx (Ti i) (Bi i) (Ri i) K):E cx T B R (x.wp P (Exit.then K Q)):=fun M V a w hr=>by
 refine wp_mono (h1 M V a w hr) fun e a' w' hq=>?_
 cases e<;>first | exact hq | (obtain⟨i,M',V',h3⟩:=hq;exact h2 i M' V' a' w' h3)
end
end
section
inductive Alike (P:Program) (t:TypeId):Value->Value->Prop where
 | int (k k':IntKind) (a b:Int) (h:P.underlying t=some (.int k')):Alike P t (.int k a) (.int k b)
 | str (a b:List UInt8) (h:P.underlying t=some .string):Alike P t (.string (str a)) (.string (str b))
theorem Alike.plain{P:Program}{t:TypeId}{a b:Value}(h:Alike P t a b):P.underlying t=some .string \/ ∃ k,P.underlying t=some (.int k):=by
 cases h with
 | int k k' a b hu=>exact .inr ⟨k',hu⟩
 | str a b hu=>exact .inl hu
section
variable{P:Program}{cx:Cx}{T:TL}{B:BL}{R:RL}{o:Oper}
end
end
section
theorem Cap.ren_id(c:Cap):c.ren (fun b=>b)=c:=by cases c<;>rfl
theorem GC(l:List Cap):l.map (Cap.ren fun b=>b)=l:=by
 induction l with
 | nil=>rfl
 | cons c l ih=>rw[List.map_cons,ih,Cap.ren_id]
theorem IV.ren_id(x:IV):x.ren (fun b=>b) (fun r=>r)=x:=by
 induction x with
 | opt g x ih=>unfold IV.ren;rw[ih]
 | clo fn fs cs=>unfold IV.ren;rw[GC,GC]
 | _=>rfl
theorem DR(l:List IV):l.map (·.ren (fun b=>b) (fun r=>r))=l:=by
 induction l with
 | nil=>rfl
 | cons c l ih=>rw[List.map_cons,ih,IV.ren_id]
theorem ML(B:BL):G4 (fun b=>b) (fun r=>r) B=B:=by
 unfold G4
 induction B with
 | nil=>rfl
 | cons x B ih=>rw[List.map_cons,ih,DR]
theorem M8(R:RL):GN (fun r=>r) R=R:=by
 unfold GN
 induction R with
 | nil=>rfl
 | cons x B ih=>rw[List.map_cons,ih]
def LentI(B:BL)(R:RL)(B0:BL)(R0:RL):Prop:=(∀ b x,lk b B0=some x->lk b B=some x) /\ ∀ r x,lk r R0=some x->lk r R=some x
theorem LentI.lent{B:BL}{R:RL}{B0:BL}{R0:RL}(h:LentI B R B0 R0):Lent B R (fun b=>b) (fun r=>r) B0 R0:=⟨fun b x hx=>by rw[DR];exact h.1 b x hx,h.2,fun _ _ _ _ e=>e,fun _ _ _ _ e=>e⟩
def LentB(B:BL):BL->Prop
 | []=>True
 | (b,x)::l=>lk b B=some x/\LentB B l
def LentR(R:RL):RL->Prop
 | []=>True
 | (r,x)::l=>lk r R=some x/\LentR R l
theorem LentB.get{B:BL}:∀ {B0:BL} (_:LentB B B0) {b:Nat} {x:Bx},lk b B0=some x->lk b B=some x
 | (c,y)::l,h,b,x,hx=>by
  rcases AX hx with⟨rfl,rfl⟩ | ⟨_,hx⟩
  ·exact h.1
  ·exact LentB.get h.2 hx
 | [],_,_,_,hx=>by cases hx
theorem LentR.get{R:RL}:∀ {R0:RL} (_:LentR R R0) {b:Nat} {x:Rw},lk b R0=some x->lk b R=some x
 | (c,y)::l,h,b,x,hx=>by
  rcases AX hx with⟨rfl,rfl⟩ | ⟨_,hx⟩
  ·exact h.1
  ·exact LentR.get h.2 hx
 | [],_,_,_,hx=>by cases hx
section
variable{P:Program}{cx:Cx}{T:TL}{B:BL}{R:RL}{o:Oper}
def PE(B0:BL)(R0:RL)(y:IV)(B1:BL)(R1:RL):Prop:=names B1=names B0/\names R1=names R0/\OC (names B0) (names R0) B1=true/\y.bin (names B0) (names R0)=true
theorem M9{ops:Array Oper}{Q:Exit->Act->World->Prop}{l:List Oper}{d:Nat}{f:FuncId}{xs:List Operand}{ts:Array TypeId}{ys:List IV}{B0:BL}{R0:RL}{Y:IV->BL->RL->Prop}(hg:o.guard=none)(hd:o.dst=some d)(hn:Nat.blt d cx.n=true)(ho:o.op=.call { callee:=.value (.func f),args:=xs.toArray,argTypes:=ts })(hc:AT P f=true)
  (hf:EG P cx.gl f ys B0 R0 Y) (hB:LentB B B0) (hR:LentR R R0) (hx:KnX T xs ys) (hY:∀ y B1 R1,Y y B1 R1->PE B0 R0 y B1 R1)
  (hE:∀ y B1 R1,Y y B1 R1->E cx ((d,y)::F2 (names R0) T) (B1++CX (names R0) B) (R1++R) (wpList P ops Q l)):E cx T B R (wpList P ops Q (o::l)):=
 OV (fun b=>b) (fun r=>r) hg hd hn ho hc (LentI.lent ⟨fun _ _ h=>hB.get h,fun _ _ h=>hR.get h⟩) (by rw[DR];exact hx) hf hY fun y B1 R1 hy=>by
  rw[IV.ren_id,ML,M8,List.map_id']
  exact hE y B1 R1 hy
theorem E1{ops:Array Oper}{Q:Exit->Act->World->Prop}{l:List Oper}{d:Nat}{f:FuncId}{x:Operand}{xs:List Operand}{ts:Array TypeId}{fs cs:List Cap}{zs ys:List IV}{B0:BL}{R0:RL}{Y:IV->BL->RL->Prop}(hg:o.guard=none)(hd:o.dst=some d)(hn:Nat.blt d cx.n=true)(ho:o.op=.call { callee:=.value x,args:=xs.toArray,argTypes:=ts })(hc:AT P f=true)
  (hf:EG P cx.gl f ys B0 R0 Y) (hB:LentB B B0) (hR:LentR R R0) (hx:Kn T x (.clo (.func f) fs cs)) (hxs:KnX T xs zs) (hys:ys=fs.map Cap.iv++zs++cs.map Cap.iv) (hY:∀ y B1 R1,Y y B1 R1->PE B0 R0 y B1 R1)
  (hE:∀ y B1 R1,Y y B1 R1->E cx ((d,y)::F2 (names R0) T) (B1++CX (names R0) B) (R1++R) (wpList P ops Q l)):E cx T B R (wpList P ops Q (o::l)):=
 OT (fun b=>b) (fun r=>r) hg hd hn ho hc (LentI.lent ⟨fun _ _ h=>hB.get h,fun _ _ h=>hR.get h⟩) hx hxs (by rw[DR];exact hys) hf hY fun y B1 R1 hy=>by
  rw[IV.ren_id,ML,M8,List.map_id']
  exact hE y B1 R1 hy
end
end
section
def off(d:Nat):TL->TL
 | []=>[]
 | (j,x)::l=>bif Nat.beq j d then off d l else(j,x)::off d l
section
variable{P:Program}{cx:Cx}{T T' T2:TL}{B:BL}{R:RL}
end
end
section
section
variable{P:Program}{cx:Cx}{T:TL}{B:BL}{R:RL}
def LentBr(ρ σ:Nat->Nat)(B:BL):BL->Prop
 | []=>True
 | (b,x)::l=>lk (ρ b) B=some ⟨x.ty,x.cs.map (·.ren ρ σ)⟩/\LentBr ρ σ B l
def LentRr(σ:Nat->Nat)(R:RL):RL->Prop
 | []=>True
 | (r,x)::l=>lk (σ r) R=some x/\LentRr σ R l
theorem LentBr.get{ρ σ:Nat->Nat}:∀ {B0:BL} (_:LentBr ρ σ B B0) {b:Nat} {x:Bx},lk b B0=some x->lk (ρ b) B=some ⟨x.ty,x.cs.map (·.ren ρ σ)⟩
 | (c,y)::l,h,b,x,hx=>by
  rcases AX hx with⟨rfl,rfl⟩ | ⟨_,hx⟩
  ·exact h.1
  ·exact LentBr.get h.2 hx
 | [],_,_,_,hx=>by cases hx
theorem LentRr.get{σ:Nat->Nat}:∀ {R0:RL} (_:LentRr σ R R0) {b:Nat} {x:Rw},lk b R0=some x->lk (σ b) R=some x
 | (c,y)::l,h,b,x,hx=>by
  rcases AX hx with⟨rfl,rfl⟩ | ⟨_,hx⟩
  ·exact h.1
  ·exact LentRr.get h.2 hx
 | [],_,_,_,hx=>by cases hx
end
end
section
section
variable{P:Program}{cx:Cx}{T:TL}{B:BL}{R:RL}{M:Nat->Nat}{V:Nat->Value}{o:Oper}
theorem EFx.more{gls gls':List (Nat×List Value)}{f:FuncId}{ps:List Part}{Y:IV->Prop}(h:EFx P gls f ps Y)(hs:∀ x,x∈gls->x∈gls'):EFx P gls' f ps Y:=fun w D vs hD hG hp=>h w D vs hD (fun g cs hg=>hG g cs (hs _ hg)) hp
end
end
section
section
variable{P:Program}{cx:Cx}{T:TL}{B:BL}{R:RL}{o:Oper}
theorem BA{f:FuncId}{x:Operand}{xs:List Operand}{ts:Array TypeId}{ps:List Part}{y:IV}(ho:o.op=.call { callee:=.value x,args:=xs.toArray,argTypes:=ts })(hc:AT P f=true)(hxf:Kn T x (.is (.func (.func f) #[] #[])))(hf:EF P cx.gl f ps y)(hx:KnA T xs ps):LStep P cx B R o T y:=fun M V w a hh ht=>by
 have hkk:∀ y z,y∈x::xs->Kn T y z->VR w (Dc cx B R M V w) M V z (a.eval y):=fun y z hm hkx=>hkx w _ M V a fun t z' e hz=>ht t z' (by
  subst e
  rw[ho]
  simpa[Op.operands,Call.operands]using hm) hz
 have he:a.eval x=.func (.func f) #[] #[]:=(hkk x _ (by simp) hxf).is_eq
 have hrun:(execOp a.eval o).run P w=.ok (.enter f (xs.map a.eval).toArray) w:=by
  simp[execOp,ho,resolve,he,Deferred.ofValue,invoke,CS hc]
 rw[hrun]
 refine⟨rfl,(KW hh (fun x z hm hkx=>hkk x z (by simp[hm]) hkx) hx hf).mono fun _ _ ⟨v,y',h1,h2,h3,h4⟩=>⟨v,h1,h3,h2▸h4⟩⟩
end
end
section
section
variable{P:Program}{cx:Cx}{T:TL}{B:BL}{R:RL}{o:Oper}
theorem PW{f:FuncId}{x y:Operand}{ts:Array TypeId}{u v r:Value}(ho:o.op=.call { callee:=.value (.func f),args := #[x,y],argTypes:=ts })(hf:∀ w:World,(callFunc f #[u,v]).run P w=.ok (.value r) w)(hx:Kn T x (.is u))(hy:Kn T y (.is v)):LStep P cx B R o T (.is r):=LStep.same fun M V w a _ hk=>by
 have h1:=(hk x _ (by simp[ho,Op.operands,Call.operands]) hx).is_eq
 have h2:=(hk y _ (by simp[ho,Op.operands,Call.operands]) hy).is_eq
 have he:a.eval (.func f)=.func (.func f) #[] #[]:=rfl
 exact⟨_,by simp[execOp,ho,resolve,he,Deferred.ofValue,invoke,h1,h2,hf],.cell _⟩
variable{M:Nat->Nat}{V:Nat->Value}
end
end
section
section
variable{P:Program}{cx:Cx}{T:TL}{B:BL}{R:RL}{o:Oper}
variable{α:Type}
def MEs(w:World)(D:Nat->Prop)(kf:α->Value):List (α×Dat)->List MapEntry->Prop
 | [],[]=>True
 | p::ps,e::es=>e.key=kf p.1/\Lies w D p.2 e.val/\MEs w D kf ps es
 | _,_=>False
variable{w w':World}{D D':Nat->Prop}{kf:α->Value}
theorem MEs.length:∀ {ps:List (α×Dat)} {es:List MapEntry},MEs w D kf ps es->es.length=ps.length
 | [],[],_=>rfl
 | _::_,_::_,h=>by simp[MEs.length h.2.2]
 | [],_::_,h=>h.elim
 | _::_,[],h=>h.elim
theorem MEs.stay(hk:Keeps D w w')(hD:∀ g,D g->D' g):∀ {ps:List (α×Dat)} {es:List MapEntry},MEs w D kf ps es->MEs w' D' kf ps es
 | [],[],_=>trivial
 | _::_,_::_,h=>⟨h.1,h.2.1.stay hk hD,MEs.stay hk hD h.2.2⟩
 | [],_::_,h=>h.elim
 | _::_,[],h=>h.elim
variable[DecidableEq α]
end
end
section
theorem Imp.ptr_ref(t:TypeId)(ds:List Dat):Imp (.part (.one (.ptr t ds))) (.ref ds):=fun w D M V v h=>by
 have h':Lies w D (.ptr t ds) v:=h
 cases h' with
 | ptr b t ds xs hD hb hl hx=>exact⟨b,0,rfl,hD,xs,⟨hl,fun j d x h1 h2=>hx j d x h1 h2⟩,fun j x hj=>by rw[Nat.zero_add,hb.cell];exact hj⟩
section
variable{P:Program}{cx:Cx}{T:TL}{B:BL}{R:RL}{o:Oper}
def Far(y y':IV):Prop:=∀ (w:World) (D:Nat->Prop) (M:Nat->Nat) (V:Nat->Value) (w':World) (D':Nat->Prop) (M':Nat->Nat) (V':Nat->Value) (v:Value),VR w D M V y v->VR w' D' M' V' y' v
theorem Far.is(v:Value):Far (.is v) (.is v):=fun w D M V w' D' M' V' u h=>by
 obtain rfl:=VR.is_eq h
 exact .cell _
def Q7(n:Nat)(_ v:Value):Prop:=∃ p c,v=.slice p n c
theorem Far.row(r k n:Nat)(ds:List Dat):Far (.part (.one (.row k n ds))) (.via r (Q7 n)):=fun w D M V w' D' M' V' u h=>by
 obtain⟨p,c,h1⟩:=IH h
 exact⟨p,c,h1⟩
variable{ops:Array Oper}{Q:Exit->Act->World->Prop}{l:List Oper}
end
end
section
section
variable{P:Program}{cx:Cx}{T:TL}{B:BL}{R:RL}{ops:Array Oper}{Q:Exit->Act->World->Prop}{deps:List (List Nat)}
def AnyE(P:Program)(cx:Cx)(T:TL)(B:BL)(R:RL)(ops:Array Oper)(Q:Exit->Act->World->Prop)(fuel:Nat)(L:List Bool):List Nat->Prop
 | []=>True
 | i::is=>E cx T B R (wpOp P ops Q i (wpAny P .any ops Q fuel (L.set i true).toArray))/\AnyE P cx T B R ops Q fuel L is
theorem AnyE.get{fuel:Nat}{L:List Bool}:∀ {is:List Nat} (_:AnyE P cx T B R ops Q fuel L is) {i:Nat},i∈is->E cx T B R (wpOp P ops Q i (wpAny P .any ops Q fuel (L.set i true).toArray))
 | j::is,h,i,hi=>by
  rcases List.mem_cons.1 hi with rfl | hi
  ·exact h.1
  ·exact AnyE.get h.2 hi
 | [],_,_,hi=>by cases hi
end
end
section
def IQ(L:List Bool):List (Nat×Nat×IV)->TL
 | []=>[]
 | (i,s,y)::es=>bif L.getD i false then(s,y)::IQ L es else IQ L es
def OH(L:List Bool):List Nat->List (Nat×Nat×Bx)->BL
 | _,[]=>[]
 | sn,(i,s,y)::es=>bif L.getD i false && !(sn.any fun c=>Nat.beq c s)then(s,y)::OH L (s::sn) es else OH L sn es
def MH(L:List Bool)(es:List (Nat×Nat×Bx)):BL:=OH L [] es
section
variable{P:Program}{cx:Cx}{T0:TL}{B0:BL}{R:RL}{ops:Array Oper}{Q:Exit->Act->World->Prop}{deps:List (List Nat)}{es:List (Nat×Nat×IV)}{bs:List (Nat×Nat×Bx)}
def AllSteps(P:Program)(cx:Cx)(T0:TL)(B0:BL)(R:RL)(ops:Array Oper)(Q:Exit->Act->World->Prop)(es:List (Nat×Nat×IV))(bs:List (Nat×Nat×Bx)):List (List Bool×Nat)->Prop
 | []=>True
 | (L,i)::r=>(∀ K,E cx (T0++IQ (L.set i true) es) (MH (L.set i true) bs++B0) R K->E cx (T0++IQ L es) (MH L bs++B0) R (wpOp P ops Q i K))/\AllSteps P cx T0 B0 R ops Q es bs r
theorem AllSteps.get:∀ {st:List (List Bool×Nat)} (_:AllSteps P cx T0 B0 R ops Q es bs st) {L:List Bool} {i:Nat},(L,i)∈st -> ∀ K,E cx (T0++IQ (L.set i true) es) (MH (L.set i true) bs++B0) R K->E cx (T0++IQ L es) (MH L bs++B0) R (wpOp P ops Q i K)
 | (L',j)::r,h,L,i,hm=>by
  rcases List.mem_cons.1 hm with e | hm
  ·injection e with e1 e2
   subst e1 e2
   exact h.1
  ·exact AllSteps.get h.2 hm
 | [],_,_,_,hm=>by cases hm
theorem AnyE.of{T:TL}{B:BL}{fuel:Nat}{L:List Bool}:∀ {is:List Nat},(∀ i∈is,E cx T B R (wpOp P ops Q i (wpAny P .any ops Q fuel (L.set i true).toArray)))->AnyE P cx T B R ops Q fuel L is
 | [],_=>trivial
 | i::is,h=>⟨h i List.mem_cons_self,AnyE.of fun j hj=>h j (List.mem_cons_of_mem _ hj)⟩
end
end
section
section
variable{P:Program}
variable{cx:Cx}{T:TL}{B:BL}{R:RL}{M:Nat->Nat}{V:Nat->Value}{o:Oper}
theorem AW{x:Operand}{y z:IV}(h:Kn T x y)(hi:Imp y z):Kn T x z:=fun w D M V a hT=>hi w D M V _ (h w D M V a hT)
variable{α:Type}{kf:α->Value}[DecidableEq α]
end
def BS{α:Type}(L:List Bool):List Nat->List (Nat×Nat×α)->List (Nat×α)
 | _,[]=>[]
 | sn,(i,s,y)::es=>bif L.getD i false && !(sn.any fun c=>Nat.beq c s)then(s,y)::BS L (s::sn) es else BS L sn es
section
variable{P:Program}{cx:Cx}{T0:TL}{B0:BL}{R0:RL}{ops:Array Oper}{Q:Exit->Act->World->Prop}{deps:List (List Nat)}{es:List (Nat×Nat×IV)}{bs:List (Nat×Nat×Bx)}{rs:List (Nat×Nat×Rw)}
def AllStepsR(P:Program)(cx:Cx)(T0:TL)(B0:BL)(R0:RL)(ops:Array Oper)(Q:Exit->Act->World->Prop)(es:List (Nat×Nat×IV))(bs:List (Nat×Nat×Bx))(rs:List (Nat×Nat×Rw)):List (List Bool×Nat)->Prop
 | []=>True
 | (L,i)::r=>(∀ K,E cx (T0++BS (L.set i true) [] es) (BS (L.set i true) [] bs++B0) (BS (L.set i true) [] rs++R0) K->E cx (T0++BS L [] es) (BS L [] bs++B0) (BS L [] rs++R0) (wpOp P ops Q i K))/\AllStepsR P cx T0 B0 R0 ops Q es bs rs r
theorem AllStepsR.get:∀ {st:List (List Bool×Nat)} (_:AllStepsR P cx T0 B0 R0 ops Q es bs rs st) {L:List Bool} {i:Nat},(L,i)∈st -> ∀ K,E cx (T0++BS (L.set i true) [] es) (BS (L.set i true) [] bs++B0) (BS (L.set i true) [] rs++R0) K->E cx (T0++BS L [] es) (BS L [] bs++B0) (BS L [] rs++R0) (wpOp P ops Q i K)
 | (L',j)::r,h,L,i,hm=>by
  rcases List.mem_cons.1 hm with e | hm
  ·injection e with e1 e2
   subst e1 e2
   exact h.1
  ·exact AllStepsR.get h.2 hm
 | [],_,_,_,hm=>by cases hm
end
end
section
inductive Alike3 (P:Program) (t:TypeId):Value->Value->Prop where
 | int (k k':IntKind) (a b:Int) (h:P.underlying t=some (.int k')):Alike3 P t (.int k a) (.int k b)
 | str (a b:List UInt8) (h:P.underlying t=some .string):Alike3 P t (.string (str a)) (.string (str b))
 | bool (a b:Bool) (h:P.underlying t=some .bool):Alike3 P t (.bool a) (.bool b)
theorem Alike3.plain{P:Program}{t:TypeId}{a b:Value}(h:Alike3 P t a b):(P.underlying t=some .string\/P.underlying t=some .bool) \/ ∃ k,P.underlying t=some (.int k):=by
 cases h with
 | int k k' a b hu=>exact .inr ⟨k',hu⟩
 | str a b hu=>exact .inl (.inl hu)
 | bool a b hu=>exact .inl (.inr hu)
section
variable{P:Program}{cx:Cx}{T:TL}{B:BL}{R:RL}{o:Oper}
end
end
section
theorem GK{w:World}{D:Nat->Prop}:∀ {vs us:List Value},PsFit w D (vs.map fun v=>.one (.cell v)) us->us=vs
 | [],[],_=>rfl
 | v::vs,u::us,h=>by
  obtain rfl:=Lies.cell_eq h.1
  rw[GK h.2]
 | [],_::_,h=>h.elim
 | _::_,[],h=>h.elim
theorem HW(w:World)(D:Nat->Prop):∀ vs:List Value,PsFit w D (vs.map fun v=>.one (.cell v)) vs
 | []=>trivial
 | v::vs=>⟨.cell v,HW w D vs⟩
section
variable{P:Program}{cx:Cx}{T:TL}{B:BL}{R:RL}{o:Oper}
end
end
section
def Q9(P:Program)(Q:World->Prop)(gls:List (Nat×List Value))(f:FuncId)(ps:List Part)(Y:IV->Prop):Prop:=
 ∀ (w:World) (D:Nat->Prop) (vs:List Value),(∀ g,D g->g<w.heap.size)->PR gls w->Q w->PsFit w D ps vs->Calls P f vs.toArray w (L7 w D Y)
theorem EFx.q{P:Program}{Q:World->Prop}{gls gls':List (Nat×List Value)}{f:FuncId}{ps:List Part}{Y:IV->Prop}(h:EFx P gls f ps Y)(hs:∀ x,x∈gls->x∈gls'):Q9 P Q gls' f ps Y:=fun w D vs hD hG _ hp=>h w D vs hD (fun g cs hg=>hG g cs (hs _ hg)) hp
section
variable{P:Program}{cx:Cx}{T:TL}{B:BL}{R:RL}{o:Oper}{Q:World->Prop}
end
end
section
abbrev Q8(r:Nat)(v0:Value):IV:=.via r fun a _=>a=v0
section
variable{P:Program}{cx:Cx}{T:TL}{B:BL}{R:RL}{M:Nat->Nat}{V:Nat->Value}{o:Oper}
section
variable{ops:Array Oper}{Q:Exit->Act->World->Prop}{l:List Oper}
end
end
end
section
theorem Lies.kid{w:World}{D:Nat->Prop}{d:Dat}{x:Value}(h:Lies w D d x):KidFit w D d x/\kidBlk d=Option.none:=by
 cases d with
 | orow=>cases h
 | optr=>cases h
 | _=>exact⟨h,rfl⟩
variable{P:Program}{cx:Cx}{T:TL}{B:BL}{R:RL}{M:Nat->Nat}{V:Nat->Value}{o:Oper}{ops:Array Oper}{Q:Exit->Act->World->Prop}{l:List Oper}
end
end Go.Proofs.Ytojdpgeeajaojaa
