/- Part 9. Conditions: as each theorem says. -/
import Derived.Test.YtecfdcdkkgmkpaaIT08
import Derived.Test.YtecfdcdkkgmkpaaProg
import Derived.Laws.StructEq
import Derived.Laws.Entries
import Derived.Laws.Small
import Derived.ChangeMaps5
set_option maxRecDepth 100000
namespace Go.Proofs.Ytecfdcdkkgmkpaa
open Go.RowKit
section
open Go Go.RowKit
inductive Ed where
 | mk (kind:Int) (old new:Vl) (fields:List (Int×Ed)) (rests:Bool) (ro rn:List UInt8) (steps:List ((Int×Int×Vl)×Ed)) (keys:List (Vl×Ed))
instance:Inhabited Ed:=⟨.mk 0 default default [] false [] [] [] []⟩
namespace Ed
def kind:Ed->Int | .mk k _ _ _ _ _ _ _ _=>k
def old:Ed->Vl | .mk _ o _ _ _ _ _ _ _=>o
def new:Ed->Vl | .mk _ _ n _ _ _ _ _ _=>n
def fields:Ed->List (Int×Ed) | .mk _ _ _ f _ _ _ _ _=>f
def rests:Ed->Bool | .mk _ _ _ _ r _ _ _ _=>r
def ro:Ed->List UInt8 | .mk _ _ _ _ _ r _ _ _=>r
def rn:Ed->List UInt8 | .mk _ _ _ _ _ _ r _ _=>r
def steps:Ed->List ((Int×Int×Vl)×Ed) | .mk _ _ _ _ _ _ _ s _=>s
def keys:Ed->List (Vl×Ed) | .mk _ _ _ _ _ _ _ _ k=>k
theorem eta(e:Ed):e=.mk e.kind e.old e.new e.fields e.rests e.ro e.rn e.steps e.keys:=by cases e;rfl
def kids(e:Ed):List Ed:=e.fields.map (·.2)++(e.steps.map (·.2)++e.keys.map (·.2))
theorem kid_f{e:Ed}{p:Int×Ed}(h:p∈e.fields):p.2∈e.kids:=List.mem_append_left _ (List.mem_map.2 ⟨p,h,rfl⟩)
theorem kid_s{e:Ed}{p:(Int×Int×Vl)×Ed}(h:p∈e.steps):p.2∈e.kids:=List.mem_append_right _ (List.mem_append_left _ (List.mem_map.2 ⟨p,h,rfl⟩))
theorem kid_k{e:Ed}{p:Vl×Ed}(h:p∈e.keys):p.2∈e.kids:=List.mem_append_right _ (List.mem_append_right _ (List.mem_map.2 ⟨p,h,rfl⟩))
theorem WW{e x:Ed}(h:x∈e.kids):SizeOf.sizeOf x<SizeOf.sizeOf e:=by
 cases e with
 | mk k o n fs r ro rn ss ks=>
  rcases List.mem_append.1 h with h | h
  ·obtain⟨⟨i,y⟩,hp,rfl⟩:=List.mem_map.1 h
   have h1:=List.sizeOf_lt_of_mem (show(i,y)∈fs from hp)
   simp at h1 ⊢
   omega
  rcases List.mem_append.1 h with h | h
  ·obtain⟨⟨i,y⟩,hp,rfl⟩:=List.mem_map.1 h
   have h1:=List.sizeOf_lt_of_mem (show(i,y)∈ss from hp)
   simp at h1 ⊢
   omega
  ·obtain⟨⟨i,y⟩,hp,rfl⟩:=List.mem_map.1 h
   have h1:=List.sizeOf_lt_of_mem (show(i,y)∈ks from hp)
   simp at h1 ⊢
   omega
theorem kids_ind{P:Ed->Prop}(h:∀ e:Ed,(∀ x∈e.kids,P x)->P e)(e:Ed):P e:=by
 generalize hn:SizeOf.sizeOf e=n
 induction n using Nat.strongRecOn generalizing e with
 | ind n ih=>
  subst hn
  exact h e fun x hx=>ih _ (WW hx) _ rfl
end Ed
mutual
def ecata{β:Type}(f:Ed->List β->List β->List β->β):Ed->β
 | .mk k o n fs r ro rn ss ks=>f (.mk k o n fs r ro rn ss ks) (fcata f fs) (scata f ss) (kcata f ks)
def fcata{β:Type}(f:Ed->List β->List β->List β->β):List (Int×Ed)->List β
 | []=>[]
 | (_,e)::l=>ecata f e::fcata f l
def scata{β:Type}(f:Ed->List β->List β->List β->β):List ((Int×Int×Vl)×Ed)->List β
 | []=>[]
 | (_,e)::l=>ecata f e::scata f l
def kcata{β:Type}(f:Ed->List β->List β->List β->β):List (Vl×Ed)->List β
 | []=>[]
 | (_,e)::l=>ecata f e::kcata f l
end
section
variable{β:Type}(f:Ed->List β->List β->List β->β)
theorem P1:∀ l:List (Int×Ed),fcata f l=l.map fun p=>ecata f p.2
 | []=>by simp[fcata]
 | (n,x)::l=>by rw[fcata,P1 l];rfl
theorem OF:∀ l:List ((Int×Int×Vl)×Ed),scata f l=l.map fun p=>ecata f p.2
 | []=>by simp[scata]
 | (n,x)::l=>by rw[scata,OF l];rfl
theorem OL:∀ l:List (Vl×Ed),kcata f l=l.map fun p=>ecata f p.2
 | []=>by simp[kcata]
 | (n,x)::l=>by rw[kcata,OL l];rfl
theorem EM(e:Ed):ecata f e=f e (e.fields.map fun p=>ecata f p.2) (e.steps.map fun p=>ecata f p.2) (e.keys.map fun p=>ecata f p.2):=by
 cases e
 rw[ecata,P1,OF,OL]
 rfl
end
theorem FT{α β γ:Type}(g:α->β->γ)(h:α->β):∀ l:List α,List.zipWith g l (l.map h)=l.map fun x=>g x (h x)
 | []=>rfl
 | x::l=>by rw[List.map_cons,List.zipWith_cons_cons,FT g h l];rfl
def V6(_:Ed)(a b c:List Nat):Nat:=1+(a.sum+b.sum+c.sum)
def ecount(e:Ed):Nat:=ecata V6 e
def U5(e:Ed)(a b c:List Nat):Nat:=if e.kind=0 then 0 else 1+vsize e.old+vsize e.new+a.sum+(List.zipWith (fun(s:(Int×Int×Vl)×Ed) n=>1+vsize s.1.2.2+n) e.steps b).sum+(List.zipWith (fun(s:Vl×Ed) n=>vsize s.1+n) e.keys c).sum
def BU(e:Ed):Nat:=ecata U5 e
def DI(l:List Nat):Nat:=l.foldl max 0
def RX(e:Ed)(a b c:List Nat):Nat:=if e.kind=0 then 0 else 1+DI (a++(b++c))
def BN(e:Ed):Nat:=ecata RX e
theorem DB(e:Ed):ecount e=1+((e.fields.map fun p=>ecount p.2).sum+(e.steps.map fun p=>ecount p.2).sum+(e.keys.map fun p=>ecount p.2).sum):=by
 unfold ecount;rw[EM];rfl
theorem I4(e:Ed):BU e=if e.kind=0 then 0 else 1+vsize e.old+vsize e.new+(e.fields.map fun p=>BU p.2).sum+(e.steps.map fun s=>1+vsize s.1.2.2+BU s.2).sum+(e.keys.map fun s=>vsize s.1+BU s.2).sum:=by
 unfold BU;rw[EM,U5,FT,FT]
theorem MV(e:Ed):BN e=if e.kind=0 then 0 else 1+DI (e.kids.map BN):=by
 unfold BN
 rw[EM,RX,Ed.kids,List.map_append,List.map_append,List.map_map,List.map_map,List.map_map]
 rfl
theorem FV(l:List Nat):∀ n,l.foldl max n=max n (l.foldl max 0):=by
 induction l with
 | nil=>intro n;simp
 | cons x l ih=>
  intro n
  rw[List.foldl_cons,List.foldl_cons,ih (max n x),ih (max 0 x)]
  omega
theorem GN(a b:List Nat):DI (a++b)=max (DI a) (DI b):=by
 unfold DI
 rw[List.foldl_append,FV b]
theorem SE(a:List Nat)(n:Nat):DI (a++[n])=max (DI a) n:=by
 rw[GN]
 unfold DI
 simp
theorem VN{l:List Nat}{n:Nat}(h:∀ x∈l,x<=n):DI l<=n:=by
 induction l with
 | nil=>simp[DI]
 | cons x l ih=>
  have h1:=ih fun y hy=>h y (List.mem_cons_of_mem _ hy)
  have h2:=h x List.mem_cons_self
  unfold DI at h1 ⊢
  rw[List.foldl_cons,FV]
  omega
theorem GU{α:Type}{f g:α->Nat}{c:Nat}{l:List α}(h:∀ x∈l,f x<=c*g x):(l.map f).sum<=c*(l.map g).sum:=by
 induction l with
 | nil=>simp
 | cons x l ih=>
  have h1:=ih fun y hy=>h y (List.mem_cons_of_mem _ hy)
  have h2:=h x List.mem_cons_self
  rw[List.map_cons,List.map_cons,List.sum_cons,List.sum_cons,Nat.mul_add]
  omega
theorem PY(l:List Nat)(k:Nat):(l.take k).sum<=l.sum:=by
 have h:(l.take k++l.drop k).sum=l.sum:=by rw[List.take_append_drop]
 rw[List.sum_append]at h
 omega
theorem F4{α:Type}{f:α->Nat}{l:List α}{k:Nat}{x:α}(h:l[k]?=some x):((l.take (k+1)).map f).sum=((l.take k).map f).sum+f x:=by
 rw[List.take_add_one,h]
 simp
theorem FM{α:Type}(f:α->Nat)(l:List α)(k:Nat):((l.take k).map f).sum<=(l.map f).sum:=by
 rw[List.map_take]
 exact PY _ _
theorem EI{α:Type}{f:α->Nat}{l:List α}{k:Nat}{x:α}(h:l[k]?=some x):DI ((l.take (k+1)).map f)=max (DI ((l.take k).map f)) (f x):=by
 rw[List.take_add_one,h]
 simp only[Option.toList_some,List.map_append,List.map_cons,List.map_nil]
 exact SE _ _
theorem KA{l:List Nat}{n:Nat}(h:n∈l):n<=l.sum:=by
 induction l with
 | nil=>cases h
 | cons x l ih=>
  rw[List.sum_cons]
  rcases List.mem_cons.1 h with rfl | h
  ·omega
  ·have:=ih h;omega
theorem EN(e:Ed):0<ecount e:=by rw[DB];omega
theorem JI(e:Ed):ecount e=1+(e.kids.map ecount).sum:=by
 rw[DB,Ed.kids,List.map_append,List.map_append,List.sum_append,List.sum_append,List.map_map,List.map_map,List.map_map]
 simp only[Function.comp_def]
 omega
theorem QG{e x:Ed}(h:x∈e.kids):ecount x<ecount e:=by
 have:=KA (List.mem_map.2 ⟨x,h,rfl⟩:ecount x∈e.kids.map ecount)
 rw[JI e]
 omega
structure VSm (n:Nat) (v:Vl):Prop where
 fine:v.Fine
 tx:v.Tx
 nodes:vnodes v<=n
theorem VSm.mono{n m:Nat}{v:Vl}(h:VSm n v)(hm:n<=m):VSm m v:=⟨h.fine,h.tx,Nat.le_trans h.nodes hm⟩
def I64(z:Int):Prop := -9223372036854775808<=z/\z<9223372036854775808
inductive Ed.Fine:Ed->Prop where
 | mk (e:Ed):I64 e.kind->e.old.Fine->e.new.Fine->(e.ro.length<=maxLen/\e.rn.length<=maxLen/\e.fields.length<=maxLen/\e.steps.length<=maxLen/\e.keys.length<=maxLen)->(∀ p∈e.fields,I64 p.1)->(∀ p∈e.steps,I64 p.1.1/\I64 p.1.2.1/\p.1.2.2.Fine)->(∀ p∈e.keys,p.1.Fine)->(∀ x∈e.kids,Fine x)->Fine e
inductive Ed.Ok:Ed->Prop where
 | mk (e:Ed):I64 e.kind->VSm 80 e.old->VSm 80 e.new->e.ro.length<=300->e.rn.length<=300->(∀ p∈e.fields,I64 p.1)->(∀ p∈e.steps,I64 p.1.1 /\ -9223372036854775808<=p.1.2.1/\p.1.2.1<=2097152/\VSm 80 p.1.2.2)->(∀ p∈e.keys,VSm 20 p.1)->(∀ x∈e.kids,Ok x)->Ok e
theorem Ed.Fine.kid{e x:Ed}(h:e.Fine)(hx:x∈e.kids):x.Fine:=by
 cases h with
 | mk e a b c d f g i j=>exact j x hx
theorem Ed.Ok.kid{e x:Ed}(h:e.Ok)(hx:x∈e.kids):x.Ok:=by
 cases h with
 | mk e a b c d f g i j k=>exact k x hx
theorem Ed.Ok.all{e:Ed}(h:e.Ok):I64 e.kind/\VSm 80 e.old/\VSm 80 e.new/\e.ro.length<=300/\e.rn.length<=300/\(∀ p∈e.fields,I64 p.1)/\(∀ p∈e.steps,I64 p.1.1 /\ -9223372036854775808<=p.1.2.1/\p.1.2.1<=2097152/\VSm 80 p.1.2.2)/\(∀ p∈e.keys,VSm 20 p.1):=by
 cases h
 exact⟨‹_›,‹_›,‹_›,‹_›,‹_›,‹_›,‹_›,‹_›⟩
theorem Ed.Fine.all{e:Ed}(h:e.Fine):I64 e.kind/\e.old.Fine/\e.new.Fine/\(e.ro.length<=maxLen/\e.rn.length<=maxLen/\e.fields.length<=maxLen/\e.steps.length<=maxLen/\e.keys.length<=maxLen)/\(∀ p∈e.fields,I64 p.1)/\(∀ p∈e.steps,I64 p.1.1/\I64 p.1.2.1/\p.1.2.2.Fine)/\(∀ p∈e.keys,p.1.Fine):=by
 cases h
 exact⟨‹_›,‹_›,‹_›,‹_›,‹_›,‹_›,‹_›⟩
structure Ed.Sm (e:Ed):Prop where
 ok:e.Ok
 count:ecount e<=80
theorem Ed.Sm.kid{e x:Ed}(h:e.Sm)(hx:x∈e.kids):x.Sm:=⟨h.ok.kid hx,by have:=QG hx;have:=h.count;omega⟩
theorem HF{α:Type}(l:List α)(f:α->Nat)(h:∀ x∈l,0<f x):l.length<=(l.map f).sum:=by
 induction l with
 | nil=>simp
 | cons x l ih=>
  have h1:=ih fun y hy=>h y (List.mem_cons_of_mem _ hy)
  have h2:=h x List.mem_cons_self
  rw[List.map_cons,List.sum_cons,List.length_cons]
  omega
theorem Ed.Sm.lens{e:Ed}(h:e.Sm):e.fields.length+e.steps.length+e.keys.length<=80:=by
 have h1:=h.count
 rw[DB]at h1
 have h2:=HF e.fields (fun p=>ecount p.2) fun _ _=>EN _
 have h3:=HF e.steps (fun p=>ecount p.2) fun _ _=>EN _
 have h4:=HF e.keys (fun p=>ecount p.2) fun _ _=>EN _
 omega
theorem E1{n:Nat}{v:Vl}(h:VSm n v):vsize v<=n:=Nat.le_trans (RO v).1 h.nodes
theorem TX(e:Ed):e.Ok->BU e+81<=300*ecount e:=by
 refine Ed.kids_ind (P:=fun e=>e.Ok->BU e+81<=300*ecount e) (fun e ih h=>?_) e
 have hp:=EN e
 rw[I4]
 obtain⟨_,h1,h2,_,_,_,h3,h4⟩:=h.all
 split
 ·omega
 rw[DB]
 have a1:=E1 h1
 have a2:=E1 h2
 have b1:(e.fields.map fun p=>BU p.2).sum<=300*(e.fields.map fun p=>ecount p.2).sum:=GU fun p hp=>by
  have:=ih _ (Ed.kid_f hp) (h.kid (Ed.kid_f hp))
  omega
 have b2:(e.steps.map fun s=>1+vsize s.1.2.2+BU s.2).sum<=300*(e.steps.map fun p=>ecount p.2).sum:=GU fun p hp=>by
  have:=ih _ (Ed.kid_s hp) (h.kid (Ed.kid_s hp))
  have:=E1 (h3 p hp).2.2.2
  omega
 have b3:(e.keys.map fun s=>vsize s.1+BU s.2).sum<=300*(e.keys.map fun p=>ecount p.2).sum:=GU fun p hp=>by
  have:=ih _ (Ed.kid_k hp) (h.kid (Ed.kid_k hp))
  have:=E1 (h4 p hp)
  omega
 omega
theorem U2(l:List Nat):DI l<=l.sum:=VN fun _ h=>KA h
theorem TI{α:Type}{f g:α->Nat}{l:List α}(h:∀ x∈l,f x<=g x):(l.map f).sum<=(l.map g).sum:=by
 have:=GU (c:=1) (l:=l) (f:=f) (g:=g) fun x hx=>by have:=h x hx;omega
 omega
theorem TA(e:Ed):BN e<=ecount e:=by
 refine Ed.kids_ind (P:=fun e=>BN e<=ecount e) (fun e ih=>?_) e
 have hp:=EN e
 rw[MV]
 split
 ·omega
 rw[JI]
 have:=U2 (e.kids.map BN)
 have:=TI (f:=BN) (g:=ecount) (l:=e.kids) fun x hx=>ih x hx
 omega
theorem Ed.Sm.bounds{e:Ed}(h:e.Sm):BU e<=24000/\BN e<=80:=by
 have h1:=TX e h.ok
 have h2:=TA e
 have:=h.count
 omega
def BE{α:Type}(ok:α->Bool)(ah:α->α->Bool):Option α->List α->Bool
 | _,[]=>true
 | none,x::l=>ok x&&BE ok ah (some x) l
 | some p,x::l=>ok x&&ah p x&&BE ok ah (some x) l
theorem E4{α β:Type}(g:α->β)(ok:β->Bool)(ah:β->β->Bool):∀ (o:Option α) (l:List α),BE ok ah (o.map g) (l.map g)=BE (fun x=>ok (g x)) (fun x y=>ah (g x) (g y)) o l
 | _,[]=>by simp[BE]
 | none,x::l=>by
  have:=E4 g ok ah (some x) l
  rw[Option.map_none,List.map_cons,BE,BE,<- this]
  rfl
 | some p,x::l=>by
  have:=E4 g ok ah (some x) l
  rw[Option.map_some,List.map_cons,BE,BE,<- this]
  rfl
theorem FQ{α β:Type}(h:α->β):∀ l:List α,l.zip (l.map h)=l.map fun x=>(x,h x)
 | []=>rfl
 | x::l=>by rw[List.map_cons,List.zip_cons_cons,FQ h l];rfl
def DC{α:Type}(l:List α)(k:Nat):Option α:=if k=0 then none else l[k-1]?
theorem KW{α:Type}{l:List α}{k:Nat}{x:α}(h:l[k]?=some x):DC l (k+1)=some x:=by
 unfold DC
 rw[if_neg (by omega),Nat.add_sub_cancel,h]
theorem KO{α:Type}{ok:α->Bool}{ah:α->α->Bool}{l:List α}{k:Nat}(hk:l.length<=k)(h:BE ok ah none l=BE ok ah (DC l k) (l.drop k)):BE ok ah none l=true:=by
 rw[h,List.drop_eq_nil_of_le hk]
 cases DC l k<;>rfl
theorem F9{α:Type}{ok:α->Bool}{ah:α->α->Bool}{l:List α}{k:Nat}{x:α}(hx:l[k]?=some x)(h:BE ok ah none l=BE ok ah (DC l k) (l.drop k))(hn:ok x=false \/ ∃ p,DC l k=some p/\ah p x=false):BE ok ah none l=false:=by
 rw[h,BQ hx]
 rcases hn with hn | ⟨p,hp,hn⟩
 ·cases DC l k<;>simp[BE,hn]
 ·rw[hp]
  simp[BE,hn]
theorem J9{α:Type}{ok:α->Bool}{ah:α->α->Bool}{l:List α}{k:Nat}{x:α}(hx:l[k]?=some x)(h:BE ok ah none l=BE ok ah (DC l k) (l.drop k))(h1:ok x=true)(h2:∀ p,DC l k=some p->ah p x=true):BE ok ah none l=BE ok ah (DC l (k+1)) (l.drop (k+1)):=by
 rw[h,BQ hx,KW hx]
 cases hp:DC l k with
 | none=>simp[BE,h1]
 | some p=>simp[BE,h1,h2 p hp]
def DZ(v:Vl):Bool:=decide (v.kind=0)&&vright v
def KE(v:Vl):Bool:=(decide (v.kind=1)||decide (v.kind=2)||decide (v.kind=3))&&vright v
def DN(a b:Vl):Bool:=decide (vcmp a b=0)
def E3(e:Ed):Bool:=
 (decide (e.kind=1)||(DZ e.old&&DZ e.new))&&(decide (e.kind=2)||(e.fields.isEmpty && !e.rests&&e.ro.isEmpty&&e.rn.isEmpty))&&(decide (e.kind=3)||e.steps.isEmpty)&&(decide (e.kind=4)||e.keys.isEmpty)
def H4(p:Int×Ed)(b:Bool):Bool:=decide (1<=p.1)&&decide (p.1<=536870911)&&(!decide (p.2.kind=0)&&b)
def EZ(p q:Int×Ed):Bool:=decide (p.1<q.1)
def HO(s:(Int×Int×Vl)×Ed)(b:Bool):Bool:=
 if s.1.1=1 then decide (1<=s.1.2.1)&&decide (s.1.2.1<=1048576)&&DZ s.1.2.2&&(decide (s.2.kind=0)&&b)
 else if s.1.1=2\/s.1.1=3 then decide (s.1.2.1=0)&&KE s.1.2.2&&(decide (s.2.kind=0)&&b)
 else if s.1.1=4 then decide (s.1.2.1=0)&&DZ s.1.2.2&&(!decide (s.2.kind=0)&&b)
 else false
def C3(p q:(Int×Int×Vl)×Ed):Bool:=if p.1.1=1 then !decide (q.1.1=1)else if p.1.1=3 then !decide (q.1.1=2)else true
def J2(s:(Int×Int×Vl)×Ed):Bool := !decide (s.1.1=1)
def MU(p:Vl×Ed)(b:Bool):Bool:=(decide (p.1.kind=1)||decide (p.1.kind=2))&&vright p.1&&(!decide (p.2.kind=0)&&b)
def JS(p q:Vl×Ed):Bool:=decide (p.1.kind=q.1.kind)&&decide (vcmp p.1 q.1<0)
def LR(e:Ed):Bool:=if e.rests then !decide (e.ro=e.rn)else decide (e.ro=[])&&decide (e.rn=[])
def NB(e:Ed)(a b c:List Bool):Bool:=
 E3 e&&(if e.kind=0 then true
  else if e.kind=1 then vright e.old&&vright e.new && !DN e.old e.new
  else if e.kind=2 then LR e&&(e.rests || !e.fields.isEmpty)&&BE (fun q:(Int×Ed)×Bool=>H4 q.1 q.2) (fun p q=>EZ p.1 q.1) none (e.fields.zip a)
  else if e.kind=3 then e.steps.any J2&&BE (fun q:((Int×Int×Vl)×Ed)×Bool=>HO q.1 q.2) (fun p q=>C3 p.1 q.1) none (e.steps.zip b)
  else if e.kind=4 then !e.keys.isEmpty&&BE (fun q:(Vl×Ed)×Bool=>MU q.1 q.2) (fun p q=>JS p.1 q.1) none (e.keys.zip c)
  else false)
def B5(e:Ed):Bool:=ecata NB e
abbrev HG(p:Int×Ed):Bool:=H4 p (B5 p.2)
abbrev C6(p:(Int×Int×Vl)×Ed):Bool:=HO p (B5 p.2)
abbrev R8(p:Vl×Ed):Bool:=MU p (B5 p.2)
theorem DF(e:Ed):B5 e=(E3 e&&(if e.kind=0 then true
  else if e.kind=1 then vright e.old&&vright e.new && !DN e.old e.new
  else if e.kind=2 then LR e&&(e.rests || !e.fields.isEmpty)&&BE HG EZ none e.fields
  else if e.kind=3 then e.steps.any J2&&BE C6 C3 none e.steps
  else if e.kind=4 then !e.keys.isEmpty&&BE R8 JS none e.keys
  else false)):=by
 have h1:=E4 (fun x:Int×Ed=>(x,B5 x.2)) (fun q:(Int×Ed)×Bool=>H4 q.1 q.2) (fun p q=>EZ p.1 q.1) none e.fields
 have h2:=E4 (fun x:(Int×Int×Vl)×Ed=>(x,B5 x.2)) (fun q:((Int×Int×Vl)×Ed)×Bool=>HO q.1 q.2) (fun p q=>C3 p.1 q.1) none e.steps
 have h3:=E4 (fun x:Vl×Ed=>(x,B5 x.2)) (fun q:(Vl×Ed)×Bool=>MU q.1 q.2) (fun p q=>JS p.1 q.1) none e.keys
 show ecata NB e=_
 rw[EM,NB]
 show(E3 e&&(if e.kind=0 then true
  else if e.kind=1 then vright e.old&&vright e.new && !DN e.old e.new
  else if e.kind=2 then LR e&&(e.rests || !e.fields.isEmpty)&&BE (fun q:(Int×Ed)×Bool=>H4 q.1 q.2) (fun p q=>EZ p.1 q.1) none (e.fields.zip (e.fields.map fun p=>B5 p.2))
  else if e.kind=3 then e.steps.any J2&&BE (fun q:((Int×Int×Vl)×Ed)×Bool=>HO q.1 q.2) (fun p q=>C3 p.1 q.1) none (e.steps.zip (e.steps.map fun p=>B5 p.2))
  else if e.kind=4 then !e.keys.isEmpty&&BE (fun q:(Vl×Ed)×Bool=>MU q.1 q.2) (fun p q=>JS p.1 q.1) none (e.keys.zip (e.keys.map fun p=>B5 p.2))
  else false))=_
 rw[FQ,FQ,FQ]
 rw[Option.map_none]at h1 h2 h3
 rw[h1,h2,h3]
def C9{α β:Type}(p:α->β->Bool):List α->List β->Bool
 | [],[]=>true
 | x::l,y::m=>p x y&&C9 p l m
 | _,_=>false
theorem II{α β γ:Type}(g:α->β)(p:β->γ->Bool):∀ (l:List α) (m:List γ),C9 p (l.map g) m=C9 (fun x=>p (g x)) l m
 | [],[]=>rfl
 | [],_::_=>rfl
 | _::_,[]=>rfl
 | x::l,y::m=>by rw[List.map_cons,C9,C9,II g p l m]
theorem I3{α β:Type}{p:α->β->Bool}:∀ {l:List α} {m:List β},l.length≠m.length->C9 p l m=false
 | [],[],h=>absurd rfl h
 | [],_::_,_=>rfl
 | _::_,[],_=>rfl
 | x::l,y::m,h=>by
  rw[C9,I3 (l:=l) (m:=m) (by simpa using h)]
  exact Bool.and_false _
theorem LJ{α β:Type}{p:α->β->Bool}{l:List α}{m:List β}{k:Nat}(hl:l.length=m.length)(hk:l.length<=k)(h:C9 p l m=C9 p (l.drop k) (m.drop k)):C9 p l m=true:=by
 rw[h,List.drop_eq_nil_of_le hk,List.drop_eq_nil_of_le (by omega)]
 rfl
theorem IR{α β:Type}{p:α->β->Bool}{l:List α}{m:List β}{k:Nat}{x:α}{y:β}(hx:l[k]?=some x)(hy:m[k]?=some y)(h:C9 p l m=C9 p (l.drop k) (m.drop k)):C9 p l m=(p x y&&C9 p (l.drop (k+1)) (m.drop (k+1))):=by
 rw[h,BQ hx,BQ hy,C9]
theorem GY{α:Type}{p:α->α->Bool}:∀ {l:List α},(∀ x∈l,p x x=true)->C9 p l l=true
 | [],_=>rfl
 | x::l,h=>by
  rw[C9,h x List.mem_cons_self,GY fun y hy=>h y (List.mem_cons_of_mem _ hy)]
  rfl
def L5(e y:Ed):Bool:=decide (e.kind=y.kind)&&DN e.old y.old&&DN e.new y.new&&(e.rests==y.rests)&&decide (e.ro=y.ro)&&decide (e.rn=y.rn)
def WM(e:Ed)(a b c:List (Ed->Bool))(y:Ed):Bool:=
 L5 e y&&C9 (fun(q:(Int×Ed)×(Ed->Bool)) (z:Int×Ed)=>decide (q.1.1=z.1)&&q.2 z.2) (e.fields.zip a) y.fields
  && C9 (fun(q:((Int×Int×Vl)×Ed)×(Ed->Bool)) (z:(Int×Int×Vl)×Ed)=>decide (q.1.1.1=z.1.1)&&decide (q.1.1.2.1=z.1.2.1)&&DN q.1.1.2.2 z.1.2.2&&q.2 z.2) (e.steps.zip b) y.steps
  && C9 (fun(q:(Vl×Ed)×(Ed->Bool)) (z:Vl×Ed)=>DN q.1.1 z.1&&q.2 z.2) (e.keys.zip c) y.keys
def eeq(e:Ed):Ed->Bool:=ecata WM e
abbrev N8(p q:Int×Ed):Bool:=decide (p.1=q.1)&&eeq p.2 q.2
abbrev RP(p q:(Int×Int×Vl)×Ed):Bool:=decide (p.1.1=q.1.1)&&decide (p.1.2.1=q.1.2.1)&&DN p.1.2.2 q.1.2.2&&eeq p.2 q.2
abbrev VB(p q:Vl×Ed):Bool:=DN p.1 q.1&&eeq p.2 q.2
theorem TV(e y:Ed):eeq e y=(L5 e y&&C9 N8 e.fields y.fields&&C9 RP e.steps y.steps&&C9 VB e.keys y.keys):=by
 show ecata WM e y=_
 rw[EM,WM]
 show(L5 e y&&C9 (fun(q:(Int×Ed)×(Ed->Bool)) (z:Int×Ed)=>decide (q.1.1=z.1)&&q.2 z.2) (e.fields.zip (e.fields.map fun p=>eeq p.2)) y.fields
  && C9 (fun(q:((Int×Int×Vl)×Ed)×(Ed->Bool)) (z:(Int×Int×Vl)×Ed)=>decide (q.1.1.1=z.1.1)&&decide (q.1.1.2.1=z.1.2.1)&&DN q.1.1.2.2 z.1.2.2&&q.2 z.2) (e.steps.zip (e.steps.map fun p=>eeq p.2)) y.steps
  && C9 (fun(q:(Vl×Ed)×(Ed->Bool)) (z:Vl×Ed)=>DN q.1.1 z.1&&q.2 z.2) (e.keys.zip (e.keys.map fun p=>eeq p.2)) y.keys)=_
 rw[FQ,FQ,FQ,II,II,II]
theorem HD(v:Vl):DN v v=true:=decide_eq_true (MJ v)
theorem U0(e:Ed):eeq e e=true:=by
 refine Ed.kids_ind (P:=fun e=>eeq e e=true) (fun e ih=>?_) e
 rw[TV,GY fun x hx=>by simp[N8,ih _ (Ed.kid_f hx)],GY fun x hx=>by simp[RP,HD,ih _ (Ed.kid_s hx)],GY fun x hx=>by simp[VB,HD,ih _ (Ed.kid_k hx)]]
 simp[L5,HD]
def BH{α:Type}(g:Ed->Int->Int)(bad:α->Bool)(xs:List (α×Ed))(left:Int):Int:=xs.foldl (fun l x=>if 0<=l then(if bad x.1 then -1 else g x.2 l)else l) left
def P0(e:Ed):Bool:=decide (300<e.ro.length)||decide (300<e.rn.length)||R3 e.old 60||R3 e.new 60
def LC(s:Int×Int×Vl):Bool:=R3 s.2.2 60||decide (2097152<s.2.1)
def PZ(v:Vl):Bool:=R3 v 20
def BP:Nat->Ed->Int->Int
 | 0,_,_ => -1
 | d+1,e,left=>if P0 e then -1 else BH (BP d) PZ e.keys (BH (BP d) LC e.steps (BH (BP d) (fun _=>false) e.fields (left-1)))
def X8(e:Ed):Bool:=decide (BP 20 e 80<0)
theorem F0{α:Type}{g:Ed->Int->Int}{bad:α->Bool}{xs:List (α×Ed)}{l:Int}{k:Nat}{x:α×Ed}(h:xs[k]?=some x):BH g bad (xs.take (k+1)) l=(if 0<=BH g bad (xs.take k) l then(if bad x.1 then -1 else g x.2 (BH g bad (xs.take k) l))else BH g bad (xs.take k) l):=by
 unfold BH
 rw[List.take_add_one,h]
 simp only[Option.toList_some,List.foldl_append,List.foldl_cons,List.foldl_nil]
theorem ER{α:Type}{g:Ed->Int->Int}{bad:α->Bool}:∀ (xs:List (α×Ed)) {l:Int},l<0->BH g bad xs l=l
 | [],_,_=>rfl
 | x::xs,l,h=>by
  unfold BH
  rw[List.foldl_cons,if_neg (by omega)]
  exact ER xs h
theorem NJ{α:Type}{g:Ed->Int->Int}{bad:α->Bool}(xs:List (α×Ed))(k:Nat)(l:Int):BH g bad xs l=BH g bad (xs.drop k) (BH g bad (xs.take k) l):=by
 unfold BH
 rw[<- List.foldl_append,List.take_append_drop]
theorem EH{α:Type}{g:Ed->Int->Int}{bad:α->Bool}:∀ (xs:List (α×Ed)) (l:Int),(∀ p∈xs,∀ l,0<=l -> -1<=g p.2 l/\g p.2 l<=l-1/\(0<=g p.2 l->(ecount p.2:Int)<=l-g p.2 l/\p.2.Ok)) -> -1<=l ->
  -1<=BH g bad xs l/\BH g bad xs l<=l/\(0<=BH g bad xs l->(((xs.map fun p=>ecount p.2).sum:Nat):Int)<=l-BH g bad xs l /\ ∀ p∈xs,bad p.1=false/\p.2.Ok)
 | [],l,_,h=>⟨h,Int.le_refl _,fun _=>⟨by simp[BH],fun _ h=>by cases h⟩⟩
 | x::xs,l,hg,h=>by
  have ih:=EH (g:=g) (bad:=bad) xs
  have hg':∀ p∈xs,∀ l,0<=l -> -1<=g p.2 l/\g p.2 l<=l-1/\(0<=g p.2 l->(ecount p.2:Int)<=l-g p.2 l/\p.2.Ok):=fun p hp=>hg p (List.mem_cons_of_mem _ hp)
  have e:BH g bad (x::xs) l=BH g bad xs (if 0<=l then(if bad x.1 then -1 else g x.2 l)else l):=rfl
  rw[e]
  by_cases h0:0<=l
  ·rw[if_pos h0]
   cases hb:bad x.1
   ·obtain⟨c1,c2,c3⟩:=hg x List.mem_cons_self l h0
    obtain⟨d1,d2,d3⟩:=ih (g x.2 l) hg' c1
    rw[if_neg (by decide)]
    refine⟨d1,by omega,fun hp=>?_⟩
    obtain⟨f1,f2⟩:=d3 hp
    obtain⟨k1,k2⟩:=c3 (by omega)
    refine⟨?_,fun p hp=>?_⟩
    ·rw[List.map_cons,List.sum_cons]
     push_cast
     omega
    ·rcases List.mem_cons.1 hp with rfl | hp
     ·exact⟨hb,k2⟩
     ·exact f2 p hp
   ·rw[if_pos rfl,ER xs (by decide)]
    exact⟨by omega,by omega,fun h=>absurd h (by decide)⟩
  ·rw[if_neg h0,ER xs (by omega)]
   exact⟨h,Int.le_refl _,fun h=>absurd h h0⟩
theorem K3{v:Vl}{n:Nat}(hv:v.Fine)(h:R3 v (n:Int)=false):VSm n v:=by
 obtain⟨h1,h2⟩:=VY (Int.natCast_nonneg n) h
 exact⟨hv,h2,by omega⟩
theorem H0:∀ (d:Nat) (e:Ed) (left:Int),e.Fine->0<=left -> -1<=BP d e left/\BP d e left<=left-1/\(0<=BP d e left->(ecount e:Int)<=left-BP d e left/\e.Ok)
 | 0,e,left,_,h=>⟨by simp[BP],by simp[BP];omega,fun h=>absurd h (by simp[BP])⟩
 | d+1,e,left,hf,h=>by
  have ih:=H0 d
  rw[BP]
  cases hb:P0 e
  ·rw[if_neg (by decide)]
   obtain⟨a1,a2,a3⟩:=EH (bad:=fun _=>false) e.fields (left-1) (fun p hp l hl=>ih p.2 l (hf.kid (Ed.kid_f hp)) hl) (by omega)
   obtain⟨b1,b2,b3⟩:=EH (bad:=LC) e.steps _ (fun p hp l hl=>ih p.2 l (hf.kid (Ed.kid_s hp)) hl) a1
   obtain⟨c1,c2,c3⟩:=EH (bad:=PZ) e.keys _ (fun p hp l hl=>ih p.2 l (hf.kid (Ed.kid_k hp)) hl) b1
   refine⟨c1,by omega,fun hp=>?_⟩
   obtain⟨a4,a5⟩:=a3 (by omega)
   obtain⟨b4,b5⟩:=b3 (by omega)
   obtain⟨c4,c5⟩:=c3 hp
   obtain⟨k1,k2,k3,k4,k5,k6,k7⟩:=hf.all
   simp only[P0,Bool.or_eq_false_iff,decide_eq_false_iff_not]at hb
   refine⟨by rw[DB];push_cast;omega,.mk e k1 ((K3 (n:=60) k2 hb.1.2).mono (by decide)) ((K3 (n:=60) k3 hb.2).mono (by decide)) (by omega) (by omega) k5 (fun p hp=>?_) (fun p hp=>K3 (n:=20) (k7 p hp) (c5 p hp).1) (fun x hx=>?_)⟩
   ·obtain⟨m1,m2,m3⟩:=k6 p hp
    have m4:=(b5 p hp).1
    simp only[LC,Bool.or_eq_false_iff,decide_eq_false_iff_not]at m4
    exact⟨m1,m2.1,by omega,(K3 (n:=60) m3 m4.1).mono (by decide)⟩
   ·rcases List.mem_append.1 hx with hx | hx
    ·obtain⟨p,hp,rfl⟩:=List.mem_map.1 hx
     exact(a5 p hp).2
    rcases List.mem_append.1 hx with hx | hx
    ·obtain⟨p,hp,rfl⟩:=List.mem_map.1 hx
     exact(b5 p hp).2
    ·obtain⟨p,hp,rfl⟩:=List.mem_map.1 hx
     exact(c5 p hp).2
  ·rw[if_pos rfl]
   exact⟨by omega,by omega,fun h=>absurd h (by decide)⟩
theorem RH{e:Ed}(hf:e.Fine)(h:X8 e=false):e.Sm:=by
 have h1:=of_decide_eq_false h
 obtain⟨_,_,h2⟩:=H0 20 e 80 hf (by decide)
 obtain⟨h3,h4⟩:=h2 (by omega)
 exact⟨h4,by omega⟩
theorem FG{α:Type}{d:Nat}{bad:α->Bool}(xs:List (α×Ed))(l:Int)(hf:∀ p∈xs,p.2.Fine)(h : -1<=l):-1<=BH (BP d) bad xs l/\BH (BP d) bad xs l<=l:=
 ⟨(EH xs l (fun p hp l hl=>H0 d p.2 l (hf p hp) hl) h).1,(EH xs l (fun p hp l hl=>H0 d p.2 l (hf p hp) hl) h).2.1⟩
def UI(e:Ed)(a b c:List (List Dat)):List Dat:=
 .cell (.int .i64 e.kind)::(vd e.old++(vd e.new++[.row 22 e.fields.length (List.zipWith (fun(p:Int×Ed) d=>.cell (.int .i64 p.1)::d) e.fields a).flatten,.cell (.bool e.rests),.cell (.string (str e.ro)),.cell (.string (str e.rn)),
  .row 30 e.steps.length (List.zipWith (fun(p:(Int×Int×Vl)×Ed) d=>.cell (.int .i64 p.1.1)::.cell (.int .i64 p.1.2.1)::(vd p.1.2.2++d)) e.steps b).flatten,.row 28 e.keys.length (List.zipWith (fun(p:Vl×Ed) d=>vd p.1++d) e.keys c).flatten]))
def Ed.dats(e:Ed):List Dat:=ecata UI e
def CP(p:Int×Ed):List Dat:=.cell (.int .i64 p.1)::p.2.dats
def BF(p:(Int×Int×Vl)×Ed):List Dat:=.cell (.int .i64 p.1.1)::.cell (.int .i64 p.1.2.1)::(vd p.1.2.2++p.2.dats)
def CM(p:Vl×Ed):List Dat:=vd p.1++p.2.dats
def ed(e:Ed):List Dat:=.cell (.int .i64 e.kind)::(vd e.old++(vd e.new++[.row 22 e.fields.length (e.fields.flatMap CP),.cell (.bool e.rests),.cell (.string (str e.ro)),.cell (.string (str e.rn)),.row 30 e.steps.length (e.steps.flatMap BF),.row 28 e.keys.length (e.keys.flatMap CM)]))
def efd(p:Int×Ed):List Dat:=.cell (.int .i64 p.1)::ed p.2
def esd(p:(Int×Int×Vl)×Ed):List Dat:=.cell (.int .i64 p.1.1)::.cell (.int .i64 p.1.2.1)::(vd p.1.2.2++ed p.2)
def ekd(p:Vl×Ed):List Dat:=vd p.1++ed p.2
theorem NF(e:Ed):e.dats=ed e:=by
 unfold Ed.dats
 rw[EM,UI,FT,FT,FT]
 rfl
theorem CO(p:Int×Ed):CP p=efd p:=by unfold CP efd;rw[NF]
theorem BX(p:(Int×Int×Vl)×Ed):BF p=esd p:=by unfold BF esd;rw[NF]
theorem CN(p:Vl×Ed):CM p=ekd p:=by unfold CM ekd;rw[NF]
theorem CQ(p:Int×Ed):(CP p).length=22:=by rw[CO];rfl
theorem C2(p:(Int×Int×Vl)×Ed):(BF p).length=30:=by rw[BX];rfl
theorem CS(p:Vl×Ed):(CM p).length=28:=by rw[CN];rfl
end
section
section
variable{P:Program}{cx:Cx}{T:TL}{B:BL}{R:RL}
theorem N3{ι:Type}{Q:Exit->Act->World->Prop}{K:Act->World->Prop}{x:Code}(Ti:ι->TL)(Bi:ι->BL)(Ri:ι->RL)(h1:E cx T B R (x.wp P (Exit.then (Cut cx Ti Bi Ri) Q)))(h2:∀ i,E cx (Ti i) (Bi i) (Ri i) K):E cx T B R (x.wp P (Exit.then K Q)):=fun M V a w hr=>by
 refine wp_mono (h1 M V a w hr) fun e a' w' hq=>?_
 cases e<;>first | exact hq | (obtain⟨i,M',V',h3⟩:=hq;exact h2 i M' V' a' w' h3)
end
end
section
inductive Alike (P:Program) (t:TypeId):Value->Value->Prop where
 | int (k k':IntKind) (a b:Int) (h:P.underlying t=some (.int k')):Alike P t (.int k a) (.int k b)
 | str (a b:List UInt8) (h:P.underlying t=some .string):Alike P t (.string (str a)) (.string (str b))
theorem Alike.plain{P:Program}{t:TypeId}{a b:Value}(h:Alike P t a b):P.underlying t=some .string \/ ∃ k,P.underlying t=some (.int k):=by
 cases h with
 | int k k' a b hu=>grind
 | str a b hu=>grind
section
variable{P:Program}{cx:Cx}{T:TL}{B:BL}{R:RL}{o:Oper}
end
end
section
theorem Cap.ren_id(c:Cap):c.ren (fun b=>b)=c:=by cases c<;>rfl
theorem OG(l:List Cap):l.map (Cap.ren fun b=>b)=l:=by
 induction l with
 | nil=>rfl
 | cons c l ih=>grind[Cap.ren_id]
theorem IV.ren_id(x:IV):x.ren (fun b=>b) (fun r=>r)=x:=by
 induction x with
 | opt g x ih=>grind[IV.ren]
 | clo fn fs cs=>grind[IV.ren,OG]
 | _=>rfl
theorem EQ(l:List IV):l.map (·.ren (fun b=>b) (fun r=>r))=l:=by
 simp_all[IV.ren_id]
theorem O0(B:BL):J3 (fun b=>b) (fun r=>r) B=B:=by
 simp_all[J3,EQ]
theorem N6(R:RL):JV (fun r=>r) R=R:=by
 simp_all[JV]
def LentI(B:BL)(R:RL)(B0:BL)(R0:RL):Prop:=(∀ b x,lk b B0=some x->lk b B=some x) /\ ∀ r x,lk r R0=some x->lk r R=some x
theorem LentI.lent{B:BL}{R:RL}{B0:BL}{R0:RL}(h:LentI B R B0 R0):Lent B R (fun b=>b) (fun r=>r) B0 R0:=⟨fun b x hx=>by rw[EQ];exact h.1 b x hx,h.2,fun _ _ _ _ e=>e,fun _ _ _ _ e=>e⟩
def LentB(B:BL):BL->Prop
 | []=>True
 | (b,x)::l=>lk b B=some x/\LentB B l
def LentR(R:RL):RL->Prop
 | []=>True
 | (r,x)::l=>lk r R=some x/\LentR R l
theorem LentB.get{B:BL}:∀ {B0:BL} (_:LentB B B0) {b:Nat} {x:Bx},lk b B0=some x->lk b B=some x
 | (c,y)::l,h,b,x,hx=>by
  rcases AJ hx with⟨rfl,rfl⟩ | ⟨_,hx⟩
  ·exact h.1
  ·exact LentB.get h.2 hx
 | [],_,_,_,hx=>by cases hx
theorem LentR.get{R:RL}:∀ {R0:RL} (_:LentR R R0) {b:Nat} {x:Rw},lk b R0=some x->lk b R=some x
 | (c,y)::l,h,b,x,hx=>by
  rcases AJ hx with⟨rfl,rfl⟩ | ⟨_,hx⟩
  ·exact h.1
  ·exact LentR.get h.2 hx
 | [],_,_,_,hx=>by cases hx
section
variable{P:Program}{cx:Cx}{T:TL}{B:BL}{R:RL}{o:Oper}
def QP(B0:BL)(R0:RL)(y:IV)(B1:BL)(R1:RL):Prop:=names B1=names B0/\names R1=names R0/\UH (names B0) (names R0) B1=true/\y.bin (names B0) (names R0)=true
theorem GZ{ops:Array Oper}{Q:Exit->Act->World->Prop}{l:List Oper}{d:Nat}{f:FuncId}{xs:List Operand}{ts:Array TypeId}{ys:List IV}{B0:BL}{R0:RL}{Y:IV->BL->RL->Prop}(hg:o.guard=none)(hd:o.dst=some d)(hn:Nat.blt d cx.n=true)(ho:o.op=.call { callee:=.value (.func f),args:=xs.toArray,argTypes:=ts })(hc:AU P f=true)
  (hf:EG P cx.gl f ys B0 R0 Y) (hB:LentB B B0) (hR:LentR R R0) (hx:KnX T xs ys) (hY:∀ y B1 R1,Y y B1 R1->QP B0 R0 y B1 R1)
  (hE:∀ y B1 R1,Y y B1 R1->E cx ((d,y)::GG (names R0) T) (B1++E7 (names R0) B) (R1++R) (wpList P ops Q l)):E cx T B R (wpList P ops Q (o::l)):=
 VS (fun b=>b) (fun r=>r) hg hd hn ho hc (LentI.lent ⟨fun _ _ h=>hB.get h,fun _ _ h=>hR.get h⟩) (by grind[EQ]) hf hY fun y B1 R1 hy=>by
  rw[IV.ren_id,O0,N6,List.map_id']
  exact hE y B1 R1 hy
theorem DY{ops:Array Oper}{Q:Exit->Act->World->Prop}{l:List Oper}{d:Nat}{f:FuncId}{x:Operand}{xs:List Operand}{ts:Array TypeId}{fs cs:List Cap}{zs ys:List IV}{B0:BL}{R0:RL}{Y:IV->BL->RL->Prop}(hg:o.guard=none)(hd:o.dst=some d)(hn:Nat.blt d cx.n=true)(ho:o.op=.call { callee:=.value x,args:=xs.toArray,argTypes:=ts })(hc:AU P f=true)
  (hf:EG P cx.gl f ys B0 R0 Y) (hB:LentB B B0) (hR:LentR R R0) (hx:Kn T x (.clo (.func f) fs cs)) (hxs:KnX T xs zs) (hys:ys=fs.map Cap.iv++zs++cs.map Cap.iv) (hY:∀ y B1 R1,Y y B1 R1->QP B0 R0 y B1 R1)
  (hE:∀ y B1 R1,Y y B1 R1->E cx ((d,y)::GG (names R0) T) (B1++E7 (names R0) B) (R1++R) (wpList P ops Q l)):E cx T B R (wpList P ops Q (o::l)):=
 V5 (fun b=>b) (fun r=>r) hg hd hn ho hc (LentI.lent ⟨fun _ _ h=>hB.get h,fun _ _ h=>hR.get h⟩) hx hxs (by grind[EQ]) hf hY fun y B1 R1 hy=>by
  rw[IV.ren_id,O0,N6,List.map_id']
  exact hE y B1 R1 hy
end
end
section
def off(d:Nat):TL->TL
 | []=>[]
 | (j,x)::l=>bif Nat.beq j d then off d l else(j,x)::off d l
section
variable{P:Program}{cx:Cx}{T T' T2:TL}{B:BL}{R:RL}
end
end
section
section
variable{P:Program}{cx:Cx}{T:TL}{B:BL}{R:RL}
theorem VH{o:Oper}{a:Act}{w:World}{K:Act->World->Prop}{Q:Exit->Act->World->Prop}(h:o.wp P a w K (Exit.then K Q)):o.wp P a w K Q:=by
 unfold Oper.wp at *
 generalize(execOp a.eval o).run P w=r at *
 cases r with
 | ok n w'=>
  cases n<;>simp only[Oper.upon]at h ⊢ <;> first | exact h | exact Calls.mono h (fun e w'' he=>by cases e<;>exact he) | exact Rows.mono h (fun _ _ he=>he)
 | halt x w'=>cases x<;>simp only[Oper.upon]at h ⊢ <;> exact h
theorem Q8{ops:Array Oper}{Q:Exit->Act->World->Prop}{K:Act->World->Prop}{o:Oper}{i:Nat}{a:Act}{w:World}(hi:ops[i]?=some o)(hl:LetsOut (Exit.then K Q)->LetsOut Q)(h:wpList P ops (Exit.then K Q) [o] a w):wpOp P ops Q i K a w:=by
 unfold wpOp
 simp only[hi]
 simp only[wpList]at h
 split
 ·rename_i hw
  rw[if_pos hw]at h
  exact h.imp (fun h=>VH h) (fun h=>⟨h.1,hl h.2⟩)
 ·rename_i hw
  rw[if_neg hw]at h
  exact h
end
end
section
section
variable{P:Program}{cx:Cx}{T:TL}{B:BL}{R:RL}
def LentBr(ρ σ:Nat->Nat)(B:BL):BL->Prop
 | []=>True
 | (b,x)::l=>lk (ρ b) B=some ⟨x.ty,x.cs.map (·.ren ρ σ)⟩/\LentBr ρ σ B l
def LentRr(σ:Nat->Nat)(R:RL):RL->Prop
 | []=>True
 | (r,x)::l=>lk (σ r) R=some x/\LentRr σ R l
theorem LentBr.get{ρ σ:Nat->Nat}:∀ {B0:BL} (_:LentBr ρ σ B B0) {b:Nat} {x:Bx},lk b B0=some x->lk (ρ b) B=some ⟨x.ty,x.cs.map (·.ren ρ σ)⟩
 | (c,y)::l,h,b,x,hx=>by
  rcases AJ hx with⟨rfl,rfl⟩ | ⟨_,hx⟩
  ·exact h.1
  ·exact LentBr.get h.2 hx
 | [],_,_,_,hx=>by cases hx
theorem LentRr.get{σ:Nat->Nat}:∀ {R0:RL} (_:LentRr σ R R0) {b:Nat} {x:Rw},lk b R0=some x->lk (σ b) R=some x
 | (c,y)::l,h,b,x,hx=>by
  rcases AJ hx with⟨rfl,rfl⟩ | ⟨_,hx⟩
  ·exact h.1
  ·exact LentRr.get h.2 hx
 | [],_,_,_,hx=>by cases hx
end
end
section
section
variable{P:Program}{cx:Cx}{T:TL}{B:BL}{R:RL}{M:Nat->Nat}{V:Nat->Value}{o:Oper}
theorem EFx.more{gls gls':List (Nat×List Value)}{f:FuncId}{ps:List Part}{Y:IV->Prop}(h:EFx P gls f ps Y)(hs:∀ x,x∈gls->x∈gls'):EFx P gls' f ps Y:=fun w D vs hD hG hp=>h w D vs hD (fun g cs hg=>hG g cs (hs _ hg)) hp
end
end
section
section
variable{P:Program}{cx:Cx}{T:TL}{B:BL}{R:RL}{o:Oper}
theorem BO{f:FuncId}{x:Operand}{xs:List Operand}{ts:Array TypeId}{ps:List Part}{y:IV}(ho:o.op=.call { callee:=.value x,args:=xs.toArray,argTypes:=ts })(hc:AU P f=true)(hxf:Kn T x (.is (.func (.func f) #[] #[])))(hf:EF P cx.gl f ps y)(hx:KnA T xs ps):LStep P cx B R o T y:=fun M V w a hh ht=>by
 have hkk:∀ y z,y∈x::xs->Kn T y z->VR w (Dc cx B R M V w) M V z (a.eval y):=fun y z hm hkx=>hkx w _ M V a fun t z' e hz=>ht t z' (by
  grind[Op.operands,Call.operands]) hz
 have he:a.eval x=.func (.func f) #[] #[]:=(hkk x _ (by simp) hxf).is_eq
 have hrun:(execOp a.eval o).run P w=.ok (.enter f (xs.map a.eval).toArray) w:=by
  simp[execOp,ho,resolve,he,Deferred.ofValue,invoke,D2 hc]
 rw[hrun]
 refine⟨rfl,(OA hh (fun x z hm hkx=>hkk x z (by simp[hm]) hkx) hx hf).mono fun _ _ ⟨v,y',h1,h2,h3,h4⟩=>⟨v,h1,h3,h2▸h4⟩⟩
end
end
section
section
variable{P:Program}{cx:Cx}{T:TL}{B:BL}{R:RL}{o:Oper}
theorem UY{x y:Operand}{ts:Array TypeId}{k k':IntKind}{m n:Int}(ho:o.op=.call { callee:=.builtin .max,args := #[x,y],argTypes:=ts })(hx:Kn T x (.is (.int k m)))(hy:Kn T y (.is (.int k' n))):LStep P cx B R o T (.is (.int k (max m n))):=LStep.same fun M V w a _ hk=>by
 have h1:=(hk x _ (by grind[Op.operands,Call.operands]) hx).is_eq
 have h2:=(hk y _ (by simp[ho,Op.operands,Call.operands]) hy).is_eq
 have h3:(if n>m then n else m)=max m n:=by
  split<;>omega
 refine⟨_,?_,.cell _⟩
 simp_all[execOp,resolve,invoke,builtin,run_max_int2]
theorem WO{f:FuncId}{x y:Operand}{ts:Array TypeId}{u v r:Value}(ho:o.op=.call { callee:=.value (.func f),args := #[x,y],argTypes:=ts })(hf:∀ w:World,(callFunc f #[u,v]).run P w=.ok (.value r) w)(hx:Kn T x (.is u))(hy:Kn T y (.is v)):LStep P cx B R o T (.is r):=LStep.same fun M V w a _ hk=>by
 have h1:=(hk x _ (by grind[Op.operands,Call.operands]) hx).is_eq
 have h2:=(hk y _ (by grind[Op.operands,Call.operands]) hy).is_eq
 have he:a.eval (.func f)=.func (.func f) #[] #[]:=rfl
 exact⟨_,by grind[execOp,resolve,Deferred.ofValue,invoke],.cell _⟩
variable{M:Nat->Nat}{V:Nat->Value}
end
end
section
section
variable{P:Program}{cx:Cx}{T:TL}{B:BL}{R:RL}{o:Oper}
theorem Rel.row_turn{M:Nat->Nat}{V:Nat->Value}{a:Act}{w w':World}(hr:Rel cx T B R M V a w){r g:Nat}{z z':Rw}(hr0:lk r R=some z)(hf0:z.fz=false)(hob:obk (V r)=some g)(hz':z'.fz=false)(hty':Nat.blt z'.ty 2000000=true)(hoth:∀ q,q≠g->w'.heap[q]?=w.heap[q]?)(hsz:w'.heap.size=w.heap.size)(hos:w'.os=w.os)(htp:w'.tape=w.tape)(hou:w'.output=w.output)
  (hnew:∀ D',Keeps (Dc cx B R M V w) w w'->(∀ q,Dc cx B R M V w q->D' q)->Gx w' D' 0 z'.ty z'.k (V r) z'.n z'.ds):Rel cx T B ((r,z')::R) M V a w':=by
 exact hr.turned hr0 hf0 hz' (fun q hq=>hoth q fun e=>hq (.inl (by grind))) hsz hos htp hou (fun p hp=>.inl (GR hp hty')) hnew
variable{α:Type}
def MEs(w:World)(D:Nat->Prop)(kf:α->Value):List (α×Dat)->List MapEntry->Prop
 | [],[]=>True
 | p::ps,e::es=>e.key=kf p.1/\Lies w D p.2 e.val/\MEs w D kf ps es
 | _,_=>False
variable{w w':World}{D D':Nat->Prop}{kf:α->Value}
theorem MEs.length:∀ {ps:List (α×Dat)} {es:List MapEntry},MEs w D kf ps es->es.length=ps.length
 | [],[],_=>rfl
 | _::_,_::_,h=>by simp[MEs.length h.2.2]
 | [],_::_,h=>h.elim
 | _::_,[],h=>h.elim
theorem MEs.stay(hk:Keeps D w w')(hD:∀ g,D g->D' g):∀ {ps:List (α×Dat)} {es:List MapEntry},MEs w D kf ps es->MEs w' D' kf ps es
 | [],[],_=>trivial
 | _::_,_::_,h=>⟨h.1,h.2.1.stay hk hD,MEs.stay hk hD h.2.2⟩
 | [],_::_,h=>h.elim
 | _::_,[],h=>h.elim
variable[DecidableEq α]
end
end
end Go.Proofs.Ytecfdcdkkgmkpaa
