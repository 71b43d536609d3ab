/- Part 1. Conditions: as each theorem says. -/
import Derived.Test.YtecfdcdkkgmkpaaProg
import Derived.WalkKit
import Derived.Lib.Hide
import Derived.Laws.CopyOwn
import Derived.Laws.AppendOwnNone
import Derived.Deep.Draws
import Derived.Deep.AppendLies
import Derived.Deep.OwnRows
import Derived.Maps.AppendAt
import Derived.RegionTactic
import Derived.OwnWalk
import Derived.ChangeArms
import Derived.Deep.Slices
import Derived.Deep.Fields
import Derived.ChangeSame
import Derived.Laws.BytesArg
import Derived.WalkSpells
import Derived.WalkLawsBesides
import Derived.Laws.Strings3
import Derived.OpenShut
set_option maxRecDepth 100000
namespace Go.Proofs.Ytecfdcdkkgmkpaa
open Go.RowKit
section
open Go
inductive Vl where
 | mk (kind:Int) (num:Nat) (text:List UInt8) (fields:List (Int×Vl)) (rest:List UInt8) (list:List Vl) (pairs:List (Vl×Vl))
instance:Inhabited Vl:=⟨.mk 0 0 [] [] [] [] []⟩
namespace Vl
def kind:Vl->Int | .mk k _ _ _ _ _ _=>k
def num:Vl->Nat | .mk _ n _ _ _ _ _=>n
def text:Vl->List UInt8 | .mk _ _ t _ _ _ _=>t
def fields:Vl->List (Int×Vl) | .mk _ _ _ f _ _ _=>f
def rest:Vl->List UInt8 | .mk _ _ _ _ r _ _=>r
def list:Vl->List Vl | .mk _ _ _ _ _ l _=>l
def pairs:Vl->List (Vl×Vl) | .mk _ _ _ _ _ _ p=>p
section
variable(k:Int)(n:Nat)(t:List UInt8)(fs:List (Int×Vl))(r:List UInt8)(ls:List Vl)(ps:List (Vl×Vl))
theorem kind_mk:(mk k n t fs r ls ps).kind=k:=rfl
theorem num_mk:(mk k n t fs r ls ps).num=n:=rfl
theorem text_mk:(mk k n t fs r ls ps).text=t:=rfl
theorem fields_mk:(mk k n t fs r ls ps).fields=fs:=rfl
theorem rest_mk:(mk k n t fs r ls ps).rest=r:=rfl
theorem list_mk:(mk k n t fs r ls ps).list=ls:=rfl
theorem pairs_mk:(mk k n t fs r ls ps).pairs=ps:=rfl
end
theorem eta(v:Vl):v=.mk v.kind v.num v.text v.fields v.rest v.list v.pairs:=by cases v;rfl
theorem RN{v:Vl}{f:Int×Vl}(h:f∈v.fields):SizeOf.sizeOf f.2<SizeOf.sizeOf v:=by
 cases v with
 | mk k n t fs r l p=>
  have h1:=List.sizeOf_lt_of_mem (show f∈fs from h)
  obtain⟨m,x⟩:=f
  simp at h1 ⊢
  omega
theorem TD{v x:Vl}(h:x∈v.list):SizeOf.sizeOf x<SizeOf.sizeOf v:=by
 cases v with
 | mk k n t fs r l p=>
  have h1:=List.sizeOf_lt_of_mem (show x∈l from h)
  simp at h1 ⊢
  omega
theorem S6{v:Vl}{p:Vl×Vl}(h:p∈v.pairs):SizeOf.sizeOf p.1<SizeOf.sizeOf v/\SizeOf.sizeOf p.2<SizeOf.sizeOf v:=by
 cases v with
 | mk k n t fs r l ps=>
  have h1:=List.sizeOf_lt_of_mem (show p∈ps from h)
  obtain⟨x,y⟩:=p
  simp at h1 ⊢
  omega
theorem parts{P:Vl->Prop}(h:∀ v:Vl,(∀ f∈v.fields,P f.2)->(∀ x∈v.list,P x)->(∀ p∈v.pairs,P p.1/\P p.2)->P v)(v:Vl):P v:=by
 generalize hn:SizeOf.sizeOf v=n
 induction n using Nat.strongRecOn generalizing v with
 | ind n ih=>
  subst hn
  exact h v (fun f hf=>ih _ (RN hf) _ rfl) (fun x hx=>ih _ (TD hx) _ rfl) (fun p hp=>⟨ih _ (S6 hp).1 _ rfl,ih _ (S6 hp).2 _ rfl⟩)
end Vl
def ncmp(a b:Nat):Int:=if a<b then -1 else if b<a then 1 else 0
def tcmp:List UInt8->List UInt8->Int
 | [],[]=>0
 | [],_::_ => -1
 | _::_,[]=>1
 | x::a,y::b=>if x.toNat<y.toNat then -1 else if y.toNat<x.toNat then 1 else tcmp a b
mutual
def vcmp:Vl->Vl->Int
 | .mk k n t fs r ls ps,b=>
  if k<b.kind then -1 else if b.kind<k then 1
  else if k=1 then ncmp n b.num
  else if k=2 then tcmp t b.text
  else if k=3 then(if fcmp fs b.fields≠0 then fcmp fs b.fields else tcmp r b.rest)
  else if k=4 then lcmp ls b.list
  else if k=5 then pcmp ps b.pairs
  else 0
def fcmp:List (Int×Vl)->List (Int×Vl)->Int
 | [],[]=>0
 | [],_::_ => -1
 | _::_,[]=>1
 | (m,x)::a,y::b=>if m<y.1 then -1 else if y.1<m then 1 else if vcmp x y.2≠0 then vcmp x y.2 else fcmp a b
def lcmp:List Vl->List Vl->Int
 | [],[]=>0
 | [],_::_ => -1
 | _::_,[]=>1
 | x::a,y::b=>if vcmp x y≠0 then vcmp x y else lcmp a b
def pcmp:List (Vl×Vl)->List (Vl×Vl)->Int
 | [],[]=>0
 | [],_::_ => -1
 | _::_,[]=>1
 | (k,x)::a,y::b=>if vcmp k y.1≠0 then vcmp k y.1 else if vcmp x y.2≠0 then vcmp x y.2 else pcmp a b
end
end
section
open Go
def Tri(x y z:Int):Prop:=(x<=0->y<=0->z<=0)/\(x<0->y<=0->z<0)/\(x<=0->y<0->z<0)/\(0<=x->0<=y->0<=z)/\(0<x->0<=y->0<z)/\(0<=x->0<y->0<z)
def lex(x y:Int):Int:=if x≠0 then x else y
theorem Tri.lex{x1 y1 z1 x2 y2 z2:Int}(h:Tri x1 y1 z1)(k:x1=0->y1=0->Tri x2 y2 z2):Tri (lex x1 x2) (lex y1 y2) (lex z1 z2):=by
 by_cases hx:x1=0
 ·by_cases hy:y1=0
  ·have hk:=k hx hy
   unfold Tri at h hk ⊢
   unfold Proofs.Ytecfdcdkkgmkpaa.lex
   subst hx hy
   have hz:z1=0:=by omega
   subst hz
   simpa using hk
  ·clear k
   unfold Tri at h ⊢
   unfold Proofs.Ytecfdcdkkgmkpaa.lex
   repeat' split
   all_goals omega
 ·clear k
  unfold Tri at h ⊢
  unfold Proofs.Ytecfdcdkkgmkpaa.lex
  repeat' split
  all_goals omega
theorem EJ{x y x' y':Int}(h:x = -x')(k:x=0->y = -y'):lex x y = -lex x' y':=by
 unfold lex
 by_cases hx:x=0
 ·have:=k hx
  rw[if_neg (by omega),if_neg (by omega)]
  exact this
 ·rw[if_pos hx,if_pos (by omega)]
  exact h
def DY(a b:Int):Int:=if a<b then -1 else if b<a then 1 else 0
theorem MZ(a b:Int):DY a b = -DY b a:=by
 unfold DY
 repeat' split
 all_goals omega
theorem LK{a b:Int}(h:DY a b=0):a=b:=by
 unfold DY at h
 repeat' split at h
 all_goals omega
theorem NI(a b:Nat):ncmp a b = -ncmp b a:=by
 unfold ncmp
 repeat' split
 all_goals omega
theorem LC(x y:UInt8)(a b:List UInt8):tcmp (x::a) (y::b)=lex (ncmp x.toNat y.toNat) (tcmp a b):=by
 rw[tcmp]
 unfold lex ncmp
 repeat' split
 all_goals omega
theorem KP:∀ a b:List UInt8,tcmp a b = -tcmp b a
 | [],[]=>rfl
 | [],_::_=>rfl
 | _::_,[]=>rfl
 | x::a,y::b=>by
  rw[LC,LC]
  exact EJ (NI _ _) fun _=>KP a b
def body(k:Int)(a b:Vl):Int:=
 if k=1 then ncmp a.num b.num else if k=2 then tcmp a.text b.text else if k=3 then lex (fcmp a.fields b.fields) (tcmp a.rest b.rest)else if k=4 then lcmp a.list b.list else if k=5 then pcmp a.pairs b.pairs else 0
theorem HW(a b:Vl):vcmp a b=lex (DY a.kind b.kind) (body a.kind a b):=by
 cases a with
 | mk k n t fs r ls ps=>
  rw[vcmp]
  unfold lex DY body
  simp only[Vl.kind_mk,Vl.num_mk,Vl.text_mk,Vl.fields_mk,Vl.rest_mk,Vl.list_mk,Vl.pairs_mk]
  by_cases h1:k<b.kind
  ·simp[h1]
  ·by_cases h2:b.kind<k
   ·simp[h1,h2]
   ·simp only[h1,h2,if_false,ne_eq,not_true_eq_false]
    rfl
theorem IB(x y:Int×Vl)(a b:List (Int×Vl)):fcmp (x::a) (y::b)=lex (DY x.1 y.1) (lex (vcmp x.2 y.2) (fcmp a b)):=by
 obtain⟨m,x⟩:=x
 rw[fcmp]
 unfold lex DY
 by_cases h1:m<y.1
 ·simp[h1]
 ·by_cases h2:y.1<m
  ·simp[h1,h2]
  ·simp[h1,h2]
theorem I9(x y:Vl)(a b:List Vl):lcmp (x::a) (y::b)=lex (vcmp x y) (lcmp a b):=by
 rw[lcmp]
 rfl
theorem I4(x y:Vl×Vl)(a b:List (Vl×Vl)):pcmp (x::a) (y::b)=lex (vcmp x.1 y.1) (lex (vcmp x.2 y.2) (pcmp a b)):=by
 obtain⟨k,x⟩:=x
 rw[pcmp]
 rfl
theorem OK:∀ a b:List (Int×Vl),(∀ f∈a,∀ y,vcmp f.2 y = -vcmp y f.2)->fcmp a b = -fcmp b a
 | [],[],_=>by simp[fcmp]
 | [],_::_,_=>by simp[fcmp]
 | _::_,[],_=>by simp[fcmp]
 | x::a,y::b,h=>by
  rw[IB,IB]
  exact EJ (MZ _ _) fun _=>EJ (h x (.head _) _) fun _=>OK a b fun f hf=>h f (.tail _ hf)
theorem NX:∀ a b:List Vl,(∀ x∈a,∀ y,vcmp x y = -vcmp y x)->lcmp a b = -lcmp b a
 | [],[],_=>by simp[lcmp]
 | [],_::_,_=>by simp[lcmp]
 | _::_,[],_=>by simp[lcmp]
 | x::a,y::b,h=>by
  rw[I9,I9]
  exact EJ (h x (.head _) _) fun _=>NX a b fun f hf=>h f (.tail _ hf)
theorem N5:∀ a b:List (Vl×Vl),(∀ p∈a,∀ y,vcmp p.1 y = -vcmp y p.1/\vcmp p.2 y = -vcmp y p.2)->pcmp a b = -pcmp b a
 | [],[],_=>by simp[pcmp]
 | [],_::_,_=>by simp[pcmp]
 | _::_,[],_=>by simp[pcmp]
 | x::a,y::b,h=>by
  rw[I4,I4]
  exact EJ (h x (.head _) _).1 fun _=>EJ (h x (.head _) _).2 fun _=>N5 a b fun f hf=>h f (.tail _ hf)
theorem OB(a b:Vl):vcmp a b = -vcmp b a:=by
 revert b
 refine Vl.parts (P:=fun a=>∀ b,vcmp a b = -vcmp b a) (fun a hf hl hp b=>?_) a
 rw[HW,HW]
 refine EJ (MZ _ _) fun hk=>?_
 rw[<- LK hk]
 unfold body
 repeat' split
 ·exact NI _ _
 ·exact KP _ _
 ·exact EJ (OK _ _ hf) fun _=>KP _ _
 ·exact NX _ _ hl
 ·exact N5 _ _ fun p h y=>⟨(hp p h).1 y,(hp p h).2 y⟩
 ·rfl
theorem LI(a:Vl):vcmp a a=0:=by
 have:=OB a a
 omega
theorem BQ{α:Type}{l:List α}{k:Nat}{x:α}(h:l[k]?=some x):l.drop k=x::l.drop (k+1):=by
 have hk:=(List.getElem?_eq_some_iff.1 h).1
 rw[List.drop_eq_getElem_cons hk,(List.getElem?_eq_some_iff.1 h).2]
theorem E2(a b k:Nat)(ha:k<=a)(hb:k<=b):ncmp (a-k) (b-k)=ncmp a b:=by
 unfold ncmp
 repeat' split
 all_goals omega
end
section
open Go
def vplain(v:Vl):Bool:=
 decide (0<=v.kind)&&decide (v.kind<=5)&&(decide (v.kind=1)||decide (v.num=0))&&(decide (v.kind=2)||decide (v.text.length=0))&&(decide (v.kind=3)||decide (v.fields.length+v.rest.length=0))&&(decide (v.kind=4)==decide (0<v.list.length))&&(decide (v.kind=5)==decide (0<v.pairs.length))
def vone(v:Vl):Bool:=decide (v.kind=1)||decide (v.kind=2)||decide (v.kind=3)
mutual
def vright:Vl->Bool
 | .mk k n t fs r ls ps=>vplain (.mk k n t fs r ls ps)&&fright 0 fs&&lright ls&&pright none ps
def fright:Int->List (Int×Vl)->Bool
 | _,[]=>true
 | prev,(n,x)::fs=>decide (1<=n)&&decide (n<=536870911)&&decide (prev<n)&&decide (x.kind≠0)&&vright x&&fright n fs
def lright:List Vl->Bool
 | []=>true
 | x::ls=>vone x&&vright x&&lright ls
def pright:Option Vl->List (Vl×Vl)->Bool
 | _,[]=>true
 | prev,(k,x)::ps=>decide (k.kind<=2)&&vone k&&vright k&&vone x&&vright x&&(match prev with | none=>true | some q=>decide (q.kind=k.kind)&&decide (vcmp q k<0))&&pright (some k) ps
end
mutual
def vsize:Vl->Nat
 | .mk k _ _ fs _ ls ps=>if k=0 then 0 else 1+lsize ls+fsize fs+psize ps
def fsize:List (Int×Vl)->Nat
 | []=>0
 | (_,x)::fs=>vsize x+fsize fs
def lsize:List Vl->Nat
 | []=>0
 | x::ls=>vsize x+lsize ls
def psize:List (Vl×Vl)->Nat
 | []=>0
 | (k,x)::ps=>vsize k+vsize x+psize ps
end
mutual
def vdepth:Vl->Nat
 | .mk k _ _ fs _ ls ps=>max (max (ldepth ls) (fdepth fs)) (pdepth ps)+if k=3 then 1 else 0
def fdepth:List (Int×Vl)->Nat
 | []=>0
 | (_,x)::fs=>max (vdepth x) (fdepth fs)
def ldepth:List Vl->Nat
 | []=>0
 | x::ls=>max (vdepth x) (ldepth ls)
def pdepth:List (Vl×Vl)->Nat
 | []=>0
 | (k,x)::ps=>max (max (vdepth k) (vdepth x)) (pdepth ps)
end
mutual
def vnodes:Vl->Nat
 | .mk _ _ _ fs _ ls ps=>1+lnodes ls+fnodes fs+pnodes ps
def fnodes:List (Int×Vl)->Nat
 | []=>0
 | (_,x)::fs=>vnodes x+fnodes fs
def lnodes:List Vl->Nat
 | []=>0
 | x::ls=>vnodes x+lnodes ls
def pnodes:List (Vl×Vl)->Nat
 | []=>0
 | (k,x)::ps=>vnodes k+vnodes x+pnodes ps
end
theorem LO(v:Vl):vright v=(vplain v&&fright 0 v.fields&&lright v.list&&pright none v.pairs):=by
 cases v
 rw[vright]
 rfl
theorem SH(v:Vl):vsize v=if v.kind=0 then 0 else 1+lsize v.list+fsize v.fields+psize v.pairs:=by
 cases v
 rw[vsize]
 rfl
theorem QH(v:Vl):vdepth v=max (max (ldepth v.list) (fdepth v.fields)) (pdepth v.pairs)+if v.kind=3 then 1 else 0:=by
 cases v
 rw[vdepth]
 rfl
theorem C1(v:Vl):vnodes v=1+lnodes v.list+fnodes v.fields+pnodes v.pairs:=by
 cases v
 rw[vnodes]
 rfl
theorem OQ{fs:List (Int×Vl)}{f:Int×Vl}(h:f∈fs):vnodes f.2<=fnodes fs:=by
 induction fs with
 | nil=>cases h
 | cons g fs ih=>
  obtain⟨n,x⟩:=g
  rw[fnodes]
  rcases List.mem_cons.1 h with h | h
  ·rw[h];simp
  ·have:=ih h;omega
theorem P3{ls:List Vl}{x:Vl}(h:x∈ls):vnodes x<=lnodes ls:=by
 induction ls with
 | nil=>cases h
 | cons g ls ih=>
  rw[lnodes]
  rcases List.mem_cons.1 h with h | h
  ·rw[h];omega
  ·have:=ih h;omega
theorem PL{ps:List (Vl×Vl)}{p:Vl×Vl}(h:p∈ps):vnodes p.1+vnodes p.2<=pnodes ps:=by
 induction ps with
 | nil=>cases h
 | cons g ps ih=>
  obtain⟨k,x⟩:=g
  rw[pnodes]
  rcases List.mem_cons.1 h with h | h
  ·rw[h];simp
  ·have:=ih h;omega
theorem H6(v:Vl):0<vnodes v:=by rw[C1];omega
theorem JV:∀ fs:List (Int×Vl),fs.length<=fnodes fs
 | []=>Nat.le_refl _
 | (n,x)::fs=>by
  rw[fnodes,List.length_cons]
  have:=JV fs
  have:=H6 x
  omega
theorem JH:∀ ls:List Vl,ls.length<=lnodes ls
 | []=>Nat.le_refl _
 | x::ls=>by
  rw[lnodes,List.length_cons]
  have:=JH ls
  have:=H6 x
  omega
theorem KD:∀ ps:List (Vl×Vl),ps.length<=pnodes ps
 | []=>Nat.le_refl _
 | (k,x)::ps=>by
  rw[pnodes,List.length_cons]
  have:=KD ps
  have:=H6 x
  omega
theorem T9(v:Vl):vsize v<=vnodes v/\vdepth v<=vnodes v:=by
 refine Vl.parts (P:=fun v=>vsize v<=vnodes v/\vdepth v<=vnodes v) (fun v hf hl hp=>?_) v
 have h1:fsize v.fields<=fnodes v.fields/\fdepth v.fields<=fnodes v.fields:=by
  revert hf
  generalize v.fields=fs
  intro hf
  induction fs with
  | nil=>simp[fsize,fnodes,fdepth]
  | cons f fs ih=>
   obtain⟨n,x⟩:=f
   have:=hf _ (.head _)
   have:=ih fun f h=>hf f (.tail _ h)
   simp only[fsize,fnodes,fdepth]at *
   omega
 have h2:lsize v.list<=lnodes v.list/\ldepth v.list<=lnodes v.list:=by
  revert hl
  generalize v.list=ls
  intro hl
  induction ls with
  | nil=>simp[lsize,lnodes,ldepth]
  | cons x ls ih=>
   have:=hl _ (.head _)
   have:=ih fun f h=>hl f (.tail _ h)
   simp only[lsize,lnodes,ldepth]at *
   omega
 have h3:psize v.pairs<=pnodes v.pairs/\pdepth v.pairs<=pnodes v.pairs:=by
  revert hp
  generalize v.pairs=ps
  intro hp
  induction ps with
  | nil=>simp[psize,pnodes,pdepth]
  | cons p ps ih=>
   obtain⟨k,x⟩:=p
   have:=hp _ (.head _)
   have:=ih fun f h=>hp f (.tail _ h)
   simp only[psize,pnodes,pdepth]at *
   omega
 rw[SH,QH,C1]
 constructor<;>split<;>omega
theorem KB(v:Vl):vplain v=true↔0<=v.kind/\v.kind<=5/\(v.kind≠1->v.num=0)/\(v.kind≠2->v.text=[])/\(v.kind≠3->v.fields=[]/\v.rest=[])/\(v.kind=4↔v.list≠[])/\(v.kind=5↔v.pairs≠[]):=by
 have e:∀ {α:Type} (l:List α),0<l.length↔l≠[]:=fun l=>List.length_pos_iff
 have e2:v.fields.length+v.rest.length=0↔v.fields=[]/\v.rest=[]:=by rw[Nat.add_eq_zero_iff,List.length_eq_zero_iff,List.length_eq_zero_iff]
 unfold vplain
 simp only[Bool.and_eq_true,Bool.or_eq_true,decide_eq_true_eq,beq_iff_eq,decide_eq_decide,e,e2,List.length_eq_zero_iff]
 constructor
 ·rintro⟨⟨⟨⟨⟨⟨a,b⟩,c⟩,d⟩,f⟩,g⟩,h⟩
  exact⟨a,b,fun h=>c.resolve_left h,fun h=>d.resolve_left h,fun h=>f.resolve_left h,g,h⟩
 ·rintro⟨a,b,c,d,f,g,h⟩
  exact⟨⟨⟨⟨⟨⟨a,b⟩,Decidable.or_iff_not_imp_left.2 c⟩,Decidable.or_iff_not_imp_left.2 d⟩,Decidable.or_iff_not_imp_left.2 f⟩,g⟩,h⟩
end
section
def bv(b:UInt8):Value:=.int .u8 (b.toNat:Int)
def Blk(w:World)(g:Nat)(t:TypeId)(cs:List Value):Prop:=w.heap[g]?=some (.cells cs.toArray t (0,0))
section
variable{w w':World}{g:Nat}{t:TypeId}{cs:List Value}
theorem Blk.lt(h:Blk w g t cs):g<w.heap.size:=by
 grind[Blk]
theorem Blk.cell(h:Blk w g t cs)(i:Nat):w.cell? ⟨g,i,none⟩=cs[i]?:=by
 rw[cell_of_row w g i cs.toArray t (0,0) h];simp
theorem Blk.frozen(h:Blk w g t cs)(i:Nat):w.frozen? ⟨g,i,none⟩=false:=by
 grind[Blk,World.frozen?]
theorem Blk.new(w:World)(t:TypeId)(cs:List Value):Blk (w.alloc (.cells cs.toArray t)) w.heap.size t cs:=heap_alloc_new w _
theorem Blk.drew(h:Blk w g t cs):Blk w.drew g t cs:=h
theorem Blk.alloc(h:Blk w g t cs)(o:Obj):Blk (w.alloc o) g t cs:=(Below.heap_alloc w o g h.lt).trans h
theorem Blk.set_(h:Blk w g t cs)(i:Nat)(u:Value):Blk (w.setCell ⟨g,i,none⟩ u) g t (cs.set i u):=by
 grind[Blk,World.setCell]
theorem Blk.below{B:Nat}(h:Blk w g t cs)(hb:Below B w w')(hg:g<B):Blk w' g t cs:=(hb.block g hg).trans h
theorem Blk.kept(h:Blk w g t cs)(hb:Below w.heap.size w w'):Blk w' g t cs:=h.below hb h.lt
theorem Blk.grown{row:Option Nat}(h:Blk w g t cs)(hb:w.grownBy w' row)(hg:some g≠row):Blk w' g t cs:=(hb.block g h.lt hg).trans h
theorem Blk.same{cs':List Value}(h:Blk w g t cs)(h':Blk w g t cs'):cs=cs':=by
 grind[Blk]
end
def Sl(w:World)(B:Nat)(p:Option Addr)(l:List UInt8):Prop:=
 0<l.length -> ∃ b o,p=some ⟨b,o,none⟩/\b<B /\ ∀ (i:Nat) (x:UInt8),l[i]?=some x->w.cell? ⟨b,o+i,none⟩=some (bv x)
section
variable{w w':World}{B B':Nat}{p:Option Addr}{l:List UInt8}
theorem Sl.nil(w:World)(B:Nat)(p:Option Addr):Sl w B p []:=fun h=>absurd h (Nat.lt_irrefl 0)
theorem Sl.more(h:Sl w B p l)(hB:B<=B'):Sl w B' p l:=fun hl=>by
 obtain⟨b,o,e,hb,hc⟩:=h hl
 grind
theorem Sl.below(h:Sl w B p l)(hb:Below B w w'):Sl w' B p l:=fun hl=>by
 obtain⟨b,o,e,hlt,hc⟩:=h hl
 exact⟨b,o,e,hlt,fun i x hx=>(hb.cell (p:=⟨b,o+i,none⟩) hlt).trans (hc i x hx)⟩
end
section
variable{P:Program}(w:World)
theorem EM(base:Nat)(t ty e:TypeId)(i:TypeInfo)(size:Nat)(ht:P.underlying t=some (.slice e))(hi:P.info? e=some i)
  (v:Value) (n:Nat) (xs:List Value) (hown:w.ownsRow base e size v n xs) (c:Nat):(Builtin.append_ #[t,t] ty #[v,.slice none 0 c]).run P w=.ok v w:=by
 rcases hown.2 with⟨rfl,rfl⟩ | ⟨g,cap,cur,rfl,_,_,hnc,_⟩
 ·simp[Builtin.append_,run_underlying ht,sizeOf,typeInfo,hi,Builtin.lenOf,Builtin.firstCells]
 ·simp[Builtin.append_,run_underlying ht,sizeOf,typeInfo,hi,Builtin.lenOf,Builtin.firstCells,hnc,storeCells]
end
section
variable{w:World}{base:Nat}{e:TypeId}{v:Value}{n:Nat}{xs:List Value}
end
end
inductive Dat where
 | cell (v:Value)
 | row (k n:Nat) (ds:List Dat)
 | ptr (t:TypeId) (ds:List Dat)
 | ifc (t:TypeId) (d:Dat)
 | map (n:Nat) (ds:List Dat)
 | fn (f:FuncId) (ds:List Dat)
 | pref (ds:List Dat)
 | orow (ty k n:Nat) (v:Value) (ds:List Dat)
 | optr (t:TypeId) (v:Value) (ds:List Dat)
def kvs:List MapEntry->List Value
 | []=>[]
 | e::es=>e.key::e.val::kvs es
inductive Lies (w:World) (D:Nat->Prop):Dat->Value->Prop where
 | cell (v:Value):Lies w D (.cell v) v
 | none (k:Nat) (p:Option Addr) (c:Nat):Lies w D (.row k 0 []) (.slice p 0 c)
 | row (k n b o c:Nat) (ds:List Dat) (X:Nat->Value):0<n->n<=c->ds.length=n*k->D b->(∀ j,j<ds.length->w.cell? ⟨b,o+j,none⟩=some (X j))->(∀ j d,ds[j]?=some d->Lies w D d (X j))->Lies w D (.row k n ds) (.slice (some ⟨b,o,none⟩) n c)
 | ptr (b:Nat) (t:TypeId) (ds:List Dat) (xs:List Value):D b->Blk w b t xs->ds.length=xs.length->(∀ (j:Nat) d x,ds[j]?=some d->xs[j]?=some x->Lies w D d x)->Lies w D (.ptr t ds) (.pointer (some ⟨b,0,none⟩))
 | ifc (t:TypeId) (d:Dat) (v:Value):Lies w D d v->Lies w D (.ifc t d) (.iface t v)
 | map (g n:Nat) (es:Array MapEntry) (clock:Nat) (ds:List Dat) (xs:List Value):D g->w.heap[g]?=some (.map es clock)->es.size=n->kvs es.toList=xs->ds.length=xs.length->(∀ (j:Nat) d x,ds[j]?=some d->xs[j]?=some x->Lies w D d x)->Lies w D (.map n ds) (.map (some g))
 | fn (f:FuncId) (ds:List Dat) (xs:List Value):ds.length=xs.length->(∀ (j:Nat) d x,ds[j]?=some d->xs[j]?=some x->Lies w D d x)->Lies w D (.fn f ds) (.func (.func f) #[] xs.toArray)
 | pref (b o:Nat) (ds:List Dat) (X:Nat->Value):D b->(∀ j,j<ds.length->w.cell? ⟨b,o+j,none⟩=some (X j))->(∀ j d,ds[j]?=some d->Lies w D d (X j))->Lies w D (.pref ds) (.pointer (some ⟨b,o,none⟩))
def Keeps(D:Nat->Prop)(w w':World):Prop:=∀ b,D b->w'.heap[b]?=w.heap[b]?
theorem Keeps.refl(D:Nat->Prop)(w:World):Keeps D w w:=fun _ _=>rfl
theorem Keeps.trans{D:Nat->Prop}{a b c:World}(h:Keeps D a b)(k:Keeps D b c):Keeps D a c:=fun g hg=>(k g hg).trans (h g hg)
theorem Keeps.of_below{D:Nat->Prop}{B:Nat}{w w':World}(hb:Below B w w')(hD:∀ g,D g->g<B):Keeps D w w':=fun g hg=>hb.block g (hD g hg)
theorem Keeps.of_grown{D:Nat->Prop}{w w':World}{r:Option Nat}(hg:w.grownBy w' r)(hD:∀ g,D g->g<w.heap.size)(hr:∀ g,D g->some g≠r):Keeps D w w':=fun g h=>hg.block g (hD g h) (hr g h)
theorem Lies.stay{w w':World}{D D':Nat->Prop}{d:Dat}{v:Value}(h:Lies w D d v)(hk':Keeps D w w')(hD:∀ g,D g->D' g):Lies w' D' d v:=by
 induction h with
 | cell v=>exact .cell v
 | none k p c=>grind[none]
 | row k n b o c ds X hn hnc hl hb hc _ ih=>
  exact .row k n b o c ds X hn hnc hl (hD b hb) (fun j hj=>(World.cell?_of_block (a:=⟨b,o+j,Option.none⟩) (hk' b hb)).trans (hc j hj)) ih
 | ptr b t ds xs hb hc hl _ ih=>exact .ptr b t ds xs (hD b hb) ((hk' b hb).trans hc) hl ih
 | ifc t d v _ ih=>grind[ifc]
 | map g n es clock ds xs hg hh hn hk hl _ ih=>exact .map g n es clock ds xs (hD g hg) ((hk' g hg).trans hh) hn hk hl ih
 | fn f ds xs hl _ ih=>grind[fn]
 | pref b o ds X hb hc _ ih=>exact .pref b o ds X (hD b hb) (fun j hj=>(World.cell?_of_block (a:=⟨b,o+j,Option.none⟩) (hk' b hb)).trans (hc j hj)) ih
def Fits(w:World)(D:Nat->Prop)(ds:List Dat)(xs:List Value):Prop:=ds.length=xs.length /\ ∀ (j:Nat) d x,ds[j]?=some d->xs[j]?=some x->Lies w D d x
theorem Fits.stay{w w':World}{D D':Nat->Prop}{ds:List Dat}{xs:List Value}(h:Fits w D ds xs)(hk:Keeps D w w')(hD:∀ g,D g->D' g):Fits w' D' ds xs:=⟨h.1,fun j d x h1 h2=>(h.2 j d x h1 h2).stay hk hD⟩
theorem Fits.nil(w:World)(D:Nat->Prop):Fits w D [] []:=⟨rfl,fun j d x h=>by simp at h⟩
theorem Fits.cons{w:World}{D:Nat->Prop}{d:Dat}{x:Value}{ds:List Dat}{xs:List Value}(h1:Lies w D d x)(h2:Fits w D ds xs):Fits w D (d::ds) (x::xs):=by
 refine⟨by simp[h2.1],fun j d' x' a b=>?_⟩
 cases j with
 | zero=>
  grind
 | succ j=>exact h2.2 j d' x' (by simpa using a) (by grind)
theorem Fits.head{w:World}{D:Nat->Prop}{d:Dat}{ds:List Dat}{xs:List Value}(h:Fits w D (d::ds) xs):∃ x ys,xs=x::ys/\Lies w D d x/\Fits w D ds ys:=by
 obtain⟨hl,hx⟩:=h
 cases xs with
 | nil=>simp at hl
 | cons x ys=>exact⟨x,ys,rfl,hx 0 d x rfl rfl,by simpa using hl,fun j d' x' a b=>hx (j+1) d' x' (by simpa using a) (by grind)⟩
theorem Fits.append{w:World}{D:Nat->Prop}{ds es:List Dat}{xs ys:List Value}(h1:Fits w D ds xs)(h2:Fits w D es ys):Fits w D (ds++es) (xs++ys):=by
 refine⟨by simp[h1.1,h2.1],fun j d x a b=>?_⟩
 rcases Nat.lt_or_ge j ds.length with hj | hj
 ·rw[List.getElem?_append_left hj]at a
  rw[List.getElem?_append_left (by rw[<- h1.1];exact hj)]at b
  exact h1.2 j d x a b
 ·rw[List.getElem?_append_right hj]at a
  rw[List.getElem?_append_right (by rw[<- h1.1];exact hj),<- h1.1]at b
  exact h2.2 _ d x a b
theorem Lies.cell_eq{w:World}{D:Nat->Prop}{v x:Value}(h:Lies w D (.cell v) x):x=v:=by cases h;rfl
theorem Fits.cells{w:World}{D:Nat->Prop}{vs xs:List Value}(h:Fits w D (vs.map .cell) xs):xs=vs:=by
 induction vs generalizing xs with
 | nil=>exact List.eq_nil_of_length_eq_zero (by simpa using h.1.symm)
 | cons v vs ih=>
  obtain⟨x,ys,rfl,h1,h2⟩:=Fits.head h
  rw[h1.cell_eq,ih h2]
theorem Fits.part{w:World}{D:Nat->Prop}{ds:List Dat}{xs:List Value}(h:Fits w D ds xs)(i k:Nat):Fits w D ((ds.drop i).take k) ((xs.drop i).take k):=by
 refine⟨by simp[h.1],fun j d x a b=>?_⟩
 rw[List.getElem?_take]at a b
 split at a
 ·rename_i hj
  rw[if_pos hj]at b
  rw[List.getElem?_drop]at a b
  exact h.2 _ d x a b
 ·cases a
theorem N0{α:Type}{f:α->List Dat}{k:Nat}(hk:∀ a,(f a).length=k):∀ qs:List α,(qs.flatMap f).length=qs.length*k
 | []=>by simp
 | a::qs=>by rw[List.flatMap_cons,List.length_append,hk,N0 hk qs,List.length_cons,Nat.succ_mul];omega
theorem I6{α:Type}{f:α->List Dat}{k:Nat}(hk:∀ a,(f a).length=k):∀ (qs:List α) (i:Nat) (a:α),qs[i]?=some a->((qs.flatMap f).drop (i*k)).take k=f a
 | [],i,a,h=>by simp at h
 | x::qs,0,a,h=>by
  grind
 | x::qs,i+1,a,h=>by
  rw[List.flatMap_cons,show(i+1)*k=(f x).length+i*k by grind,List.drop_append]
  rw[List.drop_of_length_le (by omega),List.nil_append,show(f x).length+i*k-(f x).length=i*k by omega]
  exact I6 hk qs i a (by grind)
def RowD(w:World)(D:Nat->Prop)(k:Nat)(p:Option Addr){α:Type}(f:α->List Dat)(qs:List α):Prop:=
 0<qs.length -> ∃ b o,p=some ⟨b,o,none⟩/\D b /\ ∀ (i:Nat) a,qs[i]?=some a -> ∃ xs:List Value,xs.length=k/\(∀ (j:Nat) x,xs[j]?=some x->w.cell? ⟨b,o+i*k+j,none⟩=some x)/\Fits w D (f a) xs
theorem RowD.stay{w w':World}{D:Nat->Prop}{k:Nat}{p:Option Addr}{α:Type}{f:α->List Dat}{qs:List α}(h:RowD w D k p f qs)(hk:Keeps D w w'):RowD w' D k p f qs:=fun hl=>by
 obtain⟨b,o,e,hb,hc⟩:=h hl
 exact⟨b,o,e,hb,fun i a ha=>by
  obtain⟨xs,h1,h2,h3⟩:=hc i a ha
  exact⟨xs,h1,fun j x hx=>(World.cell?_of_block (a:=⟨b,o+i*k+j,none⟩) (hk b hb)).trans (h2 j x hx),h3.stay hk fun _ h=>h⟩⟩
theorem Lies.row_at{w:World}{D:Nat->Prop}{k:Nat}{α:Type}{f:α->List Dat}(hk:∀ a,(f a).length=k){qs:List α}{v:Value}(h:Lies w D (.row k qs.length (qs.flatMap f)) v):
  ∃ p c,v=.slice p qs.length c/\RowD w D k p f qs:=by
 generalize hn:qs.length=n at h
 generalize hd:qs.flatMap f=ds at h
 cases h with
 | none k p c=>exact⟨p,c,rfl,fun h=>by omega⟩
 | row k n b o c ds X hn0 _ hl hb hc hx=>
  refine⟨_,c,rfl,fun _=>⟨b,o,rfl,hb,fun i a ha=>?_⟩⟩
  have hi:i<qs.length:=by
   rcases Nat.lt_or_ge i qs.length with h | h
   ·exact h
   ·grind
  have hik:i*k+k<=ds.length:=by rw[hl,<- Nat.succ_mul];exact Nat.mul_le_mul_right _ (by omega)
  have hp:=I6 hk qs i a ha
  rw[hd]at hp
  refine⟨(List.range k).map fun j=>X (i*k+j),by simp,fun j x hj=>?_,?_⟩
  ·grind
  ·rw[<- hp]
   refine⟨by simp;omega,fun j d x a b=>?_⟩
   grind
def Gr(w:World)(D:Nat->Prop)(base:Nat)(e:TypeId)(k:Nat)(v:Value)(n:Nat)(ds:List Dat):Prop:=∃ xs,w.ownsRow base e k v n xs/\Fits w D ds xs
theorem Gr.nil(w:World)(D:Nat->Prop)(base:Nat)(e:TypeId)(k:Nat):Gr w D base e k (.slice none 0 0) 0 []:=⟨[],World.ownsRow_nil _ _ _ _,Fits.nil _ _⟩
theorem ownsRow.stay{w w':World}{base:Nat}{e:TypeId}{k:Nat}{v:Value}{n:Nat}{xs:List Value}(h:w.ownsRow base e k v n xs)(hv:∀ g,v.ownBlock=some g->w'.heap[g]?=w.heap[g]?):w'.ownsRow base e k v n xs:=by
 obtain⟨h1,h2⟩:=h
 refine⟨h1,?_⟩
 rcases h2 with h2 | ⟨g,cap,cur,rfl,hg,hh,hr⟩
 ·grind
 ·exact .inr ⟨g,cap,cur,rfl,hg,(hv g rfl).trans hh,hr⟩
theorem Gr.stay{w w':World}{D D':Nat->Prop}{base:Nat}{e:TypeId}{k:Nat}{v:Value}{n:Nat}{ds:List Dat}(h:Gr w D base e k v n ds)(hv:∀ g,v.ownBlock=some g->w'.heap[g]?=w.heap[g]?)(hk:Keeps D w w')(hD:∀ g,D g->D' g):Gr w' D' base e k v n ds:=by
 obtain⟨xs,h1,h2⟩:=h
 exact⟨xs,ownsRow.stay h1 hv,h2.stay hk hD⟩
theorem Gr.below{w w':World}{D:Nat->Prop}{base:Nat}{e:TypeId}{k:Nat}{v:Value}{n:Nat}{ds:List Dat}(h:Gr w D base e k v n ds)(hb:Below w.heap.size w w')(hD:∀ g,D g->g<w.heap.size):Gr w' D base e k v n ds:=by
 obtain⟨xs,h1,h2⟩:=h
 exact⟨xs,ownsRow.stay h1 fun g hg=>hb.block g (h1.lt g hg).2,h2.stay (.of_below hb hD) fun _ h=>h⟩
theorem Gr.lies{w:World}{D D':Nat->Prop}{base:Nat}{e:TypeId}{k:Nat}{v:Value}{n:Nat}{ds:List Dat}(h:Gr w D base e k v n ds)(hD:∀ g,D g->D' g)(hv:∀ g,v.ownBlock=some g->D' g):Lies w D' (.row k n ds) v:=by
 obtain⟨xs,h1,h2⟩:=h
 have hl:=h1.1
 rcases h1.2 with⟨rfl,h0⟩ | ⟨g,cap,cur,rfl,hg,hh,hnc,hm,hcs,ht⟩
 ·subst h0
  obtain rfl:ds=[]:=List.eq_nil_of_length_eq_zero (by rw[h2.1,hl];simp)
  exact .none _ _ _
 ·rcases Nat.eq_zero_or_pos n with h0 | h0
  ·subst h0
   obtain rfl:ds=[]:=List.eq_nil_of_length_eq_zero (by rw[h2.1,hl];simp)
   exact .none _ _ _
  ·refine .row k n g 0 cap ds (fun j=>(cur[j]?).getD default) h0 hnc (by rw[h2.1,hl]) (hv g rfl) (fun j hj=>?_) fun j d hd=>?_
   ·rw[h2.1,hl]at hj
    rw[Nat.zero_add,cell_of_row w g j cur e (0,0) hh]
    grind
   ·have hj:j<xs.length:=by
     rw[<- h2.1]
     rcases Nat.lt_or_ge j ds.length with h | h
     ·exact h
     ·grind
    have hx:xs[j]?=cur[j]?:=by
     rw[<- ht,List.getElem?_take,if_pos (by grind)]
     simp
    have hx2:=List.getElem?_eq_getElem hj
    rw[hx]at hx2
    show Lies w D' d ((cur[j]?).getD default)
    rw[hx2]
    exact(h2.2 j d _ hd (by grind)).stay (Keeps.refl _ _) hD
theorem Gr.more{w w':World}{D:Nat->Prop}{base:Nat}{e:TypeId}{k:Nat}{v':Value}{n m:Nat}{ds es:List Dat}{xs ys:List Value}(hf:Fits w D ds xs)(hown:w'.ownsRow base e k v' (n+m) (xs++ys))(hk:Keeps D w w')(hy:Fits w D es ys):Gr w' D base e k v' (n+m) (ds++es):=
 ⟨_,hown,(hf.append hy).stay hk fun _ h=>h⟩
section
theorem SG{α:Type}{f:α->List Dat}{k:Nat}(hk:∀ a,(f a).length=k){qs:List α}{i r:Nat}{a:α}(ha:qs[i]?=some a)(hr:r<k):(qs.flatMap f)[i*k+r]?=(f a)[r]?:=by
 have h:=I6 hk qs i a ha
 rw[<- h,List.getElem?_take,if_pos hr,List.getElem?_drop]
def Old(w:World):Nat->Prop:=fun g=>g<w.heap.size
section
variable{H:Type}{enc:TypeId×Value->H}{P:Program}{w:World}{base:Nat}{spare:Nat->Bool}{held:Bool}{fuel:Nat}{t:TypeId}{cs:List Value}{x:DataW H×List MemPlace}
theorem EV{e:TypeId}(ht:P.underlying t=some (.slice e)){k:Nat}(hk0:0<k)(hke:P.cellsOf e=k){α:Type}[Inhabited α]{f:α->List Dat}(hk:∀ a,(f a).length=k){F:α->Prop}
  (elem:∀ n,n<fuel -> ∀ cs x,DataW.trod enc P w base spare held n e cs=some x -> ∃ a,Fits w (Old w) (f a) cs/\F a) (h:DataW.trod enc P w base spare held fuel t cs=some x):
  ∃ p,∃ qs:List α,∃ c,cs=[.slice p qs.length c]/\Lies w (Old w) (.row k qs.length (qs.flatMap f)) (.slice p qs.length c)/\(∀ a∈qs,F a)/\qs.length<=c/\c<=maxLen:=by
 rcases DataW.trod_slice ht h with⟨rfl,_⟩ | ⟨ad,len,cap,elems,rest,n,rfl,rfl,_,hb,hl,hm,hlen,hel,_,_⟩
 ·exact⟨none,[],0,rfl,.none _ _ _,by simp,by simp,by simp⟩
 ·rw[hke]at hel
  have hone:∀ i,i<len -> ∃ y:α×List Value,Fits w (Old w) (f y.1) y.2/\F y.1 /\ ∀ j,j<k->w.cell? (ad.add (i*k+j))=y.2[j]?:=fun i hi=>by
   have key:=hel i hi
   rw[List.getElem?_eq_getElem (by omega)]at key
   obtain⟨cs',h1,h2⟩:=Option.bind_eq_some_iff.1 key
   obtain⟨a,hF,hA⟩:=elem n (by omega) cs' _ h2
   obtain⟨_,_,hat⟩:=World.cells?_some h1
   exact⟨(a,cs'),hF,hA,fun j hj=>by rw[<- Go.Deep.add_add];exact hat j hj⟩
  obtain⟨Y,hY⟩:=Go.Deep.choose_lt (α:=α×List Value) (p:=fun i y=>Fits w (Old w) (f y.1) y.2/\F y.1 /\ ∀ j,j<k->w.cell? (ad.add (i*k+j))=y.2[j]?) hone
  have hlen':((List.range len).map fun i=>(Y i).1).length=len:=by simp
  have hget:∀ i,i<len->((List.range len).map fun i=>(Y i).1)[i]?=some (Y i).1:=fun i hi=>by rw[List.getElem?_map,List.getElem?_range hi];rfl
  refine⟨some ad,(List.range len).map fun i=>(Y i).1,cap,by rw[hlen'],?_,fun a ha=>?_,by omega,hm⟩
  ·rw[hlen']
   rcases Nat.eq_zero_or_pos len with h0 | h0
   ·subst h0
    exact .none _ _ _
   obtain⟨b,o,s⟩:=ad
   have hcell:∀ i,i<len -> ∀ j,j<k -> ∃ v,(Y i).2[j]?=some v:=fun i hi j hj=>by
    have hl':=(hY i hi).1.1
    rw[hk]at hl'
    exact⟨_,List.getElem?_eq_getElem (by omega)⟩
   obtain rfl:s=none:=by
    obtain⟨v,hv⟩:=hcell 0 h0 0 hk0
    have:=(hY 0 h0).2.2 0 hk0
    rw[hv]at this
    simpa[Addr.add]using World.cell?_spot this
   have hb':b<w.heap.size:=by
    obtain⟨v,hv⟩:=hcell 0 h0 0 hk0
    have:=(hY 0 h0).2.2 0 hk0
    rw[hv]at this
    have:=World.block_lt_of_cell? _ _ this
    simpa[Addr.add_lit]using this
   have hfl:((((List.range len).map fun i=>(Y i).1)).flatMap f).length=len*k:=by rw[N0 hk,hlen']
   refine .row k len b o cap _ (fun j=>((Y (j / k)).2[j % k]?).getD default) h0 (by omega) hfl hb' (fun j hj=>?_) fun j d hd=>?_
   ·rw[hfl]at hj
    have hi:j / k<len:=Nat.div_lt_of_lt_mul (by rw[Nat.mul_comm];exact hj)
    have hr:j % k<k:=Nat.mod_lt _ hk0
    obtain⟨v,hv⟩:=hcell _ hi _ hr
    have:=(hY _ hi).2.2 _ hr
    rw[Addr.add_lit,Nat.div_add_mod' j k]at this
    rw[this,hv]
    rfl
   ·have hj:j<len*k:=by rw[<- hfl];exact(List.getElem?_eq_some_iff.1 hd).1
    have hi:j / k<len:=Nat.div_lt_of_lt_mul (by rw[Nat.mul_comm];exact hj)
    have hr:j % k<k:=Nat.mod_lt _ hk0
    obtain⟨v,hv⟩:=hcell _ hi _ hr
    rw[<- Nat.div_add_mod' j k,SG hk (hget _ hi) hr]at hd
    show Lies w (Old w) d (((Y (j / k)).2[j % k]?).getD default)
    rw[hv]
    exact(hY _ hi).1.2 _ d v hd hv
  ·obtain⟨i,hi,rfl⟩:=List.mem_map.1 ha
   exact(hY i (by simpa using hi)).2.1
end
end
def str(l:List UInt8):ByteArray:=⟨l.toArray⟩
theorem KN(l:List UInt8):(str l).toList=l:=ByteArray.toList_mk l
theorem SY(l:List UInt8):(str l).size=l.length:=by simp[str,ByteArray.size]
mutual
def Vl.dats:Vl->List Dat
 | .mk k n t fs r ls ps=>[.cell (.int .i64 k),.cell (.int .u64 (n:Int)),.cell (.string (str t)),.row 8 fs.length (fdats fs),.cell (.string (str r)),.row 7 ls.length (ldats ls),.row 14 ps.length (pdats ps)]
def fdats:List (Int×Vl)->List Dat
 | []=>[]
 | (n,x)::fs=>(.cell (.int .i64 n)::x.dats)++fdats fs
def ldats:List Vl->List Dat
 | []=>[]
 | x::ls=>x.dats++ldats ls
def pdats:List (Vl×Vl)->List Dat
 | []=>[]
 | (k,x)::ps=>(k.dats++x.dats)++pdats ps
end
def fieldDats(f:Int×Vl):List Dat:=.cell (.int .i64 f.1)::f.2.dats
def pairDats(p:Vl×Vl):List Dat:=p.1.dats++p.2.dats
theorem NA:∀ fs:List (Int×Vl),fdats fs=fs.flatMap fieldDats
 | []=>by simp[fdats]
 | (n,x)::fs=>by rw[fdats,NA fs,List.flatMap_cons];rfl
theorem O1:∀ ls:List Vl,ldats ls=ls.flatMap Vl.dats
 | []=>by simp[ldats]
 | x::ls=>by rw[ldats,O1 ls,List.flatMap_cons]
theorem NV:∀ ps:List (Vl×Vl),pdats ps=ps.flatMap pairDats
 | []=>by simp[pdats]
 | (k,x)::ps=>by rw[pdats,NV ps,List.flatMap_cons];rfl
theorem Vl.dats_eq(v:Vl):v.dats=[.cell (.int .i64 v.kind),.cell (.int .u64 (v.num:Int)),.cell (.string (str v.text)),.row 8 v.fields.length (v.fields.flatMap fieldDats),.cell (.string (str v.rest)),.row 7 v.list.length (v.list.flatMap Vl.dats),.row 14 v.pairs.length (v.pairs.flatMap pairDats)]:=by
 cases v
 rw[Vl.dats,NA,O1,NV]
 rfl
theorem Vl.dats_len(v:Vl):v.dats.length=7:=by rw[v.dats_eq];rfl
theorem BY(f:Int×Vl):(fieldDats f).length=8:=by unfold fieldDats;rw[List.length_cons,Vl.dats_len]
theorem BT(p:Vl×Vl):(pairDats p).length=14:=by unfold pairDats;rw[List.length_append,Vl.dats_len,Vl.dats_len]
def ME(v:Vl)(f l p:Value):List Value:=[.int .i64 v.kind,.int .u64 (v.num:Int),.string (str v.text),f,.string (str v.rest),l,p]
structure Vin (w:World) (D:Nat->Prop) (v:Vl) (pf:Option Addr) (cf:Nat) (pl:Option Addr) (cl:Nat) (pp:Option Addr) (cp:Nat):Prop where
 fields:RowD w D 8 pf fieldDats v.fields
 list:RowD w D 7 pl Vl.dats v.list
 pairs:RowD w D 14 pp pairDats v.pairs
theorem Fits.seven{w:World}{D:Nat->Prop}{a b c d e f g:Dat}{xs:List Value}(h:Fits w D [a,b,c,d,e,f,g] xs):
  ∃ x0 x1 x2 x3 x4 x5 x6,xs=[x0,x1,x2,x3,x4,x5,x6]/\Lies w D a x0/\Lies w D b x1/\Lies w D c x2/\Lies w D d x3/\Lies w D e x4/\Lies w D f x5/\Lies w D g x6:=by
 obtain⟨x0,y0,rfl,h0,k0⟩:=Fits.head h
 obtain⟨x1,y1,rfl,h1,k1⟩:=Fits.head k0
 obtain⟨x2,y2,rfl,h2,k2⟩:=Fits.head k1
 obtain⟨x3,y3,rfl,h3,k3⟩:=Fits.head k2
 obtain⟨x4,y4,rfl,h4,k4⟩:=Fits.head k3
 obtain⟨x5,y5,rfl,h5,k5⟩:=Fits.head k4
 obtain⟨x6,y6,rfl,h6,k6⟩:=Fits.head k5
 obtain rfl:y6=[]:=List.eq_nil_of_length_eq_zero k6.1.symm
 exact⟨x0,x1,x2,x3,x4,x5,x6,rfl,h0,h1,h2,h3,h4,h5,h6⟩
theorem Vl.lies{w:World}{D:Nat->Prop}{v:Vl}{f l p:Value}(h:Fits w D v.dats (ME v f l p)):Lies w D (.row 8 v.fields.length (v.fields.flatMap fieldDats)) f/\Lies w D (.row 7 v.list.length (v.list.flatMap Vl.dats)) l/\Lies w D (.row 14 v.pairs.length (v.pairs.flatMap pairDats)) p:=by
 rw[v.dats_eq]at h
 obtain⟨x0,x1,x2,x3,x4,x5,x6,e,h0,h1,h2,h3,h4,h5,h6⟩:=Fits.seven h
 simp only[ME,List.cons.injEq,and_true]at e
 obtain⟨_,_,_,rfl,_,rfl,rfl⟩:=e
 exact⟨h3,h5,h6⟩
theorem Vl.shut{w:World}{D:Nat->Prop}{v:Vl}{f l p:Value}(hf:Lies w D (.row 8 v.fields.length (v.fields.flatMap fieldDats)) f)(hl:Lies w D (.row 7 v.list.length (v.list.flatMap Vl.dats)) l)(hp:Lies w D (.row 14 v.pairs.length (v.pairs.flatMap pairDats)) p):Fits w D v.dats (ME v f l p):=by
 rw[v.dats_eq]
 exact .cons (.cell _) (.cons (.cell _) (.cons (.cell _) (.cons hf (.cons (.cell _) (.cons hl (.cons hp (.nil _ _)))))))
theorem Vin.stay{w w':World}{D:Nat->Prop}{v:Vl}{pf:Option Addr}{cf:Nat}{pl:Option Addr}{cl:Nat}{pp:Option Addr}{cp:Nat}(h:Vin w D v pf cf pl cl pp cp)(hk:Keeps D w w'):Vin w' D v pf cf pl cl pp cp:=⟨h.fields.stay hk,h.list.stay hk,h.pairs.stay hk⟩
theorem Fits.split{w:World}{D:Nat->Prop}{ds es:List Dat}{xs:List Value}(h:Fits w D (ds++es) xs):∃ ys zs,xs=ys++zs/\Fits w D ds ys/\Fits w D es zs:=by
 have hl:=h.1
 rw[List.length_append]at hl
 refine⟨xs.take ds.length,xs.drop ds.length,(List.take_append_drop _ _).symm,?_,?_⟩
 ·have:=h.part 0 ds.length
  simpa using this
 ·have:=h.part ds.length es.length
  rw[List.drop_left,List.take_length]at this
  rwa [List.take_of_length_le (by rw[List.length_drop];omega)]at this
inductive Vl.Fine:Vl->Prop where
 | mk (v:Vl) : -9223372036854775808<=v.kind->v.kind<9223372036854775808->v.num<18446744073709551616->v.text.length<=maxLen->v.rest.length<=maxLen->v.fields.length<=maxLen->v.list.length<=maxLen->v.pairs.length<=maxLen ->
  (∀ f∈v.fields,-9223372036854775808<=f.1/\f.1<9223372036854775808)->(∀ f∈v.fields,Fine f.2)->(∀ x∈v.list,Fine x)->(∀ p∈v.pairs,Fine p.1)->(∀ p∈v.pairs,Fine p.2)->Fine v
theorem Vl.Fine.bounds{v:Vl}(h:v.Fine):v.num<18446744073709551616/\v.text.length<=maxLen/\v.rest.length<=maxLen/\v.fields.length<=maxLen/\v.list.length<=maxLen/\v.pairs.length<=maxLen /\ -9223372036854775808<=v.kind/\v.kind<9223372036854775808:=by
 cases h
 exact⟨‹_›,‹_›,‹_›,‹_›,‹_›,‹_›,‹_›,‹_›⟩
theorem Vl.Fine.field{v:Vl}(h:v.Fine){f:Int×Vl}(hf:f∈v.fields):(-9223372036854775808<=f.1/\f.1<9223372036854775808)/\f.2.Fine:=by
 cases h with
 | mk v a b c d e f g h i j k l m=>exact⟨i _ hf,j _ hf⟩
theorem Vl.Fine.elem{v:Vl}(h:v.Fine){x:Vl}(hx:x∈v.list):x.Fine:=by
 cases h with
 | mk v a b c d e f g h i j k l m=>exact k _ hx
theorem Vl.Fine.pair{v:Vl}(h:v.Fine){p:Vl×Vl}(hp:p∈v.pairs):p.1.Fine/\p.2.Fine:=by
 cases h with
 | mk v a b c d e f g h i j k l m=>exact⟨l _ hp,m _ hp⟩
end Go.Proofs.Ytecfdcdkkgmkpaa
