/- Part 14. Conditions: as each theorem says. -/
import Derived.Test.YtgcphgdkddihcaaGreatDoorSR13
import Derived.Test.YtgcphgdkddihcaaGreatDoorProg
import Derived.Lib.BufferWrite
import Derived.Lib.UnsafeStr
import Derived.Laws.MakeOwn
import Derived.OwnWalk
set_option maxRecDepth 100000
namespace Go.Proofs.YtgcphgdkddihcaaGreatDoor
open Go.RowKit
structure Ty where
 full:List UInt8
 en:Bool
 ix:Nat
 line:Int
 col:Int
deriving DecidableEq
def Ty.vals(x:Ty):List Value:=[.string (str x.full),.bool x.en,.int .i64 (x.ix:Int),.int .i64 x.line,.int .i64 x.col]
def Ty.dats(x:Ty):List Dat:=x.vals.map .cell
def ty0:Ty:=⟨[],false,0,0,0⟩
theorem Ty.dats_len(x:Ty):x.dats.length=5:=rfl
def G6:Nat->List (List UInt8×Dat)->List Ty->List (List UInt8×Dat)
 | _,ps,[]=>ps
 | i,ps,x::L=>G6 (i+1) (GB x.full (.cell (.int .i64 (i:Int))) ps) L
def plc(L:List Ty):List (List UInt8×Dat):=G6 0 [] L
def GA:List (Int×Dat)->List Ty->List (Int×Dat)
 | ps,[]=>ps
 | ps,x::L=>GA (GB (x.full.length:Int) (.cell (.bool true)) ps) L
def NZ(L:List Ty):List (Int×Dat):=GA [] L
def kS(t:List UInt8):Value:=.string (str t)
def kI(z:Int):Value:=.int .i64 z
def pad(L:List Ty):List Ty:=L++List.replicate (40-L.length) ty0
def tds(L:List Ty):List Dat:=(pad L).flatMap Ty.dats
theorem Q5U{L:List Ty}(h:L.length<=40):(pad L).length=40:=by
 unfold pad
 rw[List.length_append,List.length_replicate]
 omega
theorem IL{L:List Ty}(h:L.length<=40):(tds L).length=200:=by
 unfold tds
 rw[IW Ty.dats_len,Q5U h]
theorem L4{α:Type}[DecidableEq α](x y:α)(d:Dat):∀ ps:List (α×Dat),DN y (GB x d ps)=if y=x then some d else DN y ps
 | []=>by
  unfold GB DN DN
  rfl
 | p::ps=>by
  unfold GB
  by_cases h:x=p.1
  ·rw[if_pos h]
   by_cases h2:y=x
   ·simp[DN,h2]
   ·simp[DN,h2,<- h]
  ·rw[if_neg h]
   by_cases h2:y=p.1
   ·have:¬ y=x:=fun e=>h (e.symm.trans h2)
    simp only[DN]
    rw[if_pos h2,if_pos h2,if_neg this]
   ·simp only[DN]
    rw[if_neg h2,if_neg h2]
    exact L4 x y d ps
theorem KI:∀ (L M:List Ty) (i:Nat) (ps:List (List UInt8×Dat)),G6 i ps (L++M)=G6 (i+L.length) (G6 i ps L) M
 | [],M,i,ps=>rfl
 | x::L,M,i,ps=>by
  show G6 (i+1) _ (L++M)=_
  rw[KI L M]
  show _=G6 (i+(L.length+1)) (G6 (i+1) _ L) M
  rw[show i+1+L.length=i+(L.length+1) by omega]
theorem Q5a(L:List Ty)(x:Ty):plc (L++[x])=GB x.full (.cell (.int .i64 (L.length:Int))) (plc L):=by
 unfold plc
 rw[KI,Nat.zero_add]
 rfl
theorem JW:∀ (L M:List Ty) (ps:List (Int×Dat)),GA ps (L++M)=GA (GA ps L) M
 | [],M,ps=>rfl
 | x::L,M,ps=>JW L M _
theorem Q2d(L:List Ty)(x:Ty):NZ (L++[x])=GB (x.full.length:Int) (.cell (.bool true)) (NZ L):=by
 unfold NZ
 rw[JW]
 rfl
def ML(x:List UInt8):List Ty->Option Nat
 | []=>none
 | t::L=>if t.full=x then some 0 else(ML x L).map (· + 1)
theorem Q2j(x:List UInt8)(t:Ty)(L:List Ty):ML x (t::L)=if t.full=x then some 0 else(ML x L).map (· + 1):=rfl
def D2(x:List UInt8):List Ty->Option Ty
 | []=>none
 | t::L=>if t.full=x then some t else D2 x L
theorem V7(x:List UInt8):∀ L:List Ty,D2 x L=(ML x L).bind (L[·]?)
 | []=>rfl
 | t::L=>by
  unfold D2 ML
  split
  ·rfl
  ·rw[V7 x L]
   cases ML x L<;>simp
theorem V5{x:List UInt8}:∀ {L:List Ty},(∀ t∈L,t.full≠x)->ML x L=none
 | [],_=>rfl
 | t::L,h=>by
  unfold ML
  rw[if_neg (h t List.mem_cons_self),V5 fun u hu=>h u (List.mem_cons_of_mem _ hu)]
  rfl
theorem Q1W{x:List UInt8}:∀ {L:List Ty} {i:Nat},ML x L=some i -> ∃ t,L[i]?=some t/\t.full=x
 | [],i,h=>by cases h
 | t::L,i,h=>by
  unfold ML at h
  split at h
  ·rename_i ht
   obtain rfl:=Option.some.inj h
   exact⟨t,rfl,ht⟩
  ·rw[Option.map_eq_some_iff]at h
   obtain⟨j,h1,rfl⟩:=h
   obtain⟨u,h2,h3⟩:=Q1W h1
   exact⟨u,by simpa using h2,h3⟩
theorem M0{x:List UInt8}:∀ {L:List Ty},D2 x L=none ↔ ∀ t∈L,t.full≠x
 | []=>by simp[D2]
 | t::L=>by
  unfold D2
  split
  ·rename_i h
   simp[h]
  ·rename_i h
   rw[M0 (L:=L)]
   simp[h]
theorem FX{x:List UInt8}:∀ {L:List Ty} {t:Ty},D2 x L=some t->t∈L/\t.full=x
 | [],t,h=>by cases h
 | u::L,t,h=>by
  unfold D2 at h
  split at h
  ·rename_i hu
   obtain rfl:=Option.some.inj h
   exact⟨List.mem_cons_self,hu⟩
  ·obtain⟨h1,h2⟩:=FX h
   exact⟨List.mem_cons_of_mem _ h1,h2⟩
def Q5o(L:List Ty):Prop:=(L.map (·.full)).Nodup
theorem P9(x:List UInt8):∀ (L:List Ty) (i:Nat) (ps:List (List UInt8×Dat)),Q5o L->DN x (G6 i ps L)=match ML x L with | some j=>some (.cell (.int .i64 ((i+j:Nat):Int))) | none=>DN x ps
 | [],i,ps,_=>rfl
 | t::L,i,ps,h=>by
  have h':t.full∉L.map (·.full)/\(L.map (·.full)).Nodup:=by simpa[Q5o]using h
  show DN x (G6 (i+1) _ L)=_
  rw[P9 x L _ _ h'.2]
  rw[Q2j]
  by_cases hx:t.full=x
  ·rw[if_pos hx,V5 fun u hu e=>h'.1 (by rw[hx,<- e];exact List.mem_map_of_mem hu)]
   simp only[L4]
   rw[if_pos hx.symm]
   rfl
  ·rw[if_neg hx]
   cases hf:ML x L with
   | none=>
    simp only[Option.map_none,L4]
    rw[if_neg (Ne.symm hx)]
   | some j=>
    simp only[Option.map_some]
    rw[show i+1+j=i+(j+1) by omega]
theorem Q6l{L:List Ty}(h:Q5o L)(x:List UInt8):DN x (plc L)=(ML x L).map fun j=>.cell (.int .i64 (j:Int)):=by
 unfold plc
 rw[P9 x L 0 [] h]
 cases ML x L with
 | none=>rfl
 | some j=>simp
theorem MU(n:Int):∀ (L:List Ty) (ps:List (Int×Dat)),DN n (GA ps L)=if ∃ t∈L,(t.full.length:Int)=n then some (.cell (.bool true))else DN n ps
 | [],ps=>by simp[GA]
 | t::L,ps=>by
  show DN n (GA _ L)=_
  rw[MU n L,L4]
  by_cases h1:∃ u∈L,(u.full.length:Int)=n
  ·rw[if_pos h1,if_pos]
   obtain⟨u,h2,h3⟩:=h1
   exact⟨u,List.mem_cons_of_mem _ h2,h3⟩
  ·rw[if_neg h1]
   by_cases h2:n=(t.full.length:Int)
   ·rw[if_pos h2,if_pos ⟨t,List.mem_cons_self,h2.symm⟩]
   ·rw[if_neg h2,if_neg]
    rintro⟨u,h3,h4⟩
    rcases List.mem_cons.1 h3 with rfl | h3
    ·exact h2 h4.symm
    ·exact h1 ⟨u,h3,h4⟩
def MB(n:Nat)(L:List Ty):Bool:=L.any fun t=>Nat.beq t.full.length n
theorem Q32(L:List Ty)(n:Nat):(DN (n:Int) (NZ L)).getD (.cell (.bool false))=.cell (.bool (MB n L)):=by
 unfold NZ
 rw[MU]
 have:(∃ t∈L,(t.full.length:Int)=(n:Int))↔MB n L=true:=by
  unfold MB
  rw[List.any_eq_true]
  constructor
  ·rintro⟨t,h1,h2⟩
   exact⟨t,h1,by rw[show t.full.length=n by omega];exact Nat.beq_refl n⟩
  ·rintro⟨t,h1,h2⟩
   exact⟨t,h1,by rw[Nat.eq_of_beq_eq_true h2]⟩
 cases h:MB n L with
 | true=>
  rw[if_pos (this.2 h)]
  rfl
 | false=>
  rw[if_neg fun e=>by rw[this.1 e]at h;cases h]
  rfl
theorem ZS{L:List Ty}{x:List UInt8}(h:MB x.length L=false):D2 x L=none:=by
 rw[M0]
 intro t ht e
 have:MB x.length L=true:=by
  unfold MB
  rw[List.any_eq_true]
  exact⟨t,ht,by rw[e];exact Nat.beq_refl _⟩
 rw[this]at h
 cases h
def cnt(en:Bool)(L:List Ty):Nat:=(L.filter fun t=>t.en==en).length
def JZ(L:List Ty)(x:Ty):Except (Nat×Int×Int) (List Ty):=
 if(D2 x.full L).isSome then .error (1,x.line,x.col)
 else if L.length=40 then .error (2,x.line,x.col)
 else .ok (L++[{ x with ix:=cnt x.en L }])
def CC:List Ty->List Ty->Except (Nat×Int×Int) (List Ty)
 | L,[]=>.ok L
 | L,x::xs=>match JZ L x with | .error e=>.error e | .ok M=>CC M xs
theorem KF:∀ (xs ys L:List Ty),CC L (xs++ys)=(match CC L xs with | .error e=>(.error e:Except (Nat×Int×Int) (List Ty)) | .ok M=>CC M ys)
 | [],ys,L=>rfl
 | x::xs,ys,L=>by
  show(match JZ L x with | .error e=>(.error e:Except (Nat×Int×Int) (List Ty)) | .ok M=>CC M (xs++ys))=(match (match JZ L x with | .error e=>(.error e:Except (Nat×Int×Int) (List Ty)) | .ok M=>CC M xs)with | .error e=>(.error e:Except (Nat×Int×Int) (List Ty)) | .ok M=>CC M ys)
  cases JZ L x with
  | error e=>rfl
  | ok M=>exact KF xs ys M
def GC(L:List Ty):Prop:=Q5o L/\L.length<=40
theorem Q4{L M:List Ty}{x:Ty}(h:GC L)(hx:JZ L x=.ok M):GC M/\M=L++[{ x with ix:=cnt x.en L }]/\D2 x.full L=none/\L.length<40:=by
 unfold JZ at hx
 split at hx
 ·cases hx
 ·rename_i h1
  split at hx
  ·cases hx
  ·rename_i h2
   have e:M=L++[{ x with ix:=cnt x.en L }]:=by
    cases hx
    rfl
   have h3:D2 x.full L=none:=by
    cases hf:D2 x.full L with
    | none=>rfl
    | some t=>rw[hf]at h1;exact absurd rfl h1
   have h4:L.length<40:=by have:=h.2;omega
   refine⟨?_,e,h3,h4⟩
   subst e
   refine⟨?_,by simp;omega⟩
   show((L++[({ x with ix:=cnt x.en L }:Ty)]).map Ty.full).Nodup
   rw[List.map_append,List.nodup_append]
   refine⟨h.1,by simp,fun a ha b hb e=>?_⟩
   obtain⟨t,ht,rfl⟩:=List.mem_map.1 ha
   have:b=x.full:=by simpa using hb
   exact(M0.1 h3) t ht (e.trans this)
theorem F1:∀ {xs L M:List Ty},GC L->CC L xs=.ok M->GC M
 | [],L,M,h,hx=>by
  cases hx
  exact h
 | x::xs,L,M,h,hx=>by
  unfold CC at hx
  cases ha:JZ L x with
  | error e=>rw[ha]at hx;cases hx
  | ok N=>
   rw[ha]at hx
   exact F1 (Q4 h ha).1 hx
def tyE(ahead:List UInt8)(e:Enm):Ty:=⟨ahead++e.name,true,0,e.line,e.col⟩
mutual
def tyM(ahead:List UInt8):Msg->List Ty
 | .mk n _ _ m e _ _ l c=>⟨ahead++n,false,0,l,c⟩::(e.map (tyE (ahead++n++[46]))++tyMs (ahead++n++[46]) m)
def tyMs(ahead:List UInt8):List Msg->List Ty
 | []=>[]
 | m::ms=>tyM ahead m++tyMs ahead ms
end
def E1(ahead:List UInt8)(e:List Enm)(m:List Msg):List Ty:=e.map (tyE ahead)++tyMs ahead m
def DG(p:List UInt8):List UInt8:=if p=[]then[]else p++[46]
def MF(f:Fil):List Ty:=E1 (DG f.package) f.enums f.msgs
def EX(f:Fil):Except (Nat×Int×Int) (List Ty):=CC [] (MF f)
def IE:List UInt8->Int
 | [] => -1
 | c::s=>if 0<=IE s then IE s+1 else if c=46 then 0 else -1
theorem T5:∀ s:List UInt8,IE s<(s.length:Int)
 | []=>by simp[IE]
 | c::s=>by
  have:=T5 s
  unfold IE
  rw[List.length_cons]
  split
  ·omega
  ·split<;>omega
theorem MJ:∀ {s:List UInt8},(∀ j:Nat,s[j]? ≠ some 46)->IE s = -1
 | [],_=>rfl
 | c::s,h=>by
  have h1:=MJ (s:=s) fun j=>by simpa using h (j+1)
  have h2:c≠46:=fun e=>h 0 (by simp[e])
  unfold IE
  rw[if_neg (by omega),if_neg h2]
theorem YQ:∀ {s:List UInt8} {k:Nat},s[k]?=some 46->(∀ j:Nat,k<j->s[j]? ≠ some 46)->IE s=(k:Int)
 | [],k,h,_=>by simp at h
 | c::s,0,h,hn=>by
  have h1:=MJ (s:=s) fun j=>by simpa using hn (j+1) (by omega)
  have h2:c=46:=by simpa using h
  unfold IE
  rw[if_neg (by omega),if_pos h2]
  rfl
 | c::s,k+1,h,hn=>by
  have h1:=YQ (s:=s) (k:=k) (by simpa using h) fun j hj=>by simpa using hn (j+1) (by omega)
  unfold IE
  rw[if_pos (by omega),h1]
  omega
def Y2(s:List UInt8):Nat:=(max (IE s) 0).toNat
theorem Q5p{s:List UInt8}(h:s≠[]):Y2 s<s.length:=by
 have h1:=T5 s
 have h2:0<s.length:=List.length_pos_iff.2 h
 unfold Y2
 omega
theorem VO(s:List UInt8):Y2 s<=s.length:=by
 have h1:=T5 s
 unfold Y2
 omega
def LT(s:List UInt8):List UInt8:=s.take (Y2 s)
theorem XY(s:List UInt8):(LT s).length=Y2 s:=by
 unfold LT
 rw[List.length_take]
 have:=VO s
 omega
theorem W5{s:List UInt8}(h:s≠[]):(LT s).length<s.length:=by
 rw[XY]
 exact Q5p h
def FM(L:List Ty)(name:List UInt8)(scope:List UInt8):Option Ty:=
 match D2 (scope++46::name) L with
 | some x=>some x
 | none=>if h:scope=[]then D2 name L else FM L name (LT scope)
termination_by scope.length
decreasing_by exact W5 h
def BJ(L:List Ty)(scope name:List UInt8):Option Ty:=
 match name with
 | 46::rest=>D2 rest L
 | _=>FM L name scope
def NmOk(N:Nat)(t:List UInt8):Prop:=t≠[]/\t.length<=N/\46∉t
def MOk(N:Nat):Nat->Msg->Prop
 | 0,_=>False
 | d+1,.mk n _ _ m e _ _ _ _=>NmOk N n/\(∀ x∈e,NmOk N x.name) /\ ∀ k∈m,MOk N d k
def Fld.cells(f:Fld):List Value:=[.string (str f.name),.string (str f.type),.string (str f.mapKey),.string (str f.key),.int .i64 f.label,.int .i64 f.number,.int .i64 f.packed,.int .i64 f.oneof,.int .i64 f.line,.int .i64 f.col]
def Fld.dats(f:Fld):List Dat:=f.cells.map .cell
def Val.cells(v:Val):List Value:=[.string (str v.name),.int .i64 v.number,.int .i64 v.line,.int .i64 v.col]
def Val.dats(v:Val):List Dat:=v.cells.map .cell
def textDats(t:List UInt8):List Dat:=[.cell (.string (str t))]
def rangeDats(x:Int×Int):List Dat:=[.cell (.int .i64 x.1),.cell (.int .i64 x.2)]
def Enm.dats(e:Enm):List Dat:=[.cell (.string (str e.name)),.row 4 e.vals.length (e.vals.flatMap Val.dats),.cell (.int .i64 e.line),.cell (.int .i64 e.col)]
mutual
def Msg.dats:Msg->List Dat
 | .mk n f o m e r s l c=>[.cell (.string (str n)),.row 10 f.length (f.flatMap Fld.dats),.row 1 o.length (o.flatMap textDats),.row 9 m.length (Msg.datss m),.row 4 e.length (e.flatMap Enm.dats),.row 2 r.length (r.flatMap rangeDats),.row 1 s.length (s.flatMap textDats),.cell (.int .i64 l),.cell (.int .i64 c)]
def Msg.datss:List Msg->List Dat
 | []=>[]
 | k::ks=>k.dats++Msg.datss ks
end
theorem Msg.datss_eq:∀ ms:List Msg,Msg.datss ms=ms.flatMap Msg.dats
 | []=>by simp[Msg.datss]
 | k::ks=>by rw[Msg.datss,Msg.datss_eq ks,List.flatMap_cons]
theorem Fld.dats_len(f:Fld):f.dats.length=10:=rfl
theorem Val.dats_len(f:Val):f.dats.length=4:=rfl
theorem DT(t:List UInt8):(textDats t).length=1:=rfl
theorem T8(x:Int×Int):(rangeDats x).length=2:=rfl
theorem Enm.dats_len(f:Enm):f.dats.length=4:=rfl
theorem Msg.dats_len(m:Msg):m.dats.length=9:=by cases m;rfl
def Fil.dats(f:Fil):List Dat:=[.cell (.string (str f.package)),.row 9 f.msgs.length (f.msgs.flatMap Msg.dats),.row 4 f.enums.length (f.enums.flatMap Enm.dats)]
theorem Msg.dats_mk(n:List UInt8)(f:List Fld)(o:List (List UInt8))(m:List Msg)(e:List Enm)(r:List (Int×Int))(s:List (List UInt8))(l c:Int):
  (Msg.mk n f o m e r s l c).dats=[.cell (.string (str n)),.row 10 f.length (f.flatMap Fld.dats),.row 1 o.length (o.flatMap textDats),.row 9 m.length (m.flatMap Msg.dats),.row 4 e.length (e.flatMap Enm.dats),.row 2 r.length (r.flatMap rangeDats),.row 1 s.length (s.flatMap textDats),.cell (.int .i64 l),.cell (.int .i64 c)]:=by
 rw[Msg.dats,Msg.datss_eq]
def Q5R(x:Tk):List Value:=[.int .i64 (x.1.k:Int),.string (str x.1.t),.int .i64 (x.1.n:Int),.int .i64 (x.2.1:Int),.int .i64 (x.2.2:Int)]
section
open Go Go.Lib
theorem B7{l:List Tk}{p k:Nat}{t:List UInt8}(h:tkIs l p k t=true):p<l.length:=by
 rcases Nat.lt_or_ge p l.length with h' | h'
 ·exact h'
 ·unfold tkIs at h;rw[List.getElem?_eq_none h']at h;cases h
theorem BA{l:List Tk}{k:Nat}{t:List UInt8}{p q:Nat}(h:BK l k t p=.ok q):q=p+1/\p<l.length:=by
 unfold BK at h
 split at h
 ·rename_i h1;injection h with h;exact⟨h.symm,B7 h1⟩
 ·cases h
theorem EZ{l:List Tk}{p q:Nat}{x:Tk}(h:DF l p=.ok (x,q)):q=p+1/\p<l.length/\l[p]?=some x/\x.1.k=1:=by
 unfold DF at h
 split at h
 ·cases h
 ·rename_i y hy
  split at h
  ·rename_i h1
   injection h with h
   injection h with h2 h3
   subst h2
   exact⟨h3.symm,(List.getElem?_eq_some_iff.1 hy).1,hy,h1⟩
  ·cases h
theorem I3{l:List Tk}{p q:Nat}{x:Int}(h:D9 l p=.ok (x,q)):q=p+1/\p<l.length /\ ∃ y,l[p]?=some y/\x=(y.1.n:Int):=by
 unfold D9 at h
 split at h
 ·cases h
 ·rename_i y hy
  split at h
  ·injection h with h
   injection h with h2 h3
   exact⟨h3.symm,(List.getElem?_eq_some_iff.1 hy).1,y,hy,h2.symm⟩
  ·cases h
theorem RH{l:List Tk}{p q:Nat}{x:List UInt8}(h:I1 l p=.ok (x,q)):q=p+1/\p<l.length:=by
 unfold I1 at h
 split at h
 ·cases h
 ·rename_i y hy
  split at h
  ·injection h with h
   injection h with h2 h3
   exact⟨h3.symm,(List.getElem?_eq_some_iff.1 hy).1⟩
  ·cases h
theorem KN{l:List Tk}:∀ (n:Nat) (s:List UInt8) (p:Nat) {t:List UInt8} {q:Nat},E3 l n s p=.ok (t,q)->p<q/\q<=l.length
 | 0,s,p,t,q,h=>by cases h
 | n+1,s,p,t,q,h=>by
  unfold E3 at h
  split at h
  ·cases h
  rename_i x r hx
  have h1:=EZ hx
  split at h
  ·have:=KN n _ _ h
   omega
  ·injection h with h
   injection h with h2 h3
   omega
theorem F4{l:List Tk}{typ:Bool}{p:Nat}{t:List UInt8}{q:Nat}(h:CX l typ p=.ok (t,q)):p<q/\q<=l.length:=by
 unfold CX at h
 split at h
 ·have:=KN _ _ _ h
  omega
 ·exact KN _ _ _ h
theorem JS{l:List Tk}{f g:Fld}{p q:Nat}(h:CW l f p=.ok (g,q)):p<q/\q<=l.length:=by
 unfold CW at h
 split at h
 ·split at h
  ·cases h
  rename_i r hr
  have h1:=BA hr
  split at h
  ·rename_i h2
   have:=B7 h2
   injection h with h
   injection h with h3 h4
   omega
  split at h
  ·rename_i h2
   have:=B7 h2
   injection h with h
   injection h with h3 h4
   omega
  ·cases h
 split at h
 ·split at h
  ·cases h
  rename_i r hr
  have h1:=BA hr
  split at h
  ·cases h
  rename_i x s hs
  have h2:=EZ hs
  injection h with h
  injection h with h3 h4
  omega
 ·cases h
theorem ZT{l:List Tk}:∀ (n:Nat) (f:Fld) (p:Nat) {g:Fld} {q:Nat},KL l n f p=.ok (g,q)->p<q/\q<=l.length
 | 0,f,p,g,q,h=>by cases h
 | n+1,f,p,g,q,h=>by
  unfold KL at h
  split at h
  ·cases h
  rename_i x r hx
  have h1:=JS hx
  split at h
  ·have:=ZT n _ _ h
   omega
  split at h
  ·cases h
  rename_i s hs
  have h2:=BA hs
  split at h
  ·cases h
  rename_i u hu
  have h3:=BA hu
  injection h with h
  injection h with h4 h5
  omega
theorem ZZ{l:List Tk}{f g:Fld}{p q:Nat}(h:E0 l f p=.ok (g,q)):p<q/\q<=l.length:=by
 unfold E0 at h
 split at h
 ·exact ZT _ _ _ h
 split at h
 ·cases h
 rename_i s hs
 have h2:=BA hs
 injection h with h
 injection h with h4 h5
 omega
theorem YF{l:List Tk}{f g:Fld}{p q:Nat}(h:H6 l f p=.ok (g,q)):p<q/\q<=l.length:=by
 unfold H6 at h
 split at h
 ·cases h
 rename_i x r hx
 split at h
 ·cases h
 rename_i s hs
 split at h
 ·cases h
 rename_i n u hu
 have h1:=EZ hx
 have h2:=BA hs
 have h3:=I3 hu
 have h4:=ZZ h
 omega
theorem F6{l:List Tk}{p q:Nat}{a b:Int}{g:Fld}(h:FN l p a b=.ok (g,q)):p<q/\q<=l.length:=by
 unfold FN at h
 split at h
 ·cases h
 rename_i x r hx
 have h1:=F4 hx
 have h4:=YF h
 omega
theorem Q03{l:List Tk}{p q:Nat}{g:Fld}(h:DS l p=.ok (g,q)):p<q/\q<=l.length:=by
 unfold DS at h
 split at h
 ·cases h
 rename_i r1 h1
 split at h
 ·cases h
 rename_i x r2 h2
 split at h
 ·cases h
 rename_i r3 h3
 split at h
 ·cases h
 rename_i y r4 h4
 split at h
 ·cases h
 rename_i r5 h5
 have g1:=BA h1
 have g2:=EZ h2
 have g3:=BA h3
 have g4:=F4 h4
 have g5:=BA h5
 have g6:=YF h
 omega
theorem V0{l:List Tk}:∀ (n p:Nat),p<=l.length->p<=LW l n p/\LW l n p<=l.length
 | 0,p,h=>⟨Nat.le_refl _,h⟩
 | n+1,p,h=>by
  unfold LW
  split
  ·rename_i h1
   have:=B7 h1
   have:=V0 (l:=l) n (p+1) (by omega)
   omega
  ·exact⟨Nat.le_refl _,h⟩
theorem G9{l:List Tk}{p:Nat}(h:p<=l.length):p<=J1 l p/\J1 l p<=l.length:=V0 _ _ h
theorem MK{l:List Tk}{p:Nat}(h:tkIs l p 4 [59]=true):J1 l p=J1 l (p+1):=by
 have:=B7 h
 unfold J1
 obtain⟨n,hn⟩:∃ n,l.length-p=n+1:=⟨l.length-p-1,by omega⟩
 rw[hn,show l.length-(p+1)=n by omega,LW,if_pos h]
theorem MA{l:List Tk}{p:Nat}(h:tkIs l p 4 [59]=false):J1 l p=p:=by
 unfold J1
 cases l.length-p with
 | zero=>rfl
 | succ n=>rw[LW,if_neg (by rw[h];decide)]
theorem MY{l:List Tk}{p q:Nat}{x:Tk}(h:KM l p=.ok (x,q)):p<q/\q<=l.length:=by
 unfold KM at h
 split at h
 ·cases h
 rename_i y r hx
 split at h
 ·cases h
 rename_i s hs
 have h1:=EZ hx
 have h2:=BA hs
 injection h with h
 injection h with h4 h5
 omega
theorem LD{l:List Tk}{p q:Nat}{x:Val}(h:EA l p=.ok (x,q)):p<q/\q<=l.length:=by
 unfold EA at h
 split at h
 ·cases h
 rename_i y r hx
 split at h
 ·cases h
 rename_i s hs
 have h1:=EZ hx
 have h2:=BA hs
 split at h
 ·split at h
  ·cases h
  rename_i n u hu
  split at h
  ·cases h
  rename_i v hv
  have h3:=I3 hu
  have h4:=BA hv
  injection h with h
  injection h with h5 h6
  omega
 ·split at h
  ·cases h
  rename_i n u hu
  split at h
  ·cases h
  rename_i v hv
  have h3:=I3 hu
  have h4:=BA hv
  injection h with h
  injection h with h5 h6
  omega
theorem S2{l:List Tk}:∀ (n:Nat) (vs:List Val) (p:Nat) {ws:List Val} {q:Nat},p<=l.length->HH l n vs p=.ok (ws,q)->p<q/\q<=l.length
 | 0,vs,p,ws,q,hp,h=>by cases h
 | n+1,vs,p,ws,q,hp,h=>by
  have hs:=G9 hp
  simp only[HH]at h
  split at h
  ·rename_i h1
   have:=B7 h1
   split at h
   ·cases h
   ·injection h with h
    injection h with h2 h3
    omega
  split at h
  ·cases h
  rename_i v r hv
  have h1:=LD hv
  have:=S2 n _ _ (by omega) h
  omega
theorem MW{l:List Tk}{p q:Nat}{x:Enm}(h:FK l p=.ok (x,q)):p<q/\q<=l.length:=by
 unfold FK at h
 split at h
 ·cases h
 rename_i y r hx
 split at h
 ·cases h
 rename_i vs s hs
 have h1:=MY hx
 have h2:=S2 _ _ _ h1.2 hs
 injection h with h
 injection h with h4 h5
 omega
theorem YY{l:List Tk}{a:Int}:∀ (n:Nat) (vs:List Fld) (p:Nat) {ws:List Fld} {q:Nat},p<=l.length->GL l a n vs p=.ok (ws,q)->p<q/\q<=l.length
 | 0,vs,p,ws,q,hp,h=>by cases h
 | n+1,vs,p,ws,q,hp,h=>by
  have hs:=G9 hp
  simp only[GL]at h
  split at h
  ·rename_i h1
   have:=B7 h1
   split at h
   ·cases h
   ·injection h with h
    injection h with h2 h3
    omega
  split at h
  ·cases h
  rename_i v r hv
  have h1:=F6 hv
  have:=YY n _ _ (by omega) h
  omega
theorem Q22{l:List Tk}{p q:Nat}{a:Int}{x:List UInt8×List Fld}(h:G1 l p a=.ok (x,q)):p<q/\q<=l.length:=by
 unfold G1 at h
 split at h
 ·cases h
 rename_i y r hx
 split at h
 ·cases h
 rename_i vs s hs
 have h1:=MY hx
 have h2:=YY _ _ _ h1.2 hs
 injection h with h
 injection h with h4 h5
 omega
theorem O0{l:List Tk}{p q:Nat}{x:Int×Int}(h:H7 l p=.ok (x,q)):p<q/\q<=l.length:=by
 unfold H7 at h
 split at h
 ·cases h
 rename_i n r hx
 have h1:=I3 hx
 split at h
 ·rename_i ht
  have:=B7 ht
  split at h
  ·rename_i hm
   have:=B7 hm
   injection h with h
   injection h with h4 h5
   omega
  ·split at h
   ·cases h
   rename_i m s hs
   have h2:=I3 hs
   injection h with h
   injection h with h4 h5
   omega
 ·injection h with h
  injection h with h4 h5
  omega
theorem QV{l:List Tk}:∀ (n:Nat) (s:List (Int×Int)) (p:Nat) {t:List (Int×Int)} {q:Nat},F0 l n s p=.ok (t,q)->p<q/\q<=l.length
 | 0,s,p,t,q,h=>by cases h
 | n+1,s,p,t,q,h=>by
  unfold F0 at h
  split at h
  ·cases h
  rename_i x r hx
  have h1:=O0 hx
  split at h
  ·rename_i hc
   have:=B7 hc
   have:=QV n _ _ h
   omega
  split at h
  ·cases h
  rename_i u hu
  have h3:=BA hu
  injection h with h
  injection h with h4 h5
  omega
theorem UJ{l:List Tk}:∀ (n:Nat) (s:List (List UInt8)) (p:Nat) {t:List (List UInt8)} {q:Nat},GJ l n s p=.ok (t,q)->p<q/\q<=l.length
 | 0,s,p,t,q,h=>by cases h
 | n+1,s,p,t,q,h=>by
  unfold GJ at h
  split at h
  ·cases h
  rename_i x r hx
  have h1:=RH hx
  split at h
  ·rename_i hc
   have:=B7 hc
   have:=UJ n _ _ h
   omega
  split at h
  ·cases h
  rename_i u hu
  have h3:=BA hu
  injection h with h
  injection h with h4 h5
  omega
theorem ND{l:List Tk}{p q:Nat}{x:List (Int×Int)×List (List UInt8)}(h:DJ l p=.ok (x,q)):p<q/\q<=l.length:=by
 unfold DJ at h
 split at h
 ·split at h
  ·cases h
  rename_i ts r hr
  have h1:=UJ _ _ _ hr
  injection h with h
  injection h with h4 h5
  omega
 ·split at h
  ·cases h
  rename_i ts r hr
  have h1:=QV _ _ _ hr
  injection h with h
  injection h with h4 h5
  omega
def Steps(l:List Tk){α:Type}(f:Nat->AZ (α×Nat)):Prop:=∀ p x q,f p=.ok (x,q)->p<q/\q<=l.length
theorem FR{l:List Tk}{sub:Nat->AZ (Msg×Nat)}(hsub:Steps l sub){m m':Msg}{p q:Nat}(h:CN l sub m p=.ok (m',q)):p<q/\q<=l.length:=by
 simp only[CN]at h
 split at h
 ·split at h
  ·cases h
  rename_i k r hr
  have h1:=hsub _ _ _ hr
  injection h with h
  injection h with h4 h5
  omega
 split at h
 ·split at h
  ·cases h
  rename_i k r hr
  have h1:=MW hr
  injection h with h
  injection h with h4 h5
  omega
 split at h
 ·split at h
  ·cases h
  rename_i k r hr
  have h1:=Q22 hr
  injection h with h
  injection h with h4 h5
  omega
 split at h
 ·split at h
  ·cases h
  rename_i k r hr
  have h1:=ND hr
  injection h with h
  injection h with h4 h5
  omega
 split at h
 ·cases h
 rename_i k r hr
 injection h with h
 injection h with h4 h5
 split at hr
 ·have:=F6 hr;omega
 split at hr
 ·have:=F6 hr;omega
 split at hr
 ·have:=Q03 hr;omega
 ·have:=F6 hr;omega
theorem X6{l:List Tk}{sub:Nat->AZ (Msg×Nat)}(hsub:Steps l sub):∀ (n:Nat) (m:Msg) (p:Nat) {m':Msg} {q:Nat},p<=l.length->ET l sub n m p=.ok (m',q)->p<q/\q<=l.length
 | 0,m,p,m',q,hp,h=>by cases h
 | n+1,m,p,m',q,hp,h=>by
  have hs:=G9 hp
  simp only[ET]at h
  split at h
  ·rename_i h1
   have:=B7 h1
   injection h with h
   injection h with h2 h3
   omega
  split at h
  ·cases h
  rename_i v r hv
  have h1:=FR hsub hv
  have:=X6 hsub n _ _ (by omega) h
  omega
theorem CJ(l:List Tk):∀ d,Steps l (BE l d)
 | 0,p,x,q,h=>by
  unfold BE at h
  split at h<;>cases h
 | d+1,p,x,q,h=>by
  unfold BE at h
  split at h
  ·cases h
  rename_i y r hx
  split at h
  ·cases h
  rename_i s hs
  have h1:=EZ hx
  have h2:=BA hs
  have h3:=X6 (CJ l d) _ _ _ (by omega) h
  omega
end
def tkD(x:Tk):List Dat:=[.cell (.int .i64 (x.1.k:Int)),.cell (.string (str x.1.t)),.cell (.int .i64 (x.1.n:Int)),.cell (.int .i64 (x.2.1:Int)),.cell (.int .i64 (x.2.2:Int))]
theorem Q5B(x:Tk):(tkD x).length=5:=rfl
abbrev Q62(l:List Tk):Part:=.one (.row 5 l.length (l.flatMap tkD))
abbrev Q1c(l:List (List UInt8)):Part:=.one (.row 1 l.length (l.flatMap textDats))
abbrev iP(z:Int):Part:=.one (.cell (.int .i64 z))
abbrev sP(t:List UInt8):Part:=.one (.cell (.string (str t)))
abbrev bP(b:Bool):Part:=.one (.cell (.bool b))
def tk0:Tk:=(⟨0,[],0⟩,0,0)
def tkAt(l:List Tk)(p:Nat):Tk:=l.getD p tk0
theorem IN{l:List Tk}{p:Nat}(h:p<l.length):l[p]?=some (tkAt l p):=by
 unfold tkAt
 rw[List.getD_eq_getElem?_getD,List.getElem?_eq_getElem h]
 rfl
theorem PT{l:List Tk}{p:Nat}{x:Tk}(h:l[p]?=some x):tkAt l p=x:=by
 unfold tkAt
 rw[List.getD_eq_getElem?_getD,h]
 rfl
theorem Q6W(a b:Nat):decide ((a:Int)=(b:Int))=decide (a=b):=by
 by_cases h:a=b
 ·simp[h]
 ·rw[decide_eq_false h,decide_eq_false (by omega)]
theorem Q4k(a b:Nat):decide ((a:Int)<(b:Int))=decide (a<b):=by
 by_cases h:a<b
 ·rw[decide_eq_true h,decide_eq_true (by omega)]
 ·rw[decide_eq_false h,decide_eq_false (by omega)]
abbrev tkP(x:Tk):Part:=.many (tkD x)
theorem J0{b:Bool}(h:(!b)=true):b=false:=by cases b<;>simp_all
theorem IB{b:Bool}(h:(!b)=false):b=true:=by cases b<;>simp_all
def kindT:List UInt8->Nat
 | []=>4
 | c::_=>if 97<=c.toNat/\c.toNat<=122 then 1 else 4
def EK(l:List Tk):List (List UInt8)->Nat->AZ Nat
 | [],p=>.ok p
 | t::ts,p=>
  match BK l (kindT t) t p with
  | .error e=>.error e
  | .ok q=>EK l ts q
theorem R9(l:List Tk)(t:List UInt8)(p:Nat):EK l [t] p=BK l (kindT t) t p:=by
 unfold EK
 cases BK l (kindT t) t p<;>rfl
def Res{β:Type}(r:AZ β)(v:β)(a b:Nat):Prop:=(b=0/\a=0/\r=.ok v)\/(b≠0/\r=.error (a,b))
theorem Res.bad{β:Type}{r:AZ β}{v:β}{a b:Nat}(hr:Res r v a b)(h:(!decide ((b:Int)=0))=true):b≠0/\r=.error (a,b):=by
 have h1:b≠0:=by
  intro e
  subst e
  simp at h
 rcases hr with⟨e,_⟩ | h2
 ·exact absurd e h1
 ·exact h2
theorem Res.ok{β:Type}{r:AZ β}{v:β}{a b:Nat}(hr:Res r v a b)(h:(!decide ((b:Int)=0))=false):a=0/\b=0/\r=.ok v:=by
 have h1:b=0:=by
  simpa using h
 rcases hr with⟨e1,e2,e3⟩ | h2
 ·exact⟨e2,e1,e3⟩
 ·exact absurd h1 h2.1
theorem Res.good{β:Type}{r:AZ β}{v:β}(h:r=.ok v):Res r v 0 0:=.inl ⟨rfl,rfl,h⟩
theorem EFx.mono{P:Program}{gls:List (Nat×List Value)}{f:FuncId}{ps:List Part}{Y Z:IV->Prop}(h:EFx P gls f ps Y)(hi:∀ y,Y y->Z y):EFx P gls f ps Z:=fun w D vs a b c=>(h w D vs a b c).mono fun _ _ ⟨v,y,h1,h2,h3⟩=>⟨v,y,h1,hi y h2,h3⟩
structure TksOk (l:List Tk):Prop where
 len:l.length<=100000
 txt:∀ p,(tkAt l p).1.t.length<=100000
 num:∀ p,(tkAt l p).1.n<=1000000000000
theorem Res.next{β γ:Type}{r:AZ β}{R:AZ γ}{v:β}{u:γ}{a b:Nat}(hr:Res r v a b)(hok:r=.ok v->R=.ok u)(her:r=.error (a,b)->R=.error (a,b)):Res R u a b:=by
 rcases hr with⟨h1,h2,h3⟩ | ⟨h1,h3⟩
 ·exact .inl ⟨h1,h2,hok h3⟩
 ·exact .inr ⟨h1,her h3⟩
theorem Res.go{β:Type}{r:AZ β}{v:β}{a b:Nat}(hr:Res r v a b)(h:decide ((b:Int)=0)=true):a=0/\b=0/\r=.ok v:=hr.ok (by rw[h];rfl)
def Loop{α β:Type}(R:AZ (β×Nat))(go:Nat->List α->Nat->AZ (β×Nat))(m n:Nat)(vs:List α)(q a b:Nat):Prop:=
 (b=0/\a=0/\1<=n/\m+1<=n+q/\q<=m/\vs.length<=q/\R=go n vs q)\/(b≠0/\vs.length<=m+1/\R=.error (a,b))
theorem Loop.go{α β:Type}{R:AZ (β×Nat)}{go:Nat->List α->Nat->AZ (β×Nat)}{m n:Nat}{vs:List α}{q a b:Nat}(h:Loop R go m n vs q a b)(hb:decide ((b:Int)=0)=true):a=0/\b=0/\(∃ k,n=k+1)/\m+1<=n+q/\q<=m/\vs.length<=q/\R=go n vs q:=by
 have hb':b=0:=by simpa using hb
 rcases h with⟨h1,h2,h3,h4,h5,h6,h7⟩ | ⟨h1,_⟩
 ·exact⟨h2,h1,⟨n-1,by omega⟩,h4,h5,h6,h7⟩
 ·exact absurd hb' h1
theorem Q3f(l:List Tk)(p:Nat):(decide ((p:Int)<(l.length:Int))&&decide (((tkAt l p).1.k:Int)=3))=LP l p:=by
 rw[Q4k,show decide (((tkAt l p).1.k:Int)=3)=decide ((tkAt l p).1.k=3) from Q6W _ 3]
 unfold LP
 by_cases h:p<l.length
 ·rw[IN h,decide_eq_true h]
  simp
 ·rw[List.getElem?_eq_none (by omega),decide_eq_false h]
  simp
def Msg.name:Msg->List UInt8
 | .mk x _ _ _ _ _ _ _ _=>x
def Msg.fields:Msg->List Fld
 | .mk _ x _ _ _ _ _ _ _=>x
def Msg.msgs:Msg->List Msg
 | .mk _ _ _ x _ _ _ _ _=>x
def Msg.enums:Msg->List Enm
 | .mk _ _ _ _ x _ _ _ _=>x
def Msg.reserved:Msg->List (Int×Int)
 | .mk _ _ _ _ _ x _ _ _=>x
def Msg.names:Msg->List (List UInt8)
 | .mk _ _ _ _ _ _ x _ _=>x
def Msg.line:Msg->Int
 | .mk _ _ _ _ _ _ _ x _=>x
def Msg.col:Msg->Int
 | .mk _ _ _ _ _ _ _ _ x=>x
def md(m:Msg):List Dat:=[.cell (.string (str m.name)),.row 10 m.fields.length (m.fields.flatMap Fld.dats),.row 1 m.oneofs.length (m.oneofs.flatMap textDats),.row 9 m.msgs.length (m.msgs.flatMap Msg.dats),.row 4 m.enums.length (m.enums.flatMap Enm.dats),.row 2 m.reserved.length (m.reserved.flatMap rangeDats),.row 1 m.names.length (m.names.flatMap textDats),.cell (.int .i64 m.line),.cell (.int .i64 m.col)]
theorem KX(m:Msg):m.dats=md m:=by
 cases m
 exact Msg.dats_mk _ _ _ _ _ _ _ _ _
def Small(m:Msg)(z:Nat):Prop:=m.fields.length<=z/\m.oneofs.length<=z/\m.msgs.length<=z/\m.enums.length<=z/\m.reserved.length<=z/\m.names.length<=z
theorem Small.mono{m:Msg}{y z:Nat}(h:Small m y)(hz:y<=z):Small m z:=⟨Nat.le_trans h.1 hz,Nat.le_trans h.2.1 hz,Nat.le_trans h.2.2.1 hz,Nat.le_trans h.2.2.2.1 hz,Nat.le_trans h.2.2.2.2.1 hz,Nat.le_trans h.2.2.2.2.2 hz⟩
def MLoop(R:AZ (Msg×Nat))(l:List Tk)(d n:Nat)(m:Msg)(q a b:Nat):Prop:=
 (b=0/\a=0/\1<=n/\l.length+1<=n+q/\q<=l.length/\Small m (200000*q)/\R=ET l (BE l d) n m q)\/(b≠0/\R=.error (a,b))
theorem MLoop.go{R:AZ (Msg×Nat)}{l:List Tk}{d n:Nat}{m:Msg}{q a b:Nat}(h:MLoop R l d n m q a b)(hb:decide ((b:Int)=0)=true):a=0/\b=0/\(∃ k,n=k+1)/\l.length+1<=n+q/\q<=l.length/\Small m (200000*q)/\R=ET l (BE l d) n m q:=by
 have hb':b=0:=by simpa using hb
 rcases h with⟨h1,h2,h3,h4,h5,h6,h7⟩ | ⟨h1,_⟩
 ·exact⟨h2,h1,⟨n-1,by omega⟩,h4,h5,h6,h7⟩
 ·exact absurd hb' h1
theorem MLoop.next{R:AZ (Msg×Nat)}{l:List Tk}{d k:Nat}{m m':Msg}{q r a b:Nat}(hw:R=ET l (BE l d) (k+1) m q)(hc:tkIs l (J1 l q) 4 [125]=false)(hn:l.length+1<=k+1+q)(hq:q<=l.length)(hr:Res (CN l (BE l d) m (J1 l q)) (m',r) a b)(hsm:Small m' (200000*(q+1))):MLoop R l d k m' r a b:=by
 have h5:=G9 hq
 rcases hr with⟨h1,h2,h3⟩ | ⟨h1,h3⟩
 ·have h4:=FR (CJ l d) h3
  refine .inl ⟨h1,h2,by omega,by omega,by omega,hsm.mono (by omega),?_⟩
  simp only[hw,ET,hc,h3]
  rfl
 ·refine .inr ⟨h1,?_⟩
  simp only[hw,ET,hc,h3]
  rfl
structure Fd where
 name:List UInt8
 number:Int
 label:Int
 kind:Int
 type:Int
 packed:Bool
 key:Int
 mapKey:Int
 oneof:Int
deriving DecidableEq
structure Mg where
 name:List UInt8
 fields:List Fd
 oneofs:List (List UInt8)
structure En where
 name:List UInt8
 names:List (List UInt8)
 numbers:List Int
structure Wish where
 msg:Nat
 fld:Fld
abbrev Flt:=Nat×Int×Int
def fd0:Fd:=⟨[],0,0,0,0,false,0,0,0⟩
def cix{α:Type}(p:α->Bool):List α->Nat->Int
 | [],_ => -1
 | x::l,k=>if p x then(k:Int)else cix p l (k+1)
theorem G8{α:Type}{l:List α}{i:Nat}{x:α}(h:l[i]?=some x):l.drop i=x::l.drop (i+1):=by
 obtain⟨h1,h2⟩:=List.getElem?_eq_some_iff.1 h
 rw[List.drop_eq_getElem_cons h1,h2]
theorem QU{α:Type}{p:α->Bool}{l:List α}{k:Nat}{x:α}{z:Int}(hx:l[k]?=some x)(hw:z=cix p (l.drop k) k)(h:p x=true):z=(k:Int):=by
 rw[hw,G8 hx,cix,if_pos h]
theorem KC{α:Type}{p:α->Bool}{l:List α}{k:Nat}{x:α}{z:Int}(hx:l[k]?=some x)(hw:z=cix p (l.drop k) k)(h:p x=false):z=cix p (l.drop (k+1)) (k+1):=by
 rw[hw,G8 hx,cix,if_neg (by rw[h];decide)]
theorem NL{α:Type}{p:α->Bool}{l:List α}{k:Nat}{z:Int}(hl:l.length<=k)(hw:z=cix p (l.drop k) k):z = -1:=by
 rw[hw,List.drop_eq_nil_of_le hl,cix]
theorem N3{α:Type}{p:α->Bool}:∀ (l:List α) (k:Nat),decide (0<=cix p l k)=l.any p
 | [],k=>rfl
 | x::l,k=>by
  rw[cix,List.any_cons]
  cases h:p x
  ·rw[if_neg (by decide),N3 l (k+1),Bool.false_or]
  ·rw[if_pos rfl,Bool.true_or]
   exact decide_eq_true (by omega)
def GS(n:Int):Bool:=(decide (1<=n)&&decide (n<=536870911))&&(decide (n<19000)||decide (19999<n))
def XG(fs:List Fld)(x:Fld):Bool := !fs.any fun y=>decide (y.name=x.name)||decide (y.number=x.number)
def XK(m:Msg)(x:Fld):Bool:=(!m.reserved.any fun r=>decide (r.1<=x.number)&&decide (x.number<=r.2)) && !m.names.any fun y=>decide (y=x.name)
def IA(look:List UInt8->Option Ty)(name:List UInt8):Option (Int×Int):=
 if 0<EH name 16 then some ((EH name 16:Int),0)
 else(look name).map fun t=>(if t.en then 16 else 17,(t.ix:Int))
def Q4n(x:Fld)(k:Int):Bool:=decide (x.label=3)&&knumB (kno k)
def ZM(x:Fld):Bool:=decide (x.label=4)
def PC(x:Fld):Bool := !ZM x||(decide (0<EH x.mapKey 16)&&kkeyB (kno (EH x.mapKey 16:Int)))
def ZD(x:Fld)(k:Int):Bool:=decide (x.packed=0)||Q4n x k
def XC(x:Fld)(k:Int):Bool:=decide (x.key=[])||(decide (x.label=3)&&decide (k=17))
def MO(x:Fld)(k t:Int):Fd:=⟨x.name,x.number,x.label,k,t,Q4n x k && !decide (x.packed=2),0,if ZM x then(EH x.mapKey 16:Int)else 0,x.oneof⟩
def MI(look:List UInt8->Option Ty)(m:Msg)(i:Nat)(x:Fld):Except Nat Fd:=
 if ¬ i<40 then .error 3
 else if GS x.number=false then .error 1
 else if XG (m.fields.take i) x=false then .error 11
 else if XK m x=false then .error 9
 else match IA look x.type with
  | none=>.error 10
  | some (k,t)=>
   if PC x=false then .error 12
   else if ZD x k=false then .error 12
   else if XC x k=false then .error 12
   else .ok (MO x k t)
def W9(f:Fd):List Fd->List Fd
 | []=>[f]
 | g::l=>if g.number<f.number then g::W9 f l else f::g::l
def CU:List Fd->List Fd:=fun l=>l.foldl (fun out f=>W9 f out) []
def Q29(vs:List Val)(v:Val):Bool:=vs.any fun w=>decide (w.name=v.name)||decide (w.number=v.number)
def DX:List Val->List Val->Option Flt
 | _,[]=>none
 | a,v::vs=>if Q29 a v then some (11,v.line,v.col)else if 40<=a.length then some (3,v.line,v.col)else DX (a++[v]) vs
def enumM(full:List UInt8)(e:Enm):Except Flt En:=
 match e.vals with
 | []=>.error (9,e.line,e.col)
 | v::vs=>
  if v.number≠0 then .error (9,e.line,e.col)
  else match DX [] (v::vs)with
   | some x=>.error x
   | none=>.ok ⟨full,(v::vs).map (·.name),(v::vs).map (·.number)⟩
def EE(look:List UInt8->Option Ty)(m:Msg):Nat->List Fld->Except Flt (List Fd)
 | _,[]=>.ok []
 | i,x::l=>
  match MI look m i x with
  | .error n=>.error (n,x.line,x.col)
  | .ok f=>
   match EE look m (i+1) l with
   | .error e=>.error e
   | .ok fs=>.ok (f::fs)
def LX:List (List UInt8)->List (List UInt8)->Bool
 | _,[]=>true
 | t,o::os=>if t.any fun y=>decide (y=o)then false else LX (t++[o]) os
def wishesOf(i:Nat)(fs:List Fld):List Wish:=(fs.filter fun x => !decide (x.key=[])).map fun x=>⟨i,x⟩
def msgM(look:List UInt8->List UInt8->Option Ty)(full:List UInt8)(m:Msg):Except Flt Mg:=
 match EE (look full) m 0 m.fields with
 | .error e=>.error e
 | .ok fs=>if LX (m.fields.map (·.name)) m.oneofs then .ok ⟨full,CU fs,m.oneofs⟩else .error (11,m.line,m.col)
structure Cst where
 msgs:List Mg
 enums:List En
 later:List Wish
def enmsM(ahead:List UInt8):List Enm->Cst->Except Flt Cst
 | [],s=>.ok s
 | e::l,s=>
  match enumM (ahead++e.name) e with
  | .error x=>.error x
  | .ok y=>enmsM ahead l { s with enums:=s.enums++[y] }
mutual
def oneM(look:List UInt8->List UInt8->Option Ty)(ahead:List UInt8):Msg->Cst->Except Flt Cst
 | .mk n f o m e r q l c,s=>
  match msgM look (ahead++n) (.mk n f o m e r q l c)with
  | .error x=>.error x
  | .ok g=>
   match enmsM (ahead++n++[46]) e { s with msgs:=s.msgs++[g],later:=s.later++wishesOf s.msgs.length f }with
   | .error x=>.error x
   | .ok s'=>manyM look (ahead++n++[46]) m s'
def manyM(look:List UInt8->List UInt8->Option Ty)(ahead:List UInt8):List Msg->Cst->Except Flt Cst
 | [],s=>.ok s
 | k::l,s=>
  match oneM look ahead k s with
  | .error x=>.error x
  | .ok s'=>manyM look ahead l s'
end
def J5(look:List UInt8->List UInt8->Option Ty)(ahead:List UInt8)(e:List Enm)(m:List Msg)(s:Cst):Except Flt Cst:=
 match enmsM ahead e s with
 | .error x=>.error x
 | .ok s'=>manyM look ahead m s'
def E7(f:Fd):Bool := !(decide (f.kind=17)||decide (f.kind=1)||decide (f.kind=2)||decide (f.kind=15))&&(decide (f.label=1)&&decide (f.oneof=0))
def EV(A:List Mg)(t:Int)(name:List UInt8):Option Fd:=if 0<=t then((A[t.toNat]?).bind fun g=>g.fields.find? fun f=>decide (f.name=name))else none
def I6(A:List Mg)(t:Int)(number:Int):Option Fd:=if 0<=t then((A[t.toNat]?).bind fun g=>g.fields.find? fun f=>decide (f.number=number))else none
def CS(n k:Int):List Fd->List Fd
 | []=>[]
 | f::l=>if f.number=n then{ f with key:=k }::l else f::CS n k l
def JM(A:List Mg)(w:Wish):Option (List Mg):=
 match A[w.msg]? with
 | none=>none
 | some g=>
  match g.fields.find? fun f=>decide (f.number=w.fld.number)with
  | none=>none
  | some f=>
   match EV A f.type w.fld.key with
   | none=>none
   | some k=>if E7 k then some (A.set w.msg { g with fields:=CS w.fld.number k.number g.fields })else none
def JY:List Mg->List Wish->Except Flt (List Mg)
 | A,[]=>.ok A
 | A,w::ws=>
  match JM A w with
  | none=>.error (10,w.fld.line,w.fld.col)
  | some A'=>JY A' ws
def PB(f:Fil):Except Flt (List Mg×List En):=
 match EX f with
 | .error (k,l,c)=>.error (if k=1 then 11 else 3,l,c)
 | .ok L=>
  match J5 (BJ L) (DG f.package) f.enums f.msgs ⟨[],[],[]⟩with
  | .error x=>.error x
  | .ok s=>
   match JY s.msgs s.later with
   | .error x=>.error x
   | .ok A=>.ok (A,s.enums)
theorem Q2X:(Tryz.prog.info? 5).map (fun i=>(i.zero,i.size,i.bytes))=some (some (.int .u8 0),1,1):=by kernel_rfl
theorem Q3o:Tryz.prog.cellsOf 5=1:=by kernel_rfl
set_option maxHeartbeats 2000000 in
theorem YB(w:World)(l:List UInt8)(hl:l.length<=140737488351232):
  Calls Tryz.prog 136 #[.string (str l)] w fun e w'=>e=.returned (.string (str l))/\Below w.heap.size w w':=by
 by_cases h0:l=[]
 ·subst h0
  have hz:(str []).size=0:=rfl
  go_enter Tryz.func136,Tryz.ntmps136
  go_wp2
  go_ret
  exact⟨rfl,Below.refl _ _⟩
 ·obtain⟨i,hi,hz0,hz1,hz2⟩:=info_parts Q2X
  have hpos:0<l.length:=List.length_pos_iff.2 h0
  have hz:(str l).size=l.length:=BM l
  obtain⟨M,hM⟩:∃ M,M=madeCells (Value.int .u8 0).cells (((l.length:Nat):Int).toNat*i.size):=⟨_,rfl⟩
  have hMs:M.size=l.length:=by rw[hM,size_madeCells,hz1];simp
  have hmk:∀ W:World,(Instr.makeSlice 154 (.int .i64 (l.length:Int)) (.int .i64 (l.length:Int))).run Tryz.prog W=.ok (.slice (some ⟨W.heap.size,0,none⟩) l.length l.length) (W.alloc (.cells M 5)):=fun W=>by
   have h:=run_make (P:=Tryz.prog) W 154 5 i (.int .u8 0) Tryz.underlying154 hi hz0 .i64 .i64 (l.length:Int) (l.length:Int) (by omega) (by omega) (by rw[hz2];omega) (by omega)
   rw[<- hM]at h
   simpa using h
  clear hM
  have hcp:=Lib.run_copy_row_string (P:=Tryz.prog) (w.alloc (.cells M 5)) 154 9 3 5 w.heap.size 0 l.length l.length (str l) M 5 Tryz.underlying154 (by rw[hi];simp[hz1]) (heap_alloc_new w _) (by rw[hz];exact Nat.le_refl _) (by rw[hz];omega)
  rw[hz]at hcp
  obtain⟨Y,hY⟩:∃ Y,Y=(M.toList.take 0++Lib.byteCells (str l).data.toList++M.toList.drop (0+l.length)).toArray:=⟨_,rfl⟩
  rw[<- hY]at hcp
  have hYl:Y=(l.map bv).toArray:=by
   rw[hY,List.take_zero,List.nil_append,List.drop_of_length_le (by rw[Array.length_toList];omega),List.append_nil]
   rfl
  clear hY
  obtain⟨V,hV⟩:∃ V,V=(w.alloc (.cells M 5)).setRow w.heap.size Y:=⟨_,rfl⟩
  rw[<- hV]at hcp
  have hk:Blk V w.heap.size 5 (l.map bv):=by
   unfold Blk
   rw[hV,<- hYl]
   exact setRow_heap _ _ M _ 5 (0,0) (heap_alloc_new w _)
  have hus:(Builtin.unsafeString_ #[317,3] 9 #[.pointer (some ⟨w.heap.size,0,none⟩),.int .i64 (l.length:Int)]).run Tryz.prog V=.ok (.string (str l)) (V.freeze ⟨w.heap.size,0,none⟩ l.length):=
   Lib.run_unsafeString_row V _ _ _ 5 Tryz.underlying317 Q3o w.heap.size (l.map bv).length (by unfold World.shape?;rw[hk];simp) l h0 (by simp) (by omega) fun j x hx=>by
    rw[Addr.add_lit,Nat.zero_add,hk.cell,List.getElem?_map,hx]
    rfl
  have hb:Below w.heap.size w V:=by
   rw[hV]
   exact((Below.refl _ w).alloc (Nat.le_refl _) _).trans ⟨rfl,rfl,rfl,by simp,fun k hk=>setRow_other _ _ _ _ (by omega)⟩
  have HB:=Lib.hid (Lib.below_freeze hb (p:=⟨w.heap.size,0,none⟩) (Nat.le_refl _) l.length)
  clear hb hk hV hYl hi hz0 hz1 hz2 hMs h0
  have hne:¬ (l.length:Int)=0:=by omega
  have hne2:((l.length:Int)==0)=false:=by simpa using hne
  go_enter Tryz.func136,Tryz.ntmps136
  go_wp2
  go_ret
  exact⟨rfl,HB.out⟩
theorem Q2q(w:World)(l:List UInt8)(hl:l.length<=140737488351232):
  Calls Tryz.prog 85 #[.string (str l)] w fun e w'=>e=.returned (.string (str l))/\Below w.heap.size w w':=by
 go_enter Tryz.func85,Tryz.ntmps85
 go_wp2_with fail
 refine(YB w l hl).mono ?_
 rintro e w1 ⟨rfl,hb⟩
 go_wp2_with fail
 go_ret
 exact⟨rfl,hb⟩
end Go.Proofs.YtgcphgdkddihcaaGreatDoor
