/- Part 2. Conditions: as each theorem says. -/
import Derived.Test.YtojdpgeeajaojaaGreatET01
import Derived.Test.YtojdpgeeajaojaaGreatProg
import Derived.OpenShut
import Derived.Still
import Derived.RegionTactic
import Derived.Below
set_option maxRecDepth 100000
namespace Go.Proofs.YtojdpgeeajaojaaGreat
open Go.RowKit
mutual
def Vl.dats:Vl->List Dat
 | .mk k n t fs r ls ps=>[.cell (.int .i64 k),.cell (.int .u64 (n:Int)),.cell (.string (str t)),.row 8 fs.length (fdats fs),.cell (.string (str r)),.row 7 ls.length (ldats ls),.row 14 ps.length (pdats ps)]
def fdats:List (Int×Vl)->List Dat
 | []=>[]
 | (n,x)::fs=>(.cell (.int .i64 n)::x.dats)++fdats fs
def ldats:List Vl->List Dat
 | []=>[]
 | x::ls=>x.dats++ldats ls
def pdats:List (Vl×Vl)->List Dat
 | []=>[]
 | (k,x)::ps=>(k.dats++x.dats)++pdats ps
end
def fieldDats(f:Int×Vl):List Dat:=.cell (.int .i64 f.1)::f.2.dats
def pairDats(p:Vl×Vl):List Dat:=p.1.dats++p.2.dats
theorem MS:∀ fs:List (Int×Vl),fdats fs=fs.flatMap fieldDats
 | []=>by simp[fdats]
 | (n,x)::fs=>by rw[fdats,MS fs,List.flatMap_cons];rfl
theorem N4:∀ ls:List Vl,ldats ls=ls.flatMap Vl.dats
 | []=>by simp[ldats]
 | x::ls=>by rw[ldats,N4 ls,List.flatMap_cons]
theorem MX:∀ ps:List (Vl×Vl),pdats ps=ps.flatMap pairDats
 | []=>by simp[pdats]
 | (k,x)::ps=>by rw[pdats,MX ps,List.flatMap_cons];rfl
theorem Vl.dats_eq(v:Vl):v.dats=[.cell (.int .i64 v.kind),.cell (.int .u64 (v.num:Int)),.cell (.string (str v.text)),.row 8 v.fields.length (v.fields.flatMap fieldDats),.cell (.string (str v.rest)),.row 7 v.list.length (v.list.flatMap Vl.dats),.row 14 v.pairs.length (v.pairs.flatMap pairDats)]:=by
 cases v
 rw[Vl.dats,MS,N4,MX]
 rfl
theorem Vl.dats_len(v:Vl):v.dats.length=7:=by rw[v.dats_eq];rfl
theorem B3(f:Int×Vl):(fieldDats f).length=8:=by unfold fieldDats;rw[List.length_cons,Vl.dats_len]
theorem B5(p:Vl×Vl):(pairDats p).length=14:=by unfold pairDats;rw[List.length_append,Vl.dats_len,Vl.dats_len]
def MF(v:Vl)(f l p:Value):List Value:=[.int .i64 v.kind,.int .u64 (v.num:Int),.string (str v.text),f,.string (str v.rest),l,p]
structure Vin (w:World) (D:Nat->Prop) (v:Vl) (pf:Option Addr) (cf:Nat) (pl:Option Addr) (cl:Nat) (pp:Option Addr) (cp:Nat):Prop where
 fields:RowD w D 8 pf fieldDats v.fields
 list:RowD w D 7 pl Vl.dats v.list
 pairs:RowD w D 14 pp pairDats v.pairs
theorem Fits.seven{w:World}{D:Nat->Prop}{a b c d e f g:Dat}{xs:List Value}(h:Fits w D [a,b,c,d,e,f,g] xs):
  ∃ x0 x1 x2 x3 x4 x5 x6,xs=[x0,x1,x2,x3,x4,x5,x6]/\Lies w D a x0/\Lies w D b x1/\Lies w D c x2/\Lies w D d x3/\Lies w D e x4/\Lies w D f x5/\Lies w D g x6:=by
 obtain⟨x0,y0,rfl,h0,k0⟩:=Fits.head h
 obtain⟨x1,y1,rfl,h1,k1⟩:=Fits.head k0
 obtain⟨x2,y2,rfl,h2,k2⟩:=Fits.head k1
 obtain⟨x3,y3,rfl,h3,k3⟩:=Fits.head k2
 obtain⟨x4,y4,rfl,h4,k4⟩:=Fits.head k3
 obtain⟨x5,y5,rfl,h5,k5⟩:=Fits.head k4
 obtain⟨x6,y6,rfl,h6,k6⟩:=Fits.head k5
 obtain rfl:y6=[]:=List.eq_nil_of_length_eq_zero k6.1.symm
 exact⟨x0,x1,x2,x3,x4,x5,x6,rfl,h0,h1,h2,h3,h4,h5,h6⟩
theorem Vl.lies{w:World}{D:Nat->Prop}{v:Vl}{f l p:Value}(h:Fits w D v.dats (MF v f l p)):Lies w D (.row 8 v.fields.length (v.fields.flatMap fieldDats)) f/\Lies w D (.row 7 v.list.length (v.list.flatMap Vl.dats)) l/\Lies w D (.row 14 v.pairs.length (v.pairs.flatMap pairDats)) p:=by
 rw[v.dats_eq]at h
 obtain⟨x0,x1,x2,x3,x4,x5,x6,e,h0,h1,h2,h3,h4,h5,h6⟩:=Fits.seven h
 simp only[MF,List.cons.injEq,and_true]at e
 obtain⟨_,_,_,rfl,_,rfl,rfl⟩:=e
 exact⟨h3,h5,h6⟩
theorem Vl.shut{w:World}{D:Nat->Prop}{v:Vl}{f l p:Value}(hf:Lies w D (.row 8 v.fields.length (v.fields.flatMap fieldDats)) f)(hl:Lies w D (.row 7 v.list.length (v.list.flatMap Vl.dats)) l)(hp:Lies w D (.row 14 v.pairs.length (v.pairs.flatMap pairDats)) p):Fits w D v.dats (MF v f l p):=by
 rw[v.dats_eq]
 exact .cons (.cell _) (.cons (.cell _) (.cons (.cell _) (.cons hf (.cons (.cell _) (.cons hl (.cons hp (.nil _ _)))))))
theorem Vin.stay{w w':World}{D:Nat->Prop}{v:Vl}{pf:Option Addr}{cf:Nat}{pl:Option Addr}{cl:Nat}{pp:Option Addr}{cp:Nat}(h:Vin w D v pf cf pl cl pp cp)(hk:Keeps D w w'):Vin w' D v pf cf pl cl pp cp:=⟨h.fields.stay hk,h.list.stay hk,h.pairs.stay hk⟩
theorem Fits.split{w:World}{D:Nat->Prop}{ds es:List Dat}{xs:List Value}(h:Fits w D (ds++es) xs):∃ ys zs,xs=ys++zs/\Fits w D ds ys/\Fits w D es zs:=by
 have hl:=h.1
 rw[List.length_append]at hl
 refine⟨xs.take ds.length,xs.drop ds.length,(List.take_append_drop _ _).symm,?_,?_⟩
 ·have:=h.part 0 ds.length
  simpa using this
 ·have:=h.part ds.length es.length
  rw[List.drop_left,List.take_length]at this
  rwa [List.take_of_length_le (by rw[List.length_drop];omega)]at this
inductive Vl.Fine:Vl->Prop where
 | mk (v:Vl) : -9223372036854775808<=v.kind->v.kind<9223372036854775808->v.num<18446744073709551616->v.text.length<=maxLen->v.rest.length<=maxLen->v.fields.length<=maxLen->v.list.length<=maxLen->v.pairs.length<=maxLen ->
  (∀ f∈v.fields,-9223372036854775808<=f.1/\f.1<9223372036854775808)->(∀ f∈v.fields,Fine f.2)->(∀ x∈v.list,Fine x)->(∀ p∈v.pairs,Fine p.1)->(∀ p∈v.pairs,Fine p.2)->Fine v
theorem Vl.Fine.bounds{v:Vl}(h:v.Fine):v.num<18446744073709551616/\v.text.length<=maxLen/\v.rest.length<=maxLen/\v.fields.length<=maxLen/\v.list.length<=maxLen/\v.pairs.length<=maxLen /\ -9223372036854775808<=v.kind/\v.kind<9223372036854775808:=by
 cases h
 exact⟨‹_›,‹_›,‹_›,‹_›,‹_›,‹_›,‹_›,‹_›⟩
theorem Vl.Fine.field{v:Vl}(h:v.Fine){f:Int×Vl}(hf:f∈v.fields):(-9223372036854775808<=f.1/\f.1<9223372036854775808)/\f.2.Fine:=by
 cases h with
 | mk v a b c d e f g h i j k l m=>exact⟨i _ hf,j _ hf⟩
theorem Vl.Fine.elem{v:Vl}(h:v.Fine){x:Vl}(hx:x∈v.list):x.Fine:=by
 cases h with
 | mk v a b c d e f g h i j k l m=>exact k _ hx
theorem Vl.Fine.pair{v:Vl}(h:v.Fine){p:Vl×Vl}(hp:p∈v.pairs):p.1.Fine/\p.2.Fine:=by
 cases h with
 | mk v a b c d e f g h i j k l m=>exact⟨l _ hp,m _ hp⟩
section
open Go
def C4(g:Vl->Int->Int)(l:Int)(x:Vl):Int:=if 0<=l then g x l else l
def gkids(v:Vl):List Vl:=v.fields.map (·.2)++(v.list++v.pairs.flatMap fun p=>[p.1,p.2])
def BE:Nat->Vl->Int->Int
 | 0,_,_ => -1
 | d+1,v,left=>if 400<v.text.length\/400<v.rest.length then -1 else(gkids v).foldl (C4 (BE d)) (left-1)
theorem HA(g:Vl->Int->Int)(hg:∀ x l,0<=l -> -1<=g x l/\g x l<=l-1):∀ (xs:List Vl) (l:Int),-1<=l -> -1<=xs.foldl (C4 g) l/\xs.foldl (C4 g) l<=l
 | [],l,h=>⟨h,Int.le_refl _⟩
 | x::xs,l,h=>by
  have h1 : -1<=C4 g l x/\C4 g l x<=l:=by
   unfold C4
   split
   ·rename_i h0
    have:=hg x l h0
    omega
   ·exact⟨h,Int.le_refl _⟩
  have:=HA g hg xs _ h1.1
  rw[List.foldl_cons]
  omega
theorem GP:∀ (d:Nat) (v:Vl) (left:Int),0<=left -> -1<=BE d v left/\BE d v left<=left-1
 | 0,_,left,h=>by unfold BE;omega
 | d+1,v,left,h=>by
  unfold BE
  split
  ·omega
  ·exact HA _ (fun x l hl=>GP d x l hl) _ _ (by omega)
inductive Small:Nat->Vl->Prop where
 | mk (d:Nat) (v:Vl):v.text.length<=400->v.rest.length<=400->(∀ x∈gkids v,Small d x)->Small (d+1) v
theorem OZ(v:Vl):vnodes v=1+lnodes (gkids v):=by
 have h:∀ a b,lnodes (a++b)=lnodes a+lnodes b:=fun a b=>by
  induction a with
  | nil=>simp[lnodes]
  | cons x a ih=>rw[List.cons_append,lnodes,lnodes,ih];omega
 have hf:∀ fs:List (Int×Vl),lnodes (fs.map (·.2))=fnodes fs:=fun fs=>by
  induction fs with
  | nil=>simp[lnodes,fnodes]
  | cons f fs ih=>obtain⟨n,x⟩:=f;rw[List.map_cons,lnodes,fnodes,ih]
 have hp:∀ ps:List (Vl×Vl),lnodes (ps.flatMap fun p=>[p.1,p.2])=pnodes ps:=fun ps=>by
  induction ps with
  | nil=>simp[lnodes,pnodes]
  | cons p ps ih=>obtain⟨k,x⟩:=p;rw[List.flatMap_cons,h,ih,lnodes,lnodes,lnodes,pnodes];dsimp only;omega
 unfold gkids
 rw[h,h,hf,hp,CH]
 omega
theorem MQ(g:Vl->Int->Int)(d:Nat)(hb:∀ x l,0<=l -> -1<=g x l/\g x l<=l-1)(hg:∀ x l,0<=l->0<=g x l->(vnodes x:Int)<=l-g x l/\Small d x):∀ (xs:List Vl) (l:Int),-1<=l->0<=xs.foldl (C4 g) l->(lnodes xs:Int)<=l-xs.foldl (C4 g) l /\ ∀ x∈xs,Small d x
 | [],l,_,h=>by simp[lnodes]
 | x::xs,l,hl,h=>by
  rw[List.foldl_cons]at h ⊢
  have h1 : -1<=C4 g l x:=by
   unfold C4
   split
   ·rename_i h0;exact(hb x l h0).1
   ·exact hl
  have hle:=(HA g hb xs _ h1).2
  obtain⟨h2,h3⟩:=MQ g d hb hg xs _ h1 h
  have h0:0<=l:=by
   rcases Int.lt_or_le l 0 with hn | hn
   ·have:C4 g l x=l:=if_neg (by omega)
    omega
   ·exact hn
  have e:C4 g l x=g x l:=if_pos h0
  rw[e]at h2 h hle ⊢
  obtain⟨h4,h5⟩:=hg x l h0 (by omega)
  refine⟨?_,fun y hy=>?_⟩
  ·rw[lnodes]
   omega
  ·rcases List.mem_cons.1 hy with h | h
   ·rw[h];exact h5
   ·exact h3 y h
theorem L6:∀ (d:Nat) (v:Vl) (left:Int),0<=left->0<=BE d v left->(vnodes v:Int)<=left-BE d v left/\Small d v
 | 0,_,left,_,h=>by unfold BE at h;omega
 | d+1,v,left,hl,h=>by
  unfold BE at h ⊢
  split at h
  ·omega
  ·rename_i ht
   rw[if_neg ht]
   obtain⟨h1,h2⟩:=MQ (BE d) d (fun x l hl=>GP d x l hl) (fun x l hl h=>L6 d x l hl h) (gkids v) (left-1) (by omega) h
   rw[OZ]
   exact⟨by omega,.mk d v (by omega) (by omega) h2⟩
theorem LI{g:Int->Vl->Int}{xs:List Vl}{l:Int}{k:Nat}{x:Vl}(h:xs[k]?=some x):(xs.take (k+1)).foldl g l=g ((xs.take k).foldl g l) x:=by
 have hk:=(List.getElem?_eq_some_iff.1 h).1
 rw[List.take_add_one,h,List.foldl_append]
 rfl
def BV(ps:List (Vl×Vl)):List Vl:=ps.flatMap fun p=>[p.1,p.2]
theorem N7{g:Int->Vl->Int}{ps:List (Vl×Vl)}{l:Int}{k:Nat}{p:Vl×Vl}(h:ps[k]?=some p):(BV (ps.take (k+1))).foldl g l=g (g ((BV (ps.take k)).foldl g l) p.1) p.2:=by
 unfold BV
 rw[List.take_add_one,h,Option.toList_some,List.flatMap_append,List.foldl_append]
 rfl
def rkids(v:Vl):List Vl:=v.list++v.fields.map (·.2)++BV v.pairs
theorem DK:∀ a b:List Vl,lnodes (a++b)=lnodes a+lnodes b
 | [],b=>by simp[lnodes]
 | x::a,b=>by rw[List.cons_append,lnodes,lnodes,DK a b];omega
theorem GS:∀ fs:List (Int×Vl),lnodes (fs.map (·.2))=fnodes fs
 | []=>by simp[lnodes,fnodes]
 | (n,x)::fs=>by rw[List.map_cons,lnodes,fnodes,GS fs]
theorem DP(p:Vl×Vl)(ps:List (Vl×Vl)):BV (p::ps)=p.1::p.2::BV ps:=by
 unfold BV
 rw[List.flatMap_cons]
 rfl
theorem HL:∀ ps:List (Vl×Vl),lnodes (BV ps)=pnodes ps
 | []=>by simp[BV,lnodes,pnodes]
 | (k,x)::ps=>by rw[DP,lnodes,lnodes,HL ps,pnodes];dsimp only;omega
theorem FQ(v:Vl):vnodes v=1+lnodes (rkids v):=by
 unfold rkids
 rw[DK,DK,GS,HL,CH]
 omega
theorem D1:∀ a b:List Vl,lsize (a++b)=lsize a+lsize b
 | [],b=>by simp[lsize]
 | x::a,b=>by rw[List.cons_append,lsize,lsize,D1 a b];omega
theorem FG:∀ fs:List (Int×Vl),lsize (fs.map (·.2))=fsize fs
 | []=>by simp[lsize,fsize]
 | (n,x)::fs=>by rw[List.map_cons,lsize,fsize,FG fs]
theorem FO:∀ ps:List (Vl×Vl),lsize (BV ps)=psize ps
 | []=>by simp[BV,lsize,psize]
 | (k,x)::ps=>by rw[DP,lsize,lsize,FO ps,psize];dsimp only;omega
theorem JU(v:Vl):vsize v=if v.kind=0 then 0 else 1+lsize (rkids v):=by
 unfold rkids
 rw[D1,D1,FG,FO,JT]
 split<;>omega
theorem EP{v x:Vl}(h:x∈rkids v):SizeOf.sizeOf x<SizeOf.sizeOf v/\(v.Fine->x.Fine)/\vnodes x<vnodes v:=by
 have hn:vnodes x<vnodes v:=by rw[FQ v];have:=GY h;omega
 unfold rkids BV at h
 simp only[List.mem_append,List.mem_map,List.mem_flatMap,List.mem_cons,List.not_mem_nil,or_false]at h
 rcases h with(h | ⟨f,hf,rfl⟩) | ⟨p,hp,rfl | rfl⟩
 ·exact⟨Vl.list_lt h,fun k=>k.elem h,hn⟩
 ·exact⟨Vl.field_lt hf,fun k=>(k.field hf).2,hn⟩
 ·exact⟨(Vl.key_lt hp).1,fun k=>(k.pair hp).1,hn⟩
 ·exact⟨(Vl.key_lt hp).2,fun k=>(k.pair hp).2,hn⟩
theorem I5{P:Vl->Prop}(h:∀ v:Vl,(∀ x∈rkids v,P x)->P v)(v:Vl):P v:=by
 generalize hn:SizeOf.sizeOf v=n
 induction n using Nat.strongRecOn generalizing v with
 | ind n ih=>
  subst hn
  exact h v fun x hx=>ih _ (EP hx).1 _ rfl
theorem KE{l:List Vl}{k:Nat}{x:Vl}(h:l[k]?=some x):lsize (l.take (k+1))=lsize (l.take k)+vsize x:=by
 rw[List.take_add_one,h,Option.toList_some,D1,lsize,lsize]
 omega
theorem HV:∀ l:List Vl,lsize l<=lnodes l/\ldepth l<=lnodes l
 | []=>by simp[lsize,lnodes,ldepth]
 | x::l=>by
  rw[lsize,lnodes,ldepth]
  have:=HV l
  have:=PQ x
  omega
theorem J5(l:List Vl)(k:Nat):lnodes (l.take k)<=lnodes l:=by
 have h:=DK (l.take k) (l.drop k)
 rw[List.take_append_drop]at h
 omega
theorem Small.parts{d:Nat}{v:Vl}(h:Small (d+1) v):v.text.length<=400/\v.rest.length<=400 /\ ∀ x∈gkids v,Small d x:=by
 cases h
 exact⟨‹_›,‹_›,‹_›⟩
end
section
structure Kind where
 exact:Option Value
 pred:Value->World->Prop
def Kind.is(c:Value):Kind:=⟨some c,fun _ _=>True⟩
def Kind.of(T:Value->World->Prop):Kind:=⟨none,T⟩
def Kind.ok(k:Kind)(v:Value):Prop:=∀ c,k.exact=some c->v=c
def Kind.pick(k:Kind):Value:=k.exact.getD undef
theorem Kind.ok_pick(k:Kind):k.ok k.pick:=fun c h=>by simp[Kind.pick,h]
theorem Kind.ok_is{c v:Value}:(Kind.is c).ok v↔v=c:=⟨fun h=>h c rfl,fun h d hd=>by cases hd;exact h⟩
abbrev C8:=Option Tmp×(World->Prop)
section
variable{P:Program}{ops:Array Oper}{md:Region.Mode}{C:World->Prop}{R:World->World->Prop}
def Seen(ops:Array Oper)(o:Oper)(G:List C8)(w:World):Prop:=∀ f∈G,∀ d,f.1=some d->d∈o.looksAt ops->f.2 w
def E2(P:Program)(R:World->World->Prop)(k:Kind)(w:World):Result Next->Prop
 | .ok (.value u) w'=>R w w'/\k.ok u/\k.pred u w'
 | .ok .skip w'=>R w w'/\k.ok undef/\k.pred undef w'
 | .ok (.enter f args) w'=>Calls P f args w' fun e w''=>∃ v,e=.returned v/\R w w''/\k.ok v/\k.pred v w''
 | _=>False
def D5(P:Program)(R:World->World->Prop)(o:Oper)(a:Act)(k:Kind)(w:World):Prop:=E2 P R k w ((execOp a.eval o).run P w)
theorem J0{o:Oper}{a:Act}{k:Kind}{w:World}{K:Act->World->Prop}{Q:Exit->Act->World->Prop}(h:D5 P R o a k w)
  (hK:∀ v w',R w w'->k.ok v->k.pred v w'->K (a.put o.dst v) w'):o.wp P a w K Q:=by
 unfold D5 at h
 unfold Oper.wp
 generalize(execOp a.eval o).run P w=r at *
 cases r with
 | ok n w'=>
  cases n<;>simp only[E2]at h<;>simp only[Oper.upon]
  case value u=>exact hK _ _ h.1 h.2.1 h.2.2
  case skip=>exact hK _ _ h.1 h.2.1 h.2.2
  case enter f args=>
   exact h.mono fun e w'' ⟨v,he,h1,h2,h3⟩=>by subst he;exact hK _ _ h1 h2 h3
 | halt x w'=>simp only[E2]at h
def AskT(P:Program)(ops:Array Oper)(R:World->World->Prop)(C:World->Prop)(o:Oper)(k:Kind)(G:List C8)(a:Act):Prop:=
 if Region.wanted o (yielded ops a.tmps)then ∀ w,C w->Seen ops o G w->D5 P R o a k w else k.ok undef /\ ∀ w,k.pred undef w
def wpT(P:Program)(ops:Array Oper)(R:World->World->Prop)(C:World->Prop)(Q:List C8->Act->Prop):List Oper->List Kind->List C8->Act->Prop
 | [],_,G,a=>Q G a
 | o::rest,k::ks,G,a=>AskT P ops R C o k G a /\ ∀ v,k.ok v->wpT P ops R C Q rest ks ((o.dst,k.pred v)::G) (a.put o.dst v)
 | _::_,[],_,_=>False
def H3(P:Program)(md:Region.Mode)(ops:Array Oper)(R:World->World->Prop)(C:World->Prop)(ks:Nat->Kind)(Q:List C8->Act->Prop):Nat->Array Bool->List C8->Act->Prop
 | 0,listed,G,a=>Region.ready md ops listed=[]/\Q G a
 | fuel+1,listed,G,a=>
  (Region.ready md ops listed=[]->Q G a) /\
  ∀ i∈Region.ready md ops listed,∀ o,ops[i]?=some o->AskT P ops R C o (ks i) G a /\
   ∀ v,(ks i).ok v->H3 P md ops R C ks Q fuel (listed.setIfInBounds i true) ((o.dst,(ks i).pred v)::G) (a.put o.dst v)
def E7(R:World->World->Prop)(F:World->Prop):Prop:=∀ w w',R w w'->F w->F w'
theorem AskT.more{o:Oper}{k:Kind}{G G':List C8}{a:Act}(hG:∀ f∈G,f∈G')(h:AskT P ops R C o k G a):AskT P ops R C o k G' a:=by
 unfold AskT at *
 split
 ·rename_i hw
  rw[if_pos hw]at h
  exact fun w hC hS=>h w hC fun f hf=>hS f (hG f hf)
 ·rename_i hw
  rwa [if_neg hw]at h
theorem J1{ks:Nat->Kind}{Q:List C8->Act->Prop}(hQ:∀ G G' a,(∀ f∈G,f∈G')->Q G a->Q G' a):
  ∀ (fuel:Nat) (listed:Array Bool) (G G':List C8) (a:Act),(∀ f∈G,f∈G')->H3 P md ops R C ks Q fuel listed G a->H3 P md ops R C ks Q fuel listed G' a
 | 0,_,_,_,_,hG,h=>⟨h.1,hQ _ _ _ hG h.2⟩
 | fuel+1,_,G,G',_,hG,h=>⟨fun h0=>hQ _ _ _ hG (h.1 h0),fun i hi o ho=>by
   obtain⟨h1,h2⟩:=h.2 i hi o ho
   refine⟨h1.more hG,fun v hv=>J1 hQ fuel _ _ _ _ (fun f hf=>?_) (h2 v hv)⟩
   rcases List.mem_cons.1 hf with rfl | hf
   ·exact List.mem_cons_self
   ·exact List.mem_cons_of_mem _ (hG f hf)⟩
theorem GV{ks:Nat->Kind}{Q:List C8->Act->Prop}{Q':Exit->Act->World->Prop}(hC:E7 R C)(hks:∀ i v,E7 R ((ks i).pred v))
  (hQ:∀ G a w,C w->(∀ f∈G,f.2 w)->Q G a->Q' .normal a w):∀ (fuel:Nat) (listed:Array Bool) (G:List C8) (a:Act) (w:World),C w->(∀ f∈G,f.2 w)->(∀ f∈G,E7 R f.2) ->
  H3 P md ops R C ks Q fuel listed G a->wpAny P md ops Q' fuel listed a w
 | 0,_,_,_,_,hw,hG,_,h=>⟨h.1,hQ _ _ _ hw hG h.2⟩
 | fuel+1,listed,G,a,w,hw,hG,hst,h=>⟨fun h0=>hQ _ _ _ hw hG (h.1 h0),fun i hi=>by
   unfold wpOp
   split
   ·rename_i ho
    obtain⟨_,o,ho',_⟩:=mem_ready.1 hi
    rw[ho]at ho';cases ho'
   ·rename_i o ho
    obtain⟨h1,h2⟩:=h.2 i hi o ho
    unfold AskT at h1
    split
    ·rename_i hwt
     rw[if_pos hwt]at h1
     refine .inl (J0 (h1 w hw fun f hf _ _ _=>hG f hf) fun v w' hR hok hp=>?_)
     refine GV hC hks hQ fuel _ _ _ w' (hC _ _ hR hw) (fun f hf=>?_) (fun f hf=>?_) (h2 v hok)
     ·rcases List.mem_cons.1 hf with rfl | hf
      ·exact hp
      ·exact hst f hf _ _ hR (hG f hf)
     ·rcases List.mem_cons.1 hf with rfl | hf
      ·exact hks i v
      ·exact hst f hf
    ·rename_i hwt
     rw[if_neg hwt]at h1
     refine GV hC hks hQ fuel _ _ _ w hw (fun f hf=>?_) (fun f hf=>?_) (h2 undef h1.1)
     ·rcases List.mem_cons.1 hf with rfl | hf
      ·exact h1.2 w
      ·exact hG f hf
     ·rcases List.mem_cons.1 hf with rfl | hf
      ·exact hks i undef
      ·exact hst f hf⟩
theorem AskT.put{oi oj:Oper}{k:Kind}{F:World->Prop}{v:Value}{G:List C8}{a:Act}(hsj:∀ cs b,oj.op≠.select cs b)
  (h1:∀ d,oi.dst=some d->d∉oj.looksAt ops):AskT P ops R C oj k ((oi.dst,F)::G) (a.put oi.dst v)↔AskT P ops R C oj k G a:=by
 have e1:execOp (a.put oi.dst v).eval oj=execOp a.eval oj:=execOp_put oj hsj a oi.dst v h1
 have e2:=wanted_put oj a oi.dst v h1
 have e3:∀ w,Seen ops oj ((oi.dst,F)::G) w↔Seen ops oj G w:=fun w=>⟨fun h f hf=>h f (List.mem_cons_of_mem _ hf),fun h f hf d hd hl=>by
  rcases List.mem_cons.1 hf with rfl | hf
  ·exact absurd hl (h1 d hd)
  ·exact h f hf d hd hl⟩
 unfold AskT D5
 rw[e1,e2]
 simp only[e3]
theorem JX{i j:Nat}{o:Oper}{listed:Array Bool}(hi:i∈Region.ready md ops listed)(hj:j∈Region.ready md ops listed)(ho:ops[j]?=some o):
  ∀ e∈o.after,Region.binds md e=true->e.on≠i:=by
 rintro e he hb rfl
 obtain⟨_,o',ho',hall⟩:=mem_ready.1 hj
 rw[ho]at ho';cases ho'
 have h1:=hall e he hb
 have h0:=(mem_ready.1 hi).1
 simp only[Array.getD]at h0 h1
 split at h1
 ·rename_i hlt
  rw[dif_pos hlt,h1]at h0
  cases h0
 ·cases h1
theorem M6{ks:Nat->Kind}{Q:List C8->Act->Prop}(hQ:∀ G G' a,(∀ f∈G,f∈G')->Q G a->Q G' a){i:Nat}{oi:Oper}(hi:ops[i]?=some oi)
  (hsel:∀ (j:Nat) (o:Oper) cs b,ops[j]?=some o->o.op≠.select cs b):
  ∀ (fuel:Nat) (listed:Array Bool) (G:List C8) (a:Act),
   (∀ j oj,ops[j]?=some oj->j≠i->listed.getD j true=false->(∀ e∈oj.after,Region.binds md e=true->e.on≠i)->oi.apart ops oj=true) ->
   i∈Region.ready md ops listed->AskT P ops R C oi (ks i) G a ->
   (∀ v,(ks i).ok v->H3 P md ops R C ks Q fuel (listed.setIfInBounds i true) ((oi.dst,(ks i).pred v)::G) (a.put oi.dst v))->H3 P md ops R C ks Q (fuel+1) listed G a:=by
 intro fuel
 induction fuel with
 | zero=>
  intro listed G a _ hr hy H
  refine⟨fun h=>(by rw[h]at hr;cases hr),fun j hj o ho=>?_⟩
  by_cases hji:j=i
  ·subst hji
   rw[hi]at ho;cases ho
   exact⟨hy,H⟩
  ·have h0:=(H _ (ks i).ok_pick).1
   have:=ready_mono hj hji
   rw[h0]at this
   cases this
 | succ fuel ih=>
  intro listed G a hfree hr hy H
  refine⟨fun h=>(by rw[h]at hr;cases hr),fun j hj o ho=>?_⟩
  by_cases hji:j=i
  ·subst hji
   rw[hi]at ho;cases ho
   exact⟨hy,H⟩
  ·have hjun:=(mem_ready.1 hj).1
   obtain⟨a1,a2,a3⟩:=Oper.apart_spec (hfree j o ho hji hjun (JX hr hj ho))
   have hjr:=ready_mono hj hji
   refine⟨(AskT.put (hsel j o · · ho) a1).1 ((H _ (ks i).ok_pick).2 j hjr o ho).1,fun u hu=>?_⟩
   refine ih (listed.setIfInBounds j true) _ _ (fun k ok hk hki hun hno=>hfree k ok hk hki (Decidable.byCases (fun h:j=k=>by rw[<- h];exact hjun) fun h=>by rwa [getD_set_ne true h]at hun) hno) (ready_mono hr (Ne.symm hji)) ((AskT.put (hsel i oi · · hi) a3).2 hy) fun v hv=>?_
   have h2:=((H v hv).2 j hjr o ho).2 u hu
   rw[Array.setIfInBounds_comm _ _ hji,<- Act.put_comm a v u a2]
   refine J1 hQ fuel _ _ _ _ (fun f hf=>?_) h2
   simp only[List.mem_cons]at hf ⊢
   rcases hf with h | h | h
   ·exact .inr (.inl h)
   ·exact .inl h
   ·exact .inr (.inr h)
theorem JZ{ks:Nat->Kind}{Q:List C8->Act->Prop}(hQ:∀ G G' a,(∀ f∈G,f∈G')->Q G a->Q G' a)(hs:Region.noSelect ops=true):
  ∀ (l:List Oper) (kl:List Kind) (n:Nat) (listed:Array Bool) (G:List C8) (a:Act),(∀ j,l[j]?=ops[n+j]?)->(∀ (j:Nat) k,kl[j]?=some k->ks (n+j)=k) ->
  Region.lexFrom md ops l.length n listed=true->wpT P ops R C Q l kl G a->H3 P md ops R C ks Q l.length listed G a
 | [],_,_,_,_,_,_,_,hB,h=>⟨by simpa[Region.lexFrom]using hB,h⟩
 | _::_,[],_,_,_,_,_,_,_,h=>h.elim
 | o::l,k::kl,n,listed,G,a,hl,hk,hB,h=>by
  have h0:ops[n]?=some o:=by simpa using(hl 0).symm
  have hk0:ks n=k:=by simpa using hk 0 k (by simp)
  simp only[List.length_cons,Region.lexFrom,Bool.and_eq_true]at hB
  obtain⟨⟨hr,hf⟩,hB'⟩:=hB
  obtain⟨h1,h2⟩:=h
  refine M6 hQ h0 (Region.noSelect_spec hs) l.length listed G a (Region.free_spec h0 hf) (by simpa using hr) (by rw[hk0];exact h1) fun v hv=>?_
  rw[hk0]at hv ⊢
  exact JZ hQ hs l kl (n+1) _ _ _ (fun j=>by have:=hl (j+1);simpa[Nat.add_assoc,Nat.add_comm 1 j]using this)
   (fun j k' hj=>by have:=hk (j+1) k' (by simpa using hj);simpa[Nat.add_assoc,Nat.add_comm 1 j]using this) hB' (h2 v hv)
def AllStay(R:World->World->Prop):List Kind->Prop
 | []=>True
 | k::ks=>(∀ v,E7 R (k.pred v))/\AllStay R ks
theorem AllStay.mem:∀ {l:List Kind},AllStay R l -> ∀ k∈l,∀ v,E7 R (k.pred v)
 | _::_,h,k,hk=>by
  rcases List.mem_cons.1 hk with rfl | hk
  ·exact h.1
  ·exact AllStay.mem h.2 k hk
theorem K4{id:Nat}{Q:Exit->Act->World->Prop}{a:Act}{w:World}{l:List Oper}(C:World->Prop)(R:World->World->Prop)(kl:List Kind)(hm:P.follows .mixedOrders=true)
  (hB:Region.lexB .any l.toArray=true) (hC:E7 R C) (hks:AllStay R kl) (h0:C w.drew)
  (h:wpT P l.toArray R C (fun G a'=>∀ w',C w'->(∀ f∈G,f.2 w')->Q .normal a' w') l kl [] a):(Code.region id l.toArray true).wp P Q a w:=by
 simp only[Region.lexB,Bool.and_eq_true]at hB
 have hks':∀ i v,E7 R (((fun i=>kl.getD i (Kind.is undef)) i).pred v):=fun i v=>by
  simp only[List.getD]
  cases hk:kl[i]? with
  | none=>exact fun _ _ _ _=>trivial
  | some k=>exact hks.mem k (List.mem_of_getElem? hk) v
 refine wp_region_any hm (GV (ks:=fun i=>kl.getD i (Kind.is undef)) (Q:=fun G a'=>∀ w',C w'->(∀ f∈G,f.2 w')->Q .normal a' w') hC hks' (fun G a' w' hw hG h=>h w' hw hG) _ _ [] a _ h0
  (fun f hf=>by cases hf) (fun f hf=>by cases hf) ?_)
 have:=JZ (md:=.any) (ks:=fun i=>kl.getD i (Kind.is undef)) (fun G G' a' hG h w' hw hF=>h w' hw fun f hf=>hF f (hG f hf)) hB.1 l kl 0 (Array.replicate l.toArray.size false) [] a (by simp)
  (fun j k hj=>by simp[List.getD,hj]) (by simpa using hB.2) h
 simpa using this
theorem Seen.get{o:Oper}{G:List C8}{w:World}(h:Seen ops o G w){d:Tmp}{F:World->Prop}(hm:(some d,F)∈G)(hl:(o.looksAt ops).contains d=true):F w:=
 h _ hm d rfl (by simpa using hl)
variable{Q:List C8->Act->Prop}{o:Oper}{rest:List Oper}{ks:List Kind}{G:List C8}{a:Act}
end
end
end Go.Proofs.YtojdpgeeajaojaaGreat
