/- Part 9. Conditions: as each theorem says. -/
import Derived.Test.YtmhhdoaiccahaaaAT08
import Derived.Laws.Entries
import Derived.Laws.Small
import Derived.Laws.Slices
import Derived.ChangeMaps5
import Derived.Carry
set_option maxRecDepth 100000
namespace Go.Proofs.Ytmhhdoaiccahaaa
open Go.RowKit
section
section
variable{P:Program}{cx:Cx}{T:TL}{B:BL}{R:RL}{o:Oper}
theorem SS{x y:Operand}{ts:Array TypeId}{k k':IntKind}{m n:Int}(ho:o.op=.call { callee:=.builtin .max,args := #[x,y],argTypes:=ts })(hx:Kn T x (.is (.int k m)))(hy:Kn T y (.is (.int k' n))):LStep P cx B R o T (.is (.int k (max m n))):=LStep.same fun M V w a _ hk=>by
 have h1:=(hk x _ (by simp[ho,Op.operands,Call.operands]) hx).is_eq
 have h2:=(hk y _ (by simp[ho,Op.operands,Call.operands]) hy).is_eq
 have h3:(if n>m then n else m)=max m n:=by
  split<;>omega
 refine⟨_,?_,.cell _⟩
 simp[execOp,ho,h1,h2,resolve,invoke,builtin,run_max_int2,h3]
variable{M:Nat->Nat}{V:Nat->Value}
end
end
section
theorem HY{α:Type}{f:α->List Dat}{k:Nat}(hk:∀ a,(f a).length=k):∀ (qs:List α) (i:Nat),(qs.flatMap f).drop (i*k)=(qs.drop i).flatMap f
 | [],i=>by simp
 | q::qs,0=>by simp
 | q::qs,i+1=>by
  rw[List.flatMap_cons,List.drop_succ_cons,<- HY hk qs i,List.drop_append,List.drop_eq_nil_of_le (by rw[hk,Nat.succ_mul];omega),List.nil_append,hk,Nat.succ_mul,Nat.add_sub_cancel]
theorem ID{α:Type}{f:α->List Dat}{k:Nat}(hk:∀ a,(f a).length=k):∀ (qs:List α) (i:Nat),(qs.flatMap f).take (i*k)=(qs.take i).flatMap f
 | [],i=>by simp
 | q::qs,0=>by simp
 | q::qs,i+1=>by
  rw[List.flatMap_cons,List.take_succ_cons,List.flatMap_cons,<- ID hk qs i,List.take_append,List.take_of_length_le (by rw[hk,Nat.succ_mul];omega),hk,Nat.succ_mul,Nat.add_sub_cancel]
theorem MT{w:World}{D:Nat->Prop}{k:Nat}{α:Type}{f:α->List Dat}(hk:∀ a,(f a).length=k){qs:List α}{p:Option Addr}{c lo hi:Nat}(h:Lies w D (.row k qs.length (qs.flatMap f)) (.slice p qs.length c))(hlh:lo<=hi)(hh:hi<=qs.length)(hc:qs.length<=c):
  Lies w D (.row k ((qs.take hi).drop lo).length (((qs.take hi).drop lo).flatMap f)) (.slice (if c=lo then p else p.map (·.add (lo*k))) (hi-lo) (c-lo)):=by
 have hl:((qs.take hi).drop lo).length=hi-lo:=by rw[List.length_drop,List.length_take];omega
 rcases Nat.eq_zero_or_pos (hi-lo)with h0 | h0
 ·rw[hl,h0,List.eq_nil_of_length_eq_zero (hl.trans h0)]
  exact .none _ _ _
 ·have hne:¬ c=lo:=by omega
  rw[if_neg hne,hl]
  have hd:((qs.take hi).drop lo).flatMap f=((qs.flatMap f).drop (lo*k)).take ((hi-lo)*k):=by
   rw[HY hk,ID hk,List.drop_take]
  rw[hd]
  have hp:∃ b o,p=some ⟨b,o,none⟩:=by
   generalize hn:qs.length=n at h
   generalize qs.flatMap f=ds at h
   cases h with
   | none=>omega
   | row k n b o c ds X=>exact⟨b,o,rfl⟩
  obtain⟨b,o,rfl⟩:=hp
  have hadd:(⟨b,o,none⟩:Addr).add (lo*k)=⟨b,o+lo*k,none⟩:=by unfold Addr.add;split<;>simp_all
  rw[Option.map_some,hadd]
  exact O4 h hlh hh _ (by omega)
theorem Q4{w:World}{D:Nat->Prop}{k n:Nat}{ds:List Dat}{v:Value}(h:Lies w D (.row k n ds) v):∃ p c,v=.slice p n c/\n<=c:=by
 cases h with
 | none k p c=>exact⟨p,c,rfl,Nat.zero_le _⟩
 | row k n b o c ds X h1 h2=>exact⟨_,c,rfl,h2⟩
section
variable{P:Program}{cx:Cx}{T:TL}{B:BL}{R:RL}{o:Oper}
theorem BM{x lo:Operand}{t:TypeId}{k:Nat}{α:Type}{f:α->List Dat}{qs:List α}{kk:IntKind}{z:Int}(ho:o.op=.slice t x (some lo) none none)(hx:Kn T x (.part (.one (.row k qs.length (qs.flatMap f)))))(hl:Kn T lo (.is (.int kk z)))(hz:0<=z/\z<=(qs.length:Int))(hk:∀ a,(f a).length=k)(ht:P.underlying t=some (.slice (P.elem t)))(hs:sizeT P (P.elem t)=some k):
  LStep P cx B R o T (.part (.one (.row k (qs.drop z.toNat).length ((qs.drop z.toNat).flatMap f)))):=LStep.same fun M V w a _ hkk=>by
 have h1:=(hkk lo _ (by simp[ho,Op.operands]) hl).is_eq
 have hv:=hkk x _ (by simp[ho,Op.operands]) hx
 obtain⟨p,c,h2,h3⟩:=Q4 hv
 rw[h2]at hv
 have h4:=MT hk hv (lo:=z.toNat) (hi:=qs.length) (by omega) (Nat.le_refl _) h3
 have h5:=run_slice_l (P:=P) (w:=w) t p qs.length c ht kk z hz.1 hz.2
 rw[C9 hs,Result.andThen_ok,<- run_sliceAt_slice _ _ _ _ _ _ ht]at h5
 rw[List.take_length]at h4
 exact⟨sliced _ _ _ _ _,by simp[execOp,ho,h1,h2,h5],h4⟩
end
end
section
section
variable{P:Program}{cx:Cx}{T:TL}{B:BL}{R:RL}{o:Oper}
theorem Rel.row_turn{M:Nat->Nat}{V:Nat->Value}{a:Act}{w w':World}(hr:Rel cx T B R M V a w){r g:Nat}{z z':Rw}(hr0:lk r R=some z)(hf0:z.fz=false)(hob:obk (V r)=some g)(hz':z'.fz=false)(hty':Nat.blt z'.ty 2000000=true)(hoth:∀ q,q≠g->w'.heap[q]?=w.heap[q]?)(hsz:w'.heap.size=w.heap.size)(hos:w'.os=w.os)(htp:w'.tape=w.tape)(hou:w'.output=w.output)
  (hnew:∀ D',Keeps (Dc cx B R M V w) w w'->(∀ q,Dc cx B R M V w q->D' q)->Gx w' D' 0 z'.ty z'.k (V r) z'.n z'.ds):Rel cx T B ((r,z')::R) M V a w':=by
 exact hr.turned hr0 hf0 hz' (fun q hq=>hoth q fun e=>hq (.inl (by rw[e];exact hob))) hsz hos htp hou (fun p hp=>.inl (EC hp hty')) hnew
variable{α:Type}
def mds(kf:α->Value)(ps:List (α×Dat)):List Dat:=ps.flatMap fun p=>[.cell (kf p.1),p.2]
def CU[DecidableEq α](x:α):List (α×Dat)->Option Dat
 | []=>none
 | p::ps=>if x=p.1 then some p.2 else CU x ps
def EJ[DecidableEq α](x:α)(d:Dat):List (α×Dat)->List (α×Dat)
 | []=>[(x,d)]
 | p::ps=>if x=p.1 then(x,d)::ps else p::EJ x d ps
structure KeyF [DecidableEq α] (P:Program) (kt:TypeId) (kf:α->Value):Prop where
 same:∃ desc,P.underlying kt=some desc /\ ∀ x y:α,Instr.sameNow desc (kf x) (kf y)=some (decide (x=y))
 chk:∀ (e:Bool) (x:α) (w:World),(Instr.checkKey e 10000 kt (kf x)).run P w=.ok () w
 bits:∀ x:α,Instr.sameBits 10000 (kf x) (kf x)=true
theorem LS(a b:List UInt8):(str a==str b)=decide (a=b):=by
 have:(str a==str b)=((str a).data==(str b).data):=rfl
 rw[this]
 by_cases h:a=b
 ·subst h
  simp
 ·rw[decide_eq_false h]
  simpa[str]using h
theorem R9{kt:TypeId}(h:P.underlying kt=some .string):KeyF P kt (fun s:List UInt8=>Value.string (str s)):=
 ⟨⟨_,h,fun x y=>congrArg some (LS x y)⟩,fun e x w=>by unfold Instr.checkKey;simp[run_underlying h,Result.andThen],fun x=>by unfold Instr.sameBits;rw[LS];simp⟩
def MEs(w:World)(D:Nat->Prop)(kf:α->Value):List (α×Dat)->List MapEntry->Prop
 | [],[]=>True
 | p::ps,e::es=>e.key=kf p.1/\Lies w D p.2 e.val/\MEs w D kf ps es
 | _,_=>False
variable{w w':World}{D D':Nat->Prop}{kf:α->Value}
theorem P3:∀ {ps:List (α×Dat)} {es:List MapEntry},Fits w D (mds kf ps) (kvs es)->MEs w D kf ps es
 | [],[],_=>trivial
 | p::ps,e::es,h=>by
  obtain⟨x,ys,h1,h2,h3⟩:=Fits.head (d:=.cell (kf p.1)) (ds:=p.2::mds kf ps) h
  obtain⟨x',ys',h4,h5,h6⟩:=Fits.head h3
  have e1:e.key::e.val::kvs es=x::ys:=h1
  rw[h4]at e1
  injection e1 with e1 e2
  injection e2 with e2 e3
  exact⟨e1.trans h2.cell_eq,e2▸h5,P3 (e3▸h6)⟩
 | [],e::es,h=>by have:=h.1;simp[mds,kvs]at this
 | p::ps,[],h=>by have:=h.1;simp[mds,kvs]at this
theorem K6:∀ {ps:List (α×Dat)} {es:List MapEntry},MEs w D kf ps es->Fits w D (mds kf ps) (kvs es)
 | [],[],_=>Fits.nil _ _
 | p::ps,e::es,h=>.cons (by rw[h.1];exact .cell _) (.cons h.2.1 (K6 h.2.2))
 | [],_::_,h=>h.elim
 | _::_,[],h=>h.elim
theorem MEs.length:∀ {ps:List (α×Dat)} {es:List MapEntry},MEs w D kf ps es->es.length=ps.length
 | [],[],_=>rfl
 | _::_,_::_,h=>by simp[MEs.length h.2.2]
 | [],_::_,h=>h.elim
 | _::_,[],h=>h.elim
theorem MEs.stay(hk:Keeps D w w')(hD:∀ g,D g->D' g):∀ {ps:List (α×Dat)} {es:List MapEntry},MEs w D kf ps es->MEs w' D' kf ps es
 | [],[],_=>trivial
 | _::_,_::_,h=>⟨h.1,h.2.1.stay hk hD,MEs.stay hk hD h.2.2⟩
 | [],_::_,h=>h.elim
 | _::_,[],h=>h.elim
variable[DecidableEq α]
theorem GQ{kt:TypeId}(K:KeyF P kt kf){desc:TypeDesc}(hd:P.underlying kt=some desc)(x:α):∀ {ps:List (α×Dat)} {es:List MapEntry} (i:Nat),MEs w D kf ps es ->
  (CU x ps=none/\Instr.findNow desc (kf x) es i=some none /\ ∀ d v w' D' b,MEs w' D' kf ps es->Lies w' D' d v->MEs w' D' kf (EJ x d ps) (es++[{ key:=kf x,val:=v,born:=b }])) \/
  ∃ j d e,CU x ps=some d/\es[j]?=some e/\e.key=kf x/\Lies w D d e.val/\Instr.findNow desc (kf x) es i=some (some (i+j,e.val)) /\ ∀ d' v w' D',MEs w' D' kf ps es->Lies w' D' d' v->MEs w' D' kf (EJ x d' ps) (es.modify j fun e=>{ e with key:=kf x,val:=v })
 | [],[],i,_=>.inl ⟨rfl,rfl,fun d v w' D' b _ hv=>⟨rfl,hv,trivial⟩⟩
 | p::ps,e::es,i,h=>by
  obtain⟨desc',h1,h2⟩:=K.same
  obtain rfl:desc=desc':=Option.some.inj (hd.symm.trans h1)
  by_cases hx:x=p.1
  ·refine .inr ⟨0,p.2,e,by simp[CU,hx],rfl,h.1.trans (by rw[hx]),h.2.1,?_,fun d' v w' D' h' hv=>?_⟩
   ·simp[Instr.findNow,h.1,h2,hx]
   ·have:EJ x d' (p::ps)=(x,d')::ps:=by simp[EJ,hx]
    rw[this]
    exact⟨rfl,hv,h'.2.2⟩
  ·have e0:Instr.findNow desc (kf x) (e::es) i=Instr.findNow desc (kf x) es (i+1):=by simp[Instr.findNow,h.1,h2,hx]
   have e1:CU x (p::ps)=CU x ps:=by simp[CU,hx]
   have e2:∀ d,EJ x d (p::ps)=p::EJ x d ps:=fun d=>by simp[EJ,hx]
   rw[e0,e1]
   rcases GQ K hd x (i+1) h.2.2 with⟨a1,a2,a3⟩ | ⟨j,d,e',a1,a2,a3,a4,a5,a6⟩
   ·exact .inl ⟨a1,a2,fun d v w' D' b h' hv=>by rw[e2];exact⟨h'.1,h'.2.1,a3 d v w' D' b h'.2.2 hv⟩⟩
   ·refine .inr ⟨j+1,d,e',a1,by simpa using a2,a3,a4,by rw[a5];congr 3;omega,fun d' v w' D' h' hv=>?_⟩
    rw[e2,List.modify_succ_cons]
    exact⟨h'.1,h'.2.1,a6 d' v w' D' h'.2.2 hv⟩
 | [],_::_,_,h=>h.elim
 | _::_,[],_,h=>h.elim
theorem OG{t kt et:TypeId}(ht:P.underlying t=some (.map kt et))(K:KeyF P kt kf){z:Value}(hz:∀ w:World,(zeroValue et).run P w=.ok z w){g:Nat}{es:Array MapEntry}{clock:Nat}(hg:w.heap[g]?=some (.map es clock)){ps:List (α×Dat)}(h:MEs w D kf ps es.toList)(x:α)(ok:Bool):
  ∃ v,Lies w D ((CU x ps).getD (.cell z)) v/\(Instr.lookup t (.map (some g)) (kf x) ok).run P w=.ok (if ok then .tuple #[v,.bool (CU x ps).isSome]else v) w:=by
 obtain⟨desc,h1,_⟩:=K.same
 rcases GQ K h1 x 0 h with⟨a1,a2,_⟩ | ⟨j,d,e',a1,a2,a3,a4,a5,_⟩
 ·refine⟨z,by rw[a1];exact .cell z,?_⟩
  simp[Instr.lookup,run_underlying ht,MapKept.run_getObj_map hg,K.chk,Instr.findKey,run_underlying h1,a2,hz,Result.andThen,a1]
 ·refine⟨e'.val,by rw[a1];exact a4,?_⟩
  simp[Instr.lookup,run_underlying ht,MapKept.run_getObj_map hg,K.chk,Instr.findKey,run_underlying h1,a5,Result.andThen,a1]
end
end
section
section
variable{P:Program}{cx:Cx}{T:TL}{B:BL}{R:RL}{o:Oper}{α:Type}{kf:α->Value}
def LP(P:Program)(t:TypeId):Option Value:=(P.info? t).bind (·.zero)
theorem MW{t:TypeId}{z:Value}(h:LP P t=some z)(w:World):(zeroValue t).run P w=.ok z w:=by
 unfold LP at h
 cases hi:P.info? t with
 | none=>simp[hi]at h
 | some i=>
  have hz:i.zero=some z:=by simpa[hi]using h
  simp[zeroValue,typeInfo,hi,hz,Result.andThen]
theorem MapRow.mes{w:World}{D:Nat->Prop}{base:Nat}{e:TypeId}{k n:Nat}{v:Value}{ps:List (α×Dat)}(h:Gx w D base e k v n (mds kf ps))(hty:Nat.blt e 1000000=false)(hty2:Nat.blt e 2000000=true):∃ g es clock,v=.map (some g)/\base<=g/\w.heap[g]?=some (.map es clock)/\es.size=n/\MEs w D kf ps es.toList:=by
 obtain⟨xs,⟨h0,_⟩ | ⟨_,g,es,clock,h1,h2,h3,h4,h5⟩ | ⟨h0,_⟩,h6⟩:=h
 ·rw[hty]at h0;cases h0
 ·exact⟨g,es,clock,h1,h2,h3,h4,P3 (h5▸h6.row hty2)⟩
 ·rw[hty2]at h0;cases h0
variable[DecidableEq α]
theorem LH{x i:Operand}{t kt et:TypeId}{r k n ty:Nat}{ps:List (α×Dat)}{c:α}{z:Value}(ho:o.op=.lookup t x i true)(hx:Kn T x (.own r))(hr:lk r R=some ⟨ty,k,n,mds kf ps,false⟩)(hi:Kn T i (.is (kf c)))(K:KeyF P kt kf)(ht:P.underlying t=some (.map kt et))(hz:LP P et=some z)(hty:Nat.blt ty 1000000=false:=by rfl)(hty2:Nat.blt ty 2000000=true:=by rfl):
  LStep P cx B R o T (.tup [.one ((CU c ps).getD (.cell z)),.one (.cell (.bool (CU c ps).isSome))]):=LStep.same fun M V w a hh hk=>by
 have h1:a.eval x=V r:=hk x _ (by simp[ho,Op.operands]) hx
 have h2:a.eval i=kf c:=(hk i _ (by simp[ho,Op.operands]) hi).is_eq
 have hrow:Gx w (Dc cx B R M V w) 0 ty k (V r) n (mds kf ps):=hh.row r _ hr
 obtain⟨g,es,clock,e1,_,e3,_,e5⟩:=MapRow.mes hrow hty hty2
 obtain⟨v,hv,hrun⟩:=OG ht K (MW hz) e3 e5 c true
 exact⟨.tuple [v,.bool (CU c ps).isSome].toArray,by simp[execOp,ho,h1,h2,e1,hrun],[v,.bool (CU c ps).isSome],rfl,hv,.cell _,trivial⟩
omit [DecidableEq α] in
theorem RU{x:Operand}{t kt et:TypeId}{r k n ty:Nat}{ps:List (α×Dat)}(ho:o.op=.call { callee:=.builtin .len,args := #[x],argTypes := #[t] })(hx:Kn T x (.own r))(hr:lk r R=some ⟨ty,k,n,mds kf ps,false⟩)(ht:P.underlying t=some (.map kt et))(hty:Nat.blt ty 1000000=false:=by rfl)(hty2:Nat.blt ty 2000000=true:=by rfl):
  LStep P cx B R o T (.is (.int .i64 (n:Int))):=LStep.same fun M V w a hh hk=>by
 have h1:a.eval x=V r:=hk x _ (by simp[ho,Op.operands,Call.operands]) hx
 have hrow:Gx w (Dc cx B R M V w) 0 ty k (V r) n (mds kf ps):=hh.row r _ hr
 obtain⟨g,es,clock,e1,_,e3,e4,_⟩:=MapRow.mes hrow hty hty2
 refine⟨.int .i64 (n:Int),?_,.cell _⟩
 simp[execOp,ho,resolve,h1,e1,invoke,builtin,Builtin.len_,run_underlying ht,MapKept.run_getObj_map e3,goInt,Result.andThen,e4]
theorem RK{ops:Array Oper}{Q:Exit->Act->World->Prop}{l:List Oper}{x i y:Operand}{t kt et:TypeId}{r k n ty:Nat}{ps:List (α×Dat)}{c:α}{d:Dat}(hg:o.guard=none)(hd:o.dst=none)(ho:o.op=.mapUpdate t x i y)(hx:Kn T x (.own r))(hr:lk r R=some ⟨ty,k,n,mds kf ps,false⟩)(hi:Kn T i (.is (kf c)))(hy:Kn T y (.part (.one d)))(K:KeyF P kt kf)(ht:P.underlying t=some (.map kt et))
  (hE:E cx T B ((r,⟨ty,k,(EJ c d ps).length,mds kf (EJ c d ps),false⟩)::R) (wpList P ops Q l)) (hty:Nat.blt ty 1000000=false:=by rfl) (hty2:Nat.blt ty 2000000=true:=by rfl):E cx T B R (wpList P ops Q (o::l)):=fun M V a w hrel=>by
 refine wpList_plain hg fun Q' hK=>?_
 have hh:=hrel.heap
 have hxv:a.eval x=V r:=hx w (Dc cx B R M V w) M V a fun t z _ hz=>hrel.tmp t z hz
 have hiv:a.eval i=kf c:=(hi w (Dc cx B R M V w) M V a fun t z _ hz=>hrel.tmp t z hz).is_eq
 have hyv:Lies w (Dc cx B R M V w) d (a.eval y):=hy w (Dc cx B R M V w) M V a fun t z _ hz=>hrel.tmp t z hz
 have hrow:Gx w (Dc cx B R M V w) 0 ty k (V r) n (mds kf ps):=hh.row r _ hr
 obtain⟨g,es,clock,e1,_,e3,e4,e5⟩:=MapRow.mes hrow hty hty2
 have hob:obk (V r)=some g:=by rw[e1];rfl
 obtain⟨desc,h1,_⟩:=K.same
 have hout:∃ es' clock',(Instr.mapUpdate t (.map (some g)) (kf c) (a.eval y)).run P w=.ok () (ChangeMaps.setBlock w g (.map es' clock')) /\ ∀ w' D',MEs w' D' kf ps es.toList->Lies w' D' d (a.eval y)->MEs w' D' kf (EJ c d ps) es'.toList:=by
  rcases GQ K h1 c 0 e5 with⟨a1,a2,a3⟩ | ⟨j,d0,e',a1,a2,a3,a4,a5,a6⟩
  ·refine⟨es.push { key:=kf c,val:=a.eval y,born:=clock },clock+1,?_,fun w' D' hm hv=>?_⟩
   ·simp[Instr.mapUpdate,run_underlying ht,MapKept.run_getObj_map e3,K.chk,Instr.findKey,run_underlying h1,a2,MapKept.run_setObj_map _ e3,Result.andThen,ChangeMaps.setBlock]
   ·rw[Array.toList_push]
    exact a3 d _ w' D' clock hm hv
  ·have hj:es[j]?=some e':=by simpa using a2
   refine⟨es.modify j fun e=>{ e with key:=kf c,val:=a.eval y },clock,?_,fun w' D' hm hv=>?_⟩
   ·simp[Instr.mapUpdate,run_underlying ht,MapKept.run_getObj_map e3,K.chk,Instr.findKey,run_underlying h1,a5,hj,a3,Instr.keyThatStays,K.bits,MapKept.run_setObj_map _ e3,Result.andThen,ChangeMaps.setBlock]
   ·rw[Array.toList_modify]
    exact a6 d _ w' D' hm hv
 obtain⟨es',clock',hrun,hmes⟩:=hout
 have hrel':Rel cx T B ((r,⟨ty,k,(EJ c d ps).length,mds kf (EJ c d ps),false⟩)::R) M V a (ChangeMaps.setBlock w g (.map es' clock')):=by
  refine hrel.row_turn hr rfl hob rfl hty2 (fun q hq=>ChangeMaps.heap_setBlock_other e3 _ hq) (by simp[ChangeMaps.setBlock]) rfl rfl rfl fun D' hk hD=>?_
  have hm:=hmes _ _ (MEs.stay hk hD e5) (hyv.stay hk hD)
  exact⟨_,.inr (.inl ⟨⟨hty,hty2⟩,g,es',clock',e1,Nat.zero_le _,ChangeMaps.heap_setBlock_same e3 _,by rw[<- hm.length];simp,rfl⟩),.inl ⟨hty2,K6 hm⟩⟩
 have:=hK _ _ (hE M V _ _ hrel')
 unfold Oper.wp execOp
 simp[ho,hxv,hiv,e1,hrun,Oper.upon,hd,Result.andThen]
 exact this
end
end
section
section
variable{P:Program}{cx:Cx}{T:TL}{B:BL}{R:RL}{o:Oper}
theorem R8(r ty k:Nat){ops:Array Oper}{Q:Exit->Act->World->Prop}{l:List Oper}{d:Nat}{t:TypeId}(hg:o.guard=none)(hd:o.dst=some d)(hn:Nat.blt d cx.n=true)(ho:o.op=.makeMap t none)
  (hT:IM r T=true) (hB:IT r B=true) (hE:E cx ((d,.own r)::T) B ((r,⟨ty,k,0,[],false⟩)::R) (wpList P ops Q l)) (hty:Nat.blt ty 1000000=false:=by rfl) (hty2:Nat.blt ty 2000000=true:=by rfl):E cx T B R (wpList P ops Q (o::l)):=fun M V a w hrel=>by
 refine wpList_plain hg fun K hK=>?_
 have hb:Below w.heap.size w (w.alloc (.map #[] 0)):=(Below.refl _ _).alloc (Nat.le_refl _) _
 let v:Value:=.map (some w.heap.size)
 have hmade:MapRow (w.alloc (.map #[] 0)) 0 ty v 0 []:=⟨⟨hty,hty2⟩,w.heap.size,#[],0,rfl,Nat.zero_le _,heap_alloc_new w _,rfl,rfl⟩
 obtain⟨V',hVr,hr0⟩:=hrel.newrow (v':=v) (z':=⟨ty,k,0,[],false⟩) hb rfl (fun g hg=>by
  have h1:some w.heap.size=some g:=EC hg hty2
  obtain rfl:=Option.some.inj h1
  exact⟨Nat.le_refl _,by simp⟩) (fun D' hD=>⟨[],.inr (.inl hmade),.inl ⟨hty2,Fits.nil _ _⟩⟩) r hT hB
 have hrel':=hr0.put (Below.refl _ _) (BJ hn) (x:=.own r) hVr.symm
 have:=hK _ _ (hE M V' _ _ hrel')
 unfold Oper.wp execOp
 simp only[ho,Option.map_none,Sem.run_bind]
 simp only[run_makeMap,Result.andThen_ok,Sem.run_pure,Oper.upon,hd]
 exact this
def AtV(o:Nat)(u v:Value):Prop:=∃ g n c,u=.slice (some ⟨g,0,none⟩) n c/\v=.pointer (some ⟨g,o,none⟩)
theorem NZ(b o k:Nat):(⟨b,o,none⟩:Addr).add k=⟨b,o+k,none⟩:=by unfold Addr.add;split<;>simp_all
theorem HR.own_shape{M:Nat->Nat}{V:Nat->Value}{w:World}(hh:HR cx B R M V w){r ty k n:Nat}{ds:List Dat}(hr:lk r R=some ⟨ty,k,n,ds,false⟩)(hty:Nat.blt ty 1000000=true)(hn:0<n):
  ∃ g cap cur xs,V r=.slice (some ⟨g,0,none⟩) n cap/\w.heap[g]?=some (.cells cur ty (0,0))/\n<=cap/\cap<=maxLen/\cur.size=cap*k/\cur.toList.take (n*k)=xs/\xs.length=n*k/\Fits w (Dc cx B R M V w) ds xs:=by
 obtain⟨xs,hown,hfx⟩:Gr w (Dc cx B R M V w) 0 ty k (V r) n ds:=Gx.row (hh.row r _ hr) hty
 obtain⟨hxl,hv⟩:=hown
 obtain⟨g,cap,cur,hVr,_,hg,hcap,hmax,hcs,hcx⟩:=hv.resolve_left fun h=>by omega
 exact⟨g,cap,cur,xs,hVr,hg,hcap,hmax,hcs,hcx,hxl,hfx⟩
theorem HR.own_slice{M:Nat->Nat}{V:Nat->Value}{w:World}(hh:HR cx B R M V w){r ty k n:Nat}{ds:List Dat}(hr:lk r R=some ⟨ty,k,n,ds,false⟩)(hty:Nat.blt ty 1000000=true):∃ p cap,V r=.slice p n cap/\n<=cap/\(0<n -> ∃ g,p=some ⟨g,0,none⟩):=by
 obtain⟨xs,hown,hfx⟩:Gr w (Dc cx B R M V w) 0 ty k (V r) n ds:=Gx.row (hh.row r _ hr) hty
 obtain⟨hxl,hv⟩:=hown
 rcases hv with⟨h1,rfl⟩ | ⟨g,cap,cur,h1,_,_,h2,_⟩
 ·exact⟨none,0,h1,Nat.le_refl _,fun h=>by omega⟩
 ·exact⟨_,cap,h1,h2,fun _=>⟨g,rfl⟩⟩
theorem AK{x i:Operand}{t:TypeId}{r ty k n:Nat}{ds:List Dat}{kk:IntKind}{z:Int}(ho:o.op=.indexAddr t x i)(hx:Kn T x (.own r))(hr:lk r R=some ⟨ty,k,n,ds,false⟩)(hi:Kn T i (.is (.int kk z)))(hz:0<=z/\z<(n:Int))(ht:P.underlying t=some (.slice (P.elem t)))(hs:sizeT P (P.elem t)=some k)(hty:Nat.blt ty 1000000=true:=by rfl):
  LStep P cx B R o T (.via r (AtV (z.toNat*k))):=LStep.same fun M V w a hh hk=>by
 have h1:a.eval x=V r:=hk x _ (by simp[ho,Op.operands]) hx
 have h2:=(hk i _ (by simp[ho,Op.operands]) hi).is_eq
 obtain⟨p,cap,hVr,_,hp⟩:=hh.own_slice hr hty
 obtain⟨g,rfl⟩:=hp (by omega)
 have h7:=run_indexAt_slice (P:=P) w t ⟨g,0,none⟩ n cap kk z ht
 rw[if_pos ⟨hz.1,hz.2⟩,C9 hs,Result.andThen_ok,NZ,Nat.zero_add]at h7
 exact⟨_,by simp[execOp,ho,h1,h2,hVr,h7],g,n,cap,hVr,rfl⟩
theorem BO{x:Operand}{t:TypeId}{f off r j:Nat}(ho:o.op=.fieldAddr t x f)(hx:Kn T x (.via r (AtV j)))(h:GC P t f=some off):LStep P cx B R o T (.via r (AtV (j+off))):=LStep.same fun M V w a _ hk=>by
 obtain⟨g,n,c,h1,h2⟩:AtV j (V r) (a.eval x):=hk x _ (by simp[ho,Op.operands]) hx
 exact⟨_,by simp[execOp,ho,h2,E2 h],g,n,c,h1,rfl⟩
theorem NQ{w:World}{g ty j:Nat}{cur:Array Value}(hg:w.heap[g]?=some (.cells cur ty (0,0))):w.cell? ⟨g,j,none⟩=cur.toList[j]?:=by
 have:Blk w g ty cur.toList:=by unfold Blk;rw[hg]
 exact this.cell _
theorem AT{x:Operand}{t:TypeId}{r ty k n j:Nat}{ds:List Dat}{d:Dat}(ho:o.op=.load t x)(hx:Kn T x (.via r (AtV j)))(hr:lk r R=some ⟨ty,k,n,ds,false⟩)(hj:ds[j]?=some d)(ht:oneT P t=true)(hty:Nat.blt ty 1000000=true:=by rfl):LStep P cx B R o T (.part (.one d)):=LStep.same fun M V w a hh hk=>by
 obtain⟨g,n',c,h1,h2⟩:AtV j (V r) (a.eval x):=hk x _ (by simp[ho,Op.operands]) hx
 have hjl:j<ds.length:=by
  rcases Nat.lt_or_ge j ds.length with h | h
  ·exact h
  ·rw[List.getElem?_eq_none h]at hj;cases hj
 have hn:0<n:=by
  rcases Nat.eq_zero_or_pos n with h | h
  ·obtain⟨xs,hown,hfx⟩:Gr w (Dc cx B R M V w) 0 ty k (V r) n ds:=Gx.row (hh.row r _ hr) hty
   have:=hfx.1
   have:=hown.1
   rw[h,Nat.zero_mul]at this
   omega
  ·exact h
 obtain⟨g',cap,cur,xs,e1,e2,e3,e4,e5,e6,e7,e8⟩:=hh.own_shape hr hty hn
 rw[h1]at e1
 cases e1
 have hxj:j<xs.length:=by rw[<- e8.1];exact hjl
 have hc:w.cell? ⟨g,j,none⟩=some xs[j]:=by
  rw[NQ e2,<- List.getElem?_eq_getElem hxj,<- e6,List.getElem?_take,if_pos (by omega)]
 have h5:=CL (P:=P) w ⟨g,j,none⟩ _ t hc ht
 exact⟨xs[j],by simp[execOp,ho,h2,Instr.loadAt,Instr.sureAddr,h5],e8.2 j d _ hj (List.getElem?_eq_getElem hxj)⟩
theorem HR.own_store{M:Nat->Nat}{V:Nat->Value}{w:World}{a:Act}(hrel:Rel cx T B R M V a w){r ty k n j g n' c:Nat}{ds es:List Dat}{us:List Value}(hr:lk r R=some ⟨ty,k,n,ds,false⟩)(hV:V r=.slice (some ⟨g,0,none⟩) n' c)(hjm:j+es.length<=ds.length)(he0:0<es.length)(hf:Fits w (Dc cx B R M V w) es us)(hone:∀ u∈us,u.oneCell'=true)(hty:Nat.blt ty 1000000=true):
  ∃ w',(storeCells ⟨g,j,none⟩ us 0).run P w=.ok () w'/\Rel cx T B ((r,⟨ty,k,n,ds.take j++es++ds.drop (j+es.length),false⟩)::R) M V a w':=by
 have hh:=hrel.heap
 have hn:0<n:=by
  rcases Nat.eq_zero_or_pos n with h | h
  ·obtain⟨xs,hown,hfx⟩:Gr w (Dc cx B R M V w) 0 ty k (V r) n ds:=Gx.row (hh.row r _ hr) hty
   have:=hfx.1
   have:=hown.1
   rw[h,Nat.zero_mul]at this
   omega
  ·exact h
 obtain⟨g',cap,cur,xs,e1,e2,e3,e4,e5,e6,e7,e8⟩:=hh.own_shape hr hty hn
 rw[hV]at e1
 obtain⟨rfl,rfl,rfl⟩:g=g'/\n'=n/\c=cap:=by injection e1 with a1 a2 a3;injection a1 with a1;injection a1 with a1;exact⟨a1,a2,a3⟩
 have hul:us.length=es.length:=hf.1.symm
 have hdl:=e8.1
 have hle:n'*k<=c*k:=Nat.mul_le_mul_right _ e3
 have hcl:cur.toList.length=c*k:=by simpa using e5
 have hblk:Blk w g ty cur.toList:=by unfold Blk;rw[e2]
 have hst:=run_storeCells_at (P:=P) g j ty us 0 cur.toList.toArray w hblk (by simp;omega) hone
 simp only[Nat.add_zero]at hst
 have hnew:=setRow_heap w g cur.toList.toArray (cur.toList.take j++us++cur.toList.drop (j+us.length)).toArray ty (0,0) hblk
 refine⟨_,hst,hrel.row_turn (g:=g) hr rfl (by rw[hV];rfl) rfl (BV hty) (fun q hq=>setRow_other w g q _ hq) (by simp) rfl rfl rfl fun D' hk hD=>?_⟩
 have hfx:=e8.stay hk hD
 have hfu:=hf.stay hk hD
 refine⟨xs.take j++us++xs.drop (j+us.length),.inl ⟨hty,by simp;omega,.inr ⟨g,c,_,hV,Nat.zero_le _,hnew,e3,e4,by simp;omega,?_⟩⟩,.inl ⟨BV hty,?_⟩⟩
 ·subst e6
  have hjl:j+us.length<=n'*k:=by omega
  apply List.ext_getElem?
  intro i
  simp only[List.getElem?_take,List.getElem?_append,List.getElem?_drop,List.length_take,List.length_append,hcl]
  split<;>(repeat' split)<;>first | rfl | omega | (congr 1;omega)
 ·have p1:=hfx.part 0 j
  have p2:=hfx.part (j+es.length) (ds.length-(j+es.length))
  simp only[List.drop_zero]at p1
  rw[List.take_of_length_le (l:=ds.drop (j+es.length)) (by simp),List.take_of_length_le (l:=xs.drop (j+es.length)) (by simp;omega)]at p2
  rw[show xs.drop (j+es.length)=xs.drop (j+us.length) by rw[hul]]at p2
  exact(p1.append hfu).append p2
end
end
section
section
variable{P:Program}{cx:Cx}{T:TL}{B:BL}{R:RL}{o:Oper}
def shD(R:RL):IV->Option Dat
 | .part (.one d)=>some d
 | .own r=>(lk r R).map datOf
 | _=>none
def shows(R:RL):List IV->Option (List Dat)
 | []=>some []
 | x::l=>match shD R x,shows R l with | some d,some ds=>some (d::ds) | _,_=>none
def Far(y y':IV):Prop:=∀ (w:World) (D:Nat->Prop) (M:Nat->Nat) (V:Nat->Value) (w':World) (D':Nat->Prop) (M':Nat->Nat) (V':Nat->Value) (v:Value),VR w D M V y v->VR w' D' M' V' y' v
theorem Far.is(v:Value):Far (.is v) (.is v):=fun w D M V w' D' M' V' u h=>by
 obtain rfl:=VR.is_eq h
 exact .cell _
def T1(n:Nat)(_ v:Value):Prop:=∃ p c,v=.slice p n c
theorem Far.row(r k n:Nat)(ds:List Dat):Far (.part (.one (.row k n ds))) (.via r (T1 n)):=fun w D M V w' D' M' V' u h=>by
 obtain⟨p,c,h1⟩:=FR h
 exact⟨p,c,h1⟩
variable{ops:Array Oper}{Q:Exit->Act->World->Prop}{l:List Oper}
end
end
section
section
variable{P:Program}{cx:Cx}{T:TL}{B:BL}{R:RL}{ops:Array Oper}{Q:Exit->Act->World->Prop}{deps:List (List Nat)}
def D2(ops:Array Oper):List (List Nat):=ops.toList.map fun o=>(o.after.toList.filter fun e=>Region.binds .any e).map (·.on)
def BF(L:List Bool):Nat->List (List Nat)->List Nat
 | _,[]=>[]
 | i,d::ds=>bif !(L.getD i true)&&d.all (fun j=>L.getD j false)then i::BF L (i+1) ds else BF L (i+1) ds
theorem H4{L:List Bool}:∀ {ds:List (List Nat)} {k i:Nat},i∈BF L k ds↔k<=i/\L.getD i true=false /\ ∃ d,ds[i-k]?=some d/\d.all (fun j=>L.getD j false)=true
 | [],k,i=>by simp[BF]
 | d::ds,k,i=>by
  have ih:=H4 (L:=L) (ds:=ds) (k:=k+1) (i:=i)
  have key:i∈BF L k (d::ds)↔(i=k/\L.getD k true=false/\d.all (fun j=>L.getD j false)=true)\/i∈BF L (k+1) ds:=by
   rw[show BF L k (d::ds)=bif !(L.getD k true)&&d.all (fun j=>L.getD j false)then k::BF L (k+1) ds else BF L (k+1) ds from rfl]
   cases h:(!(L.getD k true)&&d.all (fun j=>L.getD j false))with
   | true=>
    simp only[Bool.and_eq_true,Bool.not_eq_true']at h
    simp only[cond_true,List.mem_cons]
    exact⟨fun h'=>h'.imp (fun e=>⟨e,h.1,h.2⟩) id,fun h'=>h'.imp (fun e=>e.1) id⟩
   | false=>
    simp only[cond_false]
    refine⟨.inr,fun h'=>h'.resolve_left fun e=>?_⟩
    rw[e.2.1,e.2.2]at h
    cases h
  rw[key,ih]
  constructor
  ·rintro(⟨rfl,h1,h2⟩ | ⟨h1,h2,d',h3,h4⟩)
   ·exact⟨Nat.le_refl _,h1,d,by simp,h2⟩
   ·refine⟨by omega,h2,d',?_,h4⟩
    rw[show i-k=(i-(k+1))+1 by omega,List.getElem?_cons_succ]
    exact h3
  ·rintro⟨h1,h2,d',h3,h4⟩
   by_cases e:i=k
   ·subst e
    rw[Nat.sub_self,List.getElem?_cons_zero]at h3
    obtain rfl:=Option.some.inj h3
    exact .inl ⟨rfl,h2,h4⟩
   ·rw[show i-k=(i-(k+1))+1 by omega,List.getElem?_cons_succ]at h3
    exact .inr ⟨by omega,h2,d',h3,h4⟩
theorem DF{L:List Bool}(hd:D2 ops=deps){i:Nat}:i∈Region.ready .any ops L.toArray↔i∈BF L 0 deps:=by
 have hg:∀ (j:Nat) (b:Bool),L.toArray.getD j b=L.getD j b:=fun j b=>by simp[List.getD_eq_getElem?_getD]
 rw[mem_ready,H4,<- hd]
 simp only[hg,Nat.zero_le,true_and,Nat.sub_zero,D2,List.getElem?_map,Array.getElem?_toList]
 constructor
 ·rintro⟨h1,o,ho,h2⟩
  refine⟨h1,_,by rw[ho];rfl,?_⟩
  rw[List.all_eq_true]
  intro j hj
  obtain⟨e,he,rfl⟩:=List.mem_map.1 hj
  obtain⟨he1,he2⟩:=List.mem_filter.1 he
  exact h2 e (Array.mem_toList_iff.1 he1) he2
 ·rintro⟨h1,d,h2,h3⟩
  cases ho:ops[i]? with
  | none=>rw[ho]at h2;cases h2
  | some o=>
   rw[ho]at h2
   obtain rfl:=Option.some.inj h2
   refine⟨h1,o,rfl,fun e he hb=>?_⟩
   exact List.all_eq_true.1 h3 _ (List.mem_map.2 ⟨e,List.mem_filter.2 ⟨Array.mem_toList_iff.2 he,hb⟩,rfl⟩)
theorem H6{id:Nat}{l:List Oper}(n:Nat)(L:List Bool)(deps:List (List Nat))(hd:D2 l.toArray=deps)(hn:l.toArray.size=n)(hm:P.follows .mixedOrders=true)(hL:List.replicate n false=L)(h:D2 l.toArray=deps->E cx T B R (wpAny P .any l.toArray Q n L.toArray)):E cx T B R ((Code.region id l.toArray true).wp P Q):=fun M V a w hr=>by
 have hr1:Rel cx T B R M V a w.drew:=⟨hr.size,hr.defers,hr.heap.step (Below.refl _ _).drew,fun t x hx=>(hr.tmp t x hx).stay (hr.heap.keeps (Below.refl _ _).drew) fun _ hg=>hg.mono (Nat.le_refl _)⟩
 refine wp_region_any hm ?_
 rw[hn,<- List.toArray_replicate,hL]
 exact h hd M V a w.drew hr1
def AnyE(P:Program)(cx:Cx)(T:TL)(B:BL)(R:RL)(ops:Array Oper)(Q:Exit->Act->World->Prop)(fuel:Nat)(L:List Bool):List Nat->Prop
 | []=>True
 | i::is=>E cx T B R (wpOp P ops Q i (wpAny P .any ops Q fuel (L.set i true).toArray))/\AnyE P cx T B R ops Q fuel L is
theorem AnyE.get{fuel:Nat}{L:List Bool}:∀ {is:List Nat} (_:AnyE P cx T B R ops Q fuel L is) {i:Nat},i∈is->E cx T B R (wpOp P ops Q i (wpAny P .any ops Q fuel (L.set i true).toArray))
 | j::is,h,i,hi=>by
  rcases List.mem_cons.1 hi with rfl | hi
  ·exact h.1
  ·exact AnyE.get h.2 hi
 | [],_,_,hi=>by cases hi
theorem QR{fuel:Nat}{L:List Bool}(hd:D2 ops=deps)(hne:(BF L 0 deps).isEmpty=false)(h:AnyE P cx T B R ops Q fuel L (BF L 0 deps)):E cx T B R (wpAny P .any ops Q (fuel+1) L.toArray):=fun M V a w hrel=>by
 refine⟨fun e=>?_,fun i hi=>?_⟩
 ·cases hl:BF L 0 deps with
  | nil=>rw[hl]at hne;cases hne
  | cons i is=>
   have:i∈Region.ready .any ops L.toArray:=(DF hd).2 (by rw[hl];exact List.mem_cons_self)
   rw[e]at this
   cases this
 ·have:=AnyE.get h ((DF hd).1 hi)
  rw[List.setIfInBounds_toArray]
  exact this M V a w hrel
theorem OT{L:List Bool}(hd:D2 ops=deps)(hr:(BF L 0 deps).isEmpty=true)(h:E cx T B R (Q .normal)):E cx T B R (wpAny P .any ops Q 0 L.toArray):=fun M V a w hrel=>by
 refine⟨?_,h M V a w hrel⟩
 cases hl:Region.ready .any ops L.toArray with
 | nil=>rfl
 | cons i is=>
  have:i∈BF L 0 deps:=(DF hd).1 (by rw[hl];exact List.mem_cons_self)
  cases hl2:BF L 0 deps with
  | nil=>rw[hl2]at this;cases this
  | cons j js=>rw[hl2]at hr;cases hr
theorem B3{i:Nat}{o:Oper}{K:Act->World->Prop}(ho:ops[i]?=some o)(hl:LetsOut (Exit.then K Q)->LetsOut Q)(h:E cx T B R (wpList P ops (Exit.then K Q) [o])):E cx T B R (wpOp P ops Q i K):=fun M V a w hrel=>KG ho hl (h M V a w hrel)
end
end
section
def IF(L:List Bool):List (Nat×Nat×IV)->TL
 | []=>[]
 | (i,s,y)::es=>bif L.getD i false then(s,y)::IF L es else IF L es
def NN(L:List Bool):List Nat->List (Nat×Nat×Bx)->BL
 | _,[]=>[]
 | sn,(i,s,y)::es=>bif L.getD i false && !(sn.any fun c=>Nat.beq c s)then(s,y)::NN L (s::sn) es else NN L sn es
def LN(L:List Bool)(es:List (Nat×Nat×Bx)):BL:=NN L [] es
def JY(deps:List (List Nat))(L0 full:List Bool)(reach:List (List Bool))(steps:List (List Bool×Nat)):Bool:=
 reach.contains L0&&reach.all fun L=>bif L==full then(BF L 0 deps).isEmpty&&(L.count false==0)else
  !(BF L 0 deps).isEmpty&&(BF L 0 deps).all fun i=>steps.contains (L,i)&&reach.contains (L.set i true)&&((L.set i true).count false+1==L.count false)
section
variable{P:Program}{cx:Cx}{T0:TL}{B0:BL}{R:RL}{ops:Array Oper}{Q:Exit->Act->World->Prop}{deps:List (List Nat)}{es:List (Nat×Nat×IV)}{bs:List (Nat×Nat×Bx)}
def AllSteps(P:Program)(cx:Cx)(T0:TL)(B0:BL)(R:RL)(ops:Array Oper)(Q:Exit->Act->World->Prop)(es:List (Nat×Nat×IV))(bs:List (Nat×Nat×Bx)):List (List Bool×Nat)->Prop
 | []=>True
 | (L,i)::r=>(∀ K,E cx (T0++IF (L.set i true) es) (LN (L.set i true) bs++B0) R K->E cx (T0++IF L es) (LN L bs++B0) R (wpOp P ops Q i K))/\AllSteps P cx T0 B0 R ops Q es bs r
theorem AllSteps.get:∀ {st:List (List Bool×Nat)} (_:AllSteps P cx T0 B0 R ops Q es bs st) {L:List Bool} {i:Nat},(L,i)∈st -> ∀ K,E cx (T0++IF (L.set i true) es) (LN (L.set i true) bs++B0) R K->E cx (T0++IF L es) (LN L bs++B0) R (wpOp P ops Q i K)
 | (L',j)::r,h,L,i,hm=>by
  rcases List.mem_cons.1 hm with e | hm
  ·injection e with e1 e2
   subst e1 e2
   exact h.1
  ·exact AllSteps.get h.2 hm
 | [],_,_,_,hm=>by cases hm
theorem AnyE.of{T:TL}{B:BL}{fuel:Nat}{L:List Bool}:∀ {is:List Nat},(∀ i∈is,E cx T B R (wpOp P ops Q i (wpAny P .any ops Q fuel (L.set i true).toArray)))->AnyE P cx T B R ops Q fuel L is
 | [],_=>trivial
 | i::is,h=>⟨h i List.mem_cons_self,AnyE.of fun j hj=>h j (List.mem_cons_of_mem _ hj)⟩
end
end
end Go.Proofs.Ytmhhdoaiccahaaa
