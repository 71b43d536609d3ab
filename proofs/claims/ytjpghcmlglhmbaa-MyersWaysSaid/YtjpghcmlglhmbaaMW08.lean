/- Part 8. Conditions: as each theorem says. -/
import Derived.Test.YtjpghcmlglhmbaaMW07
import Derived.Laws.Slices
import Derived.ChangeMaps5
import Derived.Carry
import Derived.Laws.StructEq
import Derived.Laws.IdiomStrings
import Derived.Laws.Entries
import Derived.Laws.MakeOwn
set_option maxRecDepth 100000
namespace Go.Proofs.Ytjpghcmlglhmbaa
open Go.RowKit
section
theorem G9{α:Type}{f:α->List Dat}{k:Nat}(hk:∀ a,(f a).length=k):∀ (qs:List α) (i:Nat),(qs.flatMap f).drop (i*k)=(qs.drop i).flatMap f
 | [],i=>by simp
 | q::qs,0=>by simp
 | q::qs,i+1=>by
  rw[List.flatMap_cons,List.drop_succ_cons,<- G9 hk qs i,List.drop_append,List.drop_eq_nil_of_le (by rw[hk,Nat.succ_mul];omega),List.nil_append,hk,Nat.succ_mul,Nat.add_sub_cancel]
theorem GB{α:Type}{f:α->List Dat}{k:Nat}(hk:∀ a,(f a).length=k):∀ (qs:List α) (i:Nat),(qs.flatMap f).take (i*k)=(qs.take i).flatMap f
 | [],i=>by simp
 | q::qs,0=>by simp
 | q::qs,i+1=>by
  rw[List.flatMap_cons,List.take_succ_cons,List.flatMap_cons,<- GB hk qs i,List.take_append,List.take_of_length_le (by rw[hk,Nat.succ_mul];omega),hk,Nat.succ_mul,Nat.add_sub_cancel]
theorem G2{w:World}{D:Nat->Prop}{k:Nat}{α:Type}{f:α->List Dat}(hk:∀ a,(f a).length=k){qs:List α}{p:Option Addr}{c lo hi:Nat}(h:Lies w D (.row k qs.length (qs.flatMap f)) (.slice p qs.length c))(hlh:lo<=hi)(hh:hi<=qs.length)(hc:qs.length<=c):
  Lies w D (.row k ((qs.take hi).drop lo).length (((qs.take hi).drop lo).flatMap f)) (.slice (if c=lo then p else p.map (·.add (lo*k))) (hi-lo) (c-lo)):=by
 have hl:((qs.take hi).drop lo).length=hi-lo:=by rw[List.length_drop,List.length_take];omega
 rcases Nat.eq_zero_or_pos (hi-lo)with h0 | h0
 ·rw[hl,h0,List.eq_nil_of_length_eq_zero (hl.trans h0)]
  exact .none _ _ _
 ·have hne:¬ c=lo:=by omega
  rw[if_neg hne,hl]
  have hd:((qs.take hi).drop lo).flatMap f=((qs.flatMap f).drop (lo*k)).take ((hi-lo)*k):=by
   rw[G9 hk,GB hk,List.drop_take]
  rw[hd]
  have hp:∃ b o,p=some ⟨b,o,none⟩:=by
   generalize hn:qs.length=n at h
   generalize qs.flatMap f=ds at h
   cases h with
   | none=>omega
   | row k n b o c ds X=>exact⟨b,o,rfl⟩
  obtain⟨b,o,rfl⟩:=hp
  have hadd:(⟨b,o,none⟩:Addr).add (lo*k)=⟨b,o+lo*k,none⟩:=by unfold Addr.add;split<;>simp_all
  rw[Option.map_some,hadd]
  exact L8 h hlh hh _ (by omega)
theorem IK{w:World}{D:Nat->Prop}{k n:Nat}{ds:List Dat}{v:Value}(h:Lies w D (.row k n ds) v):∃ p c,v=.slice p n c/\n<=c:=by
 cases h with
 | none k p c=>exact⟨p,c,rfl,Nat.zero_le _⟩
 | row k n b o c ds X h1 h2=>exact⟨_,c,rfl,h2⟩
section
variable{P:Program}{cx:Cx}{T:TL}{B:BL}{R:RL}{o:Oper}
theorem EU{x hi:Operand}{t:TypeId}{k:Nat}{α:Type}{f:α->List Dat}{qs:List α}{kk:IntKind}{z:Int}(ho:o.op=.slice t x none (some hi) none)(hx:Kn T x (.part (.one (.row k qs.length (qs.flatMap f)))))(hh:Kn T hi (.is (.int kk z)))(hz:0<=z/\z<=(qs.length:Int))(hk:∀ a,(f a).length=k)(ht:P.underlying t=some (.slice (P.elem t)))(hs:sizeT P (P.elem t)=some k):
  LStep P cx B R o T (.part (.one (.row k (qs.take z.toNat).length ((qs.take z.toNat).flatMap f)))):=LStep.same fun M V w a _ hkk=>by
 have h1:=(hkk hi _ (by simp[ho,Op.operands]) hh).is_eq
 have hv:=hkk x _ (by simp[ho,Op.operands]) hx
 obtain⟨p,c,h2,h3⟩:=IK hv
 rw[h2]at hv
 have h4:=G2 hk hv (Nat.zero_le z.toNat) (by omega) h3
 have h5:=run_slice_h (P:=P) (w:=w) t p qs.length c ht kk z hz.1 (by omega)
 rw[BQ hs,Result.andThen_ok,<- run_sliceAt_slice _ _ _ _ _ _ ht]at h5
 rw[List.drop_zero]at h4
 exact⟨sliced _ _ _ _ _,by simp[execOp,ho,h1,h2,h5],h4⟩
theorem B5{x lo:Operand}{t:TypeId}{k:Nat}{α:Type}{f:α->List Dat}{qs:List α}{kk:IntKind}{z:Int}(ho:o.op=.slice t x (some lo) none none)(hx:Kn T x (.part (.one (.row k qs.length (qs.flatMap f)))))(hl:Kn T lo (.is (.int kk z)))(hz:0<=z/\z<=(qs.length:Int))(hk:∀ a,(f a).length=k)(ht:P.underlying t=some (.slice (P.elem t)))(hs:sizeT P (P.elem t)=some k):
  LStep P cx B R o T (.part (.one (.row k (qs.drop z.toNat).length ((qs.drop z.toNat).flatMap f)))):=LStep.same fun M V w a _ hkk=>by
 have h1:=(hkk lo _ (by simp[ho,Op.operands]) hl).is_eq
 have hv:=hkk x _ (by simp[ho,Op.operands]) hx
 obtain⟨p,c,h2,h3⟩:=IK hv
 rw[h2]at hv
 have h4:=G2 hk hv (lo:=z.toNat) (hi:=qs.length) (by omega) (Nat.le_refl _) h3
 have h5:=run_slice_l (P:=P) (w:=w) t p qs.length c ht kk z hz.1 hz.2
 rw[BQ hs,Result.andThen_ok,<- run_sliceAt_slice _ _ _ _ _ _ ht]at h5
 rw[List.take_length]at h4
 exact⟨sliced _ _ _ _ _,by simp[execOp,ho,h1,h2,h5],h4⟩
end
end
section
section
variable{P:Program}{cx:Cx}{T:TL}{B:BL}{R:RL}{o:Oper}
theorem Rel.row_turn{M:Nat->Nat}{V:Nat->Value}{a:Act}{w w':World}(hr:Rel cx T B R M V a w){r g:Nat}{z z':Rw}(hr0:lk r R=some z)(hf0:z.fz=false)(hob:obk (V r)=some g)(hz':z'.fz=false)(hty':Nat.blt z'.ty 2000000=true)(hoth:∀ q,q≠g->w'.heap[q]?=w.heap[q]?)(hsz:w'.heap.size=w.heap.size)(hos:w'.os=w.os)(htp:w'.tape=w.tape)(hou:w'.output=w.output)
  (hnew:∀ D',Keeps (Dc cx B R M V w) w w'->(∀ q,Dc cx B R M V w q->D' q)->Gx w' D' 0 z'.ty z'.k (V r) z'.n z'.ds):Rel cx T B ((r,z')::R) M V a w':=by
 exact hr.turned hr0 hf0 hz' (fun q hq=>hoth q fun e=>hq (.inl (by rw[e];exact hob))) hsz hos htp hou (fun p hp=>.inl (F2 hp hty')) hnew
variable{α:Type}
def MEs(w:World)(D:Nat->Prop)(kf:α->Value):List (α×Dat)->List MapEntry->Prop
 | [],[]=>True
 | p::ps,e::es=>e.key=kf p.1/\Lies w D p.2 e.val/\MEs w D kf ps es
 | _,_=>False
variable{w w':World}{D D':Nat->Prop}{kf:α->Value}
theorem MEs.length:∀ {ps:List (α×Dat)} {es:List MapEntry},MEs w D kf ps es->es.length=ps.length
 | [],[],_=>rfl
 | _::_,_::_,h=>by simp[MEs.length h.2.2]
 | [],_::_,h=>h.elim
 | _::_,[],h=>h.elim
theorem MEs.stay(hk:Keeps D w w')(hD:∀ g,D g->D' g):∀ {ps:List (α×Dat)} {es:List MapEntry},MEs w D kf ps es->MEs w' D' kf ps es
 | [],[],_=>trivial
 | _::_,_::_,h=>⟨h.1,h.2.1.stay hk hD,MEs.stay hk hD h.2.2⟩
 | [],_::_,h=>h.elim
 | _::_,[],h=>h.elim
variable[DecidableEq α]
end
end
section
section
variable{P:Program}{cx:Cx}{T:TL}{B:BL}{R:RL}{o:Oper}
def AtV(o:Nat)(u v:Value):Prop:=∃ g n c,u=.slice (some ⟨g,0,none⟩) n c/\v=.pointer (some ⟨g,o,none⟩)
theorem K6(b o k:Nat):(⟨b,o,none⟩:Addr).add k=⟨b,o+k,none⟩:=by unfold Addr.add;split<;>simp_all
theorem HR.own_shape{M:Nat->Nat}{V:Nat->Value}{w:World}(hh:HR cx B R M V w){r ty k n:Nat}{ds:List Dat}(hr:lk r R=some ⟨ty,k,n,ds,false⟩)(hty:Nat.blt ty 1000000=true)(hn:0<n):
  ∃ g cap cur xs,V r=.slice (some ⟨g,0,none⟩) n cap/\w.heap[g]?=some (.cells cur ty (0,0))/\n<=cap/\cap<=maxLen/\cur.size=cap*k/\cur.toList.take (n*k)=xs/\xs.length=n*k/\Fits w (Dc cx B R M V w) ds xs:=by
 obtain⟨xs,hown,hfx⟩:Gr w (Dc cx B R M V w) 0 ty k (V r) n ds:=Gx.row (hh.row r _ hr) hty
 obtain⟨hxl,hv⟩:=hown
 obtain⟨g,cap,cur,hVr,_,hg,hcap,hmax,hcs,hcx⟩:=hv.resolve_left fun h=>by omega
 exact⟨g,cap,cur,xs,hVr,hg,hcap,hmax,hcs,hcx,hxl,hfx⟩
theorem HR.own_slice{M:Nat->Nat}{V:Nat->Value}{w:World}(hh:HR cx B R M V w){r ty k n:Nat}{ds:List Dat}(hr:lk r R=some ⟨ty,k,n,ds,false⟩)(hty:Nat.blt ty 1000000=true):∃ p cap,V r=.slice p n cap/\n<=cap/\(0<n -> ∃ g,p=some ⟨g,0,none⟩):=by
 obtain⟨xs,hown,hfx⟩:Gr w (Dc cx B R M V w) 0 ty k (V r) n ds:=Gx.row (hh.row r _ hr) hty
 obtain⟨hxl,hv⟩:=hown
 rcases hv with⟨h1,rfl⟩ | ⟨g,cap,cur,h1,_,_,h2,_⟩
 ·exact⟨none,0,h1,Nat.le_refl _,fun h=>by omega⟩
 ·exact⟨_,cap,h1,h2,fun _=>⟨g,rfl⟩⟩
theorem BK{x i:Operand}{t:TypeId}{r ty k n:Nat}{ds:List Dat}{kk:IntKind}{z:Int}(ho:o.op=.indexAddr t x i)(hx:Kn T x (.own r))(hr:lk r R=some ⟨ty,k,n,ds,false⟩)(hi:Kn T i (.is (.int kk z)))(hz:0<=z/\z<(n:Int))(ht:P.underlying t=some (.slice (P.elem t)))(hs:sizeT P (P.elem t)=some k)(hty:Nat.blt ty 1000000=true:=by rfl):
  LStep P cx B R o T (.via r (AtV (z.toNat*k))):=LStep.same fun M V w a hh hk=>by
 have h1:a.eval x=V r:=hk x _ (by simp[ho,Op.operands]) hx
 have h2:=(hk i _ (by simp[ho,Op.operands]) hi).is_eq
 obtain⟨p,cap,hVr,_,hp⟩:=hh.own_slice hr hty
 obtain⟨g,rfl⟩:=hp (by omega)
 have h7:=run_indexAt_slice (P:=P) w t ⟨g,0,none⟩ n cap kk z ht
 rw[if_pos ⟨hz.1,hz.2⟩,BQ hs,Result.andThen_ok,K6,Nat.zero_add]at h7
 exact⟨_,by simp[execOp,ho,h1,h2,hVr,h7],g,n,cap,hVr,rfl⟩
theorem BJ{x:Operand}{t:TypeId}{f off r j:Nat}(ho:o.op=.fieldAddr t x f)(hx:Kn T x (.via r (AtV j)))(h:HG P t f=some off):LStep P cx B R o T (.via r (AtV (j+off))):=LStep.same fun M V w a _ hk=>by
 obtain⟨g,n,c,h1,h2⟩:AtV j (V r) (a.eval x):=hk x _ (by simp[ho,Op.operands]) hx
 exact⟨_,by simp[execOp,ho,h2,EP h],g,n,c,h1,rfl⟩
theorem KR{w:World}{g ty j:Nat}{cur:Array Value}(hg:w.heap[g]?=some (.cells cur ty (0,0))):w.cell? ⟨g,j,none⟩=cur.toList[j]?:=by
 have:Blk w g ty cur.toList:=by unfold Blk;rw[hg]
 exact this.cell _
theorem C5{x:Operand}{t:TypeId}{r ty k n j:Nat}{ds:List Dat}{d:Dat}(ho:o.op=.load t x)(hx:Kn T x (.via r (AtV j)))(hr:lk r R=some ⟨ty,k,n,ds,false⟩)(hj:ds[j]?=some d)(ht:oneT P t=true)(hty:Nat.blt ty 1000000=true:=by rfl):LStep P cx B R o T (.part (.one d)):=LStep.same fun M V w a hh hk=>by
 obtain⟨g,n',c,h1,h2⟩:AtV j (V r) (a.eval x):=hk x _ (by simp[ho,Op.operands]) hx
 have hjl:j<ds.length:=by
  rcases Nat.lt_or_ge j ds.length with h | h
  ·exact h
  ·rw[List.getElem?_eq_none h]at hj;cases hj
 have hn:0<n:=by
  rcases Nat.eq_zero_or_pos n with h | h
  ·obtain⟨xs,hown,hfx⟩:Gr w (Dc cx B R M V w) 0 ty k (V r) n ds:=Gx.row (hh.row r _ hr) hty
   have:=hfx.1
   have:=hown.1
   rw[h,Nat.zero_mul]at this
   omega
  ·exact h
 obtain⟨g',cap,cur,xs,e1,e2,e3,e4,e5,e6,e7,e8⟩:=hh.own_shape hr hty hn
 rw[h1]at e1
 cases e1
 have hxj:j<xs.length:=by rw[<- e8.1];exact hjl
 have hc:w.cell? ⟨g,j,none⟩=some xs[j]:=by
  rw[KR e2,<- List.getElem?_eq_getElem hxj,<- e6,List.getElem?_take,if_pos (by omega)]
 have h5:=CG (P:=P) w ⟨g,j,none⟩ _ t hc ht
 exact⟨xs[j],by simp[execOp,ho,h2,Instr.loadAt,Instr.sureAddr,h5],e8.2 j d _ hj (List.getElem?_eq_getElem hxj)⟩
theorem HR.own_store{M:Nat->Nat}{V:Nat->Value}{w:World}{a:Act}(hrel:Rel cx T B R M V a w){r ty k n j g n' c:Nat}{ds es:List Dat}{us:List Value}(hr:lk r R=some ⟨ty,k,n,ds,false⟩)(hV:V r=.slice (some ⟨g,0,none⟩) n' c)(hjm:j+es.length<=ds.length)(he0:0<es.length)(hf:Fits w (Dc cx B R M V w) es us)(hone:∀ u∈us,u.oneCell'=true)(hty:Nat.blt ty 1000000=true):
  ∃ w',(storeCells ⟨g,j,none⟩ us 0).run P w=.ok () w'/\Rel cx T B ((r,⟨ty,k,n,ds.take j++es++ds.drop (j+es.length),false⟩)::R) M V a w':=by
 have hh:=hrel.heap
 have hn:0<n:=by
  rcases Nat.eq_zero_or_pos n with h | h
  ·obtain⟨xs,hown,hfx⟩:Gr w (Dc cx B R M V w) 0 ty k (V r) n ds:=Gx.row (hh.row r _ hr) hty
   have:=hfx.1
   have:=hown.1
   rw[h,Nat.zero_mul]at this
   omega
  ·exact h
 obtain⟨g',cap,cur,xs,e1,e2,e3,e4,e5,e6,e7,e8⟩:=hh.own_shape hr hty hn
 rw[hV]at e1
 obtain⟨rfl,rfl,rfl⟩:g=g'/\n'=n/\c=cap:=by injection e1 with a1 a2 a3;injection a1 with a1;injection a1 with a1;exact⟨a1,a2,a3⟩
 have hul:us.length=es.length:=hf.1.symm
 have hdl:=e8.1
 have hle:n'*k<=c*k:=Nat.mul_le_mul_right _ e3
 have hcl:cur.toList.length=c*k:=by simpa using e5
 have hblk:Blk w g ty cur.toList:=by unfold Blk;rw[e2]
 have hst:=run_storeCells_at (P:=P) g j ty us 0 cur.toList.toArray w hblk (by simp;omega) hone
 simp only[Nat.add_zero]at hst
 have hnew:=setRow_heap w g cur.toList.toArray (cur.toList.take j++us++cur.toList.drop (j+us.length)).toArray ty (0,0) hblk
 refine⟨_,hst,hrel.row_turn (g:=g) hr rfl (by rw[hV];rfl) rfl (BM hty) (fun q hq=>setRow_other w g q _ hq) (by simp) rfl rfl rfl fun D' hk hD=>?_⟩
 have hfx:=e8.stay hk hD
 have hfu:=hf.stay hk hD
 refine⟨xs.take j++us++xs.drop (j+us.length),.inl ⟨hty,by simp;omega,.inr ⟨g,c,_,hV,Nat.zero_le _,hnew,e3,e4,by simp;omega,?_⟩⟩,.inl ⟨BM hty,?_⟩⟩
 ·subst e6
  have hjl:j+us.length<=n'*k:=by omega
  apply List.ext_getElem?
  intro i
  simp only[List.getElem?_take,List.getElem?_append,List.getElem?_drop,List.length_take,List.length_append,hcl]
  split<;>(repeat' split)<;>first | rfl | omega | (congr 1;omega)
 ·have p1:=hfx.part 0 j
  have p2:=hfx.part (j+es.length) (ds.length-(j+es.length))
  simp only[List.drop_zero]at p1
  rw[List.take_of_length_le (l:=ds.drop (j+es.length)) (by simp),List.take_of_length_le (l:=xs.drop (j+es.length)) (by simp;omega)]at p2
  rw[show xs.drop (j+es.length)=xs.drop (j+us.length) by rw[hul]]at p2
  exact(p1.append hfu).append p2
end
end
section
section
variable{P:Program}{cx:Cx}{T:TL}{B:BL}{R:RL}{o:Oper}
def shD(R:RL):IV->Option Dat
 | .part (.one d)=>some d
 | .own r=>(lk r R).map datOf
 | _=>none
def shows(R:RL):List IV->Option (List Dat)
 | []=>some []
 | x::l=>match shD R x,shows R l with | some d,some ds=>some (d::ds) | _,_=>none
def Far(y y':IV):Prop:=∀ (w:World) (D:Nat->Prop) (M:Nat->Nat) (V:Nat->Value) (w':World) (D':Nat->Prop) (M':Nat->Nat) (V':Nat->Value) (v:Value),VR w D M V y v->VR w' D' M' V' y' v
theorem Far.is(v:Value):Far (.is v) (.is v):=fun w D M V w' D' M' V' u h=>by
 obtain rfl:=VR.is_eq h
 exact .cell _
def OM(n:Nat)(_ v:Value):Prop:=∃ p c,v=.slice p n c
theorem Far.row(r k n:Nat)(ds:List Dat):Far (.part (.one (.row k n ds))) (.via r (OM n)):=fun w D M V w' D' M' V' u h=>by
 obtain⟨p,c,h1⟩:=EK h
 exact⟨p,c,h1⟩
variable{ops:Array Oper}{Q:Exit->Act->World->Prop}{l:List Oper}
end
end
section
section
variable{P:Program}{cx:Cx}{T:TL}{B:BL}{R:RL}{ops:Array Oper}{Q:Exit->Act->World->Prop}{deps:List (List Nat)}
def DK(ops:Array Oper):List (List Nat):=ops.toList.map fun o=>(o.after.toList.filter fun e=>Region.binds .any e).map (·.on)
def BA(L:List Bool):Nat->List (List Nat)->List Nat
 | _,[]=>[]
 | i,d::ds=>bif !(L.getD i true)&&d.all (fun j=>L.getD j false)then i::BA L (i+1) ds else BA L (i+1) ds
theorem FV{L:List Bool}:∀ {ds:List (List Nat)} {k i:Nat},i∈BA L k ds↔k<=i/\L.getD i true=false /\ ∃ d,ds[i-k]?=some d/\d.all (fun j=>L.getD j false)=true
 | [],k,i=>by simp[BA]
 | d::ds,k,i=>by
  have ih:=FV (L:=L) (ds:=ds) (k:=k+1) (i:=i)
  have key:i∈BA L k (d::ds)↔(i=k/\L.getD k true=false/\d.all (fun j=>L.getD j false)=true)\/i∈BA L (k+1) ds:=by
   rw[show BA L k (d::ds)=bif !(L.getD k true)&&d.all (fun j=>L.getD j false)then k::BA L (k+1) ds else BA L (k+1) ds from rfl]
   cases h:(!(L.getD k true)&&d.all (fun j=>L.getD j false))with
   | true=>
    simp only[Bool.and_eq_true,Bool.not_eq_true']at h
    simp only[cond_true,List.mem_cons]
    exact⟨fun h'=>h'.imp (fun e=>⟨e,h.1,h.2⟩) id,fun h'=>h'.imp (fun e=>e.1) id⟩
   | false=>
    simp only[cond_false]
    refine⟨.inr,fun h'=>h'.resolve_left fun e=>?_⟩
    rw[e.2.1,e.2.2]at h
    cases h
  rw[key,ih]
  constructor
  ·rintro(⟨rfl,h1,h2⟩ | ⟨h1,h2,d',h3,h4⟩)
   ·exact⟨Nat.le_refl _,h1,d,by simp,h2⟩
   ·refine⟨by omega,h2,d',?_,h4⟩
    rw[show i-k=(i-(k+1))+1 by omega,List.getElem?_cons_succ]
    exact h3
  ·rintro⟨h1,h2,d',h3,h4⟩
   by_cases e:i=k
   ·subst e
    rw[Nat.sub_self,List.getElem?_cons_zero]at h3
    obtain rfl:=Option.some.inj h3
    exact .inl ⟨rfl,h2,h4⟩
   ·rw[show i-k=(i-(k+1))+1 by omega,List.getElem?_cons_succ]at h3
    exact .inr ⟨by omega,h2,d',h3,h4⟩
theorem D6{L:List Bool}(hd:DK ops=deps){i:Nat}:i∈Region.ready .any ops L.toArray↔i∈BA L 0 deps:=by
 have hg:∀ (j:Nat) (b:Bool),L.toArray.getD j b=L.getD j b:=fun j b=>by simp[List.getD_eq_getElem?_getD]
 rw[mem_ready,FV,<- hd]
 simp only[hg,Nat.zero_le,true_and,Nat.sub_zero,DK,List.getElem?_map,Array.getElem?_toList]
 constructor
 ·rintro⟨h1,o,ho,h2⟩
  refine⟨h1,_,by rw[ho];rfl,?_⟩
  rw[List.all_eq_true]
  intro j hj
  obtain⟨e,he,rfl⟩:=List.mem_map.1 hj
  obtain⟨he1,he2⟩:=List.mem_filter.1 he
  exact h2 e (Array.mem_toList_iff.1 he1) he2
 ·rintro⟨h1,d,h2,h3⟩
  cases ho:ops[i]? with
  | none=>rw[ho]at h2;cases h2
  | some o=>
   rw[ho]at h2
   obtain rfl:=Option.some.inj h2
   refine⟨h1,o,rfl,fun e he hb=>?_⟩
   exact List.all_eq_true.1 h3 _ (List.mem_map.2 ⟨e,List.mem_filter.2 ⟨Array.mem_toList_iff.2 he,hb⟩,rfl⟩)
theorem I1{id:Nat}{l:List Oper}(n:Nat)(L:List Bool)(deps:List (List Nat))(hd:DK l.toArray=deps)(hn:l.toArray.size=n)(hm:P.follows .mixedOrders=true)(hL:List.replicate n false=L)(h:DK l.toArray=deps->E cx T B R (wpAny P .any l.toArray Q n L.toArray)):E cx T B R ((Code.region id l.toArray true).wp P Q):=fun M V a w hr=>by
 have hr1:Rel cx T B R M V a w.drew:=⟨hr.size,hr.defers,hr.heap.step (Below.refl _ _).drew,fun t x hx=>(hr.tmp t x hx).stay (hr.heap.keeps (Below.refl _ _).drew) fun _ hg=>hg.mono (Nat.le_refl _)⟩
 refine wp_region_any hm ?_
 rw[hn,<- List.toArray_replicate,hL]
 exact h hd M V a w.drew hr1
def AnyE(P:Program)(cx:Cx)(T:TL)(B:BL)(R:RL)(ops:Array Oper)(Q:Exit->Act->World->Prop)(fuel:Nat)(L:List Bool):List Nat->Prop
 | []=>True
 | i::is=>E cx T B R (wpOp P ops Q i (wpAny P .any ops Q fuel (L.set i true).toArray))/\AnyE P cx T B R ops Q fuel L is
theorem AnyE.get{fuel:Nat}{L:List Bool}:∀ {is:List Nat} (_:AnyE P cx T B R ops Q fuel L is) {i:Nat},i∈is->E cx T B R (wpOp P ops Q i (wpAny P .any ops Q fuel (L.set i true).toArray))
 | j::is,h,i,hi=>by
  rcases List.mem_cons.1 hi with rfl | hi
  ·exact h.1
  ·exact AnyE.get h.2 hi
 | [],_,_,hi=>by cases hi
theorem NW{fuel:Nat}{L:List Bool}(hd:DK ops=deps)(hne:(BA L 0 deps).isEmpty=false)(h:AnyE P cx T B R ops Q fuel L (BA L 0 deps)):E cx T B R (wpAny P .any ops Q (fuel+1) L.toArray):=fun M V a w hrel=>by
 refine⟨fun e=>?_,fun i hi=>?_⟩
 ·cases hl:BA L 0 deps with
  | nil=>rw[hl]at hne;cases hne
  | cons i is=>
   have:i∈Region.ready .any ops L.toArray:=(D6 hd).2 (by rw[hl];exact List.mem_cons_self)
   rw[e]at this
   cases this
 ·have:=AnyE.get h ((D6 hd).1 hi)
  rw[List.setIfInBounds_toArray]
  exact this M V a w hrel
theorem NP{L:List Bool}(hd:DK ops=deps)(hr:(BA L 0 deps).isEmpty=true)(h:E cx T B R (Q .normal)):E cx T B R (wpAny P .any ops Q 0 L.toArray):=fun M V a w hrel=>by
 refine⟨?_,h M V a w hrel⟩
 cases hl:Region.ready .any ops L.toArray with
 | nil=>rfl
 | cons i is=>
  have:i∈BA L 0 deps:=(D6 hd).1 (by rw[hl];exact List.mem_cons_self)
  cases hl2:BA L 0 deps with
  | nil=>rw[hl2]at this;cases this
  | cons j js=>rw[hl2]at hr;cases hr
theorem AY{i:Nat}{o:Oper}{K:Act->World->Prop}(ho:ops[i]?=some o)(hl:LetsOut (Exit.then K Q)->LetsOut Q)(h:E cx T B R (wpList P ops (Exit.then K Q) [o])):E cx T B R (wpOp P ops Q i K):=fun M V a w hrel=>I6 ho hl (h M V a w hrel)
end
end
section
def G1(L:List Bool):List (Nat×Nat×IV)->TL
 | []=>[]
 | (i,s,y)::es=>bif L.getD i false then(s,y)::G1 L es else G1 L es
def KV(L:List Bool):List Nat->List (Nat×Nat×Bx)->BL
 | _,[]=>[]
 | sn,(i,s,y)::es=>bif L.getD i false && !(sn.any fun c=>Nat.beq c s)then(s,y)::KV L (s::sn) es else KV L sn es
def IR(L:List Bool)(es:List (Nat×Nat×Bx)):BL:=KV L [] es
def MF(deps:List (List Nat))(L0 full:List Bool)(reach:List (List Bool))(steps:List (List Bool×Nat)):Bool:=
 reach.contains L0&&reach.all fun L=>bif L==full then(BA L 0 deps).isEmpty&&(L.count false==0)else
  !(BA L 0 deps).isEmpty&&(BA L 0 deps).all fun i=>steps.contains (L,i)&&reach.contains (L.set i true)&&((L.set i true).count false+1==L.count false)
section
variable{P:Program}{cx:Cx}{T0:TL}{B0:BL}{R:RL}{ops:Array Oper}{Q:Exit->Act->World->Prop}{deps:List (List Nat)}{es:List (Nat×Nat×IV)}{bs:List (Nat×Nat×Bx)}
def AllSteps(P:Program)(cx:Cx)(T0:TL)(B0:BL)(R:RL)(ops:Array Oper)(Q:Exit->Act->World->Prop)(es:List (Nat×Nat×IV))(bs:List (Nat×Nat×Bx)):List (List Bool×Nat)->Prop
 | []=>True
 | (L,i)::r=>(∀ K,E cx (T0++G1 (L.set i true) es) (IR (L.set i true) bs++B0) R K->E cx (T0++G1 L es) (IR L bs++B0) R (wpOp P ops Q i K))/\AllSteps P cx T0 B0 R ops Q es bs r
theorem AllSteps.get:∀ {st:List (List Bool×Nat)} (_:AllSteps P cx T0 B0 R ops Q es bs st) {L:List Bool} {i:Nat},(L,i)∈st -> ∀ K,E cx (T0++G1 (L.set i true) es) (IR (L.set i true) bs++B0) R K->E cx (T0++G1 L es) (IR L bs++B0) R (wpOp P ops Q i K)
 | (L',j)::r,h,L,i,hm=>by
  rcases List.mem_cons.1 hm with e | hm
  ·injection e with e1 e2
   subst e1 e2
   exact h.1
  ·exact AllSteps.get h.2 hm
 | [],_,_,_,hm=>by cases hm
theorem AnyE.of{T:TL}{B:BL}{fuel:Nat}{L:List Bool}:∀ {is:List Nat},(∀ i∈is,E cx T B R (wpOp P ops Q i (wpAny P .any ops Q fuel (L.set i true).toArray)))->AnyE P cx T B R ops Q fuel L is
 | [],_=>trivial
 | i::is,h=>⟨h i List.mem_cons_self,AnyE.of fun j hj=>h j (List.mem_cons_of_mem _ hj)⟩
end
end
section
def EO(P:Program)(gls:List (Nat×List Value))(f:FuncId)(ps:List Part)(ty k n:Nat)(cs:List Value):Prop:=
 ∀ (w:World) (D:Nat->Prop) (vs:List Value),(∀ g,D g->g<w.heap.size)->LR gls w->PsFit w D ps vs->Calls P f vs.toArray w fun e w'=>∃ v,e=.returned v/\Below w.heap.size w w'/\w'.ownsRow w.heap.size ty k v n cs
def KM(w:World)(ty k n:Nat)(cs:List Value)(e:Ending)(w':World):Prop:=∃ v,e=.returned v/\Below w.heap.size w w'/\w'.ownsRow w.heap.size ty k v n cs
section
variable{P:Program}
theorem HO{gls:List (Nat×List Value)}{f:FuncId}{fn:Func}{c:Code}{ps:List Part}{ty k m:Nat}{cs:List Value}(n:Nat)(hf:P.funcs[f]?=some fn)(hb:fn.body=some c)(hn:fn.ntmps=n)(hle:Nat.ble ps.length n=true)
  (h:∀ (w:World) (D:Nat->Prop),E ⟨w,D,fun _=>False,n,gls,[],fun _=>0⟩ (GZ 0 ps) [] [] (c.wp P (bodyPost P fn (KM w ty k m cs)))):EO P gls f ps ty k m cs:=fun w D vs hD hG hp=>by
 refine calls_of_wp hf hb ?_
 have hl:=hp.length
 have hle':=Nat.le_of_ble_eq_true hle
 refine h w D (fun _=>0) (fun _=>undef) _ w ⟨by simp[hn];omega,rfl,⟨Bex.refl _ _,fun g hg=>⟨hD g hg,fun h=>h⟩,fun _ h=>h.elim,fun g cs hg=>⟨⟨(hG g cs hg).1,fun h=>h⟩,(hG g cs hg).2⟩,fun b x hx=>(by cases hx),fun r x hx=>(by cases hx),fun r x g hx=>(by cases hx),fun b hb=>(by cases hb),fun b c x y hx=>(by cases hx),fun b r x y g hx=>(by cases hx),fun r q x y g hx=>(by cases hx)⟩,fun t x hx=>?_⟩
 obtain⟨p,h1,rfl,_⟩:=DQ hx
 obtain⟨v,h2,h3⟩:=hp.get h1
 rw[Nat.sub_zero]at h2
 have hv:(vs.toArray++Array.replicate (fn.ntmps-vs.toArray.size) undef).getD t undef=v:=by
  have hlt:t<vs.length:=by
   rcases Nat.lt_or_ge t vs.length with h | h
   ·exact h
   ·rw[List.getElem?_eq_none h]at h2;cases h2
  have h4:vs[t]=v:=by
   rw[List.getElem?_eq_getElem hlt]at h2
   exact Option.some.inj h2
  simp[Array.getElem?_append,hlt,h4]
 show VR _ _ _ _ _ ((vs.toArray++Array.replicate (fn.ntmps-vs.toArray.size) undef).getD t undef)
 rw[hv]
 exact PFit.stay (D:=D) (Keeps.refl _ _) (fun g hg=>Or.inl hg) h3
variable{cx:Cx}{T:TL}{B:BL}{R:RL}{M:Nat->Nat}{V:Nat->Value}{o:Oper}
theorem E2(hbor:cx.bor=fun _=>False){fn:Func}{t r ty k n:Nat}{ds:List Dat}{cs:List Value}(hrs:fn.results = #[.tmp t])(ht:lk t T=some (.own r))(hr0:lk r R=some ⟨ty,k,n,ds,false⟩)(hds:ds=cs.map .cell)(hty:Nat.blt ty 1000000=true:=by rfl):E cx T B R (bodyPost P fn (KM cx.w0 ty k n cs) .ret):=fun M V a w hr=>by
 have hbl:Below cx.w0.heap.size cx.w0 w:=(show Bex (fun _=>False) cx.w0 w from hbor▸hr.heap.below).below
 have hv:a.tmps.getD t undef=V r:=hr.tmp t _ ht
 have h1:Gx w (Dc cx B R M V w) 0 ty k (V r) n ds:=hr.heap.row r _ hr0
 obtain⟨xs,⟨hl,hown⟩,hfx⟩:Gr w (Dc cx B R M V w) 0 ty k (V r) n ds:=h1.row hty
 subst hds
 obtain rfl:=hfx.cells
 refine⟨hr.defers,V r,?_,V r,rfl,hbl,hl,?_⟩
 ·have e:results fn a.tmps=(do let vs <- fn.results.mapM (E0 a.tmps);pure (if h:vs.size=1 then vs[0]else .tuple vs)):=by
   unfold results
   congr 1
  rw[e,hrs]
  simp[E0,hv]
 ·rcases hown with h | ⟨g,cap,cur,h2,_,h3⟩
  ·exact .inl h
  ·refine .inr ⟨g,cap,cur,h2,?_,h3⟩
   have:=hr.heap.ro r _ g hr0 rfl (.inl (by rw[h2];rfl))
   rcases this with h | h
   ·exact h
   ·rw[hbor]at h;exact h.elim
theorem JO{ops:Array Oper}{Q:Exit->Act->World->Prop}(r:Nat){l:List Oper}{d:Nat}{f:FuncId}{xs:List Operand}{ts:Array TypeId}{ps:List Part}{ty k n:Nat}{cs:List Value}
  (hg:o.guard=none) (hd:o.dst=some d) (hn:Nat.blt d cx.n=true) (ho:o.op=.call { callee:=.value (.func f),args:=xs.toArray,argTypes:=ts }) (hc:C2 P f=true) (hf:EO P cx.gl f ps ty k n cs) (hx:KnA T xs ps)
  (hT:HE r T=true) (hB:HJ r B=true)
  (hE:E cx ((d,.own r)::T) B ((r,⟨ty,k,n,cs.map .cell,false⟩)::R) (wpList P ops Q l)) (hty:Nat.blt ty 1000000=true:=by rfl):E cx T B R (wpList P ops Q (o::l)):=fun M V a w hrel=>by
 refine wpList_plain hg fun K hK=>?_
 have hrun:(execOp a.eval o).run P w=.ok (.enter f (xs.map a.eval).toArray) w:=by
  have he:a.eval (.func f)=.func (.func f) #[] #[]:=rfl
  simp[execOp,ho,resolve,he,Deferred.ofValue,invoke,BS hc]
 unfold Oper.wp
 rw[hrun]
 simp only[Oper.upon,hd]
 refine(hf w (Dc cx B R M V w) _ (fun g hg=>hrel.heap.dlt hg) hrel.heap.glok (hx.fit fun x z _ hkx=>hkx w _ M V a fun t z' _ hz=>hrel.tmp t z' hz)).mono ?_
 rintro e w' ⟨v,rfl,hb,hown⟩
 refine hK _ _ ?_
 obtain⟨V',hVr,hr0⟩:=hrel.own_new hb hown r hT hB hty
 exact hE M V' _ _ (hr0.put (Below.refl _ _) (BF hn) hVr.symm)
theorem GX{x:Operand}{y z:IV}(h:Kn T x y)(hi:Imp y z):Kn T x z:=fun w D M V a hT=>hi w D M V _ (h w D M V a hT)
variable{α:Type}{kf:α->Value}[DecidableEq α]
end
def AX{α:Type}(L:List Bool):List Nat->List (Nat×Nat×α)->List (Nat×α)
 | _,[]=>[]
 | sn,(i,s,y)::es=>bif L.getD i false && !(sn.any fun c=>Nat.beq c s)then(s,y)::AX L (s::sn) es else AX L sn es
section
variable{P:Program}{cx:Cx}{T0:TL}{B0:BL}{R0:RL}{ops:Array Oper}{Q:Exit->Act->World->Prop}{deps:List (List Nat)}{es:List (Nat×Nat×IV)}{bs:List (Nat×Nat×Bx)}{rs:List (Nat×Nat×Rw)}
def AllStepsR(P:Program)(cx:Cx)(T0:TL)(B0:BL)(R0:RL)(ops:Array Oper)(Q:Exit->Act->World->Prop)(es:List (Nat×Nat×IV))(bs:List (Nat×Nat×Bx))(rs:List (Nat×Nat×Rw)):List (List Bool×Nat)->Prop
 | []=>True
 | (L,i)::r=>(∀ K,E cx (T0++AX (L.set i true) [] es) (AX (L.set i true) [] bs++B0) (AX (L.set i true) [] rs++R0) K->E cx (T0++AX L [] es) (AX L [] bs++B0) (AX L [] rs++R0) (wpOp P ops Q i K))/\AllStepsR P cx T0 B0 R0 ops Q es bs rs r
theorem AllStepsR.get:∀ {st:List (List Bool×Nat)} (_:AllStepsR P cx T0 B0 R0 ops Q es bs rs st) {L:List Bool} {i:Nat},(L,i)∈st -> ∀ K,E cx (T0++AX (L.set i true) [] es) (AX (L.set i true) [] bs++B0) (AX (L.set i true) [] rs++R0) K->E cx (T0++AX L [] es) (AX L [] bs++B0) (AX L [] rs++R0) (wpOp P ops Q i K)
 | (L',j)::r,h,L,i,hm=>by
  rcases List.mem_cons.1 hm with e | hm
  ·injection e with e1 e2
   subst e1 e2
   exact h.1
  ·exact AllStepsR.get h.2 hm
 | [],_,_,_,hm=>by cases hm
theorem AS{T T':TL}{B B':BL}{R R':RL}{K:Act->World->Prop}(hK:E cx T' B' R' K)(hT:SubT T T')(hB:SubB B B')(hR:SubR R R'):E cx T B R K:=AH hT hB hR hK
end
end
section
inductive Alike3 (P:Program) (t:TypeId):Value->Value->Prop where
 | int (k k':IntKind) (a b:Int) (h:P.underlying t=some (.int k')):Alike3 P t (.int k a) (.int k b)
 | str (a b:List UInt8) (h:P.underlying t=some .string):Alike3 P t (.string (str a)) (.string (str b))
 | bool (a b:Bool) (h:P.underlying t=some .bool):Alike3 P t (.bool a) (.bool b)
theorem Alike3.plain{P:Program}{t:TypeId}{a b:Value}(h:Alike3 P t a b):(P.underlying t=some .string\/P.underlying t=some .bool) \/ ∃ k,P.underlying t=some (.int k):=by
 cases h with
 | int k k' a b hu=>exact .inr ⟨k',hu⟩
 | str a b hu=>exact .inl (.inl hu)
 | bool a b hu=>exact .inl (.inr hu)
section
variable{P:Program}{cx:Cx}{T:TL}{B:BL}{R:RL}{o:Oper}
end
end
section
theorem EQ{w:World}{D:Nat->Prop}:∀ {vs us:List Value},PsFit w D (vs.map fun v=>.one (.cell v)) us->us=vs
 | [],[],_=>rfl
 | v::vs,u::us,h=>by
  obtain rfl:=Lies.cell_eq h.1
  rw[EQ h.2]
 | [],_::_,h=>h.elim
 | _::_,[],h=>h.elim
theorem FM(w:World)(D:Nat->Prop):∀ vs:List Value,PsFit w D (vs.map fun v=>.one (.cell v)) vs
 | []=>trivial
 | v::vs=>⟨.cell v,FM w D vs⟩
section
variable{P:Program}{cx:Cx}{T:TL}{B:BL}{R:RL}{o:Oper}
end
end
section
def OJ(P:Program)(Q:World->Prop)(gls:List (Nat×List Value))(f:FuncId)(ps:List Part)(Y:IV->Prop):Prop:=
 ∀ (w:World) (D:Nat->Prop) (vs:List Value),(∀ g,D g->g<w.heap.size)->LR gls w->Q w->PsFit w D ps vs->Calls P f vs.toArray w (H3 w D Y)
theorem EFx.q{P:Program}{Q:World->Prop}{gls gls':List (Nat×List Value)}{f:FuncId}{ps:List Part}{Y:IV->Prop}(h:EFx P gls f ps Y)(hs:∀ x,x∈gls->x∈gls'):OJ P Q gls' f ps Y:=fun w D vs hD hG _ hp=>h w D vs hD (fun g cs hg=>hG g cs (hs _ hg)) hp
section
variable{P:Program}{cx:Cx}{T:TL}{B:BL}{R:RL}{o:Oper}{Q:World->Prop}
end
end
section
def ddS:List Nat->BL->BL
 | _,[]=>[]
 | sn,(j,x)::l=>bif sn.any fun c=>Nat.beq c j then ddS sn l else(j,x)::ddS (j::sn) l
theorem HW:∀ (l:BL) (sn:List Nat) (b:Nat),b∉sn->lk b (ddS sn l)=lk b l
 | [],_,_,_=>rfl
 | (j,x)::l,sn,b,hb=>by
  unfold ddS
  cases h:sn.any fun c=>Nat.beq c j with
  | true=>
   obtain⟨c,hc,e⟩:=List.any_eq_true.1 h
   have e':c=j:=Nat.eq_of_beq_eq_true e
   have hj:j≠b:=fun e2=>hb (by rw[<- e2,<- e'];exact hc)
   rw[cond_true,HW l sn b hb,AI _ _ hj]
  | false=>
   rw[cond_false]
   by_cases e:j=b
   ·subst e
    rw[AP,AP]
   ·rw[AI _ _ e,AI _ _ e]
    exact HW l (j::sn) b (by
     rintro(_ | ⟨_,h⟩)
     ·exact e rfl
     ·exact hb h)
section
variable{cx:Cx}{T:TL}{B B':BL}{R:RL}{K:Act->World->Prop}
theorem Dc.lkB(h:∀ b,lk b B=lk b B')(M:Nat->Nat)(V:Nat->Value)(w:World):Dc cx B R M V w=Dc cx B' R M V w:=by
 funext g
 unfold Dc
 simp only[h]
theorem NS(h:∀ b,lk b B=lk b B')(hE:E cx T B' R K):E cx T B R K:=fun M V a w hr=>by
 have hD:=Dc.lkB (cx:=cx) (R:=R) h M V w
 have hh:=hr.heap
 refine hE M V a w ⟨hr.size,hr.defers,⟨hh.below,hh.d0,hh.bl,hh.gl,fun b x hx=>?_,fun r x hx=>?_,hh.ro,hh.pin,fun b c x y hx hy=>hh.bb b c x y (by rw[h];exact hx) (by rw[h];exact hy),fun b r x y g hx=>hh.br b r x y g (by rw[h];exact hx),hh.rr⟩,fun t x hx=>?_⟩
 ·have:=hh.box b x (by rw[h];exact hx)
  rwa [hD]at this
 ·have:=hh.row r x hx
  rwa [hD]at this
 ·have:=hr.tmp t x hx
  rwa [hD]at this
theorem LJ(hE:E cx T B R K):E cx T (ddS [] B) R K:=NS (fun b=>HW B [] b (by simp)) hE
end
end
section
abbrev OL(r:Nat)(v0:Value):IV:=.via r fun a _=>a=v0
section
variable{P:Program}{cx:Cx}{T:TL}{B:BL}{R:RL}{M:Nat->Nat}{V:Nat->Value}{o:Oper}
section
variable{ops:Array Oper}{Q:Exit->Act->World->Prop}{l:List Oper}
end
end
end
section
section
variable{P:Program}{cx:Cx}{T:TL}{B:BL}{R:RL}{o:Oper}{ops:Array Oper}{Q:Exit->Act->World->Prop}{l:List Oper}
theorem CC{K:Act->World->Prop}{r ty k n n':Nat}{ds ds':List Dat}{f:Bool}(hn:n=n')(hd:ds=ds')(h:E cx T B ((r,⟨ty,k,n',ds',f⟩)::R) K):E cx T B ((r,⟨ty,k,n,ds,f⟩)::R) K:=by
 subst hn
 subst hd
 exact h
end
def ddR:List Nat->RL->RL
 | _,[]=>[]
 | sn,(j,x)::l=>bif sn.any fun c=>Nat.beq c j then ddR sn l else(j,x)::ddR (j::sn) l
theorem I5:∀ (l:RL) (sn:List Nat) (b:Nat),b∉sn->lk b (ddR sn l)=lk b l
 | [],_,_,_=>rfl
 | (j,x)::l,sn,b,hb=>by
  unfold ddR
  cases h:sn.any fun c=>Nat.beq c j with
  | true=>
   obtain⟨c,hc,e⟩:=List.any_eq_true.1 h
   have e':c=j:=Nat.eq_of_beq_eq_true e
   have hj:j≠b:=fun e2=>hb (by rw[<- e2,<- e'];exact hc)
   rw[cond_true,I5 l sn b hb,AI _ _ hj]
  | false=>
   rw[cond_false]
   by_cases e:j=b
   ·subst e
    rw[AP,AP]
   ·rw[AI _ _ e,AI _ _ e]
    exact I5 l (j::sn) b (by
     rintro(_ | ⟨_,h⟩)
     ·exact e rfl
     ·exact hb h)
section
variable{cx:Cx}{T:TL}{B:BL}{R R':RL}{K:Act->World->Prop}
theorem Dc.lkR(h:∀ b,lk b R=lk b R')(M:Nat->Nat)(V:Nat->Value)(w:World):Dc cx B R M V w=Dc cx B R' M V w:=by
 funext g
 unfold Dc
 simp only[h]
theorem NT(h:∀ b,lk b R=lk b R')(hE:E cx T B R' K):E cx T B R K:=fun M V a w hr=>by
 have hD:=Dc.lkR (cx:=cx) (B:=B) h M V w
 have hh:=hr.heap
 refine hE M V a w ⟨hr.size,hr.defers,⟨hh.below,hh.d0,hh.bl,hh.gl,fun b x hx=>?_,fun r x hx=>?_,fun r x g hx=>hh.ro r x g (by rw[h];exact hx),hh.pin,hh.bb,fun b r x y g hx hy=>hh.br b r x y g hx (by rw[h];exact hy),fun r q x y g hx hy=>hh.rr r q x y g (by rw[h];exact hx) (by rw[h];exact hy)⟩,fun t x hx=>?_⟩
 ·have:=hh.box b x hx
  rwa [hD]at this
 ·have:=hh.row r x (by rw[h];exact hx)
  rwa [hD]at this
 ·have:=hr.tmp t x hx
  rwa [hD]at this
theorem J3(hE:E cx T B R K):E cx T B (ddR [] R) K:=NT (fun b=>I5 R [] b (by simp)) hE
end
end
section
variable{P:Program}{cx:Cx}{T:TL}{B:BL}{R:RL}{o:Oper}{ops:Array Oper}{Q:Exit->Act->World->Prop}{l:List Oper}
theorem I3{z:Value}{zs:List Value}(hz:z.cells.toList=zs)(n:Nat):(madeCells z.cells (n*z.cells.size)).toList=(List.replicate n zs).flatten:=by
 subst hz
 have h:=HM z.cells.toList n
 rw[Array.length_toList]at h
 rw[<- h]
 unfold madeCells
 rfl
theorem ON(r:Nat){d:Nat}{t ty:TypeId}{k n bytes:Nat}{x y:Operand}{kl kc:IntKind}{zs:List Value}{ds:List Dat}(hg:o.guard=none)(hd:o.dst=some d)(hn:Nat.blt d cx.n=true)(ho:o.op=.makeSlice t x y)(hx:Kn T x (.is (.int kl (n:Int))))(hy:Kn T y (.is (.int kc (n:Int))))(ht:P.underlying t=some (.slice ty))(hz:(P.info? ty).map (fun i=>(i.size,i.bytes,i.zero.map (·.cells.size)))=some (k,bytes,some k))(hzs:BX P ty=some zs)
  (hb1:n<=140737488355328) (hb2:bytes*n<=140737488355328) (hds:(List.replicate n zs).flatten.map Dat.cell=ds) (hT:HE r T=true) (hB:HJ r B=true) (hE:E cx ((d,.own r)::T) B ((r,⟨ty,k,n,ds,false⟩)::R) (wpList P ops Q l)) (hty:Nat.blt ty 1000000=true:=by rfl):E cx T B R (wpList P ops Q (o::l)):=fun M V a w hrel=>by
 subst hds
 refine wpList_plain hg fun K hK=>?_
 have hxv:a.eval x=.int kl (n:Int):=(hx w (Dc cx B R M V w) M V a fun t z _ hz=>hrel.tmp t z hz).is_eq
 have hyv:a.eval y=.int kc (n:Int):=(hy w (Dc cx B R M V w) M V a fun t z _ hz=>hrel.tmp t z hz).is_eq
 cases hi:P.info? ty with
 | none=>simp[hi]at hz
 | some i=>
  simp only[hi,Option.map_some,Option.some.injEq,Prod.mk.injEq]at hz
  obtain⟨h1,h2,h3⟩:=hz
  obtain⟨z,hz0,hzk⟩:∃ z,i.zero=some z/\z.cells.size=k:=by
   cases hz0:i.zero with
   | none=>simp[hz0]at h3
   | some z=>exact⟨z,rfl,by simpa[hz0]using h3⟩
  have hzc:z.cells.toList=zs:=by simpa[BX,hi,hz0]using hzs
  have hbz:(i.bytes:Int)*(n:Int)<=281474976710656:=by
   rw[h2,<- Int.natCast_mul]
   omega
  have hrun:=run_make (P:=P) w t ty i z ht hi hz0 kl kc (n:Int) (n:Int) (by omega) (by omega) hbz (by omega)
  simp only[Int.toNat_natCast]at hrun
  rw[h1,<- hzk]at hrun
  have hcl:=I3 hzc n
  have hlen:(List.replicate n zs).flatten.length=n*k:=by
   rw[<- hcl,Array.length_toList,size_madeCells,hzk]
  have hb:Below w.heap.size w (w.alloc (.cells (madeCells z.cells (n*z.cells.size)) ty)):=(Below.refl _ _).alloc (Nat.le_refl _) _
  have hown:(w.alloc (.cells (madeCells z.cells (n*z.cells.size)) ty)).ownsRow w.heap.size ty k (.slice (some ⟨w.heap.size,0,none⟩) n n) n (List.replicate n zs).flatten:=
   ⟨hlen,.inr ⟨w.heap.size,n,_,rfl,Nat.le_refl _,heap_alloc_new w _,Nat.le_refl _,by simp only[maxLen];omega,by rw[size_madeCells,hzk],by rw[hcl,<- hlen,List.take_length]⟩⟩
  obtain⟨V',hVr,hr0⟩:=hrel.own_new hb hown r hT hB hty
  have:=hK _ _ (hE M V' _ _ (hr0.put (Below.refl _ _) (BF hn) hVr.symm))
  unfold Oper.wp execOp
  simp only[ho,hxv,hyv,Sem.run_bind,hrun]
  simp only[Oper.upon,hd]
  exact this
theorem D3{x y:Operand}{st:TypeId}{r ty k n j:Nat}{ds ds':List Dat}{d:Dat}(hg:o.guard=none)(hd:o.dst=none)(ho:o.op=.store st x y)(hx:Kn T x (.via r (AtV j)))(hr:lk r R=some ⟨ty,k,n,ds,false⟩)(hy:Kn T y (.part (.one d)))(h1:d.isOne=true)(hj:j<ds.length)(hs:sizeT P st=some 1)(hds:ds.set j d=ds')
  (hE:E cx T B ((r,⟨ty,k,n,ds',false⟩)::R) (wpList P ops Q l)) (hty:Nat.blt ty 1000000=true:=by rfl):E cx T B R (wpList P ops Q (o::l)):=fun M V a w hrel=>by
 subst hds
 obtain⟨g,n',c,hVr,hxv⟩:AtV j (V r) (a.eval x):=hx w (Dc cx B R M V w) M V a fun t z _ hz=>hrel.tmp t z hz
 have hyv:Lies w (Dc cx B R M V w) d (a.eval y):=hy w (Dc cx B R M V w) M V a fun t z _ hz=>hrel.tmp t z hz
 have hone:=hyv.one h1
 obtain⟨w',hst,hrel'⟩:=HR.own_store (P:=P) hrel hr hVr (es:=[d]) (us:=[a.eval y]) (j:=j) (by simp only[List.length_singleton];omega) (by simp) (Fits.cons hyv (Fits.nil _ _)) (fun u hu=>by rw[List.mem_singleton.1 hu];exact hone) hty
 rw[show ds.take j++[d]++ds.drop (j+[d].length)=ds.set j d by rw[List.set_eq_take_append_cons_drop,if_pos hj];simp]at hrel'
 refine wpList_plain hg fun K hK=>?_
 have:=hK _ _ (hE M V _ _ hrel')
 have hsz:=BQ hs (w:=w)
 have hccl:(a.eval y).cells = #[a.eval y]:=by
  revert hone
  cases a.eval y<;>intro h<;>first | rfl | cases h
 unfold Oper.wp execOp
 simp only[ho,hxv,Instr.storeAt,Instr.sureAddr,Sem.run_bind,Sem.run_pure,Result.andThen_ok]
 simp[storeVar,hsz,hccl,hst,Oper.upon,hd,Act.put]
 exact this
theorem CQ{fn:Func}{Y:IV->BL->RL->Prop}{t:Nat}{y:IV}(B1:BL)(R1:RL)(hrs:fn.results = #[.tmp t])(ht:lk t T=some y)(hB:SubB B B1)(hR:SubR R R1)(hY:Y y B1 R1):E cx T B R (bodyPost P fn (HZ cx Y) .ret):=fun M V a w hr=>by
 have h3:=hr.sub (T':=[(t,y)]) ⟨HD _ ht,trivial⟩ hB hR
 refine⟨hr.defers,a.tmps.getD t undef,?_,_,y,B1,R1,M,V,rfl,hY,h3.heap,h3.tmp t y (AP _ _ _)⟩
 have e:results fn a.tmps=(do let vs <- fn.results.mapM (E0 a.tmps);pure (if h:vs.size=1 then vs[0]else .tuple vs)):=by
  unfold results
  congr 1
 rw[e,hrs]
 simp[E0]
end
section
variable{P:Program}{cx:Cx}{T:TL}{B:BL}{R:RL}{M:Nat->Nat}{V:Nat->Value}{o:Oper}{ops:Array Oper}{Q:Exit->Act->World->Prop}{l:List Oper}
theorem J4{f:FuncId}{xs:List Operand}{ts:Array TypeId}{ps:List Part}{y y':IV}(ho:o.op=.call { callee:=.value (.func f),args:=xs.toArray,argTypes:=ts })(hc:C2 P f=true)(hf:EF P cx.gl f ps y)
  (hx:∀ (w:World) (D:Nat->Prop) (M:Nat->Nat) (V:Nat->Value) (a:Act),(∀ t z,.tmp t∈xs->lk t T=some z->VR w D M V z (a.tmps.getD t undef))->(∀ r x,lk r R=some x->Lies w D (datOf x) (V r))->PsFit w D ps (xs.map a.eval)) (hy:Far y y'):LStep P cx B R o T y':=fun M V w a hh ht=>by
 have hrun:(execOp a.eval o).run P w=.ok (.enter f (xs.map a.eval).toArray) w:=by
  have he:a.eval (.func f)=.func (.func f) #[] #[]:=rfl
  simp[execOp,ho,resolve,he,Deferred.ofValue,invoke,BS hc]
 rw[hrun]
 let D':Nat->Prop:=fun g=>Dc cx B R M V w g \/ ∃ r x,lk r R=some x/\x.fz=false/\obs x.ty x.ds (V r) g
 have hk:=Keeps.refl (Dc cx B R M V w) w
 have hDD:∀ g,Dc cx B R M V w g->D' g:=fun g h=>.inl h
 have hD':∀ g,D' g->g<w.heap.size:=fun g hg=>by
  rcases(show Dc cx B R M V w g \/ ∃ r x,lk r R=some x/\x.fz=false/\obs x.ty x.ds (V r) g from hg)with hg | ⟨r,x,h1,h2,h3⟩
  ·exact hh.dlt hg
  ·have h4:=hh.row r x h1
   rw[h2]at h4
   exact Gx.lt h4 g h3
 have hp:PsFit w D' ps (xs.map a.eval):=hx w D' M V a (fun t z hm hz=>(ht t z (by rw[ho];simp only[Op.operands,Call.operands];simp[hm]) hz).stay hk hDD) fun r x hr=>by
  have h4:=hh.row r x hr
  cases hfz:x.fz with
  | true=>
   rw[if_pos hfz]at h4
   exact h4.stay hk hDD
  | false=>
   rw[hfz]at h4
   exact Gx.frozen (show Gx w (Dc cx B R M V w) 0 x.ty x.k (V r) x.n x.ds from h4) hDD fun g hg=>.inr ⟨r,x,hr,hfz,hg⟩
 refine⟨rfl,(hf w D' (xs.map a.eval) hD' hh.glok hp).mono fun e w' ⟨v,y0,h1,h2,h3,h4⟩=>?_⟩
 subst h2
 exact⟨v,h1,h3,hy _ _ _ _ _ _ _ _ _ (h4 M V)⟩
end
end Go.Proofs.Ytjpghcmlglhmbaa
