/- Part 13. Conditions: as each theorem says. -/
import Derived.Test.YtecfdcdkkgmkpaaIO12
import Derived.Carry
import Derived.Laws.Slices
import Derived.Laws.StructEq
import Derived.Laws.IdiomStrings
import Derived.Laws.Entries
import Derived.Laws.MakeOwn
set_option maxRecDepth 100000
namespace Go.Proofs.Ytecfdcdkkgmkpaa
open Go.RowKit
section
section
variable{P:Program}{cx:Cx}{T:TL}{B:BL}{R:RL}{o:Oper}
def AtV(o:Nat)(u v:Value):Prop:=∃ g n c,u=.slice (some ⟨g,0,none⟩) n c/\v=.pointer (some ⟨g,o,none⟩)
theorem PH(b o k:Nat):(⟨b,o,none⟩:Addr).add k=⟨b,o+k,none⟩:=by grind[Addr.add]
theorem HR.own_shape{M:Nat->Nat}{V:Nat->Value}{w:World}(hh:HR cx B R M V w){r ty k n:Nat}{ds:List Dat}(hr:lk r R=some ⟨ty,k,n,ds,false⟩)(hty:Nat.blt ty 1000000=true)(hn:0<n):
  ∃ g cap cur xs,V r=.slice (some ⟨g,0,none⟩) n cap/\w.heap[g]?=some (.cells cur ty (0,0))/\n<=cap/\cap<=maxLen/\cur.size=cap*k/\cur.toList.take (n*k)=xs/\xs.length=n*k/\Fits w (Dc cx B R M V w) ds xs:=by
 obtain⟨xs,hown,hfx⟩:Gr w (Dc cx B R M V w) 0 ty k (V r) n ds:=Gx.row (hh.row r _ hr) hty
 obtain⟨hxl,hv⟩:=hown
 grind
theorem HR.own_slice{M:Nat->Nat}{V:Nat->Value}{w:World}(hh:HR cx B R M V w){r ty k n:Nat}{ds:List Dat}(hr:lk r R=some ⟨ty,k,n,ds,false⟩)(hty:Nat.blt ty 1000000=true):∃ p cap,V r=.slice p n cap/\n<=cap/\(0<n -> ∃ g,p=some ⟨g,0,none⟩):=by
 obtain⟨xs,hown,hfx⟩:Gr w (Dc cx B R M V w) 0 ty k (V r) n ds:=Gx.row (hh.row r _ hr) hty
 obtain⟨hxl,hv⟩:=hown
 grind
theorem HK{x i:Operand}{t:TypeId}{r ty k n:Nat}{ds:List Dat}{kk:IntKind}{z:Int}(ho:o.op=.indexAddr t x i)(hx:Kn T x (.own r))(hr:lk r R=some ⟨ty,k,n,ds,false⟩)(hi:Kn T i (.is (.int kk z)))(hz:0<=z/\z<(n:Int))(ht:P.underlying t=some (.slice (P.elem t)))(hs:sizeT P (P.elem t)=some k)(hty:Nat.blt ty 1000000=true:=by rfl):
  LStep P cx B R o T (.via r (AtV (z.toNat*k))):=LStep.same fun M V w a hh hk=>by
 have h1:a.eval x=V r:=hk x _ (by grind[Op.operands]) hx
 have h2:=(hk i _ (by grind[Op.operands]) hi).is_eq
 obtain⟨p,cap,hVr,_,hp⟩:=hh.own_slice hr hty
 obtain⟨g,rfl⟩:=hp (by omega)
 have h7:=run_indexAt_slice (P:=P) w t ⟨g,0,none⟩ n cap kk z ht
 rw[if_pos ⟨hz.1,hz.2⟩,CW hs,Result.andThen_ok,PH,Nat.zero_add]at h7
 exact⟨_,by simp_all[execOp],g,n,cap,hVr,rfl⟩
theorem AZ{x:Operand}{t:TypeId}{f off r j:Nat}(ho:o.op=.fieldAddr t x f)(hx:Kn T x (.via r (AtV j)))(h:BR P t f=some off):LStep P cx B R o T (.via r (AtV (j+off))):=LStep.same fun M V w a _ hk=>by
 obtain⟨g,n,c,h1,h2⟩:AtV j (V r) (a.eval x):=hk x _ (by grind[Op.operands]) hx
 exact⟨_,by simp_all[execOp,GF],g,n,c,h1,rfl⟩
theorem KT{w:World}{g ty j:Nat}{cur:Array Value}(hg:w.heap[g]?=some (.cells cur ty (0,0))):w.cell? ⟨g,j,none⟩=cur.toList[j]?:=by
 have:Blk w g ty cur.toList:=by unfold Blk;rw[hg]
 exact this.cell _
theorem CC{x:Operand}{t:TypeId}{r ty k n j:Nat}{ds:List Dat}{d:Dat}(ho:o.op=.load t x)(hx:Kn T x (.via r (AtV j)))(hr:lk r R=some ⟨ty,k,n,ds,false⟩)(hj:ds[j]?=some d)(ht:oneT P t=true)(hty:Nat.blt ty 1000000=true:=by rfl):LStep P cx B R o T (.part (.one d)):=LStep.same fun M V w a hh hk=>by
 obtain⟨g,n',c,h1,h2⟩:AtV j (V r) (a.eval x):=hk x _ (by grind[Op.operands]) hx
 have hjl:j<ds.length:=by
  rcases Nat.lt_or_ge j ds.length with h | h
  ·exact h
  ·grind
 have hn:0<n:=by
  rcases Nat.eq_zero_or_pos n with h | h
  ·obtain⟨xs,hown,hfx⟩:Gr w (Dc cx B R M V w) 0 ty k (V r) n ds:=Gx.row (hh.row r _ hr) hty
   have:=hfx.1
   have:=hown.1
   grind
  ·exact h
 obtain⟨g',cap,cur,xs,e1,e2,e3,e4,e5,e6,e7,e8⟩:=hh.own_shape hr hty hn
 rw[h1]at e1
 cases e1
 have hxj:j<xs.length:=by rw[<- e8.1];exact hjl
 have hc:w.cell? ⟨g,j,none⟩=some xs[j]:=by
  rw[KT e2,<- List.getElem?_eq_getElem hxj,<- e6,List.getElem?_take,if_pos (by omega)]
 have h5:=EH (P:=P) w ⟨g,j,none⟩ _ t hc ht
 exact⟨xs[j],by simp_all[execOp,Instr.loadAt,Instr.sureAddr],e8.2 j d _ hj (List.getElem?_eq_getElem hxj)⟩
theorem GL{x:Operand}{t:TypeId}{r ty k n j m:Nat}{ds es:List Dat}(ho:o.op=.load t x)(hx:Kn T x (.via r (AtV j)))(hr:lk r R=some ⟨ty,k,n,ds,false⟩)(hes:(ds.drop j).take m=es)(hjm:j+m<=ds.length)(ht:aggT P t=true)(hm:sizeT P t=some m)(hty:Nat.blt ty 1000000=true:=by rfl):LStep P cx B R o T (.part (.many es)):=LStep.same fun M V w a hh hk=>by
 subst hes
 obtain⟨g,n',c,h1,h2⟩:AtV j (V r) (a.eval x):=hk x _ (by grind[Op.operands]) hx
 have hxs:∃ xs,Fits w (Dc cx B R M V w) ds xs /\ ∀ i v,xs[i]?=some v->w.cell? ⟨g,i,none⟩=some v:=by
  rcases Nat.eq_zero_or_pos n with h | h
  ·obtain⟨xs,hown,hfx⟩:Gr w (Dc cx B R M V w) 0 ty k (V r) n ds:=Gx.row (hh.row r _ hr) hty
   have:=hown.1
   grind
  ·obtain⟨g',cap,cur,xs,e1,e2,e3,e4,e5,e6,e7,e8⟩:=hh.own_shape hr hty h
   rw[h1]at e1
   cases e1
   refine⟨xs,e8,fun i v hv=>?_⟩
   rw[KT e2]
   grind
 obtain⟨xs,hf,hc⟩:=hxs
 have hl:=hf.1
 have h5:=DN (P:=P) w g j ((xs.drop j).take m) (fun i v hv=>by
  rw[List.getElem?_take]at hv
  split at hv
  ·rw[List.getElem?_drop]at hv
   exact hc _ v hv
  ·cases hv) t ht (by grind)
 exact⟨_,by simp_all[execOp,Instr.loadAt,Instr.sureAddr],_,rfl,hf.part j m⟩
theorem HR.own_store{M:Nat->Nat}{V:Nat->Value}{w:World}{a:Act}(hrel:Rel cx T B R M V a w){r ty k n j g n' c:Nat}{ds es:List Dat}{us:List Value}(hr:lk r R=some ⟨ty,k,n,ds,false⟩)(hV:V r=.slice (some ⟨g,0,none⟩) n' c)(hjm:j+es.length<=ds.length)(he0:0<es.length)(hf:Fits w (Dc cx B R M V w) es us)(hone:∀ u∈us,u.oneCell'=true)(hty:Nat.blt ty 1000000=true):
  ∃ w',(storeCells ⟨g,j,none⟩ us 0).run P w=.ok () w'/\Rel cx T B ((r,⟨ty,k,n,ds.take j++es++ds.drop (j+es.length),false⟩)::R) M V a w':=by
 have hh:=hrel.heap
 have hn:0<n:=by
  rcases Nat.eq_zero_or_pos n with h | h
  ·obtain⟨xs,hown,hfx⟩:Gr w (Dc cx B R M V w) 0 ty k (V r) n ds:=Gx.row (hh.row r _ hr) hty
   have:=hfx.1
   have:=hown.1
   grind
  ·exact h
 obtain⟨g',cap,cur,xs,e1,e2,e3,e4,e5,e6,e7,e8⟩:=hh.own_shape hr hty hn
 rw[hV]at e1
 obtain⟨rfl,rfl,rfl⟩:g=g'/\n'=n/\c=cap:=by grind
 have hul:us.length=es.length:=hf.1.symm
 have hdl:=e8.1
 have hle:n'*k<=c*k:=Nat.mul_le_mul_right _ e3
 have hcl:cur.toList.length=c*k:=by simpa using e5
 have hblk:Blk w g ty cur.toList:=by unfold Blk;rw[e2]
 have hst:=run_storeCells_at (P:=P) g j ty us 0 cur.toList.toArray w hblk (by simp;omega) hone
 simp only[Nat.add_zero]at hst
 have hnew:=setRow_heap w g cur.toList.toArray (cur.toList.take j++us++cur.toList.drop (j+us.length)).toArray ty (0,0) hblk
 refine⟨_,hst,hrel.row_turn (g:=g) hr rfl (by rw[hV];rfl) rfl (CK hty) (fun q hq=>setRow_other w g q _ hq) (by simp) rfl rfl rfl fun D' hk hD=>?_⟩
 have hfx:=e8.stay hk hD
 have hfu:=hf.stay hk hD
 refine⟨xs.take j++us++xs.drop (j+us.length),.inl ⟨hty,by simp;omega,.inr ⟨g,c,_,hV,Nat.zero_le _,hnew,e3,e4,by simp;omega,?_⟩⟩,.inl ⟨CK hty,?_⟩⟩
 ·subst e6
  have hjl:j+us.length<=n'*k:=by omega
  apply List.ext_getElem?
  grind
 ·have p1:=hfx.part 0 j
  have p2:=hfx.part (j+es.length) (ds.length-(j+es.length))
  simp only[List.drop_zero]at p1
  rw[List.take_of_length_le (l:=ds.drop (j+es.length)) (by simp),List.take_of_length_le (l:=xs.drop (j+es.length)) (by simp;omega)]at p2
  rw[show xs.drop (j+es.length)=xs.drop (j+us.length) by rw[hul]]at p2
  exact(p1.append hfu).append p2
end
end
section
theorem Imp.ptr_ref(t:TypeId)(ds:List Dat):Imp (.part (.one (.ptr t ds))) (.ref ds):=fun w D M V v h=>by
 have h':Lies w D (.ptr t ds) v:=h
 cases h' with
 | ptr b t ds xs hD hb hl hx=>exact⟨b,0,rfl,hD,xs,⟨hl,fun j d x h1 h2=>hx j d x h1 h2⟩,fun j x hj=>by rw[Nat.zero_add,hb.cell];exact hj⟩
section
variable{P:Program}{cx:Cx}{T:TL}{B:BL}{R:RL}{o:Oper}
def Far(y y':IV):Prop:=∀ (w:World) (D:Nat->Prop) (M:Nat->Nat) (V:Nat->Value) (w':World) (D':Nat->Prop) (M':Nat->Nat) (V':Nat->Value) (v:Value),VR w D M V y v->VR w' D' M' V' y' v
theorem Far.is(v:Value):Far (.is v) (.is v):=fun w D M V w' D' M' V' u h=>by
 obtain rfl:=VR.is_eq h
 exact .cell _
def XB(n:Nat)(_ v:Value):Prop:=∃ p c,v=.slice p n c
theorem Far.row(r k n:Nat)(ds:List Dat):Far (.part (.one (.row k n ds))) (.via r (XB n)):=fun w D M V w' D' M' V' u h=>by
 obtain⟨p,c,h1⟩:=FH h
 exact⟨p,c,h1⟩
variable{ops:Array Oper}{Q:Exit->Act->World->Prop}{l:List Oper}
end
end
section
section
variable{P:Program}{cx:Cx}{T:TL}{B:BL}{R:RL}{ops:Array Oper}{Q:Exit->Act->World->Prop}{deps:List (List Nat)}
def GC(ops:Array Oper):List (List Nat):=ops.toList.map fun o=>(o.after.toList.filter fun e=>Region.binds .any e).map (·.on)
def CX(L:List Bool):Nat->List (List Nat)->List Nat
 | _,[]=>[]
 | i,d::ds=>bif !(L.getD i true)&&d.all (fun j=>L.getD j false)then i::CX L (i+1) ds else CX L (i+1) ds
theorem LP{L:List Bool}:∀ {ds:List (List Nat)} {k i:Nat},i∈CX L k ds↔k<=i/\L.getD i true=false /\ ∃ d,ds[i-k]?=some d/\d.all (fun j=>L.getD j false)=true
 | [],k,i=>by simp[CX]
 | d::ds,k,i=>by
  have ih:=LP (L:=L) (ds:=ds) (k:=k+1) (i:=i)
  have key:i∈CX L k (d::ds)↔(i=k/\L.getD k true=false/\d.all (fun j=>L.getD j false)=true)\/i∈CX L (k+1) ds:=by
   rw[show CX L k (d::ds)=bif !(L.getD k true)&&d.all (fun j=>L.getD j false)then k::CX L (k+1) ds else CX L (k+1) ds from rfl]
   cases h:(!(L.getD k true)&&d.all (fun j=>L.getD j false))with
   | true=>
    grind
   | false=>
    grind
  grind
theorem FT{L:List Bool}(hd:GC ops=deps){i:Nat}:i∈Region.ready .any ops L.toArray↔i∈CX L 0 deps:=by
 have hg:∀ (j:Nat) (b:Bool),L.toArray.getD j b=L.getD j b:=fun j b=>by simp_all
 rw[mem_ready,LP,<- hd]
 simp only[hg,Nat.zero_le,true_and,Nat.sub_zero,GC,List.getElem?_map,Array.getElem?_toList]
 constructor
 ·rintro⟨h1,o,ho,h2⟩
  refine⟨h1,_,by rw[ho];rfl,?_⟩
  grind
 grind
theorem QN{id:Nat}{l:List Oper}(n:Nat)(L:List Bool)(deps:List (List Nat))(hd:GC l.toArray=deps)(hn:l.toArray.size=n)(hm:P.follows .mixedOrders=true)(hL:List.replicate n false=L)(h:GC l.toArray=deps->E cx T B R (wpAny P .any l.toArray Q n L.toArray)):E cx T B R ((Code.region id l.toArray true).wp P Q):=fun M V a w hr=>by
 have hr1:Rel cx T B R M V a w.drew:=⟨hr.size,hr.defers,hr.heap.step (Below.refl _ _).drew,fun t x hx=>(hr.tmp t x hx).stay (hr.heap.keeps (Below.refl _ _).drew) fun _ hg=>hg.mono (Nat.le_refl _)⟩
 refine wp_region_any hm ?_
 rw[hn,<- List.toArray_replicate,hL]
 exact h hd M V a w.drew hr1
def AnyE(P:Program)(cx:Cx)(T:TL)(B:BL)(R:RL)(ops:Array Oper)(Q:Exit->Act->World->Prop)(fuel:Nat)(L:List Bool):List Nat->Prop
 | []=>True
 | i::is=>E cx T B R (wpOp P ops Q i (wpAny P .any ops Q fuel (L.set i true).toArray))/\AnyE P cx T B R ops Q fuel L is
theorem AnyE.get{fuel:Nat}{L:List Bool}:∀ {is:List Nat} (_:AnyE P cx T B R ops Q fuel L is) {i:Nat},i∈is->E cx T B R (wpOp P ops Q i (wpAny P .any ops Q fuel (L.set i true).toArray))
 | j::is,h,i,hi=>by
  rcases List.mem_cons.1 hi with rfl | hi
  ·exact h.1
  ·exact AnyE.get h.2 hi
 | [],_,_,hi=>by cases hi
theorem WX{fuel:Nat}{L:List Bool}(hd:GC ops=deps)(hne:(CX L 0 deps).isEmpty=false)(h:AnyE P cx T B R ops Q fuel L (CX L 0 deps)):E cx T B R (wpAny P .any ops Q (fuel+1) L.toArray):=fun M V a w hrel=>by
 refine⟨fun e=>?_,fun i hi=>?_⟩
 ·cases hl:CX L 0 deps with
  | nil=>grind
  | cons i is=>
   have:i∈Region.ready .any ops L.toArray:=(FT hd).2 (by grind)
   grind
 ·have:=AnyE.get h ((FT hd).1 hi)
  rw[List.setIfInBounds_toArray]
  exact this M V a w hrel
theorem WP{L:List Bool}(hd:GC ops=deps)(hr:(CX L 0 deps).isEmpty=true)(h:E cx T B R (Q .normal)):E cx T B R (wpAny P .any ops Q 0 L.toArray):=fun M V a w hrel=>by
 refine⟨?_,h M V a w hrel⟩
 cases hl:Region.ready .any ops L.toArray with
 | nil=>rfl
 | cons i is=>
  grind[FT,List.mem_cons_self]
theorem BC{i:Nat}{o:Oper}{K:Act->World->Prop}(ho:ops[i]?=some o)(hl:LetsOut (Exit.then K Q)->LetsOut Q)(h:E cx T B R (wpList P ops (Exit.then K Q) [o])):E cx T B R (wpOp P ops Q i K):=fun M V a w hrel=>QQ ho hl (h M V a w hrel)
end
end
section
def MI(L:List Bool):List (Nat×Nat×IV)->TL
 | []=>[]
 | (i,s,y)::es=>bif L.getD i false then(s,y)::MI L es else MI L es
def TN(L:List Bool):List Nat->List (Nat×Nat×Bx)->BL
 | _,[]=>[]
 | sn,(i,s,y)::es=>bif L.getD i false && !(sn.any fun c=>Nat.beq c s)then(s,y)::TN L (s::sn) es else TN L sn es
def RP(L:List Bool)(es:List (Nat×Nat×Bx)):BL:=TN L [] es
def UX(deps:List (List Nat))(L0 full:List Bool)(reach:List (List Bool))(steps:List (List Bool×Nat)):Bool:=
 reach.contains L0&&reach.all fun L=>bif L==full then(CX L 0 deps).isEmpty&&(L.count false==0)else
  !(CX L 0 deps).isEmpty&&(CX L 0 deps).all fun i=>steps.contains (L,i)&&reach.contains (L.set i true)&&((L.set i true).count false+1==L.count false)
section
variable{P:Program}{cx:Cx}{T0:TL}{B0:BL}{R:RL}{ops:Array Oper}{Q:Exit->Act->World->Prop}{deps:List (List Nat)}{es:List (Nat×Nat×IV)}{bs:List (Nat×Nat×Bx)}
def AllSteps(P:Program)(cx:Cx)(T0:TL)(B0:BL)(R:RL)(ops:Array Oper)(Q:Exit->Act->World->Prop)(es:List (Nat×Nat×IV))(bs:List (Nat×Nat×Bx)):List (List Bool×Nat)->Prop
 | []=>True
 | (L,i)::r=>(∀ K,E cx (T0++MI (L.set i true) es) (RP (L.set i true) bs++B0) R K->E cx (T0++MI L es) (RP L bs++B0) R (wpOp P ops Q i K))/\AllSteps P cx T0 B0 R ops Q es bs r
theorem AllSteps.get:∀ {st:List (List Bool×Nat)} (_:AllSteps P cx T0 B0 R ops Q es bs st) {L:List Bool} {i:Nat},(L,i)∈st -> ∀ K,E cx (T0++MI (L.set i true) es) (RP (L.set i true) bs++B0) R K->E cx (T0++MI L es) (RP L bs++B0) R (wpOp P ops Q i K)
 | (L',j)::r,h,L,i,hm=>by
  rcases List.mem_cons.1 hm with e | hm
  ·injection e with e1 e2
   subst e1 e2
   exact h.1
  ·exact AllSteps.get h.2 hm
 | [],_,_,_,hm=>by cases hm
theorem AnyE.of{T:TL}{B:BL}{fuel:Nat}{L:List Bool}:∀ {is:List Nat},(∀ i∈is,E cx T B R (wpOp P ops Q i (wpAny P .any ops Q fuel (L.set i true).toArray)))->AnyE P cx T B R ops Q fuel L is
 | [],_=>trivial
 | i::is,h=>⟨h i List.mem_cons_self,AnyE.of fun j hj=>h j (List.mem_cons_of_mem _ hj)⟩
end
end
section
def EO(P:Program)(gls:List (Nat×List Value))(f:FuncId)(ps:List Part)(ty k n:Nat)(cs:List Value):Prop:=
 ∀ (w:World) (D:Nat->Prop) (vs:List Value),(∀ g,D g->g<w.heap.size)->TS gls w->PsFit w D ps vs->Calls P f vs.toArray w fun e w'=>∃ v,e=.returned v/\Below w.heap.size w w'/\w'.ownsRow w.heap.size ty k v n cs
def UA(w:World)(ty k n:Nat)(cs:List Value)(e:Ending)(w':World):Prop:=∃ v,e=.returned v/\Below w.heap.size w w'/\w'.ownsRow w.heap.size ty k v n cs
section
variable{P:Program}
theorem LR{gls:List (Nat×List Value)}{f:FuncId}{fn:Func}{c:Code}{ps:List Part}{ty k m:Nat}{cs:List Value}(n:Nat)(hf:P.funcs[f]?=some fn)(hb:fn.body=some c)(hn:fn.ntmps=n)(hle:Nat.ble ps.length n=true)
  (h:∀ (w:World) (D:Nat->Prop),E ⟨w,D,fun _=>False,n,gls,[],fun _=>0⟩ (ND 0 ps) [] [] (c.wp P (bodyPost P fn (UA w ty k m cs)))):EO P gls f ps ty k m cs:=fun w D vs hD hG hp=>by
 refine calls_of_wp hf hb ?_
 have hl:=hp.length
 have hle':=Nat.le_of_ble_eq_true hle
 refine h w D (fun _=>0) (fun _=>undef) _ w ⟨by grind,rfl,⟨Bex.refl _ _,fun g hg=>⟨hD g hg,fun h=>h⟩,fun _ h=>h.elim,fun g cs hg=>⟨⟨(hG g cs hg).1,fun h=>h⟩,(hG g cs hg).2⟩,fun b x hx=>(by cases hx),fun r x hx=>(by cases hx),fun r x g hx=>(by cases hx),fun b hb=>(by cases hb),fun b c x y hx=>(by cases hx),fun b r x y g hx=>(by cases hx),fun r q x y g hx=>(by cases hx)⟩,fun t x hx=>?_⟩
 obtain⟨p,h1,rfl,_⟩:=I0 hx
 obtain⟨v,h2,h3⟩:=hp.get h1
 rw[Nat.sub_zero]at h2
 have hv:(vs.toArray++Array.replicate (fn.ntmps-vs.toArray.size) undef).getD t undef=v:=by
  have hlt:t<vs.length:=by
   rcases Nat.lt_or_ge t vs.length with h | h
   ·exact h
   ·grind
  have h4:vs[t]=v:=by
   rw[List.getElem?_eq_getElem hlt]at h2
   exact Option.some.inj h2
  simp[Array.getElem?_append,hlt,h4]
 show VR _ _ _ _ _ ((vs.toArray++Array.replicate (fn.ntmps-vs.toArray.size) undef).getD t undef)
 rw[hv]
 exact PFit.stay (D:=D) (Keeps.refl _ _) (fun g hg=>Or.inl hg) h3
variable{cx:Cx}{T:TL}{B:BL}{R:RL}{M:Nat->Nat}{V:Nat->Value}{o:Oper}
theorem DD(hbor:cx.bor=fun _=>False){fn:Func}{t r ty k n:Nat}{ds:List Dat}{cs:List Value}(hrs:fn.results = #[.tmp t])(ht:lk t T=some (.own r))(hr0:lk r R=some ⟨ty,k,n,ds,false⟩)(hds:ds=cs.map .cell)(hty:Nat.blt ty 1000000=true:=by rfl):E cx T B R (bodyPost P fn (UA cx.w0 ty k n cs) .ret):=fun M V a w hr=>by
 have hbl:Below cx.w0.heap.size cx.w0 w:=(show Bex (fun _=>False) cx.w0 w from hbor▸hr.heap.below).below
 have hv:a.tmps.getD t undef=V r:=hr.tmp t _ ht
 have h1:Gx w (Dc cx B R M V w) 0 ty k (V r) n ds:=hr.heap.row r _ hr0
 obtain⟨xs,⟨hl,hown⟩,hfx⟩:Gr w (Dc cx B R M V w) 0 ty k (V r) n ds:=h1.row hty
 subst hds
 obtain rfl:=hfx.cells
 refine⟨hr.defers,V r,?_,V r,rfl,hbl,hl,?_⟩
 ·simp_all[results]
 ·rcases hown with h | ⟨g,cap,cur,h2,_,h3⟩
  ·grind
  ·refine .inr ⟨g,cap,cur,h2,?_,h3⟩
   have:=hr.heap.ro r _ g hr0 rfl (.inl (by rw[h2];rfl))
   grind
theorem CU{x:Operand}{y z:IV}(h:Kn T x y)(hi:Imp y z):Kn T x z:=fun w D M V a hT=>hi w D M V _ (h w D M V a hT)
variable{α:Type}{kf:α->Value}[DecidableEq α]
end
def BZ{α:Type}(L:List Bool):List Nat->List (Nat×Nat×α)->List (Nat×α)
 | _,[]=>[]
 | sn,(i,s,y)::es=>bif L.getD i false && !(sn.any fun c=>Nat.beq c s)then(s,y)::BZ L (s::sn) es else BZ L sn es
section
variable{P:Program}{cx:Cx}{T0:TL}{B0:BL}{R0:RL}{ops:Array Oper}{Q:Exit->Act->World->Prop}{deps:List (List Nat)}{es:List (Nat×Nat×IV)}{bs:List (Nat×Nat×Bx)}{rs:List (Nat×Nat×Rw)}
def AllStepsR(P:Program)(cx:Cx)(T0:TL)(B0:BL)(R0:RL)(ops:Array Oper)(Q:Exit->Act->World->Prop)(es:List (Nat×Nat×IV))(bs:List (Nat×Nat×Bx))(rs:List (Nat×Nat×Rw)):List (List Bool×Nat)->Prop
 | []=>True
 | (L,i)::r=>(∀ K,E cx (T0++BZ (L.set i true) [] es) (BZ (L.set i true) [] bs++B0) (BZ (L.set i true) [] rs++R0) K->E cx (T0++BZ L [] es) (BZ L [] bs++B0) (BZ L [] rs++R0) (wpOp P ops Q i K))/\AllStepsR P cx T0 B0 R0 ops Q es bs rs r
theorem AllStepsR.get:∀ {st:List (List Bool×Nat)} (_:AllStepsR P cx T0 B0 R0 ops Q es bs rs st) {L:List Bool} {i:Nat},(L,i)∈st -> ∀ K,E cx (T0++BZ (L.set i true) [] es) (BZ (L.set i true) [] bs++B0) (BZ (L.set i true) [] rs++R0) K->E cx (T0++BZ L [] es) (BZ L [] bs++B0) (BZ L [] rs++R0) (wpOp P ops Q i K)
 | (L',j)::r,h,L,i,hm=>by
  rcases List.mem_cons.1 hm with e | hm
  ·injection e with e1 e2
   subst e1 e2
   exact h.1
  ·exact AllStepsR.get h.2 hm
 | [],_,_,_,hm=>by cases hm
theorem AY{T T':TL}{B B':BL}{R R':RL}{K:Act->World->Prop}(hK:E cx T' B' R' K)(hT:SubT T T')(hB:SubB B B')(hR:SubR R R'):E cx T B R K:=AM hT hB hR hK
end
end
section
inductive Alike3 (P:Program) (t:TypeId):Value->Value->Prop where
 | int (k k':IntKind) (a b:Int) (h:P.underlying t=some (.int k')):Alike3 P t (.int k a) (.int k b)
 | str (a b:List UInt8) (h:P.underlying t=some .string):Alike3 P t (.string (str a)) (.string (str b))
 | bool (a b:Bool) (h:P.underlying t=some .bool):Alike3 P t (.bool a) (.bool b)
theorem Alike3.plain{P:Program}{t:TypeId}{a b:Value}(h:Alike3 P t a b):(P.underlying t=some .string\/P.underlying t=some .bool) \/ ∃ k,P.underlying t=some (.int k):=by
 cases h with
 | int k k' a b hu=>grind
 | str a b hu=>grind
 | bool a b hu=>grind
section
variable{P:Program}{cx:Cx}{T:TL}{B:BL}{R:RL}{o:Oper}
end
end
section
theorem JS{w:World}{D:Nat->Prop}:∀ {vs us:List Value},PsFit w D (vs.map fun v=>.one (.cell v)) us->us=vs
 | [],[],_=>rfl
 | v::vs,u::us,h=>by
  obtain rfl:=Lies.cell_eq h.1
  rw[JS h.2]
 | [],_::_,h=>h.elim
 | _::_,[],h=>h.elim
theorem KL(w:World)(D:Nat->Prop):∀ vs:List Value,PsFit w D (vs.map fun v=>.one (.cell v)) vs
 | []=>trivial
 | v::vs=>⟨.cell v,KL w D vs⟩
section
variable{P:Program}{cx:Cx}{T:TL}{B:BL}{R:RL}{o:Oper}
end
end
section
def XC(P:Program)(Q:World->Prop)(gls:List (Nat×List Value))(f:FuncId)(ps:List Part)(Y:IV->Prop):Prop:=
 ∀ (w:World) (D:Nat->Prop) (vs:List Value),(∀ g,D g->g<w.heap.size)->TS gls w->Q w->PsFit w D ps vs->Calls P f vs.toArray w (PJ w D Y)
theorem EFx.q{P:Program}{Q:World->Prop}{gls gls':List (Nat×List Value)}{f:FuncId}{ps:List Part}{Y:IV->Prop}(h:EFx P gls f ps Y)(hs:∀ x,x∈gls->x∈gls'):XC P Q gls' f ps Y:=fun w D vs hD hG _ hp=>h w D vs hD (fun g cs hg=>hG g cs (hs _ hg)) hp
section
variable{P:Program}{cx:Cx}{T:TL}{B:BL}{R:RL}{o:Oper}{Q:World->Prop}
end
end
section
def ddS:List Nat->BL->BL
 | _,[]=>[]
 | sn,(j,x)::l=>bif sn.any fun c=>Nat.beq c j then ddS sn l else(j,x)::ddS (j::sn) l
theorem R4:∀ (l:BL) (sn:List Nat) (b:Nat),b∉sn->lk b (ddS sn l)=lk b l
 | [],_,_,_=>rfl
 | (j,x)::l,sn,b,hb=>by
  unfold ddS
  cases h:sn.any fun c=>Nat.beq c j with
  | true=>
   obtain⟨c,hc,e⟩:=List.any_eq_true.1 h
   have e':c=j:=Nat.eq_of_beq_eq_true e
   have hj:j≠b:=fun e2=>hb (by grind)
   rw[cond_true,R4 l sn b hb,AX _ _ hj]
  | false=>
   rw[cond_false]
   by_cases e:j=b
   ·grind[BG]
   ·rw[AX _ _ e,AX _ _ e]
    exact R4 l (j::sn) b (by
     grind)
section
variable{cx:Cx}{T:TL}{B B':BL}{R:RL}{K:Act->World->Prop}
theorem Dc.lkB(h:∀ b,lk b B=lk b B')(M:Nat->Nat)(V:Nat->Value)(w:World):Dc cx B R M V w=Dc cx B' R M V w:=by
 grind[Dc]
theorem X8(h:∀ b,lk b B=lk b B')(hE:E cx T B' R K):E cx T B R K:=fun M V a w hr=>by
 have hD:=Dc.lkB (cx:=cx) (R:=R) h M V w
 have hh:=hr.heap
 refine hE M V a w ⟨hr.size,hr.defers,⟨hh.below,hh.d0,hh.bl,hh.gl,fun b x hx=>?_,fun r x hx=>?_,hh.ro,hh.pin,fun b c x y hx hy=>hh.bb b c x y (by rw[h];exact hx) (by rw[h];exact hy),fun b r x y g hx=>hh.br b r x y g (by grind),hh.rr⟩,fun t x hx=>?_⟩
 ·have:=hh.box b x (by grind)
  grind
 ·have:=hh.row r x hx
  grind
 ·have:=hr.tmp t x hx
  grind
theorem VF(hE:E cx T B R K):E cx T (ddS [] B) R K:=X8 (fun b=>R4 B [] b (by simp)) hE
end
end
section
abbrev atv(r:Nat)(v0:Value):IV:=.via r fun a u=>u=a/\a=v0
abbrev F4(r:Nat)(v0:Value):IV:=.via r fun a _=>a=v0
theorem RA(r:Nat)(v0:Value):Imp (atv r v0) (.is v0):=fun w D M V v h=>by
 obtain⟨h1,h2⟩:=(show v=V r/\V r=v0 from h)
 subst h1
 rw[h2]
 exact .cell v0
section
variable{P:Program}{cx:Cx}{T:TL}{B:BL}{R:RL}{M:Nat->Nat}{V:Nat->Value}{o:Oper}
theorem Rel.appended{a:Act}{w w':World}(hrel:Rel cx T B R M V a w){r k n m d:Nat}{ty:TypeId}{ds es:List Dat}{v':Value}{xs news:List Value}(hr:lk r R=some ⟨ty,k,n,ds,false⟩)(hfx:Fits w (Dc cx B R M V w) ds xs)(hfe:Fits w (Dc cx B R M V w) es news)(hown':w'.ownsRow 0 ty k v' (n+m) (xs++news))(hgr:w.grownBy w' (obk (V r)))(hblk:obk v'=obk (V r)\/obk v'=some w.heap.size)(hn:Nat.blt d cx.n=true)(hty:Nat.blt ty 1000000=true):
  ∃ V',V' r=v'/\Rel cx ((d,.own r)::J4 r T) (GE r B) ((r,⟨ty,k,n+m,ds++es,false⟩)::R) M V' (a.put (some d) v') w':=by
 exact hrel.grown (z':=⟨ty,k,n+m,ds++es,false⟩) (d:=d) hr rfl rfl hgr (fun g hg=>by
  have h1:=HC hg (CK hty)
  rcases hblk with h | h
  ·exact .inl (.inl (h▸h1))
  grind) (fun D' hk hD=>⟨_,.inl ⟨hty,hown'⟩,.inl ⟨CK hty,(hfx.append hfe).stay hk hD⟩⟩) hn
theorem Rel.own_newD{a:Act}{w w':World}(hrel:Rel cx T B R M V a w)(hb:Below w.heap.size w w'){ty k n:Nat}{v:Value}{cs:List Value}{ds:List Dat}(hds:Fits w' (Dc cx B R M V w) ds cs)(hown:w'.ownsRow w.heap.size ty k v n cs)(r:Nat)(hT:Q9 r T=true)(hB:Q0 r B=true)(hty:Nat.blt ty 1000000=true):∃ V',V' r=v/\Rel cx T B ((r,⟨ty,k,n,ds,false⟩)::R) M V' a w':=by
 have hlt:∀ g,obk v=some g->w.heap.size<=g/\g<w'.heap.size:=fun g hg=>hown.lt g ((DA hown).symm.trans hg)
 have hown0:w'.ownsRow 0 ty k v n cs:=by
  refine⟨hown.1,?_⟩
  rcases hown.2 with h | ⟨g,cap,cur,h1,_,h3⟩
  ·grind
  ·grind
 exact hrel.newrow (z':=⟨ty,k,n,ds,false⟩) hb rfl (fun g hg=>hlt g (HC hg (CK hty))) (fun D' hD=>⟨cs,.inl ⟨hty,hown0⟩,.inl ⟨CK hty,hds.stay (Keeps.refl _ _) hD⟩⟩) r hT hB
theorem HP{K:Act->World->Prop}(s:Nat){t r:Nat}{v0:Value}(ht:lk t T=some (atv r v0))(h:E cx ((s,F4 r v0)::T) B R K):E cx T B R K:=fun M V a w hr=>h M V a w ⟨hr.size,hr.defers,hr.heap,fun q z hz=>by
 rcases AK hz with⟨rfl,rfl⟩ | ⟨_,hz⟩
 ·exact(show _/\_ from hr.tmp t _ ht).2
 ·exact hr.tmp q z hz⟩
theorem NW{K:Act->World->Prop}{t r:Nat}(ht:lk t T=some (.own r))(h:∀ v0,E cx ((t,atv r v0)::T) B R K):E cx T B R K:=fun M V a w hr=>h (V r) M V a w ⟨hr.size,hr.defers,hr.heap,fun q z hz=>by
 rcases AK hz with⟨rfl,rfl⟩ | ⟨_,hz⟩
 ·exact⟨hr.tmp t _ ht,rfl⟩
 ·exact hr.tmp q z hz⟩
theorem VR.atv_of{w:World}{D:Nat->Prop}{r:Nat}{v0 v:Value}(h:VR w D M V (.is v0) v)(hp:V r=v0):VR w D M V (atv r v0) v:=by
 have h1:v=v0:=Lies.cell_eq h
 exact⟨h1.trans hp.symm,hp⟩
section
variable{ops:Array Oper}{Q:Exit->Act->World->Prop}{l:List Oper}
end
theorem NG{fn:Func}{Y:IV->BL->RL->Prop}{t r:Nat}{v0:Value}(B1:BL)(R1:RL)(hrs:fn.results=([]:List ResultVar).toArray)(ht:lk t T=some (F4 r v0))(hB:SubB B B1)(hR:SubR R R1)(hY:Y (F4 r v0) B1 R1):∀ M V a w,Rel cx T B R M V a w->a.defers=[] /\ ∃ v,(results fn a.tmps).run P w=.ok v w/\HV cx Y (.returned v) w:=fun M V a w hr=>by
 have h3:=hr.sub (T':=[]) trivial hB hR
 refine⟨hr.defers,.tuple #[],?_,_,F4 r v0,B1,R1,M,V,rfl,hY,h3.heap,hr.tmp t _ ht⟩
 simp_all[results]
theorem CN{fn:Func}{Y:IV->BL->RL->Prop}{t r:Nat}{v0:Value}(B1:BL)(R1:RL)(hrs:fn.results=([]:List ResultVar).toArray)(ht:lk t T=some (F4 r v0))(hB:SubB B B1)(hR:SubR R R1)(hY:Y (F4 r v0) B1 R1):E cx T B R (bodyPost P fn (HV cx Y) .normal):=NG B1 R1 hrs ht hB hR hY
end
end
section
section
variable{P:Program}{cx:Cx}{T:TL}{B:BL}{R:RL}{o:Oper}{ops:Array Oper}{Q:Exit->Act->World->Prop}{l:List Oper}
theorem IN(m:Nat)(w:World){t e:TypeId}(h:P.underlying t=some (.slice e))(p:Option Addr)(n c:Nat):(Op.equalIn (m+1) t (.slice p n c) (.slice none 0 0)).run P w=.ok p.isNone w:=by
 rw[Op.equalIn,Sem.run_bind,run_underlying h]
 cases p<;>rfl
theorem K5(w:World){t e:TypeId}(h:P.underlying t=some (.slice e))(p:Option Addr)(n c:Nat):(Op.equal t (.slice p n c) (.slice none 0 0)).run P w=.ok p.isNone w:=IN 9999 w h p n c
theorem QW{t e:TypeId}(p:Option Addr)(n c:Nat)(h:P.underlying t=some (.slice e)):G8 P .eql t (.slice p n c) (.slice none 0 0) (.bool p.isNone):=fun x y w=>by
 simp_all[eqGuard,binOp,K5]
theorem NC{d:Nat}{x:Operand}{t t' e:TypeId}{k n:Nat}{ds:List Dat}(hg:o.guard=none)(hd:o.dst=some d)(hn:Nat.blt d cx.n=true)(ho:o.op=.binOp .eql t x (.const (.slice none 0 0)) t')(hx:Kn T x (.part (.one (.row k n ds))))(ht:P.underlying t=some (.slice e))
  (h1:n=0->E cx ((d,.is (.bool true))::T) B R (wpList P ops Q l)) (h0:E cx ((d,.is (.bool false))::T) B R (wpList P ops Q l)):E cx T B R (wpList P ops Q (o::l)):=fun M V a w hr=>by
 have hv:Lies w (Dc cx B R M V w) (.row k n ds) (a.eval x):=hx w (Dc cx B R M V w) M V a fun t z _ hz=>hr.tmp t z hz
 obtain⟨p,m,c,e,hp⟩:∃ p m c,a.eval x=.slice p m c/\(p.isNone=true->n=0):=by
  generalize a.eval x=u at hv
  cases hv with
  | none k p c=>grind
  | row k n' b off c es X hn0 _ hl hDb hc hX=>grind
 have hb:=QW (P:=P) (t:=t) p m c ht x (.const (.slice none 0 0)) w
 have hrun:(execOp a.eval o).run P w=.ok (.value (.bool p.isNone)) w:=by
  have e2:a.eval (.const (.slice none 0 0))=.slice none 0 0:=rfl
  unfold execOp
  simp only[ho,e,e2]
  rw[Sem.run_bind,hb]
  rfl
 refine wpList_plain hg fun K hK=>?_
 unfold Oper.wp
 rw[hrun]
 simp only[Oper.upon,hd]
 refine hK _ _ ?_
 have hr1:Rel cx ((d,.is (.bool p.isNone))::T) B R M V (a.put (some d) (.bool p.isNone)) w:=hr.put (Below.refl _ _) (CJ hn) (.cell _)
 cases hq:p.isNone with
 | true=>rw[hq]at hr1;exact h1 (hp hq) M V _ _ hr1
 | false=>rw[hq]at hr1;exact h0 M V _ _ hr1
theorem CP{K:Act->World->Prop}{r ty k n n':Nat}{ds ds':List Dat}{f:Bool}(hn:n=n')(hd:ds=ds')(h:E cx T B ((r,⟨ty,k,n',ds',f⟩)::R) K):E cx T B ((r,⟨ty,k,n,ds,f⟩)::R) K:=by
 subst hn
 subst hd
 exact h
end
def ddR:List Nat->RL->RL
 | _,[]=>[]
 | sn,(j,x)::l=>bif sn.any fun c=>Nat.beq c j then ddR sn l else(j,x)::ddR (j::sn) l
theorem R9:∀ (l:RL) (sn:List Nat) (b:Nat),b∉sn->lk b (ddR sn l)=lk b l
 | [],_,_,_=>rfl
 | (j,x)::l,sn,b,hb=>by
  unfold ddR
  cases h:sn.any fun c=>Nat.beq c j with
  | true=>
   obtain⟨c,hc,e⟩:=List.any_eq_true.1 h
   have e':c=j:=Nat.eq_of_beq_eq_true e
   have hj:j≠b:=fun e2=>hb (by grind)
   rw[cond_true,R9 l sn b hb,AX _ _ hj]
  | false=>
   rw[cond_false]
   by_cases e:j=b
   ·grind[BG]
   ·rw[AX _ _ e,AX _ _ e]
    exact R9 l (j::sn) b (by
     grind)
section
variable{cx:Cx}{T:TL}{B:BL}{R R':RL}{K:Act->World->Prop}
theorem Dc.lkR(h:∀ b,lk b R=lk b R')(M:Nat->Nat)(V:Nat->Value)(w:World):Dc cx B R M V w=Dc cx B R' M V w:=by
 grind[Dc]
theorem XA(h:∀ b,lk b R=lk b R')(hE:E cx T B R' K):E cx T B R K:=fun M V a w hr=>by
 have hD:=Dc.lkR (cx:=cx) (B:=B) h M V w
 have hh:=hr.heap
 refine hE M V a w ⟨hr.size,hr.defers,⟨hh.below,hh.d0,hh.bl,hh.gl,fun b x hx=>?_,fun r x hx=>?_,fun r x g hx=>hh.ro r x g (by rw[h];exact hx),hh.pin,hh.bb,fun b r x y g hx hy=>hh.br b r x y g hx (by rw[h];exact hy),fun r q x y g hx hy=>hh.rr r q x y g (by rw[h];exact hx) (by grind)⟩,fun t x hx=>?_⟩
 ·have:=hh.box b x hx
  grind
 ·have:=hh.row r x (by grind)
  grind
 ·have:=hr.tmp t x hx
  grind
theorem RZ(hE:E cx T B R K):E cx T B (ddR [] R) K:=XA (fun b=>R9 R [] b (by simp)) hE
end
end
section
variable{P:Program}{cx:Cx}{T:TL}{B:BL}{R:RL}{o:Oper}{ops:Array Oper}{Q:Exit->Act->World->Prop}{l:List Oper}
theorem NK{K:Act->World->Prop}{t s r:Nat}{v0:Value}(ht:lk t T=some (.is v0))(hp:lk s T=some (F4 r v0))(h:E cx ((t,.own r)::T) B R K):E cx T B R K:=fun M V a w hr=>h M V a w ⟨hr.size,hr.defers,hr.heap,fun q z hz=>by
 rcases AK hz with⟨rfl,rfl⟩ | ⟨_,hz⟩
 ·have h1:V r=v0:=hr.tmp s _ hp
  have h2:a.tmps.getD t undef=v0:=Lies.cell_eq (hr.tmp t _ ht)
  exact h2.trans h1.symm
 ·exact hr.tmp q z hz⟩
theorem CS{x y:Operand}{st:TypeId}{r ty k n j:Nat}{ds ds':List Dat}{d:Dat}(hg:o.guard=none)(hd:o.dst=none)(ho:o.op=.store st x y)(hx:Kn T x (.via r (AtV j)))(hr:lk r R=some ⟨ty,k,n,ds,false⟩)(hy:Kn T y (.part (.one d)))(h1:d.isOne=true)(hj:j<ds.length)(hs:sizeT P st=some 1)(hds:ds.set j d=ds')
  (hE:E cx T B ((r,⟨ty,k,n,ds',false⟩)::R) (wpList P ops Q l)) (hty:Nat.blt ty 1000000=true:=by rfl):E cx T B R (wpList P ops Q (o::l)):=fun M V a w hrel=>by
 subst hds
 obtain⟨g,n',c,hVr,hxv⟩:AtV j (V r) (a.eval x):=hx w (Dc cx B R M V w) M V a fun t z _ hz=>hrel.tmp t z hz
 have hyv:Lies w (Dc cx B R M V w) d (a.eval y):=hy w (Dc cx B R M V w) M V a fun t z _ hz=>hrel.tmp t z hz
 have hone:=hyv.one h1
 obtain⟨w',hst,hrel'⟩:=HR.own_store (P:=P) hrel hr hVr (es:=[d]) (us:=[a.eval y]) (j:=j) (by simp only[List.length_singleton];omega) (by simp) (Fits.cons hyv (Fits.nil _ _)) (fun u hu=>by grind) hty
 rw[show ds.take j++[d]++ds.drop (j+[d].length)=ds.set j d by simp_all[List.set_eq_take_append_cons_drop]]at hrel'
 refine wpList_plain hg fun K hK=>?_
 have:=hK _ _ (hE M V _ _ hrel')
 have hsz:=CW hs (w:=w)
 have hccl:(a.eval y).cells = #[a.eval y]:=by
  revert hone
  cases a.eval y<;>intro h<;>first | rfl | cases h
 simp_all[Oper.wp,execOp,Instr.storeAt,Instr.sureAddr,storeVar,Oper.upon,Act.put]
theorem O6{K:Act->World->Prop}{t s r:Nat}{v0:Value}(ht:lk t T=some (.is v0))(hp:lk s T=some (F4 r v0))(h:E cx ((t,atv r v0)::T) B R K):E cx T B R K:=fun M V a w hr=>h M V a w ⟨hr.size,hr.defers,hr.heap,fun q z hz=>by
 rcases AK hz with⟨rfl,rfl⟩ | ⟨_,hz⟩
 ·exact(hr.tmp t _ ht).atv_of (hr.tmp s _ hp)
 ·exact hr.tmp q z hz⟩
theorem PY{fn:Func}{Y:IV->BL->RL->Prop}{t:Nat}{y:IV}(B1:BL)(R1:RL)(hrs:fn.results = #[.tmp t])(ht:lk t T=some y)(hB:SubB B B1)(hR:SubR R R1)(hY:Y y B1 R1):E cx T B R (bodyPost P fn (HV cx Y) .ret):=fun M V a w hr=>by
 have h3:=hr.sub (T':=[(t,y)]) ⟨PA _ ht,trivial⟩ hB hR
 refine⟨hr.defers,a.tmps.getD t undef,?_,_,y,B1,R1,M,V,rfl,hY,h3.heap,h3.tmp t y (BG _ _ _)⟩
 simp_all[results]
theorem V4{d:Nat}{f:FuncId}{xs:List Operand}{ts:Array TypeId}{ys:List IV}{B0:BL}{R0:RL}{Y:IV->BL->RL->Prop}(hg:o.guard=none)(hd:o.dst=some d)(hn:Nat.blt d cx.n=true)(ho:o.op=.call { callee:=.value (.func f),args:=xs.toArray,argTypes:=ts })(hc:B8 P f=true)
  (hf:EG P cx.gl f ys B0 R0 Y) (hB:LentB B B0) (hR:LentR R R0) (hx:∀ (w:World) (D:Nat->Prop) (M:Nat->Nat) (V:Nat->Value) (a:Act),(∀ t z,lk t T=some z->VR w D M V z (a.tmps.getD t undef))->VRs w D M V ys (xs.map a.eval)) (hY:∀ y B1 R1,Y y B1 R1->QE B0 R0 y B1 R1)
  (hE:∀ y B1 R1,Y y B1 R1->E cx ((d,y)::GM (names R0) T) (B1++ED (names R0) B) (R1++R) (wpList P ops Q l)):E cx T B R (wpList P ops Q (o::l)):=fun M V a w hr=>by
 refine wpList_plain hg fun K hK=>?_
 have hrun:(execOp a.eval o).run P w=.ok (.enter f (xs.map a.eval).toArray) w:=by
  have he:a.eval (.func f)=.func (.func f) #[] #[]:=rfl
  simp[execOp,ho,resolve,he,Deferred.ofValue,invoke,DE hc]
 unfold Oper.wp
 rw[hrun]
 simp only[Oper.upon,hd]
 exact(I1 (ρ:=fun b=>b) (σ:=fun r=>r) hr (LentI.lent ⟨fun _ _ h=>hB.get h,fun _ _ h=>hR.get h⟩) (by rw[EP];exact hx w (Dc cx B R M V w) M V a fun t z hz=>hr.tmp t z hz) hf hY (CJ hn)).mono fun e w' ⟨v,y,B1,R1,V',h1,h2,h3⟩=>by
  subst h1
  rw[IV.ren_id,NM,NJ,List.map_id']at h3
  exact hK _ _ (hE y B1 R1 h2 M V' _ _ h3)
end
section
theorem Lies.kid{w:World}{D:Nat->Prop}{d:Dat}{x:Value}(h:Lies w D d x):KidFit w D d x/\kidBlk d=Option.none:=by
 cases d with
 | orow=>cases h
 | optr=>cases h
 | _=>exact⟨h,rfl⟩
variable{P:Program}{cx:Cx}{T:TL}{B:BL}{R:RL}{M:Nat->Nat}{V:Nat->Value}{o:Oper}{ops:Array Oper}{Q:Exit->Act->World->Prop}{l:List Oper}
end
section
section
variable{P:Program}{cx:Cx}{T:TL}{B:BL}{R:RL}{M:Nat->Nat}{V:Nat->Value}{o:Oper}{ops:Array Oper}{Q:Exit->Act->World->Prop}{l:List Oper}
def PinV(V:Nat->Value):List (Nat×Value)->Prop
 | []=>True
 | x::l=>V x.1=x.2/\PinV V l
def PinL(T:TL):List (Nat×Value)->Prop
 | []=>True
 | x::l=>lk (9000+x.1) T=some (F4 x.1 x.2)/\PinL T l
theorem PinL.v{a:Act}{w:World}(hr:Rel cx T B R M V a w):∀ {p:List (Nat×Value)},PinL T p->PinV V p
 | [],_=>trivial
 | _::_,h=>⟨hr.tmp _ _ h.1,PinL.v hr h.2⟩
theorem PinV.of{V V':Nat->Value}:∀ {p:List (Nat×Value)},(∀ x∈p,V x.1=V' x.1)->PinV V p->PinV V' p
 | [],_,_=>trivial
 | x::p,h,hp=>⟨(h x List.mem_cons_self).symm.trans hp.1,PinV.of (fun y hy=>h y (List.mem_cons_of_mem _ hy)) hp.2⟩
def WM(cx:Cx)(Y:IV->BL->RL->List (Nat×Value)->Prop)(e:Ending)(w':World):Prop:=∃ v y B1 R1 p1 M1 V1,e=.returned v/\Y y B1 R1 p1/\HR cx B1 R1 M1 V1 w'/\VR w' (Dc cx B1 R1 M1 V1 w') M1 V1 y v/\PinV V1 p1
def EGp(P:Program)(gls:List (Nat×List Value))(f:FuncId)(xs:List IV)(B:BL)(R:RL)(p:List (Nat×Value))(Pre:(Nat->Nat)->Prop)(Y:IV->BL->RL->List (Nat×Value)->Prop):Prop:=
 ∀ (w:World) (D:Nat->Prop) (M:Nat->Nat) (V:Nat->Value) (vs:List Value) (n:Nat),HR (lcx w D n gls B R M V) B R M V w->VRs w (Dc (lcx w D n gls B R M V) B R M V w) M V xs vs->Pre M->PinV V p->Calls P f vs.toArray w (WM (lcx w D n gls B R M V) Y)
def X1(T:TL)(xs:List Operand)(ys:List IV):Prop:=∀ (w:World) (D:Nat->Prop) (M:Nat->Nat) (V:Nat->Value) (a:Act),(∀ t z,lk t T=some z->VR w D M V z (a.tmps.getD t undef))->VRs w D M V ys (xs.map a.eval)
theorem KnX.all{xs:List Operand}{ys:List IV}(h:KnX T xs ys):X1 T xs ys:=fun _ _ _ _ _ hT=>h.vrs hT
theorem Imp.ref_pref(ds:List Dat):Imp (.ref ds) (.part (.one (.pref ds))):=fun w D M V v h=>by
 obtain⟨b,o,rfl,hb,xs,hf,hc⟩:=h
 refine .pref b o ds (fun j=>xs.getD j undef) hb (fun j hj=>?_) (fun j d hd=>?_)
 ·have hx:xs[j]?=some (xs.getD j undef):=by
   rw[List.getD_eq_getElem?_getD,List.getElem?_eq_getElem (by rw[<- hf.1];exact hj)]
   rfl
  grind
 ·have hj:j<xs.length:=by
   rw[<- hf.1]
   rcases Nat.lt_or_ge j ds.length with h | h
   ·exact h
   ·grind
  have hx:xs[j]?=some (xs.getD j undef):=by
   rw[List.getD_eq_getElem?_getD,List.getElem?_eq_getElem hj]
   rfl
  exact hf.2 j d _ hd hx
theorem Imp.pref_ref(ds:List Dat):Imp (.part (.one (.pref ds))) (.ref ds):=fun w D M V v h=>by
 have h':Lies w D (.pref ds) v:=h
 cases h' with
 | pref b o ds X hb hc hX=>
  refine⟨b,o,rfl,hb,(List.range ds.length).map X,⟨by simp,fun j d x hd hx=>?_⟩,fun j x hx=>?_⟩
  ·grind
  grind
end
end
section
section
variable{P:Program}{ops:Array Oper}{C:World->Prop}{R:World->World->Prop}
end
section
variable{P:Program}{cx:Cx}{T T':TL}{B:BL}{R:RL}
theorem Walk.len{ops:Array Oper}{l:List Oper}{ys:List IV}(h:Walk P cx B R ops l T ys T'):ys.length=l.length:=by
 induction h with
 | nil=>rfl
 | op _ _ _ _ _ ih=>simp[ih]
 | gd _ _ _ _ _ _ ih=>simp[ih]
def Dat.plain:Dat->Bool
 | .cell _=>true
 | _=>false
def IV.free:IV->Bool
 | .part (.one d)=>d.plain
 | .part (.many ds)=>ds.all Dat.plain
 | .opt _ x=>x.free
 | .junk=>true
 | _=>false
theorem L5{d:Dat}(h:d.plain=true){w w':World}{D D':Nat->Prop}{v:Value}(hv:Lies w D d v):Lies w' D' d v:=by
 cases d with
 | cell c=>obtain rfl:=hv.cell_eq;exact .cell _
 | _=>cases h
theorem RV:∀ {x:IV} (_:x.free=true) {w w':World} {D D':Nat->Prop} {M M':Nat->Nat} {V V':Nat->Value} {v:Value},VR w D M V x v->VR w' D' M' V' x v
 | .part (.one _),h,_,_,_,_,_,_,_,_,_,hv=>L5 h hv
 | .part (.many ds),h,w,w',D,D',M,M',V,V',v,hv=>by
  obtain⟨xs,h1,h2⟩:=hv
  refine⟨xs,h1,h2.1,fun j d u hd hu=>L5 (List.all_eq_true.1 h d (List.mem_of_getElem? hd)) (h2.2 j d u hd hu)⟩
 | .opt _ x,h,_,_,_,_,_,_,_,_,_,hv=>⟨fun e=>RV (show x.free=true from h) (hv.1 e),hv.2⟩
 | .junk,_,_,_,_,_,_,_,_,_,_,_=>trivial
def SubN(T T':TL)(l:List Oper):TL->Prop
 | []=>True
 | x::m=>((lk x.1 T'=some x.2/\x.2.free=true)\/(lk x.1 T=some x.2/\l.all (fun o=>match o.dst with | some d => !Nat.beq d x.1 | none=>true)=true))/\SubN T T' l m
theorem SubN.get{l:List Oper}:∀ {T0:TL},SubN T T' l T0 -> ∀ {t x},lk t T0=some x->(lk t T'=some x/\x.free=true)\/(lk t T=some x /\ ∀ o∈l,o.dst≠some t)
 | [],_,_,_,h=>by cases h
 | y::m,hs,t,x,h=>by
  rcases AK (show lk t ((y.1,y.2)::m)=some x from h)with⟨rfl,rfl⟩ | ⟨_,h⟩
  ·rcases hs.1 with h1 | ⟨h1,h2⟩
   ·grind
   ·refine .inr ⟨h1,fun o ho e=>?_⟩
    have h3:=List.all_eq_true.1 h2 o ho
    simp_all
  ·exact hs.2.get h
end
end
section
section
variable{P:Program}{cx:Cx}{T:TL}{B:BL}{R:RL}
theorem Far.cells(vs:List Value):Far (.tup (vs.map fun v=>.one (.cell v))) (.tup (vs.map fun v=>.one (.cell v))):=fun w D M V w' D' M' V' v h=>by
 obtain⟨us,h1,h2⟩:=h
 obtain rfl:=JS h2
 exact⟨_,h1,KL _ _ _⟩
theorem Far.free{y:IV}(h:y.free=true):Far y y:=fun _ _ _ _ _ _ _ _ _ hv=>RV h hv
theorem EG.p{gls:List (Nat×List Value)}{f:FuncId}{xs:List IV}{Y:IV->BL->RL->Prop}{Pre:(Nat->Nat)->Prop}(h:EG P gls f xs B R Y):EGp P gls f xs B R [] Pre (fun y B1 R1 p1=>Y y B1 R1/\p1=[]):=fun w D M V vs n hh hv _ _=>
 (h w D M V vs n hh hv).mono fun e w' ⟨v,y,B1,R1,M1,V1,a1,a2,a3,a4⟩=>⟨v,y,B1,R1,[],M1,V1,a1,⟨a2,rfl⟩,a3,a4,trivial⟩
end
end
end Go.Proofs.Ytecfdcdkkgmkpaa
