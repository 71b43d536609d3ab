/- Part 9. Conditions: as each theorem says. -/
import Derived.Test.YtjpghcmlglhmbaaMF08
import Derived.Laws.MakeOwn
import Derived.Laws.Entries
set_option maxRecDepth 100000
namespace Go.Proofs.Ytjpghcmlglhmbaa
open Go.RowKit
section
variable{P:Program}{cx:Cx}{T:TL}{B:BL}{R:RL}{o:Oper}{ops:Array Oper}{Q:Exit->Act->World->Prop}{l:List Oper}
theorem HZ{z:Value}{zs:List Value}(hz:z.cells.toList=zs)(n:Nat):(madeCells z.cells (n*z.cells.size)).toList=(List.replicate n zs).flatten:=by
 subst hz
 have h:=HH z.cells.toList n
 rw[Array.length_toList]at h
 rw[<- h]
 unfold madeCells
 rfl
theorem N2(r:Nat){d:Nat}{t ty:TypeId}{k n bytes:Nat}{x y:Operand}{kl kc:IntKind}{zs:List Value}{ds:List Dat}(hg:o.guard=none)(hd:o.dst=some d)(hn:Nat.blt d cx.n=true)(ho:o.op=.makeSlice t x y)(hx:Kn T x (.is (.int kl (n:Int))))(hy:Kn T y (.is (.int kc (n:Int))))(ht:P.underlying t=some (.slice ty))(hz:(P.info? ty).map (fun i=>(i.size,i.bytes,i.zero.map (·.cells.size)))=some (k,bytes,some k))(hzs:BQ P ty=some zs)
  (hb1:n<=140737488355328) (hb2:bytes*n<=140737488355328) (hds:(List.replicate n zs).flatten.map Dat.cell=ds) (hT:H6 r T=true) (hB:H7 r B=true) (hE:E cx ((d,.own r)::T) B ((r,⟨ty,k,n,ds,false⟩)::R) (wpList P ops Q l)) (hty:Nat.blt ty 1000000=true:=by rfl):E cx T B R (wpList P ops Q (o::l)):=fun M V a w hrel=>by
 subst hds
 refine wpList_plain hg fun K hK=>?_
 have hxv:a.eval x=.int kl (n:Int):=(hx w (Dc cx B R M V w) M V a fun t z _ hz=>hrel.tmp t z hz).is_eq
 have hyv:a.eval y=.int kc (n:Int):=(hy w (Dc cx B R M V w) M V a fun t z _ hz=>hrel.tmp t z hz).is_eq
 cases hi:P.info? ty with
 | none=>simp[hi]at hz
 | some i=>
  simp only[hi,Option.map_some,Option.some.injEq,Prod.mk.injEq]at hz
  obtain⟨h1,h2,h3⟩:=hz
  obtain⟨z,hz0,hzk⟩:∃ z,i.zero=some z/\z.cells.size=k:=by
   cases hz0:i.zero with
   | none=>simp[hz0]at h3
   | some z=>exact⟨z,rfl,by simpa[hz0]using h3⟩
  have hzc:z.cells.toList=zs:=by simpa[BQ,hi,hz0]using hzs
  have hbz:(i.bytes:Int)*(n:Int)<=281474976710656:=by
   rw[h2,<- Int.natCast_mul]
   omega
  have hrun:=run_make (P:=P) w t ty i z ht hi hz0 kl kc (n:Int) (n:Int) (by omega) (by omega) hbz (by omega)
  simp only[Int.toNat_natCast]at hrun
  rw[h1,<- hzk]at hrun
  have hcl:=HZ hzc n
  have hlen:(List.replicate n zs).flatten.length=n*k:=by
   rw[<- hcl,Array.length_toList,size_madeCells,hzk]
  have hb:Below w.heap.size w (w.alloc (.cells (madeCells z.cells (n*z.cells.size)) ty)):=(Below.refl _ _).alloc (Nat.le_refl _) _
  have hown:(w.alloc (.cells (madeCells z.cells (n*z.cells.size)) ty)).ownsRow w.heap.size ty k (.slice (some ⟨w.heap.size,0,none⟩) n n) n (List.replicate n zs).flatten:=
   ⟨hlen,.inr ⟨w.heap.size,n,_,rfl,Nat.le_refl _,heap_alloc_new w _,Nat.le_refl _,by simp only[maxLen];omega,by rw[size_madeCells,hzk],by rw[hcl,<- hlen,List.take_length]⟩⟩
  obtain⟨V',hVr,hr0⟩:=hrel.own_new hb hown r hT hB hty
  have:=hK _ _ (hE M V' _ _ (hr0.put (Below.refl _ _) (BB hn) hVr.symm))
  unfold Oper.wp execOp
  simp only[ho,hxv,hyv,Sem.run_bind,hrun]
  simp only[Oper.upon,hd]
  exact this
theorem ML{K:Act->World->Prop}(r:Nat){ty:TypeId}{k n:Nat}{ds es:List Dat}(hr:lk r R=some ⟨ty,k,n,ds,false⟩)(hi:∀ M V a w,Rel cx T B R M V a w -> ∀ xs,Fits w (Dc cx B R M V w) ds xs->Fits w (Dc cx B R M V w) es xs)(h:E cx T B ((r,⟨ty,k,n,es,false⟩)::R) K)(hty2:Nat.blt ty 2000000=true:=by rfl):E cx T B R K:=fun M V a w hrel=>by
 have h1:Gx w (Dc cx B R M V w) 0 ty k (V r) n ds:=hrel.heap.row r _ hr
 refine h M V a w (hrel.turned (z':=⟨ty,k,n,es,false⟩) hr rfl rfl (fun _ _=>rfl) rfl rfl rfl rfl (fun g hg=>.inl (DW hg hty2)) fun D' hk hD=>?_)
 obtain⟨xs,a2,a3⟩:=h1
 exact⟨xs,a2,.inl ⟨hty2,(hi M V a w hrel xs (a3.row hty2)).stay hk hD⟩⟩
theorem KH{w:World}{D:Nat->Prop}{ds:List Dat}{xs:List Value}(h:Fits w D ds xs){j:Nat}{d:Dat}(hj:∀ v,xs[j]?=some v->Lies w D d v):Fits w D (ds.set j d) xs:=by
 refine⟨by simp[h.1],fun i e v he hv=>?_⟩
 rw[List.getElem?_set]at he
 split at he
 ·rename_i hji
  subst hji
  split at he
  ·obtain rfl:=Option.some.inj he
   exact hj v hv
  ·cases he
 ·exact h.2 i e v he hv
theorem MV{K:Act->World->Prop}(j:Nat){s r q ty k n:Nat}{v0:Value}{y:Rw}{ds es:List Dat}(hp:lk s T=some (J4 q v0))(hr:lk r R=some ⟨ty,k,n,ds,false⟩)(hq:lk q R=some y)(hf:y.fz=true)(hj:ds[j]?=some (.cell v0))(hes:ds.set j (datOf y)=es)(h:E cx T B ((r,⟨ty,k,n,es,false⟩)::R) K)(hty2:Nat.blt ty 2000000=true:=by rfl):E cx T B R K:=by
 subst hes
 refine ML r hr (fun M V a w hrel xs hx=>KH hx fun v hv=>?_) h hty2
 have h1:V q=v0:=hrel.tmp s _ hp
 have h2:=hrel.heap.row q y hq
 rw[if_pos hf,h1]at h2
 rw[(hx.2 j _ v hj hv).cell_eq]
 exact h2
theorem KU{K:Act->World->Prop}(r:Nat){y:Rw}(hy:lk r R=some y)(hf:y.fz=false)(h:E cx T B ((r,⟨y.ty,y.k,y.n,y.ds,true⟩)::R) K):E cx T B R K:=fun M V a w hr=>h M V a w (hr.freeze r hy hf)
theorem AZ{x y:Operand}{st:TypeId}{r ty k n j:Nat}{ds ds':List Dat}{d:Dat}(hg:o.guard=none)(hd:o.dst=none)(ho:o.op=.store st x y)(hx:Kn T x (.via r (AtV j)))(hr:lk r R=some ⟨ty,k,n,ds,false⟩)(hy:Kn T y (.part (.one d)))(h1:d.isOne=true)(hj:j<ds.length)(hs:sizeT P st=some 1)(hds:ds.set j d=ds')
  (hE:E cx T B ((r,⟨ty,k,n,ds',false⟩)::R) (wpList P ops Q l)) (hty:Nat.blt ty 1000000=true:=by rfl):E cx T B R (wpList P ops Q (o::l)):=fun M V a w hrel=>by
 subst hds
 obtain⟨g,n',c,hVr,hxv⟩:AtV j (V r) (a.eval x):=hx w (Dc cx B R M V w) M V a fun t z _ hz=>hrel.tmp t z hz
 have hyv:Lies w (Dc cx B R M V w) d (a.eval y):=hy w (Dc cx B R M V w) M V a fun t z _ hz=>hrel.tmp t z hz
 have hone:=hyv.one h1
 obtain⟨w',hst,hrel'⟩:=HR.own_store (P:=P) hrel hr hVr (es:=[d]) (us:=[a.eval y]) (j:=j) (by simp only[List.length_singleton];omega) (by simp) (Fits.cons hyv (Fits.nil _ _)) (fun u hu=>by rw[List.mem_singleton.1 hu];exact hone) hty
 rw[show ds.take j++[d]++ds.drop (j+[d].length)=ds.set j d by rw[List.set_eq_take_append_cons_drop,if_pos hj];simp]at hrel'
 refine wpList_plain hg fun K hK=>?_
 have:=hK _ _ (hE M V _ _ hrel')
 have hsz:=BT hs (w:=w)
 have hccl:(a.eval y).cells = #[a.eval y]:=by
  revert hone
  cases a.eval y<;>intro h<;>first | rfl | cases h
 unfold Oper.wp execOp
 simp only[ho,hxv,Instr.storeAt,Instr.sureAddr,Sem.run_bind,Sem.run_pure,Result.andThen_ok]
 simp[storeVar,hsz,hccl,hst,Oper.upon,hd,Act.put]
 exact this
theorem IC(r:Nat)(v0:Value):Imp (atv r v0) (.own r):=fun _ _ _ _ _ h=>h.1
theorem IE{K:Act->World->Prop}{t s r:Nat}{v0:Value}(ht:lk t T=some (.is v0))(hp:lk s T=some (J4 r v0))(h:E cx ((t,atv r v0)::T) B R K):E cx T B R K:=fun M V a w hr=>h M V a w ⟨hr.size,hr.defers,hr.heap,fun q z hz=>by
 rcases A8 hz with⟨rfl,rfl⟩ | ⟨_,hz⟩
 ·exact(hr.tmp t _ ht).atv_of (hr.tmp s _ hp)
 ·exact hr.tmp q z hz⟩
theorem CC{fn:Func}{Y:IV->BL->RL->Prop}{t:Nat}{y:IV}(B1:BL)(R1:RL)(hrs:fn.results = #[.tmp t])(ht:lk t T=some y)(hB:SubB B B1)(hR:SubR R R1)(hY:Y y B1 R1):E cx T B R (bodyPost P fn (I7 cx Y) .ret):=fun M V a w hr=>by
 have h3:=hr.sub (T':=[(t,y)]) ⟨HB _ ht,trivial⟩ hB hR
 refine⟨hr.defers,a.tmps.getD t undef,?_,_,y,B1,R1,M,V,rfl,hY,h3.heap,h3.tmp t y (AS _ _ _)⟩
 have e:results fn a.tmps=(do let vs <- fn.results.mapM (DU a.tmps);pure (if h:vs.size=1 then vs[0]else .tuple vs)):=by
  unfold results
  congr 1
 rw[e,hrs]
 simp[DU]
end
section
variable{P:Program}{cx:Cx}{T:TL}{B:BL}{R:RL}{M:Nat->Nat}{V:Nat->Value}{o:Oper}{ops:Array Oper}{Q:Exit->Act->World->Prop}{l:List Oper}
theorem IW{f:FuncId}{xs:List Operand}{ts:Array TypeId}{ps:List Part}{y y':IV}(ho:o.op=.call { callee:=.value (.func f),args:=xs.toArray,argTypes:=ts })(hc:BZ P f=true)(hf:EF P cx.gl f ps y)
  (hx:∀ (w:World) (D:Nat->Prop) (M:Nat->Nat) (V:Nat->Value) (a:Act),(∀ t z,.tmp t∈xs->lk t T=some z->VR w D M V z (a.tmps.getD t undef))->(∀ r x,lk r R=some x->Lies w D (datOf x) (V r))->PsFit w D ps (xs.map a.eval)) (hy:Far y y'):LStep P cx B R o T y':=fun M V w a hh ht=>by
 have hrun:(execOp a.eval o).run P w=.ok (.enter f (xs.map a.eval).toArray) w:=by
  have he:a.eval (.func f)=.func (.func f) #[] #[]:=rfl
  simp[execOp,ho,resolve,he,Deferred.ofValue,invoke,BP hc]
 rw[hrun]
 let D':Nat->Prop:=fun g=>Dc cx B R M V w g \/ ∃ r x,lk r R=some x/\x.fz=false/\obs x.ty x.ds (V r) g
 have hk:=Keeps.refl (Dc cx B R M V w) w
 have hDD:∀ g,Dc cx B R M V w g->D' g:=fun g h=>.inl h
 have hD':∀ g,D' g->g<w.heap.size:=fun g hg=>by
  rcases(show Dc cx B R M V w g \/ ∃ r x,lk r R=some x/\x.fz=false/\obs x.ty x.ds (V r) g from hg)with hg | ⟨r,x,h1,h2,h3⟩
  ·exact hh.dlt hg
  ·have h4:=hh.row r x h1
   rw[h2]at h4
   exact Gx.lt h4 g h3
 have hp:PsFit w D' ps (xs.map a.eval):=hx w D' M V a (fun t z hm hz=>(ht t z (by rw[ho];simp only[Op.operands,Call.operands];simp[hm]) hz).stay hk hDD) fun r x hr=>by
  have h4:=hh.row r x hr
  cases hfz:x.fz with
  | true=>
   rw[if_pos hfz]at h4
   exact h4.stay hk hDD
  | false=>
   rw[hfz]at h4
   exact Gx.frozen (show Gx w (Dc cx B R M V w) 0 x.ty x.k (V r) x.n x.ds from h4) hDD fun g hg=>.inr ⟨r,x,hr,hfz,hg⟩
 refine⟨rfl,(hf w D' (xs.map a.eval) hD' hh.glok hp).mono fun e w' ⟨v,y0,h1,h2,h3,h4⟩=>?_⟩
 subst h2
 exact⟨v,h1,h3,hy _ _ _ _ _ _ _ _ _ (h4 M V)⟩
end
section
section
variable{P:Program}{cx:Cx}{T:TL}{B:BL}{R:RL}{M:Nat->Nat}{V:Nat->Value}{o:Oper}{ops:Array Oper}{Q:Exit->Act->World->Prop}{l:List Oper}
def PinV(V:Nat->Value):List (Nat×Value)->Prop
 | []=>True
 | x::l=>V x.1=x.2/\PinV V l
def PinL(T:TL):List (Nat×Value)->Prop
 | []=>True
 | x::l=>lk (9000+x.1) T=some (J4 x.1 x.2)/\PinL T l
theorem PinL.v{a:Act}{w:World}(hr:Rel cx T B R M V a w):∀ {p:List (Nat×Value)},PinL T p->PinV V p
 | [],_=>trivial
 | _::_,h=>⟨hr.tmp _ _ h.1,PinL.v hr h.2⟩
theorem PinV.of{V V':Nat->Value}:∀ {p:List (Nat×Value)},(∀ x∈p,V x.1=V' x.1)->PinV V p->PinV V' p
 | [],_,_=>trivial
 | x::p,h,hp=>⟨(h x List.mem_cons_self).symm.trans hp.1,PinV.of (fun y hy=>h y (List.mem_cons_of_mem _ hy)) hp.2⟩
def MZ(cx:Cx)(Y:IV->BL->RL->List (Nat×Value)->Prop)(e:Ending)(w':World):Prop:=∃ v y B1 R1 p1 M1 V1,e=.returned v/\Y y B1 R1 p1/\HR cx B1 R1 M1 V1 w'/\VR w' (Dc cx B1 R1 M1 V1 w') M1 V1 y v/\PinV V1 p1
def EGp(P:Program)(gls:List (Nat×List Value))(f:FuncId)(xs:List IV)(B:BL)(R:RL)(p:List (Nat×Value))(Pre:(Nat->Nat)->Prop)(Y:IV->BL->RL->List (Nat×Value)->Prop):Prop:=
 ∀ (w:World) (D:Nat->Prop) (M:Nat->Nat) (V:Nat->Value) (vs:List Value) (n:Nat),HR (lcx w D n gls B R M V) B R M V w->VRs w (Dc (lcx w D n gls B R M V) B R M V w) M V xs vs->Pre M->PinV V p->Calls P f vs.toArray w (MZ (lcx w D n gls B R M V) Y)
def NJ(T:TL)(xs:List Operand)(ys:List IV):Prop:=∀ (w:World) (D:Nat->Prop) (M:Nat->Nat) (V:Nat->Value) (a:Act),(∀ t z,lk t T=some z->VR w D M V z (a.tmps.getD t undef))->VRs w D M V ys (xs.map a.eval)
theorem KnX.all{xs:List Operand}{ys:List IV}(h:KnX T xs ys):NJ T xs ys:=fun _ _ _ _ _ hT=>h.vrs hT
end
end
section
section
variable{P:Program}{ops:Array Oper}{C:World->Prop}{R:World->World->Prop}
end
section
variable{P:Program}{cx:Cx}{T T':TL}{B:BL}{R:RL}
theorem Walk.len{ops:Array Oper}{l:List Oper}{ys:List IV}(h:Walk P cx B R ops l T ys T'):ys.length=l.length:=by
 induction h with
 | nil=>rfl
 | op _ _ _ _ _ ih=>simp[ih]
 | gd _ _ _ _ _ _ ih=>simp[ih]
def Dat.plain:Dat->Bool
 | .cell _=>true
 | _=>false
def IV.free:IV->Bool
 | .part (.one d)=>d.plain
 | .part (.many ds)=>ds.all Dat.plain
 | .opt _ x=>x.free
 | .junk=>true
 | _=>false
theorem FB{d:Dat}(h:d.plain=true){w w':World}{D D':Nat->Prop}{v:Value}(hv:Lies w D d v):Lies w' D' d v:=by
 cases d with
 | cell c=>obtain rfl:=hv.cell_eq;exact .cell _
 | _=>cases h
theorem IJ:∀ {x:IV} (_:x.free=true) {w w':World} {D D':Nat->Prop} {M M':Nat->Nat} {V V':Nat->Value} {v:Value},VR w D M V x v->VR w' D' M' V' x v
 | .part (.one _),h,_,_,_,_,_,_,_,_,_,hv=>FB h hv
 | .part (.many ds),h,w,w',D,D',M,M',V,V',v,hv=>by
  obtain⟨xs,h1,h2⟩:=hv
  refine⟨xs,h1,h2.1,fun j d u hd hu=>FB (List.all_eq_true.1 h d (List.mem_of_getElem? hd)) (h2.2 j d u hd hu)⟩
 | .opt _ x,h,_,_,_,_,_,_,_,_,_,hv=>⟨fun e=>IJ (show x.free=true from h) (hv.1 e),hv.2⟩
 | .junk,_,_,_,_,_,_,_,_,_,_,_=>trivial
def SubN(T T':TL)(l:List Oper):TL->Prop
 | []=>True
 | x::m=>((lk x.1 T'=some x.2/\x.2.free=true)\/(lk x.1 T=some x.2/\l.all (fun o=>match o.dst with | some d => !Nat.beq d x.1 | none=>true)=true))/\SubN T T' l m
theorem SubN.get{l:List Oper}:∀ {T0:TL},SubN T T' l T0 -> ∀ {t x},lk t T0=some x->(lk t T'=some x/\x.free=true)\/(lk t T=some x /\ ∀ o∈l,o.dst≠some t)
 | [],_,_,_,h=>by cases h
 | y::m,hs,t,x,h=>by
  rcases A8 (show lk t ((y.1,y.2)::m)=some x from h)with⟨rfl,rfl⟩ | ⟨_,h⟩
  ·rcases hs.1 with h1 | ⟨h1,h2⟩
   ·exact .inl h1
   ·refine .inr ⟨h1,fun o ho e=>?_⟩
    have h3:=List.all_eq_true.1 h2 o ho
    rw[e]at h3
    simp at h3
  ·exact hs.2.get h
end
end
section
section
variable{P:Program}{cx:Cx}{T:TL}{B:BL}{R:RL}
def KnV(T:TL)(R:RL):List Operand->List Part->Prop
 | [],[]=>True
 | x::xs,p::ps=>(Kn T x (.part p) \/ ∃ r z,Kn T x (.own r)/\lk r R=some z/\p=.one (datOf z))/\KnV T R xs ps
 | _,_=>False
theorem KnV.shows:∀ {xs:List Operand} {ps:List Part},KnV T R xs ps -> ∀ (w:World) (D:Nat->Prop) (M:Nat->Nat) (V:Nat->Value) (a:Act),(∀ t z,.tmp t∈xs->lk t T=some z->VR w D M V z (a.tmps.getD t undef))->(∀ r x,lk r R=some x->Lies w D (datOf x) (V r))->PsFit w D ps (xs.map a.eval)
 | [],[],_,_,_,_,_,_,_,_=>trivial
 | [],_::_,h,_,_,_,_,_,_,_=>h.elim
 | _::_,[],h,_,_,_,_,_,_,_=>h.elim
 | x::xs,p::ps,h,w,D,M,V,a,h1,h2=>by
  refine⟨?_,KnV.shows h.2 w D M V a (fun t z hm=>h1 t z (List.mem_cons_of_mem _ hm)) h2⟩
  rcases h.1 with hk | ⟨r,z,hk,hz,rfl⟩
  ·exact hk w D M V a fun t z e hz=>h1 t z (by rw[e];exact List.mem_cons_self) hz
  ·have h3:a.eval x=V r:=hk w D M V a fun t z e hz=>h1 t z (by rw[e];exact List.mem_cons_self) hz
   show Lies w D (datOf z) (a.eval x)
   rw[h3]
   exact h2 r z hz
theorem Far.cells(vs:List Value):Far (.tup (vs.map fun v=>.one (.cell v))) (.tup (vs.map fun v=>.one (.cell v))):=fun w D M V w' D' M' V' v h=>by
 obtain⟨us,h1,h2⟩:=h
 obtain rfl:=EQ h2
 exact⟨_,h1,F3 _ _ _⟩
theorem Far.free{y:IV}(h:y.free=true):Far y y:=fun _ _ _ _ _ _ _ _ _ hv=>IJ h hv
theorem EG.p{gls:List (Nat×List Value)}{f:FuncId}{xs:List IV}{Y:IV->BL->RL->Prop}{Pre:(Nat->Nat)->Prop}(h:EG P gls f xs B R Y):EGp P gls f xs B R [] Pre (fun y B1 R1 p1=>Y y B1 R1/\p1=[]):=fun w D M V vs n hh hv _ _=>
 (h w D M V vs n hh hv).mono fun e w' ⟨v,y,B1,R1,M1,V1,a1,a2,a3,a4⟩=>⟨v,y,B1,R1,[],M1,V1,a1,⟨a2,rfl⟩,a3,a4,trivial⟩
end
end
section
section
variable{P:Program}{cx:Cx}{T:TL}{B:BL}{R:RL}{o:Oper}
theorem Upon.imp{M:Nat->Nat}{V:Nat->Value}{w:World}{y y':IV}(hi:∀ (w:World) (D:Nat->Prop) (v:Value),VR w D M V y v->VR w D M V y' v){r:Result Next}(h:Upon P cx B R M V w y r):Upon P cx B R M V w y' r:=by
 cases r with
 | halt x w'=>exact h
 | ok n w'=>
  cases n with
  | value v=>exact⟨h.1,hi _ _ _ h.2⟩
  | skip=>exact⟨h.1,hi _ _ _ h.2⟩
  | enter f args=>exact⟨h.1,h.2.mono fun e w'' ⟨v,h1,h2,h3⟩=>⟨v,h1,h2,hi _ _ _ h3⟩⟩
  | _=>exact h
theorem LStep.pin{t r:Nat}{x y y':IV}{p:Value->Value->Prop}{v0:Value}(hm:.tmp t∈o.op.operands)(hx:lk t T=some (.via r fun a u=>p a u/\a=v0))(hxi:∀ (w:World) (D:Nat->Prop) (M:Nat->Nat) (V:Nat->Value) (u:Value),p (V r) u->VR w D M V x u)(h:LStep P cx B R o ((t,x)::T) y)
  (hy:∀ (w:World) (D:Nat->Prop) (M:Nat->Nat) (V:Nat->Value) (u:Value),V r=v0->VR w D M V y u->VR w D M V y' u):LStep P cx B R o T y':=fun M V w a hh ht=>by
 have h1:p (V r) (a.tmps.getD t undef)/\V r=v0:=ht t _ hm hx
 exact(h M V w a hh fun s z hs hz=>by
  rcases A8 hz with⟨rfl,rfl⟩ | ⟨_,hz⟩
  ·exact hxi _ _ _ _ _ h1.1
  ·exact ht s z hs hz).imp fun w D v hv=>hy w D M V v h1.2 hv
theorem EGp.any{gls:List (Nat×List Value)}{f:FuncId}{xs:List IV}{p:List (Nat×Value)}{b:Nat}{Y:Nat->IV->BL->RL->List (Nat×Value)->Prop}(h:∀ g,EGp P gls f xs B R p (fun M=>M b=g) (Y g)):EGp P gls f xs B R p (fun _=>True) (fun y B1 R1 p1=>∃ g,Y g y B1 R1 p1):=fun w D M V vs n hh hv _ hp=>
 (h (M b) w D M V vs n hh hv rfl hp).mono fun e w' ⟨v,y,B1,R1,p1,M1,V1,a1,a2,a3,a4,a5⟩=>⟨v,y,B1,R1,p1,M1,V1,a1,⟨_,a2⟩,a3,a4,a5⟩
end
end
section
section
variable{P:Program}{cx:Cx}{T0:TL}{B0:BL}{R0:RL}{ops:Array Oper}{Q:Exit->Act->World->Prop}{deps:List (List Nat)}{es:List (Nat×Nat×IV)}{bs:List (Nat×Nat×Bx)}{rs:List (Nat×Nat×Rw)}
def AllStepsS(P:Program)(cx:Cx)(T0:TL)(B0:BL)(R0:RL)(ops:Array Oper)(Q:Exit->Act->World->Prop)(es:List (Nat×Nat×IV))(bs:List (Nat×Nat×Bx))(rs:List (Nat×Nat×Rw)):List (List Bool×Nat)->Prop
 | []=>True
 | (L,i)::r=>(∀ K,E cx (AV (L.set i true) [] es++T0) (AV (L.set i true) [] bs++B0) (AV (L.set i true) [] rs++R0) K->E cx (AV L [] es++T0) (AV L [] bs++B0) (AV L [] rs++R0) (wpOp P ops Q i K))/\AllStepsS P cx T0 B0 R0 ops Q es bs rs r
theorem AllStepsS.get:∀ {st:List (List Bool×Nat)} (_:AllStepsS P cx T0 B0 R0 ops Q es bs rs st) {L:List Bool} {i:Nat},(L,i)∈st -> ∀ K,E cx (AV (L.set i true) [] es++T0) (AV (L.set i true) [] bs++B0) (AV (L.set i true) [] rs++R0) K->E cx (AV L [] es++T0) (AV L [] bs++B0) (AV L [] rs++R0) (wpOp P ops Q i K)
 | (L',j)::r,h,L,i,hm=>by
  rcases List.mem_cons.1 hm with e | hm
  ·injection e with e1 e2
   subst e1 e2
   exact h.1
  ·exact AllStepsS.get h.2 hm
 | [],_,_,_,hm=>by cases hm
theorem J0{L0 full:List Bool}{reach:List (List Bool)}{steps:List (List Bool×Nat)}(hd:D2 ops=deps)(hB:LR deps L0 full reach steps=true)(hs:AllStepsS P cx T0 B0 R0 ops Q es bs rs steps)(hend:E cx (AV full [] es++T0) (AV full [] bs++B0) (AV full [] rs++R0) (Q .normal)):
  ∀ (m:Nat) (L:List Bool),L.count false=m->L∈reach->E cx (AV L [] es++T0) (AV L [] bs++B0) (AV L [] rs++R0) (wpAny P .any ops Q m L.toArray):=by
 simp only[LR,Bool.and_eq_true]at hB
 have hall:=List.all_eq_true.1 hB.2
 intro m
 induction m with
 | zero=>
  intro L hm hL
  have h:=hall L hL
  cases hf:(L==full)with
  | true=>
   rw[hf]at h
   simp only[cond_true,Bool.and_eq_true]at h
   rw[beq_iff_eq]at hf
   subst hf
   exact MX hd h.1 hend
  | false=>
   rw[hf]at h
   simp only[cond_false,Bool.and_eq_true]at h
   cases hr:B6 L 0 deps with
   | nil=>rw[hr]at h;exact absurd h.1 (by decide)
   | cons i is=>
    have h2:=List.all_eq_true.1 h.2 i (by rw[hr];exact List.mem_cons_self)
    simp only[Bool.and_eq_true,beq_iff_eq]at h2
    omega
 | succ m ih=>
  intro L hm hL
  have h:=hall L hL
  cases hf:(L==full)with
  | true=>
   rw[hf]at h
   simp only[cond_true,Bool.and_eq_true,beq_iff_eq]at h
   omega
  | false=>
   rw[hf]at h
   simp only[cond_false,Bool.and_eq_true,Bool.not_eq_true']at h
   refine NI hd h.1 (AnyE.of fun i hi=>?_)
   have h2:=List.all_eq_true.1 h.2 i hi
   simp only[Bool.and_eq_true,beq_iff_eq,List.contains_iff_mem]at h2
   exact hs.get h2.1.1 _ (ih _ (by omega) h2.1.2)
theorem EK{id:Nat}{l:List Oper}(n:Nat)(deps:List (List Nat))(reach:List (List Bool))(steps:List (List Bool×Nat))(es:List (Nat×Nat×IV))(bs:List (Nat×Nat×Bx))(rs:List (Nat×Nat×Rw)){T:TL}{B:BL}{R:RL}(T0:TL)(B0:BL)(R0:RL)(hd:D2 l.toArray=deps)(hn:l.toArray.size=n)(hm:P.follows .mixedOrders=true)(hB:LR deps (List.replicate n false) (List.replicate n true) reach steps=true)(hc:(List.replicate n false).count false=n)
  (h0:∀ K,E cx (AV (List.replicate n false) [] es++T0) (AV (List.replicate n false) [] bs++B0) (AV (List.replicate n false) [] rs++R0) K->E cx T B R K) (hs:AllStepsS P cx T0 B0 R0 l.toArray Q es bs rs steps) (hend:E cx (AV (List.replicate n true) [] es++T0) (AV (List.replicate n true) [] bs++B0) (AV (List.replicate n true) [] rs++R0) (Q .normal)):E cx T B R ((Code.region id l.toArray true).wp P Q):=by
 refine I6 n _ deps hd hn hm rfl fun _=>h0 _ ?_
 refine J0 hd hB hs hend n _ hc ?_
 simp only[LR,Bool.and_eq_true,List.contains_iff_mem]at hB
 exact hB.1
def ddT:List Nat->TL->TL
 | _,[]=>[]
 | sn,(j,x)::l=>bif sn.any fun c=>Nat.beq c j then ddT sn l else(j,x)::ddT (j::sn) l
theorem I1:∀ (l:TL) (sn:List Nat) (b:Nat),b∉sn->lk b (ddT sn l)=lk b l
 | [],_,_,_=>rfl
 | (j,x)::l,sn,b,hb=>by
  unfold ddT
  cases h:sn.any fun c=>Nat.beq c j with
  | true=>
   obtain⟨c,hc,e⟩:=List.any_eq_true.1 h
   have e':c=j:=Nat.eq_of_beq_eq_true e
   have hj:j≠b:=fun e2=>hb (by rw[<- e2,<- e'];exact hc)
   rw[cond_true,I1 l sn b hb,AK _ _ hj]
  | false=>
   rw[cond_false]
   by_cases hj:j=b
   ·subst hj
    rw[AS,AS]
   ·rw[AK _ _ hj,AK _ _ hj]
    exact I1 l (j::sn) b fun h2=>by
     rcases List.mem_cons.1 h2 with e | h2
     ·exact hj e.symm
     ·exact hb h2
theorem JV{T:TL}{B:BL}{R:RL}{K:Act->World->Prop}(hE:E cx T B R K):E cx (ddT [] T) B R K:=fun M V a w hr=>hE M V a w ⟨hr.size,hr.defers,hr.heap,fun t x hx=>hr.tmp t x (by rw[I1 T [] t (by simp)];exact hx)⟩
end
end
section
variable{P:Program}{cx:Cx}{T T':TL}{B:BL}{R:RL}{o:Oper}{M:Nat->Nat}{V:Nat->Value}{Φ:(Nat->Value)->Prop}
def LStepV(Φ:(Nat->Value)->Prop)(P:Program)(cx:Cx)(B:BL)(R:RL)(o:Oper)(T:TL)(y:IV):Prop:=
 ∀ (M:Nat->Nat) (V:Nat->Value) (w:World) (a:Act),Φ V->HR cx B R M V w->(∀ t z,.tmp t∈o.op.operands->lk t T=some z->VR w (Dc cx B R M V w) M V z (a.tmps.getD t undef))->Upon P cx B R M V w y ((execOp a.eval o).run P w)
theorem LStepV.of{y:IV}(h:LStep P cx B R o T y):LStepV Φ P cx B R o T y:=fun M V w a _=>h M V w a
inductive WalkV (Φ:(Nat->Value)->Prop) (P:Program) (cx:Cx) (B:BL) (R:RL) (ops:Array Oper):List Oper->TL->List IV->TL->Prop
 | nil {T:TL}:WalkV Φ P cx B R ops [] T [] T
 | op {o:Oper} {d:Nat} {l:List Oper} {T T':TL} {y:IV} {ys:List IV}:o.guard=none->o.dst=some d->Nat.blt d cx.n=true->LStepV Φ P cx B R o T y->WalkV Φ P cx B R ops l ((d,y)::T) ys T'->WalkV Φ P cx B R ops (o::l) T (y::ys) T'
 | gd (g:Bool) {o:Oper} {d:Nat} {l:List Oper} {T T':TL} {y:IV} {ys:List IV}:gk ops T o=some g->o.dst=some d->Nat.blt d cx.n=true->(g=true->LStepV Φ P cx B R o T y)->WalkV Φ P cx B R ops l ((d,.opt g y)::T) ys T'->WalkV Φ P cx B R ops (o::l) T (.opt g y::ys) T'
theorem AO{ops:Array Oper}{d:Nat}{l:List Oper}{y:IV}{ys:List IV}(hg:o.guard=none)(hd:o.dst=some d)(hn:Nat.blt d cx.n=true)(h:LStep P cx B R o T y)(hW:WalkV Φ P cx B R ops l ((d,y)::T) ys T'):WalkV Φ P cx B R ops (o::l) T (y::ys) T':=.op hg hd hn (.of h) hW
theorem E2{C:World->Prop}{ops:Array Oper}{y:IV}{G:List B2}{a:Act}(hΦ:Φ V)(hC:∀ w,C w->HR cx B R M V w)(hG:Gt cx B R M V C T G a)(h:LStepV Φ P cx B R o T y){w:World}(hc:C w)(hS:Seen ops o G w):
  BH P Rb o a (B5 cx B R M V y) w:=by
 have h1:=h M V w a hΦ (hC w hc) fun t z hm hz=>by
  rcases hG t z hz with h | ⟨_,F,h2,h3⟩
  ·exact h w hc
  ·exact h3 w (hS _ h2 t rfl (CJ hm))
 have key:∀ {v:Value} {w':World},HR cx B R M V w'->VR w' (Dc cx B R M V w') M V y v->(B5 cx B R M V y).ok v/\(B5 cx B R M V y).pred v w':=fun{v w'} hh hv=>by
  unfold B5
  cases hw:y.whole with
  | some u=>exact⟨Kind.ok_is.2 (C0 hw hv),trivial⟩
  | none=>exact⟨fun c h=>(by cases h),w',hh,Below.refl _ _,hv⟩
 unfold BH
 generalize(execOp a.eval o).run P w=r at *
 cases r with
 | halt x w'=>exact h1.elim
 | ok n w'=>
  cases n<;>simp only[Upon]at h1<;>simp only[C6]
  case value u=>exact⟨h1.1,key ((hC w hc).step h1.1) h1.2⟩
  case skip=>exact⟨h1.1,key ((hC w hc).step h1.1) h1.2⟩
  case enter f args=>
   obtain⟨rfl,h1⟩:=h1
   exact h1.mono fun e w'' ⟨v,he,h2,h3⟩=>⟨v,he,h2,key ((hC _ hc).step h2) h3⟩
theorem WalkV.wpT{C:World->Prop}{ops:Array Oper}{Q:List B2->Act->Prop}(hΦ:Φ V)(hC:∀ w,C w->HR cx B R M V w)(hc:∃ w,C w){l:List Oper}{ys:List IV}(hW:WalkV Φ P cx B R ops l T ys T'):
  ∀ {G:List B2} {a:Act},a.tmps.size=cx.n->a.defers=[]->Gt cx B R M V C T G a->(∀ G' a',a'.tmps.size=cx.n->a'.defers=[]->Gt cx B R M V C T' G' a'->Q G' a')->wpT P ops Rb C Q l (ys.map (B5 cx B R M V)) G a:=by
 induction hW with
 | nil=>exact fun hn hd hG hQ=>hQ _ _ hn hd hG
 | op hg hd hn hs _ ih=>
  intro G a hsz hdf hG hQ
  refine⟨?_,fun v hv=>?_⟩
  ·unfold AskT
   rw[if_pos (by simp[Region.wanted,hg])]
   exact fun w hc hS=>E2 hΦ hC hG hs hc hS
  ·rw[hd]
   exact ih (by simpa[Act.put]using hsz) hdf (hG.put (by rw[hsz];exact BB hn) hv) hQ
 | gd g hg hd hn hs _ ih=>
  intro G a hsz hdf hG hQ
  obtain⟨w0,hw0⟩:=hc
  have hw:=DB hg fun t z v _ hz hv=>by
   rcases hG t z hz with h | ⟨h1,_⟩
   ·exact C0 hv (h w0 hw0)
   ·rw[h1]at hv;cases hv
  refine⟨?_,fun v hv=>?_⟩
  ·unfold AskT
   rw[hw]
   cases g with
   | true=>
    rw[if_pos rfl]
    refine fun w hc hS=>E2 (Φ:=Φ) hΦ hC hG (fun M V w a hp hh ht=>?_) hc hS
    have h1:=hs rfl M V w a hp hh ht
    revert h1
    generalize(execOp a.eval _).run P w=r
    intro h1
    cases r with
    | halt x w'=>exact h1
    | ok n w'=>
     cases n<;>simp only[Upon]at h1 ⊢
     case value u=>exact⟨h1.1,fun _=>h1.2,fun h=>(by cases h)⟩
     case skip=>exact⟨h1.1,fun _=>h1.2,fun h=>(by cases h)⟩
     case enter f args=>exact⟨h1.1,h1.2.mono fun e w'' ⟨v,he,h3,h4⟩=>⟨v,he,h3,fun _=>h4,fun h=>(by cases h)⟩⟩
   | false=>
    rw[if_neg (by simp)]
    unfold B5
    rw[E8]
    exact⟨Kind.ok_is.2 rfl,fun _=>trivial⟩
  ·rw[hd]
   exact ih (by simpa[Act.put]using hsz) hdf (hG.put (by rw[hsz];exact BB hn) hv) hQ
def IQ:List (Nat×Value)->(Nat->Value)->Prop
 | [],_=>True
 | p::ps,V=>V p.1=p.2/\IQ ps V
def IN(T:TL):List (Nat×Nat×Value)->Prop
 | []=>True
 | p::ps=>lk p.1 T=some (J4 p.2.1 p.2.2)/\IN T ps
theorem GH{a:Act}{w:World}(hr:Rel cx T B R M V a w):∀ {ps:List (Nat×Nat×Value)},IN T ps->IQ (ps.map (·.2)) V
 | [],_=>trivial
 | _::_,h=>⟨hr.tmp _ _ h.1,GH hr h.2⟩
theorem LA(ps:List (Nat×Nat×Value)){id:Nat}{l:List Oper}{Q:Exit->Act->World->Prop}{ys:List IV}(hp:IN T ps)(hm:P.follows .mixedOrders=true)(hB:Region.lexB .any l.toArray=true)(hW:WalkV (IQ (ps.map (·.2))) P cx B R l.toArray l T ys T')(h:E cx T' B R (Q .normal)):
  E cx T B R ((Code.region id l.toArray true).wp P Q):=fun M V a w hr=>by
 have h0:Ct cx T B R M V a w.drew:=Ct.stay w _ (Below.refl _ _).drew ⟨hr.heap,hr.tmp⟩
 refine D5 (Ct cx T B R M V a) Rb (ys.map (B5 cx B R M V)) hm hB Ct.stay (CW ys) h0 ?_
 refine hW.wpT (GH hr hp) (fun w h=>h.1) ⟨_,h0⟩ hr.size hr.defers (fun t x hx=>.inl fun w h=>h.2 t x hx) fun G' a' hn hd hG w' hc hF=>?_
 exact h M V a' w' (hG.rel (fun w h=>h.1) hn hd hc hF)
theorem CU(ps:List (Nat×Nat×Value))(n:Nat){id:Nat}{l:List Oper}{Q:Exit->Act->World->Prop}{ys:List IV}(hp:IN T ps)(hm:P.follows .mixedOrders=true)(hB:Region.lexTailB .any l.toArray n=true)(hW:WalkV (IQ (ps.map (·.2))) P cx B R l.toArray (l.take n) T ys T')(h:E cx T' B R (wpList P l.toArray Q (l.drop n))):
  E cx T B R ((Code.region id l.toArray true).wp P Q):=fun M V a w hr=>by
 have h0:Ct cx T B R M V a w.drew:=Ct.stay w _ (Below.refl _ _).drew ⟨hr.heap,hr.tmp⟩
 refine DE n (Ct cx T B R M V a) Rb (ys.map (B5 cx B R M V)) hm hB Ct.stay (CW ys) h0 ?_
 refine hW.wpT (GH hr hp) (fun w h=>h.1) ⟨_,h0⟩ hr.size hr.defers (fun t x hx=>.inl fun w h=>h.2 t x hx) fun G' a' hn hd hG w' hc hF=>?_
 exact h M V a' w' (hG.rel (fun w h=>h.1) hn hd hc hF)
theorem FI{y:IV}{q:Nat}{v:Value}(h:LStep P cx B R o T (.is v))(hq:∀ V,Φ V->V q=v)(hy:y=.own q):LStepV Φ P cx B R o T y:=fun M V w a hp hh ht=>by
 subst hy
 have h1:=h M V w a hh ht
 revert h1
 generalize(execOp a.eval o).run P w=r
 intro h1
 cases r with
 | halt x w'=>exact h1
 | ok n w'=>
  cases n<;>simp only[Upon]at h1 ⊢
  case value u=>exact⟨h1.1,h1.2.is_eq.trans (hq V hp).symm⟩
  case skip=>exact⟨h1.1,h1.2.is_eq.trans (hq V hp).symm⟩
  case enter f args=>exact⟨h1.1,h1.2.mono fun e w'' ⟨u,he,h3,h4⟩=>⟨u,he,h3,h4.is_eq.trans (hq V hp).symm⟩⟩
end
section
variable{P:Program}{cx:Cx}{T:TL}{B:BL}{R:RL}{o:Oper}
theorem FK(r:Nat){ops:Array Oper}{Q:Exit->Act->World->Prop}{l:List Oper}{d:Nat}{f:FuncId}{xs:List Operand}{ts:Array TypeId}{ps:List Part}{ty k n:Nat}{cs:List Value}
  (hg:o.guard=none) (hd:o.dst=some d) (hn:Nat.blt d cx.n=true) (ho:o.op=.call { callee:=.value (.func f),args:=xs.toArray,argTypes:=ts }) (hc:BZ P f=true) (hf:EO P cx.gl f ps ty k n cs)
  (hx:∀ (w:World) (D:Nat->Prop) (M:Nat->Nat) (V:Nat->Value) (a:Act),(∀ t z,.tmp t∈xs->lk t T=some z->VR w D M V z (a.tmps.getD t undef))->(∀ r x,lk r R=some x->Lies w D (datOf x) (V r))->PsFit w D ps (xs.map a.eval))
  (hT:H6 r T=true) (hB:H7 r B=true)
  (hE:E cx ((d,.own r)::T) B ((r,⟨ty,k,n,cs.map .cell,false⟩)::R) (wpList P ops Q l)) (hty:Nat.blt ty 1000000=true:=by rfl):E cx T B R (wpList P ops Q (o::l)):=fun M V a w hrel=>by
 refine wpList_plain hg fun K hK=>?_
 have hrun:(execOp a.eval o).run P w=.ok (.enter f (xs.map a.eval).toArray) w:=by
  have he:a.eval (.func f)=.func (.func f) #[] #[]:=rfl
  simp[execOp,ho,resolve,he,Deferred.ofValue,invoke,BP hc]
 unfold Oper.wp
 rw[hrun]
 simp only[Oper.upon,hd]
 have hh:=hrel.heap
 let D':Nat->Prop:=fun g=>Dc cx B R M V w g \/ ∃ r x,lk r R=some x/\x.fz=false/\obs x.ty x.ds (V r) g
 have hk:=Keeps.refl (Dc cx B R M V w) w
 have hDD:∀ g,Dc cx B R M V w g->D' g:=fun g h=>.inl h
 have hD':∀ g,D' g->g<w.heap.size:=fun g hg=>by
  rcases(show Dc cx B R M V w g \/ ∃ r x,lk r R=some x/\x.fz=false/\obs x.ty x.ds (V r) g from hg)with hg | ⟨r,x,h1,h2,h3⟩
  ·exact hh.dlt hg
  ·have h4:=hh.row r x h1
   rw[h2]at h4
   exact Gx.lt h4 g h3
 have hp:PsFit w D' ps (xs.map a.eval):=hx w D' M V a (fun t z _ hz=>(hrel.tmp t z hz).stay hk hDD) fun r x hr=>by
  have h4:=hh.row r x hr
  cases hfz:x.fz with
  | true=>
   rw[if_pos hfz]at h4
   exact h4.stay hk hDD
  | false=>
   rw[hfz]at h4
   exact Gx.frozen (show Gx w (Dc cx B R M V w) 0 x.ty x.k (V r) x.n x.ds from h4) hDD fun g hg=>.inr ⟨r,x,hr,hfz,hg⟩
 refine(hf w D' _ hD' hh.glok hp).mono ?_
 rintro e w' ⟨v,rfl,hb,hown⟩
 refine hK _ _ ?_
 obtain⟨V',hVr,hr0⟩:=hrel.own_new hb hown r hT hB hty
 exact hE M V' _ _ (hr0.put (Below.refl _ _) (BB hn) hVr.symm)
theorem MI{x y:Operand}{ts:Array TypeId}{k k':IntKind}{m n:Int}(ho:o.op=.call { callee:=.builtin .min,args := #[x,y],argTypes:=ts })(hx:Kn T x (.is (.int k m)))(hy:Kn T y (.is (.int k' n))):LStep P cx B R o T (.is (.int k (min m n))):=LStep.same fun M V w a _ hk=>by
 have h1:=(hk x _ (by simp[ho,Op.operands,Call.operands]) hx).is_eq
 have h2:=(hk y _ (by simp[ho,Op.operands,Call.operands]) hy).is_eq
 have h3:(if n<m then n else m)=min m n:=by
  split<;>omega
 refine⟨_,?_,.cell _⟩
 simp[execOp,ho,h1,h2,resolve,invoke,builtin,run_min_int2,h3]
theorem KS{x:Operand}{src dst:TypeId}{k k':IntKind}{n z:Int}(ho:o.op=.convert src dst x)(hx:Kn T x (.is (.int k n)))(hs:(P.underlying src).isSome=true)(hd:P.underlying dst=some (.int k'))(hi:P.intKind dst=k')(hz:k'.wrap n=z):LStep P cx B R o T (.is (.int k' z)):=LStep.same fun M V w a _ hk=>by
 have h1:=(hk x _ (by simp[ho,Op.operands]) hx).is_eq
 subst hi hz
 exact⟨_,by simp[execOp,ho,h1,run_convert_int w src dst k n hs hd],.cell _⟩
theorem HM(z:Int):0<=IntKind.u64.wrap z/\IntKind.u64.wrap z<=18446744073709551615:=by
 simp only[IntKind.wrap,IntKind.bits,IntKind.signed]
 simp
 omega
end
end Go.Proofs.Ytjpghcmlglhmbaa
