/- Part 4. Conditions: as each theorem says. -/
import Derived.Test.YtecfdcdkkgmkpaaIO03
import Derived.Laws.Tables
set_option maxRecDepth 100000
namespace Go.Proofs.Ytecfdcdkkgmkpaa
open Go.RowKit
section
def aggT(P:Program)(ty:TypeId):Bool:=match P.underlying ty with | some (.struct _) | some (.array _ _)=>true | _=>false
def oneT(P:Program)(ty:TypeId):Bool:=match P.underlying ty with | some (.struct _) | some (.array _ _)=>false | some _=>true | none=>false
def sizeT(P:Program)(ty:TypeId):Option Nat:=(P.info? ty).map (·.size)
section
variable{P:Program}
theorem S6{ty:TypeId}(h:aggT P ty=true)(u:World):(isAgg ty).run P u=.ok true u:=by
 unfold aggT at h
 cases hu:P.underlying ty with
 | none=>grind
 | some d=>
  rw[hu]at h
  unfold isAgg
  rw[Sem.run_bind,run_underlying hu u]
  cases d<;>simp_all
theorem SL{ty:TypeId}(h:oneT P ty=true)(u:World):(isAgg ty).run P u=.ok false u:=by
 unfold oneT at h
 cases hu:P.underlying ty with
 | none=>grind
 | some d=>
  rw[hu]at h
  unfold isAgg
  rw[Sem.run_bind,run_underlying hu u]
  cases d<;>simp_all
theorem EH(u:World)(ad:Addr)(v:Value)(ty:TypeId)(hc:u.cell? ad=some v)(hd:oneT P ty=true):(loadVar ty ad).run P u=.ok v u:=by
 simp_all[SL,loadVar]
theorem DN(u:World)(b f:Nat)(cs:List Value)(hc:∀ (j:Nat) v,cs[j]?=some v->u.cell? ⟨b,f+j,none⟩=some v)(ty:TypeId)(hd:aggT P ty=true)(hi:sizeT P ty=some cs.length):
  (loadVar ty ⟨b,f,none⟩).run P u=.ok (.agg cs.toArray) u:=by
 have hl:=run_loadCells_list (P:=P) u ⟨b,f,none⟩ cs (fun j v hv=>by
  have hadd:(⟨b,f,none⟩:Addr).add j=⟨b,f+j,none⟩:=by unfold Addr.add;split<;>simp_all
  grind)
 have hagg:=S6 hd u
 unfold sizeT at hi
 cases hq:P.info? ty with
 | none=>grind
 | some i=>
  simp_all[loadVar,sizeOf,typeInfo]
end
def manyOf:List IV->Option (List Dat)
 | []=>some []
 | .part (.one d)::l=>match manyOf l with | some ds=>some (d::ds) | none=>none
 | _::_=>none
theorem FW{w:World}{D:Nat->Prop}{M:Nat->Nat}{V:Nat->Value}:∀ {l:List IV} {ds:List Dat} {xs:List Value},manyOf l=some ds->l.length=xs.length->(∀ (j:Nat) x v,l[j]?=some x->xs[j]?=some v->VR w D M V x v)->Fits w D ds xs
 | [],ds,xs,h,hl,_=>by
  obtain rfl:[]=ds:=by grind[manyOf]
  obtain rfl:xs=[]:=List.eq_nil_of_length_eq_zero (by grind)
  grind[Fits.nil]
 | .part (.one d)::l,ds,[],h,hl,_=>by simp at hl
 | .part (.one d)::l,ds,x::xs,h,hl,hv=>by
  simp only[manyOf]at h
  cases hm:manyOf l with
  | none=>grind
  | some es=>
  rw[hm]at h
  have h1:=hm
  obtain rfl:d::es=ds:=by injection h
  exact .cons (hv 0 _ _ rfl rfl) (FW h1 (by simpa using hl) fun j y v a b=>hv (j+1) y v (by simpa using a) (by grind))
 | .part (.many _)::_,_,_,h,_,_=>by grind[manyOf]
 | .junk::_,_,_,h,_,_=>by grind[manyOf]
 | .tup _::_,_,_,h,_,_=>by grind[manyOf]
 | .ref _::_,_,_,h,_,_=>by grind[manyOf]
 | .box _ _::_,_,_,h,_,_=>by grind[manyOf]
 | .own _::_,_,_,h,_,_=>by grind[manyOf]
 | .via _ _::_,_,_,h,_,_=>by grind[manyOf]
 | .opt _ _::_,_,_,h,_,_=>by grind[manyOf]
 | .clo _ _ _::_,_,_,h,_,_=>by grind[manyOf]
 | .sl _ _ _::_,_,_,h,_,_=>by grind[manyOf]
section
variable{P:Program}{cx:Cx}{T:TL}{B:BL}{R:RL}{o:Oper}
theorem AI{x:Operand}{t:TypeId}{d:Dat}{ds:List Dat}(ho:o.op=.load t x)(hx:Kn T x (.ref (d::ds)))(ht:oneT P t=true):LStep P cx B R o T (.part (.one d)):=LStep.same fun M V w a _ hk=>by
 obtain⟨b,f,h1,_,xs,h2,h3⟩:=hk x _ (by grind[Op.operands]) hx
 obtain⟨y,ys,rfl,h4,_⟩:=h2.head
 have h5:=EH (P:=P) w ⟨b,f,none⟩ y t (h3 0 y rfl) ht
 exact⟨y,by simp_all[execOp,Instr.loadAt,Instr.sureAddr],h4⟩
theorem AJ{x:Operand}{t:TypeId}{ds:List Dat}(ho:o.op=.load t x)(hx:Kn T x (.ref ds))(ht:aggT P t=true)(hn:sizeT P t=some ds.length):LStep P cx B R o T (.part (.many ds)):=LStep.same fun M V w a _ hk=>by
 obtain⟨b,f,h1,_,xs,h2,h3⟩:=hk x _ (by grind[Op.operands]) hx
 have h5:=DN (P:=P) w b f xs h3 t ht (by rw[hn,h2.1])
 exact⟨_,by simp_all[execOp,Instr.loadAt,Instr.sureAddr],xs,rfl,h2⟩
theorem GV{x:Operand}{t:TypeId}{ds:List Dat}(k:Nat)(ho:o.op=.load t x)(hx:Kn T x (.ref ds))(ht:aggT P t=true)(hn:sizeT P t=some k)(hl:k<=ds.length):LStep P cx B R o T (.part (.many (ds.take k))):=LStep.same fun M V w a _ hk=>by
 obtain⟨b,f,h1,_,xs,h2,h3⟩:=hk x _ (by grind[Op.operands]) hx
 have h5:=DN (P:=P) w b f (xs.take k) (fun j v hv=>h3 j v (by rw[List.getElem?_take]at hv;split at hv;exact hv;cases hv)) t ht (by rw[hn,List.length_take,<- h2.1];grind)
 exact⟨_,by simp_all[execOp,Instr.loadAt,Instr.sureAddr],xs.take k,rfl,by simpa using h2.part 0 k⟩
theorem HR.boxcell{M:Nat->Nat}{V:Nat->Value}{w:World}(hh:HR cx B R M V w){b:Nat}{bx:Bx}(hb:lk b B=some bx):∃ cs,Blk w (M b) bx.ty cs/\CFit w (Dc cx B R M V w) M V bx.cs cs:=(hh.box b bx hb).2
theorem A5{x:Operand}{t:TypeId}{b j:Nat}{bx:Bx}{y:IV}(ho:o.op=.load t x)(hx:Kn T x (.box b j))(hb:lk b B=some bx)(hj:bx.cs[j]?=some y)(ht:oneT P t=true):LStep P cx B R o T y:=LStep.same fun M V w a hh hk=>by
 have h1:a.eval x=_:=hk x _ (by grind[Op.operands]) hx
 obtain⟨cs,h2,h3⟩:=hh.boxcell hb
 have hlt:j<cs.length:=by
  rw[<- h3.1]
  rcases Nat.lt_or_ge j bx.cs.length with h | h
  ·exact h
  ·grind
 have h4:cs[j]?=some cs[j]:=List.getElem?_eq_getElem hlt
 have h5:=EH (P:=P) w ⟨M b,j,none⟩ cs[j] t ((h2.cell j).trans h4) ht
 exact⟨cs[j],by simp_all[execOp,Instr.loadAt,Instr.sureAddr],(h3.2 j y _ hj h4).1⟩
theorem A7{x:Operand}{t:TypeId}{b j:Nat}{bx:Bx}{ds:List Dat}(k:Nat)(ho:o.op=.load t x)(hx:Kn T x (.box b j))(hb:lk b B=some bx)(hm:manyOf ((bx.cs.drop j).take k)=some ds)(ht:aggT P t=true)(hn:sizeT P t=some k)(hl:Nat.ble (j+k) bx.cs.length=true):LStep P cx B R o T (.part (.many ds)):=LStep.same fun M V w a hh hk=>by
 have h1:a.eval x=_:=hk x _ (by grind[Op.operands]) hx
 obtain⟨cs,h2,h3⟩:=hh.boxcell hb
 have hl':=Nat.le_of_ble_eq_true hl
 have hcl:=h3.1
 have h5:=DN (P:=P) w (M b) j ((cs.drop j).take k) (fun i v hv=>by
  rw[List.getElem?_take]at hv
  split at hv
  ·rw[List.getElem?_drop]at hv
   exact(h2.cell (j+i)).trans hv
  ·cases hv) t ht (by grind)
 refine⟨.agg ((cs.drop j).take k).toArray,by simp_all[execOp,Instr.loadAt,Instr.sureAddr],(cs.drop j).take k,rfl,FW (w:=w) (D:=Dc cx B R M V w) (M:=M) (V:=V) hm (by simp;omega) fun i y v hy hv=>?_⟩
 rw[List.getElem?_take]at hy hv
 split at hy
 ·rename_i hi
  rw[if_pos hi]at hv
  rw[List.getElem?_drop]at hy hv
  exact(h3.2 _ y v hy hv).1
 ·cases hy
theorem CW{t:TypeId}{k:Nat}(h:sizeT P t=some k)(w:World):(sizeOf t).run P w=.ok k w:=by
 unfold sizeT at h
 cases hq:P.info? t with
 | none=>grind
 | some i=>
  simp_all[sizeOf,typeInfo]
theorem AL{x i:Operand}{t:TypeId}{k:Nat}{α:Type}{f:α->List Dat}{qs:List α}{q:α}{kk:IntKind}{z:Int}{ds:List Dat}(ho:o.op=.indexAddr t x i)(hx:Kn T x (.part (.one (.row k qs.length (qs.flatMap f)))))(hi:Kn T i (.is (.int kk z)))(hz:0<=z)(hq:qs[z.toNat]?=some q)
  (hk:∀ a,(f a).length=k) (ht:P.underlying t=some (.slice (P.elem t))) (hs:sizeT P (P.elem t)=some k) (hds:f q=ds):LStep P cx B R o T (.ref ds):=LStep.same fun M V w a _ hkk=>by
 have h1:=(hkk i _ (by grind[Op.operands]) hi).is_eq
 obtain⟨p,c,h2,h3⟩:=Lies.row_at hk (hkk x _ (by grind[Op.operands]) hx)
 have hlt:z.toNat<qs.length:=by
  rcases Nat.lt_or_ge z.toNat qs.length with h | h
  ·exact h
  ·grind
 obtain⟨b,off,rfl,hD,hc⟩:=h3 (by omega)
 obtain⟨xs,h4,h5,h6⟩:=hc _ q hq
 have hadd:(⟨b,off,none⟩:Addr).add (z.toNat*k)=⟨b,off+z.toNat*k,none⟩:=by unfold Addr.add;split<;>simp_all
 have h7:=run_indexAt_slice (P:=P) w t ⟨b,off,none⟩ qs.length c kk z ht
 rw[if_pos ⟨hz,by omega⟩,CW hs,Result.andThen_ok,hadd]at h7
 exact⟨_,by simp_all[execOp],b,off+z.toNat*k,rfl,hD,xs,hds▸h6,h5⟩
def Part.dats:Part->List Dat
 | .one d=>[d]
 | .many ds=>ds
def J5(place:Nat->Option (Nat×Nat)):List Dat->List (Nat×Part)->Option (List Dat)
 | cs,[]=>some cs
 | cs,(i,p)::l=>
  match place i with
  | none=>none
  | some (off,size)=>bif Nat.beq p.dats.length size&&Nat.ble (off+size) cs.length then J5 place (cs.take off++p.dats++cs.drop (off+size)) l else none
theorem PFit.cells{w:World}{D:Nat->Prop}:∀ {p:Part} {v:Value},PFit w D p v->(∀ d,p=.one d->v.oneCell'=true)->Fits w D p.dats v.cells.toList
 | .one d,v,h,h1=>by
  have:v.cells = #[v]:=by
   have:=h1 d rfl
   cases v<;>first | rfl | cases this
  rw[this]
  exact .cons h (.nil _ _)
 | .many ds,v,⟨xs,h1,h2⟩,_=>by
  grind[Value.cells,Part.dats]
theorem OE(cells:Array Value)(off:Nat):∀ (vs:List Value) (n:Nat) (acc:Array Value),acc.size=cells.size->off+n+vs.length<=cells.size ->
  ((vs.zipIdx n).foldl (fun cs (x:Value×Nat)=>cs.setIfInBounds (off+x.2) x.1) acc).toList=acc.toList.take (off+n)++vs++acc.toList.drop (off+n+vs.length)
 | [],n,acc,_,_=>by simp
 | v::vs,n,acc,h,hl=>by
  simp only[List.length_cons]at hl
  rw[List.zipIdx_cons,List.foldl_cons,OE cells off vs (n+1) _ (by grind) (by omega)]
  have hlt:off+n<acc.toList.length:=by simp;omega
  simp only[Array.toList_setIfInBounds]
  rw[List.take_set,List.drop_set,if_pos (by omega),show off+(n+1)=off+n+1 by omega,List.take_add_one,List.getElem?_eq_getElem hlt]
  rw[List.length_cons,show off+n+1+vs.length=off+n+(vs.length+1) by omega]
  rw[List.set_append]
  simp only[List.length_take]
  rw[if_neg (by omega),show off+n-min (off+n) acc.toList.length=0 by omega]
  simp
theorem LA{w:World}{D:Nat->Prop}{place:Nat->Option (Nat×Nat)}:∀ {ps:List (Nat×Part)} {vs:List (Nat×Value)} {cs ds:List Dat} {cells:Array Value},J5 place cs ps=some ds->Fits w D cs cells.toList->ps.length=vs.length ->
  (∀ (j:Nat) i p i' v,ps[j]?=some (i,p)->vs[j]?=some (i',v)->i=i'/\PFit w D p v /\ ∀ d,p=.one d->v.oneCell'=true) -> ∃ out,Instr.fill place cells vs=some out/\Fits w D ds out.toList
 | [],[],cs,ds,cells,h,hf,_,_=>by
  obtain rfl:cs=ds:=by grind[J5]
  exact⟨cells,rfl,hf⟩
 | [],_::_,_,_,_,_,_,hl,_=>by simp at hl
 | _::_,[],_,_,_,_,_,hl,_=>by simp at hl
 | (i,p)::ps,(i',v)::vs,cs,ds,cells,h,hf,hl,hp=>by
  obtain⟨rfl,h1,h2⟩:=hp 0 i p i' v rfl rfl
  simp only[J5]at h
  cases hpl:place i with
  | none=>grind
  | some os=>
   obtain⟨off,size⟩:=os
   rw[hpl]at h
   simp only at h
   cases hb:Nat.beq p.dats.length size&&Nat.ble (off+size) cs.length with
   | false=>grind
   | true=>
    rw[hb]at h
    have hb1:=Nat.eq_of_beq_eq_true (gl hb)
    have hb2:=Nat.le_of_ble_eq_true (gr hb)
    have hfc:=h1.cells h2
    have hsz:v.cells.size=size:=by rw[<- hb1,hfc.1];simp
    have hcs:cells.size=cs.length:=by rw[hf.1];simp
    have hcl:v.cells.toList.length=size:=by simpa using hsz
    have hfold:=OE cells off v.cells.toList 0 cells rfl (by grind)
    have hfill:Instr.fill place cells ((i,v)::vs)=Instr.fill place (v.cells.zipIdx.foldl (fun cs (c,j)=>cs.setIfInBounds (off+j) c) cells) vs:=by
     conv=>lhs;unfold Instr.fill
     rw[hpl]
     simp only
     rw[if_neg (by grind)]
    rw[hfill]
    refine LA (cells:=v.cells.zipIdx.foldl (fun cs (c,j)=>cs.setIfInBounds (off+j) c) cells) h ?_ (by simpa using hl) fun j i p i' v a b=>hp (j+1) i p i' v (by simpa using a) (by grind)
    have e:(v.cells.zipIdx.foldl (fun cs (c,j)=>cs.setIfInBounds (off+j) c) cells).toList=cells.toList.take off++v.cells.toList++cells.toList.drop (off+size):=by
     rw[<- Array.foldl_toList,Array.toList_zipIdx]
     rw[Nat.add_zero,hcl]at hfold
     exact hfold
    rw[e]
    have ht:=hf.part 0 off
    have hd:=hf.part (off+size) (cs.length-(off+size))
    rw[List.drop_zero,List.drop_zero]at ht
    rw[List.take_of_length_le (by simp),List.take_of_length_le (by simp;omega)]at hd
    exact(ht.append hfc).append hd
def KnL(T:TL):List (Nat×Operand)->List (Nat×Part)->Prop
 | [],[]=>True
 | (i,x)::l,(j,p)::m=>i=j/\Kn T x (.part p)/\KnL T l m
 | _,_=>False
theorem KnL.get{T:TL}:∀ {l:List (Nat×Operand)} {m:List (Nat×Part)},KnL T l m->l.length=m.length /\ ∀ (j:Nat) i x i' p,l[j]?=some (i,x)->m[j]?=some (i',p)->i=i'/\Kn T x (.part p)
 | [],[],_=>⟨rfl,fun j i x i' p h=>by simp at h⟩
 | (i,x)::l,(i',p)::m,h=>by
  obtain⟨h1,h2,h3⟩:=h
  obtain⟨h4,h5⟩:=KnL.get h3
  grind
 | [],_::_,h=>h.elim
 | _::_,[],h=>h.elim
def Dat.isOne:Dat->Bool
 | .cell v=>v.oneCell'
 | _=>true
theorem Lies.one{w:World}{D:Nat->Prop}{d:Dat}{v:Value}(h:Lies w D d v)(h1:d.isOne=true):v.oneCell'=true:=by
 cases h with
 | cell v=>exact h1
 | none=>rfl
 | row=>rfl
 | ptr=>rfl
 | ifc=>rfl
 | map=>rfl
 | fn=>rfl
 | pref=>rfl
theorem Fits.one{w:World}{D:Nat->Prop}{ds:List Dat}{xs:List Value}(h:Fits w D ds xs)(h1:ds.all Dat.isOne=true):∀ u∈xs,u.oneCell'=true:=fun u hu=>by
 obtain⟨j,hj⟩:=List.mem_iff_getElem?.1 hu
 have hlt:j<ds.length:=by
  rw[h.1]
  rcases Nat.lt_or_ge j xs.length with h | h
  ·exact h
  ·grind
 have hd:=List.getElem?_eq_getElem hlt
 exact(h.2 j _ u hd hj).one (List.all_eq_true.1 h1 _ (List.mem_of_getElem? hd))
def Part.isOne:Part->Bool
 | .one d=>d.isOne
 | .many _=>true
def DC(P:Program)(t:TypeId):Option (List (Nat×Nat)):=
 match P.underlying t with
 | some (.struct fs)=>fs.toList.mapM fun f=>(P.info? f.type).map fun i=>(f.offset,i.size)
 | _=>none
def C8(P:Program)(t:TypeId):Option (List Value):=((P.info? t).bind (·.zero)).map (·.cells.toList)
theorem BV{t:TypeId}{parts:List (Nat×Operand)}(ps:List (Nat×Part)){places:List (Nat×Nat)}{zs:List Value}{zd ds:List Dat}(ho:o.op=.build t parts.toArray)(hp:KnL T parts ps)(h1:ps.all (·.2.isOne)=true)(hpl:DC P t=some places)(hz:C8 P t=some zs)(hzd:∀ w D,Fits w D zd zs)
  (hf:J5 (places[·]?) zd ps=some ds):LStep P cx B R o T (.part (.many ds)):=LStep.same fun M V w a _ hk=>by
 obtain⟨hl,hg⟩:=hp.get
 cases hu:P.underlying t with
 | none=>grind[DC]
 | some d=>
  cases d<;>simp only[DC,hu]at hpl<;>try cases hpl
  rename_i fs
  cases hi:P.info? t with
  | none=>grind[C8]
  | some it=>
   cases hzz:it.zero with
   | none=>grind[C8]
   | some z=>
    have hzc:z.cells.toList=zs:=by simpa[C8,hi,hzz]using hz
    obtain⟨out,ho1,ho2⟩:=LA (w:=w) (D:=Dc cx B R M V w) (place:=(places.toArray[·]?)) (vs:=parts.map fun x=>(x.1,a.eval x.2)) (cells:=z.cells) (by simpa using hf) (by grind) (by simp[hl]) (fun j i p i' v hj hv=>by
     rw[List.getElem?_map,Option.map_eq_some_iff]at hv
     obtain⟨⟨i2,x⟩,hx1,hx2⟩:=hv
     obtain⟨rfl,rfl⟩:i2=i'/\a.eval x=v:=by grind
     obtain⟨e,hkx⟩:=hg j i2 x i p hx1 hj
     have hpf:PFit _ _ p (a.eval x):=hk x _ (by
      rw[ho]
      have hm:=List.mem_of_getElem? hx1
      simp only[Op.operands]
      grind) hkx
     refine⟨e.symm,hpf,fun d hd=>?_⟩
     subst hd
     have:=List.all_eq_true.1 h1 _ (List.mem_of_getElem? hj)
     exact Lies.one hpf this)
    have hb:P.built t (parts.map fun x=>(x.1,a.eval x.2))=some out:=by
     unfold Program.built
     rw[hi,hu]
     simp only[hzz,hpl]
     exact ho1
    have hrun:=run_build (P:=P) w t (parts.map fun x=>(x.1,a.eval x.2)).toArray out (by grind)
    refine⟨.agg out,?_,out.toList,by simp,ho2⟩
    simp_all[execOp]
theorem MQ{place:Nat->Option (Nat×Nat)}:∀ {ps:List (Nat×Part)} {cs ds:List Dat},J5 place cs ps=some ds->ds.length=cs.length
 | [],cs,ds,h=>by
  simp_all[J5]
 | (i,p)::ps,cs,ds,h=>by
  simp only[J5]at h
  cases hpl:place i with
  | none=>grind
  | some os=>
   obtain⟨off,size⟩:=os
   rw[hpl]at h
   simp only at h
   cases hb:Nat.beq p.dats.length size&&Nat.ble (off+size) cs.length with
   | false=>grind
   | true=>
    rw[hb]at h
    have hb1:=Nat.eq_of_beq_eq_true (gl hb)
    have hb2:=Nat.le_of_ble_eq_true (gr hb)
    have:=MQ h
    grind
def Dr(w:World)(D:Nat->Prop)(w':World)(g:Nat):Prop:=D g\/(w.heap.size<=g/\g<w'.heap.size)
theorem HR.new{M:Nat->Nat}{V:Nat->Value}{w w':World}(hh:HR cx B R M V w){g:Nat}(h:Dr w (Dc cx B R M V w) w' g)(hs:w.heap.size<=w'.heap.size):Dc cx B R M V w' g:=by
 rcases h with h | ⟨h1,h2⟩
 ·exact h.mono hs
 ·refine .inr ⟨.inl (by have:=hh.below.size;omega),h2,fun b x hx e=>?_,fun r x hx hf e=>?_⟩
  ·obtain⟨_,cs,hb,_⟩:=hh.box b x hx
   have:=hb.lt
   omega
  ·have hr:=hh.row r x hx
   rw[hf]at hr
   have:=Gx.lt hr g e
   omega
theorem TP(zs:List Value)(n:Nat):((Array.range (n*zs.length)).map (zs.toArray[· % zs.toArray.size]!)).toList=(List.replicate n zs).flatten:=by
 induction n with
 | zero=>simp
 | succ n ih=>
  have e:(Array.range ((n+1)*zs.length)).toList=(Array.range (n*zs.length)).toList++(List.range zs.length).map (n*zs.length + ·):=by
   simp only[Array.toList_range]
   rw[Nat.succ_mul,List.range_add]
  rw[Array.toList_map,e,List.map_append,<- Array.toList_map,ih,List.replicate_succ',List.flatten_append]
  congr 1
  simp only[List.flatten_cons,List.flatten_nil,List.append_nil,List.map_map]
  apply List.ext_getElem?
  intro j
  simp only[List.getElem?_map]
  rcases Nat.lt_or_ge j zs.length with hj | hj
  ·simp_all[Nat.mod_eq_of_lt]
  grind
theorem B2{t e:TypeId}{len k:Nat}{parts:List (Nat×Operand)}(ps:List (Nat×Part)){zs:List Value}{zd ds:List Dat}(ho:o.op=.buildSlice t len parts.toArray)(hp:KnL T parts ps)(h1:ps.all (·.2.isOne)=true)(ht:P.underlying t=some (.slice e))(hs:sizeT P e=some k)(hz:C8 P e=some zs)(hzd:∀ w D,Fits w D zd (List.replicate len zs).flatten)
  (hzk:Nat.beq zs.length k=true) (hzl:Nat.blt 0 k=true) (hpos:Nat.blt 0 len=true) (hsm:Nat.ble (len*k) 16777216=true) (hf:J5 (fun i=>some (i*k,k)) zd ps=some ds):LStep P cx B R o T (.part (.one (.row k len ds))):=LStep.val fun M V w a hh hk=>by
 obtain rfl:=Nat.eq_of_beq_eq_true hzk
 obtain⟨hl,hg⟩:=hp.get
 have hzl':0<zs.length:=by simpa using hzl
 have hpos':0<len:=by simpa using hpos
 have hsm':=Nat.le_of_ble_eq_true hsm
 cases hi:P.info? e with
 | none=>grind[C8]
 | some it=>
  cases hzz:it.zero with
  | none=>grind[C8]
  | some z=>
   have hzc:z.cells=zs.toArray:=by
    have:z.cells.toList=zs:=by simpa[C8,hi,hzz]using hz
    rw[<- this]
   have hsz:it.size=zs.length:=by simpa[sizeT,hi]using hs
   obtain⟨out,ho1,ho2⟩:=LA (w:=w) (D:=Dc cx B R M V w) (place:=fun i=>some (i*zs.length,zs.length)) (vs:=parts.map fun x=>(x.1,a.eval x.2)) (cells:=(Array.range (len*zs.length)).map (zs.toArray[· % zs.toArray.size]!)) hf (by grind[TP]) (by simp[hl]) (fun j i p i' v hj hv=>by
     rw[List.getElem?_map,Option.map_eq_some_iff]at hv
     obtain⟨⟨i2,x⟩,hx1,hx2⟩:=hv
     obtain⟨rfl,rfl⟩:i2=i'/\a.eval x=v:=by grind
     obtain⟨e,hkx⟩:=hg j i2 x i p hx1 hj
     have hpf:PFit _ _ p (a.eval x):=hk x _ (by
      rw[ho]
      have hm:=List.mem_of_getElem? hx1
      simp only[Op.operands]
      grind) hkx
     refine⟨e.symm,hpf,fun d hd=>?_⟩
     subst hd
     have:=List.all_eq_true.1 h1 _ (List.mem_of_getElem? hj)
     exact Lies.one hpf this)
   have hrun:=run_buildSlice (P:=P) w t e len (parts.map fun x=>(x.1,a.eval x.2)).toArray out it z ht hi hzz (by rw[hsz];omega) (by rw[hsz];exact Nat.ne_of_gt (Nat.mul_pos hpos' hzl')) (by simp_all)
   have hb:Below w.heap.size w (w.alloc (.cells out e)):=(Below.refl _ _).alloc (Nat.le_refl _) _
   have hlen:ds.length=len*zs.length:=by
    have:=MQ hf
    have h2:=(hzd w (Dc cx B R M V w)).1
    rw[this,h2]
    simp
   refine⟨.slice (some ⟨w.heap.size,0,none⟩) len len,w.alloc (.cells out e),?_,hb,?_⟩
   ·simp_all[execOp]
   ·have hblk:Blk (w.alloc (.cells out e)) w.heap.size e out.toList:=by
     have:=Blk.new w e out.toList
     rwa [Array.toArray_toList]at this
    have hk2:=hh.keeps hb
    refine Lies.row zs.length len w.heap.size 0 len ds (fun j=>(out.toList[j]?).getD default) hpos' (Nat.le_refl _) hlen (hh.new (.inr ⟨Nat.le_refl _,by simp⟩) hb.size) (fun j hj=>?_) fun j d hd=>?_
    ·rw[Nat.zero_add,hblk.cell j]
     have hj':j<out.toList.length:=by rw[<- ho2.1];exact hj
     grind
    ·have hj:j<out.toList.length:=by
      rw[<- ho2.1]
      rcases Nat.lt_or_ge j ds.length with h | h
      ·exact h
      ·grind
     rw[List.getElem?_eq_getElem hj]
     exact(ho2.2 j d _ hd (List.getElem?_eq_getElem hj)).stay hk2 fun g hg=>hg.mono hb.size
def TS(gls:List (Nat×List Value))(w:World):Prop:=∀ g cs,(g,cs)∈gls->g<w.heap.size /\ ∀ (j:Nat) v,cs[j]?=some v->w.cell? ⟨g,j,none⟩=some v
def PJ(w:World)(D:Nat->Prop)(Y:IV->Prop)(e:Ending)(w':World):Prop:=∃ v y,e=.returned v/\Y y/\Below w.heap.size w w' /\ ∀ (M:Nat->Nat) (V:Nat->Value),VR w' (Dr w D w') M V y v
def EFx(P:Program)(gls:List (Nat×List Value))(f:FuncId)(ps:List Part)(Y:IV->Prop):Prop:=
 ∀ (w:World) (D:Nat->Prop) (vs:List Value),(∀ g,D g->g<w.heap.size)->TS gls w->PsFit w D ps vs->Calls P f vs.toArray w (PJ w D Y)
abbrev EF(P:Program)(gls:List (Nat×List Value))(f:FuncId)(ps:List Part)(y:IV):Prop:=EFx P gls f ps (· = y)
def IV.plain:IV->Bool
 | .part _=>true
 | .tup _=>true
 | _=>false
theorem VR.plain{w:World}{D:Nat->Prop}{M M':Nat->Nat}{V V':Nat->Value}:∀ {y:IV} {v:Value},y.plain=true->VR w D M V y v->VR w D M' V' y v
 | .part _,_,_,h=>h
 | .tup _,_,_,h=>h
def KnA(T:TL):List Operand->List Part->Prop
 | [],[]=>True
 | x::l,p::m=>Kn T x (.part p)/\KnA T l m
 | _,_=>False
theorem KnA.fit{T:TL}{w:World}{D:Nat->Prop}{M:Nat->Nat}{V:Nat->Value}{a:Act}:∀ {l:List Operand} {m:List Part},KnA T l m->(∀ x z,x∈l->Kn T x z->VR w D M V z (a.eval x))->PsFit w D m (l.map a.eval)
 | [],[],_,_=>trivial
 | x::_,_::_,h,hk=>⟨hk x _ List.mem_cons_self h.1,KnA.fit h.2 fun y z hy=>hk y z (List.mem_cons_of_mem _ hy)⟩
 | [],_::_,h,_=>h.elim
 | _::_,[],h,_=>h.elim
def B8(P:Program)(f:FuncId):Bool:=match P.funcs[f]? with | some fn => !(fn.name == "runtime.NumGoroutine")&&fn.body.isSome | none=>false
theorem DE{f:FuncId}(h:B8 P f=true)(args:Array Value)(w:World):(callFunc f args).run P w=.ok (.enter f args) w:=by
 unfold B8 at h
 cases hf:P.funcs[f]? with
 | none=>grind
 | some fn=>
  rw[hf]at h
  simp only[Bool.and_eq_true,Bool.not_eq_true']at h
  have hn:¬ fn.name = "runtime.NumGoroutine" := by simpa using h.1
  have hb:¬ fn.body=none:=fun e=>by
   grind
  simp_all[callFunc]
theorem HR.glok{M:Nat->Nat}{V:Nat->Value}{w:World}(hh:HR cx B R M V w):TS cx.gl w:=fun g cs hg=>⟨by have:=(hh.gl g cs hg).1.1;have:=hh.below.size;omega,fun j v hv=>hh.cell hg hv⟩
theorem PX{f:FuncId}{xs:List Operand}{ps:List Part}{Y:IV->Prop}{M:Nat->Nat}{V:Nat->Value}{w:World}{a:Act}(hh:HR cx B R M V w)(hk:∀ x z,x∈xs->Kn T x z->VR w (Dc cx B R M V w) M V z (a.eval x))(hx:KnA T xs ps)(hf:EFx P cx.gl f ps Y):
  Calls P f (xs.map a.eval).toArray w fun e w''=>∃ v y,e=.returned v/\Y y/\Below w.heap.size w w''/\VR w'' (Dc cx B R M V w'') M V y v:=
 (hf w (Dc cx B R M V w) _ (fun _ hg=>hh.dlt hg) hh.glok (hx.fit hk)).mono fun _ _ ⟨v,y,h1,h2,h3,h4⟩=>
  ⟨v,y,h1,h2,h3,(h4 M V).stay (Keeps.refl _ _) fun _ hg=>hh.new hg h3.size⟩
theorem AE{f:FuncId}{xs:List Operand}{ts:Array TypeId}{ps:List Part}{y:IV}(ho:o.op=.call { callee:=.value (.func f),args:=xs.toArray,argTypes:=ts })(hc:B8 P f=true)(hf:EF P cx.gl f ps y)(hx:KnA T xs ps):LStep P cx B R o T y:=fun M V w a hh ht=>by
 have hrun:(execOp a.eval o).run P w=.ok (.enter f (xs.map a.eval).toArray) w:=by
  have he:a.eval (.func f)=.func (.func f) #[] #[]:=rfl
  simp[execOp,ho,resolve,he,Deferred.ofValue,invoke,DE hc]
 rw[hrun]
 refine⟨rfl,(PX hh (fun x z hm hkx=>hkx w _ M V a fun t z' e hz=>ht t z' (by
  grind[Op.operands,Call.operands]) hz) hx hf).mono fun _ _ ⟨v,y',h1,h2,h3,h4⟩=>⟨v,h1,h3,h2▸h4⟩⟩
end
end
end Go.Proofs.Ytecfdcdkkgmkpaa
