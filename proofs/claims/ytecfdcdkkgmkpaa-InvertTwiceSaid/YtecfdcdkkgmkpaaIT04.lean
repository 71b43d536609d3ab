/- Part 4. Conditions: as each theorem says. -/
import Derived.Test.YtecfdcdkkgmkpaaIT03
import Derived.Laws.Tables
import Derived.Maps.AppendAt
import Derived.Laws.CopyRow
set_option maxRecDepth 100000
namespace Go.Proofs.Ytecfdcdkkgmkpaa
open Go.RowKit
section
def aggT(P:Program)(ty:TypeId):Bool:=match P.underlying ty with | some (.struct _) | some (.array _ _)=>true | _=>false
def oneT(P:Program)(ty:TypeId):Bool:=match P.underlying ty with | some (.struct _) | some (.array _ _)=>false | some _=>true | none=>false
def sizeT(P:Program)(ty:TypeId):Option Nat:=(P.info? ty).map (·.size)
section
variable{P:Program}
theorem S5{ty:TypeId}(h:aggT P ty=true)(u:World):(isAgg ty).run P u=.ok true u:=by
 unfold aggT at h
 cases hu:P.underlying ty with
 | none=>grind
 | some d=>
  rw[hu]at h
  unfold isAgg
  rw[Sem.run_bind,run_underlying hu u]
  cases d<;>simp_all
theorem T8{ty:TypeId}(h:oneT P ty=true)(u:World):(isAgg ty).run P u=.ok false u:=by
 unfold oneT at h
 cases hu:P.underlying ty with
 | none=>grind
 | some d=>
  rw[hu]at h
  unfold isAgg
  rw[Sem.run_bind,run_underlying hu u]
  cases d<;>simp_all
theorem EC(u:World)(ad:Addr)(v:Value)(ty:TypeId)(hc:u.cell? ad=some v)(hd:oneT P ty=true):(loadVar ty ad).run P u=.ok v u:=by
 simp_all[T8,loadVar]
theorem D6(u:World)(b f:Nat)(cs:List Value)(hc:∀ (j:Nat) v,cs[j]?=some v->u.cell? ⟨b,f+j,none⟩=some v)(ty:TypeId)(hd:aggT P ty=true)(hi:sizeT P ty=some cs.length):
  (loadVar ty ⟨b,f,none⟩).run P u=.ok (.agg cs.toArray) u:=by
 have hl:=run_loadCells_list (P:=P) u ⟨b,f,none⟩ cs (fun j v hv=>by
  have hadd:(⟨b,f,none⟩:Addr).add j=⟨b,f+j,none⟩:=by unfold Addr.add;split<;>simp_all
  grind)
 have hagg:=S5 hd u
 unfold sizeT at hi
 cases hq:P.info? ty with
 | none=>grind
 | some i=>
  simp_all[loadVar,sizeOf,typeInfo]
end
def manyOf:List IV->Option (List Dat)
 | []=>some []
 | .part (.one d)::l=>match manyOf l with | some ds=>some (d::ds) | none=>none
 | _::_=>none
theorem FX{w:World}{D:Nat->Prop}{M:Nat->Nat}{V:Nat->Value}:∀ {l:List IV} {ds:List Dat} {xs:List Value},manyOf l=some ds->l.length=xs.length->(∀ (j:Nat) x v,l[j]?=some x->xs[j]?=some v->VR w D M V x v)->Fits w D ds xs
 | [],ds,xs,h,hl,_=>by
  obtain rfl:[]=ds:=by grind[manyOf]
  obtain rfl:xs=[]:=List.eq_nil_of_length_eq_zero (by grind)
  grind[Fits.nil]
 | .part (.one d)::l,ds,[],h,hl,_=>by simp at hl
 | .part (.one d)::l,ds,x::xs,h,hl,hv=>by
  simp only[manyOf]at h
  cases hm:manyOf l with
  | none=>grind
  | some es=>
  rw[hm]at h
  have h1:=hm
  obtain rfl:d::es=ds:=by injection h
  exact .cons (hv 0 _ _ rfl rfl) (FX h1 (by simpa using hl) fun j y v a b=>hv (j+1) y v (by simpa using a) (by grind))
 | .part (.many _)::_,_,_,h,_,_=>by grind[manyOf]
 | .junk::_,_,_,h,_,_=>by grind[manyOf]
 | .tup _::_,_,_,h,_,_=>by grind[manyOf]
 | .ref _::_,_,_,h,_,_=>by grind[manyOf]
 | .box _ _::_,_,_,h,_,_=>by grind[manyOf]
 | .own _::_,_,_,h,_,_=>by grind[manyOf]
 | .via _ _::_,_,_,h,_,_=>by grind[manyOf]
 | .opt _ _::_,_,_,h,_,_=>by grind[manyOf]
 | .clo _ _ _::_,_,_,h,_,_=>by grind[manyOf]
 | .sl _ _ _::_,_,_,h,_,_=>by grind[manyOf]
section
variable{P:Program}{cx:Cx}{T:TL}{B:BL}{R:RL}{o:Oper}
theorem AD{x:Operand}{t:TypeId}{d:Dat}{ds:List Dat}(ho:o.op=.load t x)(hx:Kn T x (.ref (d::ds)))(ht:oneT P t=true):LStep P cx B R o T (.part (.one d)):=LStep.same fun M V w a _ hk=>by
 obtain⟨b,f,h1,_,xs,h2,h3⟩:=hk x _ (by grind[Op.operands]) hx
 obtain⟨y,ys,rfl,h4,_⟩:=h2.head
 have h5:=EC (P:=P) w ⟨b,f,none⟩ y t (h3 0 y rfl) ht
 exact⟨y,by simp_all[execOp,Instr.loadAt,Instr.sureAddr],h4⟩
theorem AS{x:Operand}{t:TypeId}{ds:List Dat}(ho:o.op=.load t x)(hx:Kn T x (.ref ds))(ht:aggT P t=true)(hn:sizeT P t=some ds.length):LStep P cx B R o T (.part (.many ds)):=LStep.same fun M V w a _ hk=>by
 obtain⟨b,f,h1,_,xs,h2,h3⟩:=hk x _ (by grind[Op.operands]) hx
 have h5:=D6 (P:=P) w b f xs h3 t ht (by rw[hn,h2.1])
 exact⟨_,by simp_all[execOp,Instr.loadAt,Instr.sureAddr],xs,rfl,h2⟩
theorem PR{x:Operand}{t:TypeId}{ds:List Dat}(k:Nat)(ho:o.op=.load t x)(hx:Kn T x (.ref ds))(ht:aggT P t=true)(hn:sizeT P t=some k)(hl:k<=ds.length):LStep P cx B R o T (.part (.many (ds.take k))):=LStep.same fun M V w a _ hk=>by
 obtain⟨b,f,h1,_,xs,h2,h3⟩:=hk x _ (by grind[Op.operands]) hx
 have h5:=D6 (P:=P) w b f (xs.take k) (fun j v hv=>h3 j v (by rw[List.getElem?_take]at hv;split at hv;exact hv;cases hv)) t ht (by rw[hn,List.length_take,<- h2.1];grind)
 exact⟨_,by simp_all[execOp,Instr.loadAt,Instr.sureAddr],xs.take k,rfl,by simpa using h2.part 0 k⟩
theorem HR.boxcell{M:Nat->Nat}{V:Nat->Value}{w:World}(hh:HR cx B R M V w){b:Nat}{bx:Bx}(hb:lk b B=some bx):∃ cs,Blk w (M b) bx.ty cs/\CFit w (Dc cx B R M V w) M V bx.cs cs:=(hh.box b bx hb).2
theorem A5{x:Operand}{t:TypeId}{b j:Nat}{bx:Bx}{y:IV}(ho:o.op=.load t x)(hx:Kn T x (.box b j))(hb:lk b B=some bx)(hj:bx.cs[j]?=some y)(ht:oneT P t=true):LStep P cx B R o T y:=LStep.same fun M V w a hh hk=>by
 have h1:a.eval x=_:=hk x _ (by grind[Op.operands]) hx
 obtain⟨cs,h2,h3⟩:=hh.boxcell hb
 have hlt:j<cs.length:=by
  rw[<- h3.1]
  rcases Nat.lt_or_ge j bx.cs.length with h | h
  ·exact h
  ·grind
 have h4:cs[j]?=some cs[j]:=List.getElem?_eq_getElem hlt
 have h5:=EC (P:=P) w ⟨M b,j,none⟩ cs[j] t ((h2.cell j).trans h4) ht
 exact⟨cs[j],by simp_all[execOp,Instr.loadAt,Instr.sureAddr],(h3.2 j y _ hj h4).1⟩
theorem AB{x:Operand}{t:TypeId}{b j:Nat}{bx:Bx}{ds:List Dat}(k:Nat)(ho:o.op=.load t x)(hx:Kn T x (.box b j))(hb:lk b B=some bx)(hm:manyOf ((bx.cs.drop j).take k)=some ds)(ht:aggT P t=true)(hn:sizeT P t=some k)(hl:Nat.ble (j+k) bx.cs.length=true):LStep P cx B R o T (.part (.many ds)):=LStep.same fun M V w a hh hk=>by
 have h1:a.eval x=_:=hk x _ (by grind[Op.operands]) hx
 obtain⟨cs,h2,h3⟩:=hh.boxcell hb
 have hl':=Nat.le_of_ble_eq_true hl
 have hcl:=h3.1
 have h5:=D6 (P:=P) w (M b) j ((cs.drop j).take k) (fun i v hv=>by
  rw[List.getElem?_take]at hv
  split at hv
  ·rw[List.getElem?_drop]at hv
   exact(h2.cell (j+i)).trans hv
  ·cases hv) t ht (by grind)
 refine⟨.agg ((cs.drop j).take k).toArray,by simp_all[execOp,Instr.loadAt,Instr.sureAddr],(cs.drop j).take k,rfl,FX (w:=w) (D:=Dc cx B R M V w) (M:=M) (V:=V) hm (by simp;omega) fun i y v hy hv=>?_⟩
 rw[List.getElem?_take]at hy hv
 split at hy
 ·rename_i hi
  rw[if_pos hi]at hv
  rw[List.getElem?_drop]at hy hv
  exact(h3.2 _ y v hy hv).1
 ·cases hy
theorem D3{t:TypeId}{k:Nat}(h:sizeT P t=some k)(w:World):(sizeOf t).run P w=.ok k w:=by
 unfold sizeT at h
 cases hq:P.info? t with
 | none=>grind
 | some i=>
  simp_all[sizeOf,typeInfo]
theorem AQ{x i:Operand}{t:TypeId}{k:Nat}{α:Type}{f:α->List Dat}{qs:List α}{q:α}{kk:IntKind}{z:Int}{ds:List Dat}(ho:o.op=.indexAddr t x i)(hx:Kn T x (.part (.one (.row k qs.length (qs.flatMap f)))))(hi:Kn T i (.is (.int kk z)))(hz:0<=z)(hq:qs[z.toNat]?=some q)
  (hk:∀ a,(f a).length=k) (ht:P.underlying t=some (.slice (P.elem t))) (hs:sizeT P (P.elem t)=some k) (hds:f q=ds):LStep P cx B R o T (.ref ds):=LStep.same fun M V w a _ hkk=>by
 have h1:=(hkk i _ (by grind[Op.operands]) hi).is_eq
 obtain⟨p,c,h2,h3⟩:=Lies.row_at hk (hkk x _ (by grind[Op.operands]) hx)
 have hlt:z.toNat<qs.length:=by
  rcases Nat.lt_or_ge z.toNat qs.length with h | h
  ·exact h
  ·grind
 obtain⟨b,off,rfl,hD,hc⟩:=h3 (by omega)
 obtain⟨xs,h4,h5,h6⟩:=hc _ q hq
 have hadd:(⟨b,off,none⟩:Addr).add (z.toNat*k)=⟨b,off+z.toNat*k,none⟩:=by unfold Addr.add;split<;>simp_all
 have h7:=run_indexAt_slice (P:=P) w t ⟨b,off,none⟩ qs.length c kk z ht
 rw[if_pos ⟨hz,by omega⟩,D3 hs,Result.andThen_ok,hadd]at h7
 exact⟨_,by simp_all[execOp],b,off+z.toNat*k,rfl,hD,xs,hds▸h6,h5⟩
def Part.dats:Part->List Dat
 | .one d=>[d]
 | .many ds=>ds
def IE(place:Nat->Option (Nat×Nat)):List Dat->List (Nat×Part)->Option (List Dat)
 | cs,[]=>some cs
 | cs,(i,p)::l=>
  match place i with
  | none=>none
  | some (off,size)=>bif Nat.beq p.dats.length size&&Nat.ble (off+size) cs.length then IE place (cs.take off++p.dats++cs.drop (off+size)) l else none
theorem PFit.cells{w:World}{D:Nat->Prop}:∀ {p:Part} {v:Value},PFit w D p v->(∀ d,p=.one d->v.oneCell'=true)->Fits w D p.dats v.cells.toList
 | .one d,v,h,h1=>by
  have:v.cells = #[v]:=by
   have:=h1 d rfl
   cases v<;>first | rfl | cases this
  rw[this]
  exact .cons h (.nil _ _)
 | .many ds,v,⟨xs,h1,h2⟩,_=>by
  grind[Value.cells,Part.dats]
theorem P5(cells:Array Value)(off:Nat):∀ (vs:List Value) (n:Nat) (acc:Array Value),acc.size=cells.size->off+n+vs.length<=cells.size ->
  ((vs.zipIdx n).foldl (fun cs (x:Value×Nat)=>cs.setIfInBounds (off+x.2) x.1) acc).toList=acc.toList.take (off+n)++vs++acc.toList.drop (off+n+vs.length)
 | [],n,acc,_,_=>by simp
 | v::vs,n,acc,h,hl=>by
  simp only[List.length_cons]at hl
  rw[List.zipIdx_cons,List.foldl_cons,P5 cells off vs (n+1) _ (by grind) (by omega)]
  have hlt:off+n<acc.toList.length:=by simp;omega
  simp only[Array.toList_setIfInBounds]
  rw[List.take_set,List.drop_set,if_pos (by omega),show off+(n+1)=off+n+1 by omega,List.take_add_one,List.getElem?_eq_getElem hlt]
  rw[List.length_cons,show off+n+1+vs.length=off+n+(vs.length+1) by omega]
  rw[List.set_append]
  simp only[List.length_take]
  rw[if_neg (by omega),show off+n-min (off+n) acc.toList.length=0 by omega]
  simp
theorem KF{w:World}{D:Nat->Prop}{place:Nat->Option (Nat×Nat)}:∀ {ps:List (Nat×Part)} {vs:List (Nat×Value)} {cs ds:List Dat} {cells:Array Value},IE place cs ps=some ds->Fits w D cs cells.toList->ps.length=vs.length ->
  (∀ (j:Nat) i p i' v,ps[j]?=some (i,p)->vs[j]?=some (i',v)->i=i'/\PFit w D p v /\ ∀ d,p=.one d->v.oneCell'=true) -> ∃ out,Instr.fill place cells vs=some out/\Fits w D ds out.toList
 | [],[],cs,ds,cells,h,hf,_,_=>by
  obtain rfl:cs=ds:=by grind[IE]
  exact⟨cells,rfl,hf⟩
 | [],_::_,_,_,_,_,_,hl,_=>by simp at hl
 | _::_,[],_,_,_,_,_,hl,_=>by simp at hl
 | (i,p)::ps,(i',v)::vs,cs,ds,cells,h,hf,hl,hp=>by
  obtain⟨rfl,h1,h2⟩:=hp 0 i p i' v rfl rfl
  simp only[IE]at h
  cases hpl:place i with
  | none=>grind
  | some os=>
   obtain⟨off,size⟩:=os
   rw[hpl]at h
   simp only at h
   cases hb:Nat.beq p.dats.length size&&Nat.ble (off+size) cs.length with
   | false=>grind
   | true=>
    rw[hb]at h
    have hb1:=Nat.eq_of_beq_eq_true (gl hb)
    have hb2:=Nat.le_of_ble_eq_true (gr hb)
    have hfc:=h1.cells h2
    have hsz:v.cells.size=size:=by rw[<- hb1,hfc.1];simp
    have hcs:cells.size=cs.length:=by rw[hf.1];simp
    have hcl:v.cells.toList.length=size:=by simpa using hsz
    have hfold:=P5 cells off v.cells.toList 0 cells rfl (by grind)
    have hfill:Instr.fill place cells ((i,v)::vs)=Instr.fill place (v.cells.zipIdx.foldl (fun cs (c,j)=>cs.setIfInBounds (off+j) c) cells) vs:=by
     conv=>lhs;unfold Instr.fill
     rw[hpl]
     simp only
     rw[if_neg (by grind)]
    rw[hfill]
    refine KF (cells:=v.cells.zipIdx.foldl (fun cs (c,j)=>cs.setIfInBounds (off+j) c) cells) h ?_ (by simpa using hl) fun j i p i' v a b=>hp (j+1) i p i' v (by simpa using a) (by grind)
    have e:(v.cells.zipIdx.foldl (fun cs (c,j)=>cs.setIfInBounds (off+j) c) cells).toList=cells.toList.take off++v.cells.toList++cells.toList.drop (off+size):=by
     rw[<- Array.foldl_toList,Array.toList_zipIdx]
     rw[Nat.add_zero,hcl]at hfold
     exact hfold
    rw[e]
    have ht:=hf.part 0 off
    have hd:=hf.part (off+size) (cs.length-(off+size))
    rw[List.drop_zero,List.drop_zero]at ht
    rw[List.take_of_length_le (by simp),List.take_of_length_le (by simp;omega)]at hd
    exact(ht.append hfc).append hd
def KnL(T:TL):List (Nat×Operand)->List (Nat×Part)->Prop
 | [],[]=>True
 | (i,x)::l,(j,p)::m=>i=j/\Kn T x (.part p)/\KnL T l m
 | _,_=>False
theorem KnL.get{T:TL}:∀ {l:List (Nat×Operand)} {m:List (Nat×Part)},KnL T l m->l.length=m.length /\ ∀ (j:Nat) i x i' p,l[j]?=some (i,x)->m[j]?=some (i',p)->i=i'/\Kn T x (.part p)
 | [],[],_=>⟨rfl,fun j i x i' p h=>by simp at h⟩
 | (i,x)::l,(i',p)::m,h=>by
  obtain⟨h1,h2,h3⟩:=h
  obtain⟨h4,h5⟩:=KnL.get h3
  grind
 | [],_::_,h=>h.elim
 | _::_,[],h=>h.elim
def Dat.isOne:Dat->Bool
 | .cell v=>v.oneCell'
 | _=>true
theorem Lies.one{w:World}{D:Nat->Prop}{d:Dat}{v:Value}(h:Lies w D d v)(h1:d.isOne=true):v.oneCell'=true:=by
 cases h with
 | cell v=>exact h1
 | none=>rfl
 | row=>rfl
 | ptr=>rfl
 | ifc=>rfl
 | map=>rfl
 | fn=>rfl
 | pref=>rfl
theorem Fits.one{w:World}{D:Nat->Prop}{ds:List Dat}{xs:List Value}(h:Fits w D ds xs)(h1:ds.all Dat.isOne=true):∀ u∈xs,u.oneCell'=true:=fun u hu=>by
 obtain⟨j,hj⟩:=List.mem_iff_getElem?.1 hu
 have hlt:j<ds.length:=by
  rw[h.1]
  rcases Nat.lt_or_ge j xs.length with h | h
  ·exact h
  ·grind
 have hd:=List.getElem?_eq_getElem hlt
 exact(h.2 j _ u hd hj).one (List.all_eq_true.1 h1 _ (List.mem_of_getElem? hd))
def Part.isOne:Part->Bool
 | .one d=>d.isOne
 | .many _=>true
def H5(P:Program)(t:TypeId):Option (List (Nat×Nat)):=
 match P.underlying t with
 | some (.struct fs)=>fs.toList.mapM fun f=>(P.info? f.type).map fun i=>(f.offset,i.size)
 | _=>none
def DD(P:Program)(t:TypeId):Option (List Value):=((P.info? t).bind (·.zero)).map (·.cells.toList)
theorem EX{t:TypeId}{parts:List (Nat×Operand)}(ps:List (Nat×Part)){places:List (Nat×Nat)}{zs:List Value}{zd ds:List Dat}(ho:o.op=.build t parts.toArray)(hp:KnL T parts ps)(h1:ps.all (·.2.isOne)=true)(hpl:H5 P t=some places)(hz:DD P t=some zs)(hzd:∀ w D,Fits w D zd zs)
  (hf:IE (places[·]?) zd ps=some ds):LStep P cx B R o T (.part (.many ds)):=LStep.same fun M V w a _ hk=>by
 obtain⟨hl,hg⟩:=hp.get
 cases hu:P.underlying t with
 | none=>grind[H5]
 | some d=>
  cases d<;>simp only[H5,hu]at hpl<;>try cases hpl
  rename_i fs
  cases hi:P.info? t with
  | none=>grind[DD]
  | some it=>
   cases hzz:it.zero with
   | none=>grind[DD]
   | some z=>
    have hzc:z.cells.toList=zs:=by simpa[DD,hi,hzz]using hz
    obtain⟨out,ho1,ho2⟩:=KF (w:=w) (D:=Dc cx B R M V w) (place:=(places.toArray[·]?)) (vs:=parts.map fun x=>(x.1,a.eval x.2)) (cells:=z.cells) (by simpa using hf) (by grind) (by simp[hl]) (fun j i p i' v hj hv=>by
     rw[List.getElem?_map,Option.map_eq_some_iff]at hv
     obtain⟨⟨i2,x⟩,hx1,hx2⟩:=hv
     obtain⟨rfl,rfl⟩:i2=i'/\a.eval x=v:=by grind
     obtain⟨e,hkx⟩:=hg j i2 x i p hx1 hj
     have hpf:PFit _ _ p (a.eval x):=hk x _ (by
      rw[ho]
      have hm:=List.mem_of_getElem? hx1
      simp only[Op.operands]
      grind) hkx
     refine⟨e.symm,hpf,fun d hd=>?_⟩
     subst hd
     have:=List.all_eq_true.1 h1 _ (List.mem_of_getElem? hj)
     exact Lies.one hpf this)
    have hb:P.built t (parts.map fun x=>(x.1,a.eval x.2))=some out:=by
     unfold Program.built
     rw[hi,hu]
     simp only[hzz,hpl]
     exact ho1
    have hrun:=run_build (P:=P) w t (parts.map fun x=>(x.1,a.eval x.2)).toArray out (by grind)
    refine⟨.agg out,?_,out.toList,by simp,ho2⟩
    simp_all[execOp]
theorem MB{place:Nat->Option (Nat×Nat)}:∀ {ps:List (Nat×Part)} {cs ds:List Dat},IE place cs ps=some ds->ds.length=cs.length
 | [],cs,ds,h=>by
  simp_all[IE]
 | (i,p)::ps,cs,ds,h=>by
  simp only[IE]at h
  cases hpl:place i with
  | none=>grind
  | some os=>
   obtain⟨off,size⟩:=os
   rw[hpl]at h
   simp only at h
   cases hb:Nat.beq p.dats.length size&&Nat.ble (off+size) cs.length with
   | false=>grind
   | true=>
    rw[hb]at h
    have hb1:=Nat.eq_of_beq_eq_true (gl hb)
    have hb2:=Nat.le_of_ble_eq_true (gr hb)
    have:=MB h
    grind
def Dr(w:World)(D:Nat->Prop)(w':World)(g:Nat):Prop:=D g\/(w.heap.size<=g/\g<w'.heap.size)
theorem HR.new{M:Nat->Nat}{V:Nat->Value}{w w':World}(hh:HR cx B R M V w){g:Nat}(h:Dr w (Dc cx B R M V w) w' g)(hs:w.heap.size<=w'.heap.size):Dc cx B R M V w' g:=by
 rcases h with h | ⟨h1,h2⟩
 ·exact h.mono hs
 ·refine .inr ⟨.inl (by have:=hh.below.size;omega),h2,fun b x hx e=>?_,fun r x hx hf e=>?_⟩
  ·obtain⟨_,cs,hb,_⟩:=hh.box b x hx
   have:=hb.lt
   omega
  ·have hr:=hh.row r x hx
   rw[hf]at hr
   have:=Gx.lt hr g e
   omega
theorem TF(zs:List Value)(n:Nat):((Array.range (n*zs.length)).map (zs.toArray[· % zs.toArray.size]!)).toList=(List.replicate n zs).flatten:=by
 induction n with
 | zero=>simp
 | succ n ih=>
  have e:(Array.range ((n+1)*zs.length)).toList=(Array.range (n*zs.length)).toList++(List.range zs.length).map (n*zs.length + ·):=by
   simp only[Array.toList_range]
   rw[Nat.succ_mul,List.range_add]
  rw[Array.toList_map,e,List.map_append,<- Array.toList_map,ih,List.replicate_succ',List.flatten_append]
  congr 1
  simp only[List.flatten_cons,List.flatten_nil,List.append_nil,List.map_map]
  apply List.ext_getElem?
  intro j
  simp only[List.getElem?_map]
  rcases Nat.lt_or_ge j zs.length with hj | hj
  ·simp_all[Nat.mod_eq_of_lt]
  grind
theorem DO{t e:TypeId}{len k:Nat}{parts:List (Nat×Operand)}(ps:List (Nat×Part)){zs:List Value}{zd ds:List Dat}(ho:o.op=.buildSlice t len parts.toArray)(hp:KnL T parts ps)(h1:ps.all (·.2.isOne)=true)(ht:P.underlying t=some (.slice e))(hs:sizeT P e=some k)(hz:DD P e=some zs)(hzd:∀ w D,Fits w D zd (List.replicate len zs).flatten)
  (hzk:Nat.beq zs.length k=true) (hzl:Nat.blt 0 k=true) (hpos:Nat.blt 0 len=true) (hsm:Nat.ble (len*k) 16777216=true) (hf:IE (fun i=>some (i*k,k)) zd ps=some ds):LStep P cx B R o T (.part (.one (.row k len ds))):=LStep.val fun M V w a hh hk=>by
 obtain rfl:=Nat.eq_of_beq_eq_true hzk
 obtain⟨hl,hg⟩:=hp.get
 have hzl':0<zs.length:=by simpa using hzl
 have hpos':0<len:=by simpa using hpos
 have hsm':=Nat.le_of_ble_eq_true hsm
 cases hi:P.info? e with
 | none=>grind[DD]
 | some it=>
  cases hzz:it.zero with
  | none=>grind[DD]
  | some z=>
   have hzc:z.cells=zs.toArray:=by
    have:z.cells.toList=zs:=by simpa[DD,hi,hzz]using hz
    rw[<- this]
   have hsz:it.size=zs.length:=by simpa[sizeT,hi]using hs
   obtain⟨out,ho1,ho2⟩:=KF (w:=w) (D:=Dc cx B R M V w) (place:=fun i=>some (i*zs.length,zs.length)) (vs:=parts.map fun x=>(x.1,a.eval x.2)) (cells:=(Array.range (len*zs.length)).map (zs.toArray[· % zs.toArray.size]!)) hf (by grind[TF]) (by simp[hl]) (fun j i p i' v hj hv=>by
     rw[List.getElem?_map,Option.map_eq_some_iff]at hv
     obtain⟨⟨i2,x⟩,hx1,hx2⟩:=hv
     obtain⟨rfl,rfl⟩:i2=i'/\a.eval x=v:=by grind
     obtain⟨e,hkx⟩:=hg j i2 x i p hx1 hj
     have hpf:PFit _ _ p (a.eval x):=hk x _ (by
      rw[ho]
      have hm:=List.mem_of_getElem? hx1
      simp only[Op.operands]
      grind) hkx
     refine⟨e.symm,hpf,fun d hd=>?_⟩
     subst hd
     have:=List.all_eq_true.1 h1 _ (List.mem_of_getElem? hj)
     exact Lies.one hpf this)
   have hrun:=run_buildSlice (P:=P) w t e len (parts.map fun x=>(x.1,a.eval x.2)).toArray out it z ht hi hzz (by rw[hsz];omega) (by rw[hsz];exact Nat.ne_of_gt (Nat.mul_pos hpos' hzl')) (by simp_all)
   have hb:Below w.heap.size w (w.alloc (.cells out e)):=(Below.refl _ _).alloc (Nat.le_refl _) _
   have hlen:ds.length=len*zs.length:=by
    have:=MB hf
    have h2:=(hzd w (Dc cx B R M V w)).1
    rw[this,h2]
    simp
   refine⟨.slice (some ⟨w.heap.size,0,none⟩) len len,w.alloc (.cells out e),?_,hb,?_⟩
   ·simp_all[execOp]
   ·have hblk:Blk (w.alloc (.cells out e)) w.heap.size e out.toList:=by
     have:=Blk.new w e out.toList
     rwa [Array.toArray_toList]at this
    have hk2:=hh.keeps hb
    refine Lies.row zs.length len w.heap.size 0 len ds (fun j=>(out.toList[j]?).getD default) hpos' (Nat.le_refl _) hlen (hh.new (.inr ⟨Nat.le_refl _,by simp⟩) hb.size) (fun j hj=>?_) fun j d hd=>?_
    ·rw[Nat.zero_add,hblk.cell j]
     have hj':j<out.toList.length:=by rw[<- ho2.1];exact hj
     grind
    ·have hj:j<out.toList.length:=by
      rw[<- ho2.1]
      rcases Nat.lt_or_ge j ds.length with h | h
      ·exact h
      ·grind
     rw[List.getElem?_eq_getElem hj]
     exact(ho2.2 j d _ hd (List.getElem?_eq_getElem hj)).stay hk2 fun g hg=>hg.mono hb.size
def UC(gls:List (Nat×List Value))(w:World):Prop:=∀ g cs,(g,cs)∈gls->g<w.heap.size /\ ∀ (j:Nat) v,cs[j]?=some v->w.cell? ⟨g,j,none⟩=some v
def PM(w:World)(D:Nat->Prop)(Y:IV->Prop)(e:Ending)(w':World):Prop:=∃ v y,e=.returned v/\Y y/\Below w.heap.size w w' /\ ∀ (M:Nat->Nat) (V:Nat->Value),VR w' (Dr w D w') M V y v
def EFx(P:Program)(gls:List (Nat×List Value))(f:FuncId)(ps:List Part)(Y:IV->Prop):Prop:=
 ∀ (w:World) (D:Nat->Prop) (vs:List Value),(∀ g,D g->g<w.heap.size)->UC gls w->PsFit w D ps vs->Calls P f vs.toArray w (PM w D Y)
abbrev EF(P:Program)(gls:List (Nat×List Value))(f:FuncId)(ps:List Part)(y:IV):Prop:=EFx P gls f ps (· = y)
def IV.plain:IV->Bool
 | .part _=>true
 | .tup _=>true
 | _=>false
theorem VR.plain{w:World}{D:Nat->Prop}{M M':Nat->Nat}{V V':Nat->Value}:∀ {y:IV} {v:Value},y.plain=true->VR w D M V y v->VR w D M' V' y v
 | .part _,_,_,h=>h
 | .tup _,_,_,h=>h
def KnA(T:TL):List Operand->List Part->Prop
 | [],[]=>True
 | x::l,p::m=>Kn T x (.part p)/\KnA T l m
 | _,_=>False
theorem KnA.fit{T:TL}{w:World}{D:Nat->Prop}{M:Nat->Nat}{V:Nat->Value}{a:Act}:∀ {l:List Operand} {m:List Part},KnA T l m->(∀ x z,x∈l->Kn T x z->VR w D M V z (a.eval x))->PsFit w D m (l.map a.eval)
 | [],[],_,_=>trivial
 | x::_,_::_,h,hk=>⟨hk x _ List.mem_cons_self h.1,KnA.fit h.2 fun y z hy=>hk y z (List.mem_cons_of_mem _ hy)⟩
 | [],_::_,h,_=>h.elim
 | _::_,[],h,_=>h.elim
def AU(P:Program)(f:FuncId):Bool:=match P.funcs[f]? with | some fn => !(fn.name == "runtime.NumGoroutine")&&fn.body.isSome | none=>false
theorem D2{f:FuncId}(h:AU P f=true)(args:Array Value)(w:World):(callFunc f args).run P w=.ok (.enter f args) w:=by
 unfold AU at h
 cases hf:P.funcs[f]? with
 | none=>grind
 | some fn=>
  rw[hf]at h
  simp only[Bool.and_eq_true,Bool.not_eq_true']at h
  have hn:¬ fn.name = "runtime.NumGoroutine" := by simpa using h.1
  have hb:¬ fn.body=none:=fun e=>by
   grind
  simp_all[callFunc]
theorem HR.glok{M:Nat->Nat}{V:Nat->Value}{w:World}(hh:HR cx B R M V w):UC cx.gl w:=fun g cs hg=>⟨by have:=(hh.gl g cs hg).1.1;have:=hh.below.size;omega,fun j v hv=>hh.cell hg hv⟩
theorem OA{f:FuncId}{xs:List Operand}{ps:List Part}{Y:IV->Prop}{M:Nat->Nat}{V:Nat->Value}{w:World}{a:Act}(hh:HR cx B R M V w)(hk:∀ x z,x∈xs->Kn T x z->VR w (Dc cx B R M V w) M V z (a.eval x))(hx:KnA T xs ps)(hf:EFx P cx.gl f ps Y):
  Calls P f (xs.map a.eval).toArray w fun e w''=>∃ v y,e=.returned v/\Y y/\Below w.heap.size w w''/\VR w'' (Dc cx B R M V w'') M V y v:=
 (hf w (Dc cx B R M V w) _ (fun _ hg=>hh.dlt hg) hh.glok (hx.fit hk)).mono fun _ _ ⟨v,y,h1,h2,h3,h4⟩=>
  ⟨v,y,h1,h2,h3,(h4 M V).stay (Keeps.refl _ _) fun _ hg=>hh.new hg h3.size⟩
theorem AG{f:FuncId}{xs:List Operand}{ts:Array TypeId}{ps:List Part}{y:IV}(ho:o.op=.call { callee:=.value (.func f),args:=xs.toArray,argTypes:=ts })(hc:AU P f=true)(hf:EF P cx.gl f ps y)(hx:KnA T xs ps):LStep P cx B R o T y:=fun M V w a hh ht=>by
 have hrun:(execOp a.eval o).run P w=.ok (.enter f (xs.map a.eval).toArray) w:=by
  have he:a.eval (.func f)=.func (.func f) #[] #[]:=rfl
  simp[execOp,ho,resolve,he,Deferred.ofValue,invoke,D2 hc]
 rw[hrun]
 refine⟨rfl,(OA hh (fun x z hm hkx=>hkx w _ M V a fun t z' e hz=>ht t z' (by
  grind[Op.operands,Call.operands]) hz) hx hf).mono fun _ _ ⟨v,y',h1,h2,h3,h4⟩=>⟨v,h1,h3,h2▸h4⟩⟩
end
end
section
def Cap.nob(b:Nat):Cap->Bool
 | .box c _ => !Nat.beq c b
 | .val _=>true
def IV.nob(b:Nat):IV->Bool
 | .box c _ => !Nat.beq c b
 | .sl c _ _ => !Nat.beq c b
 | .opt _ x=>x.nob b
 | .clo _ fs cs=>fs.all (Cap.nob b)&&cs.all (Cap.nob b)
 | _=>true
def IV.nor(r:Nat):IV->Bool
 | .own c => !Nat.beq c r
 | .via c _ => !Nat.beq c r
 | .opt _ x=>x.nor r
 | _=>true
def WV(b:Nat)(T:TL):Bool:=T.all fun x=>x.2.nob b
def WF(b:Nat)(B:BL):Bool:=B.all fun x=>x.2.cs.all fun y=>y.nob b
def QY(r:Nat)(T:TL):Bool:=T.all fun x=>x.2.nor r
def QX(r:Nat)(B:BL):Bool:=B.all fun x=>x.2.cs.all fun y=>y.nor r
def IV.kill(r:Nat)(x:IV):IV:=bif x.nor r then x else .junk
def ID(r:Nat)(T:TL):TL:=T.map fun x=>(x.1,x.2.kill r)
def GO(r:Nat)(B:BL):BL:=B.map fun x=>(x.1,⟨x.2.ty,x.2.cs.map (·.kill r)⟩)
theorem IV.nor_kill(r:Nat)(x:IV):(x.kill r).nor r=true:=by
 unfold IV.kill
 cases h:x.nor r with
 | true=>exact h
 | false=>rfl
theorem LQ{α β:Type}(f:α->β)(i:Nat):∀ l:List (Nat×α),lk i (l.map fun x=>(x.1,f x.2))=(lk i l).map f
 | []=>rfl
 | (j,a)::l=>by
  by_cases h:j=i
  ·grind[BK]
  ·rw[List.map_cons,AY _ _ h,AY _ _ h]
   exact LQ f i l
section
variable{w:World}{D:Nat->Prop}{M M':Nat->Nat}{V V':Nat->Value}
theorem MR{b:Nat}(hM:∀ c,c≠b->M' c=M c){l:List Cap}(h:l.all (Cap.nob b)=true):l.map (DX M')=l.map (DX M):=List.map_congr_left fun x hx=>by
 have:=List.all_eq_true.1 h x hx
 cases x with
 | val v=>rfl
 | box c j=>
  have:c≠b:=fun e=>by
   simp_all[Cap.nob]
  show Value.pointer (some ⟨M' c,j,none⟩)=.pointer (some ⟨M c,j,none⟩)
  grind
theorem VR.newM{b:Nat}(hM:∀ c,c≠b->M' c=M c):∀ {x:IV} {v:Value},x.nob b=true->VR w D M V x v->VR w D M' V x v
 | .junk,_,_,h=>h
 | .part _,_,_,h=>h
 | .tup _,_,_,h=>h
 | .ref _,_,_,h=>h
 | .own _,_,_,h=>h
 | .via _ _,_,_,h=>h
 | .box c j,v,hn,h=>by
  have:c≠b:=fun e=>by
   simp_all[IV.nob]
  show v=.pointer (some ⟨M' c,j,none⟩)
  rw[hM c this]
  exact h
 | .sl c n k,v,hn,h=>by
  have:c≠b:=fun e=>by
   simp_all[IV.nob]
  show v=.slice (some ⟨M' c,0,none⟩) n k
  rw[hM c this]
  exact h
 | .opt _ _,_,hn,h=>⟨fun hg=>(h.1 hg).newM hM hn,h.2⟩
 | .clo fn fs cs,v,hn,h=>by
  have h1:fs.all (Cap.nob b)=true:=gl hn
  have h2:cs.all (Cap.nob b)=true:=gr hn
  show v=.func fn (fs.map (DX M')).toArray (cs.map (DX M')).toArray
  rw[MR hM h1,MR hM h2]
  exact h
theorem VR.newV{r:Nat}(hV:∀ c,c≠r->V' c=V c):∀ {x:IV} {v:Value},x.nor r=true->VR w D M V x v->VR w D M V' x v
 | .junk,_,_,h=>h
 | .part _,_,_,h=>h
 | .tup _,_,_,h=>h
 | .ref _,_,_,h=>h
 | .box _ _,_,_,h=>h
 | .own c,v,hn,h=>by
  have:c≠r:=fun e=>by
   simp_all[IV.nor]
  show v=V' c
  rw[hV c this]
  exact h
 | .via c f,v,hn,h=>by
  have:c≠r:=fun e=>by
   simp_all[IV.nor]
  show f (V' c) v
  rw[hV c this]
  exact h
 | .opt _ _,_,hn,h=>⟨fun hg=>(h.1 hg).newV hV hn,h.2⟩
 | .clo _ _ _,_,_,h=>h
 | .sl _ _ _,_,_,h=>h
theorem VR.kill{r:Nat}{x:IV}{v:Value}(h:VR w D M V x v):VR w D M V (x.kill r) v:=by
 unfold IV.kill
 cases x.nor r with
 | true=>exact h
 | false=>trivial
end
theorem CFit.newM{w:World}{D:Nat->Prop}{M M':Nat->Nat}{V:Nat->Value}{b:Nat}(hM:∀ c,c≠b->M' c=M c){is:List IV}{cs:List Value}(hn:is.all (·.nob b)=true)(h:CFit w D M V is cs):CFit w D M' V is cs:=
 ⟨h.1,fun j x v h1 h2=>⟨(h.2 j x v h1 h2).1.newM hM (List.all_eq_true.1 hn _ (List.mem_of_getElem? h1)),(h.2 j x v h1 h2).2⟩⟩
section
variable{P:Program}{cx:Cx}{T:TL}{B:BL}{R:RL}{M:Nat->Nat}{V:Nat->Value}{o:Oper}
theorem BC{w:World}{D:Nat->Prop}:∀ (zs:List Value) {j:Nat} {x:IV} {v:Value},(zs.map IV.is)[j]?=some x->zs[j]?=some v->zs.all (·.oneCell')=true->VR w D M V x v/\v.oneCell'=true:=fun zs j x v h1 h2 h3=>by
 rw[List.getElem?_map,h2]at h1
 obtain rfl:IV.is v=x:=by grind
 exact⟨.cell v,List.all_eq_true.1 h3 _ (List.mem_of_getElem? h2)⟩
theorem Rel.alloc{a:Act}{w:World}(hr:Rel cx T B R M V a w)(b:Nat)(ty:TypeId){is:List IV}{cs:List Value}(hpn:cx.pn.all (fun c => !Nat.beq c b)=true)(hT:WV b T=true)(hB:WF b B=true)(his:is.all (·.nob b)=true)(hc:CFit w (Dc cx B R M V w) M V is cs){d:Nat}(hd:d<cx.n):
  ∃ M',Rel cx ((d,.box b 0)::T) ((b,⟨ty,is⟩)::B) R M' V (a.put (some d) (.pointer (some ⟨w.heap.size,0,none⟩))) (w.alloc (.cells cs.toArray ty)):=by
 have hb:Below w.heap.size w (w.alloc (.cells cs.toArray ty)):=(Below.refl _ _).alloc (Nat.le_refl _) _
 have hh:=hr.heap
 have hk:=hh.keeps hb
 refine⟨fun c=>if c=b then w.heap.size else M c,?_⟩
 have hM:∀ c,c≠b->(fun c=>if c=b then w.heap.size else M c) c=M c:=fun c h=>if_neg h
 have hMb:(fun c=>if c=b then w.heap.size else M c) b=w.heap.size:=if_pos rfl
 generalize(fun c=>if c=b then w.heap.size else M c)=M' at hM hMb ⊢
 have hlt:∀ c x,lk c B=some x->M c<w.heap.size:=fun c x hx=>by
  obtain⟨_,cs,h2,_⟩:=hh.box c x hx
  exact h2.lt
 have hD:∀ g,Dc cx B R M V w g->Dc cx ((b,⟨ty,is⟩)::B) R M' V (w.alloc (.cells cs.toArray ty)) g:=fun g hg=>by
  have hgl:=hh.dlt hg
  rcases hg with hg | ⟨h1,h2,h3,h4⟩
  ·exact .inl hg
  ·refine .inr ⟨h1,by have:=hb.size;omega,fun c x hx=>?_,h4⟩
   rcases AJ hx with⟨rfl,_⟩ | ⟨hne,hx⟩
   ·grind
   grind
 have hwz:(w.alloc (.cells cs.toArray ty)).heap.size=w.heap.size+1:=by simp
 refine⟨by simpa[Act.put]using hr.size,hr.defers,⟨hh.below.step hb,hh.d0,hh.bl,hh.gl,fun c x hx=>?_,fun r x hx=>?_,hh.ro,fun c hc=>?_,fun c e x y hx hy he=>?_,fun c r x y g hx hy hf hg=>?_,hh.rr⟩,fun t x hx=>?_⟩
 ·rcases AJ hx with⟨rfl,rfl⟩ | ⟨hne,hx⟩
  ·rw[hMb]
   refine⟨.inl hh.below.size,cs,Blk.new _ _ _,?_⟩
   exact(hc.newM hM his).stay hk hD
  ·rw[hM c (Ne.symm hne)]
   obtain⟨h1,cs',h2,h3⟩:=hh.box c x hx
   refine⟨h1,cs',h2.kept hb,?_⟩
   exact(h3.newM hM (List.all_eq_true.1 hB _ (FS hx))).stay hk hD
 ·have h1:=hh.row r x hx
  split
  ·rename_i hf
   rw[if_pos hf]at h1
   exact h1.stay hk hD
  ·rename_i hf
   rw[if_neg hf]at h1
   exact Gx.stay h1 (fun g hg=>hb.block g (Gx.lt h1 g hg)) hk hD
 ·have h1:=List.all_eq_true.1 hpn c hc
  have hne:c≠b:=fun e=>by
   simp_all
  rw[hM c hne]
  exact hh.pin c hc
 ·rcases AJ hx with⟨rfl,rfl⟩ | ⟨hne,hx⟩
  ·rcases AJ hy with⟨rfl,rfl⟩ | ⟨hne',hy⟩
   ·rfl
   grind
  ·rcases AJ hy with⟨rfl,rfl⟩ | ⟨hne',hy⟩
   ·grind
   ·rw[hM c (Ne.symm hne),hM e (Ne.symm hne')]at he
    exact hh.bb c e x y hx hy he
 ·rcases AJ hx with⟨rfl,rfl⟩ | ⟨hne,hx⟩
  ·rw[hMb]
   have h1:=hh.row r y hy
   rw[hf]at h1
   have:=Gx.lt h1 g hg
   omega
  ·rw[hM c (Ne.symm hne)]
   exact hh.br c r x y g hx hy hf hg
 ·rw[GI a d t _ (by rw[hr.size];exact hd)]
  rcases AJ hx with⟨rfl,rfl⟩ | ⟨hne,hx⟩
  ·rw[if_pos rfl]
   show _=Value.pointer (some ⟨M' b,0,none⟩)
   rw[hMb]
  ·rw[if_neg hne]
   exact((hr.tmp t x hx).newM hM (List.all_eq_true.1 hT _ (FS hx))).stay hk hD
variable{ops:Array Oper}{Q:Exit->Act->World->Prop}{l:List Oper}
theorem BD{d:Nat}{ty:TypeId}{zs:List Value}(b:Nat)(is:List IV)(hg:o.guard=none)(hd:o.dst=some d)(hn:Nat.blt d cx.n=true)(ho:o.op=.alloc ty)(hz:DD P ty=some zs)(hc:∀ (w:World) (D:Nat->Prop) (M:Nat->Nat) (V:Nat->Value),CFit w D M V is zs)
  (hpn:cx.pn.all (fun c => !Nat.beq c b)=true) (hT:WV b T=true) (hB:WF b B=true) (his:is.all (·.nob b)=true) (hE:E cx ((d,.box b 0)::T) ((b,⟨ty,is⟩)::B) R (wpList P ops Q l)):E cx T B R (wpList P ops Q (o::l)):=fun M V a w hr=>by
 refine wpList_plain hg fun K hK=>?_
 obtain⟨M',hr'⟩:=hr.alloc b ty hpn hT hB his (hc w _ M V) (d:=d) (CT hn)
 have:=hK _ _ (hE M' V _ _ hr')
 cases hi:P.info? ty with
 | none=>grind[DD]
 | some i=>
  cases hzz:i.zero with
  | none=>grind[DD]
  | some z=>
   have hzc:z.cells=zs.toArray:=by
    have:z.cells.toList=zs:=by simpa[DD,hi,hzz]using hz
    rw[<- this]
   simp_all[Oper.wp,execOp,Instr.alloc,zeroValue,typeInfo,newVar,newRow,Oper.upon]
theorem BS{d:Nat}{ty:TypeId}{x:Operand}{ds:List Dat}(b:Nat)(hg:o.guard=none)(hd:o.dst=some d)(hn:Nat.blt d cx.n=true)(ho:o.op=.box ty x)(hx:Kn T x (.part (.many ds)))(h1:ds.all Dat.isOne=true)
  (hpn:cx.pn.all (fun c => !Nat.beq c b)=true) (hT:WV b T=true) (hB:WF b B=true) (hE:E cx ((d,.box b 0)::T) ((b,⟨ty,ds.map fun d=>.part (.one d)⟩)::B) R (wpList P ops Q l)):E cx T B R (wpList P ops Q (o::l)):=fun M V a w hr=>by
 refine wpList_plain hg fun K hK=>?_
 obtain⟨xs,hv,hf⟩:=hx w (Dc cx B R M V w) M V a fun t z _ hz=>hr.tmp t z hz
 have hc:CFit w (Dc cx B R M V w) M V (ds.map fun d=>.part (.one d)) xs:=⟨by simp[hf.1],fun j y v hy hvv=>by
  rw[List.getElem?_map,Option.map_eq_some_iff]at hy
  obtain⟨e,he,rfl⟩:=hy
  exact⟨hf.2 j e v he hvv,hf.one h1 v (List.mem_of_getElem? hvv)⟩⟩
 obtain⟨M',hr'⟩:=hr.alloc b ty hpn hT hB (by grind[IV.nob]) hc (d:=d) (CT hn)
 have:=hK _ _ (hE M' V _ _ hr')
 simp_all[Oper.wp,execOp,Instr.box,newVar,newRow,Value.cells,Oper.upon]
def IV.isOne:IV->Bool
 | .part (.one d)=>d.isOne
 | .ref _=>true
 | .box _ _=>true
 | .clo _ _ _=>true
 | .sl _ _ _=>true
 | _=>false
theorem VR.one{w:World}{D:Nat->Prop}:∀ {x:IV} {v:Value},VR w D M V x v->x.isOne=true->v.oneCell'=true
 | .part (.one _),_,h,h1=>Lies.one h h1
 | .ref _,_,⟨_,_,h,_⟩,_=>by rw[h];rfl
 | .box _ _,v,h,_=>by
  have:v=_:=h
  rw[this]
  rfl
 | .clo _ _ _,v,h,_=>by
  have:v=_:=h
  rw[this]
  rfl
 | .sl _ _ _,v,h,_=>by
  have:v=_:=h
  rw[this]
  rfl
 | .part (.many _),_,_,h=>by cases h
 | .junk,_,_,h=>by cases h
 | .tup _,_,_,h=>by cases h
 | .own _,_,_,h=>by cases h
 | .via _ _,_,_,h=>by cases h
 | .opt _ _,_,_,h=>by cases h
theorem Rel.set{a:Act}{w w':World}(hr:Rel cx T B R M V a w){b:Nat}{bx:Bx}(hb:lk b B=some bx){is:List IV}{cs:List Value}(hw:Blk w' (M b) bx.ty cs)(hot:∀ k,k≠M b->w'.heap[k]?=w.heap[k]?)(hs:w'.heap.size=w.heap.size)(h1:w'.os=w.os)(h2:w'.tape=w.tape)(h3:w'.output=w.output)
  (hc:CFit w (Dc cx B R M V w) M V is cs):Rel cx T ((b,⟨bx.ty,is⟩)::B) R M V a w':=by
 have hh:=hr.heap
 obtain⟨hge,_⟩:=hh.box b bx hb
 have hlk:∀ c x,lk c ((b,⟨bx.ty,is⟩)::B)=some x -> ∃ y,lk c B=some y:=fun c x hx=>by
  rcases AJ hx with⟨rfl,_⟩ | ⟨_,hx⟩
  ·grind
  grind
 have hk:Keeps (Dc cx B R M V w) w w':=fun g hg=>hot g fun e=>by
  rcases hg with hg | ⟨_,_,hg,_⟩
  ·have:=hh.d0 g hg
   grind
  grind
 have hD:∀ g,Dc cx B R M V w g->Dc cx ((b,⟨bx.ty,is⟩)::B) R M V w' g:=fun g hg=>by
  rcases hg with hg | ⟨a1,a2,a3,a4⟩
  ·exact .inl hg
  ·exact .inr ⟨a1,by omega,fun c x hx=>by grind,a4⟩
 refine⟨hr.size,hr.defers,⟨hh.below.turn h1 h2 h3 (by omega) (some (M b)) (fun g e=>by
  grind) (fun k _ hk'=>hot k fun e=>hk' (by rw[e])),hh.d0,hh.bl,hh.gl,fun c x hx=>?_,fun r x hx=>?_,hh.ro,hh.pin,fun c e x y hx hy he=>?_,fun c r x y g hx hy hf hg=>?_,hh.rr⟩,fun t x hx=>(hr.tmp t x hx).stay hk hD⟩
 ·rcases AJ hx with⟨rfl,rfl⟩ | ⟨hne,hx⟩
  ·exact⟨hge,cs,hw,hc.stay hk hD⟩
  ·obtain⟨a1,cs',a2,a3⟩:=hh.box c x hx
   have hne':M c≠M b:=fun e=>hne (hh.bb c b x bx hx hb e).symm
   exact⟨a1,cs',(hot _ hne').trans a2,a3.stay hk hD⟩
 ·have hrow:=hh.row r x hx
  split
  ·rename_i hf
   rw[if_pos hf]at hrow
   exact hrow.stay hk hD
  ·rename_i hf
   rw[if_neg hf]at hrow
   exact Gx.stay hrow (fun g hg=>hot g fun e=>hh.br b r bx x g hb hx (by grind) hg e.symm) hk hD
 ·obtain⟨x',hx'⟩:=hlk c x hx
  obtain⟨y',hy'⟩:=hlk e y hy
  exact hh.bb c e x' y' hx' hy' he
 ·obtain⟨x',hx'⟩:=hlk c x hx
  exact hh.br c r x' y g hx' hy hf hg
theorem BW{ty:TypeId}{x y:Operand}{b j:Nat}{bx:Bx}{v:IV}{is:List IV}(hg:o.guard=none)(hd:o.dst=none)(ho:o.op=.store ty x y)(hx:Kn T x (.box b j))(hb:lk b B=some bx)(hy:Kn T y v)(h1:v.isOne=true)(hj:Nat.blt j bx.cs.length=true)(hs:sizeT P ty=some 1)(his:bx.cs.set j v=is)
  (hE:E cx T ((b,⟨bx.ty,is⟩)::B) R (wpList P ops Q l)):E cx T B R (wpList P ops Q (o::l)):=fun M V a w hr=>by
 refine wpList_plain hg fun K hK=>?_
 have hT:∀ t z,lk t T=some z->_:=fun t z hz=>hr.tmp t z hz
 have hxv:a.eval x=_:=hx w (Dc cx B R M V w) M V a fun t z _ hz=>hT t z hz
 have hyv:=hy w (Dc cx B R M V w) M V a fun t z _ hz=>hT t z hz
 have hone:=hyv.one h1
 obtain⟨_,cs,h2,h3⟩:=hr.heap.box b bx hb
 have hj':j<cs.length:=by rw[<- h3.1];simpa using hj
 have hcell:w.cell? ⟨M b,j,none⟩=some cs[j]:=(h2.cell j).trans (List.getElem?_eq_getElem hj')
 have hst:(store ⟨M b,j,none⟩ (a.eval y)).run P w=.ok () (w.setCell ⟨M b,j,none⟩ (a.eval y)):=by
  rw[run_store P w _ _ _ hone,hcell]
  simp[h2.frozen j]
 have hadd:(⟨M b,j,none⟩:Addr).add 0=⟨M b,j,none⟩:=by unfold Addr.add;split<;>simp_all
 have hcl:(a.eval y).cells = #[a.eval y]:=by
  revert hone
  generalize a.eval y=u
  intro h
  cases u<;>first | rfl | cases h
 have hr':=hr.set (w':=w.setCell ⟨M b,j,none⟩ (a.eval y)) hb (is:=is) (h2.set_ j (a.eval y)) (fun k hk=>Below.heap_setCell w ⟨M b,j,none⟩ _ k hk) (by simp_all) rfl rfl rfl ⟨by rw[<- his];simp[h3.1],fun i z u hz hu=>by
  rw[<- his]at hz
  rw[List.getElem?_set]at hz hu
  split at hz
  ·grind
  ·rename_i hij
   rw[if_neg hij]at hu
   exact h3.2 i z u hz hu⟩
 have:=hK _ _ (hE M V _ _ hr')
 simp_all[D3,Oper.wp,execOp,Instr.storeAt,Instr.sureAddr,storeVar,storeCells,Oper.upon,Act.put]
theorem GH{ty:TypeId}{x y:Operand}{b j:Nat}{bx:Bx}{ds:List Dat}{is:List IV}(hg:o.guard=none)(hd:o.dst=none)(ho:o.op=.store ty x y)(hx:Kn T x (.box b j))(hb:lk b B=some bx)(hy:Kn T y (.part (.many ds)))(h1:ds.all Dat.isOne=true)(hj:Nat.ble (j+ds.length) bx.cs.length=true)(hs:sizeT P ty=some ds.length)(his:bx.cs.take j++ds.map (fun d=>.part (.one d))++bx.cs.drop (j+ds.length)=is)
  (hE:E cx T ((b,⟨bx.ty,is⟩)::B) R (wpList P ops Q l)):E cx T B R (wpList P ops Q (o::l)):=fun M V a w hr=>by
 refine wpList_plain hg fun K hK=>?_
 have hT:∀ t z,lk t T=some z->_:=fun t z hz=>hr.tmp t z hz
 have hxv:a.eval x=_:=hx w (Dc cx B R M V w) M V a fun t z _ hz=>hT t z hz
 obtain⟨xs,hyv,hyf⟩:=hy w (Dc cx B R M V w) M V a fun t z _ hz=>hT t z hz
 have hone:=hyf.one h1
 obtain⟨_,cs,h2,h3⟩:=hr.heap.box b bx hb
 have hj':=Nat.le_of_ble_eq_true hj
 have hlen:xs.length=ds.length:=hyf.1.symm
 have hcl:cs.length=bx.cs.length:=h3.1.symm
 have hst:=run_storeCells_at (P:=P) (M b) j bx.ty xs 0 cs.toArray w h2 (by simp;omega) hone
 simp only[Nat.add_zero]at hst
 have hrow:=setRow_heap w (M b) cs.toArray (cs.take j++xs++cs.drop (j+xs.length)).toArray bx.ty (0,0) h2
 have hr':=hr.set (w':=w.setRow (M b) (cs.take j++xs++cs.drop (j+xs.length)).toArray) hb (is:=is) hrow (fun k hk=>setRow_other w (M b) k _ hk) (by simp) rfl rfl rfl ⟨by grind,fun i z u hz hu=>by
  rw[<- his]at hz
  rw[List.append_assoc]at hz hu
  rcases Nat.lt_or_ge i j with hi | hi
  ·rw[List.getElem?_append_left (by simp;omega),List.getElem?_take,if_pos hi]at hz
   rw[List.getElem?_append_left (by simp;omega),List.getElem?_take,if_pos hi]at hu
   exact h3.2 i z u hz hu
  ·rw[List.getElem?_append_right (by simp;omega)]at hz hu
   have e1:i-(List.take j bx.cs).length=i-j:=by simp;omega
   have e2:i-(List.take j cs).length=i-j:=by simp;omega
   rw[e1]at hz
   rw[e2]at hu
   rcases Nat.lt_or_ge (i-j) ds.length with hk | hk
   ·rw[List.getElem?_append_left (by grind),List.getElem?_map,Option.map_eq_some_iff]at hz
    obtain⟨e,he,rfl⟩:=hz
    rw[List.getElem?_append_left (by omega)]at hu
    exact⟨hyf.2 _ e u he hu,hone u (List.mem_of_getElem? hu)⟩
   ·rw[List.getElem?_append_right (by grind),List.length_map,List.getElem?_drop]at hz
    rw[List.getElem?_append_right (by omega),List.getElem?_drop,hlen]at hu
    exact h3.2 _ z u hz hu⟩
 have:=hK _ _ (hE M V _ _ hr')
 simp_all[D3,Oper.wp,execOp,Instr.storeAt,Instr.sureAddr,storeVar,Value.cells,Oper.upon,Act.put]
theorem B6{ty:TypeId}{x y:Operand}{b:Nat}{bx:Bx}{ds:List Dat}(hg:o.guard=none)(hd:o.dst=none)(ho:o.op=.store ty x y)(hx:Kn T x (.box b 0))(hb:lk b B=some bx)(hy:Kn T y (.part (.many ds)))(h1:ds.all Dat.isOne=true)(hj:Nat.beq ds.length bx.cs.length=true)(hs:sizeT P ty=some ds.length)
  (hE:E cx T ((b,⟨bx.ty,ds.map fun d=>.part (.one d)⟩)::B) R (wpList P ops Q l)):E cx T B R (wpList P ops Q (o::l)):=
 GH hg hd ho hx hb hy h1 (by rw[Nat.zero_add,Nat.eq_of_beq_eq_true hj];exact Nat.ble_eq_true_of_le (Nat.le_refl _)) hs (by simp_all) hE
end
end
end Go.Proofs.Ytecfdcdkkgmkpaa
