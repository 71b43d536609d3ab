/- Part 5. Conditions: as each theorem says. -/
import Derived.Test.YtecfdcdkkgmkpaaIO04
import Derived.Maps.AppendAt
import Derived.Laws.CopyRow
set_option maxRecDepth 100000
namespace Go.Proofs.Ytecfdcdkkgmkpaa
open Go.RowKit
section
def Cap.nob(b:Nat):Cap->Bool
 | .box c _ => !Nat.beq c b
 | .val _=>true
def IV.nob(b:Nat):IV->Bool
 | .box c _ => !Nat.beq c b
 | .sl c _ _ => !Nat.beq c b
 | .opt _ x=>x.nob b
 | .clo _ fs cs=>fs.all (Cap.nob b)&&cs.all (Cap.nob b)
 | _=>true
def IV.nor(r:Nat):IV->Bool
 | .own c => !Nat.beq c r
 | .via c _ => !Nat.beq c r
 | .opt _ x=>x.nor r
 | _=>true
def nobT(b:Nat)(T:TL):Bool:=T.all fun x=>x.2.nob b
def VB(b:Nat)(B:BL):Bool:=B.all fun x=>x.2.cs.all fun y=>y.nob b
def Q9(r:Nat)(T:TL):Bool:=T.all fun x=>x.2.nor r
def Q0(r:Nat)(B:BL):Bool:=B.all fun x=>x.2.cs.all fun y=>y.nor r
def IV.kill(r:Nat)(x:IV):IV:=bif x.nor r then x else .junk
def J4(r:Nat)(T:TL):TL:=T.map fun x=>(x.1,x.2.kill r)
def GE(r:Nat)(B:BL):BL:=B.map fun x=>(x.1,⟨x.2.ty,x.2.cs.map (·.kill r)⟩)
theorem IV.nor_kill(r:Nat)(x:IV):(x.kill r).nor r=true:=by
 unfold IV.kill
 cases h:x.nor r with
 | true=>exact h
 | false=>rfl
theorem KJ{α β:Type}(f:α->β)(i:Nat):∀ l:List (Nat×α),lk i (l.map fun x=>(x.1,f x.2))=(lk i l).map f
 | []=>rfl
 | (j,a)::l=>by
  by_cases h:j=i
  ·grind[BG]
  ·rw[List.map_cons,AX _ _ h,AX _ _ h]
   exact KJ f i l
section
variable{w:World}{D:Nat->Prop}{M M':Nat->Nat}{V V':Nat->Value}
theorem N2{b:Nat}(hM:∀ c,c≠b->M' c=M c){l:List Cap}(h:l.all (Cap.nob b)=true):l.map (E4 M')=l.map (E4 M):=List.map_congr_left fun x hx=>by
 have:=List.all_eq_true.1 h x hx
 cases x with
 | val v=>rfl
 | box c j=>
  have:c≠b:=fun e=>by
   simp_all[Cap.nob]
  show Value.pointer (some ⟨M' c,j,none⟩)=.pointer (some ⟨M c,j,none⟩)
  grind
theorem VR.newM{b:Nat}(hM:∀ c,c≠b->M' c=M c):∀ {x:IV} {v:Value},x.nob b=true->VR w D M V x v->VR w D M' V x v
 | .junk,_,_,h=>h
 | .part _,_,_,h=>h
 | .tup _,_,_,h=>h
 | .ref _,_,_,h=>h
 | .own _,_,_,h=>h
 | .via _ _,_,_,h=>h
 | .box c j,v,hn,h=>by
  have:c≠b:=fun e=>by
   simp_all[IV.nob]
  show v=.pointer (some ⟨M' c,j,none⟩)
  rw[hM c this]
  exact h
 | .sl c n k,v,hn,h=>by
  have:c≠b:=fun e=>by
   simp_all[IV.nob]
  show v=.slice (some ⟨M' c,0,none⟩) n k
  rw[hM c this]
  exact h
 | .opt _ _,_,hn,h=>⟨fun hg=>(h.1 hg).newM hM hn,h.2⟩
 | .clo fn fs cs,v,hn,h=>by
  have h1:fs.all (Cap.nob b)=true:=gl hn
  have h2:cs.all (Cap.nob b)=true:=gr hn
  show v=.func fn (fs.map (E4 M')).toArray (cs.map (E4 M')).toArray
  rw[N2 hM h1,N2 hM h2]
  exact h
theorem VR.newV{r:Nat}(hV:∀ c,c≠r->V' c=V c):∀ {x:IV} {v:Value},x.nor r=true->VR w D M V x v->VR w D M V' x v
 | .junk,_,_,h=>h
 | .part _,_,_,h=>h
 | .tup _,_,_,h=>h
 | .ref _,_,_,h=>h
 | .box _ _,_,_,h=>h
 | .own c,v,hn,h=>by
  have:c≠r:=fun e=>by
   simp_all[IV.nor]
  show v=V' c
  rw[hV c this]
  exact h
 | .via c f,v,hn,h=>by
  have:c≠r:=fun e=>by
   simp_all[IV.nor]
  show f (V' c) v
  rw[hV c this]
  exact h
 | .opt _ _,_,hn,h=>⟨fun hg=>(h.1 hg).newV hV hn,h.2⟩
 | .clo _ _ _,_,_,h=>h
 | .sl _ _ _,_,_,h=>h
theorem VR.kill{r:Nat}{x:IV}{v:Value}(h:VR w D M V x v):VR w D M V (x.kill r) v:=by
 unfold IV.kill
 cases x.nor r with
 | true=>exact h
 | false=>trivial
end
theorem CFit.newM{w:World}{D:Nat->Prop}{M M':Nat->Nat}{V:Nat->Value}{b:Nat}(hM:∀ c,c≠b->M' c=M c){is:List IV}{cs:List Value}(hn:is.all (·.nob b)=true)(h:CFit w D M V is cs):CFit w D M' V is cs:=
 ⟨h.1,fun j x v h1 h2=>⟨(h.2 j x v h1 h2).1.newM hM (List.all_eq_true.1 hn _ (List.mem_of_getElem? h1)),(h.2 j x v h1 h2).2⟩⟩
section
variable{P:Program}{cx:Cx}{T:TL}{B:BL}{R:RL}{M:Nat->Nat}{V:Nat->Value}{o:Oper}
theorem AU{w:World}{D:Nat->Prop}:∀ (zs:List Value) {j:Nat} {x:IV} {v:Value},(zs.map IV.is)[j]?=some x->zs[j]?=some v->zs.all (·.oneCell')=true->VR w D M V x v/\v.oneCell'=true:=fun zs j x v h1 h2 h3=>by
 rw[List.getElem?_map,h2]at h1
 obtain rfl:IV.is v=x:=by grind
 exact⟨.cell v,List.all_eq_true.1 h3 _ (List.mem_of_getElem? h2)⟩
theorem Rel.alloc{a:Act}{w:World}(hr:Rel cx T B R M V a w)(b:Nat)(ty:TypeId){is:List IV}{cs:List Value}(hpn:cx.pn.all (fun c => !Nat.beq c b)=true)(hT:nobT b T=true)(hB:VB b B=true)(his:is.all (·.nob b)=true)(hc:CFit w (Dc cx B R M V w) M V is cs){d:Nat}(hd:d<cx.n):
  ∃ M',Rel cx ((d,.box b 0)::T) ((b,⟨ty,is⟩)::B) R M' V (a.put (some d) (.pointer (some ⟨w.heap.size,0,none⟩))) (w.alloc (.cells cs.toArray ty)):=by
 have hb:Below w.heap.size w (w.alloc (.cells cs.toArray ty)):=(Below.refl _ _).alloc (Nat.le_refl _) _
 have hh:=hr.heap
 have hk:=hh.keeps hb
 refine⟨fun c=>if c=b then w.heap.size else M c,?_⟩
 have hM:∀ c,c≠b->(fun c=>if c=b then w.heap.size else M c) c=M c:=fun c h=>if_neg h
 have hMb:(fun c=>if c=b then w.heap.size else M c) b=w.heap.size:=if_pos rfl
 generalize(fun c=>if c=b then w.heap.size else M c)=M' at hM hMb ⊢
 have hlt:∀ c x,lk c B=some x->M c<w.heap.size:=fun c x hx=>by
  obtain⟨_,cs,h2,_⟩:=hh.box c x hx
  exact h2.lt
 have hD:∀ g,Dc cx B R M V w g->Dc cx ((b,⟨ty,is⟩)::B) R M' V (w.alloc (.cells cs.toArray ty)) g:=fun g hg=>by
  have hgl:=hh.dlt hg
  rcases hg with hg | ⟨h1,h2,h3,h4⟩
  ·exact .inl hg
  ·refine .inr ⟨h1,by have:=hb.size;omega,fun c x hx=>?_,h4⟩
   rcases AK hx with⟨rfl,_⟩ | ⟨hne,hx⟩
   ·grind
   grind
 have hwz:(w.alloc (.cells cs.toArray ty)).heap.size=w.heap.size+1:=by simp
 refine⟨by simpa[Act.put]using hr.size,hr.defers,⟨hh.below.step hb,hh.d0,hh.bl,hh.gl,fun c x hx=>?_,fun r x hx=>?_,hh.ro,fun c hc=>?_,fun c e x y hx hy he=>?_,fun c r x y g hx hy hf hg=>?_,hh.rr⟩,fun t x hx=>?_⟩
 ·rcases AK hx with⟨rfl,rfl⟩ | ⟨hne,hx⟩
  ·rw[hMb]
   refine⟨.inl hh.below.size,cs,Blk.new _ _ _,?_⟩
   exact(hc.newM hM his).stay hk hD
  ·rw[hM c (Ne.symm hne)]
   obtain⟨h1,cs',h2,h3⟩:=hh.box c x hx
   refine⟨h1,cs',h2.kept hb,?_⟩
   exact(h3.newM hM (List.all_eq_true.1 hB _ (FC hx))).stay hk hD
 ·have h1:=hh.row r x hx
  split
  ·rename_i hf
   rw[if_pos hf]at h1
   exact h1.stay hk hD
  ·rename_i hf
   rw[if_neg hf]at h1
   exact Gx.stay h1 (fun g hg=>hb.block g (Gx.lt h1 g hg)) hk hD
 ·have h1:=List.all_eq_true.1 hpn c hc
  have hne:c≠b:=fun e=>by
   simp_all
  rw[hM c hne]
  exact hh.pin c hc
 ·rcases AK hx with⟨rfl,rfl⟩ | ⟨hne,hx⟩
  ·rcases AK hy with⟨rfl,rfl⟩ | ⟨hne',hy⟩
   ·rfl
   grind
  ·rcases AK hy with⟨rfl,rfl⟩ | ⟨hne',hy⟩
   ·grind
   ·rw[hM c (Ne.symm hne),hM e (Ne.symm hne')]at he
    exact hh.bb c e x y hx hy he
 ·rcases AK hx with⟨rfl,rfl⟩ | ⟨hne,hx⟩
  ·rw[hMb]
   have h1:=hh.row r y hy
   rw[hf]at h1
   have:=Gx.lt h1 g hg
   omega
  ·rw[hM c (Ne.symm hne)]
   exact hh.br c r x y g hx hy hf hg
 ·rw[GJ a d t _ (by rw[hr.size];exact hd)]
  rcases AK hx with⟨rfl,rfl⟩ | ⟨hne,hx⟩
  ·rw[if_pos rfl]
   show _=Value.pointer (some ⟨M' b,0,none⟩)
   rw[hMb]
  ·rw[if_neg hne]
   exact((hr.tmp t x hx).newM hM (List.all_eq_true.1 hT _ (FC hx))).stay hk hD
variable{ops:Array Oper}{Q:Exit->Act->World->Prop}{l:List Oper}
theorem AV{d:Nat}{ty:TypeId}{zs:List Value}(b:Nat)(is:List IV)(hg:o.guard=none)(hd:o.dst=some d)(hn:Nat.blt d cx.n=true)(ho:o.op=.alloc ty)(hz:C8 P ty=some zs)(hc:∀ (w:World) (D:Nat->Prop) (M:Nat->Nat) (V:Nat->Value),CFit w D M V is zs)
  (hpn:cx.pn.all (fun c => !Nat.beq c b)=true) (hT:nobT b T=true) (hB:VB b B=true) (his:is.all (·.nob b)=true) (hE:E cx ((d,.box b 0)::T) ((b,⟨ty,is⟩)::B) R (wpList P ops Q l)):E cx T B R (wpList P ops Q (o::l)):=fun M V a w hr=>by
 refine wpList_plain hg fun K hK=>?_
 obtain⟨M',hr'⟩:=hr.alloc b ty hpn hT hB his (hc w _ M V) (d:=d) (CJ hn)
 have:=hK _ _ (hE M' V _ _ hr')
 cases hi:P.info? ty with
 | none=>grind[C8]
 | some i=>
  cases hzz:i.zero with
  | none=>grind[C8]
  | some z=>
   have hzc:z.cells=zs.toArray:=by
    have:z.cells.toList=zs:=by simpa[C8,hi,hzz]using hz
    rw[<- this]
   simp_all[Oper.wp,execOp,Instr.alloc,zeroValue,typeInfo,newVar,newRow,Oper.upon]
theorem BX{d:Nat}{ty:TypeId}{x:Operand}{ds:List Dat}(b:Nat)(hg:o.guard=none)(hd:o.dst=some d)(hn:Nat.blt d cx.n=true)(ho:o.op=.box ty x)(hx:Kn T x (.part (.many ds)))(h1:ds.all Dat.isOne=true)
  (hpn:cx.pn.all (fun c => !Nat.beq c b)=true) (hT:nobT b T=true) (hB:VB b B=true) (hE:E cx ((d,.box b 0)::T) ((b,⟨ty,ds.map fun d=>.part (.one d)⟩)::B) R (wpList P ops Q l)):E cx T B R (wpList P ops Q (o::l)):=fun M V a w hr=>by
 refine wpList_plain hg fun K hK=>?_
 obtain⟨xs,hv,hf⟩:=hx w (Dc cx B R M V w) M V a fun t z _ hz=>hr.tmp t z hz
 have hc:CFit w (Dc cx B R M V w) M V (ds.map fun d=>.part (.one d)) xs:=⟨by simp[hf.1],fun j y v hy hvv=>by
  rw[List.getElem?_map,Option.map_eq_some_iff]at hy
  obtain⟨e,he,rfl⟩:=hy
  exact⟨hf.2 j e v he hvv,hf.one h1 v (List.mem_of_getElem? hvv)⟩⟩
 obtain⟨M',hr'⟩:=hr.alloc b ty hpn hT hB (by grind[IV.nob]) hc (d:=d) (CJ hn)
 have:=hK _ _ (hE M' V _ _ hr')
 simp_all[Oper.wp,execOp,Instr.box,newVar,newRow,Value.cells,Oper.upon]
def IV.isOne:IV->Bool
 | .part (.one d)=>d.isOne
 | .ref _=>true
 | .box _ _=>true
 | .clo _ _ _=>true
 | .sl _ _ _=>true
 | _=>false
theorem VR.one{w:World}{D:Nat->Prop}:∀ {x:IV} {v:Value},VR w D M V x v->x.isOne=true->v.oneCell'=true
 | .part (.one _),_,h,h1=>Lies.one h h1
 | .ref _,_,⟨_,_,h,_⟩,_=>by rw[h];rfl
 | .box _ _,v,h,_=>by
  have:v=_:=h
  rw[this]
  rfl
 | .clo _ _ _,v,h,_=>by
  have:v=_:=h
  rw[this]
  rfl
 | .sl _ _ _,v,h,_=>by
  have:v=_:=h
  rw[this]
  rfl
 | .part (.many _),_,_,h=>by cases h
 | .junk,_,_,h=>by cases h
 | .tup _,_,_,h=>by cases h
 | .own _,_,_,h=>by cases h
 | .via _ _,_,_,h=>by cases h
 | .opt _ _,_,_,h=>by cases h
theorem Rel.set{a:Act}{w w':World}(hr:Rel cx T B R M V a w){b:Nat}{bx:Bx}(hb:lk b B=some bx){is:List IV}{cs:List Value}(hw:Blk w' (M b) bx.ty cs)(hot:∀ k,k≠M b->w'.heap[k]?=w.heap[k]?)(hs:w'.heap.size=w.heap.size)(h1:w'.os=w.os)(h2:w'.tape=w.tape)(h3:w'.output=w.output)
  (hc:CFit w (Dc cx B R M V w) M V is cs):Rel cx T ((b,⟨bx.ty,is⟩)::B) R M V a w':=by
 have hh:=hr.heap
 obtain⟨hge,_⟩:=hh.box b bx hb
 have hlk:∀ c x,lk c ((b,⟨bx.ty,is⟩)::B)=some x -> ∃ y,lk c B=some y:=fun c x hx=>by
  rcases AK hx with⟨rfl,_⟩ | ⟨_,hx⟩
  ·grind
  grind
 have hk:Keeps (Dc cx B R M V w) w w':=fun g hg=>hot g fun e=>by
  rcases hg with hg | ⟨_,_,hg,_⟩
  ·have:=hh.d0 g hg
   grind
  grind
 have hD:∀ g,Dc cx B R M V w g->Dc cx ((b,⟨bx.ty,is⟩)::B) R M V w' g:=fun g hg=>by
  rcases hg with hg | ⟨a1,a2,a3,a4⟩
  ·exact .inl hg
  ·exact .inr ⟨a1,by omega,fun c x hx=>by grind,a4⟩
 refine⟨hr.size,hr.defers,⟨hh.below.turn h1 h2 h3 (by omega) (some (M b)) (fun g e=>by
  grind) (fun k _ hk'=>hot k fun e=>hk' (by rw[e])),hh.d0,hh.bl,hh.gl,fun c x hx=>?_,fun r x hx=>?_,hh.ro,hh.pin,fun c e x y hx hy he=>?_,fun c r x y g hx hy hf hg=>?_,hh.rr⟩,fun t x hx=>(hr.tmp t x hx).stay hk hD⟩
 ·rcases AK hx with⟨rfl,rfl⟩ | ⟨hne,hx⟩
  ·exact⟨hge,cs,hw,hc.stay hk hD⟩
  ·obtain⟨a1,cs',a2,a3⟩:=hh.box c x hx
   have hne':M c≠M b:=fun e=>hne (hh.bb c b x bx hx hb e).symm
   exact⟨a1,cs',(hot _ hne').trans a2,a3.stay hk hD⟩
 ·have hrow:=hh.row r x hx
  split
  ·rename_i hf
   rw[if_pos hf]at hrow
   exact hrow.stay hk hD
  ·rename_i hf
   rw[if_neg hf]at hrow
   exact Gx.stay hrow (fun g hg=>hot g fun e=>hh.br b r bx x g hb hx (by grind) hg e.symm) hk hD
 ·obtain⟨x',hx'⟩:=hlk c x hx
  obtain⟨y',hy'⟩:=hlk e y hy
  exact hh.bb c e x' y' hx' hy' he
 ·obtain⟨x',hx'⟩:=hlk c x hx
  exact hh.br c r x' y g hx' hy hf hg
theorem C7{ty:TypeId}{x y:Operand}{b j:Nat}{bx:Bx}{v:IV}{is:List IV}(hg:o.guard=none)(hd:o.dst=none)(ho:o.op=.store ty x y)(hx:Kn T x (.box b j))(hb:lk b B=some bx)(hy:Kn T y v)(h1:v.isOne=true)(hj:Nat.blt j bx.cs.length=true)(hs:sizeT P ty=some 1)(his:bx.cs.set j v=is)
  (hE:E cx T ((b,⟨bx.ty,is⟩)::B) R (wpList P ops Q l)):E cx T B R (wpList P ops Q (o::l)):=fun M V a w hr=>by
 refine wpList_plain hg fun K hK=>?_
 have hT:∀ t z,lk t T=some z->_:=fun t z hz=>hr.tmp t z hz
 have hxv:a.eval x=_:=hx w (Dc cx B R M V w) M V a fun t z _ hz=>hT t z hz
 have hyv:=hy w (Dc cx B R M V w) M V a fun t z _ hz=>hT t z hz
 have hone:=hyv.one h1
 obtain⟨_,cs,h2,h3⟩:=hr.heap.box b bx hb
 have hj':j<cs.length:=by rw[<- h3.1];simpa using hj
 have hcell:w.cell? ⟨M b,j,none⟩=some cs[j]:=(h2.cell j).trans (List.getElem?_eq_getElem hj')
 have hst:(store ⟨M b,j,none⟩ (a.eval y)).run P w=.ok () (w.setCell ⟨M b,j,none⟩ (a.eval y)):=by
  rw[run_store P w _ _ _ hone,hcell]
  simp[h2.frozen j]
 have hadd:(⟨M b,j,none⟩:Addr).add 0=⟨M b,j,none⟩:=by unfold Addr.add;split<;>simp_all
 have hcl:(a.eval y).cells = #[a.eval y]:=by
  revert hone
  generalize a.eval y=u
  intro h
  cases u<;>first | rfl | cases h
 have hr':=hr.set (w':=w.setCell ⟨M b,j,none⟩ (a.eval y)) hb (is:=is) (h2.set_ j (a.eval y)) (fun k hk=>Below.heap_setCell w ⟨M b,j,none⟩ _ k hk) (by simp_all) rfl rfl rfl ⟨by rw[<- his];simp[h3.1],fun i z u hz hu=>by
  rw[<- his]at hz
  rw[List.getElem?_set]at hz hu
  split at hz
  ·grind
  ·rename_i hij
   rw[if_neg hij]at hu
   exact h3.2 i z u hz hu⟩
 have:=hK _ _ (hE M V _ _ hr')
 simp_all[CW,Oper.wp,execOp,Instr.storeAt,Instr.sureAddr,storeVar,storeCells,Oper.upon,Act.put]
theorem D6{ty:TypeId}{x y:Operand}{b j r:Nat}{bx:Bx}{z:Rw}{is:List IV}(hg:o.guard=none)(hd:o.dst=none)(ho:o.op=.store ty x y)(hx:Kn T x (.box b j))(hb:lk b B=some bx)(hy:Kn T y (.own r))(hr0:lk r R=some z)(hj:Nat.blt j bx.cs.length=true)(hs:sizeT P ty=some 1)(his:bx.cs.set j (.own r)=is)
  (hE:E cx T ((b,⟨bx.ty,is⟩)::B) R (wpList P ops Q l)):E cx T B R (wpList P ops Q (o::l)):=fun M V a w hr=>by
 refine wpList_plain hg fun K hK=>?_
 have hT:∀ t z,lk t T=some z->_:=fun t z hz=>hr.tmp t z hz
 have hxv:a.eval x=_:=hx w (Dc cx B R M V w) M V a fun t z _ hz=>hT t z hz
 have hyv:=hy w (Dc cx B R M V w) M V a fun t z _ hz=>hT t z hz
 have hone:(a.eval y).oneCell'=true:=by
  have e:a.eval y=V r:=hyv
  rw[e]
  have h2:=hr.heap.row r z hr0
  split at h2
  ·rcases hty:Nat.blt z.ty 1000000 with _ | _
   ·rcases hty2:Nat.blt z.ty 2000000 with _ | _
    ·rw[KY hty2]at h2
     obtain⟨p,c,h3⟩:=FH h2
     rw[h3]
     rfl
    ·rw[MH hty hty2]at h2
     generalize V r=u at h2 ⊢
     cases h2
     rfl
   ·rw[FS hty]at h2
    obtain⟨p,c,h3⟩:=FH h2
    rw[h3]
    rfl
  ·obtain⟨xs,⟨_,_,h3⟩ | ⟨_,g,es,c,h3,_⟩ | ⟨_,_,h3⟩,_⟩:=h2
   ·rcases h3 with⟨h3,_⟩ | ⟨g,cap,cur,h3,_⟩<;>(rw[h3];rfl)
   ·rw[h3];rfl
   ·rcases h3 with⟨h3,_⟩ | ⟨g,cap,cur,h3,_⟩<;>(rw[h3];rfl)
 obtain⟨_,cs,h2,h3⟩:=hr.heap.box b bx hb
 have hj':j<cs.length:=by rw[<- h3.1];simpa using hj
 have hcell:w.cell? ⟨M b,j,none⟩=some cs[j]:=(h2.cell j).trans (List.getElem?_eq_getElem hj')
 have hst:(store ⟨M b,j,none⟩ (a.eval y)).run P w=.ok () (w.setCell ⟨M b,j,none⟩ (a.eval y)):=by
  rw[run_store P w _ _ _ hone,hcell]
  simp[h2.frozen j]
 have hadd:(⟨M b,j,none⟩:Addr).add 0=⟨M b,j,none⟩:=by unfold Addr.add;split<;>simp_all
 have hcl:(a.eval y).cells = #[a.eval y]:=by
  revert hone
  generalize a.eval y=u
  intro h
  cases u<;>first | rfl | cases h
 have hr':=hr.set (w':=w.setCell ⟨M b,j,none⟩ (a.eval y)) hb (is:=is) (h2.set_ j (a.eval y)) (fun k hk=>Below.heap_setCell w ⟨M b,j,none⟩ _ k hk) (by simp_all) rfl rfl rfl ⟨by rw[<- his];simp[h3.1],fun i z' u hz hu=>by
  rw[<- his]at hz
  rw[List.getElem?_set]at hz hu
  split at hz
  ·grind
  ·rename_i hij
   rw[if_neg hij]at hu
   exact h3.2 i z' u hz hu⟩
 have:=hK _ _ (hE M V _ _ hr')
 simp_all[CW,Oper.wp,execOp,Instr.storeAt,Instr.sureAddr,storeVar,storeCells,Oper.upon,Act.put]
theorem GK{ty:TypeId}{x y:Operand}{b j:Nat}{bx:Bx}{ds:List Dat}{is:List IV}(hg:o.guard=none)(hd:o.dst=none)(ho:o.op=.store ty x y)(hx:Kn T x (.box b j))(hb:lk b B=some bx)(hy:Kn T y (.part (.many ds)))(h1:ds.all Dat.isOne=true)(hj:Nat.ble (j+ds.length) bx.cs.length=true)(hs:sizeT P ty=some ds.length)(his:bx.cs.take j++ds.map (fun d=>.part (.one d))++bx.cs.drop (j+ds.length)=is)
  (hE:E cx T ((b,⟨bx.ty,is⟩)::B) R (wpList P ops Q l)):E cx T B R (wpList P ops Q (o::l)):=fun M V a w hr=>by
 refine wpList_plain hg fun K hK=>?_
 have hT:∀ t z,lk t T=some z->_:=fun t z hz=>hr.tmp t z hz
 have hxv:a.eval x=_:=hx w (Dc cx B R M V w) M V a fun t z _ hz=>hT t z hz
 obtain⟨xs,hyv,hyf⟩:=hy w (Dc cx B R M V w) M V a fun t z _ hz=>hT t z hz
 have hone:=hyf.one h1
 obtain⟨_,cs,h2,h3⟩:=hr.heap.box b bx hb
 have hj':=Nat.le_of_ble_eq_true hj
 have hlen:xs.length=ds.length:=hyf.1.symm
 have hcl:cs.length=bx.cs.length:=h3.1.symm
 have hst:=run_storeCells_at (P:=P) (M b) j bx.ty xs 0 cs.toArray w h2 (by simp;omega) hone
 simp only[Nat.add_zero]at hst
 have hrow:=setRow_heap w (M b) cs.toArray (cs.take j++xs++cs.drop (j+xs.length)).toArray bx.ty (0,0) h2
 have hr':=hr.set (w':=w.setRow (M b) (cs.take j++xs++cs.drop (j+xs.length)).toArray) hb (is:=is) hrow (fun k hk=>setRow_other w (M b) k _ hk) (by simp) rfl rfl rfl ⟨by grind,fun i z u hz hu=>by
  rw[<- his]at hz
  rw[List.append_assoc]at hz hu
  rcases Nat.lt_or_ge i j with hi | hi
  ·rw[List.getElem?_append_left (by simp;omega),List.getElem?_take,if_pos hi]at hz
   rw[List.getElem?_append_left (by simp;omega),List.getElem?_take,if_pos hi]at hu
   exact h3.2 i z u hz hu
  ·rw[List.getElem?_append_right (by simp;omega)]at hz hu
   have e1:i-(List.take j bx.cs).length=i-j:=by simp;omega
   have e2:i-(List.take j cs).length=i-j:=by simp;omega
   rw[e1]at hz
   rw[e2]at hu
   rcases Nat.lt_or_ge (i-j) ds.length with hk | hk
   ·rw[List.getElem?_append_left (by grind),List.getElem?_map,Option.map_eq_some_iff]at hz
    obtain⟨e,he,rfl⟩:=hz
    rw[List.getElem?_append_left (by omega)]at hu
    exact⟨hyf.2 _ e u he hu,hone u (List.mem_of_getElem? hu)⟩
   ·rw[List.getElem?_append_right (by grind),List.length_map,List.getElem?_drop]at hz
    rw[List.getElem?_append_right (by omega),List.getElem?_drop,hlen]at hu
    exact h3.2 _ z u hz hu⟩
 have:=hK _ _ (hE M V _ _ hr')
 simp_all[CW,Oper.wp,execOp,Instr.storeAt,Instr.sureAddr,storeVar,Value.cells,Oper.upon,Act.put]
theorem AP{ty:TypeId}{x y:Operand}{b:Nat}{bx:Bx}{ds:List Dat}(hg:o.guard=none)(hd:o.dst=none)(ho:o.op=.store ty x y)(hx:Kn T x (.box b 0))(hb:lk b B=some bx)(hy:Kn T y (.part (.many ds)))(h1:ds.all Dat.isOne=true)(hj:Nat.beq ds.length bx.cs.length=true)(hs:sizeT P ty=some ds.length)
  (hE:E cx T ((b,⟨bx.ty,ds.map fun d=>.part (.one d)⟩)::B) R (wpList P ops Q l)):E cx T B R (wpList P ops Q (o::l)):=
 GK hg hd ho hx hb hy h1 (by rw[Nat.zero_add,Nat.eq_of_beq_eq_true hj];exact Nat.ble_eq_true_of_le (Nat.le_refl _)) hs (by simp_all) hE
end
end
end Go.Proofs.Ytecfdcdkkgmkpaa
