/- Part 5. Conditions: as each theorem says. -/
import Derived.Test.YtojdpgeeajaojaaES04
import Derived.Maps.AppendAt
import Derived.Laws.CopyRow
set_option maxRecDepth 100000
namespace Go.Proofs.Ytojdpgeeajaojaa
open Go.RowKit
section
def Cap.nob(b:Nat):Cap->Bool
 | .box c _ => !Nat.beq c b
 | .val _=>true
def IV.nob(b:Nat):IV->Bool
 | .box c _ => !Nat.beq c b
 | .sl c _ _ => !Nat.beq c b
 | .opt _ x=>x.nob b
 | .clo _ fs cs=>fs.all (Cap.nob b)&&cs.all (Cap.nob b)
 | _=>true
def PN(b:Nat)(T:TL):Bool:=T.all fun x=>x.2.nob b
def PS(b:Nat)(B:BL):Bool:=B.all fun x=>x.2.cs.all fun y=>y.nob b
theorem LI{α β:Type}(f:α->β)(i:Nat):∀ l:List (Nat×α),lk i (l.map fun x=>(x.1,f x.2))=(lk i l).map f
 | []=>rfl
 | (j,a)::l=>by
  by_cases h:j=i
  ·subst h
   rw[List.map_cons,BD,BD]
   rfl
  ·rw[List.map_cons,B5 _ _ h,B5 _ _ h]
   exact LI f i l
section
variable{w:World}{D:Nat->Prop}{M M':Nat->Nat}{V V':Nat->Value}
theorem IS{b:Nat}(hM:∀ c,c≠b->M' c=M c){l:List Cap}(h:l.all (Cap.nob b)=true):l.map (CL M')=l.map (CL M):=List.map_congr_left fun x hx=>by
 have:=List.all_eq_true.1 h x hx
 cases x with
 | val v=>rfl
 | box c j=>
  have:c≠b:=fun e=>by
   subst e
   simp[Cap.nob]at this
  show Value.pointer (some ⟨M' c,j,none⟩)=.pointer (some ⟨M c,j,none⟩)
  rw[hM c this]
theorem VR.newM{b:Nat}(hM:∀ c,c≠b->M' c=M c):∀ {x:IV} {v:Value},x.nob b=true->VR w D M V x v->VR w D M' V x v
 | .junk,_,_,h=>h
 | .part _,_,_,h=>h
 | .tup _,_,_,h=>h
 | .ref _,_,_,h=>h
 | .own _,_,_,h=>h
 | .via _ _,_,_,h=>h
 | .box c j,v,hn,h=>by
  have:c≠b:=fun e=>by
   subst e
   simp[IV.nob]at hn
  show v=.pointer (some ⟨M' c,j,none⟩)
  rw[hM c this]
  exact h
 | .sl c n k,v,hn,h=>by
  have:c≠b:=fun e=>by
   subst e
   simp[IV.nob]at hn
  show v=.slice (some ⟨M' c,0,none⟩) n k
  rw[hM c this]
  exact h
 | .opt _ _,_,hn,h=>⟨fun hg=>(h.1 hg).newM hM hn,h.2⟩
 | .clo fn fs cs,v,hn,h=>by
  have h1:fs.all (Cap.nob b)=true:=gl hn
  have h2:cs.all (Cap.nob b)=true:=gr hn
  show v=.func fn (fs.map (CL M')).toArray (cs.map (CL M')).toArray
  rw[IS hM h1,IS hM h2]
  exact h
end
theorem CFit.newM{w:World}{D:Nat->Prop}{M M':Nat->Nat}{V:Nat->Value}{b:Nat}(hM:∀ c,c≠b->M' c=M c){is:List IV}{cs:List Value}(hn:is.all (·.nob b)=true)(h:CFit w D M V is cs):CFit w D M' V is cs:=
 ⟨h.1,fun j x v h1 h2=>⟨(h.2 j x v h1 h2).1.newM hM (List.all_eq_true.1 hn _ (List.mem_of_getElem? h1)),(h.2 j x v h1 h2).2⟩⟩
section
variable{P:Program}{cx:Cx}{T:TL}{B:BL}{R:RL}{M:Nat->Nat}{V:Nat->Value}{o:Oper}
theorem B7{w:World}{D:Nat->Prop}:∀ (zs:List Value) {j:Nat} {x:IV} {v:Value},(zs.map IV.is)[j]?=some x->zs[j]?=some v->zs.all (·.oneCell')=true->VR w D M V x v/\v.oneCell'=true:=fun zs j x v h1 h2 h3=>by
 rw[List.getElem?_map,h2]at h1
 obtain rfl:IV.is v=x:=by simpa using h1
 exact⟨.cell v,List.all_eq_true.1 h3 _ (List.mem_of_getElem? h2)⟩
theorem Rel.alloc{a:Act}{w:World}(hr:Rel cx T B R M V a w)(b:Nat)(ty:TypeId){is:List IV}{cs:List Value}(hpn:cx.pn.all (fun c => !Nat.beq c b)=true)(hT:PN b T=true)(hB:PS b B=true)(his:is.all (·.nob b)=true)(hc:CFit w (Dc cx B R M V w) M V is cs){d:Nat}(hd:d<cx.n):
  ∃ M',Rel cx ((d,.box b 0)::T) ((b,⟨ty,is⟩)::B) R M' V (a.put (some d) (.pointer (some ⟨w.heap.size,0,none⟩))) (w.alloc (.cells cs.toArray ty)):=by
 have hb:Below w.heap.size w (w.alloc (.cells cs.toArray ty)):=(Below.refl _ _).alloc (Nat.le_refl _) _
 have hh:=hr.heap
 have hk:=hh.keeps hb
 refine⟨fun c=>if c=b then w.heap.size else M c,?_⟩
 have hM:∀ c,c≠b->(fun c=>if c=b then w.heap.size else M c) c=M c:=fun c h=>if_neg h
 have hMb:(fun c=>if c=b then w.heap.size else M c) b=w.heap.size:=if_pos rfl
 generalize(fun c=>if c=b then w.heap.size else M c)=M' at hM hMb ⊢
 have hlt:∀ c x,lk c B=some x->M c<w.heap.size:=fun c x hx=>by
  obtain⟨_,cs,h2,_⟩:=hh.box c x hx
  exact h2.lt
 have hD:∀ g,Dc cx B R M V w g->Dc cx ((b,⟨ty,is⟩)::B) R M' V (w.alloc (.cells cs.toArray ty)) g:=fun g hg=>by
  have hgl:=hh.dlt hg
  rcases hg with hg | ⟨h1,h2,h3,h4⟩
  ·exact .inl hg
  ·refine .inr ⟨h1,by have:=hb.size;omega,fun c x hx=>?_,h4⟩
   rcases AX hx with⟨rfl,_⟩ | ⟨hne,hx⟩
   ·rw[hMb]
    omega
   ·rw[hM c (Ne.symm hne)]
    exact h3 c x hx
 have hwz:(w.alloc (.cells cs.toArray ty)).heap.size=w.heap.size+1:=by simp
 refine⟨by simpa[Act.put]using hr.size,hr.defers,⟨hh.below.step hb,hh.d0,hh.bl,hh.gl,fun c x hx=>?_,fun r x hx=>?_,hh.ro,fun c hc=>?_,fun c e x y hx hy he=>?_,fun c r x y g hx hy hf hg=>?_,hh.rr⟩,fun t x hx=>?_⟩
 ·rcases AX hx with⟨rfl,rfl⟩ | ⟨hne,hx⟩
  ·rw[hMb]
   refine⟨.inl hh.below.size,cs,Blk.new _ _ _,?_⟩
   exact(hc.newM hM his).stay hk hD
  ·rw[hM c (Ne.symm hne)]
   obtain⟨h1,cs',h2,h3⟩:=hh.box c x hx
   refine⟨h1,cs',h2.kept hb,?_⟩
   exact(h3.newM hM (List.all_eq_true.1 hB _ (I5 hx))).stay hk hD
 ·have h1:=hh.row r x hx
  split
  ·rename_i hf
   rw[if_pos hf]at h1
   exact h1.stay hk hD
  ·rename_i hf
   rw[if_neg hf]at h1
   exact Gx.stay h1 (fun g hg=>hb.block g (Gx.lt h1 g hg)) hk hD
 ·have h1:=List.all_eq_true.1 hpn c hc
  have hne:c≠b:=fun e=>by
   subst e
   simp at h1
  rw[hM c hne]
  exact hh.pin c hc
 ·rcases AX hx with⟨rfl,rfl⟩ | ⟨hne,hx⟩
  ·rcases AX hy with⟨rfl,rfl⟩ | ⟨hne',hy⟩
   ·rfl
   ·rw[hMb,hM e (Ne.symm hne')]at he
    have:=hlt e y hy
    omega
  ·rcases AX hy with⟨rfl,rfl⟩ | ⟨hne',hy⟩
   ·rw[hMb,hM c (Ne.symm hne)]at he
    have:=hlt c x hx
    omega
   ·rw[hM c (Ne.symm hne),hM e (Ne.symm hne')]at he
    exact hh.bb c e x y hx hy he
 ·rcases AX hx with⟨rfl,rfl⟩ | ⟨hne,hx⟩
  ·rw[hMb]
   have h1:=hh.row r y hy
   rw[hf]at h1
   have:=Gx.lt h1 g hg
   omega
  ·rw[hM c (Ne.symm hne)]
   exact hh.br c r x y g hx hy hf hg
 ·rw[EE a d t _ (by rw[hr.size];exact hd)]
  rcases AX hx with⟨rfl,rfl⟩ | ⟨hne,hx⟩
  ·rw[if_pos rfl]
   show _=Value.pointer (some ⟨M' b,0,none⟩)
   rw[hMb]
  ·rw[if_neg hne]
   exact((hr.tmp t x hx).newM hM (List.all_eq_true.1 hT _ (I5 hx))).stay hk hD
variable{ops:Array Oper}{Q:Exit->Act->World->Prop}{l:List Oper}
theorem B6{d:Nat}{ty:TypeId}{zs:List Value}(b:Nat)(is:List IV)(hg:o.guard=none)(hd:o.dst=some d)(hn:Nat.blt d cx.n=true)(ho:o.op=.alloc ty)(hz:CB P ty=some zs)(hc:∀ (w:World) (D:Nat->Prop) (M:Nat->Nat) (V:Nat->Value),CFit w D M V is zs)
  (hpn:cx.pn.all (fun c => !Nat.beq c b)=true) (hT:PN b T=true) (hB:PS b B=true) (his:is.all (·.nob b)=true) (hE:E cx ((d,.box b 0)::T) ((b,⟨ty,is⟩)::B) R (wpList P ops Q l)):E cx T B R (wpList P ops Q (o::l)):=fun M V a w hr=>by
 refine wpList_plain hg fun K hK=>?_
 obtain⟨M',hr'⟩:=hr.alloc b ty hpn hT hB his (hc w _ M V) (d:=d) (C9 hn)
 have:=hK _ _ (hE M' V _ _ hr')
 cases hi:P.info? ty with
 | none=>simp[CB,hi]at hz
 | some i=>
  cases hzz:i.zero with
  | none=>simp[CB,hi,hzz]at hz
  | some z=>
   have hzc:z.cells=zs.toArray:=by
    have:z.cells.toList=zs:=by simpa[CB,hi,hzz]using hz
    rw[<- this]
   unfold Oper.wp execOp
   simp only[ho,Sem.run_bind]
   simp[Instr.alloc,zeroValue,typeInfo,hi,hzz,newVar,newRow,hzc,Oper.upon,hd]
   exact this
theorem BB{d:Nat}{ty:TypeId}{x:Operand}{ds:List Dat}(b:Nat)(hg:o.guard=none)(hd:o.dst=some d)(hn:Nat.blt d cx.n=true)(ho:o.op=.box ty x)(hx:Kn T x (.part (.many ds)))(h1:ds.all Dat.isOne=true)
  (hpn:cx.pn.all (fun c => !Nat.beq c b)=true) (hT:PN b T=true) (hB:PS b B=true) (hE:E cx ((d,.box b 0)::T) ((b,⟨ty,ds.map fun d=>.part (.one d)⟩)::B) R (wpList P ops Q l)):E cx T B R (wpList P ops Q (o::l)):=fun M V a w hr=>by
 refine wpList_plain hg fun K hK=>?_
 obtain⟨xs,hv,hf⟩:=hx w (Dc cx B R M V w) M V a fun t z _ hz=>hr.tmp t z hz
 have hc:CFit w (Dc cx B R M V w) M V (ds.map fun d=>.part (.one d)) xs:=⟨by simp[hf.1],fun j y v hy hvv=>by
  rw[List.getElem?_map,Option.map_eq_some_iff]at hy
  obtain⟨e,he,rfl⟩:=hy
  exact⟨hf.2 j e v he hvv,hf.one h1 v (List.mem_of_getElem? hvv)⟩⟩
 obtain⟨M',hr'⟩:=hr.alloc b ty hpn hT hB (by rw[List.all_map];simp[IV.nob]) hc (d:=d) (C9 hn)
 have:=hK _ _ (hE M' V _ _ hr')
 unfold Oper.wp execOp
 simp only[ho,hv,Sem.run_bind]
 simp[Instr.box,newVar,newRow,Value.cells,Oper.upon,hd]
 exact this
def IV.isOne:IV->Bool
 | .part (.one d)=>d.isOne
 | .ref _=>true
 | .box _ _=>true
 | .clo _ _ _=>true
 | .sl _ _ _=>true
 | _=>false
theorem VR.one{w:World}{D:Nat->Prop}:∀ {x:IV} {v:Value},VR w D M V x v->x.isOne=true->v.oneCell'=true
 | .part (.one _),_,h,h1=>Lies.one h h1
 | .ref _,_,⟨_,_,h,_⟩,_=>by rw[h];rfl
 | .box _ _,v,h,_=>by
  have:v=_:=h
  rw[this]
  rfl
 | .clo _ _ _,v,h,_=>by
  have:v=_:=h
  rw[this]
  rfl
 | .sl _ _ _,v,h,_=>by
  have:v=_:=h
  rw[this]
  rfl
 | .part (.many _),_,_,h=>by cases h
 | .junk,_,_,h=>by cases h
 | .tup _,_,_,h=>by cases h
 | .own _,_,_,h=>by cases h
 | .via _ _,_,_,h=>by cases h
 | .opt _ _,_,_,h=>by cases h
theorem Rel.set{a:Act}{w w':World}(hr:Rel cx T B R M V a w){b:Nat}{bx:Bx}(hb:lk b B=some bx){is:List IV}{cs:List Value}(hw:Blk w' (M b) bx.ty cs)(hot:∀ k,k≠M b->w'.heap[k]?=w.heap[k]?)(hs:w'.heap.size=w.heap.size)(h1:w'.os=w.os)(h2:w'.tape=w.tape)(h3:w'.output=w.output)
  (hc:CFit w (Dc cx B R M V w) M V is cs):Rel cx T ((b,⟨bx.ty,is⟩)::B) R M V a w':=by
 have hh:=hr.heap
 obtain⟨hge,_⟩:=hh.box b bx hb
 have hlk:∀ c x,lk c ((b,⟨bx.ty,is⟩)::B)=some x -> ∃ y,lk c B=some y:=fun c x hx=>by
  rcases AX hx with⟨rfl,_⟩ | ⟨_,hx⟩
  ·exact⟨bx,hb⟩
  ·exact⟨x,hx⟩
 have hk:Keeps (Dc cx B R M V w) w w':=fun g hg=>hot g fun e=>by
  rcases hg with hg | ⟨_,_,hg,_⟩
  ·have:=hh.d0 g hg
   rcases hge with hge | hge
   ·omega
   ·exact this.2 (e▸hge)
  ·exact hg b bx hb e.symm
 have hD:∀ g,Dc cx B R M V w g->Dc cx ((b,⟨bx.ty,is⟩)::B) R M V w' g:=fun g hg=>by
  rcases hg with hg | ⟨a1,a2,a3,a4⟩
  ·exact .inl hg
  ·exact .inr ⟨a1,by omega,fun c x hx=>by obtain⟨y,hy⟩:=hlk c x hx;exact a3 c y hy,a4⟩
 refine⟨hr.size,hr.defers,⟨hh.below.turn h1 h2 h3 (by omega) (some (M b)) (fun g e=>by
  obtain rfl:M b=g:=by simpa using e
  exact hge) (fun k _ hk'=>hot k fun e=>hk' (by rw[e])),hh.d0,hh.bl,hh.gl,fun c x hx=>?_,fun r x hx=>?_,hh.ro,hh.pin,fun c e x y hx hy he=>?_,fun c r x y g hx hy hf hg=>?_,hh.rr⟩,fun t x hx=>(hr.tmp t x hx).stay hk hD⟩
 ·rcases AX hx with⟨rfl,rfl⟩ | ⟨hne,hx⟩
  ·exact⟨hge,cs,hw,hc.stay hk hD⟩
  ·obtain⟨a1,cs',a2,a3⟩:=hh.box c x hx
   have hne':M c≠M b:=fun e=>hne (hh.bb c b x bx hx hb e).symm
   exact⟨a1,cs',(hot _ hne').trans a2,a3.stay hk hD⟩
 ·have hrow:=hh.row r x hx
  split
  ·rename_i hf
   rw[if_pos hf]at hrow
   exact hrow.stay hk hD
  ·rename_i hf
   rw[if_neg hf]at hrow
   exact Gx.stay hrow (fun g hg=>hot g fun e=>hh.br b r bx x g hb hx (by simpa using hf) hg e.symm) hk hD
 ·obtain⟨x',hx'⟩:=hlk c x hx
  obtain⟨y',hy'⟩:=hlk e y hy
  exact hh.bb c e x' y' hx' hy' he
 ·obtain⟨x',hx'⟩:=hlk c x hx
  exact hh.br c r x' y g hx' hy hf hg
theorem BF{ty:TypeId}{x y:Operand}{b j:Nat}{bx:Bx}{v:IV}{is:List IV}(hg:o.guard=none)(hd:o.dst=none)(ho:o.op=.store ty x y)(hx:Kn T x (.box b j))(hb:lk b B=some bx)(hy:Kn T y v)(h1:v.isOne=true)(hj:Nat.blt j bx.cs.length=true)(hs:sizeT P ty=some 1)(his:bx.cs.set j v=is)
  (hE:E cx T ((b,⟨bx.ty,is⟩)::B) R (wpList P ops Q l)):E cx T B R (wpList P ops Q (o::l)):=fun M V a w hr=>by
 refine wpList_plain hg fun K hK=>?_
 have hT:∀ t z,lk t T=some z->_:=fun t z hz=>hr.tmp t z hz
 have hxv:a.eval x=_:=hx w (Dc cx B R M V w) M V a fun t z _ hz=>hT t z hz
 have hyv:=hy w (Dc cx B R M V w) M V a fun t z _ hz=>hT t z hz
 have hone:=hyv.one h1
 obtain⟨_,cs,h2,h3⟩:=hr.heap.box b bx hb
 have hj':j<cs.length:=by rw[<- h3.1];simpa using hj
 have hcell:w.cell? ⟨M b,j,none⟩=some cs[j]:=(h2.cell j).trans (List.getElem?_eq_getElem hj')
 have hst:(store ⟨M b,j,none⟩ (a.eval y)).run P w=.ok () (w.setCell ⟨M b,j,none⟩ (a.eval y)):=by
  rw[run_store P w _ _ _ hone,hcell]
  simp[h2.frozen j]
 have hadd:(⟨M b,j,none⟩:Addr).add 0=⟨M b,j,none⟩:=by unfold Addr.add;split<;>simp_all
 have hcl:(a.eval y).cells = #[a.eval y]:=by
  revert hone
  generalize a.eval y=u
  intro h
  cases u<;>first | rfl | cases h
 have hr':=hr.set (w':=w.setCell ⟨M b,j,none⟩ (a.eval y)) hb (is:=is) (h2.set_ j (a.eval y)) (fun k hk=>Below.heap_setCell w ⟨M b,j,none⟩ _ k hk) (by simp[World.setCell]) rfl rfl rfl ⟨by rw[<- his];simp[h3.1],fun i z u hz hu=>by
  rw[<- his]at hz
  rw[List.getElem?_set]at hz hu
  split at hz
  ·rename_i hij
   rw[if_pos hij,if_pos hj']at hu
   rw[if_pos (by rw[h3.1];exact hj')]at hz
   obtain rfl:v=z:=by simpa using hz
   obtain rfl:a.eval y=u:=by simpa using hu
   exact⟨hyv,hone⟩
  ·rename_i hij
   rw[if_neg hij]at hu
   exact h3.2 i z u hz hu⟩
 have:=hK _ _ (hE M V _ _ hr')
 have hsz:=DC hs (w:=w)
 unfold Oper.wp execOp
 simp only[ho,hxv,Instr.storeAt,Instr.sureAddr,Sem.run_bind,Sem.run_pure,Result.andThen_ok]
 simp[storeVar,hsz,hcl,storeCells,hadd,hst,Oper.upon,hd,Act.put]
 exact this
theorem EB{ty:TypeId}{x y:Operand}{b j:Nat}{bx:Bx}{ds:List Dat}{is:List IV}(hg:o.guard=none)(hd:o.dst=none)(ho:o.op=.store ty x y)(hx:Kn T x (.box b j))(hb:lk b B=some bx)(hy:Kn T y (.part (.many ds)))(h1:ds.all Dat.isOne=true)(hj:Nat.ble (j+ds.length) bx.cs.length=true)(hs:sizeT P ty=some ds.length)(his:bx.cs.take j++ds.map (fun d=>.part (.one d))++bx.cs.drop (j+ds.length)=is)
  (hE:E cx T ((b,⟨bx.ty,is⟩)::B) R (wpList P ops Q l)):E cx T B R (wpList P ops Q (o::l)):=fun M V a w hr=>by
 refine wpList_plain hg fun K hK=>?_
 have hT:∀ t z,lk t T=some z->_:=fun t z hz=>hr.tmp t z hz
 have hxv:a.eval x=_:=hx w (Dc cx B R M V w) M V a fun t z _ hz=>hT t z hz
 obtain⟨xs,hyv,hyf⟩:=hy w (Dc cx B R M V w) M V a fun t z _ hz=>hT t z hz
 have hone:=hyf.one h1
 obtain⟨_,cs,h2,h3⟩:=hr.heap.box b bx hb
 have hj':=Nat.le_of_ble_eq_true hj
 have hlen:xs.length=ds.length:=hyf.1.symm
 have hcl:cs.length=bx.cs.length:=h3.1.symm
 have hst:=run_storeCells_at (P:=P) (M b) j bx.ty xs 0 cs.toArray w h2 (by simp;omega) hone
 simp only[Nat.add_zero]at hst
 have hrow:=setRow_heap w (M b) cs.toArray (cs.take j++xs++cs.drop (j+xs.length)).toArray bx.ty (0,0) h2
 have hr':=hr.set (w':=w.setRow (M b) (cs.take j++xs++cs.drop (j+xs.length)).toArray) hb (is:=is) hrow (fun k hk=>setRow_other w (M b) k _ hk) (by simp) rfl rfl rfl ⟨by rw[<- his];simp;omega,fun i z u hz hu=>by
  rw[<- his]at hz
  rw[List.append_assoc]at hz hu
  rcases Nat.lt_or_ge i j with hi | hi
  ·rw[List.getElem?_append_left (by simp;omega),List.getElem?_take,if_pos hi]at hz
   rw[List.getElem?_append_left (by simp;omega),List.getElem?_take,if_pos hi]at hu
   exact h3.2 i z u hz hu
  ·rw[List.getElem?_append_right (by simp;omega)]at hz hu
   have e1:i-(List.take j bx.cs).length=i-j:=by simp;omega
   have e2:i-(List.take j cs).length=i-j:=by simp;omega
   rw[e1]at hz
   rw[e2]at hu
   rcases Nat.lt_or_ge (i-j) ds.length with hk | hk
   ·rw[List.getElem?_append_left (by simpa using hk),List.getElem?_map,Option.map_eq_some_iff]at hz
    obtain⟨e,he,rfl⟩:=hz
    rw[List.getElem?_append_left (by omega)]at hu
    exact⟨hyf.2 _ e u he hu,hone u (List.mem_of_getElem? hu)⟩
   ·rw[List.getElem?_append_right (by simpa using hk),List.length_map,List.getElem?_drop]at hz
    rw[List.getElem?_append_right (by omega),List.getElem?_drop,hlen]at hu
    exact h3.2 _ z u hz hu⟩
 have:=hK _ _ (hE M V _ _ hr')
 have hsz:=DC hs (w:=w)
 unfold Oper.wp execOp
 simp only[ho,hxv,hyv,Instr.storeAt,Instr.sureAddr,Sem.run_bind,Sem.run_pure,Result.andThen_ok]
 simp[storeVar,hsz,hlen,Value.cells,hst,Oper.upon,hd,Act.put]
 simpa[hlen]using this
theorem B4{ty:TypeId}{x y:Operand}{b:Nat}{bx:Bx}{ds:List Dat}(hg:o.guard=none)(hd:o.dst=none)(ho:o.op=.store ty x y)(hx:Kn T x (.box b 0))(hb:lk b B=some bx)(hy:Kn T y (.part (.many ds)))(h1:ds.all Dat.isOne=true)(hj:Nat.beq ds.length bx.cs.length=true)(hs:sizeT P ty=some ds.length)
  (hE:E cx T ((b,⟨bx.ty,ds.map fun d=>.part (.one d)⟩)::B) R (wpList P ops Q l)):E cx T B R (wpList P ops Q (o::l)):=
 EB hg hd ho hx hb hy h1 (by rw[Nat.zero_add,Nat.eq_of_beq_eq_true hj];exact Nat.ble_eq_true_of_le (Nat.le_refl _)) hs (by rw[Nat.zero_add,Nat.eq_of_beq_eq_true hj,List.take_zero,List.drop_length];simp) hE
end
end
section
def Imp(x y:IV):Prop:=∀ (w:World) (D:Nat->Prop) (M:Nat->Nat) (V:Nat->Value) (v:Value),VR w D M V x v->VR w D M V y v
theorem Imp.refl(x:IV):Imp x x:=fun _ _ _ _ _ h=>h
theorem Imp.trans{x y z:IV}(h:Imp x y)(k:Imp y z):Imp x z:=fun w D M V v hv=>k w D M V v (h w D M V v hv)
theorem Imp.of_eq{x y:IV}(h:x=y):Imp x y:=h▸Imp.refl x
theorem Imp.junk(x:IV):Imp x .junk:=fun _ _ _ _ _ _=>trivial
def DImp(d e:Dat):Prop:=∀ (w:World) (D:Nat->Prop) (v:Value),Lies w D d v->Lies w D e v
theorem DImp.refl(d:Dat):DImp d d:=fun _ _ _ h=>h
theorem DImp.of_eq{d e:Dat}(h:d=e):DImp d e:=h▸DImp.refl d
theorem DImp.nil(k:Nat):DImp (.cell (.slice none 0 0)) (.row k 0 []):=fun w D v h=>by
 rw[h.cell_eq]
 exact .none _ _ _
theorem Imp.one{d e:Dat}(h:DImp d e):Imp (.part (.one d)) (.part (.one e)):=fun w D _ _ v hv=>h w D v hv
theorem Imp.nil(k:Nat):Imp (.is (.slice none 0 0)) (.part (.one (.row k 0 []))):=Imp.one (DImp.nil k)
def DsImp:List Dat->List Dat->Prop
 | [],[]=>True
 | d::l,e::m=>DImp d e/\DsImp l m
 | _,_=>False
theorem DsImp.fit{w:World}{D:Nat->Prop}:∀ {ds es:List Dat} {xs:List Value},DsImp ds es->Fits w D ds xs->Fits w D es xs
 | [],[],_,_,h=>h
 | _::_,_::_,_,hi,h=>by
  obtain⟨x,ys,rfl,h1,h2⟩:=h.head
  exact .cons (hi.1 w D x h1) (DsImp.fit hi.2 h2)
 | [],_::_,_,hi,_=>hi.elim
 | _::_,[],_,hi,_=>hi.elim
theorem Imp.many{ds es:List Dat}(h:DsImp ds es):Imp (.part (.many ds)) (.part (.many es)):=fun _ _ _ _ _ ⟨xs,h1,h2⟩=>⟨xs,h1,h.fit h2⟩
def PImp:Part->Part->Prop
 | .one d,.one e=>DImp d e
 | .many ds,.many es=>DsImp ds es
 | _,_=>False
theorem PImp.fit{w:World}{D:Nat->Prop}:∀ {p q:Part} {v:Value},PImp p q->PFit w D p v->PFit w D q v
 | .one _,.one _,_,hi,h=>hi w D _ h
 | .many _,.many _,_,hi,⟨xs,h1,h2⟩=>⟨xs,h1,DsImp.fit hi h2⟩
 | .one _,.many _,_,hi,_=>hi.elim
 | .many _,.one _,_,hi,_=>hi.elim
theorem DsImp.refl:∀ ds:List Dat,DsImp ds ds
 | []=>trivial
 | d::ds=>⟨DImp.refl d,DsImp.refl ds⟩
theorem PImp.refl:∀ p:Part,PImp p p
 | .one d=>DImp.refl d
 | .many ds=>DsImp.refl ds
theorem PImp.of_eq{p q:Part}(h:p=q):PImp p q:=h▸PImp.refl p
def PsImp:List Part->List Part->Prop
 | [],[]=>True
 | p::l,q::m=>PImp p q/\PsImp l m
 | _,_=>False
theorem PsImp.fit{w:World}{D:Nat->Prop}:∀ {ps qs:List Part} {vs:List Value},PsImp ps qs->PsFit w D ps vs->PsFit w D qs vs
 | [],[],[],_,_=>trivial
 | _::_,_::_,_::_,hi,h=>⟨hi.1.fit h.1,PsImp.fit hi.2 h.2⟩
 | [],[],_::_,_,h=>h.elim
 | _::_,_::_,[],_,h=>h.elim
 | [],_::_,_,hi,_=>hi.elim
 | _::_,[],_,hi,_=>hi.elim
theorem Imp.tup{ps qs:List Part}(h:PsImp ps qs):Imp (.tup ps) (.tup qs):=fun _ _ _ _ _ ⟨vs,h1,h2⟩=>⟨vs,h1,h.fit h2⟩
theorem Imp.part{p q:Part}(h:PImp p q):Imp (.part p) (.part q):=fun _ _ _ _ _ hv=>h.fit hv
section
variable{P:Program}{cx:Cx}{T T':TL}{B B':BL}{R R':RL}{M:Nat->Nat}{V:Nat->Value}{o:Oper}
def SubT(T:TL):TL->Prop
 | []=>True
 | (t,y)::l=>(∃ x,lk t T=some x/\Imp x y)/\SubT T l
def ImpL:List IV->List IV->Prop
 | [],[]=>True
 | x::l,y::m=>Imp x y/\ImpL l m
 | _,_=>False
def SubB(B:BL):BL->Prop
 | []=>True
 | (b,y)::l=>(∃ x,lk b B=some x/\x.ty=y.ty/\ImpL x.cs y.cs)/\SubB B l
def SubR(R:RL):RL->Prop
 | []=>True
 | (r,y)::l=>lk r R=some y/\SubR R l
theorem SubT.get:∀ {T':TL} (_:SubT T T') {t:Nat} {y:IV} (_:lk t T'=some y),∃ x,lk t T=some x/\Imp x y
 | (s,z)::l,h,t,y,hy=>by
  rcases AX hy with⟨rfl,rfl⟩ | ⟨_,hy⟩
  ·exact h.1
  ·exact SubT.get h.2 hy
 | [],_,_,_,hy=>by cases hy
theorem SubB.get:∀ {B':BL} (_:SubB B B') {t:Nat} {y:Bx} (_:lk t B'=some y),∃ x,lk t B=some x/\x.ty=y.ty/\ImpL x.cs y.cs
 | (s,z)::l,h,t,y,hy=>by
  rcases AX hy with⟨rfl,rfl⟩ | ⟨_,hy⟩
  ·exact h.1
  ·exact SubB.get h.2 hy
 | [],_,_,_,hy=>by cases hy
theorem SubR.get:∀ {R':RL} (_:SubR R R') {t:Nat} {y:Rw} (_:lk t R'=some y),lk t R=some y
 | (s,z)::l,h,t,y,hy=>by
  rcases AX hy with⟨rfl,rfl⟩ | ⟨_,hy⟩
  ·exact h.1
  ·exact SubR.get h.2 hy
 | [],_,_,_,hy=>by cases hy
theorem ImpL.get:∀ {l m:List IV} (_:ImpL l m) {j:Nat} {x y:IV} (_:l[j]?=some x) (_:m[j]?=some y),Imp x y
 | x::l,y::m,h,0,a,b,ha,hb=>by
  obtain rfl:x=a:=by simpa using ha
  obtain rfl:y=b:=by simpa using hb
  exact h.1
 | x::l,y::m,h,j+1,a,b,ha,hb=>ImpL.get h.2 (j:=j) (by simpa using ha) (by simpa using hb)
 | [],[],_,_,_,_,ha,_=>by simp at ha
 | [],_::_,h,_,_,_,_,_=>h.elim
 | _::_,[],h,_,_,_,_,_=>h.elim
theorem ImpL.length:∀ {l m:List IV} (_:ImpL l m),l.length=m.length
 | [],[],_=>rfl
 | _::_,_::_,h=>by simp[ImpL.length h.2]
 | [],_::_,h=>h.elim
 | _::_,[],h=>h.elim
theorem ImpL.refl:∀ l:List IV,ImpL l l
 | []=>trivial
 | x::l=>⟨Imp.refl x,ImpL.refl l⟩
theorem CFit.imp{w:World}{D:Nat->Prop}{is js:List IV}{cs:List Value}(hi:ImpL is js)(h:CFit w D M V is cs):CFit w D M V js cs:=
 ⟨by rw[<- hi.length];exact h.1,fun j y v hy hv=>by
  have hlt:j<is.length:=by
   rw[hi.length]
   rcases Nat.lt_or_ge j js.length with h | h
   ·exact h
   ·rw[List.getElem?_eq_none h]at hy;cases hy
  have hx:=List.getElem?_eq_getElem hlt
  exact⟨hi.get hx hy w D M V v (h.2 j _ v hx hv).1,(h.2 j _ v hx hv).2⟩⟩
theorem Rel.sub{a:Act}{w:World}(hr:Rel cx T B R M V a w)(hT:SubT T T')(hB:SubB B B')(hR:SubR R R'):Rel cx T' B' R' M V a w:=by
 have hh:=hr.heap
 have hD:∀ g,Dc cx B R M V w g->Dc cx B' R' M V w g:=fun g hg=>by
  rcases hg with hg | ⟨a1,a2,a3,a4⟩
  ·exact .inl hg
  ·exact .inr ⟨a1,a2,fun b x hx=>by obtain⟨y,hy,_⟩:=hB.get hx;exact a3 b y hy,fun r x hx=>a4 r x (hR.get hx)⟩
 have hk:=Keeps.refl (Dc cx B R M V w) w
 refine⟨hr.size,hr.defers,⟨hh.below,hh.d0,hh.bl,hh.gl,fun b x hx=>?_,fun r x hx=>?_,fun r x g hx=>hh.ro r x g (hR.get hx),hh.pin,fun b c x y hx hy he=>?_,fun b r x y g hx hy hf hg=>?_,fun r q x y g hx hy=>hh.rr r q x y g (hR.get hx) (hR.get hy)⟩,fun t x hx=>?_⟩
 ·obtain⟨y,hy,ht,hi⟩:=hB.get hx
  obtain⟨a1,cs,a2,a3⟩:=hh.box b y hy
  exact⟨a1,cs,ht▸a2,(a3.stay hk hD).imp hi⟩
 ·have h1:=hh.row r x (hR.get hx)
  split
  ·rename_i hf
   rw[if_pos hf]at h1
   exact h1.stay hk hD
  ·rename_i hf
   rw[if_neg hf]at h1
   exact Gx.stay h1 (fun _ _=>rfl) hk hD
 ·obtain⟨x',hx',_⟩:=hB.get hx
  obtain⟨y',hy',_⟩:=hB.get hy
  exact hh.bb b c x' y' hx' hy' he
 ·obtain⟨x',hx',_⟩:=hB.get hx
  exact hh.br b r x' y g hx' (hR.get hy) hf hg
 ·obtain⟨y,hy,hi⟩:=hT.get hx
  exact hi _ _ _ _ _ ((hr.tmp t y hy).stay hk hD)
theorem AP{K:Act->World->Prop}(hT:SubT T T')(hB:SubB B B')(hR:SubR R R')(h:E cx T' B' R' K):E cx T B R K:=fun M V a w hr=>h M V a w (hr.sub hT hB hR)
theorem NW(x:IV){t:Nat}(h:lk t T=some x):∃ y,lk t T=some y/\Imp y x:=⟨x,h,Imp.refl x⟩
theorem P4{b:Nat}(y:Bx)(h:lk b B=some y):∃ x,lk b B=some x/\x.ty=y.ty/\ImpL x.cs y.cs:=⟨y,h,rfl,ImpL.refl _⟩
theorem B2{K:Act->World->Prop}(t:Nat){x y:IV}(hx:lk t T=some x)(hi:Imp x y)(h:E cx ((t,y)::T) B R K):E cx T B R K:=fun M V a w hr=>h M V a w ⟨hr.size,hr.defers,hr.heap,fun s z hz=>by
 rcases AX hz with⟨rfl,rfl⟩ | ⟨_,hz⟩
 ·exact hi _ _ _ _ _ (hr.tmp t x hx)
 ·exact hr.tmp s z hz⟩
variable{ops:Array Oper}{Q:Exit->Act->World->Prop}{l:List Oper}
def M2:Nat->List Part->TL
 | _,[]=>[]
 | i,p::ps=>(i,.part p)::M2 (i+1) ps
theorem HK:∀ {ps:List Part} {i t:Nat} {x:IV},lk t (M2 i ps)=some x -> ∃ p,ps[t-i]?=some p/\x=.part p/\i<=t
 | [],_,_,_,h=>by cases h
 | p::ps,i,t,x,h=>by
  rcases AX h with⟨rfl,rfl⟩ | ⟨hne,h⟩
  ·exact⟨p,by simp,rfl,Nat.le_refl _⟩
  ·obtain⟨q,h1,h2,h3⟩:=HK h
   refine⟨q,?_,h2,by omega⟩
   rw[show t-i=(t-(i+1))+1 by omega]
   simpa using h1
theorem AF{gls:List (Nat×List Value)}{f:FuncId}{fn:Func}{c:Code}{ps:List Part}{Y:IV->Prop}(n:Nat)(hf:P.funcs[f]?=some fn)(hb:fn.body=some c)(hn:fn.ntmps=n)(hle:Nat.ble ps.length n=true)
  (h:∀ (w:World) (D:Nat->Prop),E ⟨w,D,fun _=>False,n,gls,[],fun _=>0⟩ (M2 0 ps) [] [] (c.wp P (bodyPost P fn (L7 w D Y)))):EFx P gls f ps Y:=fun w D vs hD hG hp=>by
 refine calls_of_wp hf hb ?_
 have hl:=hp.length
 have hle':=Nat.le_of_ble_eq_true hle
 refine h w D (fun _=>0) (fun _=>undef) _ w ⟨by simp[hn];omega,rfl,⟨Bex.refl _ _,fun g hg=>⟨hD g hg,fun h=>h⟩,fun _ h=>h.elim,fun g cs hg=>⟨⟨(hG g cs hg).1,fun h=>h⟩,(hG g cs hg).2⟩,fun b x hx=>(by cases hx),fun r x hx=>(by cases hx),fun r x g hx=>(by cases hx),fun b hb=>(by cases hb),fun b c x y hx=>(by cases hx),fun b r x y g hx=>(by cases hx),fun r q x y g hx=>(by cases hx)⟩,fun t x hx=>?_⟩
 obtain⟨p,h1,rfl,_⟩:=HK hx
 obtain⟨v,h2,h3⟩:=hp.get h1
 rw[Nat.sub_zero]at h2
 have hv:(vs.toArray++Array.replicate (fn.ntmps-vs.toArray.size) undef).getD t undef=v:=by
  have hlt:t<vs.length:=by
   rcases Nat.lt_or_ge t vs.length with h | h
   ·exact h
   ·rw[List.getElem?_eq_none h]at h2;cases h2
  have h4:vs[t]=v:=by
   rw[List.getElem?_eq_getElem hlt]at h2
   exact Option.some.inj h2
  simp[Array.getElem?_append,hlt,h4]
 show VR _ _ _ _ _ ((vs.toArray++Array.replicate (fn.ntmps-vs.toArray.size) undef).getD t undef)
 rw[hv]
 exact PFit.stay (D:=D) (Keeps.refl _ _) (fun g hg=>Or.inl hg) h3
def IM(tmps:Array Value):ResultVar->Sem Value
 | .tmp t=>pure (tmps.getD t undef)
 | .cell a t=>do loadVar t (<- asAddr (tmps.getD a undef))
inductive KnR (P:Program) (T:TL) (B:BL):List ResultVar->List Part->Prop
 | nil:KnR P T B [] []
 | tmp {t:Nat} {p:Part} {l:List ResultVar} {m:List Part}:Kn T (.tmp t) (.part p)->KnR P T B l m->KnR P T B (.tmp t::l) (p::m)
 | cell {t:Nat} {ty:TypeId} {l:List ResultVar} {m:List Part} {b k:Nat} {bx:Bx} {ds:List Dat}:lk t T=some (.box b 0)->lk b B=some bx->manyOf (bx.cs.take k)=some ds->aggT P ty=true->sizeT P ty=some k->Nat.ble k bx.cs.length=true->KnR P T B l m->KnR P T B (.cell t ty::l) (.many ds::m)
 | cell1 {t:Nat} {ty:TypeId} {l:List ResultVar} {m:List Part} {b:Nat} {bx:Bx} {d:Dat}:lk t T=some (.box b 0)->lk b B=some bx->bx.cs[0]?=some (.part (.one d))->oneT P ty=true->KnR P T B l m->KnR P T B (.cell t ty::l) (.one d::m)
theorem KnR.run{a:Act}{w:World}(hr:Rel cx T B R M V a w){l:List ResultVar}{m:List Part}(h:KnR P T B l m):∃ vs,(l.mapM (IM a.tmps)).run P w=.ok vs w/\PsFit w (Dc cx B R M V w) m vs:=by
 induction h with
 | nil=>exact⟨[],by simp,trivial⟩
 | tmp hk _ ih=>
  rename_i t p l m _
  obtain⟨vs,h1,h2⟩:=ih
  have:=hk w (Dc cx B R M V w) M V a fun s z _ hz=>hr.tmp s z hz
  exact⟨a.tmps.getD t undef::vs,by simp[IM,h1],this,h2⟩
 | cell ht hb hm hg hs hle _ ih=>
  rename_i t ty l m b k bx ds _
  obtain⟨vs,h1,h2⟩:=ih
  have hp:a.tmps.getD t undef=.pointer (some ⟨M b,0,none⟩):=hr.tmp t _ ht
  obtain⟨_,cs,a2,a3⟩:=hr.heap.box b bx hb
  have hle':=Nat.le_of_ble_eq_true hle
  have hcl:=a3.1
  have h5:=CH (P:=P) w (M b) 0 (cs.take k) (fun i v hv=>by
   rw[List.getElem?_take]at hv
   split at hv
   ·rw[Nat.zero_add]
    exact(a2.cell i).trans hv
   ·cases hv) ty hg (by rw[hs,List.length_take];congr 1;omega)
  have hf:Fits w (Dc cx B R M V w) ds (cs.take k):=DT hm (by simp;omega) fun i y v hy hv=>by
   rw[List.getElem?_take]at hy hv
   split at hy
   ·rename_i hi
    rw[if_pos hi]at hv
    exact(a3.2 i y v hy hv).1
   ·cases hy
  have hp':a.tmps[t]?.getD undef=.pointer (some ⟨M b,0,none⟩):=by simpa using hp
  exact⟨.agg (cs.take k).toArray::vs,by simp[IM,hp',asAddr,h5,h1],⟨_,rfl,hf⟩,h2⟩
 | cell1 ht hb hm hg _ ih=>
  rename_i t ty l m b bx d _
  obtain⟨vs,h1,h2⟩:=ih
  have hp:a.tmps.getD t undef=.pointer (some ⟨M b,0,none⟩):=hr.tmp t _ ht
  obtain⟨_,cs,a2,a3⟩:=hr.heap.box b bx hb
  have hlt:0<cs.length:=by
   rw[<- a3.1]
   rcases Nat.lt_or_ge 0 bx.cs.length with h | h
   ·exact h
   ·rw[List.getElem?_eq_none h]at hm;cases hm
  have h4:cs[0]?=some cs[0]:=List.getElem?_eq_getElem hlt
  have h5:=DS (P:=P) w ⟨M b,0,none⟩ cs[0] ty ((a2.cell 0).trans h4) hg
  have hp':a.tmps[t]?.getD undef=.pointer (some ⟨M b,0,none⟩):=by simpa using hp
  exact⟨cs[0]::vs,by simp[IM,hp',asAddr,h5,h1],(a3.2 0 _ _ hm h4).1,h2⟩
abbrev bcs(ds:List Dat):List IV:=ds.map fun d=>.part (.one d)
def GE:List Part->IV
 | [p]=>.part p
 | ps=>.tup ps
theorem OM{w:World}{D:Nat->Prop}{ps:List Part}{vs:List Value}(h:PsFit w D ps vs):VR w D M V (GE ps) (if h:vs.toArray.size=1 then vs.toArray[0]else .tuple vs.toArray):=by
 have hl:=h.length
 match ps,vs,h with
 | [],[],h=>exact⟨[],rfl,h⟩
 | [p],[v],h=>exact h.1
 | p::q::ps,u::v::vs,h=>exact⟨_,rfl,h⟩
def Cut{ι:Type}(cx:Cx)(T:ι->TL)(B:ι->BL)(R:ι->RL)(a:Act)(w:World):Prop:=∃ i M V,Rel cx (T i) (B i) (R i) M V a w
theorem CE{ι:Type}{Ti:ι->TL}{Bi:ι->BL}{Ri:ι->RL}(i:ι)(h0:∀ K,E cx (Ti i) (Bi i) (Ri i) K->E cx T B R K):E cx T B R (Cut cx Ti Bi Ri):=
 h0 _ fun M V _ _ hr=>⟨i,M,V,hr⟩
theorem OJ(hbor:cx.bor=fun _=>False){fn:Func}{Y:IV->Prop}{rs:List ResultVar}{ps:List Part}{y:IV}(hrs:fn.results=rs.toArray)(hk:KnR P T B rs ps)(hi:Imp (GE ps) y)(hY:Y y):∀ M V a w,Rel cx T B R M V a w->a.defers=[] /\ ∃ v,(results fn a.tmps).run P w=.ok v w/\L7 cx.w0 cx.D0 Y (.returned v) w:=fun M V a w hr=>by
 obtain⟨vs,h1,h2⟩:=hk.run hr
 have hbl:Below cx.w0.heap.size cx.w0 w:=(show Bex (fun _=>False) cx.w0 w from hbor▸hr.heap.below).below
 refine⟨hr.defers,_,?_,_,y,rfl,hY,hbl,fun M' V'=>hi _ _ _ _ _ (OM (M:=M') (V:=V') (h2.stay (Keeps.refl _ _) fun g hg=>?_))⟩
 ·have e:results fn a.tmps=(do let vs <- fn.results.mapM (IM a.tmps);pure (if h:vs.size=1 then vs[0]else .tuple vs)):=by
   unfold results
   congr 1
  rw[e,hrs]
  simp[h1]
 ·rcases hg with hg | ⟨a1,a2,_,_⟩
  ·exact .inl hg
  ·refine .inr ⟨?_,a2⟩
   rcases a1 with a1 | a1
   ·exact a1
   ·rw[hbor]at a1
    exact a1.elim
theorem A7(hbor:cx.bor=fun _=>False){fn:Func}{Y:IV->Prop}{rs:List ResultVar}{ps:List Part}{y:IV}(hrs:fn.results=rs.toArray)(hk:KnR P T B rs ps)(hi:Imp (GE ps) y)(hY:Y y):E cx T B R (bodyPost P fn (L7 cx.w0 cx.D0 Y) .ret):=OJ hbor hrs hk hi hY
end
end
end Go.Proofs.Ytojdpgeeajaojaa
