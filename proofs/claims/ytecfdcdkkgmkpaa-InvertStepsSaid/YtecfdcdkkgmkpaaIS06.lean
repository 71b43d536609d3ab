/- Part 6. Conditions: as each theorem says. -/
import Derived.Test.YtecfdcdkkgmkpaaIS05
set_option maxRecDepth 100000
namespace Go.Proofs.Ytecfdcdkkgmkpaa
open Go.RowKit
section
def Cap.ren(ρ:Nat->Nat):Cap->Cap
 | .box b j=>.box (ρ b) j
 | .val v=>.val v
def IV.ren(ρ σ:Nat->Nat):IV->IV
 | .box b j=>.box (ρ b) j
 | .own r=>.own (σ r)
 | .via r f=>.via (σ r) f
 | .opt g x=>.opt g (x.ren ρ σ)
 | .clo fn fs cs=>.clo fn (fs.map (Cap.ren ρ)) (cs.map (Cap.ren ρ))
 | .sl b n c=>.sl (ρ b) n c
 | .junk=>.junk
 | .part p=>.part p
 | .tup ps=>.tup ps
 | .ref ds=>.ref ds
theorem S0{ρ:Nat->Nat}{M M':Nat->Nat}(h:∀ b,M' b=M (ρ b))(l:List Cap):(l.map (Cap.ren ρ)).map (DS M)=l.map (DS M'):=by
 rw[List.map_map]
 exact List.map_congr_left fun x _=>by cases x<;>simp[Cap.ren,DS,h]
theorem PN{w:World}{D:Nat->Prop}{ρ σ:Nat->Nat}{M M':Nat->Nat}{V V':Nat->Value}(hM:∀ b,M' b=M (ρ b))(hV:∀ r,V' r=V (σ r)):∀ {x:IV} {v:Value},VR w D M V (x.ren ρ σ) v↔VR w D M' V' x v
 | .junk,_=>Iff.rfl
 | .part _,_=>Iff.rfl
 | .tup _,_=>Iff.rfl
 | .ref _,_=>Iff.rfl
 | .box b j,v=>by
  show v=.pointer (some ⟨M (ρ b),j,none⟩)↔v=.pointer (some ⟨M' b,j,none⟩)
  rw[hM b]
 | .own r,v=>by
  show v=V (σ r)↔v=V' r
  rw[hV r]
 | .via r f,v=>by
  show f (V (σ r)) v↔f (V' r) v
  rw[hV r]
 | .opt g x,v=>by
  have:=PN (w:=w) (D:=D) hM hV (x:=x) (v:=v)
  exact⟨fun h=>⟨fun hg=>this.1 (h.1 hg),h.2⟩,fun h=>⟨fun hg=>this.2 (h.1 hg),h.2⟩⟩
 | .sl b n c,v=>by
  show v=.slice (some ⟨M (ρ b),0,none⟩) n c↔v=.slice (some ⟨M' b,0,none⟩) n c
  rw[hM b]
 | .clo fn fs cs,v=>by
  show v=.func fn ((fs.map (Cap.ren ρ)).map (DS M)).toArray ((cs.map (Cap.ren ρ)).map (DS M)).toArray↔v=.func fn (fs.map (DS M')).toArray (cs.map (DS M')).toArray
  grind[S0]
def IC(ρ σ:Nat->Nat)(B:BL):BL:=B.map fun x=>(ρ x.1,⟨x.2.ty,x.2.cs.map (·.ren ρ σ)⟩)
def J1(σ:Nat->Nat)(R:RL):RL:=R.map fun x=>(σ x.1,x.2)
def IV.norL(l:List Nat):IV->Bool
 | .own r => !l.any (fun c=>Nat.beq c r)
 | .via r _ => !l.any (fun c=>Nat.beq c r)
 | .opt _ x=>x.norL l
 | _=>true
def IV.killL(l:List Nat)(x:IV):IV:=bif x.norL l then x else .junk
def FQ(l:List Nat)(T:TL):TL:=T.map fun x=>(x.1,x.2.killL l)
def DW(l:List Nat)(B:BL):BL:=B.map fun x=>(x.1,⟨x.2.ty,x.2.cs.map (·.killL l)⟩)
theorem VR.killL{w:World}{D:Nat->Prop}{M:Nat->Nat}{V V':Nat->Value}{l:List Nat}(hV:∀ c,c∉l->V' c=V c){x:IV}{v:Value}(h:VR w D M V x v):VR w D M V' (x.killL l) v:=by
 have key:∀ {x:IV},x.norL l=true->VR w D M V x v->VR w D M V' x v:=by
  intro x
  induction x with
  | own c=>
   intro hn h
   have hc:c∉l:=fun hm=>by
    have:l.any (fun d=>Nat.beq d c)=true:=List.any_eq_true.2 ⟨c,hm,by simp⟩
    grind[IV.norL]
   show v=V' c
   rw[hV c hc]
   exact h
  | via c f=>
   intro hn h
   have hc:c∉l:=fun hm=>by
    have:l.any (fun d=>Nat.beq d c)=true:=List.any_eq_true.2 ⟨c,hm,by simp⟩
    grind[IV.norL]
   show f (V' c) v
   rw[hV c hc]
   exact h
  | opt g x ih=>exact fun hn h=>⟨fun hg=>ih hn (h.1 hg),h.2⟩
  | junk=>exact fun _ h=>h
  | part=>exact fun _ h=>h
  | tup=>exact fun _ h=>h
  | ref=>exact fun _ h=>h
  | box=>exact fun _ h=>h
  | clo=>exact fun _ h=>h
  | sl=>exact fun _ h=>h
 unfold IV.killL
 cases hn:x.norL l with
 | true=>grind
 | false=>trivial
theorem Q7{α:Type}{i:Nat}:∀ {l:List (Nat×α)},lk i l=none -> ∀ x,(i,x)∉l
 | (j,a)::l,h,x,hm=>by
  by_cases e:j=i
  ·grind[BD]
  ·rw[AQ _ _ e]at h
   rcases List.mem_cons.1 hm with hm | hm
   ·grind
   ·exact Q7 h x hm
 | [],_,_,hm=>by cases hm
theorem I8{α:Type}(i:Nat):∀ (l m:List (Nat×α)),lk i (l++m)=match lk i l with | some x=>some x | none=>lk i m
 | [],_=>rfl
 | (j,a)::l,m=>by
  by_cases e:j=i
  ·grind[BD]
  ·rw[List.cons_append,AQ _ _ e,AQ _ _ e]
   exact I8 i l m
def Apart(ρ:Nat->Nat)(l:List Nat):Prop:=∀ a∈l,∀ b∈l,ρ a=ρ b->a=b
theorem K4{α β:Type}{ρ:Nat->Nat}{f:α->β}:∀ {l:List (Nat×α)},Apart ρ (l.map (·.1)) -> ∀ i,i∈l.map (·.1)->lk (ρ i) (l.map fun x=>(ρ x.1,f x.2))=(lk i l).map f
 | [],_,_,h=>by simp at h
 | (j,a)::l,hA,i,hi=>by
  by_cases e:j=i
  ·grind[BD]
  ·have hne:ρ j≠ρ i:=fun h=>e (hA j (by simp) i hi h)
   rw[List.map_cons,AQ _ _ hne,AQ _ _ e]
   have hi':i∈l.map (·.1):=by
    rcases List.mem_cons.1 hi with h | h
    ·grind
    ·exact h
   exact K4 (fun a ha b hb=>hA a (List.mem_cons_of_mem _ ha) b (List.mem_cons_of_mem _ hb)) i hi'
theorem GO{α β:Type}{ρ:Nat->Nat}{f:α->β}:∀ {l:List (Nat×α)} {c:Nat} {y:β},lk c (l.map fun x=>(ρ x.1,f x.2))=some y -> ∃ i,i∈l.map (·.1)/\c=ρ i
 | [],_,_,h=>by cases h
 | (j,a)::l,c,y,h=>by
  rcases AE h with⟨rfl,_⟩ | ⟨_,h⟩
  ·grind
  ·obtain⟨i,h1,h2⟩:=GO h
   grind
theorem F0{α:Type}{i:Nat}{l:List (Nat×α)}(h:i∈l.map (·.1)):∃ x,lk i l=some x:=by
 cases hl:lk i l with
 | some x=>grind
 | none=>
  grind[Q7]
theorem EP{α:Type}{i:Nat}{x:α}{l:List (Nat×α)}(h:lk i l=some x):i∈l.map (·.1):=List.mem_map.2 ⟨(i,x),F6 h,rfl⟩
def names{α:Type}(l:List (Nat×α)):List Nat:=l.map (·.1)
def Bor(B:BL)(R:RL)(M:Nat->Nat)(V:Nat->Value)(g:Nat):Prop:=(∃ b x,lk b B=some x/\M b=g) \/ ∃ r x,lk r R=some x/\x.fz=false/\obs x.ty x.ds (V r) g
def VRs(w:World)(D:Nat->Prop)(M:Nat->Nat)(V:Nat->Value):List IV->List Value->Prop
 | [],[]=>True
 | x::xs,v::vs=>VR w D M V x v/\VRs w D M V xs vs
 | _,_=>False
theorem VRs.length{w:World}{D:Nat->Prop}{M:Nat->Nat}{V:Nat->Value}:∀ {xs:List IV} {vs:List Value},VRs w D M V xs vs->xs.length=vs.length
 | [],[],_=>rfl
 | _::_,_::_,h=>by simp[VRs.length h.2]
 | [],_::_,h=>h.elim
 | _::_,[],h=>h.elim
theorem VRs.get{w:World}{D:Nat->Prop}{M:Nat->Nat}{V:Nat->Value}:∀ {xs:List IV} {vs:List Value} (_:VRs w D M V xs vs) {i:Nat} {x:IV} (_:xs[i]?=some x),∃ v,vs[i]?=some v/\VR w D M V x v
 | x::_,v::_,h,0,y,hy=>⟨v,rfl,by
  obtain rfl:x=y:=by grind
  exact h.1⟩
 | _::xs,_::vs,h,i+1,y,hy=>by
  obtain⟨u,h1,h2⟩:=VRs.get h.2 (i:=i) (x:=y) (by grind)
  grind
 | [],[],_,_,_,hy=>by simp at hy
 | [],_::_,h,_,_,_=>h.elim
 | _::_,[],h,_,_,_=>h.elim
abbrev lcx(w:World)(D:Nat->Prop)(n:Nat)(gls:List (Nat×List Value))(B:BL)(R:RL)(M:Nat->Nat)(V:Nat->Value):Cx:=⟨w,D,Bor B R M V,n,gls,names B,M⟩
def GZ(cx:Cx)(Y:IV->BL->RL->Prop)(e:Ending)(w':World):Prop:=∃ v y B1 R1 M1 V1,e=.returned v/\Y y B1 R1/\HR cx B1 R1 M1 V1 w'/\VR w' (Dc cx B1 R1 M1 V1 w') M1 V1 y v
def EG(P:Program)(gls:List (Nat×List Value))(f:FuncId)(xs:List IV)(B:BL)(R:RL)(Y:IV->BL->RL->Prop):Prop:=
 ∀ (w:World) (D:Nat->Prop) (M:Nat->Nat) (V:Nat->Value) (vs:List Value) (n:Nat),HR (lcx w D n gls B R M V) B R M V w->VRs w (Dc (lcx w D n gls B R M V) B R M V w) M V xs vs->Calls P f vs.toArray w (GZ (lcx w D n gls B R M V) Y)
section
variable{P:Program}
def PE:Nat->List IV->TL
 | _,[]=>[]
 | i,x::xs=>(i,x)::PE (i+1) xs
theorem JK:∀ {xs:List IV} {i t:Nat} {x:IV},lk t (PE i xs)=some x->xs[t-i]?=some x/\i<=t
 | [],_,_,_,h=>by cases h
 | y::xs,i,t,x,h=>by
  rcases AE h with⟨rfl,rfl⟩ | ⟨hne,h⟩
  ·grind
  ·obtain⟨h1,h3⟩:=JK h
   grind
theorem HR.n{cx:Cx}{B:BL}{R:RL}{M:Nat->Nat}{V:Nat->Value}{w:World}(h:HR cx B R M V w)(n:Nat):HR { cx with n:=n } B R M V w:=⟨h.below,h.d0,h.bl,h.gl,h.box,h.row,h.ro,h.pin,h.bb,h.br,h.rr⟩
theorem EE{gls:List (Nat×List Value)}{f:FuncId}{fn:Func}{c:Code}{xs:List IV}{B:BL}{R:RL}{Y:IV->BL->RL->Prop}(n:Nat)(hf:P.funcs[f]?=some fn)(hb:fn.body=some c)(hn:fn.ntmps=n)(hle:Nat.ble xs.length n=true)
  (h:∀ (w:World) (D bor:Nat->Prop) (mb:Nat->Nat),E ⟨w,D,bor,n,gls,names B,mb⟩ (PE 0 xs) B R (c.wp P (bodyPost P fn (GZ ⟨w,D,bor,n,gls,names B,mb⟩ Y)))):EG P gls f xs B R Y:=fun w D M V vs m hh hp=>by
 refine calls_of_wp hf hb ?_
 have hl:=hp.length
 have hle':=Nat.le_of_ble_eq_true hle
 have hpost:=h w D (Bor B R M V) M M V { tmps:=vs.toArray++Array.replicate (fn.ntmps-vs.toArray.size) undef,defers:=[] } w ⟨by grind,rfl,hh.n n,fun t x hx=>?_⟩
 ·refine wp_mono hpost fun e a w' hq=>?_
  cases e<;>simp only[bodyPost]at hq ⊢
  case normal=>
   obtain⟨h1,v,h2,v',y,B1,R1,M1,V1,h3,h4,h5,h6⟩:=hq
   exact⟨h1,v,h2,v',y,B1,R1,M1,V1,h3,h4,h5.n m,h6⟩
  case ret=>
   obtain⟨h1,v,h2,v',y,B1,R1,M1,V1,h3,h4,h5,h6⟩:=hq
   exact⟨h1,v,h2,v',y,B1,R1,M1,V1,h3,h4,h5.n m,h6⟩
  case panic chain=>
   obtain⟨_,v',y,B1,R1,M1,V1,h3,_⟩:=hq
   cases h3
  case outgrown=>
   obtain⟨v',y,B1,R1,M1,V1,h3,_⟩:=hq
   cases h3
 ·obtain⟨h1,_⟩:=JK hx
  obtain⟨v,h2,h3⟩:=hp.get h1
  rw[Nat.sub_zero]at h2
  have hlt:t<vs.length:=by
   rcases Nat.lt_or_ge t vs.length with h | h
   ·exact h
   ·grind
  have h4:vs[t]=v:=by
   rw[List.getElem?_eq_getElem hlt]at h2
   exact Option.some.inj h2
  have hv:(vs.toArray++Array.replicate (fn.ntmps-vs.toArray.size) undef).getD t undef=v:=by
   simp[Array.getElem?_append,hlt,h4]
  show VR _ _ _ _ _ ((vs.toArray++Array.replicate (fn.ntmps-vs.toArray.size) undef).getD t undef)
  rw[hv]
  exact h3
variable{cx:Cx}{T:TL}{B:BL}{R:RL}{M:Nat->Nat}{V:Nat->Value}{o:Oper}
theorem QK{fn:Func}{Y:IV->BL->RL->Prop}{rs:List ResultVar}{ps:List Part}{y:IV}(B1:BL)(R1:RL)(hrs:fn.results=rs.toArray)(hk:KnR P T B rs ps)(hi:Imp (L8 ps) y)(hB:SubB B B1)(hR:SubR R R1)(hY:Y y B1 R1):∀ M V a w,Rel cx T B R M V a w->a.defers=[] /\ ∃ v,(results fn a.tmps).run P w=.ok v w/\GZ cx Y (.returned v) w:=fun M V a w hr=>by
 obtain⟨vs,h1,h2⟩:=hk.run hr
 have h3:=hr.sub (T':=[]) trivial hB hR
 have hD:∀ g,Dc cx B R M V w g->Dc cx B1 R1 M V w g:=fun g hg=>by
  rcases hg with hg | ⟨a1,a2,a3,a4⟩
  ·exact .inl hg
  ·exact .inr ⟨a1,a2,fun b x hx=>by obtain⟨z,hz,_⟩:=hB.get hx;grind,fun r x hx=>a4 r x (hR.get hx)⟩
 refine⟨hr.defers,_,?_,_,y,B1,R1,M,V,rfl,hY,h3.heap,(hi _ _ _ _ _ (SM (M:=M) (V:=V) h2)).stay (Keeps.refl _ _) hD⟩
 have e:results fn a.tmps=(do let vs <- fn.results.mapM (L9 a.tmps);pure (if h:vs.size=1 then vs[0]else .tuple vs)):=by
  unfold results
  congr 1
 simp_all
theorem HX{fn:Func}{Y:IV->BL->RL->Prop}{rs:List ResultVar}{ps:List Part}{y:IV}(B1:BL)(R1:RL)(hrs:fn.results=rs.toArray)(hk:KnR P T B rs ps)(hi:Imp (L8 ps) y)(hB:SubB B B1)(hR:SubR R R1)(hY:Y y B1 R1):E cx T B R (bodyPost P fn (GZ cx Y) .ret):=QK B1 R1 hrs hk hi hB hR hY
def KnX(T:TL):List Operand->List IV->Prop
 | [],[]=>True
 | x::l,y::m=>Kn T x y/\KnX T l m
 | _,_=>False
theorem KnX.vrs{w:World}{D:Nat->Prop}{a:Act}:∀ {l:List Operand} {m:List IV},KnX T l m->(∀ t z,lk t T=some z->VR w D M V z (a.tmps.getD t undef))->VRs w D M V m (l.map a.eval)
 | [],[],_,_=>trivial
 | _::_,_::_,h,hT=>⟨h.1 w D M V a fun t z _ hz=>hT t z hz,KnX.vrs h.2 hT⟩
 | [],_::_,h,_=>h.elim
 | _::_,[],h,_=>h.elim
theorem VRs.ren{w:World}{D:Nat->Prop}{ρ σ:Nat->Nat}{M':Nat->Nat}{V':Nat->Value}(hM:∀ b,M' b=M (ρ b))(hV:∀ r,V' r=V (σ r)):∀ {xs:List IV} {vs:List Value},VRs w D M V (xs.map (·.ren ρ σ)) vs->VRs w D M' V' xs vs
 | [],[],_=>trivial
 | _::_,_::_,h=>⟨(PN hM hV).1 h.1,VRs.ren hM hV h.2⟩
 | [],_::_,h=>h.elim
 | _::_,[],h=>h.elim
theorem VRs.stay{w w':World}{D D':Nat->Prop}(hk:Keeps D w w')(hD:∀ g,D g->D' g):∀ {xs:List IV} {vs:List Value},VRs w D M V xs vs->VRs w' D' M V xs vs
 | [],[],_=>trivial
 | _::_,_::_,h=>⟨h.1.stay hk hD,VRs.stay hk hD h.2⟩
 | [],_::_,h=>h.elim
 | _::_,[],h=>h.elim
structure Lent (B:BL) (R:RL) (ρ σ:Nat->Nat) (B0:BL) (R0:RL):Prop where
 box:∀ b x,lk b B0=some x->lk (ρ b) B=some ⟨x.ty,x.cs.map (·.ren ρ σ)⟩
 row:∀ r x,lk r R0=some x->lk (σ r) R=some x
 apB:Apart ρ (names B0)
 apR:Apart σ (names R0)
theorem HR.lend{w:World}(hh:HR cx B R M V w){ρ σ:Nat->Nat}{B0:BL}{R0:RL}(hL:Lent B R ρ σ B0 R0):HR (lcx w (Dc cx B R M V w) 0 cx.gl B0 R0 (fun b=>M (ρ b)) (fun r=>V (σ r))) B0 R0 (fun b=>M (ρ b)) (fun r=>V (σ r)) w:=by
 have hbn:∀ g,Bor B0 R0 (fun b=>M (ρ b)) (fun r=>V (σ r)) g->g<w.heap.size/\(cx.w0.heap.size<=g\/cx.bor g)/\¬ Dc cx B R M V w g:=fun g hg=>by
  rcases hg with⟨b,x,hx,rfl⟩ | ⟨r,x,hx,hf,hg⟩
  ·have hx':=hL.box b x hx
   obtain⟨h1,cs,h2,_⟩:=hh.box _ _ hx'
   refine⟨h2.lt,h1,fun hd=>?_⟩
   rcases hd with hd | ⟨_,_,hd,_⟩
   ·have:=hh.d0 _ hd
    grind
   grind
  ·have hx':=hL.row r x hx
   have h1:=hh.ro _ _ g hx' hf hg
   have h2:=hh.row _ _ hx'
   rw[hf]at h2
   refine⟨Gx.lt h2 g hg,h1,fun hd=>?_⟩
   rcases hd with hd | ⟨_,_,_,hd⟩
   ·have:=hh.d0 _ hd
    grind
   grind
 have hk:=Keeps.refl (Dc cx B R M V w) w
 have hD:∀ g,Dc cx B R M V w g->Dc (lcx w (Dc cx B R M V w) 0 cx.gl B0 R0 (fun b=>M (ρ b)) (fun r=>V (σ r))) B0 R0 (fun b=>M (ρ b)) (fun r=>V (σ r)) w g:=fun g hg=>.inl hg
 refine⟨Bex.refl _ _,fun g hg=>⟨hh.dlt hg,fun hb=>(hbn g hb).2.2 hg⟩,fun g hb=>(hbn g hb).1,fun g cs hg=>⟨⟨by have:=(hh.gl g cs hg).1.1;have:=hh.below.size;grind,fun hb=>?_⟩,fun j v hv=>hh.cell hg hv⟩,fun b x hx=>?_,fun r x hx=>?_,fun r x g hx hf hg=>.inr (.inr ⟨r,x,hx,hf,hg⟩),fun b _=>rfl,fun b c x y hx hy he=>?_,fun b r x y g hx hy hf hg=>?_,fun r q x y g hx hy hf hf' hg hg'=>?_⟩
 ·have h1:=(hh.gl g cs hg).1
  grind
 ·obtain⟨_,cs,h2,h3⟩:=hh.box _ _ (hL.box b x hx)
  refine⟨.inr (.inl ⟨b,x,hx,rfl⟩),cs,h2,by simpa using h3.1,fun j y v hy hv=>?_⟩
  have:=h3.2 j (y.ren ρ σ) v (by grind) hv
  exact⟨((PN (M:=M) (V:=V) (ρ:=ρ) (σ:=σ) (fun _=>rfl) (fun _=>rfl)).1 this.1).stay hk hD,this.2⟩
 ·have h1:=hh.row _ _ (hL.row r x hx)
  split
  ·rename_i hf
   rw[if_pos hf]at h1
   exact h1.stay hk hD
  ·rename_i hf
   rw[if_neg hf]at h1
   exact Gx.stay h1 (fun _ _=>rfl) hk hD
 ·exact hL.apB b (EP hx) c (EP hy) (hh.bb _ _ _ _ (hL.box b x hx) (hL.box c y hy) he)
 ·exact hh.br _ _ _ _ g (hL.box b x hx) (hL.row r y hy) hf hg
 ·exact hL.apR r (EP hx) q (EP hy) (hh.rr _ _ _ _ g (hL.row r x hx) (hL.row q y hy) hf hf' hg hg')
def Cap.bin(l:List Nat):Cap->Bool
 | .box b _=>l.any (fun c=>Nat.beq c b)
 | .val _=>true
def IV.bin(l m:List Nat):IV->Bool
 | .box b _=>l.any (fun c=>Nat.beq c b)
 | .own r=>m.any (fun c=>Nat.beq c r)
 | .via r _=>m.any (fun c=>Nat.beq c r)
 | .opt _ x=>x.bin l m
 | .clo _ fs cs=>fs.all (Cap.bin l)&&cs.all (Cap.bin l)
 | .sl b _ _=>l.any (fun c=>Nat.beq c b)
 | _=>true
theorem HO{l:List Nat}{b:Nat}(h:l.any (fun c=>Nat.beq c b)=true):b∈l:=by
 simp_all
theorem NG{ρ:Nat->Nat}{M M':Nat->Nat}{l:List Nat}(hM:∀ b∈l,M' b=M (ρ b)){cs:List Cap}(h:cs.all (Cap.bin l)=true):(cs.map (Cap.ren ρ)).map (DS M)=cs.map (DS M'):=by
 rw[List.map_map]
 refine List.map_congr_left fun x hx=>?_
 have:=List.all_eq_true.1 h x hx
 cases x with
 | val v=>rfl
 | box b j=>
  show Value.pointer (some ⟨M (ρ b),j,none⟩)=.pointer (some ⟨M' b,j,none⟩)
  rw[hM b (HO this)]
theorem OT{w:World}{D:Nat->Prop}{ρ σ:Nat->Nat}{M M':Nat->Nat}{V V':Nat->Value}{l m:List Nat}(hM:∀ b∈l,M' b=M (ρ b))(hV:∀ r∈m,V' r=V (σ r)):∀ {x:IV} {v:Value},x.bin l m=true->VR w D M' V' x v->VR w D M V (x.ren ρ σ) v
 | .junk,_,_,h=>h
 | .part _,_,_,h=>h
 | .tup _,_,_,h=>h
 | .ref _,_,_,h=>h
 | .box b j,v,hb,h=>by
  show v=.pointer (some ⟨M (ρ b),j,none⟩)
  rw[<- hM b (HO hb)]
  exact h
 | .own r,v,hb,h=>by
  show v=V (σ r)
  rw[<- hV r (HO hb)]
  exact h
 | .via r f,v,hb,h=>by
  show f (V (σ r)) v
  rw[<- hV r (HO hb)]
  exact h
 | .opt _ _,_,hb,h=>⟨fun hg=>OT hM hV hb (h.1 hg),h.2⟩
 | .sl b n c,v,hb,h=>by
  show v=.slice (some ⟨M (ρ b),0,none⟩) n c
  rw[<- hM b (HO hb)]
  exact h
 | .clo fn fs cs,v,hb,h=>by
  show v=.func fn ((fs.map (Cap.ren ρ)).map (DS M)).toArray ((cs.map (Cap.ren ρ)).map (DS M)).toArray
  rw[NG hM (gl hb),NG hM (gr hb)]
  exact h
def S8(l m:List Nat)(B:BL):Bool:=B.all fun x=>x.2.cs.all fun y=>y.bin l m
theorem Rel.back{a:Act}{w w':World}(hr:Rel cx T B R M V a w){ρ σ:Nat->Nat}{B0:BL}{R0:RL}(hL:Lent B R ρ σ B0 R0){y:IV}{B1:BL}{R1:RL}{M1:Nat->Nat}{V1:Nat->Value}{v:Value}(hB:names B1=names B0)(hR:names R1=names R0)(hbin:S8 (names B0) (names R0) B1=true)(hyb:y.bin (names B0) (names R0)=true)
  (h1:HR (lcx w (Dc cx B R M V w) 0 cx.gl B0 R0 (fun b=>M (ρ b)) (fun r=>V (σ r))) B1 R1 M1 V1 w') (hv:VR w' (Dc (lcx w (Dc cx B R M V w) 0 cx.gl B0 R0 (fun b=>M (ρ b)) (fun r=>V (σ r))) B1 R1 M1 V1 w') M1 V1 y v) {d:Nat} (hd:d<cx.n):
  ∃ V',(∀ r∈names R0,V1 r=V' (σ r))/\Rel cx ((d,y.ren ρ σ)::FQ ((names R0).map σ) T) (IC ρ σ B1++DW ((names R0).map σ) B) (J1 σ R1++R) M V' (a.put (some d) v) w':=by
 have hh:=hr.heap
 have hM1:∀ b∈names B0,M1 b=M (ρ b):=fun b hb=>h1.pin b hb
 let V':Nat->Value:=fun q=>match (names R0).find? (fun r=>Nat.beq (σ r) q)with | some r=>V1 r | none=>V q
 have hV1:∀ r∈names R0,V1 r=V' (σ r):=fun r hr=>by
  show _=match (names R0).find? (fun s=>Nat.beq (σ s) (σ r))with | some r=>V1 r | none=>V (σ r)
  cases hf:(names R0).find? (fun s=>Nat.beq (σ s) (σ r))with
  | none=>
   have:=List.find?_eq_none.1 hf r hr
   simp_all
  | some s=>
   have e1:=Nat.eq_of_beq_eq_true (List.find?_some (p:=fun s=>Nat.beq (σ s) (σ r)) hf)
   have e2:=List.mem_of_find?_eq_some hf
   rw[hL.apR s e2 r hr e1]
 have hV0:∀ q,q∉(names R0).map σ->V' q=V q:=fun q hq=>by
  show(match (names R0).find? (fun s=>Nat.beq (σ s) q)with | some r=>V1 r | none=>V q)=_
  cases hf:(names R0).find? (fun s=>Nat.beq (σ s) q)with
  | none=>rfl
  | some s=>
   grind[Nat.eq_of_beq_eq_true]
 have hbor:∀ g,Bor B0 R0 (fun b=>M (ρ b)) (fun r=>V (σ r)) g->g<w.heap.size/\(cx.w0.heap.size<=g\/cx.bor g)/\¬ Dc cx B R M V w g/\(∀ c x,lk c B=some x->c∉(names B0).map ρ->M c≠g)/\(∀ q x,lk q R=some x->x.fz=false->q∉(names R0).map σ->¬ obs x.ty x.ds (V q) g):=fun g hg=>by
  have hd:=(hh.lend hL).d0 g
  have hl:=(hh.lend hL).bl g hg
  rcases hg with⟨b,x,hx,rfl⟩ | ⟨r,x,hx,hf,hg⟩
  ·have hx':=hL.box b x hx
   obtain⟨e1,cs,e2,_⟩:=hh.box _ _ hx'
   refine⟨hl,e1,fun h=>(hd h).2 (.inl ⟨b,x,hx,rfl⟩),fun c z hz hc e=>?_,fun q z hz hf hq e=>hh.br _ _ _ _ _ hx' hz hf e rfl⟩
   exact hc (List.mem_map.2 ⟨b,EP hx,(hh.bb _ _ _ _ hz hx' e).symm⟩)
  ·have hx':=hL.row r x hx
   refine⟨hl,hh.ro _ _ g hx' hf hg,fun h=>(hd h).2 (.inr ⟨r,x,hx,hf,hg⟩),fun c z hz hc=>hh.br _ _ _ _ g hz hx' hf hg,fun q z hz hf' hq e=>?_⟩
   exact hq (List.mem_map.2 ⟨r,EP hx,hh.rr _ _ _ _ g hx' hz hf hf' hg e⟩)
 have hkeep:Keeps (Dc cx B R M V w) w w':=fun g hg=>h1.below.block g (hh.dlt hg) fun hb=>(hbor g hb).2.2.1 hg
 have hlkB:∀ c x,lk c (IC ρ σ B1++DW ((names R0).map σ) B)=some x->(∃ b z,c=ρ b/\lk b B1=some z/\b∈names B0/\x=⟨z.ty,z.cs.map (·.ren ρ σ)⟩ /\ ∃ z0,lk c B=some z0)\/(c∉(names B0).map ρ /\ ∃ z,lk c B=some z/\x=⟨z.ty,z.cs.map (·.killL ((names R0).map σ))⟩):=fun c x hx=>by
  rw[I8]at hx
  have hap:Apart ρ (B1.map (·.1)):=by
   have:B1.map (·.1)=names B0:=hB
   rw[this]
   exact hL.apB
  cases hq:lk c (IC ρ σ B1)with
  | some z=>
   rw[hq]at hx
   obtain rfl:z=x:=by grind
   obtain⟨b,hb,rfl⟩:=GO (ρ:=ρ) (f:=fun z:Bx=>(⟨z.ty,z.cs.map (·.ren ρ σ)⟩:Bx)) hq
   obtain⟨z1,hz1⟩:=F0 hb
   have e:=K4 (ρ:=ρ) (f:=fun z:Bx=>(⟨z.ty,z.cs.map (·.ren ρ σ)⟩:Bx)) hap b hb
   have e2:lk (ρ b) (IC ρ σ B1)=_:=e
   rw[hz1,hq]at e2
   have hb0:b∈names B0:=hB▸hb
   obtain⟨z0,hz0⟩:=F0 hb0
   exact .inl ⟨b,z1,rfl,hz1,hb0,by grind,_,hL.box b z0 hz0⟩
  | none=>
   rw[hq]at hx
   refine .inr ⟨fun hm=>?_,?_⟩
   ·obtain⟨b,hb,rfl⟩:=List.mem_map.1 hm
    have hb1:b∈B1.map (·.1):=by
     have:B1.map (·.1)=names B0:=hB
     rw[this]
     exact hb
    obtain⟨z1,hz1⟩:=F0 hb1
    have e:=K4 (ρ:=ρ) (f:=fun z:Bx=>(⟨z.ty,z.cs.map (·.ren ρ σ)⟩:Bx)) hap b hb1
    grind[IC]
   ·simp only at hx
    unfold DW at hx
    rw[KH (fun y:Bx=>(⟨y.ty,y.cs.map (·.killL ((names R0).map σ))⟩:Bx)),Option.map_eq_some_iff]at hx
    grind
 have hlkR:∀ q x,lk q (J1 σ R1++R)=some x->(∃ r,q=σ r/\lk r R1=some x/\r∈names R0)\/(q∉(names R0).map σ/\lk q R=some x):=fun q x hx=>by
  rw[I8]at hx
  have hap:Apart σ (R1.map (·.1)):=by
   have:R1.map (·.1)=names R0:=hR
   rw[this]
   exact hL.apR
  cases hq:lk q (J1 σ R1)with
  | some z=>
   rw[hq]at hx
   obtain rfl:z=x:=by grind
   obtain⟨r,hr1,rfl⟩:=GO (ρ:=σ) (f:=fun z:Rw=>z) hq
   obtain⟨z1,hz1⟩:=F0 hr1
   have e:=K4 (ρ:=σ) (f:=fun z:Rw=>z) hap r hr1
   have e2:lk (σ r) (J1 σ R1)=_:=e
   rw[hz1,hq]at e2
   obtain rfl:z=z1:=by grind
   exact .inl ⟨r,rfl,hz1,hR▸hr1⟩
  | none=>
   rw[hq]at hx
   refine .inr ⟨fun hm=>?_,hx⟩
   obtain⟨r,hr1,rfl⟩:=List.mem_map.1 hm
   have hb1:r∈R1.map (·.1):=by
    have:R1.map (·.1)=names R0:=hR
    rw[this]
    exact hr1
   obtain⟨z1,hz1⟩:=F0 hb1
   have e:=K4 (ρ:=σ) (f:=fun z:Rw=>z) hap r hb1
   grind[J1]
 have hsz:=h1.below.size
 have hw0:=hh.below.size
 have hBlt:∀ c x,lk c B=some x->M c<w.heap.size:=fun c x hx=>by
  obtain⟨_,cs,h2,_⟩:=hh.box c x hx
  exact h2.lt
 have hRlt:∀ q x g,lk q R=some x->x.fz=false->obs x.ty x.ds (V q) g->g<w.heap.size:=fun q x g hx hf hg=>by
  have h2:=hh.row q x hx
  grind[Gx.lt]
 have hD0:∀ g,Dc cx B R M V w g->Dc cx (IC ρ σ B1++DW ((names R0).map σ) B) (J1 σ R1++R) M V' w' g:=fun g hg=>by
  have hgl:=hh.dlt hg
  have hgb:¬ Bor B0 R0 (fun b=>M (ρ b)) (fun r=>V (σ r)) g:=fun hb=>(hbor g hb).2.2.1 hg
  rcases hg with hg | ⟨a1,a2,a3,a4⟩
  ·exact .inl hg
  ·refine .inr ⟨a1,Nat.lt_of_lt_of_le a2 hsz,fun c x hx=>?_,fun q x hx hf e=>?_⟩
   ·grind
   ·rcases hlkR q x hx with⟨r,rfl,hz,hr0⟩ | ⟨hq,hz⟩
    ·rw[<- hV1 r hr0]at e
     rcases h1.ro r x g hz hf e with e2 | e2
     ·grind
     grind
    grind
 have hD:∀ g,Dc (lcx w (Dc cx B R M V w) 0 cx.gl B0 R0 (fun b=>M (ρ b)) (fun r=>V (σ r))) B1 R1 M1 V1 w' g->Dc cx (IC ρ σ B1++DW ((names R0).map σ) B) (J1 σ R1++R) M V' w' g:=fun g hg=>by
  rcases hg with hg | ⟨a1,a2,a3,a4⟩
  ·grind
  ·refine .inr ⟨?_,a2,fun c x hx=>?_,fun q x hx hf e=>?_⟩
   ·grind
   ·grind
   grind
 have hkr:=Keeps.refl (Dc (lcx w (Dc cx B R M V w) 0 cx.gl B0 R0 (fun b=>M (ρ b)) (fun r=>V (σ r))) B1 R1 M1 V1 w') w'
 have hlentB:∀ c x,lk c B=some x->c∉(names B0).map ρ->w'.heap[M c]?=w.heap[M c]?:=fun c x hx hc=>h1.below.block _ (hBlt c x hx) fun hb=>(hbor _ hb).2.2.2.1 c x hx hc rfl
 refine⟨V',hV1,by simpa[Act.put]using hr.size,hr.defers,⟨⟨h1.below.os.trans hh.below.os,h1.below.tape.trans hh.below.tape,h1.below.output.trans hh.below.output,Nat.le_trans hw0 hsz,fun k hk hn=>?_⟩,hh.d0,hh.bl,hh.gl,fun c x hx=>?_,fun q x hx=>?_,fun q x g hx hf hg=>?_,hh.pin,fun c e x z hx hz he=>?_,fun c q x z g hx hz hf hg=>?_,fun q p x z g hx hz hf hf' hg hg'=>?_⟩,fun t x hx=>?_⟩
 ·refine(h1.below.block k (Nat.lt_of_lt_of_le hk hw0) fun hb=>?_).trans (hh.below.block k hk hn)
  grind
 ·rcases hlkB c x hx with⟨b,z,rfl,hz,hb0,rfl,z0,hz0⟩ | ⟨hc,z,hz,rfl⟩
  ·obtain⟨_,cs,a2,a3⟩:=h1.box b z hz
   refine⟨(hh.box _ _ hz0).1,cs,hM1 b hb0▸a2,by simpa using a3.1,fun j y v hy hv=>?_⟩
   simp only[List.getElem?_map,Option.map_eq_some_iff]at hy
   obtain⟨y0,hy0,rfl⟩:=hy
   have:=a3.2 j y0 v hy0 hv
   have hb2:=List.all_eq_true.1 (List.all_eq_true.1 hbin _ (F6 hz)) _ (List.mem_of_getElem? hy0)
   exact⟨OT hM1 hV1 hb2 (this.1.stay hkr hD),this.2⟩
  ·obtain⟨a1,cs,a2,a3⟩:=hh.box c z hz
   refine⟨a1,cs,(hlentB c z hz hc).trans a2,by simpa using a3.1,fun j y v hy hv=>?_⟩
   simp only[List.getElem?_map,Option.map_eq_some_iff]at hy
   obtain⟨y0,hy0,rfl⟩:=hy
   have:=a3.2 j y0 v hy0 hv
   exact⟨(this.1.stay hkeep hD0).killL hV0,this.2⟩
 ·rcases hlkR q x hx with⟨r,rfl,hz,hr0⟩ | ⟨hq,hz⟩
  ·rw[<- hV1 r hr0]
   have h2:=h1.row r x hz
   split
   ·rename_i hf
    rw[if_pos hf]at h2
    exact h2.stay hkr hD
   ·rename_i hf
    rw[if_neg hf]at h2
    exact Gx.stay h2 (fun _ _=>rfl) hkr hD
  ·rw[hV0 q hq]
   have h2:=hh.row q x hz
   split
   ·rename_i hf
    rw[if_pos hf]at h2
    exact h2.stay hkeep hD0
   ·rename_i hf
    rw[if_neg hf]at h2
    refine Gx.stay h2 (fun g hg=>h1.below.block g (Gx.lt h2 g hg) fun hb=>?_) hkeep hD0
    grind
 ·rcases hlkR q x hx with⟨r,rfl,hz,hr0⟩ | ⟨hq,hz⟩
  ·rw[<- hV1 r hr0]at hg
   rcases h1.ro r x g hz hf hg with e | e
   ·grind
   grind
  ·rw[hV0 q hq]at hg
   exact hh.ro q x g hz hf hg
 ·have:∀ c x,lk c (IC ρ σ B1++DW ((names R0).map σ) B)=some x -> ∃ z0,lk c B=some z0:=fun c x hx=>by
   grind
  obtain⟨x0,hx0⟩:=this c x hx
  obtain⟨z0,hz0⟩:=this e z hz
  exact hh.bb c e x0 z0 hx0 hz0 he
 ·rcases hlkR q z hz with⟨r,rfl,hz',hr0⟩ | ⟨hq,hz'⟩
  ·rw[<- hV1 r hr0]at hg
   rcases hlkB c x hx with⟨b,y,rfl,hy,hb0,_,_⟩ | ⟨hc,y,hy,_⟩
   ·rw[<- hM1 b hb0]
    exact h1.br b r y z g hy hz' hf hg
   ·rcases h1.ro r z g hz' hf hg with e | e
    ·grind
    grind
  ·rw[hV0 q hq]at hg
   rcases hlkB c x hx with⟨b,y,rfl,hy,hb0,_,z0,hz0⟩ | ⟨hc,y,hy,_⟩
   ·exact hh.br _ q z0 z g hz0 hz' hf hg
   ·exact hh.br c q y z g hy hz' hf hg
 ·have hmix:∀ r q x z g,r∈names R0->lk r R1=some x->x.fz=false->obs x.ty x.ds (V1 r) g->q∉(names R0).map σ->lk q R=some z->z.fz=false->¬ obs z.ty z.ds (V q) g:=fun r q x z g hr0 hx hf hg hq hz hf' e=>by
   rcases h1.ro r x g hx hf hg with e2 | e2
   ·grind
   grind
  rcases hlkR q x hx with⟨r,rfl,hx',hr0⟩ | ⟨hq,hx'⟩
  ·rw[<- hV1 r hr0]at hg
   rcases hlkR p z hz with⟨s,rfl,hz',hs0⟩ | ⟨hp,hz'⟩
   ·rw[<- hV1 s hs0]at hg'
    rw[h1.rr r s x z g hx' hz' hf hf' hg hg']
   grind
  ·rw[hV0 q hq]at hg
   rcases hlkR p z hz with⟨s,rfl,hz',hs0⟩ | ⟨hp,hz'⟩
   ·grind
   ·rw[hV0 p hp]at hg'
    exact hh.rr q p x z g hx' hz' hf hf' hg hg'
 ·rw[FT a d t _ (by rw[hr.size];exact hd)]
  rcases AE hx with⟨rfl,rfl⟩ | ⟨hne,hx⟩
  ·rw[if_pos rfl]
   exact OT hM1 hV1 hyb (hv.stay hkr hD)
  ·rw[if_neg hne]
   unfold FQ at hx
   rw[KH (fun y:IV=>y.killL ((names R0).map σ)),Option.map_eq_some_iff]at hx
   obtain⟨y0,hy0,rfl⟩:=hx
   exact((hr.tmp t y0 hy0).stay hkeep hD0).killL hV0
theorem GU{f:FuncId}{vs:List Value}{ys:List IV}{ρ σ:Nat->Nat}{B0:BL}{R0:RL}{Y:IV->BL->RL->Prop}{a:Act}{w:World}(hr:Rel cx T B R M V a w)(hL:Lent B R ρ σ B0 R0)(hp:VRs w (Dc cx B R M V w) M V (ys.map (·.ren ρ σ)) vs)(hf:EG P cx.gl f ys B0 R0 Y)(hY:∀ y B1 R1,Y y B1 R1->names B1=names B0/\names R1=names R0/\S8 (names B0) (names R0) B1=true/\y.bin (names B0) (names R0)=true){d:Nat}(hd:d<cx.n):
  Calls P f vs.toArray w fun e w'=>∃ v y B1 R1 V',e=.returned v/\Y y B1 R1/\Rel cx ((d,y.ren ρ σ)::FQ ((names R0).map σ) T) (IC ρ σ B1++DW ((names R0).map σ) B) (J1 σ R1++R) M V' (a.put (some d) v) w':=by
 have hlend:=hr.heap.lend hL
 refine(hf w (Dc cx B R M V w) (fun b=>M (ρ b)) (fun r=>V (σ r)) _ 0 hlend ((hp.ren (ρ:=ρ) (σ:=σ) (fun _=>rfl) (fun _=>rfl)).stay (Keeps.refl _ _) fun g hg=>.inl hg)).mono fun e w' ⟨v,y,B1,R1,M1,V1,h1,h2,h3,h4⟩=>?_
 obtain⟨e1,e2,e3,e4⟩:=hY y B1 R1 h2
 obtain⟨V',_,h5⟩:=hr.back hL e1 e2 e3 e4 h3 h4 hd
 grind
theorem SQ{ops:Array Oper}{Q:Exit->Act->World->Prop}{l:List Oper}{d:Nat}{f:FuncId}{xs:List Operand}{ts:Array TypeId}{ys:List IV}(ρ σ:Nat->Nat){B0:BL}{R0:RL}{Y:IV->BL->RL->Prop}(hg:o.guard=none)(hd:o.dst=some d)(hn:Nat.blt d cx.n=true)(ho:o.op=.call { callee:=.value (.func f),args:=xs.toArray,argTypes:=ts })(hc:AZ P f=true)(hL:Lent B R ρ σ B0 R0)(hx:KnX T xs (ys.map (·.ren ρ σ)))(hf:EG P cx.gl f ys B0 R0 Y)
  (hY:∀ y B1 R1,Y y B1 R1->names B1=names B0/\names R1=names R0/\S8 (names B0) (names R0) B1=true/\y.bin (names B0) (names R0)=true)
  (hE:∀ y B1 R1,Y y B1 R1->E cx ((d,y.ren ρ σ)::FQ ((names R0).map σ) T) (IC ρ σ B1++DW ((names R0).map σ) B) (J1 σ R1++R) (wpList P ops Q l)):E cx T B R (wpList P ops Q (o::l)):=fun M V a w hr=>by
 refine wpList_plain hg fun K hK=>?_
 have hrun:(execOp a.eval o).run P w=.ok (.enter f (xs.map a.eval).toArray) w:=by
  have he:a.eval (.func f)=.func (.func f) #[] #[]:=rfl
  simp[execOp,ho,resolve,he,Deferred.ofValue,invoke,CQ hc]
 unfold Oper.wp
 rw[hrun]
 simp only[Oper.upon,hd]
 exact(GU hr hL (hx.vrs fun t z hz=>hr.tmp t z hz) hf hY (CC hn)).mono fun e w' ⟨v,y,B1,R1,V',h1,h2,h3⟩=>by
  subst h1
  exact hK _ _ (hE y B1 R1 h2 M V' _ _ h3)
end
end
end Go.Proofs.Ytecfdcdkkgmkpaa
