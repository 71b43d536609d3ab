/- Part 6. Conditions: as each theorem says. -/
import Derived.Test.YtecfdcdkkgmkpaaIO05
set_option maxRecDepth 100000
namespace Go.Proofs.Ytecfdcdkkgmkpaa
open Go.RowKit
section
def Imp(x y:IV):Prop:=∀ (w:World) (D:Nat->Prop) (M:Nat->Nat) (V:Nat->Value) (v:Value),VR w D M V x v->VR w D M V y v
theorem Imp.refl(x:IV):Imp x x:=fun _ _ _ _ _ h=>h
theorem Imp.trans{x y z:IV}(h:Imp x y)(k:Imp y z):Imp x z:=fun w D M V v hv=>k w D M V v (h w D M V v hv)
theorem Imp.of_eq{x y:IV}(h:x=y):Imp x y:=h▸Imp.refl x
theorem Imp.junk(x:IV):Imp x .junk:=fun _ _ _ _ _ _=>trivial
def DImp(d e:Dat):Prop:=∀ (w:World) (D:Nat->Prop) (v:Value),Lies w D d v->Lies w D e v
theorem DImp.refl(d:Dat):DImp d d:=fun _ _ _ h=>h
theorem DImp.of_eq{d e:Dat}(h:d=e):DImp d e:=h▸DImp.refl d
theorem DImp.nil(k:Nat):DImp (.cell (.slice none 0 0)) (.row k 0 []):=fun w D v h=>by
 rw[h.cell_eq]
 exact .none _ _ _
theorem Imp.one{d e:Dat}(h:DImp d e):Imp (.part (.one d)) (.part (.one e)):=fun w D _ _ v hv=>h w D v hv
theorem Imp.nil(k:Nat):Imp (.is (.slice none 0 0)) (.part (.one (.row k 0 []))):=Imp.one (DImp.nil k)
def DsImp:List Dat->List Dat->Prop
 | [],[]=>True
 | d::l,e::m=>DImp d e/\DsImp l m
 | _,_=>False
theorem DsImp.fit{w:World}{D:Nat->Prop}:∀ {ds es:List Dat} {xs:List Value},DsImp ds es->Fits w D ds xs->Fits w D es xs
 | [],[],_,_,h=>h
 | _::_,_::_,_,hi,h=>by
  obtain⟨x,ys,rfl,h1,h2⟩:=h.head
  exact .cons (hi.1 w D x h1) (DsImp.fit hi.2 h2)
 | [],_::_,_,hi,_=>hi.elim
 | _::_,[],_,hi,_=>hi.elim
theorem Imp.many{ds es:List Dat}(h:DsImp ds es):Imp (.part (.many ds)) (.part (.many es)):=fun _ _ _ _ _ ⟨xs,h1,h2⟩=>⟨xs,h1,h.fit h2⟩
def PImp:Part->Part->Prop
 | .one d,.one e=>DImp d e
 | .many ds,.many es=>DsImp ds es
 | _,_=>False
theorem PImp.fit{w:World}{D:Nat->Prop}:∀ {p q:Part} {v:Value},PImp p q->PFit w D p v->PFit w D q v
 | .one _,.one _,_,hi,h=>hi w D _ h
 | .many _,.many _,_,hi,⟨xs,h1,h2⟩=>⟨xs,h1,DsImp.fit hi h2⟩
 | .one _,.many _,_,hi,_=>hi.elim
 | .many _,.one _,_,hi,_=>hi.elim
theorem DsImp.refl:∀ ds:List Dat,DsImp ds ds
 | []=>trivial
 | d::ds=>⟨DImp.refl d,DsImp.refl ds⟩
theorem PImp.refl:∀ p:Part,PImp p p
 | .one d=>DImp.refl d
 | .many ds=>DsImp.refl ds
theorem PImp.of_eq{p q:Part}(h:p=q):PImp p q:=h▸PImp.refl p
def PsImp:List Part->List Part->Prop
 | [],[]=>True
 | p::l,q::m=>PImp p q/\PsImp l m
 | _,_=>False
theorem PsImp.fit{w:World}{D:Nat->Prop}:∀ {ps qs:List Part} {vs:List Value},PsImp ps qs->PsFit w D ps vs->PsFit w D qs vs
 | [],[],[],_,_=>trivial
 | _::_,_::_,_::_,hi,h=>⟨hi.1.fit h.1,PsImp.fit hi.2 h.2⟩
 | [],[],_::_,_,h=>h.elim
 | _::_,_::_,[],_,h=>h.elim
 | [],_::_,_,hi,_=>hi.elim
 | _::_,[],_,hi,_=>hi.elim
theorem Imp.tup{ps qs:List Part}(h:PsImp ps qs):Imp (.tup ps) (.tup qs):=fun _ _ _ _ _ ⟨vs,h1,h2⟩=>⟨vs,h1,h.fit h2⟩
theorem Imp.part{p q:Part}(h:PImp p q):Imp (.part p) (.part q):=fun _ _ _ _ _ hv=>h.fit hv
section
variable{P:Program}{cx:Cx}{T T':TL}{B B':BL}{R R':RL}{M:Nat->Nat}{V:Nat->Value}{o:Oper}
def SubT(T:TL):TL->Prop
 | []=>True
 | (t,y)::l=>(∃ x,lk t T=some x/\Imp x y)/\SubT T l
def ImpL:List IV->List IV->Prop
 | [],[]=>True
 | x::l,y::m=>Imp x y/\ImpL l m
 | _,_=>False
def SubB(B:BL):BL->Prop
 | []=>True
 | (b,y)::l=>(∃ x,lk b B=some x/\x.ty=y.ty/\ImpL x.cs y.cs)/\SubB B l
def SubR(R:RL):RL->Prop
 | []=>True
 | (r,y)::l=>lk r R=some y/\SubR R l
theorem SubT.get:∀ {T':TL} (_:SubT T T') {t:Nat} {y:IV} (_:lk t T'=some y),∃ x,lk t T=some x/\Imp x y
 | (s,z)::l,h,t,y,hy=>by
  rcases AK hy with⟨rfl,rfl⟩ | ⟨_,hy⟩
  ·exact h.1
  ·exact SubT.get h.2 hy
 | [],_,_,_,hy=>by cases hy
theorem SubB.get:∀ {B':BL} (_:SubB B B') {t:Nat} {y:Bx} (_:lk t B'=some y),∃ x,lk t B=some x/\x.ty=y.ty/\ImpL x.cs y.cs
 | (s,z)::l,h,t,y,hy=>by
  rcases AK hy with⟨rfl,rfl⟩ | ⟨_,hy⟩
  ·exact h.1
  ·exact SubB.get h.2 hy
 | [],_,_,_,hy=>by cases hy
theorem SubR.get:∀ {R':RL} (_:SubR R R') {t:Nat} {y:Rw} (_:lk t R'=some y),lk t R=some y
 | (s,z)::l,h,t,y,hy=>by
  rcases AK hy with⟨rfl,rfl⟩ | ⟨_,hy⟩
  ·exact h.1
  ·exact SubR.get h.2 hy
 | [],_,_,_,hy=>by cases hy
theorem ImpL.get:∀ {l m:List IV} (_:ImpL l m) {j:Nat} {x y:IV} (_:l[j]?=some x) (_:m[j]?=some y),Imp x y
 | x::l,y::m,h,0,a,b,ha,hb=>by
  obtain rfl:x=a:=by grind
  obtain rfl:y=b:=by grind
  exact h.1
 | x::l,y::m,h,j+1,a,b,ha,hb=>ImpL.get h.2 (j:=j) (by simpa using ha) (by grind)
 | [],[],_,_,_,_,ha,_=>by simp at ha
 | [],_::_,h,_,_,_,_,_=>h.elim
 | _::_,[],h,_,_,_,_,_=>h.elim
theorem ImpL.length:∀ {l m:List IV} (_:ImpL l m),l.length=m.length
 | [],[],_=>rfl
 | _::_,_::_,h=>by simp[ImpL.length h.2]
 | [],_::_,h=>h.elim
 | _::_,[],h=>h.elim
theorem ImpL.refl:∀ l:List IV,ImpL l l
 | []=>trivial
 | x::l=>⟨Imp.refl x,ImpL.refl l⟩
theorem CFit.imp{w:World}{D:Nat->Prop}{is js:List IV}{cs:List Value}(hi:ImpL is js)(h:CFit w D M V is cs):CFit w D M V js cs:=
 ⟨by rw[<- hi.length];exact h.1,fun j y v hy hv=>by
  have hlt:j<is.length:=by
   rw[hi.length]
   rcases Nat.lt_or_ge j js.length with h | h
   ·exact h
   ·grind
  have hx:=List.getElem?_eq_getElem hlt
  exact⟨hi.get hx hy w D M V v (h.2 j _ v hx hv).1,(h.2 j _ v hx hv).2⟩⟩
theorem Rel.sub{a:Act}{w:World}(hr:Rel cx T B R M V a w)(hT:SubT T T')(hB:SubB B B')(hR:SubR R R'):Rel cx T' B' R' M V a w:=by
 have hh:=hr.heap
 have hD:∀ g,Dc cx B R M V w g->Dc cx B' R' M V w g:=fun g hg=>by
  rcases hg with hg | ⟨a1,a2,a3,a4⟩
  ·exact .inl hg
  ·exact .inr ⟨a1,a2,fun b x hx=>by obtain⟨y,hy,_⟩:=hB.get hx;grind,fun r x hx=>a4 r x (hR.get hx)⟩
 have hk:=Keeps.refl (Dc cx B R M V w) w
 refine⟨hr.size,hr.defers,⟨hh.below,hh.d0,hh.bl,hh.gl,fun b x hx=>?_,fun r x hx=>?_,fun r x g hx=>hh.ro r x g (hR.get hx),hh.pin,fun b c x y hx hy he=>?_,fun b r x y g hx hy hf hg=>?_,fun r q x y g hx hy=>hh.rr r q x y g (hR.get hx) (hR.get hy)⟩,fun t x hx=>?_⟩
 ·obtain⟨y,hy,ht,hi⟩:=hB.get hx
  obtain⟨a1,cs,a2,a3⟩:=hh.box b y hy
  exact⟨a1,cs,ht▸a2,(a3.stay hk hD).imp hi⟩
 ·have h1:=hh.row r x (hR.get hx)
  split
  ·rename_i hf
   rw[if_pos hf]at h1
   exact h1.stay hk hD
  ·rename_i hf
   rw[if_neg hf]at h1
   exact Gx.stay h1 (fun _ _=>rfl) hk hD
 ·obtain⟨x',hx',_⟩:=hB.get hx
  obtain⟨y',hy',_⟩:=hB.get hy
  exact hh.bb b c x' y' hx' hy' he
 ·obtain⟨x',hx',_⟩:=hB.get hx
  exact hh.br b r x' y g hx' (hR.get hy) hf hg
 ·obtain⟨y,hy,hi⟩:=hT.get hx
  exact hi _ _ _ _ _ ((hr.tmp t y hy).stay hk hD)
theorem AM{K:Act->World->Prop}(hT:SubT T T')(hB:SubB B B')(hR:SubR R R')(h:E cx T' B' R' K):E cx T B R K:=fun M V a w hr=>h M V a w (hr.sub hT hB hR)
theorem PA(x:IV){t:Nat}(h:lk t T=some x):∃ y,lk t T=some y/\Imp y x:=⟨x,h,Imp.refl x⟩
theorem VY{b:Nat}(y:Bx)(h:lk b B=some y):∃ x,lk b B=some x/\x.ty=y.ty/\ImpL x.cs y.cs:=⟨y,h,rfl,ImpL.refl _⟩
theorem C0{K:Act->World->Prop}(t:Nat){x y:IV}(hx:lk t T=some x)(hi:Imp x y)(h:E cx ((t,y)::T) B R K):E cx T B R K:=fun M V a w hr=>h M V a w ⟨hr.size,hr.defers,hr.heap,fun s z hz=>by
 rcases AK hz with⟨rfl,rfl⟩ | ⟨_,hz⟩
 ·exact hi _ _ _ _ _ (hr.tmp t x hx)
 ·exact hr.tmp s z hz⟩
theorem Rel.row_new{a:Act}{w:World}(hr:Rel cx T B R M V a w)(r ty k:Nat)(hT:Q9 r T=true)(hB:Q0 r B=true)(hty:Nat.blt ty 1000000=true\/Nat.blt ty 2000000=false):
  ∃ V',V' r=.slice none 0 0/\Rel cx T B ((r,⟨ty,k,0,[],false⟩)::R) M V' a w:=by
 have hh:=hr.heap
 refine⟨fun c=>if c=r then .slice none 0 0 else V c,if_pos rfl,?_⟩
 have hV:∀ c,c≠r->(fun c=>if c=r then Value.slice none 0 0 else V c) c=V c:=fun c h=>if_neg h
 have hVr:(fun c=>if c=r then Value.slice none 0 0 else V c) r=.slice none 0 0:=if_pos rfl
 generalize(fun c=>if c=r then Value.slice none 0 0 else V c)=V' at hV hVr ⊢
 have hD:∀ g,Dc cx B R M V w g->Dc cx B ((r,⟨ty,k,0,[],false⟩)::R) M V' w g:=fun g hg=>by
  rcases hg with hg | ⟨a1,a2,a3,a4⟩
  ·exact .inl hg
  ·refine .inr ⟨a1,a2,a3,fun q x hx hf=>?_⟩
   rcases AK hx with⟨rfl,rfl⟩ | ⟨hne,hx⟩
   ·grind[IW]
   grind
 have hk:=Keeps.refl (Dc cx B R M V w) w
 refine⟨hr.size,hr.defers,⟨hh.below,hh.d0,hh.bl,hh.gl,fun b x hx=>?_,fun q x hx=>?_,fun q x g hx hf hg=>?_,hh.pin,hh.bb,fun b q x y g hx hy hf hg=>?_,fun q p x y g hx hy hf hf' hg hg'=>?_⟩,fun t x hx=>?_⟩
 ·obtain⟨a1,cs,a2,a3⟩:=hh.box b x hx
  have hn:=List.all_eq_true.1 hB _ (FC hx)
  have a4:CFit w (Dc cx B R M V w) M V' x.cs cs:=⟨a3.1,fun j y v h1 h2=>⟨(a3.2 j y v h1 h2).1.newV hV (List.all_eq_true.1 hn _ (List.mem_of_getElem? h1)),(a3.2 j y v h1 h2).2⟩⟩
  exact⟨a1,cs,a2,a4.stay hk hD⟩
 ·rcases AK hx with⟨rfl,rfl⟩ | ⟨hne,hx⟩
  ·grind[Gx.nil_]
  ·rw[hV q (Ne.symm hne)]
   have h1:=hh.row q x hx
   split
   ·rename_i hf
    rw[if_pos hf]at h1
    exact h1.stay hk hD
   ·rename_i hf
    rw[if_neg hf]at h1
    exact Gx.stay h1 (fun _ _=>rfl) hk hD
 ·rcases AK hx with⟨rfl,rfl⟩ | ⟨hne,hx⟩
  ·grind[IW]
  ·rw[hV q (Ne.symm hne)]at hg
   exact hh.ro q x g hx hf hg
 ·rcases AK hy with⟨rfl,rfl⟩ | ⟨hne,hy⟩
  ·grind[IW]
  ·rw[hV q (Ne.symm hne)]at hg
   exact hh.br b q x y g hx hy hf hg
 ·rcases AK hx with⟨rfl,rfl⟩ | ⟨hne,hx⟩
  ·grind[IW]
  ·rcases AK hy with⟨rfl,rfl⟩ | ⟨hne',hy⟩
   ·grind[IW]
   ·rw[hV q (Ne.symm hne)]at hg
    rw[hV p (Ne.symm hne')]at hg'
    exact hh.rr q p x y g hx hy hf hf' hg hg'
 ·exact((hr.tmp t x hx).newV hV (List.all_eq_true.1 hT _ (FC hx))).stay hk hD
theorem EV{K:Act->World->Prop}(t r ty k:Nat)(hx:lk t T=some (.is (.slice none 0 0)))(hT:Q9 r T=true)(hB:Q0 r B=true)(h:E cx ((t,.own r)::T) B ((r,⟨ty,k,0,[],false⟩)::R) K)(hty:Nat.blt ty 1000000=true:=by rfl):E cx T B R K:=fun M V a w hr=>by
 obtain⟨V',h1,h2⟩:=hr.row_new r ty k hT hB (.inl hty)
 refine h M V' a w ⟨h2.size,h2.defers,h2.heap,fun s z hz=>?_⟩
 rcases AK hz with⟨rfl,rfl⟩ | ⟨_,hz⟩
 ·show _=V' r
  rw[h1]
  exact(hr.tmp t _ hx).is_eq
 ·exact h2.tmp s z hz
theorem DT{K:Act->World->Prop}(b j r ty k:Nat){bx:Bx}{is:List IV}(hb:lk b B=some bx)(hj:bx.cs[j]?=some (.is (.slice none 0 0)))(his:bx.cs.set j (.own r)=is)(hT:Q9 r T=true)(hB:Q0 r B=true)(h:E cx T ((b,⟨bx.ty,is⟩)::B) ((r,⟨ty,k,0,[],false⟩)::R) K)(hty:Nat.blt ty 1000000=true:=by rfl):E cx T B R K:=fun M V a w hr=>by
 obtain⟨V',h1,h2⟩:=hr.row_new r ty k hT hB (.inl hty)
 obtain⟨_,cs,a2,a3⟩:=h2.heap.box b bx hb
 refine h M V' a w (h2.set hb a2 (fun _ _=>rfl) rfl rfl rfl rfl ⟨by rw[<- his];simp[a3.1],fun i z u hz hu=>?_⟩)
 rw[<- his,List.getElem?_set]at hz
 split at hz
 ·rename_i hij
  subst hij
  split at hz
  ·obtain rfl:IV.own r=z:=by grind
   have:=a3.2 j _ u hj hu
   refine⟨?_,this.2⟩
   show _=V' r
   rw[h1]
   exact this.1.is_eq
  ·cases hz
 ·exact a3.2 i z u hz hu
theorem Rel.freeze{a:Act}{w:World}(hr:Rel cx T B R M V a w)(r:Nat){y:Rw}(hy:lk r R=some y)(hf:y.fz=false):Rel cx T B ((r,⟨y.ty,y.k,y.n,y.ds,true⟩)::R) M V a w:=by
 have hh:=hr.heap
 have hD:∀ g,Dc cx B R M V w g->Dc cx B ((r,⟨y.ty,y.k,y.n,y.ds,true⟩)::R) M V w g:=fun g hg=>by
  rcases hg with hg | ⟨a1,a2,a3,a4⟩
  ·exact .inl hg
  ·refine .inr ⟨a1,a2,a3,fun q x hx hf=>?_⟩
   rcases AK hx with⟨rfl,rfl⟩ | ⟨_,hx⟩
   ·cases hf
   grind
 have hk:=Keeps.refl (Dc cx B R M V w) w
 refine⟨hr.size,hr.defers,⟨hh.below,hh.d0,hh.bl,hh.gl,fun b x hx=>?_,fun q x hx=>?_,fun q x g hx hf hg=>?_,hh.pin,hh.bb,fun b q x z g hx hz hf hg=>?_,fun q p x z g hx hz hf hf' hg hg'=>?_⟩,fun t x hx=>(hr.tmp t x hx).stay hk hD⟩
 ·obtain⟨a1,cs,a2,a3⟩:=hh.box b x hx
  exact⟨a1,cs,a2,a3.stay hk hD⟩
 ·rcases AK hx with⟨rfl,rfl⟩ | ⟨hne,hx⟩
  ·rw[if_pos rfl]
   have h1:=hh.row r y hy
   rw[hf]at h1
   have h2:Gx w (Dc cx B R M V w) 0 y.ty y.k (V r) y.n y.ds:=h1
   refine Gx.frozen (x:=⟨y.ty,y.k,y.n,y.ds,true⟩) h2 hD fun g hg=>?_
   have hl:=Gx.lt h2 g hg
   refine .inr ⟨hh.ro r y g hy hf hg,hl,fun b x hx e=>?_,fun q x hx hf' e=>?_⟩
   ·exact hh.br b r x y g hx hy hf hg e
   ·rcases AK hx with⟨rfl,rfl⟩ | ⟨hne,hx⟩
    ·cases hf'
    ·exact hne (hh.rr r q y x g hy hx hf hf' hg e)
  ·have h1:=hh.row q x hx
   split
   ·rename_i hf
    rw[if_pos hf]at h1
    exact h1.stay hk hD
   ·rename_i hf
    rw[if_neg hf]at h1
    exact Gx.stay h1 (fun _ _=>rfl) hk hD
 ·rcases AK hx with⟨rfl,rfl⟩ | ⟨_,hx⟩
  ·cases hf
  ·exact hh.ro q x g hx hf hg
 ·rcases AK hz with⟨rfl,rfl⟩ | ⟨_,hz⟩
  ·cases hf
  ·exact hh.br b q x z g hx hz hf hg
 ·rcases AK hx with⟨rfl,rfl⟩ | ⟨_,hx⟩
  ·cases hf
  ·rcases AK hz with⟨rfl,rfl⟩ | ⟨_,hz⟩
   ·cases hf'
   ·exact hh.rr q p x z g hx hz hf hf' hg hg'
theorem BU{K:Act->World->Prop}(t r:Nat){y:Rw}(hx:lk t T=some (.own r))(hy:lk r R=some y)(hf:y.fz=false)(h:E cx ((t,.part (.one (.row y.k y.n y.ds)))::T) B ((r,⟨y.ty,y.k,y.n,y.ds,true⟩)::R) K)(hty:Nat.blt y.ty 1000000=true:=by rfl):E cx T B R K:=fun M V a w hr=>by
 have h2:=hr.freeze r hy hf
 refine h M V a w ⟨h2.size,h2.defers,h2.heap,fun s z hz=>?_⟩
 rcases AK hz with⟨rfl,rfl⟩ | ⟨_,hz⟩
 ·have h3:=h2.heap.row r _ (BG _ _ _)
  rw[if_pos rfl,FS (x:=⟨y.ty,y.k,y.n,y.ds,true⟩) hty]at h3
  have h4:_=V r:=hr.tmp t _ hx
  rw[h4]
  exact h3
 ·exact h2.tmp s z hz
theorem CI{K:Act->World->Prop}(b j r:Nat){bx:Bx}{y:Rw}{is:List IV}(hb:lk b B=some bx)(hj:bx.cs[j]?=some (.own r))(hy:lk r R=some y)(hf:y.fz=false)(his:bx.cs.set j (.part (.one (.row y.k y.n y.ds)))=is)(h:E cx T ((b,⟨bx.ty,is⟩)::B) ((r,⟨y.ty,y.k,y.n,y.ds,true⟩)::R) K)(hty:Nat.blt y.ty 1000000=true:=by rfl):E cx T B R K:=fun M V a w hr=>by
 have h2:=hr.freeze r hy hf
 obtain⟨_,cs,a2,a3⟩:=h2.heap.box b bx hb
 refine h M V a w (h2.set hb a2 (fun _ _=>rfl) rfl rfl rfl rfl ⟨by rw[<- his];simp[a3.1],fun i z u hz hu=>?_⟩)
 rw[<- his,List.getElem?_set]at hz
 split at hz
 ·rename_i hij
  subst hij
  split at hz
  ·obtain rfl:=Option.some.inj hz
   have h3:=h2.heap.row r _ (BG _ _ _)
   rw[if_pos rfl,FS (x:=⟨y.ty,y.k,y.n,y.ds,true⟩) hty]at h3
   have h4:=a3.2 j _ u hj hu
   have h5:u=V r:=h4.1
   refine⟨?_,h4.2⟩
   rw[h5]
   exact h3
  ·cases hz
 ·exact a3.2 i z u hz hu
theorem Rel.grown0{a:Act}{w w':World}(hrel:Rel cx T B R M V a w){r:Nat}{z z':Rw}{v':Value}(hr:lk r R=some z)(hf0:z.fz=false)(hf1:z'.fz=false)(hgr:w.grownBy w' (obk (V r)))(hobs:∀ g,obs z'.ty z'.ds v' g->obs z.ty z.ds (V r) g\/g=w.heap.size)
  (hrow:∀ D':Nat->Prop,Keeps (Dc cx B R M V w) w w'->(∀ g,Dc cx B R M V w g->D' g)->Gx w' D' 0 z'.ty z'.k v' z'.n z'.ds):
  ∃ V',V' r=v'/\Rel cx (J4 r T) (GE r B) ((r,z')::R) M V' a w':=by
 have hh:=hrel.heap
 have hro:∀ g,obs z.ty z.ds (V r) g->cx.w0.heap.size<=g\/cx.bor g:=fun g hg=>hh.ro r _ g hr hf0 hg
 have hDne:∀ g,Dc cx B R M V w g->some g≠obk (V r):=fun g hg e=>by
  rcases hg with hg | ⟨_,_,_,a4⟩
  ·have:=hh.d0 g hg
   rcases hro g (.inl e.symm)with h | h
   ·omega
   grind
  ·exact a4 r _ hr hf0 (.inl e.symm)
 have hkeep:Keeps (Dc cx B R M V w) w w':=.of_grown hgr (fun g hg=>hh.dlt hg) hDne
 let V':Nat->Value:=fun q=>if q=r then v' else V q
 have hVr:V' r=v':=if_pos rfl
 have hV:∀ q,q≠r->V' q=V q:=fun q h=>if_neg h
 have hblt:∀ c x,lk c B=some x->M c<w.heap.size:=fun c x hx=>by
  obtain⟨_,cs,h2,_⟩:=hh.box c x hx
  exact h2.lt
 have hlkB:∀ c x,lk c (GE r B)=some x -> ∃ y,lk c B=some y/\x=⟨y.ty,y.cs.map (·.kill r)⟩:=fun c x hx=>by
  unfold GE at hx
  rw[KJ (fun y:Bx=>(⟨y.ty,y.cs.map (·.kill r)⟩:Bx)),Option.map_eq_some_iff]at hx
  grind
 have hD:∀ g,Dc cx B R M V w g->Dc cx (GE r B) ((r,z')::R) M V' w' g:=fun g hg=>by
  have hgl:=hh.dlt hg
  have hgo:¬ obs z.ty z.ds (V r) g:=fun e=>by
   rcases hg with hg | ⟨_,_,_,a4⟩
   ·have:=hh.d0 g hg
    grind
   grind
  rcases hg with hg | ⟨a1,a2,a3,a4⟩
  ·exact .inl hg
  ·refine .inr ⟨a1,by have:=hgr.size;omega,fun c x hx=>?_,fun q x hx hf e=>?_⟩
   ·grind
   ·rcases AK hx with⟨rfl,rfl⟩ | ⟨hne,hx⟩
    ·grind
    grind
 refine⟨V',hVr,hrel.size,hrel.defers,⟨hh.below.turn hgr.os hgr.tape hgr.output hgr.size _ (fun g hg=>hro g (.inl hg)) (fun k hk hne=>hgr.block k hk hne),hh.d0,hh.bl,hh.gl,fun c x hx=>?_,fun q x hx=>?_,fun q x g hx hf hg=>?_,hh.pin,fun c e x y hx hy he=>?_,fun c q x y g hx hy hf hg=>?_,fun q p x y g hx hy hf hf' hg hg'=>?_⟩,fun t x hx=>?_⟩
 ·obtain⟨y,hy,rfl⟩:=hlkB c x hx
  obtain⟨a1,cs,a2,a3⟩:=hh.box c y hy
  refine⟨a1,cs,a2.grown hgr fun e=>hh.br c r y _ (M c) hy hr hf0 (.inl e.symm) rfl,by simpa using a3.1,fun j z u hz hu=>?_⟩
  simp only[List.getElem?_map,Option.map_eq_some_iff]at hz
  obtain⟨z0,hz0,rfl⟩:=hz
  have:=a3.2 j z0 u hz0 hu
  exact⟨(this.1.kill.newV hV (IV.nor_kill r z0)).stay hkeep hD,this.2⟩
 ·rcases AK hx with⟨rfl,rfl⟩ | ⟨hne,hx⟩
  ·grind
  ·rw[hV q (Ne.symm hne)]
   have h1:=hh.row q x hx
   split
   ·rename_i hf
    rw[if_pos hf]at h1
    exact h1.stay hkeep hD
   ·rename_i hf
    rw[if_neg hf]at h1
    refine Gx.stay h1 (fun g hg=>hgr.block g (Gx.lt h1 g hg) fun e=>?_) hkeep hD
    exact hne (hh.rr r q _ x g hr hx hf0 (by grind) (.inl e.symm) hg)
 ·rcases AK hx with⟨rfl,rfl⟩ | ⟨hne,hx⟩
  ·rw[hVr]at hg
   rcases hobs g hg with e | e
   ·grind
   ·rw[e]
    exact .inl hh.below.size
  ·rw[hV q (Ne.symm hne)]at hg
   exact hh.ro q x g hx hf hg
 ·obtain⟨x',hx',_⟩:=hlkB c x hx
  obtain⟨y',hy',_⟩:=hlkB e y hy
  exact hh.bb c e x' y' hx' hy' he
 ·obtain⟨x',hx',_⟩:=hlkB c x hx
  rcases AK hy with⟨rfl,rfl⟩ | ⟨hne,hy⟩
  ·rw[hVr]at hg
   rcases hobs g hg with e | e
   ·exact hh.br c r x' _ g hx' hr hf0 e
   grind
  ·rw[hV q (Ne.symm hne)]at hg
   exact hh.br c q x' y g hx' hy hf hg
 ·have hold:∀ q x g,q≠r->lk q R=some x->x.fz=false->obs x.ty x.ds (V q) g->¬ obs z'.ty z'.ds v' g:=fun q x g hq hx hf hg e=>by
   rcases hobs g e with e | e
   ·exact hq (hh.rr q r x _ g hx hr hf hf0 hg e)
   ·have h1:=hh.row q x hx
    rw[hf]at h1
    have:=Gx.lt h1 g hg
    omega
  rcases AK hx with⟨rfl,rfl⟩ | ⟨hne,hx2⟩
  ·rcases AK hy with⟨rfl,rfl⟩ | ⟨hne',hy2⟩
   ·rfl
   grind
  ·rcases AK hy with⟨rfl,rfl⟩ | ⟨hne',hy2⟩
   ·grind
   ·rw[hV q (Ne.symm hne)]at hg
    rw[hV p (Ne.symm hne')]at hg'
    exact hh.rr q p x y g hx2 hy2 hf hf' hg hg'
 ·unfold J4 at hx
  rw[KJ (fun y:IV=>y.kill r),Option.map_eq_some_iff]at hx
  obtain⟨z0,hz0,rfl⟩:=hx
  exact((hrel.tmp t z0 hz0).kill.newV hV (IV.nor_kill r z0)).stay hkeep hD
theorem Rel.grown{a:Act}{w w':World}(hrel:Rel cx T B R M V a w){r d:Nat}{z z':Rw}{v':Value}(hr:lk r R=some z)(hf0:z.fz=false)(hf1:z'.fz=false)(hgr:w.grownBy w' (obk (V r)))(hobs:∀ g,obs z'.ty z'.ds v' g->obs z.ty z.ds (V r) g\/g=w.heap.size)
  (hrow:∀ D':Nat->Prop,Keeps (Dc cx B R M V w) w w'->(∀ g,Dc cx B R M V w g->D' g)->Gx w' D' 0 z'.ty z'.k v' z'.n z'.ds) (hn:Nat.blt d cx.n=true):
  ∃ V',V' r=v'/\Rel cx ((d,.own r)::J4 r T) (GE r B) ((r,z')::R) M V' (a.put (some d) v') w':=by
 obtain⟨V',h1,h2⟩:=hrel.grown0 hr hf0 hf1 hgr hobs hrow
 exact⟨V',h1,h2.put (Below.refl _ _) (CJ hn) (x:=.own r) h1.symm⟩
theorem Rel.newrow{a:Act}{w w':World}(hrel:Rel cx T B R M V a w)(hb:Below w.heap.size w w'){z':Rw}{v':Value}(hf1:z'.fz=false)(hobs:∀ g,obs z'.ty z'.ds v' g->w.heap.size<=g/\g<w'.heap.size)
  (hrow:∀ D':Nat->Prop,(∀ g,Dc cx B R M V w g->D' g)->Gx w' D' 0 z'.ty z'.k v' z'.n z'.ds) (r:Nat) (hT:Q9 r T=true) (hB:Q0 r B=true):∃ V',V' r=v'/\Rel cx T B ((r,z')::R) M V' a w':=by
 have hh:=hrel.heap
 have hsz:=hh.below.size
 let V':Nat->Value:=fun q=>if q=r then v' else V q
 have hVr:V' r=v':=if_pos rfl
 have hV:∀ q,q≠r->V' q=V q:=fun q h=>if_neg h
 have hold:∀ q x g,lk q R=some x->x.fz=false->obs x.ty x.ds (V q) g->g<w.heap.size:=fun q x g hx hf hg=>by
  have h1:=hh.row q x hx
  rw[hf]at h1
  exact Gx.lt h1 g hg
 have hoB:∀ b x,lk b B=some x->M b<w.heap.size:=fun b x hx=>by
  obtain⟨_,cs,h2,_⟩:=hh.box b x hx
  exact h2.lt
 have hk:=hh.keeps hb
 have hD:∀ g,Dc cx B R M V w g->Dc cx B ((r,z')::R) M V' w' g:=fun g hg=>by
  have hgl:=hh.dlt hg
  rcases hg with hg | ⟨a1,a2,a3,a4⟩
  ·exact .inl hg
  ·refine .inr ⟨a1,by have:=hb.size;omega,a3,fun q x hx hf e=>?_⟩
   rcases AK hx with⟨rfl,rfl⟩ | ⟨hne,hx⟩
   ·grind
   grind
 refine⟨V',hVr,hrel.size,hrel.defers,⟨hh.below.step hb,hh.d0,hh.bl,hh.gl,fun b x hx=>?_,fun q x hx=>?_,fun q x g hx hf hg=>?_,hh.pin,hh.bb,fun b q x y g hx hy hf hg=>?_,fun q p x y g hx hy hf hf' hg hg'=>?_⟩,fun t x hx=>?_⟩
 ·obtain⟨a1,cs,a2,a3⟩:=hh.box b x hx
  have hn:=List.all_eq_true.1 hB _ (FC hx)
  have a4:CFit w (Dc cx B R M V w) M V' x.cs cs:=⟨a3.1,fun j y v h1 h2=>⟨(a3.2 j y v h1 h2).1.newV hV (List.all_eq_true.1 hn _ (List.mem_of_getElem? h1)),(a3.2 j y v h1 h2).2⟩⟩
  exact⟨a1,cs,a2.kept hb,a4.stay hk hD⟩
 ·rcases AK hx with⟨rfl,rfl⟩ | ⟨hne,hx⟩
  ·grind
  ·rw[hV q (Ne.symm hne)]
   have h1:=hh.row q x hx
   split
   ·rename_i hf
    rw[if_pos hf]at h1
    exact h1.stay hk hD
   ·rename_i hf
    rw[if_neg hf]at h1
    exact Gx.stay h1 (fun g hg=>hb.block g (Gx.lt h1 g hg)) hk hD
 ·rcases AK hx with⟨rfl,rfl⟩ | ⟨hne,hx⟩
  ·grind
  ·rw[hV q (Ne.symm hne)]at hg
   exact hh.ro q x g hx hf hg
 ·rcases AK hy with⟨rfl,rfl⟩ | ⟨hne,hy⟩
  ·grind
  ·rw[hV q (Ne.symm hne)]at hg
   exact hh.br b q x y g hx hy hf hg
 ·rcases AK hx with⟨rfl,rfl⟩ | ⟨hne,hx2⟩
  ·rcases AK hy with⟨rfl,rfl⟩ | ⟨hne',hy2⟩
   ·rfl
   grind
  ·rcases AK hy with⟨rfl,rfl⟩ | ⟨hne',hy2⟩
   ·grind
   ·rw[hV q (Ne.symm hne)]at hg
    rw[hV p (Ne.symm hne')]at hg'
    exact hh.rr q p x y g hx2 hy2 hf hf' hg hg'
 ·exact((hrel.tmp t x hx).newV hV (List.all_eq_true.1 hT _ (FC hx))).stay hk hD
theorem Rel.turned{a:Act}{w w':World}(hrel:Rel cx T B R M V a w){r:Nat}{z z':Rw}(hr0:lk r R=some z)(hf0:z.fz=false)(hf1:z'.fz=false)(hoth:∀ q,¬ obs z.ty z.ds (V r) q->w'.heap[q]?=w.heap[q]?)(hsz:w'.heap.size=w.heap.size)(hos:w'.os=w.os)(htp:w'.tape=w.tape)(hou:w'.output=w.output)
  (hobs:∀ g,obs z'.ty z'.ds (V r) g->obs z.ty z.ds (V r) g) (hrow:∀ D':Nat->Prop,Keeps (Dc cx B R M V w) w w'->(∀ q,Dc cx B R M V w q->D' q)->Gx w' D' 0 z'.ty z'.k (V r) z'.n z'.ds):Rel cx T B ((r,z')::R) M V a w':=by
 have hh:=hrel.heap
 have hDne:∀ q,Dc cx B R M V w q->¬ obs z.ty z.ds (V r) q:=fun q hq e=>by
  rcases hq with hq | ⟨_,_,_,a4⟩
  ·have:=hh.d0 _ hq
   rcases hh.ro r _ _ hr0 hf0 e with h | h
   ·omega
   grind
  grind
 have hkeep:Keeps (Dc cx B R M V w) w w':=fun q hq=>hoth q (hDne q hq)
 have hD:∀ q,Dc cx B R M V w q->Dc cx B ((r,z')::R) M V w' q:=fun q hq=>by
  rcases hq with hq | ⟨a1,a2,a3,a4⟩
  ·exact .inl hq
  ·refine .inr ⟨a1,by omega,a3,fun p y hy hf e=>?_⟩
   rcases AK hy with⟨rfl,rfl⟩ | ⟨_,hy⟩
   ·grind
   grind
 refine⟨hrel.size,hrel.defers,⟨⟨hos.trans hh.below.os,htp.trans hh.below.tape,hou.trans hh.below.output,by have:=hh.below.size;omega,fun k hk hn=>(hoth k fun e=>?_).trans (hh.below.block k hk hn)⟩,hh.d0,hh.bl,hh.gl,fun c x hx=>?_,fun q x hx=>?_,fun q x g hx hf hg=>?_,hh.pin,hh.bb,fun c q x y g hx hy hf hg=>?_,fun q p x y g hx hy hf hf' hg hg'=>?_⟩,fun t x hx=>(hrel.tmp t x hx).stay hkeep hD⟩
 ·rcases hh.ro r _ _ hr0 hf0 e with h | h
  ·omega
  grind
 ·obtain⟨b1,cs,b2,b3⟩:=hh.box c x hx
  refine⟨b1,cs,?_,b3.stay hkeep hD⟩
  exact(hoth (M c) fun e=>hh.br c r x _ _ hx hr0 hf0 e rfl).trans b2
 ·rcases AK hx with⟨rfl,rfl⟩ | ⟨hne,hx⟩
  ·grind
  ·have h1:=hh.row q x hx
   split
   ·rename_i hf
    rw[if_pos hf]at h1
    exact h1.stay hkeep hD
   ·rename_i hf
    rw[if_neg hf]at h1
    exact Gx.stay h1 (fun g hg=>hoth g fun e=>hne (hh.rr r q _ x g hr0 hx hf0 (by grind) e hg)) hkeep hD
 ·rcases AK hx with⟨rfl,rfl⟩ | ⟨_,hx⟩
  ·exact hh.ro _ _ g hr0 hf0 (hobs g hg)
  ·exact hh.ro q x g hx hf hg
 ·rcases AK hy with⟨rfl,rfl⟩ | ⟨_,hy⟩
  ·exact hh.br c _ x _ g hx hr0 hf0 (hobs g hg)
  ·exact hh.br c q x y g hx hy hf hg
 ·rcases AK hx with⟨rfl,rfl⟩ | ⟨_,hx2⟩
  ·rcases AK hy with⟨rfl,rfl⟩ | ⟨_,hy2⟩
   ·rfl
   ·exact hh.rr _ p _ y g hr0 hy2 hf0 hf' (hobs g hg) hg'
  ·rcases AK hy with⟨rfl,rfl⟩ | ⟨_,hy2⟩
   ·exact hh.rr q _ x _ g hx2 hr0 hf hf0 hg (hobs g hg')
   ·exact hh.rr q p x y g hx2 hy2 hf hf' hg hg'
variable{ops:Array Oper}{Q:Exit->Act->World->Prop}{l:List Oper}
theorem SB{M:Nat->Nat}{V:Nat->Value}{a:Act}{w:World}{d:Nat}{x y:Operand}{t:TypeId}{r k m n bytes:Nat}{ty:TypeId}{ds es:List Dat}(hg:o.guard=none)(hd:o.dst=some d)(hn:Nat.blt d cx.n=true)(ho:o.op=.call { callee:=.builtin .append,args := #[x,y],argTypes := #[t,t] })(hrel:Rel cx T B R M V a w)(hxv:a.eval x=V r)(hr:lk r R=some ⟨ty,k,n,ds,false⟩)(hy:Kn T y (.part (.one (.row k m es))))
  (ht:P.underlying t=some (.slice ty)) (hz:(P.info? ty).map (fun i=>(i.size,i.bytes,i.zero.map (·.cells.size)))=some (k,bytes,some k)) (hk:Nat.blt 0 k=true) (h1:es.all Dat.isOne=true) (hb1:n+m<=140737488355328) (hb2:(n+m)*bytes<=140737488355328)
  (hE:E cx ((d,.own r)::J4 r T) (GE r B) ((r,⟨ty,k,n+m,ds++es,false⟩)::R) (wpList P ops Q l)) (hty:Nat.blt ty 1000000=true:=by rfl):wpList P ops Q (o::l) a w:=by
 refine wpList_plain hg fun K hK=>?_
 have hh:=hrel.heap
 have hyv:=hy w (Dc cx B R M V w) M V a fun t z _ hz=>hrel.tmp t z hz
 have hrow:=hh.row r _ hr
 obtain⟨xs,hown,hfx⟩:Gr w (Dc cx B R M V w) 0 ty k (V r) n ds:=Gx.row hrow hty
 cases hi:P.info? ty with
 | none=>grind
 | some i=>
  cases hzz:i.zero with
  | none=>grind
  | some z=>
   simp only[hi,hzz,Option.map_some,Option.some.injEq,Prod.mk.injEq]at hz
   obtain⟨z1,z2,z3⟩:=hz
   have hk0:0<k:=by simpa using hk
   generalize hyu:a.eval y=u at hyv
   have hyv':Lies w (Dc cx B R M V w) (.row k m es) u:=hyv
   have hsrc:(u=.slice none 0 0 \/ ∃ c,u=.slice none 0 c)/\m=0/\es=[] \/ ∃ ad c news,u=.slice (some ad) m c/\news.length=m*k/\(∀ (j:Nat) v,news[j]?=some v->w.cell? (ad.add j)=some v)/\Fits w (Dc cx B R M V w) es news:=by
    cases hyv' with
    | none k p c=>
     cases p with
     | none=>grind
     | some ad=>simp_all[Fits.nil]
    | row k n' b off c es X hn0 _ hl hDb hc hX=>
     refine .inr ⟨⟨b,off,none⟩,c,(List.range es.length).map X,rfl,by simp[hl],fun j v hv=>?_,by simp,fun j e v he hv=>?_⟩
     ·have hadd:(⟨b,off,none⟩:Addr).add j=⟨b,off+j,none⟩:=by unfold Addr.add;split<;>simp_all
      grind
     grind
   have hout:∃ v' w' news,(Builtin.append_ #[t,t] o.type #[V r,u]).run P w=.ok v' w'/\w'.ownsRow 0 ty k v' (n+m) (xs++news)/\w.grownBy w' (V r).ownBlock/\(v'.ownBlock=(V r).ownBlock\/v'.ownBlock=some w.heap.size)/\Fits w (Dc cx B R M V w) es news:=by
    rcases hsrc with⟨hu,rfl,rfl⟩ | ⟨ad,c,news,rfl,hnl,hnx,hfe⟩
    ·obtain⟨c,rfl⟩:∃ c,u=.slice none 0 c:=by
      grind
     subst z1
     exact⟨V r,w,[],F6 w 0 t o.type ty i i.size ht hi (V r) n xs hown c,by grind,World.grownBy.refl w _,.inl rfl,Fits.nil _ _⟩
    ·obtain⟨v',w',hrun,hown',hgr,_,hblk⟩:=run_append_own_at (P:=P) w 0 t o.type ty i z k bytes ht hi hzz z1 z2 z3 hk0 (V r) n xs hown ad m c news hnl hnx (hfe.one h1)
      (by grind[maxLen]) hb2 (Nat.zero_le _)
     grind
   obtain⟨v',w',news,hrun,hown',hgr,hblk,hfe⟩:=hout
   rw[<- DA hown,<- DA hown']at hblk
   rw[<- DA hown]at hgr
   obtain⟨V',_,hrel'⟩:=hrel.grown (z':=⟨ty,k,n+m,ds++es,false⟩) (d:=d) hr rfl rfl hgr (fun g hg=>by
    have h1:=HC hg (CK hty)
    rcases hblk with h | h
    ·exact .inl (.inl (h▸h1))
    grind) (fun D' hk hD=>⟨_,.inl ⟨hty,hown'⟩,.inl ⟨CK hty,(hfx.append hfe).stay hk hD⟩⟩) hn
   have:=hK _ _ (hE M V' _ _ hrel')
   simp_all[Oper.wp,execOp,resolve,invoke,builtin,Oper.upon]
theorem BP{d:Nat}{x y:Operand}{t:TypeId}{r k m n bytes:Nat}{ty:TypeId}{ds es:List Dat}(hg:o.guard=none)(hd:o.dst=some d)(hn:Nat.blt d cx.n=true)(ho:o.op=.call { callee:=.builtin .append,args := #[x,y],argTypes := #[t,t] })(hx:Kn T x (.own r))(hr:lk r R=some ⟨ty,k,n,ds,false⟩)(hy:Kn T y (.part (.one (.row k m es))))
  (ht:P.underlying t=some (.slice ty)) (hz:(P.info? ty).map (fun i=>(i.size,i.bytes,i.zero.map (·.cells.size)))=some (k,bytes,some k)) (hk:Nat.blt 0 k=true) (h1:es.all Dat.isOne=true) (hb1:n+m<=140737488355328) (hb2:(n+m)*bytes<=140737488355328)
  (hE:E cx ((d,.own r)::J4 r T) (GE r B) ((r,⟨ty,k,n+m,ds++es,false⟩)::R) (wpList P ops Q l)) (hty:Nat.blt ty 1000000=true:=by rfl):E cx T B R (wpList P ops Q (o::l)):=fun M V a w hrel=>SB hg hd hn ho hrel (hx w (Dc cx B R M V w) M V a fun t z _ hz=>hrel.tmp t z hz) hr hy ht hz hk h1 hb1 hb2 hE hty
theorem GR(r:Nat){d:Nat}{t ty:TypeId}{k bytes:Nat}(hg:o.guard=none)(hd:o.dst=some d)(hn:Nat.blt d cx.n=true)(ho:o.op=.buildSlice t 0 #[])(ht:P.underlying t=some (.slice ty))(hz:(P.info? ty).map (fun i=>(i.size,i.bytes,i.zero.map (·.cells.size)))=some (k,bytes,some k))
  (hT:Q9 r T=true) (hB:Q0 r B=true) (hE:E cx ((d,.own r)::T) B ((r,⟨ty,k,0,[],false⟩)::R) (wpList P ops Q l)) (hty:Nat.blt ty 1000000=true:=by rfl):E cx T B R (wpList P ops Q (o::l)):=fun M V a w hrel=>by
 refine wpList_plain hg fun K hK=>?_
 have hb:Below w.heap.size w (w.alloc (.cells #[] ty)):=(Below.refl _ _).alloc (Nat.le_refl _) _
 let v:Value:=.slice (some ⟨w.heap.size,0,none⟩) 0 0
 have hmade:(w.alloc (.cells #[] ty)).ownsRow 0 ty k v 0 []:=⟨by simp,.inr ⟨w.heap.size,0,#[],rfl,Nat.zero_le _,heap_alloc_new w _,Nat.le_refl _,by grind,by simp,by simp⟩⟩
 obtain⟨V',hVr,hr0⟩:=hrel.newrow (v':=v) (z':=⟨ty,k,0,[],false⟩) hb rfl (fun g hg=>by
  have h1:some w.heap.size=some g:=HC hg (CK hty)
  simp_all) (fun D' hD=>Gx.of ⟨[],hmade,Fits.nil _ _⟩ hty) r hT hB
 have hrel':=hr0.put (Below.refl _ _) (CJ hn) (x:=.own r) hVr.symm
 have:=hK _ _ (hE M V' _ _ hrel')
 cases hi:P.info? ty with
 | none=>grind
 | some i=>
  have hrun:(Instr.buildSlice t 0 #[]).run P w=.ok v (w.alloc (.cells #[] ty)):=by
   have e0:∀ f:Nat->Value,(Array.range 0).map f = #[]:=fun f=>by
    grind
   simp[Instr.buildSlice,run_underlying ht,sizeOf,typeInfo,hi,Instr.fill,newRow,v,e0]
  simp_all[Oper.wp,execOp,Oper.upon]
theorem DK{r ty k n n':Nat}{ds ds':List Dat}{f:Bool}(h:lk r R=some ⟨ty,k,n,ds,f⟩)(hn:n=n')(hd:ds=ds'):lk r R=some ⟨ty,k,n',ds',f⟩:=by
 grind
def ND:Nat->List Part->TL
 | _,[]=>[]
 | i,p::ps=>(i,.part p)::ND (i+1) ps
theorem I0:∀ {ps:List Part} {i t:Nat} {x:IV},lk t (ND i ps)=some x -> ∃ p,ps[t-i]?=some p/\x=.part p/\i<=t
 | [],_,_,_,h=>by cases h
 | p::ps,i,t,x,h=>by
  rcases AK h with⟨rfl,rfl⟩ | ⟨hne,h⟩
  ·grind
  ·obtain⟨q,h1,h2,h3⟩:=I0 h
   grind
theorem AH{gls:List (Nat×List Value)}{f:FuncId}{fn:Func}{c:Code}{ps:List Part}{Y:IV->Prop}(n:Nat)(hf:P.funcs[f]?=some fn)(hb:fn.body=some c)(hn:fn.ntmps=n)(hle:Nat.ble ps.length n=true)
  (h:∀ (w:World) (D:Nat->Prop),E ⟨w,D,fun _=>False,n,gls,[],fun _=>0⟩ (ND 0 ps) [] [] (c.wp P (bodyPost P fn (PJ w D Y)))):EFx P gls f ps Y:=fun w D vs hD hG hp=>by
 refine calls_of_wp hf hb ?_
 have hl:=hp.length
 have hle':=Nat.le_of_ble_eq_true hle
 refine h w D (fun _=>0) (fun _=>undef) _ w ⟨by grind,rfl,⟨Bex.refl _ _,fun g hg=>⟨hD g hg,fun h=>h⟩,fun _ h=>h.elim,fun g cs hg=>⟨⟨(hG g cs hg).1,fun h=>h⟩,(hG g cs hg).2⟩,fun b x hx=>(by cases hx),fun r x hx=>(by cases hx),fun r x g hx=>(by cases hx),fun b hb=>(by cases hb),fun b c x y hx=>(by cases hx),fun b r x y g hx=>(by cases hx),fun r q x y g hx=>(by cases hx)⟩,fun t x hx=>?_⟩
 obtain⟨p,h1,rfl,_⟩:=I0 hx
 obtain⟨v,h2,h3⟩:=hp.get h1
 rw[Nat.sub_zero]at h2
 have hv:(vs.toArray++Array.replicate (fn.ntmps-vs.toArray.size) undef).getD t undef=v:=by
  have hlt:t<vs.length:=by
   rcases Nat.lt_or_ge t vs.length with h | h
   ·exact h
   ·grind
  have h4:vs[t]=v:=by
   rw[List.getElem?_eq_getElem hlt]at h2
   exact Option.some.inj h2
  simp[Array.getElem?_append,hlt,h4]
 show VR _ _ _ _ _ ((vs.toArray++Array.replicate (fn.ntmps-vs.toArray.size) undef).getD t undef)
 rw[hv]
 exact PFit.stay (D:=D) (Keeps.refl _ _) (fun g hg=>Or.inl hg) h3
def MV(tmps:Array Value):ResultVar->Sem Value
 | .tmp t=>pure (tmps.getD t undef)
 | .cell a t=>do loadVar t (<- asAddr (tmps.getD a undef))
inductive KnR (P:Program) (T:TL) (B:BL):List ResultVar->List Part->Prop
 | nil:KnR P T B [] []
 | tmp {t:Nat} {p:Part} {l:List ResultVar} {m:List Part}:Kn T (.tmp t) (.part p)->KnR P T B l m->KnR P T B (.tmp t::l) (p::m)
 | cell {t:Nat} {ty:TypeId} {l:List ResultVar} {m:List Part} {b k:Nat} {bx:Bx} {ds:List Dat}:lk t T=some (.box b 0)->lk b B=some bx->manyOf (bx.cs.take k)=some ds->aggT P ty=true->sizeT P ty=some k->Nat.ble k bx.cs.length=true->KnR P T B l m->KnR P T B (.cell t ty::l) (.many ds::m)
 | cell1 {t:Nat} {ty:TypeId} {l:List ResultVar} {m:List Part} {b:Nat} {bx:Bx} {d:Dat}:lk t T=some (.box b 0)->lk b B=some bx->bx.cs[0]?=some (.part (.one d))->oneT P ty=true->KnR P T B l m->KnR P T B (.cell t ty::l) (.one d::m)
theorem KnR.run{a:Act}{w:World}(hr:Rel cx T B R M V a w){l:List ResultVar}{m:List Part}(h:KnR P T B l m):∃ vs,(l.mapM (MV a.tmps)).run P w=.ok vs w/\PsFit w (Dc cx B R M V w) m vs:=by
 induction h with
 | nil=>exact⟨[],by simp,trivial⟩
 | tmp hk _ ih=>
  rename_i t p l m _
  obtain⟨vs,h1,h2⟩:=ih
  have:=hk w (Dc cx B R M V w) M V a fun s z _ hz=>hr.tmp s z hz
  exact⟨a.tmps.getD t undef::vs,by simp[MV,h1],this,h2⟩
 | cell ht hb hm hg hs hle _ ih=>
  rename_i t ty l m b k bx ds _
  obtain⟨vs,h1,h2⟩:=ih
  have hp:a.tmps.getD t undef=.pointer (some ⟨M b,0,none⟩):=hr.tmp t _ ht
  obtain⟨_,cs,a2,a3⟩:=hr.heap.box b bx hb
  have hle':=Nat.le_of_ble_eq_true hle
  have hcl:=a3.1
  have h5:=DN (P:=P) w (M b) 0 (cs.take k) (fun i v hv=>by
   rw[List.getElem?_take]at hv
   split at hv
   ·rw[Nat.zero_add]
    exact(a2.cell i).trans hv
   ·cases hv) ty hg (by grind)
  have hf:Fits w (Dc cx B R M V w) ds (cs.take k):=FW hm (by simp;omega) fun i y v hy hv=>by
   rw[List.getElem?_take]at hy hv
   split at hy
   ·rename_i hi
    rw[if_pos hi]at hv
    exact(a3.2 i y v hy hv).1
   ·cases hy
  have hp':a.tmps[t]?.getD undef=.pointer (some ⟨M b,0,none⟩):=by simpa using hp
  exact⟨.agg (cs.take k).toArray::vs,by simp_all[MV,asAddr],⟨_,rfl,hf⟩,h2⟩
 | cell1 ht hb hm hg _ ih=>
  rename_i t ty l m b bx d _
  obtain⟨vs,h1,h2⟩:=ih
  have hp:a.tmps.getD t undef=.pointer (some ⟨M b,0,none⟩):=hr.tmp t _ ht
  obtain⟨_,cs,a2,a3⟩:=hr.heap.box b bx hb
  have hlt:0<cs.length:=by
   rw[<- a3.1]
   rcases Nat.lt_or_ge 0 bx.cs.length with h | h
   ·exact h
   ·grind
  have h4:cs[0]?=some cs[0]:=List.getElem?_eq_getElem hlt
  have h5:=EH (P:=P) w ⟨M b,0,none⟩ cs[0] ty ((a2.cell 0).trans h4) hg
  have hp':a.tmps[t]?.getD undef=.pointer (some ⟨M b,0,none⟩):=by simpa using hp
  exact⟨cs[0]::vs,by simp_all[MV,asAddr],(a3.2 0 _ _ hm h4).1,h2⟩
abbrev bcs(ds:List Dat):List IV:=ds.map fun d=>.part (.one d)
def MN:List Part->IV
 | [p]=>.part p
 | ps=>.tup ps
theorem UL{w:World}{D:Nat->Prop}{ps:List Part}{vs:List Value}(h:PsFit w D ps vs):VR w D M V (MN ps) (if h:vs.toArray.size=1 then vs.toArray[0]else .tuple vs.toArray):=by
 have hl:=h.length
 match ps,vs,h with
 | [],[],h=>exact⟨[],rfl,h⟩
 | [p],[v],h=>exact h.1
 | p::q::ps,u::v::vs,h=>exact⟨_,rfl,h⟩
def Cut{ι:Type}(cx:Cx)(T:ι->TL)(B:ι->BL)(R:ι->RL)(a:Act)(w:World):Prop:=∃ i M V,Rel cx (T i) (B i) (R i) M V a w
theorem DY{ι:Type}{Ti:ι->TL}{Bi:ι->BL}{Ri:ι->RL}(i:ι)(h0:∀ K,E cx (Ti i) (Bi i) (Ri i) K->E cx T B R K):E cx T B R (Cut cx Ti Bi Ri):=
 h0 _ fun M V _ _ hr=>⟨i,M,V,hr⟩
theorem T5(hbor:cx.bor=fun _=>False){fn:Func}{Y:IV->Prop}{rs:List ResultVar}{ps:List Part}{y:IV}(hrs:fn.results=rs.toArray)(hk:KnR P T B rs ps)(hi:Imp (MN ps) y)(hY:Y y):∀ M V a w,Rel cx T B R M V a w->a.defers=[] /\ ∃ v,(results fn a.tmps).run P w=.ok v w/\PJ cx.w0 cx.D0 Y (.returned v) w:=fun M V a w hr=>by
 obtain⟨vs,h1,h2⟩:=hk.run hr
 have hbl:Below cx.w0.heap.size cx.w0 w:=(show Bex (fun _=>False) cx.w0 w from hbor▸hr.heap.below).below
 refine⟨hr.defers,_,?_,_,y,rfl,hY,hbl,fun M' V'=>hi _ _ _ _ _ (UL (M:=M') (V:=V') (h2.stay (Keeps.refl _ _) fun g hg=>?_))⟩
 ·have e:results fn a.tmps=(do let vs <- fn.results.mapM (MV a.tmps);pure (if h:vs.size=1 then vs[0]else .tuple vs)):=by
   unfold results
   congr 1
  simp_all
 ·rcases hg with hg | ⟨a1,a2,_,_⟩
  ·exact .inl hg
  ·refine .inr ⟨?_,a2⟩
   grind
theorem A8(hbor:cx.bor=fun _=>False){fn:Func}{Y:IV->Prop}{rs:List ResultVar}{ps:List Part}{y:IV}(hrs:fn.results=rs.toArray)(hk:KnR P T B rs ps)(hi:Imp (MN ps) y)(hY:Y y):E cx T B R (bodyPost P fn (PJ cx.w0 cx.D0 Y) .ret):=T5 hbor hrs hk hi hY
end
end
end Go.Proofs.Ytecfdcdkkgmkpaa
