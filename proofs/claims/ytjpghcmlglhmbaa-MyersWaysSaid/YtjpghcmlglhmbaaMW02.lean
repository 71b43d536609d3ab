/- Part 2. Conditions: as each theorem says. -/
import Derived.Test.YtjpghcmlglhmbaaMW01
set_option maxRecDepth 100000
namespace Go.Proofs.Ytjpghcmlglhmbaa
open Go.RowKit
section
inductive Part where
 | one (d:Dat)
 | many (ds:List Dat)
inductive Cap where
 | box (b j:Nat)
 | val (v:Value)
def DF(M:Nat->Nat):Cap->Value
 | .box b j=>.pointer (some ⟨M b,j,none⟩)
 | .val v=>v
inductive IV where
 | junk
 | part (p:Part)
 | tup (ps:List Part)
 | ref (ds:List Dat)
 | box (b j:Nat)
 | own (r:Nat)
 | via (r:Nat) (f:Value->Value->Prop)
 | opt (g:Bool) (x:IV)
 | clo (fn:Fn) (first caps:List Cap)
 | sl (b n c:Nat)
abbrev IV.is(v:Value):IV:=.part (.one (.cell v))
structure Bx where
 ty:TypeId
 cs:List IV
structure Rw where
 ty:TypeId
 k:Nat
 n:Nat
 ds:List Dat
 fz:Bool
abbrev TL:=List (Nat×IV)
abbrev BL:=List (Nat×Bx)
abbrev RL:=List (Nat×Rw)
structure Cx where
 w0:World
 D0:Nat->Prop
 bor:Nat->Prop
 n:Nat
 gl:List (Nat×List Value)
 pn:List Nat
 mb:Nat->Nat
structure Bex (bor:Nat->Prop) (w0 w:World):Prop where
 os:w.os=w0.os
 tape:w.tape=w0.tape
 output:w.output=w0.output
 size:w0.heap.size<=w.heap.size
 block:∀ k,k<w0.heap.size->¬ bor k->w.heap[k]?=w0.heap[k]?
theorem Bex.refl(bor:Nat->Prop)(w:World):Bex bor w w:=⟨rfl,rfl,rfl,Nat.le_refl _,fun _ _ _=>rfl⟩
theorem Bex.step{bor:Nat->Prop}{w0 w w':World}(h:Bex bor w0 w)(hb:Below w.heap.size w w'):Bex bor w0 w':=
 ⟨hb.os.trans h.os,hb.tape.trans h.tape,hb.output.trans h.output,Nat.le_trans h.size hb.size,fun k hk hn=>(hb.block k (Nat.lt_of_lt_of_le hk h.size)).trans (h.block k hk hn)⟩
theorem Bex.turn{bor:Nat->Prop}{w0 w w':World}(h:Bex bor w0 w)(h1:w'.os=w.os)(h2:w'.tape=w.tape)(h3:w'.output=w.output)(h4:w.heap.size<=w'.heap.size)(r:Option Nat)(hr:∀ g,r=some g->w0.heap.size<=g\/bor g)(hk:∀ k,k<w.heap.size->some k≠r->w'.heap[k]?=w.heap[k]?):Bex bor w0 w':=
 ⟨h1.trans h.os,h2.trans h.tape,h3.trans h.output,Nat.le_trans h.size h4,fun k hlt hn=>(hk k (Nat.lt_of_lt_of_le hlt h.size) fun e=>by
  rcases hr k e.symm with h | h
  ·omega
  ·exact hn h).trans (h.block k hlt hn)⟩
theorem Bex.below{w0 w:World}(h:Bex (fun _=>False) w0 w):Below w0.heap.size w0 w:=⟨h.os,h.tape,h.output,h.size,fun k hk=>h.block k hk fun h=>h⟩
def lk{α:Type}(i:Nat):List (Nat×α)->Option α
 | []=>none
 | (j,a)::l=>bif Nat.beq j i then some a else lk i l
theorem AP{α:Type}(i:Nat)(a:α)(l:List (Nat×α)):lk i ((i,a)::l)=some a:=by simp[lk]
theorem AI{α:Type}{i j:Nat}(a:α)(l:List (Nat×α))(h:j≠i):lk i ((j,a)::l)=lk i l:=by
 have:Nat.beq j i=false:=by
  cases e:Nat.beq j i
  ·rfl
  ·exact absurd (Nat.eq_of_beq_eq_true e) h
 simp[lk,this]
theorem A9{α:Type}{i j:Nat}{a x:α}{l:List (Nat×α)}(h:lk i ((j,a)::l)=some x):(j=i/\x=a)\/(j≠i/\lk i l=some x):=by
 by_cases e:j=i
 ·subst e
  rw[AP]at h
  exact .inl ⟨rfl,(Option.some.inj h).symm⟩
 ·rw[AI _ _ e]at h
  exact .inr ⟨e,h⟩
theorem D1{α:Type}{i:Nat}{x:α}:∀ {l:List (Nat×α)},lk i l=some x->(i,x)∈l
 | [],h=>by cases h
 | (j,a)::l,h=>by
  rcases A9 h with⟨rfl,rfl⟩ | ⟨_,h⟩
  ·exact List.mem_cons_self
  ·exact List.mem_cons_of_mem _ (D1 h)
def PFit(w:World)(D:Nat->Prop):Part->Value->Prop
 | .one d,v=>Lies w D d v
 | .many ds,v=>∃ xs:List Value,v=.agg xs.toArray/\Fits w D ds xs
def PsFit(w:World)(D:Nat->Prop):List Part->List Value->Prop
 | [],[]=>True
 | p::ps,v::vs=>PFit w D p v/\PsFit w D ps vs
 | _,_=>False
section
variable{w w':World}{D D':Nat->Prop}
theorem PFit.stay(hk:Keeps D w w')(hD:∀ g,D g->D' g):∀ {p:Part} {v:Value},PFit w D p v->PFit w' D' p v
 | .one _,_,h=>Lies.stay h hk hD
 | .many _,_,⟨xs,h1,h2⟩=>⟨xs,h1,h2.stay hk hD⟩
theorem PsFit.stay(hk:Keeps D w w')(hD:∀ g,D g->D' g):∀ {ps:List Part} {vs:List Value},PsFit w D ps vs->PsFit w' D' ps vs
 | [],[],_=>trivial
 | _::_,_::_,h=>⟨h.1.stay hk hD,PsFit.stay hk hD h.2⟩
 | [],_::_,h=>h.elim
 | _::_,[],h=>h.elim
theorem PsFit.length:∀ {ps:List Part} {vs:List Value},PsFit w D ps vs->ps.length=vs.length
 | [],[],_=>rfl
 | _::_,_::_,h=>by simp[PsFit.length h.2]
 | [],_::_,h=>h.elim
 | _::_,[],h=>h.elim
theorem PsFit.get:∀ {ps:List Part} {vs:List Value} (_:PsFit w D ps vs) {i:Nat} {p:Part} (_:ps[i]?=some p),∃ v,vs[i]?=some v/\PFit w D p v
 | p::_,v::_,h,0,q,hp=>⟨v,rfl,by
  obtain rfl:p=q:=by simpa using hp
  exact h.1⟩
 | _::ps,_::vs,h,i+1,q,hp=>by
  obtain⟨u,h1,h2⟩:=PsFit.get h.2 (i:=i) (p:=q) (by simpa using hp)
  exact⟨u,by simpa using h1,h2⟩
 | [],[],_,_,_,hp=>by simp at hp
 | [],_::_,h,_,_,_=>h.elim
 | _::_,[],h,_,_,_=>h.elim
end
def VR(w:World)(D:Nat->Prop)(M:Nat->Nat)(V:Nat->Value):IV->Value->Prop
 | .junk,_=>True
 | .part p,v=>PFit w D p v
 | .tup ps,v=>∃ vs:List Value,v=.tuple vs.toArray/\PsFit w D ps vs
 | .ref ds,v=>∃ b o,v=.pointer (some ⟨b,o,none⟩)/\D b /\ ∃ xs,Fits w D ds xs /\ ∀ (j:Nat) x,xs[j]?=some x->w.cell? ⟨b,o+j,none⟩=some x
 | .box b j,v=>v=.pointer (some ⟨M b,j,none⟩)
 | .own r,v=>v=V r
 | .via r f,v=>f (V r) v
 | .opt g x,v=>(g=true->VR w D M V x v)/\(g=false->v=undef)
 | .clo fn fs cs,v=>v=.func fn (fs.map (DF M)).toArray (cs.map (DF M)).toArray
 | .sl b n c,v=>v=.slice (some ⟨M b,0,none⟩) n c
theorem VR.stay{w w':World}{D D':Nat->Prop}{M:Nat->Nat}{V:Nat->Value}(hk:Keeps D w w')(hD:∀ g,D g->D' g):∀ {x:IV} {v:Value},VR w D M V x v->VR w' D' M V x v
 | .junk,_,_=>trivial
 | .part _,_,h=>PFit.stay hk hD h
 | .tup _,_,⟨vs,h1,h2⟩=>⟨vs,h1,h2.stay hk hD⟩
 | .ref _,_,⟨b,o,h1,h2,xs,h3,h4⟩=>⟨b,o,h1,hD _ h2,xs,h3.stay hk hD,fun j x hx=>(World.cell?_of_block (a:=⟨b,o+j,none⟩) (hk b h2)).trans (h4 j x hx)⟩
 | .box _ _,_,h=>h
 | .own _,_,h=>h
 | .via _ _,_,h=>h
 | .opt _ _,_,h=>⟨fun hg=>(h.1 hg).stay hk hD,h.2⟩
 | .clo _ _ _,_,h=>h
 | .sl _ _ _,_,h=>h
def obk:Value->Option Nat
 | .map (some g)=>some g
 | v=>v.ownBlock
def NA(w:World)(base:Nat)(e:TypeId)(v:Value)(n:Nat)(xs:List Value):Prop:=
 (Nat.blt e 1000000=false/\Nat.blt e 2000000=true) /\ ∃ g es clock,v=.map (some g)/\base<=g/\w.heap[g]?=some (.map es clock)/\es.size=n/\kvs es.toList=xs
def M5(w:World)(base:Nat)(e:TypeId)(k:Nat)(v:Value)(n:Nat)(xs:List Value):Prop:=Nat.blt e 2000000=false/\w.ownsRow base (e-2000000) k v n xs
theorem BM{e:TypeId}(h:Nat.blt e 1000000=true):Nat.blt e 2000000=true:=by
 exact Nat.blt_eq.mpr (Nat.lt_of_lt_of_le (Nat.blt_eq.mp h) (by decide))
def Ow(w:World)(base:Nat)(e:TypeId)(k:Nat)(v:Value)(n:Nat)(xs:List Value):Prop:=(Nat.blt e 1000000=true/\w.ownsRow base e k v n xs)\/NA w base e v n xs\/M5 w base e k v n xs
theorem C1{w:World}{base:Nat}{e:TypeId}{k:Nat}{v:Value}{n:Nat}{xs:List Value}(h:w.ownsRow base e k v n xs):obk v=v.ownBlock:=by
 rcases h.2 with⟨rfl,_⟩ | ⟨g,cap,cur,rfl,_⟩<;>rfl
theorem Ow.row{w:World}{base:Nat}{e:TypeId}{k:Nat}{v:Value}{n:Nat}{xs:List Value}(h:Ow w base e k v n xs)(ht:Nat.blt e 1000000=true):w.ownsRow base e k v n xs:=by
 rcases h with⟨_,h⟩ | ⟨⟨h,_⟩,_⟩ | ⟨h,_⟩
 ·exact h
 ·rw[h]at ht;cases ht
 ·rw[BM ht]at h;cases h
theorem Ow.lt{w:World}{base:Nat}{e:TypeId}{k:Nat}{v:Value}{n:Nat}{xs:List Value}(h:Ow w base e k v n xs)(g:Nat)(hg:obk v=some g):base<=g/\g<w.heap.size:=by
 rcases h with⟨_,h⟩ | ⟨_,g',es,c,rfl,hb,hh,_⟩ | ⟨_,h⟩
 ·exact World.ownsRow.lt h g ((C1 h).symm.trans hg)
 ·obtain rfl:g'=g:=Option.some.inj hg
  refine⟨hb,?_⟩
  rcases Nat.lt_or_ge g' w.heap.size with hl | hl
  ·exact hl
  ·rw[Array.getElem?_eq_none hl]at hh;cases hh
 ·exact World.ownsRow.lt h g ((C1 h).symm.trans hg)
theorem Ow.stay{w w':World}{base:Nat}{e:TypeId}{k:Nat}{v:Value}{n:Nat}{xs:List Value}(h:Ow w base e k v n xs)(hv:∀ g,obk v=some g->w'.heap[g]?=w.heap[g]?):Ow w' base e k v n xs:=by
 rcases h with⟨h0,h⟩ | ⟨h0,g',es,c,rfl,hb,hh,hr⟩ | ⟨h0,h⟩
 ·exact .inl ⟨h0,ownsRow.stay h fun g hg=>hv g ((C1 h).trans hg)⟩
 ·exact .inr (.inl ⟨h0,g',es,c,rfl,hb,(hv g' rfl).trans hh,hr⟩)
 ·exact .inr (.inr ⟨h0,ownsRow.stay h fun g hg=>hv g ((C1 h).trans hg)⟩)
def KL:Dat->Dat
 | .orow _ k n _ ds=>.row k n ds
 | .optr t _ ds=>.ptr t ds
 | d=>d
def datOf(x:Rw):Dat:=bif Nat.blt x.ty 1000000 then .row x.k x.n x.ds else bif Nat.blt x.ty 2000000 then .map x.n x.ds else .row x.k x.n (x.ds.map KL)
theorem EI{x:Rw}(h:Nat.blt x.ty 1000000=true):datOf x=.row x.k x.n x.ds:=by unfold datOf;rw[h];rfl
theorem JI{x:Rw}(h:Nat.blt x.ty 1000000=false)(h2:Nat.blt x.ty 2000000=true):datOf x=.map x.n x.ds:=by unfold datOf;rw[h,h2];rfl
theorem I7{x:Rw}(h2:Nat.blt x.ty 2000000=false):datOf x=.row x.k x.n (x.ds.map KL):=by
 have h:Nat.blt x.ty 1000000=false:=by
  cases h:Nat.blt x.ty 1000000
  ·rfl
  ·rw[BM h]at h2;cases h2
 unfold datOf
 rw[h,h2]
 rfl
def kidBlk:Dat->Option Nat
 | .orow _ _ _ v _=>v.ownBlock
 | .optr _ (.pointer (some ⟨g,0,none⟩)) _=>some g
 | _=>none
def Kid(ds:List Dat)(g:Nat):Prop:=∃ (j:Nat) (d:Dat),ds[j]?=some d/\kidBlk d=some g
def obs(e:TypeId)(ds:List Dat)(v:Value)(g:Nat):Prop:=obk v=some g\/(Nat.blt e 2000000=false/\Kid ds g)
theorem F2{e:TypeId}{ds:List Dat}{v:Value}{g:Nat}(h:obs e ds v g)(ht:Nat.blt e 2000000=true):obk v=some g:=by
 rcases h with h | ⟨h,_⟩
 ·exact h
 ·rw[ht]at h;cases h
def KidFit(w:World)(D:Nat->Prop):Dat->Value->Prop
 | .orow ty k n v es,x=>x=v/\Nat.blt ty 1000000=true /\ ∃ ys,w.ownsRow 0 ty k v n ys/\Fits w D es ys
 | .optr ty v es,x=>x=v /\ ∃ g ys,v=.pointer (some ⟨g,0,none⟩)/\Blk w g ty ys/\Fits w D es ys
 | d,x=>Lies w D d x
theorem KidFit.lt{w:World}{D:Nat->Prop}{d:Dat}{x:Value}{g:Nat}(h:KidFit w D d x)(hg:kidBlk d=some g):g<w.heap.size:=by
 cases d with
 | orow ty k n v es=>
  obtain⟨_,_,ys,h1,_⟩:=h
  exact(World.ownsRow.lt h1 g hg).2
 | optr ty v es=>
  obtain⟨_,g',ys,rfl,h1,_⟩:=h
  obtain rfl:g'=g:=Option.some.inj hg
  exact h1.lt
 | _=>cases hg
theorem KidFit.stay{w w':World}{D D':Nat->Prop}{d:Dat}{x:Value}(h:KidFit w D d x)(hv:∀ g,kidBlk d=some g->w'.heap[g]?=w.heap[g]?)(hk:Keeps D w w')(hD:∀ g,D g->D' g):KidFit w' D' d x:=by
 cases d with
 | orow ty k n v es=>
  obtain⟨h0,ht,ys,h1,h2⟩:=h
  exact⟨h0,ht,ys,ownsRow.stay h1 hv,h2.stay hk hD⟩
 | optr ty v es=>
  obtain⟨h0,g',ys,rfl,h1,h2⟩:=h
  exact⟨h0,g',ys,rfl,(hv g' rfl).trans h1,h2.stay hk hD⟩
 | cell v=>exact Lies.stay h hk hD
 | row k n ds=>exact Lies.stay h hk hD
 | ptr t ds=>exact Lies.stay h hk hD
 | ifc t d=>exact Lies.stay h hk hD
 | map n ds=>exact Lies.stay h hk hD
 | fn f ds=>exact Lies.stay h hk hD
 | pref ds=>exact Lies.stay h hk hD
structure KApart (v:Value) (ds:List Dat):Prop where
 own:∀ (j:Nat) d g,ds[j]?=some d->kidBlk d=some g->obk v≠some g
 two:∀ (i j:Nat) d e g,ds[i]?=some d->ds[j]?=some e->kidBlk d=some g->kidBlk e=some g->i=j
def Fx(w:World)(D:Nat->Prop)(e:TypeId)(v:Value)(ds:List Dat)(xs:List Value):Prop:=
 (Nat.blt e 2000000=true/\Fits w D ds xs)\/(Nat.blt e 2000000=false/\(ds.length=xs.length /\ ∀ (j:Nat) d x,ds[j]?=some d->xs[j]?=some x->KidFit w D d x)/\KApart v ds)
theorem Fx.row{w:World}{D:Nat->Prop}{e:TypeId}{v:Value}{ds:List Dat}{xs:List Value}(h:Fx w D e v ds xs)(ht:Nat.blt e 2000000=true):Fits w D ds xs:=by
 rcases h with⟨_,h⟩ | ⟨h,_⟩
 ·exact h
 ·rw[ht]at h;cases h
theorem Fx.stay{w w':World}{D D':Nat->Prop}{e:TypeId}{v:Value}{ds:List Dat}{xs:List Value}(h:Fx w D e v ds xs)(hv:∀ g,obs e ds v g->w'.heap[g]?=w.heap[g]?)(hk:Keeps D w w')(hD:∀ g,D g->D' g):Fx w' D' e v ds xs:=by
 rcases h with⟨h0,h⟩ | ⟨h0,h1,h2⟩
 ·exact .inl ⟨h0,h.stay hk hD⟩
 ·exact .inr ⟨h0,⟨h1.1,fun j d x hd hx=>(h1.2 j d x hd hx).stay (fun g hg=>hv g (.inr ⟨h0,j,d,hd,hg⟩)) hk hD⟩,h2⟩
def Gx(w:World)(D:Nat->Prop)(base:Nat)(e:TypeId)(k:Nat)(v:Value)(n:Nat)(ds:List Dat):Prop:=∃ xs,Ow w base e k v n xs/\Fx w D e v ds xs
theorem Gx.of{w:World}{D:Nat->Prop}{base:Nat}{e:TypeId}{k:Nat}{v:Value}{n:Nat}{ds:List Dat}(h:Gr w D base e k v n ds)(ht:Nat.blt e 1000000=true):Gx w D base e k v n ds:=by
 obtain⟨xs,h1,h2⟩:=h
 exact⟨xs,.inl ⟨ht,h1⟩,.inl ⟨BM ht,h2⟩⟩
theorem Gx.row{w:World}{D:Nat->Prop}{base:Nat}{e:TypeId}{k:Nat}{v:Value}{n:Nat}{ds:List Dat}(h:Gx w D base e k v n ds)(ht:Nat.blt e 1000000=true):Gr w D base e k v n ds:=by
 obtain⟨xs,h1,h2⟩:=h
 exact⟨xs,h1.row ht,h2.row (BM ht)⟩
theorem Gx.lt{w:World}{D:Nat->Prop}{base:Nat}{e:TypeId}{k:Nat}{v:Value}{n:Nat}{ds:List Dat}(h:Gx w D base e k v n ds)(g:Nat)(hg:obs e ds v g):g<w.heap.size:=by
 obtain⟨xs,h1,h2⟩:=h
 rcases hg with hg | ⟨ht,j,d,hd,hg⟩
 ·exact(h1.lt g hg).2
 ·rcases h2 with⟨h2,_⟩ | ⟨_,h2,_⟩
  ·rw[ht]at h2;cases h2
  ·have hlt:j<xs.length:=by
    rw[<- h2.1]
    rcases Nat.lt_or_ge j ds.length with h | h
    ·exact h
    ·rw[List.getElem?_eq_none h]at hd;cases hd
   exact(h2.2 j d _ hd (List.getElem?_eq_getElem hlt)).lt hg
theorem Gx.stay{w w':World}{D D':Nat->Prop}{base:Nat}{e:TypeId}{k:Nat}{v:Value}{n:Nat}{ds:List Dat}(h:Gx w D base e k v n ds)(hv:∀ g,obs e ds v g->w'.heap[g]?=w.heap[g]?)(hk:Keeps D w w')(hD:∀ g,D g->D' g):Gx w' D' base e k v n ds:=by
 obtain⟨xs,h1,h2⟩:=h
 exact⟨xs,h1.stay fun g hg=>hv g (.inl hg),h2.stay hv hk hD⟩
theorem E1{e:TypeId}{g:Nat}:¬ obs e [] (.slice none 0 0) g:=fun h=>by
 rcases h with h | ⟨_,j,d,h,_⟩
 ·cases h
 ·simp at h
theorem Gx.nil_{w:World}{D:Nat->Prop}{base:Nat}{e:TypeId}{k:Nat}(h:Nat.blt e 1000000=true\/Nat.blt e 2000000=false):Gx w D base e k (.slice none 0 0) 0 []:=by
 rcases h with h | h
 ·exact Gx.of (Gr.nil _ _ _ _ _) h
 ·obtain⟨xs,h1,h2⟩:=Gr.nil w D base (e-2000000) k
  exact⟨xs,.inr (.inr ⟨h,h1⟩),.inr ⟨h,⟨h2.1,fun j d x hd=>by simp at hd⟩,⟨fun j d g hd=>by simp at hd,fun i j d x g hd=>by simp at hd⟩⟩⟩
theorem KidFit.lies{w:World}{D D':Nat->Prop}{d:Dat}{x:Value}(h:KidFit w D d x)(hD:∀ g,D g->D' g)(hv:∀ g,kidBlk d=some g->D' g):Lies w D' (KL d) x:=by
 have hk:=Keeps.refl D w
 cases d with
 | orow ty k n v es=>
  obtain⟨rfl,_,ys,h1,h2⟩:=h
  exact Gr.lies ⟨ys,h1,h2⟩ hD hv
 | optr ty v es=>
  obtain⟨rfl,g',ys,rfl,h1,h2⟩:=h
  exact .ptr g' ty es ys (hv g' rfl) h1 h2.1 fun j d x a b=>(h2.2 j d x a b).stay hk hD
 | cell v=>exact Lies.stay h hk hD
 | row k n ds=>exact Lies.stay h hk hD
 | ptr t ds=>exact Lies.stay h hk hD
 | ifc t d=>exact Lies.stay h hk hD
 | map n ds=>exact Lies.stay h hk hD
 | fn f ds=>exact Lies.stay h hk hD
 | pref ds=>exact Lies.stay h hk hD
theorem Gx.frozen{w:World}{D D':Nat->Prop}{base:Nat}{x:Rw}{v:Value}(h:Gx w D base x.ty x.k v x.n x.ds)(hD:∀ g,D g->D' g)(hv:∀ g,obs x.ty x.ds v g->D' g):Lies w D' (datOf x) v:=by
 obtain⟨xs,h1,h2⟩:=h
 rcases h1 with⟨hty,h1⟩ | ⟨⟨hty,hty2⟩,g,es,c,e1,_,e2,e3,e4⟩ | ⟨hty,h1⟩
 ·rw[EI hty]
  exact Gr.lies ⟨xs,h1,h2.row (BM hty)⟩ hD fun g hg=>hv g (.inl ((C1 h1).trans hg))
 ·rw[JI hty hty2]
  have h5:=h2.row hty2
  subst e1
  exact .map g x.n es c x.ds xs (hv g (.inl rfl)) e2 e3 e4 h5.1 fun j d y a b=>(h5.2 j d y a b).stay (Keeps.refl D w) hD
 ·rw[I7 hty]
  rcases h2 with⟨h2,_⟩ | ⟨_,⟨h3,h4⟩,_⟩
  ·rw[hty]at h2;cases h2
  ·refine Gr.lies (D:=D') ⟨xs,h1,by simpa using h3,fun j d y hd hy=>?_⟩ (fun _ h=>h) fun g hg=>hv g (.inl ((C1 h1).trans hg))
   rw[List.getElem?_map,Option.map_eq_some_iff]at hd
   obtain⟨d0,hd0,rfl⟩:=hd
   exact(h4 j d0 y hd0 hy).lies hD fun g hg=>hv g (.inr ⟨hty,j,d0,hd0,hg⟩)
def Dc(cx:Cx)(B:BL)(R:RL)(M:Nat->Nat)(V:Nat->Value)(w:World)(g:Nat):Prop:=
 cx.D0 g\/((cx.w0.heap.size<=g\/cx.bor g)/\g<w.heap.size/\(∀ b x,lk b B=some x->M b≠g)/\(∀ r x,lk r R=some x->x.fz=false->¬ obs x.ty x.ds (V r) g))
def CFit(w:World)(D:Nat->Prop)(M:Nat->Nat)(V:Nat->Value)(is:List IV)(cs:List Value):Prop:=
 is.length=cs.length /\ ∀ (j:Nat) x v,is[j]?=some x->cs[j]?=some v->VR w D M V x v/\v.oneCell'=true
theorem CFit.stay{w w':World}{D D':Nat->Prop}{M:Nat->Nat}{V:Nat->Value}{is:List IV}{cs:List Value}(hk:Keeps D w w')(hD:∀ g,D g->D' g)(h:CFit w D M V is cs):CFit w' D' M V is cs:=
 ⟨h.1,fun j x v h1 h2=>⟨(h.2 j x v h1 h2).1.stay hk hD,(h.2 j x v h1 h2).2⟩⟩
structure HR (cx:Cx) (B:BL) (R:RL) (M:Nat->Nat) (V:Nat->Value) (w:World):Prop where
 below:Bex cx.bor cx.w0 w
 d0:∀ g,cx.D0 g->g<cx.w0.heap.size/\¬ cx.bor g
 bl:∀ g,cx.bor g->g<cx.w0.heap.size
 gl:∀ g cs,(g,cs)∈cx.gl->(g<cx.w0.heap.size/\¬ cx.bor g) /\ ∀ (j:Nat) v,cs[j]?=some v->cx.w0.cell? ⟨g,j,none⟩=some v
 box:∀ b x,lk b B=some x->(cx.w0.heap.size<=M b\/cx.bor (M b)) /\ ∃ cs,Blk w (M b) x.ty cs/\CFit w (Dc cx B R M V w) M V x.cs cs
 row:∀ r x,lk r R=some x->if x.fz then Lies w (Dc cx B R M V w) (datOf x) (V r)else Gx w (Dc cx B R M V w) 0 x.ty x.k (V r) x.n x.ds
 ro:∀ r x g,lk r R=some x->x.fz=false->obs x.ty x.ds (V r) g->cx.w0.heap.size<=g\/cx.bor g
 pin:∀ b,b∈cx.pn->M b=cx.mb b
 bb:∀ b c x y,lk b B=some x->lk c B=some y->M b=M c->b=c
 br:∀ b r x y g,lk b B=some x->lk r R=some y->y.fz=false->obs y.ty y.ds (V r) g->M b≠g
 rr:∀ r q x y g,lk r R=some x->lk q R=some y->x.fz=false->y.fz=false->obs x.ty x.ds (V r) g->obs y.ty y.ds (V q) g->r=q
section
variable{cx:Cx}{B:BL}{R:RL}{M:Nat->Nat}{V:Nat->Value}{w w':World}
theorem Dc.mono(hs:w.heap.size<=w'.heap.size){g:Nat}(h:Dc cx B R M V w g):Dc cx B R M V w' g:=by
 rcases h with h | ⟨h1,h2,h3⟩
 ·exact .inl h
 ·exact .inr ⟨h1,by omega,h3⟩
theorem HR.dlt(h:HR cx B R M V w){g:Nat}(hg:Dc cx B R M V w g):g<w.heap.size:=by
 rcases hg with hg | hg
 ·have:=(h.d0 g hg).1
  have:=h.below.size
  omega
 ·exact hg.2.1
theorem HR.keeps(h:HR cx B R M V w)(hb:Below w.heap.size w w'):Keeps (Dc cx B R M V w) w w':=.of_below hb fun _ hg=>h.dlt hg
theorem HR.step(h:HR cx B R M V w)(hb:Below w.heap.size w w'):HR cx B R M V w':=by
 have hk:=h.keeps hb
 have hD:∀ g,Dc cx B R M V w g->Dc cx B R M V w' g:=fun g hg=>hg.mono hb.size
 refine⟨h.below.step hb,h.d0,h.bl,h.gl,fun b x hx=>?_,fun r x hx=>?_,h.ro,h.pin,h.bb,h.br,h.rr⟩
 ·obtain⟨h1,cs,h2,h3⟩:=h.box b x hx
  exact⟨h1,cs,h2.kept hb,h3.stay hk hD⟩
 ·have h1:=h.row r x hx
  split
  ·rename_i hf
   rw[if_pos hf]at h1
   exact h1.stay hk hD
  ·rename_i hf
   rw[if_neg hf]at h1
   exact Gx.stay h1 (fun g hg=>hb.block g (Gx.lt h1 g hg)) hk hD
theorem HR.cell(h:HR cx B R M V w){g j:Nat}{cs:List Value}(hg:(g,cs)∈cx.gl){v:Value}(hv:cs[j]?=some v):w.cell? ⟨g,j,none⟩=some v:=
 (World.cell?_of_block (a:=⟨g,j,none⟩) (h.below.block g (h.gl g cs hg).1.1 (h.gl g cs hg).1.2)).trans ((h.gl g cs hg).2 j v hv)
end
def TR(cx:Cx)(T:TL)(B:BL)(R:RL)(M:Nat->Nat)(V:Nat->Value)(a:Act)(w:World):Prop:=∀ t x,lk t T=some x->VR w (Dc cx B R M V w) M V x (a.tmps.getD t undef)
structure Rel (cx:Cx) (T:TL) (B:BL) (R:RL) (M:Nat->Nat) (V:Nat->Value) (a:Act) (w:World):Prop where
 size:a.tmps.size=cx.n
 defers:a.defers=[]
 heap:HR cx B R M V w
 tmp:TR cx T B R M V a w
def E(cx:Cx)(T:TL)(B:BL)(R:RL)(K:Act->World->Prop):Prop:=∀ M V a w,Rel cx T B R M V a w->K a w
theorem E.mono{cx:Cx}{T:TL}{B:BL}{R:RL}{K K':Act->World->Prop}(h:E cx T B R K)(hk:∀ a w,K a w->K' a w):E cx T B R K':=fun M V a w hr=>hk a w (h M V a w hr)
theorem DJ(a:Act)(d t:Nat)(v:Value)(hd:d<a.tmps.size):(a.put (some d) v).tmps.getD t undef=if d=t then v else a.tmps.getD t undef:=by
 simp only[Act.put,Array.getD_eq_getD_getElem?,Array.getElem?_setIfInBounds]
 split
 ·simp
 ·rfl
theorem TR.put{cx:Cx}{T:TL}{B:BL}{R:RL}{M:Nat->Nat}{V:Nat->Value}{a:Act}{w w':World}(h:TR cx T B R M V a w)(hk:Keeps (Dc cx B R M V w) w w')(hs:w.heap.size<=w'.heap.size){d:Nat}(hd:d<a.tmps.size){x:IV}{v:Value}(hv:VR w' (Dc cx B R M V w') M V x v):
  TR cx ((d,x)::T) B R M V (a.put (some d) v) w':=fun t y hy=>by
 rw[DJ a d t v hd]
 rcases A9 hy with⟨rfl,rfl⟩ | ⟨hne,hy⟩
 ·rw[if_pos rfl]
  exact hv
 ·rw[if_neg hne]
  exact(h t y hy).stay hk fun g hg=>hg.mono hs
theorem Rel.put{cx:Cx}{T:TL}{B:BL}{R:RL}{M:Nat->Nat}{V:Nat->Value}{a:Act}{w w':World}(h:Rel cx T B R M V a w)(hb:Below w.heap.size w w'){d:Nat}(hd:d<cx.n){x:IV}{v:Value}(hv:VR w' (Dc cx B R M V w') M V x v):
  Rel cx ((d,x)::T) B R M V (a.put (some d) v) w':=
 ⟨by simpa[Act.put]using h.size,h.defers,h.heap.step hb,h.tmp.put (h.heap.keeps hb) hb.size (by rw[h.size];exact hd) hv⟩
end
section
theorem BF{a b:Nat}(h:Nat.blt a b=true):a<b:=by simpa using h
def ev(T:TL):Operand->Option IV
 | .tmp t=>lk t T
 | .const v=>some (.is v)
 | .global g=>some (.is (.pointer (some ⟨g,0,none⟩)))
 | .func f=>some (.is (.func (.func f) #[] #[]))
theorem KZ{T:TL}{x:Operand}{y:IV}{w:World}{D:Nat->Prop}{M:Nat->Nat}{V:Nat->Value}{a:Act}(h:ev T x=some y)(hT:∀ t z,x=.tmp t->lk t T=some z->VR w D M V z (a.tmps.getD t undef)):VR w D M V y (a.eval x):=by
 cases x with
 | tmp t=>exact hT t y rfl h
 | const v=>injection h with h;rw[<- h];exact .cell v
 | global g=>injection h with h;rw[<- h];exact .cell _
 | func f=>injection h with h;rw[<- h];exact .cell _
theorem VR.is_eq{w:World}{D:Nat->Prop}{M:Nat->Nat}{V:Nat->Value}{v u:Value}(h:VR w D M V (.is v) u):u=v:=Lies.cell_eq h
def Upon(P:Program)(cx:Cx)(B:BL)(R:RL)(M:Nat->Nat)(V:Nat->Value)(w:World)(y:IV):Result Next->Prop
 | .ok (.value v) w'=>Below w.heap.size w w'/\VR w' (Dc cx B R M V w') M V y v
 | .ok .skip w'=>Below w.heap.size w w'/\VR w' (Dc cx B R M V w') M V y undef
 | .ok (.enter f args) w'=>w'=w/\Calls P f args w fun e w''=>∃ v,e=.returned v/\Below w.heap.size w w''/\VR w'' (Dc cx B R M V w'') M V y v
 | _=>False
def LStep(P:Program)(cx:Cx)(B:BL)(R:RL)(o:Oper)(T:TL)(y:IV):Prop:=
 ∀ (M:Nat->Nat) (V:Nat->Value) (w:World) (a:Act),HR cx B R M V w->(∀ t z,.tmp t∈o.op.operands->lk t T=some z->VR w (Dc cx B R M V w) M V z (a.tmps.getD t undef))->Upon P cx B R M V w y ((execOp a.eval o).run P w)
def gk(ops:Array Oper)(T:TL)(o:Oper):Option Bool:=
 match o.guard with
 | none=>some true
 | some (j,want)=>
  match (ops[j]?).bind (·.dst)with
  | none=>none
  | some d=>
   match lk d T with
   | some (.part (.one (.cell (.bool b))))=>match want with | true=>some b | false=>some (!b)
   | some (.opt g (.part (.one (.cell (.bool b)))))=>match want with | true=>some (g&&b) | false=>some (g && !b)
   | _=>none
inductive Walk (P:Program) (cx:Cx) (B:BL) (R:RL) (ops:Array Oper):List Oper->TL->List IV->TL->Prop
 | nil {T:TL}:Walk P cx B R ops [] T [] T
 | op {o:Oper} {d:Nat} {l:List Oper} {T T':TL} {y:IV} {ys:List IV}:o.guard=none->o.dst=some d->Nat.blt d cx.n=true->LStep P cx B R o T y->Walk P cx B R ops l ((d,y)::T) ys T'->Walk P cx B R ops (o::l) T (y::ys) T'
 | gd (g:Bool) {o:Oper} {d:Nat} {l:List Oper} {T T':TL} {y:IV} {ys:List IV}:gk ops T o=some g->o.dst=some d->Nat.blt d cx.n=true->(g=true->LStep P cx B R o T y)->Walk P cx B R ops l ((d,.opt g y)::T) ys T'->Walk P cx B R ops (o::l) T (.opt g y::ys) T'
def IV.whole:IV->Option Value
 | .part (.one (.cell v))=>some v
 | .opt g x=>
  match x.whole with
  | some v=>some (bif g then v else undef)
  | none=>bif g then none else some undef
 | _=>none
theorem C4{w:World}{D:Nat->Prop}{M:Nat->Nat}{V:Nat->Value}:∀ {x:IV} {v u:Value},x.whole=some v->VR w D M V x u->u=v
 | .part (.one (.cell c)),v,u,h,hv=>by
  obtain rfl:c=v:=by simpa[IV.whole]using h
  exact hv.is_eq
 | .opt true x,v,u,h,hv=>by
  unfold IV.whole at h
  cases hx:x.whole with
  | none=>rw[hx]at h;cases h
  | some c=>
   rw[hx]at h
   have:c=v:=by injection h
   subst this
   exact C4 hx (hv.1 rfl)
 | .opt false x,v,u,h,hv=>by
  have:undef=v:=by
   unfold IV.whole at h
   cases hx:x.whole<;>rw[hx]at h<;>injection h
  rw[<- this]
  exact hv.2 rfl
 | .junk,_,_,h,_=>by simp[IV.whole]at h
 | .part (.one (.row _ _ _)),_,_,h,_=>by simp[IV.whole]at h
 | .part (.one (.ptr _ _)),_,_,h,_=>by simp[IV.whole]at h
 | .part (.one (.ifc _ _)),_,_,h,_=>by simp[IV.whole]at h
 | .part (.one (.map _ _)),_,_,h,_=>by simp[IV.whole]at h
 | .part (.many _),_,_,h,_=>by simp[IV.whole]at h
 | .tup _,_,_,h,_=>by simp[IV.whole]at h
 | .ref _,_,_,h,_=>by simp[IV.whole]at h
 | .box _ _,_,_,h,_=>by simp[IV.whole]at h
 | .own _,_,_,h,_=>by simp[IV.whole]at h
 | .via _ _,_,_,h,_=>by simp[IV.whole]at h
 | .clo _ _ _,_,_,h,_=>by simp[IV.whole]at h
 | .sl _ _ _,_,_,h,_=>by simp[IV.whole]at h
theorem F5{w:World}{D:Nat->Prop}{M:Nat->Nat}{V:Nat->Value}:∀ {x:IV} {v:Value},x.whole=some v->VR w D M V x v
 | .part (.one (.cell c)),v,h=>by
  obtain rfl:c=v:=by simpa[IV.whole]using h
  exact .cell c
 | .opt true x,v,h=>by
  unfold IV.whole at h
  cases hx:x.whole with
  | none=>rw[hx]at h;cases h
  | some c=>
   rw[hx]at h
   have:c=v:=by injection h
   subst this
   exact⟨fun _=>F5 hx,fun h=>(by cases h)⟩
 | .opt false x,v,h=>by
  have:undef=v:=by
   unfold IV.whole at h
   cases hx:x.whole<;>rw[hx]at h<;>injection h
  exact⟨fun h=>(by cases h),fun _=>this.symm⟩
 | .junk,_,h=>by simp[IV.whole]at h
 | .part (.one (.row _ _ _)),_,h=>by simp[IV.whole]at h
 | .part (.one (.ptr _ _)),_,h=>by simp[IV.whole]at h
 | .part (.one (.ifc _ _)),_,h=>by simp[IV.whole]at h
 | .part (.one (.map _ _)),_,h=>by simp[IV.whole]at h
 | .part (.many _),_,h=>by simp[IV.whole]at h
 | .tup _,_,h=>by simp[IV.whole]at h
 | .ref _,_,h=>by simp[IV.whole]at h
 | .box _ _,_,h=>by simp[IV.whole]at h
 | .own _,_,h=>by simp[IV.whole]at h
 | .via _ _,_,h=>by simp[IV.whole]at h
 | .clo _ _ _,_,h=>by simp[IV.whole]at h
 | .sl _ _ _,_,h=>by simp[IV.whole]at h
theorem EM(x:IV):(IV.opt false x).whole=some undef:=by
 unfold IV.whole
 cases x.whole<;>rfl
section
variable{P:Program}{cx:Cx}{T T':TL}{B:BL}{R:RL}{M:Nat->Nat}{V:Nat->Value}
theorem DN{ops:Array Oper}{o:Oper}{g:Bool}{a:Act}(h:gk ops T o=some g)(hx:∀ t z v,t∈o.looksAt ops->lk t T=some z->z.whole=some v->a.tmps.getD t undef=v):
  Region.wanted o (yielded ops a.tmps)=g:=by
 unfold gk at h
 unfold Region.wanted
 cases hg:o.guard with
 | none=>
  rw[hg]at h
  simpa using h
 | some jw=>
  obtain⟨j,want⟩:=jw
  rw[hg]at h
  simp only at h ⊢
  cases hj:(ops[j]?).bind (·.dst)with
  | none=>rw[hj]at h;cases h
  | some d=>
   rw[hj]at h
   simp only at h
   have hm:d∈o.looksAt ops:=by
    unfold Oper.looksAt
    rw[hg]
    exact List.mem_append_right _ (by simp[hj])
   have hy:∀ v,a.tmps.getD d undef=v->yielded ops a.tmps j=match v with | .bool b=>some b | _=>none:=by
    intro v hv
    unfold yielded
    rw[hj]
    simp only[Option.bind_some]
    rcases Nat.lt_or_ge d a.tmps.size with hd | hd
    ·simp only[Array.getD_eq_getD_getElem?,Array.getElem?_eq_getElem hd,Option.getD_some]at hv
     rw[Array.getElem?_eq_getElem hd,hv]
     cases v<;>rfl
    ·simp only[Array.getD_eq_getD_getElem?,Array.getElem?_eq_none hd,Option.getD_none]at hv
     rw[Array.getElem?_eq_none hd,<- hv]
     rfl
   split at h
   ·rename_i b hb
    rw[hy _ (hx d _ _ hm hb rfl)]
    cases want<;>injection h with h<;>subst h<;>cases b<;>rfl
   ·rename_i g' b hb
    have:=hy _ (hx d _ _ hm hb rfl)
    rw[this]
    cases want<;>injection h with h<;>subst h<;>cases g'<;>cases b<;>rfl
   ·cases h
theorem CY{ops:Array Oper}{o:Oper}{t:Nat}(h:.tmp t∈o.op.operands):t∈o.looksAt ops:=
 List.mem_append_left _ (List.mem_filterMap.2 ⟨.tmp t,by simpa using h,rfl⟩)
theorem FP{o:Oper}{d:Nat}{y:IV}{a:Act}{w:World}{K:Act->World->Prop}{Q:Exit->Act->World->Prop}(hr:Rel cx T B R M V a w)(hd:o.dst=some d)(hn:d<cx.n)(h:LStep P cx B R o T y)
  (hK:∀ a' w',Rel cx ((d,y)::T) B R M V a' w'->K a' w'):o.wp P a w K Q:=by
 have h1:=h M V w a hr.heap fun t z _ hz=>hr.tmp t z hz
 unfold Oper.wp
 generalize(execOp a.eval o).run P w=r at *
 cases r with
 | halt x w'=>exact h1.elim
 | ok n w'=>
  cases n<;>simp only[Upon]at h1<;>simp only[Oper.upon,hd]
  case value u=>exact hK _ _ (hr.put h1.1 hn h1.2)
  case skip=>exact hK _ _ (hr.put h1.1 hn h1.2)
  case enter f args=>
   obtain⟨rfl,h1⟩:=h1
   exact h1.mono fun e w'' ⟨v,he,h2,h3⟩=>by subst he;exact hK _ _ (hr.put h2 hn h3)
theorem DM{ops:Array Oper}{Q:Exit->Act->World->Prop}{o:Oper}{l:List Oper}{d:Nat}{y:IV}(hg:o.guard=none)(hd:o.dst=some d)(hn:Nat.blt d cx.n=true)(h:LStep P cx B R o T y)(hE:E cx ((d,y)::T) B R (wpList P ops Q l)):
  E cx T B R (wpList P ops Q (o::l)):=fun M V a w hr=>by
 refine wpList_plain hg fun K hK=>?_
 exact FP hr hd (BF hn) h fun a' w' hr'=>hK _ _ (hE M V a' w' hr')
theorem JA{ops:Array Oper}{Q:Exit->Act->World->Prop}{o:Oper}{l:List Oper}{d:Nat}{y:IV}{g:Bool}(hg:gk ops T o=some g)(hd:o.dst=some d)(hn:Nat.blt d cx.n=true)(h:g=true->LStep P cx B R o T y)(hE:E cx ((d,.opt g y)::T) B R (wpList P ops Q l)):
  E cx T B R (wpList P ops Q (o::l)):=fun M V a w hr=>by
 have hw:=DN hg fun t z v _ hz hv=>C4 hv (hr.tmp t z hz)
 refine wpList_step fun K hK=>?_
 rw[hw]
 cases g with
 | false=>
  rw[if_neg (by simp)]
  refine hK _ _ (hE M V _ w ?_)
  rw[hd]
  exact hr.put (Below.refl _ _) (BF hn) ⟨fun h=>(by cases h),fun _=>rfl⟩
 | true=>
  rw[if_pos rfl]
  have h2:LStep P cx B R o T (.opt true y):=fun M V w a hh ht=>by
   have h1:=h rfl M V w a hh ht
   revert h1
   generalize(execOp a.eval o).run P w=r
   intro h1
   cases r with
   | halt x w'=>exact h1
   | ok n w'=>
    cases n<;>simp only[Upon]at h1 ⊢
    case value u=>exact⟨h1.1,fun _=>h1.2,fun h=>(by cases h)⟩
    case skip=>exact⟨h1.1,fun _=>h1.2,fun h=>(by cases h)⟩
    case enter f args=>exact⟨h1.1,h1.2.mono fun e w'' ⟨v,he,h3,h4⟩=>⟨v,he,h3,fun _=>h4,fun h=>(by cases h)⟩⟩
  exact FP hr hd (BF hn) h2 fun a' w' hr'=>hK _ _ (hE M V a' w' hr')
theorem NO{ops:Array Oper}{Q:Exit->Act->World->Prop}{l rest:List Oper}{ys:List IV}(hW:Walk P cx B R ops l T ys T')(h:E cx T' B R (wpList P ops Q rest)):E cx T B R (wpList P ops Q (l++rest)):=by
 induction hW with
 | nil=>exact h
 | op hg hd hn hs _ ih=>exact DM hg hd hn hs (ih h)
 | gd g hg hd hn hs _ ih=>exact JA hg hd hn hs (ih h)
def BE(cx:Cx)(B:BL)(R:RL)(M:Nat->Nat)(V:Nat->Value)(y:IV):Kind:=
 match y.whole with
 | some v=>Kind.is v
 | none=>⟨none,fun v w=>∃ w1,HR cx B R M V w1/\Below w1.heap.size w1 w/\VR w1 (Dc cx B R M V w1) M V y v⟩
def Gt(cx:Cx)(B:BL)(R:RL)(M:Nat->Nat)(V:Nat->Value)(C:World->Prop)(T:TL)(G:List BD)(a:Act):Prop:=
 ∀ t x,lk t T=some x->(∀ w,C w->VR w (Dc cx B R M V w) M V x (a.tmps.getD t undef))\/(x.whole=none /\ ∃ F,(some t,F)∈G /\ ∀ w,F w->VR w (Dc cx B R M V w) M V x (a.tmps.getD t undef))
abbrev Rb(w w':World):Prop:=Below w.heap.size w w'
theorem Gt.put{C:World->Prop}{G:List BD}{a:Act}(h:Gt cx B R M V C T G a){d:Nat}(hd:d<a.tmps.size){y:IV}{v:Value}(hok:(BE cx B R M V y).ok v):Gt cx B R M V C ((d,y)::T) ((some d,(BE cx B R M V y).pred v)::G) (a.put (some d) v):=fun t x hx=>by
 rw[DJ a d t v hd]
 rcases A9 hx with⟨rfl,rfl⟩ | ⟨hne,hx⟩
 ·rw[if_pos rfl]
  unfold BE at hok ⊢
  cases hw:x.whole with
  | some u=>
   rw[hw]at hok
   have:v=u:=Kind.ok_is.1 hok
   subst this
   exact .inl fun w _=>F5 hw
  | none=>exact .inr ⟨rfl,_,List.mem_cons_self,fun w ⟨w1,h1,h2,h3⟩=>h3.stay (h1.keeps h2) fun g hg=>hg.mono h2.size⟩
 ·rw[if_neg hne]
  rcases h t x hx with h | ⟨h1,F,h2,h3⟩
  ·exact .inl h
  ·exact .inr ⟨h1,F,List.mem_cons_of_mem _ h2,h3⟩
theorem EV{C:World->Prop}{ops:Array Oper}{o:Oper}{y:IV}{G:List BD}{a:Act}(hC:∀ w,C w->HR cx B R M V w)(hG:Gt cx B R M V C T G a)(h:LStep P cx B R o T y){w:World}(hc:C w)(hS:Seen ops o G w):
  BN P Rb o a (BE cx B R M V y) w:=by
 have h1:=h M V w a (hC w hc) fun t z hm hz=>by
  rcases hG t z hz with h | ⟨_,F,h2,h3⟩
  ·exact h w hc
  ·exact h3 w (hS _ h2 t rfl (CY hm))
 have key:∀ {v:Value} {w':World},HR cx B R M V w'->VR w' (Dc cx B R M V w') M V y v->(BE cx B R M V y).ok v/\(BE cx B R M V y).pred v w':=fun{v w'} hh hv=>by
  unfold BE
  cases hw:y.whole with
  | some u=>exact⟨Kind.ok_is.2 (C4 hw hv),trivial⟩
  | none=>exact⟨fun c h=>(by cases h),w',hh,Below.refl _ _,hv⟩
 unfold BN
 generalize(execOp a.eval o).run P w=r at *
 cases r with
 | halt x w'=>exact h1.elim
 | ok n w'=>
  cases n<;>simp only[Upon]at h1<;>simp only[CJ]
  case value u=>exact⟨h1.1,key ((hC w hc).step h1.1) h1.2⟩
  case skip=>exact⟨h1.1,key ((hC w hc).step h1.1) h1.2⟩
  case enter f args=>
   obtain⟨rfl,h1⟩:=h1
   exact h1.mono fun e w'' ⟨v,he,h2,h3⟩=>⟨v,he,h2,key ((hC _ hc).step h2) h3⟩
theorem Walk.wpT{C:World->Prop}{ops:Array Oper}{Q:List BD->Act->Prop}(hC:∀ w,C w->HR cx B R M V w)(hc:∃ w,C w){l:List Oper}{ys:List IV}(hW:Walk P cx B R ops l T ys T'):
  ∀ {G:List BD} {a:Act},a.tmps.size=cx.n->a.defers=[]->Gt cx B R M V C T G a->(∀ G' a',a'.tmps.size=cx.n->a'.defers=[]->Gt cx B R M V C T' G' a'->Q G' a')->wpT P ops Rb C Q l (ys.map (BE cx B R M V)) G a:=by
 induction hW with
 | nil=>exact fun hn hd hG hQ=>hQ _ _ hn hd hG
 | op hg hd hn hs _ ih=>
  intro G a hsz hdf hG hQ
  refine⟨?_,fun v hv=>?_⟩
  ·unfold AskT
   rw[if_pos (by simp[Region.wanted,hg])]
   exact fun w hc hS=>EV hC hG hs hc hS
  ·rw[hd]
   exact ih (by simpa[Act.put]using hsz) hdf (hG.put (by rw[hsz];exact BF hn) hv) hQ
 | gd g hg hd hn hs _ ih=>
  intro G a hsz hdf hG hQ
  obtain⟨w0,hw0⟩:=hc
  have hw:=DN hg fun t z v _ hz hv=>by
   rcases hG t z hz with h | ⟨h1,_⟩
   ·exact C4 hv (h w0 hw0)
   ·rw[h1]at hv;cases hv
  refine⟨?_,fun v hv=>?_⟩
  ·unfold AskT
   rw[hw]
   cases g with
   | true=>
    rw[if_pos rfl]
    refine fun w hc hS=>EV hC hG (fun M V w a hh ht=>?_) hc hS
    have h1:=hs rfl M V w a hh ht
    revert h1
    generalize(execOp a.eval _).run P w=r
    intro h1
    cases r with
    | halt x w'=>exact h1
    | ok n w'=>
     cases n<;>simp only[Upon]at h1 ⊢
     case value u=>exact⟨h1.1,fun _=>h1.2,fun h=>(by cases h)⟩
     case skip=>exact⟨h1.1,fun _=>h1.2,fun h=>(by cases h)⟩
     case enter f args=>exact⟨h1.1,h1.2.mono fun e w'' ⟨v,he,h3,h4⟩=>⟨v,he,h3,fun _=>h4,fun h=>(by cases h)⟩⟩
   | false=>
    rw[if_neg (by simp)]
    unfold BE
    rw[EM]
    exact⟨Kind.ok_is.2 rfl,fun _=>trivial⟩
  ·rw[hd]
   exact ih (by simpa[Act.put]using hsz) hdf (hG.put (by rw[hsz];exact BF hn) hv) hQ
theorem FD:∀ ys:List IV,AllStay Rb (ys.map (BE cx B R M V))
 | []=>trivial
 | y::ys=>⟨fun v=>by
   unfold BE
   cases y.whole with
   | some u=>exact fun _ _ _ _=>trivial
   | none=>exact fun w w' hb ⟨w1,h1,h2,h3⟩=>⟨w1,h1,h2.trans (hb.mono h2.size),h3⟩,FD ys⟩
def Ct(cx:Cx)(T:TL)(B:BL)(R:RL)(M:Nat->Nat)(V:Nat->Value)(a:Act)(w:World):Prop:=HR cx B R M V w/\TR cx T B R M V a w
theorem Ct.stay{a:Act}:DO Rb (Ct cx T B R M V a):=fun _ _ hb h=>⟨h.1.step hb,fun t x hx=>(h.2 t x hx).stay (h.1.keeps hb) fun _ hg=>hg.mono hb.size⟩
theorem Gt.rel{C:World->Prop}{G:List BD}{a:Act}(hC:∀ w,C w->HR cx B R M V w)(hn:a.tmps.size=cx.n)(hd:a.defers=[])(hG:Gt cx B R M V C T G a){w:World}(hc:C w)(hF:∀ f∈G,f.2 w):Rel cx T B R M V a w:=
 ⟨hn,hd,hC w hc,fun t x hx=>by
  rcases hG t x hx with h | ⟨_,F,h1,h2⟩
  ·exact h w hc
  ·exact h2 w (hF _ h1)⟩
theorem CA{id:Nat}{l:List Oper}{Q:Exit->Act->World->Prop}{ys:List IV}(hm:P.follows .mixedOrders=true)(hB:Region.lexB .any l.toArray=true)(hW:Walk P cx B R l.toArray l T ys T')(h:E cx T' B R (Q .normal)):
  E cx T B R ((Code.region id l.toArray true).wp P Q):=fun M V a w hr=>by
 have h0:Ct cx T B R M V a w.drew:=Ct.stay w _ (Below.refl _ _).drew ⟨hr.heap,hr.tmp⟩
 refine FU (Ct cx T B R M V a) Rb (ys.map (BE cx B R M V)) hm hB Ct.stay (FD ys) h0 ?_
 refine hW.wpT (fun w h=>h.1) ⟨_,h0⟩ hr.size hr.defers (fun t x hx=>.inl fun w h=>h.2 t x hx) fun G' a' hn hd hG w' hc hF=>?_
 exact h M V a' w' (hG.rel (fun w h=>h.1) hn hd hc hF)
theorem AF{id:Nat}{l:List Oper}{Q:Exit->Act->World->Prop}(h:E cx T B R (wpList P l.toArray Q l)):E cx T B R ((Code.region id l.toArray false).wp P Q):=fun M V a w hr=>wp_region_lit (h M V a w hr)
theorem AD{ops:Array Oper}{Q:Exit->Act->World->Prop}(h:E cx T B R (Q .normal)):E cx T B R (wpList P ops Q []):=h
theorem A0{id:Nat}{l:List Oper}{Q:Exit->Act->World->Prop}{ys:List IV}(hW:Walk P cx B R l.toArray l T ys T')(h:E cx T' B R (Q .normal)):E cx T B R ((Code.region id l.toArray false).wp P Q):=
 AF (by have:=NO (rest:=[]) (Q:=Q) hW (AD h);rwa [List.append_nil]at this)
section
variable{Q:Exit->Act->World->Prop}{x y:Code}
theorem AC{c:Operand}{t:Bool}(hc:ev T c=some (.is (.bool t)))(h1:t=true->E cx T B R (x.wp P Q))(h2:t=false->E cx T B R (y.wp P Q)):E cx T B R ((Code.cond c x y).wp P Q):=fun M V a w hr=>by
 have he:a.eval c=.bool t:=VR.is_eq (KZ hc fun t z _ hz=>hr.tmp t z hz)
 exact wp_cond_split he (fun h=>h1 h M V a w hr) fun h=>h2 h M V a w hr
def MU{ι:Type}(cx:Cx)(T:ι->TL)(B:ι->BL)(R:ι->RL)(μ:ι->Nat)(n:Nat)(a:Act)(w:World):Prop:=∃ i M V,μ i<n/\Rel cx (T i) (B i) (R i) M V a w
theorem G0{c:Code}{ι:Type}(I:ι->Act->World->Prop)(μ:ι->Nat)(round:∀ i a w,I i a w->c.wp P (Exit.then (fun a' w'=>∃ i',μ i'<μ i/\I i' a' w') Q) a w):∀ (n:Nat) (i:ι) (a:Act) (w:World),μ i=n->I i a w->(Code.loop c).wp P Q a w:=by
 intro _ i a w _ hI b k cs
 have key:∀ n i a w,μ i=n->I i a w ->
   ∃ e a' w',Q e a' w'/\Arrives P (lone (b.at a (.code c::.inLoop c::k)) cs w) b k cs e a' w':=by
  intro n
  induction n using Nat.strongRecOn with
  | _ n ih=>
   intro i a w hn hI
   obtain⟨e,a₁,w₁,hq,harr⟩:=round i a w hI b (.inLoop c::k) cs
   cases e with
   | normal=>
    obtain⟨i₁,hlt,hI₁⟩:=hq
    obtain⟨e₂,a₂,w₂,hq₂,harr₂⟩:=ih (μ i₁) (hn▸hlt) i₁ a₁ w₁ rfl hI₁
    exact⟨e₂,a₂,w₂,hq₂,.of_steps (Steps.trans harr (.one step_inLoop)) harr₂⟩
   | exit id=>exact⟨_,a₁,w₁,hq,.pass (x:=.inLoop c) rfl (fun _ _=>.inl (by simp)) harr⟩
   | goto l=>exact⟨_,a₁,w₁,hq,.pass (x:=.inLoop c) rfl (fun _ _=>.inl (by simp)) harr⟩
   | ret=>exact⟨_,a₁,w₁,hq,.pass (x:=.inLoop c) rfl (fun _ _=>.inl (by simp)) harr⟩
   | panic ch=>exact⟨_,a₁,w₁,hq,.pass (x:=.inLoop c) rfl (fun _ _=>.inl (by simp)) harr⟩
   | outgrown=>exact⟨_,a₁,w₁,hq,.pass (x:=.inLoop c) rfl (fun _ _=>.inl (by simp)) harr⟩
 obtain⟨e,a',w',hq,harr⟩:=key _ i a w rfl hI
 exact⟨e,a',w',hq,.of_steps (.one step_loop) harr⟩
theorem BC{c:Code}{ι:Type}(Ti:ι->TL)(Bi:ι->BL)(Ri:ι->RL)(μ:ι->Nat)(i:ι)(h0:∀ K,E cx (Ti i) (Bi i) (Ri i) K->E cx T B R K)
  (round:∀ i,E cx (Ti i) (Bi i) (Ri i) (c.wp P (Exit.then (MU cx Ti Bi Ri μ (μ i)) Q))):E cx T B R ((Code.loop c).wp P Q):=by
 refine h0 _ fun M V a w hr=>?_
 refine G0 (fun i a w=>∃ M V,Rel cx (Ti i) (Bi i) (Ri i) M V a w) μ (fun i _ _ ⟨M,V,hr⟩=>?_) _ i a w rfl ⟨M,V,hr⟩
 refine wp_mono (round i M V _ _ hr) fun e a' w' hq=>?_
 cases e<;>first | exact hq | (obtain⟨i',M',V',h1,h2⟩:=hq;exact⟨i',h1,M',V',h2⟩)
theorem AO{ι:Type}{Ti:ι->TL}{Bi:ι->BL}{Ri:ι->RL}{μ:ι->Nat}{n:Nat}(i:ι)(hlt:μ i<n)(h0:∀ K,E cx (Ti i) (Bi i) (Ri i) K->E cx T B R K):E cx T B R (MU cx Ti Bi Ri μ n):=
 h0 _ fun M V _ _ hr=>⟨i,M,V,hlt,hr⟩
end
end
end
end Go.Proofs.Ytjpghcmlglhmbaa
