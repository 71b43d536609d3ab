/- Part 3. Conditions: as each theorem says. -/
import Derived.Test.YtojdpgeeajaojaaGreatET02
import Derived.StillTail
set_option maxRecDepth 100000
namespace Go.Proofs.YtojdpgeeajaojaaGreat
open Go.RowKit
section
inductive Part where
 | one (d:Dat)
 | many (ds:List Dat)
inductive Cap where
 | box (b j:Nat)
 | val (v:Value)
def DQ(M:Nat->Nat):Cap->Value
 | .box b j=>.pointer (some ⟨M b,j,none⟩)
 | .val v=>v
inductive IV where
 | junk
 | part (p:Part)
 | tup (ps:List Part)
 | ref (ds:List Dat)
 | box (b j:Nat)
 | own (r:Nat)
 | via (r:Nat) (f:Value->Value->Prop)
 | opt (g:Bool) (x:IV)
 | clo (fn:Fn) (first caps:List Cap)
 | sl (b n c:Nat)
abbrev IV.is(v:Value):IV:=.part (.one (.cell v))
structure Bx where
 ty:TypeId
 cs:List IV
structure Rw where
 ty:TypeId
 k:Nat
 n:Nat
 ds:List Dat
 fz:Bool
abbrev TL:=List (Nat×IV)
abbrev BL:=List (Nat×Bx)
abbrev RL:=List (Nat×Rw)
structure Cx where
 w0:World
 D0:Nat->Prop
 bor:Nat->Prop
 n:Nat
 gl:List (Nat×List Value)
 pn:List Nat
 mb:Nat->Nat
structure Bex (bor:Nat->Prop) (w0 w:World):Prop where
 os:w.os=w0.os
 tape:w.tape=w0.tape
 output:w.output=w0.output
 size:w0.heap.size<=w.heap.size
 block:∀ k,k<w0.heap.size->¬ bor k->w.heap[k]?=w0.heap[k]?
theorem Bex.refl(bor:Nat->Prop)(w:World):Bex bor w w:=⟨rfl,rfl,rfl,Nat.le_refl _,fun _ _ _=>rfl⟩
theorem Bex.step{bor:Nat->Prop}{w0 w w':World}(h:Bex bor w0 w)(hb:Below w.heap.size w w'):Bex bor w0 w':=
 ⟨hb.os.trans h.os,hb.tape.trans h.tape,hb.output.trans h.output,Nat.le_trans h.size hb.size,fun k hk hn=>(hb.block k (Nat.lt_of_lt_of_le hk h.size)).trans (h.block k hk hn)⟩
theorem Bex.turn{bor:Nat->Prop}{w0 w w':World}(h:Bex bor w0 w)(h1:w'.os=w.os)(h2:w'.tape=w.tape)(h3:w'.output=w.output)(h4:w.heap.size<=w'.heap.size)(r:Option Nat)(hr:∀ g,r=some g->w0.heap.size<=g\/bor g)(hk:∀ k,k<w.heap.size->some k≠r->w'.heap[k]?=w.heap[k]?):Bex bor w0 w':=
 ⟨h1.trans h.os,h2.trans h.tape,h3.trans h.output,Nat.le_trans h.size h4,fun k hlt hn=>(hk k (Nat.lt_of_lt_of_le hlt h.size) fun e=>by
  rcases hr k e.symm with h | h
  ·omega
  ·exact hn h).trans (h.block k hlt hn)⟩
theorem Bex.below{w0 w:World}(h:Bex (fun _=>False) w0 w):Below w0.heap.size w0 w:=⟨h.os,h.tape,h.output,h.size,fun k hk=>h.block k hk fun h=>h⟩
def lk{α:Type}(i:Nat):List (Nat×α)->Option α
 | []=>none
 | (j,a)::l=>bif Nat.beq j i then some a else lk i l
theorem BQ{α:Type}(i:Nat)(a:α)(l:List (Nat×α)):lk i ((i,a)::l)=some a:=by simp[lk]
theorem BJ{α:Type}{i j:Nat}(a:α)(l:List (Nat×α))(h:j≠i):lk i ((j,a)::l)=lk i l:=by
 have:Nat.beq j i=false:=by
  cases e:Nat.beq j i
  ·rfl
  ·exact absurd (Nat.eq_of_beq_eq_true e) h
 simp[lk,this]
theorem AU{α:Type}{i j:Nat}{a x:α}{l:List (Nat×α)}(h:lk i ((j,a)::l)=some x):(j=i/\x=a)\/(j≠i/\lk i l=some x):=by
 by_cases e:j=i
 ·subst e
  rw[BQ]at h
  exact .inl ⟨rfl,(Option.some.inj h).symm⟩
 ·rw[BJ _ _ e]at h
  exact .inr ⟨e,h⟩
theorem EL{α:Type}{i:Nat}{x:α}:∀ {l:List (Nat×α)},lk i l=some x->(i,x)∈l
 | [],h=>by cases h
 | (j,a)::l,h=>by
  rcases AU h with⟨rfl,rfl⟩ | ⟨_,h⟩
  ·exact List.mem_cons_self
  ·exact List.mem_cons_of_mem _ (EL h)
def PFit(w:World)(D:Nat->Prop):Part->Value->Prop
 | .one d,v=>Lies w D d v
 | .many ds,v=>∃ xs:List Value,v=.agg xs.toArray/\Fits w D ds xs
def PsFit(w:World)(D:Nat->Prop):List Part->List Value->Prop
 | [],[]=>True
 | p::ps,v::vs=>PFit w D p v/\PsFit w D ps vs
 | _,_=>False
section
variable{w w':World}{D D':Nat->Prop}
theorem PFit.stay(hk:Keeps D w w')(hD:∀ g,D g->D' g):∀ {p:Part} {v:Value},PFit w D p v->PFit w' D' p v
 | .one _,_,h=>Lies.stay h hk hD
 | .many _,_,⟨xs,h1,h2⟩=>⟨xs,h1,h2.stay hk hD⟩
theorem PsFit.stay(hk:Keeps D w w')(hD:∀ g,D g->D' g):∀ {ps:List Part} {vs:List Value},PsFit w D ps vs->PsFit w' D' ps vs
 | [],[],_=>trivial
 | _::_,_::_,h=>⟨h.1.stay hk hD,PsFit.stay hk hD h.2⟩
 | [],_::_,h=>h.elim
 | _::_,[],h=>h.elim
theorem PsFit.length:∀ {ps:List Part} {vs:List Value},PsFit w D ps vs->ps.length=vs.length
 | [],[],_=>rfl
 | _::_,_::_,h=>by simp[PsFit.length h.2]
 | [],_::_,h=>h.elim
 | _::_,[],h=>h.elim
theorem PsFit.get:∀ {ps:List Part} {vs:List Value} (_:PsFit w D ps vs) {i:Nat} {p:Part} (_:ps[i]?=some p),∃ v,vs[i]?=some v/\PFit w D p v
 | p::_,v::_,h,0,q,hp=>⟨v,rfl,by
  obtain rfl:p=q:=by simpa using hp
  exact h.1⟩
 | _::ps,_::vs,h,i+1,q,hp=>by
  obtain⟨u,h1,h2⟩:=PsFit.get h.2 (i:=i) (p:=q) (by simpa using hp)
  exact⟨u,by simpa using h1,h2⟩
 | [],[],_,_,_,hp=>by simp at hp
 | [],_::_,h,_,_,_=>h.elim
 | _::_,[],h,_,_,_=>h.elim
end
def VR(w:World)(D:Nat->Prop)(M:Nat->Nat)(V:Nat->Value):IV->Value->Prop
 | .junk,_=>True
 | .part p,v=>PFit w D p v
 | .tup ps,v=>∃ vs:List Value,v=.tuple vs.toArray/\PsFit w D ps vs
 | .ref ds,v=>∃ b o,v=.pointer (some ⟨b,o,none⟩)/\D b /\ ∃ xs,Fits w D ds xs /\ ∀ (j:Nat) x,xs[j]?=some x->w.cell? ⟨b,o+j,none⟩=some x
 | .box b j,v=>v=.pointer (some ⟨M b,j,none⟩)
 | .own r,v=>v=V r
 | .via r f,v=>f (V r) v
 | .opt g x,v=>(g=true->VR w D M V x v)/\(g=false->v=undef)
 | .clo fn fs cs,v=>v=.func fn (fs.map (DQ M)).toArray (cs.map (DQ M)).toArray
 | .sl b n c,v=>v=.slice (some ⟨M b,0,none⟩) n c
theorem VR.stay{w w':World}{D D':Nat->Prop}{M:Nat->Nat}{V:Nat->Value}(hk:Keeps D w w')(hD:∀ g,D g->D' g):∀ {x:IV} {v:Value},VR w D M V x v->VR w' D' M V x v
 | .junk,_,_=>trivial
 | .part _,_,h=>PFit.stay hk hD h
 | .tup _,_,⟨vs,h1,h2⟩=>⟨vs,h1,h2.stay hk hD⟩
 | .ref _,_,⟨b,o,h1,h2,xs,h3,h4⟩=>⟨b,o,h1,hD _ h2,xs,h3.stay hk hD,fun j x hx=>(World.cell?_of_block (a:=⟨b,o+j,none⟩) (hk b h2)).trans (h4 j x hx)⟩
 | .box _ _,_,h=>h
 | .own _,_,h=>h
 | .via _ _,_,h=>h
 | .opt _ _,_,h=>⟨fun hg=>(h.1 hg).stay hk hD,h.2⟩
 | .clo _ _ _,_,h=>h
 | .sl _ _ _,_,h=>h
def obk:Value->Option Nat
 | .map (some g)=>some g
 | v=>v.ownBlock
def U8(w:World)(base:Nat)(e:TypeId)(v:Value)(n:Nat)(xs:List Value):Prop:=
 (Nat.blt e 1000000=false/\Nat.blt e 2000000=true) /\ ∃ g es clock,v=.map (some g)/\base<=g/\w.heap[g]?=some (.map es clock)/\es.size=n/\kvs es.toList=xs
def T7(w:World)(base:Nat)(e:TypeId)(k:Nat)(v:Value)(n:Nat)(xs:List Value):Prop:=Nat.blt e 2000000=false/\w.ownsRow base (e-2000000) k v n xs
theorem EA{e:TypeId}(h:Nat.blt e 1000000=true):Nat.blt e 2000000=true:=by
 exact Nat.blt_eq.mpr (Nat.lt_of_lt_of_le (Nat.blt_eq.mp h) (by decide))
def Ow(w:World)(base:Nat)(e:TypeId)(k:Nat)(v:Value)(n:Nat)(xs:List Value):Prop:=(Nat.blt e 1000000=true/\w.ownsRow base e k v n xs)\/U8 w base e v n xs\/T7 w base e k v n xs
theorem DU{w:World}{base:Nat}{e:TypeId}{k:Nat}{v:Value}{n:Nat}{xs:List Value}(h:w.ownsRow base e k v n xs):obk v=v.ownBlock:=by
 rcases h.2 with⟨rfl,_⟩ | ⟨g,cap,cur,rfl,_⟩<;>rfl
theorem Ow.row{w:World}{base:Nat}{e:TypeId}{k:Nat}{v:Value}{n:Nat}{xs:List Value}(h:Ow w base e k v n xs)(ht:Nat.blt e 1000000=true):w.ownsRow base e k v n xs:=by
 rcases h with⟨_,h⟩ | ⟨⟨h,_⟩,_⟩ | ⟨h,_⟩
 ·exact h
 ·rw[h]at ht;cases ht
 ·rw[EA ht]at h;cases h
theorem Ow.lt{w:World}{base:Nat}{e:TypeId}{k:Nat}{v:Value}{n:Nat}{xs:List Value}(h:Ow w base e k v n xs)(g:Nat)(hg:obk v=some g):base<=g/\g<w.heap.size:=by
 rcases h with⟨_,h⟩ | ⟨_,g',es,c,rfl,hb,hh,_⟩ | ⟨_,h⟩
 ·exact World.ownsRow.lt h g ((DU h).symm.trans hg)
 ·obtain rfl:g'=g:=Option.some.inj hg
  refine⟨hb,?_⟩
  rcases Nat.lt_or_ge g' w.heap.size with hl | hl
  ·exact hl
  ·rw[Array.getElem?_eq_none hl]at hh;cases hh
 ·exact World.ownsRow.lt h g ((DU h).symm.trans hg)
theorem Ow.stay{w w':World}{base:Nat}{e:TypeId}{k:Nat}{v:Value}{n:Nat}{xs:List Value}(h:Ow w base e k v n xs)(hv:∀ g,obk v=some g->w'.heap[g]?=w.heap[g]?):Ow w' base e k v n xs:=by
 rcases h with⟨h0,h⟩ | ⟨h0,g',es,c,rfl,hb,hh,hr⟩ | ⟨h0,h⟩
 ·exact .inl ⟨h0,ownsRow.stay h fun g hg=>hv g ((DU h).trans hg)⟩
 ·exact .inr (.inl ⟨h0,g',es,c,rfl,hb,(hv g' rfl).trans hh,hr⟩)
 ·exact .inr (.inr ⟨h0,ownsRow.stay h fun g hg=>hv g ((DU h).trans hg)⟩)
def SD:Dat->Dat
 | .orow _ k n _ ds=>.row k n ds
 | .optr t _ ds=>.ptr t ds
 | d=>d
def datOf(x:Rw):Dat:=bif Nat.blt x.ty 1000000 then .row x.k x.n x.ds else bif Nat.blt x.ty 2000000 then .map x.n x.ds else .row x.k x.n (x.ds.map SD)
theorem GJ{x:Rw}(h:Nat.blt x.ty 1000000=true):datOf x=.row x.k x.n x.ds:=by unfold datOf;rw[h];rfl
theorem LX{x:Rw}(h:Nat.blt x.ty 1000000=false)(h2:Nat.blt x.ty 2000000=true):datOf x=.map x.n x.ds:=by unfold datOf;rw[h,h2];rfl
theorem JW{x:Rw}(h2:Nat.blt x.ty 2000000=false):datOf x=.row x.k x.n (x.ds.map SD):=by
 have h:Nat.blt x.ty 1000000=false:=by
  cases h:Nat.blt x.ty 1000000
  ·rfl
  ·rw[EA h]at h2;cases h2
 unfold datOf
 rw[h,h2]
 rfl
def kidBlk:Dat->Option Nat
 | .orow _ _ _ v _=>v.ownBlock
 | .optr _ (.pointer (some ⟨g,0,none⟩)) _=>some g
 | _=>none
def Kid(ds:List Dat)(g:Nat):Prop:=∃ (j:Nat) (d:Dat),ds[j]?=some d/\kidBlk d=some g
def obs(e:TypeId)(ds:List Dat)(v:Value)(g:Nat):Prop:=obk v=some g\/(Nat.blt e 2000000=false/\Kid ds g)
theorem PL{e:TypeId}{ds:List Dat}{v:Value}{g:Nat}(h:obs e ds v g)(ht:Nat.blt e 2000000=true):obk v=some g:=by
 rcases h with h | ⟨h,_⟩
 ·exact h
 ·rw[ht]at h;cases h
def KidFit(w:World)(D:Nat->Prop):Dat->Value->Prop
 | .orow ty k n v es,x=>x=v/\Nat.blt ty 1000000=true /\ ∃ ys,w.ownsRow 0 ty k v n ys/\Fits w D es ys
 | .optr ty v es,x=>x=v /\ ∃ g ys,v=.pointer (some ⟨g,0,none⟩)/\Blk w g ty ys/\Fits w D es ys
 | d,x=>Lies w D d x
theorem KidFit.lt{w:World}{D:Nat->Prop}{d:Dat}{x:Value}{g:Nat}(h:KidFit w D d x)(hg:kidBlk d=some g):g<w.heap.size:=by
 cases d with
 | orow ty k n v es=>
  obtain⟨_,_,ys,h1,_⟩:=h
  exact(World.ownsRow.lt h1 g hg).2
 | optr ty v es=>
  obtain⟨_,g',ys,rfl,h1,_⟩:=h
  obtain rfl:g'=g:=Option.some.inj hg
  exact h1.lt
 | _=>cases hg
theorem KidFit.stay{w w':World}{D D':Nat->Prop}{d:Dat}{x:Value}(h:KidFit w D d x)(hv:∀ g,kidBlk d=some g->w'.heap[g]?=w.heap[g]?)(hk:Keeps D w w')(hD:∀ g,D g->D' g):KidFit w' D' d x:=by
 cases d with
 | orow ty k n v es=>
  obtain⟨h0,ht,ys,h1,h2⟩:=h
  exact⟨h0,ht,ys,ownsRow.stay h1 hv,h2.stay hk hD⟩
 | optr ty v es=>
  obtain⟨h0,g',ys,rfl,h1,h2⟩:=h
  exact⟨h0,g',ys,rfl,(hv g' rfl).trans h1,h2.stay hk hD⟩
 | cell v=>exact Lies.stay h hk hD
 | row k n ds=>exact Lies.stay h hk hD
 | ptr t ds=>exact Lies.stay h hk hD
 | ifc t d=>exact Lies.stay h hk hD
 | map n ds=>exact Lies.stay h hk hD
 | fn f ds=>exact Lies.stay h hk hD
 | pref ds=>exact Lies.stay h hk hD
structure KApart (v:Value) (ds:List Dat):Prop where
 own:∀ (j:Nat) d g,ds[j]?=some d->kidBlk d=some g->obk v≠some g
 two:∀ (i j:Nat) d e g,ds[i]?=some d->ds[j]?=some e->kidBlk d=some g->kidBlk e=some g->i=j
def Fx(w:World)(D:Nat->Prop)(e:TypeId)(v:Value)(ds:List Dat)(xs:List Value):Prop:=
 (Nat.blt e 2000000=true/\Fits w D ds xs)\/(Nat.blt e 2000000=false/\(ds.length=xs.length /\ ∀ (j:Nat) d x,ds[j]?=some d->xs[j]?=some x->KidFit w D d x)/\KApart v ds)
theorem Fx.row{w:World}{D:Nat->Prop}{e:TypeId}{v:Value}{ds:List Dat}{xs:List Value}(h:Fx w D e v ds xs)(ht:Nat.blt e 2000000=true):Fits w D ds xs:=by
 rcases h with⟨_,h⟩ | ⟨h,_⟩
 ·exact h
 ·rw[ht]at h;cases h
theorem Fx.stay{w w':World}{D D':Nat->Prop}{e:TypeId}{v:Value}{ds:List Dat}{xs:List Value}(h:Fx w D e v ds xs)(hv:∀ g,obs e ds v g->w'.heap[g]?=w.heap[g]?)(hk:Keeps D w w')(hD:∀ g,D g->D' g):Fx w' D' e v ds xs:=by
 rcases h with⟨h0,h⟩ | ⟨h0,h1,h2⟩
 ·exact .inl ⟨h0,h.stay hk hD⟩
 ·exact .inr ⟨h0,⟨h1.1,fun j d x hd hx=>(h1.2 j d x hd hx).stay (fun g hg=>hv g (.inr ⟨h0,j,d,hd,hg⟩)) hk hD⟩,h2⟩
def Gx(w:World)(D:Nat->Prop)(base:Nat)(e:TypeId)(k:Nat)(v:Value)(n:Nat)(ds:List Dat):Prop:=∃ xs,Ow w base e k v n xs/\Fx w D e v ds xs
theorem Gx.of{w:World}{D:Nat->Prop}{base:Nat}{e:TypeId}{k:Nat}{v:Value}{n:Nat}{ds:List Dat}(h:Gr w D base e k v n ds)(ht:Nat.blt e 1000000=true):Gx w D base e k v n ds:=by
 obtain⟨xs,h1,h2⟩:=h
 exact⟨xs,.inl ⟨ht,h1⟩,.inl ⟨EA ht,h2⟩⟩
theorem Gx.row{w:World}{D:Nat->Prop}{base:Nat}{e:TypeId}{k:Nat}{v:Value}{n:Nat}{ds:List Dat}(h:Gx w D base e k v n ds)(ht:Nat.blt e 1000000=true):Gr w D base e k v n ds:=by
 obtain⟨xs,h1,h2⟩:=h
 exact⟨xs,h1.row ht,h2.row (EA ht)⟩
theorem Gx.lt{w:World}{D:Nat->Prop}{base:Nat}{e:TypeId}{k:Nat}{v:Value}{n:Nat}{ds:List Dat}(h:Gx w D base e k v n ds)(g:Nat)(hg:obs e ds v g):g<w.heap.size:=by
 obtain⟨xs,h1,h2⟩:=h
 rcases hg with hg | ⟨ht,j,d,hd,hg⟩
 ·exact(h1.lt g hg).2
 ·rcases h2 with⟨h2,_⟩ | ⟨_,h2,_⟩
  ·rw[ht]at h2;cases h2
  ·have hlt:j<xs.length:=by
    rw[<- h2.1]
    rcases Nat.lt_or_ge j ds.length with h | h
    ·exact h
    ·rw[List.getElem?_eq_none h]at hd;cases hd
   exact(h2.2 j d _ hd (List.getElem?_eq_getElem hlt)).lt hg
theorem Gx.stay{w w':World}{D D':Nat->Prop}{base:Nat}{e:TypeId}{k:Nat}{v:Value}{n:Nat}{ds:List Dat}(h:Gx w D base e k v n ds)(hv:∀ g,obs e ds v g->w'.heap[g]?=w.heap[g]?)(hk:Keeps D w w')(hD:∀ g,D g->D' g):Gx w' D' base e k v n ds:=by
 obtain⟨xs,h1,h2⟩:=h
 exact⟨xs,h1.stay fun g hg=>hv g (.inl hg),h2.stay hv hk hD⟩
theorem HX{e:TypeId}{g:Nat}:¬ obs e [] (.slice none 0 0) g:=fun h=>by
 rcases h with h | ⟨_,j,d,h,_⟩
 ·cases h
 ·simp at h
theorem Gx.nil_{w:World}{D:Nat->Prop}{base:Nat}{e:TypeId}{k:Nat}(h:Nat.blt e 1000000=true\/Nat.blt e 2000000=false):Gx w D base e k (.slice none 0 0) 0 []:=by
 rcases h with h | h
 ·exact Gx.of (Gr.nil _ _ _ _ _) h
 ·obtain⟨xs,h1,h2⟩:=Gr.nil w D base (e-2000000) k
  exact⟨xs,.inr (.inr ⟨h,h1⟩),.inr ⟨h,⟨h2.1,fun j d x hd=>by simp at hd⟩,⟨fun j d g hd=>by simp at hd,fun i j d x g hd=>by simp at hd⟩⟩⟩
theorem KidFit.lies{w:World}{D D':Nat->Prop}{d:Dat}{x:Value}(h:KidFit w D d x)(hD:∀ g,D g->D' g)(hv:∀ g,kidBlk d=some g->D' g):Lies w D' (SD d) x:=by
 have hk:=Keeps.refl D w
 cases d with
 | orow ty k n v es=>
  obtain⟨rfl,_,ys,h1,h2⟩:=h
  exact Gr.lies ⟨ys,h1,h2⟩ hD hv
 | optr ty v es=>
  obtain⟨rfl,g',ys,rfl,h1,h2⟩:=h
  exact .ptr g' ty es ys (hv g' rfl) h1 h2.1 fun j d x a b=>(h2.2 j d x a b).stay hk hD
 | cell v=>exact Lies.stay h hk hD
 | row k n ds=>exact Lies.stay h hk hD
 | ptr t ds=>exact Lies.stay h hk hD
 | ifc t d=>exact Lies.stay h hk hD
 | map n ds=>exact Lies.stay h hk hD
 | fn f ds=>exact Lies.stay h hk hD
 | pref ds=>exact Lies.stay h hk hD
theorem Gx.frozen{w:World}{D D':Nat->Prop}{base:Nat}{x:Rw}{v:Value}(h:Gx w D base x.ty x.k v x.n x.ds)(hD:∀ g,D g->D' g)(hv:∀ g,obs x.ty x.ds v g->D' g):Lies w D' (datOf x) v:=by
 obtain⟨xs,h1,h2⟩:=h
 rcases h1 with⟨hty,h1⟩ | ⟨⟨hty,hty2⟩,g,es,c,e1,_,e2,e3,e4⟩ | ⟨hty,h1⟩
 ·rw[GJ hty]
  exact Gr.lies ⟨xs,h1,h2.row (EA hty)⟩ hD fun g hg=>hv g (.inl ((DU h1).trans hg))
 ·rw[LX hty hty2]
  have h5:=h2.row hty2
  subst e1
  exact .map g x.n es c x.ds xs (hv g (.inl rfl)) e2 e3 e4 h5.1 fun j d y a b=>(h5.2 j d y a b).stay (Keeps.refl D w) hD
 ·rw[JW hty]
  rcases h2 with⟨h2,_⟩ | ⟨_,⟨h3,h4⟩,_⟩
  ·rw[hty]at h2;cases h2
  ·refine Gr.lies (D:=D') ⟨xs,h1,by simpa using h3,fun j d y hd hy=>?_⟩ (fun _ h=>h) fun g hg=>hv g (.inl ((DU h1).trans hg))
   rw[List.getElem?_map,Option.map_eq_some_iff]at hd
   obtain⟨d0,hd0,rfl⟩:=hd
   exact(h4 j d0 y hd0 hy).lies hD fun g hg=>hv g (.inr ⟨hty,j,d0,hd0,hg⟩)
def Dc(cx:Cx)(B:BL)(R:RL)(M:Nat->Nat)(V:Nat->Value)(w:World)(g:Nat):Prop:=
 cx.D0 g\/((cx.w0.heap.size<=g\/cx.bor g)/\g<w.heap.size/\(∀ b x,lk b B=some x->M b≠g)/\(∀ r x,lk r R=some x->x.fz=false->¬ obs x.ty x.ds (V r) g))
def CFit(w:World)(D:Nat->Prop)(M:Nat->Nat)(V:Nat->Value)(is:List IV)(cs:List Value):Prop:=
 is.length=cs.length /\ ∀ (j:Nat) x v,is[j]?=some x->cs[j]?=some v->VR w D M V x v/\v.oneCell'=true
theorem CFit.stay{w w':World}{D D':Nat->Prop}{M:Nat->Nat}{V:Nat->Value}{is:List IV}{cs:List Value}(hk:Keeps D w w')(hD:∀ g,D g->D' g)(h:CFit w D M V is cs):CFit w' D' M V is cs:=
 ⟨h.1,fun j x v h1 h2=>⟨(h.2 j x v h1 h2).1.stay hk hD,(h.2 j x v h1 h2).2⟩⟩
structure HR (cx:Cx) (B:BL) (R:RL) (M:Nat->Nat) (V:Nat->Value) (w:World):Prop where
 below:Bex cx.bor cx.w0 w
 d0:∀ g,cx.D0 g->g<cx.w0.heap.size/\¬ cx.bor g
 bl:∀ g,cx.bor g->g<cx.w0.heap.size
 gl:∀ g cs,(g,cs)∈cx.gl->(g<cx.w0.heap.size/\¬ cx.bor g) /\ ∀ (j:Nat) v,cs[j]?=some v->cx.w0.cell? ⟨g,j,none⟩=some v
 box:∀ b x,lk b B=some x->(cx.w0.heap.size<=M b\/cx.bor (M b)) /\ ∃ cs,Blk w (M b) x.ty cs/\CFit w (Dc cx B R M V w) M V x.cs cs
 row:∀ r x,lk r R=some x->if x.fz then Lies w (Dc cx B R M V w) (datOf x) (V r)else Gx w (Dc cx B R M V w) 0 x.ty x.k (V r) x.n x.ds
 ro:∀ r x g,lk r R=some x->x.fz=false->obs x.ty x.ds (V r) g->cx.w0.heap.size<=g\/cx.bor g
 pin:∀ b,b∈cx.pn->M b=cx.mb b
 bb:∀ b c x y,lk b B=some x->lk c B=some y->M b=M c->b=c
 br:∀ b r x y g,lk b B=some x->lk r R=some y->y.fz=false->obs y.ty y.ds (V r) g->M b≠g
 rr:∀ r q x y g,lk r R=some x->lk q R=some y->x.fz=false->y.fz=false->obs x.ty x.ds (V r) g->obs y.ty y.ds (V q) g->r=q
section
variable{cx:Cx}{B:BL}{R:RL}{M:Nat->Nat}{V:Nat->Value}{w w':World}
theorem Dc.mono(hs:w.heap.size<=w'.heap.size){g:Nat}(h:Dc cx B R M V w g):Dc cx B R M V w' g:=by
 rcases h with h | ⟨h1,h2,h3⟩
 ·exact .inl h
 ·exact .inr ⟨h1,by omega,h3⟩
theorem HR.dlt(h:HR cx B R M V w){g:Nat}(hg:Dc cx B R M V w g):g<w.heap.size:=by
 rcases hg with hg | hg
 ·have:=(h.d0 g hg).1
  have:=h.below.size
  omega
 ·exact hg.2.1
theorem HR.keeps(h:HR cx B R M V w)(hb:Below w.heap.size w w'):Keeps (Dc cx B R M V w) w w':=.of_below hb fun _ hg=>h.dlt hg
theorem HR.step(h:HR cx B R M V w)(hb:Below w.heap.size w w'):HR cx B R M V w':=by
 have hk:=h.keeps hb
 have hD:∀ g,Dc cx B R M V w g->Dc cx B R M V w' g:=fun g hg=>hg.mono hb.size
 refine⟨h.below.step hb,h.d0,h.bl,h.gl,fun b x hx=>?_,fun r x hx=>?_,h.ro,h.pin,h.bb,h.br,h.rr⟩
 ·obtain⟨h1,cs,h2,h3⟩:=h.box b x hx
  exact⟨h1,cs,h2.kept hb,h3.stay hk hD⟩
 ·have h1:=h.row r x hx
  split
  ·rename_i hf
   rw[if_pos hf]at h1
   exact h1.stay hk hD
  ·rename_i hf
   rw[if_neg hf]at h1
   exact Gx.stay h1 (fun g hg=>hb.block g (Gx.lt h1 g hg)) hk hD
theorem HR.cell(h:HR cx B R M V w){g j:Nat}{cs:List Value}(hg:(g,cs)∈cx.gl){v:Value}(hv:cs[j]?=some v):w.cell? ⟨g,j,none⟩=some v:=
 (World.cell?_of_block (a:=⟨g,j,none⟩) (h.below.block g (h.gl g cs hg).1.1 (h.gl g cs hg).1.2)).trans ((h.gl g cs hg).2 j v hv)
end
def TR(cx:Cx)(T:TL)(B:BL)(R:RL)(M:Nat->Nat)(V:Nat->Value)(a:Act)(w:World):Prop:=∀ t x,lk t T=some x->VR w (Dc cx B R M V w) M V x (a.tmps.getD t undef)
structure Rel (cx:Cx) (T:TL) (B:BL) (R:RL) (M:Nat->Nat) (V:Nat->Value) (a:Act) (w:World):Prop where
 size:a.tmps.size=cx.n
 defers:a.defers=[]
 heap:HR cx B R M V w
 tmp:TR cx T B R M V a w
def E(cx:Cx)(T:TL)(B:BL)(R:RL)(K:Act->World->Prop):Prop:=∀ M V a w,Rel cx T B R M V a w->K a w
theorem E.mono{cx:Cx}{T:TL}{B:BL}{R:RL}{K K':Act->World->Prop}(h:E cx T B R K)(hk:∀ a w,K a w->K' a w):E cx T B R K':=fun M V a w hr=>hk a w (h M V a w hr)
theorem G4(a:Act)(d t:Nat)(v:Value)(hd:d<a.tmps.size):(a.put (some d) v).tmps.getD t undef=if d=t then v else a.tmps.getD t undef:=by
 simp only[Act.put,Array.getD_eq_getD_getElem?,Array.getElem?_setIfInBounds]
 split
 ·simp
 ·rfl
theorem TR.put{cx:Cx}{T:TL}{B:BL}{R:RL}{M:Nat->Nat}{V:Nat->Value}{a:Act}{w w':World}(h:TR cx T B R M V a w)(hk:Keeps (Dc cx B R M V w) w w')(hs:w.heap.size<=w'.heap.size){d:Nat}(hd:d<a.tmps.size){x:IV}{v:Value}(hv:VR w' (Dc cx B R M V w') M V x v):
  TR cx ((d,x)::T) B R M V (a.put (some d) v) w':=fun t y hy=>by
 rw[G4 a d t v hd]
 rcases AU hy with⟨rfl,rfl⟩ | ⟨hne,hy⟩
 ·rw[if_pos rfl]
  exact hv
 ·rw[if_neg hne]
  exact(h t y hy).stay hk fun g hg=>hg.mono hs
theorem Rel.put{cx:Cx}{T:TL}{B:BL}{R:RL}{M:Nat->Nat}{V:Nat->Value}{a:Act}{w w':World}(h:Rel cx T B R M V a w)(hb:Below w.heap.size w w'){d:Nat}(hd:d<cx.n){x:IV}{v:Value}(hv:VR w' (Dc cx B R M V w') M V x v):
  Rel cx ((d,x)::T) B R M V (a.put (some d) v) w':=
 ⟨by simpa[Act.put]using h.size,h.defers,h.heap.step hb,h.tmp.put (h.heap.keeps hb) hb.size (by rw[h.size];exact hd) hv⟩
end
section
section
variable{P:Program}{ops:Array Oper}{md:Region.Mode}{C:World->Prop}{R:World->World->Prop}
def F8(P:Program)(md:Region.Mode)(ops:Array Oper)(R:World->World->Prop)(C:World->Prop)(ks:Nat->Kind)(n:Nat)(L:Array Bool->List C8->Act->Prop):Nat->Array Bool->List C8->Act->Prop
 | 0,listed,G,a=>L listed G a
 | fuel+1,listed,G,a=>
  Region.ready md ops listed≠[] /\
  ∀ i∈Region.ready md ops listed,i<n /\ ∀ o,ops[i]?=some o->AskT P ops R C o (ks i) G a /\
   ∀ v,(ks i).ok v->F8 P md ops R C ks n L fuel (listed.setIfInBounds i true) ((o.dst,(ks i).pred v)::G) (a.put o.dst v)
theorem HM{ks:Nat->Kind}{n:Nat}{L:Array Bool->List C8->Act->Prop}(hL:∀ listed G G' a,(∀ f∈G,f∈G')->L listed G a->L listed G' a):
  ∀ (fuel:Nat) (listed:Array Bool) (G G':List C8) (a:Act),(∀ f∈G,f∈G')->F8 P md ops R C ks n L fuel listed G a->F8 P md ops R C ks n L fuel listed G' a
 | 0,_,_,_,_,hG,h=>hL _ _ _ _ hG h
 | fuel+1,_,G,G',_,hG,h=>⟨h.1,fun i hi=>⟨(h.2 i hi).1,fun o ho=>by
   obtain⟨h1,h2⟩:=(h.2 i hi).2 o ho
   refine⟨h1.more hG,fun v hv=>HM hL fuel _ _ _ _ (fun f hf=>?_) (h2 v hv)⟩
   rcases List.mem_cons.1 hf with rfl | hf
   ·exact List.mem_cons_self
   ·exact List.mem_cons_of_mem _ (hG f hf)⟩⟩
theorem FT{ks:Nat->Kind}{n g:Nat}{L:Array Bool->List C8->Act->Prop}{Q':Exit->Act->World->Prop}(hC:E7 R C)(hks:∀ i v,E7 R ((ks i).pred v))
  (hL:∀ listed G a w,C w->(∀ f∈G,f.2 w)->L listed G a->wpAny P md ops Q' g listed a w):∀ (fuel:Nat) (listed:Array Bool) (G:List C8) (a:Act) (w:World),C w->(∀ f∈G,f.2 w)->(∀ f∈G,E7 R f.2) ->
  F8 P md ops R C ks n L fuel listed G a->wpAny P md ops Q' (fuel+g) listed a w
 | 0,_,_,_,_,hw,hG,_,h=>by rw[Nat.zero_add];exact hL _ _ _ _ hw hG h
 | fuel+1,listed,G,a,w,hw,hG,hst,h=>by
  rw[show fuel+1+g=(fuel+g)+1 by omega]
  refine⟨fun h0=>absurd h0 h.1,fun i hi=>?_⟩
  unfold wpOp
  split
  ·rename_i ho
   obtain⟨_,o,ho',_⟩:=mem_ready.1 hi
   rw[ho]at ho';cases ho'
  ·rename_i o ho
   obtain⟨h1,h2⟩:=(h.2 i hi).2 o ho
   unfold AskT at h1
   split
   ·rename_i hwt
    rw[if_pos hwt]at h1
    refine .inl (J0 (h1 w hw fun f hf _ _ _=>hG f hf) fun v w' hR hok hp=>?_)
    refine FT hC hks hL fuel _ _ _ w' (hC _ _ hR hw) (fun f hf=>?_) (fun f hf=>?_) (h2 v hok)
    ·rcases List.mem_cons.1 hf with rfl | hf
     ·exact hp
     ·exact hst f hf _ _ hR (hG f hf)
    ·rcases List.mem_cons.1 hf with rfl | hf
     ·exact hks i v
     ·exact hst f hf
   ·rename_i hwt
    rw[if_neg hwt]at h1
    refine FT hC hks hL fuel _ _ _ w hw (fun f hf=>?_) (fun f hf=>?_) (h2 undef h1.1)
    ·rcases List.mem_cons.1 hf with rfl | hf
     ·exact h1.2 w
     ·exact hG f hf
    ·rcases List.mem_cons.1 hf with rfl | hf
     ·exact hks i undef
     ·exact hst f hf
theorem KZ{ks:Nat->Kind}{n i:Nat}{oi:Oper}{L:Array Bool->List C8->Act->Prop}(hLm:∀ listed G G' a,(∀ f∈G,f∈G')->L listed G a->L listed G' a)(hi:ops[i]?=some oi)
  (hsel:∀ (j:Nat) (o:Oper) cs b,ops[j]?=some o->o.op≠.select cs b)
  (hs:Region.sinkB md ops n=true) (hc:Region.chainB md ops n=true) (hn:n<ops.size) (hin:i<n)
  (hdone:∀ listed G a,L listed G a -> ∀ j∈Region.ready md ops listed,n<=j):
  ∀ (fuel:Nat) (listed:Array Bool) (G:List C8) (a:Act),HeadInv md ops n listed ->
   (∀ j oj,ops[j]?=some oj->j≠i->listed.getD j true=false->(∀ e∈oj.after,Region.binds md e=true->e.on≠i)->oi.apart ops oj=true) ->
   i∈Region.ready md ops listed->AskT P ops R C oi (ks i) G a ->
   (∀ v,(ks i).ok v->F8 P md ops R C ks n L fuel (listed.setIfInBounds i true) ((oi.dst,(ks i).pred v)::G) (a.put oi.dst v))->F8 P md ops R C ks n L (fuel+1) listed G a:=by
 intro fuel
 induction fuel with
 | zero=>
  intro listed G a inv _ hr hy H
  have hun:=(mem_ready.1 hr).1
  refine⟨fun h=>(by rw[h]at hr;cases hr),fun j hj=>?_⟩
  have hjn:j<n:=by
   rcases Nat.lt_or_ge j n with h | h
   ·exact h
   ·exact absurd hj (tail_waits hs hc hn inv _ i rfl hin hun j h)
  refine⟨hjn,fun o ho=>?_⟩
  by_cases hji:j=i
  ·subst hji
   rw[hi]at ho;cases ho
   exact⟨hy,H⟩
  ·have:=hdone _ _ _ (H _ (ks i).ok_pick) j (ready_mono hj hji)
   omega
 | succ fuel ih=>
  intro listed G a inv hfree hr hy H
  have hun:=(mem_ready.1 hr).1
  refine⟨fun h=>(by rw[h]at hr;cases hr),fun j hj=>?_⟩
  have hjn:j<n:=by
   rcases Nat.lt_or_ge j n with h | h
   ·exact h
   ·exact absurd hj (tail_waits hs hc hn inv _ i rfl hin hun j h)
  refine⟨hjn,fun o ho=>?_⟩
  by_cases hji:j=i
  ·subst hji
   rw[hi]at ho;cases ho
   exact⟨hy,H⟩
  ·have hjun:=(mem_ready.1 hj).1
   obtain⟨a1,a2,a3⟩:=Oper.apart_spec (hfree j o ho hji hjun (JX hr hj ho))
   have hjr:=ready_mono hj hji
   refine⟨(AskT.put (hsel j o · · ho) a1).1 (((H _ (ks i).ok_pick).2 j hjr).2 o ho).1,fun u hu=>?_⟩
   refine ih (listed.setIfInBounds j true) _ _ (inv.set hj hjn) (fun k ok hk hki hun hno=>hfree k ok hk hki (Decidable.byCases (fun h:j=k=>by rw[<- h];exact hjun) fun h=>by rwa [getD_set_ne true h]at hun) hno) (ready_mono hr (Ne.symm hji)) ((AskT.put (hsel i oi · · hi) a3).2 hy) fun v hv=>?_
   have h2:=(((H v hv).2 j hjr).2 o ho).2 u hu
   rw[Array.setIfInBounds_comm _ _ hji,<- Act.put_comm a v u a2]
   refine HM hLm fuel _ _ _ _ (fun f hf=>?_) h2
   simp only[List.mem_cons]at hf ⊢
   rcases hf with h | h | h
   ·exact .inr (.inl h)
   ·exact .inl h
   ·exact .inr (.inr h)
theorem IW{ks:Nat->Kind}{n g:Nat}{Q:List C8->Act->Prop}(hQ:∀ G G' a,(∀ f∈G,f∈G')->Q G a->Q G' a)(hsel:Region.noSelect ops=true)(hs:Region.sinkB md ops n=true)(hc:Region.chainB md ops n=true)(hn:n<ops.size):
  ∀ (l:List Oper) (kl:List Kind) (k:Nat) (listed:Array Bool) (G:List C8) (a:Act),(∀ j,j<l.length->l[j]?=ops[k+j]?)->(∀ (j:Nat) x,kl[j]?=some x->ks (k+j)=x)->k+l.length=n->HeadInv md ops n listed ->
  Region.lexHead md ops g l.length k listed=true->wpT P ops R C Q l kl G a ->
  F8 P md ops R C ks n (fun listed' G' a'=>Region.seqB md ops g n listed'=true/\Q G' a') l.length listed G a
 | [],_,k,listed,G,a,_,_,hk,_,hB,h=>by
  have:k=n:=by simpa using hk
  subst this
  exact⟨by simpa[Region.lexHead]using hB,h⟩
 | _::_,[],_,_,_,_,_,_,_,_,_,h=>h.elim
 | o::l,x::kl,k,listed,G,a,hl,hx,hk,inv,hB,h=>by
  have h0:ops[k]?=some o:=by simpa using(hl 0 (by simp)).symm
  have hx0:ks k=x:=by simpa using hx 0 x (by simp)
  simp only[List.length_cons,Region.lexHead,Bool.and_eq_true]at hB
  obtain⟨⟨hr,hf⟩,hB'⟩:=hB
  have hkn:k<n:=by simp only[List.length_cons]at hk;omega
  have hr':k∈Region.ready md ops listed:=by simpa using hr
  obtain⟨h1,h2⟩:=h
  refine KZ (fun listed G G' a hG h=>⟨h.1,hQ _ _ _ hG h.2⟩) h0 (Region.noSelect_spec hsel) hs hc hn hkn (fun listed' G' a' hL=>seqB_ready hL.1) l.length listed G a inv (Region.free_spec h0 hf) hr' (by rw[hx0];exact h1) fun v hv=>?_
  rw[hx0]at hv ⊢
  exact IW hQ hsel hs hc hn l kl (k+1) _ _ _ (fun j hj=>by have:=hl (j+1) (by simp;omega);simpa[Nat.add_assoc,Nat.add_comm 1 j]using this)
   (fun j x' hj=>by have:=hx (j+1) x' (by simpa using hj);simpa[Nat.add_assoc,Nat.add_comm 1 j]using this) (by simp only[List.length_cons]at hk;omega) (inv.set hr' hkn) hB' (h2 v hv)
theorem GR{id:Nat}{Q:Exit->Act->World->Prop}{a:Act}{w:World}{l:List Oper}(n:Nat)(C:World->Prop)(R:World->World->Prop)(kl:List Kind)(hm:P.follows .mixedOrders=true)
  (hB:Region.lexTailB .any l.toArray n=true) (hC:E7 R C) (hks:AllStay R kl) (h0:C w.drew)
  (h:wpT P l.toArray R C (fun G a'=>∀ w',C w'->(∀ f∈G,f.2 w')->wpList P l.toArray Q (l.drop n) a' w') (l.take n) kl [] a):(Code.region id l.toArray true).wp P Q a w:=by
 simp only[Region.lexTailB,Bool.and_eq_true,decide_eq_true_eq]at hB
 obtain⟨⟨⟨⟨hsel,hn⟩,hs⟩,hc⟩,hlex⟩:=hB
 have hn':n<l.length:=by simpa using hn
 have htl:(l.take n).length=n:=by simp;omega
 have hdl:(l.drop n).length=l.toArray.size-n:=by simp
 have inv0:HeadInv .any l.toArray n (Array.replicate l.toArray.size false):=
  ⟨by simp,fun j oj _ hl=>(by rw[getD_replicate_false]at hl;cases hl),fun t _ ht=>getD_in (by simpa using ht) (getD_replicate_false _ _)⟩
 have hks':∀ i v,E7 R (((fun i=>kl.getD i (Kind.is undef)) i).pred v):=fun i v=>by
  simp only[List.getD]
  cases hk:kl[i]? with
  | none=>exact fun _ _ _ _=>trivial
  | some k=>exact hks.mem k (List.mem_of_getElem? hk) v
 have H:=IW (md:=.any) (ks:=fun i=>kl.getD i (Kind.is undef)) (g:=l.toArray.size-n) (fun G G' a' hG h w' hw hF=>h w' hw fun f hf=>hF f (hG f hf)) hsel hs hc hn (l.take n) kl 0 _ [] a (fun j hj=>by
  have hj':j<n:=by rw[htl]at hj;exact hj
  simp[hj']) (fun j k hj=>by simp[List.getD,hj]) (by simpa using htl) inv0 (by rw[htl];exact hlex) h
 refine wp_region_any hm ?_
 have:=FT (Q':=Q) (g:=l.toArray.size-n) hC hks' (fun listed G a' w' hw hG hL=>by
  have:=wpAny_of_seq (md:=.any) (Q':=Q) (l.drop n) n listed a' w' (fun j=>by simp[List.getElem?_drop]) (by rw[hdl];exact hL.1) (hL.2 w' hw hG)
  rwa [hdl]at this) _ _ [] _ w.drew h0 (fun f hf=>by cases hf) (fun f hf=>by cases hf) H
 rw[htl,show n+(l.toArray.size-n)=l.toArray.size by omega]at this
 exact this
end
end
end Go.Proofs.YtojdpgeeajaojaaGreat
