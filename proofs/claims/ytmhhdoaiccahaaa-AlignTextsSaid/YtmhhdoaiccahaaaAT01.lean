/- Part 1. Conditions: as each theorem says. -/
import Derived.WalkKit
import Derived.Lib.Hide
import Derived.Laws.CopyOwn
import Derived.Laws.AppendOwnNone
import Derived.Deep.Draws
import Derived.Deep.AppendLies
import Derived.Deep.OwnRows
import Derived.Maps.AppendAt
import Derived.RegionTactic
import Derived.OwnWalk
import Derived.Still
import Derived.Below
set_option maxRecDepth 100000
namespace Go.Proofs.Ytmhhdoaiccahaaa
open Go.RowKit
section
def bv(b:UInt8):Value:=.int .u8 (b.toNat:Int)
def Blk(w:World)(g:Nat)(t:TypeId)(cs:List Value):Prop:=w.heap[g]?=some (.cells cs.toArray t (0,0))
section
variable{w w':World}{g:Nat}{t:TypeId}{cs:List Value}
theorem Blk.lt(h:Blk w g t cs):g<w.heap.size:=by
 rcases Nat.lt_or_ge g w.heap.size with hlt | hge
 ·exact hlt
 ·unfold Blk at h;rw[Array.getElem?_eq_none hge]at h;cases h
theorem Blk.cell(h:Blk w g t cs)(i:Nat):w.cell? ⟨g,i,none⟩=cs[i]?:=by
 rw[cell_of_row w g i cs.toArray t (0,0) h];simp
theorem Blk.frozen(h:Blk w g t cs)(i:Nat):w.frozen? ⟨g,i,none⟩=false:=by
 unfold Blk at h
 simp[World.frozen?,h]
theorem Blk.new(w:World)(t:TypeId)(cs:List Value):Blk (w.alloc (.cells cs.toArray t)) w.heap.size t cs:=heap_alloc_new w _
theorem Blk.drew(h:Blk w g t cs):Blk w.drew g t cs:=h
theorem Blk.alloc(h:Blk w g t cs)(o:Obj):Blk (w.alloc o) g t cs:=(Below.heap_alloc w o g h.lt).trans h
theorem Blk.set_(h:Blk w g t cs)(i:Nat)(u:Value):Blk (w.setCell ⟨g,i,none⟩ u) g t (cs.set i u):=by
 unfold Blk at h ⊢
 simp[World.setCell,Array.getElem?_modify,h]
theorem Blk.below{B:Nat}(h:Blk w g t cs)(hb:Below B w w')(hg:g<B):Blk w' g t cs:=(hb.block g hg).trans h
theorem Blk.kept(h:Blk w g t cs)(hb:Below w.heap.size w w'):Blk w' g t cs:=h.below hb h.lt
theorem Blk.grown{row:Option Nat}(h:Blk w g t cs)(hb:w.grownBy w' row)(hg:some g≠row):Blk w' g t cs:=(hb.block g h.lt hg).trans h
theorem Blk.same{cs':List Value}(h:Blk w g t cs)(h':Blk w g t cs'):cs=cs':=by
 unfold Blk at h h'
 rw[h]at h'
 injection h' with h'
 injection h' with h1 _
 simpa using h1
end
def Sl(w:World)(B:Nat)(p:Option Addr)(l:List UInt8):Prop:=
 0<l.length -> ∃ b o,p=some ⟨b,o,none⟩/\b<B /\ ∀ (i:Nat) (x:UInt8),l[i]?=some x->w.cell? ⟨b,o+i,none⟩=some (bv x)
section
variable{w w':World}{B B':Nat}{p:Option Addr}{l:List UInt8}
theorem Sl.nil(w:World)(B:Nat)(p:Option Addr):Sl w B p []:=fun h=>absurd h (Nat.lt_irrefl 0)
theorem Sl.more(h:Sl w B p l)(hB:B<=B'):Sl w B' p l:=fun hl=>by
 obtain⟨b,o,e,hb,hc⟩:=h hl
 exact⟨b,o,e,by omega,hc⟩
theorem Sl.below(h:Sl w B p l)(hb:Below B w w'):Sl w' B p l:=fun hl=>by
 obtain⟨b,o,e,hlt,hc⟩:=h hl
 exact⟨b,o,e,hlt,fun i x hx=>(hb.cell (p:=⟨b,o+i,none⟩) hlt).trans (hc i x hx)⟩
end
section
variable{P:Program}(w:World)
theorem FE(base:Nat)(t ty e:TypeId)(i:TypeInfo)(size:Nat)(ht:P.underlying t=some (.slice e))(hi:P.info? e=some i)
  (v:Value) (n:Nat) (xs:List Value) (hown:w.ownsRow base e size v n xs) (c:Nat):(Builtin.append_ #[t,t] ty #[v,.slice none 0 c]).run P w=.ok v w:=by
 rcases hown.2 with⟨rfl,rfl⟩ | ⟨g,cap,cur,rfl,_,_,hnc,_⟩
 ·simp[Builtin.append_,run_underlying ht,sizeOf,typeInfo,hi,Builtin.lenOf,Builtin.firstCells]
 ·simp[Builtin.append_,run_underlying ht,sizeOf,typeInfo,hi,Builtin.lenOf,Builtin.firstCells,hnc,storeCells]
end
section
variable{w:World}{base:Nat}{e:TypeId}{v:Value}{n:Nat}{xs:List Value}
end
end
inductive Dat where
 | cell (v:Value)
 | row (k n:Nat) (ds:List Dat)
 | ptr (t:TypeId) (ds:List Dat)
 | ifc (t:TypeId) (d:Dat)
 | map (n:Nat) (ds:List Dat)
 | fn (f:FuncId) (ds:List Dat)
 | pref (ds:List Dat)
 | orow (ty k n:Nat) (v:Value) (ds:List Dat)
 | optr (t:TypeId) (v:Value) (ds:List Dat)
def kvs:List MapEntry->List Value
 | []=>[]
 | e::es=>e.key::e.val::kvs es
inductive Lies (w:World) (D:Nat->Prop):Dat->Value->Prop where
 | cell (v:Value):Lies w D (.cell v) v
 | none (k:Nat) (p:Option Addr) (c:Nat):Lies w D (.row k 0 []) (.slice p 0 c)
 | row (k n b o c:Nat) (ds:List Dat) (X:Nat->Value):0<n->n<=c->ds.length=n*k->D b->(∀ j,j<ds.length->w.cell? ⟨b,o+j,none⟩=some (X j))->(∀ j d,ds[j]?=some d->Lies w D d (X j))->Lies w D (.row k n ds) (.slice (some ⟨b,o,none⟩) n c)
 | ptr (b:Nat) (t:TypeId) (ds:List Dat) (xs:List Value):D b->Blk w b t xs->ds.length=xs.length->(∀ (j:Nat) d x,ds[j]?=some d->xs[j]?=some x->Lies w D d x)->Lies w D (.ptr t ds) (.pointer (some ⟨b,0,none⟩))
 | ifc (t:TypeId) (d:Dat) (v:Value):Lies w D d v->Lies w D (.ifc t d) (.iface t v)
 | map (g n:Nat) (es:Array MapEntry) (clock:Nat) (ds:List Dat) (xs:List Value):D g->w.heap[g]?=some (.map es clock)->es.size=n->kvs es.toList=xs->ds.length=xs.length->(∀ (j:Nat) d x,ds[j]?=some d->xs[j]?=some x->Lies w D d x)->Lies w D (.map n ds) (.map (some g))
 | fn (f:FuncId) (ds:List Dat) (xs:List Value):ds.length=xs.length->(∀ (j:Nat) d x,ds[j]?=some d->xs[j]?=some x->Lies w D d x)->Lies w D (.fn f ds) (.func (.func f) #[] xs.toArray)
 | pref (b o:Nat) (ds:List Dat) (X:Nat->Value):D b->(∀ j,j<ds.length->w.cell? ⟨b,o+j,none⟩=some (X j))->(∀ j d,ds[j]?=some d->Lies w D d (X j))->Lies w D (.pref ds) (.pointer (some ⟨b,o,none⟩))
def Keeps(D:Nat->Prop)(w w':World):Prop:=∀ b,D b->w'.heap[b]?=w.heap[b]?
theorem Keeps.refl(D:Nat->Prop)(w:World):Keeps D w w:=fun _ _=>rfl
theorem Keeps.trans{D:Nat->Prop}{a b c:World}(h:Keeps D a b)(k:Keeps D b c):Keeps D a c:=fun g hg=>(k g hg).trans (h g hg)
theorem Keeps.of_below{D:Nat->Prop}{B:Nat}{w w':World}(hb:Below B w w')(hD:∀ g,D g->g<B):Keeps D w w':=fun g hg=>hb.block g (hD g hg)
theorem Keeps.of_grown{D:Nat->Prop}{w w':World}{r:Option Nat}(hg:w.grownBy w' r)(hD:∀ g,D g->g<w.heap.size)(hr:∀ g,D g->some g≠r):Keeps D w w':=fun g h=>hg.block g (hD g h) (hr g h)
theorem Lies.stay{w w':World}{D D':Nat->Prop}{d:Dat}{v:Value}(h:Lies w D d v)(hk':Keeps D w w')(hD:∀ g,D g->D' g):Lies w' D' d v:=by
 induction h with
 | cell v=>exact .cell v
 | none k p c=>exact .none k p c
 | row k n b o c ds X hn hnc hl hb hc _ ih=>
  exact .row k n b o c ds X hn hnc hl (hD b hb) (fun j hj=>(World.cell?_of_block (a:=⟨b,o+j,Option.none⟩) (hk' b hb)).trans (hc j hj)) ih
 | ptr b t ds xs hb hc hl _ ih=>exact .ptr b t ds xs (hD b hb) ((hk' b hb).trans hc) hl ih
 | ifc t d v _ ih=>exact .ifc t d v ih
 | map g n es clock ds xs hg hh hn hk hl _ ih=>exact .map g n es clock ds xs (hD g hg) ((hk' g hg).trans hh) hn hk hl ih
 | fn f ds xs hl _ ih=>exact .fn f ds xs hl ih
 | pref b o ds X hb hc _ ih=>exact .pref b o ds X (hD b hb) (fun j hj=>(World.cell?_of_block (a:=⟨b,o+j,Option.none⟩) (hk' b hb)).trans (hc j hj)) ih
def Fits(w:World)(D:Nat->Prop)(ds:List Dat)(xs:List Value):Prop:=ds.length=xs.length /\ ∀ (j:Nat) d x,ds[j]?=some d->xs[j]?=some x->Lies w D d x
theorem Fits.stay{w w':World}{D D':Nat->Prop}{ds:List Dat}{xs:List Value}(h:Fits w D ds xs)(hk:Keeps D w w')(hD:∀ g,D g->D' g):Fits w' D' ds xs:=⟨h.1,fun j d x h1 h2=>(h.2 j d x h1 h2).stay hk hD⟩
theorem Fits.nil(w:World)(D:Nat->Prop):Fits w D [] []:=⟨rfl,fun j d x h=>by simp at h⟩
theorem Fits.cons{w:World}{D:Nat->Prop}{d:Dat}{x:Value}{ds:List Dat}{xs:List Value}(h1:Lies w D d x)(h2:Fits w D ds xs):Fits w D (d::ds) (x::xs):=by
 refine⟨by simp[h2.1],fun j d' x' a b=>?_⟩
 cases j with
 | zero=>
  simp at a b
  exact a▸b▸h1
 | succ j=>exact h2.2 j d' x' (by simpa using a) (by simpa using b)
theorem Fits.head{w:World}{D:Nat->Prop}{d:Dat}{ds:List Dat}{xs:List Value}(h:Fits w D (d::ds) xs):∃ x ys,xs=x::ys/\Lies w D d x/\Fits w D ds ys:=by
 obtain⟨hl,hx⟩:=h
 cases xs with
 | nil=>simp at hl
 | cons x ys=>exact⟨x,ys,rfl,hx 0 d x rfl rfl,by simpa using hl,fun j d' x' a b=>hx (j+1) d' x' (by simpa using a) (by simpa using b)⟩
theorem Fits.append{w:World}{D:Nat->Prop}{ds es:List Dat}{xs ys:List Value}(h1:Fits w D ds xs)(h2:Fits w D es ys):Fits w D (ds++es) (xs++ys):=by
 refine⟨by simp[h1.1,h2.1],fun j d x a b=>?_⟩
 rcases Nat.lt_or_ge j ds.length with hj | hj
 ·rw[List.getElem?_append_left hj]at a
  rw[List.getElem?_append_left (by rw[<- h1.1];exact hj)]at b
  exact h1.2 j d x a b
 ·rw[List.getElem?_append_right hj]at a
  rw[List.getElem?_append_right (by rw[<- h1.1];exact hj),<- h1.1]at b
  exact h2.2 _ d x a b
theorem Lies.cell_eq{w:World}{D:Nat->Prop}{v x:Value}(h:Lies w D (.cell v) x):x=v:=by cases h;rfl
theorem Fits.cells{w:World}{D:Nat->Prop}{vs xs:List Value}(h:Fits w D (vs.map .cell) xs):xs=vs:=by
 induction vs generalizing xs with
 | nil=>exact List.eq_nil_of_length_eq_zero (by simpa using h.1.symm)
 | cons v vs ih=>
  obtain⟨x,ys,rfl,h1,h2⟩:=Fits.head h
  rw[h1.cell_eq,ih h2]
theorem Fits.part{w:World}{D:Nat->Prop}{ds:List Dat}{xs:List Value}(h:Fits w D ds xs)(i k:Nat):Fits w D ((ds.drop i).take k) ((xs.drop i).take k):=by
 refine⟨by simp[h.1],fun j d x a b=>?_⟩
 rw[List.getElem?_take]at a b
 split at a
 ·rename_i hj
  rw[if_pos hj]at b
  rw[List.getElem?_drop]at a b
  exact h.2 _ d x a b
 ·cases a
theorem E6{α:Type}{f:α->List Dat}{k:Nat}(hk:∀ a,(f a).length=k):∀ qs:List α,(qs.flatMap f).length=qs.length*k
 | []=>by simp
 | a::qs=>by rw[List.flatMap_cons,List.length_append,hk,E6 hk qs,List.length_cons,Nat.succ_mul];omega
theorem FO{α:Type}{f:α->List Dat}{k:Nat}(hk:∀ a,(f a).length=k):∀ (qs:List α) (i:Nat) (a:α),qs[i]?=some a->((qs.flatMap f).drop (i*k)).take k=f a
 | [],i,a,h=>by simp at h
 | x::qs,0,a,h=>by
  obtain rfl:x=a:=by simpa using h
  rw[List.flatMap_cons,Nat.zero_mul,List.drop_zero,<- hk x,List.take_left]
 | x::qs,i+1,a,h=>by
  rw[List.flatMap_cons,show(i+1)*k=(f x).length+i*k by rw[hk,Nat.succ_mul];omega,List.drop_append]
  rw[List.drop_of_length_le (by omega),List.nil_append,show(f x).length+i*k-(f x).length=i*k by omega]
  exact FO hk qs i a (by simpa using h)
def RowD(w:World)(D:Nat->Prop)(k:Nat)(p:Option Addr){α:Type}(f:α->List Dat)(qs:List α):Prop:=
 0<qs.length -> ∃ b o,p=some ⟨b,o,none⟩/\D b /\ ∀ (i:Nat) a,qs[i]?=some a -> ∃ xs:List Value,xs.length=k/\(∀ (j:Nat) x,xs[j]?=some x->w.cell? ⟨b,o+i*k+j,none⟩=some x)/\Fits w D (f a) xs
theorem RowD.stay{w w':World}{D:Nat->Prop}{k:Nat}{p:Option Addr}{α:Type}{f:α->List Dat}{qs:List α}(h:RowD w D k p f qs)(hk:Keeps D w w'):RowD w' D k p f qs:=fun hl=>by
 obtain⟨b,o,e,hb,hc⟩:=h hl
 exact⟨b,o,e,hb,fun i a ha=>by
  obtain⟨xs,h1,h2,h3⟩:=hc i a ha
  exact⟨xs,h1,fun j x hx=>(World.cell?_of_block (a:=⟨b,o+i*k+j,none⟩) (hk b hb)).trans (h2 j x hx),h3.stay hk fun _ h=>h⟩⟩
theorem Lies.row_at{w:World}{D:Nat->Prop}{k:Nat}{α:Type}{f:α->List Dat}(hk:∀ a,(f a).length=k){qs:List α}{v:Value}(h:Lies w D (.row k qs.length (qs.flatMap f)) v):
  ∃ p c,v=.slice p qs.length c/\RowD w D k p f qs:=by
 generalize hn:qs.length=n at h
 generalize hd:qs.flatMap f=ds at h
 cases h with
 | none k p c=>exact⟨p,c,rfl,fun h=>by omega⟩
 | row k n b o c ds X hn0 _ hl hb hc hx=>
  refine⟨_,c,rfl,fun _=>⟨b,o,rfl,hb,fun i a ha=>?_⟩⟩
  have hi:i<qs.length:=by
   rcases Nat.lt_or_ge i qs.length with h | h
   ·exact h
   ·rw[List.getElem?_eq_none h]at ha;cases ha
  have hik:i*k+k<=ds.length:=by rw[hl,<- Nat.succ_mul];exact Nat.mul_le_mul_right _ (by omega)
  have hp:=FO hk qs i a ha
  rw[hd]at hp
  refine⟨(List.range k).map fun j=>X (i*k+j),by simp,fun j x hj=>?_,?_⟩
  ·rw[List.getElem?_map]at hj
   have hjk:j<k:=by
    rcases Nat.lt_or_ge j k with h | h
    ·exact h
    ·rw[List.getElem?_eq_none (by simpa using h)]at hj;cases hj
   rw[List.getElem?_range hjk]at hj
   rw[Nat.add_assoc,hc (i*k+j) (by omega)]
   simpa using hj
  ·rw[<- hp]
   refine⟨by simp;omega,fun j d x a b=>?_⟩
   rw[List.getElem?_take]at a
   split at a
   ·rename_i hjk
    rw[List.getElem?_map,List.getElem?_range hjk]at b
    rw[List.getElem?_drop]at a
    obtain rfl:X (i*k+j)=x:=by simpa using b
    exact hx _ d a
   ·cases a
def Gr(w:World)(D:Nat->Prop)(base:Nat)(e:TypeId)(k:Nat)(v:Value)(n:Nat)(ds:List Dat):Prop:=∃ xs,w.ownsRow base e k v n xs/\Fits w D ds xs
theorem Gr.nil(w:World)(D:Nat->Prop)(base:Nat)(e:TypeId)(k:Nat):Gr w D base e k (.slice none 0 0) 0 []:=⟨[],World.ownsRow_nil _ _ _ _,Fits.nil _ _⟩
theorem ownsRow.stay{w w':World}{base:Nat}{e:TypeId}{k:Nat}{v:Value}{n:Nat}{xs:List Value}(h:w.ownsRow base e k v n xs)(hv:∀ g,v.ownBlock=some g->w'.heap[g]?=w.heap[g]?):w'.ownsRow base e k v n xs:=by
 obtain⟨h1,h2⟩:=h
 refine⟨h1,?_⟩
 rcases h2 with h2 | ⟨g,cap,cur,rfl,hg,hh,hr⟩
 ·exact .inl h2
 ·exact .inr ⟨g,cap,cur,rfl,hg,(hv g rfl).trans hh,hr⟩
theorem Gr.stay{w w':World}{D D':Nat->Prop}{base:Nat}{e:TypeId}{k:Nat}{v:Value}{n:Nat}{ds:List Dat}(h:Gr w D base e k v n ds)(hv:∀ g,v.ownBlock=some g->w'.heap[g]?=w.heap[g]?)(hk:Keeps D w w')(hD:∀ g,D g->D' g):Gr w' D' base e k v n ds:=by
 obtain⟨xs,h1,h2⟩:=h
 exact⟨xs,ownsRow.stay h1 hv,h2.stay hk hD⟩
theorem Gr.below{w w':World}{D:Nat->Prop}{base:Nat}{e:TypeId}{k:Nat}{v:Value}{n:Nat}{ds:List Dat}(h:Gr w D base e k v n ds)(hb:Below w.heap.size w w')(hD:∀ g,D g->g<w.heap.size):Gr w' D base e k v n ds:=by
 obtain⟨xs,h1,h2⟩:=h
 exact⟨xs,ownsRow.stay h1 fun g hg=>hb.block g (h1.lt g hg).2,h2.stay (.of_below hb hD) fun _ h=>h⟩
theorem Gr.lies{w:World}{D D':Nat->Prop}{base:Nat}{e:TypeId}{k:Nat}{v:Value}{n:Nat}{ds:List Dat}(h:Gr w D base e k v n ds)(hD:∀ g,D g->D' g)(hv:∀ g,v.ownBlock=some g->D' g):Lies w D' (.row k n ds) v:=by
 obtain⟨xs,h1,h2⟩:=h
 have hl:=h1.1
 rcases h1.2 with⟨rfl,h0⟩ | ⟨g,cap,cur,rfl,hg,hh,hnc,hm,hcs,ht⟩
 ·subst h0
  obtain rfl:ds=[]:=List.eq_nil_of_length_eq_zero (by rw[h2.1,hl];simp)
  exact .none _ _ _
 ·rcases Nat.eq_zero_or_pos n with h0 | h0
  ·subst h0
   obtain rfl:ds=[]:=List.eq_nil_of_length_eq_zero (by rw[h2.1,hl];simp)
   exact .none _ _ _
  ·refine .row k n g 0 cap ds (fun j=>(cur[j]?).getD default) h0 hnc (by rw[h2.1,hl]) (hv g rfl) (fun j hj=>?_) fun j d hd=>?_
   ·rw[h2.1,hl]at hj
    rw[Nat.zero_add,cell_of_row w g j cur e (0,0) hh]
    have:n*k<=cur.size:=by rw[hcs];exact Nat.mul_le_mul_right _ hnc
    rw[Array.getElem?_eq_getElem (by omega)]
    rfl
   ·have hj:j<xs.length:=by
     rw[<- h2.1]
     rcases Nat.lt_or_ge j ds.length with h | h
     ·exact h
     ·rw[List.getElem?_eq_none h]at hd;cases hd
    have hx:xs[j]?=cur[j]?:=by
     rw[<- ht,List.getElem?_take,if_pos (by rw[<- hl];exact hj)]
     simp
    have hx2:=List.getElem?_eq_getElem hj
    rw[hx]at hx2
    show Lies w D' d ((cur[j]?).getD default)
    rw[hx2]
    exact(h2.2 j d _ hd (by rw[hx];exact hx2)).stay (Keeps.refl _ _) hD
theorem Gr.more{w w':World}{D:Nat->Prop}{base:Nat}{e:TypeId}{k:Nat}{v':Value}{n m:Nat}{ds es:List Dat}{xs ys:List Value}(hf:Fits w D ds xs)(hown:w'.ownsRow base e k v' (n+m) (xs++ys))(hk:Keeps D w w')(hy:Fits w D es ys):Gr w' D base e k v' (n+m) (ds++es):=
 ⟨_,hown,(hf.append hy).stay hk fun _ h=>h⟩
section
structure Kind where
 exact:Option Value
 pred:Value->World->Prop
def Kind.is(c:Value):Kind:=⟨some c,fun _ _=>True⟩
def Kind.of(T:Value->World->Prop):Kind:=⟨none,T⟩
def Kind.ok(k:Kind)(v:Value):Prop:=∀ c,k.exact=some c->v=c
def Kind.pick(k:Kind):Value:=k.exact.getD undef
theorem Kind.ok_pick(k:Kind):k.ok k.pick:=fun c h=>by simp[Kind.pick,h]
theorem Kind.ok_is{c v:Value}:(Kind.is c).ok v↔v=c:=⟨fun h=>h c rfl,fun h d hd=>by cases hd;exact h⟩
abbrev BA:=Option Tmp×(World->Prop)
section
variable{P:Program}{ops:Array Oper}{md:Region.Mode}{C:World->Prop}{R:World->World->Prop}
def Seen(ops:Array Oper)(o:Oper)(G:List BA)(w:World):Prop:=∀ f∈G,∀ d,f.1=some d->d∈o.looksAt ops->f.2 w
def CM(P:Program)(R:World->World->Prop)(k:Kind)(w:World):Result Next->Prop
 | .ok (.value u) w'=>R w w'/\k.ok u/\k.pred u w'
 | .ok .skip w'=>R w w'/\k.ok undef/\k.pred undef w'
 | .ok (.enter f args) w'=>Calls P f args w' fun e w''=>∃ v,e=.returned v/\R w w''/\k.ok v/\k.pred v w''
 | _=>False
def BU(P:Program)(R:World->World->Prop)(o:Oper)(a:Act)(k:Kind)(w:World):Prop:=CM P R k w ((execOp a.eval o).run P w)
theorem G3{o:Oper}{a:Act}{k:Kind}{w:World}{K:Act->World->Prop}{Q:Exit->Act->World->Prop}(h:BU P R o a k w)
  (hK:∀ v w',R w w'->k.ok v->k.pred v w'->K (a.put o.dst v) w'):o.wp P a w K Q:=by
 unfold BU at h
 unfold Oper.wp
 generalize(execOp a.eval o).run P w=r at *
 cases r with
 | ok n w'=>
  cases n<;>simp only[CM]at h<;>simp only[Oper.upon]
  case value u=>exact hK _ _ h.1 h.2.1 h.2.2
  case skip=>exact hK _ _ h.1 h.2.1 h.2.2
  case enter f args=>
   exact h.mono fun e w'' ⟨v,he,h1,h2,h3⟩=>by subst he;exact hK _ _ h1 h2 h3
 | halt x w'=>simp only[CM]at h
def AskT(P:Program)(ops:Array Oper)(R:World->World->Prop)(C:World->Prop)(o:Oper)(k:Kind)(G:List BA)(a:Act):Prop:=
 if Region.wanted o (yielded ops a.tmps)then ∀ w,C w->Seen ops o G w->BU P R o a k w else k.ok undef /\ ∀ w,k.pred undef w
def wpT(P:Program)(ops:Array Oper)(R:World->World->Prop)(C:World->Prop)(Q:List BA->Act->Prop):List Oper->List Kind->List BA->Act->Prop
 | [],_,G,a=>Q G a
 | o::rest,k::ks,G,a=>AskT P ops R C o k G a /\ ∀ v,k.ok v->wpT P ops R C Q rest ks ((o.dst,k.pred v)::G) (a.put o.dst v)
 | _::_,[],_,_=>False
def EP(P:Program)(md:Region.Mode)(ops:Array Oper)(R:World->World->Prop)(C:World->Prop)(ks:Nat->Kind)(Q:List BA->Act->Prop):Nat->Array Bool->List BA->Act->Prop
 | 0,listed,G,a=>Region.ready md ops listed=[]/\Q G a
 | fuel+1,listed,G,a=>
  (Region.ready md ops listed=[]->Q G a) /\
  ∀ i∈Region.ready md ops listed,∀ o,ops[i]?=some o->AskT P ops R C o (ks i) G a /\
   ∀ v,(ks i).ok v->EP P md ops R C ks Q fuel (listed.setIfInBounds i true) ((o.dst,(ks i).pred v)::G) (a.put o.dst v)
def CO(R:World->World->Prop)(F:World->Prop):Prop:=∀ w w',R w w'->F w->F w'
theorem AskT.more{o:Oper}{k:Kind}{G G':List BA}{a:Act}(hG:∀ f∈G,f∈G')(h:AskT P ops R C o k G a):AskT P ops R C o k G' a:=by
 unfold AskT at *
 split
 ·rename_i hw
  rw[if_pos hw]at h
  exact fun w hC hS=>h w hC fun f hf=>hS f (hG f hf)
 ·rename_i hw
  rwa [if_neg hw]at h
theorem G0{ks:Nat->Kind}{Q:List BA->Act->Prop}(hQ:∀ G G' a,(∀ f∈G,f∈G')->Q G a->Q G' a):
  ∀ (fuel:Nat) (listed:Array Bool) (G G':List BA) (a:Act),(∀ f∈G,f∈G')->EP P md ops R C ks Q fuel listed G a->EP P md ops R C ks Q fuel listed G' a
 | 0,_,_,_,_,hG,h=>⟨h.1,hQ _ _ _ hG h.2⟩
 | fuel+1,_,G,G',_,hG,h=>⟨fun h0=>hQ _ _ _ hG (h.1 h0),fun i hi o ho=>by
   obtain⟨h1,h2⟩:=h.2 i hi o ho
   refine⟨h1.more hG,fun v hv=>G0 hQ fuel _ _ _ _ (fun f hf=>?_) (h2 v hv)⟩
   rcases List.mem_cons.1 hf with rfl | hf
   ·exact List.mem_cons_self
   ·exact List.mem_cons_of_mem _ (hG f hf)⟩
theorem ES{ks:Nat->Kind}{Q:List BA->Act->Prop}{Q':Exit->Act->World->Prop}(hC:CO R C)(hks:∀ i v,CO R ((ks i).pred v))
  (hQ:∀ G a w,C w->(∀ f∈G,f.2 w)->Q G a->Q' .normal a w):∀ (fuel:Nat) (listed:Array Bool) (G:List BA) (a:Act) (w:World),C w->(∀ f∈G,f.2 w)->(∀ f∈G,CO R f.2) ->
  EP P md ops R C ks Q fuel listed G a->wpAny P md ops Q' fuel listed a w
 | 0,_,_,_,_,hw,hG,_,h=>⟨h.1,hQ _ _ _ hw hG h.2⟩
 | fuel+1,listed,G,a,w,hw,hG,hst,h=>⟨fun h0=>hQ _ _ _ hw hG (h.1 h0),fun i hi=>by
   unfold wpOp
   split
   ·rename_i ho
    obtain⟨_,o,ho',_⟩:=mem_ready.1 hi
    rw[ho]at ho';cases ho'
   ·rename_i o ho
    obtain⟨h1,h2⟩:=h.2 i hi o ho
    unfold AskT at h1
    split
    ·rename_i hwt
     rw[if_pos hwt]at h1
     refine .inl (G3 (h1 w hw fun f hf _ _ _=>hG f hf) fun v w' hR hok hp=>?_)
     refine ES hC hks hQ fuel _ _ _ w' (hC _ _ hR hw) (fun f hf=>?_) (fun f hf=>?_) (h2 v hok)
     ·rcases List.mem_cons.1 hf with rfl | hf
      ·exact hp
      ·exact hst f hf _ _ hR (hG f hf)
     ·rcases List.mem_cons.1 hf with rfl | hf
      ·exact hks i v
      ·exact hst f hf
    ·rename_i hwt
     rw[if_neg hwt]at h1
     refine ES hC hks hQ fuel _ _ _ w hw (fun f hf=>?_) (fun f hf=>?_) (h2 undef h1.1)
     ·rcases List.mem_cons.1 hf with rfl | hf
      ·exact h1.2 w
      ·exact hG f hf
     ·rcases List.mem_cons.1 hf with rfl | hf
      ·exact hks i undef
      ·exact hst f hf⟩
theorem AskT.put{oi oj:Oper}{k:Kind}{F:World->Prop}{v:Value}{G:List BA}{a:Act}(hsj:∀ cs b,oj.op≠.select cs b)
  (h1:∀ d,oi.dst=some d->d∉oj.looksAt ops):AskT P ops R C oj k ((oi.dst,F)::G) (a.put oi.dst v)↔AskT P ops R C oj k G a:=by
 have e1:execOp (a.put oi.dst v).eval oj=execOp a.eval oj:=execOp_put oj hsj a oi.dst v h1
 have e2:=wanted_put oj a oi.dst v h1
 have e3:∀ w,Seen ops oj ((oi.dst,F)::G) w↔Seen ops oj G w:=fun w=>⟨fun h f hf=>h f (List.mem_cons_of_mem _ hf),fun h f hf d hd hl=>by
  rcases List.mem_cons.1 hf with rfl | hf
  ·exact absurd hl (h1 d hd)
  ·exact h f hf d hd hl⟩
 unfold AskT BU
 rw[e1,e2]
 simp only[e3]
theorem GZ{i j:Nat}{o:Oper}{listed:Array Bool}(hi:i∈Region.ready md ops listed)(hj:j∈Region.ready md ops listed)(ho:ops[j]?=some o):
  ∀ e∈o.after,Region.binds md e=true->e.on≠i:=by
 rintro e he hb rfl
 obtain⟨_,o',ho',hall⟩:=mem_ready.1 hj
 rw[ho]at ho';cases ho'
 have h1:=hall e he hb
 have h0:=(mem_ready.1 hi).1
 simp only[Array.getD]at h0 h1
 split at h1
 ·rename_i hlt
  rw[dif_pos hlt,h1]at h0
  cases h0
 ·cases h1
theorem IS{ks:Nat->Kind}{Q:List BA->Act->Prop}(hQ:∀ G G' a,(∀ f∈G,f∈G')->Q G a->Q G' a){i:Nat}{oi:Oper}(hi:ops[i]?=some oi)
  (hsel:∀ (j:Nat) (o:Oper) cs b,ops[j]?=some o->o.op≠.select cs b):
  ∀ (fuel:Nat) (listed:Array Bool) (G:List BA) (a:Act),
   (∀ j oj,ops[j]?=some oj->j≠i->listed.getD j true=false->(∀ e∈oj.after,Region.binds md e=true->e.on≠i)->oi.apart ops oj=true) ->
   i∈Region.ready md ops listed->AskT P ops R C oi (ks i) G a ->
   (∀ v,(ks i).ok v->EP P md ops R C ks Q fuel (listed.setIfInBounds i true) ((oi.dst,(ks i).pred v)::G) (a.put oi.dst v))->EP P md ops R C ks Q (fuel+1) listed G a:=by
 intro fuel
 induction fuel with
 | zero=>
  intro listed G a _ hr hy H
  refine⟨fun h=>(by rw[h]at hr;cases hr),fun j hj o ho=>?_⟩
  by_cases hji:j=i
  ·subst hji
   rw[hi]at ho;cases ho
   exact⟨hy,H⟩
  ·have h0:=(H _ (ks i).ok_pick).1
   have:=ready_mono hj hji
   rw[h0]at this
   cases this
 | succ fuel ih=>
  intro listed G a hfree hr hy H
  refine⟨fun h=>(by rw[h]at hr;cases hr),fun j hj o ho=>?_⟩
  by_cases hji:j=i
  ·subst hji
   rw[hi]at ho;cases ho
   exact⟨hy,H⟩
  ·have hjun:=(mem_ready.1 hj).1
   obtain⟨a1,a2,a3⟩:=Oper.apart_spec (hfree j o ho hji hjun (GZ hr hj ho))
   have hjr:=ready_mono hj hji
   refine⟨(AskT.put (hsel j o · · ho) a1).1 ((H _ (ks i).ok_pick).2 j hjr o ho).1,fun u hu=>?_⟩
   refine ih (listed.setIfInBounds j true) _ _ (fun k ok hk hki hun hno=>hfree k ok hk hki (Decidable.byCases (fun h:j=k=>by rw[<- h];exact hjun) fun h=>by rwa [getD_set_ne true h]at hun) hno) (ready_mono hr (Ne.symm hji)) ((AskT.put (hsel i oi · · hi) a3).2 hy) fun v hv=>?_
   have h2:=((H v hv).2 j hjr o ho).2 u hu
   rw[Array.setIfInBounds_comm _ _ hji,<- Act.put_comm a v u a2]
   refine G0 hQ fuel _ _ _ _ (fun f hf=>?_) h2
   simp only[List.mem_cons]at hf ⊢
   rcases hf with h | h | h
   ·exact .inr (.inl h)
   ·exact .inl h
   ·exact .inr (.inr h)
theorem HC{ks:Nat->Kind}{Q:List BA->Act->Prop}(hQ:∀ G G' a,(∀ f∈G,f∈G')->Q G a->Q G' a)(hs:Region.noSelect ops=true):
  ∀ (l:List Oper) (kl:List Kind) (n:Nat) (listed:Array Bool) (G:List BA) (a:Act),(∀ j,l[j]?=ops[n+j]?)->(∀ (j:Nat) k,kl[j]?=some k->ks (n+j)=k) ->
  Region.lexFrom md ops l.length n listed=true->wpT P ops R C Q l kl G a->EP P md ops R C ks Q l.length listed G a
 | [],_,_,_,_,_,_,_,hB,h=>⟨by simpa[Region.lexFrom]using hB,h⟩
 | _::_,[],_,_,_,_,_,_,_,h=>h.elim
 | o::l,k::kl,n,listed,G,a,hl,hk,hB,h=>by
  have h0:ops[n]?=some o:=by simpa using(hl 0).symm
  have hk0:ks n=k:=by simpa using hk 0 k (by simp)
  simp only[List.length_cons,Region.lexFrom,Bool.and_eq_true]at hB
  obtain⟨⟨hr,hf⟩,hB'⟩:=hB
  obtain⟨h1,h2⟩:=h
  refine IS hQ h0 (Region.noSelect_spec hs) l.length listed G a (Region.free_spec h0 hf) (by simpa using hr) (by rw[hk0];exact h1) fun v hv=>?_
  rw[hk0]at hv ⊢
  exact HC hQ hs l kl (n+1) _ _ _ (fun j=>by have:=hl (j+1);simpa[Nat.add_assoc,Nat.add_comm 1 j]using this)
   (fun j k' hj=>by have:=hk (j+1) k' (by simpa using hj);simpa[Nat.add_assoc,Nat.add_comm 1 j]using this) hB' (h2 v hv)
def AllStay(R:World->World->Prop):List Kind->Prop
 | []=>True
 | k::ks=>(∀ v,CO R (k.pred v))/\AllStay R ks
theorem AllStay.mem:∀ {l:List Kind},AllStay R l -> ∀ k∈l,∀ v,CO R (k.pred v)
 | _::_,h,k,hk=>by
  rcases List.mem_cons.1 hk with rfl | hk
  ·exact h.1
  ·exact AllStay.mem h.2 k hk
theorem E0{id:Nat}{Q:Exit->Act->World->Prop}{a:Act}{w:World}{l:List Oper}(C:World->Prop)(R:World->World->Prop)(kl:List Kind)(hm:P.follows .mixedOrders=true)
  (hB:Region.lexB .any l.toArray=true) (hC:CO R C) (hks:AllStay R kl) (h0:C w.drew)
  (h:wpT P l.toArray R C (fun G a'=>∀ w',C w'->(∀ f∈G,f.2 w')->Q .normal a' w') l kl [] a):(Code.region id l.toArray true).wp P Q a w:=by
 simp only[Region.lexB,Bool.and_eq_true]at hB
 have hks':∀ i v,CO R (((fun i=>kl.getD i (Kind.is undef)) i).pred v):=fun i v=>by
  simp only[List.getD]
  cases hk:kl[i]? with
  | none=>exact fun _ _ _ _=>trivial
  | some k=>exact hks.mem k (List.mem_of_getElem? hk) v
 refine wp_region_any hm (ES (ks:=fun i=>kl.getD i (Kind.is undef)) (Q:=fun G a'=>∀ w',C w'->(∀ f∈G,f.2 w')->Q .normal a' w') hC hks' (fun G a' w' hw hG h=>h w' hw hG) _ _ [] a _ h0
  (fun f hf=>by cases hf) (fun f hf=>by cases hf) ?_)
 have:=HC (md:=.any) (ks:=fun i=>kl.getD i (Kind.is undef)) (fun G G' a' hG h w' hw hF=>h w' hw fun f hf=>hF f (hG f hf)) hB.1 l kl 0 (Array.replicate l.toArray.size false) [] a (by simp)
  (fun j k hj=>by simp[List.getD,hj]) (by simpa using hB.2) h
 simpa using this
theorem Seen.get{o:Oper}{G:List BA}{w:World}(h:Seen ops o G w){d:Tmp}{F:World->Prop}(hm:(some d,F)∈G)(hl:(o.looksAt ops).contains d=true):F w:=
 h _ hm d rfl (by simpa using hl)
variable{Q:List BA->Act->Prop}{o:Oper}{rest:List Oper}{ks:List Kind}{G:List BA}{a:Act}
end
end
end Go.Proofs.Ytmhhdoaiccahaaa
