/- Part 8. Conditions: as each theorem says. -/
import Derived.Test.YtmhhdoaiccahaaaAT07
import Derived.Laws.BytesArg
import Derived.WalkSpells
import Derived.WalkLawsBesides
import Derived.Laws.Strings3
import Derived.Laws.Build
import Derived.Laws.Strings2
import Derived.Laws.StructEq
set_option maxRecDepth 100000
namespace Go.Proofs.Ytmhhdoaiccahaaa
open Go.RowKit
section
abbrev FL:=List (Nat×List (Option IV))
def EU:List (Option IV)->List IV->List IV
 | some _::l,_::m=>.junk::EU l m
 | none::l,x::m=>x::EU l m
 | [],m=>m
 | _,[]=>[]
theorem GW:∀ (l:List (Option IV)) (m:List IV),(EU l m).length=m.length
 | some _::l,_::m=>by simp[EU,GW l m]
 | none::l,_::m=>by simp[EU,GW l m]
 | [],m=>by cases m<;>rfl
 | some _::_,[]=>rfl
 | none::_,[]=>rfl
theorem HD:∀ (l:List (Option IV)) (m:List IV) (j:Nat) (z:IV),(EU l m)[j]?=some z->z=.junk\/((∀ y,l[j]? ≠ some (some y))/\m[j]?=some z)
 | some y::l,x::m,0,z,h=>by
  obtain rfl:IV.junk=z:=by simpa[EU]using h
  exact .inl rfl
 | some _::l,_::m,j+1,z,h=>by
  have:=HD l m j z (by simpa[EU]using h)
  simpa using this
 | none::l,x::m,0,z,h=>by
  obtain rfl:x=z:=by simpa[EU]using h
  exact .inr ⟨fun y h=>by simp at h,rfl⟩
 | none::l,_::m,j+1,z,h=>by
  have:=HD l m j z (by simpa[EU]using h)
  simpa using this
 | [],m,j,z,h=>by
  have e:EU [] m=m:=by cases m<;>rfl
  rw[e]at h
  exact .inr ⟨fun y h=>by simp at h,h⟩
 | some _::_,[],j,z,h=>by simp[EU]at h
 | none::_,[],j,z,h=>by simp[EU]at h
def putJ:FL->BL->BL
 | [],B=>B
 | (b,l)::F,B=>match lk b B with | some x=>(b,⟨x.ty,EU l x.cs⟩)::putJ F B | none=>putJ F B
theorem FG{b:Nat}{B:BL}:∀ {F:FL} {y:Bx},lk b (putJ F B)=some y->(∃ x l,lk b B=some x/\lk b F=some l/\y=⟨x.ty,EU l x.cs⟩)\/(lk b F=none/\lk b B=some y)
 | [],y,h=>.inr ⟨rfl,h⟩
 | (c,l)::F,y,h=>by
  simp only[putJ]at h
  by_cases e:c=b
  ·subst e
   cases hc:lk c B with
   | none=>
    rw[hc]at h
    rcases FG h with⟨x,_,h1,_⟩ | ⟨_,h1⟩
    ·rw[hc]at h1;cases h1
    ·rw[hc]at h1;cases h1
   | some x=>
    rw[hc,AY]at h
    exact .inl ⟨x,l,rfl,AY _ _ _,(Option.some.inj h).symm⟩
  ·have h':lk b (putJ F B)=some y:=by
    cases hc:lk c B with
    | none=>rw[hc]at h;exact h
    | some x=>rw[hc,AV _ _ e]at h;exact h
   rcases FG h' with⟨x,l',h1,h2,h3⟩ | ⟨h1,h2⟩
   ·exact .inl ⟨x,l',h1,(AV _ _ e).trans h2,h3⟩
   ·exact .inr ⟨(AV _ _ e).trans h1,h2⟩
theorem DJ{b:Nat}{B:BL}{F:FL}{x:Bx}(h:lk b B=some x):∃ y,lk b (putJ F B)=some y/\y.ty=x.ty/\y.cs.length=x.cs.length:=by
 induction F with
 | nil=>exact⟨x,h,rfl,rfl⟩
 | cons f F ih=>
  obtain⟨c,l⟩:=f
  simp only[putJ]
  by_cases e:c=b
  ·subst e
   rw[h]
   exact⟨_,AY _ _ _,rfl,GW _ _⟩
  ·cases hc:lk c B with
   | none=>exact ih
   | some z=>
    obtain⟨y,h1,h2⟩:=ih
    exact⟨y,(AV _ _ e).trans h1,h2⟩
section
variable{P:Program}{cx:Cx}{T T':TL}{B:BL}{R:RL}{M:Nat->Nat}{V:Nat->Value}{F:FL}
def Fin(cx:Cx)(B:BL)(R:RL)(M:Nat->Nat)(V:Nat->Value)(b j:Nat)(y:IV)(w:World):Prop:=∃ ty cs v,Blk w (M b) ty cs/\cs[j]?=some v/\VR w (Dc cx B R M V w) M V y v/\v.oneCell'=true
structure Rm (cx:Cx) (B:BL) (R:RL) (M:Nat->Nat) (V:Nat->Value) (F:FL) (w w':World):Prop where
 os:w'.os=w.os
 tape:w'.tape=w.tape
 output:w'.output=w.output
 size:w.heap.size<=w'.heap.size
 block:∀ k,k<w.heap.size->(∀ b l x,lk b F=some l->lk b B=some x->M b≠k)->w'.heap[k]?=w.heap[k]?
 box:∀ b l x ty cs,lk b F=some l->lk b B=some x->Blk w (M b) ty cs -> ∃ cs',Blk w' (M b) ty cs'/\cs'.length=cs.length /\ ∀ (j:Nat) v,cs'[j]?=some v->cs[j]?=some v \/ ∃ y,l[j]?=some (some y)/\VR w' (Dc cx B R M V w') M V y v/\v.oneCell'=true
theorem Rm.of_below{w w':World}(hb:Below w.heap.size w w'):Rm cx B R M V F w w':=
 ⟨hb.os,hb.tape,hb.output,hb.size,fun k hk _=>hb.block k hk,fun _ _ _ _ cs _ _ h=>⟨cs,h.kept hb,rfl,fun _ _ hv=>.inl hv⟩⟩
theorem ND{B':BL}(h1:∀ b x,lk b B=some x -> ∃ y,lk b B'=some y)(h2:∀ b x,lk b B'=some x -> ∃ y,lk b B=some y){w:World}{g:Nat}:Dc cx B R M V w g↔Dc cx B' R M V w g:=by
 constructor
 ·rintro(h | ⟨a1,a2,a3,a4⟩)
  ·exact .inl h
  ·exact .inr ⟨a1,a2,fun b x hx=>by obtain⟨y,hy⟩:=h2 b x hx;exact a3 b y hy,a4⟩
 ·rintro(h | ⟨a1,a2,a3,a4⟩)
  ·exact .inl h
  ·exact .inr ⟨a1,a2,fun b x hx=>by obtain⟨y,hy⟩:=h1 b x hx;exact a3 b y hy,a4⟩
theorem MZ{w:World}{g:Nat}:Dc cx B R M V w g↔Dc cx (putJ F B) R M V w g:=
 ND (fun b x hx=>by obtain⟨y,hy,_⟩:=DJ (F:=F) hx;exact⟨y,hy⟩) fun b x hx=>by
  rcases FG hx with⟨z,_,h,_⟩ | ⟨_,h⟩
  ·exact⟨z,h⟩
  ·exact⟨x,h⟩
theorem Rm.keeps{w w':World}(hh:HR cx (putJ F B) R M V w)(h:Rm cx B R M V F w w'):Keeps (Dc cx (putJ F B) R M V w) w w':=fun g hg=>h.block g (hh.dlt hg) fun b l x hl hx e=>by
 have hg':=MZ.2 hg
 rcases hg' with hg' | ⟨_,_,a3,_⟩
 ·obtain⟨y,hy,_⟩:=DJ (F:=F) hx
  obtain⟨h1,_⟩:=hh.box b y hy
  have:=hh.d0 g hg'
  rcases h1 with h1 | h1
  ·omega
  ·exact this.2 (e▸h1)
 ·exact a3 b x hx e
theorem Rm.step{w w':World}(hh:HR cx (putJ F B) R M V w)(h:Rm cx B R M V F w w'):HR cx (putJ F B) R M V w':=by
 have hk:=h.keeps hh
 have hD:∀ g,Dc cx (putJ F B) R M V w g->Dc cx (putJ F B) R M V w' g:=fun g hg=>hg.mono h.size
 have hown:∀ b l x,lk b F=some l->lk b B=some x->(cx.w0.heap.size<=M b\/cx.bor (M b)) /\ ∃ y,lk b (putJ F B)=some y:=fun b l x hl hx=>by
  obtain⟨y,hy,_⟩:=DJ (F:=F) hx
  exact⟨(hh.box b y hy).1,y,hy⟩
 refine⟨⟨h.os.trans hh.below.os,h.tape.trans hh.below.tape,h.output.trans hh.below.output,Nat.le_trans hh.below.size h.size,fun k hk' hn=>(h.block k (Nat.lt_of_lt_of_le hk' hh.below.size) fun b l x hl hx e=>?_).trans (hh.below.block k hk' hn)⟩,hh.d0,hh.bl,hh.gl,fun b x hx=>?_,fun r x hx=>?_,hh.ro,hh.pin,hh.bb,hh.br,hh.rr⟩
 ·obtain⟨h1,_⟩:=hown b l x hl hx
  rcases h1 with h1 | h1
  ·omega
  ·exact hn (e▸h1)
 ·obtain⟨a1,cs,a2,a3⟩:=hh.box b x hx
  refine⟨a1,?_⟩
  rcases FG hx with⟨z,l,hz,hl,rfl⟩ | ⟨hl,hz⟩
  ·obtain⟨cs',b1,b2,b3⟩:=h.box b l z _ cs hl hz a2
   refine⟨cs',b1,by rw[b2];exact a3.1,fun j y v hy hv=>?_⟩
   rcases b3 j v hv with hc | ⟨y',hy',hv',ho'⟩
   ·have:=a3.2 j y v hy hc
    exact⟨this.1.stay hk hD,this.2⟩
   ·rcases HD l z.cs j y hy with rfl | ⟨hne,_⟩
    ·exact⟨trivial,ho'⟩
    ·exact absurd hy' (hne y')
  ·have hlt:=a2.lt
   refine⟨cs,(h.block _ hlt fun c l' z' hl' hz' e=>?_).trans a2,a3.stay hk hD⟩
   obtain⟨_,y',hy'⟩:=hown c l' z' hl' hz'
   have:c=b:=hh.bb c b y' x hy' hx e
   subst this
   rw[hl]at hl'
   cases hl'
 ·have h1:=hh.row r x hx
  split
  ·rename_i hf
   rw[if_pos hf]at h1
   exact h1.stay hk hD
  ·rename_i hf
   rw[if_neg hf]at h1
   refine Gx.stay h1 (fun g hg=>h.block g (Gx.lt h1 g hg) fun b l z hl hz e=>?_) hk hD
   obtain⟨_,y,hy⟩:=hown b l z hl hz
   exact hh.br b r y x g hy hx (by simpa using hf) hg e
theorem Fin.stay{b j:Nat}{y:IV}{l:List (Option IV)}{x:Bx}(hl:lk b F=some l)(hx:lk b B=some x)(hy:l[j]?=some (some y)){w w':World}(hh:HR cx (putJ F B) R M V w)(h:Rm cx B R M V F w w')(hf:Fin cx B R M V b j y w):Fin cx B R M V b j y w':=by
 obtain⟨ty,cs,v,h1,h2,h3,h4⟩:=hf
 obtain⟨cs',b1,b2,b3⟩:=h.box b l x ty cs hl hx h1
 have hlt:j<cs'.length:=by
  rw[b2]
  rcases Nat.lt_or_ge j cs.length with h | h
  ·exact h
  ·rw[List.getElem?_eq_none h]at h2;cases h2
 have hv':=List.getElem?_eq_getElem hlt
 have hk:Keeps (Dc cx B R M V w) w w':=fun g hg=>h.keeps hh g (MZ.1 hg)
 refine⟨ty,cs',cs'[j],b1,hv',?_⟩
 rcases b3 j _ hv' with hc | ⟨y',hy',h5,h6⟩
 ·rw[h2]at hc
  have e:=Option.some.inj hc
  rw[<- e]
  exact⟨h3.stay hk fun g hg=>hg.mono h.size,h4⟩
 ·rw[hy]at hy'
  have e:y=y':=by injection hy' with h;injection h
  rw[e]
  exact⟨h5,h6⟩
inductive WalkM (P:Program) (cx:Cx) (B:BL) (R:RL) (F:FL) (ops:Array Oper):List Oper->TL->List (Nat×Nat)->TL->List (Nat×Nat)->Prop
 | nil {T:TL} {S:List (Nat×Nat)}:WalkM P cx B R F ops [] T S T S
 | op {o:Oper} {d:Nat} {l:List Oper} {T T':TL} {S S':List (Nat×Nat)} {y:IV}:o.guard=none->o.dst=some d->Nat.blt d cx.n=true->LStep P cx (putJ F B) R o T y->WalkM P cx B R F ops l ((d,y)::T) S T' S'->WalkM P cx B R F ops (o::l) T S T' S'
 | gd (g:Bool) {o:Oper} {d:Nat} {l:List Oper} {T T':TL} {S S':List (Nat×Nat)} {y:IV}:gk ops T o=some g->o.dst=some d->Nat.blt d cx.n=true->(g=true->LStep P cx (putJ F B) R o T y)->WalkM P cx B R F ops l ((d,.opt g y)::T) S T' S'->WalkM P cx B R F ops (o::l) T S T' S'
 | stw {o:Oper} {l:List Oper} {T T':TL} {S S':List (Nat×Nat)} {ty:TypeId} {x y:Operand} {b:Nat} {bx:Bx} {m:List (Option IV)} {ds:List Dat}:o.guard=none->o.dst=none->o.op=.store ty x y->Kn T x (.box b 0)->lk b B=some bx->lk b F=some m->Kn T y (.part (.many ds))->m=ds.map (fun d=>some (.part (.one d)))->ds.all Dat.isOne=true->Nat.beq ds.length bx.cs.length=true->sizeT P ty=some ds.length ->
   WalkM P cx B R F ops l T ((List.range ds.length).map (fun j=>(b,j))++S) T' S'->WalkM P cx B R F ops (o::l) T S T' S'
 | st1 {o:Oper} {l:List Oper} {T T':TL} {S S':List (Nat×Nat)} {ty:TypeId} {x y:Operand} {b j:Nat} {bx:Bx} {m:List (Option IV)} {v:IV}:o.guard=none->o.dst=none->o.op=.store ty x y->Kn T x (.box b j)->lk b B=some bx->lk b F=some m->Kn T y v->m[j]?=some (some v)->v.isOne=true->Nat.blt j bx.cs.length=true->sizeT P ty=some 1 ->
   WalkM P cx B R F ops l T ((b,j)::S) T' S'->WalkM P cx B R F ops (o::l) T S T' S'
abbrev Hj(cx:Cx)(B:BL)(R:RL)(M:Nat->Nat)(V:Nat->Value)(F:FL)(w:World):Prop:=HR cx (putJ F B) R M V w
def QD(cx:Cx)(B:BL)(R:RL)(M:Nat->Nat)(V:Nat->Value)(F:FL)(S:List (Nat×Nat))(w:World):Prop:=∀ s∈S,∀ l x y,lk s.1 F=some l->lk s.1 B=some x->l[s.2]?=some (some y)->Fin cx B R M V s.1 s.2 y w
def Rz(cx:Cx)(B:BL)(R:RL)(M:Nat->Nat)(V:Nat->Value)(F:FL)(w w':World):Prop:=Hj cx B R M V F w->Hj cx B R M V F w'/\(∀ (y:IV) (v:Value),VR w (Dc cx (putJ F B) R M V w) M V y v->VR w' (Dc cx (putJ F B) R M V w') M V y v) /\ ∀ S,QD cx B R M V F S w->QD cx B R M V F S w'
theorem Rz.of{w w':World}(h:Hj cx B R M V F w->Rm cx B R M V F w w'):Rz cx B R M V F w w':=fun hh=>
 ⟨(h hh).step hh,fun _ _ hv=>hv.stay ((h hh).keeps hh) fun _ hg=>hg.mono (h hh).size,fun _ hS s hs l x y hl hx hy=>Fin.stay hl hx hy hh (h hh) (hS s hs l x y hl hx hy)⟩
def DQ(cx:Cx)(B:BL)(R:RL)(M:Nat->Nat)(V:Nat->Value)(F:FL)(y:IV):Kind:=
 match y.whole with
 | some v=>Kind.is v
 | none=>⟨none,fun v w=>Hj cx B R M V F w/\VR w (Dc cx (putJ F B) R M V w) M V y v⟩
def NJ(cx:Cx)(B:BL)(R:RL)(M:Nat->Nat)(V:Nat->Value)(F:FL)(S:List (Nat×Nat)):Kind:=⟨none,fun _ w=>Hj cx B R M V F w/\QD cx B R M V F S w⟩
def GtM(cx:Cx)(B:BL)(R:RL)(M:Nat->Nat)(V:Nat->Value)(F:FL)(C:World->Prop)(T:TL)(G:List BA)(a:Act):Prop:=
 ∀ t x,lk t T=some x->(∀ w,C w->VR w (Dc cx (putJ F B) R M V w) M V x (a.tmps.getD t undef))\/(x.whole=none /\ ∃ f,(some t,f)∈G /\ ∀ w,f w->VR w (Dc cx (putJ F B) R M V w) M V x (a.tmps.getD t undef))
theorem GtM.put{C:World->Prop}{G:List BA}{a:Act}(h:GtM cx B R M V F C T G a){d:Nat}(hd:d<a.tmps.size){y:IV}{v:Value}(hok:(DQ cx B R M V F y).ok v):GtM cx B R M V F C ((d,y)::T) ((some d,(DQ cx B R M V F y).pred v)::G) (a.put (some d) v):=fun t x hx=>by
 rw[DT a d t v hd]
 rcases AB hx with⟨rfl,rfl⟩ | ⟨hne,hx⟩
 ·rw[if_pos rfl]
  unfold DQ at hok ⊢
  cases hw:x.whole with
  | some u=>
   rw[hw]at hok
   have:v=u:=Kind.ok_is.1 hok
   subst this
   exact .inl fun w _=>GO hw
  | none=>exact .inr ⟨rfl,_,List.mem_cons_self,fun w h=>h.2⟩
 ·rw[if_neg hne]
  rcases h t x hx with h | ⟨h1,f,h2,h3⟩
  ·exact .inl h
  ·exact .inr ⟨h1,f,List.mem_cons_of_mem _ h2,h3⟩
def GsM(cx:Cx)(B:BL)(R:RL)(M:Nat->Nat)(V:Nat->Value)(F:FL)(S:List (Nat×Nat))(G:List BA):Prop:=∀ s∈S,∃ f∈G,∀ w,f.2 w->QD cx B R M V F [s] w
theorem S9{C:World->Prop}{ops:Array Oper}{o:Oper}{y:IV}{G:List BA}{a:Act}(hC:∀ w,C w->Hj cx B R M V F w)(hG:GtM cx B R M V F C T G a)(h:LStep P cx (putJ F B) R o T y){w:World}(hc:C w)(hS:Seen ops o G w):
  BU P (Rz cx B R M V F) o a (DQ cx B R M V F y) w:=by
 have h1:=h M V w a (hC w hc) fun t z hm hz=>by
  rcases hG t z hz with h | ⟨_,f,h2,h3⟩
  ·exact h w hc
  ·exact h3 w (hS _ h2 t rfl (D6 hm))
 have key:∀ {v:Value} {w':World},Below w.heap.size w w'->VR w' (Dc cx (putJ F B) R M V w') M V y v->Rz cx B R M V F w w'/\(DQ cx B R M V F y).ok v/\(DQ cx B R M V F y).pred v w':=fun{v w'} hb hv=>by
  refine⟨Rz.of fun _=>Rm.of_below hb,?_⟩
  unfold DQ
  cases hw:y.whole with
  | some u=>exact⟨Kind.ok_is.2 (CF hw hv),trivial⟩
  | none=>exact⟨fun c h=>(by cases h),(hC w hc).step hb,hv⟩
 unfold BU
 generalize(execOp a.eval o).run P w=r at *
 cases r with
 | halt x w'=>exact h1.elim
 | ok n w'=>
  cases n<;>simp only[Upon]at h1<;>simp only[CM]
  case value u=>exact key h1.1 h1.2
  case skip=>exact key h1.1 h1.2
  case enter f args=>
   obtain⟨rfl,h1⟩:=h1
   exact h1.mono fun e w'' ⟨v,he,h2,h3⟩=>⟨v,he,key h2 h3⟩
theorem WalkM.wpT{C:World->Prop}{ops:Array Oper}{Q:List BA->Act->Prop}(hC:∀ w,C w->Hj cx B R M V F w)(hc:∃ w,C w){l:List Oper}{S S':List (Nat×Nat)}(hW:WalkM P cx B R F ops l T S T' S'):
  ∃ kl,AllStay (Rz cx B R M V F) kl /\ ∀ {G:List BA} {a:Act},a.tmps.size=cx.n->a.defers=[]->GtM cx B R M V F C T G a->GsM cx B R M V F S G->(∀ G' a',a'.tmps.size=cx.n->a'.defers=[]->GtM cx B R M V F C T' G' a'->GsM cx B R M V F S' G'->Q G' a')->wpT P ops (Rz cx B R M V F) C Q l kl G a:=by
 have hst:∀ y v,CO (Rz cx B R M V F) ((DQ cx B R M V F y).pred v):=fun y v=>by
  unfold DQ
  cases y.whole with
  | some u=>exact fun _ _ _ _=>trivial
  | none=>exact fun w w' hr ⟨h1,h2⟩=>⟨(hr h1).1,(hr h1).2.1 _ _ h2⟩
 have hss:∀ S v,CO (Rz cx B R M V F) ((NJ cx B R M V F S).pred v):=fun S v w w' hr ⟨h1,h2⟩=>⟨(hr h1).1,(hr h1).2.2 S h2⟩
 have hmore:∀ {S:List (Nat×Nat)} {G:List BA} (f:BA),GsM cx B R M V F S G->GsM cx B R M V F S (f::G):=fun f h s hs=>by
  obtain⟨g,h1,h2⟩:=h s hs
  exact⟨g,List.mem_cons_of_mem _ h1,h2⟩
 have htmore:∀ {T:TL} {G:List BA} {a:Act} (f:BA),GtM cx B R M V F C T G a->GtM cx B R M V F C T (f::G) a:=fun f h t x hx=>by
  rcases h t x hx with h | ⟨h1,g,h2,h3⟩
  ·exact .inl h
  ·exact .inr ⟨h1,g,List.mem_cons_of_mem _ h2,h3⟩
 induction hW with
 | nil=>exact⟨[],trivial,fun hn hd hG hS hQ=>hQ _ _ hn hd hG hS⟩
 | op hg hd hn hs _ ih=>
  rename_i o d l T T' S S' y _
  obtain⟨kl,h1,h2⟩:=ih
  refine⟨DQ cx B R M V F y::kl,⟨hst _,h1⟩,fun{G a} hsz hdf hG hS hQ=>⟨?_,fun v hv=>?_⟩⟩
  ·unfold AskT
   rw[if_pos (by simp[Region.wanted,hg])]
   exact fun w hc hSn=>S9 hC hG hs hc hSn
  ·rw[hd]
   exact h2 (by simpa[Act.put]using hsz) hdf (hG.put (by rw[hsz];exact BJ hn) hv) (hmore _ hS) hQ
 | gd g hg hd hn hs _ ih=>
  rename_i o d l T T' S S' y _
  obtain⟨kl,h1,h2⟩:=ih
  refine⟨DQ cx B R M V F (.opt g y)::kl,⟨hst _,h1⟩,fun{G a} hsz hdf hG hS hQ=>⟨?_,fun v hv=>?_⟩⟩
  ·obtain⟨w0,hw0⟩:=hc
   have hw:=EH hg fun t z v _ hz hv=>by
    rcases hG t z hz with h | ⟨h1,_⟩
    ·exact CF hv (h w0 hw0)
    ·rw[h1]at hv;cases hv
   unfold AskT
   rw[hw]
   cases g with
   | true=>
    rw[if_pos rfl]
    refine fun w hc hSn=>S9 hC hG (fun M V w a hh ht=>?_) hc hSn
    have h1:=hs rfl M V w a hh ht
    revert h1
    generalize(execOp a.eval _).run P w=r
    intro h1
    cases r with
    | halt x w'=>exact h1
    | ok n w'=>
     cases n<;>simp only[Upon]at h1 ⊢
     case value u=>exact⟨h1.1,fun _=>h1.2,fun h=>(by cases h)⟩
     case skip=>exact⟨h1.1,fun _=>h1.2,fun h=>(by cases h)⟩
     case enter f args=>exact⟨h1.1,h1.2.mono fun e w'' ⟨v,he,h3,h4⟩=>⟨v,he,h3,fun _=>h4,fun h=>(by cases h)⟩⟩
   | false=>
    rw[if_neg (by simp)]
    unfold DQ
    rw[FZ]
    exact⟨Kind.ok_is.2 rfl,fun _=>trivial⟩
  ·rw[hd]
   exact h2 (by simpa[Act.put]using hsz) hdf (hG.put (by rw[hsz];exact BJ hn) hv) (hmore _ hS) hQ
 | stw hg hd ho hx hb hlF hy hm h1 hlen hs _ ih=>
  rename_i o l T T' S S' ty x y b bx m ds _
  obtain⟨kl,k1,k2⟩:=ih
  refine⟨NJ cx B R M V F ((List.range ds.length).map (fun j=>(b,j)))::kl,⟨hss _,k1⟩,fun{G a} hsz hdf hG hS hQ=>⟨?_,fun v hv=>?_⟩⟩
  ·unfold AskT
   rw[if_pos (by simp[Region.wanted,hg])]
   refine fun w hcw hSn=>?_
   have hh:=hC w hcw
   have hT:∀ x' t z,x'∈o.op.operands->x'=.tmp t->lk t T=some z->VR w (Dc cx (putJ F B) R M V w) M V z (a.tmps.getD t undef):=fun x' t z hm' e hz=>by
    rcases hG t z hz with h | ⟨_,f,h2,h3⟩
    ·exact h w hcw
    ·exact h3 w (hSn _ h2 t rfl (D6 (e▸hm')))
   have hxv:a.eval x=_:=hx w (Dc cx (putJ F B) R M V w) M V a fun t z e hz=>hT x t z (by simp[ho,Op.operands]) e hz
   obtain⟨xs,hyv,hyf⟩:=hy w (Dc cx (putJ F B) R M V w) M V a fun t z e hz=>hT y t z (by simp[ho,Op.operands]) e hz
   have hone:=hyf.one h1
   obtain⟨bj,hbj,hty,hlj⟩:=DJ (F:=F) hb
   obtain⟨_,cs,a2,a3⟩:=hh.box b bj hbj
   have hlen':=Nat.eq_of_beq_eq_true hlen
   have hxl:xs.length=ds.length:=hyf.1.symm
   have hcl:cs.length=xs.length:=by
    have:=a3.1
    omega
   have hst:=run_storeCells_at (P:=P) (M b) 0 bj.ty xs 0 cs.toArray w a2 (by simp;omega) hone
   have hrow:=setRow_heap w (M b) cs.toArray xs.toArray bj.ty (0,0) a2
   have e1:(List.take (0+0) cs.toArray.toList++xs++List.drop (0+0+xs.length) cs.toArray.toList).toArray=xs.toArray:=by
    rw[Nat.zero_add,Nat.zero_add,List.take_zero,<- hcl]
    simp
   rw[e1]at hst
   have hD:∀ g,Dc cx (putJ F B) R M V w g->Dc cx (putJ F B) R M V (w.setRow (M b) xs.toArray) g:=fun g hg=>hg.mono (by simp)
   have hkp:Keeps (Dc cx (putJ F B) R M V w) w (w.setRow (M b) xs.toArray):=fun g hg=>setRow_other w (M b) g _ fun e=>by
    rcases hg with hg | ⟨_,_,hg,_⟩
    ·have:=hh.d0 g hg
     rcases(hh.box b bj hbj).1 with h | h
     ·omega
     ·exact this.2 (e▸h)
    ·exact hg b bj hbj e.symm
   have hVR:∀ (j:Nat) v z,xs[j]?=some v->m[j]?=some (some z)->VR (w.setRow (M b) xs.toArray) (Dc cx (putJ F B) R M V (w.setRow (M b) xs.toArray)) M V z v:=fun j v z hv hz=>by
    rw[hm,List.getElem?_map,Option.map_eq_some_iff]at hz
    obtain⟨d',hd',e⟩:=hz
    obtain rfl:IV.part (.one d')=z:=by simpa using e
    exact(show VR w (Dc cx (putJ F B) R M V w) M V (.part (.one d')) v from hyf.2 j d' v hd' hv).stay hkp hD
   have hRm:Rm cx B R M V F w (w.setRow (M b) xs.toArray):=by
    refine⟨rfl,rfl,rfl,by simp,fun k hk hne=>setRow_other w (M b) k _ fun e=>hne b m bx hlF hb e.symm,fun c l' x' ty' cs' hl' hx' hblk=>?_⟩
    by_cases e:M c=M b
    ·obtain⟨yc,hyc,_⟩:=DJ (F:=F) hx'
     have:c=b:=hh.bb c b yc bj hyc hbj e
     subst this
     have e2:cs'=cs/\ty'=bj.ty:=by
      have h1:w.heap[M c]?=some (.cells cs'.toArray ty' (0,0)):=hblk
      have h2:w.heap[M c]?=some (.cells cs.toArray bj.ty (0,0)):=a2
      rw[h1]at h2
      injection h2 with h2
      injection h2 with h3 h4
      exact⟨by simpa using h3,h4⟩
     refine⟨xs,by rw[e2.2];exact hrow,by rw[e2.1];exact hcl.symm,fun j v hv=>.inr ?_⟩
     rw[hlF]at hl'
     obtain rfl:=Option.some.inj hl'
     have hjl:j<ds.length:=by
      rw[<- hxl]
      rcases Nat.lt_or_ge j xs.length with h | h
      ·exact h
      ·rw[List.getElem?_eq_none h]at hv;cases hv
     have hz:m[j]?=some (some (.part (.one ds[j]))):=by rw[hm,List.getElem?_map,List.getElem?_eq_getElem hjl];rfl
     refine⟨_,hz,?_,hone v (List.mem_of_getElem? hv)⟩
     exact(hVR j v _ hv hz).stay (Keeps.refl _ _) fun g hg=>MZ.2 hg
    ·exact⟨cs',(setRow_other w (M b) (M c) _ e).trans hblk,rfl,fun j v hv=>.inl hv⟩
   have hsz:=C9 hs (w:=w)
   have hrun:(execOp a.eval o).run P w=.ok .skip (w.setRow (M b) xs.toArray):=by
    unfold execOp
    simp only[ho,hxv,hyv,Instr.storeAt,Instr.sureAddr,Sem.run_bind,Sem.run_pure,Result.andThen_ok]
    simp[storeVar,hsz,hxl,Value.cells,hst]
   unfold BU
   rw[hrun]
   refine⟨Rz.of fun _=>hRm,(fun c h=>by cases h),hRm.step hh,fun s hsm l' x' y' hl' hx' hy'=>?_⟩
   obtain⟨j,hj,rfl⟩:=List.mem_map.1 hsm
   simp only at hl' hx' hy'
   rw[hlF]at hl'
   obtain rfl:=Option.some.inj hl'
   have hjl:j<xs.length:=by rw[hxl];simpa using hj
   have hv:=List.getElem?_eq_getElem hjl
   exact⟨bj.ty,xs,xs[j],hrow,hv,(hVR j _ y' hv hy').stay (Keeps.refl _ _) fun g hg=>MZ.2 hg,hone _ (List.mem_of_getElem? hv)⟩
  ·rw[hd]
   refine k2 hsz hdf (htmore _ hG) (fun s hsm=>?_) hQ
   rcases List.mem_append.1 hsm with h | h
   ·exact⟨_,List.mem_cons_self,fun w hw s' hs'=>hw.2 s' (by
     rw[List.mem_singleton]at hs'
     rw[hs']
     exact h)⟩
   ·exact hmore _ hS s h
 | st1 hg hd ho hx hb hlF hy hm h1 hlen hs _ ih=>
  rename_i o l T T' S S' ty x y b j bx m v0 _
  obtain⟨kl,k1,k2⟩:=ih
  refine⟨NJ cx B R M V F [(b,j)]::kl,⟨hss _,k1⟩,fun{G a} hsz hdf hG hS hQ=>⟨?_,fun v hv=>?_⟩⟩
  ·unfold AskT
   rw[if_pos (by simp[Region.wanted,hg])]
   refine fun w hcw hSn=>?_
   have hh:=hC w hcw
   have hT:∀ x' t z,x'∈o.op.operands->x'=.tmp t->lk t T=some z->VR w (Dc cx (putJ F B) R M V w) M V z (a.tmps.getD t undef):=fun x' t z hm' e hz=>by
    rcases hG t z hz with h | ⟨_,f,h2,h3⟩
    ·exact h w hcw
    ·exact h3 w (hSn _ h2 t rfl (D6 (e▸hm')))
   have hxv:a.eval x=_:=hx w (Dc cx (putJ F B) R M V w) M V a fun t z e hz=>hT x t z (by simp[ho,Op.operands]) e hz
   have hyv:=hy w (Dc cx (putJ F B) R M V w) M V a fun t z e hz=>hT y t z (by simp[ho,Op.operands]) e hz
   have hone:=hyv.one h1
   obtain⟨bj,hbj,hty,hlj⟩:=DJ (F:=F) hb
   obtain⟨_,cs,a2,a3⟩:=hh.box b bj hbj
   have hj':j<cs.length:=by
    have:=a3.1
    have:=BJ hlen
    omega
   have hcell:w.cell? ⟨M b,j,none⟩=some cs[j]:=(a2.cell j).trans (List.getElem?_eq_getElem hj')
   have hst:(store ⟨M b,j,none⟩ (a.eval y)).run P w=.ok () (w.setCell ⟨M b,j,none⟩ (a.eval y)):=by
    rw[run_store P w _ _ _ hone,hcell]
    simp[a2.frozen j]
   have hadd:(⟨M b,j,none⟩:Addr).add 0=⟨M b,j,none⟩:=by unfold Addr.add;split<;>simp_all
   have hcl:(a.eval y).cells = #[a.eval y]:=by
    revert hone
    generalize a.eval y=u
    intro h
    cases u<;>first | rfl | cases h
   have hrow:Blk (w.setCell ⟨M b,j,none⟩ (a.eval y)) (M b) bj.ty (cs.set j (a.eval y)):=a2.set_ j (a.eval y)
   have hoth:∀ k,k≠M b->(w.setCell ⟨M b,j,none⟩ (a.eval y)).heap[k]?=w.heap[k]?:=fun k hk=>Below.heap_setCell w ⟨M b,j,none⟩ _ k hk
   have hsize:w.heap.size=(w.setCell ⟨M b,j,none⟩ (a.eval y)).heap.size:=by simp[World.setCell]
   have hD:∀ g,Dc cx (putJ F B) R M V w g->Dc cx (putJ F B) R M V (w.setCell ⟨M b,j,none⟩ (a.eval y)) g:=fun g hg=>hg.mono (Nat.le_of_eq hsize)
   have hkp:Keeps (Dc cx (putJ F B) R M V w) w (w.setCell ⟨M b,j,none⟩ (a.eval y)):=fun g hg=>hoth g fun e=>by
    rcases hg with hg | ⟨_,_,hg,_⟩
    ·have:=hh.d0 g hg
     rcases(hh.box b bj hbj).1 with h | h
     ·omega
     ·exact this.2 (e▸h)
    ·exact hg b bj hbj e.symm
   have hVR:=hyv.stay hkp hD
   have hRm:Rm cx B R M V F w (w.setCell ⟨M b,j,none⟩ (a.eval y)):=by
    refine⟨rfl,rfl,rfl,Nat.le_of_eq hsize,fun k hk hne=>hoth k fun e=>hne b m bx hlF hb e.symm,fun c l' x' ty' cs' hl' hx' hblk=>?_⟩
    by_cases e:M c=M b
    ·obtain⟨yc,hyc,_⟩:=DJ (F:=F) hx'
     have:c=b:=hh.bb c b yc bj hyc hbj e
     subst this
     have e2:cs'=cs/\ty'=bj.ty:=by
      have h1:w.heap[M c]?=some (.cells cs'.toArray ty' (0,0)):=hblk
      have h2:w.heap[M c]?=some (.cells cs.toArray bj.ty (0,0)):=a2
      rw[h1]at h2
      injection h2 with h2
      injection h2 with h3 h4
      exact⟨by simpa using h3,h4⟩
     refine⟨cs.set j (a.eval y),by rw[e2.2];exact hrow,by rw[e2.1];simp,fun i v hv=>?_⟩
     rw[hlF]at hl'
     obtain rfl:=Option.some.inj hl'
     rw[List.getElem?_set]at hv
     split at hv
     ·rename_i hij
      subst hij
      obtain rfl:=Option.some.inj hv
      exact .inr ⟨v0,hm,hVR.stay (Keeps.refl _ _) (fun g hg=>MZ.2 hg),hone⟩
     ·rw[e2.1]
      exact .inl hv
    ·exact⟨cs',(hoth (M c) e).trans hblk,rfl,fun j v hv=>.inl hv⟩
   have hsz':=C9 hs (w:=w)
   have hrun:(execOp a.eval o).run P w=.ok .skip (w.setCell ⟨M b,j,none⟩ (a.eval y)):=by
    unfold execOp
    simp only[ho,hxv,Instr.storeAt,Instr.sureAddr,Sem.run_bind,Sem.run_pure,Result.andThen_ok]
    simp[storeVar,hsz',hcl,storeCells,hadd,hst]
   unfold BU
   rw[hrun]
   refine⟨Rz.of fun _=>hRm,(fun c h=>by cases h),hRm.step hh,fun s hsm l' x' y' hl' hx' hy'=>?_⟩
   rw[List.mem_singleton]at hsm
   subst hsm
   simp only at hl' hx' hy'
   rw[hlF]at hl'
   obtain rfl:=Option.some.inj hl'
   rw[hm]at hy'
   obtain rfl:v0=y':=by injection hy' with h;injection h
   exact⟨bj.ty,_,a.eval y,hrow,by rw[List.getElem?_set,if_pos rfl,if_pos hj'],hVR.stay (Keeps.refl _ _) (fun g hg=>MZ.2 hg),hone⟩
  ·rw[hd]
   refine k2 hsz hdf (htmore _ hG) (fun s hsm=>?_) hQ
   rcases List.mem_cons.1 hsm with h | h
   ·exact⟨_,List.mem_cons_self,fun w hw=>h▸hw.2⟩
   ·exact hmore _ hS s h
end
end
def str(l:List UInt8):ByteArray:=⟨l.toArray⟩
theorem CP(l:List UInt8):(str l).toList=l:=ByteArray.toList_mk l
theorem Q1(l:List UInt8):(str l).size=l.length:=by simp[str,ByteArray.size]
section
section
variable{P:Program}{cx:Cx}{T:TL}{B:BL}{R:RL}{o:Oper}
abbrev IV.str(l:List UInt8):IV:=.is (.string (Go.Proofs.Ytmhhdoaiccahaaa.str l))
section
variable{t:TypeId}{a b:List UInt8}
theorem OX(a b:List UInt8):(a==b)=decide (a=b):=by
 by_cases h:a=b
 ·subst h
  simp
 ·rw[decide_eq_false h]
  simpa using h
theorem P0:D1 P .neq t (.string (str a)) (.string (str b)) (.bool (!decide (a=b))):=fun _ _ w=>by
 simp only[eqGuard,binOp,Op.stringOp,CP,OX]
 rfl
end
theorem RW{x:Operand}{t:TypeId}{l:List UInt8}(ho:o.op=.call { callee:=.builtin .len,args := #[x],argTypes := #[t] })(hx:Kn T x (.is (.string (str l))))(ht:P.underlying t=some .string):
  LStep P cx B R o T (.is (.int .i64 (l.length:Int))):=LStep.same fun M V w a _ hk=>by
 have h1:=(hk x _ (by simp[ho,Op.operands,Call.operands]) hx).is_eq
 exact⟨_,by simp[execOp,ho,h1,resolve,invoke,builtin,run_len_string w t _ (str l) ht,goInt,Q1],.cell _⟩
def Dat.iface? : Dat->Bool
 | .ifc _ _=>true
 | .cell (.iface _ _)=>true
 | _=>false
theorem Lies.iface{w:World}{D:Nat->Prop}{d:Dat}{v:Value}(h:Lies w D d v)(hd:d.iface?=true):∃ s u,v=.iface s u:=by
 cases h with
 | ifc t d v _=>exact⟨t,v,rfl⟩
 | cell v=>
  cases v<;>first | exact⟨_,_,rfl⟩ | cases hd
 | none=>cases hd
 | row=>cases hd
 | fn=>cases hd
 | pref=>cases hd
 | ptr=>cases hd
 | map=>cases hd
theorem VRs.append{w:World}{D:Nat->Prop}{M:Nat->Nat}{V:Nat->Value}:∀ {xs ys:List IV} {us vs:List Value},VRs w D M V xs us->VRs w D M V ys vs->VRs w D M V (xs++ys) (us++vs)
 | [],_,[],_,_,h=>h
 | _::_,_,_::_,_,h1,h2=>⟨h1.1,VRs.append h1.2 h2⟩
 | [],_,_::_,_,h,_=>h.elim
 | _::_,_,[],_,h,_=>h.elim
end
end
section
noncomputable def JF (p:Prop):Bool:=@decide p (Classical.propDecidable p)
theorem I1{p:Prop}:JF p=true↔p:=by unfold JF;exact @decide_eq_true_iff p (Classical.propDecidable p)
theorem PA{p:Prop}{b:Bool}(h:b=true↔p):b=JF p:=by
 cases b
 ·cases hc:JF p
  ·rfl
  ·exact absurd (h.2 (I1.1 hc)) (by decide)
 ·exact(I1.2 (h.1 rfl)).symm
inductive Alike (P:Program) (t:TypeId):Value->Value->Prop where
 | int (k k':IntKind) (a b:Int) (h:P.underlying t=some (.int k')):Alike P t (.int k a) (.int k b)
 | str (a b:List UInt8) (h:P.underlying t=some .string):Alike P t (.string (str a)) (.string (str b))
def PD(P:Program):Nat->List Field->List Value->List Value->Prop
 | _,[],[],[]=>True
 | i,f::fs,a::aa,b::bs=>f.offset=i/\f.name ≠ "_" /\ Alike P f.type a b/\PD P (i+1) fs aa bs
 | _,_,_,_=>False
theorem F0{P:Program}{t:TypeId}{xs:Array Value}{i:Nat}{v:Value}(w:World)(ht:P.underlying t=some .string \/ ∃ k,P.underlying t=some (.int k))(h:xs[i]?=some v):(part t xs i).run P w=.ok v w:=by
 rcases ht with hu | ⟨k,hu⟩<;>simp[part,isAgg,run_underlying hu,h]
theorem GB{P:Program}{t:TypeId}{a b:Value}(d:Nat)(w:World)(h:Alike P t a b):∃ x,(Op.equalIn (d+1) t a b).run P w=.ok x w/\(x=true↔a=b):=by
 cases h with
 | int k k' a b hu=>exact⟨_,run_equalIn_int w d t k k' a b hu,by simp⟩
 | str a b hu=>exact⟨_,run_equalIn_string w d t _ _ hu,by rw[CP,CP,beq_iff_eq];constructor<;>intro h<;>first | (rw[h]) | (injection h with h;have:=congrArg ByteArray.toList h;rwa [CP,CP]at this)⟩
theorem Alike.plain{P:Program}{t:TypeId}{a b:Value}(h:Alike P t a b):P.underlying t=some .string \/ ∃ k,P.underlying t=some (.int k):=by
 cases h with
 | int k k' a b hu=>exact .inr ⟨k',hu⟩
 | str a b hu=>exact .inl hu
theorem CX{P:Program}(d:Nat)(w:World)(xs ys:List Value):∀ (fs:List Field) (i:Nat) (aa bs:List Value),PD P i fs aa bs->xs.drop i=aa->ys.drop i=bs ->
  ∃ x,(Op.eqFields (d+1) xs.toArray ys.toArray fs).run P w=.ok x w/\(x=true↔aa=bs)
 | [],i,[],[],_,_,_=>⟨true,by simp[Op.eqFields],by simp⟩
 | f::fs,i,a::aa,b::bs,h,hx,hy=>by
  obtain⟨h1,h2,h3,h4⟩:=h
  have hx1:xs[i]?=some a:=by rw[<- Nat.add_zero i,<- List.getElem?_drop,hx];rfl
  have hy1:ys[i]?=some b:=by rw[<- Nat.add_zero i,<- List.getElem?_drop,hy];rfl
  have hx2:xs.drop (i+1)=aa:=by rw[<- List.drop_drop,hx];rfl
  have hy2:ys.drop (i+1)=bs:=by rw[<- List.drop_drop,hy];rfl
  obtain⟨x,e1,e2⟩:=GB d w h3
  obtain⟨y,e3,e4⟩:=CX d w xs ys fs (i+1) aa bs h4 hx2 hy2
  subst h1
  simp only[Op.eqFields,if_pos h2,Sem.run_bind,F0 (P:=P) (xs:=xs.toArray) w h3.plain (by simpa using hx1),F0 (P:=P) (xs:=ys.toArray) w h3.plain (by simpa using hy1),e1,Result.andThen_ok]
  cases x
  ·refine⟨false,by simp,?_⟩
   simp only[Bool.false_eq_true,false_iff,List.cons.injEq,not_and]
   intro h
   exact absurd (e2.2 h) (by decide)
  ·refine⟨y,by simpa using e3,?_⟩
   rw[e4,List.cons.injEq]
   exact⟨fun h=>⟨e2.1 rfl,h⟩,fun h=>h.2⟩
 | [],_,_::_,_,h,_,_=>h.elim
 | [],_,[],_::_,h,_,_=>h.elim
 | _::_,_,[],_,h,_,_=>h.elim
 | _::_,_,_::_,[],h,_,_=>h.elim
def LO(P:Program):Nat->List Field->List Bool->Bool
 | _,[],[]=>true
 | i,f::fs,k::ks=>Nat.beq f.offset i && !(f.name == "_")&&(match P.underlying f.type with | some .string=>k | some (.int _) => !k | _=>false)&&LO P (i+1) fs ks
 | _,_,_=>false
inductive KindsOf:List Bool->List Value->List Value->Prop where
 | nil:KindsOf [] [] []
 | str (a b:List UInt8) {ks:List Bool} {aa bs:List Value} (h:KindsOf ks aa bs):KindsOf (true::ks) (.string (str a)::aa) (.string (str b)::bs)
 | int (k:IntKind) (a b:Int) {ks:List Bool} {aa bs:List Value} (h:KindsOf ks aa bs):KindsOf (false::ks) (.int k a::aa) (.int k b::bs)
theorem II{P:Program}:∀ {fs:List Field} {i:Nat} {ks:List Bool} {aa bs:List Value},LO P i fs ks=true->KindsOf ks aa bs->PD P i fs aa bs
 | [],_,_,_,_,_,.nil=>trivial
 | f::fs,i,_,_,_,h,.str a b hk=>by
  simp only[LO,Bool.and_eq_true]at h
  obtain⟨⟨⟨h1,h2⟩,h3⟩,h4⟩:=h
  refine⟨Nat.eq_of_beq_eq_true h1,fun e=>by rw[e]at h2;exact absurd h2 (by decide),?_,II h4 hk⟩
  cases hu:P.underlying f.type with
  | none=>rw[hu]at h3;cases h3
  | some d=>cases d<;>rw[hu]at h3<;>first | exact .str a b hu | cases h3
 | f::fs,i,_,_,_,h,.int k a b hk=>by
  simp only[LO,Bool.and_eq_true]at h
  obtain⟨⟨⟨h1,h2⟩,h3⟩,h4⟩:=h
  refine⟨Nat.eq_of_beq_eq_true h1,fun e=>by rw[e]at h2;exact absurd h2 (by decide),?_,II h4 hk⟩
  cases hu:P.underlying f.type with
  | none=>rw[hu]at h3;cases h3
  | some d=>cases d<;>rw[hu]at h3<;>first | exact .int k _ a b hu | cases h3
 | [],_,_,_,_,h,.str _ _ _=>by cases h
 | [],_,_,_,_,h,.int _ _ _ _=>by cases h
 | _::_,_,_,_,_,h,.nil=>by cases h
section
variable{P:Program}{cx:Cx}{T:TL}{B:BL}{R:RL}{o:Oper}
theorem QG{t:TypeId}{cs ds:List Value}(ht:P.underlying t=some (.struct (P.fieldsOf t)))(hp:P.stoodInHeld t=false)(hm:P.eqGuardType P.depth t=false)(hf:PD P 0 (P.fieldsOf t).toList cs ds):D1 P .neq t (.agg cs.toArray) (.agg ds.toArray) (.bool (!JF (cs=ds))):=fun x y w=>by
 obtain⟨z,h1,h2⟩:=CX 9998 w cs ds _ 0 cs ds hf rfl rfl
 rw[Sem.run_bind,run_eqGuard_agg w .neq t x y _ _ hm,Result.andThen_ok,run_neq_struct,run_equalIn_agg w 9999 t _ _ ht hp,h1,Result.andThen_ok,PA h2]
theorem GP{w:World}{D:Nat->Prop}{M:Nat->Nat}{V:Nat->Value}{cs:List Value}{v:Value}(h:VR w D M V (.part (.many (cs.map .cell))) v):v=.agg cs.toArray:=by
 obtain⟨xs,rfl,h⟩:=h
 congr 2
 induction cs generalizing xs with
 | nil=>exact List.length_eq_zero_iff.1 (by simpa using h.1.symm)
 | cons c cs ih=>
  obtain⟨x,ys,rfl,h1,h2⟩:=h.head
  rw[h1.cell_eq,ih ys h2]
theorem RF{x y:Operand}{op:BinOp}{t t':TypeId}{cs ds:List Value}{r:Value}(ho:o.op=.binOp op t x y t')(hx:Kn T x (.part (.many (cs.map .cell))))(hy:Kn T y (.part (.many (ds.map .cell))))(h:D1 P op t (.agg cs.toArray) (.agg ds.toArray) r):LStep P cx B R o T (.is r):=LStep.same fun M V w a _ hk=>by
 have h1:=GP (hk x _ (by simp[ho,Op.operands]) hx)
 have h2:=GP (hk y _ (by simp[ho,Op.operands]) hy)
 refine⟨r,?_,.cell r⟩
 have:=h x y w
 unfold execOp
 simp only[ho,h1,h2]
 rw[Sem.run_bind,this]
 rfl
end
end
section
theorem Cap.ren_id(c:Cap):c.ren (fun b=>b)=c:=by cases c<;>rfl
theorem G1(l:List Cap):l.map (Cap.ren fun b=>b)=l:=by
 induction l with
 | nil=>rfl
 | cons c l ih=>rw[List.map_cons,ih,Cap.ren_id]
theorem IV.ren_id(x:IV):x.ren (fun b=>b) (fun r=>r)=x:=by
 induction x with
 | opt g x ih=>unfold IV.ren;rw[ih]
 | clo fn fs cs=>unfold IV.ren;rw[G1,G1]
 | _=>rfl
theorem DI(l:List IV):l.map (·.ren (fun b=>b) (fun r=>r))=l:=by
 induction l with
 | nil=>rfl
 | cons c l ih=>rw[List.map_cons,ih,IV.ren_id]
theorem M0(B:BL):GE (fun b=>b) (fun r=>r) B=B:=by
 unfold GE
 induction B with
 | nil=>rfl
 | cons x B ih=>rw[List.map_cons,ih,DI]
theorem L5(R:RL):HF (fun r=>r) R=R:=by
 unfold HF
 induction R with
 | nil=>rfl
 | cons x B ih=>rw[List.map_cons,ih]
def LentI(B:BL)(R:RL)(B0:BL)(R0:RL):Prop:=(∀ b x,lk b B0=some x->lk b B=some x) /\ ∀ r x,lk r R0=some x->lk r R=some x
theorem LentI.lent{B:BL}{R:RL}{B0:BL}{R0:RL}(h:LentI B R B0 R0):Lent B R (fun b=>b) (fun r=>r) B0 R0:=⟨fun b x hx=>by rw[DI];exact h.1 b x hx,h.2,fun _ _ _ _ e=>e,fun _ _ _ _ e=>e⟩
def LentB(B:BL):BL->Prop
 | []=>True
 | (b,x)::l=>lk b B=some x/\LentB B l
def LentR(R:RL):RL->Prop
 | []=>True
 | (r,x)::l=>lk r R=some x/\LentR R l
theorem LentB.get{B:BL}:∀ {B0:BL} (_:LentB B B0) {b:Nat} {x:Bx},lk b B0=some x->lk b B=some x
 | (c,y)::l,h,b,x,hx=>by
  rcases AB hx with⟨rfl,rfl⟩ | ⟨_,hx⟩
  ·exact h.1
  ·exact LentB.get h.2 hx
 | [],_,_,_,hx=>by cases hx
theorem LentR.get{R:RL}:∀ {R0:RL} (_:LentR R R0) {b:Nat} {x:Rw},lk b R0=some x->lk b R=some x
 | (c,y)::l,h,b,x,hx=>by
  rcases AB hx with⟨rfl,rfl⟩ | ⟨_,hx⟩
  ·exact h.1
  ·exact LentR.get h.2 hx
 | [],_,_,_,hx=>by cases hx
section
variable{P:Program}{cx:Cx}{T:TL}{B:BL}{R:RL}{o:Oper}
def PG(B0:BL)(R0:RL)(y:IV)(B1:BL)(R1:RL):Prop:=names B1=names B0/\names R1=names R0/\PV (names B0) (names R0) B1=true/\y.bin (names B0) (names R0)=true
theorem BN{ops:Array Oper}{Q:Exit->Act->World->Prop}{l:List Oper}{d:Nat}{f:FuncId}{xs:List Operand}{ts:Array TypeId}{ys:List IV}{B0:BL}{R0:RL}{Y:IV->BL->RL->Prop}(hg:o.guard=none)(hd:o.dst=some d)(hn:Nat.blt d cx.n=true)(ho:o.op=.call { callee:=.value (.func f),args:=xs.toArray,argTypes:=ts })(hc:C3 P f=true)
  (hf:EG P cx.gl f ys B0 R0 Y) (hB:LentB B B0) (hR:LentR R R0) (hx:KnX T xs ys) (hY:∀ y B1 R1,Y y B1 R1->PG B0 R0 y B1 R1)
  (hE:∀ y B1 R1,Y y B1 R1->E cx ((d,y)::FY (names R0) T) (B1++CZ (names R0) B) (R1++R) (wpList P ops Q l)):E cx T B R (wpList P ops Q (o::l)):=
 Q9 (fun b=>b) (fun r=>r) hg hd hn ho hc (LentI.lent ⟨fun _ _ h=>hB.get h,fun _ _ h=>hR.get h⟩) (by rw[DI];exact hx) hf hY fun y B1 R1 hy=>by
  rw[IV.ren_id,M0,L5,List.map_id']
  exact hE y B1 R1 hy
theorem KO(w:World)(D:Nat->Prop)(cs:List Value):Fits w D (cs.map .cell) cs:=by
 induction cs with
 | nil=>exact Fits.nil _ _
 | cons c cs ih=>exact .cons (.cell c) ih
end
end
section
def off(d:Nat):TL->TL
 | []=>[]
 | (j,x)::l=>bif Nat.beq j d then off d l else(j,x)::off d l
section
variable{P:Program}{cx:Cx}{T T' T2:TL}{B:BL}{R:RL}
end
end
section
section
variable{P:Program}{cx:Cx}{T:TL}{B:BL}{R:RL}
theorem QI{o:Oper}{a:Act}{w:World}{K:Act->World->Prop}{Q:Exit->Act->World->Prop}(h:o.wp P a w K (Exit.then K Q)):o.wp P a w K Q:=by
 unfold Oper.wp at *
 generalize(execOp a.eval o).run P w=r at *
 cases r with
 | ok n w'=>
  cases n<;>simp only[Oper.upon]at h ⊢ <;> first | exact h | exact Calls.mono h (fun e w'' he=>by cases e<;>exact he) | exact Rows.mono h (fun _ _ he=>he)
 | halt x w'=>cases x<;>simp only[Oper.upon]at h ⊢ <;> exact h
theorem KG{ops:Array Oper}{Q:Exit->Act->World->Prop}{K:Act->World->Prop}{o:Oper}{i:Nat}{a:Act}{w:World}(hi:ops[i]?=some o)(hl:LetsOut (Exit.then K Q)->LetsOut Q)(h:wpList P ops (Exit.then K Q) [o] a w):wpOp P ops Q i K a w:=by
 unfold wpOp
 simp only[hi]
 simp only[wpList]at h
 split
 ·rename_i hw
  rw[if_pos hw]at h
  exact h.imp (fun h=>QI h) (fun h=>⟨h.1,hl h.2⟩)
 ·rename_i hw
  rw[if_neg hw]at h
  exact h
end
end
section
section
variable{P:Program}{cx:Cx}{T:TL}{B:BL}{R:RL}
def LentBr(ρ σ:Nat->Nat)(B:BL):BL->Prop
 | []=>True
 | (b,x)::l=>lk (ρ b) B=some ⟨x.ty,x.cs.map (·.ren ρ σ)⟩/\LentBr ρ σ B l
def LentRr(σ:Nat->Nat)(R:RL):RL->Prop
 | []=>True
 | (r,x)::l=>lk (σ r) R=some x/\LentRr σ R l
theorem LentBr.get{ρ σ:Nat->Nat}:∀ {B0:BL} (_:LentBr ρ σ B B0) {b:Nat} {x:Bx},lk b B0=some x->lk (ρ b) B=some ⟨x.ty,x.cs.map (·.ren ρ σ)⟩
 | (c,y)::l,h,b,x,hx=>by
  rcases AB hx with⟨rfl,rfl⟩ | ⟨_,hx⟩
  ·exact h.1
  ·exact LentBr.get h.2 hx
 | [],_,_,_,hx=>by cases hx
theorem LentRr.get{σ:Nat->Nat}:∀ {R0:RL} (_:LentRr σ R R0) {b:Nat} {x:Rw},lk b R0=some x->lk (σ b) R=some x
 | (c,y)::l,h,b,x,hx=>by
  rcases AB hx with⟨rfl,rfl⟩ | ⟨_,hx⟩
  ·exact h.1
  ·exact LentRr.get h.2 hx
 | [],_,_,_,hx=>by cases hx
end
end
section
section
variable{P:Program}{cx:Cx}{T:TL}{B:BL}{R:RL}{M:Nat->Nat}{V:Nat->Value}{o:Oper}
theorem EFx.more{gls gls':List (Nat×List Value)}{f:FuncId}{ps:List Part}{Y:IV->Prop}(h:EFx P gls f ps Y)(hs:∀ x,x∈gls->x∈gls'):EFx P gls' f ps Y:=fun w D vs hD hG hp=>h w D vs hD (fun g cs hg=>hG g cs (hs _ hg)) hp
end
end
section
section
variable{P:Program}{cx:Cx}{T:TL}{B:BL}{R:RL}{M:Nat->Nat}{V:Nat->Value}
theorem Rel.own_new{a:Act}{w w':World}(hrel:Rel cx T B R M V a w)(hb:Below w.heap.size w w'){ty k n:Nat}{v:Value}{cs:List Value}(hown:w'.ownsRow w.heap.size ty k v n cs)(r:Nat)(hT:IM r T=true)(hB:IT r B=true)(hty:Nat.blt ty 1000000=true):∃ V',V' r=v/\Rel cx T B ((r,⟨ty,k,n,cs.map .cell,false⟩)::R) M V' a w':=by
 have hh:=hrel.heap
 have hlt:∀ g,obk v=some g->w.heap.size<=g/\g<w'.heap.size:=fun g hg=>hown.lt g ((CB hown).symm.trans hg)
 have hown0:w'.ownsRow 0 ty k v n cs:=by
  refine⟨hown.1,?_⟩
  rcases hown.2 with h | ⟨g,cap,cur,h1,_,h3⟩
  ·exact .inl h
  ·exact .inr ⟨g,cap,cur,h1,Nat.zero_le _,h3⟩
 exact hrel.newrow (z':=⟨ty,k,n,cs.map .cell,false⟩) hb rfl (fun g hg=>hlt g (EC hg (BV hty))) (fun D' _=>⟨cs,.inl ⟨hty,hown0⟩,.inl ⟨BV hty,KO _ _ _⟩⟩) r hT hB
end
end
end Go.Proofs.Ytmhhdoaiccahaaa
